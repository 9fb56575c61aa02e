/-
  Its own texts.
-/
import Derived.Test.YtgmnknmjainabacGreatI21
set_option maxRecDepth 100000
set_option maxHeartbeats 40000000
set_option linter.unnecessarySimpa false
set_option linter.unusedSimpArgs false
set_option linter.unusedVariables false
namespace Go.Proofs.YtgmnknmjainabacGreat
open Go.RowKit
attribute [local go_sem ↓] Go.wp_at_zero Go.wp_at_succ
open Ex
theorem zS7 (L:Rat->Nat->Rat) (hL:Lns L) (w:World) (x y:Nm) (p q r s n d:Int) (b:Nat) (X1 X2 X3:Nat->Rat) (hx:IntAt w x.neg x.a x.n x.cap 4 n) (hy:IntAt w y.neg y.a y.n y.cap 4 d) (h:zK3 p q r s n d b) (hX:IsLog (λ M=>X1 M+X2 M-X3 M) (bJ L ((p:Rat)/(q:Rat)) ((r:Rat)/(s:Rat)))) (L1:zK6 p q b X1) (L2:zK6 r s b X2) (L3:zK6 (p*s+r*q) (q*s) b X3) :
  Calls Tryz.prog 160 #[.agg x.q,.agg y.q,.agg #[.int .i64 p,.int .i64 q],.agg #[.int .i64 r,.int .i64 s],.int .i64 b] w (λ z w'=>∃ lo hi,LwPr (bv L ((p:Rat)/(q:Rat)) ((r:Rat)/(s:Rat)) ((n:Rat)/(d:Rat))) b lo hi/\zH w b 30 lo hi z w'):=by
 obtain⟨W,hW⟩:∃ W,W=((((w.alloc (.cells x.q 29)).alloc (.cells y.q 29)).alloc (.cells #[.int .i64 p,.int .i64 q] 23)).alloc (.cells #[.int .i64 r,.int .i64 s] 23)).alloc (.cells zCq 31):=⟨_,rfl⟩;have j7:Below w.heap.size w W:=by rw[hW];exact bl5 _ _ _ _ _ _
 have X0:NmC W (w.heap.size) x:=by rw[hW];constructor<;>simp[go_sem]
 have Y0:NmC W (w.heap.size+1) y:=by rw[hW];constructor<;>simp[go_sem]
 have A:RaC W (w.heap.size+1+1) p q:=by rw[hW];constructor<;>simp[go_sem]
 have D:RaC W (w.heap.size+1+1+1) r s:=by rw[hW];constructor<;>simp[go_sem]
 have R:NoC W (w.heap.size+1+1+1+1):=by rw[hW];constructor<;>simp[go_sem]
 have HX:=zC (hx.bw j7);have HY:=zC (hy.bw j7);have se:=X0.c0;have sf:=X0.c1;have Ja:=Y0.c0;have Jb:=Y0.c1;clear hx hy;have Ge:=h.p0;have fp:=h.q0;have AO:=h.r0;have Gf:=h.s0;have Lh:=h.n0;have nd:=h.nd;have dd:=h.dd;have b0:=h.b0;have b1:=h.b1;have qq:=h.qq;have ss:=h.ss;have pb:p<=204800:=by have:=h.pq;omega
 have rb:r<=204800:=by have:=h.rs;omega
 have Bj:=zC (show -P 4<d-n/\d-n<P 4 by
  have:P 4=18446744073709551616:=rfl
  exact⟨by omega,by omega⟩)
 obtain⟨c,hc,E7⟩:∃ c:Int,zM n (d-n)=c/\c<=0:=⟨_,rfl,by unfold zM;split<;>(try split)<;>omega⟩
 have HC:=zC hc;have AZ:=zC (show zM n 0=1 by unfold zM;rw[if_neg (by omega),if_pos (by omega)])
 have H:=zC h;have HL:=zC hL;have Vw:=zC hX;have TG:=zC L1;have TH:=zC L2;have TI:=zC L3;obtain⟨NS,nt,Z1⟩:=pu_set h
 have PK:Q 1621<P 103:=by
  rw[<- Q_P];have h1:=zJ (show 1621+1<=16*103 by omega)
  have g2:∀ j,Q (j+1)=2*Q j:=λ _=>rfl
  rw[g2] at h1;have:=zE 1621;generalize Q 1621=z at *;omega
 have pg:=zC (show -P 103<Q b/\Q b<P 103 by
  have:=zE b;have:=zJ (show b<=1621 by omega)
  have:=yT 103
  exact⟨by omega,by omega⟩)
 have bc:=zC (show ∀ j,j<=NS -> -P 103<(puT p q r s n d b j).1/\(puT p q r s n d b j).2<P 103 from λ j _=>by
  have e:0<=(puT p q r s n d b j).1:=(yZ (zIU h) j).1;have u:=pu_hi h j;have:=yT 103
  exact⟨by omega,by omega⟩)
 have fI:=zC (show ∀ j,j<=NS -> -P 103<(jE (puT p q r s n d b) j).1/\(jE (puT p q r s n d b) j).2<P 103 from λ j hj=>by
  have u:=pu_fit h j (by omega)
  have l:Q b<=(jE (puT p q r s n d b) j).1:=(zFQ (zIU h) j).2.2;have:=zE b;have:=yT 103
  exact⟨by omega,by omega⟩)
 have fG:=zC (λ j=>show (puT p q r s n d b j).1<=(puT p q r s n d b j).2 from (yZ (zIU h) j).2)
 have Y8:=zC (λ j=>show 0<=(puT p q r s n d b j).1 from (yZ (zIU h) j).1)
 have HM:=zC Z1;have Yi:=(pu_n h).2;have PR:=(pu_n h).1;have P5:=zC (show IntKind.i64.wrap (2*r)=2*r from jB _ (by omega) (by omega))
 have tdv:(2*r).tdiv s=(puN r s:Int):=by rw[PR];exact Int.tdiv_eq_ediv_of_nonneg (by omega)
 have Y7:=zC (show (2*r).tdiv s=(puN r s:Int) from tdv)
 have cR:=zC (show IntKind.i64.wrap (puN r s:Int)=(puN r s:Int) from jB _ (by omega) (by omega))
 have nX:=zC (show ∀ j:Nat,j<NS->(0<=((j:Int)+1-1)*(q*s)/\((j:Int)+1-1)*(q*s)<=1152921504606846976)/\(0<=(p*s+r*q)/\(p*s+r*q)<=1152921504606846976)/\(0<=((j:Int)+1)*q/\((j:Int)+1)*q<=1152921504606846976)/\0<(p+((j:Int)+1)*q)*s/\(p+((j:Int)+1)*q)*s<=1152921504606846976 from λ j hj=>by
  have m1:=zEV qq ss (by omega) (by omega)
  have m2:=zEV pb ss (by omega) (by omega)
  have m3:=zEV rb qq (by omega) (by omega)
  have k1:=YF (show 0<=q by omega) (show 0<=s by omega)
  have k2:=YF (show 0<=p by omega) (show 0<=s by omega)
  have k3:=YF (show 0<=r by omega) (show 0<=q by omega)
  have m4:=zEV (show (j:Int)+1-1<=5100 by omega) (show (q*s)<=4194304 by omega) k1 (by omega)
  have k4:=YF (show 0<=(j:Int)+1-1 by omega) k1
  have m5:=zEV (show (j:Int)+1<=5101 by omega) qq (by omega) (by omega)
  have k5:=YF (show 0<=(j:Int)+1 by omega) (show 0<=q by omega)
  have m6:=zEV (show p+((j:Int)+1)*q<=20000000 by omega) ss (by omega) (by omega)
  exact⟨⟨k4,by omega⟩,⟨by omega,by omega⟩,⟨k5,by omega⟩,Int.mul_pos (by omega) Gf,by omega⟩)
 clear h hL hX L1 L2 L3 Z1 PK hc tdv PR
 go_enter Tryz.func160,Tryz.ntmps160
 go_upto_region 1 with fail
 rw[<- hW];clear hW;go_wp2_with fail;clear se sf Ja Jb;refine (zBI _ _ _ _ _ _ _ _ 4 4 d n _ (zA HY) (zA HX) (by omega) (by omega)).mono ?_
 rintro z0 w0 ⟨negL,aL,nL,cL,rfl,CE,E8⟩;obtain⟨VL,ot⟩:∃ V,V=w0.alloc (.cells #[.bool negL,.slice aL nL cL] 29):=⟨_,rfl⟩;have bVL:Below w0.heap.size w0 VL:=by rw[ot];exact bl1 _ _
 have L0:NmC VL w0.heap.size (⟨negL,aL,nL,cL⟩:Nm):=by rw[ot];constructor<;>simp[go_sem]
 have aZ:=zC ((CE.fits (K:=4) (zA Bj).1 (zA Bj).2).bw bVL);have hbL:=zB E8 bVL;have kL:w.heap.size+1+1+1+1<w0.heap.size:=YH R.lt E8.size;replace A:=A.bw hbL;replace D:=D.bw hbL;replace X0:=X0.bw hbL;replace Y0:=Y0.bw hbL;replace R:=R.bw hbL;replace HX:=zC ((zA HX).bw hbL);replace HY:=zC ((zA HY).bw hbL);replace j7:=zB j7 hbL;clear hbL E8 bVL CE;obtain⟨iN,iO⟩:=X0;obtain⟨sj,sk⟩:=L0;have lX:=NmC.lt ⟨iN,iO⟩;have lL:=NmC.lt ⟨sj,sk⟩
 go_upto_region 2 with fail
 rw[<- ot];clear ot;go_wp2_with fail;have X0:NmC VL (w.heap.size) x:=⟨iN,iO⟩;have L0:NmC VL w0.heap.size (⟨negL,aL,nL,cL⟩:Nm):=⟨sj,sk⟩;clear iN iO sj sk lX lL;refine (jO _ _ _ _ _ _ _ _ 4 4 n (d-n) _ (zA HX) (zA aZ)).mono ?_;rintro z1 w1 ⟨rfl,b9⟩;rw[zA HC];replace A:=A.bw b9;replace D:=D.bw b9;replace X0:=X0.bw b9;replace Y0:=Y0.bw b9;replace R:=R.bw b9;replace L0:=L0.bw b9;replace HX:=zC ((zA HX).bw b9);replace HY:=zC ((zA HY).bw b9);replace aZ:=zC ((zA aZ).bw b9);replace j7:=zB j7 b9;clear b9;obtain⟨iN,iO⟩:=X0;have lX:=NmC.lt ⟨iN,iO⟩;go_wp2_with fail;have X0:NmC w1 (w.heap.size) x:=⟨iN,iO⟩;clear iN iO lX;refine (zBS _ _ _ _ _ n _ (zA HX)).mono ?_;rintro z2 w2 ⟨rfl,j8⟩;rw[zA AZ];replace A:=A.bw j8;replace D:=D.bw j8;replace X0:=X0.bw j8;replace Y0:=Y0.bw j8;replace R:=R.bw j8;replace L0:=L0.bw j8;replace HX:=zC ((zA HX).bw j8);replace HY:=zC ((zA HY).bw j8)
 replace aZ:=zC ((zA aZ).bw j8);replace j7:=zB j7 j8;clear j8;have aa:=A.c0;have ab:=A.c1;have da:=D.c0;have db:=D.c1;have lA:=A.lt;have lD:=D.lt;go_wp2_with fail;clear aa ab da db lA lD;refine (zKO _ p q r s ⟨by omega,by omega,by omega,by omega⟩ ⟨by omega,by omega,by omega,by omega⟩).mono ?_
 rintro z3 w3 ⟨rfl,m9⟩;obtain⟨VE,Fy⟩:∃ V,V=w3.alloc (.cells #[.int .i64 (p*s+r*q),.int .i64 (q*s)] 23):=⟨_,rfl⟩;have bVE:Below w3.heap.size w3 VE:=by rw[Fy];exact bl1 _ _
 have E0:RaC VE w3.heap.size (p*s+r*q) (q*s):=by rw[Fy];exact zL1 w3 _ _ _
 have hbE:=zB m9 bVE;have kE:w.heap.size+1+1+1+1<w3.heap.size:=YH R.lt m9.size;replace A:=A.bw hbE;replace D:=D.bw hbE;replace X0:=X0.bw hbE;replace Y0:=Y0.bw hbE;replace R:=R.bw hbE;replace L0:=L0.bw hbE;replace HX:=zC ((zA HX).bw hbE);replace HY:=zC ((zA HY).bw hbE);replace aZ:=zC ((zA aZ).bw hbE);replace j7:=zB j7 hbE;clear hbE m9 bVE;have lA:=A.lt;have lD:=D.lt;have AJ:=X0.lt;have AK:=Y0.lt;have lR:=R.lt;have AH:=L0.lt;have AG:=E0.lt;have gX:=zC (show ∀ w',Below VE.heap.size VE w'->(rK w' (w.heap.size+1+1) p q (rK w' (w.heap.size+1+1+1) r s (nK w' w.heap.size x (nK w' (w.heap.size+1) y (nK w' w0.heap.size (⟨negL,aL,nL,cL⟩:Nm) (w'.cell? ⟨w3.heap.size,0,none⟩=some (.int .i64 (p*s+r*q))/\w'.cell? ⟨w3.heap.size,1,none⟩=some (.int .i64 (q*s)))))))) from λ w' hB=>⟨(A.bw hB).c0,(A.bw hB).c1,(D.bw hB).c0,(D.bw hB).c1,(X0.bw hB).c0,(X0.bw hB).c1,(Y0.bw hB).c0,(Y0.bw hB).c1,(L0.bw hB).c0,(L0.bw hB).c1,(E0.bw hB).c0,(E0.bw hB).c1⟩)
 have cg:=zC (show ∀ W',Below VE.heap.size VE W'->∀ (j:Nat) (u:Sp) w',j<NS->u.bits=(b:Int)->SpAt w' u 103 (puT p q r s n d b j).1 (puT p q r s n d b j).2->Below W'.heap.size W' w'->Calls Tryz.prog 187 #[.agg u.q,.int .i64 ((j:Int)+1),.pointer (some ⟨w3.heap.size,0,none⟩),.pointer (some ⟨w.heap.size+1+1,0,none⟩),.pointer (some ⟨w.heap.size+1+1+1,0,none⟩),.pointer (some ⟨w.heap.size,0,none⟩),.pointer (some ⟨w.heap.size+1,0,none⟩)] w' (zH w' b 121 (puT p q r s n d b (j+1)).1 (puT p q r s n d b (j+1)).2) from λ W' tx j u w' hj B8 B7 O7=>by
  have M8:=zB tx O7;obtain⟨⟨s1,s2⟩,⟨s3,s4⟩,⟨s5,s6⟩,s7,s8⟩:=zA nX j hj;have e:=pt1_iv w' (w3.heap.size) (w.heap.size+1+1) (w.heap.size+1+1+1) (w.heap.size) (w.heap.size+1) u x y 103 b ((j:Int)+1) (puT p q r s n d b j) (p*s+r*q) (q*s) p q r s n d B7 ((zA HX).bw M8) ((zA HY).bw M8) (E0.bw M8) (A.bw M8) (D.bw M8) (X0.bw M8) (Y0.bw M8) (by omega) B8 (by omega) (by omega) s1 s2 s3 s4 s5 s6 Ge (by omega) s7 s8 (by omega)
  have e1:((j:Int)+1-1)=(j:Int):=by omega
  have ec:((j+1:Nat):Int)=(j:Int)+1:=by omega
  have e2:puT p q r s n d b (j+1)=zK (puT p q r s n d b j) (puU p q r s n (j+1)) (puD p q s d (j+1)):=rfl;rw[e1] at e;rw[e2,pu_k];unfold puD;rw[ec]
  exact e)
 have hs1:¬ s=0:=by omega
 have X6:¬ s = -1:=by omega
 go_wp2_with fail;rw[<- Fy];clear Fy
 go_cut [13] (λ pz wx=>∃ (B:Nat) (u:Sp),pz=.pointer (some ⟨B,0,none⟩)/\VE.heap.size<=B/\VrC wx B u/\SpAt wx u 106 ((zA3 p q r s n d b NS)).1 ((zA3 p q r s n d b NS)).2/\u.bits=(b:Int)/\Below VE.heap.size VE wx)
 case first =>
  go_region_held3 (λ w'=>rK w' (w.heap.size+1+1) p q (rK w' (w.heap.size+1+1+1) r s (nK w' w.heap.size x (nK w' (w.heap.size+1) y (nK w' w0.heap.size (⟨negL,aL,nL,cL⟩:Nm) (w'.cell? ⟨w3.heap.size,0,none⟩=some (.int .i64 (p*s+r*q))/\w'.cell? ⟨w3.heap.size,1,none⟩=some (.int .i64 (q*s)))))))) (exact zA gX _ (by repeat' (first|with_reducible exact K8|with_reducible exact H6|with_reducible exact Below.refl _ _|with_reducible refine Below.drew ?_|with_reducible refine zL ?_ _|with_reducible refine Below.setCell ?_ (by first|exact YE _|exact M4|exact R7) _)))
   (first
    | (go_at_call 182;(try rw[zA P5]);(try rw[zA Y7]);(try rw[zA cR]);have hq:=H6;refine (zEJ _ #[.pointer (some ⟨w3.heap.size,0,none⟩),.pointer (some ⟨w.heap.size+1+1,0,none⟩),.pointer (some ⟨w.heap.size+1+1+1,0,none⟩),.pointer (some ⟨w.heap.size,0,none⟩),.pointer (some ⟨w.heap.size+1,0,none⟩)] en_pt (puT p q r s n d b) (puN r s) NS b 103 121 AQ _ ((zA mS).bw (by with_reducible first|exact Below.refl _ _|exact bl1 _ _)) (zA cn) (by omega) (by omega) (by omega) (by omega) (zA HM) (by omega) (by omega) (zA fG) (zA Y8) (zA bc) (zA fI) (zA cg _ (by with_reducible first|exact H6|exact zL H6 _))).mono ?_;rintro r fq ⟨El,rfl,cM,W8,Q5⟩;have iG:=zC cM;clear cM;have W7:Below aM.heap.size aM fq:=(by with_reducible first|exact Q5|exact zB (bl1 _ _) Q5);have K8:=zB H6 W7;(try with_reducible have ct:=(zQ aM 31).bw Q5);(try replace T9:=T9.bw W7);have R7:=K8.size;(try have iA:=T9.lt);(try have IF:=YJ iA);(try have rW:=YI iA);(try obtain⟨bZ,cf,fw,fA,fB,ya⟩:=T9);(try have oN:=ct.lt);(try have PS:=YJ oN);(try have Cf:=YI oN);(try obtain⟨fC,fD,mK,mL,mM,En⟩:=ct))
    | (go_at_call 93;refine (zDD _ b (by omega)).mono ?_;rintro r' aM ⟨AQ,rfl,Y6,J3,L9⟩;rw[show 1*Q b/1=Q b by rw[Int.ediv_one,Int.one_mul],show -(-(1*Q b)/1)=Q b by rw[Int.ediv_one,Int.one_mul,Int.neg_neg]] at J3;have cn:=zC Y6;have mS:=zC (J3.fits (K:=103) (Int.le_refl _) (zA pg).1 (zA pg).2);clear Y6 J3;have H6:Below VE.heap.size VE aM:=(by with_reducible first|exact zB (Below.refl _ _).drew L9|exact zB (bl1 _ _).drew L9);(try with_reducible have T9:=((zQ VE 31).bw (Below.refl _ _).drew).bw L9);have M4:=H6.size))
  all_goals
   have hfinS:SpAt fq El 106 ((zA3 p q r s n d b NS)).1 ((zA3 p q r s n d b NS)).2:=W8;go_wp2_with fail;go_meet;refine⟨_,El,rfl,?_,⟨⟨?_,?_,?_,?_,?_⟩,?_⟩,?_,zA iG,?_⟩
   ·first|exact YE _|exact M4|exact R7
   ·simp[go_sem, *]
   ·simp[go_sem, *]
   ·simp[go_sem, *]
   ·simp[go_sem, *]
   ·simp[go_sem, *]
   ·intro o;simp[go_sem, *]
   ·first|with_reducible exact SpAt.put5 hfinS fC fD mK mL mM _ _ _ _ _|with_reducible exact SpAt.put5 hfinS bZ cf fw fA fB _ _ _ _ _|with_reducible exact hfinS.bw (bl1 _ _)
   ·repeat' (first|with_reducible exact K8|with_reducible exact H6|with_reducible exact Below.refl _ _|with_reducible refine Below.drew ?_|with_reducible refine zL ?_ _|with_reducible refine Below.setCell ?_ (by first|exact YE _|exact M4|exact R7) _)
 case rest =>
 obtain⟨BS,xS,rfl,tj,XS,hpS,hxbS,hblS⟩:=hcut;obtain⟨V7,CC⟩:∃ V,V=wc:=⟨_,rfl⟩;subst CC;have kS:=YH lR tj;replace A:=A.bw hblS;replace D:=D.bw hblS;replace X0:=X0.bw hblS;replace Y0:=Y0.bw hblS;replace R:=R.bw hblS;replace L0:=L0.bw hblS;replace E0:=E0.bw hblS;replace HX:=zC ((zA HX).bw hblS);replace HY:=zC ((zA HY).bw hblS);replace aZ:=zC ((zA aZ).bw hblS);replace j7:=zB j7 hblS;have iC:=zC hpS;have cY:=zC hxbS;have XSC:=XS.c;clear hpS hxbS XS gX cg fG Y8 bc fI P5 Y7 cR nX hs1 X6 lA lD AJ AK lR AH AG tj;have lA:=A.lt;have lD:=D.lt;have AJ:=X0.lt;have AK:=Y0.lt;have lR:=R.lt;have AH:=L0.lt;have AG:=E0.lt;have lS:=XSC.lt;have fE:=zC (show ∀ w',Below V7.heap.size V7 w'->(rK w' (w.heap.size+1+1) p q (rK w' (w.heap.size+1+1+1) r s (nK w' w.heap.size x (nK w' (w.heap.size+1) y (nK w' w0.heap.size (⟨negL,aL,nL,cL⟩:Nm) (w'.cell? ⟨w3.heap.size,0,none⟩=some (.int .i64 (p*s+r*q))/\w'.cell? ⟨w3.heap.size,1,none⟩=some (.int .i64 (q*s))/\cK0 w' BS xS)))))) from λ w' hB=>⟨(A.bw hB).c0,(A.bw hB).c1,(D.bw hB).c0,(D.bw hB).c1,(X0.bw hB).c0,(X0.bw hB).c1,(Y0.bw hB).c0,(Y0.bw hB).c1,(L0.bw hB).c0,(L0.bw hB).c1,(E0.bw hB).c0,(E0.bw hB).c1,(XSC.bw hB).c0,(XSC.bw hB).c1,(XSC.bw hB).c2,(XSC.bw hB).c3,(XSC.bw hB).c4⟩)
 go_wp2_with fail
 go_cut [14] (λ pz wx=>∃ (B:Nat) (u:Sp) (o1 o2 o3 o4:Int),pz=.pointer (some ⟨B,0,none⟩)/\zCJ L ((d:Rat)/(n:Rat)) b (o1,o2)/\zCJ L ((d:Rat)/((d-n:Int):Rat)) b (o3,o4)/\V7.heap.size<=B/\VrC wx B u/\SpAt wx u 535 (zB5 (zK (o1,o2) p q) (zK (o3,o4) r s)).1 (zB5 (zK (o1,o2) p q) (zK (o3,o4) r s)).2/\u.bits=(b:Int)/\Below V7.heap.size V7 wx)
 case first =>
  go_region_held3 (λ w'=>rK w' (w.heap.size+1+1) p q (rK w' (w.heap.size+1+1+1) r s (nK w' w.heap.size x (nK w' (w.heap.size+1) y (nK w' w0.heap.size (⟨negL,aL,nL,cL⟩:Nm) (w'.cell? ⟨w3.heap.size,0,none⟩=some (.int .i64 (p*s+r*q))/\w'.cell? ⟨w3.heap.size,1,none⟩=some (.int .i64 (q*s))/\cK0 w' BS xS)))))) (exact zA fE _ (by repeat' (first|with_reducible exact sM|with_reducible exact bj|with_reducible exact ai|with_reducible exact P9|with_reducible exact P8|with_reducible exact Below.refl _ _|with_reducible refine Below.drew ?_|with_reducible refine zL ?_ _|with_reducible refine Below.setCell ?_ (by first|exact YE _|exact eM|exact eO|exact eQ|exact eV|exact wo) _)))
   (first
    | (go_at_call 51;have hq:=bj;refine (zCZ _ Ly Gg 534 b (zK (o1,o2) p q) (zK (o3,o4) r s) ((bI.bw (by with_reducible first|exact Below.refl _ _|exact bl1 _ _)).mono (by omega)) ((kp.bw (by with_reducible first|exact Below.refl _ _|exact bl1 _ _)).mono (by omega)) (by omega) (zA iF)).mono ?_;rintro r SZ ⟨SJ,rfl,qN,JB,tY⟩;have Bv:=zC qN;clear qN;have dD:Below xg.heap.size xg SZ:=(by with_reducible first|exact tY|exact zB (bl1 _ _) tY);have sM:=zB bj dD;(try with_reducible have Qc:=(zQ xg 31).bw tY);(try replace bg:=bg.bw dD);replace bI:=bI.bw dD;(try replace cZ:=cZ.bw dD);(try replace iP:=iP.bw dD);replace kp:=kp.bw dD;(try replace sz:=sz.bw dD);have wo:=sM.size;(try have DK:=bg.lt);(try have WW:=YJ DK);(try have IB:=YI DK);(try obtain⟨xk,xl,xm,xn,xo,Na⟩:=bg);(try have DL:=cZ.lt);(try have Fb:=YJ DL);(try have IC:=YI DL);(try obtain⟨xq,xw,xA,xB,xC,Nb⟩:=cZ);(try have DM:=iP.lt);(try have WX:=YJ DM);(try have ID:=YI DM);(try obtain⟨xD,xI,xJ,xK,xN,Nc⟩:=iP);(try have DN:=sz.lt);(try have WY:=YJ DN);(try have IE:=YI DN);(try obtain⟨xQ,xR,xT,xV,xW,Nd⟩:=sz);(try have RW:=Qc.lt);(try have eP5:=YJ RW);(try have WZ:=YI RW);(try obtain⟨Nf,Ng,Nh,Ni,Nj,zP55⟩:=Qc))
    | (go_at_call 184;have hq:=ai;refine (zCX _ Lz 520 b (o3,o4) r s (ko.bw (by with_reducible first|exact Below.refl _ _|exact bl1 _ _)) (by omega) (zA pj) (by omega) (by omega) Gf (by omega)).mono ?_;rintro r xg ⟨Gg,rfl,cJ,kp,dS⟩;have pk:=zC cJ;clear cJ;have Z0:Below oT.heap.size oT xg:=(by with_reducible first|exact dS|exact zB (bl1 _ _) dS);have bj:=zB ai Z0;(try with_reducible have sz:=(zQ oT 31).bw dS);(try replace bg:=bg.bw Z0);replace bI:=bI.bw Z0;(try replace cZ:=cZ.bw Z0);(try replace iP:=iP.bw Z0);have eV:=bj.size)
    | (go_at_call 125;have hq:=P9;refine (zEY L (zA HL) _ y (⟨negL,aL,nL,cL⟩:Nm) b d (d-n) ((zA HY).bw (by with_reducible first|exact P9|exact zL P9 _)) ((zA aZ).bw (by with_reducible first|exact P9|exact zL P9 _)) (by omega) (by omega) b0 b1).mono ?_;rintro r' oT ⟨o3,o4,mf,Lz,rfl,cH,ko,dR⟩;have pj:=zC cH;have BQ:=zC mf;clear cH mf;have bx:Below oR.heap.size oR oT:=(by with_reducible first|exact dR|exact zB (bl1 _ _) dR);have ai:=zB P9 bx;(try with_reducible have iP:=(zQ oR 31).bw dR);(try replace bg:=bg.bw bx);replace bI:=bI.bw bx;(try replace cZ:=cZ.bw bx);have eQ:=ai.size)
    | (go_at_call 184;have hq:=P8;refine (zCX _ Lx 520 b (o1,o2) p q (bG.bw (by with_reducible first|exact Below.refl _ _|exact bl1 _ _)) (by omega) (zA iE) (by omega) (by omega) fp (by omega)).mono ?_;rintro r oR ⟨Ly,rfl,cG,bI,dQ⟩;have iF:=zC cG;clear cG;have gx:Below oQ.heap.size oQ oR:=(by with_reducible first|exact dQ|exact zB (bl1 _ _) dQ);have P9:=zB P8 gx;(try with_reducible have cZ:=(zQ oQ 31).bw dQ);(try replace bg:=bg.bw gx);have eO:=P9.size)
    | (go_at_call 125;refine (zEY L (zA HL) _ y x b d n ((zA HY).bw (by with_reducible first|exact (Below.refl _ _).drew|exact (bl1 _ _).drew)) ((zA HX).bw (by with_reducible first|exact (Below.refl _ _).drew|exact (bl1 _ _).drew)) (by omega) Lh b0 b1).mono ?_;rintro r' oQ ⟨o1,o2,mb,Lx,rfl,cF,bG,dP⟩;have iE:=zC cF;have BN:=zC mb;clear cF mb;have P8:Below V7.heap.size V7 oQ:=(by with_reducible first|exact zB (Below.refl _ _).drew dP|exact zB (bl1 _ _).drew dP);(try with_reducible have bg:=((zQ V7 31).bw (Below.refl _ _).drew).bw dP);have eM:=P8.size))
  all_goals
   have hfinP:SpAt SZ SJ 535 (zB5 (zK (o1,o2) p q) (zK (o3,o4) r s)).1 (zB5 (zK (o1,o2) p q) (zK (o3,o4) r s)).2:=JB;go_wp2_with fail;go_meet;refine⟨_,SJ,o1,o2,o3,o4,rfl,zA BN,zA BQ,?_,⟨⟨?_,?_,?_,?_,?_⟩,?_⟩,?_,zA Bv,?_⟩
   ·first|exact YE _|exact eM|exact eO|exact eQ|exact eV|exact wo
   ·simp[go_sem, *]
   ·simp[go_sem, *]
   ·simp[go_sem, *]
   ·simp[go_sem, *]
   ·simp[go_sem, *]
   ·intro o;simp[go_sem, *]
   ·first|with_reducible exact SpAt.put5 hfinP Nf Ng Nh Ni Nj _ _ _ _ _|with_reducible exact SpAt.put5 hfinP xQ xR xT xV xW _ _ _ _ _|with_reducible exact SpAt.put5 hfinP xD xI xJ xK xN _ _ _ _ _|with_reducible exact SpAt.put5 hfinP xq xw xA xB xC _ _ _ _ _|with_reducible exact SpAt.put5 hfinP xk xl xm xn xo _ _ _ _ _|with_reducible exact hfinP.bw (bl1 _ _)
   ·repeat' (first|with_reducible exact sM|with_reducible exact bj|with_reducible exact ai|with_reducible exact P9|with_reducible exact P8|with_reducible exact Below.refl _ _|with_reducible refine Below.drew ?_|with_reducible refine zL ?_ _|with_reducible refine Below.setCell ?_ (by first|exact YE _|exact eM|exact eO|exact eQ|exact eV|exact wo) _)
 case rest =>
 obtain⟨BP,xP,o1,o2,o3,o4,rfl,mb,mf,Cs,XP,hpP,hxbP,hblP⟩:=hcut;obtain⟨V8,Ym⟩:∃ V,V=wc:=⟨_,rfl⟩;subst Ym;have kP:=YH lR Cs;replace A:=A.bw hblP;replace D:=D.bw hblP;replace X0:=X0.bw hblP;replace Y0:=Y0.bw hblP;replace R:=R.bw hblP;replace L0:=L0.bw hblP;replace E0:=E0.bw hblP;replace HX:=zC ((zA HX).bw hblP);replace HY:=zC ((zA HY).bw hblP);replace aZ:=zC ((zA aZ).bw hblP);replace j7:=zB j7 hblP;replace XSC:=XSC.bw hblP;replace iC:=zC ((zA iC).bw hblP);have Bk:=zC hpP;have rN:=zC hxbP;have Hf:=zC mb;have TY:=zC mf;have XPC:=XP.c;clear hpP hxbP mb mf XP fE lS lA lD AJ AK lR AH AG Cs;have lA:=A.lt;have lD:=D.lt;have AJ:=X0.lt;have AK:=Y0.lt;have lR:=R.lt;have AH:=L0.lt;have AG:=E0.lt;have lS:=XSC.lt;have lP:=XPC.lt;have Bh:=zC (show ∀ w',Below V8.heap.size V8 w'->(rK w' (w.heap.size+1+1) p q (rK w' (w.heap.size+1+1+1) r s (nK w' w.heap.size x (nK w' (w.heap.size+1) y (nK w' w0.heap.size (⟨negL,aL,nL,cL⟩:Nm) (w'.cell? ⟨w3.heap.size,0,none⟩=some (.int .i64 (p*s+r*q))/\w'.cell? ⟨w3.heap.size,1,none⟩=some (.int .i64 (q*s))/\cK w' BS xS (cK0 w' BP xP))))))) from λ w' hB=>⟨(A.bw hB).c0,(A.bw hB).c1,(D.bw hB).c0,(D.bw hB).c1,(X0.bw hB).c0,(X0.bw hB).c1,(Y0.bw hB).c0,(Y0.bw hB).c1,(L0.bw hB).c0,(L0.bw hB).c1,(E0.bw hB).c0,(E0.bw hB).c1,(XSC.bw hB).c0,(XSC.bw hB).c1,(XSC.bw hB).c2,(XSC.bw hB).c3,(XSC.bw hB).c4,(XPC.bw hB).c0,(XPC.bw hB).c1,(XPC.bw hB).c2,(XPC.bw hB).c3,(XPC.bw hB).c4⟩)
 go_wp2_with fail
 go_cut [15] (λ pz wx=>∃ (B:Nat) (u:Sp) (o5 o6 lg ug:Int),pz=.pointer (some ⟨B,0,none⟩)/\zCJ L ((p:Rat)/(q:Rat)) b (o5,o6)/\LgP3 (λ M=>X1 M+X2 M-X3 M) b lg ug/\V8.heap.size<=B/\VrC wx B u/\SpAt wx u 524 (zB5 (o5,o6) (lg,ug)).1 (zB5 (o5,o6) (lg,ug)).2/\u.bits=(b:Int)/\Below V8.heap.size V8 wx)
 case first =>
  go_region_held3 (λ w'=>rK w' (w.heap.size+1+1) p q (rK w' (w.heap.size+1+1+1) r s (nK w' w.heap.size x (nK w' (w.heap.size+1) y (nK w' w0.heap.size (⟨negL,aL,nL,cL⟩:Nm) (w'.cell? ⟨w3.heap.size,0,none⟩=some (.int .i64 (p*s+r*q))/\w'.cell? ⟨w3.heap.size,1,none⟩=some (.int .i64 (q*s))/\cK w' BS xS (cK0 w' BP xP))))))) (exact zA Bh _ (by repeat' (first|with_reducible exact sQ|with_reducible exact jt|with_reducible exact js|with_reducible exact jr|with_reducible exact jq|with_reducible exact Below.refl _ _|with_reducible refine Below.drew ?_|with_reducible refine zL ?_ _|with_reducible refine Below.setCell ?_ (by first|exact YE _|exact wH|exact wI|exact wJ|exact wK|exact wL) _)))
   (first
    | (go_at_call 51;have hq:=jt;refine (zCZ _ vZ3 vZ4 523 b (o5,o6) (lg,ug) (((JG.bw dJ).bw (by with_reducible first|exact Below.refl _ _|exact bl1 _ _)).mono (by omega)) ((JH.bw (by with_reducible first|exact Below.refl _ _|exact bl1 _ _)).mono (by omega)) (by omega) (zA BI)).mono ?_;rintro r Td ⟨SQ,rfl,qZ,JI,vz⟩;have BJ:=zC qZ;clear qZ;have dK:Below GB.heap.size GB Td:=(by with_reducible first|exact vz|exact zB (bl1 _ _) vz);have sQ:=zB jt dK;(try with_reducible have Qg:=(zQ GB 31).bw vz);replace bL:=bL.bw dK;(try replace na:=na.bw dK);replace dO:=dO.bw dK;(try replace pF:=pF.bw dK);(try replace Ac:=Ac.bw dK);(try replace Fj:=Fj.bw dK);have wL:=sQ.size;(try have Sc:=na.lt);(try have eZ1:=YJ Sc);(try have Xm:=YI Sc);(try obtain⟨Of,Og,Oh,Oi,Oj,zZ15⟩:=na);(try have Sd:=pF.lt);(try have eZ2:=YJ Sd);(try have Xn:=YI Sd);(try obtain⟨Ok,Ol,Om,On,Oo,zZ25⟩:=pF);(try have Se:=Ac.lt);(try have eZ3:=YJ Se);(try have Xo:=YI Se);(try obtain⟨Oq,Ot,Ov,Ow,Ox,zZ35⟩:=Ac);(try have Sf:=Fj.lt);(try have eZ4:=YJ Sf);(try have Xp:=YI Sf);(try obtain⟨Oy,Oz,OA,OB,OC,zZ45⟩:=Fj);(try have Sg:=Qg.lt);(try have eZ5:=YJ Sg);(try have Xq:=YI Sg);(try obtain⟨OD,OE,OG,OH,OI,zZ55⟩:=Qg))
    | (go_at_call 188;have hq:=js;refine (zLT _ p q r s b X1 X2 X3 ⟨by omega,by omega,by omega,by omega⟩ ⟨by omega,by omega,by omega,by omega⟩ (zA TG) (zA TH) (zA TI)).mono ?_;rintro r' GB ⟨lg,ug,ma,vZ4,rfl,qY,JH,vy⟩;have Pp:=zC qY;have Hhlg:=zC ma;clear qY ma;have dJ:Below GA.heap.size GA GB:=(by with_reducible first|exact vy|exact zB (bl1 _ _) vy);have jt:=zB js dJ;(try with_reducible have Fj:=(zQ GA 31).bw vy);replace bL:=bL.bw dJ;(try replace na:=na.bw dJ);replace dO:=dO.bw dJ;(try replace pF:=pF.bw dJ);(try replace Ac:=Ac.bw dJ);have wK:=jt.size)
    | (go_at_call 125;have hq:=jr;refine (zEY L (zA HL) _ ⟨Eh,VZ,nZ1,Ww⟩ ⟨Ei,Wa,nZ2,Wx⟩ b p q (bL.bw (by with_reducible first|exact Below.refl _ _|exact bl1 _ _)) (dO.bw (by with_reducible first|exact Below.refl _ _|exact bl1 _ _)) Ge fp b0 b1).mono ?_;rintro r' GA ⟨o5,o6,mg,vZ3,rfl,qX,JG,vw⟩;have BI:=zC qX;have BR:=zC mg;clear qX mg;have jz:Below Gz.heap.size Gz GA:=(by with_reducible first|exact vw|exact zB (bl1 _ _) vw);have js:=zB jr jz;(try with_reducible have Ac:=(zQ Gz 31).bw vw);replace bL:=bL.bw jz;(try replace na:=na.bw jz);replace dO:=dO.bw jz;(try replace pF:=pF.bw jz);have wJ:=js.size)
    | (go_at_call 33;have hq:=jq;refine (zD q _ (by omega) (by omega)).mono ?_;rintro r Gz ⟨Ei,Wa,nZ2,Wx,rfl,dO,vo⟩;have sZ:Below Gy.heap.size Gy Gz:=(by with_reducible first|exact vo|exact zB (bl1 _ _) vo);have jr:=zB jq sZ;(try with_reducible have pF:=(zQ Gy 31).bw vo);replace bL:=bL.bw sZ;(try replace na:=na.bw sZ);have wI:=jr.size)
    | (go_at_call 33;refine (zD p _ (by omega) (by omega)).mono ?_;rintro r Gy ⟨Eh,VZ,nZ1,Ww,rfl,bL,vn⟩;have jq:Below V8.heap.size V8 Gy:=(by with_reducible first|exact zB (Below.refl _ _).drew vn|exact zB (bl1 _ _).drew vn);(try with_reducible have na:=((zQ V8 31).bw (Below.refl _ _).drew).bw vn);have wH:=jq.size))
  all_goals
   have hfinZ:SpAt Td SQ 524 (zB5 (o5,o6) (lg,ug)).1 (zB5 (o5,o6) (lg,ug)).2:=JI;go_wp2_with fail;go_meet;refine⟨_,SQ,o5,o6,lg,ug,rfl,zA BR,zA Hhlg,?_,⟨⟨?_,?_,?_,?_,?_⟩,?_⟩,?_,zA BJ,?_⟩
   ·first|exact YE _|exact wH|exact wI|exact wJ|exact wK|exact wL
   ·simp[go_sem, *]
   ·simp[go_sem, *]
   ·simp[go_sem, *]
   ·simp[go_sem, *]
   ·simp[go_sem, *]
   ·intro o;simp[go_sem, *]
   ·first|with_reducible exact SpAt.put5 hfinZ OD OE OG OH OI _ _ _ _ _|with_reducible exact SpAt.put5 hfinZ Oy Oz OA OB OC _ _ _ _ _|with_reducible exact SpAt.put5 hfinZ Oq Ot Ov Ow Ox _ _ _ _ _|with_reducible exact SpAt.put5 hfinZ Ok Ol Om On Oo _ _ _ _ _|with_reducible exact SpAt.put5 hfinZ Of Og Oh Oi Oj _ _ _ _ _|with_reducible exact hfinZ.bw (bl1 _ _)
   ·repeat' (first|with_reducible exact sQ|with_reducible exact jt|with_reducible exact js|with_reducible exact jr|with_reducible exact jq|with_reducible exact Below.refl _ _|with_reducible refine Below.drew ?_|with_reducible refine zL ?_ _|with_reducible refine Below.setCell ?_ (by first|exact YE _|exact wH|exact wI|exact wJ|exact wK|exact wL) _)
 case rest =>
 obtain⟨BZ,xZ,o5,o6,lg,ug,rfl,mg,ma,Qs,XZ,hpZ,hxbZ,hblZ⟩:=hcut;obtain⟨V9,Ai⟩:∃ V,V=wc:=⟨_,rfl⟩;subst Ai;have kZ:=YH lR Qs;replace A:=A.bw hblZ;replace D:=D.bw hblZ;replace X0:=X0.bw hblZ;replace Y0:=Y0.bw hblZ;replace R:=R.bw hblZ;replace L0:=L0.bw hblZ;replace E0:=E0.bw hblZ;replace HX:=zC ((zA HX).bw hblZ);replace HY:=zC ((zA HY).bw hblZ);replace aZ:=zC ((zA aZ).bw hblZ);replace j7:=zB j7 hblZ;replace XSC:=XSC.bw hblZ;replace XPC:=XPC.bw hblZ;replace iC:=zC ((zA iC).bw hblZ);replace Bk:=zC ((zA Bk).bw hblZ);have VB:=zC hpZ;have HZB:=zC hxbZ;have XZC:=XZ.c;obtain⟨l,t,NE,e1,e2,e3,e4,e5,e6,e7,e8⟩:=pu_exp (zA H) (zA Hf) (zA TY) mg ma (zA HL) (zA Vw) nt (zA HM);have P5:=zC e1;have Y7:=zC e2;have zd:=zC e4;have oX:=zC e5;have rP:=zC e6;have Ib:=zC e7;have P7:=zC e8;clear e1 e2 e4 e5 e6 e7 e8 hpZ hxbZ mg ma XZ Bh lS lP lA lD AJ AK lR AH AG Qs
 have lA:=A.lt;have lD:=D.lt;have AJ:=X0.lt;have AK:=Y0.lt;have lR:=R.lt;have AH:=L0.lt;have AG:=E0.lt;have lS:=XSC.lt;have lP:=XPC.lt;have lZ:=XZC.lt;have Bg:=zC (show ∀ w',Below V9.heap.size V9 w'->(rK w' (w.heap.size+1+1) p q (rK w' (w.heap.size+1+1+1) r s (nK w' w.heap.size x (nK w' (w.heap.size+1) y (nK w' w0.heap.size (⟨negL,aL,nL,cL⟩:Nm) (w'.cell? ⟨w3.heap.size,0,none⟩=some (.int .i64 (p*s+r*q))/\w'.cell? ⟨w3.heap.size,1,none⟩=some (.int .i64 (q*s))/\cK w' BS xS (cK w' BP xP (cK0 w' BZ xZ)))))))) from λ w' hB=>⟨(A.bw hB).c0,(A.bw hB).c1,(D.bw hB).c0,(D.bw hB).c1,(X0.bw hB).c0,(X0.bw hB).c1,(Y0.bw hB).c0,(Y0.bw hB).c1,(L0.bw hB).c0,(L0.bw hB).c1,(E0.bw hB).c0,(E0.bw hB).c1,(XSC.bw hB).c0,(XSC.bw hB).c1,(XSC.bw hB).c2,(XSC.bw hB).c3,(XSC.bw hB).c4,(XPC.bw hB).c0,(XPC.bw hB).c1,(XPC.bw hB).c2,(XPC.bw hB).c3,(XPC.bw hB).c4,(XZC.bw hB).c0,(XZC.bw hB).c1,(XZC.bw hB).c2,(XZC.bw hB).c3,(XZC.bw hB).c4⟩)
 have td:Below V9.heap.size V9 V9.drew:=(Below.refl _ _).drew;have DW:w.heap.size+1+1+1+1≠BS:=by omega
 have rA:w.heap.size+1+1+1+1≠BP:=by omega
 have Gc:w.heap.size+1+1+1+1≠BZ:=by omega
 have Sl:w.heap.size+1+1+1+1≠w0.heap.size:=by omega
 have nR5:w.heap.size+1+1+1+1≠w3.heap.size:=by omega
 have nR6:w.heap.size+1+1+1+1≠w.heap.size:=by omega
 have nR7:w.heap.size+1+1+1+1≠w.heap.size+1:=by omega
 have nR8:w.heap.size+1+1+1+1≠w.heap.size+1+1:=by omega
 have nR9:w.heap.size+1+1+1+1≠w.heap.size+1+1+1:=by omega
 have nRa:w.heap.size+1+1≠w.heap.size:=by omega
 have nRb:w.heap.size+1+1+1≠w.heap.size:=by omega
 go_wp2_with fail;obtain⟨x0,x1,x2,x3,x4,x5,x6,x7,x8,x9,GC,Ti,Tj,x13,x14,x15,x16,x17,x18,x19,x20,x21,x22,x23,x24,x25,x26⟩:=zA Bg _ (Below.refl _ _)
 go_region_held3 (λ w'=>rK w' (w.heap.size+1+1) p q (rK w' (w.heap.size+1+1+1) r s (nK w' w.heap.size x (nK w' (w.heap.size+1) y (nK w' w0.heap.size (⟨negL,aL,nL,cL⟩:Nm) (w'.cell? ⟨w3.heap.size,0,none⟩=some (.int .i64 (p*s+r*q))/\w'.cell? ⟨w3.heap.size,1,none⟩=some (.int .i64 (q*s))/\cK w' BS xS (cK w' BP xP (cK0 w' BZ xZ)))))))) (first|exact zA Bg _ (by with_reducible first|exact td|exact th|exact pI|exact ni|exact pH)|(dsimp only[cK,cK0,nK,nK0,rK,rK0];go_keep)|go_keep)
  (first
   | (go_at_call 141;have hq:=pI;refine (zBK _ f3 _ b _ _ lI (zA F3) (by omega) (by omega) (by omega)).mono ?_;rintro r' g4 ⟨f4,rfl,cA,gD,vD⟩;rw[zED] at gD;have F4:=zC cA;clear cA;have th:=zB pI vD;obtain⟨q0,q1,q2,q3,q4,q5⟩:=R.bw th)
   | (go_at_call 162;have hq:=ni;refine (zDK _ xS f2 98400 b (zA3 p q r s n d b NS).1 (zA3 p q r s n d b NS).2 (puE p q r s b (o1,o2) (o3,o4) (o5,o6) (lg,ug) t NE).1 (puE p q r s b (o1,o2) (o3,o4) (o5,o6) (lg,ug) t NE).2 (((zA iC).bw ni).mono (by omega)) lv (by omega) (by omega) (zA cY) (zA P7).2.2.2.1 (zA P7).1 (zA P7).2.1).mono ?_;rintro r' g3 ⟨f3,rfl,eC,lI,oD⟩;have F3:=zC eC;clear eC;have pI:=zB ni oD)
   | (go_at_call 77;have hq:=pH;refine (zCI _ f1 98400 b t NE (puY p q r s (o1,o2) (o3,o4) (o5,o6) (lg,ug)) l (SpAt.mono (show SpAt _ f1 536 (puY p q r s (o1,o2) (o3,o4) (o5,o6) (lg,ug)).1 (puY p q r s (o1,o2) (o3,o4) (o5,o6) (lg,ug)).2 from lq) (by omega)) (zA F1) (zA Ib) (by omega) (by omega) (zA P5) (zA Y7) (by omega) (zA zd) (zA oX) (zA rP) (by omega)).mono ?_;rintro r' g2 ⟨f2,rfl,eA,lv,Ao⟩;clear eA;have ni:=zB pH Ao)
   | (go_at_call 51;refine (zCZ _ xP xZ 535 b (zB5 (zK (o1,o2) p q) (zK (o3,o4) r s)) (zB5 (o5,o6) (lg,ug)) ((zA Bk).bw td) (((zA VB).bw td).mono (by omega)) (by omega) (zA rN)).mono ?_;rintro r' g1 ⟨f1,rfl,eo,lq,pY⟩;have F1:=zC eo;clear eo;have pH:=zB td pY))
 all_goals
  have fit:=SpAt.fits (K:=30) (show SpAt g4 f4 _ (zDT (zA3 p q r s n d b NS).1 (zA3 p q r s n d b NS).2 (puE p q r s b (o1,o2) (o3,o4) (o5,o6) (lg,ug) t NE).1 (puE p q r s b (o1,o2) (o3,o4) (o5,o6) (lg,ug) t NE).2 b) (zO5 (zA3 p q r s n d b NS) (puE p q r s b (o1,o2) (o3,o4) (o5,o6) (lg,ug) t NE) b) from gD) (zGB (zA P7).2.2.2.2 b1).1 (zGB (zA P7).2.2.2.2 b1).2.1 (zGB (zA P7).2.2.2.2 b1).2.2
  go_wp2_with fail;refine bodyPost_ret (v:=.agg f4.q) (by simp[results,Tryz.results160,go_sem,q0,q1,q2,q3,q4]) rfl ⟨_,_,(zA P7).2.2.2.2,f4,rfl,zA F4,?_,?_⟩
  ·exact SpAt.put5 fit q0 q1 q2 q3 q4 _ _ _ _ _
  ·exact jY (zB j7 th) (by omega) _ _ _ _ _
end Go.Proofs.YtgmnknmjainabacGreat
