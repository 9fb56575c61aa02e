/-
  Its own texts.
-/
import Derived.Test.YtgmnknmjainabacGreatJ19
set_option maxRecDepth 100000
set_option maxHeartbeats 40000000
set_option linter.unnecessarySimpa false
set_option linter.unusedSimpArgs false
set_option linter.unusedVariables false
namespace Go.Proofs.YtgmnknmjainabacGreat
open Go.RowKit
attribute [local go_sem ↓] Go.wp_at_zero Go.wp_at_succ
open Ex
theorem zQ4 (L:Rat->Nat->Rat) (hL:Lns L) (w:World) (x y:Nm) (p q r s n d:Int) (b:Nat) (X1 X2 X3:Nat->Rat) (hx:IntAt w x.neg x.a x.n x.cap 4 n) (hy:IntAt w y.neg y.a y.n y.cap 4 d) (h:zJH p q r s n d b) (hX:IsLog (λ M=>X1 M+X2 M-X3 M) (bJ L ((p:Rat)/(q:Rat)) ((r:Rat)/(s:Rat)))) (L1:zJJ p q b X1) (L2:zJJ r s b X2) (L3:zJJ (p*s+r*q) (q*s) b X3) :
  Calls Tryz.prog 160 #[.agg x.q,.agg y.q,.agg #[.int .i64 p,.int .i64 q],.agg #[.int .i64 r,.int .i64 s],.int .i64 b] w (λ z w'=>∃ lo hi,LwPr (bv L ((p:Rat)/(q:Rat)) ((r:Rat)/(s:Rat)) ((n:Rat)/(d:Rat))) b lo hi/\zL w b 30 lo hi z w'):=by
 obtain⟨W,hW⟩:∃ W,W=((((w.alloc (.cells x.q 29)).alloc (.cells y.q 29)).alloc (.cells #[.int .i64 p,.int .i64 q] 23)).alloc (.cells #[.int .i64 r,.int .i64 s] 23)).alloc (.cells zCq 31):=⟨_,rfl⟩;have j6:Below w.heap.size w W:=by rw[hW];exact bl5 _ _ _ _ _ _
 have X0:NmC W (w.heap.size) x:=by rw[hW];constructor<;>simp[go_sem]
 have Y0:NmC W (w.heap.size+1) y:=by rw[hW];constructor<;>simp[go_sem]
 have A:RaC W (w.heap.size+1+1) p q:=by rw[hW];constructor<;>simp[go_sem]
 have D:RaC W (w.heap.size+1+1+1) r s:=by rw[hW];constructor<;>simp[go_sem]
 have R:NoC W (w.heap.size+1+1+1+1):=by rw[hW];constructor<;>simp[go_sem]
 have HX:=zC (hx.bw j6);have HY:=zC (hy.bw j6);have gF:=X0.c0;have gH:=X0.c1;have zi:=Y0.c0;have zj:=Y0.c1;clear hx hy;have DF:=h.p0;have en:=h.q0;have xc:=h.r0;have PE:=h.s0;have Ie:=h.n0;have nd:=h.nd;have dd:=h.dd;have b0:=h.b0;have b1:=h.b1;have qq:=h.qq;have ss:=h.ss;have pb:p<=204800:=by have:=h.pq;omega
 have rb:r<=204800:=by have:=h.rs;omega
 have nc:=zC (show -P 4<d-n/\d-n<P 4 by
  have:P 4=18446744073709551616:=rfl
  exact⟨by omega,by omega⟩)
 obtain⟨c,hc,o9⟩:∃ c:Int,zP n (d-n)=c/\c<=0:=⟨_,rfl,by unfold zP;split<;>(try split)<;>omega⟩
 have HC:=zC hc;have lM:=zC (show zP n 0=1 by unfold zP;rw[if_neg (by omega),if_pos (by omega)])
 have H:=zC h;have HL:=zC hL;have Rq:=zC hX;have QD:=zC L1;have QE:=zC L2;have QG:=zC L3;obtain⟨NS,ks,S8⟩:=pu_set h
 have PK:Q 1621<P 103:=by
  rw[<- Q_P];have h1:=zK (show 1621+1<=16*103 by omega)
  have g2:∀ j,Q (j+1)=2*Q j:=λ _=>rfl
  rw[g2] at h1;have:=zF 1621;generalize Q 1621=z at *;omega
 have ng:=zC (show -P 103<Q b/\Q b<P 103 by
  have:=zF b;have:=zK (show b<=1621 by omega)
  have:=kY 103
  exact⟨by omega,by omega⟩)
 have ar:=zC (show ∀ j,j<=NS -> -P 103<(puT p q r s n d b j).1/\(puT p q r s n d b j).2<P 103 from λ j _=>by
  have e:0<=(puT p q r s n d b j).1:=(yT (zHP h) j).1;have u:=pu_hi h j;have:=kY 103
  exact⟨by omega,by omega⟩)
 have eQ:=zC (show ∀ j,j<=NS -> -P 103<(jH (puT p q r s n d b) j).1/\(jH (puT p q r s n d b) j).2<P 103 from λ j hj=>by
  have u:=pu_fit h j (by omega)
  have l:Q b<=(jH (puT p q r s n d b) j).1:=(zFB (zHP h) j).2.2;have:=zF b;have:=kY 103
  exact⟨by omega,by omega⟩)
 have eO:=zC (λ j=>show (puT p q r s n d b j).1<=(puT p q r s n d b j).2 from (yT (zHP h) j).2)
 have S5:=zC (λ j=>show 0<=(puT p q r s n d b j).1 from (yT (zHP h) j).1)
 have HM:=zC S8;have TW:=(pu_n h).2;have MH:=(pu_n h).1;have M5:=zC (show IntKind.i64.wrap (2*r)=2*r from jC _ (by omega) (by omega))
 have tdv:(2*r).tdiv s=(puN r s:Int):=by rw[MH];exact Int.tdiv_eq_ediv_of_nonneg (by omega)
 have S3:=zC (show (2*r).tdiv s=(puN r s:Int) from tdv)
 have cl:=zC (show IntKind.i64.wrap (puN r s:Int)=(puN r s:Int) from jC _ (by omega) (by omega))
 have pC:=zC (show ∀ j:Nat,j<NS->(0<=((j:Int)+1-1)*(q*s)/\((j:Int)+1-1)*(q*s)<=1152921504606846976)/\(0<=(p*s+r*q)/\(p*s+r*q)<=1152921504606846976)/\(0<=((j:Int)+1)*q/\((j:Int)+1)*q<=1152921504606846976)/\0<(p+((j:Int)+1)*q)*s/\(p+((j:Int)+1)*q)*s<=1152921504606846976 from λ j hj=>by
  have m1:=zEG qq ss (by omega) (by omega)
  have m2:=zEG pb ss (by omega) (by omega)
  have m3:=zEG rb qq (by omega) (by omega)
  have k1:=Yl (show 0<=q by omega) (show 0<=s by omega)
  have k2:=Yl (show 0<=p by omega) (show 0<=s by omega)
  have k3:=Yl (show 0<=r by omega) (show 0<=q by omega)
  have m4:=zEG (show (j:Int)+1-1<=5100 by omega) (show (q*s)<=4194304 by omega) k1 (by omega)
  have k4:=Yl (show 0<=(j:Int)+1-1 by omega) k1
  have m5:=zEG (show (j:Int)+1<=5101 by omega) qq (by omega) (by omega)
  have k5:=Yl (show 0<=(j:Int)+1 by omega) (show 0<=q by omega)
  have m6:=zEG (show p+((j:Int)+1)*q<=20000000 by omega) ss (by omega) (by omega)
  exact⟨⟨k4,by omega⟩,⟨by omega,by omega⟩,⟨k5,by omega⟩,Int.mul_pos (by omega) PE,by omega⟩)
 clear h hL hX L1 L2 L3 S8 PK hc tdv MH
 go_enter Tryz.func160,Tryz.ntmps160
 go_upto_region 1 with fail
 rw[<- hW];clear hW;go_wp2_with fail;clear gF gH zi zj;refine (zBR _ _ _ _ _ _ _ _ 4 4 d n _ (zA HY) (zA HX) (by omega) (by omega)).mono ?_
 rintro z0 w0 ⟨negL,aL,nL,cL,rfl,nN,E6⟩;obtain⟨VL,eV⟩:∃ V,V=w0.alloc (.cells #[.bool negL,.slice aL nL cL] 29):=⟨_,rfl⟩;have bVL:Below w0.heap.size w0 VL:=by rw[eV];exact bl1 _ _
 have L0:NmC VL w0.heap.size (⟨negL,aL,nL,cL⟩:Nm):=by rw[eV];constructor<;>simp[go_sem]
 have S4:=zC ((nN.fits (K:=4) (zA nc).1 (zA nc).2).bw bVL);have hbL:=zB E6 bVL;have kL:w.heap.size+1+1+1+1<w0.heap.size:=Yn R.lt E6.size;replace A:=A.bw hbL;replace D:=D.bw hbL;replace X0:=X0.bw hbL;replace Y0:=Y0.bw hbL;replace R:=R.bw hbL;replace HX:=zC ((zA HX).bw hbL);replace HY:=zC ((zA HY).bw hbL);replace j6:=zB j6 hbL;clear hbL E6 bVL nN;obtain⟨av,ax⟩:=X0;obtain⟨gI,gJ⟩:=L0;have lX:=NmC.lt ⟨av,ax⟩;have lL:=NmC.lt ⟨gI,gJ⟩
 go_upto_region 2 with fail
 rw[<- eV];clear eV;go_wp2_with fail;have X0:NmC VL (w.heap.size) x:=⟨av,ax⟩;have L0:NmC VL w0.heap.size (⟨negL,aL,nL,cL⟩:Nm):=⟨gI,gJ⟩;clear av ax gI gJ lX lL;refine (yS _ _ _ _ _ _ _ _ 4 4 n (d-n) _ (zA HX) (zA S4)).mono ?_;rintro z1 w1 ⟨rfl,b9⟩;rw[zA HC];replace A:=A.bw b9;replace D:=D.bw b9;replace X0:=X0.bw b9;replace Y0:=Y0.bw b9;replace R:=R.bw b9;replace L0:=L0.bw b9;replace HX:=zC ((zA HX).bw b9);replace HY:=zC ((zA HY).bw b9);replace S4:=zC ((zA S4).bw b9);replace j6:=zB j6 b9;clear b9;obtain⟨av,ax⟩:=X0;have lX:=NmC.lt ⟨av,ax⟩;go_wp2_with fail;have X0:NmC w1 (w.heap.size) x:=⟨av,ax⟩;clear av ax lX;refine (zA5 _ _ _ _ _ n _ (zA HX)).mono ?_;rintro z2 w2 ⟨rfl,j5⟩;rw[zA lM];replace A:=A.bw j5;replace D:=D.bw j5;replace X0:=X0.bw j5;replace Y0:=Y0.bw j5;replace R:=R.bw j5;replace L0:=L0.bw j5;replace HX:=zC ((zA HX).bw j5);replace HY:=zC ((zA HY).bw j5)
 replace S4:=zC ((zA S4).bw j5);replace j6:=zB j6 j5;clear j5;have aa:=A.c0;have ab:=A.c1;have da:=D.c0;have db:=D.c1;have lA:=A.lt;have lD:=D.lt;go_wp2_with fail;clear aa ab da db lA lD;refine (zI3 _ p q r s ⟨by omega,by omega,by omega,by omega⟩ ⟨by omega,by omega,by omega,by omega⟩).mono ?_
 rintro z3 w3 ⟨rfl,m8⟩;obtain⟨VE,De⟩:∃ V,V=w3.alloc (.cells #[.int .i64 (p*s+r*q),.int .i64 (q*s)] 23):=⟨_,rfl⟩;have bVE:Below w3.heap.size w3 VE:=by rw[De];exact bl1 _ _
 have E0:RaC VE w3.heap.size (p*s+r*q) (q*s):=by rw[De];exact zJ6 w3 _ _ _
 have hbE:=zB m8 bVE;have kE:w.heap.size+1+1+1+1<w3.heap.size:=Yn R.lt m8.size;replace A:=A.bw hbE;replace D:=D.bw hbE;replace X0:=X0.bw hbE;replace Y0:=Y0.bw hbE;replace R:=R.bw hbE;replace L0:=L0.bw hbE;replace HX:=zC ((zA HX).bw hbE);replace HY:=zC ((zA HY).bw hbE);replace S4:=zC ((zA S4).bw hbE);replace j6:=zB j6 hbE;clear hbE m8 bVE;have lA:=A.lt;have lD:=D.lt;have wX:=X0.lt;have wY:=Y0.lt;have lR:=R.lt;have wW:=L0.lt;have wV:=E0.lt;have fO:=zC (show ∀ w',Below VE.heap.size VE w'->(rK w' (w.heap.size+1+1) p q (rK w' (w.heap.size+1+1+1) r s (nK w' w.heap.size x (nK w' (w.heap.size+1) y (nK w' w0.heap.size (⟨negL,aL,nL,cL⟩:Nm) (w'.cell? ⟨w3.heap.size,0,none⟩=some (.int .i64 (p*s+r*q))/\w'.cell? ⟨w3.heap.size,1,none⟩=some (.int .i64 (q*s)))))))) from λ w' hB=>⟨(A.bw hB).c0,(A.bw hB).c1,(D.bw hB).c0,(D.bw hB).c1,(X0.bw hB).c0,(X0.bw hB).c1,(Y0.bw hB).c0,(Y0.bw hB).c1,(L0.bw hB).c0,(L0.bw hB).c1,(E0.bw hB).c0,(E0.bw hB).c1⟩)
 have aT:=zC (show ∀ W',Below VE.heap.size VE W'->∀ (j:Nat) (u:Sp) w',j<NS->u.bits=(b:Int)->SpAt w' u 103 (puT p q r s n d b j).1 (puT p q r s n d b j).2->Below W'.heap.size W' w'->Calls Tryz.prog 187 #[.agg u.q,.int .i64 ((j:Int)+1),.pointer (some ⟨w3.heap.size,0,none⟩),.pointer (some ⟨w.heap.size+1+1,0,none⟩),.pointer (some ⟨w.heap.size+1+1+1,0,none⟩),.pointer (some ⟨w.heap.size,0,none⟩),.pointer (some ⟨w.heap.size+1,0,none⟩)] w' (zL w' b 121 (puT p q r s n d b (j+1)).1 (puT p q r s n d b (j+1)).2) from λ W' qL j u w' hj D5 B9 M4=>by
  have K5:=zB qL M4;obtain⟨⟨s1,s2⟩,⟨s3,s4⟩,⟨s5,s6⟩,s7,s8⟩:=zA pC j hj;have e:=pt1_iv w' (w3.heap.size) (w.heap.size+1+1) (w.heap.size+1+1+1) (w.heap.size) (w.heap.size+1) u x y 103 b ((j:Int)+1) (puT p q r s n d b j) (p*s+r*q) (q*s) p q r s n d B9 ((zA HX).bw K5) ((zA HY).bw K5) (E0.bw K5) (A.bw K5) (D.bw K5) (X0.bw K5) (Y0.bw K5) (by omega) D5 (by omega) (by omega) s1 s2 s3 s4 s5 s6 DF (by omega) s7 s8 (by omega)
  have e1:((j:Int)+1-1)=(j:Int):=by omega
  have ec:((j+1:Nat):Int)=(j:Int)+1:=by omega
  have e2:puT p q r s n d b (j+1)=zJ (puT p q r s n d b j) (puU p q r s n (j+1)) (puD p q s d (j+1)):=rfl;rw[e1] at e;rw[e2,pu_k];unfold puD;rw[ec]
  exact e)
 have hs1:¬ s=0:=by omega
 have ag:¬ s = -1:=by omega
 go_wp2_with fail;rw[<- De];clear De
 go_cut [13] (λ pz wx=>∃ (B:Nat) (u:Sp),pz=.pointer (some ⟨B,0,none⟩)/\VE.heap.size<=B/\VrC wx B u/\SpAt wx u 106 ((zAX p q r s n d b NS)).1 ((zAX p q r s n d b NS)).2/\u.bits=(b:Int)/\Below VE.heap.size VE wx)
 case first =>
  go_region_held3 (λ w'=>rK w' (w.heap.size+1+1) p q (rK w' (w.heap.size+1+1+1) r s (nK w' w.heap.size x (nK w' (w.heap.size+1) y (nK w' w0.heap.size (⟨negL,aL,nL,cL⟩:Nm) (w'.cell? ⟨w3.heap.size,0,none⟩=some (.int .i64 (p*s+r*q))/\w'.cell? ⟨w3.heap.size,1,none⟩=some (.int .i64 (q*s)))))))) (exact zA fO _ (by repeat' (first|with_reducible exact J5|with_reducible exact G1|with_reducible exact Below.refl _ _|with_reducible refine Below.drew ?_|with_reducible refine zO ?_ _|with_reducible refine Below.setCell ?_ (by first|exact Yj _|exact J9|exact O5) _)))
   (first
    | (go_at_call 182;(try rw[zA M5]);(try rw[zA S3]);(try rw[zA cl]);have hq:=G1;refine (zD4 _ #[.pointer (some ⟨w3.heap.size,0,none⟩),.pointer (some ⟨w.heap.size+1+1,0,none⟩),.pointer (some ⟨w.heap.size+1+1+1,0,none⟩),.pointer (some ⟨w.heap.size,0,none⟩),.pointer (some ⟨w.heap.size+1,0,none⟩)] en_pt (puT p q r s n d b) (puN r s) NS b 103 121 xe _ ((zA jz).bw (by with_reducible first|exact Below.refl _ _|exact bl1 _ _)) (zA bc) (by omega) (by omega) (by omega) (by omega) (zA HM) (by omega) (by omega) (zA eO) (zA S5) (zA ar) (zA eQ) (zA aT _ (by with_reducible first|exact G1|exact zO G1 _))).mono ?_;rintro r eo ⟨Ca,rfl,cg,Q3,O2⟩;have gB:=zC cg;clear cg;have Q2:Below Z2.heap.size Z2 eo:=(by with_reducible first|exact O2|exact zB (bl1 _ _) O2);have J5:=zB G1 Q2;(try with_reducible have bl:=(zS Z2 31).bw O2);(try replace P5:=P5.bw Q2);have O5:=J5.size;(try have fZ:=P5.lt);(try have Fg:=Yo fZ);(try have pJ:=Nat.ne_of_gt fZ);(try obtain⟨aR,aS,eC,eE,eG,vn⟩:=P5);(try have mN:=bl.lt);(try have MI:=Yo mN);(try have ze:=Nat.ne_of_gt mN);(try obtain⟨eI,eJ,jr,js,jt,Ce⟩:=bl))
    | (go_at_call 93;refine (zCX _ b (by omega)).mono ?_;rintro r' Z2 ⟨xe,rfl,R9,I1,J7⟩;rw[show 1*Q b/1=Q b by rw[Int.ediv_one,Int.one_mul],show -(-(1*Q b)/1)=Q b by rw[Int.ediv_one,Int.one_mul,Int.neg_neg]] at I1;have bc:=zC R9;have jz:=zC (I1.fits (K:=103) (Int.le_refl _) (zA ng).1 (zA ng).2);clear R9 I1;have G1:Below VE.heap.size VE Z2:=(by with_reducible first|exact zB (Below.refl _ _).drew J7|exact zB (bl1 _ _).drew J7);(try with_reducible have P5:=((zS VE 31).bw (Below.refl _ _).drew).bw J7);have J9:=G1.size))
  all_goals
   have hfinS:SpAt eo Ca 106 ((zAX p q r s n d b NS)).1 ((zAX p q r s n d b NS)).2:=Q3;go_wp2_with fail;go_meet;refine⟨_,Ca,rfl,?_,⟨⟨?_,?_,?_,?_,?_⟩,?_⟩,?_,zA gB,?_⟩
   ·first|exact Yj _|exact J9|exact O5
   ·simp[go_sem, *]
   ·simp[go_sem, *]
   ·simp[go_sem, *]
   ·simp[go_sem, *]
   ·simp[go_sem, *]
   ·intro o;simp[go_sem, *]
   ·first|with_reducible exact SpAt.put5 hfinS eI eJ jr js jt _ _ _ _ _|with_reducible exact SpAt.put5 hfinS aR aS eC eE eG _ _ _ _ _|with_reducible exact hfinS.bw (bl1 _ _)
   ·repeat' (first|with_reducible exact J5|with_reducible exact G1|with_reducible exact Below.refl _ _|with_reducible refine Below.drew ?_|with_reducible refine zO ?_ _|with_reducible refine Below.setCell ?_ (by first|exact Yj _|exact J9|exact O5) _)
 case rest =>
 obtain⟨BS,xS,rfl,qH,XS,hpS,hxbS,hblS⟩:=hcut;obtain⟨V7,FN⟩:∃ V,V=wc:=⟨_,rfl⟩;subst FN;have kS:=Yn lR qH;replace A:=A.bw hblS;replace D:=D.bw hblS;replace X0:=X0.bw hblS;replace Y0:=Y0.bw hblS;replace R:=R.bw hblS;replace L0:=L0.bw hblS;replace E0:=E0.bw hblS;replace HX:=zC ((zA HX).bw hblS);replace HY:=zC ((zA HY).bw hblS);replace S4:=zC ((zA S4).bw hblS);replace j6:=zB j6 hblS;have gx:=zC hpS;have xJ:=zC hxbS;have XSC:=XS.c;clear hpS hxbS XS fO aT eO S5 ar eQ M5 S3 cl pC hs1 ag lA lD wX wY lR wW wV qH;have lA:=A.lt;have lD:=D.lt;have wX:=X0.lt;have wY:=Y0.lt;have lR:=R.lt;have wW:=L0.lt;have wV:=E0.lt;have lS:=XSC.lt;have eM:=zC (show ∀ w',Below V7.heap.size V7 w'->(rK w' (w.heap.size+1+1) p q (rK w' (w.heap.size+1+1+1) r s (nK w' w.heap.size x (nK w' (w.heap.size+1) y (nK w' w0.heap.size (⟨negL,aL,nL,cL⟩:Nm) (w'.cell? ⟨w3.heap.size,0,none⟩=some (.int .i64 (p*s+r*q))/\w'.cell? ⟨w3.heap.size,1,none⟩=some (.int .i64 (q*s))/\cK0 w' BS xS)))))) from λ w' hB=>⟨(A.bw hB).c0,(A.bw hB).c1,(D.bw hB).c0,(D.bw hB).c1,(X0.bw hB).c0,(X0.bw hB).c1,(Y0.bw hB).c0,(Y0.bw hB).c1,(L0.bw hB).c0,(L0.bw hB).c1,(E0.bw hB).c0,(E0.bw hB).c1,(XSC.bw hB).c0,(XSC.bw hB).c1,(XSC.bw hB).c2,(XSC.bw hB).c3,(XSC.bw hB).c4⟩)
 go_wp2_with fail
 go_cut [14] (λ pz wx=>∃ (B:Nat) (u:Sp) (o1 o2 o3 o4:Int),pz=.pointer (some ⟨B,0,none⟩)/\zB4 L ((d:Rat)/(n:Rat)) b (o1,o2)/\zB4 L ((d:Rat)/((d-n:Int):Rat)) b (o3,o4)/\V7.heap.size<=B/\VrC wx B u/\SpAt wx u 535 (zBT (zJ (o1,o2) p q) (zJ (o3,o4) r s)).1 (zBT (zJ (o1,o2) p q) (zJ (o3,o4) r s)).2/\u.bits=(b:Int)/\Below V7.heap.size V7 wx)
 case first =>
  go_region_held3 (λ w'=>rK w' (w.heap.size+1+1) p q (rK w' (w.heap.size+1+1+1) r s (nK w' w.heap.size x (nK w' (w.heap.size+1) y (nK w' w0.heap.size (⟨negL,aL,nL,cL⟩:Nm) (w'.cell? ⟨w3.heap.size,0,none⟩=some (.int .i64 (p*s+r*q))/\w'.cell? ⟨w3.heap.size,1,none⟩=some (.int .i64 (q*s))/\cK0 w' BS xS)))))) (exact zA eM _ (by repeat' (first|with_reducible exact pY|with_reducible exact aB|with_reducible exact W7|with_reducible exact M8|with_reducible exact M7|with_reducible exact Below.refl _ _|with_reducible refine Below.drew ?_|with_reducible refine zO ?_ _|with_reducible refine Below.setCell ?_ (by first|exact Yj _|exact dK|exact dL|exact dM|exact dN|exact sI) _)))
   (first
    | (go_at_call 51;have hq:=aB;refine (zCI _ Ix DI 534 b (zJ (o1,o2) p q) (zJ (o3,o4) r s) ((aN.bw (by with_reducible first|exact Below.refl _ _|exact bl1 _ _)).mono (by omega)) ((iG.bw (by with_reducible first|exact Below.refl _ _|exact bl1 _ _)).mono (by omega)) (by omega) (zA gz)).mono ?_;rintro r PZ ⟨PM,rfl,oF,Ge,rz⟩;have ya:=zC oF;clear oF;have cD:Below tG.heap.size tG PZ:=(by with_reducible first|exact rz|exact zB (bl1 _ _) rz);have pY:=zB aB cD;(try with_reducible have MQ:=(zS tG 31).bw rz);(try replace ay:=ay.bw cD);replace aN:=aN.bw cD;(try replace cr:=cr.bw cD);(try replace gL:=gL.bw cD);replace iG:=iG.bw cD;(try replace pO:=pO.bw cD);have sI:=pY.size;(try have Bi:=ay.lt);(try have SQ:=Yo Bi);(try have Fb:=Nat.ne_of_gt Bi);(try obtain⟨tJ,tK,tL,tM,tN,JW⟩:=ay);(try have Bj:=cr.lt);(try have CF:=Yo Bj);(try have Fc:=Nat.ne_of_gt Bj);(try obtain⟨tO,tP,tQ,tR,tS,JX⟩:=cr);(try have Bk:=gL.lt);(try have SR:=Yo Bk);(try have Fe:=Nat.ne_of_gt Bk);(try obtain⟨tT,tV,tW,tX,tY,JY⟩:=gL);(try have Bl:=pO.lt);(try have SS:=Yo Bl);(try have Ff:=Nat.ne_of_gt Bl);(try obtain⟨tZ,vd,ve,vg,vk,JZ⟩:=pO);(try have OT:=MQ.lt);(try have eP5:=Yo OT);(try have SV:=Nat.ne_of_gt OT);(try obtain⟨Ka,Kb,Kd,Ke,Kf,zP55⟩:=MQ))
    | (go_at_call 184;have hq:=W7;refine (zCG _ Iy 520 b (o3,o4) r s (iF.bw (by with_reducible first|exact Below.refl _ _|exact bl1 _ _)) (by omega) (zA nj) (by omega) (by omega) PE (by omega)).mono ?_;rintro r tG ⟨DI,rfl,cf,iG,cV⟩;have np:=zC cf;clear cf;have S7:Below mS.heap.size mS tG:=(by with_reducible first|exact cV|exact zB (bl1 _ _) cV);have aB:=zB W7 S7;(try with_reducible have pO:=(zS mS 31).bw cV);(try replace ay:=ay.bw S7);replace aN:=aN.bw S7;(try replace cr:=cr.bw S7);(try replace gL:=gL.bw S7);have dN:=aB.size)
    | (go_at_call 125;have hq:=M8;refine (zEL L (zA HL) _ y (⟨negL,aL,nL,cL⟩:Nm) b d (d-n) ((zA HY).bw (by with_reducible first|exact M8|exact zO M8 _)) ((zA S4).bw (by with_reducible first|exact M8|exact zO M8 _)) (by omega) (by omega) b0 b1).mono ?_;rintro r' mS ⟨o3,o4,iZ,Iy,rfl,bZ,iF,cT⟩;have nj:=zC bZ;have yq:=zC iZ;clear bZ iZ;have aI:Below mR.heap.size mR mS:=(by with_reducible first|exact cT|exact zB (bl1 _ _) cT);have W7:=zB M8 aI;(try with_reducible have gL:=(zS mR 31).bw cT);(try replace ay:=ay.bw aI);replace aN:=aN.bw aI;(try replace cr:=cr.bw aI);have dM:=W7.size)
    | (go_at_call 184;have hq:=M7;refine (zCG _ Iw 520 b (o1,o2) p q (aM.bw (by with_reducible first|exact Below.refl _ _|exact bl1 _ _)) (by omega) (zA gy) (by omega) (by omega) en (by omega)).mono ?_;rintro r mR ⟨Ix,rfl,bX,aN,cS⟩;have gz:=zC bX;clear bX;have fp:Below mQ.heap.size mQ mR:=(by with_reducible first|exact cS|exact zB (bl1 _ _) cS);have M8:=zB M7 fp;(try with_reducible have cr:=(zS mQ 31).bw cS);(try replace ay:=ay.bw fp);have dL:=M8.size)
    | (go_at_call 125;refine (zEL L (zA HL) _ y x b d n ((zA HY).bw (by with_reducible first|exact (Below.refl _ _).drew|exact (bl1 _ _).drew)) ((zA HX).bw (by with_reducible first|exact (Below.refl _ _).drew|exact (bl1 _ _).drew)) (by omega) Ie b0 b1).mono ?_;rintro r' mQ ⟨o1,o2,iW,Iw,rfl,bQ,aM,cR⟩;have gy:=zC bQ;have yo:=zC iW;clear bQ iW;have M7:Below V7.heap.size V7 mQ:=(by with_reducible first|exact zB (Below.refl _ _).drew cR|exact zB (bl1 _ _).drew cR);(try with_reducible have ay:=((zS V7 31).bw (Below.refl _ _).drew).bw cR);have dK:=M7.size))
  all_goals
   have hfinP:SpAt PZ PM 535 (zBT (zJ (o1,o2) p q) (zJ (o3,o4) r s)).1 (zBT (zJ (o1,o2) p q) (zJ (o3,o4) r s)).2:=Ge;go_wp2_with fail;go_meet;refine⟨_,PM,o1,o2,o3,o4,rfl,zA yo,zA yq,?_,⟨⟨?_,?_,?_,?_,?_⟩,?_⟩,?_,zA ya,?_⟩
   ·first|exact Yj _|exact dK|exact dL|exact dM|exact dN|exact sI
   ·simp[go_sem, *]
   ·simp[go_sem, *]
   ·simp[go_sem, *]
   ·simp[go_sem, *]
   ·simp[go_sem, *]
   ·intro o;simp[go_sem, *]
   ·first|with_reducible exact SpAt.put5 hfinP Ka Kb Kd Ke Kf _ _ _ _ _|with_reducible exact SpAt.put5 hfinP tZ vd ve vg vk _ _ _ _ _|with_reducible exact SpAt.put5 hfinP tT tV tW tX tY _ _ _ _ _|with_reducible exact SpAt.put5 hfinP tO tP tQ tR tS _ _ _ _ _|with_reducible exact SpAt.put5 hfinP tJ tK tL tM tN _ _ _ _ _|with_reducible exact hfinP.bw (bl1 _ _)
   ·repeat' (first|with_reducible exact pY|with_reducible exact aB|with_reducible exact W7|with_reducible exact M8|with_reducible exact M7|with_reducible exact Below.refl _ _|with_reducible refine Below.drew ?_|with_reducible refine zO ?_ _|with_reducible refine Below.setCell ?_ (by first|exact Yj _|exact dK|exact dL|exact dM|exact dN|exact sI) _)
 case rest =>
 obtain⟨BP,xP,o1,o2,o3,o4,rfl,iW,iZ,Ab,XP,hpP,hxbP,hblP⟩:=hcut;obtain⟨V8,TZ⟩:∃ V,V=wc:=⟨_,rfl⟩;subst TZ;have kP:=Yn lR Ab;replace A:=A.bw hblP;replace D:=D.bw hblP;replace X0:=X0.bw hblP;replace Y0:=Y0.bw hblP;replace R:=R.bw hblP;replace L0:=L0.bw hblP;replace E0:=E0.bw hblP;replace HX:=zC ((zA HX).bw hblP);replace HY:=zC ((zA HY).bw hblP);replace S4:=zC ((zA S4).bw hblP);replace j6:=zB j6 hblP;replace XSC:=XSC.bw hblP;replace gx:=zC ((zA gx).bw hblP);have xD:=zC hpP;have pk:=zC hxbP;have EB:=zC iW;have QW:=zC iZ;have XPC:=XP.c;clear hpP hxbP iW iZ XP eM lS lA lD wX wY lR wW wV Ab;have lA:=A.lt;have lD:=D.lt;have wX:=X0.lt;have wY:=Y0.lt;have lR:=R.lt;have wW:=L0.lt;have wV:=E0.lt;have lS:=XSC.lt;have lP:=XPC.lt;have xA:=zC (show ∀ w',Below V8.heap.size V8 w'->(rK w' (w.heap.size+1+1) p q (rK w' (w.heap.size+1+1+1) r s (nK w' w.heap.size x (nK w' (w.heap.size+1) y (nK w' w0.heap.size (⟨negL,aL,nL,cL⟩:Nm) (w'.cell? ⟨w3.heap.size,0,none⟩=some (.int .i64 (p*s+r*q))/\w'.cell? ⟨w3.heap.size,1,none⟩=some (.int .i64 (q*s))/\cK w' BS xS (cK0 w' BP xP))))))) from λ w' hB=>⟨(A.bw hB).c0,(A.bw hB).c1,(D.bw hB).c0,(D.bw hB).c1,(X0.bw hB).c0,(X0.bw hB).c1,(Y0.bw hB).c0,(Y0.bw hB).c1,(L0.bw hB).c0,(L0.bw hB).c1,(E0.bw hB).c0,(E0.bw hB).c1,(XSC.bw hB).c0,(XSC.bw hB).c1,(XSC.bw hB).c2,(XSC.bw hB).c3,(XSC.bw hB).c4,(XPC.bw hB).c0,(XPC.bw hB).c1,(XPC.bw hB).c2,(XPC.bw hB).c3,(XPC.bw hB).c4⟩)
 go_wp2_with fail
 go_cut [15] (λ pz wx=>∃ (B:Nat) (u:Sp) (o5 o6 lg ug:Int),pz=.pointer (some ⟨B,0,none⟩)/\zB4 L ((p:Rat)/(q:Rat)) b (o5,o6)/\LgP3 (λ M=>X1 M+X2 M-X3 M) b lg ug/\V8.heap.size<=B/\VrC wx B u/\SpAt wx u 524 (zBT (o5,o6) (lg,ug)).1 (zBT (o5,o6) (lg,ug)).2/\u.bits=(b:Int)/\Below V8.heap.size V8 wx)
 case first =>
  go_region_held3 (λ w'=>rK w' (w.heap.size+1+1) p q (rK w' (w.heap.size+1+1+1) r s (nK w' w.heap.size x (nK w' (w.heap.size+1) y (nK w' w0.heap.size (⟨negL,aL,nL,cL⟩:Nm) (w'.cell? ⟨w3.heap.size,0,none⟩=some (.int .i64 (p*s+r*q))/\w'.cell? ⟨w3.heap.size,1,none⟩=some (.int .i64 (q*s))/\cK w' BS xS (cK0 w' BP xP))))))) (exact zA xA _ (by repeat' (first|with_reducible exact qh|with_reducible exact ib|with_reducible exact ia|with_reducible exact hZ|with_reducible exact hO|with_reducible exact Below.refl _ _|with_reducible refine Below.drew ?_|with_reducible refine zO ?_ _|with_reducible refine Below.setCell ?_ (by first|exact Yj _|exact sP|exact sQ|exact sR|exact sS|exact sT) _)))
   (first
    | (go_at_call 51;have hq:=ib;refine (zCI _ vZ3 vZ4 523 b (o5,o6) (lg,ug) (((Gj.bw cM).bw (by with_reducible first|exact Below.refl _ _|exact bl1 _ _)).mono (by omega)) ((Gk.bw (by with_reducible first|exact Below.refl _ _|exact bl1 _ _)).mono (by omega)) (by omega) (zA yj)).mono ?_;rintro r Qd ⟨PT,rfl,oO,Gl,rL⟩;have ym:=zC oO;clear oO;have cO:Below Ea.heap.size Ea Qd:=(by with_reducible first|exact rL|exact zB (bl1 _ _) rL);have qh:=zB ib cO;(try with_reducible have MV:=(zS Ea 31).bw rL);replace aO:=aO.bw cO;(try replace km:=km.bw cO);replace cQ:=cQ.bw cO;(try replace nD:=nD.bw cO);(try replace vY:=vY.bw cO);(try replace CN:=CN.bw cO);have sT:=qh.size;(try have Pa:=km.lt);(try have eZ1:=Yo Pa);(try have Tk:=Nat.ne_of_gt Pa);(try obtain⟨Lh,Li,Lj,Lk,Ll,zZ15⟩:=km);(try have Pb:=nD.lt);(try have eZ2:=Yo Pb);(try have Tl:=Nat.ne_of_gt Pb);(try obtain⟨Lm,Ln,Lo,Lp,Lq,zZ25⟩:=nD);(try have Pc:=vY.lt);(try have eZ3:=Yo Pc);(try have Tm:=Nat.ne_of_gt Pc);(try obtain⟨Lr,Ls,Lt,Lv,Lx,zZ35⟩:=vY);(try have Pd:=CN.lt);(try have eZ4:=Yo Pd);(try have Tn:=Nat.ne_of_gt Pd);(try obtain⟨Ly,Lz,LA,LB,LC,zZ45⟩:=CN);(try have Pe:=MV.lt);(try have eZ5:=Yo Pe);(try have To:=Nat.ne_of_gt Pe);(try obtain⟨LD,LF,LG,LH,LI,zZ55⟩:=MV))
    | (go_at_call 188;have hq:=ia;refine (zJZ _ p q r s b X1 X2 X3 ⟨by omega,by omega,by omega,by omega⟩ ⟨by omega,by omega,by omega,by omega⟩ (zA QD) (zA QE) (zA QG)).mono ?_;rintro r' Ea ⟨lg,ug,iV,vZ4,rfl,oN,Gk,rJ⟩;have Ml:=zC oN;have Hhlg:=zC iV;clear oN iV;have cM:Below DZ.heap.size DZ Ea:=(by with_reducible first|exact rJ|exact zB (bl1 _ _) rJ);have ib:=zB ia cM;(try with_reducible have CN:=(zS DZ 31).bw rJ);replace aO:=aO.bw cM;(try replace km:=km.bw cM);replace cQ:=cQ.bw cM;(try replace nD:=nD.bw cM);(try replace vY:=vY.bw cM);have sS:=ib.size)
    | (go_at_call 125;have hq:=hZ;refine (zEL L (zA HL) _ ⟨BR,RS,Xi,Sq⟩ ⟨BT,RT,Xj,Sr⟩ b p q (aO.bw (by with_reducible first|exact Below.refl _ _|exact bl1 _ _)) (cQ.bw (by with_reducible first|exact Below.refl _ _|exact bl1 _ _)) DF en b0 b1).mono ?_;rintro r' DZ ⟨o5,o6,ja,vZ3,rfl,oM,Gj,rH⟩;have yj:=zC oM;have yr:=zC ja;clear oM ja;have iw:Below DY.heap.size DY DZ:=(by with_reducible first|exact rH|exact zB (bl1 _ _) rH);have ia:=zB hZ iw;(try with_reducible have vY:=(zS DY 31).bw rH);replace aO:=aO.bw iw;(try replace km:=km.bw iw);replace cQ:=cQ.bw iw;(try replace nD:=nD.bw iw);have sR:=ia.size)
    | (go_at_call 33;have hq:=hO;refine (zE q _ (by omega) (by omega)).mono ?_;rintro r DY ⟨BT,RT,Xj,Sr,rfl,cQ,rG⟩;have qA:Below DX.heap.size DX DY:=(by with_reducible first|exact rG|exact zB (bl1 _ _) rG);have hZ:=zB hO qA;(try with_reducible have nD:=(zS DX 31).bw rG);replace aO:=aO.bw qA;(try replace km:=km.bw qA);have sQ:=hZ.size)
    | (go_at_call 33;refine (zE p _ (by omega) (by omega)).mono ?_;rintro r DX ⟨BR,RS,Xi,Sq,rfl,aO,rF⟩;have hO:Below V8.heap.size V8 DX:=(by with_reducible first|exact zB (Below.refl _ _).drew rF|exact zB (bl1 _ _).drew rF);(try with_reducible have km:=((zS V8 31).bw (Below.refl _ _).drew).bw rF);have sP:=hO.size))
  all_goals
   have hfinZ:SpAt Qd PT 524 (zBT (o5,o6) (lg,ug)).1 (zBT (o5,o6) (lg,ug)).2:=Gl;go_wp2_with fail;go_meet;refine⟨_,PT,o5,o6,lg,ug,rfl,zA yr,zA Hhlg,?_,⟨⟨?_,?_,?_,?_,?_⟩,?_⟩,?_,zA ym,?_⟩
   ·first|exact Yj _|exact sP|exact sQ|exact sR|exact sS|exact sT
   ·simp[go_sem, *]
   ·simp[go_sem, *]
   ·simp[go_sem, *]
   ·simp[go_sem, *]
   ·simp[go_sem, *]
   ·intro o;simp[go_sem, *]
   ·first|with_reducible exact SpAt.put5 hfinZ LD LF LG LH LI _ _ _ _ _|with_reducible exact SpAt.put5 hfinZ Ly Lz LA LB LC _ _ _ _ _|with_reducible exact SpAt.put5 hfinZ Lr Ls Lt Lv Lx _ _ _ _ _|with_reducible exact SpAt.put5 hfinZ Lm Ln Lo Lp Lq _ _ _ _ _|with_reducible exact SpAt.put5 hfinZ Lh Li Lj Lk Ll _ _ _ _ _|with_reducible exact hfinZ.bw (bl1 _ _)
   ·repeat' (first|with_reducible exact qh|with_reducible exact ib|with_reducible exact ia|with_reducible exact hZ|with_reducible exact hO|with_reducible exact Below.refl _ _|with_reducible refine Below.drew ?_|with_reducible refine zO ?_ _|with_reducible refine Below.setCell ?_ (by first|exact Yj _|exact sP|exact sQ|exact sR|exact sS|exact sT) _)
 case rest =>
 obtain⟨BZ,xZ,o5,o6,lg,ug,rfl,ja,iV,Ni,XZ,hpZ,hxbZ,hblZ⟩:=hcut;obtain⟨V9,wy⟩:∃ V,V=wc:=⟨_,rfl⟩;subst wy;have kZ:=Yn lR Ni;replace A:=A.bw hblZ;replace D:=D.bw hblZ;replace X0:=X0.bw hblZ;replace Y0:=Y0.bw hblZ;replace R:=R.bw hblZ;replace L0:=L0.bw hblZ;replace E0:=E0.bw hblZ;replace HX:=zC ((zA HX).bw hblZ);replace HY:=zC ((zA HY).bw hblZ);replace S4:=zC ((zA S4).bw hblZ);replace j6:=zB j6 hblZ;replace XSC:=XSC.bw hblZ;replace XPC:=XPC.bw hblZ;replace gx:=zC ((zA gx).bw hblZ);replace xD:=zC ((zA xD).bw hblZ);have Ry:=zC hpZ;have HZB:=zC hxbZ;have XZC:=XZ.c;obtain⟨l,t,NE,e1,e2,e3,e4,e5,e6,e7,e8⟩:=pu_exp (zA H) (zA EB) (zA QW) ja iV (zA HL) (zA Rq) ks (zA HM);have M5:=zC e1;have S3:=zC e2;have vG:=zC e4;have mZ:=zC e5;have pA:=zC e6;have EK:=zC e7;have M6:=zC e8;clear e1 e2 e4 e5 e6 e7 e8 hpZ hxbZ ja iV XZ xA lS lP lA lD wX wY lR wW wV Ni
 have lA:=A.lt;have lD:=D.lt;have wX:=X0.lt;have wY:=Y0.lt;have lR:=R.lt;have wW:=L0.lt;have wV:=E0.lt;have lS:=XSC.lt;have lP:=XPC.lt;have lZ:=XZC.lt;have xw:=zC (show ∀ w',Below V9.heap.size V9 w'->(rK w' (w.heap.size+1+1) p q (rK w' (w.heap.size+1+1+1) r s (nK w' w.heap.size x (nK w' (w.heap.size+1) y (nK w' w0.heap.size (⟨negL,aL,nL,cL⟩:Nm) (w'.cell? ⟨w3.heap.size,0,none⟩=some (.int .i64 (p*s+r*q))/\w'.cell? ⟨w3.heap.size,1,none⟩=some (.int .i64 (q*s))/\cK w' BS xS (cK w' BP xP (cK0 w' BZ xZ)))))))) from λ w' hB=>⟨(A.bw hB).c0,(A.bw hB).c1,(D.bw hB).c0,(D.bw hB).c1,(X0.bw hB).c0,(X0.bw hB).c1,(Y0.bw hB).c0,(Y0.bw hB).c1,(L0.bw hB).c0,(L0.bw hB).c1,(E0.bw hB).c0,(E0.bw hB).c1,(XSC.bw hB).c0,(XSC.bw hB).c1,(XSC.bw hB).c2,(XSC.bw hB).c3,(XSC.bw hB).c4,(XPC.bw hB).c0,(XPC.bw hB).c1,(XPC.bw hB).c2,(XPC.bw hB).c3,(XPC.bw hB).c4,(XZC.bw hB).c0,(XZC.bw hB).c1,(XZC.bw hB).c2,(XZC.bw hB).c3,(XZC.bw hB).c4⟩)
 have qF:Below V9.heap.size V9 V9.drew:=(Below.refl _ _).drew;have Bw:w.heap.size+1+1+1+1≠BS:=by omega
 have oV:w.heap.size+1+1+1+1≠BP:=by omega
 have DE:w.heap.size+1+1+1+1≠BZ:=by omega
 have Pm:w.heap.size+1+1+1+1≠w0.heap.size:=by omega
 have WY:w.heap.size+1+1+1+1≠w3.heap.size:=by omega
 have WZ:w.heap.size+1+1+1+1≠w.heap.size:=by omega
 have nR7:w.heap.size+1+1+1+1≠w.heap.size+1:=by omega
 have nR8:w.heap.size+1+1+1+1≠w.heap.size+1+1:=by omega
 have nR9:w.heap.size+1+1+1+1≠w.heap.size+1+1+1:=by omega
 have nRa:w.heap.size+1+1≠w.heap.size:=by omega
 have nRb:w.heap.size+1+1+1≠w.heap.size:=by omega
 go_wp2_with fail;obtain⟨x0,x1,x2,x3,x4,x5,x6,x7,x8,x9,Eb,Qg,Qh,x13,x14,x15,x16,x17,x18,x19,x20,x21,x22,x23,x24,x25,x26⟩:=zA xw _ (Below.refl _ _)
 go_region_held3 (λ w'=>rK w' (w.heap.size+1+1) p q (rK w' (w.heap.size+1+1+1) r s (nK w' w.heap.size x (nK w' (w.heap.size+1) y (nK w' w0.heap.size (⟨negL,aL,nL,cL⟩:Nm) (w'.cell? ⟨w3.heap.size,0,none⟩=some (.int .i64 (p*s+r*q))/\w'.cell? ⟨w3.heap.size,1,none⟩=some (.int .i64 (q*s))/\cK w' BS xS (cK w' BP xP (cK0 w' BZ xZ)))))))) (first|exact zA xw _ (by with_reducible first|exact qF|exact qG|exact nJ|exact kp|exact nI)|(dsimp only[cK,cK0,nK,nK0,rK,rK0];go_keep)|go_keep)
  (first
   | (go_at_call 141;have hq:=nJ;refine (zCH _ f3 _ b _ _ iQ (zA F3) (by omega) (by omega) (by omega)).mono ?_;rintro r' g4 ⟨f4,rfl,bG,fw,rP⟩;rw[zE7] at fw;have F4:=zC bG;clear bG;have qG:=zB nJ rP;obtain⟨q0,q1,q2,q3,q4,q5⟩:=R.bw qG)
   | (go_at_call 162;have hq:=kp;refine (zC5 _ xS f2 98400 b (zAX p q r s n d b NS).1 (zAX p q r s n d b NS).2 (puE p q r s b (o1,o2) (o3,o4) (o5,o6) (lg,ug) t NE).1 (puE p q r s b (o1,o2) (o3,o4) (o5,o6) (lg,ug) t NE).2 (((zA gx).bw kp).mono (by omega)) iP (by omega) (by omega) (zA xJ) (zA M6).2.2.2.1 (zA M6).1 (zA M6).2.1).mono ?_;rintro r' g3 ⟨f3,rfl,dD,iQ,mE⟩;have F3:=zC dD;clear dD;have nJ:=zB kp mE)
   | (go_at_call 77;have hq:=nI;refine (zB3 _ f1 98400 b t NE (puY p q r s (o1,o2) (o3,o4) (o5,o6) (lg,ug)) l (SpAt.mono (show SpAt _ f1 536 (puY p q r s (o1,o2) (o3,o4) (o5,o6) (lg,ug)).1 (puY p q r s (o1,o2) (o3,o4) (o5,o6) (lg,ug)).2 from iO) (by omega)) (zA F1) (zA EK) (by omega) (by omega) (zA M5) (zA S3) (by omega) (zA vG) (zA mZ) (zA pA) (by omega)).mono ?_;rintro r' g2 ⟨f2,rfl,dB,iP,dG⟩;clear dB;have kp:=zB nI dG)
   | (go_at_call 51;refine (zCI _ xP xZ 535 b (zBT (zJ (o1,o2) p q) (zJ (o3,o4) r s)) (zBT (o5,o6) (lg,ug)) ((zA xD).bw qF) (((zA Ry).bw qF).mono (by omega)) (by omega) (zA pk)).mono ?_;rintro r' g1 ⟨f1,rfl,dA,iO,aj⟩;have F1:=zC dA;clear dA;have nI:=zB qF aj))
 all_goals
  have fit:=SpAt.fits (K:=30) (show SpAt g4 f4 _ (zEC (zAX p q r s n d b NS).1 (zAX p q r s n d b NS).2 (puE p q r s b (o1,o2) (o3,o4) (o5,o6) (lg,ug) t NE).1 (puE p q r s b (o1,o2) (o3,o4) (o5,o6) (lg,ug) t NE).2 b) (zNA (zAX p q r s n d b NS) (puE p q r s b (o1,o2) (o3,o4) (o5,o6) (lg,ug) t NE) b) from fw) (zFT (zA M6).2.2.2.2 b1).1 (zFT (zA M6).2.2.2.2 b1).2.1 (zFT (zA M6).2.2.2.2 b1).2.2
  go_wp2_with fail;refine bodyPost_ret (v:=.agg f4.q) (by simp[results,Tryz.results160,go_sem,q0,q1,q2,q3,q4]) rfl ⟨_,_,(zA M6).2.2.2.2,f4,rfl,zA F4,?_,?_⟩
  ·exact SpAt.put5 fit q0 q1 q2 q3 q4 _ _ _ _ _
  ·exact kM (zB j6 qG) (by omega) _ _ _ _ _
end Go.Proofs.YtgmnknmjainabacGreat
