/-
  Its own texts.
-/
import Derived.Test.YtgmnknmjainababGreatK24
set_option maxRecDepth 100000
set_option maxHeartbeats 40000000
set_option linter.unnecessarySimpa false
set_option linter.unusedSimpArgs false
set_option linter.unusedVariables false
namespace Go.Proofs.YtgmnknmjainababGreat
open Go.RowKit
attribute [local go_sem ↓] Go.wp_at_zero Go.wp_at_succ
open Ex
theorem zRH (L:Rat->Nat->Rat) (hL:Lns L) (w:World) (x y:Nm) (p q r s n d:Int) (b:Nat) (X1 X2 X3:Nat->Rat) (hx:IntAt w x.neg x.a x.n x.cap 4 n) (hy:IntAt w y.neg y.a y.n y.cap 4 d) (h:zKK p q r s n d b) (hX:IsLog (λ M=>X1 M+X2 M-X3 M) (bJ L ((p:Rat)/(q:Rat)) ((r:Rat)/(s:Rat)))) (L1:zKR p q b X1) (L2:zKR r s b X2) (L3:zKR (p*s+r*q) (q*s) b X3) :
  Calls Tryz.prog 76 #[.agg x.q,.agg y.q,.agg #[.int .i64 p,.int .i64 q],.agg #[.int .i64 r,.int .i64 s],.int .i64 b] w (λ z w'=>∃ lo hi,LwPr (bv L ((p:Rat)/(q:Rat)) ((r:Rat)/(s:Rat)) ((n:Rat)/(d:Rat))) b lo hi/\zJ w b 30 lo hi z w'):=by
 obtain⟨W,hW⟩:∃ W,W=((((w.alloc (.cells x.q 26)).alloc (.cells y.q 26)).alloc (.cells #[.int .i64 p,.int .i64 q] 23)).alloc (.cells #[.int .i64 r,.int .i64 s] 23)).alloc (.cells zCq 28):=⟨_,rfl⟩;have b8:Below w.heap.size w W:=by rw[hW];exact bl5 _ _ _ _ _ _
 have X0:NmC W (w.heap.size) x:=by rw[hW];constructor<;>simp[go_sem]
 have Y0:NmC W (w.heap.size+1) y:=by rw[hW];constructor<;>simp[go_sem]
 have A:RaC W (w.heap.size+1+1) p q:=by rw[hW];constructor<;>simp[go_sem]
 have D:RaC W (w.heap.size+1+1+1) r s:=by rw[hW];constructor<;>simp[go_sem]
 have R:NoC W (w.heap.size+1+1+1+1):=by rw[hW];constructor<;>simp[go_sem]
 have HX:=zC (hx.bw b8);have HY:=zC (hy.bw b8);have GR:=X0.c0;have GS:=X0.c1;have GW:=Y0.c0;have GX:=Y0.c1;clear hx hy;have p0':=h.p0;have eE:=h.q0;have AR:=h.r0;have s0':=h.s0;have n0':=h.n0;have nd:=h.nd;have dd:=h.dd;have b0:=h.b0;have b1:=h.b1;have qq:=h.qq;have ss:=h.ss;have pb:p<=204800:=by have:=h.pq;omega
 have rb:r<=204800:=by have:=h.rs;omega
 have tj:=zC (show -P 4<d-n/\d-n<P 4 by
  have:P 4=18446744073709551616:=rfl
  exact⟨by omega,by omega⟩)
 obtain⟨c,hc,G8⟩:∃ c:Int,zF n (d-n)=c/\c<=0:=⟨_,rfl,by unfold zF;split<;>(try split)<;>omega⟩
 have HC:=zC hc;have GY:=zC (show zF n 0=1 by unfold zF;rw[if_neg (by omega),if_pos (by omega)])
 have H:=zC h;have HL:=zC hL;have Nl:=zC hX;have ia:=zC L1;have jg:=zC L2;have Gw:=zC L3;obtain⟨NS,Jk,mK⟩:=pu_set h
 have PK:Q 1621<P 103:=by
  rw[<- Q_P];have h1:=zK (show 1621+1<=16*103 by omega)
  have g2:∀ j,Q (j+1)=2*Q j:=λ _=>rfl
  rw[g2] at h1;have:=zG 1621;generalize Q 1621=z at *;omega
 have HQB:=zC (show -P 103<Q b/\Q b<P 103 by
  have:=zG b;have:=zK (show b<=1621 by omega)
  have:=yB 103
  exact⟨by omega,by omega⟩)
 have Fe:=zC (show ∀ j,j<=NS -> -P 103<(puT p q r s n d b j).1/\(puT p q r s n d b j).2<P 103 from λ j _=>by
  have e:0<=(puT p q r s n d b j).1:=(zBV (zHN h) j).1;have u:=pu_hi h j;have:=yB 103
  exact⟨by omega,by omega⟩)
 have Ff:=zC (show ∀ j,j<=NS -> -P 103<(jE (puT p q r s n d b) j).1/\(jE (puT p q r s n d b) j).2<P 103 from λ j hj=>by
  have u:=pu_fit h j (by omega)
  have l:Q b<=(jE (puT p q r s n d b) j).1:=(zLU (zHN h) j).2.2;have:=zG b;have:=yB 103
  exact⟨by omega,by omega⟩)
 have Fg:=zC (λ j=>show (puT p q r s n d b j).1<=(puT p q r s n d b j).2 from (zBV (zHN h) j).2)
 have gV:=zC (λ j=>show 0<=(puT p q r s n d b j).1 from (zBV (zHN h) j).1)
 have HM:=zC mK;have hTN:=(pu_n h).2;have e2r:=(pu_n h).1;have aY:=zC (show IntKind.i64.wrap (2*r)=2*r from jL _ (by omega) (by omega))
 have tdv:(2*r).tdiv s=(puN r s:Int):=by rw[e2r];exact Int.tdiv_eq_ediv_of_nonneg (by omega)
 have kb:=zC (show (2*r).tdiv s=(puN r s:Int) from tdv)
 have Fc:=zC (show IntKind.i64.wrap (puN r s:Int)=(puN r s:Int) from jL _ (by omega) (by omega))
 have K9:=zC (show ∀ j:Nat,j<NS->(0<=((j:Int)+1-1)*(q*s)/\((j:Int)+1-1)*(q*s)<=1152921504606846976)/\(0<=(p*s+r*q)/\(p*s+r*q)<=1152921504606846976)/\(0<=((j:Int)+1)*q/\((j:Int)+1)*q<=1152921504606846976)/\0<(p+((j:Int)+1)*q)*s/\(p+((j:Int)+1)*q)*s<=1152921504606846976 from λ j hj=>by
  have m1:=zH3 qq ss (by omega) (by omega)
  have m2:=zH3 pb ss (by omega) (by omega)
  have m3:=zH3 rb qq (by omega) (by omega)
  have k1:=Yb (show 0<=q by omega) (show 0<=s by omega)
  have k2:=Yb (show 0<=p by omega) (show 0<=s by omega)
  have k3:=Yb (show 0<=r by omega) (show 0<=q by omega)
  have m4:=zH3 (show (j:Int)+1-1<=5100 by omega) (show (q*s)<=4194304 by omega) k1 (by omega)
  have k4:=Yb (show 0<=(j:Int)+1-1 by omega) k1
  have m5:=zH3 (show (j:Int)+1<=5101 by omega) qq (by omega) (by omega)
  have k5:=Yb (show 0<=(j:Int)+1 by omega) (show 0<=q by omega)
  have m6:=zH3 (show p+((j:Int)+1)*q<=20000000 by omega) ss (by omega) (by omega)
  exact⟨⟨k4,by omega⟩,⟨by omega,by omega⟩,⟨k5,by omega⟩,Int.mul_pos (by omega) s0',by omega⟩)
 clear h hL hX L1 L2 L3 mK PK hc tdv e2r
 go_enter Tryz.func76,Tryz.ntmps76
 go_upto_region 1 with fail
 rw[<- hW];clear hW;go_wp2_with fail;clear GR GS GW GX;refine (zAD _ _ _ _ _ _ _ _ 4 4 d n _ (zA HY) (zA HX) (by omega) (by omega)).mono ?_
 rintro z0 w0 ⟨negL,aL,nL,cL,rfl,eA,C9⟩;obtain⟨VL,ij⟩:∃ V,V=w0.alloc (.cells #[.bool negL,.slice aL nL cL] 26):=⟨_,rfl⟩;have bVL:Below w0.heap.size w0 VL:=by rw[ij];exact bl1 _ _
 have L0:NmC VL w0.heap.size (⟨negL,aL,nL,cL⟩:Nm):=by rw[ij];constructor<;>simp[go_sem]
 have Z0:=zC ((eA.fits (K:=4) (zA tj).1 (zA tj).2).bw bVL);have hbL:=zB C9 bVL;have kL:w.heap.size+1+1+1+1<w0.heap.size:=Yd R.lt C9.size;replace A:=A.bw hbL;replace D:=D.bw hbL;replace X0:=X0.bw hbL;replace Y0:=Y0.bw hbL;replace R:=R.bw hbL;replace HX:=zC ((zA HX).bw hbL);replace HY:=zC ((zA HY).bw hbL);replace b8:=zB b8 hbL;clear hbL C9 bVL eA;obtain⟨Z1,Z2⟩:=X0;obtain⟨nZ,oa⟩:=L0;have lX:=NmC.lt ⟨Z1,Z2⟩;have lL:=NmC.lt ⟨nZ,oa⟩
 go_upto_region 2 with fail
 rw[<- ij];clear ij;go_wp2_with fail;have X0:NmC VL (w.heap.size) x:=⟨Z1,Z2⟩;have L0:NmC VL w0.heap.size (⟨negL,aL,nL,cL⟩:Nm):=⟨nZ,oa⟩;clear Z1 Z2 nZ oa lX lL;refine (zU _ _ _ _ _ _ _ _ 4 4 n (d-n) _ (zA HX) (zA Z0)).mono ?_;rintro z1 w1 ⟨rfl,b7⟩;rw[zA HC];replace A:=A.bw b7;replace D:=D.bw b7;replace X0:=X0.bw b7;replace Y0:=Y0.bw b7;replace R:=R.bw b7;replace L0:=L0.bw b7;replace HX:=zC ((zA HX).bw b7);replace HY:=zC ((zA HY).bw b7);replace Z0:=zC ((zA Z0).bw b7);replace b8:=zB b8 b7;clear b7;obtain⟨Z1,Z2⟩:=X0;have lX:=NmC.lt ⟨Z1,Z2⟩;go_wp2_with fail;have X0:NmC w1 (w.heap.size) x:=⟨Z1,Z2⟩;clear Z1 Z2 lX;refine (yA _ _ _ _ _ n _ (zA HX)).mono ?_;rintro z2 w2 ⟨rfl,b9⟩;rw[zA GY];replace A:=A.bw b9;replace D:=D.bw b9;replace X0:=X0.bw b9;replace Y0:=Y0.bw b9;replace R:=R.bw b9;replace L0:=L0.bw b9;replace HX:=zC ((zA HX).bw b9);replace HY:=zC ((zA HY).bw b9)
 replace Z0:=zC ((zA Z0).bw b9);replace b8:=zB b8 b9;clear b9;have aa:=A.c0;have ab:=A.c1;have da:=D.c0;have db:=D.c1;have lA:=A.lt;have lD:=D.lt;go_wp2_with fail;clear aa ab da db lA lD;refine (zJD _ p q r s ⟨by omega,by omega,by omega,by omega⟩ ⟨by omega,by omega,by omega,by omega⟩).mono ?_
 rintro z3 w3 ⟨rfl,k8⟩;obtain⟨VE,Kd⟩:∃ V,V=w3.alloc (.cells #[.int .i64 (p*s+r*q),.int .i64 (q*s)] 23):=⟨_,rfl⟩;have bVE:Below w3.heap.size w3 VE:=by rw[Kd];exact bl1 _ _
 have E0:RaC VE w3.heap.size (p*s+r*q) (q*s):=by rw[Kd];exact zO5 w3 _ _ _
 have hbE:=zB k8 bVE;have kE:w.heap.size+1+1+1+1<w3.heap.size:=Yd R.lt k8.size;replace A:=A.bw hbE;replace D:=D.bw hbE;replace X0:=X0.bw hbE;replace Y0:=Y0.bw hbE;replace R:=R.bw hbE;replace L0:=L0.bw hbE;replace HX:=zC ((zA HX).bw hbE);replace HY:=zC ((zA HY).bw hbE);replace Z0:=zC ((zA Z0).bw hbE);replace b8:=zB b8 hbE;clear hbE k8 bVE;have lA:=A.lt;have lD:=D.lt;have Cm:=X0.lt;have Cn:=Y0.lt;have lR:=R.lt;have Co:=L0.lt;have Cp:=E0.lt;have cB:=zC (show ∀ w',Below VE.heap.size VE w'->(rK w' (w.heap.size+1+1) p q (rK w' (w.heap.size+1+1+1) r s (nK w' w.heap.size x (nK w' (w.heap.size+1) y (nK w' w0.heap.size (⟨negL,aL,nL,cL⟩:Nm) (w'.cell? ⟨w3.heap.size,0,none⟩=some (.int .i64 (p*s+r*q))/\w'.cell? ⟨w3.heap.size,1,none⟩=some (.int .i64 (q*s)))))))) from λ w' hB=>⟨(A.bw hB).c0,(A.bw hB).c1,(D.bw hB).c0,(D.bw hB).c1,(X0.bw hB).c0,(X0.bw hB).c1,(Y0.bw hB).c0,(Y0.bw hB).c1,(L0.bw hB).c0,(L0.bw hB).c1,(E0.bw hB).c0,(E0.bw hB).c1⟩)
 have Fh:=zC (show ∀ W',Below VE.heap.size VE W'->∀ (j:Nat) (u:Sp) w',j<NS->u.bits=(b:Int)->SpAt w' u 103 (puT p q r s n d b j).1 (puT p q r s n d b j).2->Below W'.heap.size W' w'->Calls Tryz.prog 142 #[.agg u.q,.int .i64 ((j:Int)+1),.pointer (some ⟨w3.heap.size,0,none⟩),.pointer (some ⟨w.heap.size+1+1,0,none⟩),.pointer (some ⟨w.heap.size+1+1+1,0,none⟩),.pointer (some ⟨w.heap.size,0,none⟩),.pointer (some ⟨w.heap.size+1,0,none⟩)] w' (zJ w' b 121 (puT p q r s n d b (j+1)).1 (puT p q r s n d b (j+1)).2) from λ W' Kq j u w' hj I0 E9 dD=>by
  have Q6:=zB Kq dD;obtain⟨⟨s1,s2⟩,⟨s3,s4⟩,⟨s5,s6⟩,s7,s8⟩:=zA K9 j hj;have e:=pt1_iv w' (w3.heap.size) (w.heap.size+1+1) (w.heap.size+1+1+1) (w.heap.size) (w.heap.size+1) u x y 103 b ((j:Int)+1) (puT p q r s n d b j) (p*s+r*q) (q*s) p q r s n d E9 ((zA HX).bw Q6) ((zA HY).bw Q6) (E0.bw Q6) (A.bw Q6) (D.bw Q6) (X0.bw Q6) (Y0.bw Q6) (by omega) I0 (by omega) (by omega) s1 s2 s3 s4 s5 s6 p0' (by omega) s7 s8 (by omega)
  have e1:((j:Int)+1-1)=(j:Int):=by omega
  have ec:((j+1:Nat):Int)=(j:Int)+1:=by omega
  have e2:puT p q r s n d b (j+1)=zE (puT p q r s n d b j) (puU p q r s n (j+1)) (puD p q s d (j+1)):=rfl;rw[e1] at e;rw[e2,pu_k];unfold puD;rw[ec]
  exact e)
 have hs1:¬ s=0:=by omega
 have aT:¬ s = -1:=by omega
 go_wp2_with fail;rw[<- Kd];clear Kd
 go_cut [13] (λ pz wx=>∃ (B:Nat) (u:Sp),pz=.pointer (some ⟨B,0,none⟩)/\VE.heap.size<=B/\VrC wx B u/\SpAt wx u 106 ((zAY p q r s n d b NS)).1 ((zAY p q r s n d b NS)).2/\u.bits=(b:Int)/\Below VE.heap.size VE wx)
 case first =>
  go_region_held3 (λ w'=>rK w' (w.heap.size+1+1) p q (rK w' (w.heap.size+1+1+1) r s (nK w' w.heap.size x (nK w' (w.heap.size+1) y (nK w' w0.heap.size (⟨negL,aL,nL,cL⟩:Nm) (w'.cell? ⟨w3.heap.size,0,none⟩=some (.int .i64 (p*s+r*q))/\w'.cell? ⟨w3.heap.size,1,none⟩=some (.int .i64 (q*s)))))))) (exact zA cB _ (by repeat' (first|with_reducible exact W8|with_reducible exact J6|with_reducible exact Below.refl _ _|with_reducible refine Below.drew ?_|with_reducible refine zL ?_ _|with_reducible refine Below.setCell ?_ (by first|exact XW _|exact aB|exact aC) _)))
   (first
    | (go_at_call 141;(try rw[zA aY]);(try rw[zA kb]);(try rw[zA Fc]);have hq:=J6;refine (rise_pt _ _ _ _ _ (puT p q r s n d b) (puN r s) NS b 103 121 oN _ ((zA HP9).bw (by with_reducible first|exact Below.refl _ _|exact bl1 _ _)) (zA sP) (by omega) (by omega) (by omega) (by omega) (zA HM) (by omega) (by omega) (zA Fg) (zA gV) (zA Fe) (zA Ff) (zA Fh _ (by with_reducible first|exact J6|exact zL J6 _))).mono ?_;rintro r oL ⟨nD,rfl,dY,cC,aG⟩;have sO:=zC dY;clear dY;have bD:Below gZ.heap.size gZ oL:=(by with_reducible first|exact aG|exact zB (bl1 _ _) aG);have W8:=zB J6 bD;(try with_reducible have ke:=(zM gZ 28).bw aG);(try replace cW:=cW.bw bD);have aC:=W8.size;(try have rT:=cW.lt);(try have WR:=Yj rT);(try have Fl:=Yi rT);(try obtain⟨mL,mM,mN,mO,mP,Fm⟩:=cW);(try have rV:=ke.lt);(try have WS:=Yj rV);(try have Fo:=Yi rV);(try obtain⟨mQ,mR,mS,mV,mW,Fp⟩:=ke))
    | (go_at_call 133;refine (zHH _ b (by omega)).mono ?_;rintro r' gZ ⟨oN,rfl,dZ,W9,aH⟩;rw[show 1*Q b/1=Q b by rw[Int.ediv_one,Int.one_mul],show -(-(1*Q b)/1)=Q b by rw[Int.ediv_one,Int.one_mul,Int.neg_neg]] at W9;have sP:=zC dZ;have HP9:=zC (W9.fits (K:=103) (Int.le_refl _) (zA HQB).1 (zA HQB).2);clear dZ W9;have J6:Below VE.heap.size VE gZ:=(by with_reducible first|exact zB (Below.refl _ _).drew aH|exact zB (bl1 _ _).drew aH);(try with_reducible have cW:=((zM VE 28).bw (Below.refl _ _).drew).bw aH);have aB:=J6.size))
  all_goals
   have hfinS:SpAt oL nD 106 ((zAY p q r s n d b NS)).1 ((zAY p q r s n d b NS)).2:=cC;go_wp2_with fail;go_meet;refine⟨_,nD,rfl,?_,⟨⟨?_,?_,?_,?_,?_⟩,?_⟩,?_,zA sO,?_⟩
   ·first|exact XW _|exact aB|exact aC
   ·simp[go_sem, *]
   ·simp[go_sem, *]
   ·simp[go_sem, *]
   ·simp[go_sem, *]
   ·simp[go_sem, *]
   ·intro o;simp[go_sem, *]
   ·first|with_reducible exact SpAt.put5 hfinS mQ mR mS mV mW _ _ _ _ _|with_reducible exact SpAt.put5 hfinS mL mM mN mO mP _ _ _ _ _|with_reducible exact hfinS.bw (bl1 _ _)
   ·repeat' (first|with_reducible exact W8|with_reducible exact J6|with_reducible exact Below.refl _ _|with_reducible refine Below.drew ?_|with_reducible refine zL ?_ _|with_reducible refine Below.setCell ?_ (by first|exact XW _|exact aB|exact aC) _)
 case rest =>
 obtain⟨BS,xS,rfl,Fq,XS,hpS,hxbS,hblS⟩:=hcut;obtain⟨V7,Cl⟩:∃ V,V=wc:=⟨_,rfl⟩;subst Cl;have kS:=Yd lR Fq;replace A:=A.bw hblS;replace D:=D.bw hblS;replace X0:=X0.bw hblS;replace Y0:=Y0.bw hblS;replace R:=R.bw hblS;replace L0:=L0.bw hblS;replace E0:=E0.bw hblS;replace HX:=zC ((zA HX).bw hblS);replace HY:=zC ((zA HY).bw hblS);replace Z0:=zC ((zA Z0).bw hblS);replace b8:=zB b8 hblS;have hO:=zC hpS;have Q8:=zC hxbS;have XSC:=XS.c;clear hpS hxbS XS cB Fh Fg gV Fe Ff aY kb Fc K9 hs1 aT lA lD Cm Cn lR Co Cp Fq;have lA:=A.lt;have lD:=D.lt;have Cm:=X0.lt;have Cn:=Y0.lt;have lR:=R.lt;have Co:=L0.lt;have Cp:=E0.lt;have lS:=XSC.lt;have Z5:=zC (show ∀ w',Below V7.heap.size V7 w'->(rK w' (w.heap.size+1+1) p q (rK w' (w.heap.size+1+1+1) r s (nK w' w.heap.size x (nK w' (w.heap.size+1) y (nK w' w0.heap.size (⟨negL,aL,nL,cL⟩:Nm) (w'.cell? ⟨w3.heap.size,0,none⟩=some (.int .i64 (p*s+r*q))/\w'.cell? ⟨w3.heap.size,1,none⟩=some (.int .i64 (q*s))/\cK0 w' BS xS)))))) from λ w' hB=>⟨(A.bw hB).c0,(A.bw hB).c1,(D.bw hB).c0,(D.bw hB).c1,(X0.bw hB).c0,(X0.bw hB).c1,(Y0.bw hB).c0,(Y0.bw hB).c1,(L0.bw hB).c0,(L0.bw hB).c1,(E0.bw hB).c0,(E0.bw hB).c1,(XSC.bw hB).c0,(XSC.bw hB).c1,(XSC.bw hB).c2,(XSC.bw hB).c3,(XSC.bw hB).c4⟩)
 go_wp2_with fail
 go_cut [14] (λ pz wx=>∃ (B:Nat) (u:Sp) (o1 o2 o3 o4:Int),pz=.pointer (some ⟨B,0,none⟩)/\zDE L ((d:Rat)/(n:Rat)) b (o1,o2)/\zDE L ((d:Rat)/((d-n:Int):Rat)) b (o3,o4)/\V7.heap.size<=B/\VrC wx B u/\SpAt wx u 535 (jJ (zE (o1,o2) p q) (zE (o3,o4) r s)).1 (jJ (zE (o1,o2) p q) (zE (o3,o4) r s)).2/\u.bits=(b:Int)/\Below V7.heap.size V7 wx)
 case first =>
  go_region_held3 (λ w'=>rK w' (w.heap.size+1+1) p q (rK w' (w.heap.size+1+1+1) r s (nK w' w.heap.size x (nK w' (w.heap.size+1) y (nK w' w0.heap.size (⟨negL,aL,nL,cL⟩:Nm) (w'.cell? ⟨w3.heap.size,0,none⟩=some (.int .i64 (p*s+r*q))/\w'.cell? ⟨w3.heap.size,1,none⟩=some (.int .i64 (q*s))/\cK0 w' BS xS)))))) (exact zA Z5 _ (by repeat' (first|with_reducible exact Ar|with_reducible exact oc|with_reducible exact od|with_reducible exact cR|with_reducible exact og|with_reducible exact Below.refl _ _|with_reducible refine Below.drew ?_|with_reducible refine zL ?_ _|with_reducible refine Below.setCell ?_ (by first|exact XW _|exact At|exact Av|exact Aw|exact Ax|exact Ay) _)))
   (first
    | (go_at_call 113;have hq:=oc;refine (zA5 _ vP2 vP4 534 b (zE (o1,o2) p q) (zE (o3,o4) r s) ((gy.bw (by with_reducible first|exact Below.refl _ _|exact bl1 _ _)).mono (by omega)) ((AA.bw (by with_reducible first|exact Below.refl _ _|exact bl1 _ _)).mono (by omega)) (by omega) (zA GZ)).mono ?_;rintro r wP5 ⟨vP5,rfl,tk,Rj,AD⟩;have Ha:=zC tk;clear tk;have gz:Below Ke.heap.size Ke wP5:=(by with_reducible first|exact AD|exact zB (bl1 _ _) AD);have Ar:=zB oc gz;(try with_reducible have gP5:=(zM Ke 28).bw AD);(try replace oR:=oR.bw gz);replace gy:=gy.bw gz;(try replace tq:=tq.bw gz);(try replace Cq:=Cq.bw gz);replace AA:=AA.bw gz;(try replace Kf:=Kf.bw gz);have Ay:=Ar.size;(try have mP1:=oR.lt);(try have eP1:=Yj mP1);(try have eP1':=Yi mP1);(try obtain⟨Rk,Rl,Rm,Rn,Ro,zP15⟩:=oR);(try have mP2:=tq.lt);(try have KW:=Yj mP2);(try have eP2':=Yi mP2);(try obtain⟨Rp,Rq,Rs,Rt,Rv,zP25⟩:=tq);(try have mP3:=Cq.lt);(try have eP3:=Yj mP3);(try have eP3':=Yi mP3);(try obtain⟨Rw,Rx,Ry,Rz,RA,zP35⟩:=Cq);(try have mP4:=Kf.lt);(try have eP4:=Yj mP4);(try have eP4':=Yi mP4);(try obtain⟨RB,RC,RD,RE,RF,zP45⟩:=Kf);(try have mP5:=gP5.lt);(try have eP5:=Yj mP5);(try have eP5':=Yi mP5);(try obtain⟨RG,RH,RI,RJ,RK,zP55⟩:=gP5))
    | (go_at_call 144;have hq:=od;refine (zDM _ vP3 520 b (o3,o4) r s (RL.bw (by with_reducible first|exact Below.refl _ _|exact bl1 _ _)) (by omega) (zA Hb) (by omega) (by omega) s0' (by omega)).mono ?_;rintro r Ke ⟨vP4,rfl,tr,AA,AE⟩;have HVBP4:=zC tr;clear tr;have oh:Below Kg.heap.size Kg Ke:=(by with_reducible first|exact AE|exact zB (bl1 _ _) AE);have oc:=zB od oh;(try with_reducible have Kf:=(zM Kg 28).bw AE);(try replace oR:=oR.bw oh);replace gy:=gy.bw oh;(try replace tq:=tq.bw oh);(try replace Cq:=Cq.bw oh);have Ax:=oc.size)
    | (go_at_call 116;have hq:=cR;refine (zD3 L (zA HL) _ y (⟨negL,aL,nL,cL⟩:Nm) b d (d-n) ((zA HY).bw (by with_reducible first|exact cR|exact zL cR _)) ((zA Z0).bw (by with_reducible first|exact cR|exact zL cR _)) (by omega) (by omega) b0 b1).mono ?_;rintro r' Kg ⟨o3,o4,om,vP3,rfl,tv,RL,AF⟩;have Hb:=zC tv;have Hd:=zC om;clear tv om;have qo:Below Kh.heap.size Kh Kg:=(by with_reducible first|exact AF|exact zB (bl1 _ _) AF);have od:=zB cR qo;(try with_reducible have Cq:=(zM Kh 28).bw AF);(try replace oR:=oR.bw qo);replace gy:=gy.bw qo;(try replace tq:=tq.bw qo);have Aw:=od.size)
    | (go_at_call 144;have hq:=og;refine (zDM _ vP1 520 b (o1,o2) p q (RM.bw (by with_reducible first|exact Below.refl _ _|exact bl1 _ _)) (by omega) (zA He) (by omega) (by omega) eE (by omega)).mono ?_;rintro r Kh ⟨vP2,rfl,tx,gy,AG⟩;have GZ:=zC tx;clear tx;have Hf:Below Ki.heap.size Ki Kh:=(by with_reducible first|exact AG|exact zB (bl1 _ _) AG);have cR:=zB og Hf;(try with_reducible have tq:=(zM Ki 28).bw AG);(try replace oR:=oR.bw Hf);have Av:=cR.size)
    | (go_at_call 116;refine (zD3 L (zA HL) _ y x b d n ((zA HY).bw (by with_reducible first|exact (Below.refl _ _).drew|exact (bl1 _ _).drew)) ((zA HX).bw (by with_reducible first|exact (Below.refl _ _).drew|exact (bl1 _ _).drew)) (by omega) n0' b0 b1).mono ?_;rintro r' Ki ⟨o1,o2,oo,vP1,rfl,tz,RM,AH⟩;have He:=zC tz;have Hg:=zC oo;clear tz oo;have og:Below V7.heap.size V7 Ki:=(by with_reducible first|exact zB (Below.refl _ _).drew AH|exact zB (bl1 _ _).drew AH);(try with_reducible have oR:=((zM V7 28).bw (Below.refl _ _).drew).bw AH);have At:=og.size))
  all_goals
   have hfinP:SpAt wP5 vP5 535 (jJ (zE (o1,o2) p q) (zE (o3,o4) r s)).1 (jJ (zE (o1,o2) p q) (zE (o3,o4) r s)).2:=Rj;go_wp2_with fail;go_meet;refine⟨_,vP5,o1,o2,o3,o4,rfl,zA Hg,zA Hd,?_,⟨⟨?_,?_,?_,?_,?_⟩,?_⟩,?_,zA Ha,?_⟩
   ·first|exact XW _|exact At|exact Av|exact Aw|exact Ax|exact Ay
   ·simp[go_sem, *]
   ·simp[go_sem, *]
   ·simp[go_sem, *]
   ·simp[go_sem, *]
   ·simp[go_sem, *]
   ·intro o;simp[go_sem, *]
   ·first|with_reducible exact SpAt.put5 hfinP RG RH RI RJ RK _ _ _ _ _|with_reducible exact SpAt.put5 hfinP RB RC RD RE RF _ _ _ _ _|with_reducible exact SpAt.put5 hfinP Rw Rx Ry Rz RA _ _ _ _ _|with_reducible exact SpAt.put5 hfinP Rp Rq Rs Rt Rv _ _ _ _ _|with_reducible exact SpAt.put5 hfinP Rk Rl Rm Rn Ro _ _ _ _ _|with_reducible exact hfinP.bw (bl1 _ _)
   ·repeat' (first|with_reducible exact Ar|with_reducible exact oc|with_reducible exact od|with_reducible exact cR|with_reducible exact og|with_reducible exact Below.refl _ _|with_reducible refine Below.drew ?_|with_reducible refine zL ?_ _|with_reducible refine Below.setCell ?_ (by first|exact XW _|exact At|exact Av|exact Aw|exact Ax|exact Ay) _)
 case rest =>
 obtain⟨BP,xP,o1,o2,o3,o4,rfl,oo,om,hHP,XP,hpP,hxbP,hblP⟩:=hcut;obtain⟨V8,hV8⟩:∃ V,V=wc:=⟨_,rfl⟩;subst hV8;have kP:=Yd lR hHP;replace A:=A.bw hblP;replace D:=D.bw hblP;replace X0:=X0.bw hblP;replace Y0:=Y0.bw hblP;replace R:=R.bw hblP;replace L0:=L0.bw hblP;replace E0:=E0.bw hblP;replace HX:=zC ((zA HX).bw hblP);replace HY:=zC ((zA HY).bw hblP);replace Z0:=zC ((zA Z0).bw hblP);replace b8:=zB b8 hblP;replace XSC:=XSC.bw hblP;replace hO:=zC ((zA hO).bw hblP);have dP:=zC hpP;have JB:=zC hxbP;have vJ:=zC oo;have HO3:=zC om;have XPC:=XP.c;clear hpP hxbP oo om XP Z5 lS lA lD Cm Cn lR Co Cp hHP;have lA:=A.lt;have lD:=D.lt;have Cm:=X0.lt;have Cn:=Y0.lt;have lR:=R.lt;have Co:=L0.lt;have Cp:=E0.lt;have lS:=XSC.lt;have lP:=XPC.lt;have HK9:=zC (show ∀ w',Below V8.heap.size V8 w'->(rK w' (w.heap.size+1+1) p q (rK w' (w.heap.size+1+1+1) r s (nK w' w.heap.size x (nK w' (w.heap.size+1) y (nK w' w0.heap.size (⟨negL,aL,nL,cL⟩:Nm) (w'.cell? ⟨w3.heap.size,0,none⟩=some (.int .i64 (p*s+r*q))/\w'.cell? ⟨w3.heap.size,1,none⟩=some (.int .i64 (q*s))/\cK w' BS xS (cK0 w' BP xP))))))) from λ w' hB=>⟨(A.bw hB).c0,(A.bw hB).c1,(D.bw hB).c0,(D.bw hB).c1,(X0.bw hB).c0,(X0.bw hB).c1,(Y0.bw hB).c0,(Y0.bw hB).c1,(L0.bw hB).c0,(L0.bw hB).c1,(E0.bw hB).c0,(E0.bw hB).c1,(XSC.bw hB).c0,(XSC.bw hB).c1,(XSC.bw hB).c2,(XSC.bw hB).c3,(XSC.bw hB).c4,(XPC.bw hB).c0,(XPC.bw hB).c1,(XPC.bw hB).c2,(XPC.bw hB).c3,(XPC.bw hB).c4⟩)
 go_wp2_with fail
 go_cut [15] (λ pz wx=>∃ (B:Nat) (u:Sp) (o5 o6 lg ug:Int),pz=.pointer (some ⟨B,0,none⟩)/\zDE L ((p:Rat)/(q:Rat)) b (o5,o6)/\LgP3 (λ M=>X1 M+X2 M-X3 M) b lg ug/\V8.heap.size<=B/\VrC wx B u/\SpAt wx u 524 (jJ (o5,o6) (lg,ug)).1 (jJ (o5,o6) (lg,ug)).2/\u.bits=(b:Int)/\Below V8.heap.size V8 wx)
 case first =>
  go_region_held3 (λ w'=>rK w' (w.heap.size+1+1) p q (rK w' (w.heap.size+1+1+1) r s (nK w' w.heap.size x (nK w' (w.heap.size+1) y (nK w' w0.heap.size (⟨negL,aL,nL,cL⟩:Nm) (w'.cell? ⟨w3.heap.size,0,none⟩=some (.int .i64 (p*s+r*q))/\w'.cell? ⟨w3.heap.size,1,none⟩=some (.int .i64 (q*s))/\cK w' BS xS (cK0 w' BP xP))))))) (exact zA HK9 _ (by repeat' (first|with_reducible exact AJ|with_reducible exact oq|with_reducible exact cM|with_reducible exact aN|with_reducible exact aO|with_reducible exact Below.refl _ _|with_reducible refine Below.drew ?_|with_reducible refine zL ?_ _|with_reducible refine Below.setCell ?_ (by first|exact XW _|exact fX|exact fY|exact fZ|exact AK|exact AL) _)))
   (first
    | (go_at_call 113;have hq:=oq;refine (zA5 _ JY vZ4 523 b (o5,o6) (lg,ug) (((zj.bw gB).bw (by with_reducible first|exact Below.refl _ _|exact bl1 _ _)).mono (by omega)) ((RN.bw (by with_reducible first|exact Below.refl _ _|exact bl1 _ _)).mono (by omega)) (by omega) (zA nT)).mono ?_;rintro r wZ5 ⟨vZ5,rfl,tA,RO,AM⟩;have Hh:=zC tA;clear tA;have gC:Below Kj.heap.size Kj wZ5:=(by with_reducible first|exact AM|exact zB (bl1 _ _) AM);have AJ:=zB oq gC;(try with_reducible have gZ5:=(zM Kj 28).bw AM);replace aP:=aP.bw gC;(try replace ei:=ei.bw gC);replace cO:=cO.bw gC;(try replace jr:=jr.bw gC);(try replace qh:=qh.bw gC);(try replace Kk:=Kk.bw gC);have AL:=AJ.size;(try have GH:=ei.lt);(try have eZ1:=Yj GH);(try have QB:=Yi GH);(try obtain⟨zk,zl,zm,zn,zo,QC⟩:=ei);(try have GI:=jr.lt);(try have eZ2:=Yj GI);(try have QD:=Yi GI);(try obtain⟨zq,zv,zw,Aa,Ab,QE⟩:=jr);(try have GJ:=qh.lt);(try have eZ3:=Yj GJ);(try have QF:=Yi GJ);(try obtain⟨Ac,Ad,Ae,Af,Ag,QG⟩:=qh);(try have mZ4:=Kk.lt);(try have eZ4:=Yj mZ4);(try have eZ4':=Yi mZ4);(try obtain⟨RP,RQ,RR,RS,RT,zZ45⟩:=Kk);(try have mZ5:=gZ5.lt);(try have eZ5:=Yj mZ5);(try have eZ5':=Yi mZ5);(try obtain⟨RV,RW,RX,RY,RZ,zZ55⟩:=gZ5))
    | (go_at_call 63;have hq:=cM;refine (zJX _ p q r s b X1 X2 X3 ⟨by omega,by omega,by omega,by omega⟩ ⟨by omega,by omega,by omega,by omega⟩ (zA ia) (zA jg) (zA Gw)).mono ?_;rintro r' Kj ⟨lg,ug,ri,vZ4,rfl,tB,RN,AO⟩;have HVBZ4:=zC tB;have Hhlg:=zC ri;clear tB ri;have gB:Below zi.heap.size zi Kj:=(by with_reducible first|exact AO|exact zB (bl1 _ _) AO);have oq:=zB cM gB;(try with_reducible have Kk:=(zM zi 28).bw AO);replace aP:=aP.bw gB;(try replace ei:=ei.bw gB);replace cO:=cO.bw gB;(try replace jr:=jr.bw gB);(try replace qh:=qh.bw gB);have AK:=oq.size)
    | (go_at_call 116;have hq:=aN;refine (zD3 L (zA HL) _ ⟨Hi,aZ1,nZ1,cZ1⟩ ⟨Hj,aZ2,nZ2,cZ2⟩ b p q (aP.bw (by with_reducible first|exact Below.refl _ _|exact bl1 _ _)) (cO.bw (by with_reducible first|exact Below.refl _ _|exact bl1 _ _)) p0' eE b0 b1).mono ?_;rintro r' zi ⟨o5,o6,ot,JY,rfl,eh,zj,gj⟩;have nT:=zC eh;have Hk:=zC ot;clear eh ot;have cQ:Below qg.heap.size qg zi:=(by with_reducible first|exact gj|exact zB (bl1 _ _) gj);have cM:=zB aN cQ;(try with_reducible have qh:=(zM qg 28).bw gj);replace aP:=aP.bw cQ;(try replace ei:=ei.bw cQ);replace cO:=cO.bw cQ;(try replace jr:=jr.bw cQ);have fZ:=cM.size)
    | (go_at_call 43;have hq:=aO;refine (zD q _ (by omega) (by omega)).mono ?_;rintro r qg ⟨Hj,aZ2,nZ2,cZ2,rfl,cO,gm⟩;have gi:Below ql.heap.size ql qg:=(by with_reducible first|exact gm|exact zB (bl1 _ _) gm);have aN:=zB aO gi;(try with_reducible have jr:=(zM ql 28).bw gm);replace aP:=aP.bw gi;(try replace ei:=ei.bw gi);have fY:=aN.size)
    | (go_at_call 43;refine (zD p _ (by omega) (by omega)).mono ?_;rintro r ql ⟨Hi,aZ1,nZ1,cZ1,rfl,aP,gx⟩;have aO:Below V8.heap.size V8 ql:=(by with_reducible first|exact zB (Below.refl _ _).drew gx|exact zB (bl1 _ _).drew gx);(try with_reducible have ei:=((zM V8 28).bw (Below.refl _ _).drew).bw gx);have fX:=aO.size))
  all_goals
   have hfinZ:SpAt wZ5 vZ5 524 (jJ (o5,o6) (lg,ug)).1 (jJ (o5,o6) (lg,ug)).2:=RO;go_wp2_with fail;go_meet;refine⟨_,vZ5,o5,o6,lg,ug,rfl,zA Hk,zA Hhlg,?_,⟨⟨?_,?_,?_,?_,?_⟩,?_⟩,?_,zA Hh,?_⟩
   ·first|exact XW _|exact fX|exact fY|exact fZ|exact AK|exact AL
   ·simp[go_sem, *]
   ·simp[go_sem, *]
   ·simp[go_sem, *]
   ·simp[go_sem, *]
   ·simp[go_sem, *]
   ·intro o;simp[go_sem, *]
   ·first|with_reducible exact SpAt.put5 hfinZ RV RW RX RY RZ _ _ _ _ _|with_reducible exact SpAt.put5 hfinZ RP RQ RR RS RT _ _ _ _ _|with_reducible exact SpAt.put5 hfinZ Ac Ad Ae Af Ag _ _ _ _ _|with_reducible exact SpAt.put5 hfinZ zq zv zw Aa Ab _ _ _ _ _|with_reducible exact SpAt.put5 hfinZ zk zl zm zn zo _ _ _ _ _|with_reducible exact hfinZ.bw (bl1 _ _)
   ·repeat' (first|with_reducible exact AJ|with_reducible exact oq|with_reducible exact cM|with_reducible exact aN|with_reducible exact aO|with_reducible exact Below.refl _ _|with_reducible refine Below.drew ?_|with_reducible refine zL ?_ _|with_reducible refine Below.setCell ?_ (by first|exact XW _|exact fX|exact fY|exact fZ|exact AK|exact AL) _)
 case rest =>
 obtain⟨BZ,xZ,o5,o6,lg,ug,rfl,ot,ri,JZ,XZ,hpZ,hxbZ,hblZ⟩:=hcut;obtain⟨V9,Cr⟩:∃ V,V=wc:=⟨_,rfl⟩;subst Cr;have kZ:=Yd lR JZ;replace A:=A.bw hblZ;replace D:=D.bw hblZ;replace X0:=X0.bw hblZ;replace Y0:=Y0.bw hblZ;replace R:=R.bw hblZ;replace L0:=L0.bw hblZ;replace E0:=E0.bw hblZ;replace HX:=zC ((zA HX).bw hblZ);replace HY:=zC ((zA HY).bw hblZ);replace Z0:=zC ((zA Z0).bw hblZ);replace b8:=zB b8 hblZ;replace XSC:=XSC.bw hblZ;replace XPC:=XPC.bw hblZ;replace hO:=zC ((zA hO).bw hblZ);replace dP:=zC ((zA dP).bw hblZ);have HZP:=zC hpZ;have HZB:=zC hxbZ;have XZC:=XZ.c;obtain⟨l,t,NE,e1,e2,e3,e4,e5,e6,e7,e8⟩:=pu_exp (zA H) (zA vJ) (zA HO3) ot ri (zA HL) (zA Nl) Jk (zA HM);have aY:=zC e1;have kb:=zC e2;have HE4:=zC e4;have wZ:=zC e5;have On:=zC e6;have HYL:=zC e7;have gD:=zC e8;clear e1 e2 e4 e5 e6 e7 e8 hpZ hxbZ ot ri XZ HK9 lS lP lA lD Cm Cn lR Co Cp JZ
 have lA:=A.lt;have lD:=D.lt;have Cm:=X0.lt;have Cn:=Y0.lt;have lR:=R.lt;have Co:=L0.lt;have Cp:=E0.lt;have lS:=XSC.lt;have lP:=XPC.lt;have lZ:=XZC.lt;have Hl:=zC (show ∀ w',Below V9.heap.size V9 w'->(rK w' (w.heap.size+1+1) p q (rK w' (w.heap.size+1+1+1) r s (nK w' w.heap.size x (nK w' (w.heap.size+1) y (nK w' w0.heap.size (⟨negL,aL,nL,cL⟩:Nm) (w'.cell? ⟨w3.heap.size,0,none⟩=some (.int .i64 (p*s+r*q))/\w'.cell? ⟨w3.heap.size,1,none⟩=some (.int .i64 (q*s))/\cK w' BS xS (cK w' BP xP (cK0 w' BZ xZ)))))))) from λ w' hB=>⟨(A.bw hB).c0,(A.bw hB).c1,(D.bw hB).c0,(D.bw hB).c1,(X0.bw hB).c0,(X0.bw hB).c1,(Y0.bw hB).c0,(Y0.bw hB).c1,(L0.bw hB).c0,(L0.bw hB).c1,(E0.bw hB).c0,(E0.bw hB).c1,(XSC.bw hB).c0,(XSC.bw hB).c1,(XSC.bw hB).c2,(XSC.bw hB).c3,(XSC.bw hB).c4,(XPC.bw hB).c0,(XPC.bw hB).c1,(XPC.bw hB).c2,(XPC.bw hB).c3,(XPC.bw hB).c4,(XZC.bw hB).c0,(XZC.bw hB).c1,(XZC.bw hB).c2,(XZC.bw hB).c3,(XZC.bw hB).c4⟩)
 have Kl:Below V9.heap.size V9 V9.drew:=(Below.refl _ _).drew;have vz:w.heap.size+1+1+1+1≠BS:=by omega
 have rh:w.heap.size+1+1+1+1≠BP:=by omega
 have IX:w.heap.size+1+1+1+1≠BZ:=by omega
 have VH:w.heap.size+1+1+1+1≠w0.heap.size:=by omega
 have nR5:w.heap.size+1+1+1+1≠w3.heap.size:=by omega
 have nR6:w.heap.size+1+1+1+1≠w.heap.size:=by omega
 have nR7:w.heap.size+1+1+1+1≠w.heap.size+1:=by omega
 have nR8:w.heap.size+1+1+1+1≠w.heap.size+1+1:=by omega
 have nR9:w.heap.size+1+1+1+1≠w.heap.size+1+1+1:=by omega
 have nRa:w.heap.size+1+1≠w.heap.size:=by omega
 have nRb:w.heap.size+1+1+1≠w.heap.size:=by omega
 go_wp2_with fail;obtain⟨x0,x1,x2,x3,x4,x5,x6,x7,x8,x9,x10,x11,x12,x13,x14,x15,x16,x17,x18,x19,x20,x21,x22,x23,x24,x25,x26⟩:=zA Hl _ (Below.refl _ _)
 go_region_held3 (λ w'=>rK w' (w.heap.size+1+1) p q (rK w' (w.heap.size+1+1+1) r s (nK w' w.heap.size x (nK w' (w.heap.size+1) y (nK w' w0.heap.size (⟨negL,aL,nL,cL⟩:Nm) (w'.cell? ⟨w3.heap.size,0,none⟩=some (.int .i64 (p*s+r*q))/\w'.cell? ⟨w3.heap.size,1,none⟩=some (.int .i64 (q*s))/\cK w' BS xS (cK w' BP xP (cK0 w' BZ xZ)))))))) (first|exact zA Hl _ (by with_reducible first|exact Kl|exact Sa|exact Sb|exact Bm|exact Sc)|(dsimp only[cK,cK0,nK,nK0,rK,rK0];go_keep)|go_keep)
  (first
   | (go_at_call 145;have hq:=Sb;refine (zK9 _ f3 _ b _ _ Sd (zA F3) (by omega) (by omega) (by omega)).mono ?_;rintro r' g4 ⟨f4,rfl,Ho,Hp,GN⟩;rw[minZ_cap] at Hp;have F4:=zC Ho;clear Ho;have Sa:=zB Sb GN;obtain⟨q0,q1,q2,q3,q4,q5⟩:=R.bw Sa)
   | (go_at_call 146;have hq:=Bm;refine (zFQ _ xS f2 98400 b (zAY p q r s n d b NS).1 (zAY p q r s n d b NS).2 (puE p q r s b (o1,o2) (o3,o4) (o5,o6) (lg,ug) t NE).1 (puE p q r s b (o1,o2) (o3,o4) (o5,o6) (lg,ug) t NE).2 (((zA hO).bw Bm).mono (by omega)) Se (by omega) (by omega) (zA Q8) (zA gD).2.2.2.1 (λ hh=>absurd hh.1 (Int.not_le.2 (zA gD).1)) (zA gD).2.1).mono ?_;rintro r' g3 ⟨f3,rfl,Hr,Sd,qT⟩;have F3:=zC Hr;clear Hr;have Sb:=zB Bm qT)
   | (go_at_call 147;have hq:=Sc;refine (zGM _ f1 98400 b t NE (puY p q r s (o1,o2) (o3,o4) (o5,o6) (lg,ug)) l (SpAt.mono (show SpAt _ f1 536 (puY p q r s (o1,o2) (o3,o4) (o5,o6) (lg,ug)).1 (puY p q r s (o1,o2) (o3,o4) (o5,o6) (lg,ug)).2 from Sf) (by omega)) (zA F1) (zA HYL) (by omega) (by omega) (zA aY) (zA kb) (by omega) (zA HE4) (zA wZ) (zA On) (by omega)).mono ?_;rintro r' g2 ⟨f2,rfl,Sg,Se,GO⟩;clear Sg;have Bm:=zB Sc GO)
   | (go_at_call 113;refine (zA5 _ xP xZ 535 b (jJ (zE (o1,o2) p q) (zE (o3,o4) r s)) (jJ (o5,o6) (lg,ug)) ((zA dP).bw Kl) (((zA HZP).bw Kl).mono (by omega)) (by omega) (zA JB)).mono ?_;rintro r' g1 ⟨f1,rfl,Hw,Sf,qH⟩;have F1:=zC Hw;clear Hw;have Sc:=zB Kl qH))
 all_goals
  have fit:=SpAt.fits (K:=30) (show SpAt g4 f4 _ (zEZ (zAY p q r s n d b NS).1 (zAY p q r s n d b NS).2 (puE p q r s b (o1,o2) (o3,o4) (o5,o6) (lg,ug) t NE).1 (puE p q r s b (o1,o2) (o3,o4) (o5,o6) (lg,ug) t NE).2 b) (luHi (zAY p q r s n d b NS) (puE p q r s b (o1,o2) (o3,o4) (o5,o6) (lg,ug) t NE) b) from Hp) (zPK (zA gD).2.2.2.2 b1).1 (zPK (zA gD).2.2.2.2 b1).2.1 (zPK (zA gD).2.2.2.2 b1).2.2
  go_wp2_with fail;refine bodyPost_ret (v:=.agg f4.q) (by simp[results,Tryz.results76,go_sem,q0,q1,q2,q3,q4]) rfl ⟨_,_,(zA gD).2.2.2.2,f4,rfl,zA F4,?_,?_⟩
  ·exact SpAt.put5 fit q0 q1 q2 q3 q4 _ _ _ _ _
  ·exact kB (zB b8 Sa) (by omega) _ _ _ _ _
theorem zI0 (L:Rat->Nat->Rat) (hL:Lns L) (w:World) (n d:Int) (b:Nat) (g x:Nat->Rat) (h:StIn n d) (hn:n<=4611686018427387904) (C9:40<=b) (hb:b<=1000) (hg:Gam1 L (((n-(stN n d:Int)*d):Int)/(d:Rat)) g) (Bv:∃ c:Rat,0<c/\∃ N:Nat,∀ M,N<=M->c<=g M) (hx:IsLog x (gmV n d g)) :
  Calls Tryz.prog 61 #[.int .i64 n,.int .i64 d,.int .i64 b] w (λ r w'=>∃ lo hi,LgP2 x b lo hi/\zJ w b 521 lo hi r w'):=by
 have HI:=zC (h.in_ (B:=b) (by omega) (by omega))
 have Nx:=h.rest.2.2;have Km:=zC (show 0<stP n d (stN n d)/\0<stQ d (stN n d) from⟨zQE h (XW _),zJ8 h.d0 _⟩)
 have H:=zC h;have HL:=zC hL;have HG:=zC hg;have HGP:=zC Bv;have Pe:=zC hx
 have BQ:=zC (show Q (b+4)<P 500 by
  rw[<- Q_P];have h1:=zK (show b+4+1<=16*500 by omega)
  have h2:Q (b+4+1)=2*Q (b+4):=rfl;have:=zG (b+4)
  omega)
 clear h hL hg Bv hx;have R:=zM w 28;have b8:Below w.heap.size w (w.alloc (.cells zCq 28)):=bl1 _ _
 go_enter Tryz.func61,Tryz.ntmps61
 go_wp2_with fail;refine (zQ7 _ n d (zA H) hn).mono ?_;rintro r w1 ⟨X,Y,rfl,hX,hY,b7⟩;replace R:=R.bw b7;replace b8:=zB b8 b7;clear b7;have lR:=R.lt;obtain⟨V,hV⟩:∃ V,V=(w1.alloc (.cells X.q 26)).alloc (.cells Y.q 26):=⟨_,rfl⟩;have bV:Below w1.heap.size w1 V:=by rw[hV];exact bl2 _ _ _
 have CX:NmC V w1.heap.size X:=by rw[hV];constructor<;>simp[go_sem]
 have CY:NmC V (w1.heap.size+1) Y:=by rw[hV];constructor<;>simp[go_sem]
 have HX:=zC ((hX.mono (show 4*stN n d+4<=804 by omega)).bw bV)
 have HY:=zC ((hY.mono (show 4*stN n d+4<=804 by omega)).bw bV)
 replace R:=R.bw bV;replace b8:=zB b8 bV;have lX:=CX.lt;have lY:=CY.lt;have Y1:=R.lt;have HK:=zC (show ∀ w',Below V.heap.size V w'->(nK w' w1.heap.size X (nK0 w' ((w1.heap.size+1)) Y)) from λ w' hB=>⟨(CX.bw hB).c0,(CX.bw hB).c1,(CY.bw hB).c0,(CY.bw hB).c1⟩)
 clear hX hY bV CX CY;go_wp2_with fail;rw[<- hV];clear hV;have m8:Below V.heap.size V V.drew:=(Below.refl _ _).drew;obtain⟨x0,x1,x2,x3⟩:=zA HK _ (Below.refl _ _);have m1:w.heap.size≠w1.heap.size:=by omega
 have m2:w.heap.size≠w1.heap.size+1:=by omega
 go_region_held3 (λ w'=>nK w' w1.heap.size X (nK0 w' ((w1.heap.size+1)) Y)) (first|exact zA HK _ (by with_reducible first|exact m8|exact C8|exact y9|exact j9|exact j7)|(dsimp only[cK,cK0,nK,nK0,rK,rK0];go_keep)|go_keep)
  (first
   | (go_at_call 113;have H7:=y9;refine (zA5 _ v2 v3 520 b (p1,r2) (zIN (zT (lnT n' d' b) N1) (zT (lnT 2 1 b) N2) cc) (o0.bw k8) A8 (by omega) (zA F2)).mono ?_;rintro r' w4 ⟨t,rfl,I7,Q9,m9⟩;have HT:=zC I7;clear I7;have C8:=zB y9 m9;obtain⟨q0,q1,q2,q3,q4,q5⟩:=R.bw C8;obtain⟨i0,i1,i2,i3⟩:=zA HK _ C8)
   | (go_at_call 116;have H7:=j9;refine (zBT _ X Y 804 b 500 (stP n d (stN n d)) (stQ d (stN n d)) ((zA HX).bw j9) ((zA HY).bw j9) (by omega) (zA Km).1 (zA Km).2 (by omega) (by omega) (zA BQ) (by omega)).mono ?_;rintro r' w3 ⟨n',d',cc,N1,N2,K7,F8,G8,Q3,ct,v3,rfl,E6,A8,k8⟩;clear E6;have y9:=zB j9 k8;have HX3:=zC (And.intro K7 (And.intro F8 (And.intro G8 (And.intro Q3 ct))));clear K7 F8 G8 Q3 ct)
   | (go_at_call 114;have H7:=j7;refine (zNA _ v1 b (lo,hi) k9 (zA F1) (by omega) (by omega) (zA BW).pos (zA BW).le).mono ?_;rintro r' w2 ⟨p1,p2,r1,r2,l1,l2,hls,S7,ba,v2,rfl,G7,o0,b9⟩;have F2:=zC G7;have HLS:=zC (And.intro hls (And.intro S7 ba));clear G7 hls S7 ba;have j9:=zB j7 b9)
   | (go_at_call 115;refine (zHD L (zA HL) _ (n-(stN n d:Int)*d) d b g (zA HI) (zA HG)).mono ?_;rintro r' wg ⟨lo,hi,hgv,v1,rfl,D6,k9,b7⟩;have F1:=zC D6;have BW:=zC hgv;clear D6 hgv;have j7:=zB m8 b7))
 all_goals
  go_wp2_with fail;obtain⟨ls,k1,k2⟩:=zA HLS;obtain⟨bal,c1,c2,s1,s2⟩:=zA HX3;obtain⟨lp,g1,i1'⟩:=zE9 (zA Km).1 (zA Km).2 bal b N1 N2;refine bodyPost_ret (v:=.agg t.q) (by simp[results,Tryz.results61,go_sem,q0,q1,q2,q3,q4]) rfl ⟨_,_,lgam_ok2 (zA H) C9 hb (zA BW) ls g1 i1' k1 k2 (lb_of (by omega) hb bal.1 s1 s2 804 (by omega) c1 c2) (zA Pe) (zA HGP) (zA HL),t,rfl,zA HT,?_,?_⟩
  ·exact SpAt.put5 Q9 q0 q1 q2 q3 q4 _ _ _ _ _
  ·exact kB (zB b8 C8) (by omega) _ _ _ _ _
def uE (p q n d bt:Int):Int:=if ¬ ((rok p q/\rok n d)/\8<=bt/\bt<=120) then 3 else if n<0 then 5 else if p<=0 then 5 else if 100*q<p then 2 else 0
theorem lw_ends (x:Nat->Rat) {bits:Nat} (hb:bits<=120):zMQ bits 89 (LwPr x):=λ m lo hi h=>by
 have q:Q (bits+m)<=P 200*Q m:=Q_fit (b:=bits) (m:=m) (k:=0) (by omega)
 have:=h.hi;have:=h.lo;have p:=Yb (show 0<=P 200 by have:=yB 200;omega) (show 0<=Q m by have:=zG m;omega)
 exact⟨h.le,h.wd,by omega,by omega⟩
theorem sure_lw {x:Nat->Rat} {b:Nat} {L H:Int} (h:zLM b (LwPr x) L H):SuV x b L H/\0<=L/\H<=Q b:=by
 refine⟨sure_su h λ B lo hi p=>⟨p.le,p.iv⟩,?_⟩
 obtain⟨m,lo,hi,pr,hm,e1,e2,h6⟩:=h;have q:=zG m;refine⟨by rw[e1];exact Int.ediv_nonneg pr.lo (by omega),?_⟩
 have e:Q (b+m)=Q b*Q m:=jD b m;have hh:=pr.hi;have p0:=pr.lo;have pl:=pr.le
 have r:=(jA (x:=hi) (m:=Q b) (q:=Q m) (by omega) (by
  have:=Yb (show 0<=Q b by have:=zG b;omega) (show 0<=Q m by omega)
  omega) (by omega)).2.2.2
 rw[e2];exact r
theorem lw_rest {x:Nat->Rat} {B:Nat} {l u:Int} (h:LwPr x B l u):LwPr (λ M=>1-x M) B (zND B (l,u)).1 (zND B (l,u)).2:=by
 have i:Iv B (zAF (Q B,Q B) (l,u)) (λ M=>1-x M):=(zMZ B).sub h.iv
 have h1:=h.lo;have h2:=h.le;have h3:=h.hi;have h4:=h.wd;have e1:(zND B (l,u)).1=Q B-u:=rfl;have e2:(zND B (l,u)).2=Q B-l:=rfl;exact⟨by omega,by omega,by omega,by omega,i⟩
structure BpAr (p q r s n d:Int) (B:Nat):Prop where
 p0:0<p
 q0:0<q
 pq:p<=100*q
 qq:q<=2048
 r0:0<r
 s0:0<s
 rs:r<=100*s
 ss:s<=2048
 n0:0<=n
 nd:n<=d
 d0:0<d
 dd:d<=4503599627370496
 b0:40<=B
 b1:B<=400
structure BpPr (L:Rat->Nat->Rat) (p q r s n d:Int) (b:Nat) (lo hi:Int):Prop where
 pr:LwPr (bvX L p q r s n d) b lo hi
 z:n=0->lo=0/\hi=0
 o:n=d->lo=Q b/\hi=Q b
theorem BpAr.turn {p q r s n d:Int} {B:Nat} (h:BpAr p q r s n d B):BpAr r s p q (d-n) d B:=⟨h.r0,h.s0,h.rs,h.ss,h.p0,h.q0,h.pq,h.qq,by have:=h.nd;omega,by have:=h.n0;omega,h.d0,h.dd,h.b0,h.b1⟩
theorem bp_sum {p q r s:Int} (hq:0<q) (hs:0<s):(((p*s+r*q):Int):Rat)/(((q*s):Int):Rat)=(p:Rat)/(q:Rat)+(r:Rat)/(s:Rat):=by
 have qr:(0:Rat)<(q:Rat):=by exact_mod_cast hq
 have sr:(0:Rat)<(s:Rat):=by exact_mod_cast hs
 rw[Rat.intCast_add,Ye,Ye,Ye];have e1:=rdm (a:=(p:Rat)) qr;have e2:=rdm (a:=(r:Rat)) sr;have qs:=Rat.mul_pos qr sr;have e3:=rdm (a:=(p:Rat)*(s:Rat)+(r:Rat)*(q:Rat)) qs;generalize ((p:Rat)*(s:Rat)+(r:Rat)*(q:Rat))/((q:Rat)*(s:Rat))=u at *;generalize (p:Rat)/(q:Rat)=v at *;generalize (r:Rat)/(s:Rat)=z at *;refine zS (c:=(q:Rat)*(s:Rat)) qs ?_;rw[<- e1,<- e2] at e3;grind
theorem bp_st {p q r s:Int} (p0:0<p) (q0:0<q) (pq:p<=100*q) (qq:q<=2048) (r0:0<r) (s0:0<s) (rs:r<=100*s) (ss:s<=2048):StIn p q/\StIn r s/\StIn (p*s+r*q) (q*s)/\(p*s+r*q)<=4611686018427387904:=by
 have m1:=XK pq (show 0<=s by omega)
 have m2:=XK rs (show 0<=q by omega)
 have k1:=Int.mul_pos p0 s0;have k2:=Int.mul_pos r0 q0;have k3:=Int.mul_pos q0 s0;have m3:=zH3 qq ss (by omega) (by omega)
 have e1:100*q*s=100*(q*s):=by grind
 have e2:100*s*q=100*(q*s):=by grind
 exact⟨⟨p0,q0,by omega,by omega⟩,⟨r0,s0,by omega,by omega⟩,⟨by omega,k3,by omega,by omega⟩,by omega⟩
theorem zHC {L G:Rat->Nat->Rat} {X:Int->Int->Nat->Rat} (hE:zM4 L G X) {n d:Int} {b:Nat} (st:StIn n d) (hn:n<=4611686018427387904) (b0:40<=b) (b1:b<=400):zKR n d b (X n d):=λ w'=>by
 have g:=hE.gam _ (zIS st).1 (zIS st).2;exact zI0 L hE.lns w' n d b (G (gA n d)) (X n d) st hn b0 (by omega) g (g.isGam hE.lns (zIS st).1).pos (hE.lg n d st)
theorem bj_log {L G:Rat->Nat->Rat} {X:Int->Int->Nat->Rat} (hE:zM4 L G X) {p q r s:Int} (s1:StIn p q) (s2:StIn r s) (s3:StIn (p*s+r*q) (q*s)):IsLog (λ M=>X p q M+X r s M-X (p*s+r*q) (q*s) M) (bJ L ((p:Rat)/(q:Rat)) ((r:Rat)/(s:Rat))):=by
 have i3:=zDN hE s3;rw[bp_sum s1.d0 s2.d0] at i3;have pr:(0:Rat)<(p:Rat):=by exact_mod_cast s1.n0
 have qr:(0:Rat)<(q:Rat):=by exact_mod_cast s1.d0
 have rr:(0:Rat)<(r:Rat):=by exact_mod_cast s2.n0
 have sr:(0:Rat)<(s:Rat):=by exact_mod_cast s2.d0
 exact bJ_log hE.lns (zH pr qr) (zH rr sr) (zDN hE s1) (zDN hE s2) i3 (hE.lg p q s1) (hE.lg r s s2) (hE.lg _ _ s3)
theorem zP8 (L:Rat->Nat->Rat) (hL:Lns L) (w:World) (x y:Nm) (p q r s n d:Int) (b:Nat) (hx:IntAt w x.neg x.a x.n x.cap 4 n) (hy:IntAt w y.neg y.a y.n y.cap 4 d) (h:BpAr p q r s n d b) (h0:n=0) :
  Calls Tryz.prog 76 #[.agg x.q,.agg y.q,.agg #[.int .i64 p,.int .i64 q],.agg #[.int .i64 r,.int .i64 s],.int .i64 b] w (λ z w'=>LwPr (bvX L p q r s n d) b 0 0/\zJ w b 30 0 0 z w'):=by
 obtain⟨W,hW⟩:∃ W,W=((((w.alloc (.cells x.q 26)).alloc (.cells y.q 26)).alloc (.cells #[.int .i64 p,.int .i64 q] 23)).alloc (.cells #[.int .i64 r,.int .i64 s] 23)).alloc (.cells zCq 28):=⟨_,rfl⟩;have b8:Below w.heap.size w W:=by rw[hW];exact bl5 _ _ _ _ _ _
 have X0:NmC W (w.heap.size) x:=by rw[hW];constructor<;>simp[go_sem]
 have Y0:NmC W (w.heap.size+1) y:=by rw[hW];constructor<;>simp[go_sem]
 have A:RaC W (w.heap.size+1+1) p q:=by rw[hW];constructor<;>simp[go_sem]
 have D:RaC W (w.heap.size+1+1+1) r s:=by rw[hW];constructor<;>simp[go_sem]
 have R:NoC W (w.heap.size+1+1+1+1):=by rw[hW];constructor<;>simp[go_sem]
 have HX:=zC (hx.bw b8);have HY:=zC (hy.bw b8);have GR:=X0.c0;have GS:=X0.c1;have GW:=Y0.c0;have GX:=Y0.c1;clear hx hy;have d0:=h.d0;have b1:=h.b1;have dd:=h.dd
 have tj:=zC (show -P 4<d-n/\d-n<P 4 by
  have:P 4=18446744073709551616:=rfl
  exact⟨by omega,by omega⟩)
 have HC:=zC (show zF n (d-n) = -1 by unfold zF;rw[if_pos (by omega)])
 have GY:=zC (show zF n 0=0 by rw[h0];rfl)
 have HV:=zC (show LwPr (bvX L p q r s n d) b 0 0 by
  have q:=zG b;have q2:=zG 89;refine⟨Int.le_refl _,Int.le_refl _,by omega,by omega,?_⟩
  unfold bvX;rw[if_pos h0];have e:((0:Int):Rat)/(Q b:Rat)=0:=by rw[show ((0:Int):Rat)=0 from rfl,Yg,Rat.zero_mul]
  exact Has.const (by rw[e];exact Rat.le_refl) (by rw[e];exact Rat.le_refl))
 have HZ:=zC (show n*Q b/d=0 /\ -(-(n*Q b)/d)=0 by rw[h0,Int.zero_mul];simp)
 clear h h0 hL
 go_enter Tryz.func76,Tryz.ntmps76
 go_upto_region 1 with fail
 rw[<- hW];clear hW;go_wp2_with fail;clear GR GS GW GX;refine (zAD _ _ _ _ _ _ _ _ 4 4 d n _ (zA HY) (zA HX) (by omega) (by omega)).mono ?_
 rintro z0 w0 ⟨negL,aL,nL,cL,rfl,eA,C9⟩;obtain⟨VL,ij⟩:∃ V,V=w0.alloc (.cells #[.bool negL,.slice aL nL cL] 26):=⟨_,rfl⟩;have bVL:Below w0.heap.size w0 VL:=by rw[ij];exact bl1 _ _
 have L0:NmC VL w0.heap.size (⟨negL,aL,nL,cL⟩:Nm):=by rw[ij];constructor<;>simp[go_sem]
 have Z0:=zC ((eA.fits (K:=4) (zA tj).1 (zA tj).2).bw bVL);have hbL:=zB C9 bVL;have kL:w.heap.size+1+1+1+1<w0.heap.size:=Yd R.lt C9.size;replace A:=A.bw hbL;replace D:=D.bw hbL;replace X0:=X0.bw hbL;replace Y0:=Y0.bw hbL;replace R:=R.bw hbL;replace HX:=zC ((zA HX).bw hbL);replace HY:=zC ((zA HY).bw hbL);replace b8:=zB b8 hbL;clear hbL C9 bVL eA;obtain⟨Z1,Z2⟩:=X0;obtain⟨nZ,oa⟩:=L0;have lX:=NmC.lt ⟨Z1,Z2⟩;have lL:=NmC.lt ⟨nZ,oa⟩
 go_upto_region 2 with fail
 rw[<- ij];clear ij;go_wp2_with fail;have X0:NmC VL (w.heap.size) x:=⟨Z1,Z2⟩;have L0:NmC VL w0.heap.size (⟨negL,aL,nL,cL⟩:Nm):=⟨nZ,oa⟩;clear Z1 Z2 nZ oa lX lL;refine (zU _ _ _ _ _ _ _ _ 4 4 n (d-n) _ (zA HX) (zA Z0)).mono ?_;rintro z1 w1 ⟨rfl,b7⟩;rw[zA HC];replace A:=A.bw b7;replace D:=D.bw b7;replace X0:=X0.bw b7;replace Y0:=Y0.bw b7;replace R:=R.bw b7;replace L0:=L0.bw b7;replace HX:=zC ((zA HX).bw b7);replace HY:=zC ((zA HY).bw b7);replace Z0:=zC ((zA Z0).bw b7);replace b8:=zB b8 b7;clear b7;obtain⟨Z1,Z2⟩:=X0;have lX:=NmC.lt ⟨Z1,Z2⟩;go_wp2_with fail;have X0:NmC w1 (w.heap.size) x:=⟨Z1,Z2⟩;clear Z1 Z2 lX;refine (yA _ _ _ _ _ n _ (zA HX)).mono ?_;rintro z2 w2 ⟨rfl,b9⟩;rw[zA GY];replace A:=A.bw b9;replace D:=D.bw b9;replace X0:=X0.bw b9;replace Y0:=Y0.bw b9;replace R:=R.bw b9;replace L0:=L0.bw b9;replace HX:=zC ((zA HX).bw b9);replace HY:=zC ((zA HY).bw b9)
 replace Z0:=zC ((zA Z0).bw b9);replace b8:=zB b8 b9;clear b9;obtain⟨x0,x1⟩:=X0;obtain⟨y0,y1⟩:=Y0;have lR:=R.lt;have lX:=NmC.lt ⟨x0,x1⟩;have lY:=NmC.lt ⟨y0,y1⟩;go_wp2_with fail;refine (zBM _ _ _ _ _ _ _ _ 4 4 b n d _ (zA HX) (zA HY) (by omega) (by omega) d0).mono ?_
 rintro z3 w3 ⟨t,rfl,I7,Q9,k8⟩;rw[(zA HZ).1,(zA HZ).2] at Q9;have HT:=zC I7;replace b8:=zB b8 k8;obtain⟨q0,q1,q2,q3,q4,q5⟩:=R.bw k8;have Y1:=(R.bw k8).lt;clear I7 k8 x0 x1 y0 y1;have fit:=Q9.fits (K:=30) (Int.le_refl _) (by have:=yB 30;omega) (yB 30)
 go_wp2_with fail;refine bodyPost_ret (v:=.agg t.q) (by simp[results,Tryz.results76,go_sem,q0,q1,q2,q3,q4]) rfl ⟨zA HV,t,rfl,zA HT,?_,?_⟩
 ·exact SpAt.put5 fit q0 q1 q2 q3 q4 _ _ _ _ _
 ·exact kB b8 (by omega) _ _ _ _ _
theorem zMN (L G:Rat->Nat->Rat) (X:Int->Int->Nat->Rat) (hE:zM4 L G X) (w:World) (x y:Nm) (p q r s n d:Int) (b:Nat) (hx:IntAt w x.neg x.a x.n x.cap 4 n) (hy:IntAt w y.neg y.a y.n y.cap 4 d) (h:BpAr p q r s n d b) (h2:2*n<=d) :
  Calls Tryz.prog 76 #[.agg x.q,.agg y.q,.agg #[.int .i64 p,.int .i64 q],.agg #[.int .i64 r,.int .i64 s],.int .i64 b] w (λ z w'=>∃ lo hi,BpPr L p q r s n d b lo hi/\zJ w b 30 lo hi z w'):=by
 by_cases h0:n=0
 ·exact (zP8 L hE.lns w x y p q r s n d b hx hy h h0).mono λ z w' ⟨h1,h2⟩=>⟨0,0,⟨h1,λ _=>⟨rfl,rfl⟩,λ e=>absurd e (by have:=h.d0;omega)⟩,h2⟩
 ·have n0:=h.n0
  obtain⟨s1,s2,s3,hn⟩:=bp_st h.p0 h.q0 h.pq h.qq h.r0 h.s0 h.rs h.ss;have pq:=h.pq;have rs:=h.rs;have qq:=h.qq;have ss:=h.ss
  have e:bvX L p q r s n d=bv L ((p:Rat)/(q:Rat)) ((r:Rat)/(s:Rat)) ((n:Rat)/(d:Rat)):=by
   unfold bvX;rw[if_neg h0,if_neg (by omega)]
  refine (zRH L hE.lns w x y p q r s n d b (X p q) (X r s) (X (p*s+r*q) (q*s)) hx hy ⟨h.p0,h.q0,h.pq,h.qq,h.r0,h.s0,h.rs,h.ss,by omega,h2,h.dd,h.b0,h.b1⟩ (bj_log hE s1 s2 s3) (zHC hE s1 (by omega) h.b0 h.b1) (zHC hE s2 (by omega) h.b0 h.b1) (zHC hE s3 hn h.b0 h.b1)).mono λ z w' ⟨lo,hi,h1,h3⟩=>⟨lo,hi,⟨?_,λ k=>absurd k h0,λ k=>absurd k (by omega)⟩,h3⟩
  rw[e];exact h1
theorem LwPr.congr {x y:Nat->Rat} {B:Nat} {l u:Int} (h:LwPr x B l u) (k:Null (λ M=>y M-x M)):LwPr y B l u:=⟨h.lo,h.le,h.hi,h.wd,Has.congr h.iv k⟩
theorem bvX_turn {L:Rat->Nat->Rat} (hL:Lns L) {p q r s n d:Int} (p0:0<p) (q0:0<q) (r0:0<r) (s0:0<s) (n0:0<=n) (nd:n<=d) (d0:0<d):Null (λ M=>bvX L p q r s n d M-(1-bvX L r s p q (d-n) d M)):=by
 unfold bvX
 by_cases h0:n=0
 ·rw[if_pos h0,if_neg (show ¬ d-n=0 by omega),if_pos (show d-n=d by omega)]
  exact null_zero.of_eq λ M=>by grind
 ·by_cases h1:n=d
  ·rw[if_neg h0,if_pos h1,if_pos (show d-n=0 by omega)]
   exact null_zero.of_eq λ M=>by grind
  ·rw[if_neg h0,if_neg h1,if_neg (show ¬ d-n=0 by omega),if_neg (show ¬ d-n=d by omega)]
   have pr:(0:Rat)<(p:Rat):=by exact_mod_cast p0
   have qr:(0:Rat)<(q:Rat):=by exact_mod_cast q0
   have rr:(0:Rat)<(r:Rat):=by exact_mod_cast r0
   have sr:(0:Rat)<(s:Rat):=by exact_mod_cast s0
   have nr:(0:Rat)<(n:Rat):=by exact_mod_cast (show 0<n by omega)
   have dr:(0:Rat)<(d:Rat):=by exact_mod_cast d0
   have e:((d-n:Int):Rat)/(d:Rat)=1-(n:Rat)/(d:Rat):=by
    rw[Rat.intCast_sub,Yg,Yg];have:=Rat.mul_inv_cancel (d:Rat) (by grind)
    grind
   rw[e]
   have lt:(n:Rat)/(d:Rat)<1:=by
    refine Rat.lt_of_mul_lt_mul_right (c:=(d:Rat)) ?_ (XV dr);rw[rdm dr];have:(n:Rat)<(d:Rat):=by exact_mod_cast (show n<d by omega)
    grind
   exact zJT hL (zH pr qr) (zH rr sr) (zH nr dr) lt
theorem zQP (L G:Rat->Nat->Rat) (X:Int->Int->Nat->Rat) (hE:zM4 L G X) (w:World) (x y:Nm) (p q r s n d:Int) (b:Nat) (hx:IntAt w x.neg x.a x.n x.cap 4 n) (hy:IntAt w y.neg y.a y.n y.cap 4 d) (h:BpAr p q r s n d b) (h2:d<2*n) :
  Calls Tryz.prog 76 #[.agg x.q,.agg y.q,.agg #[.int .i64 p,.int .i64 q],.agg #[.int .i64 r,.int .i64 s],.int .i64 b] w (λ z w'=>∃ lo hi,BpPr L p q r s n d b lo hi/\zJ w b 61 lo hi z w'):=by
 obtain⟨W,hW⟩:∃ W,W=((((w.alloc (.cells x.q 26)).alloc (.cells y.q 26)).alloc (.cells #[.int .i64 p,.int .i64 q] 23)).alloc (.cells #[.int .i64 r,.int .i64 s] 23)).alloc (.cells zCq 28):=⟨_,rfl⟩;have b8:Below w.heap.size w W:=by rw[hW];exact bl5 _ _ _ _ _ _
 have X0:NmC W (w.heap.size) x:=by rw[hW];constructor<;>simp[go_sem]
 have Y0:NmC W (w.heap.size+1) y:=by rw[hW];constructor<;>simp[go_sem]
 have A:RaC W (w.heap.size+1+1) p q:=by rw[hW];constructor<;>simp[go_sem]
 have D:RaC W (w.heap.size+1+1+1) r s:=by rw[hW];constructor<;>simp[go_sem]
 have R:NoC W (w.heap.size+1+1+1+1):=by rw[hW];constructor<;>simp[go_sem]
 have HX:=zC (hx.bw b8);have HY:=zC (hy.bw b8);have GR:=X0.c0;have GS:=X0.c1;have GW:=Y0.c0;have GX:=Y0.c1;clear hx hy;have d0:=h.d0;have b0:=h.b0;have b1:=h.b1;have dd:=h.dd;have nd:=h.nd
 have tj:=zC (show -P 4<d-n/\d-n<P 4 by
  have:P 4=18446744073709551616:=rfl
  exact⟨by omega,by omega⟩)
 have HC:=zC (show zF n (d-n)=1 by unfold zF;rw[if_neg (by omega),if_pos (by omega)])
 have gV:=zC (bvX_turn hE.lns h.p0 h.q0 h.r0 h.s0 h.n0 h.nd h.d0);have Sh:=zC h.turn;have HE:=zC hE;clear h hE
 go_enter Tryz.func76,Tryz.ntmps76
 go_upto_region 1 with fail
 rw[<- hW];clear hW;go_wp2_with fail;clear GR GS GW GX;refine (zAD _ _ _ _ _ _ _ _ 4 4 d n _ (zA HY) (zA HX) (by omega) (by omega)).mono ?_
 rintro z0 w0 ⟨negL,aL,nL,cL,rfl,eA,C9⟩;obtain⟨VL,ij⟩:∃ V,V=w0.alloc (.cells #[.bool negL,.slice aL nL cL] 26):=⟨_,rfl⟩;have bVL:Below w0.heap.size w0 VL:=by rw[ij];exact bl1 _ _
 have L0:NmC VL w0.heap.size (⟨negL,aL,nL,cL⟩:Nm):=by rw[ij];constructor<;>simp[go_sem]
 have Z0:=zC ((eA.fits (K:=4) (zA tj).1 (zA tj).2).bw bVL);have hbL:=zB C9 bVL;have kL:w.heap.size+1+1+1+1<w0.heap.size:=Yd R.lt C9.size;replace A:=A.bw hbL;replace D:=D.bw hbL;replace X0:=X0.bw hbL;replace Y0:=Y0.bw hbL;replace R:=R.bw hbL;replace HX:=zC ((zA HX).bw hbL);replace HY:=zC ((zA HY).bw hbL);replace b8:=zB b8 hbL;clear hbL C9 bVL eA;obtain⟨Z1,Z2⟩:=X0;obtain⟨nZ,oa⟩:=L0;have lX:=NmC.lt ⟨Z1,Z2⟩;have lL:=NmC.lt ⟨nZ,oa⟩
 go_upto_region 2 with fail
 rw[<- ij];clear ij;go_wp2_with fail;have X0:NmC VL (w.heap.size) x:=⟨Z1,Z2⟩;have L0:NmC VL w0.heap.size (⟨negL,aL,nL,cL⟩:Nm):=⟨nZ,oa⟩;clear Z1 Z2 nZ oa lX lL;refine (zU _ _ _ _ _ _ _ _ 4 4 n (d-n) _ (zA HX) (zA Z0)).mono ?_;rintro z1 w1 ⟨rfl,b7⟩;rw[zA HC];replace A:=A.bw b7;replace D:=D.bw b7;replace X0:=X0.bw b7;replace Y0:=Y0.bw b7;replace R:=R.bw b7;replace L0:=L0.bw b7;replace HX:=zC ((zA HX).bw b7);replace HY:=zC ((zA HY).bw b7);replace Z0:=zC ((zA Z0).bw b7);replace b8:=zB b8 b7;clear b7;obtain⟨x0,x1⟩:=L0;obtain⟨y0,y1⟩:=Y0;have aa:=A.c0;have ab:=A.c1;have da:=D.c0;have db:=D.c1;have lA:=A.lt;have lD:=D.lt;have lL:=NmC.lt ⟨x0,x1⟩;have lY:=NmC.lt ⟨y0,y1⟩;go_wp2_with fail;refine (zMN L G X (zA HE) _ (⟨negL,aL,nL,cL⟩:Nm) y r s p q (d-n) d b (zA Z0) (zA HY) (zA Sh) (by omega)).mono ?_
 rintro z2 w2 ⟨lo,hi,hv,t,rfl,I7,Q9,b9⟩;have HV:=zC hv;have fE:=zC I7;replace R:=R.bw b9;replace b8:=zB b8 b9;clear hv I7 b9 x0 x1 y0 y1 aa ab da db lA lD lL lY;go_wp2_with fail;refine (rest_iv _ t 60 b (lo,hi) (Q9.mono (by omega)) (zA fE) (by omega) (by omega) (by omega)).mono ?_
 rintro z3 w3 ⟨u,rfl,I0,E9,k8⟩;have HU:=zC I0;replace b8:=zB b8 k8;obtain⟨q0,q1,q2,q3,q4,q5⟩:=R.bw k8;have Y1:=(R.bw k8).lt;clear I0 k8;go_wp2_with fail;refine bodyPost_ret (v:=.agg u.q) (by simp[results,Tryz.results76,go_sem,q0,q1,q2,q3,q4]) rfl ⟨_,_,⟨(lw_rest (zA HV).pr).congr (zA gV),λ k=>absurd k (by omega),λ k=>by obtain⟨k1,k2⟩:=(zA HV).z (by omega);subst k1 k2;exact⟨Int.sub_zero _,Int.sub_zero _⟩⟩,u,rfl,zA HU,?_,?_⟩
 ·exact SpAt.put5 E9 q0 q1 q2 q3 q4 _ _ _ _ _
 ·exact kB b8 (by omega) _ _ _ _ _
theorem part_iv (L G:Rat->Nat->Rat) (X:Int->Int->Nat->Rat) (hE:zM4 L G X) (w:World) (x y:Nm) (p q r s n d:Int) (b:Nat) (hx:IntAt w x.neg x.a x.n x.cap 4 n) (hy:IntAt w y.neg y.a y.n y.cap 4 d) (h:BpAr p q r s n d b) :
  Calls Tryz.prog 76 #[.agg x.q,.agg y.q,.agg #[.int .i64 p,.int .i64 q],.agg #[.int .i64 r,.int .i64 s],.int .i64 b] w (λ z w'=>∃ lo hi,BpPr L p q r s n d b lo hi/\zJ w b 61 lo hi z w'):=by
 by_cases h2:2*n<=d
 ·exact (zMN L G X hE w x y p q r s n d b hx hy h h2).mono λ z w' ⟨lo,hi,h1,t,a1,a2,a3,a4⟩=>⟨lo,hi,h1,t,a1,a2,a3.mono (by omega),a4⟩
 ·exact zQP L G X hE w x y p q r s n d b hx hy h (by omega)
end Go.Proofs.YtgmnknmjainababGreat
