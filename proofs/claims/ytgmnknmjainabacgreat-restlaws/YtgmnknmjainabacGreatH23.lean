/-
  Its own texts.
-/
import Derived.Test.YtgmnknmjainabacGreatH22
set_option maxRecDepth 100000
set_option maxHeartbeats 40000000
set_option linter.unnecessarySimpa false
set_option linter.unusedSimpArgs false
set_option linter.unusedVariables false
namespace Go.Proofs.YtgmnknmjainabacGreat
open Go.RowKit
attribute [local go_sem ↓] Go.wp_at_zero Go.wp_at_succ
open Ex
theorem zKH (L:Rat->Nat->Rat) (hL:Lns L) (p q r s n d:Int) (b:Nat) (X1 X2 X3:Nat->Rat) (h:zK8 p q r s n d b) (hX:IsLog (λ M=>X1 M+X2 M-X3 M) (bJ L ((p:Rat)/(q:Rat)) ((r:Rat)/(s:Rat)))) (L1:zP2 p q b X1) (L2:zP2 r s b X2) (L3:zP2 (p*s+r*q) (q*s) b X3) :
  ∃ c:Int × Int,LwPr (bv L ((p:Rat)/(q:Rat)) ((r:Rat)/(s:Rat)) ((n:Rat)/(d:Rat))) b c.1 c.2/\∀ (w:World) (x y:Nm),IntAt w x.neg x.a x.n x.cap 4 n->IntAt w y.neg y.a y.n y.cap 4 d->Calls Tryz.prog 160 #[.agg x.q,.agg y.q,.agg #[.int .i64 p,.int .i64 q],.agg #[.int .i64 r,.int .i64 s],.int .i64 b] w (zG w b 30 c.1 c.2):=by
 have Fv:=h.p0;have fT:=h.q0;have Ac:=h.r0;have RX:=h.s0;have Kg:=h.n0;have nd:=h.nd;have dd:=h.dd;have b0:=h.b0;have b1:=h.b1;have qq:=h.qq;have ss:=h.ss;have pb:p<=204800:=by have:=h.pq;omega
 have rb:r<=204800:=by have:=h.rs;omega
 have Ar:=zC (show -P 4<d-n/\d-n<P 4 by
  have:P 4=18446744073709551616:=rfl
  exact⟨by omega,by omega⟩)
 obtain⟨c,hc,G3⟩:∃ c:Int,zN n (d-n)=c/\c<=0:=⟨_,rfl,by unfold zN;split<;>(try split)<;>omega⟩
 have HC:=zC hc;have nO:=zC (show zN n 0=1 by unfold zN;rw[if_neg (by omega),if_pos (by omega)])
 obtain⟨NS,np,V5⟩:=pu_set h
 have PK:Q 1621<P 103:=by
  rw[<- Q_P];have h1:=zH (show 1621+1<=16*103 by omega)
  have g2:∀ j,Q (j+1)=2*Q j:=λ _=>rfl
  rw[g2] at h1;have:=zE 1621;generalize Q 1621=z at *;omega
 have pg:=zC (show -P 103<Q b/\Q b<P 103 by
  have:=zE b;have:=zH (show b<=1621 by omega)
  have:=yI 103
  exact⟨by omega,by omega⟩)
 have gm:=zC (show ∀ j,j<=NS -> -P 103<(puT p q r s n d b j).1/\(puT p q r s n d b j).2<P 103 from λ j _=>by
  have e:0<=(puT p q r s n d b j).1:=(zAF (zI3 h) j).1;have u:=pu_hi h j;have:=yI 103
  exact⟨by omega,by omega⟩)
 have gy:=zC (show ∀ j,j<=NS -> -P 103<(jE (puT p q r s n d b) j).1/\(jE (puT p q r s n d b) j).2<P 103 from λ j hj=>by
  have u:=pu_fit h j (by omega)
  have l:Q b<=(jE (puT p q r s n d b) j).1:=(zFP (zI3 h) j).2.2;have:=zE b;have:=yI 103
  exact⟨by omega,by omega⟩)
 have gx:=zC (λ j=>show (puT p q r s n d b j).1<=(puT p q r s n d b j).2 from (zAF (zI3 h) j).2)
 have az:=zC (λ j=>show 0<=(puT p q r s n d b j).1 from (zAF (zI3 h) j).1)
 have HM:=zC V5;have Xr:=(pu_n h).2;have OX:=(pu_n h).1;have Z6:=zC (show IntKind.i64.wrap (2*r)=2*r from jI _ (by omega) (by omega))
 have tdv:(2*r).tdiv s=(puN r s:Int):=by rw[OX];exact Int.tdiv_eq_ediv_of_nonneg (by omega)
 have bo:=zC (show (2*r).tdiv s=(puN r s:Int) from tdv)
 have dJ:=zC (show IntKind.i64.wrap (puN r s:Int)=(puN r s:Int) from jI _ (by omega) (by omega))
 have nY:=zC (show ∀ j:Nat,j<NS->(0<=((j:Int)+1-1)*(q*s)/\((j:Int)+1-1)*(q*s)<=1152921504606846976)/\(0<=(p*s+r*q)/\(p*s+r*q)<=1152921504606846976)/\(0<=((j:Int)+1)*q/\((j:Int)+1)*q<=1152921504606846976)/\0<(p+((j:Int)+1)*q)*s/\(p+((j:Int)+1)*q)*s<=1152921504606846976 from λ j hj=>by
  have m1:=zE2 qq ss (by omega) (by omega)
  have m2:=zE2 pb ss (by omega) (by omega)
  have m3:=zE2 rb qq (by omega) (by omega)
  have k1:=Zc (show 0<=q by omega) (show 0<=s by omega)
  have k2:=Zc (show 0<=p by omega) (show 0<=s by omega)
  have k3:=Zc (show 0<=r by omega) (show 0<=q by omega)
  have m4:=zE2 (show (j:Int)+1-1<=5100 by omega) (show (q*s)<=4194304 by omega) k1 (by omega)
  have k4:=Zc (show 0<=(j:Int)+1-1 by omega) k1
  have m5:=zE2 (show (j:Int)+1<=5101 by omega) qq (by omega) (by omega)
  have k5:=Zc (show 0<=(j:Int)+1 by omega) (show 0<=q by omega)
  have m6:=zE2 (show p+((j:Int)+1)*q<=20000000 by omega) ss (by omega) (by omega)
  exact⟨⟨k4,by omega⟩,⟨by omega,by omega⟩,⟨k5,by omega⟩,Int.mul_pos (by omega) RX,by omega⟩)
 obtain⟨⟨o1,o2⟩,Cs,x1⟩:=zDM L hL b d n (by omega) (by omega) (by omega) Kg b0 b1
 obtain⟨⟨o3,o4⟩,Ct,x3⟩:=zDM L hL b d (d-n) (by omega) (by omega) (by omega) (by omega) b0 b1
 obtain⟨⟨o5,o6⟩,Cv,x5⟩:=zDM L hL b p q (by omega) (by omega) Fv fT b0 b1
 obtain⟨l1,u1,g1,a1⟩:=L1;obtain⟨l2,u2,g2,a2⟩:=L2;obtain⟨l3,u3,g3,a3⟩:=L3;have mC:=lgP3_of g1 g2 g3;have Te:=zC (show ∀ w',Calls Tryz.prog 188 #[.agg #[.int .i64 p,.int .i64 q],.agg #[.int .i64 r,.int .i64 s],.int .i64 b] w' (zG w' b 523 (l1+l2-u3) (u1+u2-l3)) from λ w'=>zO2 w' p q r s b l1 u1 l2 u2 l3 u3 ⟨by omega,by omega,by omega,by omega⟩ ⟨by omega,by omega,by omega,by omega⟩ a1 a2 a3)
 generalize l1+l2-u3=lg at *;generalize u1+u2-l3=ug at *;have Gx:=zC x1;have Gy:=zC x3;have Gz:=zC x5;obtain⟨l,t,NE,e1,e2,e3,e4,e5,e6,e7,e8⟩:=pu_exp h Cs Ct Cv mC hL hX np V5;have Gi:=zC e1;have Gj:=zC e2;have xD:=zC e4;have oW:=zC e5;obtain⟨K9,k9,rF⟩:∃ K:Nat,K=98400/\Hid (Q (b+eb t)<P K):=⟨_,rfl,zC e6⟩;have GL:=zC e7;have X7:=zC e8;refine⟨(zDN (zAN p q r s n d b NS).1 (zAN p q r s n d b NS).2 (puE p q r s b (o1,o2) (o3,o4) (o5,o6) (lg,ug) t NE).1 (puE p q r s b (o1,o2) (o3,o4) (o5,o6) (lg,ug) t NE).2 b,zNO (zAN p q r s n d b NS) (puE p q r s b (o1,o2) (o3,o4) (o5,o6) (lg,ug) t NE) b),e8.2.2.2.2,λ w x y hx hy=>?_⟩
 clear h hL hX V5 PK hc tdv OX Cs Ct Cv x1 x3 x5 g1 g2 g3 a1 a2 a3 mC e1 e2 e4 e5 e6 e7 e8;obtain⟨W,hW⟩:∃ W,W=((((w.alloc (.cells x.q 29)).alloc (.cells y.q 29)).alloc (.cells #[.int .i64 p,.int .i64 q] 23)).alloc (.cells #[.int .i64 r,.int .i64 s] 23)).alloc (.cells zCq 31):=⟨_,rfl⟩;have j8:Below w.heap.size w W:=by rw[hW];exact bl5 _ _ _ _ _ _
 have X0:NmC W (w.heap.size) x:=by rw[hW];constructor<;>simp[go_sem]
 have Y0:NmC W (w.heap.size+1) y:=by rw[hW];constructor<;>simp[go_sem]
 have A:RaC W (w.heap.size+1+1) p q:=by rw[hW];constructor<;>simp[go_sem]
 have D:RaC W (w.heap.size+1+1+1) r s:=by rw[hW];constructor<;>simp[go_sem]
 have R:NoC W (w.heap.size+1+1+1+1):=by rw[hW];constructor<;>simp[go_sem]
 have HX:=zC (hx.bw j8);have HY:=zC (hy.bw j8);have rO:=X0.c0;have rP:=X0.c1;have Ia:=Y0.c0;have Ib:=Y0.c1;clear hx hy
 go_enter Tryz.func160,Tryz.ntmps160
 go_upto_region 1 with fail
 rw[<- hW];clear hW;go_wp2_with fail;clear rO rP Ia Ib;refine (zCR _ _ _ _ _ _ _ _ 4 4 d n _ (zA HY) (zA HX) (by omega) (by omega)).mono ?_
 rintro z0 w0 ⟨negL,aL,nL,cL,rfl,Ca,E8⟩;obtain⟨VL,ot⟩:∃ V,V=w0.alloc (.cells #[.bool negL,.slice aL nL cL] 29):=⟨_,rfl⟩;have bVL:Below w0.heap.size w0 VL:=by rw[ot];exact bl1 _ _
 have L0:NmC VL w0.heap.size (⟨negL,aL,nL,cL⟩:Nm):=by rw[ot];constructor<;>simp[go_sem]
 have bL:=zC ((Ca.fits (K:=4) (zA Ar).1 (zA Ar).2).bw bVL);have hbL:=zB E8 bVL;have kL:w.heap.size+1+1+1+1<w0.heap.size:=Zd R.lt E8.size;replace A:=A.bw hbL;replace D:=D.bw hbL;replace X0:=X0.bw hbL;replace Y0:=Y0.bw hbL;replace R:=R.bw hbL;replace HX:=zC ((zA HX).bw hbL);replace HY:=zC ((zA HY).bw hbL);replace j8:=zB j8 hbL;clear hbL E8 bVL Ca;obtain⟨jl,jm⟩:=X0;obtain⟨rQ,rR⟩:=L0;have lX:=NmC.lt ⟨jl,jm⟩;have lL:=NmC.lt ⟨rQ,rR⟩
 go_upto_region 2 with fail
 rw[<- ot];clear ot;go_wp2_with fail;have X0:NmC VL (w.heap.size) x:=⟨jl,jm⟩;have L0:NmC VL w0.heap.size (⟨negL,aL,nL,cL⟩:Nm):=⟨rQ,rR⟩;clear jl jm rQ rR lX lL;refine (jY _ _ _ _ _ _ _ _ 4 4 n (d-n) _ (zA HX) (zA bL)).mono ?_;rintro z1 w1 ⟨rfl,b9⟩;rw[zA HC];replace A:=A.bw b9;replace D:=D.bw b9;replace X0:=X0.bw b9;replace Y0:=Y0.bw b9;replace R:=R.bw b9;replace L0:=L0.bw b9;replace HX:=zC ((zA HX).bw b9);replace HY:=zC ((zA HY).bw b9);replace bL:=zC ((zA bL).bw b9);replace j8:=zB j8 b9;clear b9;obtain⟨jl,jm⟩:=X0;have lX:=NmC.lt ⟨jl,jm⟩;go_wp2_with fail;have X0:NmC w1 (w.heap.size) x:=⟨jl,jm⟩;clear jl jm lX;refine (zAY _ _ _ _ _ n _ (zA HX)).mono ?_;rintro z2 w2 ⟨rfl,j7⟩;rw[zA nO];replace A:=A.bw j7;replace D:=D.bw j7;replace X0:=X0.bw j7;replace Y0:=Y0.bw j7;replace R:=R.bw j7;replace L0:=L0.bw j7;replace HX:=zC ((zA HX).bw j7);replace HY:=zC ((zA HY).bw j7)
 replace bL:=zC ((zA bL).bw j7);replace j8:=zB j8 j7;clear j7;have aa:=A.c0;have ab:=A.c1;have da:=D.c0;have db:=D.c1;have lA:=A.lt;have lD:=D.lt;go_wp2_with fail;clear aa ab da db lA lD;refine (zKV _ p q r s ⟨by omega,by omega,by omega,by omega⟩ ⟨by omega,by omega,by omega,by omega⟩).mono ?_
 rintro z3 w3 ⟨rfl,o7⟩;obtain⟨VE,EY⟩:∃ V,V=w3.alloc (.cells #[.int .i64 (p*s+r*q),.int .i64 (q*s)] 23):=⟨_,rfl⟩;have bVE:Below w3.heap.size w3 VE:=by rw[EY];exact bl1 _ _
 have E0:RaC VE w3.heap.size (p*s+r*q) (q*s):=by rw[EY];exact zL4 w3 _ _ _
 have hbE:=zB o7 bVE;have kE:w.heap.size+1+1+1+1<w3.heap.size:=Zd R.lt o7.size;replace A:=A.bw hbE;replace D:=D.bw hbE;replace X0:=X0.bw hbE;replace Y0:=Y0.bw hbE;replace R:=R.bw hbE;replace L0:=L0.bw hbE;replace HX:=zC ((zA HX).bw hbE);replace HY:=zC ((zA HY).bw hbE);replace bL:=zC ((zA bL).bw hbE);replace j8:=zB j8 hbE;clear hbE o7 bVE;have lA:=A.lt;have lD:=D.lt;have zw:=X0.lt;have Aa:=Y0.lt;have lR:=R.lt;have zv:=L0.lt;have zr:=E0.lt;have iF:=zC (show ∀ w',Below VE.heap.size VE w'->(rK w' (w.heap.size+1+1) p q (rK w' (w.heap.size+1+1+1) r s (nK w' w.heap.size x (nK w' (w.heap.size+1) y (nK w' w0.heap.size (⟨negL,aL,nL,cL⟩:Nm) (w'.cell? ⟨w3.heap.size,0,none⟩=some (.int .i64 (p*s+r*q))/\w'.cell? ⟨w3.heap.size,1,none⟩=some (.int .i64 (q*s)))))))) from λ w' hB=>⟨(A.bw hB).c0,(A.bw hB).c1,(D.bw hB).c0,(D.bw hB).c1,(X0.bw hB).c0,(X0.bw hB).c1,(Y0.bw hB).c0,(Y0.bw hB).c1,(L0.bw hB).c0,(L0.bw hB).c1,(E0.bw hB).c0,(E0.bw hB).c1⟩)
 have dK:=zC (show ∀ W',Below VE.heap.size VE W'->∀ (j:Nat) (u:Sp) w',j<NS->u.bits=(b:Int)->SpAt w' u 103 (puT p q r s n d b j).1 (puT p q r s n d b j).2->Below W'.heap.size W' w'->Calls Tryz.prog 187 #[.agg u.q,.int .i64 ((j:Int)+1),.pointer (some ⟨w3.heap.size,0,none⟩),.pointer (some ⟨w.heap.size+1+1,0,none⟩),.pointer (some ⟨w.heap.size+1+1+1,0,none⟩),.pointer (some ⟨w.heap.size,0,none⟩),.pointer (some ⟨w.heap.size+1,0,none⟩)] w' (zG w' b 121 (puT p q r s n d b (j+1)).1 (puT p q r s n d b (j+1)).2) from λ W' BT j u w' hj A8 C7 M8=>by
  have ay:=zB BT M8;obtain⟨⟨s1,s2⟩,⟨s3,s4⟩,⟨s5,s6⟩,s7,s8⟩:=zA nY j hj;have e:=pt1_iv w' (w3.heap.size) (w.heap.size+1+1) (w.heap.size+1+1+1) (w.heap.size) (w.heap.size+1) u x y 103 b ((j:Int)+1) (puT p q r s n d b j) (p*s+r*q) (q*s) p q r s n d C7 ((zA HX).bw ay) ((zA HY).bw ay) (E0.bw ay) (A.bw ay) (D.bw ay) (X0.bw ay) (Y0.bw ay) (by omega) A8 (by omega) (by omega) s1 s2 s3 s4 s5 s6 Fv (by omega) s7 s8 (by omega)
  have e1:((j:Int)+1-1)=(j:Int):=by omega
  have ec:((j+1:Nat):Int)=(j:Int)+1:=by omega
  have e2:puT p q r s n d b (j+1)=zJ (puT p q r s n d b j) (puU p q r s n (j+1)) (puD p q s d (j+1)):=rfl;rw[e1] at e;rw[e2,pu_k];unfold puD;rw[ec]
  exact e)
 have hs1:¬ s=0:=by omega
 have ak:¬ s = -1:=by omega
 go_wp2_with fail;rw[<- EY];clear EY
 go_cut [13] (λ pz wx=>∃ (B:Nat) (u:Sp),pz=.pointer (some ⟨B,0,none⟩)/\VE.heap.size<=B/\VrC wx B u/\SpAt wx u 106 ((zAN p q r s n d b NS)).1 ((zAN p q r s n d b NS)).2/\u.bits=(b:Int)/\Below VE.heap.size VE wx)
 case first =>
  go_region_held3 (λ w'=>rK w' (w.heap.size+1+1) p q (rK w' (w.heap.size+1+1+1) r s (nK w' w.heap.size x (nK w' (w.heap.size+1) y (nK w' w0.heap.size (⟨negL,aL,nL,cL⟩:Nm) (w'.cell? ⟨w3.heap.size,0,none⟩=some (.int .i64 (p*s+r*q))/\w'.cell? ⟨w3.heap.size,1,none⟩=some (.int .i64 (q*s)))))))) (exact zA iF _ (by repeat' (first|with_reducible exact K6|with_reducible exact I8|with_reducible exact Below.refl _ _|with_reducible refine Below.drew ?_|with_reducible refine zL ?_ _|with_reducible refine Below.setCell ?_ (by first|exact Zb _|exact T3|exact T4) _)))
   (first
    | (go_at_call 182;(try rw[zA Z6]);(try rw[zA bo]);(try rw[zA dJ]);have hq:=I8;refine (zEN _ #[.pointer (some ⟨w3.heap.size,0,none⟩),.pointer (some ⟨w.heap.size+1+1,0,none⟩),.pointer (some ⟨w.heap.size+1+1+1,0,none⟩),.pointer (some ⟨w.heap.size,0,none⟩),.pointer (some ⟨w.heap.size+1,0,none⟩)] en_pt (puT p q r s n d b) (puN r s) NS b 103 121 Kv _ ((zA mY).bw (by with_reducible first|exact Below.refl _ _|exact bl1 _ _)) (zA jd) (by omega) (by omega) (by omega) (by omega) (zA HM) (by omega) (by omega) (zA gx) (zA az) (zA gm) (zA gy) (zA dK _ (by with_reducible first|exact I8|exact zL I8 _))).mono ?_;rintro r fV ⟨DO,rfl,dH,Y7,S5⟩;have jf:=zC dH;clear dH;have Y5:Below cC.heap.size cC fV:=(by with_reducible first|exact S5|exact zB (bl1 _ _) S5);have K6:=zB I8 Y5;(try with_reducible have cR:=(zS cC 31).bw S5);(try replace ae:=ae.bw Y5);have T4:=K6.size;(try have oK:=ae.lt);(try have OY:=Zg oK);(try have Bl:=Zf oK);(try obtain⟨fY,fZ,mL,mM,mN,DR⟩:=ae);(try have oL:=cR.lt);(try have OZ:=Zg oL);(try have Bm:=Zf oL);(try obtain⟨gf,gi,mO,mP,mQ,DS⟩:=cR))
    | (go_at_call 93;refine (zC8 _ b (by omega)).mono ?_;rintro r' cC ⟨Kv,rfl,dG,J9,S4⟩;rw[show 1*Q b/1=Q b by rw[Int.ediv_one,Int.one_mul],show -(-(1*Q b)/1)=Q b by rw[Int.ediv_one,Int.one_mul,Int.neg_neg]] at J9;have jd:=zC dG;have mY:=zC (J9.fits (K:=103) (Int.le_refl _) (zA pg).1 (zA pg).2);clear dG J9;have I8:Below VE.heap.size VE cC:=(by with_reducible first|exact zB (Below.refl _ _).drew S4|exact zB (bl1 _ _).drew S4);(try with_reducible have ae:=((zS VE 31).bw (Below.refl _ _).drew).bw S4);have T3:=I8.size))
  all_goals
   have hfinS:SpAt fV DO 106 ((zAN p q r s n d b NS)).1 ((zAN p q r s n d b NS)).2:=Y7;go_wp2_with fail;go_meet;refine⟨_,DO,rfl,?_,⟨⟨?_,?_,?_,?_,?_⟩,?_⟩,?_,zA jf,?_⟩
   ·first|exact Zb _|exact T3|exact T4
   ·simp[go_sem, *]
   ·simp[go_sem, *]
   ·simp[go_sem, *]
   ·simp[go_sem, *]
   ·simp[go_sem, *]
   ·intro o;simp[go_sem, *]
   ·first|with_reducible exact SpAt.put5 hfinS gf gi mO mP mQ _ _ _ _ _|with_reducible exact SpAt.put5 hfinS fY fZ mL mM mN _ _ _ _ _|with_reducible exact hfinS.bw (bl1 _ _)
   ·repeat' (first|with_reducible exact K6|with_reducible exact I8|with_reducible exact Below.refl _ _|with_reducible refine Below.drew ?_|with_reducible refine zL ?_ _|with_reducible refine Below.setCell ?_ (by first|exact Zb _|exact T3|exact T4) _)
 case rest =>
 obtain⟨BS,xS,rfl,yi,XS,hpS,hxbS,hblS⟩:=hcut;obtain⟨V7,IB⟩:∃ V,V=wc:=⟨_,rfl⟩;subst IB;have kS:=Zd lR yi;replace A:=A.bw hblS;replace D:=D.bw hblS;replace X0:=X0.bw hblS;replace Y0:=Y0.bw hblS;replace R:=R.bw hblS;replace L0:=L0.bw hblS;replace E0:=E0.bw hblS;replace HX:=zC ((zA HX).bw hblS);replace HY:=zC ((zA HY).bw hblS);replace bL:=zC ((zA bL).bw hblS);replace j8:=zB j8 hblS;have iW:=zC hpS;have gO:=zC hxbS;have XSC:=XS.c;clear hpS hxbS XS iF dK gx az gm gy Z6 bo dJ nY hs1 ak lA lD zw Aa lR zv zr yi;have lA:=A.lt;have lD:=D.lt;have zw:=X0.lt;have Aa:=Y0.lt;have lR:=R.lt;have zv:=L0.lt;have zr:=E0.lt;have lS:=XSC.lt;have gj:=zC (show ∀ w',Below V7.heap.size V7 w'->(rK w' (w.heap.size+1+1) p q (rK w' (w.heap.size+1+1+1) r s (nK w' w.heap.size x (nK w' (w.heap.size+1) y (nK w' w0.heap.size (⟨negL,aL,nL,cL⟩:Nm) (w'.cell? ⟨w3.heap.size,0,none⟩=some (.int .i64 (p*s+r*q))/\w'.cell? ⟨w3.heap.size,1,none⟩=some (.int .i64 (q*s))/\cK0 w' BS xS)))))) from λ w' hB=>⟨(A.bw hB).c0,(A.bw hB).c1,(D.bw hB).c0,(D.bw hB).c1,(X0.bw hB).c0,(X0.bw hB).c1,(Y0.bw hB).c0,(Y0.bw hB).c1,(L0.bw hB).c0,(L0.bw hB).c1,(E0.bw hB).c0,(E0.bw hB).c1,(XSC.bw hB).c0,(XSC.bw hB).c1,(XSC.bw hB).c2,(XSC.bw hB).c3,(XSC.bw hB).c4⟩)
 go_wp2_with fail
 go_cut [14] (λ pz wx=>∃ (B:Nat) (u:Sp),pz=.pointer (some ⟨B,0,none⟩)/\V7.heap.size<=B/\VrC wx B u/\SpAt wx u 535 (zB8 (zJ (o1,o2) p q) (zJ (o3,o4) r s)).1 (zB8 (zJ (o1,o2) p q) (zJ (o3,o4) r s)).2/\u.bits=(b:Int)/\Below V7.heap.size V7 wx)
 case first =>
  go_region_held3 (λ w'=>rK w' (w.heap.size+1+1) p q (rK w' (w.heap.size+1+1+1) r s (nK w' w.heap.size x (nK w' (w.heap.size+1) y (nK w' w0.heap.size (⟨negL,aL,nL,cL⟩:Nm) (w'.cell? ⟨w3.heap.size,0,none⟩=some (.int .i64 (p*s+r*q))/\w'.cell? ⟨w3.heap.size,1,none⟩=some (.int .i64 (q*s))/\cK0 w' BS xS)))))) (exact zA gj _ (by repeat' (first|with_reducible exact sj|with_reducible exact bX|with_reducible exact aC|with_reducible exact Q7|with_reducible exact Q6|with_reducible exact Below.refl _ _|with_reducible refine Below.drew ?_|with_reducible refine zL ?_ _|with_reducible refine Below.setCell ?_ (by first|exact Zb _|exact fA|exact fB|exact fC|exact fD|exact vK) _)))
   (first
    | (go_at_call 51;have hq:=bX;refine (zCT _ Ks Fw 534 b (zJ (o1,o2) p q) (zJ (o3,o4) r s) ((Y6.bw (by with_reducible first|exact Below.refl _ _|exact bl1 _ _)).mono (by omega)) ((lM.bw (by with_reducible first|exact Below.refl _ _|exact bl1 _ _)).mono (by omega)) (by omega) (zA jc)).mono ?_;rintro r Sw ⟨Sh,rfl,qI,IM,tJ⟩;have AV:=zC qI;clear qI;have cl:Below wF.heap.size wF Sw:=(by with_reducible first|exact tJ|exact zB (bl1 _ _) tJ);have sj:=zB bX cl;(try with_reducible have Po:=(zS wF 31).bw tJ);replace M6:=M6.bw cl;(try replace bO:=bO.bw cl);replace Y6:=Y6.bw cl;(try replace dS:=dS.bw cl);replace cw:=cw.bw cl;(try replace jo:=jo.bw cl);replace lM:=lM.bw cl;(try replace rS:=rS.bw cl);have vK:=sj.size;(try have Dc:=bO.lt);(try have Wh:=Zg Dc);(try have Hd:=Zf Dc);(try obtain⟨wI,wJ,wK,wL,wM,Mc⟩:=bO);(try have Dd:=dS.lt);(try have EG:=Zg Dd);(try have He:=Zf Dd);(try obtain⟨wN,wO,wP,wQ,wR,Md⟩:=dS);(try have De:=jo.lt);(try have Wj:=Zg De);(try have Hf:=Zf De);(try obtain⟨wT,wV,wW,wY,wZ,Me⟩:=jo);(try have Df:=rS.lt);(try have Wk:=Zg Df);(try have Hg:=Zf Df);(try obtain⟨xc,xd,xe,xg,xi,Mf⟩:=rS);(try have Rl:=Po.lt);(try have eP5:=Zg Rl);(try have Wl:=Zf Rl);(try obtain⟨Mg,Mh,Mi,Mj,Mk,zP55⟩:=Po))
    | (go_at_call 184;have hq:=aC;refine (zCS _ Kt 520 b (o3,o4) r s (cw.bw (by with_reducible first|exact Below.refl _ _|exact bl1 _ _)) (by omega) (zA pj) (by omega) (by omega) RX (by omega)).mono ?_;rintro r wF ⟨Fw,rfl,dE,lM,eO⟩;have pk:=zC dE;clear dE;have Q9:Below oR.heap.size oR wF:=(by with_reducible first|exact eO|exact zB (bl1 _ _) eO);have bX:=zB aC Q9;(try with_reducible have rS:=(zS oR 31).bw eO);replace M6:=M6.bw Q9;(try replace bO:=bO.bw Q9);replace Y6:=Y6.bw Q9;(try replace dS:=dS.bw Q9);replace cw:=cw.bw Q9;(try replace jo:=jo.bw Q9);have fD:=bX.size)
    | (go_at_call 125;have hq:=Q7;refine (zA Gy _ y (⟨negL,aL,nL,cL⟩:Nm) ((zA HY).bw (by with_reducible first|exact Q7|exact zL Q7 _)) ((zA bL).bw (by with_reducible first|exact Q7|exact zL Q7 _))).mono ?_;rintro r oR ⟨Kt,rfl,dD,cw,eM⟩;have pj:=zC dD;clear dD;have aJ:Below oQ.heap.size oQ oR:=(by with_reducible first|exact eM|exact zB (bl1 _ _) eM);have aC:=zB Q7 aJ;(try with_reducible have jo:=(zS oQ 31).bw eM);replace M6:=M6.bw aJ;(try replace bO:=bO.bw aJ);replace Y6:=Y6.bw aJ;(try replace dS:=dS.bw aJ);have fC:=aC.size)
    | (go_at_call 184;have hq:=Q6;refine (zCS _ Kr 520 b (o1,o2) p q (M6.bw (by with_reducible first|exact Below.refl _ _|exact bl1 _ _)) (by omega) (zA ja) (by omega) (by omega) fT (by omega)).mono ?_;rintro r oQ ⟨Ks,rfl,dB,Y6,eJ⟩;have jc:=zC dB;clear dB;have ei:Below oP.heap.size oP oQ:=(by with_reducible first|exact eJ|exact zB (bl1 _ _) eJ);have Q7:=zB Q6 ei;(try with_reducible have dS:=(zS oP 31).bw eJ);replace M6:=M6.bw ei;(try replace bO:=bO.bw ei);have fB:=Q7.size)
    | (go_at_call 125;refine (zA Gx _ y x ((zA HY).bw (by with_reducible first|exact (Below.refl _ _).drew|exact (bl1 _ _).drew)) ((zA HX).bw (by with_reducible first|exact (Below.refl _ _).drew|exact (bl1 _ _).drew))).mono ?_;rintro r oP ⟨Kr,rfl,dA,M6,eI⟩;have ja:=zC dA;clear dA;have Q6:Below V7.heap.size V7 oP:=(by with_reducible first|exact zB (Below.refl _ _).drew eI|exact zB (bl1 _ _).drew eI);(try with_reducible have bO:=((zS V7 31).bw (Below.refl _ _).drew).bw eI);have fA:=Q6.size))
  all_goals
   have hfinP:SpAt Sw Sh 535 (zB8 (zJ (o1,o2) p q) (zJ (o3,o4) r s)).1 (zB8 (zJ (o1,o2) p q) (zJ (o3,o4) r s)).2:=IM;go_wp2_with fail;go_meet;refine⟨_,Sh,rfl,?_,⟨⟨?_,?_,?_,?_,?_⟩,?_⟩,?_,zA AV,?_⟩
   ·first|exact Zb _|exact fA|exact fB|exact fC|exact fD|exact vK
   ·simp[go_sem, *]
   ·simp[go_sem, *]
   ·simp[go_sem, *]
   ·simp[go_sem, *]
   ·simp[go_sem, *]
   ·intro o;simp[go_sem, *]
   ·first|with_reducible exact SpAt.put5 hfinP Mg Mh Mi Mj Mk _ _ _ _ _|with_reducible exact SpAt.put5 hfinP xc xd xe xg xi _ _ _ _ _|with_reducible exact SpAt.put5 hfinP wT wV wW wY wZ _ _ _ _ _|with_reducible exact SpAt.put5 hfinP wN wO wP wQ wR _ _ _ _ _|with_reducible exact SpAt.put5 hfinP wI wJ wK wL wM _ _ _ _ _|with_reducible exact hfinP.bw (bl1 _ _)
   ·repeat' (first|with_reducible exact sj|with_reducible exact bX|with_reducible exact aC|with_reducible exact Q7|with_reducible exact Q6|with_reducible exact Below.refl _ _|with_reducible refine Below.drew ?_|with_reducible refine zL ?_ _|with_reducible refine Below.setCell ?_ (by first|exact Zb _|exact fA|exact fB|exact fC|exact fD|exact vK) _)
 case rest =>
 obtain⟨BP,xP,rfl,BD,XP,hpP,hxbP,hblP⟩:=hcut;obtain⟨V8,Xv⟩:∃ V,V=wc:=⟨_,rfl⟩;subst Xv;have kP:=Zd lR BD;replace A:=A.bw hblP;replace D:=D.bw hblP;replace X0:=X0.bw hblP;replace Y0:=Y0.bw hblP;replace R:=R.bw hblP;replace L0:=L0.bw hblP;replace E0:=E0.bw hblP;replace HX:=zC ((zA HX).bw hblP);replace HY:=zC ((zA HY).bw hblP);replace bL:=zC ((zA bL).bw hblP);replace j8:=zB j8 hblP;replace XSC:=XSC.bw hblP;replace iW:=zC ((zA iW).bw hblP);have At:=zC hpP;have rD:=zC hxbP;have XPC:=XP.c;clear hpP hxbP XP gj lS lA lD zw Aa lR zv zr BD;have lA:=A.lt;have lD:=D.lt;have zw:=X0.lt;have Aa:=Y0.lt;have lR:=R.lt;have zv:=L0.lt;have zr:=E0.lt;have lS:=XSC.lt;have lP:=XPC.lt;have Am:=zC (show ∀ w',Below V8.heap.size V8 w'->(rK w' (w.heap.size+1+1) p q (rK w' (w.heap.size+1+1+1) r s (nK w' w.heap.size x (nK w' (w.heap.size+1) y (nK w' w0.heap.size (⟨negL,aL,nL,cL⟩:Nm) (w'.cell? ⟨w3.heap.size,0,none⟩=some (.int .i64 (p*s+r*q))/\w'.cell? ⟨w3.heap.size,1,none⟩=some (.int .i64 (q*s))/\cK w' BS xS (cK0 w' BP xP))))))) from λ w' hB=>⟨(A.bw hB).c0,(A.bw hB).c1,(D.bw hB).c0,(D.bw hB).c1,(X0.bw hB).c0,(X0.bw hB).c1,(Y0.bw hB).c0,(Y0.bw hB).c1,(L0.bw hB).c0,(L0.bw hB).c1,(E0.bw hB).c0,(E0.bw hB).c1,(XSC.bw hB).c0,(XSC.bw hB).c1,(XSC.bw hB).c2,(XSC.bw hB).c3,(XSC.bw hB).c4,(XPC.bw hB).c0,(XPC.bw hB).c1,(XPC.bw hB).c2,(XPC.bw hB).c3,(XPC.bw hB).c4⟩)
 go_wp2_with fail
 go_cut [15] (λ pz wx=>∃ (B:Nat) (u:Sp),pz=.pointer (some ⟨B,0,none⟩)/\V8.heap.size<=B/\VrC wx B u/\SpAt wx u 524 (zB8 (o5,o6) (lg,ug)).1 (zB8 (o5,o6) (lg,ug)).2/\u.bits=(b:Int)/\Below V8.heap.size V8 wx)
 case first =>
  go_region_held3 (λ w'=>rK w' (w.heap.size+1+1) p q (rK w' (w.heap.size+1+1+1) r s (nK w' w.heap.size x (nK w' (w.heap.size+1) y (nK w' w0.heap.size (⟨negL,aL,nL,cL⟩:Nm) (w'.cell? ⟨w3.heap.size,0,none⟩=some (.int .i64 (p*s+r*q))/\w'.cell? ⟨w3.heap.size,1,none⟩=some (.int .i64 (q*s))/\cK w' BS xS (cK0 w' BP xP))))))) (exact zA Am _ (by repeat' (first|with_reducible exact sG|with_reducible exact ko|with_reducible exact kn|with_reducible exact km|with_reducible exact kl|with_reducible exact Below.refl _ _|with_reducible refine Below.drew ?_|with_reducible refine zL ?_ _|with_reducible refine Below.setCell ?_ (by first|exact Zb _|exact vQ|exact vR|exact vS|exact vW|exact vX) _)))
   (first
    | (go_at_call 51;have hq:=ko;refine (zCT _ vZ3 vZ4 523 b (o5,o6) (lg,ug) ((mg.bw (by with_reducible first|exact Below.refl _ _|exact bl1 _ _)).mono (by omega)) ((td.bw (by with_reducible first|exact Below.refl _ _|exact bl1 _ _)).mono (by omega)) (by omega) (zA Bc)).mono ?_;rintro r SA ⟨Sn,rfl,qR,IX,tT⟩;have Be:=zC qR;clear qR;have cn:Below FT.heap.size FT SA:=(by with_reducible first|exact tT|exact zB (bl1 _ _) tT);have sG:=zB ko cn;(try with_reducible have Pt:=(zS FT 31).bw tT);replace cx:=cx.bw cn;(try replace nc:=nc.bw cn);replace eH:=eH.bw cn;(try replace pC:=pC.bw cn);replace mg:=mg.bw cn;(try replace yg:=yg.bw cn);replace td:=td.bw cn;(try replace EM:=EM.bw cn);have vX:=sG.size;(try have Rs:=nc.lt);(try have eZ1:=Zg Rs);(try have WA:=Zf Rs);(try obtain⟨MZ,Na,Nb,Nc,Nd,zZ15⟩:=nc);(try have Rt:=pC.lt);(try have eZ2:=Zg Rt);(try have WB:=Zf Rt);(try obtain⟨Nf,Ng,Nh,Ni,Nj,zZ25⟩:=pC);(try have Rv:=yg.lt);(try have eZ3:=Zg Rv);(try have WC:=Zf Rv);(try obtain⟨Nk,Nl,Np,Nq,Nr,zZ35⟩:=yg);(try have Rw:=EM.lt);(try have eZ4:=Zg Rw);(try have WD:=Zf Rw);(try obtain⟨Ns,Nt,Nv,Nw,Nx,zZ45⟩:=EM);(try have Rx:=Pt.lt);(try have eZ5:=Zg Rx);(try have WE:=Zf Rx);(try obtain⟨Ny,Nz,NA,NB,NC,zZ55⟩:=Pt))
    | (go_at_call 188;have hq:=kn;refine (zA Te _).mono ?_;rintro r FT ⟨vZ4,rfl,qQ,td,tS⟩;have Ox:=zC qQ;clear qQ;have eE:Below FQ.heap.size FQ FT:=(by with_reducible first|exact tS|exact zB (bl1 _ _) tS);have ko:=zB kn eE;(try with_reducible have EM:=(zS FQ 31).bw tS);replace cx:=cx.bw eE;(try replace nc:=nc.bw eE);replace eH:=eH.bw eE;(try replace pC:=pC.bw eE);replace mg:=mg.bw eE;(try replace yg:=yg.bw eE);have vW:=ko.size)
    | (go_at_call 125;have hq:=km;refine (zA Gz _ ⟨DF,Vk,nZ1,VF⟩ ⟨DG,Vl,nZ2,VG⟩ (cx.bw (by with_reducible first|exact Below.refl _ _|exact bl1 _ _)) (eH.bw (by with_reducible first|exact Below.refl _ _|exact bl1 _ _))).mono ?_;rintro r FQ ⟨vZ3,rfl,qP,mg,tR⟩;have Bc:=zC qP;clear qP;have kt:Below FP.heap.size FP FQ:=(by with_reducible first|exact tR|exact zB (bl1 _ _) tR);have kn:=zB km kt;(try with_reducible have yg:=(zS FP 31).bw tR);replace cx:=cx.bw kt;(try replace nc:=nc.bw kt);replace eH:=eH.bw kt;(try replace pC:=pC.bw kt);have vS:=kn.size)
    | (go_at_call 33;have hq:=kl;refine (zD q _ (by omega) (by omega)).mono ?_;rintro r FP ⟨DG,Vl,nZ2,VG,rfl,eH,tQ⟩;have sQ:Below FO.heap.size FO FP:=(by with_reducible first|exact tQ|exact zB (bl1 _ _) tQ);have km:=zB kl sQ;(try with_reducible have pC:=(zS FO 31).bw tQ);replace cx:=cx.bw sQ;(try replace nc:=nc.bw sQ);have vR:=km.size)
    | (go_at_call 33;refine (zD p _ (by omega) (by omega)).mono ?_;rintro r FO ⟨DF,Vk,nZ1,VF,rfl,cx,tP⟩;have kl:Below V8.heap.size V8 FO:=(by with_reducible first|exact zB (Below.refl _ _).drew tP|exact zB (bl1 _ _).drew tP);(try with_reducible have nc:=((zS V8 31).bw (Below.refl _ _).drew).bw tP);have vQ:=kl.size))
  all_goals
   have hfinZ:SpAt SA Sn 524 (zB8 (o5,o6) (lg,ug)).1 (zB8 (o5,o6) (lg,ug)).2:=IX;go_wp2_with fail;go_meet;refine⟨_,Sn,rfl,?_,⟨⟨?_,?_,?_,?_,?_⟩,?_⟩,?_,zA Be,?_⟩
   ·first|exact Zb _|exact vQ|exact vR|exact vS|exact vW|exact vX
   ·simp[go_sem, *]
   ·simp[go_sem, *]
   ·simp[go_sem, *]
   ·simp[go_sem, *]
   ·simp[go_sem, *]
   ·intro o;simp[go_sem, *]
   ·first|with_reducible exact SpAt.put5 hfinZ Ny Nz NA NB NC _ _ _ _ _|with_reducible exact SpAt.put5 hfinZ Ns Nt Nv Nw Nx _ _ _ _ _|with_reducible exact SpAt.put5 hfinZ Nk Nl Np Nq Nr _ _ _ _ _|with_reducible exact SpAt.put5 hfinZ Nf Ng Nh Ni Nj _ _ _ _ _|with_reducible exact SpAt.put5 hfinZ MZ Na Nb Nc Nd _ _ _ _ _|with_reducible exact hfinZ.bw (bl1 _ _)
   ·repeat' (first|with_reducible exact sG|with_reducible exact ko|with_reducible exact kn|with_reducible exact km|with_reducible exact kl|with_reducible exact Below.refl _ _|with_reducible refine Below.drew ?_|with_reducible refine zL ?_ _|with_reducible refine Below.setCell ?_ (by first|exact Zb _|exact vQ|exact vR|exact vS|exact vW|exact vX) _)
 case rest =>
 obtain⟨BZ,xZ,rfl,PE,XZ,hpZ,hxbZ,hblZ⟩:=hcut;obtain⟨V9,yo⟩:∃ V,V=wc:=⟨_,rfl⟩;subst yo;have kZ:=Zd lR PE;replace A:=A.bw hblZ;replace D:=D.bw hblZ;replace X0:=X0.bw hblZ;replace Y0:=Y0.bw hblZ;replace R:=R.bw hblZ;replace L0:=L0.bw hblZ;replace E0:=E0.bw hblZ;replace HX:=zC ((zA HX).bw hblZ);replace HY:=zC ((zA HY).bw hblZ);replace bL:=zC ((zA bL).bw hblZ);replace j8:=zB j8 hblZ;replace XSC:=XSC.bw hblZ;replace XPC:=XPC.bw hblZ;replace iW:=zC ((zA iW).bw hblZ);replace At:=zC ((zA At).bw hblZ);have TI:=zC hpZ;have HZB:=zC hxbZ;have XZC:=XZ.c;clear hpZ hxbZ XZ Am lS lP lA lD zw Aa lR zv zr PE;have lA:=A.lt;have lD:=D.lt;have zw:=X0.lt;have Aa:=Y0.lt;have lR:=R.lt;have zv:=L0.lt;have zr:=E0.lt;have lS:=XSC.lt;have lP:=XPC.lt;have lZ:=XZC.lt;have Al:=zC (show ∀ w',Below V9.heap.size V9 w'->(rK w' (w.heap.size+1+1) p q (rK w' (w.heap.size+1+1+1) r s (nK w' w.heap.size x (nK w' (w.heap.size+1) y (nK w' w0.heap.size (⟨negL,aL,nL,cL⟩:Nm) (w'.cell? ⟨w3.heap.size,0,none⟩=some (.int .i64 (p*s+r*q))/\w'.cell? ⟨w3.heap.size,1,none⟩=some (.int .i64 (q*s))/\cK w' BS xS (cK w' BP xP (cK0 w' BZ xZ)))))))) from λ w' hB=>⟨(A.bw hB).c0,(A.bw hB).c1,(D.bw hB).c0,(D.bw hB).c1,(X0.bw hB).c0,(X0.bw hB).c1,(Y0.bw hB).c0,(Y0.bw hB).c1,(L0.bw hB).c0,(L0.bw hB).c1,(E0.bw hB).c0,(E0.bw hB).c1,(XSC.bw hB).c0,(XSC.bw hB).c1,(XSC.bw hB).c2,(XSC.bw hB).c3,(XSC.bw hB).c4,(XPC.bw hB).c0,(XPC.bw hB).c1,(XPC.bw hB).c2,(XPC.bw hB).c3,(XPC.bw hB).c4,(XZC.bw hB).c0,(XZC.bw hB).c1,(XZC.bw hB).c2,(XZC.bw hB).c3,(XZC.bw hB).c4⟩)
 have sS:Below V9.heap.size V9 V9.drew:=(Below.refl _ _).drew;have Dr:w.heap.size+1+1+1+1≠BS:=by omega
 have rj:w.heap.size+1+1+1+1≠BP:=by omega
 have Ft:w.heap.size+1+1+1+1≠BZ:=by omega
 have RB:w.heap.size+1+1+1+1≠w0.heap.size:=by omega
 have nR5:w.heap.size+1+1+1+1≠w3.heap.size:=by omega
 have nR6:w.heap.size+1+1+1+1≠w.heap.size:=by omega
 have nR7:w.heap.size+1+1+1+1≠w.heap.size+1:=by omega
 have nR8:w.heap.size+1+1+1+1≠w.heap.size+1+1:=by omega
 have nR9:w.heap.size+1+1+1+1≠w.heap.size+1+1+1:=by omega
 have nRa:w.heap.size+1+1≠w.heap.size:=by omega
 have nRb:w.heap.size+1+1+1≠w.heap.size:=by omega
 go_wp2_with fail;obtain⟨x0,x1,x2,x3,x4,x5,x6,x7,x8,x9,FV,SC,SD,x13,x14,x15,x16,x17,x18,x19,x20,x21,x22,x23,x24,x25,x26⟩:=zA Al _ (Below.refl _ _)
 go_region_held3 (λ w'=>rK w' (w.heap.size+1+1) p q (rK w' (w.heap.size+1+1+1) r s (nK w' w.heap.size x (nK w' (w.heap.size+1) y (nK w' w0.heap.size (⟨negL,aL,nL,cL⟩:Nm) (w'.cell? ⟨w3.heap.size,0,none⟩=some (.int .i64 (p*s+r*q))/\w'.cell? ⟨w3.heap.size,1,none⟩=some (.int .i64 (q*s))/\cK w' BS xS (cK w' BP xP (cK0 w' BZ xZ)))))))) (first|exact zA Al _ (by with_reducible first|exact sS|exact sT|exact pH|exact nj|exact pG)|(dsimp only[cK,cK0,nK,nK0,rK,rK0];go_keep)|go_keep)
  (first
   | (go_at_call 141;have hq:=pH;refine (zBR _ f3 _ b _ _ mz (zA F3) (by omega) (by omega) (by omega)).mono ?_;rintro r' g4 ⟨f4,rfl,cV,hO,tY⟩;rw[zEF] at hO;have F4:=zC cV;clear cV;have sT:=zB pH tY;obtain⟨q0,q1,q2,q3,q4,q5⟩:=R.bw sT)
   | (go_at_call 162;have hq:=nj;refine (zDF _ xS f2 K9 b (zAN p q r s n d b NS).1 (zAN p q r s n d b NS).2 (puE p q r s b (o1,o2) (o3,o4) (o5,o6) (lg,ug) t NE).1 (puE p q r s b (o1,o2) (o3,o4) (o5,o6) (lg,ug) t NE).2 (((zA iW).bw nj).mono (by omega)) my (by omega) (by omega) (zA gO) (zA X7).2.2.2.1 (zA X7).1 (zA X7).2.1).mono ?_;rintro r' g3 ⟨f3,rfl,fo,mz,oC⟩;have F3:=zC fo;clear fo;have pH:=zB nj oC)
   | (go_at_call 77;have hq:=pG;refine (zBG _ f1 K9 b t NE (puY p q r s (o1,o2) (o3,o4) (o5,o6) (lg,ug)) l (SpAt.mono (show SpAt _ f1 536 (puY p q r s (o1,o2) (o3,o4) (o5,o6) (lg,ug)).1 (puY p q r s (o1,o2) (o3,o4) (o5,o6) (lg,ug)).2 from mv) (by omega)) (zA F1) (zA GL) (by omega) (by omega) (zA Gi) (zA Gj) (by omega) (zA xD) (zA oW) (zA rF) (by omega)).mono ?_;rintro r' g2 ⟨f2,rfl,fj,my,yx⟩;clear fj;have nj:=zB pG yx)
   | (go_at_call 51;refine (zCT _ xP xZ 535 b (zB8 (zJ (o1,o2) p q) (zJ (o3,o4) r s)) (zB8 (o5,o6) (lg,ug)) ((zA At).bw sS) (((zA TI).bw sS).mono (by omega)) (by omega) (zA rD)).mono ?_;rintro r' g1 ⟨f1,rfl,fh,mv,pQ⟩;have F1:=zC fh;clear fh;have pG:=zB sS pQ))
 all_goals
  have fit:=SpAt.fits (K:=30) (show SpAt g4 f4 _ (zDN (zAN p q r s n d b NS).1 (zAN p q r s n d b NS).2 (puE p q r s b (o1,o2) (o3,o4) (o5,o6) (lg,ug) t NE).1 (puE p q r s b (o1,o2) (o3,o4) (o5,o6) (lg,ug) t NE).2 b) (zNO (zAN p q r s n d b NS) (puE p q r s b (o1,o2) (o3,o4) (o5,o6) (lg,ug) t NE) b) from hO) (zHE (zA X7).2.2.2.2 b1).1 (zHE (zA X7).2.2.2.2 b1).2.1 (zHE (zA X7).2.2.2.2 b1).2.2
  go_wp2_with fail;refine bodyPost_ret (v:=.agg f4.q) (by simp[results,Tryz.results160,go_sem,q0,q1,q2,q3,q4]) rfl ⟨f4,rfl,zA F4,?_,?_⟩
  ·exact SpAt.put5 fit q0 q1 q2 q3 q4 _ _ _ _ _
  ·exact jS (zB j8 sT) (by omega) _ _ _ _ _
end Go.Proofs.YtgmnknmjainabacGreat
