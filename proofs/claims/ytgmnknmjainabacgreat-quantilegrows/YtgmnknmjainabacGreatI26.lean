/-
  Its own texts.
-/
import Derived.Test.YtgmnknmjainabacGreatI25
set_option maxRecDepth 100000
set_option maxHeartbeats 40000000
set_option linter.unnecessarySimpa false
set_option linter.unusedSimpArgs false
set_option linter.unusedVariables false
namespace Go.Proofs.YtgmnknmjainabacGreat
open Go.RowKit
attribute [local go_sem ↓] Go.wp_at_zero Go.wp_at_succ
open Ex
theorem wnor_iv (w:World) (x y:Nm) (p q:Int) (b:Nat) (s e:Int) (hx:IntAt w x.neg x.a x.n x.cap 4 p) (hy:IntAt w y.neg y.a y.n y.cap 4 q) (hr:wrok p q) (E6:40<=b) (hb:b<=10000) (hE:ErfN (p*p) (q*q*2) b s e) :
  Calls Tryz.prog 158 #[.agg x.q,.agg y.q,.int .i64 b] w (zH w b 3020 (zFC b p (s,e)).1 (zFC b p (s,e)).2):=by
 obtain⟨W,hW⟩:∃ W,W=((w.alloc (.cells x.q 29)).alloc (.cells y.q 29)).alloc (.cells zCq 31):=⟨_,rfl⟩;have j7:Below w.heap.size w W:=by rw[hW];exact bl3 _ _ _ _
 have X:NmC W w.heap.size x:=by rw[hW];constructor<;>simp[go_sem]
 have Y:NmC W (w.heap.size+1) y:=by rw[hW];constructor<;>simp[go_sem]
 have R:NoC W (w.heap.size+1+1):=by rw[hW];constructor<;>simp[go_sem]
 obtain⟨r1,r2,r3,r4⟩:=hr;obtain⟨a1,a2⟩:=sq_bw (p:=q) (K:=137438953472) (by omega) (by omega)
 have HX:=zC (hx.bw j7);have HY:=zC (hy.bw j7)
 have Ph:=zC (show -P 8<2*(q*q)/\2*(q*q)<P 8 by
  have:P 8=340282366920938463463374607431768211456:=rfl
  exact⟨by omega,by omega⟩)
 have HE:=zC (show ErfN (p*p) (2*(q*q)) b s e by
  have e2:q*q*2=2*(q*q):=by omega
  rw[e2] at hE;exact hE)
 have lX:=X.lt;have lY:=Y.lt;have lR:=R.lt;have HK:=zC (show ∀ w',Below W.heap.size W w'->(nK w' w.heap.size x (nK0 w' ((w.heap.size+1)) y)) from λ w' hB=>⟨(X.bw hB).c0,(X.bw hB).c1,(Y.bw hB).c0,(Y.bw hB).c1⟩)
 clear hE hx hy a1 a2 r1 r2 r3 r4 X Y
 go_enter Tryz.func158,Tryz.ntmps158
 go_wp2;rw[<- hW];clear hW lR
 go_cut [7] (λ p wx=>∃ (B:Nat) (u:Sp),p=.pointer (some ⟨B,0,none⟩)/\W.heap.size<=B/\VrC wx B u/\SpAt wx u 3000 (((s,e):Int × Int)).1 (((s,e):Int × Int)).2/\u.bits=(b:Int)/\Below W.heap.size W wx)
 case first =>
  go_region_held3 (λ w'=>nK w' w.heap.size x (nK0 w' ((w.heap.size+1)) y)) (exact zA HK _ (by repeat' (first|with_reducible exact sO|with_reducible exact bl|with_reducible exact K9|with_reducible exact G1|with_reducible exact Below.refl _ _|with_reducible refine Below.drew ?_|with_reducible refine zL ?_ _|with_reducible refine Below.setCell ?_ (by first|exact YE _|exact R9|exact S3|exact eZ|exact wB) _)))
   (first
    | (go_at_call 178;have hq:=bl;refine (zA HE _ ⟨aY,zm,AM,zo⟩ ⟨Ed,VS,nU3,Wr⟩ (J8.bw (by with_reducible first|exact Below.refl _ _|exact bl1 _ _)) ((ks.bw (by with_reducible first|exact Below.refl _ _|exact bl1 _ _)).fits (zA Ph).1 (zA Ph).2)).mono ?_;rintro r Tb ⟨SM,rfl,qT,JD,vd⟩;have BA:=zC qT;clear qT;have dG:Below xj.heap.size xj Tb:=(by with_reducible first|exact vd|exact zB (bl1 _ _) vd);have sO:=zB bl dG;(try with_reducible have Qe:=(zQ xj 31).bw vd);replace J8:=J8.bw dG;(try replace Y9:=Y9.bw dG);replace T6:=T6.bw dG;(try replace cw:=cw.bw dG);replace ks:=ks.bw dG;(try replace sD:=sD.bw dG);have wB:=sO.size;(try have oO:=Y9.lt);(try have PT:=YJ oO);(try have Cg:=YI oO);(try obtain⟨mN,mO,ye,yg,yh,Eo⟩:=Y9);(try have oP:=cw.lt);(try have PV:=YJ oP);(try have Ch:=YI oP);(try obtain⟨mP,mQ,yi,yj,ym,Ep⟩:=cw);(try have DO:=sD.lt);(try have Xc:=YJ DO);(try have IG:=YI DO);(try obtain⟨Er,Es,Et,Ew,Ey,Nw⟩:=sD);(try have RY:=Qe.lt);(try have eU4:=YJ RY);(try have Xd:=YI RY);(try obtain⟨Nx,Ny,Nz,NA,NB,zU45⟩:=Qe))
    | (go_at_call 116;have hq:=K9;refine (zUE _ _ _ _ 8 (q*q) _ (T6.bw (by with_reducible first|exact Below.refl _ _|exact bl1 _ _)) (by omega)).mono ?_;rintro r xj ⟨Ed,VS,nU3,Wr,rfl,ks,dW⟩;have ar:Below ft.heap.size ft xj:=(by with_reducible first|exact dW|exact zB (bl1 _ _) dW);have bl:=zB K9 ar;(try with_reducible have sD:=(zQ ft 31).bw dW);replace J8:=J8.bw ar;(try replace Y9:=Y9.bw ar);replace T6:=T6.bw ar;(try replace cw:=cw.bw ar);have eZ:=bl.size)
    | (go_at_call 83;have hq:=G1;refine (zT _ _ _ _ _ _ _ _ 4 4 q q _ ((zA HY).bw (by with_reducible first|exact G1|exact zL G1 _)) ((zA HY).bw (by with_reducible first|exact G1|exact zL G1 _)) (by omega) (by omega)).mono ?_;rintro r ft ⟨aH,rS,wY,rT,rfl,T6,Q8⟩;have Q0:Below bQ.heap.size bQ ft:=(by with_reducible first|exact Q8|exact zB (bl1 _ _) Q8);have K9:=zB G1 Q0;(try with_reducible have cw:=(zQ bQ 31).bw Q8);replace J8:=J8.bw Q0;(try replace Y9:=Y9.bw Q0);have S3:=K9.size)
    | (go_at_call 83;refine (zT _ _ _ _ _ _ _ _ 4 4 p p _ ((zA HX).bw (by with_reducible first|exact (Below.refl _ _).drew|exact (bl1 _ _).drew)) ((zA HX).bw (by with_reducible first|exact (Below.refl _ _).drew|exact (bl1 _ _).drew)) (by omega) (by omega)).mono ?_;rintro r bQ ⟨aY,zm,AM,zo,rfl,J8,Q7⟩;have G1:Below W.heap.size W bQ:=(by with_reducible first|exact zB (Below.refl _ _).drew Q7|exact zB (bl1 _ _).drew Q7);(try with_reducible have Y9:=((zQ W 31).bw (Below.refl _ _).drew).bw Q7);have R9:=G1.size))
  all_goals
   have hfinU:SpAt Tb SM 3000 (((s,e):Int × Int)).1 (((s,e):Int × Int)).2:=JD;go_wp2_with fail;go_meet;refine⟨_,SM,rfl,?_,⟨⟨?_,?_,?_,?_,?_⟩,?_⟩,?_,zA BA,?_⟩
   ·first|exact YE _|exact R9|exact S3|exact eZ|exact wB
   ·simp[go_sem, *]
   ·simp[go_sem, *]
   ·simp[go_sem, *]
   ·simp[go_sem, *]
   ·simp[go_sem, *]
   ·intro o;simp[go_sem, *]
   ·first|with_reducible exact SpAt.put5 hfinU Nx Ny Nz NA NB _ _ _ _ _|with_reducible exact SpAt.put5 hfinU Er Es Et Ew Ey _ _ _ _ _|with_reducible exact SpAt.put5 hfinU mP mQ yi yj ym _ _ _ _ _|with_reducible exact SpAt.put5 hfinU mN mO ye yg yh _ _ _ _ _|with_reducible exact hfinU.bw (bl1 _ _)
   ·repeat' (first|with_reducible exact sO|with_reducible exact bl|with_reducible exact K9|with_reducible exact G1|with_reducible exact Below.refl _ _|with_reducible refine Below.drew ?_|with_reducible refine zL ?_ _|with_reducible refine Below.setCell ?_ (by first|exact YE _|exact R9|exact S3|exact eZ|exact wB) _)
 case rest =>
 obtain⟨BU,xU,rfl,Ct,XU,hpU,hxbU,hblU⟩:=hcut;have lR:=R.lt;replace R:=R.bw hblU;replace HX:=zC ((zA HX).bw hblU);replace j7:=zB j7 hblU;obtain⟨x0,x1,x2,x3⟩:=zA HK _ hblU;have nRU:w.heap.size+1+1<BU:=by omega
 have ae:=R.lt;have FV:w.heap.size<wc.heap.size:=by omega
 have nZ:=zC hxbU;have cm:=zC hpU;clear hxbU hpU HK hblU;go_wp2_with fail;refine (zBS _ _ _ _ 4 p _ (zA HX)).mono ?_;rintro r w1 ⟨rfl,b9⟩;replace R:=R.bw b9;replace XU:=XU.bw b9;replace cm:=zC ((zA cm).bw b9);replace j7:=zB j7 b9;clear b9 x0 x1 x2 x3 HX;have lU:=XU.lt;have gQ:=R.lt;obtain⟨⟨y0,y1,y2,y3,y4⟩,y5⟩:=XU
 by_cases hp:0<p
 ·have cp:0<zM p 0:=cmp_gt hp
  have GN:=zC (show zFC b p (s,e)=zK (zA8 b (-e,-s)) 1 2 by unfold zFC oppP;rw[if_pos hp])
  go_wp2_with fail;refine (zDE _ xU 3000 _ _ (zA cm) (by omega)).mono ?_
  rintro r w3 ⟨t,rfl,I8,P1,m9⟩;have ET:VrC w3 BU xU:=VrC.bw ⟨⟨y0,y1,y2,y3,y4⟩,y5⟩ m9;replace R:=R.bw m9;replace j7:=zB j7 m9;have HT:=zC (I8.trans (zA nZ));clear I8 y0 y1 y2 y3 y4 y5 m9 cm lU gQ;have lU:=ET.lt;have gQ:=R.lt;obtain⟨V3,I6⟩:∃ V3,V3=yW w3 BU t:=⟨_,rfl⟩;have X3:VrC V3 BU t:=by rw[I6];exact ET.put t
  have P3:SpAt V3 t 3000 (-e) (-s):=by rw[I6];exact P1.put ET.c t
  have R3:NoC V3 (w.heap.size+1+1):=by rw[I6];exact R.off (by omega) t
  have B3:Below w.heap.size w V3:=by rw[I6];exact zAR j7 (by omega) t
  obtain⟨⟨y0,y1,y2,y3,y4⟩,y5⟩:=ET;clear P1 j7 R;have z0:V3.cell? ⟨BU,0,none⟩=some (.bool t.ln):=X3.c.c0;have z1:V3.cell? ⟨BU,1,none⟩=some (.slice t.la t.lN t.lc):=X3.c.c1;have z2:V3.cell? ⟨BU,2,none⟩=some (.bool t.hn):=X3.c.c2;have z3:V3.cell? ⟨BU,3,none⟩=some (.slice t.ha t.hN t.hc):=X3.c.c3;have z4:V3.cell? ⟨BU,4,none⟩=some (.int .i64 t.bits):=X3.c.c4;go_wp2_with fail;have Q3:V3=yW w3 BU t:=I6;unfold yW at Q3;rw[<- Q3];clear Q3 I6 y0 y1 y2 y3 y4 y5
  (try go_wp2_with fail)
  refine (zEW _ t 3000 b (-e,-s) P3 (zA HT) (by omega) (by omega) (by omega)).mono ?_
  rintro r w4 ⟨v,rfl,K3,J7,y9⟩;replace R3:=R3.bw y9;replace B3:=zB B3 y9;have HV:=zC K3;clear K3 y9;go_wp2_with fail;refine (zIT _ v 3001 b 2 _ J7 (by omega) (zA HV) (by omega) (by omega)).mono ?_
  rintro r w5 ⟨o,rfl,Dh,wR,D6⟩;rw[<- zA GN] at wR;obtain⟨q0,q1,q2,q3,q4,q5⟩:=R3.bw D6;replace B3:=zB B3 D6;have HO:=zC Dh;clear Dh;go_wp2_with fail;refine bodyPost_ret (v:=.agg o.q) (by simp[results,Tryz.results158,go_sem,q0,q1,q2,q3,q4]) rfl ⟨o,rfl,zA HO,?_,?_⟩
  ·exact SpAt.put5 (wR.mono (by omega)) q0 q1 q2 q3 q4 _ _ _ _ _
  ·exact jY B3 (by omega) _ _ _ _ _
 ·have cp:¬ 0<zM p 0:=cmp_le (by omega)
  have GN:=zC (show zFC b p (s,e)=zK (zA8 b (s,e)) 1 2 by unfold zFC oppP;rw[if_neg hp])
  have HT:=nZ;have R3:=R;have B3:=j7;clear R j7;go_wp2_with fail;refine (zEW _ xU 3000 b (s,e) (zA cm) (zA HT) (by omega) (by omega) (by omega)).mono ?_
  rintro r w4 ⟨v,rfl,K3,J7,y9⟩;replace R3:=R3.bw y9;replace B3:=zB B3 y9;have HV:=zC K3;clear K3 y9;go_wp2_with fail;refine (zIT _ v 3001 b 2 _ J7 (by omega) (zA HV) (by omega) (by omega)).mono ?_
  rintro r w5 ⟨o,rfl,Dh,wR,D6⟩;rw[<- zA GN] at wR;obtain⟨q0,q1,q2,q3,q4,q5⟩:=R3.bw D6;replace B3:=zB B3 D6;have HO:=zC Dh;clear Dh;go_wp2_with fail;refine bodyPost_ret (v:=.agg o.q) (by simp[results,Tryz.results158,go_sem,q0,q1,q2,q3,q4]) rfl ⟨o,rfl,zA HO,?_,?_⟩
  ·exact SpAt.put5 (wR.mono (by omega)) q0 q1 q2 q3 q4 _ _ _ _ _
  ·exact jY B3 (by omega) _ _ _ _ _
theorem zJZ {a b K M:Int} (h1 : -K<=a) (h2:a<=K) (h3:0<=b) (h4:b<=M) : -(K*M)<=a*b/\a*b<=K*M:=by
 have m1:=Int.mul_le_mul h2 h4 h3 (show 0<=K by omega)
 have m2:=Int.mul_le_mul (show -a<=K by omega) h4 h3 (show 0<=K by omega)
 have e : -a*b = -(a*b):=Int.neg_mul _ _;omega
theorem zSW {p q r s n d:Int} (S6:rok p q) (O9:rok n d) (qg:rok r s) (hr:0<r) (hs:r<=100*s):wrok ((n*q-p*d)*s) (d*q*r):=by
 obtain⟨a1,a2,a3,a4⟩:=S6;obtain⟨c1,c2,c3,c4⟩:=O9;obtain⟨g1,g2,g3,g4⟩:=qg;obtain⟨u1,u2⟩:=zJZ (a:=n) (b:=q) (K:=1048576) (M:=1024) c1 c2 (by omega) a4
 obtain⟨u3,u4⟩:=zJZ (a:=p) (b:=d) (K:=1048576) (M:=1024) a1 a2 (by omega) c4
 obtain⟨v1,v2⟩:=zJZ (a:=n*q-p*d) (b:=s) (K:=2147483648) (M:=1024) (by omega) (by omega) (by omega) g4
 have w0:=Int.mul_pos (show 0<d by omega) (show 0<q by omega)
 have w1:=Int.mul_le_mul c4 a4 (by omega) (by omega)
 have y0:=Int.mul_pos w0 hr;have y1:=Int.mul_le_mul (show d*q<=1048576 by omega) (show r<=102400 by omega) (by omega) (by omega)
 exact⟨by omega,by omega,by omega,by omega⟩
theorem zNG (w:World) (k p q r s n d:Int) (b:Nat) (s0 e0:Int) (E6:40<=b) (hb:b<=10000) (S6:rok p q) (O9:rok n d) (qg:rok r s) (hr:0<r) (hs:r<=100*s) (hE:ErfN (((n*q-p*d)*s)*((n*q-p*d)*s)) ((d*q*r)*(d*q*r)*2) b s0 e0) :
  Calls Tryz.prog 131 #[.agg #[.int .i64 k,.int .i64 p,.int .i64 q,.int .i64 r,.int .i64 s],.agg #[.int .i64 n,.int .i64 d],.int .i64 b] w (zH w b 3020 (zFC b ((n*q-p*d)*s) (s0,e0)).1 (zFC b ((n*q-p*d)*s) (s0,e0)).2):=by
 have hw:=zSW S6 O9 qg hr hs;obtain⟨a1,a2,a3,a4⟩:=S6;obtain⟨c1,c2,c3,c4⟩:=O9;obtain⟨g1,g2,g3,g4⟩:=qg;obtain⟨u1,u2⟩:=zJZ (a:=n) (b:=q) (K:=1048576) (M:=1024) c1 c2 (by omega) a4
 obtain⟨u3,u4⟩:=zJZ (a:=p) (b:=d) (K:=1048576) (M:=1024) a1 a2 (by omega) c4
 have v1:=Int.mul_le_mul c4 a4 (by omega) (by omega)
 have v0:=Int.mul_pos (show 0<d by omega) (show 0<q by omega)
 have HE:=zC hE;have HW:=zC hw
 have HF:=zC (show (-P 4<((n*q-p*d)*s)/\((n*q-p*d)*s)<P 4) /\ -P 4<(d*q*r)/\(d*q*r)<P 4 by
  obtain⟨r1,r2,r3,r4⟩:=hw;have:P 4=18446744073709551616:=rfl
  exact⟨⟨by omega,by omega⟩,by omega,by omega⟩)
 clear hE hw hr hs;obtain⟨W,hW⟩:∃ W,W=((w.alloc (.cells #[.int .i64 k,.int .i64 p,.int .i64 q,.int .i64 r,.int .i64 s] 25)).alloc (.cells #[.int .i64 n,.int .i64 d] 23)).alloc (.cells zCq 31):=⟨_,rfl⟩;have j7:Below w.heap.size w W:=by rw[hW];exact bl3 _ _ _ _
 have A:LwC W w.heap.size k p q r s:=by rw[hW];constructor<;>simp[go_sem]
 have D:RaC W (w.heap.size+1) n d:=by rw[hW];constructor<;>simp[go_sem]
 have R:NoC W (w.heap.size+1+1):=by rw[hW];constructor<;>simp[go_sem]
 have lR:=R.lt;have lA:=A.lt;have lD:=D.lt;have HK:=zC (show ∀ w',Below W.heap.size W w'->(rK w' w.heap.size k p (w'.cell? ⟨w.heap.size,2,none⟩=some (.int .i64 q)/\w'.cell? ⟨w.heap.size,3,none⟩=some (.int .i64 r)/\w'.cell? ⟨w.heap.size,4,none⟩=some (.int .i64 s)/\rK0 w' (w.heap.size+1) n d)) from λ w' hB=>⟨(A.bw hB).c0,(A.bw hB).c1,(A.bw hB).c2,(A.bw hB).c3,(A.bw hB).c4,(D.bw hB).c0,(D.bw hB).c1⟩)
 go_enter Tryz.func131,Tryz.ntmps131
 go_wp2_with fail;rw[<- hW];clear hW;obtain⟨x0,x1,x2,x3,x4,x5,x6⟩:=zA HK _ (Below.refl _ _)
 (try go_wp2_with fail)
 refine (zD (n*q-p*d) _ (by omega) (by omega)).mono ?_
 rintro z1 w1 ⟨m7,b1,m1,e1,rfl,o8,b9⟩;replace A:=A.bw b9;replace D:=D.bw b9;replace R:=R.bw b9;replace j7:=zB j7 b9;obtain⟨V1,Q2⟩:∃ V,V=w1.alloc (.cells #[.bool m7,.slice b1 m1 e1] 29):=⟨_,rfl⟩;have ag:Below w1.heap.size w1 V1:=by rw[Q2];exact bl1 _ _
 have N1:NmC V1 w1.heap.size ⟨m7,b1,m1,e1⟩:=by rw[Q2];exact⟨by simp,by simp⟩
 have RH:=A.lt;have lD1:=D.lt;have rz:=R.lt;replace A:=A.bw ag;replace D:=D.bw ag;replace R:=R.bw ag;replace j7:=zB j7 ag;have nO:=zC (o8.bw ag);clear o8 b9 HK x0 x1 x2 x3 x4 x5 x6 ag;obtain⟨A0,A1,A2,A3,A4⟩:=A;obtain⟨D0,D1⟩:=D
 go_upto_region 2 with fail
 rw[<- Q2];clear Q2;have A:LwC V1 w.heap.size k p q r s:=⟨A0,A1,A2,A3,A4⟩;have D:RaC V1 (w.heap.size+1) n d:=⟨D0,D1⟩;go_wp2_with fail;refine (zD (d*q) _ (by omega) (by omega)).mono ?_
 rintro z2 w2 ⟨j6,b2,m2,e2,rfl,A5,j8⟩;have lN1:=N1.lt;replace A:=A.bw j8;replace D:=D.bw j8;replace R:=R.bw j8;replace N1:=N1.bw j8;replace nO:=zC ((zA nO).bw j8);replace j7:=zB j7 j8;obtain⟨V2,aI⟩:∃ V,V=w2.alloc (.cells #[.bool j6,.slice b2 m2 e2] 29):=⟨_,rfl⟩;have W5:Below w2.heap.size w2 V2:=by rw[aI];exact bl1 _ _
 have N2:NmC V2 w2.heap.size ⟨j6,b2,m2,e2⟩:=by rw[aI];exact⟨by simp,by simp⟩
 have ae:=R.lt;have lN12:=N1.lt;replace A:=A.bw W5;replace D:=D.bw W5;replace R:=R.bw W5;replace N1:=N1.bw W5;replace nO:=zC ((zA nO).bw W5);replace j7:=zB j7 W5;have zg:=zC (A5.bw W5);have FT:=A.lt;have KZ:=D.lt;have gQ:=R.lt;clear A5 j8 W5 A0 A1 A2 A3 A4 D0 D1
 go_upto_region 3 with fail
 rw[<- aI];clear aI;go_wp2_with fail;have HK:=zC (show ∀ w',Below V2.heap.size V2 w'->(rK w' w.heap.size k p (w'.cell? ⟨w.heap.size,2,none⟩=some (.int .i64 q)/\w'.cell? ⟨w.heap.size,3,none⟩=some (.int .i64 r)/\w'.cell? ⟨w.heap.size,4,none⟩=some (.int .i64 s)/\rK w' (w.heap.size+1) n d (nK w' w1.heap.size (⟨m7,b1,m1,e1⟩:Nm) (nK0 w' w2.heap.size (⟨j6,b2,m2,e2⟩:Nm))))) from λ w' hB=>⟨(A.bw hB).c0,(A.bw hB).c1,(A.bw hB).c2,(A.bw hB).c3,(A.bw hB).c4,(D.bw hB).c0,(D.bw hB).c1,(N1.bw hB).c0,(N1.bw hB).c1,(N2.bw hB).c0,(N2.bw hB).c1⟩)
 have C8:Below V2.heap.size V2 V2.drew:=(Below.refl _ _).drew;have nn1:w.heap.size+1+1≠w.heap.size:=by omega
 have nn2:w.heap.size+1+1≠w.heap.size+1:=by omega
 have nn3:w.heap.size+1+1≠w1.heap.size:=by omega
 have nn4:w.heap.size+1+1≠w2.heap.size:=by omega
 clear A D N1 N2;obtain⟨x0,x1,x2,x3,x4,x5,x6,x7,x8,x9,GC⟩:=zA HK _ (Below.refl _ _)
 go_region_held3 (λ w'=>rK w' w.heap.size k p (w'.cell? ⟨w.heap.size,2,none⟩=some (.int .i64 q)/\w'.cell? ⟨w.heap.size,3,none⟩=some (.int .i64 r)/\w'.cell? ⟨w.heap.size,4,none⟩=some (.int .i64 s)/\rK w' (w.heap.size+1) n d (nK w' w1.heap.size (⟨m7,b1,m1,e1⟩:Nm) (nK0 w' w2.heap.size (⟨j6,b2,m2,e2⟩:Nm))))) (first|exact zA HK _ (by with_reducible first|exact C8|exact J2|exact G0|exact A8|exact o9|exact A6)|(dsimp only[cK,cK0,nK,nK0,rK,rK0];go_keep)|go_keep)
  (first
   | (go_at_call 158;have K4:=G0;refine (wnor_iv _ ⟨D8,b4,m4,e4⟩ ⟨bO,b6,m6,e6⟩ ((n*q-p*d)*s) (d*q*r) b s0 e0 (G6.fits (zA HF).1.1 (zA HF).1.2) (bC.fits (zA HF).2.1 (zA HF).2.2) (zA HW) E6 hb (zA HE)).mono ?_;rintro zz y5 ⟨u,rfl,B8,B7,D6⟩;have J2:=zB G0 D6;have G8:=zC B8;clear B8;obtain⟨q0,q1,q2,q3,q4,q5⟩:=R.bw J2;obtain⟨i0,i1,i2,i3,i4,i5,i6,i7,i8,i9,i10⟩:=zA HK _ J2)
   | (go_at_call 83;have K4:=A8;refine (zT _ _ _ _ _ _ _ _ 4 4 (d*q) r _ ((zA zg).bw A8) P6 (by omega) (by omega)).mono ?_;rintro zz y4 ⟨bO,b6,m6,e6,rfl,bC,y9⟩;have G0:=zB A8 y9;replace G6:=G6.bw y9)
   | (go_at_call 33;have K4:=o9;refine (zD r _ (by omega) (by omega)).mono ?_;rintro zz y3 ⟨M7,b5,m5,e5,rfl,P6,m9⟩;have A8:=zB o9 m9;replace G6:=G6.bw m9)
   | (go_at_call 83;have K4:=A6;refine (zT _ _ _ _ _ _ _ _ 4 4 (n*q-p*d) s _ ((zA nO).bw A6) E5 (by omega) (by omega)).mono ?_;rintro zz y2 ⟨D8,b4,m4,e4,rfl,G6,j8⟩;have o9:=zB A6 j8)
   | (go_at_call 33;refine (zD s _ (by omega) (by omega)).mono ?_;rintro zz y1 ⟨A7,b3,m3,e3,rfl,E5,b9⟩;have A6:=zB C8 b9))
 all_goals
  go_wp2;refine bodyPost_ret (v:=.agg u.q) (by simp[results,Tryz.results131,go_sem,q0,q1,q2,q3,q4]) rfl ⟨u,rfl,zA G8,?_,?_⟩
  ·exact SpAt.put5 (B7) q0 q1 q2 q3 q4 _ _ _ _ _
  ·exact jY (zB j7 J2) (by omega) _ _ _ _ _
def BlG (K:Nat) (Pr:Int->Int->Prop) (w:World) (b:Nat) (z:Ending) (w':World):Prop:=∃ lo hi,Pr lo hi/\zH w b K lo hi z w'
theorem zQS (w:World) (p q r s n d:Int) (b:Nat) (Pr:Int->Int->Prop) (hC:∀ w',Calls Tryz.prog 131 #[.agg #[.int .i64 1,.int .i64 p,.int .i64 q,.int .i64 r,.int .i64 s],.agg #[.int .i64 n,.int .i64 d],.int .i64 b] w' (BlG 30000 Pr w' b)) :
  Calls Tryz.prog 91 #[.agg #[.int .i64 1,.int .i64 p,.int .i64 q,.int .i64 r,.int .i64 s],.agg #[.int .i64 n,.int .i64 d],.int .i64 b] w (BlG 30000 Pr w b):=by
 have HC:=zC hC;clear hC
 go_enter Tryz.func91,Tryz.ntmps91
 go_wp2_with fail;refine (zA HC _).mono ?_;rintro zz w1 ⟨lo,hi,I3,u,rfl,B8,B7,b9⟩;have R:NoC w1 (w.heap.size+1+1):=NoC.bw ⟨by simp[go_sem],by simp[go_sem],by simp[go_sem],by simp[go_sem],by simp[go_sem],λ o=>by simp[go_sem]⟩ b9
 have hB:Below w.heap.size w w1:=zB (bl3 _ _ _ _ ) b9;obtain⟨q0,q1,q2,q3,q4,q5⟩:=R;have G8:=zC B8;have M9:=zC I3;clear B8 b9 I3;go_wp2_with fail;refine bodyPost_ret (v:=.agg u.q) (by simp[results,Tryz.results91,go_sem,q0,q1,q2,q3,q4]) rfl ⟨lo,hi,zA M9,u,rfl,zA G8,?_,?_⟩
 ·exact SpAt.put5 (B7) q0 q1 q2 q3 q4 _ _ _ _ _
 ·exact jY hB (by omega) _ _ _ _ _
theorem below_2 (w:World) (p q r s n d:Int) (b:Nat) (Pr:Int->Int->Prop) (hC:∀ w',Calls Tryz.prog 132 #[.agg #[.int .i64 2,.int .i64 p,.int .i64 q,.int .i64 r,.int .i64 s],.agg #[.int .i64 n,.int .i64 d],.int .i64 b] w' (BlG 30000 Pr w' b)) :
  Calls Tryz.prog 91 #[.agg #[.int .i64 2,.int .i64 p,.int .i64 q,.int .i64 r,.int .i64 s],.agg #[.int .i64 n,.int .i64 d],.int .i64 b] w (BlG 30000 Pr w b):=by
 have HC:=zC hC;clear hC
 go_enter Tryz.func91,Tryz.ntmps91
 go_wp2_with fail;refine (zA HC _).mono ?_;rintro zz w1 ⟨lo,hi,I3,u,rfl,B8,B7,b9⟩;have R:NoC w1 (w.heap.size+1+1):=NoC.bw ⟨by simp[go_sem],by simp[go_sem],by simp[go_sem],by simp[go_sem],by simp[go_sem],λ o=>by simp[go_sem]⟩ b9
 have hB:Below w.heap.size w w1:=zB (bl3 _ _ _ _ ) b9;obtain⟨q0,q1,q2,q3,q4,q5⟩:=R;have G8:=zC B8;have M9:=zC I3;clear B8 b9 I3;go_wp2_with fail;refine bodyPost_ret (v:=.agg u.q) (by simp[results,Tryz.results91,go_sem,q0,q1,q2,q3,q4]) rfl ⟨lo,hi,zA M9,u,rfl,zA G8,?_,?_⟩
 ·exact SpAt.put5 (B7) q0 q1 q2 q3 q4 _ _ _ _ _
 ·exact jY hB (by omega) _ _ _ _ _
theorem below_3 (w:World) (p q r s n d:Int) (b:Nat) (Pr:Int->Int->Prop) (hC:∀ w',Calls Tryz.prog 133 #[.agg #[.int .i64 3,.int .i64 p,.int .i64 q,.int .i64 r,.int .i64 s],.agg #[.int .i64 n,.int .i64 d],.int .i64 b] w' (BlG 30000 Pr w' b)) :
  Calls Tryz.prog 91 #[.agg #[.int .i64 3,.int .i64 p,.int .i64 q,.int .i64 r,.int .i64 s],.agg #[.int .i64 n,.int .i64 d],.int .i64 b] w (BlG 30000 Pr w b):=by
 have HC:=zC hC;clear hC
 go_enter Tryz.func91,Tryz.ntmps91
 go_wp2_with fail;refine (zA HC _).mono ?_;rintro zz w1 ⟨lo,hi,I3,u,rfl,B8,B7,b9⟩;have R:NoC w1 (w.heap.size+1+1):=NoC.bw ⟨by simp[go_sem],by simp[go_sem],by simp[go_sem],by simp[go_sem],by simp[go_sem],λ o=>by simp[go_sem]⟩ b9
 have hB:Below w.heap.size w w1:=zB (bl3 _ _ _ _ ) b9;obtain⟨q0,q1,q2,q3,q4,q5⟩:=R;have G8:=zC B8;have M9:=zC I3;clear B8 b9 I3;go_wp2_with fail;refine bodyPost_ret (v:=.agg u.q) (by simp[results,Tryz.results91,go_sem,q0,q1,q2,q3,q4]) rfl ⟨lo,hi,zA M9,u,rfl,zA G8,?_,?_⟩
 ·exact SpAt.put5 (B7) q0 q1 q2 q3 q4 _ _ _ _ _
 ·exact jY hB (by omega) _ _ _ _ _
theorem below_4 (w:World) (p q r s n d:Int) (b:Nat) (Pr:Int->Int->Prop) (hC:∀ w',Calls Tryz.prog 134 #[.agg #[.int .i64 4,.int .i64 p,.int .i64 q,.int .i64 r,.int .i64 s],.agg #[.int .i64 n,.int .i64 d],.int .i64 b] w' (BlG 30000 Pr w' b)) :
  Calls Tryz.prog 91 #[.agg #[.int .i64 4,.int .i64 p,.int .i64 q,.int .i64 r,.int .i64 s],.agg #[.int .i64 n,.int .i64 d],.int .i64 b] w (BlG 30000 Pr w b):=by
 have HC:=zC hC;clear hC
 go_enter Tryz.func91,Tryz.ntmps91
 go_wp2_with fail;refine (zA HC _).mono ?_;rintro zz w1 ⟨lo,hi,I3,u,rfl,B8,B7,b9⟩;have R:NoC w1 (w.heap.size+1+1):=NoC.bw ⟨by simp[go_sem],by simp[go_sem],by simp[go_sem],by simp[go_sem],by simp[go_sem],λ o=>by simp[go_sem]⟩ b9
 have hB:Below w.heap.size w w1:=zB (bl3 _ _ _ _ ) b9;obtain⟨q0,q1,q2,q3,q4,q5⟩:=R;have G8:=zC B8;have M9:=zC I3;clear B8 b9 I3;go_wp2_with fail;refine bodyPost_ret (v:=.agg u.q) (by simp[results,Tryz.results91,go_sem,q0,q1,q2,q3,q4]) rfl ⟨lo,hi,zA M9,u,rfl,zA G8,?_,?_⟩
 ·exact SpAt.put5 (B7) q0 q1 q2 q3 q4 _ _ _ _ _
 ·exact jY hB (by omega) _ _ _ _ _
theorem below_5 (w:World) (p q r s n d:Int) (b:Nat) (Pr:Int->Int->Prop) (hC:∀ w',Calls Tryz.prog 135 #[.agg #[.int .i64 p,.int .i64 q],.agg #[.int .i64 n,.int .i64 d],.int .i64 b] w' (BlG 30000 Pr w' b)) :
  Calls Tryz.prog 91 #[.agg #[.int .i64 5,.int .i64 p,.int .i64 q,.int .i64 r,.int .i64 s],.agg #[.int .i64 n,.int .i64 d],.int .i64 b] w (BlG 30000 Pr w b):=by
 have HC:=zC hC;clear hC
 go_enter Tryz.func91,Tryz.ntmps91
 go_wp2_with fail;refine (zA HC _).mono ?_;rintro zz w1 ⟨lo,hi,I3,u,rfl,B8,B7,b9⟩;have R:NoC w1 (w.heap.size+1+1):=NoC.bw ⟨by simp[go_sem],by simp[go_sem],by simp[go_sem],by simp[go_sem],by simp[go_sem],λ o=>by simp[go_sem]⟩ b9
 have hB:Below w.heap.size w w1:=zB (bl3 _ _ _ _ ) b9;obtain⟨q0,q1,q2,q3,q4,q5⟩:=R;have G8:=zC B8;have M9:=zC I3;clear B8 b9 I3;go_wp2_with fail;refine bodyPost_ret (v:=.agg u.q) (by simp[results,Tryz.results91,go_sem,q0,q1,q2,q3,q4]) rfl ⟨lo,hi,zA M9,u,rfl,zA G8,?_,?_⟩
 ·exact SpAt.put5 (B7) q0 q1 q2 q3 q4 _ _ _ _ _
 ·exact jY hB (by omega) _ _ _ _ _
theorem below_7 (w:World) (p q r s n d:Int) (b:Nat) (Pr:Int->Int->Prop) (hr:rok n d) (hC:∀ w',Calls Tryz.prog 138 #[.agg #[.int .i64 p,.int .i64 q],.int .i64 (n/d),.int .i64 b] w' (BlG 30000 Pr w' b)) :
  Calls Tryz.prog 91 #[.agg #[.int .i64 7,.int .i64 p,.int .i64 q,.int .i64 r,.int .i64 s],.agg #[.int .i64 n,.int .i64 d],.int .i64 b] w (BlG 30000 Pr w b):=by
 have HC:=zC hC;have HR:=zC hr;clear hC hr;obtain⟨W,hW⟩:∃ W,W=((w.alloc (.cells #[.int .i64 7,.int .i64 p,.int .i64 q,.int .i64 r,.int .i64 s] 25)).alloc (.cells #[.int .i64 n,.int .i64 d] 23)).alloc (.cells zCq 31):=⟨_,rfl⟩;have j7:Below w.heap.size w W:=by rw[hW];exact bl3 _ _ _ _
 have A:LwC W w.heap.size 7 p q r s:=by rw[hW];constructor<;>simp[go_sem]
 have D:RaC W (w.heap.size+1) n d:=by rw[hW];constructor<;>simp[go_sem]
 have R:NoC W (w.heap.size+1+1):=by rw[hW];constructor<;>simp[go_sem]
 have lR:=R.lt;have lA:=A.lt;have lD:=D.lt;have HK:=zC (show ∀ w',Below W.heap.size W w'->(w'.cell? ⟨w.heap.size,0,none⟩=some (.int .i64 7)/\w'.cell? ⟨w.heap.size,1,none⟩=some (.int .i64 p)/\w'.cell? ⟨w.heap.size,2,none⟩=some (.int .i64 q)/\w'.cell? ⟨w.heap.size,3,none⟩=some (.int .i64 r)/\w'.cell? ⟨w.heap.size,4,none⟩=some (.int .i64 s)/\rK0 w' (w.heap.size+1) n d) from λ w' hB=>⟨(A.bw hB).c0,(A.bw hB).c1,(A.bw hB).c2,(A.bw hB).c3,(A.bw hB).c4,(D.bw hB).c0,(D.bw hB).c1⟩)
 clear A D
 go_enter Tryz.func91,Tryz.ntmps91
 go_wp2;rw[<- hW];clear hW;have C8:Below W.heap.size W W.drew:=(Below.refl _ _).drew;have n1:w.heap.size+1+1≠w.heap.size:=by omega
 have n2:w.heap.size+1+1≠w.heap.size+1:=by omega
 obtain⟨x0,x1,x2,x3,x4,x5,x6⟩:=zA HK _ (Below.refl _ _)
 go_region_held3 (λ w'=>w'.cell? ⟨w.heap.size,0,none⟩=some (.int .i64 7)/\w'.cell? ⟨w.heap.size,1,none⟩=some (.int .i64 p)/\w'.cell? ⟨w.heap.size,2,none⟩=some (.int .i64 q)/\w'.cell? ⟨w.heap.size,3,none⟩=some (.int .i64 r)/\w'.cell? ⟨w.heap.size,4,none⟩=some (.int .i64 s)/\rK0 w' (w.heap.size+1) n d) (first|exact zA HK _ (by with_reducible first|exact C8|exact o9|exact A6)|(dsimp only[cK,cK0,nK,nK0,rK,rK0];go_keep)|go_keep)
  (first
   | (go_at_call 138;have K4:=A6;refine (zA HC _).mono ?_;rintro zz w2 ⟨lo,hi,I3,u,rfl,B8,B7,j8⟩;have o9:=zB A6 j8;have G8:=zC B8;have M9:=zC I3;clear B8 I3;obtain⟨q0,q1,q2,q3,q4,q5⟩:=R.bw o9;obtain⟨i0,i1,i2,i3,i4,i5,i6⟩:=zA HK _ o9)
   | (go_at_call 137;refine (zM3 n d _ (zA HR)).mono ?_;rintro zz w1 ⟨rfl,b9⟩;have A6:=zB C8 b9))
 all_goals
  go_wp2;refine bodyPost_ret (v:=.agg u.q) (by simp[results,Tryz.results91,go_sem,q0,q1,q2,q3,q4]) rfl ⟨lo,hi,zA M9,u,rfl,zA G8,?_,?_⟩
  ·exact SpAt.put5 (B7) q0 q1 q2 q3 q4 _ _ _ _ _
  ·exact jY (zB j7 o9) (by omega) _ _ _ _ _
theorem zAG {k p q r s:Int} (h:kN k p q r s=0):(1<=k/\k<=7)/\rok p q/\rok r s/\yN k p q r s=true/\zEB k p q r s=false/\(zFN k=true->r=0/\s=1):=by
 unfold kN at h
 by_cases h1:k<1\/7<k
 ·rw[if_pos h1] at h;omega
 ·rw[if_neg h1] at h
  by_cases h2:¬ rok p q\/¬ rok r s
  ·rw[if_pos h2] at h;omega
  ·rw[if_neg h2] at h
   by_cases h3:zFN k=true/\¬ (r=0/\s=1)
   ·rw[if_pos h3] at h;omega
   ·rw[if_neg h3] at h
    by_cases h4:yN k p q r s=false
    ·rw[if_pos h4] at h;omega
    ·rw[if_neg h4] at h
     by_cases h5:zEB k p q r s=true
     ·rw[if_pos h5] at h;omega
     ·have XA:yN k p q r s=true:=by cases hh:yN k p q r s<;>simp_all
      have Jg:zEB k p q r s=false:=by cases hh:zEB k p q r s<;>simp_all
      have h6:rok p q:=Classical.byContradiction λ hh=>h2 (Or.inl hh)
      have h7:rok r s:=Classical.byContradiction λ hh=>h2 (Or.inr hh)
      exact⟨⟨by omega,by omega⟩,h6,h7,XA,Jg,λ ho=>Classical.byContradiction λ hh=>h3 ⟨ho,hh⟩⟩
theorem zQR (u:Sp) (w:World):Calls Tryz.prog 47 #[.agg u.q] w λ r w'=>r=.returned (.agg u.q)/\Below w.heap.size w w':=by
 obtain⟨W,hW⟩:∃ W,W=(w.alloc (.cells u.q 31)).alloc (.cells zCq 31):=⟨_,rfl⟩;have j7:Below w.heap.size w W:=by rw[hW];exact bl2 _ _ _
 have U:SpC W w.heap.size u:=by rw[hW];exact (zB2 w u _).bw (bl1 _ _)
 have R:NoC W (w.heap.size+1):=by rw[hW];constructor<;>simp[go_sem]
 have lR:=R.lt;have lU:=U.lt;obtain⟨x0,x1,x2,x3,x4⟩:=U;obtain⟨q0,q1,q2,q3,q4,q5⟩:=R
 go_enter Tryz.func47,Tryz.ntmps47
 go_wp2
 try rw[<- hW]
 clear hW
 try go_wp2
 refine bodyPost_ret (v:=.agg u.q) (by simp[results,Tryz.results47,go_sem,q0,q1,q2,q3,q4]) rfl ⟨rfl,?_⟩
 exact bl2 _ _ _
structure MdAt (w:World) (hv:Value) (k p q r s n d:Int) (B1 B2 B3:Nat):Prop where
 f:w.cell? ⟨B1,0,none⟩=some hv
 l:LwC w B2 k p q r s
 x:RaC w B3 n d
theorem MdAt.lt {w:World} {hv:Value} {k p q r s n d:Int} {B1 B2 B3:Nat} (h:MdAt w hv k p q r s n d B1 B2 B3):B1<w.heap.size:=World.block_lt_of_cell? w ⟨B1,0,none⟩ h.f
theorem MdAt.bw {w w':World} {hv:Value} {k p q r s n d:Int} {B1 B2 B3:Nat} (h:MdAt w hv k p q r s n d B1 B2 B3) (hb:Below w.heap.size w w'):MdAt w' hv k p q r s n d B1 B2 B3 :=
 ⟨(hb.cell (p:=⟨B1,0,none⟩) h.lt).trans h.f,h.l.bw hb,h.x.bw hb⟩
theorem zGC (b:Nat) (B1 B2 B3:Nat) (w:World) (k p q r s n d:Int) (Pr:Int->Int->Prop) (h:MdAt w (.func (.func 47) #[] #[]) k p q r s n d B1 B2 B3) (hb:b<=10000) (hC:∀ w',Calls Tryz.prog 91 #[.agg #[.int .i64 k,.int .i64 p,.int .i64 q,.int .i64 r,.int .i64 s],.agg #[.int .i64 n,.int .i64 d],.int .i64 b] w' (BlG 30000 Pr w' b)) :
  Calls Tryz.prog 90 #[.int .i64 b,.pointer (some ⟨B1,0,none⟩),.pointer (some ⟨B2,0,none⟩),.pointer (some ⟨B3,0,none⟩)] w (BlG 30000 Pr w b):=by
 have l1:=h.lt;have l2:=h.l.lt;have l3:=h.x.lt;obtain⟨W,hW⟩:∃ W,W=w.alloc (.cells zCq 31):=⟨_,rfl⟩;have j7:Below w.heap.size w W:=by rw[hW];exact bl1 _ _
 have R:NoC W w.heap.size:=by rw[hW];exact zQ _ _
 have h':=h.bw j7;have HK:=zC (show ∀ w',Below W.heap.size W w'->(w'.cell? ⟨B1,0,none⟩=some (.func (.func 47) #[] #[])/\rK w' B2 k p (w'.cell? ⟨B2,2,none⟩=some (.int .i64 q)/\w'.cell? ⟨B2,3,none⟩=some (.int .i64 r)/\w'.cell? ⟨B2,4,none⟩=some (.int .i64 s)/\rK0 w' B3 n d)) from λ w' hB=>⟨(h'.bw hB).f,(h'.bw hB).l.c0,(h'.bw hB).l.c1,(h'.bw hB).l.c2,(h'.bw hB).l.c3,(h'.bw hB).l.c4,(h'.bw hB).x.c0,(h'.bw hB).x.c1⟩)
 have HC:=zC hC;clear h h' hC
 go_enter Tryz.func90,Tryz.ntmps90
 go_wp2;rw[<- hW];clear hW;have lR:=R.lt;have nA:B1≠w.heap.size:=by omega
 have Sh:w.heap.size≠B1:=by omega
 have nB:B2≠w.heap.size:=by omega
 have Lm:w.heap.size≠B2:=by omega
 have nC:B3≠w.heap.size:=by omega
 have nC':w.heap.size≠B3:=by omega
 obtain⟨x0,x1,x2,x3,x4,x5,x6,x7⟩:=zA HK _ (Below.refl _ _);have A9:Below W.heap.size W W.drew:=(Below.refl _ _).drew
 go_region_held3 (λ w'=>w'.cell? ⟨B1,0,none⟩=some (.func (.func 47) #[] #[])/\rK w' B2 k p (w'.cell? ⟨B2,2,none⟩=some (.int .i64 q)/\w'.cell? ⟨B2,3,none⟩=some (.int .i64 r)/\w'.cell? ⟨B2,4,none⟩=some (.int .i64 s)/\rK0 w' B3 n d)) (first|exact zA HK _ (by with_reducible first|exact A9|exact s9|exact p9)|(dsimp only[cK,cK0,nK,nK0,rK,rK0];go_keep)|go_keep)
  (first
   | (go_at_call 47;have K4:=p9;refine (zQR u _).mono ?_;rintro r' w2 ⟨rfl,j8⟩;have s9:=zB p9 j8;obtain⟨q0,q1,q2,q3,q4,q5⟩:=R.bw s9;obtain⟨y0,y1,y2,y3,y4,y5,y6,y7⟩:=zA HK _ s9)
   | (go_at_call 91;refine (zA HC _).mono ?_;rintro r' w1 ⟨lo,hi,I3,u,rfl,B8,B7,b9⟩;have p9:=zB A9 b9;have G8:=zC B8;have M9:=zC I3;clear B8 I3))
 all_goals
  go_wp2_with fail;refine bodyPost_ret (v:=.agg u.q) (by simp[results,Tryz.results90,go_sem,q0,q1,q2,q3,q4]) rfl ⟨lo,hi,zA M9,u,rfl,zA G8,?_,?_⟩
  ·exact SpAt.put5 (B7.bw j8) q0 q1 q2 q3 q4 _ _ _ _ _
  ·exact jY (zB j7 s9) (YE _) _ _ _ _ _
theorem zHA (b:Nat) (B1 B2 B3:Nat) (w:World) (k p q r s n d:Int) (Pr:Int->Int->Prop) (h:MdAt w (.func (.func 48) #[] #[]) k p q r s n d B1 B2 B3) (hb:b<=10000) (hC:∀ w',Calls Tryz.prog 91 #[.agg #[.int .i64 k,.int .i64 p,.int .i64 q,.int .i64 r,.int .i64 s],.agg #[.int .i64 n,.int .i64 d],.int .i64 b] w' (BlG 30000 Pr w' b)) :
  Calls Tryz.prog 90 #[.int .i64 b,.pointer (some ⟨B1,0,none⟩),.pointer (some ⟨B2,0,none⟩),.pointer (some ⟨B3,0,none⟩)] w (BlG 30001 (λ l h=>∃ l0 h0,Pr l0 h0/\l=(zA8 b (l0,h0)).1/\h=(zA8 b (l0,h0)).2) w b):=by
 have l1:=h.lt;have l2:=h.l.lt;have l3:=h.x.lt;obtain⟨W,hW⟩:∃ W,W=w.alloc (.cells zCq 31):=⟨_,rfl⟩;have j7:Below w.heap.size w W:=by rw[hW];exact bl1 _ _
 have R:NoC W w.heap.size:=by rw[hW];exact zQ _ _
 have h':=h.bw j7;have HK:=zC (show ∀ w',Below W.heap.size W w'->(w'.cell? ⟨B1,0,none⟩=some (.func (.func 48) #[] #[])/\rK w' B2 k p (w'.cell? ⟨B2,2,none⟩=some (.int .i64 q)/\w'.cell? ⟨B2,3,none⟩=some (.int .i64 r)/\w'.cell? ⟨B2,4,none⟩=some (.int .i64 s)/\rK0 w' B3 n d)) from λ w' hB=>⟨(h'.bw hB).f,(h'.bw hB).l.c0,(h'.bw hB).l.c1,(h'.bw hB).l.c2,(h'.bw hB).l.c3,(h'.bw hB).l.c4,(h'.bw hB).x.c0,(h'.bw hB).x.c1⟩)
 have HC:=zC hC;clear h h' hC
 go_enter Tryz.func90,Tryz.ntmps90
 go_wp2;rw[<- hW];clear hW;have lR:=R.lt;have nA:B1≠w.heap.size:=by omega
 have Sh:w.heap.size≠B1:=by omega
 have nB:B2≠w.heap.size:=by omega
 have Lm:w.heap.size≠B2:=by omega
 have nC:B3≠w.heap.size:=by omega
 have nC':w.heap.size≠B3:=by omega
 obtain⟨x0,x1,x2,x3,x4,x5,x6,x7⟩:=zA HK _ (Below.refl _ _);have A9:Below W.heap.size W W.drew:=(Below.refl _ _).drew
 go_region_held3 (λ w'=>w'.cell? ⟨B1,0,none⟩=some (.func (.func 48) #[] #[])/\rK w' B2 k p (w'.cell? ⟨B2,2,none⟩=some (.int .i64 q)/\w'.cell? ⟨B2,3,none⟩=some (.int .i64 r)/\w'.cell? ⟨B2,4,none⟩=some (.int .i64 s)/\rK0 w' B3 n d)) (first|exact zA HK _ (by with_reducible first|exact A9|exact s9|exact p9)|(dsimp only[cK,cK0,nK,nK0,rK,rK0];go_keep)|go_keep)
  (first
   | (go_at_call 48;have K4:=p9;refine (zEW _ u 30000 b (lo,hi) B7 (zA G8) (by omega) (by omega) (by omega)).mono ?_;rintro r' w2 ⟨v,rfl,K3,J7,j8⟩;have s9:=zB p9 j8;have Hz:=zC K3;clear K3;obtain⟨q0,q1,q2,q3,q4,q5⟩:=R.bw s9;obtain⟨y0,y1,y2,y3,y4,y5,y6,y7⟩:=zA HK _ s9)
   | (go_at_call 91;refine (zA HC _).mono ?_;rintro r' w1 ⟨lo,hi,I3,u,rfl,B8,B7,b9⟩;have p9:=zB A9 b9;have G8:=zC B8;have M9:=zC I3;clear B8 I3))
 all_goals
  go_wp2_with fail;refine bodyPost_ret (v:=.agg v.q) (by simp[results,Tryz.results90,go_sem,q0,q1,q2,q3,q4]) rfl ⟨_,_,⟨lo,hi,zA M9,rfl,rfl⟩,v,rfl,zA Hz,?_,?_⟩
  ·exact SpAt.put5 (J7) q0 q1 q2 q3 q4 _ _ _ _ _
  ·exact jY (zB j7 s9) (YE _) _ _ _ _ _
theorem nat_add (b m:Nat):((b:Int)+(m:Int))=((b+m:Nat):Int):=by omega
theorem zSQ (w:World) (ff:Nat) (k p q r s n d:Int) (b:Nat) (h0:kN k p q r s=0) (h1:rok n d) (h5:8<=b) (h6:b<=120) (Kw KD:Nat) (Pr:Nat->Int->Int->Prop) (Qt:Kw<=900000) (Cw:KD<=100000000) (hE:zFF b Kw Pr) (hF:∀ (m:Nat) w' B1 B2 B3,32<=m->m<=Kw+120->MdAt w' (.func (.func ff) #[] #[]) k p q r s n d B1 B2 B3->Calls Tryz.prog 90 #[.int .i64 ((b+m:Nat):Int),.pointer (some ⟨B1,0,none⟩),.pointer (some ⟨B2,0,none⟩),.pointer (some ⟨B3,0,none⟩)] w' (BlG KD (Pr (b+m)) w' (b+m))) :
  Calls Tryz.prog 46 #[.agg #[.int .i64 k,.int .i64 p,.int .i64 q,.int .i64 r,.int .i64 s],.agg #[.int .i64 n,.int .i64 d],.int .i64 b,.func (.func ff) #[] #[]] w (λ z w'=>∃ L H,zFT b Pr L H/\zC3 w b 250 L H 0 z w'):=by
 have e1:zGH n d b=0:=by unfold zGH;rw[if_pos ⟨h1,by omega,by omega⟩]
 have E0:=zC h0;have E1:=zC e1;have HF:=zC hF;clear h0 e1 hF;have HE:=zC hE;clear hE
 go_enter Tryz.func46,Tryz.ntmps46
 go_wp2_with fail;refine (jI k p q r s _).mono ?_;rintro r' w1 ⟨rfl,b9⟩;rw[zA E0];have C:MdAt w1 (.func (.func ff) #[] #[]) k p q r s n d (w.heap.size+1+1) w.heap.size (w.heap.size+1):=MdAt.bw ⟨by simp[go_sem],⟨by simp[go_sem],by simp[go_sem],by simp[go_sem],by simp[go_sem],by simp[go_sem]⟩,⟨by simp[go_sem],by simp[go_sem]⟩⟩ b9
 have R:NoC w1 (w.heap.size+1+1+1):=NoC.bw ⟨by simp[go_sem],by simp[go_sem],by simp[go_sem],by simp[go_sem],by simp[go_sem],λ o=>by simp[go_sem]⟩ b9
 have hB:Below w.heap.size w w1:=zB (bl4 _ _ _ _ _) b9;have lR:=R.lt;obtain⟨x0,⟨x1,x2,x3,x4,x5⟩,⟨x6,x7⟩⟩:=C;have C:MdAt w1 (.func (.func ff) #[] #[]) k p q r s n d (w.heap.size+1+1) w.heap.size (w.heap.size+1):=⟨x0,⟨x1,x2,x3,x4,x5⟩,⟨x6,x7⟩⟩;clear b9;go_wp2_with fail;refine (zCV b w1 _ (by simp) n d _ _).mono ?_
 rintro r' w2 ⟨rfl,j8⟩;rw[zA E1];replace C:=C.bw j8;replace R:=R.bw j8;replace hB:=zB hB j8;clear j8 x0 x1 x2 x3 x4 x5 x6 x7;go_wp2_with fail;refine (zN8 _ _ zOT b Kw KD Pr _ h6 Qt Cw (zA HE) (λ m w' hm K5 B9=>by rw[nat_add];exact zA HF m w' _ _ _ hm K5 (C.bw B9))).mono ?_
 rintro r' w3 ⟨L,H,hS,u,rfl,B8,B7,m9⟩;obtain⟨q0,q1,q2,q3,q4,q5⟩:=R.bw m9;replace hB:=zB hB m9;have G8:=zC B8;have Hp:=zC hS;clear B8 hS;go_wp2_with fail;refine bodyPost_ret (v:=.tuple #[.agg u.q,.int .i64 0]) (by simp[results,Tryz.results46,go_sem,q0,q1,q2,q3,q4]) rfl ⟨L,H,zA Hp,u,rfl,zA G8,?_,?_⟩
 ·exact SpAt.put5 B7 q0 q1 q2 q3 q4 _ _ _ _ _
 ·exact jY hB (by omega) _ _ _ _ _
theorem zI4 (p1 p2 p3:Value) (bits KD:Nat) (lo hi L H:Int) (W:World) (hb:bits<=120) (Cw:KD<=100000000) (hL:L=lo/Q 32) (hH:H = -(-hi/Q 32)) (v1:0<=H-L) (hw:H-L<=1) (f1 : -P 250<L) (f2:H<P 250)
  (hF:∀ w',Below W.heap.size W w'->Calls Tryz.prog 90 #[.int .i64 ((bits:Int)+32),p1,p2,p3] w' (zH w' ((bits:Int)+32) KD lo hi)) :
  Calls Tryz.prog 55 #[.int .i64 bits,.func (.func 90) #[] #[p1,p2,p3]] W (zH W bits 250 L H):=by
 have HF:=zC hF;have TR:=zC hL;have TK:=zC hH;clear hF hL hH;have Ag:=zQ W 31
 go_enter Tryz.func55,Tryz.ntmps55
 go_wp2_with fail
 go_loopw [5,6] (λ mm tt wr=>mm=.int .i64 32/\tt=.int .i64 1/\NoC wr W.heap.size/\Below W.heap.size W wr) (λ _ _ _=>0)
 case atStart=>exact⟨rfl,rfl,Ag,bl1 _ _⟩
 case round =>
  obtain⟨rfl,rfl,R,hB⟩:=hrel;go_wp2_with fail;refine (zA HF _ hB).mono ?_;rintro r w1 ⟨s,rfl,cV,oK,b9⟩;replace R:=R.bw b9;replace hB:=zB hB b9;clear b9;have mr:0<=s.bits:=by omega
  have hs1:s.bits<=1000000:=by omega
  have d1:zAZ lo (s.bits-bits)=L:=by rw[zA TR];unfold zAZ;rw[cV,if_pos (by omega)];congr 2;omega
  have d2 : -zAZ (-hi) (s.bits-bits)=H:=by rw[zA TK];unfold zAZ;rw[cV,if_pos (by omega)];congr 3;omega
  have Ba:=zC d1;have Bb:=zC d2;clear d1 d2 cV;go_wp2_with fail;refine (zHM _ s KD bits lo hi oK (by omega) mr hs1 (by omega) (by omega)).mono ?_
  rintro r w2 ⟨u,rfl,B8,B7,j8⟩;rw[zA Ba,zA Bb] at B7;replace B7:=B7.fits (K:=250) (by omega) f1 f2
  replace R:=R.bw j8;replace hB:=zB hB j8;have G8:=zC B8;clear j8 B8 mr hs1 Ba Bb oK;have lR:=R.lt;obtain⟨V,hV⟩:∃ V,V=w2.alloc (.cells u.q 31):=⟨_,rfl⟩;have bV:Below w2.heap.size w2 V:=by rw[hV];exact bl1 _ _
  have U:SpC V w2.heap.size u:=by rw[hV];exact⟨by simp,by simp,by simp,by simp,by simp⟩
  replace R:=R.bw bV;replace hB:=zB hB bV;replace B7:=B7.bw bV;clear bV;go_wp2_with fail;rw[<- hV];clear hV;refine (zBI _ _ _ _ _ _ _ _ 250 250 H L _ B7.hi B7.lo (by omega) (by omega)).mono ?_
  rintro r w3 ⟨A7,a3,n3,c3,rfl,E5,m9⟩;replace U:=U.bw m9;replace R:=R.bw m9;replace hB:=zB hB m9;replace B7:=B7.bw m9;clear m9;go_wp2_with fail;refine (zD1 _ _ _ _ _ (H-L) _ E5 v1).mono ?_;rintro r w4 ⟨l,hlen,rfl,y9⟩;replace U:=U.bw y9;replace R:=R.bw y9;replace hB:=zB hB y9;replace B7:=B7.bw y9
  have hc:l<=1:=by
   obtain⟨g1,g2,g3⟩:=hlen
   by_cases hp:0<H-L
   ·obtain⟨L',e1,e2,e3⟩:=g3 hp
    have:¬ 1<=L':=λ h=>by
     have:=zJ h;have:Q 1=2:=rfl;omega
    omega
   ·have:=g2 (by omega);omega
  clear y9 E5 hlen;have lU:=U.lt;have ae:=R.lt;have nRU:W.heap.size≠w2.heap.size:=by omega
  have Ln:w2.heap.size≠W.heap.size:=by omega
  obtain⟨x0,x1,x2,x3,x4⟩:=U;obtain⟨q0,q1,q2,q3,q4,q5⟩:=R;go_wp2_with fail;refine bodyPost_ret (v:=.agg u.q) (by simp[results,Tryz.results55,go_sem,q0,q1,q2,q3,q4]) rfl ⟨u,rfl,zA G8,?_,?_⟩
  ·exact SpAt.put5 B7 q0 q1 q2 q3 q4 _ _ _ _ _
  ·exact jY hB (YE _) _ _ _ _ _
theorem zNJ (w:World) (ff:Nat) (k p q r s n d:Int) (b:Nat) (h0:kN k p q r s=0) (h1:rok n d) (h5:8<=b) (h6:b<=120) (KD:Nat) (lo hi L H:Int) (Cw:KD<=100000000) (hL:L=lo/Q 32) (hH:H = -(-hi/Q 32)) (v1:0<=H-L) (hw:H-L<=1) (f1 : -P 250<L) (f2:H<P 250) (hF:∀ w' B1 B2 B3,MdAt w' (.func (.func ff) #[] #[]) k p q r s n d B1 B2 B3->Calls Tryz.prog 90 #[.int .i64 ((b:Int)+32),.pointer (some ⟨B1,0,none⟩),.pointer (some ⟨B2,0,none⟩),.pointer (some ⟨B3,0,none⟩)] w' (zH w' ((b:Int)+32) KD lo hi)) :
  Calls Tryz.prog 46 #[.agg #[.int .i64 k,.int .i64 p,.int .i64 q,.int .i64 r,.int .i64 s],.agg #[.int .i64 n,.int .i64 d],.int .i64 b,.func (.func ff) #[] #[]] w (zC3 w b 250 L H 0):=by
 have e1:zGH n d b=0:=by unfold zGH;rw[if_pos ⟨h1,by omega,by omega⟩]
 have E0:=zC h0;have E1:=zC e1;have HF:=zC hF;clear h0 e1 hF;have HL:=zC hL;have HH:=zC hH;have Bc:=zC (And.intro f1 f2);clear hL hH f1 f2
 go_enter Tryz.func46,Tryz.ntmps46
 go_wp2_with fail;refine (jI k p q r s _).mono ?_;rintro r' w1 ⟨rfl,b9⟩;rw[zA E0];have C:MdAt w1 (.func (.func ff) #[] #[]) k p q r s n d (w.heap.size+1+1) w.heap.size (w.heap.size+1):=MdAt.bw ⟨by simp[go_sem],⟨by simp[go_sem],by simp[go_sem],by simp[go_sem],by simp[go_sem],by simp[go_sem]⟩,⟨by simp[go_sem],by simp[go_sem]⟩⟩ b9
 have R:NoC w1 (w.heap.size+1+1+1):=NoC.bw ⟨by simp[go_sem],by simp[go_sem],by simp[go_sem],by simp[go_sem],by simp[go_sem],λ o=>by simp[go_sem]⟩ b9
 have hB:Below w.heap.size w w1:=zB (bl4 _ _ _ _ _) b9;have lR:=R.lt;obtain⟨x0,⟨x1,x2,x3,x4,x5⟩,⟨x6,x7⟩⟩:=C;have C:MdAt w1 (.func (.func ff) #[] #[]) k p q r s n d (w.heap.size+1+1) w.heap.size (w.heap.size+1):=⟨x0,⟨x1,x2,x3,x4,x5⟩,⟨x6,x7⟩⟩;clear b9;go_wp2_with fail;refine (zCV b w1 _ (by simp) n d _ _).mono ?_
 rintro r' w2 ⟨rfl,j8⟩;rw[zA E1];replace C:=C.bw j8;replace R:=R.bw j8;replace hB:=zB hB j8;clear j8 x0 x1 x2 x3 x4 x5 x6 x7;go_wp2_with fail;refine (zI4 _ _ _ b KD lo hi L H _ h6 Cw (zA HL) (zA HH) v1 hw (zA Bc).1 (zA Bc).2 (λ w' B9=>zA HF w' _ _ _ (C.bw B9))).mono ?_
 rintro r' w3 ⟨u,rfl,B8,B7,m9⟩;obtain⟨q0,q1,q2,q3,q4,q5⟩:=R.bw m9;replace hB:=zB hB m9;have G8:=zC B8;clear B8;go_wp2_with fail;refine bodyPost_ret (v:=.tuple #[.agg u.q,.int .i64 0]) (by simp[results,Tryz.results46,go_sem,q0,q1,q2,q3,q4]) rfl ⟨u,rfl,zA G8,?_,?_⟩
 ·exact SpAt.put5 B7 q0 q1 q2 q3 q4 _ _ _ _ _
 ·exact jY hB (by omega) _ _ _ _ _
theorem zSL (w:World) (ff:Nat) (k p q r s n d b:Int) (h0:kN k p q r s≠0) :
  Calls Tryz.prog 46 #[.agg #[.int .i64 k,.int .i64 p,.int .i64 q,.int .i64 r,.int .i64 s],.agg #[.int .i64 n,.int .i64 d],.int .i64 b,.func (.func ff) #[] #[]] w (zC3 w 0 250 0 0 (kN k p q r s)):=by
 go_enter Tryz.func46,Tryz.ntmps46
 go_wp2_with fail;refine (jI k p q r s _).mono ?_;rintro r' w1 ⟨rfl,b9⟩;have h1:(kN k p q r s != 0)=true:=by simpa using h0
 have R:NoC w1 (w.heap.size+1+1+1):=NoC.bw ⟨by simp[go_sem],by simp[go_sem],by simp[go_sem],by simp[go_sem],by simp[go_sem],λ o=>by simp[go_sem]⟩ b9
 have hB:Below w.heap.size w w1:=zB (bl4 _ _ _ _ _) b9;have lR:=R.lt;clear b9;obtain⟨q0,q1,q2,q3,q4,q5⟩:=R;go_wp2_with fail;refine bodyPost_ret (v:=.tuple #[.agg zCq,.int .i64 (kN k p q r s)]) (by simp[results,Tryz.results46,go_sem,q0,q1,q2,q3,q4]) rfl ⟨⟨false,none,0,0,false,none,0,0,0⟩,rfl,rfl,zeroSp _ _,?_⟩
 exact jY hB (by omega) _ _ _ _ _
theorem zSM (w:World) (ff:Nat) (k p q r s n d b:Int) (h0:kN k p q r s=0) (h1:zGH n d b≠0) :
  Calls Tryz.prog 46 #[.agg #[.int .i64 k,.int .i64 p,.int .i64 q,.int .i64 r,.int .i64 s],.agg #[.int .i64 n,.int .i64 d],.int .i64 b,.func (.func ff) #[] #[]] w (zC3 w 0 250 0 0 (zGH n d b)):=by
 have E0:=zC h0;clear h0
 go_enter Tryz.func46,Tryz.ntmps46
 go_wp2_with fail;refine (jI k p q r s _).mono ?_;rintro r' w1 ⟨rfl,b9⟩;rw[zA E0];have D:RaC w1 (w.heap.size+1) n d:=RaC.bw ⟨by simp[go_sem],by simp[go_sem]⟩ b9
 have R:NoC w1 (w.heap.size+1+1+1):=NoC.bw ⟨by simp[go_sem],by simp[go_sem],by simp[go_sem],by simp[go_sem],by simp[go_sem],λ o=>by simp[go_sem]⟩ b9
 have hB:Below w.heap.size w w1:=zB (bl4 _ _ _ _ _) b9;have lR:=R.lt;obtain⟨x6,x7⟩:=D;clear b9;go_wp2_with fail;refine (zCV b w1 _ (by simp) n d _ _).mono ?_
 rintro r' w2 ⟨rfl,j8⟩;have h2:(zGH n d b != 0)=true:=by simpa using h1
 replace R:=R.bw j8;replace hB:=zB hB j8;clear j8 x6 x7;have ae:=R.lt;obtain⟨q0,q1,q2,q3,q4,q5⟩:=R;go_wp2_with fail;refine bodyPost_ret (v:=.tuple #[.agg zCq,.int .i64 (zGH n d b)]) (by simp[results,Tryz.results46,go_sem,q0,q1,q2,q3,q4]) rfl ⟨⟨false,none,0,0,false,none,0,0,0⟩,rfl,rfl,zeroSp _ _,?_⟩
 exact jY hB (by omega) _ _ _ _ _
def PaG (Rel:Int->Int->Int->Int->Prop) (w:World) (z:Ending) (w':World):Prop:=∃ bt L H e,Rel bt L H e/\zC3 w bt 250 L H e z w'
theorem zOE (w:World) (k p q r s n d b:Int) (Rel:Int->Int->Int->Int->Prop) (hC:∀ w',Calls Tryz.prog 46 #[.agg #[.int .i64 k,.int .i64 p,.int .i64 q,.int .i64 r,.int .i64 s],.agg #[.int .i64 n,.int .i64 d],.int .i64 b,.func (.func 47) #[] #[]] w' (PaG Rel w')) :
  Calls Tryz.prog 11 #[.agg #[.int .i64 k,.int .i64 p,.int .i64 q,.int .i64 r,.int .i64 s],.agg #[.int .i64 n,.int .i64 d],.int .i64 b] w (PaG Rel w):=by
 have HC:=zC hC;clear hC
 go_enter Tryz.func11,Tryz.ntmps11
 go_wp2_with fail;refine (zA HC _).mono ?_;rintro r' w1 ⟨bt,L,H,e,hrel,u,rfl,B8,B7,b9⟩;have R:NoC w1 (w.heap.size+1+1):=NoC.bw ⟨by simp[go_sem],by simp[go_sem],by simp[go_sem],by simp[go_sem],by simp[go_sem],λ o=>by simp[go_sem]⟩ b9
 have hB:Below w.heap.size w w1:=zB (bl3 _ _ _ _) b9;obtain⟨q0,q1,q2,q3,q4,q5⟩:=R;have G8:=zC B8;have Vh:=zC hrel;clear B8 b9 hrel;go_wp2_with fail;refine bodyPost_ret (v:=.tuple #[.agg u.q,.int .i64 e]) (by simp[results,Tryz.results11,go_sem,q0,q1,q2,q3,q4]) rfl ⟨bt,L,H,e,zA Vh,u,rfl,zA G8,?_,?_⟩
 ·exact SpAt.put5 B7 q0 q1 q2 q3 q4 _ _ _ _ _
 ·exact jY hB (by omega) _ _ _ _ _
structure LkPr (K:Nat) (x:Nat->Rat) (B:Nat) (l u:Int):Prop where
 lo:0<=l
 le:l<=u
 hi:u<=Q B
 wd:u-l<=Q K
 iv:Iv B (l,u) x
theorem zR9 (K:Nat) (x:Nat->Rat) {bits:Nat} (hb:bits<=120):zFF bits K (LkPr K x):=λ m lo hi h=>by
 have q:=zE (bits+m);have b1:=big_Q (z:=hi) hb (show hi<=2*Q (bits+m) by have:=h.hi;omega)
 have b2:=big_Q (z := -lo) hb (show -lo<=2*Q (bits+m) by have:=h.lo;omega)
 exact⟨h.le,h.wd,by omega,b1⟩
theorem lk_rest {K:Nat} {x:Nat->Rat} {B:Nat} {l u:Int} (h:LkPr K x B l u):LkPr K (λ M=>1-x M) B (zA8 B (l,u)).1 (zA8 B (l,u)).2:=by
 have a:=h.lo;have b:=h.le;have c:=h.hi;have d:=h.wd;exact⟨by show 0<=Q B-u;omega,by show Q B-u<=Q B-l;omega,by show Q B-l<=Q B;omega,by show Q B-l-(Q B-u)<=Q K;omega,zFO h.iv⟩
theorem LwPr.k {x:Nat->Rat} {B:Nat} {l u:Int} (h:LwPr x B l u):LkPr 89 x B l u:=⟨h.lo,h.le,h.hi,h.wd,h.iv⟩
structure LEnv (R R2:Nat->Rat) (L G:Rat->Nat->Rat) (X:Int->Int->Nat->Rat):Prop where
 r:yE piS R
 r2:yE (λ _=>(2:Rat)) R2
 g:zK5 L G X
theorem zLS:∃ R R2 L G X,LEnv R R2 L G X:=by
 obtain⟨R,hR⟩:=piR_ex;obtain⟨R2,h2⟩:=rt2_ex;obtain⟨L,G,X,hE⟩:=genv_ex;exact⟨R,R2,L,G,X,hR,h2,hE⟩
def lbX (R R2:Nat->Rat) (L G:Rat->Nat->Rat) (k p q r s n d:Int):Nat->Rat :=
 if k=1 then noX R R2 p q r s n d else if k=2 then waX p q n d else if k=3 then gaX L G p q r s n d else if k=4 then beX L p q r s n d else if k=5 then stX L p q n d else if k=6 then coX p.toNat r s n d else raX p q n d
theorem law_2 {p q r s:Int} (h:kN 2 p q r s=0):rok p q/\0<p/\p<=100*q:=by
 obtain⟨_,a,b,c,d,e⟩:=zAG h;simp[yN] at c;simp[zEB,zFN,zAA] at d;exact⟨a,c,by omega⟩
theorem law_5 {p q r s:Int} (h:kN 5 p q r s=0):rok p q/\0<p/\p<=100*q:=by
 obtain⟨_,a,b,c,d,e⟩:=zAG h;simp[yN] at c;simp[zEB,zFN,zAA] at d;exact⟨a,c,by omega⟩
theorem law_7 {p q r s:Int} (h:kN 7 p q r s=0):rok p q/\0<p/\p<=100*q:=by
 obtain⟨_,a,b,c,d,e⟩:=zAG h;simp[yN] at c;simp[zEB,zFN,zAA] at d;exact⟨a,c,by omega⟩
theorem law_3 {p q r s:Int} (h:kN 3 p q r s=0):rok p q/\rok r s/\0<p/\p<=100*q/\0<r/\r<=100*s:=by
 obtain⟨_,a,b,c,d,e⟩:=zAG h;simp[yN] at c;simp[zEB,zFN,zAA] at d;exact⟨a,b,by omega,by omega,by omega,by omega⟩
theorem law_4 {p q r s:Int} (h:kN 4 p q r s=0):rok p q/\rok r s/\0<p/\p<=100*q/\0<r/\r<=100*s:=by
 obtain⟨_,a,b,c,d,e⟩:=zAG h;simp[yN] at c;simp[zEB,zFN,zAA] at d;exact⟨a,b,by omega,by omega,by omega,by omega⟩
theorem law_1 {p q r s:Int} (h:kN 1 p q r s=0):rok p q/\rok r s/\0<r/\r<=100*s:=by
 obtain⟨_,a,b,c,d,e⟩:=zAG h;simp[yN] at c;simp[zEB,zFN,zAA] at d;exact⟨a,b,by omega,by omega⟩
theorem law_6 {p q r s:Int} (h:kN 6 p q r s=0):rok r s/\q=1/\0<=p/\p<=100/\0<=r/\r<=s:=by
 obtain⟨_,a,b,c,d,e⟩:=zAG h;simp[yN] at c;exact⟨b,by omega,by omega,by omega,by omega,by omega⟩
theorem st_law {p q:Int} (h:rok p q) (hp:0<p) (I2:p<=100*q):StIn p q:=(bp_st hp (by have:=h.2.2.1;omega) I2 (by have:=h.2.2.2;omega) (show (0:Int)<1 by decide) (show (0:Int)<1 by decide) (by decide) (by decide)).1
theorem below_lw {R R2:Nat->Rat} {L G:Rat->Nat->Rat} {X:Int->Int->Nat->Rat} (hE:LEnv R R2 L G X) (w:World) (k p q r s n d:Int) (b:Nat) (h0:kN k p q r s=0) (hk:k≠1) (hr:rok n d) (E6:40<=b) (hb:b<=400) :
  Calls Tryz.prog 91 #[.agg #[.int .i64 k,.int .i64 p,.int .i64 q,.int .i64 r,.int .i64 s],.agg #[.int .i64 n,.int .i64 d],.int .i64 b] w (BlG 30000 (LwPr (lbX R R2 L G k p q r s n d) b) w b):=by
 have KX:=(zAG h0).1;have d0:0<d:=by have:=hr.2.2.1;omega
 rcases (show k=2\/k=3\/k=4\/k=5\/k=6\/k=7 by omega) with rfl|rfl|rfl|rfl|rfl|rfl
 ·obtain⟨a,c,e⟩:=law_2 h0
  have ex:lbX R R2 L G 2 p q r s n d=waX p q n d:=by unfold lbX;rfl
  rw[ex];refine below_2 w p q r s n d b _ λ w'=>?_
  unfold waX
  by_cases hn:n<=0
  ·rw[if_pos hn];exact lwait_no w' 2 p q r s n d b (by omega) hn
  ·rw[if_neg hn];exact lwait_iv w' 2 p q r s n d b E6 hb (by omega) a hr c e
 ·obtain⟨a,a2,c,e,f,g⟩:=law_3 h0
  have ex:lbX R R2 L G 3 p q r s n d=gaX L G p q r s n d:=by unfold lbX;rfl
  rw[ex];refine below_3 w p q r s n d b _ λ w'=>?_
  unfold gaX
  by_cases hn:n<=0
  ·rw[if_pos hn];exact zR8 w' 3 p q r s n d b (by omega) hn
  ·rw[if_neg hn];exact zR7 L G X hE.g w' 3 p q r s n d b E6 hb (by omega) a hr a2 c e f
 ·obtain⟨a,a2,c,e,f,g⟩:=law_4 h0
  have ex:lbX R R2 L G 4 p q r s n d=beX L p q r s n d:=by unfold lbX;rfl
  rw[ex];refine below_4 w p q r s n d b _ λ w'=>?_
  unfold beX clX
  by_cases hn:n<=0
  ·have ez:bvX L p q r s 0 d=λ _=>0:=by unfold bvX;rw[if_pos rfl]
   rw[if_pos hn,ez];exact lbeta_no w' 4 p q r s n d b (by omega) hn
  ·by_cases hd:d<=n
   ·have ez:bvX L p q r s d d=λ _=>1:=by unfold bvX;rw[if_neg (by omega),if_pos rfl]
    rw[if_neg hn,if_pos hd,ez];exact zRZ w' 4 p q r s n d b hb hn hd
   ·rw[if_neg hn,if_neg hd];exact lbeta_iv L G X hE.g w' 4 p q r s n d b E6 hb (by omega) (by omega) a hr a2 c e f g
 ·obtain⟨a,c,e⟩:=law_5 h0
  have ex:lbX R R2 L G 5 p q r s n d=stX L p q n d:=by unfold lbX;rfl
  rw[ex];refine below_5 w p q r s n d b _ λ w'=>?_
  by_cases hz:n=0
  ·unfold stX
   rw[if_pos (by omega)]
   refine (zO4 w' p q n d b hb hz).mono λ z I9 ⟨lo,hi,h1,h2⟩=>⟨lo,hi,h1.congr (null_zero.of_eq λ M=>?_),h2⟩
   unfold stX0;have f0:=Int.mul_pos c (Int.mul_pos d0 d0)
   have ez:bvX L p (2*q) 1 2 (p*(d*d)) (p*(d*d)+q*(n*n))=λ _=>1:=by
    unfold bvX;rw[if_neg (by omega),if_pos (by rw[hz];simp)]
   rw[ez];grind
  ·exact lstud_iv L G X hE.g w' p q n d b E6 hb hz a hr c e
 ·obtain⟨a,c,e,f,g,i⟩:=law_6 h0
  have ex:lbX R R2 L G 6 p q r s n d=coX p.toNat r s n d:=by unfold lbX;rfl
  rw[ex];obtain⟨P,rfl⟩:∃ P:Nat,p=(P:Int):=⟨p.toNat,by omega⟩
  have eP:(P:Int).toNat=P:=by omega
  rw[eP];have s0:0<s:=by have:=a.2.2.1;omega
  have sp:0<s ^ P:=Int.pow_pos s0;have cb:=cnt_le (P:=P) g i (coN P n d) (by unfold coN;omega)
  refine (zLG q r s n d P (coN P n d) b w hr rfl (by omega) g i (by omega) a.2.2.2 (by omega)).mono λ z w' ⟨u,e1,e2,e3,e4⟩=>⟨_,_,of_lw b cb.1 sp cb.2,u,e1,e2,e3.mono (by omega),e4⟩
 ·obtain⟨a,c,e⟩:=law_7 h0
  have ex:lbX R R2 L G 7 p q r s n d=raX p q n d:=by unfold lbX;rfl
  rw[ex];refine below_7 w p q r s n d b _ hr λ w'=>?_
  by_cases hn:n/d<0
  ·refine (lrare_no w' p q (n/d) n d b (by omega) hn).mono λ z I9 ⟨lo,hi,h1,h2⟩=>⟨lo,hi,h1.congr (null_zero.of_eq λ M=>?_),h2⟩
   unfold raX raN;rw[show (n/d+1).toNat=0 by omega]
   show (0:Rat)-0=0
   grind
  ·have hu:n/d<=1000000000:=by
    have:=hr.2.1;exact Int.le_trans (Int.ediv_le_ediv d0 (show n<=1048576 by omega)) (Int.le_trans (Int.ediv_le_self _ (by decide)) (by decide))
   exact lrare_iv w' p q (n/d) n d b a c e (by omega) hu rfl E6 hb
def lbE (k p q r s n d b:Int):Int:=if kN k p q r s=0 then zGH n d b else kN k p q r s
structure SuB (x:Nat->Rat) (b:Nat) (L H:Int):Prop where
 v:SuV x b L H
 lo:0<=L
 hi:H<=Q b
def BeR (x:Nat->Rat) (E b bt L H e:Int):Prop:=(E=0/\e=0/\bt=b/\SuB x b.toNat L H)\/(E≠0/\e=E/\bt=0/\L=0/\H=0)
theorem su_b {b:Nat} {x:Nat->Rat} {Pr:Nat->Int->Int->Prop} {L H:Int} (h:zFT b Pr L H) (hp:∀ B lo hi,Pr B lo hi->0<=lo/\lo<=hi/\hi<=Q B/\Iv B (lo,hi) x):SuB x b L H:=by
 refine⟨sure_su h λ B lo hi p=>⟨(hp B lo hi p).2.1,(hp B lo hi p).2.2.2⟩,?_,?_⟩
 ·obtain⟨m,lo,hi,pr,hm,e1,e2,h6⟩:=h
  rw[e1];exact Int.ediv_nonneg (hp _ _ _ pr).1 (by have:=zE m;omega)
 ·obtain⟨m,lo,hi,pr,hm,e1,e2,h6⟩:=h
  obtain⟨p1,p2,p3,p4⟩:=hp _ _ _ pr;have q0:=zE m;have qb:=zE b;have e3:Q (b+m)=Q b*Q m:=jF b m;have r:=(kC (x:=hi) (m:=Q b) (q:=Q m) (by omega) (by omega) (by omega)).2.2.2
  rw[e2];exact r
theorem lk_su {K b:Nat} {x:Nat->Rat} {L H:Int} (h:zFT b (LkPr K x) L H):SuB x b L H:=su_b h λ B lo hi p=>⟨p.lo,p.le,p.hi,p.iv⟩
theorem rest_far {b:Nat} {lo hi L H:Int} (hL:L=lo/Q 32) (hH:H = -(-hi/Q 32)):Q b-H=(zA8 (b+32) (lo,hi)).1/Q 32/\Q b-L = -(-(zA8 (b+32) (lo,hi)).2/Q 32):=by
 have q:=zE 32;have e:Q (b+32)=Q b*Q 32:=jF b 32;have e1:(zA8 (b+32) (lo,hi)).1 = -hi+Q b*Q 32:=by show Q (b+32)-hi=_;omega
 have e2 : -(zA8 (b+32) (lo,hi)).2=lo + -Q b*Q 32:=by
  show -(Q (b+32)-lo)=_
  have : -Q b*Q 32 = -(Q b*Q 32):=Int.neg_mul _ _;omega
 rw[e1,e2,Int.add_mul_ediv_right _ _ (by omega),Int.add_mul_ediv_right _ _ (by omega),hL,hH]
 omega
theorem no_lk {E:Nat->Rat} {p:Int} {B:Nat} {s e:Int} (h:NoCore E B s e):LkPr 4500 (nrV E p) B (zFC B p (s,e)).1 (zFC B p (s,e)).2:=by
 obtain⟨c1,c2,c3,c4,c5⟩:=h;obtain⟨g1,g2,g3,g4⟩:=norI_ok (p:=p) (B:=B) c2 c3 c4 c5;exact⟨g2,g1,g3,g4,norI_iv c1⟩
theorem zQT (w:World) (p q r s n d:Int) (b:Nat) (h0:kN 1 p q r s=0) (hr:rok n d) (E6:40<=b) (hb:b<=10000) (hf:(d*q*r)*(d*q*r)*2*(b:Int)<=((n*q-p*d)*s)*((n*q-p*d)*s)) :
  Calls Tryz.prog 91 #[.agg #[.int .i64 1,.int .i64 p,.int .i64 q,.int .i64 r,.int .i64 s],.agg #[.int .i64 n,.int .i64 d],.int .i64 b] w (BlG 30000 (λ l u=>l=(zFC b ((n*q-p*d)*s) (Q b-1,Q b)).1/\u=(zFC b ((n*q-p*d)*s) (Q b-1,Q b)).2) w b):=by
 obtain⟨a,a2,c,e⟩:=law_1 h0;refine zQS w p q r s n d b _ λ w'=>?_
 exact (zNG w' 1 p q r s n d b _ _ E6 hb a hr a2 c e (nor_farN E6 hb hf)).mono λ z I9 ⟨u,e1,e2,e3,e4⟩=>⟨_,_,⟨rfl,rfl⟩,u,e1,e2,e3.mono (by omega),e4⟩
theorem zSO (w:World) (ff:Nat) (up:Bool) (k p q r s n d:Int) (B K:Nat) (x:Nat->Rat) (hh:(up=false/\ff=47)\/(up=true/\ff=48)) (h0:kN k p q r s=0) (hr:rok n d) (b8:8<=B) (W4:B<=120) (hK:K<=100000)
  (hc:∀ m:Nat,32<=m->m<=K+120->B+m<=10000/\∀ I9,Calls Tryz.prog 91 #[.agg #[.int .i64 k,.int .i64 p,.int .i64 q,.int .i64 r,.int .i64 s],.agg #[.int .i64 n,.int .i64 d],.int .i64 ((B+m:Nat):Int)] I9 (BlG 30000 (LkPr K x (B+m)) I9 (B+m))) :
  Calls Tryz.prog 46 #[.agg #[.int .i64 k,.int .i64 p,.int .i64 q,.int .i64 r,.int .i64 s],.agg #[.int .i64 n,.int .i64 d],.int .i64 (B:Int),.func (.func ff) #[] #[]] w (PaG (BeR (if up then λ M=>1-x M else x) 0 (B:Int)) w):=by
 have eB:((B:Int)).toNat=B:=by omega
 rcases hh with⟨rfl,rfl⟩|⟨rfl,rfl⟩
 ·refine (zSQ w _ k p q r s n d B h0 hr b8 W4 K 30000 (LkPr K x) (by omega) (by omega) (zR9 K x W4) (λ m w' B1 B2 B3 hm K5 at_=>zGC (B+m) B1 B2 B3 w' k p q r s n d _ at_ (hc m hm K5).1 (hc m hm K5).2)).mono λ z w' ⟨l,h,hs,ha⟩=>⟨(B:Int),l,h,0,Or.inl ⟨rfl,rfl,rfl,?_⟩,ha⟩
  rw[eB];exact lk_su hs
 ·refine (zSQ w _ k p q r s n d B h0 hr b8 W4 K 30001 (LkPr K (λ M=>1-x M)) (by omega) (by omega) (zR9 K _ W4) (λ m w' B1 B2 B3 hm K5 at_=>(zHA (B+m) B1 B2 B3 w' k p q r s n d _ at_ (hc m hm K5).1 (hc m hm K5).2).mono λ z I9 ⟨l,h,⟨l0,u0,g1,g2,g3⟩,ga⟩=>⟨l,h,by rw[g2,g3];exact lk_rest g1,ga⟩)).mono λ z w' ⟨l,h,hs,ha⟩=>⟨(B:Int),l,h,0,Or.inl ⟨rfl,rfl,rfl,?_⟩,ha⟩
  rw[eB];exact lk_su hs
theorem made_fx (w:World) (ff:Nat) (up:Bool) (k p q r s n d:Int) (B C:Nat) (x:Nat->Rat) (lo hi L H:Int) (hh:(up=false/\ff=47)\/(up=true/\ff=48)) (h0:kN k p q r s=0) (hr:rok n d) (b8:8<=B) (W4:B<=120) (hC:C=B+32) (eL:L=lo/Q 32) (eH:H = -(-hi/Q 32)) (g:H-L=1) (v:SuB x B L H)
  (bf:∀ I9,Calls Tryz.prog 91 #[.agg #[.int .i64 k,.int .i64 p,.int .i64 q,.int .i64 r,.int .i64 s],.agg #[.int .i64 n,.int .i64 d],.int .i64 (C:Int)] I9 (BlG 30000 (λ l u=>l=lo/\u=hi) I9 C)) :
  Calls Tryz.prog 46 #[.agg #[.int .i64 k,.int .i64 p,.int .i64 q,.int .i64 r,.int .i64 s],.agg #[.int .i64 n,.int .i64 d],.int .i64 (B:Int),.func (.func ff) #[] #[]] w (PaG (BeR (if up then λ M=>1-x M else x) 0 (B:Int)) w):=by
 have eB:((B:Int)).toNat=B:=by omega
 have Fa:(C:Int)=(B:Int)+32:=by omega
 have pb:=P250_big W4;have qb:=zE B;have g1:=v.lo;have g2:=v.hi
 rcases hh with⟨rfl,rfl⟩|⟨rfl,rfl⟩
 ·refine (zNJ w _ k p q r s n d B h0 hr b8 W4 30000 lo hi L H (by omega) eL eH (by omega) (by omega) (by omega) (by omega) (λ w' B1 B2 B3 at_=>?_)).mono λ z w' ha=>⟨(B:Int),_,_,0,Or.inl ⟨rfl,rfl,rfl,by rw[eB];exact v⟩,ha⟩
  have m:=zGC C B1 B2 B3 w' k p q r s n d _ at_ (by omega) bf
  rw[Fa] at m;exact m.mono λ z I9 ⟨l,u,⟨u1,u2⟩,ha⟩=>by rw[u1,u2,Fa] at ha;exact ha
 ·obtain⟨f1,f2⟩:=rest_far (b:=B) eL eH
  have FZ:Q B-H<=Q B-L:=by omega
  have le2:Q B-L-(Q B-H)<=4:=by omega
  have iv1:Iv B (Q B-H,Q B-L) (λ M=>1-x M):=zFO (a:=(L,H)) v.v.val
  have sr:SuB (λ M=>1-x M) B (Q B-H) (Q B-L):=⟨⟨FZ,zDN FZ le2,iv1⟩,by omega,by omega⟩
  refine (zNJ w _ k p q r s n d B h0 hr b8 W4 30001 _ _ (Q B-H) (Q B-L) (by omega) f1 f2 (by omega) (by omega) (by omega) (by omega) (λ w' B1 B2 B3 at_=>?_)).mono λ z w' ha=>⟨(B:Int),_,_,0,Or.inl ⟨rfl,rfl,rfl,by rw[eB];exact sr⟩,ha⟩
  have m:=zHA C B1 B2 B3 w' k p q r s n d _ at_ (by omega) bf
  rw[Fa] at m;exact m.mono λ z I9 ⟨l,u,⟨l0,u0,⟨u1,u2⟩,u3,u4⟩,ha⟩=>by rw[u3,u4,u1,u2,Fa,hC] at ha;exact ha
theorem zOJ {R R2:Nat->Rat} {L G:Rat->Nat->Rat} {X:Int->Int->Nat->Rat} (hE:LEnv R R2 L G X) (w:World) (p q r s n d:Int) (b:Nat) (h0:kN 1 p q r s=0) (hr:rok n d) (E6:40<=b) (hb:b<=10000) (hn:((n*q-p*d)*s)*((n*q-p*d)*s)<152*((d*q*r)*(d*q*r)*2)) (D5:((n*q-p*d)*s)*((n*q-p*d)*s)<(d*q*r)*(d*q*r)*2*(b:Int)) :
  Calls Tryz.prog 91 #[.agg #[.int .i64 1,.int .i64 p,.int .i64 q,.int .i64 r,.int .i64 s],.agg #[.int .i64 n,.int .i64 d],.int .i64 b] w (BlG 30000 (LkPr 4500 (noX R R2 p q r s n d) b) w b):=by
 obtain⟨a,a2,c,e⟩:=law_1 h0;obtain⟨s0,e0,c1,c2⟩:=nor_near hE.r hE.r2 (zSW a hr a2 c e) hn E6 hb D5;refine zQS w p q r s n d b _ λ w'=>?_
 exact (zNG w' 1 p q r s n d b s0 e0 E6 hb a hr a2 c e c1).mono λ z I9 ⟨u,e1,e2,e3,e4⟩=>⟨_,_,no_lk c2,u,e1,e2,e3.mono (by omega),e4⟩
theorem zSP {R R2:Nat->Rat} {L G:Rat->Nat->Rat} {X:Int->Int->Nat->Rat} (hE:LEnv R R2 L G X) (w:World) (ff:Nat) (up:Bool) (p q r s n d:Int) (B:Nat) (hh:(up=false/\ff=47)\/(up=true/\ff=48)) (h0:kN 1 p q r s=0) (hr:rok n d) (b8:8<=B) (W4:B<=120) :
  Calls Tryz.prog 46 #[.agg #[.int .i64 1,.int .i64 p,.int .i64 q,.int .i64 r,.int .i64 s],.agg #[.int .i64 n,.int .i64 d],.int .i64 (B:Int),.func (.func ff) #[] #[]] w (PaG (BeR (if up then λ M=>1-noX R R2 p q r s n d M else noX R R2 p q r s n d) 0 (B:Int)) w):=by
 obtain⟨a,a2,c,e'⟩:=law_1 h0;have hw:=zSW a hr a2 c e';obtain⟨Pn,hP⟩:∃ Pn,Pn=(n*q-p*d)*s:=⟨_,rfl⟩;obtain⟨Zn,Fz⟩:∃ Zn,Zn=d*q*r:=⟨_,rfl⟩;have z0:0<Zn:=by rw[Fz];have:=hw.2.2.1;omega
 have zz:0<Zn*Zn:=Int.mul_pos z0 z0
 by_cases hn:Pn*Pn<Zn*Zn*2*((B:Int)+32)
 ·have Ck:Pn*Pn<152*(Zn*Zn*2):=by
   have:=YD (show (B:Int)+32<=152 by omega) (show 0<=Zn*Zn*2 by omega)
   have e:Zn*Zn*2*152=152*(Zn*Zn*2):=by grind
   omega
  refine zSO w ff up 1 p q r s n d B 4500 _ hh h0 hr b8 W4 (by omega) λ m hm K5=>⟨by omega,λ I9=>?_⟩
  have D5:Pn*Pn<Zn*Zn*2*((B+m:Nat):Int):=by
   have:=YD (show (B:Int)+32<=((B+m:Nat):Int) by omega) (show 0<=Zn*Zn*2 by omega)
   omega
  rw[hP,Fz] at Ck D5;exact zOJ hE I9 p q r s n d (B+m) h0 hr (by omega) (by omega) Ck D5
 ·have hf:Zn*Zn*2*((B:Int)+32)<=Pn*Pn:=by omega
  obtain⟨C,hC⟩:∃ C:Nat,C=B+32:=⟨_,rfl⟩
  have QN:Zn*Zn*2*(C:Int)<=Pn*Pn:=by
   have e:(C:Int)=(B:Int)+32:=by omega
   rw[e];omega
  obtain⟨e1,e2⟩:=far_no Pn B;have vv:=far_noV hE.r hE.r2 (p:=Pn) z0 hf;have evv:noX R R2 p q r s n d=nrV (zC9 R (nrY Pn Zn) (nrR R2 Pn Zn)) Pn:=by rw[hP,Fz];rfl
  rw[<- evv] at vv
  have g:(zM2 Pn B).2-(zM2 Pn B).1=1:=by
   have qb:=zE B;unfold zM2
   by_cases hp:0<Pn
   ·rw[if_pos hp];simp only[];omega
   ·rw[if_neg hp];simp only[];omega
  rw[hP,Fz] at QN;have bf:=λ I9=>zQT I9 p q r s n d C h0 hr (by omega) (by omega) QN
  rw[<- hP] at bf;rw[<- hC] at e1 e2;exact made_fx w ff up 1 p q r s n d B C _ _ _ _ _ hh h0 hr b8 W4 hC e1 e2 g ⟨⟨vv.le,vv.nar,vv.val⟩,vv.lo,vv.hi⟩ bf
theorem zSN {R R2:Nat->Rat} {L G:Rat->Nat->Rat} {X:Int->Int->Nat->Rat} (hE:LEnv R R2 L G X) (w:World) (ff:Nat) (up:Bool) (k p q r s n d b:Int) (hh:(up=false/\ff=47)\/(up=true/\ff=48)) :
  Calls Tryz.prog 46 #[.agg #[.int .i64 k,.int .i64 p,.int .i64 q,.int .i64 r,.int .i64 s],.agg #[.int .i64 n,.int .i64 d],.int .i64 b,.func (.func ff) #[] #[]] w (PaG (BeR (if up then λ M=>1-lbX R R2 L G k p q r s n d M else lbX R R2 L G k p q r s n d) (lbE k p q r s n d b) b) w):=by
 by_cases h0:kN k p q r s=0
 case neg =>
  have e:lbE k p q r s n d b=kN k p q r s:=by unfold lbE;rw[if_neg h0]
  rw[e];exact (zSL w ff k p q r s n d b h0).mono λ z w' h=>⟨0,0,0,_,Or.inr ⟨h0,rfl,rfl,rfl,rfl⟩,h⟩
 have e:lbE k p q r s n d b=zGH n d b:=by unfold lbE;rw[if_pos h0]
 rw[e]
 by_cases h1:zGH n d b=0
 case neg=>exact (zSM w ff k p q r s n d b h0 h1).mono λ z w' h=>⟨0,0,0,_,Or.inr ⟨h1,rfl,rfl,rfl,rfl⟩,h⟩
 rw[h1]
 have h2:rok n d/\8<=b/\b<=120:=by
  unfold zGH at h1
  by_cases c:rok n d/\8<=b/\b<=120
  ·exact c
  ·rw[if_neg c] at h1;omega
 obtain⟨hr,b8,W4⟩:=h2;obtain⟨B,rfl⟩:∃ B:Nat,b=(B:Int):=⟨b.toNat,by omega⟩
 by_cases k1:k=1
 ·subst k1
  have ex:lbX R R2 L G 1 p q r s n d=noX R R2 p q r s n d:=by unfold lbX;rfl
  rw[ex];exact zSP hE w ff up p q r s n d B hh h0 hr (by omega) (by omega)
 ·exact zSO w ff up k p q r s n d B 89 _ hh h0 hr (by omega) (by omega) (by omega) λ m hm K5=>⟨by omega,λ I9=>(below_lw hE I9 k p q r s n d (B+m) h0 k1 hr (by omega) (by omega)).mono λ z w3 ⟨l,u,g1,g2⟩=>⟨l,u,g1.k,g2⟩⟩
theorem zOI {R R2:Nat->Rat} {L G:Rat->Nat->Rat} {X:Int->Int->Nat->Rat} (hE:LEnv R R2 L G X) (w:World) (k p q r s n d b:Int) :
  Calls Tryz.prog 11 #[.agg #[.int .i64 k,.int .i64 p,.int .i64 q,.int .i64 r,.int .i64 s],.agg #[.int .i64 n,.int .i64 d],.int .i64 b] w (PaG (BeR (lbX R R2 L G k p q r s n d) (lbE k p q r s n d b) b) w) :=
 zOE w k p q r s n d b _ λ w'=>zSN hE w' _ false k p q r s n d b (Or.inl ⟨rfl,rfl⟩)
end Go.Proofs.YtgmnknmjainabacGreat
