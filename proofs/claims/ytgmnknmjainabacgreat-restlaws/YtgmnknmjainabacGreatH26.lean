/-
  Its own texts.
-/
import Derived.Test.YtgmnknmjainabacGreatH25
set_option maxRecDepth 100000
set_option maxHeartbeats 40000000
set_option linter.unnecessarySimpa false
set_option linter.unusedSimpArgs false
set_option linter.unusedVariables false
namespace Go.Proofs.YtgmnknmjainabacGreat
open Go.RowKit
attribute [local go_sem ↓] Go.wp_at_zero Go.wp_at_succ
open Ex
theorem lw_half {x:Nat->Rat} {B:Nat} {l u:Int} (h:LwPr x B l u):LwPr (λ M=>(1:Int)/((2:Int):Rat)*x M) B (zJ (l,u) 1 2).1 (zJ (l,u) 1 2).2:=by
 have q:=zE B;have Ko:Q 89=2*Q 88:=rfl;have q88:=zH (show 2<=88 by omega)
 have q2:Q 2=4:=rfl;have a:=h.lo;have b:=h.le;have c:=h.hi;have d:=h.wd;have e1:(zJ (l,u) 1 2).1=l/2:=by show l*1/2=_;rw[Int.mul_one]
 have e2:(zJ (l,u) 1 2).2 = -(-u/2):=by show -(-(u*1)/2)=_;rw[Int.mul_one]
 refine⟨by rw[e1];omega,by rw[e1,e2];omega,by rw[e2];omega,by rw[e1,e2];omega,?_⟩
 exact h.iv.scale (n:=1) (d:=2) (by decide) (by decide)
theorem zO7 (w:World) (p q n d:Int) (b:Nat) (hb:b<=400) (hn:n=0) :
  Calls Tryz.prog 135 #[.agg #[.int .i64 p,.int .i64 q],.agg #[.int .i64 n,.int .i64 d],.int .i64 b] w (zG w b 30000 (1*Q b/2) (-(-(1*Q b)/2))):=by
 subst hn
 go_enter Tryz.func135,Tryz.ntmps135
 go_wp2_with fail;refine (zD 1 _ (by decide) (by decide)).mono ?_
 rintro r' w1 ⟨m9,a1,n1,c1,rfl,o8,b9⟩;have R:NoC w1 (w.heap.size+1+1):=NoC.bw ⟨by simp[go_sem],by simp[go_sem],by simp[go_sem],by simp[go_sem],by simp[go_sem],λ o=>by simp[go_sem]⟩ b9
 have hB:Below w.heap.size w w1:=zB (bl3 _ _ _ _) b9;clear b9;go_wp2_with fail;refine (zD 2 _ (by decide) (by decide)).mono ?_
 rintro r' w2 ⟨j6,a2,n2,c2,rfl,A5,j7⟩;replace R:=R.bw j7;replace hB:=zB hB j7;replace o8:=o8.bw j7;clear j7;go_wp2_with fail;refine (jL _ _ _ _ _ _ _ _ 4 4 b 1 2 _ o8 A5 (by omega) (by omega) (by decide)).mono ?_
 rintro r' w3 ⟨u,rfl,A8,C7,o7⟩;replace hB:=zB hB o7;obtain⟨q0,q1,q2,q3,q4,q5⟩:=R.bw o7;have I3:=zC A8;clear A8 o7 R;go_wp2_with fail;refine bodyPost_ret (v:=.agg u.q) (by simp[results,Tryz.results135,go_sem,q0,q1,q2,q3,q4]) rfl ⟨u,rfl,zA I3,?_,?_⟩
 ·exact SpAt.put5 (SpAt.mono C7 (by omega)) q0 q1 q2 q3 q4 _ _ _ _ _
 ·exact jS hB (by omega) _ _ _ _ _
theorem lstud_iv (L G:Rat->Nat->Rat) (X:Int->Int->Nat->Rat) (hE:zP1 L G X) (p q n d:Int) (b:Nat) (G7:40<=b) (hb:b<=400) (hn:n≠0) (T7:rok p q) (P2:rok n d) (hp:0<p) (L9:p<=100*q) :
  BlX 135 #[.agg #[.int .i64 p,.int .i64 q],.agg #[.int .i64 n,.int .i64 d],.int .i64 b] (stX L p q n d) b:=by
 obtain⟨a1,a2,a3,a4⟩:=T7;obtain⟨c1,c2,c3,c4⟩:=P2;have OW:=Int.mul_pos (show 0<d by omega) (show 0<d by omega)
 have dd:=Int.mul_le_mul c4 c4 (by omega) (by omega)
 obtain⟨RO,nn⟩:=sq_bd c1 c2;have f0:=Int.mul_pos hp OW;have f1:=Int.mul_le_mul (show p<=102400 by omega) dd (by omega) (by omega)
 have s0:=Zc (show 0<=q by omega) RO
 have s1:=Int.mul_le_mul a4 nn (by omega) (by omega)
 have fs:(p*(d*d))<(p*(d*d))+(q*(n*n)):=by have:=Int.mul_pos (show 0<q by omega) (show 0<n*n by have:=sq_pos hn;omega);omega
 obtain⟨⟨lo,hi⟩,E4,G3⟩:=zNX L G X hE p (2*q) 1 2 (p*(d*d)) ((p*(d*d))+(q*(n*n))) b ⟨hp,by omega,by omega,by omega,by decide,by decide,by decide,by decide,by omega,by omega,by omega,by omega,G7,hb⟩ f0 fs
 have hf:=lw_half E4
 have zj:LwPr (stX L p q n d) b (if n<0 then zJ (lo,hi) 1 2 else zB5 b (zJ (lo,hi) 1 2)).1 (if n<0 then zJ (lo,hi) 1 2 else zB5 b (zJ (lo,hi) 1 2)).2:=by
  by_cases bC:n<0
  ·have ex:stX L p q n d=stX0 L p q n d:=by unfold stX;rw[if_pos (by omega)]
   rw[if_pos bC,ex];exact hf
  ·have ex:stX L p q n d=λ M=>1-stX0 L p q n d M:=by unfold stX;rw[if_neg (by omega)]
   rw[if_neg bC,ex];exact zSJ hf
 obtain⟨cs,hcs⟩:∃ cs:Int × Int,cs=if n<0 then zJ (lo,hi) 1 2 else zB5 b (zJ (lo,hi) 1 2):=⟨_,rfl⟩
 rw[<- hcs] at zj;have NR:=zC hcs;refine⟨cs,zj,λ w=>?_⟩
 have GC:=zC G3;clear E4 G3 hf zj fs hcs;have Z6:=zC (show IntKind.i64.wrap (d*d)=d*d from jI _ (by omega) (by omega))
 have bo:=zC (show IntKind.i64.wrap (n*n)=n*n from jI _ (by omega) (by omega))
 have dJ:=zC (show IntKind.i64.wrap (2*q)=2*q from jI _ (by omega) (by omega))
 have pc:=zC (show -9223372036854775808<=d*d/\d*d<=9223372036854775807 from⟨by omega,by omega⟩)
 have pd:=zC (show -9223372036854775808<=n*n/\n*n<=9223372036854775807 from⟨by omega,by omega⟩)
 have HF:=zC (show (-P 4<(p*(d*d))/\(p*(d*d))<P 4) /\ -P 4<(p*(d*d))+(q*(n*n))/\(p*(d*d))+(q*(n*n))<P 4 by
  have:P 4=18446744073709551616:=rfl
  exact⟨⟨by omega,by omega⟩,by omega,by omega⟩)
 have cJ:¬ n=0:=by omega
 have ij:(n == 0)=false:=by simp[cJ]
 clear OW dd RO nn f0 f1 s0 s1 hp L9;obtain⟨W,hW⟩:∃ W,W=((w.alloc (.cells #[.int .i64 p,.int .i64 q] 23)).alloc (.cells #[.int .i64 n,.int .i64 d] 23)).alloc (.cells zCq 31):=⟨_,rfl⟩;have j8:Below w.heap.size w W:=by rw[hW];exact bl3 _ _ _ _
 have A:RaC W (w.heap.size) p q:=by rw[hW];constructor<;>simp[go_sem]
 have D:RaC W (w.heap.size+1) n d:=by rw[hW];constructor<;>simp[go_sem]
 have R:NoC W (w.heap.size+1+1):=by rw[hW];constructor<;>simp[go_sem]
 have lA:=A.lt;have lD:=D.lt;have lR:=R.lt;have HK:=zC (show ∀ w',Below W.heap.size W w'->(rK w' w.heap.size p q (rK0 w' ((w.heap.size+1)) n d)) from λ w' hB=>⟨(A.bw hB).c0,(A.bw hB).c1,(D.bw hB).c0,(D.bw hB).c1⟩)
 go_enter Tryz.func135,Tryz.ntmps135
 go_wp2;rw[<- hW];clear hW;obtain⟨x0,x1,x2,x3⟩:=zA HK _ (Below.refl _ _)
 try go_wp2_with fail
 go_cut [7] (λ pz wx=>∃ (B:Nat) (u:Nm),pz=.pointer (some ⟨B,0,none⟩)/\W.heap.size<=B/\NmC wx B u/\IntAt wx u.neg u.a u.n u.cap 8 (p*(d*d))/\Below W.heap.size W wx)
 case first =>
  go_region_held3 (λ w'=>rK w' w.heap.size p q (rK0 w' ((w.heap.size+1)) n d)) (exact zA HK _ (by repeat' (first|with_reducible exact rZ|with_reducible exact jx|with_reducible exact jw|with_reducible exact Below.refl _ _|with_reducible refine Below.drew ?_|with_reducible refine zL ?_ _|with_reducible refine Below.setCell ?_ (by first|exact Zb _|exact vy|exact vz|exact vA) _)))
   (first
    | (go_at_call 83;have hq:=jx;refine (zX _ _ _ _ _ _ _ _ 4 4 p (d*d) _ (lI.bw (by with_reducible first|exact Below.refl _ _|exact bl1 _ _)) (sW.bw (by with_reducible first|exact Below.refl _ _|exact bl1 _ _)) (by omega) (by omega)).mono ?_;rintro r Sr ⟨rk,OA,RA,OO,rfl,IJ,tx⟩;have kp:Below FC.heap.size FC Sr:=(by with_reducible first|exact tx|exact zB (bl1 _ _) tx);have rZ:=zB jx kp;(try with_reducible have Pk:=(kA FC 29).bw tx);replace lI:=lI.bw kp;(try replace ya:=ya.bw kp);replace sW:=sW.bw kp;(try replace EI:=EI.bw kp);have vA:=rZ.size;(try have mF1:=ya.lt);(try obtain⟨KT,KV,zF1f⟩:=ya);(try have mF2:=EI.lt);(try obtain⟨KW,KX,zF2f⟩:=EI);(try have mF3:=Pk.lt);(try obtain⟨KY,KZ,zF3f⟩:=Pk))
    | (go_at_call 33;have hq:=jw;(try rw[zA Z6]);refine (zD (d*d) _ (zA pc).1 (zA pc).2).mono ?_;rintro r FC ⟨RK,aF2,nF2,cF2,rfl,sW,tv⟩;have sN:Below FB.heap.size FB FC:=(by with_reducible first|exact tv|exact zB (bl1 _ _) tv);have jx:=zB jw sN;(try with_reducible have EI:=(kA FB 29).bw tv);replace lI:=lI.bw sN;(try replace ya:=ya.bw sN);have vz:=jx.size)
    | (go_at_call 33;refine (zD p _ (by omega) (by omega)).mono ?_;rintro r FB ⟨RJ,aF1,nF1,cF1,rfl,lI,tq⟩;have jw:Below W.heap.size W FB:=(by with_reducible first|exact zB (Below.refl _ _).drew tq|exact zB (bl1 _ _).drew tq);(try with_reducible have ya:=((kA W 29).bw (Below.refl _ _).drew).bw tq);have vy:=jw.size))
  all_goals
   have hfinF:IntAt Sr rk OA RA OO 8 (p*(d*d)):=IJ.mono (by omega)
   go_wp2_with fail;go_meet;refine⟨_,⟨rk,OA,RA,OO⟩,rfl,?_,⟨?_,?_⟩,?_,?_⟩
   ·first|exact Zb _|exact vy|exact vz|exact vA
   ·simp[go_sem, *]
   ·simp[go_sem, *]
   ·first|with_reducible exact hfinF.put2 KY KZ _ _|with_reducible exact hfinF.put2 KW KX _ _|with_reducible exact hfinF.put2 KT KV _ _|with_reducible exact hfinF.bw (bl1 _ _)
   ·repeat' (first|with_reducible exact rZ|with_reducible exact jx|with_reducible exact jw|with_reducible exact Below.refl _ _|with_reducible refine Below.drew ?_|with_reducible refine zL ?_ _|with_reducible refine Below.setCell ?_ (by first|exact Zb _|exact vy|exact vz|exact vA) _)
 case rest =>
 obtain⟨BF,xF,rfl,hHF,XF,hpF,hblF⟩:=hcut;replace A:=A.bw hblF;replace D:=D.bw hblF;replace R:=R.bw hblF;replace j8:=zB j8 hblF;obtain⟨V1,L8⟩:∃ V,V=wc:=⟨_,rfl⟩;subst L8;have lF:=XF.lt;have QW:=A.lt;have lD1:=D.lt;have rf:=R.lt;have Aq:=zC (hpF.fits (zA HF).1.1 (zA HF).1.2);have mX:=zC (show ∀ w',Below V1.heap.size V1 w'->(rK w' w.heap.size p q (rK0 w' ((w.heap.size+1)) n d)) from λ w' hB=>⟨(A.bw hB).c0,(A.bw hB).c1,(D.bw hB).c0,(D.bw hB).c1⟩)
 clear hpF hblF HK x0 x1 x2 x3;obtain⟨x0,x1,x2,x3⟩:=zA mX _ (Below.refl _ _);go_wp2_with fail
 go_cut [8] (λ pz wx=>∃ (B:Nat) (u:Nm),pz=.pointer (some ⟨B,0,none⟩)/\V1.heap.size<=B/\NmC wx B u/\IntAt wx u.neg u.a u.n u.cap 8 (q*(n*n))/\Below V1.heap.size V1 wx)
 case first =>
  go_region_held3 (λ w'=>rK w' w.heap.size p q (rK0 w' ((w.heap.size+1)) n d)) (exact zA mX _ (by repeat' (first|with_reducible exact aG|with_reducible exact K6|with_reducible exact I8|with_reducible exact Below.refl _ _|with_reducible refine Below.drew ?_|with_reducible refine zL ?_ _|with_reducible refine Below.setCell ?_ (by first|exact Zb _|exact T3|exact T4|exact fE) _)))
   (first
    | (go_at_call 83;have hq:=K6;refine (zX _ _ _ _ _ _ _ _ 4 4 q (n*n) _ (J9.bw (by with_reducible first|exact Below.refl _ _|exact bl1 _ _)) (Y7.bw (by with_reducible first|exact Below.refl _ _|exact bl1 _ _)) (by omega) (by omega)).mono ?_;rintro r wG ⟨rm,OB,RC,OP,rfl,lQ,eQ⟩;have aK:Below fV.heap.size fV wG:=(by with_reducible first|exact eQ|exact zB (bl1 _ _) eQ);have aG:=zB K6 aK;(try with_reducible have rT:=(kA fV 29).bw eQ);replace J9:=J9.bw aK;(try replace ae:=ae.bw aK);replace Y7:=Y7.bw aK;(try replace cR:=cR.bw aK);have fE:=aG.size;(try have oK:=ae.lt);(try obtain⟨fY,fZ,zS1f⟩:=ae);(try have oL:=cR.lt);(try obtain⟨gf,gi,zS2f⟩:=cR);(try have Kf:=rT.lt);(try obtain⟨xj,xk,zS3f⟩:=rT))
    | (go_at_call 33;have hq:=I8;(try rw[zA bo]);refine (zD (n*n) _ (zA pd).1 (zA pd).2).mono ?_;rintro r fV ⟨Dz,Vf,nS2,Vz,rfl,Y7,S5⟩;have Y5:Below cC.heap.size cC fV:=(by with_reducible first|exact S5|exact zB (bl1 _ _) S5);have K6:=zB I8 Y5;(try with_reducible have cR:=(kA cC 29).bw S5);replace J9:=J9.bw Y5;(try replace ae:=ae.bw Y5);have T4:=K6.size)
    | (go_at_call 33;refine (zD q _ (by omega) (by omega)).mono ?_;rintro r cC ⟨Dx,Ve,nS1,Vy,rfl,J9,S4⟩;have I8:Below V1.heap.size V1 cC:=(by with_reducible first|exact zB (Below.refl _ _).drew S4|exact zB (bl1 _ _).drew S4);(try with_reducible have ae:=((kA V1 29).bw (Below.refl _ _).drew).bw S4);have T3:=I8.size))
  all_goals
   have hfinS:IntAt wG rm OB RC OP 8 (q*(n*n)):=lQ.mono (by omega)
   go_wp2_with fail;go_meet;refine⟨_,⟨rm,OB,RC,OP⟩,rfl,?_,⟨?_,?_⟩,?_,?_⟩
   ·first|exact Zb _|exact T3|exact T4|exact fE
   ·simp[go_sem, *]
   ·simp[go_sem, *]
   ·first|with_reducible exact hfinS.put2 xj xk _ _|with_reducible exact hfinS.put2 gf gi _ _|with_reducible exact hfinS.put2 fY fZ _ _|with_reducible exact hfinS.bw (bl1 _ _)
   ·repeat' (first|with_reducible exact aG|with_reducible exact K6|with_reducible exact I8|with_reducible exact Below.refl _ _|with_reducible refine Below.drew ?_|with_reducible refine zL ?_ _|with_reducible refine Below.setCell ?_ (by first|exact Zb _|exact T3|exact T4|exact fE) _)
 case rest =>
 obtain⟨BS,xS,rfl,yi,XS,hpS,hblS⟩:=hcut;replace A:=A.bw hblS;replace D:=D.bw hblS;replace R:=R.bw hblS;replace XF:=XF.bw hblS;replace Aq:=zC ((zA Aq).bw hblS);replace j8:=zB j8 hblS;have On:=zC hpS;obtain⟨V2,P8⟩:∃ V,V=wc:=⟨_,rfl⟩;subst P8;have lS:=XS.lt;have lF1:=XF.lt;have Db:=A.lt;have JZ:=D.lt;have bg:=R.lt;have gM:=zC (show ∀ w',Below V2.heap.size V2 w'->(rK w' w.heap.size p q (rK w' ((w.heap.size+1)) n d (nK w' BF xF (nK0 w' BS xS)))) from λ w' hB=>⟨(A.bw hB).c0,(A.bw hB).c1,(D.bw hB).c0,(D.bw hB).c1,(XF.bw hB).c0,(XF.bw hB).c1,(XS.bw hB).c0,(XS.bw hB).c1⟩)
 clear hpS hblS mX x0 x1 x2 x3;obtain⟨x0,x1,x2,x3,x4,x5,x6,x7⟩:=zA gM _ (Below.refl _ _);go_wp2_with fail
 go_cut [9] (λ pz wx=>∃ (B:Nat) (u:Sp),pz=.pointer (some ⟨B,0,none⟩)/\V2.heap.size<=B/\VrC wx B u/\SpAt wx u 75 (zJ (lo,hi) 1 2).1 (zJ (lo,hi) 1 2).2/\u.bits=(b:Int)/\Below V2.heap.size V2 wx)
 case first =>
  go_region_held3 (λ w'=>rK w' w.heap.size p q (rK w' ((w.heap.size+1)) n d (nK w' BF xF (nK0 w' BS xS)))) (exact zA gM _ (by repeat' (first|with_reducible exact se|with_reducible exact jy|with_reducible exact dW|with_reducible exact Below.refl _ _|with_reducible refine Below.drew ?_|with_reducible refine zL ?_ _|with_reducible refine Below.setCell ?_ (by first|exact Zb _|exact vB|exact vC|exact vD) _)))
   (first
    | (go_at_call 123;have hq:=jy;refine (zI0 _ vH2 61 b 2 (lo,hi) (sX.bw (by with_reducible first|exact Below.refl _ _|exact bl1 _ _)) (by omega) (zA AM) (by omega) (by omega)).mono ?_;rintro r Ss ⟨Sd,rfl,qA,IK,tB⟩;have AO:=zC qA;clear qA;have kr:Below FE.heap.size FE Ss:=(by with_reducible first|exact tB|exact zB (bl1 _ _) tB);have se:=zB jy kr;(try with_reducible have Pl:=(zS FE 31).bw tB);replace lJ:=lJ.bw kr;(try replace yc:=yc.bw kr);replace sX:=sX.bw kr;(try replace EJ:=EJ.bw kr);have vD:=se.size;(try have Rb:=yc.lt);(try have eH1:=Zg Rb);(try have VV:=Zf Rb);(try obtain⟨La,Lb,Lc,Ld,Le,zH15⟩:=yc);(try have Rc:=EJ.lt);(try have eH2:=Zg Rc);(try have VW:=Zf Rc);(try obtain⟨Lf,Lh,Li,Lj,Ll,zH25⟩:=EJ);(try have Re:=Pl.lt);(try have eH3:=Zg Re);(try have VZ:=Zf Re);(try obtain⟨Lm,Ln,Lo,Lp,Lq,zH35⟩:=Pl))
    | (go_at_call 160;(try rw[zA dJ]);have hq:=dW;refine (zA GC _ xF ⟨Dw,Vd,nH1,Vx⟩ ((zA Aq).bw (by with_reducible first|exact dW|exact zL dW _)) ((lJ.bw (by with_reducible first|exact Below.refl _ _|exact bl1 _ _)).fits (zA HF).2.1 (zA HF).2.2)).mono ?_;rintro r FE ⟨vH2,rfl,qz,sX,tA⟩;have AM:=zC qz;clear qz;have sO:Below FD.heap.size FD FE:=(by with_reducible first|exact tA|exact zB (bl1 _ _) tA);have jy:=zB dW sO;(try with_reducible have EJ:=(zS FD 31).bw tA);replace lJ:=lJ.bw sO;(try replace yc:=yc.bw sO);have vC:=jy.size)
    | (go_at_call 32;refine (zA5 _ _ _ _ _ _ _ _ 4 8 (p*(d*d)) (q*(n*n)) _ ((zA Aq).bw (by with_reducible first|exact (Below.refl _ _).drew|exact (bl1 _ _).drew)) ((zA On).bw (by with_reducible first|exact (Below.refl _ _).drew|exact (bl1 _ _).drew)) (by omega) (by omega)).mono ?_;rintro r FD ⟨Dw,Vd,nH1,Vx,rfl,lJ,tz⟩;have dW:Below V2.heap.size V2 FD:=(by with_reducible first|exact zB (Below.refl _ _).drew tz|exact zB (bl1 _ _).drew tz);(try with_reducible have yc:=((zS V2 31).bw (Below.refl _ _).drew).bw tz);have vB:=dW.size))
  all_goals
   have hfinH:SpAt Ss Sd 75 (zJ (lo,hi) 1 2).1 (zJ (lo,hi) 1 2).2:=IK;go_wp2_with fail;go_meet;refine⟨_,Sd,rfl,?_,⟨⟨?_,?_,?_,?_,?_⟩,?_⟩,?_,zA AO,?_⟩
   ·first|exact Zb _|exact vB|exact vC|exact vD
   ·simp[go_sem, *]
   ·simp[go_sem, *]
   ·simp[go_sem, *]
   ·simp[go_sem, *]
   ·simp[go_sem, *]
   ·intro o;simp[go_sem, *]
   ·first|with_reducible exact SpAt.put5 hfinH Lm Ln Lo Lp Lq _ _ _ _ _|with_reducible exact SpAt.put5 hfinH Lf Lh Li Lj Ll _ _ _ _ _|with_reducible exact SpAt.put5 hfinH La Lb Lc Ld Le _ _ _ _ _|with_reducible exact hfinH.bw (bl1 _ _)
   ·repeat' (first|with_reducible exact se|with_reducible exact jy|with_reducible exact dW|with_reducible exact Below.refl _ _|with_reducible refine Below.drew ?_|with_reducible refine zL ?_ _|with_reducible refine Below.setCell ?_ (by first|exact Zb _|exact vB|exact vC|exact vD) _)
 case rest =>
 obtain⟨BH,xH,rfl,hHH,XH,hpH,hxbH,hblH⟩:=hcut;replace D:=D.bw hblH;replace R:=R.bw hblH;replace j8:=zB j8 hblH;obtain⟨V3,I6⟩:∃ V,V=wc:=⟨_,rfl⟩;subst I6;have lH:=XH.lt;have lD3:=D.lt;have iz:=R.lt;have nRH:w.heap.size+1+1<BH:=by omega
 have Om:=zC hpH;have NQ:=zC hxbH;obtain⟨⟨y0,y1,y2,y3,y4⟩,y5⟩:=XH;obtain⟨d0,d1⟩:=D;clear hpH hxbH hblH gM x0 x1 x2 x3 x4 x5 x6 x7 Aq On XF XS A
 by_cases bC:n<0
 ·have GA:=zC bC
  obtain⟨q0,q1,q2,q3,q4,q5⟩:=R;go_wp2_with fail;refine bodyPost_ret (v:=.agg xH.q) (by simp[results,Tryz.results135,go_sem,q0,q1,q2,q3,q4]) rfl ⟨xH,rfl,zA NQ,?_,?_⟩
  ·rw[show cs=zJ (lo,hi) 1 2 from (zA NR).trans (if_pos (zA GA))]
   exact SpAt.put5 (SpAt.mono (zA Om) (by omega)) q0 q1 q2 q3 q4 _ _ _ _ _
  ·exact jS j8 (by omega) _ _ _ _ _
 ·have GA:=zC bC
  go_wp2_with fail;refine (zGH _ xH 75 b (zJ (lo,hi) 1 2) (zA Om) (zA NQ) (by omega) (by omega) (by omega)).mono ?_
  rintro r' w4 ⟨u,rfl,A8,C7,y9⟩;obtain⟨q0,q1,q2,q3,q4,q5⟩:=R.bw y9;replace j8:=zB j8 y9;have I3:=zC A8;clear A8 y9;go_wp2_with fail;refine bodyPost_ret (v:=.agg u.q) (by simp[results,Tryz.results135,go_sem,q0,q1,q2,q3,q4]) rfl ⟨u,rfl,zA I3,?_,?_⟩
  ·rw[show cs=zB5 b (zJ (lo,hi) 1 2) from (zA NR).trans (if_neg (by have:=zA GA;omega))]
   exact SpAt.put5 (SpAt.mono C7 (by omega)) q0 q1 q2 q3 q4 _ _ _ _ _
  ·exact jS j8 (by omega) _ _ _ _ _
theorem wnor_iv (w:World) (x y:Nm) (p q:Int) (b:Nat) (s e:Int) (hx:IntAt w x.neg x.a x.n x.cap 4 p) (hy:IntAt w y.neg y.a y.n y.cap 4 q) (hr:wrok p q) (G7:40<=b) (hb:b<=10000) (hE:ErfN (p*p) (q*q*2) b s e) :
  Calls Tryz.prog 158 #[.agg x.q,.agg y.q,.int .i64 b] w (zG w b 3020 (zER b p (s,e)).1 (zER b p (s,e)).2):=by
 obtain⟨W,hW⟩:∃ W,W=((w.alloc (.cells x.q 29)).alloc (.cells y.q 29)).alloc (.cells zCq 31):=⟨_,rfl⟩;have j8:Below w.heap.size w W:=by rw[hW];exact bl3 _ _ _ _
 have X:NmC W w.heap.size x:=by rw[hW];constructor<;>simp[go_sem]
 have Y:NmC W (w.heap.size+1) y:=by rw[hW];constructor<;>simp[go_sem]
 have R:NoC W (w.heap.size+1+1):=by rw[hW];constructor<;>simp[go_sem]
 obtain⟨r1,r2,r3,r4⟩:=hr;obtain⟨a1,a2⟩:=sq_bw (p:=q) (K:=137438953472) (by omega) (by omega)
 have HX:=zC (hx.bw j8);have HY:=zC (hy.bw j8)
 have Oo:=zC (show -P 8<2*(q*q)/\2*(q*q)<P 8 by
  have:P 8=340282366920938463463374607431768211456:=rfl
  exact⟨by omega,by omega⟩)
 have HE:=zC (show ErfN (p*p) (2*(q*q)) b s e by
  have e2:q*q*2=2*(q*q):=by omega
  rw[e2] at hE;exact hE)
 have lX:=X.lt;have lY:=Y.lt;have lR:=R.lt;have HK:=zC (show ∀ w',Below W.heap.size W w'->(nK w' w.heap.size x (nK0 w' ((w.heap.size+1)) y)) from λ w' hB=>⟨(X.bw hB).c0,(X.bw hB).c1,(Y.bw hB).c0,(Y.bw hB).c1⟩)
 clear hE hx hy a1 a2 r1 r2 r3 r4 X Y
 go_enter Tryz.func158,Tryz.ntmps158
 go_wp2;rw[<- hW];clear hW lR
 go_cut [7] (λ p wx=>∃ (B:Nat) (u:Sp),p=.pointer (some ⟨B,0,none⟩)/\W.heap.size<=B/\VrC wx B u/\SpAt wx u 3000 (((s,e):Int × Int)).1 (((s,e):Int × Int)).2/\u.bits=(b:Int)/\Below W.heap.size W wx)
 case first =>
  go_region_held3 (λ w'=>nK w' w.heap.size x (nK0 w' ((w.heap.size+1)) y)) (exact zA HK _ (by repeat' (first|with_reducible exact sA|with_reducible exact bZ|with_reducible exact K7|with_reducible exact G9|with_reducible exact Below.refl _ _|with_reducible refine Below.drew ?_|with_reducible refine zL ?_ _|with_reducible refine Below.setCell ?_ (by first|exact Zb _|exact T5|exact T6|exact fG|exact vM) _)))
   (first
    | (go_at_call 178;have hq:=bZ;refine (zA HE _ ⟨bK,xT,Ab,xW⟩ ⟨DA,Vg,nU3,VA⟩ (J6.bw (by with_reducible first|exact Below.refl _ _|exact bl1 _ _)) ((ma.bw (by with_reducible first|exact Below.refl _ _|exact bl1 _ _)).fits (zA Oo).1 (zA Oo).2)).mono ?_;rintro r Sy ⟨Sk,rfl,qM,IQ,tL⟩;have AZ:=zC qM;clear qM;have eo:Below wH.heap.size wH Sy:=(by with_reducible first|exact tL|exact zB (bl1 _ _) tL);have sA:=zB bZ eo;(try with_reducible have Pq:=(zS wH 31).bw tL);replace J6:=J6.bw eo;(try replace ag:=ag.bw eo);replace W3:=W3.bw eo;(try replace cS:=cS.bw eo);replace ma:=ma.bw eo;(try replace rV:=rV.bw eo);have vM:=sA.size;(try have oM:=ag.lt);(try have Pa:=Zg oM);(try have Bn:=Zf oM);(try obtain⟨mR,mS,xl,xm,xn,DT⟩:=ag);(try have oN:=cS.lt);(try have Pb:=Zg oN);(try have Bo:=Zf oN);(try obtain⟨mV,mW,xo,xq,xw,DV⟩:=cS);(try have Dg:=rV.lt);(try have Wo:=Zg Dg);(try have Hh:=Zf Dg);(try obtain⟨DW,DX,DY,DZ,Ea,Mt⟩:=rV);(try have Rn:=Pq.lt);(try have eU4:=Zg Rn);(try have Wp:=Zf Rn);(try obtain⟨Mv,Mw,Mx,My,Mz,zU45⟩:=Pq))
    | (go_at_call 116;have hq:=K7;refine (zUD _ _ _ _ 8 (q*q) _ (W3.bw (by with_reducible first|exact Below.refl _ _|exact bl1 _ _)) (by omega)).mono ?_;rintro r wH ⟨DA,Vg,nU3,VA,rfl,ma,eV⟩;have aM:Below fX.heap.size fX wH:=(by with_reducible first|exact eV|exact zB (bl1 _ _) eV);have bZ:=zB K7 aM;(try with_reducible have rV:=(zS fX 31).bw eV);replace J6:=J6.bw aM;(try replace ag:=ag.bw aM);replace W3:=W3.bw aM;(try replace cS:=cS.bw aM);have fG:=bZ.size)
    | (go_at_call 83;have hq:=G9;refine (zX _ _ _ _ _ _ _ _ 4 4 q q _ ((zA HY).bw (by with_reducible first|exact G9|exact zL G9 _)) ((zA HY).bw (by with_reducible first|exact G9|exact zL G9 _)) (by omega) (by omega)).mono ?_;rintro r fX ⟨bh,rJ,wo,rL,rfl,W3,S7⟩;have R6:Below cD.heap.size cD fX:=(by with_reducible first|exact S7|exact zB (bl1 _ _) S7);have K7:=zB G9 R6;(try with_reducible have cS:=(zS cD 31).bw S7);replace J6:=J6.bw R6;(try replace ag:=ag.bw R6);have T6:=K7.size)
    | (go_at_call 83;refine (zX _ _ _ _ _ _ _ _ 4 4 p p _ ((zA HX).bw (by with_reducible first|exact (Below.refl _ _).drew|exact (bl1 _ _).drew)) ((zA HX).bw (by with_reducible first|exact (Below.refl _ _).drew|exact (bl1 _ _).drew)) (by omega) (by omega)).mono ?_;rintro r cD ⟨bK,xT,Ab,xW,rfl,J6,S6⟩;have G9:Below W.heap.size W cD:=(by with_reducible first|exact zB (Below.refl _ _).drew S6|exact zB (bl1 _ _).drew S6);(try with_reducible have ag:=((zS W 31).bw (Below.refl _ _).drew).bw S6);have T5:=G9.size))
  all_goals
   have hfinU:SpAt Sy Sk 3000 (((s,e):Int × Int)).1 (((s,e):Int × Int)).2:=IQ;go_wp2_with fail;go_meet;refine⟨_,Sk,rfl,?_,⟨⟨?_,?_,?_,?_,?_⟩,?_⟩,?_,zA AZ,?_⟩
   ·first|exact Zb _|exact T5|exact T6|exact fG|exact vM
   ·simp[go_sem, *]
   ·simp[go_sem, *]
   ·simp[go_sem, *]
   ·simp[go_sem, *]
   ·simp[go_sem, *]
   ·intro o;simp[go_sem, *]
   ·first|with_reducible exact SpAt.put5 hfinU Mv Mw Mx My Mz _ _ _ _ _|with_reducible exact SpAt.put5 hfinU DW DX DY DZ Ea _ _ _ _ _|with_reducible exact SpAt.put5 hfinU mV mW xo xq xw _ _ _ _ _|with_reducible exact SpAt.put5 hfinU mR mS xl xm xn _ _ _ _ _|with_reducible exact hfinU.bw (bl1 _ _)
   ·repeat' (first|with_reducible exact sA|with_reducible exact bZ|with_reducible exact K7|with_reducible exact G9|with_reducible exact Below.refl _ _|with_reducible refine Below.drew ?_|with_reducible refine zL ?_ _|with_reducible refine Below.setCell ?_ (by first|exact Zb _|exact T5|exact T6|exact fG|exact vM) _)
 case rest =>
 obtain⟨BU,xU,rfl,BG,XU,hpU,hxbU,hblU⟩:=hcut;have lR:=R.lt;replace R:=R.bw hblU;replace HX:=zC ((zA HX).bw hblU);replace j8:=zB j8 hblU;obtain⟨x0,x1,x2,x3⟩:=zA HK _ hblU;have nRU:w.heap.size+1+1<BU:=by omega
 have bg:=R.lt;have Ka:w.heap.size<wc.heap.size:=by omega
 have oc:=zC hxbU;have cO:=zC hpU;clear hxbU hpU HK hblU;go_wp2_with fail;refine (zAY _ _ _ _ 4 p _ (zA HX)).mono ?_;rintro r w1 ⟨rfl,b9⟩;replace R:=R.bw b9;replace XU:=XU.bw b9;replace cO:=zC ((zA cO).bw b9);replace j8:=zB j8 b9;clear b9 x0 x1 x2 x3 HX;have lU:=XU.lt;have iz:=R.lt;obtain⟨⟨y0,y1,y2,y3,y4⟩,y5⟩:=XU
 by_cases hp:0<p
 ·have cp:0<zN p 0:=cmp_gt hp
  have Gl:=zC (show zER b p (s,e)=zJ (zB5 b (-e,-s)) 1 2 by unfold zER oppP;rw[if_pos hp])
  go_wp2_with fail;refine (zC9 _ xU 3000 _ _ (zA cO) (by omega)).mono ?_
  rintro r w3 ⟨t,rfl,J2,P5,o7⟩;have EC:VrC w3 BU xU:=VrC.bw ⟨⟨y0,y1,y2,y3,y4⟩,y5⟩ o7;replace R:=R.bw o7;replace j8:=zB j8 o7;have HT:=zC (J2.trans (zA oc));clear J2 y0 y1 y2 y3 y4 y5 o7 cO lU iz;have lU:=EC.lt;have iz:=R.lt;obtain⟨V3,I6⟩:∃ V3,V3=zAC w3 BU t:=⟨_,rfl⟩;have X3:VrC V3 BU t:=by rw[I6];exact EC.put t
  have P3:SpAt V3 t 3000 (-e) (-s):=by rw[I6];exact P5.put EC.c t
  have R3:NoC V3 (w.heap.size+1+1):=by rw[I6];exact R.off (by omega) t
  have B3:Below w.heap.size w V3:=by rw[I6];exact zA0 j8 (by omega) t
  obtain⟨⟨y0,y1,y2,y3,y4⟩,y5⟩:=EC;clear P5 j8 R;have z0:V3.cell? ⟨BU,0,none⟩=some (.bool t.ln):=X3.c.c0;have z1:V3.cell? ⟨BU,1,none⟩=some (.slice t.la t.lN t.lc):=X3.c.c1;have z2:V3.cell? ⟨BU,2,none⟩=some (.bool t.hn):=X3.c.c2;have z3:V3.cell? ⟨BU,3,none⟩=some (.slice t.ha t.hN t.hc):=X3.c.c3;have z4:V3.cell? ⟨BU,4,none⟩=some (.int .i64 t.bits):=X3.c.c4;go_wp2_with fail;have R7:V3=zAC w3 BU t:=I6;unfold zAC at R7;rw[<- R7];clear R7 I6 y0 y1 y2 y3 y4 y5
  (try go_wp2_with fail)
  refine (zGH _ t 3000 b (-e,-s) P3 (zA HT) (by omega) (by omega) (by omega)).mono ?_
  rintro r w4 ⟨v,rfl,J7,J5,y9⟩;replace R3:=R3.bw y9;replace B3:=zB B3 y9;have HV:=zC J7;clear J7 y9;go_wp2_with fail;refine (zI0 _ v 3001 b 2 _ J5 (by omega) (zA HV) (by omega) (by omega)).mono ?_
  rintro r w5 ⟨o,rfl,CB,mD,D8⟩;rw[<- zA Gl] at mD;obtain⟨q0,q1,q2,q3,q4,q5⟩:=R3.bw D8;replace B3:=zB B3 D8;have HO:=zC CB;clear CB;go_wp2_with fail;refine bodyPost_ret (v:=.agg o.q) (by simp[results,Tryz.results158,go_sem,q0,q1,q2,q3,q4]) rfl ⟨o,rfl,zA HO,?_,?_⟩
  ·exact SpAt.put5 (mD.mono (by omega)) q0 q1 q2 q3 q4 _ _ _ _ _
  ·exact jS B3 (by omega) _ _ _ _ _
 ·have cp:¬ 0<zN p 0:=cmp_le (by omega)
  have Gl:=zC (show zER b p (s,e)=zJ (zB5 b (s,e)) 1 2 by unfold zER oppP;rw[if_neg hp])
  have HT:=oc;have R3:=R;have B3:=j8;clear R j8;go_wp2_with fail;refine (zGH _ xU 3000 b (s,e) (zA cO) (zA HT) (by omega) (by omega) (by omega)).mono ?_
  rintro r w4 ⟨v,rfl,J7,J5,y9⟩;replace R3:=R3.bw y9;replace B3:=zB B3 y9;have HV:=zC J7;clear J7 y9;go_wp2_with fail;refine (zI0 _ v 3001 b 2 _ J5 (by omega) (zA HV) (by omega) (by omega)).mono ?_
  rintro r w5 ⟨o,rfl,CB,mD,D8⟩;rw[<- zA Gl] at mD;obtain⟨q0,q1,q2,q3,q4,q5⟩:=R3.bw D8;replace B3:=zB B3 D8;have HO:=zC CB;clear CB;go_wp2_with fail;refine bodyPost_ret (v:=.agg o.q) (by simp[results,Tryz.results158,go_sem,q0,q1,q2,q3,q4]) rfl ⟨o,rfl,zA HO,?_,?_⟩
  ·exact SpAt.put5 (mD.mono (by omega)) q0 q1 q2 q3 q4 _ _ _ _ _
  ·exact jS B3 (by omega) _ _ _ _ _
theorem zJ8 {a b K M:Int} (h1 : -K<=a) (h2:a<=K) (h3:0<=b) (h4:b<=M) : -(K*M)<=a*b/\a*b<=K*M:=by
 have m1:=Int.mul_le_mul h2 h4 h3 (show 0<=K by omega)
 have m2:=Int.mul_le_mul (show -a<=K by omega) h4 h3 (show 0<=K by omega)
 have e : -a*b = -(a*b):=Int.neg_mul _ _;omega
theorem nor_wr {p q r s n d:Int} (T7:rok p q) (P2:rok n d) (qe:rok r s) (hr:0<r) (hs:r<=100*s):wrok ((n*q-p*d)*s) (d*q*r):=by
 obtain⟨a1,a2,a3,a4⟩:=T7;obtain⟨c1,c2,c3,c4⟩:=P2;obtain⟨g1,g2,g3,g4⟩:=qe;obtain⟨u1,u2⟩:=zJ8 (a:=n) (b:=q) (K:=1048576) (M:=1024) c1 c2 (by omega) a4
 obtain⟨u3,u4⟩:=zJ8 (a:=p) (b:=d) (K:=1048576) (M:=1024) a1 a2 (by omega) c4
 obtain⟨v1,v2⟩:=zJ8 (a:=n*q-p*d) (b:=s) (K:=2147483648) (M:=1024) (by omega) (by omega) (by omega) g4
 have w0:=Int.mul_pos (show 0<d by omega) (show 0<q by omega)
 have w1:=Int.mul_le_mul c4 a4 (by omega) (by omega)
 have y0:=Int.mul_pos w0 hr;have y1:=Int.mul_le_mul (show d*q<=1048576 by omega) (show r<=102400 by omega) (by omega) (by omega)
 exact⟨by omega,by omega,by omega,by omega⟩
theorem lnorm_iv (w:World) (k p q r s n d:Int) (b:Nat) (s0 e0:Int) (G7:40<=b) (hb:b<=10000) (T7:rok p q) (P2:rok n d) (qe:rok r s) (hr:0<r) (hs:r<=100*s) (hE:ErfN (((n*q-p*d)*s)*((n*q-p*d)*s)) ((d*q*r)*(d*q*r)*2) b s0 e0) :
  Calls Tryz.prog 131 #[.agg #[.int .i64 k,.int .i64 p,.int .i64 q,.int .i64 r,.int .i64 s],.agg #[.int .i64 n,.int .i64 d],.int .i64 b] w (zG w b 3020 (zER b ((n*q-p*d)*s) (s0,e0)).1 (zER b ((n*q-p*d)*s) (s0,e0)).2):=by
 have hw:=nor_wr T7 P2 qe hr hs;obtain⟨a1,a2,a3,a4⟩:=T7;obtain⟨c1,c2,c3,c4⟩:=P2;obtain⟨g1,g2,g3,g4⟩:=qe;obtain⟨u1,u2⟩:=zJ8 (a:=n) (b:=q) (K:=1048576) (M:=1024) c1 c2 (by omega) a4
 obtain⟨u3,u4⟩:=zJ8 (a:=p) (b:=d) (K:=1048576) (M:=1024) a1 a2 (by omega) c4
 have v1:=Int.mul_le_mul c4 a4 (by omega) (by omega)
 have v0:=Int.mul_pos (show 0<d by omega) (show 0<q by omega)
 have HE:=zC hE;have HW:=zC hw
 have HF:=zC (show (-P 4<((n*q-p*d)*s)/\((n*q-p*d)*s)<P 4) /\ -P 4<(d*q*r)/\(d*q*r)<P 4 by
  obtain⟨r1,r2,r3,r4⟩:=hw;have:P 4=18446744073709551616:=rfl
  exact⟨⟨by omega,by omega⟩,by omega,by omega⟩)
 clear hE hw hr hs;obtain⟨W,hW⟩:∃ W,W=((w.alloc (.cells #[.int .i64 k,.int .i64 p,.int .i64 q,.int .i64 r,.int .i64 s] 25)).alloc (.cells #[.int .i64 n,.int .i64 d] 23)).alloc (.cells zCq 31):=⟨_,rfl⟩;have j8:Below w.heap.size w W:=by rw[hW];exact bl3 _ _ _ _
 have A:LwC W w.heap.size k p q r s:=by rw[hW];constructor<;>simp[go_sem]
 have D:RaC W (w.heap.size+1) n d:=by rw[hW];constructor<;>simp[go_sem]
 have R:NoC W (w.heap.size+1+1):=by rw[hW];constructor<;>simp[go_sem]
 have lR:=R.lt;have lA:=A.lt;have lD:=D.lt;have HK:=zC (show ∀ w',Below W.heap.size W w'->(rK w' w.heap.size k p (w'.cell? ⟨w.heap.size,2,none⟩=some (.int .i64 q)/\w'.cell? ⟨w.heap.size,3,none⟩=some (.int .i64 r)/\w'.cell? ⟨w.heap.size,4,none⟩=some (.int .i64 s)/\rK0 w' (w.heap.size+1) n d)) from λ w' hB=>⟨(A.bw hB).c0,(A.bw hB).c1,(A.bw hB).c2,(A.bw hB).c3,(A.bw hB).c4,(D.bw hB).c0,(D.bw hB).c1⟩)
 go_enter Tryz.func131,Tryz.ntmps131
 go_wp2_with fail;rw[<- hW];clear hW;obtain⟨x0,x1,x2,x3,x4,x5,x6⟩:=zA HK _ (Below.refl _ _)
 (try go_wp2_with fail)
 refine (zD (n*q-p*d) _ (by omega) (by omega)).mono ?_
 rintro z1 w1 ⟨m9,b1,m1,e1,rfl,o8,b9⟩;replace A:=A.bw b9;replace D:=D.bw b9;replace R:=R.bw b9;replace j8:=zB j8 b9;obtain⟨V1,L8⟩:∃ V,V=w1.alloc (.cells #[.bool m9,.slice b1 m1 e1] 29):=⟨_,rfl⟩;have aB:Below w1.heap.size w1 V1:=by rw[L8];exact bl1 _ _
 have N1:NmC V1 w1.heap.size ⟨m9,b1,m1,e1⟩:=by rw[L8];exact⟨by simp,by simp⟩
 have QW:=A.lt;have lD1:=D.lt;have rf:=R.lt;replace A:=A.bw aB;replace D:=D.bw aB;replace R:=R.bw aB;replace j8:=zB j8 aB;have nP:=zC (o8.bw aB);clear o8 b9 HK x0 x1 x2 x3 x4 x5 x6 aB;obtain⟨A0,A1,A2,A3,A4⟩:=A;obtain⟨D0,D1⟩:=D
 go_upto_region 2 with fail
 rw[<- L8];clear L8;have A:LwC V1 w.heap.size k p q r s:=⟨A0,A1,A2,A3,A4⟩;have D:RaC V1 (w.heap.size+1) n d:=⟨D0,D1⟩;go_wp2_with fail;refine (zD (d*q) _ (by omega) (by omega)).mono ?_
 rintro z2 w2 ⟨j6,b2,m2,e2,rfl,A5,j7⟩;have lN1:=N1.lt;replace A:=A.bw j7;replace D:=D.bw j7;replace R:=R.bw j7;replace N1:=N1.bw j7;replace nP:=zC ((zA nP).bw j7);replace j8:=zB j8 j7;obtain⟨V2,P8⟩:∃ V,V=w2.alloc (.cells #[.bool j6,.slice b2 m2 e2] 29):=⟨_,rfl⟩;have O6:Below w2.heap.size w2 V2:=by rw[P8];exact bl1 _ _
 have N2:NmC V2 w2.heap.size ⟨j6,b2,m2,e2⟩:=by rw[P8];exact⟨by simp,by simp⟩
 have bg:=R.lt;have lN12:=N1.lt;replace A:=A.bw O6;replace D:=D.bw O6;replace R:=R.bw O6;replace N1:=N1.bw O6;replace nP:=zC ((zA nP).bw O6);replace j8:=zB j8 O6;have xG:=zC (A5.bw O6);have Db:=A.lt;have JZ:=D.lt;have iz:=R.lt;clear A5 j7 O6 A0 A1 A2 A3 A4 D0 D1
 go_upto_region 3 with fail
 rw[<- P8];clear P8;go_wp2_with fail;have HK:=zC (show ∀ w',Below V2.heap.size V2 w'->(rK w' w.heap.size k p (w'.cell? ⟨w.heap.size,2,none⟩=some (.int .i64 q)/\w'.cell? ⟨w.heap.size,3,none⟩=some (.int .i64 r)/\w'.cell? ⟨w.heap.size,4,none⟩=some (.int .i64 s)/\rK w' (w.heap.size+1) n d (nK w' w1.heap.size (⟨m9,b1,m1,e1⟩:Nm) (nK0 w' w2.heap.size (⟨j6,b2,m2,e2⟩:Nm))))) from λ w' hB=>⟨(A.bw hB).c0,(A.bw hB).c1,(A.bw hB).c2,(A.bw hB).c3,(A.bw hB).c4,(D.bw hB).c0,(D.bw hB).c1,(N1.bw hB).c0,(N1.bw hB).c1,(N2.bw hB).c0,(N2.bw hB).c1⟩)
 have D7:Below V2.heap.size V2 V2.drew:=(Below.refl _ _).drew;have nn1:w.heap.size+1+1≠w.heap.size:=by omega
 have nn2:w.heap.size+1+1≠w.heap.size+1:=by omega
 have nn3:w.heap.size+1+1≠w1.heap.size:=by omega
 have nn4:w.heap.size+1+1≠w2.heap.size:=by omega
 clear A D N1 N2;obtain⟨x0,x1,x2,x3,x4,x5,x6,x7,x8,x9,FV⟩:=zA HK _ (Below.refl _ _)
 go_region_held3 (λ w'=>rK w' w.heap.size k p (w'.cell? ⟨w.heap.size,2,none⟩=some (.int .i64 q)/\w'.cell? ⟨w.heap.size,3,none⟩=some (.int .i64 r)/\w'.cell? ⟨w.heap.size,4,none⟩=some (.int .i64 s)/\rK w' (w.heap.size+1) n d (nK w' w1.heap.size (⟨m9,b1,m1,e1⟩:Nm) (nK0 w' w2.heap.size (⟨j6,b2,m2,e2⟩:Nm))))) (first|exact zA HK _ (by with_reducible first|exact D7|exact O7|exact I1|exact D3|exact o9|exact A6)|(dsimp only[cK,cK0,nK,nK0,rK,rK0];go_keep)|go_keep)
  (first
   | (go_at_call 158;have O4:=I1;refine (wnor_iv _ ⟨E6,b4,m4,e4⟩ ⟨dI,b6,m6,e6⟩ ((n*q-p*d)*s) (d*q*r) b s0 e0 (I2.fits (zA HF).1.1 (zA HF).1.2) (cT.fits (zA HF).2.1 (zA HF).2.2) (zA HW) G7 hb (zA HE)).mono ?_;rintro zz y5 ⟨u,rfl,A8,C7,D8⟩;have O7:=zB I1 D8;have I3:=zC A8;clear A8;obtain⟨q0,q1,q2,q3,q4,q5⟩:=R.bw O7;obtain⟨i0,i1,i2,i3,i4,i5,i6,i7,i8,i9,i10⟩:=zA HK _ O7)
   | (go_at_call 83;have O4:=D3;refine (zX _ _ _ _ _ _ _ _ 4 4 (d*q) r _ ((zA xG).bw D3) P9 (by omega) (by omega)).mono ?_;rintro zz y4 ⟨dI,b6,m6,e6,rfl,cT,y9⟩;have I1:=zB D3 y9;replace I2:=I2.bw y9)
   | (go_at_call 33;have O4:=o9;refine (zD r _ (by omega) (by omega)).mono ?_;rintro zz y3 ⟨L4,b5,m5,e5,rfl,P9,o7⟩;have D3:=zB o9 o7;replace I2:=I2.bw o7)
   | (go_at_call 83;have O4:=A6;refine (zX _ _ _ _ _ _ _ _ 4 4 (n*q-p*d) s _ ((zA nP).bw A6) G0 (by omega) (by omega)).mono ?_;rintro zz y2 ⟨E6,b4,m4,e4,rfl,I2,j7⟩;have o9:=zB A6 j7)
   | (go_at_call 33;refine (zD s _ (by omega) (by omega)).mono ?_;rintro zz y1 ⟨B8,b3,m3,e3,rfl,G0,b9⟩;have A6:=zB D7 b9))
 all_goals
  go_wp2;refine bodyPost_ret (v:=.agg u.q) (by simp[results,Tryz.results131,go_sem,q0,q1,q2,q3,q4]) rfl ⟨u,rfl,zA I3,?_,?_⟩
  ·exact SpAt.put5 (C7) q0 q1 q2 q3 q4 _ _ _ _ _
  ·exact jS (zB j8 O7) (by omega) _ _ _ _ _
def BlG (K:Nat) (Pr:Int->Int->Prop) (w:World) (b:Nat) (z:Ending) (w':World):Prop:=∃ lo hi,Pr lo hi/\zG w b K lo hi z w'
theorem below_1 (w:World) (p q r s n d:Int) (b:Nat) (Pr:Int->Int->Prop) (hC:∀ w',Calls Tryz.prog 131 #[.agg #[.int .i64 1,.int .i64 p,.int .i64 q,.int .i64 r,.int .i64 s],.agg #[.int .i64 n,.int .i64 d],.int .i64 b] w' (BlG 30000 Pr w' b)) :
  Calls Tryz.prog 91 #[.agg #[.int .i64 1,.int .i64 p,.int .i64 q,.int .i64 r,.int .i64 s],.agg #[.int .i64 n,.int .i64 d],.int .i64 b] w (BlG 30000 Pr w b):=by
 have HC:=zC hC;clear hC
 go_enter Tryz.func91,Tryz.ntmps91
 go_wp2_with fail;refine (zA HC _).mono ?_;rintro zz w1 ⟨lo,hi,aZ,u,rfl,A8,C7,b9⟩;have R:NoC w1 (w.heap.size+1+1):=NoC.bw ⟨by simp[go_sem],by simp[go_sem],by simp[go_sem],by simp[go_sem],by simp[go_sem],λ o=>by simp[go_sem]⟩ b9
 have hB:Below w.heap.size w w1:=zB (bl3 _ _ _ _ ) b9;obtain⟨q0,q1,q2,q3,q4,q5⟩:=R;have I3:=zC A8;have dQ:=zC aZ;clear A8 b9 aZ;go_wp2_with fail;refine bodyPost_ret (v:=.agg u.q) (by simp[results,Tryz.results91,go_sem,q0,q1,q2,q3,q4]) rfl ⟨lo,hi,zA dQ,u,rfl,zA I3,?_,?_⟩
 ·exact SpAt.put5 (C7) q0 q1 q2 q3 q4 _ _ _ _ _
 ·exact jS hB (by omega) _ _ _ _ _
theorem below_2 (w:World) (p q r s n d:Int) (b:Nat) (Pr:Int->Int->Prop) (hC:∀ w',Calls Tryz.prog 132 #[.agg #[.int .i64 2,.int .i64 p,.int .i64 q,.int .i64 r,.int .i64 s],.agg #[.int .i64 n,.int .i64 d],.int .i64 b] w' (BlG 30000 Pr w' b)) :
  Calls Tryz.prog 91 #[.agg #[.int .i64 2,.int .i64 p,.int .i64 q,.int .i64 r,.int .i64 s],.agg #[.int .i64 n,.int .i64 d],.int .i64 b] w (BlG 30000 Pr w b):=by
 have HC:=zC hC;clear hC
 go_enter Tryz.func91,Tryz.ntmps91
 go_wp2_with fail;refine (zA HC _).mono ?_;rintro zz w1 ⟨lo,hi,aZ,u,rfl,A8,C7,b9⟩;have R:NoC w1 (w.heap.size+1+1):=NoC.bw ⟨by simp[go_sem],by simp[go_sem],by simp[go_sem],by simp[go_sem],by simp[go_sem],λ o=>by simp[go_sem]⟩ b9
 have hB:Below w.heap.size w w1:=zB (bl3 _ _ _ _ ) b9;obtain⟨q0,q1,q2,q3,q4,q5⟩:=R;have I3:=zC A8;have dQ:=zC aZ;clear A8 b9 aZ;go_wp2_with fail;refine bodyPost_ret (v:=.agg u.q) (by simp[results,Tryz.results91,go_sem,q0,q1,q2,q3,q4]) rfl ⟨lo,hi,zA dQ,u,rfl,zA I3,?_,?_⟩
 ·exact SpAt.put5 (C7) q0 q1 q2 q3 q4 _ _ _ _ _
 ·exact jS hB (by omega) _ _ _ _ _
theorem below_3 (w:World) (p q r s n d:Int) (b:Nat) (Pr:Int->Int->Prop) (hC:∀ w',Calls Tryz.prog 133 #[.agg #[.int .i64 3,.int .i64 p,.int .i64 q,.int .i64 r,.int .i64 s],.agg #[.int .i64 n,.int .i64 d],.int .i64 b] w' (BlG 30000 Pr w' b)) :
  Calls Tryz.prog 91 #[.agg #[.int .i64 3,.int .i64 p,.int .i64 q,.int .i64 r,.int .i64 s],.agg #[.int .i64 n,.int .i64 d],.int .i64 b] w (BlG 30000 Pr w b):=by
 have HC:=zC hC;clear hC
 go_enter Tryz.func91,Tryz.ntmps91
 go_wp2_with fail;refine (zA HC _).mono ?_;rintro zz w1 ⟨lo,hi,aZ,u,rfl,A8,C7,b9⟩;have R:NoC w1 (w.heap.size+1+1):=NoC.bw ⟨by simp[go_sem],by simp[go_sem],by simp[go_sem],by simp[go_sem],by simp[go_sem],λ o=>by simp[go_sem]⟩ b9
 have hB:Below w.heap.size w w1:=zB (bl3 _ _ _ _ ) b9;obtain⟨q0,q1,q2,q3,q4,q5⟩:=R;have I3:=zC A8;have dQ:=zC aZ;clear A8 b9 aZ;go_wp2_with fail;refine bodyPost_ret (v:=.agg u.q) (by simp[results,Tryz.results91,go_sem,q0,q1,q2,q3,q4]) rfl ⟨lo,hi,zA dQ,u,rfl,zA I3,?_,?_⟩
 ·exact SpAt.put5 (C7) q0 q1 q2 q3 q4 _ _ _ _ _
 ·exact jS hB (by omega) _ _ _ _ _
theorem below_4 (w:World) (p q r s n d:Int) (b:Nat) (Pr:Int->Int->Prop) (hC:∀ w',Calls Tryz.prog 134 #[.agg #[.int .i64 4,.int .i64 p,.int .i64 q,.int .i64 r,.int .i64 s],.agg #[.int .i64 n,.int .i64 d],.int .i64 b] w' (BlG 30000 Pr w' b)) :
  Calls Tryz.prog 91 #[.agg #[.int .i64 4,.int .i64 p,.int .i64 q,.int .i64 r,.int .i64 s],.agg #[.int .i64 n,.int .i64 d],.int .i64 b] w (BlG 30000 Pr w b):=by
 have HC:=zC hC;clear hC
 go_enter Tryz.func91,Tryz.ntmps91
 go_wp2_with fail;refine (zA HC _).mono ?_;rintro zz w1 ⟨lo,hi,aZ,u,rfl,A8,C7,b9⟩;have R:NoC w1 (w.heap.size+1+1):=NoC.bw ⟨by simp[go_sem],by simp[go_sem],by simp[go_sem],by simp[go_sem],by simp[go_sem],λ o=>by simp[go_sem]⟩ b9
 have hB:Below w.heap.size w w1:=zB (bl3 _ _ _ _ ) b9;obtain⟨q0,q1,q2,q3,q4,q5⟩:=R;have I3:=zC A8;have dQ:=zC aZ;clear A8 b9 aZ;go_wp2_with fail;refine bodyPost_ret (v:=.agg u.q) (by simp[results,Tryz.results91,go_sem,q0,q1,q2,q3,q4]) rfl ⟨lo,hi,zA dQ,u,rfl,zA I3,?_,?_⟩
 ·exact SpAt.put5 (C7) q0 q1 q2 q3 q4 _ _ _ _ _
 ·exact jS hB (by omega) _ _ _ _ _
theorem below_5 (w:World) (p q r s n d:Int) (b:Nat) (Pr:Int->Int->Prop) (hC:∀ w',Calls Tryz.prog 135 #[.agg #[.int .i64 p,.int .i64 q],.agg #[.int .i64 n,.int .i64 d],.int .i64 b] w' (BlG 30000 Pr w' b)) :
  Calls Tryz.prog 91 #[.agg #[.int .i64 5,.int .i64 p,.int .i64 q,.int .i64 r,.int .i64 s],.agg #[.int .i64 n,.int .i64 d],.int .i64 b] w (BlG 30000 Pr w b):=by
 have HC:=zC hC;clear hC
 go_enter Tryz.func91,Tryz.ntmps91
 go_wp2_with fail;refine (zA HC _).mono ?_;rintro zz w1 ⟨lo,hi,aZ,u,rfl,A8,C7,b9⟩;have R:NoC w1 (w.heap.size+1+1):=NoC.bw ⟨by simp[go_sem],by simp[go_sem],by simp[go_sem],by simp[go_sem],by simp[go_sem],λ o=>by simp[go_sem]⟩ b9
 have hB:Below w.heap.size w w1:=zB (bl3 _ _ _ _ ) b9;obtain⟨q0,q1,q2,q3,q4,q5⟩:=R;have I3:=zC A8;have dQ:=zC aZ;clear A8 b9 aZ;go_wp2_with fail;refine bodyPost_ret (v:=.agg u.q) (by simp[results,Tryz.results91,go_sem,q0,q1,q2,q3,q4]) rfl ⟨lo,hi,zA dQ,u,rfl,zA I3,?_,?_⟩
 ·exact SpAt.put5 (C7) q0 q1 q2 q3 q4 _ _ _ _ _
 ·exact jS hB (by omega) _ _ _ _ _
theorem below_7 (w:World) (p q r s n d:Int) (b:Nat) (Pr:Int->Int->Prop) (hr:rok n d) (hC:∀ w',Calls Tryz.prog 138 #[.agg #[.int .i64 p,.int .i64 q],.int .i64 (n/d),.int .i64 b] w' (BlG 30000 Pr w' b)) :
  Calls Tryz.prog 91 #[.agg #[.int .i64 7,.int .i64 p,.int .i64 q,.int .i64 r,.int .i64 s],.agg #[.int .i64 n,.int .i64 d],.int .i64 b] w (BlG 30000 Pr w b):=by
 have HC:=zC hC;have HR:=zC hr;clear hC hr;obtain⟨W,hW⟩:∃ W,W=((w.alloc (.cells #[.int .i64 7,.int .i64 p,.int .i64 q,.int .i64 r,.int .i64 s] 25)).alloc (.cells #[.int .i64 n,.int .i64 d] 23)).alloc (.cells zCq 31):=⟨_,rfl⟩;have j8:Below w.heap.size w W:=by rw[hW];exact bl3 _ _ _ _
 have A:LwC W w.heap.size 7 p q r s:=by rw[hW];constructor<;>simp[go_sem]
 have D:RaC W (w.heap.size+1) n d:=by rw[hW];constructor<;>simp[go_sem]
 have R:NoC W (w.heap.size+1+1):=by rw[hW];constructor<;>simp[go_sem]
 have lR:=R.lt;have lA:=A.lt;have lD:=D.lt;have HK:=zC (show ∀ w',Below W.heap.size W w'->(w'.cell? ⟨w.heap.size,0,none⟩=some (.int .i64 7)/\w'.cell? ⟨w.heap.size,1,none⟩=some (.int .i64 p)/\w'.cell? ⟨w.heap.size,2,none⟩=some (.int .i64 q)/\w'.cell? ⟨w.heap.size,3,none⟩=some (.int .i64 r)/\w'.cell? ⟨w.heap.size,4,none⟩=some (.int .i64 s)/\rK0 w' (w.heap.size+1) n d) from λ w' hB=>⟨(A.bw hB).c0,(A.bw hB).c1,(A.bw hB).c2,(A.bw hB).c3,(A.bw hB).c4,(D.bw hB).c0,(D.bw hB).c1⟩)
 clear A D
 go_enter Tryz.func91,Tryz.ntmps91
 go_wp2;rw[<- hW];clear hW;have D7:Below W.heap.size W W.drew:=(Below.refl _ _).drew;have n1:w.heap.size+1+1≠w.heap.size:=by omega
 have n2:w.heap.size+1+1≠w.heap.size+1:=by omega
 obtain⟨x0,x1,x2,x3,x4,x5,x6⟩:=zA HK _ (Below.refl _ _)
 go_region_held3 (λ w'=>w'.cell? ⟨w.heap.size,0,none⟩=some (.int .i64 7)/\w'.cell? ⟨w.heap.size,1,none⟩=some (.int .i64 p)/\w'.cell? ⟨w.heap.size,2,none⟩=some (.int .i64 q)/\w'.cell? ⟨w.heap.size,3,none⟩=some (.int .i64 r)/\w'.cell? ⟨w.heap.size,4,none⟩=some (.int .i64 s)/\rK0 w' (w.heap.size+1) n d) (first|exact zA HK _ (by with_reducible first|exact D7|exact o9|exact A6)|(dsimp only[cK,cK0,nK,nK0,rK,rK0];go_keep)|go_keep)
  (first
   | (go_at_call 138;have O4:=A6;refine (zA HC _).mono ?_;rintro zz w2 ⟨lo,hi,aZ,u,rfl,A8,C7,j7⟩;have o9:=zB A6 j7;have I3:=zC A8;have dQ:=zC aZ;clear A8 aZ;obtain⟨q0,q1,q2,q3,q4,q5⟩:=R.bw o9;obtain⟨i0,i1,i2,i3,i4,i5,i6⟩:=zA HK _ o9)
   | (go_at_call 137;refine (zM8 n d _ (zA HR)).mono ?_;rintro zz w1 ⟨rfl,b9⟩;have A6:=zB D7 b9))
 all_goals
  go_wp2;refine bodyPost_ret (v:=.agg u.q) (by simp[results,Tryz.results91,go_sem,q0,q1,q2,q3,q4]) rfl ⟨lo,hi,zA dQ,u,rfl,zA I3,?_,?_⟩
  ·exact SpAt.put5 (C7) q0 q1 q2 q3 q4 _ _ _ _ _
  ·exact jS (zB j8 o9) (by omega) _ _ _ _ _
theorem zBY {k p q r s:Int} (h:yO k p q r s=0):(1<=k/\k<=7)/\rok p q/\rok r s/\yJ k p q r s=true/\zD7 k p q r s=false/\(zFN k=true->r=0/\s=1):=by
 unfold yO at h
 by_cases h1:k<1\/7<k
 ·rw[if_pos h1] at h;omega
 ·rw[if_neg h1] at h
  by_cases h2:¬ rok p q\/¬ rok r s
  ·rw[if_pos h2] at h;omega
  ·rw[if_neg h2] at h
   by_cases h3:zFN k=true/\¬ (r=0/\s=1)
   ·rw[if_pos h3] at h;omega
   ·rw[if_neg h3] at h
    by_cases h4:yJ k p q r s=false
    ·rw[if_pos h4] at h;omega
    ·rw[if_neg h4] at h
     by_cases h5:zD7 k p q r s=true
     ·rw[if_pos h5] at h;omega
     ·have WT:yJ k p q r s=true:=by cases hh:yJ k p q r s<;>simp_all
      have WW:zD7 k p q r s=false:=by cases hh:zD7 k p q r s<;>simp_all
      have h6:rok p q:=Classical.byContradiction λ hh=>h2 (Or.inl hh)
      have h7:rok r s:=Classical.byContradiction λ hh=>h2 (Or.inr hh)
      exact⟨⟨by omega,by omega⟩,h6,h7,WT,WW,λ ho=>Classical.byContradiction λ hh=>h3 ⟨ho,hh⟩⟩
theorem zQU (u:Sp) (w:World):Calls Tryz.prog 47 #[.agg u.q] w λ r w'=>r=.returned (.agg u.q)/\Below w.heap.size w w':=by
 obtain⟨W,hW⟩:∃ W,W=(w.alloc (.cells u.q 31)).alloc (.cells zCq 31):=⟨_,rfl⟩;have j8:Below w.heap.size w W:=by rw[hW];exact bl2 _ _ _
 have U:SpC W w.heap.size u:=by rw[hW];exact (yW w u _).bw (bl1 _ _)
 have R:NoC W (w.heap.size+1):=by rw[hW];constructor<;>simp[go_sem]
 have lR:=R.lt;have lU:=U.lt;obtain⟨x0,x1,x2,x3,x4⟩:=U;obtain⟨q0,q1,q2,q3,q4,q5⟩:=R
 go_enter Tryz.func47,Tryz.ntmps47
 go_wp2
 try rw[<- hW]
 clear hW
 try go_wp2
 refine bodyPost_ret (v:=.agg u.q) (by simp[results,Tryz.results47,go_sem,q0,q1,q2,q3,q4]) rfl ⟨rfl,?_⟩
 exact bl2 _ _ _
structure MdAt (w:World) (hv:Value) (k p q r s n d:Int) (B1 B2 B3:Nat):Prop where
 f:w.cell? ⟨B1,0,none⟩=some hv
 l:LwC w B2 k p q r s
 x:RaC w B3 n d
theorem MdAt.lt {w:World} {hv:Value} {k p q r s n d:Int} {B1 B2 B3:Nat} (h:MdAt w hv k p q r s n d B1 B2 B3):B1<w.heap.size:=World.block_lt_of_cell? w ⟨B1,0,none⟩ h.f
theorem MdAt.bw {w w':World} {hv:Value} {k p q r s n d:Int} {B1 B2 B3:Nat} (h:MdAt w hv k p q r s n d B1 B2 B3) (hb:Below w.heap.size w w'):MdAt w' hv k p q r s n d B1 B2 B3 :=
 ⟨(hb.cell (p:=⟨B1,0,none⟩) h.lt).trans h.f,h.l.bw hb,h.x.bw hb⟩
theorem zF9 (b:Nat) (B1 B2 B3:Nat) (w:World) (k p q r s n d:Int) (Pr:Int->Int->Prop) (h:MdAt w (.func (.func 47) #[] #[]) k p q r s n d B1 B2 B3) (hb:b<=10000) (hC:∀ w',Calls Tryz.prog 91 #[.agg #[.int .i64 k,.int .i64 p,.int .i64 q,.int .i64 r,.int .i64 s],.agg #[.int .i64 n,.int .i64 d],.int .i64 b] w' (BlG 30000 Pr w' b)) :
  Calls Tryz.prog 90 #[.int .i64 b,.pointer (some ⟨B1,0,none⟩),.pointer (some ⟨B2,0,none⟩),.pointer (some ⟨B3,0,none⟩)] w (BlG 30000 Pr w b):=by
 have l1:=h.lt;have l2:=h.l.lt;have l3:=h.x.lt;obtain⟨W,hW⟩:∃ W,W=w.alloc (.cells zCq 31):=⟨_,rfl⟩;have j8:Below w.heap.size w W:=by rw[hW];exact bl1 _ _
 have R:NoC W w.heap.size:=by rw[hW];exact zS _ _
 have h':=h.bw j8;have HK:=zC (show ∀ w',Below W.heap.size W w'->(w'.cell? ⟨B1,0,none⟩=some (.func (.func 47) #[] #[])/\rK w' B2 k p (w'.cell? ⟨B2,2,none⟩=some (.int .i64 q)/\w'.cell? ⟨B2,3,none⟩=some (.int .i64 r)/\w'.cell? ⟨B2,4,none⟩=some (.int .i64 s)/\rK0 w' B3 n d)) from λ w' hB=>⟨(h'.bw hB).f,(h'.bw hB).l.c0,(h'.bw hB).l.c1,(h'.bw hB).l.c2,(h'.bw hB).l.c3,(h'.bw hB).l.c4,(h'.bw hB).x.c0,(h'.bw hB).x.c1⟩)
 have HC:=zC hC;clear h h' hC
 go_enter Tryz.func90,Tryz.ntmps90
 go_wp2;rw[<- hW];clear hW;have lR:=R.lt;have nA:B1≠w.heap.size:=by omega
 have nA':w.heap.size≠B1:=by omega
 have nB:B2≠w.heap.size:=by omega
 have Ry:w.heap.size≠B2:=by omega
 have nC:B3≠w.heap.size:=by omega
 have nC':w.heap.size≠B3:=by omega
 obtain⟨x0,x1,x2,x3,x4,x5,x6,x7⟩:=zA HK _ (Below.refl _ _);have D5:Below W.heap.size W W.drew:=(Below.refl _ _).drew
 go_region_held3 (λ w'=>w'.cell? ⟨B1,0,none⟩=some (.func (.func 47) #[] #[])/\rK w' B2 k p (w'.cell? ⟨B2,2,none⟩=some (.int .i64 q)/\w'.cell? ⟨B2,3,none⟩=some (.int .i64 r)/\w'.cell? ⟨B2,4,none⟩=some (.int .i64 s)/\rK0 w' B3 n d)) (first|exact zA HK _ (by with_reducible first|exact D5|exact p9|exact s9)|(dsimp only[cK,cK0,nK,nK0,rK,rK0];go_keep)|go_keep)
  (first
   | (go_at_call 47;have O4:=s9;refine (zQU u _).mono ?_;rintro r' w2 ⟨rfl,j7⟩;have p9:=zB s9 j7;obtain⟨q0,q1,q2,q3,q4,q5⟩:=R.bw p9;obtain⟨y0,y1,y2,y3,y4,y5,y6,y7⟩:=zA HK _ p9)
   | (go_at_call 91;refine (zA HC _).mono ?_;rintro r' w1 ⟨lo,hi,aZ,u,rfl,A8,C7,b9⟩;have s9:=zB D5 b9;have I3:=zC A8;have dQ:=zC aZ;clear A8 aZ))
 all_goals
  go_wp2_with fail;refine bodyPost_ret (v:=.agg u.q) (by simp[results,Tryz.results90,go_sem,q0,q1,q2,q3,q4]) rfl ⟨lo,hi,zA dQ,u,rfl,zA I3,?_,?_⟩
  ·exact SpAt.put5 (C7.bw j7) q0 q1 q2 q3 q4 _ _ _ _ _
  ·exact jS (zB j8 p9) (Zb _) _ _ _ _ _
theorem nat_add (b m:Nat):((b:Int)+(m:Int))=((b+m:Nat):Int):=by omega
theorem zSK (w:World) (ff:Nat) (k p q r s n d b:Int) (h0:yO k p q r s≠0) :
  Calls Tryz.prog 46 #[.agg #[.int .i64 k,.int .i64 p,.int .i64 q,.int .i64 r,.int .i64 s],.agg #[.int .i64 n,.int .i64 d],.int .i64 b,.func (.func ff) #[] #[]] w (zB1 w 0 250 0 0 (yO k p q r s)):=by
 go_enter Tryz.func46,Tryz.ntmps46
 go_wp2_with fail;refine (jV k p q r s _).mono ?_;rintro r' w1 ⟨rfl,b9⟩;have h1:(yO k p q r s != 0)=true:=by simpa using h0
 have R:NoC w1 (w.heap.size+1+1+1):=NoC.bw ⟨by simp[go_sem],by simp[go_sem],by simp[go_sem],by simp[go_sem],by simp[go_sem],λ o=>by simp[go_sem]⟩ b9
 have hB:Below w.heap.size w w1:=zB (bl4 _ _ _ _ _) b9;have lR:=R.lt;clear b9;obtain⟨q0,q1,q2,q3,q4,q5⟩:=R;go_wp2_with fail;refine bodyPost_ret (v:=.tuple #[.agg zCq,.int .i64 (yO k p q r s)]) (by simp[results,Tryz.results46,go_sem,q0,q1,q2,q3,q4]) rfl ⟨⟨false,none,0,0,false,none,0,0,0⟩,rfl,rfl,zGR _ _,?_⟩
 exact jS hB (by omega) _ _ _ _ _
theorem zSL (w:World) (ff:Nat) (k p q r s n d b:Int) (h0:yO k p q r s=0) (h1:zFO n d b≠0) :
  Calls Tryz.prog 46 #[.agg #[.int .i64 k,.int .i64 p,.int .i64 q,.int .i64 r,.int .i64 s],.agg #[.int .i64 n,.int .i64 d],.int .i64 b,.func (.func ff) #[] #[]] w (zB1 w 0 250 0 0 (zFO n d b)):=by
 have E0:=zC h0;clear h0
 go_enter Tryz.func46,Tryz.ntmps46
 go_wp2_with fail;refine (jV k p q r s _).mono ?_;rintro r' w1 ⟨rfl,b9⟩;rw[zA E0];have D:RaC w1 (w.heap.size+1) n d:=RaC.bw ⟨by simp[go_sem],by simp[go_sem]⟩ b9
 have R:NoC w1 (w.heap.size+1+1+1):=NoC.bw ⟨by simp[go_sem],by simp[go_sem],by simp[go_sem],by simp[go_sem],by simp[go_sem],λ o=>by simp[go_sem]⟩ b9
 have hB:Below w.heap.size w w1:=zB (bl4 _ _ _ _ _) b9;have lR:=R.lt;obtain⟨x6,x7⟩:=D;clear b9;go_wp2_with fail;refine (yG b w1 _ (by simp) n d _ _).mono ?_
 rintro r' w2 ⟨rfl,j7⟩;have h2:(zFO n d b != 0)=true:=by simpa using h1
 replace R:=R.bw j7;replace hB:=zB hB j7;clear j7 x6 x7;have bg:=R.lt;obtain⟨q0,q1,q2,q3,q4,q5⟩:=R;go_wp2_with fail;refine bodyPost_ret (v:=.tuple #[.agg zCq,.int .i64 (zFO n d b)]) (by simp[results,Tryz.results46,go_sem,q0,q1,q2,q3,q4]) rfl ⟨⟨false,none,0,0,false,none,0,0,0⟩,rfl,rfl,zGR _ _,?_⟩
 exact jS hB (by omega) _ _ _ _ _
structure LkPr (K:Nat) (x:Nat->Rat) (B:Nat) (l u:Int):Prop where
 lo:0<=l
 le:l<=u
 hi:u<=Q B
 wd:u-l<=Q K
 iv:Iv B (l,u) x
theorem lk_ends (K:Nat) (x:Nat->Rat) {bits:Nat} (hb:bits<=120):zBU bits K (LkPr K x):=λ m lo hi h=>by
 have q:=zE (bits+m);have b1:=big_Q (z:=hi) hb (show hi<=2*Q (bits+m) by have:=h.hi;omega)
 have b2:=big_Q (z := -lo) hb (show -lo<=2*Q (bits+m) by have:=h.lo;omega)
 exact⟨h.le,h.wd,by omega,b1⟩
theorem LwPr.k {x:Nat->Rat} {B:Nat} {l u:Int} (h:LwPr x B l u):LkPr 89 x B l u:=⟨h.lo,h.le,h.hi,h.wd,h.iv⟩
structure LEnv (R R2:Nat->Rat) (L G:Rat->Nat->Rat) (X:Int->Int->Nat->Rat):Prop where
 r:zBJ piS R
 r2:zBJ (λ _=>(2:Rat)) R2
 g:zP1 L G X
theorem SE:∃ R R2 L G X,LEnv R R2 L G X:=by
 obtain⟨R,hR⟩:=piR_ex;obtain⟨R2,h2⟩:=rt2_ex;obtain⟨L,G,X,hE⟩:=genv_ex;exact⟨R,R2,L,G,X,hR,h2,hE⟩
def lbX (R R2:Nat->Rat) (L G:Rat->Nat->Rat) (k p q r s n d:Int):Nat->Rat :=
 if k=1 then noX R R2 p q r s n d else if k=2 then waX p q n d else if k=3 then gaX L G p q r s n d else if k=4 then beX L p q r s n d else if k=5 then stX L p q n d else if k=6 then coX p.toNat r s n d else raX p q n d
theorem law_2 {p q r s:Int} (h:yO 2 p q r s=0):rok p q/\0<p/\p<=100*q:=by
 obtain⟨_,a,b,c,d,e⟩:=zBY h;simp[yJ] at c;simp[zD7,zFN,kW] at d;exact⟨a,c,by omega⟩
theorem law_5 {p q r s:Int} (h:yO 5 p q r s=0):rok p q/\0<p/\p<=100*q:=by
 obtain⟨_,a,b,c,d,e⟩:=zBY h;simp[yJ] at c;simp[zD7,zFN,kW] at d;exact⟨a,c,by omega⟩
theorem law_7 {p q r s:Int} (h:yO 7 p q r s=0):rok p q/\0<p/\p<=100*q:=by
 obtain⟨_,a,b,c,d,e⟩:=zBY h;simp[yJ] at c;simp[zD7,zFN,kW] at d;exact⟨a,c,by omega⟩
theorem law_3 {p q r s:Int} (h:yO 3 p q r s=0):rok p q/\rok r s/\0<p/\p<=100*q/\0<r/\r<=100*s:=by
 obtain⟨_,a,b,c,d,e⟩:=zBY h;simp[yJ] at c;simp[zD7,zFN,kW] at d;exact⟨a,b,by omega,by omega,by omega,by omega⟩
theorem law_4 {p q r s:Int} (h:yO 4 p q r s=0):rok p q/\rok r s/\0<p/\p<=100*q/\0<r/\r<=100*s:=by
 obtain⟨_,a,b,c,d,e⟩:=zBY h;simp[yJ] at c;simp[zD7,zFN,kW] at d;exact⟨a,b,by omega,by omega,by omega,by omega⟩
theorem law_1 {p q r s:Int} (h:yO 1 p q r s=0):rok p q/\rok r s/\0<r/\r<=100*s:=by
 obtain⟨_,a,b,c,d,e⟩:=zBY h;simp[yJ] at c;simp[zD7,zFN,kW] at d;exact⟨a,b,by omega,by omega⟩
theorem law_6 {p q r s:Int} (h:yO 6 p q r s=0):rok r s/\q=1/\0<=p/\p<=100/\0<=r/\r<=s:=by
 obtain⟨_,a,b,c,d,e⟩:=zBY h;simp[yJ] at c;exact⟨b,by omega,by omega,by omega,by omega,by omega⟩
theorem BlX.via {F F':Nat} {ar OH:Array Value} {x:Nat->Rat} {b:Nat} (h:BlX F ar x b) (g:∀ (w:World) (Pr:Int->Int->Prop),(∀ w',Calls Tryz.prog F ar w' (BlG 30000 Pr w' b))->Calls Tryz.prog F' OH w (BlG 30000 Pr w b)):BlX F' OH x b:=by
 obtain⟨c,c1,c2⟩:=h;exact⟨c,c1,λ w=>(g w (λ l u=>l=c.1/\u=c.2) λ w'=>(c2 w').mono λ z gH k=>⟨_,_,⟨rfl,rfl⟩,k⟩).mono λ z w' ⟨l,u,⟨e1,e2⟩,k⟩=>by rw[e1,e2] at k;exact k⟩
theorem below_ex {R R2:Nat->Rat} {L G:Rat->Nat->Rat} {X:Int->Int->Nat->Rat} (hE:LEnv R R2 L G X) (k p q r s n d:Int) (b:Nat) (h0:yO k p q r s=0) (hk:k≠1) (hr:rok n d) (G7:40<=b) (hb:b<=400) :
  BlX 91 #[.agg #[.int .i64 k,.int .i64 p,.int .i64 q,.int .i64 r,.int .i64 s],.agg #[.int .i64 n,.int .i64 d],.int .i64 b] (lbX R R2 L G k p q r s n d) b:=by
 have k17:=(zBY h0).1;have d0:0<d:=by have:=hr.2.2.1;omega
 rcases (show k=2\/k=3\/k=4\/k=5\/k=6\/k=7 by omega) with rfl|rfl|rfl|rfl|rfl|rfl
 ·obtain⟨a,c,e⟩:=law_2 h0
  have ex:lbX R R2 L G 2 p q r s n d=waX p q n d:=by unfold lbX;rfl
  rw[ex];refine BlX.via ?_ λ w Pr h=>below_2 w p q r s n d b Pr h
  unfold waX
  by_cases hn:n<=0
  ·rw[if_pos hn];exact⟨_,zFL b,λ w=>lwait_no w 2 p q r s n d b (by omega) hn⟩
  ·rw[if_neg hn];exact lwait_iv 2 p q r s n d b G7 hb (by omega) a hr c e
 ·obtain⟨a,a2,c,e,f,g⟩:=law_3 h0
  have ex:lbX R R2 L G 3 p q r s n d=gaX L G p q r s n d:=by unfold lbX;rfl
  rw[ex];refine BlX.via ?_ λ w Pr h=>below_3 w p q r s n d b Pr h
  unfold gaX
  by_cases hn:n<=0
  ·rw[if_pos hn];exact⟨_,zFL b,λ w=>zR8 w 3 p q r s n d b (by omega) hn⟩
  ·rw[if_neg hn];exact zR7 L G X hE.g 3 p q r s n d b G7 hb (by omega) a hr a2 c e f
 ·obtain⟨a,a2,c,e,f,g⟩:=law_4 h0
  have ex:lbX R R2 L G 4 p q r s n d=beX L p q r s n d:=by unfold lbX;rfl
  rw[ex];refine BlX.via ?_ λ w Pr h=>below_4 w p q r s n d b Pr h
  unfold beX clX
  by_cases hn:n<=0
  ·have ez:bvX L p q r s 0 d=λ _=>0:=by unfold bvX;rw[if_pos rfl]
   rw[if_pos hn,ez];exact⟨_,zFL b,λ w=>lbeta_no w 4 p q r s n d b (by omega) hn⟩
  ·by_cases hd:d<=n
   ·have ez:bvX L p q r s d d=λ _=>1:=by unfold bvX;rw[if_neg (by omega),if_pos rfl]
    rw[if_neg hn,if_pos hd,ez];exact⟨(_,_),one_lw b,λ w=>zRW w 4 p q r s n d b hb hn hd⟩
   ·rw[if_neg hn,if_neg hd];exact lbeta_iv L G X hE.g 4 p q r s n d b G7 hb (by omega) (by omega) a hr a2 c e f g
 ·obtain⟨a,c,e⟩:=law_5 h0
  have ex:lbX R R2 L G 5 p q r s n d=stX L p q n d:=by unfold lbX;rfl
  rw[ex];refine BlX.via ?_ λ w Pr h=>below_5 w p q r s n d b Pr h
  by_cases hz:n=0
  ·unfold stX
   rw[if_pos (by omega)]
   refine⟨(_,_),(of_lw b (show (0:Int)<=1 by decide) (show (0:Int)<2 by decide) (by decide)).congr (null_zero.of_eq λ M=>?_),λ w=>zO7 w p q n d b hb hz⟩
   unfold stX0;have f0:=Int.mul_pos c (Int.mul_pos d0 d0)
   have ez:bvX L p (2*q) 1 2 (p*(d*d)) (p*(d*d)+q*(n*n))=λ _=>1:=by
    unfold bvX;rw[if_neg (by omega),if_pos (by rw[hz];simp)]
   rw[ez];grind
  ·exact lstud_iv L G X hE.g p q n d b G7 hb hz a hr c e
 ·obtain⟨a,c,e,f,g,i⟩:=law_6 h0
  have ex:lbX R R2 L G 6 p q r s n d=coX p.toNat r s n d:=by unfold lbX;rfl
  rw[ex];obtain⟨P,rfl⟩:∃ P:Nat,p=(P:Int):=⟨p.toNat,by omega⟩
  have eP:(P:Int).toNat=P:=by omega
  rw[eP];have s0:0<s:=by have:=a.2.2.1;omega
  have sp:0<s ^ P:=Int.pow_pos s0;have cb:=cnt_le (P:=P) g i (coN P n d) (by unfold coN;omega)
  exact⟨(_,_),of_lw b cb.1 sp cb.2,λ w=>(zLK q r s n d P (coN P n d) b w hr rfl (by omega) g i (by omega) a.2.2.2 (by omega)).mono λ z w' ⟨u,e1,e2,e3,e4⟩=>⟨u,e1,e2,e3.mono (by omega),e4⟩⟩
 ·obtain⟨a,c,e⟩:=law_7 h0
  have ex:lbX R R2 L G 7 p q r s n d=raX p q n d:=by unfold lbX;rfl
  rw[ex];refine BlX.via ?_ λ w Pr h=>below_7 w p q r s n d b Pr hr h
  by_cases hn:n/d<0
  ·refine⟨_,(zFL b).congr (null_zero.of_eq λ M=>?_),λ w=>lrare_no w p q (n/d) n d b (by omega) hn⟩
   unfold raX raN;rw[show (n/d+1).toNat=0 by omega]
   show (0:Rat)-0=0
   grind
  ·have hu:n/d<=1000000000:=by
    have:=hr.2.1;exact Int.le_trans (Int.ediv_le_ediv d0 (show n<=1048576 by omega)) (Int.le_trans (Int.ediv_le_self _ (by decide)) (by decide))
   exact lrare_iv p q (n/d) n d b a c e (by omega) hu rfl G7 hb
def lbE (k p q r s n d b:Int):Int:=if yO k p q r s=0 then zFO n d b else yO k p q r s
structure SuB (x:Nat->Rat) (b:Nat) (L H:Int):Prop where
 v:SuV x b L H
 lo:0<=L
 hi:H<=Q b
theorem su_b {b:Nat} {x:Nat->Rat} {Pr:Nat->Int->Int->Prop} {L H:Int} (h:zAI b Pr L H) (hp:∀ B lo hi,Pr B lo hi->0<=lo/\lo<=hi/\hi<=Q B/\Iv B (lo,hi) x):SuB x b L H:=by
 refine⟨sure_su h λ B lo hi p=>⟨(hp B lo hi p).2.1,(hp B lo hi p).2.2.2⟩,?_,?_⟩
 ·obtain⟨m,lo,hi,pr,hm,e1,e2,h6⟩:=h
  rw[e1];exact Int.ediv_nonneg (hp _ _ _ pr).1 (by have:=zE m;omega)
 ·obtain⟨m,lo,hi,pr,hm,e1,e2,h6⟩:=h
  obtain⟨p1,p2,p3,p4⟩:=hp _ _ _ pr;have q0:=zE m;have qb:=zE b;have e3:Q (b+m)=Q b*Q m:=jD b m;have r:=(jJ (x:=hi) (m:=Q b) (q:=Q m) (by omega) (by omega) (by omega)).2.2.2
  rw[e2];exact r
theorem lk_su {K b:Nat} {x:Nat->Rat} {L H:Int} (h:zAI b (LkPr K x) L H):SuB x b L H:=su_b h λ B lo hi p=>⟨p.lo,p.le,p.hi,p.iv⟩
theorem no_lk {E:Nat->Rat} {p:Int} {B:Nat} {s e:Int} (h:NoCore E B s e):LkPr 4500 (nrV E p) B (zER B p (s,e)).1 (zER B p (s,e)).2:=by
 obtain⟨c1,c2,c3,c4,c5⟩:=h;obtain⟨g1,g2,g3,g4⟩:=zSS (p:=p) (B:=B) c2 c3 c4 c5;exact⟨g2,g1,g3,g4,norI_iv c1⟩
end Go.Proofs.YtgmnknmjainabacGreat
