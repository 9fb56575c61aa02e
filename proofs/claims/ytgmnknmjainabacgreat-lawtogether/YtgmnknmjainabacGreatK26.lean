/-
  Its own texts.
-/
import Derived.Test.YtgmnknmjainabacGreatK25
set_option maxRecDepth 100000
set_option maxHeartbeats 40000000
set_option linter.unnecessarySimpa false
set_option linter.unusedSimpArgs false
set_option linter.unusedVariables false
namespace Go.Proofs.YtgmnknmjainabacGreat
open Go.RowKit
attribute [local go_sem ↓] Go.wp_at_zero Go.wp_at_succ
open Ex
theorem lw_half {x:Nat->Rat} {B:Nat} {l u:Int} (h:LwPr x B l u):LwPr (λ M=>(1:Int)/((2:Int):Rat)*x M) B (zK (l,u) 1 2).1 (zK (l,u) 1 2).2:=by
 have q:=zE B;have Lx:Q 89=2*Q 88:=rfl;have q88:=zJ (show 2<=88 by omega)
 have q2:Q 2=4:=rfl;have a:=h.lo;have b:=h.le;have c:=h.hi;have d:=h.wd;have e1:(zK (l,u) 1 2).1=l/2:=by show l*1/2=_;rw[Int.mul_one]
 have e2:(zK (l,u) 1 2).2 = -(-u/2):=by show -(-(u*1)/2)=_;rw[Int.mul_one]
 refine⟨by rw[e1];omega,by rw[e1,e2];omega,by rw[e2];omega,by rw[e1,e2];omega,?_⟩
 exact h.iv.scale (n:=1) (d:=2) (by decide) (by decide)
theorem zPL (w:World) (p q n d:Int) (b:Nat) (hb:b<=400) (hn:n=0) :
  Calls Tryz.prog 135 #[.agg #[.int .i64 p,.int .i64 q],.agg #[.int .i64 n,.int .i64 d],.int .i64 b] w (BlA (λ _=>(1:Int)/((2:Int):Rat)) w b):=by
 subst hn
 go_enter Tryz.func135,Tryz.ntmps135
 go_wp2_with fail;refine (zD 1 _ (by decide) (by decide)).mono ?_
 rintro r' w1 ⟨m7,a1,n1,c1,rfl,o8,b9⟩;have R:NoC w1 (w.heap.size+1+1):=NoC.bw ⟨by simp[go_sem],by simp[go_sem],by simp[go_sem],by simp[go_sem],by simp[go_sem],λ o=>by simp[go_sem]⟩ b9
 have hB:Below w.heap.size w w1:=zB (bl3 _ _ _ _) b9;clear b9;go_wp2_with fail;refine (zD 2 _ (by decide) (by decide)).mono ?_
 rintro r' w2 ⟨j7,a2,n2,c2,rfl,A5,j8⟩;replace R:=R.bw j8;replace hB:=zB hB j8;replace o8:=o8.bw j8;clear j8;go_wp2_with fail;refine (jI _ _ _ _ _ _ _ _ 4 4 b 1 2 _ o8 A5 (by omega) (by omega) (by decide)).mono ?_
 rintro r' w3 ⟨u,rfl,B8,B7,m8⟩;replace hB:=zB hB m8;obtain⟨q0,q1,q2,q3,q4,q5⟩:=R.bw m8;have G8:=zC B8;clear B8 m8 R;go_wp2_with fail;refine bodyPost_ret (v:=.agg u.q) (by simp[results,Tryz.results135,go_sem,q0,q1,q2,q3,q4]) rfl ⟨_,_,of_lw b (show (0:Int)<=1 by decide) (show (0:Int)<2 by decide) (by decide),u,rfl,zA G8,?_,?_⟩
 ·exact SpAt.put5 (SpAt.mono B7 (by omega)) q0 q1 q2 q3 q4 _ _ _ _ _
 ·exact jV hB (by omega) _ _ _ _ _
theorem lstud_iv (L G:Rat->Nat->Rat) (X:Int->Int->Nat->Rat) (hE:zLD L G X) (w:World) (p q n d:Int) (b:Nat) (E8:40<=b) (hb:b<=400) (hn:n≠0) (S8:rok p q) (P2:rok n d) (hp:0<p) (I8:p<=100*q) :
  Calls Tryz.prog 135 #[.agg #[.int .i64 p,.int .i64 q],.agg #[.int .i64 n,.int .i64 d],.int .i64 b] w (BlA (stX L p q n d) w b):=by
 obtain⟨a1,a2,a3,a4⟩:=S8;obtain⟨c1,c2,c3,c4⟩:=P2;have PS:=Int.mul_pos (show 0<d by omega) (show 0<d by omega)
 have dd:=Int.mul_le_mul c4 c4 (by omega) (by omega)
 obtain⟨SP,nn⟩:=sq_bd c1 c2;have f0:=Int.mul_pos hp PS;have f1:=Int.mul_le_mul (show p<=102400 by omega) dd (by omega) (by omega)
 have s0:=Yz (show 0<=q by omega) SP
 have s1:=Int.mul_le_mul a4 nn (by omega) (by omega)
 have AR:=zC (show BpAr p (2*q) 1 2 (p*(d*d)) ((p*(d*d))+(q*(n*n))) b from⟨hp,by omega,by omega,by omega,by decide,by decide,by decide,by decide,by omega,by omega,by omega,by omega,E8,hb⟩)
 have T7:=zC (show IntKind.i64.wrap (d*d)=d*d from jH _ (by omega) (by omega))
 have ag:=zC (show IntKind.i64.wrap (n*n)=n*n from jH _ (by omega) (by omega))
 have dK:=zC (show IntKind.i64.wrap (2*q)=2*q from jH _ (by omega) (by omega))
 have gR:=zC (show -9223372036854775808<=d*d/\d*d<=9223372036854775807 from⟨by omega,by omega⟩)
 have pS:=zC (show -9223372036854775808<=n*n/\n*n<=9223372036854775807 from⟨by omega,by omega⟩)
 have HF:=zC (show (-P 4<(p*(d*d))/\(p*(d*d))<P 4) /\ -P 4<(p*(d*d))+(q*(n*n))/\(p*(d*d))+(q*(n*n))<P 4 by
  have:P 4=18446744073709551616:=rfl
  exact⟨⟨by omega,by omega⟩,by omega,by omega⟩)
 have dt:¬ n=0:=by omega
 have iA:(n == 0)=false:=by simp[dt]
 clear PS dd SP nn f0 f1 s0 s1 hp I8;obtain⟨W,hW⟩:∃ W,W=((w.alloc (.cells #[.int .i64 p,.int .i64 q] 23)).alloc (.cells #[.int .i64 n,.int .i64 d] 23)).alloc (.cells zCq 31):=⟨_,rfl⟩;have j6:Below w.heap.size w W:=by rw[hW];exact bl3 _ _ _ _
 have A:RaC W (w.heap.size) p q:=by rw[hW];constructor<;>simp[go_sem]
 have D:RaC W (w.heap.size+1) n d:=by rw[hW];constructor<;>simp[go_sem]
 have R:NoC W (w.heap.size+1+1):=by rw[hW];constructor<;>simp[go_sem]
 have lA:=A.lt;have lD:=D.lt;have lR:=R.lt;have HK:=zC (show ∀ w',Below W.heap.size W w'->(rK w' w.heap.size p q (rK0 w' ((w.heap.size+1)) n d)) from λ w' hB=>⟨(A.bw hB).c0,(A.bw hB).c1,(D.bw hB).c0,(D.bw hB).c1⟩)
 go_enter Tryz.func135,Tryz.ntmps135
 go_wp2;rw[<- hW];clear hW;obtain⟨x0,x1,x2,x3⟩:=zA HK _ (Below.refl _ _)
 try go_wp2_with fail
 go_cut [7] (λ pz wx=>∃ (B:Nat) (u:Nm),pz=.pointer (some ⟨B,0,none⟩)/\W.heap.size<=B/\NmC wx B u/\IntAt wx u.neg u.a u.n u.cap 8 (p*(d*d))/\Below W.heap.size W wx)
 case first =>
  go_region_held3 (λ w'=>rK w' w.heap.size p q (rK0 w' ((w.heap.size+1)) n d)) (exact zA HK _ (by repeat' (first|with_reducible exact sQ|with_reducible exact kg|with_reducible exact kf|with_reducible exact Below.refl _ _|with_reducible refine Below.drew ?_|with_reducible refine zL ?_ _|with_reducible refine Below.setCell ?_ (by first|exact Yy _|exact vN|exact vO|exact vP) _)))
   (first
    | (go_at_call 83;have hq:=kg;refine (zV _ _ _ _ _ _ _ _ 4 4 p (d*d) _ (lM.bw (by with_reducible first|exact Below.refl _ _|exact bl1 _ _)) (tH.bw (by with_reducible first|exact Below.refl _ _|exact bl1 _ _)) (by omega) (by omega)).mono ?_;rintro r To ⟨rS,Pw,SC,PJ,rfl,JF,tP⟩;have lf:Below Gd.heap.size Gd To:=(by with_reducible first|exact tP|exact zB (bl1 _ _) tP);have sQ:=zB kg lf;(try with_reducible have Ql:=(kB Gd 29).bw tP);replace lM:=lM.bw lf;(try replace zh:=zh.bw lf);replace tH:=tH.bw lf;(try replace Fg:=Fg.bw lf);have vP:=sQ.size;(try have mF1:=zh.lt);(try obtain⟨LX,LY,zF1f⟩:=zh);(try have mF2:=Fg.lt);(try obtain⟨LZ,Ma,zF2f⟩:=Fg);(try have mF3:=Ql.lt);(try obtain⟨Mb,Mc,zF3f⟩:=Ql))
    | (go_at_call 33;have hq:=kf;(try rw[zA T7]);refine (zD (d*d) _ (zA gR).1 (zA gR).2).mono ?_;rintro r Gd ⟨SL,aF2,nF2,cF2,rfl,tH,tO⟩;have tk:Below Gc.heap.size Gc Gd:=(by with_reducible first|exact tO|exact zB (bl1 _ _) tO);have kg:=zB kf tk;(try with_reducible have Fg:=(kB Gc 29).bw tO);replace lM:=lM.bw tk;(try replace zh:=zh.bw tk);have vO:=kg.size)
    | (go_at_call 33;refine (zD p _ (by omega) (by omega)).mono ?_;rintro r Gc ⟨SK,aF1,nF1,cF1,rfl,lM,tN⟩;have kf:Below W.heap.size W Gc:=(by with_reducible first|exact zB (Below.refl _ _).drew tN|exact zB (bl1 _ _).drew tN);(try with_reducible have zh:=((kB W 29).bw (Below.refl _ _).drew).bw tN);have vN:=kf.size))
  all_goals
   have hfinF:IntAt To rS Pw SC PJ 8 (p*(d*d)):=JF.mono (by omega)
   go_wp2_with fail;go_meet;refine⟨_,⟨rS,Pw,SC,PJ⟩,rfl,?_,⟨?_,?_⟩,?_,?_⟩
   ·first|exact Yy _|exact vN|exact vO|exact vP
   ·simp[go_sem, *]
   ·simp[go_sem, *]
   ·first|with_reducible exact hfinF.put2 Mb Mc _ _|with_reducible exact hfinF.put2 LZ Ma _ _|with_reducible exact hfinF.put2 LX LY _ _|with_reducible exact hfinF.bw (bl1 _ _)
   ·repeat' (first|with_reducible exact sQ|with_reducible exact kg|with_reducible exact kf|with_reducible exact Below.refl _ _|with_reducible refine Below.drew ?_|with_reducible refine zL ?_ _|with_reducible refine Below.setCell ?_ (by first|exact Yy _|exact vN|exact vO|exact vP) _)
 case rest =>
 obtain⟨BF,xF,rfl,hHF,XF,hpF,hblF⟩:=hcut;replace A:=A.bw hblF;replace D:=D.bw hblF;replace R:=R.bw hblF;replace j6:=zB j6 hblF;obtain⟨V1,Q3⟩:∃ V,V=wc:=⟨_,rfl⟩;subst Q3;have lF:=XF.lt;have RT:=A.lt;have lD1:=D.lt;have rO:=R.lt;have AW:=zC (hpF.fits (zA HF).1.1 (zA HF).1.2);have nG:=zC (show ∀ w',Below V1.heap.size V1 w'->(rK w' w.heap.size p q (rK0 w' ((w.heap.size+1)) n d)) from λ w' hB=>⟨(A.bw hB).c0,(A.bw hB).c1,(D.bw hB).c0,(D.bw hB).c1⟩)
 clear hpF hblF HK x0 x1 x2 x3;obtain⟨x0,x1,x2,x3⟩:=zA nG _ (Below.refl _ _);go_wp2_with fail
 go_cut [8] (λ pz wx=>∃ (B:Nat) (u:Nm),pz=.pointer (some ⟨B,0,none⟩)/\V1.heap.size<=B/\NmC wx B u/\IntAt wx u.neg u.a u.n u.cap 8 (q*(n*n))/\Below V1.heap.size V1 wx)
 case first =>
  go_region_held3 (λ w'=>rK w' w.heap.size p q (rK0 w' ((w.heap.size+1)) n d)) (exact zA nG _ (by repeat' (first|with_reducible exact ak|with_reducible exact K9|with_reducible exact I5|with_reducible exact Below.refl _ _|with_reducible refine Below.drew ?_|with_reducible refine zL ?_ _|with_reducible refine Below.setCell ?_ (by first|exact Yy _|exact S4|exact S5|exact fI) _)))
   (first
    | (go_at_call 83;have hq:=K9;refine (zV _ _ _ _ _ _ _ _ 4 4 q (n*n) _ (K3.bw (by with_reducible first|exact Below.refl _ _|exact bl1 _ _)) (W6.bw (by with_reducible first|exact Below.refl _ _|exact bl1 _ _)) (by omega) (by omega)).mono ?_;rintro r xe ⟨rT,Px,SE,PL,rfl,mg,eX⟩;have ar:Below fV.heap.size fV xe:=(by with_reducible first|exact eX|exact zB (bl1 _ _) eX);have ak:=zB K9 ar;(try with_reducible have sM:=(kB fV 29).bw eX);replace K3:=K3.bw ar;(try replace Y8:=Y8.bw ar);replace W6:=W6.bw ar;(try replace cS:=cS.bw ar);have fI:=ak.size;(try have pA:=Y8.lt);(try obtain⟨fX,fY,zS1f⟩:=Y8);(try have pC:=cS.lt);(try obtain⟨fZ,gf,zS2f⟩:=cS);(try have Lj:=sM.lt);(try obtain⟨xT,xV,zS3f⟩:=sM))
    | (go_at_call 33;have hq:=I5;(try rw[zA ag]);refine (zD (n*n) _ (zA pS).1 (zA pS).2).mono ?_;rintro r fV ⟨DY,Wb,nS2,Wy,rfl,W6,Q9⟩;have W5:Below cr.heap.size cr fV:=(by with_reducible first|exact Q9|exact zB (bl1 _ _) Q9);have K9:=zB I5 W5;(try with_reducible have cS:=(kB cr 29).bw Q9);replace K3:=K3.bw W5;(try replace Y8:=Y8.bw W5);have S5:=K9.size)
    | (go_at_call 33;refine (zD q _ (by omega) (by omega)).mono ?_;rintro r cr ⟨DX,Wa,nS1,Wx,rfl,K3,Q8⟩;have I5:Below V1.heap.size V1 cr:=(by with_reducible first|exact zB (Below.refl _ _).drew Q8|exact zB (bl1 _ _).drew Q8);(try with_reducible have Y8:=((kB V1 29).bw (Below.refl _ _).drew).bw Q8);have S4:=I5.size))
  all_goals
   have hfinS:IntAt xe rT Px SE PL 8 (q*(n*n)):=mg.mono (by omega)
   go_wp2_with fail;go_meet;refine⟨_,⟨rT,Px,SE,PL⟩,rfl,?_,⟨?_,?_⟩,?_,?_⟩
   ·first|exact Yy _|exact S4|exact S5|exact fI
   ·simp[go_sem, *]
   ·simp[go_sem, *]
   ·first|with_reducible exact hfinS.put2 xT xV _ _|with_reducible exact hfinS.put2 fZ gf _ _|with_reducible exact hfinS.put2 fX fY _ _|with_reducible exact hfinS.bw (bl1 _ _)
   ·repeat' (first|with_reducible exact ak|with_reducible exact K9|with_reducible exact I5|with_reducible exact Below.refl _ _|with_reducible refine Below.drew ?_|with_reducible refine zL ?_ _|with_reducible refine Below.setCell ?_ (by first|exact Yy _|exact S4|exact S5|exact fI) _)
 case rest =>
 obtain⟨BS,xS,rfl,zm,XS,hpS,hblS⟩:=hcut;replace A:=A.bw hblS;replace D:=D.bw hblS;replace R:=R.bw hblS;replace XF:=XF.bw hblS;replace AW:=zC ((zA AW).bw hblS);replace j6:=zB j6 hblS;have Pf:=zC hpS;obtain⟨V2,aR⟩:∃ V,V=wc:=⟨_,rfl⟩;subst aR;have lS:=XS.lt;have lF1:=XF.lt;have FO:=A.lt;have Ld:=D.lt;have Z6:=R.lt;have gP:=zC (show ∀ w',Below V2.heap.size V2 w'->(rK w' w.heap.size p q (rK w' ((w.heap.size+1)) n d (nK w' BF xF (nK0 w' BS xS)))) from λ w' hB=>⟨(A.bw hB).c0,(A.bw hB).c1,(D.bw hB).c0,(D.bw hB).c1,(XF.bw hB).c0,(XF.bw hB).c1,(XS.bw hB).c0,(XS.bw hB).c1⟩)
 clear hpS hblS nG x0 x1 x2 x3;obtain⟨x0,x1,x2,x3,x4,x5,x6,x7⟩:=zA gP _ (Below.refl _ _);go_wp2_with fail
 go_cut [9] (λ pz wx=>∃ (B:Nat) (u:Sp) (lo hi:Int),pz=.pointer (some ⟨B,0,none⟩)/\LwPr (bvX L p (2*q) 1 2 (p*(d*d)) ((p*(d*d))+(q*(n*n)))) b lo hi/\V2.heap.size<=B/\VrC wx B u/\SpAt wx u 75 (zK (lo,hi) 1 2).1 (zK (lo,hi) 1 2).2/\u.bits=(b:Int)/\Below V2.heap.size V2 wx)
 case first =>
  go_region_held3 (λ w'=>rK w' w.heap.size p q (rK w' ((w.heap.size+1)) n d (nK w' BF xF (nK0 w' BS xS)))) (exact zA gP _ (by repeat' (first|with_reducible exact sR|with_reducible exact ki|with_reducible exact dS|with_reducible exact Below.refl _ _|with_reducible refine Below.drew ?_|with_reducible refine zL ?_ _|with_reducible refine Below.setCell ?_ (by first|exact Yy _|exact vQ|exact vR|exact vS) _)))
   (first
    | (go_at_call 123;have hq:=ki;refine (zIY _ vH2 61 b 2 (lo,hi) (JG.bw (by with_reducible first|exact Below.refl _ _|exact bl1 _ _)) (by omega) (zA Bb) (by omega) (by omega)).mono ?_;rintro r Tq ⟨Ta,rfl,rf,JH,tS⟩;have Bc:=zC rf;clear rf;have oJ:Below Gf.heap.size Gf Tq:=(by with_reducible first|exact tS|exact zB (bl1 _ _) tS);have sR:=zB ki oJ;(try with_reducible have Qm:=(zQ Gf 31).bw tS);replace lQ:=lQ.bw oJ;(try replace zi:=zi.bw oJ);(try replace Fh:=Fh.bw oJ);have vS:=sR.size;(try have Sb:=zi.lt);(try have eH1:=YD Sb);(try have WT:=YC Sb);(try obtain⟨Md,Me,Mf,Mg,Mh,zH15⟩:=zi);(try have Sc:=Fh.lt);(try have eH2:=YD Sc);(try have WV:=YC Sc);(try obtain⟨Mi,Mj,Mk,Ml,Mm,zH25⟩:=Fh);(try have Sd:=Qm.lt);(try have eH3:=YD Sd);(try have WW:=YC Sd);(try obtain⟨Mn,Mo,Mp,Mq,Mr,zH35⟩:=Qm))
    | (go_at_call 160;(try rw[zA dK]);have hq:=dS;refine (zTR L G X hE _ xF ⟨DW,VZ,nH1,Ww⟩ p (2*q) 1 2 (p*(d*d)) ((p*(d*d))+(q*(n*n))) b ((zA AW).bw (by with_reducible first|exact dS|exact zL dS _)) ((lQ.bw (by with_reducible first|exact Below.refl _ _|exact bl1 _ _)).fits (zA HF).2.1 (zA HF).2.2) (zA AR)).mono ?_;rintro r' Gf ⟨lo,hi,I9,vH2,rfl,qZ,JG,tR⟩;have Bb:=zC qZ;have M9:=zC I9.pr;clear qZ I9;have tq:Below Ge.heap.size Ge Gf:=(by with_reducible first|exact tR|exact zB (bl1 _ _) tR);have ki:=zB dS tq;(try with_reducible have Fh:=(zQ Ge 31).bw tR);replace lQ:=lQ.bw tq;(try replace zi:=zi.bw tq);have vR:=ki.size)
    | (go_at_call 32;refine (zA3 _ _ _ _ _ _ _ _ 4 8 (p*(d*d)) (q*(n*n)) _ ((zA AW).bw (by with_reducible first|exact (Below.refl _ _).drew|exact (bl1 _ _).drew)) ((zA Pf).bw (by with_reducible first|exact (Below.refl _ _).drew|exact (bl1 _ _).drew)) (by omega) (by omega)).mono ?_;rintro r Ge ⟨DW,VZ,nH1,Ww,rfl,lQ,tQ⟩;have dS:Below V2.heap.size V2 Ge:=(by with_reducible first|exact zB (Below.refl _ _).drew tQ|exact zB (bl1 _ _).drew tQ);(try with_reducible have zi:=((zQ V2 31).bw (Below.refl _ _).drew).bw tQ);have vQ:=dS.size))
  all_goals
   have hfinH:SpAt Tq Ta 75 (zK (lo,hi) 1 2).1 (zK (lo,hi) 1 2).2:=JH;go_wp2_with fail;go_meet;refine⟨_,Ta,lo,hi,rfl,zA M9,?_,⟨⟨?_,?_,?_,?_,?_⟩,?_⟩,?_,zA Bc,?_⟩
   ·first|exact Yy _|exact vQ|exact vR|exact vS
   ·simp[go_sem, *]
   ·simp[go_sem, *]
   ·simp[go_sem, *]
   ·simp[go_sem, *]
   ·simp[go_sem, *]
   ·intro o;simp[go_sem, *]
   ·first|with_reducible exact SpAt.put5 hfinH Mn Mo Mp Mq Mr _ _ _ _ _|with_reducible exact SpAt.put5 hfinH Mi Mj Mk Ml Mm _ _ _ _ _|with_reducible exact SpAt.put5 hfinH Md Me Mf Mg Mh _ _ _ _ _|with_reducible exact hfinH.bw (bl1 _ _)
   ·repeat' (first|with_reducible exact sR|with_reducible exact ki|with_reducible exact dS|with_reducible exact Below.refl _ _|with_reducible refine Below.drew ?_|with_reducible refine zL ?_ _|with_reducible refine Below.setCell ?_ (by first|exact Yy _|exact vQ|exact vR|exact vS) _)
 case rest =>
 obtain⟨BH,xH,lo,hi,rfl,I9,hHH,XH,hpH,hxbH,hblH⟩:=hcut;replace D:=D.bw hblH;replace R:=R.bw hblH;replace j6:=zB j6 hblH;obtain⟨V3,I0⟩:∃ V,V=wc:=⟨_,rfl⟩;subst I0;have hf:=lw_half I9;have lH:=XH.lt;have lD3:=D.lt;have iE:=R.lt;have nRH:w.heap.size+1+1<BH:=by omega
 have M9:=zC hf;have Pe:=zC hpH;have OL:=zC hxbH;obtain⟨⟨y0,y1,y2,y3,y4⟩,y5⟩:=XH;obtain⟨d0,d1⟩:=D;clear hf I9 hpH hxbH hblH gP x0 x1 x2 x3 x4 x5 x6 x7 AW Pf XF XS A
 by_cases aT:n<0
 ·have ex:stX L p q n d=stX0 L p q n d:=by unfold stX;rw[if_pos (by omega)]
  have GZ:=zC (show LwPr (stX L p q n d) b (zK (lo,hi) 1 2).1 (zK (lo,hi) 1 2).2 by rw[ex];exact zA M9)
  clear ex;obtain⟨q0,q1,q2,q3,q4,q5⟩:=R;go_wp2_with fail;refine bodyPost_ret (v:=.agg xH.q) (by simp[results,Tryz.results135,go_sem,q0,q1,q2,q3,q4]) rfl ⟨_,_,zA GZ,xH,rfl,zA OL,?_,?_⟩
  ·exact SpAt.put5 (SpAt.mono (zA Pe) (by omega)) q0 q1 q2 q3 q4 _ _ _ _ _
  ·exact jV j6 (by omega) _ _ _ _ _
 ·have ex:stX L p q n d=λ M=>1-stX0 L p q n d M:=by unfold stX;rw[if_neg (by omega)]
  have GZ:=zC (show LwPr (stX L p q n d) b (zBE b (zK (lo,hi) 1 2)).1 (zBE b (zK (lo,hi) 1 2)).2 by rw[ex];exact zS5 (zA M9))
  clear ex;go_wp2_with fail;refine (zE0 _ xH 75 b (zK (lo,hi) 1 2) (zA Pe) (zA OL) (by omega) (by omega) (by omega)).mono ?_
  rintro r' w4 ⟨u,rfl,B8,B7,p9⟩;obtain⟨q0,q1,q2,q3,q4,q5⟩:=R.bw p9;replace j6:=zB j6 p9;have G8:=zC B8;clear B8 p9;go_wp2_with fail;refine bodyPost_ret (v:=.agg u.q) (by simp[results,Tryz.results135,go_sem,q0,q1,q2,q3,q4]) rfl ⟨_,_,zA GZ,u,rfl,zA G8,?_,?_⟩
  ·exact SpAt.put5 (SpAt.mono B7 (by omega)) q0 q1 q2 q3 q4 _ _ _ _ _
  ·exact jV j6 (by omega) _ _ _ _ _
theorem P250_big {b:Nat} (hb:b<=120):2*Q b<P 250:=by
 rw[<- Q_P];have h2:Q (b+1)=2*Q b:=rfl;have h3:Q (b+2)=2*Q (b+1):=rfl;have:=zJ (show b+2<=16*250 by omega)
 have:=zE b;omega
theorem wnor_iv (w:World) (x y:Nm) (p q:Int) (b:Nat) (s e:Int) (hx:IntAt w x.neg x.a x.n x.cap 4 p) (hy:IntAt w y.neg y.a y.n y.cap 4 q) (hr:wrok p q) (E8:40<=b) (hb:b<=10000) (hE:ErfN (p*p) (q*q*2) b s e) :
  Calls Tryz.prog 158 #[.agg x.q,.agg y.q,.int .i64 b] w (zH w b 3020 (zFI b p (s,e)).1 (zFI b p (s,e)).2):=by
 obtain⟨W,hW⟩:∃ W,W=((w.alloc (.cells x.q 29)).alloc (.cells y.q 29)).alloc (.cells zCq 31):=⟨_,rfl⟩;have j6:Below w.heap.size w W:=by rw[hW];exact bl3 _ _ _ _
 have X:NmC W w.heap.size x:=by rw[hW];constructor<;>simp[go_sem]
 have Y:NmC W (w.heap.size+1) y:=by rw[hW];constructor<;>simp[go_sem]
 have R:NoC W (w.heap.size+1+1):=by rw[hW];constructor<;>simp[go_sem]
 obtain⟨r1,r2,r3,r4⟩:=hr;obtain⟨a1,a2⟩:=sq_bw (p:=q) (K:=137438953472) (by omega) (by omega)
 have HX:=zC (hx.bw j6);have HY:=zC (hy.bw j6)
 have Pj:=zC (show -P 8<2*(q*q)/\2*(q*q)<P 8 by
  have:P 8=340282366920938463463374607431768211456:=rfl
  exact⟨by omega,by omega⟩)
 have HE:=zC (show ErfN (p*p) (2*(q*q)) b s e by
  have e2:q*q*2=2*(q*q):=by omega
  rw[e2] at hE;exact hE)
 have lX:=X.lt;have lY:=Y.lt;have lR:=R.lt;have HK:=zC (show ∀ w',Below W.heap.size W w'->(nK w' w.heap.size x (nK0 w' ((w.heap.size+1)) y)) from λ w' hB=>⟨(X.bw hB).c0,(X.bw hB).c1,(Y.bw hB).c0,(Y.bw hB).c1⟩)
 clear hE hx hy a1 a2 r1 r2 r3 r4 X Y
 go_enter Tryz.func158,Tryz.ntmps158
 go_wp2;rw[<- hW];clear hW lR
 go_cut [7] (λ p wx=>∃ (B:Nat) (u:Sp),p=.pointer (some ⟨B,0,none⟩)/\W.heap.size<=B/\VrC wx B u/\SpAt wx u 3000 (((s,e):Int × Int)).1 (((s,e):Int × Int)).2/\u.bits=(b:Int)/\Below W.heap.size W wx)
 case first =>
  go_region_held3 (λ w'=>nK w' w.heap.size x (nK0 w' ((w.heap.size+1)) y)) (exact zA HK _ (by repeat' (first|with_reducible exact sW|with_reducible exact bM|with_reducible exact L8|with_reducible exact G6|with_reducible exact Below.refl _ _|with_reducible refine Below.drew ?_|with_reducible refine zL ?_ _|with_reducible refine Below.setCell ?_ (by first|exact Yy _|exact S6|exact S7|exact fJ|exact wB) _)))
   (first
    | (go_at_call 178;have hq:=bM;refine (zA HE _ ⟨bo,zd,Ax,ze⟩ ⟨DZ,Wc,nU3,Wz⟩ (J7.bw (by with_reducible first|exact Below.refl _ _|exact bl1 _ _)) ((mh.bw (by with_reducible first|exact Below.refl _ _|exact bl1 _ _)).fits (zA Pj).1 (zA Pj).2)).mono ?_;rintro r Tv ⟨Th,rfl,rA,JL,vg⟩;have Bl:=zC rA;clear rA;have eo:Below xg.heap.size xg Tv:=(by with_reducible first|exact vg|exact zB (bl1 _ _) vg);have sW:=zB bM eo;(try with_reducible have Qr:=(zQ xg 31).bw vg);replace J7:=J7.bw eo;(try replace Y9:=Y9.bw eo);replace T5:=T5.bw eo;(try replace cT:=cT.bw eo);replace mh:=mh.bw eo;(try replace sN:=sN.bw eo);have wB:=sW.size;(try have pE:=Y9.lt);(try have PY:=YD pE);(try have BR:=YC pE);(try obtain⟨nv,nw,xW,ya,yc,Eo⟩:=Y9);(try have pF:=cT.lt);(try have PZ:=YD pF);(try have BT:=YC pF);(try obtain⟨ny,nD,yd,ye,yg,Ep⟩:=cT);(try have DK:=sN.lt);(try have Xj:=YD DK);(try have Iq:=YC DK);(try obtain⟨Er,Es,Et,Ew,Ey,Nv⟩:=sN);(try have Sm:=Qr.lt);(try have eU4:=YD Sm);(try have Xl:=YC Sm);(try obtain⟨Nw,Nx,Ny,Nz,NA,zU45⟩:=Qr))
    | (go_at_call 116;have hq:=L8;refine (zU1 _ _ _ _ 8 (q*q) _ (T5.bw (by with_reducible first|exact Below.refl _ _|exact bl1 _ _)) (by omega)).mono ?_;rintro r xg ⟨DZ,Wc,nU3,Wz,rfl,mh,eZ⟩;have av:Below fW.heap.size fW xg:=(by with_reducible first|exact eZ|exact zB (bl1 _ _) eZ);have bM:=zB L8 av;(try with_reducible have sN:=(zQ fW 31).bw eZ);replace J7:=J7.bw av;(try replace Y9:=Y9.bw av);replace T5:=T5.bw av;(try replace cT:=cT.bw av);have fJ:=bM.size)
    | (go_at_call 83;have hq:=G6;refine (zV _ _ _ _ _ _ _ _ 4 4 q q _ ((zA HY).bw (by with_reducible first|exact G6|exact zL G6 _)) ((zA HY).bw (by with_reducible first|exact G6|exact zL G6 _)) (by omega) (by omega)).mono ?_;rintro r fW ⟨aQ,sG,wX,sH,rfl,T5,R6⟩;have Q2:Below ct.heap.size ct fW:=(by with_reducible first|exact R6|exact zB (bl1 _ _) R6);have L8:=zB G6 Q2;(try with_reducible have cT:=(zQ ct 31).bw R6);replace J7:=J7.bw Q2;(try replace Y9:=Y9.bw Q2);have S7:=L8.size)
    | (go_at_call 83;refine (zV _ _ _ _ _ _ _ _ 4 4 p p _ ((zA HX).bw (by with_reducible first|exact (Below.refl _ _).drew|exact (bl1 _ _).drew)) ((zA HX).bw (by with_reducible first|exact (Below.refl _ _).drew|exact (bl1 _ _).drew)) (by omega) (by omega)).mono ?_;rintro r ct ⟨bo,zd,Ax,ze,rfl,J7,R0⟩;have G6:Below W.heap.size W ct:=(by with_reducible first|exact zB (Below.refl _ _).drew R0|exact zB (bl1 _ _).drew R0);(try with_reducible have Y9:=((zQ W 31).bw (Below.refl _ _).drew).bw R0);have S6:=G6.size))
  all_goals
   have hfinU:SpAt Tv Th 3000 (((s,e):Int × Int)).1 (((s,e):Int × Int)).2:=JL;go_wp2_with fail;go_meet;refine⟨_,Th,rfl,?_,⟨⟨?_,?_,?_,?_,?_⟩,?_⟩,?_,zA Bl,?_⟩
   ·first|exact Yy _|exact S6|exact S7|exact fJ|exact wB
   ·simp[go_sem, *]
   ·simp[go_sem, *]
   ·simp[go_sem, *]
   ·simp[go_sem, *]
   ·simp[go_sem, *]
   ·intro o;simp[go_sem, *]
   ·first|with_reducible exact SpAt.put5 hfinU Nw Nx Ny Nz NA _ _ _ _ _|with_reducible exact SpAt.put5 hfinU Er Es Et Ew Ey _ _ _ _ _|with_reducible exact SpAt.put5 hfinU ny nD yd ye yg _ _ _ _ _|with_reducible exact SpAt.put5 hfinU nv nw xW ya yc _ _ _ _ _|with_reducible exact hfinU.bw (bl1 _ _)
   ·repeat' (first|with_reducible exact sW|with_reducible exact bM|with_reducible exact L8|with_reducible exact G6|with_reducible exact Below.refl _ _|with_reducible refine Below.drew ?_|with_reducible refine zL ?_ _|with_reducible refine Below.setCell ?_ (by first|exact Yy _|exact S6|exact S7|exact fJ|exact wB) _)
 case rest =>
 obtain⟨BU,xU,rfl,Cp,XU,hpU,hxbU,hblU⟩:=hcut;have lR:=R.lt;replace R:=R.bw hblU;replace HX:=zC ((zA HX).bw hblU);replace j6:=zB j6 hblU;obtain⟨x0,x1,x2,x3⟩:=zA HK _ hblU;have nRU:w.heap.size+1+1<BU:=by omega
 have Z6:=R.lt;have Le:w.heap.size<wc.heap.size:=by omega
 have oH:=zC hxbU;have cE:=zC hpU;clear hxbU hpU HK hblU;go_wp2_with fail;refine (zBG _ _ _ _ 4 p _ (zA HX)).mono ?_;rintro r w1 ⟨rfl,b9⟩;replace R:=R.bw b9;replace XU:=XU.bw b9;replace cE:=zC ((zA cE).bw b9);replace j6:=zB j6 b9;clear b9 x0 x1 x2 x3 HX;have lU:=XU.lt;have iE:=R.lt;obtain⟨⟨y0,y1,y2,y3,y4⟩,y5⟩:=XU
 by_cases hp:0<p
 ·have cp:0<zM p 0:=cmp_gt hp
  have GH:=zC (show zFI b p (s,e)=zK (zBE b (-e,-s)) 1 2 by unfold zFI oppP;rw[if_pos hp])
  go_wp2_with fail;refine (zDF _ xU 3000 _ _ (zA cE) (by omega)).mono ?_
  rintro r w3 ⟨t,rfl,I2,K5,m8⟩;have EZ:VrC w3 BU xU:=VrC.bw ⟨⟨y0,y1,y2,y3,y4⟩,y5⟩ m8;replace R:=R.bw m8;replace j6:=zB j6 m8;have HT:=zC (I2.trans (zA oH));clear I2 y0 y1 y2 y3 y4 y5 m8 cE lU iE;have lU:=EZ.lt;have iE:=R.lt;obtain⟨V3,I0⟩:∃ V3,V3=yY w3 BU t:=⟨_,rfl⟩;have X3:VrC V3 BU t:=by rw[I0];exact EZ.put t
  have P3:SpAt V3 t 3000 (-e) (-s):=by rw[I0];exact K5.put EZ.c t
  have R3:NoC V3 (w.heap.size+1+1):=by rw[I0];exact R.off (by omega) t
  have B3:Below w.heap.size w V3:=by rw[I0];exact zAW j6 (by omega) t
  obtain⟨⟨y0,y1,y2,y3,y4⟩,y5⟩:=EZ;clear K5 j6 R;have z0:V3.cell? ⟨BU,0,none⟩=some (.bool t.ln):=X3.c.c0;have z1:V3.cell? ⟨BU,1,none⟩=some (.slice t.la t.lN t.lc):=X3.c.c1;have z2:V3.cell? ⟨BU,2,none⟩=some (.bool t.hn):=X3.c.c2;have z3:V3.cell? ⟨BU,3,none⟩=some (.slice t.ha t.hN t.hc):=X3.c.c3;have z4:V3.cell? ⟨BU,4,none⟩=some (.int .i64 t.bits):=X3.c.c4;go_wp2_with fail;have Q4:V3=yY w3 BU t:=I0;unfold yY at Q4;rw[<- Q4];clear Q4 I0 y0 y1 y2 y3 y4 y5
  (try go_wp2_with fail)
  refine (zE0 _ t 3000 b (-e,-s) P3 (zA HT) (by omega) (by omega) (by omega)).mono ?_
  rintro r w4 ⟨v,rfl,J8,J6,p9⟩;replace R3:=R3.bw p9;replace B3:=zB B3 p9;have HV:=zC J8;clear J8 p9;go_wp2_with fail;refine (zIY _ v 3001 b 2 _ J6 (by omega) (zA HV) (by omega) (by omega)).mono ?_
  rintro r w5 ⟨o,rfl,Df,wQ,D8⟩;rw[<- zA GH] at wQ;obtain⟨q0,q1,q2,q3,q4,q5⟩:=R3.bw D8;replace B3:=zB B3 D8;have HO:=zC Df;clear Df;go_wp2_with fail;refine bodyPost_ret (v:=.agg o.q) (by simp[results,Tryz.results158,go_sem,q0,q1,q2,q3,q4]) rfl ⟨o,rfl,zA HO,?_,?_⟩
  ·exact SpAt.put5 (wQ.mono (by omega)) q0 q1 q2 q3 q4 _ _ _ _ _
  ·exact jV B3 (by omega) _ _ _ _ _
 ·have cp:¬ 0<zM p 0:=cmp_le (by omega)
  have GH:=zC (show zFI b p (s,e)=zK (zBE b (s,e)) 1 2 by unfold zFI oppP;rw[if_neg hp])
  have HT:=oH;have R3:=R;have B3:=j6;clear R j6;go_wp2_with fail;refine (zE0 _ xU 3000 b (s,e) (zA cE) (zA HT) (by omega) (by omega) (by omega)).mono ?_
  rintro r w4 ⟨v,rfl,J8,J6,p9⟩;replace R3:=R3.bw p9;replace B3:=zB B3 p9;have HV:=zC J8;clear J8 p9;go_wp2_with fail;refine (zIY _ v 3001 b 2 _ J6 (by omega) (zA HV) (by omega) (by omega)).mono ?_
  rintro r w5 ⟨o,rfl,Df,wQ,D8⟩;rw[<- zA GH] at wQ;obtain⟨q0,q1,q2,q3,q4,q5⟩:=R3.bw D8;replace B3:=zB B3 D8;have HO:=zC Df;clear Df;go_wp2_with fail;refine bodyPost_ret (v:=.agg o.q) (by simp[results,Tryz.results158,go_sem,q0,q1,q2,q3,q4]) rfl ⟨o,rfl,zA HO,?_,?_⟩
  ·exact SpAt.put5 (wQ.mono (by omega)) q0 q1 q2 q3 q4 _ _ _ _ _
  ·exact jV B3 (by omega) _ _ _ _ _
theorem zKA {a b K M:Int} (h1 : -K<=a) (h2:a<=K) (h3:0<=b) (h4:b<=M) : -(K*M)<=a*b/\a*b<=K*M:=by
 have m1:=Int.mul_le_mul h2 h4 h3 (show 0<=K by omega)
 have m2:=Int.mul_le_mul (show -a<=K by omega) h4 h3 (show 0<=K by omega)
 have e : -a*b = -(a*b):=Int.neg_mul _ _;omega
theorem zTG {p q r s n d:Int} (S8:rok p q) (P2:rok n d) (qP:rok r s) (hr:0<r) (hs:r<=100*s):wrok ((n*q-p*d)*s) (d*q*r):=by
 obtain⟨a1,a2,a3,a4⟩:=S8;obtain⟨c1,c2,c3,c4⟩:=P2;obtain⟨g1,g2,g3,g4⟩:=qP;obtain⟨u1,u2⟩:=zKA (a:=n) (b:=q) (K:=1048576) (M:=1024) c1 c2 (by omega) a4
 obtain⟨u3,u4⟩:=zKA (a:=p) (b:=d) (K:=1048576) (M:=1024) a1 a2 (by omega) c4
 obtain⟨v1,v2⟩:=zKA (a:=n*q-p*d) (b:=s) (K:=2147483648) (M:=1024) (by omega) (by omega) (by omega) g4
 have w0:=Int.mul_pos (show 0<d by omega) (show 0<q by omega)
 have w1:=Int.mul_le_mul c4 a4 (by omega) (by omega)
 have y0:=Int.mul_pos w0 hr;have y1:=Int.mul_le_mul (show d*q<=1048576 by omega) (show r<=102400 by omega) (by omega) (by omega)
 exact⟨by omega,by omega,by omega,by omega⟩
theorem zNR (w:World) (k p q r s n d:Int) (b:Nat) (s0 e0:Int) (E8:40<=b) (hb:b<=10000) (S8:rok p q) (P2:rok n d) (qP:rok r s) (hr:0<r) (hs:r<=100*s) (hE:ErfN (((n*q-p*d)*s)*((n*q-p*d)*s)) ((d*q*r)*(d*q*r)*2) b s0 e0) :
  Calls Tryz.prog 131 #[.agg #[.int .i64 k,.int .i64 p,.int .i64 q,.int .i64 r,.int .i64 s],.agg #[.int .i64 n,.int .i64 d],.int .i64 b] w (zH w b 3020 (zFI b ((n*q-p*d)*s) (s0,e0)).1 (zFI b ((n*q-p*d)*s) (s0,e0)).2):=by
 have hw:=zTG S8 P2 qP hr hs;obtain⟨a1,a2,a3,a4⟩:=S8;obtain⟨c1,c2,c3,c4⟩:=P2;obtain⟨g1,g2,g3,g4⟩:=qP;obtain⟨u1,u2⟩:=zKA (a:=n) (b:=q) (K:=1048576) (M:=1024) c1 c2 (by omega) a4
 obtain⟨u3,u4⟩:=zKA (a:=p) (b:=d) (K:=1048576) (M:=1024) a1 a2 (by omega) c4
 have v1:=Int.mul_le_mul c4 a4 (by omega) (by omega)
 have v0:=Int.mul_pos (show 0<d by omega) (show 0<q by omega)
 have HE:=zC hE;have HW:=zC hw
 have HF:=zC (show (-P 4<((n*q-p*d)*s)/\((n*q-p*d)*s)<P 4) /\ -P 4<(d*q*r)/\(d*q*r)<P 4 by
  obtain⟨r1,r2,r3,r4⟩:=hw;have:P 4=18446744073709551616:=rfl
  exact⟨⟨by omega,by omega⟩,by omega,by omega⟩)
 clear hE hw hr hs;obtain⟨W,hW⟩:∃ W,W=((w.alloc (.cells #[.int .i64 k,.int .i64 p,.int .i64 q,.int .i64 r,.int .i64 s] 25)).alloc (.cells #[.int .i64 n,.int .i64 d] 23)).alloc (.cells zCq 31):=⟨_,rfl⟩;have j6:Below w.heap.size w W:=by rw[hW];exact bl3 _ _ _ _
 have A:LwC W w.heap.size k p q r s:=by rw[hW];constructor<;>simp[go_sem]
 have D:RaC W (w.heap.size+1) n d:=by rw[hW];constructor<;>simp[go_sem]
 have R:NoC W (w.heap.size+1+1):=by rw[hW];constructor<;>simp[go_sem]
 have lR:=R.lt;have lA:=A.lt;have lD:=D.lt;have HK:=zC (show ∀ w',Below W.heap.size W w'->(rK w' w.heap.size k p (w'.cell? ⟨w.heap.size,2,none⟩=some (.int .i64 q)/\w'.cell? ⟨w.heap.size,3,none⟩=some (.int .i64 r)/\w'.cell? ⟨w.heap.size,4,none⟩=some (.int .i64 s)/\rK0 w' (w.heap.size+1) n d)) from λ w' hB=>⟨(A.bw hB).c0,(A.bw hB).c1,(A.bw hB).c2,(A.bw hB).c3,(A.bw hB).c4,(D.bw hB).c0,(D.bw hB).c1⟩)
 go_enter Tryz.func131,Tryz.ntmps131
 go_wp2_with fail;rw[<- hW];clear hW;obtain⟨x0,x1,x2,x3,x4,x5,x6⟩:=zA HK _ (Below.refl _ _)
 (try go_wp2_with fail)
 refine (zD (n*q-p*d) _ (by omega) (by omega)).mono ?_
 rintro z1 w1 ⟨m7,b1,m1,e1,rfl,o8,b9⟩;replace A:=A.bw b9;replace D:=D.bw b9;replace R:=R.bw b9;replace j6:=zB j6 b9;obtain⟨V1,Q3⟩:∃ V,V=w1.alloc (.cells #[.bool m7,.slice b1 m1 e1] 29):=⟨_,rfl⟩;have ah:Below w1.heap.size w1 V1:=by rw[Q3];exact bl1 _ _
 have N1:NmC V1 w1.heap.size ⟨m7,b1,m1,e1⟩:=by rw[Q3];exact⟨by simp,by simp⟩
 have RT:=A.lt;have lD1:=D.lt;have rO:=R.lt;replace A:=A.bw ah;replace D:=D.bw ah;replace R:=R.bw ah;replace j6:=zB j6 ah;have oy:=zC (o8.bw ah);clear o8 b9 HK x0 x1 x2 x3 x4 x5 x6 ah;obtain⟨A0,A1,A2,A3,A4⟩:=A;obtain⟨D0,D1⟩:=D
 go_upto_region 2 with fail
 rw[<- Q3];clear Q3;have A:LwC V1 w.heap.size k p q r s:=⟨A0,A1,A2,A3,A4⟩;have D:RaC V1 (w.heap.size+1) n d:=⟨D0,D1⟩;go_wp2_with fail;refine (zD (d*q) _ (by omega) (by omega)).mono ?_
 rintro z2 w2 ⟨j7,b2,m2,e2,rfl,A5,j8⟩;have lN1:=N1.lt;replace A:=A.bw j8;replace D:=D.bw j8;replace R:=R.bw j8;replace N1:=N1.bw j8;replace oy:=zC ((zA oy).bw j8);replace j6:=zB j6 j8;obtain⟨V2,aR⟩:∃ V,V=w2.alloc (.cells #[.bool j7,.slice b2 m2 e2] 29):=⟨_,rfl⟩;have W3:Below w2.heap.size w2 V2:=by rw[aR];exact bl1 _ _
 have N2:NmC V2 w2.heap.size ⟨j7,b2,m2,e2⟩:=by rw[aR];exact⟨by simp,by simp⟩
 have Z6:=R.lt;have lN12:=N1.lt;replace A:=A.bw W3;replace D:=D.bw W3;replace R:=R.bw W3;replace N1:=N1.bw W3;replace oy:=zC ((zA oy).bw W3);replace j6:=zB j6 W3;have oz:=zC (A5.bw W3);have FO:=A.lt;have Ld:=D.lt;have iE:=R.lt;clear A5 j8 W3 A0 A1 A2 A3 A4 D0 D1
 go_upto_region 3 with fail
 rw[<- aR];clear aR;go_wp2_with fail;have HK:=zC (show ∀ w',Below V2.heap.size V2 w'->(rK w' w.heap.size k p (w'.cell? ⟨w.heap.size,2,none⟩=some (.int .i64 q)/\w'.cell? ⟨w.heap.size,3,none⟩=some (.int .i64 r)/\w'.cell? ⟨w.heap.size,4,none⟩=some (.int .i64 s)/\rK w' (w.heap.size+1) n d (nK w' w1.heap.size (⟨m7,b1,m1,e1⟩:Nm) (nK0 w' w2.heap.size (⟨j7,b2,m2,e2⟩:Nm))))) from λ w' hB=>⟨(A.bw hB).c0,(A.bw hB).c1,(A.bw hB).c2,(A.bw hB).c3,(A.bw hB).c4,(D.bw hB).c0,(D.bw hB).c1,(N1.bw hB).c0,(N1.bw hB).c1,(N2.bw hB).c0,(N2.bw hB).c1⟩)
 have E2:Below V2.heap.size V2 V2.drew:=(Below.refl _ _).drew;have nn1:w.heap.size+1+1≠w.heap.size:=by omega
 have nn2:w.heap.size+1+1≠w.heap.size+1:=by omega
 have nn3:w.heap.size+1+1≠w1.heap.size:=by omega
 have nn4:w.heap.size+1+1≠w2.heap.size:=by omega
 clear A D N1 N2;obtain⟨x0,x1,x2,x3,x4,x5,x6,x7,x8,x9,Gs⟩:=zA HK _ (Below.refl _ _)
 go_region_held3 (λ w'=>rK w' w.heap.size k p (w'.cell? ⟨w.heap.size,2,none⟩=some (.int .i64 q)/\w'.cell? ⟨w.heap.size,3,none⟩=some (.int .i64 r)/\w'.cell? ⟨w.heap.size,4,none⟩=some (.int .i64 s)/\rK w' (w.heap.size+1) n d (nK w' w1.heap.size (⟨m7,b1,m1,e1⟩:Nm) (nK0 w' w2.heap.size (⟨j7,b2,m2,e2⟩:Nm))))) (first|exact zA HK _ (by with_reducible first|exact E2|exact M6|exact G3|exact A9|exact o9|exact A7)|(dsimp only[cK,cK0,nK,nK0,rK,rK0];go_keep)|go_keep)
  (first
   | (go_at_call 158;have O3:=G3;refine (wnor_iv _ ⟨E4,b4,m4,e4⟩ ⟨dJ,b6,m6,e6⟩ ((n*q-p*d)*s) (d*q*r) b s0 e0 (H8.fits (zA HF).1.1 (zA HF).1.2) (cX.fits (zA HF).2.1 (zA HF).2.2) (zA HW) E8 hb (zA HE)).mono ?_;rintro zz y5 ⟨u,rfl,B8,B7,D8⟩;have M6:=zB G3 D8;have G8:=zC B8;clear B8;obtain⟨q0,q1,q2,q3,q4,q5⟩:=R.bw M6;obtain⟨i0,i1,i2,i3,i4,i5,i6,i7,i8,i9,i10⟩:=zA HK _ M6)
   | (go_at_call 83;have O3:=A9;refine (zV _ _ _ _ _ _ _ _ 4 4 (d*q) r _ ((zA oz).bw A9) O0 (by omega) (by omega)).mono ?_;rintro zz y4 ⟨dJ,b6,m6,e6,rfl,cX,p9⟩;have G3:=zB A9 p9;replace H8:=H8.bw p9)
   | (go_at_call 33;have O3:=o9;refine (zD r _ (by omega) (by omega)).mono ?_;rintro zz y3 ⟨J3,b5,m5,e5,rfl,O0,m8⟩;have A9:=zB o9 m8;replace H8:=H8.bw m8)
   | (go_at_call 83;have O3:=A7;refine (zV _ _ _ _ _ _ _ _ 4 4 (n*q-p*d) s _ ((zA oy).bw A7) E7 (by omega) (by omega)).mono ?_;rintro zz y2 ⟨E4,b4,m4,e4,rfl,H8,j8⟩;have o9:=zB A7 j8)
   | (go_at_call 33;refine (zD s _ (by omega) (by omega)).mono ?_;rintro zz y1 ⟨B9,b3,m3,e3,rfl,E7,b9⟩;have A7:=zB E2 b9))
 all_goals
  go_wp2;refine bodyPost_ret (v:=.agg u.q) (by simp[results,Tryz.results131,go_sem,q0,q1,q2,q3,q4]) rfl ⟨u,rfl,zA G8,?_,?_⟩
  ·exact SpAt.put5 (B7) q0 q1 q2 q3 q4 _ _ _ _ _
  ·exact jV (zB j6 M6) (by omega) _ _ _ _ _
def BlG (K:Nat) (Pr:Int->Int->Prop) (w:World) (b:Nat) (z:Ending) (w':World):Prop:=∃ lo hi,Pr lo hi/\zH w b K lo hi z w'
theorem zRB (w:World) (p q r s n d:Int) (b:Nat) (Pr:Int->Int->Prop) (hC:∀ w',Calls Tryz.prog 131 #[.agg #[.int .i64 1,.int .i64 p,.int .i64 q,.int .i64 r,.int .i64 s],.agg #[.int .i64 n,.int .i64 d],.int .i64 b] w' (BlG 30000 Pr w' b)) :
  Calls Tryz.prog 91 #[.agg #[.int .i64 1,.int .i64 p,.int .i64 q,.int .i64 r,.int .i64 s],.agg #[.int .i64 n,.int .i64 d],.int .i64 b] w (BlG 30000 Pr w b):=by
 have HC:=zC hC;clear hC
 go_enter Tryz.func91,Tryz.ntmps91
 go_wp2_with fail;refine (zA HC _).mono ?_;rintro zz w1 ⟨lo,hi,I9,u,rfl,B8,B7,b9⟩;have R:NoC w1 (w.heap.size+1+1):=NoC.bw ⟨by simp[go_sem],by simp[go_sem],by simp[go_sem],by simp[go_sem],by simp[go_sem],λ o=>by simp[go_sem]⟩ b9
 have hB:Below w.heap.size w w1:=zB (bl3 _ _ _ _ ) b9;obtain⟨q0,q1,q2,q3,q4,q5⟩:=R;have G8:=zC B8;have M9:=zC I9;clear B8 b9 I9;go_wp2_with fail;refine bodyPost_ret (v:=.agg u.q) (by simp[results,Tryz.results91,go_sem,q0,q1,q2,q3,q4]) rfl ⟨lo,hi,zA M9,u,rfl,zA G8,?_,?_⟩
 ·exact SpAt.put5 (B7) q0 q1 q2 q3 q4 _ _ _ _ _
 ·exact jV hB (by omega) _ _ _ _ _
theorem below_2 (w:World) (p q r s n d:Int) (b:Nat) (Pr:Int->Int->Prop) (hC:∀ w',Calls Tryz.prog 132 #[.agg #[.int .i64 2,.int .i64 p,.int .i64 q,.int .i64 r,.int .i64 s],.agg #[.int .i64 n,.int .i64 d],.int .i64 b] w' (BlG 30000 Pr w' b)) :
  Calls Tryz.prog 91 #[.agg #[.int .i64 2,.int .i64 p,.int .i64 q,.int .i64 r,.int .i64 s],.agg #[.int .i64 n,.int .i64 d],.int .i64 b] w (BlG 30000 Pr w b):=by
 have HC:=zC hC;clear hC
 go_enter Tryz.func91,Tryz.ntmps91
 go_wp2_with fail;refine (zA HC _).mono ?_;rintro zz w1 ⟨lo,hi,I9,u,rfl,B8,B7,b9⟩;have R:NoC w1 (w.heap.size+1+1):=NoC.bw ⟨by simp[go_sem],by simp[go_sem],by simp[go_sem],by simp[go_sem],by simp[go_sem],λ o=>by simp[go_sem]⟩ b9
 have hB:Below w.heap.size w w1:=zB (bl3 _ _ _ _ ) b9;obtain⟨q0,q1,q2,q3,q4,q5⟩:=R;have G8:=zC B8;have M9:=zC I9;clear B8 b9 I9;go_wp2_with fail;refine bodyPost_ret (v:=.agg u.q) (by simp[results,Tryz.results91,go_sem,q0,q1,q2,q3,q4]) rfl ⟨lo,hi,zA M9,u,rfl,zA G8,?_,?_⟩
 ·exact SpAt.put5 (B7) q0 q1 q2 q3 q4 _ _ _ _ _
 ·exact jV hB (by omega) _ _ _ _ _
theorem below_3 (w:World) (p q r s n d:Int) (b:Nat) (Pr:Int->Int->Prop) (hC:∀ w',Calls Tryz.prog 133 #[.agg #[.int .i64 3,.int .i64 p,.int .i64 q,.int .i64 r,.int .i64 s],.agg #[.int .i64 n,.int .i64 d],.int .i64 b] w' (BlG 30000 Pr w' b)) :
  Calls Tryz.prog 91 #[.agg #[.int .i64 3,.int .i64 p,.int .i64 q,.int .i64 r,.int .i64 s],.agg #[.int .i64 n,.int .i64 d],.int .i64 b] w (BlG 30000 Pr w b):=by
 have HC:=zC hC;clear hC
 go_enter Tryz.func91,Tryz.ntmps91
 go_wp2_with fail;refine (zA HC _).mono ?_;rintro zz w1 ⟨lo,hi,I9,u,rfl,B8,B7,b9⟩;have R:NoC w1 (w.heap.size+1+1):=NoC.bw ⟨by simp[go_sem],by simp[go_sem],by simp[go_sem],by simp[go_sem],by simp[go_sem],λ o=>by simp[go_sem]⟩ b9
 have hB:Below w.heap.size w w1:=zB (bl3 _ _ _ _ ) b9;obtain⟨q0,q1,q2,q3,q4,q5⟩:=R;have G8:=zC B8;have M9:=zC I9;clear B8 b9 I9;go_wp2_with fail;refine bodyPost_ret (v:=.agg u.q) (by simp[results,Tryz.results91,go_sem,q0,q1,q2,q3,q4]) rfl ⟨lo,hi,zA M9,u,rfl,zA G8,?_,?_⟩
 ·exact SpAt.put5 (B7) q0 q1 q2 q3 q4 _ _ _ _ _
 ·exact jV hB (by omega) _ _ _ _ _
theorem below_4 (w:World) (p q r s n d:Int) (b:Nat) (Pr:Int->Int->Prop) (hC:∀ w',Calls Tryz.prog 134 #[.agg #[.int .i64 4,.int .i64 p,.int .i64 q,.int .i64 r,.int .i64 s],.agg #[.int .i64 n,.int .i64 d],.int .i64 b] w' (BlG 30000 Pr w' b)) :
  Calls Tryz.prog 91 #[.agg #[.int .i64 4,.int .i64 p,.int .i64 q,.int .i64 r,.int .i64 s],.agg #[.int .i64 n,.int .i64 d],.int .i64 b] w (BlG 30000 Pr w b):=by
 have HC:=zC hC;clear hC
 go_enter Tryz.func91,Tryz.ntmps91
 go_wp2_with fail;refine (zA HC _).mono ?_;rintro zz w1 ⟨lo,hi,I9,u,rfl,B8,B7,b9⟩;have R:NoC w1 (w.heap.size+1+1):=NoC.bw ⟨by simp[go_sem],by simp[go_sem],by simp[go_sem],by simp[go_sem],by simp[go_sem],λ o=>by simp[go_sem]⟩ b9
 have hB:Below w.heap.size w w1:=zB (bl3 _ _ _ _ ) b9;obtain⟨q0,q1,q2,q3,q4,q5⟩:=R;have G8:=zC B8;have M9:=zC I9;clear B8 b9 I9;go_wp2_with fail;refine bodyPost_ret (v:=.agg u.q) (by simp[results,Tryz.results91,go_sem,q0,q1,q2,q3,q4]) rfl ⟨lo,hi,zA M9,u,rfl,zA G8,?_,?_⟩
 ·exact SpAt.put5 (B7) q0 q1 q2 q3 q4 _ _ _ _ _
 ·exact jV hB (by omega) _ _ _ _ _
theorem below_5 (w:World) (p q r s n d:Int) (b:Nat) (Pr:Int->Int->Prop) (hC:∀ w',Calls Tryz.prog 135 #[.agg #[.int .i64 p,.int .i64 q],.agg #[.int .i64 n,.int .i64 d],.int .i64 b] w' (BlG 30000 Pr w' b)) :
  Calls Tryz.prog 91 #[.agg #[.int .i64 5,.int .i64 p,.int .i64 q,.int .i64 r,.int .i64 s],.agg #[.int .i64 n,.int .i64 d],.int .i64 b] w (BlG 30000 Pr w b):=by
 have HC:=zC hC;clear hC
 go_enter Tryz.func91,Tryz.ntmps91
 go_wp2_with fail;refine (zA HC _).mono ?_;rintro zz w1 ⟨lo,hi,I9,u,rfl,B8,B7,b9⟩;have R:NoC w1 (w.heap.size+1+1):=NoC.bw ⟨by simp[go_sem],by simp[go_sem],by simp[go_sem],by simp[go_sem],by simp[go_sem],λ o=>by simp[go_sem]⟩ b9
 have hB:Below w.heap.size w w1:=zB (bl3 _ _ _ _ ) b9;obtain⟨q0,q1,q2,q3,q4,q5⟩:=R;have G8:=zC B8;have M9:=zC I9;clear B8 b9 I9;go_wp2_with fail;refine bodyPost_ret (v:=.agg u.q) (by simp[results,Tryz.results91,go_sem,q0,q1,q2,q3,q4]) rfl ⟨lo,hi,zA M9,u,rfl,zA G8,?_,?_⟩
 ·exact SpAt.put5 (B7) q0 q1 q2 q3 q4 _ _ _ _ _
 ·exact jV hB (by omega) _ _ _ _ _
theorem below_7 (w:World) (p q r s n d:Int) (b:Nat) (Pr:Int->Int->Prop) (hr:rok n d) (hC:∀ w',Calls Tryz.prog 138 #[.agg #[.int .i64 p,.int .i64 q],.int .i64 (n/d),.int .i64 b] w' (BlG 30000 Pr w' b)) :
  Calls Tryz.prog 91 #[.agg #[.int .i64 7,.int .i64 p,.int .i64 q,.int .i64 r,.int .i64 s],.agg #[.int .i64 n,.int .i64 d],.int .i64 b] w (BlG 30000 Pr w b):=by
 have HC:=zC hC;have HR:=zC hr;clear hC hr;obtain⟨W,hW⟩:∃ W,W=((w.alloc (.cells #[.int .i64 7,.int .i64 p,.int .i64 q,.int .i64 r,.int .i64 s] 25)).alloc (.cells #[.int .i64 n,.int .i64 d] 23)).alloc (.cells zCq 31):=⟨_,rfl⟩;have j6:Below w.heap.size w W:=by rw[hW];exact bl3 _ _ _ _
 have A:LwC W w.heap.size 7 p q r s:=by rw[hW];constructor<;>simp[go_sem]
 have D:RaC W (w.heap.size+1) n d:=by rw[hW];constructor<;>simp[go_sem]
 have R:NoC W (w.heap.size+1+1):=by rw[hW];constructor<;>simp[go_sem]
 have lR:=R.lt;have lA:=A.lt;have lD:=D.lt;have HK:=zC (show ∀ w',Below W.heap.size W w'->(w'.cell? ⟨w.heap.size,0,none⟩=some (.int .i64 7)/\w'.cell? ⟨w.heap.size,1,none⟩=some (.int .i64 p)/\w'.cell? ⟨w.heap.size,2,none⟩=some (.int .i64 q)/\w'.cell? ⟨w.heap.size,3,none⟩=some (.int .i64 r)/\w'.cell? ⟨w.heap.size,4,none⟩=some (.int .i64 s)/\rK0 w' (w.heap.size+1) n d) from λ w' hB=>⟨(A.bw hB).c0,(A.bw hB).c1,(A.bw hB).c2,(A.bw hB).c3,(A.bw hB).c4,(D.bw hB).c0,(D.bw hB).c1⟩)
 clear A D
 go_enter Tryz.func91,Tryz.ntmps91
 go_wp2;rw[<- hW];clear hW;have E2:Below W.heap.size W W.drew:=(Below.refl _ _).drew;have n1:w.heap.size+1+1≠w.heap.size:=by omega
 have n2:w.heap.size+1+1≠w.heap.size+1:=by omega
 obtain⟨x0,x1,x2,x3,x4,x5,x6⟩:=zA HK _ (Below.refl _ _)
 go_region_held3 (λ w'=>w'.cell? ⟨w.heap.size,0,none⟩=some (.int .i64 7)/\w'.cell? ⟨w.heap.size,1,none⟩=some (.int .i64 p)/\w'.cell? ⟨w.heap.size,2,none⟩=some (.int .i64 q)/\w'.cell? ⟨w.heap.size,3,none⟩=some (.int .i64 r)/\w'.cell? ⟨w.heap.size,4,none⟩=some (.int .i64 s)/\rK0 w' (w.heap.size+1) n d) (first|exact zA HK _ (by with_reducible first|exact E2|exact o9|exact A7)|(dsimp only[cK,cK0,nK,nK0,rK,rK0];go_keep)|go_keep)
  (first
   | (go_at_call 138;have O3:=A7;refine (zA HC _).mono ?_;rintro zz w2 ⟨lo,hi,I9,u,rfl,B8,B7,j8⟩;have o9:=zB A7 j8;have G8:=zC B8;have M9:=zC I9;clear B8 I9;obtain⟨q0,q1,q2,q3,q4,q5⟩:=R.bw o9;obtain⟨i0,i1,i2,i3,i4,i5,i6⟩:=zA HK _ o9)
   | (go_at_call 137;refine (zND n d _ (zA HR)).mono ?_;rintro zz w1 ⟨rfl,b9⟩;have A7:=zB E2 b9))
 all_goals
  go_wp2;refine bodyPost_ret (v:=.agg u.q) (by simp[results,Tryz.results91,go_sem,q0,q1,q2,q3,q4]) rfl ⟨lo,hi,zA M9,u,rfl,zA G8,?_,?_⟩
  ·exact SpAt.put5 (B7) q0 q1 q2 q3 q4 _ _ _ _ _
  ·exact jV (zB j6 o9) (by omega) _ _ _ _ _
theorem zAH {k p q r s:Int} (h:kT k p q r s=0):(1<=k/\k<=7)/\rok p q/\rok r s/\yR k p q r s=true/\zEB k p q r s=false/\(zFT k=true->r=0/\s=1):=by
 unfold kT at h
 by_cases h1:k<1\/7<k
 ·rw[if_pos h1] at h;omega
 ·rw[if_neg h1] at h
  by_cases h2:¬ rok p q\/¬ rok r s
  ·rw[if_pos h2] at h;omega
  ·rw[if_neg h2] at h
   by_cases h3:zFT k=true/\¬ (r=0/\s=1)
   ·rw[if_pos h3] at h;omega
   ·rw[if_neg h3] at h
    by_cases h4:yR k p q r s=false
    ·rw[if_pos h4] at h;omega
    ·rw[if_neg h4] at h
     by_cases h5:zEB k p q r s=true
     ·rw[if_pos h5] at h;omega
     ·have Yb:yR k p q r s=true:=by cases hh:yR k p q r s<;>simp_all
      have Jn:zEB k p q r s=false:=by cases hh:zEB k p q r s<;>simp_all
      have h6:rok p q:=Classical.byContradiction λ hh=>h2 (Or.inl hh)
      have h7:rok r s:=Classical.byContradiction λ hh=>h2 (Or.inr hh)
      exact⟨⟨by omega,by omega⟩,h6,h7,Yb,Jn,λ ho=>Classical.byContradiction λ hh=>h3 ⟨ho,hh⟩⟩
end Go.Proofs.YtgmnknmjainabacGreat
