/-
  Its own texts.
-/
import Derived.Test.YtgmnknmjainababGreatK18
set_option maxRecDepth 100000
set_option maxHeartbeats 40000000
set_option linter.unnecessarySimpa false
set_option linter.unusedSimpArgs false
set_option linter.unusedVariables false
namespace Go.Proofs.YtgmnknmjainababGreat
open Go.RowKit
attribute [local go_sem ↓] Go.wp_at_zero Go.wp_at_succ
open Ex
theorem zHD (L:Rat->Nat->Rat) (hL:Lns L) (w:World) (n d:Int) (b:Nat) (g:Nat->Rat) (h:zGT n d b) (hg:Gam1 L ((n:Rat)/(d:Rat)) g) :
  Calls Tryz.prog 115 #[.int .i64 n,.int .i64 d,.int .i64 b] w (λ r w'=>∃ lo hi:Int,GaV g b (lo,hi)/\zJ w b 70 lo hi r w'):=by
 obtain⟨W,hW⟩:∃ W,W=(((w.alloc (.cells #[.int .i64 n] 3)).alloc (.cells #[.int .i64 d] 3)).alloc (.cells zCq 28)).alloc (.cells #[.int .i64 (b:Int)] 3):=⟨_,rfl⟩;have b8:Below w.heap.size w W:=by rw[hW];exact bl4 _ _ _ _ _
 have N0:IcC W (w.heap.size) n:=by rw[hW];exact⟨by simp[go_sem]⟩
 have D0:IcC W (w.heap.size+1) d:=by rw[hW];exact⟨by simp[go_sem]⟩
 have X0:IcC W (w.heap.size+1+1+1) (b:Int):=by rw[hW];exact⟨by simp[go_sem]⟩
 have R:NoC W (w.heap.size+1+1):=by rw[hW];constructor<;>simp[go_sem]
 have n0:=h.n0;have nd:=h.nd;have dd:=h.dd;have b0:=h.b0;have b1:=h.b1;have bd0:0<=(b:Int)*d:=Yb (by omega) (by omega)
 have bd1:(b:Int)*d<=1000*2199023255552:=Int.mul_le_mul (by omega) dd (by omega) (by omega)
 have lX:=X0.lt;have H:=zC h;have HL:=zC hL;have HG:=zC hg;obtain⟨NS,Jk,mK⟩:=ga_set h;obtain⟨f1,f2,f3,f4⟩:=zB6 h
 have PK:∀ j:Nat,j<=22000->Q j<P 1400:=λ j hj=>by
  rw[<- Q_P];have h1:=zK (show j+1<=16*1400 by omega)
  have h2:Q (j+1)=2*Q j:=rfl;have:=zG j;omega
 have Jl:=zC (show (ofI d n b).1<=(ofI d n b).2 /\ -P 1400<(ofI d n b).1/\(ofI d n b).2<P 1400 by
  have:=PK (b+41) (by omega)
  have:=zG b
  exact⟨f2,by omega,by omega⟩)
 have Fe:=zC (show ∀ j,j<=NS -> -P 1400<(gaT n d b j).1/\(gaT n d b j).2<P 1400 from λ j _=>by
  have e:=zB1 h j;have u:=ga_hi h j;have:=PK (21*b+41) (by omega)
  have:=zG (21*b+41)
  exact⟨by omega,by omega⟩)
 have Ff:=zC (show ∀ j,j<=NS -> -P 1400<(jE (gaT n d b) j).1/\(jE (gaT n d b) j).2<P 1400 from λ j hj=>by
  have u:=ga_fit h j (by omega)
  have l:=(zMF h j).2.2.2;have:=PK (21*b+60) (by omega)
  have:=zG b;have:=zG (21*b+60)
  exact⟨by omega,by omega⟩)
 have Fg:=zC (λ j=>(zB1 h j).2)
 have gV:=zC (λ j=>(zB1 h j).1)
 have HM:=zC mK
 have Fh:=zC (show ∀ (j:Nat) (u:Sp) w',j<NS->u.bits=(b:Int)->SpAt w' u 1400 (gaT n d b j).1 (gaT n d b j).2->Below W.heap.size W w'->Calls Tryz.prog 165 #[.agg u.q,.int .i64 ((j:Int)+1),.pointer (some ⟨w.heap.size+1+1+1,0,none⟩),.pointer (some ⟨w.heap.size+1,0,none⟩),.pointer (some ⟨w.heap.size,0,none⟩)] w' (zJ w' b 1414 (gaT n d b (j+1)).1 (gaT n d b (j+1)).2) from λ j u w' hj I0 E9 dD=>by
  have e:=ga1_iv w' (w.heap.size+1+1+1) (w.heap.size+1) (w.heap.size) u (b:Int) d n 1400 b ((j:Int)+1) (gaT n d b j) E9 (X0.bw dD) (D0.bw dD) (N0.bw dD) (by omega) I0 bd0 (by omega) (Yb (by omega) (by omega)) (by
   have:=Int.mul_le_mul (show (j:Int)+1<=70000 by omega) dd (by omega) (by omega)
   omega) n0 (by omega)
  have ec:((j+1:Nat):Int)=(j:Int)+1:=by omega
  have e2:gaT n d b (j+1)=zE (gaT n d b j) ((b:Int)*d) (n+((j+1:Nat):Int)*d):=rfl;rw[e2,ec]
  exact e)
 have aY:=zC (show IntKind.i64.wrap (2*(b:Int))=((2*b:Nat):Int) from (jL _ (by omega) (by omega)).trans (by omega))
 have HK:=zC (show ∀ w',Below W.heap.size W w'->(w'.cell? ⟨w.heap.size,0,none⟩=some (.int .i64 n)/\w'.cell? ⟨w.heap.size+1,0,none⟩=some (.int .i64 d)/\w'.cell? ⟨w.heap.size+1+1+1,0,none⟩=some (.int .i64 (b:Int))) from λ w' hB=>⟨(N0.bw hB).c0,(D0.bw hB).c0,(X0.bw hB).c0⟩)
 clear h hL hg mK PK f1 f2 f3 f4;have lR:=R.lt
 go_enter Tryz.func115,Tryz.ntmps115
 go_wp2;rw[<- hW];clear hW
 go_cut [8] (λ p wx=>∃ (B:Nat) (u:Sp),p=.pointer (some ⟨B,0,none⟩)/\W.heap.size<=B/\VrC wx B u/\SpAt wx u 1403 (jS n d b NS).1 (jS n d b NS).2/\u.bits=(b:Int)/\Below W.heap.size W wx)
 case first =>
  go_region_held3 (λ w'=>w'.cell? ⟨w.heap.size,0,none⟩=some (.int .i64 n)/\w'.cell? ⟨w.heap.size+1,0,none⟩=some (.int .i64 d)/\w'.cell? ⟨w.heap.size+1+1+1,0,none⟩=some (.int .i64 (b:Int))) (exact zA HK _ (by repeat' (first|with_reducible exact wI|with_reducible exact fF|with_reducible exact W8|with_reducible exact J6|with_reducible exact Below.refl _ _|with_reducible refine Below.drew ?_|with_reducible refine zL ?_ _|with_reducible refine Below.setCell ?_ (by first|exact XW _|exact aB|exact aC|exact wJ|exact wK) _)))
   (first
    | (go_at_call 141;have hq:=fF;rw[zA aY];refine (rise_ga _ _ _ (gaT n d b) (2*b) NS b 1400 1414 vS3 _ ((wL.bw (by with_reducible first|exact Below.refl _ _|exact bl1 _ _)).fits (K:=1400) (zA Jl).1 (zA Jl).2.1 (zA Jl).2.2) (zA Fi) (by omega) (by omega) (by omega) (by omega) (zA HM) (by omega) (by omega) (zA Fg) (zA gV) (zA Fe) (zA Ff) (λ j u w' hj I0 E9 dD=>zA Fh j u w' hj I0 E9 (zB (by with_reducible first|exact fF|exact zL fF _) dD))).mono ?_;rintro r WN ⟨WO,rfl,rS,NA,wM⟩;have Fk:=zC rS;clear rS;have fG:Below Jm.heap.size Jm WN:=(by with_reducible first|exact wM|exact zB (bl1 _ _) wM);have wI:=zB fF fG;(try with_reducible have WQ:=(zM Jm 28).bw wM);replace W9:=W9.bw fG;(try replace cW:=cW.bw fG);replace cC:=cC.bw fG;(try replace ke:=ke.bw fG);replace wL:=wL.bw fG;(try replace Jn:=Jn.bw fG);have wK:=wI.size;(try have rT:=cW.lt);(try have WR:=Yj rT);(try have Fl:=Yi rT);(try obtain⟨mL,mM,mN,mO,mP,Fm⟩:=cW);(try have rV:=ke.lt);(try have WS:=Yj rV);(try have Fo:=Yi rV);(try obtain⟨mQ,mR,mS,mV,mW,Fp⟩:=ke);(try have WT:=Jn.lt);(try have eS3:=Yj WT);(try have eS3':=Yi WT);(try obtain⟨NB,NC,ND,NF,NG,zS35⟩:=Jn);(try have WV:=WQ.lt);(try have eS4:=Yj WV);(try have eS4':=Yi WV);(try obtain⟨NH,NI,NJ,NK,NL,zS45⟩:=WQ))
    | (go_at_call 140;have hq:=W8;refine (zBM _ _ _ _ _ _ _ _ 4 4 b d n _ (W9.bw (by with_reducible first|exact Below.refl _ _|exact bl1 _ _)) (cC.bw (by with_reducible first|exact Below.refl _ _|exact bl1 _ _)) (by omega) (by omega) n0).mono ?_;rintro r Jm ⟨vS3,rfl,rW,wL,wN⟩;have Fi:=zC rW;clear rW;have mX:Below oL.heap.size oL Jm:=(by with_reducible first|exact wN|exact zB (bl1 _ _) wN);have fF:=zB W8 mX;(try with_reducible have Jn:=(zM oL 28).bw wN);replace W9:=W9.bw mX;(try replace cW:=cW.bw mX);replace cC:=cC.bw mX;(try replace ke:=ke.bw mX);have wJ:=fF.size)
    | (go_at_call 43;have hq:=J6;refine (zD n _ (by omega) (by omega)).mono ?_;rintro r oL ⟨WW,aS2,nS2,cS2,rfl,cC,aG⟩;have bD:Below gZ.heap.size gZ oL:=(by with_reducible first|exact aG|exact zB (bl1 _ _) aG);have W8:=zB J6 bD;(try with_reducible have ke:=(zM gZ 28).bw aG);replace W9:=W9.bw bD;(try replace cW:=cW.bw bD);have aC:=W8.size)
    | (go_at_call 43;refine (zD d _ (by omega) (by omega)).mono ?_;rintro r gZ ⟨WX,aS1,nS1,cS1,rfl,W9,aH⟩;have J6:Below W.heap.size W gZ:=(by with_reducible first|exact zB (Below.refl _ _).drew aH|exact zB (bl1 _ _).drew aH);(try with_reducible have cW:=((zM W 28).bw (Below.refl _ _).drew).bw aH);have aB:=J6.size))
  all_goals
   have hfinS:SpAt WN WO 1403 (jS n d b NS).1 (jS n d b NS).2:=NA;go_wp2_with fail;go_meet;refine⟨_,WO,rfl,?_,⟨⟨?_,?_,?_,?_,?_⟩,?_⟩,?_,zA Fk,?_⟩
   ·first|exact XW _|exact aB|exact aC|exact wJ|exact wK
   ·simp[go_sem, *]
   ·simp[go_sem, *]
   ·simp[go_sem, *]
   ·simp[go_sem, *]
   ·simp[go_sem, *]
   ·intro o;simp[go_sem, *]
   ·first|with_reducible exact SpAt.put5 hfinS NH NI NJ NK NL _ _ _ _ _|with_reducible exact SpAt.put5 hfinS NB NC ND NF NG _ _ _ _ _|with_reducible exact SpAt.put5 hfinS mQ mR mS mV mW _ _ _ _ _|with_reducible exact SpAt.put5 hfinS mL mM mN mO mP _ _ _ _ _|with_reducible exact hfinS.bw (bl1 _ _)
   ·repeat' (first|with_reducible exact wI|with_reducible exact fF|with_reducible exact W8|with_reducible exact J6|with_reducible exact Below.refl _ _|with_reducible refine Below.drew ?_|with_reducible refine zL ?_ _|with_reducible refine Below.setCell ?_ (by first|exact XW _|exact aB|exact aC|exact wJ|exact wK) _)
 case rest =>
 obtain⟨BS,xS,rfl,Fq,XS,hpS,hxbS,hblS⟩:=hcut;obtain⟨V1,M4⟩:∃ V,V=wc:=⟨_,rfl⟩;subst M4;replace N0:=N0.bw hblS;replace D0:=D0.bw hblS;replace X0:=X0.bw hblS;replace R:=R.bw hblS;replace b8:=zB b8 hblS;have Q8:=zC hxbS;have hO:=zC hpS;have lS:=XS.lt;clear hxbS hpS HK Fe Ff Fg gV Fh Jl aY;have HK:=zC (show ∀ w',Below V1.heap.size V1 w'->(w'.cell? ⟨w.heap.size,0,none⟩=some (.int .i64 n)/\w'.cell? ⟨w.heap.size+1,0,none⟩=some (.int .i64 d)/\w'.cell? ⟨w.heap.size+1+1+1,0,none⟩=some (.int .i64 (b:Int))) from λ w' hB=>⟨(N0.bw hB).c0,(D0.bw hB).c0,(X0.bw hB).c0⟩)
 have BQ:=zC (show Q (b+4)<P 500 by
  rw[<- Q_P];have h1:=zK (show b+4+1<=16*500 by omega)
  have h2:Q (b+4+1)=2*Q (b+4):=rfl;have:=zG (b+4)
  omega)
 have d0:0<d:=by omega
 go_wp2_with fail
 go_cut [9] (λ p wx=>∃ (B:Nat) (u:Sp) (o:Int × Int),p=.pointer (some ⟨B,0,none⟩)/\zPE L b o/\V1.heap.size<=B/\VrC wx B u/\SpAt wx u 534 (zE o n d).1 (zE o n d).2/\u.bits=(b:Int)/\Below V1.heap.size V1 wx)
 case first =>
  go_region_held3 (λ w'=>w'.cell? ⟨w.heap.size,0,none⟩=some (.int .i64 n)/\w'.cell? ⟨w.heap.size+1,0,none⟩=some (.int .i64 d)/\w'.cell? ⟨w.heap.size+1+1+1,0,none⟩=some (.int .i64 (b:Int))) (exact zA HK _ (by repeat' (first|with_reducible exact wO|with_reducible exact mY|with_reducible exact mZ|with_reducible exact cq|with_reducible exact ar|with_reducible exact W3|with_reducible exact Below.refl _ _|with_reducible refine Below.drew ?_|with_reducible refine zL ?_ _|with_reducible refine Below.setCell ?_ (by first|exact XW _|exact eR|exact eV|exact eZ|exact wP|exact wQ|exact wR) _)))
   (first
    | (go_at_call 143;have hq:=mY;refine (zDT _ vY3 ⟨Fs,aY4,nY4,cY4⟩ ⟨Ft,aY5,nY5,cY5⟩ 520 4 4 b (zIN (zT (lnT n' d' b) N1) (zT (lnT 2 1 b) N2) cc) n d ((po.bw (zB fI cD)).bw (by with_reducible first|exact Below.refl _ _|exact bl1 _ _)) (na.bw (by with_reducible first|exact Below.refl _ _|exact bl1 _ _)) (wT.bw (by with_reducible first|exact Below.refl _ _|exact bl1 _ _)) (by omega) (by omega) d0 (zA Fv)).mono ?_;rintro r WY ⟨WZ,rfl,rX,NM,wV⟩;have Fw:=zC rX;clear rX;have bG:Below Jo.heap.size Jo WY:=(by with_reducible first|exact wV|exact zB (bl1 _ _) wV);have wO:=zB mY bG;(try with_reducible have Xa:=(zM Jo 28).bw wV);replace O3:=O3.bw bG;(try replace cr:=cr.bw bG);replace W4:=W4.bw bG;(try replace fe:=fe.bw bG);(try replace lK:=lK.bw bG);replace na:=na.bw bG;(try replace BR:=BR.bw bG);replace wT:=wT.bw bG;(try replace Jp:=Jp.bw bG);have wR:=wO.size;(try have Dx:=cr.lt);(try have eY1:=Yj Dx);(try have LF:=Yi Dx);(try obtain⟨Dz,DA,DB,NQ,NR,zY15⟩:=cr);(try have DC:=fe.lt);(try have eY2:=Yj DC);(try have LG:=Yi DC);(try obtain⟨DE,DF,DG,NT,NV,zY25⟩:=fe);(try have DI:=lK.lt);(try have eY3:=Yj DI);(try have LH:=Yi DI);(try obtain⟨DJ,DK,DL,NW,NX,zY35⟩:=lK);(try have Xb:=BR.lt);(try have eY4:=Yj Xb);(try have eY4':=Yi Xb);(try obtain⟨NY,NZ,Oa,Ob,Oc,zY45⟩:=BR);(try have Xc:=Jp.lt);(try have eY5:=Yj Xc);(try have eY5':=Yi Xc);(try obtain⟨Od,Oe,Of,Og,Oh,zY55⟩:=Jp);(try have Xd:=Xa.lt);(try have eY6:=Yj Xd);(try have eY6':=Yi Xd);(try obtain⟨Oi,Oj,Ok,Ol,Om,zY65⟩:=Xa))
    | (go_at_call 43;have hq:=mZ;refine (zD d _ (by omega) (by omega)).mono ?_;rintro r Jo ⟨Ft,aY5,nY5,cY5,rfl,wT,wW⟩;have cD:Below Jq.heap.size Jq Jo:=(by with_reducible first|exact wW|exact zB (bl1 _ _) wW);have mY:=zB mZ cD;(try with_reducible have Jp:=(zM Jq 28).bw wW);replace O3:=O3.bw cD;(try replace cr:=cr.bw cD);replace W4:=W4.bw cD;(try replace fe:=fe.bw cD);(try replace lK:=lK.bw cD);replace na:=na.bw cD;(try replace BR:=BR.bw cD);have wQ:=mY.size)
    | (go_at_call 43;have hq:=cq;refine (zD n _ (by omega) (by omega)).mono ?_;rintro r Jq ⟨Fs,aY4,nY4,cY4,rfl,na,wX⟩;have fI:Below Bl.heap.size Bl Jq:=(by with_reducible first|exact wX|exact zB (bl1 _ _) wX);have mZ:=zB cq fI;(try with_reducible have BR:=(zM Bl 28).bw wX);replace O3:=O3.bw fI;(try replace cr:=cr.bw fI);replace W4:=W4.bw fI;(try replace fe:=fe.bw fI);(try replace lK:=lK.bw fI);have wP:=mZ.size)
    | (go_at_call 116;have hq:=ar;refine (zBT _ ⟨qX,TG,TH,TI⟩ ⟨qW,TD,TE,TF⟩ 4 b 500 (b:Int) 1 (O3.bw (by with_reducible first|exact Below.refl _ _|exact bl1 _ _)) (W4.bw (by with_reducible first|exact Below.refl _ _|exact bl1 _ _)) (by omega) (by omega) (by omega) (by omega) (by omega) (zA BQ) (by omega)).mono ?_;rintro r Bl ⟨n',d',cc,N1,N2,K7,F8,G8,Q3,ct,vY3,rfl,rY,po,fc⟩;have Fv:=zC rY;clear rY;have BV:=zC (gaLog_of (zA HL) (by omega) (by omega) K7 Q3 ct);clear K7 F8 G8 Q3 ct;have av:Below pA.heap.size pA Bl:=(by with_reducible first|exact fc|exact zB (bl1 _ _) fc);have cq:=zB ar av;(try with_reducible have lK:=(zM pA 28).bw fc);replace O3:=O3.bw av;(try replace cr:=cr.bw av);replace W4:=W4.bw av;(try replace fe:=fe.bw av);have eZ:=cq.size)
    | (go_at_call 43;have hq:=W3;refine (zD 1 _ (by omega) (by omega)).mono ?_;rintro r pA ⟨qW,TD,TE,TF,rfl,W4,fg⟩;have fh:Below pC.heap.size pC pA:=(by with_reducible first|exact fg|exact zB (bl1 _ _) fg);have ar:=zB W3 fh;(try with_reducible have fe:=(zM pC 28).bw fg);replace O3:=O3.bw fh;(try replace cr:=cr.bw fh);have eV:=ar.size)
    | (go_at_call 43;refine (zD (b:Int) _ (by omega) (by omega)).mono ?_;rintro r pC ⟨qX,TG,TH,TI,rfl,O3,fj⟩;have W3:Below V1.heap.size V1 pC:=(by with_reducible first|exact zB (Below.refl _ _).drew fj|exact zB (bl1 _ _).drew fj);(try with_reducible have cr:=((zM V1 28).bw (Below.refl _ _).drew).bw fj);have eR:=W3.size))
  all_goals
   have hfinY:SpAt WY WZ 534 (zE (zIN (zT (lnT n' d' b) N1) (zT (lnT 2 1 b) N2) cc) n d).1 (zE (zIN (zT (lnT n' d' b) N1) (zT (lnT 2 1 b) N2) cc) n d).2:=NM;go_wp2_with fail;go_meet;refine⟨_,WZ,_,rfl,zA BV,?_,⟨⟨?_,?_,?_,?_,?_⟩,?_⟩,?_,zA Fw,?_⟩
   ·first|exact XW _|exact eR|exact eV|exact eZ|exact wP|exact wQ|exact wR
   ·simp[go_sem, *]
   ·simp[go_sem, *]
   ·simp[go_sem, *]
   ·simp[go_sem, *]
   ·simp[go_sem, *]
   ·intro o;simp[go_sem, *]
   ·first|with_reducible exact SpAt.put5 hfinY Oi Oj Ok Ol Om _ _ _ _ _|with_reducible exact SpAt.put5 hfinY Od Oe Of Og Oh _ _ _ _ _|with_reducible exact SpAt.put5 hfinY NY NZ Oa Ob Oc _ _ _ _ _|with_reducible exact SpAt.put5 hfinY DJ DK DL NW NX _ _ _ _ _|with_reducible exact SpAt.put5 hfinY DE DF DG NT NV _ _ _ _ _|with_reducible exact SpAt.put5 hfinY Dz DA DB NQ NR _ _ _ _ _|with_reducible exact hfinY.bw (bl1 _ _)
   ·repeat' (first|with_reducible exact wO|with_reducible exact mY|with_reducible exact mZ|with_reducible exact cq|with_reducible exact ar|with_reducible exact W3|with_reducible exact Below.refl _ _|with_reducible refine Below.drew ?_|with_reducible refine zL ?_ _|with_reducible refine Below.setCell ?_ (by first|exact XW _|exact eR|exact eV|exact eZ|exact wP|exact wQ|exact wR) _)
 case rest =>
 obtain⟨BY,xY,oY,rfl,Jr,TL,XY,hpY,hxbY,hblY⟩:=hcut;obtain⟨V2,S9⟩:∃ V,V=wc:=⟨_,rfl⟩;subst S9;have wY:=XS.bw hblY;replace N0:=N0.bw hblY;replace D0:=D0.bw hblY;replace X0:=X0.bw hblY;replace R:=R.bw hblY;replace b8:=zB b8 hblY;replace hO:=zC ((zA hO).bw hblY);have HYB:=zC hxbY;have HYP:=zC hpY;clear hxbY hpY HK XS;have lY:=XY.lt;have lS2:=wY.lt;have GE:=gaY_ok (zA H) Jr;obtain⟨l,t,NE,e1,e2,e3,e4,e5⟩:=zRK (B:=b) (e:=11) (by omega) GE.2.1 GE.2.2.2.1
 have GV:=gaG_ok (zA HL) (zA H) (zA HG) Jr (by omega) e4 e5 Jk (zA HM)
 have EO:=gaE_ok (zA H) Jr (show t<=19 by omega) e4 e5
 have SO:=zMJ (zA H) Jk
 have On:=zC (show Q (b+eb t)<P 500 by
  rw[<- Q_P];have ebm:=zFG (show t<=19 by omega)
  have vN:eb 19=6144:=by decide
  rw[vN] at ebm;have h1:=zK (show b+eb t+1<=16*500 by omega)
  have h2:Q (b+eb t+1)=2*Q (b+eb t):=rfl;have:=zG (b+eb t)
  omega)
 have Js:=zC (show (gaY n d b oY).1<=(gaY n d b oY).2 /\ -P 500<(gaY n d b oY).1/\(gaY n d b oY).2<P 500 by
  have r:=GE.2.2.2.1;have ra:=zCU GE.2.1;obtain⟨r1,r2,r3,r4⟩:=ra;have h1:=zK (show b+11<=16*500 by omega)
  rw[Q_P] at h1
  exact⟨GE.2.1,by omega,by omega⟩)
 have BW:=zC GV;have wZ:=zC e1;have HE6:=zC e2;have HE7:=zC e4;have HE8:=zC e5;have ht:t<=1000000:=by omega
 have Oo:=zC (show ¬ ((gaE n d b oY t NE).1<=0/\0<=(gaE n d b oY t NE).2)/\(gaE n d b oY t NE).1<=(gaE n d b oY t NE).2/\(jS n d b NS).1<=(jS n d b NS).2 by
  have:=zG b
  exact⟨by omega,EO.2.1,SO.2.1⟩)
 clear GE GV EO SO e1 e2 e3 e4 e5 Jr;have HK:=zC (show ∀ w',Below V2.heap.size V2 w'->(w'.cell? ⟨w.heap.size,0,none⟩=some (.int .i64 n)/\w'.cell? ⟨w.heap.size+1,0,none⟩=some (.int .i64 d)/\w'.cell? ⟨w.heap.size+1+1+1,0,none⟩=some (.int .i64 (b:Int))/\cK w' BS xS (cK0 w' BY xY)) from λ w' hB=>⟨(N0.bw hB).c0,(D0.bw hB).c0,(X0.bw hB).c0,(wY.c.bw hB).c0,(wY.c.bw hB).c1,(wY.c.bw hB).c2,(wY.c.bw hB).c3,(wY.c.bw hB).c4,(XY.c.bw hB).c0,(XY.c.bw hB).c1,(XY.c.bw hB).c2,(XY.c.bw hB).c3,(XY.c.bw hB).c4⟩)
 go_wp2_with fail
 go_cut [10] (λ p wx=>∃ (B:Nat) (u:Sp),p=.pointer (some ⟨B,0,none⟩)/\V2.heap.size<=B/\VrC wx B u/\SpAt wx u 1600 (((zEZ (jS n d b NS).1 (jS n d b NS).2 (gaE n d b oY t NE).1 (gaE n d b oY t NE).2 b,zFL (jS n d b NS).1 (jS n d b NS).2 (gaE n d b oY t NE).1 (gaE n d b oY t NE).2 b):Int × Int)).1 (((zEZ (jS n d b NS).1 (jS n d b NS).2 (gaE n d b oY t NE).1 (gaE n d b oY t NE).2 b,zFL (jS n d b NS).1 (jS n d b NS).2 (gaE n d b oY t NE).1 (gaE n d b oY t NE).2 b):Int × Int)).2/\u.bits=(b:Int)/\Below V2.heap.size V2 wx)
 case first =>
  go_region_held3 (λ w'=>w'.cell? ⟨w.heap.size,0,none⟩=some (.int .i64 n)/\w'.cell? ⟨w.heap.size+1,0,none⟩=some (.int .i64 d)/\w'.cell? ⟨w.heap.size+1+1+1,0,none⟩=some (.int .i64 (b:Int))/\cK w' BS xS (cK0 w' BY xY)) (exact zA HK _ (by repeat' (first|with_reducible exact xc|with_reducible exact fJ|with_reducible exact nb|with_reducible exact fK|with_reducible exact nc|with_reducible exact ng|with_reducible exact Below.refl _ _|with_reducible refine Below.drew ?_|with_reducible refine zL ?_ _|with_reducible refine Below.setCell ?_ (by first|exact XW _|exact xd|exact xe|exact xg|exact xh|exact xi|exact xj) _)))
   (first
    | (go_at_call 146;have hq:=fJ;refine (zFQ _ xS Xe 1403 b _ _ _ _ ((zA hO).bw (by with_reducible first|exact fJ|exact zL fJ _)) ((show SpAt _ Xe 500 (gaE n d b oY t NE).1 (gaE n d b oY t NE).2 from (xk.bw (by with_reducible first|exact Below.refl _ _|exact bl1 _ _))).mono (by omega)) (by omega) (by omega) (zA Q8) (zA Oo).2.2 (zA Oo).1 (zA Oo).2.1).mono ?_;rintro r Xf ⟨Xg,rfl,rZ,Oq,xl⟩;have Fx:=zC rZ;clear rZ;have aI:Below Jt.heap.size Jt Xf:=(by with_reducible first|exact xl|exact zB (bl1 _ _) xl);have xc:=zB fJ aI;(try with_reducible have Xh:=(zM Jt 28).bw xl);replace aJ:=aJ.bw aI;(try replace kf:=kf.bw aI);replace cE:=cE.bw aI;(try replace oM:=oM.bw aI);replace fO:=fO.bw aI;(try replace se:=se.bw aI);replace nh:=nh.bw aI;(try replace Ca:=Ca.bw aI);replace xk:=xk.bw aI;(try replace Jv:=Jv.bw aI);have xj:=xc.size;(try have Xi:=kf.lt);(try have eO1:=Yj Xi);(try have eO1':=Yi Xi);(try obtain⟨Ot,Ov,Ow,Ox,Oy,zO15⟩:=kf);(try have Xj:=oM.lt);(try have eO2:=Yj Xj);(try have eO2':=Yi Xj);(try obtain⟨Oz,OA,OB,OC,OD,zO25⟩:=oM);(try have Xk:=se.lt);(try have eO3:=Yj Xk);(try have eO3':=Yi Xk);(try obtain⟨OE,OG,OH,OI,OJ,zO35⟩:=se);(try have Xl:=Ca.lt);(try have eO4:=Yj Xl);(try have eO4':=Yi Xl);(try obtain⟨OK,OL,OM,OO,OP,zO45⟩:=Ca);(try have Xm:=Jv.lt);(try have eO5:=Yj Xm);(try have eO5':=Yi Xm);(try obtain⟨OQ,OS,OT,OV,OW,zO55⟩:=Jv);(try have Xn:=Xh.lt);(try have eO6:=Yj Xn);(try have eO6':=Yi Xn);(try obtain⟨OX,OY,OZ,Pa,Pb,zO65⟩:=Xh))
    | (go_at_call 147;have hq:=nb;refine (zGM _ Xo 500 b t NE (gaY n d b oY) l (SpAt.fits (K:=500) (show SpAt _ Xo 541 (gaY n d b oY).1 (gaY n d b oY).2 from (nh.bw (by with_reducible first|exact Below.refl _ _|exact bl1 _ _))) (zA Js).1 (zA Js).2.1 (zA Js).2.2) (zA Fy) (zA Js).1 (by omega) (by omega) (zA wZ) (zA HE6) ht (zA HE7) (zA HE8) (zA On) (by omega)).mono ?_;rintro r Jt ⟨Xe,rfl,sf,xk,xm⟩;have Xp:=zC sf;clear sf;have cF:Below Jw.heap.size Jw Jt:=(by with_reducible first|exact xm|exact zB (bl1 _ _) xm);have fJ:=zB nb cF;(try with_reducible have Jv:=(zM Jw 28).bw xm);replace aJ:=aJ.bw cF;(try replace kf:=kf.bw cF);replace cE:=cE.bw cF;(try replace oM:=oM.bw cF);replace fO:=fO.bw cF;(try replace se:=se.bw cF);replace nh:=nh.bw cF;(try replace Ca:=Ca.bw cF);have xi:=fJ.size)
    | (go_at_call 118;have hq:=fK;refine (zMH _ vO3 xY 540 b (ofI (b:Int) 1 b) (zE oY n d) ((fO.bw (by with_reducible first|exact Below.refl _ _|exact bl1 _ _)).mono (by omega)) (((zA HYP).bw (by with_reducible first|exact fK|exact zL fK _)).mono (by omega)) (by omega) (zA Fz)).mono ?_;rintro r Jw ⟨Xo,rfl,sj,nh,xo⟩;have Fy:=zC sj;clear sj;have fP:Below Jx.heap.size Jx Jw:=(by with_reducible first|exact xo|exact zB (bl1 _ _) xo);have nb:=zB fK fP;(try with_reducible have Ca:=(zM Jx 28).bw xo);replace aJ:=aJ.bw fP;(try replace kf:=kf.bw fP);replace cE:=cE.bw fP;(try replace oM:=oM.bw fP);replace fO:=fO.bw fP;(try replace se:=se.bw fP);have xh:=nb.size)
    | (go_at_call 140;have hq:=nc;refine (zBM _ _ _ _ _ _ _ _ 4 4 b (b:Int) 1 _ (aJ.bw (by with_reducible first|exact Below.refl _ _|exact bl1 _ _)) (cE.bw (by with_reducible first|exact Below.refl _ _|exact bl1 _ _)) (by omega) (by omega) (by omega)).mono ?_;rintro r Jx ⟨vO3,rfl,sk,fO,xq⟩;have Fz:=zC sk;clear sk;have ni:Below Jy.heap.size Jy Jx:=(by with_reducible first|exact xq|exact zB (bl1 _ _) xq);have fK:=zB nc ni;(try with_reducible have se:=(zM Jy 28).bw xq);replace aJ:=aJ.bw ni;(try replace kf:=kf.bw ni);replace cE:=cE.bw ni;(try replace oM:=oM.bw ni);have xg:=fK.size)
    | (go_at_call 43;have hq:=ng;refine (zD 1 _ (by omega) (by omega)).mono ?_;rintro r Jy ⟨Xq,aO2,nO2,cO2,rfl,cE,xt⟩;have xv:Below Jz.heap.size Jz Jy:=(by with_reducible first|exact xt|exact zB (bl1 _ _) xt);have nc:=zB ng xv;(try with_reducible have oM:=(zM Jz 28).bw xt);replace aJ:=aJ.bw xv;(try replace kf:=kf.bw xv);have xe:=nc.size)
    | (go_at_call 43;refine (zD (b:Int) _ (by omega) (by omega)).mono ?_;rintro r Jz ⟨Xr,aO1,nO1,cO1,rfl,aJ,xA⟩;have ng:Below V2.heap.size V2 Jz:=(by with_reducible first|exact zB (Below.refl _ _).drew xA|exact zB (bl1 _ _).drew xA);(try with_reducible have kf:=((zM V2 28).bw (Below.refl _ _).drew).bw xA);have xd:=ng.size))
  all_goals
   have hfinO:SpAt Xf Xg 1600 (((zEZ (jS n d b NS).1 (jS n d b NS).2 (gaE n d b oY t NE).1 (gaE n d b oY t NE).2 b,zFL (jS n d b NS).1 (jS n d b NS).2 (gaE n d b oY t NE).1 (gaE n d b oY t NE).2 b):Int × Int)).1 (((zEZ (jS n d b NS).1 (jS n d b NS).2 (gaE n d b oY t NE).1 (gaE n d b oY t NE).2 b,zFL (jS n d b NS).1 (jS n d b NS).2 (gaE n d b oY t NE).1 (gaE n d b oY t NE).2 b):Int × Int)).2:=Oq.mono (by omega)
   go_wp2_with fail;go_meet;refine⟨_,Xg,rfl,?_,⟨⟨?_,?_,?_,?_,?_⟩,?_⟩,?_,zA Fx,?_⟩
   ·first|exact XW _|exact xd|exact xe|exact xg|exact xh|exact xi|exact xj
   ·simp[go_sem, *]
   ·simp[go_sem, *]
   ·simp[go_sem, *]
   ·simp[go_sem, *]
   ·simp[go_sem, *]
   ·intro o;simp[go_sem, *]
   ·first|with_reducible exact SpAt.put5 hfinO OX OY OZ Pa Pb _ _ _ _ _|with_reducible exact SpAt.put5 hfinO OQ OS OT OV OW _ _ _ _ _|with_reducible exact SpAt.put5 hfinO OK OL OM OO OP _ _ _ _ _|with_reducible exact SpAt.put5 hfinO OE OG OH OI OJ _ _ _ _ _|with_reducible exact SpAt.put5 hfinO Oz OA OB OC OD _ _ _ _ _|with_reducible exact SpAt.put5 hfinO Ot Ov Ow Ox Oy _ _ _ _ _|with_reducible exact hfinO.bw (bl1 _ _)
   ·repeat' (first|with_reducible exact xc|with_reducible exact fJ|with_reducible exact nb|with_reducible exact fK|with_reducible exact nc|with_reducible exact ng|with_reducible exact Below.refl _ _|with_reducible refine Below.drew ?_|with_reducible refine zL ?_ _|with_reducible refine Below.setCell ?_ (by first|exact XW _|exact xd|exact xe|exact xg|exact xh|exact xi|exact xj) _)
 case rest =>
 obtain⟨BO,xO,rfl,hHO,XO,hpO,hxbO,hblO⟩:=hcut;obtain⟨V3,D3⟩:∃ V,V=wc:=⟨_,rfl⟩;subst D3;have lO:=XO.lt;replace R:=R.bw hblO;replace b8:=zB b8 hblO;have HOB:=zC hxbO;have Xt:=zC hpO;have Xv:=zC XO;clear hxbO hpO HK X0 N0 D0 wY XY;have Y1:=R.lt;have nRO:w.heap.size+1+1<BO:=by omega
 have Pd:=zC (show ∀ w',Below V3.heap.size V3 w'->(w'.cell? ⟨BO,2,none⟩=some (.bool xO.hn)/\w'.cell? ⟨BO,3,none⟩=some (.slice xO.ha xO.hN xO.hc)) from λ w' hB=>⟨(XO.c.bw hB).c2,(XO.c.bw hB).c3⟩)
 have m8:Below V3.heap.size V3 V3.drew:=(Below.refl _ _).drew;clear XO;go_wp2_with fail;refine AnyL.start (S:=λ w'=>w'.cell? ⟨BO,2,none⟩=some (.bool xO.hn)/\w'.cell? ⟨BO,3,none⟩=some (.slice xO.ha xO.hN xO.hc)) (l:=5) (by kernel_rfl) (zA Pd _ m8) (λ hHeld=>?_)
 refine AnyL.take (i:=0) (oi:={ dst:=some 42,op:=Go.Op.fieldAddr 28 (Go.Operand.tmp 10) 1,type:=0,pos := "gamma.go:50",after:=#[],guard:=none }) (v:=.pointer (some ⟨BO,2,none⟩)) rfl (by kernel_rfl) (by kernel_rfl) (by kernel_rfl) (by kernel_rfl) (λ _ _ _ h=>h) (Or.inl ⟨by rfl,λ w hSw=>?_⟩) hHeld ?_
 ·obtain⟨s0,s1⟩:=hSw;go_simp
 try simp only[Act.put,XH,XI,XJ]
 refine AnyL.take (i:=1) (oi:={ dst:=some 43,op:=Go.Op.load 26 (Go.Operand.tmp 42),type:=26,pos := "gamma.go:50",after:=#[{ on:=0,ground:=Go.Ground.data }],guard:=none }) (v:=.agg #[.bool xO.hn,.slice xO.ha xO.hN xO.hc]) rfl (by kernel_rfl) (by kernel_rfl) (by kernel_rfl) (by kernel_rfl) (λ _ _ _ h=>h) (Or.inl ⟨by rfl,λ w hSw=>?_⟩) hHeld ?_
 ·obtain⟨s0,s1⟩:=hSw;go_simp
 try simp only[Act.put,XH,XI,XJ]
 refine AnyL.one (i:=2) (o:={ dst:=some 44,op:=Go.Op.call { callee:=Go.Callee.value (Go.Operand.func 43),args:=#[Go.Operand.const (Go.Value.int Go.IntKind.i64 1)],argTypes:=#[3] },type:=26,pos := "gamma.go:50",after:=#[],guard:=none }) (by kernel_rfl) rfl (λ Kc A0=>?_)
 go_simp
 refine (zD 1 _ (by omega) (by omega)).mono ?_
 rintro r' w1 ⟨g9,a1,n1,c1,rfl,k9,b7⟩;have j7:=zB m8 b7;clear b7;go_wp2_with fail;refine A0.out _ _ (zA Pd _ j7) (λ hHeld=>?_)
 clear A0 Kc
 try simp only[Act.put,XH,XI,XJ]
 refine AnyL.one (i:=3) (o:={ dst:=some 45,op:=Go.Op.call { callee:=Go.Callee.value (Go.Operand.func 65),args:=#[Go.Operand.tmp 43,Go.Operand.tmp 44],argTypes:=#[26,26] },type:=26,pos := "gamma.go:50",after:=#[{ on:=1,ground:=Go.Ground.data },{ on:=2,ground:=Go.Ground.data },{ on:=2,ground:=Go.Ground.chain }],guard:=none }) (by kernel_rfl) rfl (λ Kc A0=>?_)
 go_simp
 refine (kX _ _ _ _ _ _ _ _ 1600 4 _ 1 _ ((zA Xt).hi.bw j7) k9 (by omega) (by omega)).mono ?_
 rintro r' w2 ⟨b6,a2,n2,c2,rfl,o0,b9⟩;have j9:=zB j7 b9;clear b9 k9;go_wp2_with fail;refine A0.out _ _ (zA Pd _ j9) (λ hHeld=>?_)
 clear A0 Kc
 try simp only[Act.put,XH,XI,XJ]
 refine AnyL.take (i:=4) (oi:={ dst:=some 46,op:=Go.Op.fieldAddr 28 (Go.Operand.tmp 10) 1,type:=0,pos := "gamma.go:50",after:=#[{ on:=0,ground:=Go.Ground.phase },{ on:=1,ground:=Go.Ground.phase },{ on:=2,ground:=Go.Ground.phase },{ on:=3,ground:=Go.Ground.phase }],guard:=none }) (v:=.pointer (some ⟨BO,2,none⟩)) rfl (by kernel_rfl) (by kernel_rfl) (by kernel_rfl) (by kernel_rfl) (λ _ _ _ h=>h) (Or.inl ⟨by rfl,λ w hSw=>?_⟩) hHeld ?_
 ·obtain⟨s0,s1⟩:=hSw;go_simp
 try simp only[Act.put,XH,XI,XJ]
 refine AnyL.last (o:={ dst:=none,op:=Go.Op.store 26 (Go.Operand.tmp 46) (Go.Operand.tmp 45),type:=0,pos := "gamma.go:50",after:=#[{ on:=4,ground:=Go.Ground.data },{ on:=3,ground:=Go.Ground.data },{ on:=3,ground:=Go.Ground.chain },{ on:=0,ground:=Go.Ground.phase },{ on:=1,ground:=Go.Ground.phase },{ on:=2,ground:=Go.Ground.phase },{ on:=3,ground:=Go.Ground.phase }],guard:=none }) (by kernel_rfl) rfl (by kernel_rfl) (λ Kc A0=>?_)
 have V2:=(zA Xv).bw j9;have lA:=V2.lt;obtain⟨⟨y0,y1,y2,y3,y4⟩,y5⟩:=V2
 go_simp
 refine A0.out _ _ ?_;clear A0 Kc;have R2:=R.bw j9;obtain⟨V,hV⟩:∃ V,V=((w2.setCell ⟨BO,2,none⟩ (.bool b6)).setCell ⟨BO,3,none⟩ (.slice a2 n2 c2)):=⟨_,rfl⟩;have R3:NoC V (w.heap.size+1+1):=by rw[hV];exact R2.offH (by omega) _ _
 have A3:VrC V BO ⟨xO.ln,xO.la,xO.lN,xO.lc,b6,a2,n2,c2,xO.bits⟩:=by rw[hV];exact zHX ((zA Xv).bw j9) ⟨b6,a2,n2,c2⟩
 have i1:IntAt V xO.ln xO.la xO.lN xO.lc 1600 (gaG n d b oY t NE NS).1:=by rw[hV];exact ((zA Xt).lo.bw j9).putH y2 y3 _ _
 have i2:IntAt V b6 a2 n2 c2 1601 (gaG n d b oY t NE NS).2:=by rw[hV];exact (show IntAt w2 b6 a2 n2 c2 1601 (gaG n d b oY t NE NS).2 from o0).putH y2 y3 _ _
 have E2:Below w.heap.size w V:=by rw[hV];exact ((zB b8 j9).setCell (p:=⟨BO,2,none⟩) (by show w.heap.size<=BO;omega) _).setCell (p:=⟨BO,3,none⟩) (by show w.heap.size<=BO;omega) _
 rw[<- hV];clear hV y0 y1 y2 y3 y4 y5 lA;have gv:=zA BW
 have fit:=SpAt.fits (K:=70) (show SpAt V ⟨xO.ln,xO.la,xO.lN,xO.lc,b6,a2,n2,c2,xO.bits⟩ 1601 (gaG n d b oY t NE NS).1 (gaG n d b oY t NE NS).2 from⟨i1.mono (by omega),i2⟩) gv.le (by
  have:=gv.lo;have:=zG b;have:0<P 70:=yB 70;omega) (by
  have h1:=zK (show b+43+1<=16*70 by omega)
  rw[Q_P] at h1;have h2:Q (b+43+1)=2*Q (b+43):=rfl;have:=zG (b+43);have:=gv.hi
  omega)
 clear gv i1 i2;have lA:=A3.lt;have lQ:=R3.lt;obtain⟨⟨y0,y1,y2,y3,y4⟩,y5⟩:=A3;obtain⟨q0,q1,q2,q3,q4,q5⟩:=R3;go_wp2_with fail;refine bodyPost_ret (v:=.agg #[.bool xO.ln,.slice xO.la xO.lN xO.lc,.bool b6,.slice a2 n2 c2,.int .i64 xO.bits]) (by simp[results,Tryz.results115,go_sem,q0,q1,q2,q3,q4]) rfl ⟨_,_,zA BW,⟨xO.ln,xO.la,xO.lN,xO.lc,b6,a2,n2,c2,xO.bits⟩,rfl,zA HOB,?_,?_⟩
 ·exact SpAt.put5 fit q0 q1 q2 q3 q4 _ _ _ _ _
 ·exact kB E2 (by omega) _ _ _ _ _
theorem fieldG0 (x y:Bool) (a a':Option Addr) (n c n' c':Nat) (b:Int) (w:World):(Instr.field 28 (.agg #[.bool x,.slice a n c,.bool y,.slice a' n' c',.int .i64 b]) 0).run Tryz.prog w=.ok (.agg #[.bool x,.slice a n c]) w:=by kernel_rfl
theorem fieldG1 (x y:Bool) (a a':Option Addr) (n c n' c':Nat) (b:Int) (w:World):(Instr.field 28 (.agg #[.bool x,.slice a n c,.bool y,.slice a' n' c',.int .i64 b]) 1).run Tryz.prog w=.ok (.agg #[.bool y,.slice a' n' c']) w:=by kernel_rfl
theorem zNA (w:World) (s:Sp) (b:Nat) (a:Int × Int) (hs:SpAt w s 70 a.1 a.2) (hbits:s.bits=(b:Int)) (R0:40<=b) (hb:b<=1000) (ha:0<a.1) (Xw:a.1<=a.2) :
  Calls Tryz.prog 114 #[.agg s.q] w (λ r w'=>∃ (p1 p2 r1 r2:Int) (l1 l2:Nat->Rat),LsIn a b (p1,p2) (r1,r2) l1 l2/\LbOk b (p1,p2)/\LbOk b (r1,r2)/\zJ w b 520 p1 r2 r w'):=by
 obtain⟨W,hW⟩:∃ W,W=(w.alloc (.cells s.q 28)).alloc (.cells zCq 28):=⟨_,rfl⟩;have b8:Below w.heap.size w W:=by rw[hW];exact bl2 _ _ _
 have A:SpC W w.heap.size s:=by rw[hW];constructor<;>simp[go_sem]
 have R:NoC W (w.heap.size+1):=by rw[hW];constructor<;>simp[go_sem]
 have HS:=zC (hs.bw b8);have HB:=zC hbits;have lR:=R.lt;have lA:=A.lt
 have BQ:=zC (show Q (b+4)<P 500 by
  rw[<- Q_P];have h1:=zK (show b+4+1<=16*500 by omega)
  have h2:Q (b+4+1)=2*Q (b+4):=rfl;have:=zG (b+4)
  omega)
 have wG:=zC (show 0<Q b by have:=zG b;omega)
 have HO:=zC (show 1*Q b=Q b by omega)
 have HA:=zC (show 0<a.1/\0<a.2/\a.1<=a.2 from⟨ha,by omega,Xw⟩)
 have HK:=zC (show ∀ w',Below W.heap.size W w'->(cK0 w' w.heap.size s) from λ w' hB=>⟨(A.bw hB).c0,(A.bw hB).c1,(A.bw hB).c2,(A.bw hB).c3,(A.bw hB).c4⟩)
 clear hs hbits ha Xw;have pS:=fieldG0;have BF:=fieldG1
 go_enter Tryz.func114,Tryz.ntmps114
 go_wp2;rw[<- hW];clear hW lR
 go_cut [3] (λ p wx=>∃ (B:Nat) (u:Nm),p=.pointer (some ⟨B,0,none⟩)/\W.heap.size<=B/\NmC wx B u/\IntAt wx u.neg u.a u.n u.cap 70 (Q b)/\Below W.heap.size W wx)
 case first =>
  have m8:Below W.heap.size W W.drew:=(Below.refl _ _).drew
  go_region_held3 (λ w'=>cK0 w' w.heap.size s) (exact zA HK _ (by repeat' (first|with_reducible exact o7|with_reducible exact A6|with_reducible exact Below.refl _ _|with_reducible refine Below.drew ?_|with_reducible refine zL ?_ _|with_reducible refine Below.setCell ?_ (by first|exact XW _|exact O5|exact Z3) _)))
   (first
    | (go_at_call 95;have hq:=A6;refine (zFM _ _ _ _ _ b 4 1 _ (zA HB) (k9.bw (by with_reducible first|exact Below.refl _ _|exact bl1 _ _)) (by omega) (by omega)).mono ?_;rintro r w2 ⟨b6,a2,n2,c2,rfl,o0,b9⟩;have CA:Below w1.heap.size w1 w2:=(by with_reducible first|exact b9|exact zB (bl1 _ _) b9);have o7:=zB A6 CA;(try with_reducible have g2:=(jO w1 26).bw b9);(try replace g1:=g1.bw CA);have Z3:=o7.size;(try have m1:=g1.lt);(try have m2:=g2.lt);(try obtain⟨z10,z11,z1f⟩:=g1);(try obtain⟨z20,z21,z2f⟩:=g2))
    | (go_at_call 43;refine (zD 1 _ (by omega) (by omega)).mono ?_;rintro r w1 ⟨g9,a1,n1,c1,rfl,k9,b7⟩;have A6:Below W.heap.size W w1:=(by with_reducible first|exact zB (Below.refl _ _).drew b7|exact zB (bl1 _ _).drew b7);(try with_reducible have g1:=((jO W 26).bw (Below.refl _ _).drew).bw b7);have O5:=A6.size))
  all_goals
   have xB:IntAt w2 b6 a2 n2 c2 70 (Q b):=by rw[zA HO] at o0;exact o0.mono (by omega)
   go_wp2_with fail;go_meet;refine⟨_,⟨b6,a2,n2,c2⟩,rfl,?_,⟨?_,?_⟩,?_,?_⟩
   ·first|exact XW _|exact O5|exact Z3
   ·simp[go_sem, *]
   ·simp[go_sem, *]
   ·first|with_reducible exact xB.put2 z20 z21 _ _|with_reducible exact xB.put2 z10 z11 _ _|with_reducible exact xB.bw (bl1 _ _)
   ·repeat' (first|with_reducible exact o7|with_reducible exact A6|with_reducible exact Below.refl _ _|with_reducible refine Below.drew ?_|with_reducible refine zL ?_ _|with_reducible refine Below.setCell ?_ (by first|exact XW _|exact O5|exact Z3) _)
 case rest =>
 obtain⟨BU,U,rfl,vB,CU,hU,hblU⟩:=hcut;have lR:=R.lt;have A2:=A.bw hblU;replace R:=R.bw hblU;replace HS:=zC ((zA HS).bw hblU);replace b8:=zB b8 hblU;have nRU:w.heap.size+1<BU:=by omega
 have HU:=zC hU;have iI:=zC (show ∀ w',Below wc.heap.size wc w'->(cK w' w.heap.size s (nK0 w' BU U)) from λ w' hB=>⟨(A2.bw hB).c0,(A2.bw hB).c1,(A2.bw hB).c2,(A2.bw hB).c3,(A2.bw hB).c4,(CU.bw hB).c0,(CU.bw hB).c1⟩)
 have lU:=CU.lt;clear hU HK hblU A2 CU;have n1:w.heap.size+1≠w.heap.size:=by omega
 have n2:w.heap.size+1≠BU:=by omega
 have m8:Below wc.heap.size wc wc.drew:=(Below.refl _ _).drew;obtain⟨x0,x1,x2,x3,x4,y0,y1⟩:=zA iI _ (Below.refl _ _);go_wp2_with fail
 go_region_held3 (λ w'=>cK w' w.heap.size s (nK0 w' BU U)) (first|exact zA iI _ (by with_reducible first|exact m8|exact j9|exact j7)|(dsimp only[cK,cK0,nK,nK0,rK,rK0];go_keep)|go_keep)
  (first
   | (go_at_call 116;have H7:=j7;(try rw[zA HB]);refine (zBT _ ⟨s.hn,s.ha,s.hN,s.hc⟩ U 70 b 500 a.2 (Q b) ((zA HS).hi.bw j7) ((zA HU).bw j7) (by omega) (zA HA).2.1 (zA wG) (by omega) (by omega) (zA BQ) (by omega)).mono ?_;rintro r' w2 ⟨JA,d2',cc2,N21,N22,sx,FB,FC,FD,FE,v2,rfl,G7,o0,b9⟩;have j9:=zB j7 b9;clear G7;replace k9:=k9.bw b9;have Dj:=zC (And.intro sx (And.intro FB (And.intro FC (And.intro FD FE))));clear sx FB FC FD FE;obtain⟨q0,q1,q2,q3,q4,q5⟩:=R.bw j9;obtain⟨i0,i1,i2,i3,i4,j0,j1⟩:=zA iI _ j9)
   | (go_at_call 116;(try rw[zA HB]);refine (zBT _ ⟨s.ln,s.la,s.lN,s.lc⟩ U 70 b 500 a.1 (Q b) ((zA HS).lo.bw m8) ((zA HU).bw m8) (by omega) (zA HA).1 (zA wG) (by omega) (by omega) (zA BQ) (by omega)).mono ?_;rintro r' w1 ⟨mB,vX,cc1,N11,N12,sz,FF,FH,FI,FJ,v1,rfl,D6,k9,b7⟩;have j7:=zB m8 b7;clear D6;have HX1:=zC (And.intro sz (And.intro FF (And.intro FH (And.intro FI FJ))));clear sz FF FH FI FJ))
 all_goals
  go_wp2_with fail;have Il:=zA HB;obtain⟨FK,qM,WG,kg,s12⟩:=zA HX1;obtain⟨FL,c21,c22,s21,s22⟩:=zA Dj;obtain⟨l1,g1,i1⟩:=zE9 (zA HA).1 (zA wG) FK b N11 N12;obtain⟨l2,g2,i2⟩:=zE9 (zA HA).2.1 (zA wG) FL b N21 N22;refine bodyPost_ret (v:=.agg #[.bool v1.ln,.slice v1.la v1.lN v1.lc,.bool v2.hn,.slice v2.ha v2.hN v2.hc,.int .i64 (b:Int)]) (by simp[results,Tryz.results114,go_sem,q0,q1,q2,q3,q4]) rfl ⟨_,_,_,_,l1,l2,⟨(zA HA).1,(zA HA).2.2,g1,g2,i1,i2⟩,lb_of (by omega) hb FK.1 kg s12 70 (by omega) qM WG,lb_of (by omega) hb FL.1 s21 s22 70 (by omega) c21 c22,⟨v1.ln,v1.la,v1.lN,v1.lc,v2.hn,v2.ha,v2.hN,v2.hc,(b:Int)⟩,rfl,rfl,?_,?_⟩
  ·exact SpAt.put5 (show SpAt _ (⟨v1.ln,v1.la,v1.lN,v1.lc,v2.hn,v2.ha,v2.hN,v2.hc,(b:Int)⟩:Sp) 520 _ _ from⟨k9.lo,o0.hi⟩) q0 q1 q2 q3 q4 _ _ _ _ _
  ·exact kB (zB b8 j9) (Yh _) _ _ _ _ _
theorem GaV.pos {g:Nat->Rat} {B:Nat} {a:Int × Int} (h:GaV g B a):0<a.1:=by have:=h.lo;have:=zG B;omega
theorem rats2 (w:World) (p q kn kd:Int) (T:TypeId):Rats (w.alloc (.cells #[.int .i64 p,.int .i64 q,.int .i64 kn,.int .i64 kd] T)) w.heap.size 2 (λ j=>if j=0 then p else kn) (λ j=>if j=0 then q else kd):=by
 refine⟨by simp,?_,?_⟩
 all_goals
  intro j hj
  match j,hj with
  | 0,_=>simp
  | 1,_=>simp
theorem two_all {P:Nat->Prop} (h0:P 0) (h1:P 1):∀ j,j<2->P j:=λ j hj=>by
 match j,hj with
 | 0,_=>exact h0
 | 1,_=>exact h1
theorem rats2' (w:World) (B:Nat) (hB:w.heap.size=B) (p q kn kd:Int) (T:TypeId):Rats (w.alloc (.cells #[.int .i64 p,.int .i64 q,.int .i64 kn,.int .i64 kd] T)) B 2 (λ j=>if j=0 then p else kn) (λ j=>if j=0 then q else kd):=by subst hB;exact rats2 w p q kn kd T
theorem zJC (w:World) (s:Sp) (k b:Nat) (a:Int × Int) (hs:SpAt w s k a.1 a.2) (hle:a.1<=a.2) (hk:k<=1000000) (hbits:s.bits=(b:Int)) :
  Calls Tryz.prog 121 #[.agg s.q,.int .i64 64] w (zJ w b (k+34) (zE a 1 (Q 64)).1 (zE a 1 (Q 64)).2):=by
 obtain⟨W,hW⟩:∃ W,W=(w.alloc (.cells s.q 36)).alloc (.cells zCq 36):=⟨_,rfl⟩;have b8:Below w.heap.size w W:=by rw[hW];exact bl2 _ _ _
 have A:SpC W w.heap.size s:=by rw[hW];constructor<;>simp[go_sem]
 have R:NoC W (w.heap.size+1):=by rw[hW];constructor<;>simp[go_sem]
 have HS:=zC (hs.bw b8);have HB:=zC hbits;have lR:=R.lt;have lA:=A.lt;have HK:=zC (show ∀ w',Below W.heap.size W w'->(cK0 w' w.heap.size s) from λ w' hB=>⟨(A.bw hB).c0,(A.bw hB).c1,(A.bw hB).c2,(A.bw hB).c3,(A.bw hB).c4⟩)
 clear A hs hbits
 go_enter Tryz.func121,Tryz.ntmps121
 go_wp2;rw[<- hW];clear hW;have lq:w.heap.size+1≠w.heap.size:=by omega
 obtain⟨x0,x1,x2,x3,x4⟩:=zA HK _ (Below.refl _ _);have m8:Below W.heap.size W W.drew:=(Below.refl _ _).drew
 go_region_held3 (λ w'=>cK0 w' w.heap.size s) (first|exact zA HK _ (by with_reducible first|exact m8|exact j9|exact j7)|(dsimp only[cK,cK0,nK,nK0,rK,rK0];go_keep)|go_keep)
  (first
   | (go_at_call 135;have H7:=j7;refine (zFI 64 _ s ⟨g9,a1,n1,c1⟩ k 4 64 b rfl a 1 ((zA HS).bw j7) k9 hle (by decide) (by omega) (by omega) (by omega) (zA HB)).mono ?_;rintro r' w2 ⟨t,rfl,I7,Q9,b9⟩;have HT:=zC I7;clear I7;have j9:=zB j7 b9;obtain⟨q0,q1,q2,q3,q4,q5⟩:=R.bw j9;obtain⟨i0,i1,i2,i3,i4⟩:=zA HK _ j9)
   | (go_at_call 43;refine (zD 1 _ (by omega) (by omega)).mono ?_;rintro r' w1 ⟨g9,a1,n1,c1,rfl,k9,b7⟩;have j7:=zB m8 b7))
 all_goals
  go_wp2_with fail;refine bodyPost_ret (v:=.agg t.q) (by simp[results,Tryz.results121,go_sem,q0,q1,q2,q3,q4]) rfl ⟨t,rfl,zA HT,?_,?_⟩
  ·exact SpAt.put5 (Q9.mono (by omega)) q0 q1 q2 q3 q4 _ _ _ _ _
  ·exact kB (zB b8 j9) (Yh _) _ _ _ _ _
theorem zC3 (w:World) (s t:Sp) (k b:Nat) (a c:Int × Int) (hs:SpAt w s k a.1 a.2) (ht:SpAt w t k c.1 c.2) (hk:k<=700000000) (hb:s.bits=(b:Int)) :
  Calls Tryz.prog 26 #[.agg s.q,.agg t.q] w (zJ w b (k+1) (zAF a c).1 (zAF a c).2) :=
 (zFD w s t k a.1 a.2 c.1 c.2 hs ht hk).mono λ r w' h=>by rw[hb] at h;exact h
theorem TwoP.drew {W wx:World} {b k1 k2:Nat} {a c:Int × Int} {p q:Value} (h:TwoP W wx b k1 k2 a c p q):TwoP W wx.drew b k1 k2 a c p q:=by
 obtain⟨B,B',x,y,h1,h2,h3,h4,h5,h6,h7,h8,h9,qY,qZ,IZ⟩:=h;have hd:Below wx.heap.size wx wx.drew:=(Below.refl _ _).drew;exact⟨B,B',x,y,h1,h2,h3,h4,h5,h6.bw hd,h7.bw hd,h8.bw hd,h9.bw hd,qY,qZ,zB IZ hd⟩
structure NearSt (w wr:World) (B5 B6 b K:Nat) (zz Pp Sm:Sp) (a pv sv:Int × Int):Prop where
 z:SpC wr w.heap.size zz
 p:VrC wr B5 Pp
 s:VrC wr B6 Sm
 zp:SpAt wr zz K a.1 a.2
 pp:SpAt wr Pp K pv.1 pv.2
 sp:SpAt wr Sm K sv.1 sv.2
 pb:Pp.bits=(b:Int)
 sb:Sm.bits=(b:Int)
 no:NoC wr (w.heap.size+1)
 be:Below w.heap.size w wr
 l1:B5≠w.heap.size+1
 l2:B6≠w.heap.size+1
 m1:B5≠w.heap.size
 m2:B6≠w.heap.size
 k1:w.heap.size<=B5
 k2:w.heap.size<=B6
 n:B5≠B6
theorem NearSt.bw {w wr wr':World} {B5 B6 b K:Nat} {z Pp Sm:Sp} {a p s:Int × Int} (h:NearSt w wr B5 B6 b K z Pp Sm a p s) (hb:Below wr.heap.size wr wr'):NearSt w wr' B5 B6 b K z Pp Sm a p s :=
 ⟨h.z.bw hb,h.p.bw hb,h.s.bw hb,h.zp.bw hb,h.pp.bw hb,h.sp.bw hb,h.pb,h.sb,h.no.bw hb,zB h.be hb,h.l1,h.l2,h.m1,h.m2,h.k1,h.k2,h.n⟩
theorem zNY (w:World) (z:Sp) (k b K:Nat) (a:Int × Int) (hz:SpAt w z k a.1 a.2) (hbits:z.bits=(b:Int)) (hkK:k<=K) (hle:a.1<=a.2) (ha:Abs a (Q b)) (hb:b<=100000) (b9:10<=b) (hK:Q (b+20)<P K) (Z4:K<=10000000) (rR:4<=K) :
  Calls Tryz.prog 195 #[.agg z.q] w (λ r w'=>∃ N,N<=b+20/\(zP (npT b a N)<=1\/b<=N+1)/\zJ w b (K+1) (jJ (nsT b a N) (-2,2)).1 (jJ (nsT b a N) (-2,2)).2 r w'):=by
 obtain⟨W,hW⟩:∃ W,W=(w.alloc (.cells z.q 36)).alloc (.cells zCq 36):=⟨_,rfl⟩;have b8:Below w.heap.size w W:=by rw[hW];exact bl2 _ _ _
 have A:SpC W w.heap.size z:=by rw[hW];constructor<;>simp[go_sem]
 have R:NoC W (w.heap.size+1):=by rw[hW];constructor<;>simp[go_sem]
 have HX:=zC ((hz.bw b8).mono hkK);have HB:=zC hbits;have Mh:=zG b
 have mg:Q b*1048576<P K:=by
  have e:Q (b+20)=Q b*Q 20:=jD b 20;have e2:Q 20=1048576:=rfl;rw[e,e2] at hK;exact hK
 have lR:=R.lt;have lA:=A.lt;clear hz hbits
 go_enter Tryz.func195,Tryz.ntmps195
 go_wp2;rw[<- hW];clear hW;have HK:=zC (show ∀ w',Below W.heap.size W w'->(cK0 w' w.heap.size z) from λ w' hB=>⟨(A.bw hB).c0,(A.bw hB).c1,(A.bw hB).c2,(A.bw hB).c3,(A.bw hB).c4⟩)
 obtain⟨x0,x1,x2,x3,x4⟩:=zA HK _ (Below.refl _ _);have m8:Below W.heap.size W W.drew:=(Below.refl _ _).drew;have Pe:=zC ((zA HX).bw m8)
 go_cut [3,4] (λ p q wx=>TwoP W wx b K K a a p q)
 case first =>
  go_region_held3 (λ w'=>cK0 w' w.heap.size z) (exact zA HK _ (by repeat' (first|with_reducible exact m8|with_reducible exact Below.refl _ _|with_reducible refine Below.drew ?_|with_reducible refine zL ?_ _|with_reducible refine Below.setCell ?_ (by with_reducible first|exact XW _|exact Yh _) _)))
   (fail)
  all_goals
   go_wp2_with fail;go_meet
   first
    | with_reducible exact (zFE (x:=z) (y:=z) (Below.refl _ _) (zA HX) (zA HX) (zA HB) (zA HB)).drew
    | with_reducible exact (zE0 (x:=z) (y:=z) (Below.refl _ _) (zA HX) (zA HX) (zA HB) (zA HB)).drew
 case rest =>
 obtain⟨BU,CU,xU,yU,rfl,rfl,vB,Jb,hneU,XU,YU,hxU,hyU,bxU,byU,hblU⟩:=hcut;have J8:0<=z.bits:=by have:=zA HB;omega
 have iz:z.bits<=100000:=by have:=zA HB;omega
 have N9:NearSt w wc BU CU b K z xU yU a (npT b a 0) (nsT b a 0):=⟨A.bw hblU,XU,YU,(zA HX).bw hblU,hxU,hyU,bxU,byU,R.bw hblU,zB b8 hblU,by omega,by omega,by omega,by omega,by omega,by omega,hneU⟩
 have P7:Hid (∀ j,-P K<(npT b a j).1/\(npT b a j).2<P K):=zC (λ j=>by
  obtain⟨g1,g2,g3,g4⟩:=zJ1 ha j
  omega)
 have sA:Hid (∀ j,-P K<(zE (npT b a (j+1)) 1 ((j:Int)+2)).1/\(zE (npT b a (j+1)) 1 ((j:Int)+2)).2<P K):=zC (λ j=>by
  obtain⟨g1,g2,g3,g4⟩:=zAH (n:=1) (d:=(j:Int)+2) (zJ1 ha (j+1)) (by omega) (by omega) (by omega)
  omega)
 have K3:Hid (∀ j,j<=b+20 -> -P K<(nsT b a j).1/\(nsT b a j).2<P K):=zC (λ j hj=>by
  obtain⟨g1,g2,g3,g4⟩:=nsT_abs ha j;have:=XK (show (j:Int)+1<=1048575 by omega) (show 0<=Q b by omega)
  omega)
 have HZB:=zC (And.intro J8 iz);clear bxU byU hxU hyU HX Pe HK A x0 x1 x2 x3 x4 XU YU R m8 mg;go_wp2_with fail
 go_loopw [5] (λ nn wr=>∃ (i:Nat) (Pp Sm:Sp),nn=.int .i64 ((i:Int)+2)/\i<=b+18/\NearSt w wr BU CU b K z Pp Sm a (npT b a i) (nsT b a i)) (λ nn _=>b+30-(intOf nn).toNat)
 case atStart=>exact⟨0,xU,yU,rfl,by omega,N9⟩
 case round =>
  obtain⟨i,Pp,Sm,rfl,hi,st⟩:=hrel;clear N9;have lz:=st.z.lt;have lp:=st.p.lt
  by_cases vS:(i:Int)+2<z.bits+20
  ·have bQ:i+1<=b+18:=by have:=zA HB;omega
   obtain⟨x0,x1,x2,x3,x4⟩:=st.z;obtain⟨⟨y0,y1,y2,y3,y4⟩,y5⟩:=st.p;go_wp2_with fail;refine (zDR _ Pp K 1 _ _ st.pp (by omega) (by omega)).mono ?_
   rintro r w1 ⟨rfl,b7⟩;rw[zDI];have er:zP ((npT b a i).1,(npT b a i).2)=zP (npT b a i):=rfl;rw[er];replace st:=st.bw b7;clear b7 er x0 x1 x2 x3 x4 y0 y1 y2 y3 y4 y5 lz lp
   by_cases hr:zP (npT b a i)<=1
   ·have HE:Hid (zP (npT b a i)<=1\/b<=i+1):=zC (Or.inl hr)
    rw[decide_eq_true hr];clear hr;have Wv:=st.s.lt;obtain⟨⟨z0,z1,z2,z3,z4⟩,z5⟩:=st.s;go_wp2_with fail;refine (zF6 _ Sm K 2 _ _ st.sp (by omega) (by omega) (by omega) (by omega)).mono ?_
    rintro r w7 ⟨v7,rfl,H9,M3,I8⟩;obtain⟨q0,q1,q2,q3,q4,q5⟩:=st.no.bw I8;have fD:=zB st.be I8;have jz:=zC (H9.trans st.sb);clear H9 I8;go_wp2_with fail;refine bodyPost_ret (v:=.agg v7.q) (by simp[results,Tryz.results195,go_sem,q0,q1,q2,q3,q4]) rfl ⟨i,by omega,zA HE,v7,rfl,zA jz,?_,?_⟩
    ·exact SpAt.put5 M3 q0 q1 q2 q3 q4 _ _ _ _ _
    ·exact kB fD (Yh _) _ _ _ _ _
   ·rw[decide_eq_false hr]
    clear hr;have lz:=st.z.lt;have lp:=st.p.lt;obtain⟨x0,x1,x2,x3,x4⟩:=st.z;obtain⟨⟨y0,y1,y2,y3,y4⟩,y5⟩:=st.p;go_wp2_with fail;refine (yV _ Pp z K b (npT b a i) a st.pp st.zp (by omega) st.pb (by omega)).mono ?_
    rintro r w2 ⟨v1,rfl,D6,F7,b9⟩;have e1:kJ b (npT b a i) a=npT b a (i+1):=rfl;rw[e1] at F7;replace F7:=F7.fits (K:=K) (zLH hle (i+1)) (zA P7 _).1 (zA P7 _).2;replace st:=st.bw b9;have pR:=zC D6;clear b9 D6 e1 x0 x1 x2 x3 x4 y0 y1 y2 y3 y4 y5 lz lp;have stn:NearSt w (zQ w2 BU v1) BU CU b K z v1 Sm a (npT b a (i+1)) (nsT b a i):=⟨st.z.off (Ne.symm st.m1) v1,st.p.put v1,st.s.off (Ne.symm st.n) v1,st.zp.put st.p.c v1,F7.put st.p.c v1,st.sp.put st.p.c v1,zA pR,st.sb,st.no.off (Ne.symm st.l1) v1,jC st.be st.k1 v1,st.l1,st.l2,st.m1,st.m2,st.k1,st.k2,st.n⟩;have lp:=st.p.lt;obtain⟨⟨y0,y1,y2,y3,y4⟩,y5⟩:=st.p;clear st F7;obtain⟨V1,M4⟩:∃ V1,V1=zQ w2 BU v1:=⟨_,rfl⟩;rw[<- M4] at stn;unfold zQ at M4;go_wp2_with fail;rw[<- M4];clear M4 y0 y1 y2 y3 y4 y5 lp;have st:=stn;clear stn;have lp:=st.p.lt;have dP:=zC st.pp;have JB:=zC st.pb;have Pf:=zC (show ∀ w',Below V1.heap.size V1 w'->(cK0 w' BU v1) from λ w' hB=>⟨(st.p.bw hB).c.c0,(st.p.bw hB).c.c1,(st.p.bw hB).c.c2,(st.p.bw hB).c.c3,(st.p.bw hB).c.c4⟩)
    obtain⟨y0,y1,y2,y3,y4⟩:=zA Pf _ (Below.refl _ _)
    go_cut [6] (λ p wx=>∃ (B:Nat) (u:Sp),p=.pointer (some ⟨B,0,none⟩)/\V1.heap.size<=B/\VrC wx B u/\SpAt wx u K (zE (npT b a (i+1)) 1 ((i:Int)+2)).1 (zE (npT b a (i+1)) 1 ((i:Int)+2)).2/\u.bits=(b:Int)/\Below V1.heap.size V1 wx)
    case first =>
     go_region_held3 (λ w'=>cK0 w' BU v1) (exact zA Pf _ (by repeat' (first|with_reducible exact xC|with_reducible exact fQ|with_reducible exact nj|with_reducible exact Below.refl _ _|with_reducible refine Below.drew ?_|with_reducible refine zL ?_ _|with_reducible refine Below.setCell ?_ (by first|exact XW _|exact xD|exact xF|exact xG) _)))
      (first
       | (go_at_call 56;have hq:=fQ;refine (zGG _ v1 ⟨FM,aT1,nT1,cT1⟩ ⟨FN,aT2,nT2,cT2⟩ K _ _ b (npT b a (i+1)) 1 ((i:Int)+2) ((zA dP).bw (by with_reducible first|exact fQ|exact zL fQ _)) (np.bw (by with_reducible first|exact Below.refl _ _|exact bl1 _ _)) (xH.bw (by with_reducible first|exact Below.refl _ _|exact bl1 _ _)) (by omega) (by omega) (by omega) (by omega) (zA JB)).mono ?_;rintro r Xx ⟨Xy,rfl,sD,FO,xI⟩;have FP:=zC sD;clear sD;have nt:Below JC.heap.size JC Xx:=(by with_reducible first|exact xI|exact zB (bl1 _ _) xI);have xC:=zB fQ nt;(try with_reducible have Xz:=(zM JC 36).bw xI);replace np:=np.bw nt;(try replace Cd:=Cd.bw nt);replace xH:=xH.bw nt;(try replace JD:=JD.bw nt);have xG:=xC.size;(try have XA:=Cd.lt);(try have eT1:=Yj XA);(try have eT1':=Yi XA);(try obtain⟨zT10,zT11,zT12,zT13,zT14,zT15⟩:=Cd);(try have XB:=JD.lt);(try have eT2:=Yj XB);(try have eT2':=Yi XB);(try obtain⟨zT20,zT21,zT22,zT23,zT24,zT25⟩:=JD);(try have XC:=Xz.lt);(try have eT3:=Yj XC);(try have eT3':=Yi XC);(try obtain⟨zT30,zT31,zT32,zT33,zT34,zT35⟩:=Xz))
       | (go_at_call 43;have hq:=nj;refine (zD ((i:Int)+2) _ (by omega) (by omega)).mono ?_;rintro r JC ⟨FN,aT2,nT2,cT2,rfl,xH,xJ⟩;have xQ:Below JE.heap.size JE JC:=(by with_reducible first|exact xJ|exact zB (bl1 _ _) xJ);have fQ:=zB nj xQ;(try with_reducible have JD:=(zM JE 36).bw xJ);replace np:=np.bw xQ;(try replace Cd:=Cd.bw xQ);have xF:=fQ.size)
       | (go_at_call 43;refine (zD 1 _ (by decide) (by decide)).mono ?_;rintro r JE ⟨FM,aT1,nT1,cT1,rfl,np,xR⟩;have nj:Below V1.heap.size V1 JE:=(by with_reducible first|exact zB (Below.refl _ _).drew xR|exact zB (bl1 _ _).drew xR);(try with_reducible have Cd:=((zM V1 36).bw (Below.refl _ _).drew).bw xR);have xD:=nj.size))
     all_goals
      have hfinT:SpAt Xx Xy K (zE (npT b a (i+1)) 1 ((i:Int)+2)).1 (zE (npT b a (i+1)) 1 ((i:Int)+2)).2:=(by rw[zA7 (zLH hle (i+1)) (by omega)] at FO;exact FO.fits (K:=K) (kR (zLH hle (i+1)) (by omega) (by omega)) (zA sA i).1 (zA sA i).2)
      go_wp2_with fail;go_meet;refine⟨_,Xy,rfl,?_,⟨⟨?_,?_,?_,?_,?_⟩,?_⟩,?_,zA FP,?_⟩
      ·first|exact XW _|exact xD|exact xF|exact xG
      ·simp[go_sem, *]
      ·simp[go_sem, *]
      ·simp[go_sem, *]
      ·simp[go_sem, *]
      ·simp[go_sem, *]
      ·intro o;simp[go_sem, *]
      ·first|with_reducible exact hfinT.bw (bl1 _ _)|with_reducible exact SpAt.put5 hfinT (by assumption) (by assumption) (by assumption) (by assumption) (by assumption) _ _ _ _ _
      ·repeat' (first|with_reducible exact xC|with_reducible exact fQ|with_reducible exact nj|with_reducible exact Below.refl _ _|with_reducible refine Below.drew ?_|with_reducible refine zL ?_ _|with_reducible refine Below.setCell ?_ (by first|exact XW _|exact xD|exact xF|exact xG) _)
    case rest =>
    obtain⟨BT,xT,rfl,hHT,XT,hpT,hxbT,hblT⟩:=hcut;replace st:=st.bw hblT;clear y0 y1 y2 y3 y4 Pf dP JB lp;have oI:=zC hxbT;clear hxbT;have lT:=XT.lt;have ls:=st.s.lt;obtain⟨⟨y0,y1,y2,y3,y4⟩,y5⟩:=st.s;obtain⟨⟨t0,t1,t2,t3,t4⟩,t5⟩:=XT
    by_cases pT:(i+2) % 2=0
    ·have wZ:=zC (show zAF (nsT b a i) (zE (npT b a (i+1)) 1 ((i:Int)+2))=nsT b a (i+1) by rw[nsT,if_pos pT])
     have X9:((i:Int)+2) % 2=0:=by omega
     have T7:((i:Int)+2).tmod 2=0:=by rw[Int.tmod_eq_emod_of_nonneg (by omega)];omega
     clear pT;go_wp2_with fail;clear y0 y1 y2 y3 y4 y5 t0 t1 t2 t3 t4 t5 X9 T7;refine (zC3 _ Sm xT K b (nsT b a i) (zE (npT b a (i+1)) 1 ((i:Int)+2)) st.sp hpT (by omega) st.sb).mono ?_
     rintro r w5 ⟨v5,rfl,J5,G5,A7⟩;rw[zA wZ] at G5;replace G5:=G5.fits (K:=K) (zPL hle (i+1)) (zA K3 (i+1) (by omega)).1 (zA K3 (i+1) (by omega)).2
     replace st:=st.bw A7;have ka:=zC J5;clear A7 J5 hpT;have stn:NearSt w (zQ w5 CU v5) BU CU b K z v1 v5 a (npT b a (i+1)) (nsT b a (i+1)):=⟨st.z.off (Ne.symm st.m2) v5,st.p.off st.n v5,st.s.put v5,st.zp.put st.s.c v5,st.pp.put st.s.c v5,G5.put st.s.c v5,st.pb,zA ka,st.no.off (Ne.symm st.l2) v5,jC st.be st.k2 v5,st.l1,st.l2,st.m1,st.m2,st.k1,st.k2,st.n⟩;have Wt:=st.s.lt;obtain⟨⟨y0,y1,y2,y3,y4⟩,y5⟩:=st.s;clear st G5;obtain⟨V6,R8⟩:∃ V6,V6=zQ w5 CU v5:=⟨_,rfl⟩;rw[<- R8] at stn;unfold zQ at R8;go_wp2_with fail;rw[<- R8];clear R8 y0 y1 y2 y3 y4 y5
     go_roundw
     case rel=>exact⟨i+1,v1,v5,by go_num,by omega,stn⟩
     case measure=>simp[intOf];omega
    ·have wZ:=zC (show jJ (nsT b a i) (zE (npT b a (i+1)) 1 ((i:Int)+2))=nsT b a (i+1) by rw[nsT,if_neg pT])
     have X9:((i:Int)+2) % 2=1:=by omega
     have T7:((i:Int)+2).tmod 2=1:=by rw[Int.tmod_eq_emod_of_nonneg (by omega)];omega
     clear pT;go_wp2_with fail;clear y0 y1 y2 y3 y4 y5 t0 t1 t2 t3 t4 t5 X9 T7;refine (yY _ Sm xT K b (nsT b a i) (zE (npT b a (i+1)) 1 ((i:Int)+2)) st.sp hpT (by omega) st.sb).mono ?_
     rintro r w5 ⟨v5,rfl,J5,G5,A7⟩;rw[zA wZ] at G5;replace G5:=G5.fits (K:=K) (zPL hle (i+1)) (zA K3 (i+1) (by omega)).1 (zA K3 (i+1) (by omega)).2
     replace st:=st.bw A7;have ka:=zC J5;clear A7 J5 hpT;have stn:NearSt w (zQ w5 CU v5) BU CU b K z v1 v5 a (npT b a (i+1)) (nsT b a (i+1)):=⟨st.z.off (Ne.symm st.m2) v5,st.p.off st.n v5,st.s.put v5,st.zp.put st.s.c v5,st.pp.put st.s.c v5,G5.put st.s.c v5,st.pb,zA ka,st.no.off (Ne.symm st.l2) v5,jC st.be st.k2 v5,st.l1,st.l2,st.m1,st.m2,st.k1,st.k2,st.n⟩;have Wt:=st.s.lt;obtain⟨⟨y0,y1,y2,y3,y4⟩,y5⟩:=st.s;clear st G5;obtain⟨V6,R8⟩:∃ V6,V6=zQ w5 CU v5:=⟨_,rfl⟩;rw[<- R8] at stn;unfold zQ at R8;go_wp2_with fail;rw[<- R8];clear R8 y0 y1 y2 y3 y4 y5
     go_roundw
     case rel=>exact⟨i+1,v1,v5,by go_num,by omega,stn⟩
     case measure=>simp[intOf];omega
  ·have HE:Hid (zP (npT b a i)<=1\/b<=i+1):=zC (Or.inr (by have:=zA HB;omega))
   obtain⟨x0,x1,x2,x3,x4⟩:=st.z;have Wv:=st.s.lt;obtain⟨⟨z0,z1,z2,z3,z4⟩,z5⟩:=st.s;go_wp2_with fail;refine (zF6 _ Sm K 2 _ _ st.sp (by omega) (by omega) (by omega) (by omega)).mono ?_
   rintro r w7 ⟨v7,rfl,H9,M3,I8⟩;obtain⟨q0,q1,q2,q3,q4,q5⟩:=st.no.bw I8;have fD:=zB st.be I8;have jz:=zC (H9.trans st.sb);clear H9 I8;go_wp2_with fail;refine bodyPost_ret (v:=.agg v7.q) (by simp[results,Tryz.results195,go_sem,q0,q1,q2,q3,q4]) rfl ⟨i,by omega,zA HE,v7,rfl,zA jz,?_,?_⟩
   ·exact SpAt.put5 M3 q0 q1 q2 q3 q4 _ _ _ _ _
   ·exact kB fD (Yh _) _ _ _ _ _
structure LmW (w wr:World) (X Y:Nm) (n d:Int) (BT BU BA:Nat) (T U:Sp) (A:Nm) (m k K:Nat) (a c:Int × Int):Prop where
 x:NmC wr w.heap.size X
 y:NmC wr (w.heap.size+1) Y
 ix:IntAt wr X.neg X.a X.n X.cap 20 n
 iy:IntAt wr Y.neg Y.a Y.n Y.cap 20 d
 t:VrC wr BT T
 u:VrC wr BU U
 at_:VnC wr BA A
 tb:T.bits=(m:Int)
 ub:U.bits=(m:Int)
 tp:SpAt wr T K a.1 a.2
 up:SpAt wr U K c.1 c.2
 ap:IntAt wr A.neg A.a A.n A.cap (k+20) (n+(k:Int)*d)
 r:NoC wr (w.heap.size+1+1)
 be:Below w.heap.size w wr
 l1:w.heap.size+1+1<BT
 l2:w.heap.size+1+1<BU
 l3:w.heap.size+1+1<BA
 n1:BT≠BU
 n2:BT≠BA
 n3:BU≠BA
theorem LmW.bw {w wr:World} {X Y:Nm} {n d:Int} {BT BU BA:Nat} {T U:Sp} {A:Nm} {m k K:Nat} {a c:Int × Int} (h:LmW w wr X Y n d BT BU BA T U A m k K a c) {wr':World} (hb:Below wr.heap.size wr wr'):LmW w wr' X Y n d BT BU BA T U A m k K a c :=
 ⟨h.x.bw hb,h.y.bw hb,h.ix.bw hb,h.iy.bw hb,h.t.bw hb,h.u.bw hb,h.at_.bw hb,h.tb,h.ub,h.tp.bw hb,h.up.bw hb,h.ap.bw hb,h.r.bw hb,zB h.be hb,h.l1,h.l2,h.l3,h.n1,h.n2,h.n3⟩
theorem LmW.putT {w wr:World} {X Y:Nm} {n d:Int} {BT BU BA:Nat} {T U:Sp} {A:Nm} {m k K:Nat} {a c:Int × Int} (h:LmW w wr X Y n d BT BU BA T U A m k K a c) {T':Sp} {a':Int × Int} (hb:T'.bits=(m:Int)) (hp:SpAt wr T' K a'.1 a'.2):LmW w (zQ wr BT T') X Y n d BT BU BA T' U A m k K a' c :=
 have l1:=h.l1
 ⟨h.x.offP (by omega) _,h.y.offP (by omega) _,h.ix.put h.t.c _,h.iy.put h.t.c _,h.t.put _,h.u.off (Ne.symm h.n1) _,⟨h.at_.c.offP (Ne.symm h.n2) _,zD8 h.at_.fz _⟩,hb,h.ub,hp.put h.t.c _,h.up.put h.t.c _,h.ap.put h.t.c _,h.r.off (by omega) _,kB h.be (by omega) _ _ _ _ _,h.l1,h.l2,h.l3,h.n1,h.n2,h.n3⟩
theorem LmW.putU {w wr:World} {X Y:Nm} {n d:Int} {BT BU BA:Nat} {T U:Sp} {A:Nm} {m k K:Nat} {a c:Int × Int} (h:LmW w wr X Y n d BT BU BA T U A m k K a c) {U':Sp} {c':Int × Int} (hb:U'.bits=(m:Int)) (hp:SpAt wr U' K c'.1 c'.2):LmW w (zQ wr BU U') X Y n d BT BU BA T U' A m k K a c' :=
 have l2:=h.l2
 ⟨h.x.offP (by omega) _,h.y.offP (by omega) _,h.ix.put h.u.c _,h.iy.put h.u.c _,h.t.off h.n1 _,h.u.put _,⟨h.at_.c.offP (Ne.symm h.n3) _,zD8 h.at_.fz _⟩,h.tb,hb,h.tp.put h.u.c _,hp.put h.u.c _,h.ap.put h.u.c _,h.r.off (by omega) _,kB h.be (by omega) _ _ _ _ _,h.l1,h.l2,h.l3,h.n1,h.n2,h.n3⟩
theorem LmW.putB {w wr:World} {X Y:Nm} {n d:Int} {BT BU BA:Nat} {T U:Sp} {A:Nm} {m k K:Nat} {a c:Int × Int} (h:LmW w wr X Y n d BT BU BA T U A m k K a c) {T' U':Sp} {a' c':Int × Int} (hb:T'.bits=(m:Int)) (hp:SpAt wr T' K a'.1 a'.2) (Q6:U'.bits=(m:Int)) (DN:SpAt wr U' K c'.1 c'.2):LmW w (zQ (zQ wr BT T') BU U') X Y n d BT BU BA T' U' A m k K a' c' :=
 (h.putT hb hp).putU Q6 (DN.put h.t.c _)
theorem LmW.putA {w wr:World} {X Y:Nm} {n d:Int} {BT BU BA:Nat} {T U:Sp} {A:Nm} {m k K:Nat} {a c:Int × Int} (h:LmW w wr X Y n d BT BU BA T U A m k K a c) {A':Nm} (hp:IntAt wr A'.neg A'.a A'.n A'.cap (k+1+20) (n+((k+1:Nat):Int)*d)):LmW w (zAX wr BA A') X Y n d BT BU BA T U A' m (k+1) K a c :=
 have l3:=h.l3
 ⟨h.x.off (by omega) _ _,h.y.off (by omega) _ _,h.ix.putv h.at_ _,h.iy.putv h.at_ _,h.t.offv h.n2 _,h.u.offv h.n3 _,h.at_.put _,h.tb,h.ub,h.tp.put2 h.at_.c.c0 h.at_.c.c1 _ _,h.up.put2 h.at_.c.c0 h.at_.c.c1 _ _,hp.putv h.at_ _,h.r.offv (by omega) _,zD5 h.be (by omega) _ _,h.l1,h.l2,h.l3,h.n1,h.n2,h.n3⟩
theorem lm_at (n d:Int) (k:Nat):n+(k:Int)*d+d=n+((k+1:Nat):Int)*d:=by
 rw[show ((k+1:Nat):Int)=(k:Int)+1 by omega,Int.add_mul,Int.one_mul,Int.add_assoc]
theorem lm_pos {n d:Int} {b x:Nat} (h:zJ6 n d b x) (k:Nat):0<n+(k:Int)*d:=by
 have h1:=h.n0;have h2:=Yb (show (0:Int)<=(k:Int) by omega) (show 0<=d by have:=h.d0;omega)
 omega
theorem lm_by {n d zz:Int} {b x m k:Nat} {s:LmSt} (h:zJ6 n d b x) (o:LmOk n d x m k s) (hz:(x:Int)=zz):byI s.T (zz*d) (n+((k+1:Nat):Int)*d)=lmT n d x k s.T:=by
 have h1:=h.d0;have h2:=Yb (show (0:Int)<=zz by omega) (show 0<=d by omega)
 rw[zA7 o.tl h2,<- hz]
 rfl
theorem lm_fit {n d:Int} {x m k:Nat} {T U:Int × Int} (o:LmMid n d x m k T U) (hm:m<=1000):T.2<P 100/\U.2<P 100 /\ -P 100<T.1 /\ -P 100<U.1:=by
 have h1:=zK (show m+140+1<=16*100 by omega)
 have h2:=zG (m+140);have h3:Q (m+140+1)=2*Q (m+140):=rfl;rw[Q_P] at h1;have:=o.us;have:=o.tu;have:=o.t0;have:=o.u1;omega
theorem lm_len {z l:Int} {m:Nat} (h:zDZ z l) (hz:0<z):(((m+128:Nat):Int)<l) ↔ Q (m+128)<=z:=by
 obtain⟨L,rfl,h1,h2⟩:=h.2.2 hz;constructor
 ·intro h3
  exact Int.le_trans (zK (by omega)) h1
 ·intro h3
  by_cases c:m+128<=L
  ·omega
  ·have:=zK (show L+1<=m+128 by omega)
   omega
theorem lm_e (n d:Int) (x m:Nat):∀ k,(lmS n d x m k).e<=k
 | 0=>XW _
 | k+1=>by
  have:=lm_e n d x m k
  show (zBQ n d x m k (lmS n d x m k)).e<=k+1
  unfold zBQ;split
  ·show (lmS n d x m k).e+1<=k+1;omega
  ·show (lmS n d x m k).e<=k+1;omega
end Go.Proofs.YtgmnknmjainababGreat
