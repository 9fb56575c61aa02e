/-
  Its own texts.
-/
import Derived.Test.YtgmnknmjainabacGreatK20
set_option maxRecDepth 100000
set_option maxHeartbeats 40000000
set_option linter.unnecessarySimpa false
set_option linter.unusedSimpArgs false
set_option linter.unusedVariables false
namespace Go.Proofs.YtgmnknmjainabacGreat
open Go.RowKit
attribute [local go_sem ↓] Go.wp_at_zero Go.wp_at_succ
open Ex
theorem zIA (L:Rat->Nat->Rat) (hL:Lns L) (w:World) (n d:Int) (b:Nat) (g:Nat->Rat) (h:zG0 n d b) (hg:Gam1 L ((n:Rat)/(d:Rat)) g) :
  Calls Tryz.prog 202 #[.int .i64 n,.int .i64 d,.int .i64 b] w (λ r w'=>∃ lo hi:Int,GaV g b (lo,hi)/\zH w b 70 lo hi r w'):=by
 obtain⟨W,hW⟩:∃ W,W=(((w.alloc (.cells #[.int .i64 n] 3)).alloc (.cells #[.int .i64 d] 3)).alloc (.cells zCq 31)).alloc (.cells #[.int .i64 (b:Int)] 3):=⟨_,rfl⟩;have j6:Below w.heap.size w W:=by rw[hW];exact bl4 _ _ _ _ _
 have N0:IcC W (w.heap.size) n:=by rw[hW];exact⟨by simp[go_sem]⟩
 have D0:IcC W (w.heap.size+1) d:=by rw[hW];exact⟨by simp[go_sem]⟩
 have X0:IcC W (w.heap.size+1+1+1) (b:Int):=by rw[hW];exact⟨by simp[go_sem]⟩
 have R:NoC W (w.heap.size+1+1):=by rw[hW];constructor<;>simp[go_sem]
 have n0:=h.n0;have nd:=h.nd;have dd:=h.dd;have b0:=h.b0;have b1:=h.b1;have Wn:0<=(b:Int)*d:=Yz (by omega) (by omega)
 have bd1:(b:Int)*d<=1000*2199023255552:=Int.mul_le_mul (by omega) dd (by omega) (by omega)
 have lX:=X0.lt;have H:=zC h;have HL:=zC hL;have HG:=zC hg;obtain⟨NS,nX,Z1⟩:=ga_set h;obtain⟨f1,f2,f3,f4⟩:=zCT h
 have PK:∀ j:Nat,j<=22000->Q j<P 1400:=λ j hj=>by
  rw[<- Q_P];have h1:=zJ (show j+1<=16*1400 by omega)
  have h2:Q (j+1)=2*Q j:=rfl;have:=zE j;omega
 have pP:=zC (show (ofI d n b).1<=(ofI d n b).2 /\ -P 1400<(ofI d n b).1/\(ofI d n b).2<P 1400 by
  have:=PK (b+41) (by omega)
  have:=zE b
  exact⟨f2,by omega,by omega⟩)
 have gx:=zC (show ∀ j,j<=NS -> -P 1400<(gaT n d b j).1/\(gaT n d b j).2<P 1400 from λ j _=>by
  have e:=zCS h j;have u:=ga_hi h j;have:=PK (21*b+41) (by omega)
  have:=zE (21*b+41)
  exact⟨by omega,by omega⟩)
 have gz:=zC (show ∀ j,j<=NS -> -P 1400<(jE (gaT n d b) j).1/\(jE (gaT n d b) j).2<P 1400 from λ j hj=>by
  have u:=ga_fit h j (by omega)
  have l:=(zNH h j).2.2.2;have:=PK (21*b+60) (by omega)
  have:=zE b;have:=zE (21*b+60)
  exact⟨by omega,by omega⟩)
 have gy:=zC (λ j=>(zCS h j).2)
 have Y2:=zC (λ j=>(zCS h j).1)
 have HM:=zC Z1
 have dL:=zC (show ∀ (j:Nat) (u:Sp) w',j<NS->u.bits=(b:Int)->SpAt w' u 1400 (gaT n d b j).1 (gaT n d b j).2->Below W.heap.size W w'->Calls Tryz.prog 208 #[.agg u.q,.int .i64 ((j:Int)+1),.pointer (some ⟨w.heap.size+1+1+1,0,none⟩),.pointer (some ⟨w.heap.size+1,0,none⟩),.pointer (some ⟨w.heap.size,0,none⟩)] w' (zH w' b 1414 (gaT n d b (j+1)).1 (gaT n d b (j+1)).2) from λ j u w' hj B8 B7 R9=>by
  have e:=ga1_iv w' (w.heap.size+1+1+1) (w.heap.size+1) (w.heap.size) u (b:Int) d n 1400 b ((j:Int)+1) (gaT n d b j) B7 (X0.bw R9) (D0.bw R9) (N0.bw R9) (by omega) B8 Wn (by omega) (Yz (by omega) (by omega)) (by
   have:=Int.mul_le_mul (show (j:Int)+1<=70000 by omega) dd (by omega) (by omega)
   omega) n0 (by omega)
  have ec:((j+1:Nat):Int)=(j:Int)+1:=by omega
  have e2:gaT n d b (j+1)=zK (gaT n d b j) ((b:Int)*d) (n+((j+1:Nat):Int)*d):=rfl;rw[e2,ec]
  exact e)
 have T7:=zC (show IntKind.i64.wrap (2*(b:Int))=((2*b:Nat):Int) from (jH _ (by omega) (by omega)).trans (by omega))
 have HK:=zC (show ∀ w',Below W.heap.size W w'->(w'.cell? ⟨w.heap.size,0,none⟩=some (.int .i64 n)/\w'.cell? ⟨w.heap.size+1,0,none⟩=some (.int .i64 d)/\w'.cell? ⟨w.heap.size+1+1+1,0,none⟩=some (.int .i64 (b:Int))) from λ w' hB=>⟨(N0.bw hB).c0,(D0.bw hB).c0,(X0.bw hB).c0⟩)
 clear h hL hg Z1 PK f1 f2 f3 f4;have lR:=R.lt
 go_enter Tryz.func202,Tryz.ntmps202
 go_wp2;rw[<- hW];clear hW
 go_cut [8] (λ p wx=>∃ (B:Nat) (u:Sp),p=.pointer (some ⟨B,0,none⟩)/\W.heap.size<=B/\VrC wx B u/\SpAt wx u 1403 (jW n d b NS).1 (jW n d b NS).2/\u.bits=(b:Int)/\Below W.heap.size W wx)
 case first =>
  go_region_held3 (λ w'=>w'.cell? ⟨w.heap.size,0,none⟩=some (.int .i64 n)/\w'.cell? ⟨w.heap.size+1,0,none⟩=some (.int .i64 d)/\w'.cell? ⟨w.heap.size+1+1+1,0,none⟩=some (.int .i64 (b:Int))) (exact zA HK _ (by repeat' (first|with_reducible exact sV|with_reducible exact ak|with_reducible exact K9|with_reducible exact I5|with_reducible exact Below.refl _ _|with_reducible refine Below.drew ?_|with_reducible refine zL ?_ _|with_reducible refine Below.setCell ?_ (by first|exact Yy _|exact S4|exact S5|exact fI|exact wy) _)))
   (first
    | (go_at_call 182;have hq:=ak;rw[zA T7];refine (zEL _ #[.pointer (some ⟨w.heap.size+1+1+1,0,none⟩),.pointer (some ⟨w.heap.size+1,0,none⟩),.pointer (some ⟨w.heap.size,0,none⟩)] en_ga (gaT n d b) (2*b) NS b 1400 1414 vS3 _ ((mg.bw (by with_reducible first|exact Below.refl _ _|exact bl1 _ _)).fits (K:=1400) (zA pP).1 (zA pP).2.1 (zA pP).2.2) (zA Bi) (by omega) (by omega) (by omega) (by omega) (zA HM) (by omega) (by omega) (zA gy) (zA Y2) (zA gx) (zA gz) (λ j u w' hj B8 B7 R9=>zA dL j u w' hj B8 B7 (zB (by with_reducible first|exact ak|exact zL ak _) R9))).mono ?_;rintro r Tt ⟨Tf,rfl,ry,JK,ve⟩;have Bj:=zC ry;clear ry;have ei:Below xe.heap.size xe Tt:=(by with_reducible first|exact ve|exact zB (bl1 _ _) ve);have sV:=zB ak ei;(try with_reducible have Qq:=(zQ xe 31).bw ve);replace K3:=K3.bw ei;(try replace Y8:=Y8.bw ei);replace W6:=W6.bw ei;(try replace cS:=cS.bw ei);replace mg:=mg.bw ei;(try replace sM:=sM.bw ei);have wy:=sV.size;(try have pA:=Y8.lt);(try have PW:=YD pA);(try have BN:=YC pA);(try obtain⟨fX,fY,nb,nc,ng,Em⟩:=Y8);(try have pC:=cS.lt);(try have PX:=YD pC);(try have BQ:=YC pC);(try obtain⟨fZ,gf,ni,nj,nt,En⟩:=cS);(try have Lj:=sM.lt);(try have eS3:=YD Lj);(try have Xh:=YC Lj);(try obtain⟨xT,xV,Nj,Nk,Nl,zS35⟩:=sM);(try have Sl:=Qq.lt);(try have eS4:=YD Sl);(try have Xi:=YC Sl);(try obtain⟨Np,Nq,Nr,Ns,Nt,zS45⟩:=Qq))
    | (go_at_call 88;have hq:=K9;refine (jI _ _ _ _ _ _ _ _ 4 4 b d n _ (K3.bw (by with_reducible first|exact Below.refl _ _|exact bl1 _ _)) (W6.bw (by with_reducible first|exact Below.refl _ _|exact bl1 _ _)) (by omega) (by omega) n0).mono ?_;rintro r xe ⟨vS3,rfl,rv,mg,eX⟩;have Bi:=zC rv;clear rv;have ar:Below fV.heap.size fV xe:=(by with_reducible first|exact eX|exact zB (bl1 _ _) eX);have ak:=zB K9 ar;(try with_reducible have sM:=(zQ fV 31).bw eX);replace K3:=K3.bw ar;(try replace Y8:=Y8.bw ar);replace W6:=W6.bw ar;(try replace cS:=cS.bw ar);have fI:=ak.size)
    | (go_at_call 33;have hq:=I5;refine (zD n _ (by omega) (by omega)).mono ?_;rintro r fV ⟨DY,Wb,nS2,Wy,rfl,W6,Q9⟩;have W5:Below cr.heap.size cr fV:=(by with_reducible first|exact Q9|exact zB (bl1 _ _) Q9);have K9:=zB I5 W5;(try with_reducible have cS:=(zQ cr 31).bw Q9);replace K3:=K3.bw W5;(try replace Y8:=Y8.bw W5);have S5:=K9.size)
    | (go_at_call 33;refine (zD d _ (by omega) (by omega)).mono ?_;rintro r cr ⟨DX,Wa,nS1,Wx,rfl,K3,Q8⟩;have I5:Below W.heap.size W cr:=(by with_reducible first|exact zB (Below.refl _ _).drew Q8|exact zB (bl1 _ _).drew Q8);(try with_reducible have Y8:=((zQ W 31).bw (Below.refl _ _).drew).bw Q8);have S4:=I5.size))
  all_goals
   have hfinS:SpAt Tt Tf 1403 (jW n d b NS).1 (jW n d b NS).2:=JK;go_wp2_with fail;go_meet;refine⟨_,Tf,rfl,?_,⟨⟨?_,?_,?_,?_,?_⟩,?_⟩,?_,zA Bj,?_⟩
   ·first|exact Yy _|exact S4|exact S5|exact fI|exact wy
   ·simp[go_sem, *]
   ·simp[go_sem, *]
   ·simp[go_sem, *]
   ·simp[go_sem, *]
   ·simp[go_sem, *]
   ·intro o;simp[go_sem, *]
   ·first|with_reducible exact SpAt.put5 hfinS Np Nq Nr Ns Nt _ _ _ _ _|with_reducible exact SpAt.put5 hfinS xT xV Nj Nk Nl _ _ _ _ _|with_reducible exact SpAt.put5 hfinS fZ gf ni nj nt _ _ _ _ _|with_reducible exact SpAt.put5 hfinS fX fY nb nc ng _ _ _ _ _|with_reducible exact hfinS.bw (bl1 _ _)
   ·repeat' (first|with_reducible exact sV|with_reducible exact ak|with_reducible exact K9|with_reducible exact I5|with_reducible exact Below.refl _ _|with_reducible refine Below.drew ?_|with_reducible refine zL ?_ _|with_reducible refine Below.setCell ?_ (by first|exact Yy _|exact S4|exact S5|exact fI|exact wy) _)
 case rest =>
 obtain⟨BS,xS,rfl,zm,XS,hpS,hxbS,hblS⟩:=hcut;obtain⟨V1,Q3⟩:∃ V,V=wc:=⟨_,rfl⟩;subst Q3;replace N0:=N0.bw hblS;replace D0:=D0.bw hblS;replace X0:=X0.bw hblS;replace R:=R.bw hblS;replace j6:=zB j6 hblS;have gV:=zC hxbS;have ja:=zC hpS;have lS:=XS.lt;clear hxbS hpS HK gx gz gy Y2 dL pP T7;have HK:=zC (show ∀ w',Below V1.heap.size V1 w'->(w'.cell? ⟨w.heap.size,0,none⟩=some (.int .i64 n)/\w'.cell? ⟨w.heap.size+1,0,none⟩=some (.int .i64 d)/\w'.cell? ⟨w.heap.size+1+1+1,0,none⟩=some (.int .i64 (b:Int))) from λ w' hB=>⟨(N0.bw hB).c0,(D0.bw hB).c0,(X0.bw hB).c0⟩)
 have nJ:=zC (show Q (b+4)<P 500 by
  rw[<- Q_P];have h1:=zJ (show b+4+1<=16*500 by omega)
  have h2:Q (b+4+1)=2*Q (b+4):=rfl;have:=zE (b+4)
  omega)
 have d0:0<d:=by omega
 go_wp2_with fail
 go_cut [9] (λ p wx=>∃ (B:Nat) (u:Sp) (o:Int × Int),p=.pointer (some ⟨B,0,none⟩)/\zQI L b o/\V1.heap.size<=B/\VrC wx B u/\SpAt wx u 534 (zK o n d).1 (zK o n d).2/\u.bits=(b:Int)/\Below V1.heap.size V1 wx)
 case first =>
  go_region_held3 (λ w'=>w'.cell? ⟨w.heap.size,0,none⟩=some (.int .i64 n)/\w'.cell? ⟨w.heap.size+1,0,none⟩=some (.int .i64 d)/\w'.cell? ⟨w.heap.size+1+1+1,0,none⟩=some (.int .i64 (b:Int))) (exact zA HK _ (by repeat' (first|with_reducible exact sY|with_reducible exact ko|with_reducible exact kn|with_reducible exact bN|with_reducible exact ao|with_reducible exact W4|with_reducible exact Below.refl _ _|with_reducible refine Below.drew ?_|with_reducible refine zL ?_ _|with_reducible refine Below.setCell ?_ (by first|exact Yy _|exact fO|exact fP|exact fQ|exact wE|exact wF|exact wG) _)))
   (first
    | (go_at_call 151;have hq:=ko;refine (zBF _ vY3 ⟨Eb,We,nY4,WB⟩ ⟨Ec,Wf,nY5,WC⟩ 520 4 4 b (zGW (zN (lnT n' d' b) N1) (zN (lnT 2 1 b) N2) cc) n d ((oP.bw (zB eC bX)).bw (by with_reducible first|exact Below.refl _ _|exact bl1 _ _)) (mo.bw (by with_reducible first|exact Below.refl _ _|exact bl1 _ _)) (tJ.bw (by with_reducible first|exact Below.refl _ _|exact bl1 _ _)) (by omega) (by omega) d0 (zA Bm)).mono ?_;rintro r Tw ⟨Tj,rfl,rC,JN,vo⟩;have Bn:=zC rC;clear rC;have aZ:Below Gm.heap.size Gm Tw:=(by with_reducible first|exact vo|exact zB (bl1 _ _) vo);have sY:=zB ko aZ;(try with_reducible have Qs:=(zQ Gm 31).bw vo);replace O4:=O4.bw aZ;(try replace bK:=bK.bw aZ);replace W7:=W7.bw aZ;(try replace dR:=dR.bw aZ);(try replace jv:=jv.bw aZ);replace mo:=mo.bw aZ;(try replace zk:=zk.bw aZ);replace tJ:=tJ.bw aZ;(try replace Fj:=Fj.bw aZ);have wG:=sY.size;(try have DM:=bK.lt);(try have Xn:=YD DM);(try have Iw:=YC DM);(try obtain⟨EF,EG,EH,NF,NG,zY15⟩:=bK);(try have DN:=dR.lt);(try have Xo:=YD DN);(try have Ix:=YC DN);(try obtain⟨EI,EJ,EK,NH,NI,zY25⟩:=dR);(try have DO:=jv.lt);(try have Xp:=YD DO);(try have Iy:=YC DO);(try obtain⟨EL,EM,EN,NJ,NK,zY35⟩:=jv);(try have Sn:=zk.lt);(try have eY4:=YD Sn);(try have Xq:=YC Sn);(try obtain⟨NL,NM,NP,NQ,NR,zY45⟩:=zk);(try have Sq:=Fj.lt);(try have eY5:=YD Sq);(try have Xr:=YC Sq);(try obtain⟨NT,NV,NW,NX,NY,zY55⟩:=Fj);(try have Sr:=Qs.lt);(try have eY6:=YD Sr);(try have Xs:=YC Sr);(try obtain⟨NZ,Oa,Ob,Oc,Od,zY65⟩:=Qs))
    | (go_at_call 33;have hq:=kn;refine (zD d _ (by omega) (by omega)).mono ?_;rintro r Gm ⟨Ec,Wf,nY5,WC,rfl,tJ,vn⟩;have bX:Below Gl.heap.size Gl Gm:=(by with_reducible first|exact vn|exact zB (bl1 _ _) vn);have ko:=zB kn bX;(try with_reducible have Fj:=(zQ Gl 31).bw vn);replace O4:=O4.bw bX;(try replace bK:=bK.bw bX);replace W7:=W7.bw bX;(try replace dR:=dR.bw bX);(try replace jv:=jv.bw bX);replace mo:=mo.bw bX;(try replace zk:=zk.bw bX);have wF:=ko.size)
    | (go_at_call 33;have hq:=bN;refine (zD n _ (by omega) (by omega)).mono ?_;rintro r Gl ⟨Eb,We,nY4,WB,rfl,mo,vk⟩;have eC:Below AF.heap.size AF Gl:=(by with_reducible first|exact vk|exact zB (bl1 _ _) vk);have kn:=zB bN eC;(try with_reducible have zk:=(zQ AF 31).bw vk);replace O4:=O4.bw eC;(try replace bK:=bK.bw eC);replace W7:=W7.bw eC;(try replace dR:=dR.bw eC);(try replace jv:=jv.bw eC);have wE:=kn.size)
    | (go_at_call 125;have hq:=ao;refine (zBJ _ ⟨rX,PB,SH,PO⟩ ⟨rY,PC,SI,PQ⟩ 4 b 500 (b:Int) 1 (O4.bw (by with_reducible first|exact Below.refl _ _|exact bl1 _ _)) (W7.bw (by with_reducible first|exact Below.refl _ _|exact bl1 _ _)) (by omega) (by omega) (by omega) (by omega) (by omega) (zA nJ) (by omega)).mono ?_;rintro r AF ⟨n',d',cc,N1,N2,M3,E5,E9,T8,X6,vY3,rfl,rB,oP,fh⟩;have Bm:=zC rB;clear rB;have TY:=zC (gaLog_of (zA HL) (by omega) (by omega) M3 T8 X6);clear M3 E5 E9 T8 X6;have ay:Below pN.heap.size pN AF:=(by with_reducible first|exact fh|exact zB (bl1 _ _) fh);have bN:=zB ao ay;(try with_reducible have jv:=(zQ pN 31).bw fh);replace O4:=O4.bw ay;(try replace bK:=bK.bw ay);replace W7:=W7.bw ay;(try replace dR:=dR.bw ay);have fQ:=bN.size)
    | (go_at_call 33;have hq:=W4;refine (zD 1 _ (by omega) (by omega)).mono ?_;rintro r pN ⟨rY,PC,SI,PQ,rfl,W7,fg⟩;have eA:Below pJ.heap.size pJ pN:=(by with_reducible first|exact fg|exact zB (bl1 _ _) fg);have ao:=zB W4 eA;(try with_reducible have dR:=(zQ pJ 31).bw fg);replace O4:=O4.bw eA;(try replace bK:=bK.bw eA);have fP:=ao.size)
    | (go_at_call 33;refine (zD (b:Int) _ (by omega) (by omega)).mono ?_;rintro r pJ ⟨rX,PB,SH,PO,rfl,O4,fe⟩;have W4:Below V1.heap.size V1 pJ:=(by with_reducible first|exact zB (Below.refl _ _).drew fe|exact zB (bl1 _ _).drew fe);(try with_reducible have bK:=((zQ V1 31).bw (Below.refl _ _).drew).bw fe);have fO:=W4.size))
  all_goals
   have hfinY:SpAt Tw Tj 534 (zK (zGW (zN (lnT n' d' b) N1) (zN (lnT 2 1 b) N2) cc) n d).1 (zK (zGW (zN (lnT n' d' b) N1) (zN (lnT 2 1 b) N2) cc) n d).2:=JN;go_wp2_with fail;go_meet;refine⟨_,Tj,_,rfl,zA TY,?_,⟨⟨?_,?_,?_,?_,?_⟩,?_⟩,?_,zA Bn,?_⟩
   ·first|exact Yy _|exact fO|exact fP|exact fQ|exact wE|exact wF|exact wG
   ·simp[go_sem, *]
   ·simp[go_sem, *]
   ·simp[go_sem, *]
   ·simp[go_sem, *]
   ·simp[go_sem, *]
   ·intro o;simp[go_sem, *]
   ·first|with_reducible exact SpAt.put5 hfinY NZ Oa Ob Oc Od _ _ _ _ _|with_reducible exact SpAt.put5 hfinY NT NV NW NX NY _ _ _ _ _|with_reducible exact SpAt.put5 hfinY NL NM NP NQ NR _ _ _ _ _|with_reducible exact SpAt.put5 hfinY EL EM EN NJ NK _ _ _ _ _|with_reducible exact SpAt.put5 hfinY EI EJ EK NH NI _ _ _ _ _|with_reducible exact SpAt.put5 hfinY EF EG EH NF NG _ _ _ _ _|with_reducible exact hfinY.bw (bl1 _ _)
   ·repeat' (first|with_reducible exact sY|with_reducible exact ko|with_reducible exact kn|with_reducible exact bN|with_reducible exact ao|with_reducible exact W4|with_reducible exact Below.refl _ _|with_reducible refine Below.drew ?_|with_reducible refine zL ?_ _|with_reducible refine Below.setCell ?_ (by first|exact Yy _|exact fO|exact fP|exact fQ|exact wE|exact wF|exact wG) _)
 case rest =>
 obtain⟨BY,xY,oY,rfl,Ft,QD,XY,hpY,hxbY,hblY⟩:=hcut;obtain⟨V2,aR⟩:∃ V,V=wc:=⟨_,rfl⟩;subst aR;have sF:=XS.bw hblY;replace N0:=N0.bw hblY;replace D0:=D0.bw hblY;replace X0:=X0.bw hblY;replace R:=R.bw hblY;replace j6:=zB j6 hblY;replace ja:=zC ((zA ja).bw hblY);have HYB:=zC hxbY;have VF:=zC hpY;clear hxbY hpY HK XS;have lY:=XY.lt;have lS2:=sF.lt;have GE:=gaY_ok (zA H) Ft;obtain⟨l,t,NE,e1,e2,e3,e4,e5⟩:=zD1 (B:=b) (e:=11) (by omega) GE.2.1 GE.2.2.2.1
 have GV:=gaG_ok (zA HL) (zA H) (zA HG) Ft (by omega) e4 e5 nX (zA HM)
 have EO:=gaE_ok (zA H) Ft (show t<=19 by omega) e4 e5
 have SO:=zNF (zA H) nX
 have sA:=zC (show Q (b+eb t)<P 500 by
  rw[<- Q_P];have ebm:=zB2 (show t<=19 by omega)
  have sJ:eb 19=6144:=by decide
  rw[sJ] at ebm;have h1:=zJ (show b+eb t+1<=16*500 by omega)
  have h2:Q (b+eb t+1)=2*Q (b+eb t):=rfl;have:=zE (b+eb t)
  omega)
 have EX:=zC (show (gaY n d b oY).1<=(gaY n d b oY).2 /\ -P 500<(gaY n d b oY).1/\(gaY n d b oY).2<P 500 by
  have r:=GE.2.2.2.1;have ra:=zEI GE.2.1;obtain⟨r1,r2,r3,r4⟩:=ra;have h1:=zJ (show b+11<=16*500 by omega)
  rw[Q_P] at h1
  exact⟨GE.2.1,by omega,by omega⟩)
 have yo:=zC GV;have pO:=zC e1;have TN:=zC e2;have TP:=zC e4;have TQ:=zC e5;have ht:t<=1000000:=by omega
 have ym:=zC (show 0<(gaE n d b oY t NE).1/\(gaE n d b oY t NE).1<=(gaE n d b oY t NE).2/\(jW n d b NS).1<=(jW n d b NS).2 by
  have:=zE b
  exact⟨by omega,EO.2.1,SO.2.1⟩)
 clear GE GV EO SO e1 e2 e3 e4 e5 Ft;have HK:=zC (show ∀ w',Below V2.heap.size V2 w'->(w'.cell? ⟨w.heap.size,0,none⟩=some (.int .i64 n)/\w'.cell? ⟨w.heap.size+1,0,none⟩=some (.int .i64 d)/\w'.cell? ⟨w.heap.size+1+1+1,0,none⟩=some (.int .i64 (b:Int))/\cK w' BS xS (cK0 w' BY xY)) from λ w' hB=>⟨(N0.bw hB).c0,(D0.bw hB).c0,(X0.bw hB).c0,(sF.c.bw hB).c0,(sF.c.bw hB).c1,(sF.c.bw hB).c2,(sF.c.bw hB).c3,(sF.c.bw hB).c4,(XY.c.bw hB).c0,(XY.c.bw hB).c1,(XY.c.bw hB).c2,(XY.c.bw hB).c3,(XY.c.bw hB).c4⟩)
 go_wp2_with fail
 go_cut [10] (λ p wx=>∃ (B:Nat) (u:Sp),p=.pointer (some ⟨B,0,none⟩)/\V2.heap.size<=B/\VrC wx B u/\SpAt wx u 1600 (((zDW (jW n d b NS).1 (jW n d b NS).2 (gaE n d b oY t NE).1 (gaE n d b oY t NE).2 b,zEV (jW n d b NS).1 (jW n d b NS).2 (gaE n d b oY t NE).1 (gaE n d b oY t NE).2 b):Int × Int)).1 (((zDW (jW n d b NS).1 (jW n d b NS).2 (gaE n d b oY t NE).1 (gaE n d b oY t NE).2 b,zEV (jW n d b NS).1 (jW n d b NS).2 (gaE n d b oY t NE).1 (gaE n d b oY t NE).2 b):Int × Int)).2/\u.bits=(b:Int)/\Below V2.heap.size V2 wx)
 case first =>
  go_region_held3 (λ w'=>w'.cell? ⟨w.heap.size,0,none⟩=some (.int .i64 n)/\w'.cell? ⟨w.heap.size+1,0,none⟩=some (.int .i64 d)/\w'.cell? ⟨w.heap.size+1+1+1,0,none⟩=some (.int .i64 (b:Int))/\cK w' BS xS (cK0 w' BY xY)) (exact zA HK _ (by repeat' (first|with_reducible exact sS|with_reducible exact dW|with_reducible exact km|with_reducible exact dV|with_reducible exact kl|with_reducible exact kj|with_reducible exact Below.refl _ _|with_reducible refine Below.drew ?_|with_reducible refine zL ?_ _|with_reducible refine Below.setCell ?_ (by first|exact Yy _|exact vW|exact vX|exact vY|exact vZ|exact wk|exact wm) _)))
   (first
    | (go_at_call 162;have hq:=dW;refine (zDM _ xS Tc 1403 b _ _ _ _ ((zA ja).bw (by with_reducible first|exact dW|exact zL dW _)) ((show SpAt _ Tc 500 (gaE n d b oY t NE).1 (gaE n d b oY t NE).2 from (tI.bw (by with_reducible first|exact Below.refl _ _|exact bl1 _ _))).mono (by omega)) (by omega) (by omega) (zA gV) (zA ym).2.2 (zA ym).1 (zA ym).2.1).mono ?_;rintro r Tr ⟨Td,rfl,rk,JI,tZ⟩;have Bg:=zC rk;clear rk;have aq:Below Gk.heap.size Gk Tr:=(by with_reducible first|exact tZ|exact zB (bl1 _ _) tZ);have sS:=zB dW aq;(try with_reducible have Qn:=(zQ Gk 31).bw tZ);replace az:=az.bw aq;(try replace iJ:=iJ.bw aq);replace cg:=cg.bw aq;(try replace nN:=nN.bw aq);replace eI:=eI.bw aq;(try replace qh:=qh.bw aq);replace ma:=ma.bw aq;(try replace zj:=zj.bw aq);replace tI:=tI.bw aq;(try replace Fi:=Fi.bw aq);have wm:=sS.size;(try have Se:=iJ.lt);(try have eO1:=YD Se);(try have WX:=YC Se);(try obtain⟨Mt,Mv,Mw,Mx,My,zO15⟩:=iJ);(try have Sf:=nN.lt);(try have eO2:=YD Sf);(try have WY:=YC Sf);(try obtain⟨Mz,MA,MB,MC,MD,zO25⟩:=nN);(try have Sg:=qh.lt);(try have eO3:=YD Sg);(try have WZ:=YC Sg);(try obtain⟨ME,MF,MG,MH,MI,zO35⟩:=qh);(try have Sh:=zj.lt);(try have eO4:=YD Sh);(try have Xa:=YC Sh);(try obtain⟨MJ,MK,ML,MM,MN,zO45⟩:=zj);(try have Si:=Fi.lt);(try have eO5:=YD Si);(try have Xb:=YC Si);(try obtain⟨MO,MP,MQ,MR,MS,zO55⟩:=Fi);(try have Sj:=Qn.lt);(try have eO6:=YD Sj);(try have Xc:=YC Sj);(try obtain⟨MT,MV,MW,MX,MY,zO65⟩:=Qn))
    | (go_at_call 77;have hq:=km;refine (zCK _ Tb 500 b t NE (gaY n d b oY) l (SpAt.fits (K:=500) (show SpAt _ Tb 541 (gaY n d b oY).1 (gaY n d b oY).2 from (ma.bw (by with_reducible first|exact Below.refl _ _|exact bl1 _ _))) (zA EX).1 (zA EX).2.1 (zA EX).2.2) (zA Bf) (zA EX).1 (by omega) (by omega) (zA pO) (zA TN) ht (zA TP) (zA TQ) (zA sA) (by omega)).mono ?_;rintro r Gk ⟨Tc,rfl,rj,tI,tY⟩;have Po:=zC rj;clear rj;have bO:Below Gj.heap.size Gj Gk:=(by with_reducible first|exact tY|exact zB (bl1 _ _) tY);have dW:=zB km bO;(try with_reducible have Fi:=(zQ Gj 31).bw tY);replace az:=az.bw bO;(try replace iJ:=iJ.bw bO);replace cg:=cg.bw bO;(try replace nN:=nN.bw bO);replace eI:=eI.bw bO;(try replace qh:=qh.bw bO);replace ma:=ma.bw bO;(try replace zj:=zj.bw bO);have wk:=dW.size)
    | (go_at_call 92;have hq:=dV;refine (zHO _ vO3 xY 540 b (ofI (b:Int) 1 b) (zK oY n d) ((eI.bw (by with_reducible first|exact Below.refl _ _|exact bl1 _ _)).mono (by omega)) (((zA VF).bw (by with_reducible first|exact dV|exact zL dV _)).mono (by omega)) (by omega) (zA Be)).mono ?_;rintro r Gj ⟨Tb,rfl,ri,ma,tX⟩;have Bf:=zC ri;clear ri;have dZ:Below Gi.heap.size Gi Gj:=(by with_reducible first|exact tX|exact zB (bl1 _ _) tX);have km:=zB dV dZ;(try with_reducible have zj:=(zQ Gi 31).bw tX);replace az:=az.bw dZ;(try replace iJ:=iJ.bw dZ);replace cg:=cg.bw dZ;(try replace nN:=nN.bw dZ);replace eI:=eI.bw dZ;(try replace qh:=qh.bw dZ);have vZ:=km.size)
    | (go_at_call 88;have hq:=kl;refine (jI _ _ _ _ _ _ _ _ 4 4 b (b:Int) 1 _ (az.bw (by with_reducible first|exact Below.refl _ _|exact bl1 _ _)) (cg.bw (by with_reducible first|exact Below.refl _ _|exact bl1 _ _)) (by omega) (by omega) (by omega)).mono ?_;rintro r Gi ⟨vO3,rfl,rh,eI,tW⟩;have Be:=zC rh;clear rh;have lj:Below Gh.heap.size Gh Gi:=(by with_reducible first|exact tW|exact zB (bl1 _ _) tW);have dV:=zB kl lj;(try with_reducible have qh:=(zQ Gh 31).bw tW);replace az:=az.bw lj;(try replace iJ:=iJ.bw lj);replace cg:=cg.bw lj;(try replace nN:=nN.bw lj);have vY:=dV.size)
    | (go_at_call 33;have hq:=kj;refine (zD 1 _ (by omega) (by omega)).mono ?_;rintro r Gh ⟨SN,aO2,nO2,cO2,rfl,cg,tV⟩;have tv:Below Gg.heap.size Gg Gh:=(by with_reducible first|exact tV|exact zB (bl1 _ _) tV);have kl:=zB kj tv;(try with_reducible have nN:=(zQ Gg 31).bw tV);replace az:=az.bw tv;(try replace iJ:=iJ.bw tv);have vX:=kl.size)
    | (go_at_call 33;refine (zD (b:Int) _ (by omega) (by omega)).mono ?_;rintro r Gg ⟨SM,aO1,nO1,cO1,rfl,az,tT⟩;have kj:Below V2.heap.size V2 Gg:=(by with_reducible first|exact zB (Below.refl _ _).drew tT|exact zB (bl1 _ _).drew tT);(try with_reducible have iJ:=((zQ V2 31).bw (Below.refl _ _).drew).bw tT);have vW:=kj.size))
  all_goals
   have hfinO:SpAt Tr Td 1600 (((zDW (jW n d b NS).1 (jW n d b NS).2 (gaE n d b oY t NE).1 (gaE n d b oY t NE).2 b,zEV (jW n d b NS).1 (jW n d b NS).2 (gaE n d b oY t NE).1 (gaE n d b oY t NE).2 b):Int × Int)).1 (((zDW (jW n d b NS).1 (jW n d b NS).2 (gaE n d b oY t NE).1 (gaE n d b oY t NE).2 b,zEV (jW n d b NS).1 (jW n d b NS).2 (gaE n d b oY t NE).1 (gaE n d b oY t NE).2 b):Int × Int)).2:=JI.mono (by omega)
   go_wp2_with fail;go_meet;refine⟨_,Td,rfl,?_,⟨⟨?_,?_,?_,?_,?_⟩,?_⟩,?_,zA Bg,?_⟩
   ·first|exact Yy _|exact vW|exact vX|exact vY|exact vZ|exact wk|exact wm
   ·simp[go_sem, *]
   ·simp[go_sem, *]
   ·simp[go_sem, *]
   ·simp[go_sem, *]
   ·simp[go_sem, *]
   ·intro o;simp[go_sem, *]
   ·first|with_reducible exact SpAt.put5 hfinO MT MV MW MX MY _ _ _ _ _|with_reducible exact SpAt.put5 hfinO MO MP MQ MR MS _ _ _ _ _|with_reducible exact SpAt.put5 hfinO MJ MK ML MM MN _ _ _ _ _|with_reducible exact SpAt.put5 hfinO ME MF MG MH MI _ _ _ _ _|with_reducible exact SpAt.put5 hfinO Mz MA MB MC MD _ _ _ _ _|with_reducible exact SpAt.put5 hfinO Mt Mv Mw Mx My _ _ _ _ _|with_reducible exact hfinO.bw (bl1 _ _)
   ·repeat' (first|with_reducible exact sS|with_reducible exact dW|with_reducible exact km|with_reducible exact dV|with_reducible exact kl|with_reducible exact kj|with_reducible exact Below.refl _ _|with_reducible refine Below.drew ?_|with_reducible refine zL ?_ _|with_reducible refine Below.setCell ?_ (by first|exact Yy _|exact vW|exact vX|exact vY|exact vZ|exact wk|exact wm) _)
 case rest =>
 obtain⟨BO,xO,rfl,hHO,XO,hpO,hxbO,hblO⟩:=hcut;obtain⟨V3,I0⟩:∃ V,V=wc:=⟨_,rfl⟩;subst I0;have lO:=XO.lt;replace R:=R.bw hblO;replace j6:=zB j6 hblO;have Vk:=zC hxbO;have Pa:=zC hpO;have Pq:=zC XO;clear hxbO hpO HK X0 N0 D0 sF XY;have Z6:=R.lt;have nRO:w.heap.size+1+1<BO:=by omega
 have GO:=zC (show ∀ w',Below V3.heap.size V3 w'->(w'.cell? ⟨BO,2,none⟩=some (.bool xO.hn)/\w'.cell? ⟨BO,3,none⟩=some (.slice xO.ha xO.hN xO.hc)) from λ w' hB=>⟨(XO.c.bw hB).c2,(XO.c.bw hB).c3⟩)
 have D5:Below V3.heap.size V3 V3.drew:=(Below.refl _ _).drew;clear XO;go_wp2_with fail;refine AnyL.start (S:=λ w'=>w'.cell? ⟨BO,2,none⟩=some (.bool xO.hn)/\w'.cell? ⟨BO,3,none⟩=some (.slice xO.ha xO.hN xO.hc)) (l:=5) (by kernel_rfl) (zA GO _ D5) (λ hHeld=>?_)
 refine AnyL.take (i:=0) (oi:={ dst:=some 42,op:=Go.Op.fieldAddr 31 (Go.Operand.tmp 10) 1,type:=0,pos := "gamma.go:50",after:=#[],guard:=none }) (v:=.pointer (some ⟨BO,2,none⟩)) rfl (by kernel_rfl) (by kernel_rfl) (by kernel_rfl) (by kernel_rfl) (λ _ _ _ h=>h) (Or.inl ⟨by rfl,λ w hSw=>?_⟩) hHeld ?_
 ·obtain⟨s0,s1⟩:=hSw;go_simp
 try simp only[Act.put,Yo,Yp,Yq]
 refine AnyL.take (i:=1) (oi:={ dst:=some 43,op:=Go.Op.load 29 (Go.Operand.tmp 42),type:=29,pos := "gamma.go:50",after:=#[{ on:=0,ground:=Go.Ground.data }],guard:=none }) (v:=.agg #[.bool xO.hn,.slice xO.ha xO.hN xO.hc]) rfl (by kernel_rfl) (by kernel_rfl) (by kernel_rfl) (by kernel_rfl) (λ _ _ _ h=>h) (Or.inl ⟨by rfl,λ w hSw=>?_⟩) hHeld ?_
 ·obtain⟨s0,s1⟩:=hSw;go_simp
 try simp only[Act.put,Yo,Yp,Yq]
 refine AnyL.one (i:=2) (o:={ dst:=some 44,op:=Go.Op.call { callee:=Go.Callee.value (Go.Operand.func 33),args:=#[Go.Operand.const (Go.Value.int Go.IntKind.i64 1)],argTypes:=#[3] },type:=29,pos := "gamma.go:50",after:=#[],guard:=none }) (by kernel_rfl) rfl (λ Kc I3=>?_)
 go_simp
 refine (zD 1 _ (by omega) (by omega)).mono ?_
 rintro r' w1 ⟨m7,a1,n1,c1,rfl,o8,b9⟩;have y9:=zB D5 b9;clear b9;go_wp2_with fail;refine I3.out _ _ (zA GO _ y9) (λ hHeld=>?_)
 clear I3 Kc
 try simp only[Act.put,Yo,Yp,Yq]
 refine AnyL.one (i:=3) (o:={ dst:=some 45,op:=Go.Op.call { callee:=Go.Callee.value (Go.Operand.func 32),args:=#[Go.Operand.tmp 43,Go.Operand.tmp 44],argTypes:=#[29,29] },type:=29,pos := "gamma.go:50",after:=#[{ on:=1,ground:=Go.Ground.data },{ on:=2,ground:=Go.Ground.data },{ on:=2,ground:=Go.Ground.chain }],guard:=none }) (by kernel_rfl) rfl (λ Kc I3=>?_)
 go_simp
 refine (zA3 _ _ _ _ _ _ _ _ 1600 4 _ 1 _ ((zA Pa).hi.bw y9) o8 (by omega) (by omega)).mono ?_
 rintro r' w2 ⟨j7,a2,n2,c2,rfl,A5,j8⟩;have s9:=zB y9 j8;clear j8 o8;go_wp2_with fail;refine I3.out _ _ (zA GO _ s9) (λ hHeld=>?_)
 clear I3 Kc
 try simp only[Act.put,Yo,Yp,Yq]
 refine AnyL.take (i:=4) (oi:={ dst:=some 46,op:=Go.Op.fieldAddr 31 (Go.Operand.tmp 10) 1,type:=0,pos := "gamma.go:50",after:=#[{ on:=0,ground:=Go.Ground.phase },{ on:=1,ground:=Go.Ground.phase },{ on:=2,ground:=Go.Ground.phase },{ on:=3,ground:=Go.Ground.phase }],guard:=none }) (v:=.pointer (some ⟨BO,2,none⟩)) rfl (by kernel_rfl) (by kernel_rfl) (by kernel_rfl) (by kernel_rfl) (λ _ _ _ h=>h) (Or.inl ⟨by rfl,λ w hSw=>?_⟩) hHeld ?_
 ·obtain⟨s0,s1⟩:=hSw;go_simp
 try simp only[Act.put,Yo,Yp,Yq]
 refine AnyL.last (o:={ dst:=none,op:=Go.Op.store 29 (Go.Operand.tmp 46) (Go.Operand.tmp 45),type:=0,pos := "gamma.go:50",after:=#[{ on:=4,ground:=Go.Ground.data },{ on:=3,ground:=Go.Ground.data },{ on:=3,ground:=Go.Ground.chain },{ on:=0,ground:=Go.Ground.phase },{ on:=1,ground:=Go.Ground.phase },{ on:=2,ground:=Go.Ground.phase },{ on:=3,ground:=Go.Ground.phase }],guard:=none }) (by kernel_rfl) rfl (by kernel_rfl) (λ Kc I3=>?_)
 have V2:=(zA Pq).bw s9;have lA:=V2.lt;obtain⟨⟨y0,y1,y2,y3,y4⟩,y5⟩:=V2
 go_simp
 refine I3.out _ _ ?_;clear I3 Kc;have R2:=R.bw s9;obtain⟨V,hV⟩:∃ V,V=((w2.setCell ⟨BO,2,none⟩ (.bool j7)).setCell ⟨BO,3,none⟩ (.slice a2 n2 c2)):=⟨_,rfl⟩;have R3:NoC V (w.heap.size+1+1):=by rw[hV];exact R2.offH (by omega) _ _
 have A3:VrC V BO ⟨xO.ln,xO.la,xO.lN,xO.lc,j7,a2,n2,c2,xO.bits⟩:=by rw[hV];exact zOD ((zA Pq).bw s9) ⟨j7,a2,n2,c2⟩
 have i1:IntAt V xO.ln xO.la xO.lN xO.lc 1600 (gaG n d b oY t NE NS).1:=by rw[hV];exact ((zA Pa).lo.bw s9).putH y2 y3 _ _
 have i2:IntAt V j7 a2 n2 c2 1601 (gaG n d b oY t NE NS).2:=by rw[hV];exact (show IntAt w2 j7 a2 n2 c2 1601 (gaG n d b oY t NE NS).2 from A5).putH y2 y3 _ _
 have A9:Below w.heap.size w V:=by rw[hV];exact ((zB j6 s9).setCell (p:=⟨BO,2,none⟩) (by show w.heap.size<=BO;omega) _).setCell (p:=⟨BO,3,none⟩) (by show w.heap.size<=BO;omega) _
 rw[<- hV];clear hV y0 y1 y2 y3 y4 y5 lA;have gv:=zA yo
 have fit:=SpAt.fits (K:=70) (show SpAt V ⟨xO.ln,xO.la,xO.lN,xO.lc,j7,a2,n2,c2,xO.bits⟩ 1601 (gaG n d b oY t NE NS).1 (gaG n d b oY t NE NS).2 from⟨i1.mono (by omega),i2⟩) gv.le (by
  have:=gv.lo;have:=zE b;have:0<P 70:=yF 70;omega) (by
  have h1:=zJ (show b+43+1<=16*70 by omega)
  rw[Q_P] at h1;have h2:Q (b+43+1)=2*Q (b+43):=rfl;have:=zE (b+43);have:=gv.hi
  omega)
 clear gv i1 i2;have lA:=A3.lt;have iE:=R3.lt;obtain⟨⟨y0,y1,y2,y3,y4⟩,y5⟩:=A3;obtain⟨q0,q1,q2,q3,q4,q5⟩:=R3;go_wp2_with fail;refine bodyPost_ret (v:=.agg #[.bool xO.ln,.slice xO.la xO.lN xO.lc,.bool j7,.slice a2 n2 c2,.int .i64 xO.bits]) (by simp[results,Tryz.results202,go_sem,q0,q1,q2,q3,q4]) rfl ⟨_,_,zA yo,⟨xO.ln,xO.la,xO.lN,xO.lc,j7,a2,n2,c2,xO.bits⟩,rfl,zA Vk,?_,?_⟩
 ·exact SpAt.put5 fit q0 q1 q2 q3 q4 _ _ _ _ _
 ·exact jV A9 (by omega) _ _ _ _ _
theorem fieldG0 (x y:Bool) (a a':Option Addr) (n c n' c':Nat) (b:Int) (w:World):(Instr.field 31 (.agg #[.bool x,.slice a n c,.bool y,.slice a' n' c',.int .i64 b]) 0).run Tryz.prog w=.ok (.agg #[.bool x,.slice a n c]) w:=by kernel_rfl
theorem fieldG1 (x y:Bool) (a a':Option Addr) (n c n' c':Nat) (b:Int) (w:World):(Instr.field 31 (.agg #[.bool x,.slice a n c,.bool y,.slice a' n' c',.int .i64 b]) 1).run Tryz.prog w=.ok (.agg #[.bool y,.slice a' n' c']) w:=by kernel_rfl
theorem zPG (w:World) (s:Sp) (b:Nat) (a:Int × Int) (hs:SpAt w s 70 a.1 a.2) (hbits:s.bits=(b:Int)) (O9:40<=b) (hb:b<=1000) (ha:0<a.1) (CA:a.1<=a.2) :
  Calls Tryz.prog 201 #[.agg s.q] w (λ r w'=>∃ (p1 p2 r1 r2:Int) (l1 l2:Nat->Rat),LsIn a b (p1,p2) (r1,r2) l1 l2/\LbOk b (p1,p2)/\LbOk b (r1,r2)/\zH w b 520 p1 r2 r w'):=by
 obtain⟨W,hW⟩:∃ W,W=(w.alloc (.cells s.q 31)).alloc (.cells zCq 31):=⟨_,rfl⟩;have j6:Below w.heap.size w W:=by rw[hW];exact bl2 _ _ _
 have A:SpC W w.heap.size s:=by rw[hW];constructor<;>simp[go_sem]
 have R:NoC W (w.heap.size+1):=by rw[hW];constructor<;>simp[go_sem]
 have HS:=zC (hs.bw j6);have HB:=zC hbits;have lR:=R.lt;have lA:=A.lt
 have nJ:=zC (show Q (b+4)<P 500 by
  rw[<- Q_P];have h1:=zJ (show b+4+1<=16*500 by omega)
  have h2:Q (b+4+1)=2*Q (b+4):=rfl;have:=zE (b+4)
  omega)
 have gR:=zC (show 0<Q b by have:=zE b;omega)
 have HO:=zC (show 1*Q b=Q b by omega)
 have HA:=zC (show 0<a.1/\0<a.2/\a.1<=a.2 from⟨ha,by omega,CA⟩)
 have HK:=zC (show ∀ w',Below W.heap.size W w'->(cK0 w' w.heap.size s) from λ w' hB=>⟨(A.bw hB).c0,(A.bw hB).c1,(A.bw hB).c2,(A.bw hB).c3,(A.bw hB).c4⟩)
 clear hs hbits ha CA;have CH:=fieldG0;have hf1:=fieldG1
 go_enter Tryz.func201,Tryz.ntmps201
 go_wp2;rw[<- hW];clear hW lR
 go_cut [3] (λ p wx=>∃ (B:Nat) (u:Nm),p=.pointer (some ⟨B,0,none⟩)/\W.heap.size<=B/\NmC wx B u/\IntAt wx u.neg u.a u.n u.cap 70 (Q b)/\Below W.heap.size W wx)
 case first =>
  have D5:Below W.heap.size W W.drew:=(Below.refl _ _).drew
  go_region_held3 (λ w'=>cK0 w' w.heap.size s) (exact zA HK _ (by repeat' (first|with_reducible exact o9|with_reducible exact A7|with_reducible exact Below.refl _ _|with_reducible refine Below.drew ?_|with_reducible refine zL ?_ _|with_reducible refine Below.setCell ?_ (by first|exact Yy _|exact K8|exact M8) _)))
   (first
    | (go_at_call 116;have hq:=A7;refine (zGT _ _ _ _ _ b 4 1 _ (zA HB) (o8.bw (by with_reducible first|exact Below.refl _ _|exact bl1 _ _)) (by omega) (by omega)).mono ?_;rintro r w2 ⟨j7,a2,n2,c2,rfl,A5,j8⟩;have kx:Below w1.heap.size w1 w2:=(by with_reducible first|exact j8|exact zB (bl1 _ _) j8);have o9:=zB A7 kx;(try with_reducible have g2:=(kB w1 29).bw j8);(try replace g1:=g1.bw kx);have M8:=o9.size;(try have m1:=g1.lt);(try have m2:=g2.lt);(try obtain⟨z10,z11,z1f⟩:=g1);(try obtain⟨z20,z21,z2f⟩:=g2))
    | (go_at_call 33;refine (zD 1 _ (by omega) (by omega)).mono ?_;rintro r w1 ⟨m7,a1,n1,c1,rfl,o8,b9⟩;have A7:Below W.heap.size W w1:=(by with_reducible first|exact zB (Below.refl _ _).drew b9|exact zB (bl1 _ _).drew b9);(try with_reducible have g1:=((kB W 29).bw (Below.refl _ _).drew).bw b9);have K8:=A7.size))
  all_goals
   have vF:IntAt w2 j7 a2 n2 c2 70 (Q b):=by rw[zA HO] at A5;exact A5.mono (by omega)
   go_wp2_with fail;go_meet;refine⟨_,⟨j7,a2,n2,c2⟩,rfl,?_,⟨?_,?_⟩,?_,?_⟩
   ·first|exact Yy _|exact K8|exact M8
   ·simp[go_sem, *]
   ·simp[go_sem, *]
   ·first|with_reducible exact vF.put2 z20 z21 _ _|with_reducible exact vF.put2 z10 z11 _ _|with_reducible exact vF.bw (bl1 _ _)
   ·repeat' (first|with_reducible exact o9|with_reducible exact A7|with_reducible exact Below.refl _ _|with_reducible refine Below.drew ?_|with_reducible refine zL ?_ _|with_reducible refine Below.setCell ?_ (by first|exact Yy _|exact K8|exact M8) _)
 case rest =>
 obtain⟨BU,U,rfl,Cp,CU,hU,hblU⟩:=hcut;have lR:=R.lt;have A2:=A.bw hblU;replace R:=R.bw hblU;replace HS:=zC ((zA HS).bw hblU);replace j6:=zB j6 hblU;have nRU:w.heap.size+1<BU:=by omega
 have HU:=zC hU;have gP:=zC (show ∀ w',Below wc.heap.size wc w'->(cK w' w.heap.size s (nK0 w' BU U)) from λ w' hB=>⟨(A2.bw hB).c0,(A2.bw hB).c1,(A2.bw hB).c2,(A2.bw hB).c3,(A2.bw hB).c4,(CU.bw hB).c0,(CU.bw hB).c1⟩)
 have lU:=CU.lt;clear hU HK hblU A2 CU;have n1:w.heap.size+1≠w.heap.size:=by omega
 have n2:w.heap.size+1≠BU:=by omega
 have D5:Below wc.heap.size wc wc.drew:=(Below.refl _ _).drew;obtain⟨x0,x1,x2,x3,x4,y0,y1⟩:=zA gP _ (Below.refl _ _);go_wp2_with fail
 go_region_held3 (λ w'=>cK w' w.heap.size s (nK0 w' BU U)) (first|exact zA gP _ (by with_reducible first|exact D5|exact s9|exact y9)|(dsimp only[cK,cK0,nK,nK0,rK,rK0];go_keep)|go_keep)
  (first
   | (go_at_call 125;have O3:=y9;(try rw[zA HB]);refine (zBJ _ ⟨s.hn,s.ha,s.hN,s.hc⟩ U 70 b 500 a.2 (Q b) ((zA HS).hi.bw y9) ((zA HU).bw y9) (by omega) (zA HA).2.1 (zA gR) (by omega) (by omega) (zA nJ) (by omega)).mono ?_;rintro r' w2 ⟨Sz,d2',cc2,VT,VV,qH,CD,CE,Cv,Cw,v2,rfl,P5,A5,j8⟩;have s9:=zB y9 j8;clear P5;replace o8:=o8.bw j8;have pZ:=zC (And.intro qH (And.intro CD (And.intro CE (And.intro Cv Cw))));clear qH CD CE Cv Cw;obtain⟨q0,q1,q2,q3,q4,q5⟩:=R.bw s9;obtain⟨i0,i1,i2,i3,i4,j0,j1⟩:=zA gP _ s9)
   | (go_at_call 125;(try rw[zA HB]);refine (zBJ _ ⟨s.ln,s.la,s.lN,s.lc⟩ U 70 b 500 a.1 (Q b) ((zA HS).lo.bw D5) ((zA HU).bw D5) (by omega) (zA HA).1 (zA gR) (by omega) (by omega) (zA nJ) (by omega)).mono ?_;rintro r' w1 ⟨oq,d1',cc1,VR,VS,qG,CB,CC,Cs,Ct,v1,rfl,J2,o8,b9⟩;have y9:=zB D5 b9;clear J2;have VB:=zC (And.intro qG (And.intro CB (And.intro CC (And.intro Cs Ct))));clear qG CB CC Cs Ct))
 all_goals
  go_wp2_with fail;have JR:=zA HB;obtain⟨BD,Wq,Wr,s11,s12⟩:=zA VB;obtain⟨BG,Ws,Wt,s21,s22⟩:=zA pZ;obtain⟨l1,g1,i1⟩:=zGJ (zA HA).1 (zA gR) BD b VR VS;obtain⟨l2,g2,i2⟩:=zGJ (zA HA).2.1 (zA gR) BG b VT VV;refine bodyPost_ret (v:=.agg #[.bool v1.ln,.slice v1.la v1.lN v1.lc,.bool v2.hn,.slice v2.ha v2.hN v2.hc,.int .i64 (b:Int)]) (by simp[results,Tryz.results201,go_sem,q0,q1,q2,q3,q4]) rfl ⟨_,_,_,_,l1,l2,⟨(zA HA).1,(zA HA).2.2,g1,g2,i1,i2⟩,lb_of (by omega) hb BD.1 s11 s12 70 (by omega) Wq Wr,lb_of (by omega) hb BG.1 s21 s22 70 (by omega) Ws Wt,⟨v1.ln,v1.la,v1.lN,v1.lc,v2.hn,v2.ha,v2.hN,v2.hc,(b:Int)⟩,rfl,rfl,?_,?_⟩
  ·exact SpAt.put5 (show SpAt _ (⟨v1.ln,v1.la,v1.lN,v1.lc,v2.hn,v2.ha,v2.hN,v2.hc,(b:Int)⟩:Sp) 520 _ _ from⟨o8.lo,A5.hi⟩) q0 q1 q2 q3 q4 _ _ _ _ _
  ·exact jV (zB j6 s9) (Nat.le_succ _) _ _ _ _ _
theorem GaV.pos {g:Nat->Rat} {B:Nat} {a:Int × Int} (h:GaV g B a):0<a.1:=by have:=h.lo;have:=zE B;omega
theorem zFB (w:World) (p q:Int) (b:Nat) (hp:0<p) (hq:0<q) (I8:p<=1152921504606846976) (hb:b<=1000000) :
  Calls Tryz.prog 179 #[.agg #[.int .i64 p,.int .i64 q],.int .i64 b] w (λ r w'=>r=.returned (.int .i64 (2*((b:Int)+p/q+1)))/\Below w.heap.size w w'):=by
 obtain⟨W,hW⟩:∃ W,W=w.alloc (.cells #[.int .i64 p,.int .i64 q] 23):=⟨_,rfl⟩;have j6:Below w.heap.size w W:=by rw[hW];exact bl1 _ _
 have A:RaC W w.heap.size p q:=by rw[hW];exact zMB w p q _
 have e:p.tdiv q=p/q:=Int.tdiv_eq_ediv_of_nonneg (by omega)
 obtain⟨f,hf⟩:∃ f,f=p/q:=⟨_,rfl⟩;have f0:0<=f:=by rw[hf];exact Int.ediv_nonneg (by omega) (by omega)
 have f1:f<=p:=by rw[hf];exact Int.ediv_le_self _ (by omega)
 have e':p.tdiv q=f:=by rw[e,hf]
 rw[<- hf];have dN:¬ q=0:=by omega
 have P6:¬ q = -1:=by omega
 have lA:=A.lt;obtain⟨a0,a1⟩:=A;clear e hf
 go_enter Tryz.func179,Tryz.ntmps179
 go_wp2;rw[<- hW];clear hW;go_wp2_with fail;refine bodyPost_ret (v:=.int .i64 (2*((b:Int)+f+1))) (by simp[results,Tryz.results179,go_sem]) rfl ⟨rfl,j6⟩
theorem zC1 (w:World) (s:Sp) (k b:Nat) (a:Int × Int) (p q:Int) (hs:SpAt w s k a.1 a.2) (hk:k<=100000000) (hb:s.bits=(b:Int)) (Dg : -9223372036854775808<=p) (hp:p<=9223372036854775807) (hq:0<q) (P6:q<=9223372036854775807) :
  Calls Tryz.prog 184 #[.agg s.q,.agg #[.int .i64 p,.int .i64 q]] w (zH w b (k+4+10) (zK a p q).1 (zK a p q).2):=by
 obtain⟨W,hW⟩:∃ W,W=((w.alloc (.cells s.q 31)).alloc (.cells #[.int .i64 p,.int .i64 q] 23)).alloc (.cells zCq 31):=⟨_,rfl⟩;have j6:Below w.heap.size w W:=by rw[hW];exact bl3 _ _ _ _
 have A:SpC W w.heap.size s:=by rw[hW];constructor<;>simp[go_sem]
 have D:RaC W (w.heap.size+1) p q:=by rw[hW];constructor<;>simp[go_sem]
 have R:NoC W (w.heap.size+1+1):=by rw[hW];constructor<;>simp[go_sem]
 have HS:=zC (hs.bw j6);have HB:=zC hb;have lR:=R.lt;have lA:=A.lt;have lD:=D.lt;clear hs hb;have E2:Below W.heap.size W W.drew:=(Below.refl _ _).drew;have HK:=zC (show ∀ w',Below W.heap.size W w'->(cK w' w.heap.size s (rK0 w' (w.heap.size+1) p q)) from λ w' hB=>⟨(A.bw hB).c0,(A.bw hB).c1,(A.bw hB).c2,(A.bw hB).c3,(A.bw hB).c4,(D.bw hB).c0,(D.bw hB).c1⟩)
 clear A D
 go_enter Tryz.func184,Tryz.ntmps184
 go_wp2;rw[<- hW];clear hW;have n1:w.heap.size+1+1≠w.heap.size:=by omega
 have n2:w.heap.size+1+1≠w.heap.size+1:=by omega
 obtain⟨x0,x1,x2,x3,x4,x5,x6⟩:=zA HK _ (Below.refl _ _)
 go_region_held3 (λ w'=>cK w' w.heap.size s (rK0 w' (w.heap.size+1) p q)) (first|exact zA HK _ (by with_reducible first|exact E2|exact A9|exact o9|exact A7)|(dsimp only[cK,cK0,nK,nK0,rK,rK0];go_keep)|go_keep)
  (first
   | (go_at_call 151;have O3:=o9;refine (zBF _ s ⟨m7,a1,oq,c1⟩ ⟨j7,a2,Sz,c2⟩ k 4 _ b a p q ((zA HS).bw o9) (o8.bw j8) A5 (by omega) (by omega) hq (zA HB)).mono ?_;rintro r w3 ⟨t,rfl,I2,K5,m8⟩;have HT:=zC I2;clear I2;have A9:=zB o9 m8;obtain⟨q0,q1,q2,q3,q4,q5⟩:=R.bw A9;obtain⟨i0,i1,i2,i3,i4,i5,i6⟩:=zA HK _ A9)
   | (go_at_call 33;have O3:=A7;refine (zD q _ (by omega) (by omega)).mono ?_;rintro r w2 ⟨j7,a2,Sz,c2,rfl,A5,j8⟩;have o9:=zB A7 j8)
   | (go_at_call 33;refine (zD p _ (by omega) (by omega)).mono ?_;rintro r w1 ⟨m7,a1,oq,c1,rfl,o8,b9⟩;have A7:=zB E2 b9))
 all_goals
  go_wp2;refine bodyPost_ret (v:=.agg t.q) (by simp[results,Tryz.results184,go_sem,q0,q1,q2,q3,q4]) rfl ⟨t,rfl,zA HT,?_,?_⟩
  ·exact SpAt.put5 K5 q0 q1 q2 q3 q4 _ _ _ _ _
  ·exact jV (zB j6 A9) (by omega) _ _ _ _ _
theorem lo1_iv (w:World) (B0 B1 B2:Nat) (s:Sp) (u y:Nm) (k ku ky b:Nat) (j:Int) (a:Int × Int) (un d p q:Int) (hs:SpAt w s k a.1 a.2) (hu:IntAt w u.neg u.a u.n u.cap ku un) (hy:IntAt w y.neg y.a y.n y.cap ky d) (U:NmC w B0 u) (Y:NmC w B1 y) (Z:RaC w B2 p q) (hk:k<=100000000) (hku:ku<=100000000) (hky:ky<=100000000) (hb:s.bits=(b:Int)) (hj:0<=j*q) (CS:j*q<=4611686018427387904) (hp:0<p) (I8:p<=4611686018427387903) (hd:0<d) :
  Calls Tryz.prog 183 #[.agg s.q,.int .i64 j,.pointer (some ⟨B0,0,none⟩),.pointer (some ⟨B1,0,none⟩),.pointer (some ⟨B2,0,none⟩)] w (zH w b (k+ku+10) (zK a un (d*(p+j*q))).1 (zK a un (d*(p+j*q))).2):=by
 obtain⟨W,hW⟩:∃ W,W=(w.alloc (.cells s.q 31)).alloc (.cells zCq 31):=⟨_,rfl⟩;have j6:Below w.heap.size w W:=by rw[hW];exact bl2 _ _ _
 have A:SpC W w.heap.size s:=by rw[hW];constructor<;>simp[go_sem]
 have R:NoC W (w.heap.size+1):=by rw[hW];constructor<;>simp[go_sem]
 have HS:=zC (hs.bw j6);have HU:=zC (hu.bw j6);have HY:=zC (hy.bw j6);have l0:=U.lt;have l1:=Y.lt;have l2:=Z.lt;replace U:=U.bw j6;replace Y:=Y.bw j6;replace Z:=Z.bw j6;have HB:=zC hb;have lR:=R.lt;have lA:=A.lt;have ag:=zC (show IntKind.i64.wrap (j*q)=j*q from jH _ (by omega) (by omega))
 have dK:=zC (show IntKind.i64.wrap (p+j*q)=p+j*q from jH _ (by omega) (by omega))
 have pS:=zC (show -9223372036854775808<=p+j*q/\p+j*q<=9223372036854775807 from⟨by omega,by omega⟩)
 have sz:=zC (show 0<d*(p+j*q) from Int.mul_pos hd (by omega))
 clear hs hu hy hb hj CS hp I8;have E2:Below W.heap.size W W.drew:=(Below.refl _ _).drew;have HK:=zC (show ∀ w',Below W.heap.size W w'->(cK w' w.heap.size s (nK w' B0 u (nK w' B1 y (rK0 w' B2 p q)))) from λ w' hB=>⟨(A.bw hB).c0,(A.bw hB).c1,(A.bw hB).c2,(A.bw hB).c3,(A.bw hB).c4,(U.bw hB).c0,(U.bw hB).c1,(Y.bw hB).c0,(Y.bw hB).c1,(Z.bw hB).c0,(Z.bw hB).c1⟩)
 clear U Y Z A
 go_enter Tryz.func183,Tryz.ntmps183
 go_wp2;rw[<- hW];clear hW;have DQ:w.heap.size+1≠B0:=by omega
 have FT:w.heap.size+1≠B1:=by omega
 have SB:w.heap.size+1≠B2:=by omega
 obtain⟨x0,x1,x2,x3,x4,x5,x6,x7,x8,x9,Gs⟩:=zA HK _ (Below.refl _ _)
 go_region_held3 (λ w'=>cK w' w.heap.size s (nK w' B0 u (nK w' B1 y (rK0 w' B2 p q)))) (first|exact zA HK _ (by with_reducible first|exact E2|exact A9|exact o9|exact A7)|(dsimp only[cK,cK0,nK,nK0,rK,rK0];go_keep)|go_keep)
  (first
   | (go_at_call 151;have O3:=o9;refine (zBF _ s u ⟨j7,a2,n2,c2⟩ k ku _ b a un (d*(p+j*q)) ((zA HS).bw o9) ((zA HU).bw o9) A5 (by omega) (by omega) (zA sz) (zA HB)).mono ?_;rintro r w3 ⟨t,rfl,I2,K5,m8⟩;have HT:=zC I2;clear I2;have A9:=zB o9 m8;obtain⟨q0,q1,q2,q3,q4,q5⟩:=R.bw A9;obtain⟨i0,i1,i2,i3,i4,i5,i6,i7,i8,i9,i10⟩:=zA HK _ A9)
   | (go_at_call 83;have O3:=A7;refine (zV _ _ _ _ _ _ _ _ ky 4 d (p+j*q) _ ((zA HY).bw A7) o8 (by omega) (by omega)).mono ?_;rintro r w2 ⟨j7,a2,n2,c2,rfl,A5,j8⟩;have o9:=zB A7 j8)
   | (go_at_call 33;(first|rw[zA ag,zA dK]|rw[zA dK]);refine (zD (p+j*q) _ (zA pS).1 (zA pS).2).mono ?_;rintro r w1 ⟨m7,a1,n1,c1,rfl,o8,b9⟩;have A7:=zB E2 b9))
 all_goals
  go_wp2;refine bodyPost_ret (v:=.agg t.q) (by simp[results,Tryz.results183,go_sem,q0,q1,q2,q3,q4]) rfl ⟨t,rfl,zA HT,?_,?_⟩
  ·exact SpAt.put5 K5 q0 q1 q2 q3 q4 _ _ _ _ _
  ·exact jV (zB j6 A9) (Nat.le_succ _) _ _ _ _ _
theorem en_lo (args:Array Value) (w:World):(callFunc 183 args).run Tryz.prog w=.ok (.enter 183 args) w:=by simp[go_sem,callFunc,Tryz.func183];kernel_rfl
def zLE (n d:Int) (b:Nat) (x:Nat->Rat):Prop:=∀ w':World,Calls Tryz.prog 185 #[.int .i64 n,.int .i64 d,.int .i64 b] w' (λ r T4=>∃ lo hi,zP8 x b lo hi/\zH w' b 521 lo hi r T4)
def rok2 (p q:Int):Prop := -1048576<=p/\p<=1048576/\1<=q/\q<=2048
theorem zL8 {p q:Int} (h1 : -1048576<=p) (h2:p<=1048576) (h3:0<=q) (h4:q<=2048) : -2147483648<=p*q/\p*q<=2147483648:=by
 have:=yI (x:=p) (y:=q) (m:=1048576) (n:=2048) h1 h2 (by omega) h4
 omega
theorem zKW (w:World) (p1 q1 p2 q2:Int) (h1:rok2 p1 q1) (h2:rok2 p2 q2) :
  Calls Tryz.prog 186 #[.agg #[.int .i64 p1,.int .i64 q1],.agg #[.int .i64 p2,.int .i64 q2]] w (λ r w'=>r=.returned (.agg #[.int .i64 (p1*q2+p2*q1),.int .i64 (q1*q2)])/\Below w.heap.size w w'):=by
 obtain⟨a1,a2,a3,a4⟩:=h1;obtain⟨b1,b2,b3,b4⟩:=h2;obtain⟨c1,c2⟩:=zL8 a1 a2 (show 0<=q2 by omega) b4
 obtain⟨d1,d2⟩:=zL8 b1 b2 (show 0<=q1 by omega) a4
 obtain⟨e1,e2⟩:=zL8 (p:=q1) (by omega) (by omega) (show 0<=q2 by omega) b4
 go_enter Tryz.func186,Tryz.ntmps186
 go_wp2_with fail;refine bodyPost_ret (v:=.agg #[.int .i64 (p1*q2+p2*q1),.int .i64 (q1*q2)]) (by simp[results,Tryz.results186,go_sem]) rfl ⟨rfl,?_⟩
 exact bl3 _ _ _ _
theorem zL1 (w:World) (p1 q1 p2 q2:Int) (b:Nat) (x y z:Nat->Rat) (h1:rok2 p1 q1) (h2:rok2 p2 q2) (L1:zLE p1 q1 b x) (L2:zLE p2 q2 b y) (L3:zLE (p1*q2+p2*q1) (q1*q2) b z) :
  Calls Tryz.prog 188 #[.agg #[.int .i64 p1,.int .i64 q1],.agg #[.int .i64 p2,.int .i64 q2],.int .i64 b] w (λ r w'=>∃ lo hi,LgP3 (λ M=>x M+y M-z M) b lo hi/\zH w b 523 lo hi r w'):=by
 obtain⟨W,hW⟩:∃ W,W=((w.alloc (.cells #[.int .i64 p1,.int .i64 q1] 23)).alloc (.cells #[.int .i64 p2,.int .i64 q2] 23)).alloc (.cells zCq 31):=⟨_,rfl⟩;have j6:Below w.heap.size w W:=by rw[hW];exact bl3 _ _ _ _
 have A:RaC W w.heap.size p1 q1:=by rw[hW];constructor<;>simp[go_sem]
 have D:RaC W (w.heap.size+1) p2 q2:=by rw[hW];constructor<;>simp[go_sem]
 have R:NoC W (w.heap.size+1+1):=by rw[hW];constructor<;>simp[go_sem]
 have H1:=zC L1;have H2:=zC L2;have H3:=zC L3;have HR:=zC (And.intro h1 h2);have lA:=A.lt;have lD:=D.lt;have bA:=A.c0;have bC:=A.c1;have XJ:=D.c0;have XK:=D.c1;clear L1 L2 L3 h1 h2
 go_enter Tryz.func188,Tryz.ntmps188
 go_wp2_with fail;rw[<- hW];clear hW bA bC XJ XK;refine (zKW _ p1 q1 p2 q2 (zA HR).1 (zA HR).2).mono ?_;rintro r w1 ⟨rfl,b9⟩;replace A:=A.bw b9;replace D:=D.bw b9;replace R:=R.bw b9;replace j6:=zB j6 b9;clear b9 lA lD;have lR:=R.lt;obtain⟨V,hV⟩:∃ V,V=w1.alloc (.cells #[.int .i64 (p1*q2+p2*q1),.int .i64 (q1*q2)] 23):=⟨_,rfl⟩;have bV:Below w1.heap.size w1 V:=by rw[hV];exact bl1 _ _
 have E:RaC V w1.heap.size (p1*q2+p2*q1) (q1*q2):=by rw[hV];exact zMB w1 _ _ _
 replace A:=A.bw bV;replace D:=D.bw bV;replace R:=R.bw bV;replace j6:=zB j6 bV;have lA:=A.lt;have lD:=D.lt;have lE:=E.lt;have HK:=zC (show ∀ w',Below V.heap.size V w'->(rK w' w.heap.size p1 q1 (rK w' ((w.heap.size+1)) p2 q2 (w'.cell? ⟨w1.heap.size,0,none⟩=some (.int .i64 (p1*q2+p2*q1))/\w'.cell? ⟨w1.heap.size,1,none⟩=some (.int .i64 (q1*q2))))) from λ w' hB=>⟨(A.bw hB).c0,(A.bw hB).c1,(D.bw hB).c0,(D.bw hB).c1,(E.bw hB).c0,(E.bw hB).c1⟩)
 clear bV;go_wp2_with fail;rw[<- hV];clear hV
 go_cut [8] (λ p wx=>∃ (B:Nat) (u:Sp) (l1 u1 l2 u2:Int),p=.pointer (some ⟨B,0,none⟩)/\zP8 x b l1 u1/\zP8 y b l2 u2/\V.heap.size<=B/\VrC wx B u/\SpAt wx u 522 (((l1+l2,u1+u2):Int × Int)).1 (((l1+l2,u1+u2):Int × Int)).2/\u.bits=(b:Int)/\Below V.heap.size V wx)
 case first =>
  go_region_held3 (λ w'=>rK w' w.heap.size p1 q1 (rK w' ((w.heap.size+1)) p2 q2 (w'.cell? ⟨w1.heap.size,0,none⟩=some (.int .i64 (p1*q2+p2*q1))/\w'.cell? ⟨w1.heap.size,1,none⟩=some (.int .i64 (q1*q2))))) (exact zA HK _ (by repeat' (first|with_reducible exact sP|with_reducible exact jz|with_reducible exact jy|with_reducible exact Below.refl _ _|with_reducible refine Below.drew ?_|with_reducible refine zL ?_ _|with_reducible refine Below.setCell ?_ (by first|exact Yy _|exact vK|exact vL|exact vM) _)))
   (first
    | (go_at_call 51;have hq:=jz;refine (zC2 _ vE1 vE2 521 b (l1,u1) (l2,u2) ((JC.bw th).bw (by with_reducible first|exact Below.refl _ _|exact bl1 _ _)) (JD.bw (by with_reducible first|exact Below.refl _ _|exact bl1 _ _)) (by omega) (zA AZ)).mono ?_;rintro r Tn ⟨SZ,rfl,qY,JE,tM⟩;have Ba:=zC qY;clear qY;have tj:Below Gb.heap.size Gb Tn:=(by with_reducible first|exact tM|exact zB (bl1 _ _) tM);have sP:=zB jz tj;(try with_reducible have Qk:=(zQ Gb 31).bw tM);(try replace gE1:=gE1.bw tj);(try replace gE2:=gE2.bw tj);have vM:=sP.size;(try have RY:=gE1.lt);(try have eE1:=YD RY);(try have WQ:=YC RY);(try obtain⟨LG,LH,LI,LJ,LK,zE15⟩:=gE1);(try have RZ:=gE2.lt);(try have eE2:=YD RZ);(try have WR:=YC RZ);(try obtain⟨LL,LM,LN,LO,LP,zE25⟩:=gE2);(try have Sa:=Qk.lt);(try have eE3:=YD Sa);(try have WS:=YC Sa);(try obtain⟨LQ,LR,LS,LV,LW,zE35⟩:=Qk))
    | (go_at_call 185;have hq:=jy;refine (zA H2 _).mono ?_;rintro r Gb ⟨l2,u2,I8,vE2,rfl,qX,JD,tL⟩;have Pm:=zC qX;have Ia:=zC I8;clear qX I8;have th:Below Ga.heap.size Ga Gb:=(by with_reducible first|exact tL|exact zB (bl1 _ _) tL);have jz:=zB jy th;(try with_reducible have gE2:=(zQ Ga 31).bw tL);(try replace gE1:=gE1.bw th);have vL:=jz.size)
    | (go_at_call 185;refine (zA H1 _).mono ?_;rintro r Ga ⟨l1,u1,og,vE1,rfl,qW,JC,tK⟩;have AZ:=zC qW;have Hz:=zC og;clear qW og;have jy:Below V.heap.size V Ga:=(by with_reducible first|exact zB (Below.refl _ _).drew tK|exact zB (bl1 _ _).drew tK);(try with_reducible have gE1:=((zQ V 31).bw (Below.refl _ _).drew).bw tK);have vK:=jy.size))
  all_goals
   have hfinE:SpAt Tn SZ 522 (((l1+l2,u1+u2):Int × Int)).1 (((l1+l2,u1+u2):Int × Int)).2:=JE;go_wp2_with fail;go_meet;refine⟨_,SZ,l1,u1,l2,u2,rfl,zA Hz,zA Ia,?_,⟨⟨?_,?_,?_,?_,?_⟩,?_⟩,?_,zA Ba,?_⟩
   ·first|exact Yy _|exact vK|exact vL|exact vM
   ·simp[go_sem, *]
   ·simp[go_sem, *]
   ·simp[go_sem, *]
   ·simp[go_sem, *]
   ·simp[go_sem, *]
   ·intro o;simp[go_sem, *]
   ·first|with_reducible exact SpAt.put5 hfinE LQ LR LS LV LW _ _ _ _ _|with_reducible exact SpAt.put5 hfinE LL LM LN LO LP _ _ _ _ _|with_reducible exact SpAt.put5 hfinE LG LH LI LJ LK _ _ _ _ _|with_reducible exact hfinE.bw (bl1 _ _)
   ·repeat' (first|with_reducible exact sP|with_reducible exact jz|with_reducible exact jy|with_reducible exact Below.refl _ _|with_reducible refine Below.drew ?_|with_reducible refine zL ?_ _|with_reducible refine Below.setCell ?_ (by first|exact Yy _|exact vK|exact vL|exact vM) _)
 case rest =>
 obtain⟨BE,xE,l1,u1,l2,u2,rfl,og,I8,hHE,XE,hpE,hxbE,hblE⟩:=hcut;replace A:=A.bw hblE;replace D:=D.bw hblE;replace E:=E.bw hblE;have Z6:=R.lt;replace R:=R.bw hblE;replace j6:=zB j6 hblE;have GF:=zC hxbE;have TT:=zC hpE;have VO:=zC og;have VP:=zC I8;have lXE:=XE.lt;have gP:=zC (show ∀ w',Below wc.heap.size wc w'->(rK w' w.heap.size p1 q1 (rK w' ((w.heap.size+1)) p2 q2 (w'.cell? ⟨w1.heap.size,0,none⟩=some (.int .i64 (p1*q2+p2*q1))/\w'.cell? ⟨w1.heap.size,1,none⟩=some (.int .i64 (q1*q2))/\cK0 w' BE xE))) from λ w' hB=>⟨(A.bw hB).c0,(A.bw hB).c1,(D.bw hB).c0,(D.bw hB).c1,(E.bw hB).c0,(E.bw hB).c1,(XE.c.bw hB).c0,(XE.c.bw hB).c1,(XE.c.bw hB).c2,(XE.c.bw hB).c3,(XE.c.bw hB).c4⟩)
 have FO:=A.lt;have Ld:=D.lt;have lE2:=E.lt;have iE:=R.lt;have n1:w.heap.size+1+1≠w.heap.size:=by omega
 have n2:w.heap.size+1+1≠w.heap.size+1:=by omega
 have n3:w.heap.size+1+1≠w1.heap.size:=by omega
 have n4:w.heap.size+1+1≠BE:=by omega
 clear hxbE hpE og I8 HK hblE A D E XE;have D5:Below wc.heap.size wc wc.drew:=(Below.refl _ _).drew;obtain⟨x0,x1,x2,x3,x4,x5,y0,y1,y2,y3,y4⟩:=zA gP _ (Below.refl _ _);go_wp2_with fail
 go_region_held3 (λ w'=>rK w' w.heap.size p1 q1 (rK w' ((w.heap.size+1)) p2 q2 (w'.cell? ⟨w1.heap.size,0,none⟩=some (.int .i64 (p1*q2+p2*q1))/\w'.cell? ⟨w1.heap.size,1,none⟩=some (.int .i64 (q1*q2))/\cK0 w' BE xE))) (first|exact zA gP _ (by with_reducible first|exact D5|exact s9|exact y9)|(dsimp only[cK,cK0,nK,nK0,rK,rK0];go_keep)|go_keep)
  (first
   | (go_at_call 92;have O3:=y9;refine (zHO _ xE v1 522 b (l1+l2,u1+u2) (l3,u3) ((zA TT).bw y9) (o8.mono (by omega)) (by omega) (zA GF)).mono ?_;rintro r' w5 ⟨t,rfl,I2,K5,j8⟩;have HT:=zC I2;clear I2;have s9:=zB y9 j8;obtain⟨q0,SQ,Ef,q3,q4,q5⟩:=R.bw s9;obtain⟨i0,i1,i2,i3,i4,i5,j0,j1,j2,j3,j4⟩:=zA gP _ s9)
   | (go_at_call 185;refine (zA H3 _).mono ?_;rintro r' w4 ⟨l3,u3,Rn,v1,rfl,J2,o8,b9⟩;have VQ:=zC Rn;clear J2 Rn;have y9:=zB D5 b9))
 all_goals
  go_wp2_with fail;refine bodyPost_ret (v:=.agg t.q) (by simp[results,Tryz.results188,go_sem,q0,SQ,Ef,q3,q4]) rfl ⟨_,_,lgP3_of (zA VO) (zA VP) (zA VQ),t,rfl,zA HT,?_,?_⟩
  ·exact SpAt.put5 K5 q0 SQ Ef q3 q4 _ _ _ _ _
  ·exact jV (zB j6 s9) (by omega) _ _ _ _ _
theorem pt1_iv (w:World) (B0 B1 B2 B3 B4:Nat) (v:Sp) (x y:Nm) (k b:Nat) (j:Int) (a:Int × Int) (bn bd p q r s n d:Int) (hs:SpAt w v k a.1 a.2) (hx:IntAt w x.neg x.a x.n x.cap 4 n) (hy:IntAt w y.neg y.a y.n y.cap 4 d) (Z:RaC w B0 bn bd) (A:RaC w B1 p q) (D:RaC w B2 r s) (X:NmC w B3 x) (Y:NmC w B4 y) (hk:k<=100000000) (hb:v.bits=(b:Int)) (j0:1<=j) (j1:j<=1000000) (z0:0<=(j-1)*bd) (z1:(j-1)*bd<=1152921504606846976) (Wo:0<=bn) (Wp:bn<=1152921504606846976) (y0:0<=j*q) (y1:j*q<=1152921504606846976) (p0:0<p) (p1:p<=1152921504606846976) (t0:0<(p+j*q)*s) (t1:(p+j*q)*s<=1152921504606846976) (hd:0<d) :
  Calls Tryz.prog 187 #[.agg v.q,.int .i64 j,.pointer (some ⟨B0,0,none⟩),.pointer (some ⟨B1,0,none⟩),.pointer (some ⟨B2,0,none⟩),.pointer (some ⟨B3,0,none⟩),.pointer (some ⟨B4,0,none⟩)] w (zH w b (k+8+10) (zK a (n*(bn+(j-1)*bd)) (d*((p+j*q)*s))).1 (zK a (n*(bn+(j-1)*bd)) (d*((p+j*q)*s))).2):=by
 obtain⟨W,hW⟩:∃ W,W=(w.alloc (.cells v.q 31)).alloc (.cells zCq 31):=⟨_,rfl⟩;have j6:Below w.heap.size w W:=by rw[hW];exact bl2 _ _ _
 have V:SpC W w.heap.size v:=by rw[hW];constructor<;>simp[go_sem]
 have R:NoC W (w.heap.size+1):=by rw[hW];constructor<;>simp[go_sem]
 have HS:=zC (hs.bw j6);have HX:=zC (hx.bw j6);have HY:=zC (hy.bw j6);have l3:=X.lt;have l4:=Y.lt;replace X:=X.bw j6;replace Y:=Y.bw j6;replace Z:=Z.bw j6;replace A:=A.bw j6;replace D:=D.bw j6;have HB:=zC hb;have sz:=zC (show 0<(d*((p+j*q)*s)) from Int.mul_pos hd t0)
 have lR0:=R.lt;clear hs hx hy hb hd;obtain⟨za,zb⟩:=Z
 go_enter Tryz.func187,Tryz.ntmps187
 go_upto_region 1 with fail
 rw[<- hW];clear hW;go_wp2_with fail;clear za zb;refine (zD (bn+(j-1)*bd) _ (by omega) (by omega)).mono ?_
 rintro r1 w1 ⟨m7,a1,n1,c1,rfl,o8,b9⟩;clear z0 z1 Wo Wp;obtain⟨V1,Q3⟩:∃ V,V=w1.alloc (.cells #[.bool m7,.slice a1 n1 c1] 29):=⟨_,rfl⟩;have ah:Below w1.heap.size w1 V1:=by rw[Q3];exact bl1 _ _
 have L9:=zB b9 ah;have U1:NmC V1 w1.heap.size ⟨m7,a1,n1,c1⟩:=by rw[Q3];constructor<;>simp[go_sem]
 have oy:=zC (o8.bw ah);have lw1:=b9.size;have lU0:=U1.lt;replace V:=V.bw L9;replace R:=R.bw L9;replace X:=X.bw L9;replace Y:=Y.bw L9;replace A:=A.bw L9;replace D:=D.bw L9;replace HS:=zC ((zA HS).bw L9);replace HX:=zC ((zA HX).bw L9);replace HY:=zC ((zA HY).bw L9);replace j6:=zB j6 L9;clear b9 L9 ah o8;have aa:=A.c0;have ab:=A.c1;have db:=D.c1;have lA:=A.lt;have lD:=D.lt
 go_upto_region 2 with fail
 rw[<- Q3];clear Q3;go_wp2_with fail;clear aa ab db A D lA lD y0 y1 p0 p1;refine (zD ((p+j*q)*s) _ (by omega) (by omega)).mono ?_
 rintro r2 w2 ⟨j7,a2,n2,c2,rfl,A5,j8⟩;obtain⟨V2,aR⟩:∃ V,V=w2.alloc (.cells #[.bool j7,.slice a2 n2 c2] 29):=⟨_,rfl⟩;have W3:Below w2.heap.size w2 V2:=by rw[aR];exact bl1 _ _
 have Q6:=zB j8 W3;have U2:NmC V2 w2.heap.size ⟨j7,a2,n2,c2⟩:=by rw[aR];constructor<;>simp[go_sem]
 have oz:=zC (A5.bw W3);have lw2:=j8.size;replace V:=V.bw Q6;replace R:=R.bw Q6;replace X:=X.bw Q6;replace Y:=Y.bw Q6;replace U1:=U1.bw Q6;replace oy:=zC ((zA oy).bw Q6);replace HS:=zC ((zA HS).bw Q6);replace HX:=zC ((zA HX).bw Q6);replace HY:=zC ((zA HY).bw Q6);replace j6:=zB j6 Q6;clear j8 Q6 W3 A5 t0 t1 j0 j1;have lR:=R.lt;have lV:=V.lt;have lX:=X.lt;have lY:=Y.lt;have lU1:=U1.lt;have lU2:=U2.lt;have HK:=zC (show ∀ w',Below V2.heap.size V2 w'->(cK w' w.heap.size v (nK w' B3 x (nK w' B4 y (nK w' w1.heap.size (⟨m7,a1,n1,c1⟩:Nm) (nK0 w' w2.heap.size (⟨j7,a2,n2,c2⟩:Nm)))))) from λ w' hB=>⟨(V.bw hB).c0,(V.bw hB).c1,(V.bw hB).c2,(V.bw hB).c3,(V.bw hB).c4,(X.bw hB).c0,(X.bw hB).c1,(Y.bw hB).c0,(Y.bw hB).c1,(U1.bw hB).c0,(U1.bw hB).c1,(U2.bw hB).c0,(U2.bw hB).c1⟩)
 have E2:Below V2.heap.size V2 V2.drew:=(Below.refl _ _).drew;clear V X Y U1 U2;have nB3:w.heap.size+1≠B3:=by omega
 have nB4:w.heap.size+1≠B4:=by omega
 have nB5:w.heap.size+1≠w1.heap.size:=by omega
 have nB6:w.heap.size+1≠w2.heap.size:=by omega
 go_wp2_with fail;rw[<- aR];clear aR;obtain⟨x0,x1,x2,x3,x4,x5,x6,x7,x8,x9,Gs,TA,TB⟩:=zA HK _ (Below.refl _ _)
 go_region_held3 (λ w'=>cK w' w.heap.size v (nK w' B3 x (nK w' B4 y (nK w' w1.heap.size (⟨m7,a1,n1,c1⟩:Nm) (nK0 w' w2.heap.size (⟨j7,a2,n2,c2⟩:Nm)))))) (first|exact zA HK _ (by with_reducible first|exact E2|exact A9|exact o9|exact A7)|(dsimp only[cK,cK0,nK,nK0,rK,rK0];go_keep)|go_keep)
  (first
   | (go_at_call 151;have O3:=o9;refine (zBF _ v ⟨B9,a3,n3,c3⟩ ⟨E4,a4,n4,c4⟩ k 8 8 b a (n*(bn+(j-1)*bd)) (d*((p+j*q)*s)) ((zA HS).bw o9) (E7.bw p9) H8 (by omega) (by omega) (zA sz) (zA HB)).mono ?_;rintro r w5 ⟨t,rfl,I2,K5,D8⟩;have HT:=zC I2;clear I2;have A9:=zB o9 D8;obtain⟨q0,q1,q2,q3,q4,q5⟩:=R.bw A9;obtain⟨i0,i1,i2,i3,i4,i5,i6,i7,i8,i9,i10,i11,i12⟩:=zA HK _ A9)
   | (go_at_call 83;have O3:=A7;refine (zV _ _ _ _ _ _ _ _ 4 4 d ((p+j*q)*s) _ ((zA HY).bw A7) ((zA oz).bw A7) (by omega) (by omega)).mono ?_;rintro r w4 ⟨E4,a4,n4,c4,rfl,H8,p9⟩;have o9:=zB A7 p9)
   | (go_at_call 83;refine (zV _ _ _ _ _ _ _ _ 4 4 n (bn+(j-1)*bd) _ ((zA HX).bw E2) ((zA oy).bw E2) (by omega) (by omega)).mono ?_;rintro r w3 ⟨B9,a3,n3,c3,rfl,E7,m8⟩;have A7:=zB E2 m8))
 all_goals
  go_wp2;refine bodyPost_ret (v:=.agg t.q) (by simp[results,Tryz.results187,go_sem,q0,q1,q2,q3,q4]) rfl ⟨t,rfl,zA HT,?_,?_⟩
  ·exact SpAt.put5 K5 q0 q1 q2 q3 q4 _ _ _ _ _
  ·exact jV (zB j6 A9) (Nat.le_succ _) _ _ _ _ _
theorem en_pt (args:Array Value) (w:World):(callFunc 187 args).run Tryz.prog w=.ok (.enter 187 args) w:=by simp[go_sem,callFunc,Tryz.func187];kernel_rfl
end Go.Proofs.YtgmnknmjainabacGreat
