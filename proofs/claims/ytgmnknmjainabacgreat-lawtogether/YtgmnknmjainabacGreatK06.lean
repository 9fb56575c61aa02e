/-
  Its own texts.
-/
import Derived.Deep.LoopGhost
import Derived.Test.YtgmnknmjainabacGreatK05
set_option maxRecDepth 100000
set_option maxHeartbeats 40000000
set_option linter.unnecessarySimpa false
set_option linter.unusedSimpArgs false
set_option linter.unusedVariables false
namespace Go.Proofs.YtgmnknmjainabacGreat
open Go.RowKit
attribute [local go_sem ↓] Go.wp_at_zero Go.wp_at_succ
def FzP (w:World) (p:Value):Prop:=∀ B,p=.pointer (some ⟨B,0,none⟩)->∀ o,w.frozen? ⟨B,o,none⟩=false
def RootOf (x z:Int):Prop:=0<=z/\(x<=0->z=0)/\(0<x->z*z<=x/\x<(z+1)*(z+1))
theorem IntAt.fit {w:World} {neg:Bool} {a:Option Addr} {n cap k K:Nat} {z:Int} (h:IntAt w neg a n cap k z) (h0:0<=z) (hz:z<P K):IntAt w neg a n cap K z:=by
 obtain⟨d,h1,h2,h3,h4,h5⟩:=h;refine⟨d,h1,h2,h3,?_,h5⟩;refine zGF h1.dgs h2 ?_;have:=zY h1.dgs n
 cases neg
 ·simp[sgn] at h5;omega
 ·simp[sgn] at h5;have:=yF K;omega
theorem zS (w:World) (a b:Addr) (v:Value):(w.setCell a v).frozen? b=w.frozen? b:=by simp[go_sem]
theorem jH (n:Int) (h1 : -9223372036854775808<=n) (h2:n<=9223372036854775807):IntKind.i64.wrap n=n:=by rw[IntKind.wrap_i64];omega
theorem zBG (neg:Bool) (a:Option Addr) (n cap k:Nat) (x:Int) (w:World) (h:IntAt w neg a n cap k x) :
  Calls Tryz.prog 73 #[.agg #[.bool neg,.slice a n cap]] w λ r w'=>r=.returned (.int .i64 (zM x 0))/\Below w.heap.size w w':=by
 obtain⟨d,h1,h2,h3,h4,h5⟩:=h
 have e:zME neg n=zM x 0:=by
  have hv:=zY h1.dgs n;unfold zME zM
  by_cases hn:n=0
  ·subst hn
   have:x=0:=by rw[h5];cases neg<;>simp[sgn,V]
   subst this;simp
  ·have h6:=V_ge h1.dgs (n-1) (by omega)
   rw[show n-1+1=n by omega] at h6
   have:=yF (n-1);rw[if_neg hn]
   cases neg
   ·simp[sgn] at h5
    rw[if_neg (by simp),if_neg (by omega),if_pos (by omega)]
   ·simp[sgn] at h5
    rw[if_pos rfl,if_pos (by omega)]
 exact (zI2 neg a n cap w h1.room).mono λ r w' ⟨p1,p2⟩=>⟨by rw[p1,e],p2⟩
theorem root_pos (neg:Bool) (a:Option Addr) (n cap k:Nat) (x:Int) (w:World) (h1:IntAt w neg a n cap k x) (hk:k<=100000000) (hx:0<x) :
  Calls Tryz.prog 206 #[.agg #[.bool neg,.slice a n cap]] w λ r w'=>∃ z,RootOf x z/\zDV w (k+10) z r w':=by
 obtain⟨d,g1,g2,g3,g4,g5⟩:=h1;have h1:IntAt w neg a n cap k x:=⟨d,g1,g2,g3,g4,g5⟩
 have hn:0<n:=by
  rcases Nat.eq_zero_or_pos n with h0|h0
  ·subst h0;cases neg<;>simp[sgn,V] at g5<;>omega
  ·exact h0
 have hxV:V d n=x:=by
  have:=zY g1.dgs n
  cases neg
  ·simpa [sgn] using g5.symm
  ·simp[sgn] at g5;omega
 obtain⟨l,l1,l2,l3⟩:=zSM g1.dgs hn (by omega)
 rw[hxV] at l2 l3;obtain⟨K0,Jq⟩:∃ K0:Nat,((l:Int)+1)/2+1=(K0:Int):=⟨(l+1)/2+1,by omega⟩
 have Cq:l+1<=2*K0/\K0<=l+2:=by omega
 have hln:l+1<=16*n:=by have:=zGE n d;omega
 have ph:0<=(l:Int):=by omega
 have Rh:(l:Int)<=1600000000:=by omega
 have nM:=zC (show IntKind.i64.wrap (IntKind.i64.wrap (((l:Int)+1).tdiv 2)+1)=(K0:Int) by
  rw[Int.tdiv_eq_ediv_of_nonneg (by omega),jH (((l:Int)+1)/2) (by omega) (by omega),jH _ (by omega) (by omega)]
  exact Jq)
 have oh:=zE K0
 have hsq:x<Q K0*Q K0:=by
  rw[<- jF];have:=zJ (show l+1<=K0+K0 by omega);omega
 have hPk:Q K0<P (k+2):=by
  rw[<- Q_P];have h5:=zJ (show K0+1<=16*(k+2) by omega)
  simp only[Q] at h5;omega
 have Vp:=zC (show x<(Q K0+1)*(Q K0+1) by
  have h5:(Q K0+1)*(Q K0+1)=Q K0*Q K0+2*Q K0+1:=by rw[Int.add_mul,Int.mul_add];omega
  omega)
 have t1:¬ zM x 0<=0:=by unfold zM;rw[if_neg (by omega),if_pos (by omega)];omega
 obtain⟨W,hW⟩:∃ W,W=(w.alloc (.cells #[.bool neg,.slice a n cap] 29)).alloc (.cells #[.bool false,.slice none 0 0] 29):=⟨_,rfl⟩;have j6:Below w.heap.size w W:=by rw[hW];exact bl2 _ _ _
 have A:NmC W w.heap.size ⟨neg,a,n,cap⟩:=by rw[hW];constructor<;>simp[go_sem]
 have R:NoI W (w.heap.size+1):=by rw[hW];constructor<;>simp[go_sem]
 have GD:=zC (g1.bw j6);have HX:=zC (h1.bw j6);have HL:=zC l1;have Vc:=zC Cq;clear g1 h1 l1 hxV g5 hsq l2 l3 Cq
 go_enter Tryz.func206,Tryz.ntmps206
 go_wp2_with fail;rw[<- hW];clear hW;refine (zBG _ _ _ _ k x _ (zA HX)).mono ?_;rintro r w0 ⟨rfl,F9⟩;replace A:=A.bw F9;replace R:=R.bw F9;replace j6:=zB j6 F9;replace GD:=zC ((zA GD).bw F9);replace HX:=zC ((zA HX).bw F9);have GN:=zC (show ∀ w',Below w0.heap.size w0 w'->(w'.cell? ⟨w.heap.size,0,none⟩=some (.bool neg)/\w'.cell? ⟨w.heap.size,1,none⟩=some (.slice a n cap)) from λ w' hB=>⟨(A.bw hB).c0,(A.bw hB).c1⟩)
 have lA:=A.lt;have lR:=R.lt;obtain⟨i0,i1⟩:=zA GN _ (Below.refl _ _);clear F9;go_wp2_with fail
 go_cut [3] (λ p wx=>VarAt wx p w0.heap.size (k+10) (1*Q K0)/\FzP wx p/\Below w0.heap.size w0 wx)
 case first =>
  go_region_held3 (λ w'=>w'.cell? ⟨w.heap.size,0,none⟩=some (.bool neg)/\w'.cell? ⟨w.heap.size,1,none⟩=some (.slice a n cap)) (exact zA GN _ (by repeat' (first|with_reducible exact dY|with_reducible exact Q1|with_reducible exact J9|with_reducible exact Below.refl _ _|with_reducible refine Below.drew ?_|with_reducible refine zL ?_ _|with_reducible refine Below.setCell ?_ (by first|exact Yy _|exact aM|exact aN|exact fK) _)))
   (first
    | (go_at_call 116;have hq:=Q1;rw[zA nM];refine (zB0 _ _ _ _ K0 4 1 _ (Q5.bw (by with_reducible first|exact Below.refl _ _|exact bl1 _ _)) (by omega) (by have:=zA Vc;omega)).mono ?_;rintro r LF ⟨mX,Ib,Lr,Ie,rfl,mj,fc⟩;have aY:Below na.heap.size na LF:=(by with_reducible first|exact fc|exact zB (bl1 _ _) fc);have dY:=zB Q1 aY;(try with_reducible have Cf:=(kB na 29).bw fc);replace Q5:=Q5.bw aY;(try replace cx:=cx.bw aY);(try replace iL:=iL.bw aY);have fK:=dY.size;(try have rP:=cx.lt);(try have Qa:=YD rP);(try have BV:=YC rP);(try obtain⟨Ez,EA,EB⟩:=cx);(try have rQ:=iL.lt);(try have Qb:=YD rQ);(try have BW:=YC rQ);(try obtain⟨EC,ED,EE⟩:=iL);(try have DL:=Cf.lt);(try have Xm:=YD DL);(try have Ir:=YC DL);(try obtain⟨NB,NC,ND⟩:=Cf))
    | (go_at_call 98;have hq:=J9;refine (zCV _ _ _ _ d _ ((zA GD).bw (by with_reducible first|exact J9|exact zL J9 _))).mono ?_;rintro r na ⟨rfl,aG⟩;rw[zA HL];have ax:Below gM.heap.size gM na:=(by with_reducible first|exact aG|exact zB (bl1 _ _) aG);have Q1:=zB J9 ax;(try with_reducible have iL:=(kB gM 29).bw aG);replace Q5:=Q5.bw ax;(try replace cx:=cx.bw ax);have aN:=Q1.size)
    | (go_at_call 33;refine (zD 1 _ (by decide) (by decide)).mono ?_;rintro r gM ⟨rV,Py,SF,PM,rfl,Q5,aC⟩;have J9:Below w0.heap.size w0 gM:=(by with_reducible first|exact zB (Below.refl _ _).drew aC|exact zB (bl1 _ _).drew aC);(try with_reducible have cx:=((kB w0 29).bw (Below.refl _ _).drew).bw aC);have aM:=J9.size))
  all_goals
   go_wp2_with fail;go_meet;refine⟨⟨_,⟨mX,Ib,Lr,Ie⟩,rfl,?_,?_,?_,?_,?_⟩,?_,?_⟩
   ·simp[go_sem, *]
   ·simp[go_sem, *]
   ·first|with_reducible exact IntAt.mono (mj.bw (bl1 _ _)) (by omega)|with_reducible exact IntAt.mono (mj.put2 (by assumption) (by assumption) _ _) (by omega)
   ·first|exact Yy _|exact aM|exact aN|exact fK
   ·simp[World.setCell];try omega
   ·intro B hB o;cases hB;simp[go_sem, *]
   ·repeat' (first|with_reducible exact dY|with_reducible exact Q1|with_reducible exact J9|with_reducible exact Below.refl _ _|with_reducible refine Below.drew ?_|with_reducible refine zL ?_ _|with_reducible refine Below.setCell ?_ (by first|exact Yy _|exact aM|exact aN|exact fK) _)
 case rest =>
 obtain⟨⟨BX,xX,rfl,Ap,Aq,nZ,zn,hltX⟩,hfzX,hblX⟩:=hcut;have XX:NmC wc BX xX:=⟨Ap,Aq⟩;have F0:∀ o,wc.frozen? ⟨BX,o,none⟩=false:=hfzX BX rfl;replace A:=A.bw hblX;replace R:=R.bw hblX;replace j6:=zB j6 hblX;replace HX:=zC ((zA HX).bw hblX);rw[Int.one_mul] at nZ;have hZ0:=nZ.fit (by omega) hPk
 have wY:w.heap.size≠BX:=YD (YB lA zn);have nXA:BX≠w.heap.size:=λ e9=>wY e9.symm
 have hnXR:BX≠w.heap.size+1:=YC (YB lR zn);have Yg:w.heap.size<=BX:=by omega
 clear i0 i1 GN nZ Ap Aq HL nM GD;go_wp2_with fail
 go_loopg [4] (Q K0).toNat (λ gg p wr=>∃ (X:Nm) (z:Int),NmC wr BX X/\(∀ o,wr.frozen? ⟨BX,o,none⟩=false)/\IntAt wr X.neg X.a X.n X.cap (k+2) z/\0<z/\z<=Q K0/\z.toNat<=gg/\x<(z+1)*(z+1)/\NmC wr w.heap.size ⟨neg,a,n,cap⟩/\NoI wr (w.heap.size+1)/\IntAt wr neg a n cap k x/\Below w.heap.size w wr)
 case atStart=>exact⟨xX,Q K0,XX,F0,hZ0,by omega,Int.le_refl _,Yy _,zA Vp,A,R,zA HX,j6⟩
 case round =>
  obtain⟨X,z,hX,hF,hz,K4,hzq,hzg,RI,A,R,Bv,nP⟩:=hrel;obtain⟨yv,FL⟩:∃ yv,yv=(z+x/z)/2:=⟨_,rfl⟩;have hxz:0<=x/z:=Int.ediv_nonneg (by omega) (by omega)
  have B7:x<(yv+1)*(yv+1):=by rw[FL];exact zTE K4
  have wW:0<yv:=by
   rcases Int.lt_or_le 0 yv with h5|h5
   ·exact h5
   ·have h6:yv=0:=by omega
    rw[h6] at B7;omega
  have VH:=zC (show (z+x/z)/Q 1=yv from FL.symm)
  have Vw:=zC B7;have VK:=zC RI;have GI:=zC (show z<=yv->z*z<=x from λ h=>zPP K4 (by omega) (by rw[<- FL];exact h))
  clear FL B7 RI;have hz:=zC hz;have Bv:=zC Bv;have Z7:=zC (show ∀ w',Below wr.heap.size wr w'->(w'.cell? ⟨w.heap.size,0,none⟩=some (.bool neg)/\w'.cell? ⟨w.heap.size,1,none⟩=some (.slice a n cap)/\nK0 w' BX X) from λ w' hB=>⟨(A.bw hB).c0,(A.bw hB).c1,(hX.bw hB).c0,(hX.bw hB).c1⟩)
  have lA:=A.lt;have lX:=hX.lt;have lR:=R.lt;have nXR:BX≠w.heap.size+1:=hnXR;have DT:w.heap.size+1≠BX:=λ e9=>nXR e9.symm
  obtain⟨i0,i1,i2,i3⟩:=zA Z7 _ (Below.refl _ _);go_wp2_with fail
  go_cut [4] (λ p wx=>VarAt wx p wr.heap.size (k+20) ((z+x/z)/Q 1)/\Below wr.heap.size wr wx)
  case first =>
   go_region_held3 (λ w'=>w'.cell? ⟨w.heap.size,0,none⟩=some (.bool neg)/\w'.cell? ⟨w.heap.size,1,none⟩=some (.slice a n cap)/\nK0 w' BX X) (exact zA Z7 _ (by repeat' (first|with_reducible exact bN|with_reducible exact ao|with_reducible exact W4|with_reducible exact Below.refl _ _|with_reducible refine Below.drew ?_|with_reducible refine zL ?_ _|with_reducible refine Below.setCell ?_ (by first|exact Yy _|exact fO|exact fP|exact fQ) _)))
    (first
     | (go_at_call 96;have hq:=ao;refine (zH1 _ _ _ _ 1 (k+9) (z+x/z) _ ((W7.bw (by with_reducible first|exact Below.refl _ _|exact bl1 _ _)).mono (by omega)) (by omega) (by omega)).mono ?_;rintro r AF ⟨Ea,Wd,nY3,WA,rfl,oP,fh⟩;have ay:Below pN.heap.size pN AF:=(by with_reducible first|exact fh|exact zB (bl1 _ _) fh);have bN:=zB ao ay;(try with_reducible have jv:=(kB pN 29).bw fh);replace O4:=O4.bw ay;(try replace bK:=bK.bw ay);replace W7:=W7.bw ay;(try replace dR:=dR.bw ay);have fQ:=bN.size;(try have DM:=bK.lt);(try have Xn:=YD DM);(try have Iw:=YC DM);(try obtain⟨EF,EG,EH⟩:=bK);(try have DN:=dR.lt);(try have Xo:=YD DN);(try have Ix:=YC DN);(try obtain⟨EI,EJ,EK⟩:=dR);(try have DO:=jv.lt);(try have Xp:=YD DO);(try have Iy:=YC DO);(try obtain⟨EL,EM,EN⟩:=jv))
     | (go_at_call 32;have hq:=W4;refine (zA3 _ _ _ _ _ _ _ _ (k+2) (k+8) z (x/z) _ ((zA hz).bw (by with_reducible first|exact W4|exact zL W4 _)) (O4.bw (by with_reducible first|exact Below.refl _ _|exact bl1 _ _)) (by omega) (by omega)).mono ?_;rintro r pN ⟨rY,PC,SI,PQ,rfl,W7,fg⟩;have eA:Below pJ.heap.size pJ pN:=(by with_reducible first|exact fg|exact zB (bl1 _ _) fg);have ao:=zB W4 eA;(try with_reducible have dR:=(kB pJ 29).bw fg);replace O4:=O4.bw eA;(try replace bK:=bK.bw eA);have fP:=ao.size)
     | (go_at_call 126;refine (yN _ _ _ _ _ _ _ _ k (k+2) x z _ ((zA Bv).bw (by with_reducible first|exact (Below.refl _ _).drew|exact (bl1 _ _).drew)) ((zA hz).bw (by with_reducible first|exact (Below.refl _ _).drew|exact (bl1 _ _).drew)) (by omega) K4).mono ?_;rintro r pJ ⟨rX,PB,SH,PO,rfl,O4,fe⟩;have W4:Below wr.heap.size wr pJ:=(by with_reducible first|exact zB (Below.refl _ _).drew fe|exact zB (bl1 _ _).drew fe);(try with_reducible have bK:=((kB wr 29).bw (Below.refl _ _).drew).bw fe);have fO:=W4.size))
   all_goals
    go_wp2_with fail;go_meet;refine⟨⟨_,⟨Ea,Wd,nY3,WA⟩,rfl,?_,?_,?_,?_,?_⟩,?_⟩
    ·simp[go_sem, *]
    ·simp[go_sem, *]
    ·first|with_reducible exact IntAt.mono (oP.bw (bl1 _ _)) (by omega)|with_reducible exact IntAt.mono (oP.put2 (by assumption) (by assumption) _ _) (by omega)
    ·first|exact Yy _|exact fO|exact fP|exact fQ
    ·simp[World.setCell];try omega
    ·repeat' (first|with_reducible exact bN|with_reducible exact ao|with_reducible exact W4|with_reducible exact Below.refl _ _|with_reducible refine Below.drew ?_|with_reducible refine zL ?_ _|with_reducible refine Below.setCell ?_ (by first|exact Yy _|exact fO|exact fP|exact fQ) _)
  case rest =>
  obtain⟨⟨BY,xY,rfl,RL,RM,JM,QD,hltY⟩,hblY⟩:=hcut;have XY:NmC wc BY xY:=⟨RL,RM⟩;rw[zA VH] at JM;have hC:Below wr.heap.size wr wc:=hblY;replace hX:=hX.bw hC;replace A:=A.bw hC;replace R:=R.bw hC;have nS:∀ o,wc.frozen? ⟨BX,o,none⟩=false:=λ o=>(hC.frozen (p:=⟨BX,o,none⟩) lX).trans (hF o)
  have M5:=(zA hz).bw hC;have pZ:=(zA Bv).bw hC;replace nP:=zB nP hC;have Le:=hX.lt;have lY2:=XY.lt;have Z6:=R.lt;have nXY:BX≠BY:=YD (YB lX QD);have nXY':BY≠BX:=λ e9=>nXY e9.symm
  obtain⟨k0,k1⟩:=hX;have hX:NmC wc BX X:=⟨k0,k1⟩;clear i0 i1 i2 i3 Z7 hblY hC hF hz Bv;go_wp2_with fail;refine (jP _ _ _ _ _ _ _ _ (k+20) (k+2) yv z _ JM M5).mono ?_;rintro r w5 ⟨rfl,D8⟩;have QO:=hX.bw D8;have QP:=XY.bw D8;have QL:=R.bw D8;have Qx:=A.bw D8;have hz5:=M5.bw D8;have hy5:=JM.bw D8;have VC:=pZ.bw D8;have Cn:∀ o,w5.frozen? ⟨BX,o,none⟩=false:=λ o=>(D8.frozen (p:=⟨BX,o,none⟩) Le).trans (nS o)
  have M6:=zB nP D8;have l5:=QO.lt;have l6:=QP.lt;have l7:=QL.lt;obtain⟨e0,e1⟩:=QO;obtain⟨e2,e3⟩:=QP;obtain⟨e4,e5,e6⟩:=QL;clear k0 k1 RL RM
  by_cases aI:z<=yv
  ·have t2:0<=zM yv z:=by unfold zM;rw[if_neg (by omega)];split<;>omega
   have t2':zM yv z ≥ 0:=t2;have HG:=zC aI;clear aI;go_wp2_with fail;refine bodyPost_ret (v:=.agg X.q) (by simp[results,Tryz.results206,go_sem,e4,e5]) rfl ⟨z,⟨by omega,λ h9=>by omega,λ _=>⟨zA GI (zA HG),zA VK⟩⟩,X.neg,X.a,X.n,X.cap,rfl,?_,?_⟩
   ·exact (hz5.put2 e4 e5 _ _).mono (by omega)
   ·exact zE2 M6 (Nat.le_succ _) _ _
  ·have t2:¬ 0<=zM yv z:=by unfold zM;rw[if_pos (by omega)];omega
   have t2':¬ zM yv z ≥ 0:=t2;have hylt:yv<z:=by omega
   clear aI;go_wp2_with fail
   go_roundg yv.toNat
   case rel =>
    refine⟨xY,yv,⟨by simp[go_sem,e0,e1],by simp[go_sem,e0,e1]⟩,λ o=>by rw[zS,zS];exact Cn o,?_,wW,by omega,Yy _,zA Vw,?_,?_,?_,?_⟩
    ·exact (hy5.put2 e0 e1 _ _).fit (by omega) (by omega)
    ·exact⟨by simp[go_sem,Qx.c0,nXA,wY],by simp[go_sem,Qx.c1,nXA,wY]⟩
    ·exact⟨by simp[go_sem,e4,nXR,DT],by simp[go_sem,e5,nXR,DT],λ o=>by rw[zS,zS];exact e6 o⟩
    ·exact VC.put2 e0 e1 _ _
    ·exact zE2 M6 (by omega) _ _
   case measure=>omega
theorem root_int (neg:Bool) (a:Option Addr) (n cap k:Nat) (x:Int) (w:World) (h1:IntAt w neg a n cap k x) (hk:k<=100000000) :
  Calls Tryz.prog 206 #[.agg #[.bool neg,.slice a n cap]] w λ r w'=>∃ z,RootOf x z/\zDV w (k+10) z r w':=by
 by_cases hx:0<x
 ·exact root_pos neg a n cap k x w h1 hk hx
 ·have t1:zM x 0<=0:=by unfold zM;split<;>(try split)<;>omega
  have HX:=zC hx;clear hx
  go_enter Tryz.func206,Tryz.ntmps206
  go_wp2_with fail;refine (zBG _ _ _ _ k x _ (h1.bw (bl2 _ _ _))).mono ?_;rintro r w1 ⟨rfl,b9⟩;obtain⟨A8,C7,D3⟩:=jC (w.heap.size+1+1) (by simp) b9
  go_wp2_with fail;have q0:w1.cell? ⟨w.heap.size+1,0,none⟩=some (.bool false):=by simp[C7,go_sem]
  have q1:w1.cell? ⟨w.heap.size+1,1,none⟩=some (.slice none 0 0):=by simp[C7,go_sem]
  refine bodyPost_ret (v:=.agg #[.bool false,.slice none 0 0]) (by simp[results,Tryz.results206,go_sem,q0,q1]) rfl ⟨0,⟨by omega,λ _=>rfl,λ h9=>by have h8:=zA HX;omega⟩,false,none,0,0,rfl,zE6 _ _,?_⟩
  exact zE2 (zB (bl2 _ _ _) b9) (Nat.le_succ _) _ _
theorem zHY (neg j7:Bool) (a c:Option Addr) (n m cap j9 k k2:Nat) (x y:Int) (w:World) (h1:IntAt w neg a n cap k x) (h2:IntAt w j7 c m j9 k2 y) (hk:k<=800000000) (hy:0<y) :
  Calls Tryz.prog 127 #[.agg #[.bool neg,.slice a n cap],.agg #[.bool j7,.slice c m j9]] w (zAQ w k (-(-x/y))) :=
 zJM neg j7 a c n m cap j9 k k2 x y w h1 h2 hk (λ w' m9 a' n' o7 g1 g2=>yN m9 j7 a' c n' m o7 j9 k k2 (-x) y w' g1 g2 (by omega) hy)
theorem jI (neg j7:Bool) (a c:Option Addr) (n m cap j9 k k2 b:Nat) (x y:Int) (w:World) (h1:IntAt w neg a n cap k x) (h2:IntAt w j7 c m j9 k2 y) (hk:k<=700000000) (hb:b<=1000000) (hy:0<y) :
  Calls Tryz.prog 88 #[.agg #[.bool neg,.slice a n cap],.agg #[.bool j7,.slice c m j9],.int .i64 b] w (zH w b (k+b/16+20) (x*Q b/y) (-(-(x*Q b)/y))):=by
 go_enter Tryz.func88,Tryz.ntmps88
 go_wp2_with (go_at_call 116;refine (zB0 _ _ _ _ b k x _ (h1.bw (bl3 _ _ _ _)) (by omega) (by omega)).mono ?_;rintro r w1 ⟨m7,a1,n1,c1,rfl,o8,b9⟩;obtain⟨A8,C7,D3⟩:=jC (w.heap.size+1+1+1) (by simp) b9;have G1:=YB (Nat.lt_succ_self (w.heap.size+1+1)) A8;have K4:=Nat.lt_of_succ_lt G1)
 have o8:=o8.mono (show b/16+k+1<=k+b/16+10 by omega)
 have cA:Below w.heap.size w w1:=zB (bl3 _ _ _ _) b9;have k0:w1.cell? ⟨w.heap.size+1,0,none⟩=some (.bool j7):=by simp[C7,go_sem]
 have k1:w1.cell? ⟨w.heap.size+1,1,none⟩=some (.slice c m j9):=by simp[C7,go_sem]
 have r0:w1.cell? ⟨w.heap.size+1+1,0,none⟩=some (.bool false):=by simp[C7,go_sem]
 have r1:w1.cell? ⟨w.heap.size+1+1,1,none⟩=some (.slice none 0 0):=by simp[C7,go_sem]
 have r2:w1.cell? ⟨w.heap.size+1+1,2,none⟩=some (.bool false):=by simp[C7,go_sem]
 have r3:w1.cell? ⟨w.heap.size+1+1,3,none⟩=some (.slice none 0 0):=by simp[C7,go_sem]
 have r4:w1.cell? ⟨w.heap.size+1+1,4,none⟩=some (.int .i64 0):=by simp[C7,go_sem]
 have r5:∀ o,w1.frozen? ⟨w.heap.size+1+1,o,none⟩=false:=by intro o;simp[D3,go_sem]
 have H2:=zC (h2.bw cA);clear C7 D3;obtain⟨W,hW⟩:∃ W,W=w1.alloc (.cells #[.bool m7,.slice a1 n1 c1] 29):=⟨_,rfl⟩;have j6:Below w1.heap.size w1 W:=by rw[hW];exact bl1 _ _
 have u0:W.cell? ⟨w1.heap.size,0,none⟩=some (.bool m7):=by rw[hW];simp
 have u1:W.cell? ⟨w1.heap.size,1,none⟩=some (.slice a1 n1 c1):=by rw[hW];simp
 have hlW:w1.heap.size<W.heap.size:=by rw[hW];simp
 have HI:=zC (o8.bw j6);have oz:=zC ((zA H2).bw j6);have K8:w.heap.size+1<W.heap.size:=Nat.lt_trans K4 hlW;have M8:w.heap.size+1+1<W.heap.size:=Nat.lt_trans G1 hlW
 have HK:=zC (show ∀ w',Below W.heap.size W w'->(w'.cell? ⟨w1.heap.size,0,none⟩=some (.bool m7)/\w'.cell? ⟨w1.heap.size,1,none⟩=some (.slice a1 n1 c1)/\w'.cell? ⟨w.heap.size+1,0,none⟩=some (.bool j7)/\w'.cell? ⟨w.heap.size+1,1,none⟩=some (.slice c m j9)) from λ w' hB =>
  ⟨(hB.cell (p:=⟨w1.heap.size,0,none⟩) hlW).trans u0,(hB.cell (p:=⟨w1.heap.size,1,none⟩) hlW).trans u1,(hB.cell (p:=⟨w.heap.size+1,0,none⟩) K8).trans ((j6.cell (p:=⟨w.heap.size+1,0,none⟩) K4).trans k0),(hB.cell (p:=⟨w.heap.size+1,1,none⟩) K8).trans ((j6.cell (p:=⟨w.heap.size+1,1,none⟩) K4).trans k1)⟩)
 have HR:=zC (show ∀ w',Below W.heap.size W w'->(w'.cell? ⟨w.heap.size+1+1,0,none⟩=some (.bool false)/\w'.cell? ⟨w.heap.size+1+1,1,none⟩=some (.slice none 0 0)/\w'.cell? ⟨w.heap.size+1+1,2,none⟩=some (.bool false)/\w'.cell? ⟨w.heap.size+1+1,3,none⟩=some (.slice none 0 0)/\w'.cell? ⟨w.heap.size+1+1,4,none⟩=some (.int .i64 0)/\∀ o,w'.frozen? ⟨w.heap.size+1+1,o,none⟩=false) from λ w' hB =>
  ⟨(hB.cell (p:=⟨w.heap.size+1+1,0,none⟩) M8).trans ((j6.cell (p:=⟨w.heap.size+1+1,0,none⟩) G1).trans r0),(hB.cell (p:=⟨w.heap.size+1+1,1,none⟩) M8).trans ((j6.cell (p:=⟨w.heap.size+1+1,1,none⟩) G1).trans r1),(hB.cell (p:=⟨w.heap.size+1+1,2,none⟩) M8).trans ((j6.cell (p:=⟨w.heap.size+1+1,2,none⟩) G1).trans r2),(hB.cell (p:=⟨w.heap.size+1+1,3,none⟩) M8).trans ((j6.cell (p:=⟨w.heap.size+1+1,3,none⟩) G1).trans r3),(hB.cell (p:=⟨w.heap.size+1+1,4,none⟩) M8).trans ((j6.cell (p:=⟨w.heap.size+1+1,4,none⟩) G1).trans r4),λ o=>(hB.frozen (p:=⟨w.heap.size+1+1,o,none⟩) M8).trans ((j6.frozen (p:=⟨w.heap.size+1+1,o,none⟩) G1).trans (r5 o))⟩)
 have dX:Below w.heap.size w W:=zB cA j6;have mS:w.heap.size+1+1≠w1.heap.size:=by omega
 have mV:w1.heap.size≠w.heap.size+1+1:=by omega
 rw[<- hW];clear hW k0 k1 r0 r1 r2 r3 r4 r5 u0 u1 H2 o8 b9 cA j6
 go_region_held3 (λ w'=>w'.cell? ⟨w1.heap.size,0,none⟩=some (.bool m7)/\w'.cell? ⟨w1.heap.size,1,none⟩=some (.slice a1 n1 c1)/\w'.cell? ⟨w.heap.size+1,0,none⟩=some (.bool j7)/\w'.cell? ⟨w.heap.size+1,1,none⟩=some (.slice c m j9)) (first|exact zA HK _ (by first|exact (Below.refl _ _).drew|exact o9|exact A9)|go_keep)
  (first
   | (go_at_call 126;refine (yN _ _ _ _ _ _ _ _ (k+b/16+10) k2 (x*Q b) y _ ((zA HI).bw (Below.refl _ _).drew) ((zA oz).bw (Below.refl _ _).drew) (by omega) hy).mono ?_;rintro r w2 ⟨E4,a4,n4,c4,rfl,H8,p9⟩;have o9:Below W.heap.size W w2:=zB (Below.refl _ _).drew p9)
   | (go_at_call 127;refine (zHY _ _ _ _ _ _ _ _ (k+b/16+10) k2 (x*Q b) y _ ((zA HI).bw o9) ((zA oz).bw o9) (by omega) hy).mono ?_;rintro r w3 ⟨J3,a5,n5,c5,rfl,O0,D8⟩;have A9:=zB o9 D8;obtain⟨q0,q1,q2,q3,q4,q5⟩:=zA HR w3 A9;obtain⟨q6,q7,q8,q9⟩:=zA HK w3 A9))
 go_wp2;refine bodyPost_ret (v:=.agg #[.bool E4,.slice a4 n4 c4,.bool J3,.slice a5 n5 c5,.int .i64 b]) (by simp[results,Tryz.results88,go_sem,q0,q1,q2,q3,q4]) rfl ⟨⟨E4,a4,n4,c4,J3,a5,n5,c5,b⟩,rfl,rfl,?_,?_⟩
 ·exact SpAt.put5 ⟨(H8.bw D8).mono (by omega),O0.mono (by omega)⟩ q0 q1 q2 q3 q4 _ _ _ _ _
 ·exact jV (dX.trans (A9.mono dX.size)) (by omega) _ _ _ _ _
theorem zKR (w:World) (s:Sp) (neg j7:Bool) (a c:Option Addr) (n m cap j9 k k1 k2:Nat) (lo hi x y:Int) (hs:SpAt w s k lo hi) (h1:IntAt w neg a n cap k1 x) (h2:IntAt w j7 c m j9 k2 y) (hk:k<=300000000) (ae:k1<=300000000) (hy:0<y) :
  Calls Tryz.prog 151 #[.agg s.q,.agg #[.bool neg,.slice a n cap],.agg #[.bool j7,.slice c m j9]] w (zH w s.bits (k+k1+10) (lo*x/y) (-(-(hi*x)/y))):=by
 obtain⟨W,hW⟩:∃ W,W=(((w.alloc (.cells s.q 31)).alloc (.cells #[.bool neg,.slice a n cap] 29)).alloc (.cells #[.bool j7,.slice c m j9] 29)).alloc (.cells zCq 31):=⟨_,rfl⟩;have j6:Below w.heap.size w W:=by rw[hW];exact bl4 _ _ _ _ _
 have A:SpC W w.heap.size s:=by rw[hW];constructor<;>simp[go_sem]
 have X:NmC W (w.heap.size+1) ⟨neg,a,n,cap⟩:=by rw[hW];constructor<;>simp[go_sem]
 have Y:NmC W (w.heap.size+1+1) ⟨j7,c,m,j9⟩:=by rw[hW];constructor<;>simp[go_sem]
 have R:NoC W (w.heap.size+1+1+1):=by rw[hW];constructor<;>simp[go_sem]
 have HS:=zC (hs.bw j6);have HX:=zC (h1.bw j6);have HY:=zC (h2.bw j6);have lR:=R.lt;have HK:=zC (show ∀ w',Below W.heap.size W w'->(cK w' w.heap.size s (w'.cell? ⟨w.heap.size+1,0,none⟩=some (.bool neg)/\w'.cell? ⟨w.heap.size+1,1,none⟩=some (.slice a n cap)/\w'.cell? ⟨w.heap.size+1+1,0,none⟩=some (.bool j7)/\w'.cell? ⟨w.heap.size+1+1,1,none⟩=some (.slice c m j9))) from λ w' hB=>⟨(A.bw hB).c0,(A.bw hB).c1,(A.bw hB).c2,(A.bw hB).c3,(A.bw hB).c4,(X.bw hB).c0,(X.bw hB).c1,(Y.bw hB).c0,(Y.bw hB).c1⟩)
 clear A X Y hs h1 h2
 go_enter Tryz.func151,Tryz.ntmps151
 go_wp2;rw[<- hW];clear hW;have n02:w.heap.size≠w.heap.size+1+1:=by omega
 have FR:w.heap.size+1+1≠w.heap.size:=by omega
 have n03:w.heap.size≠w.heap.size+1+1+1:=by omega
 have n30:w.heap.size+1+1+1≠w.heap.size:=by omega
 have n13:w.heap.size+1≠w.heap.size+1+1+1:=by omega
 have n31:w.heap.size+1+1+1≠w.heap.size+1:=by omega
 have n23:w.heap.size+1+1≠w.heap.size+1+1+1:=by omega
 have n32:w.heap.size+1+1+1≠w.heap.size+1+1:=by omega
 obtain⟨x0,x1,x2,x3,x4,x5,x6,x7,x8⟩:=zA HK _ (Below.refl _ _);have D5:Below W.heap.size W W.drew:=(Below.refl _ _).drew
 go_region_held3 (λ w'=>cK w' w.heap.size s (w'.cell? ⟨w.heap.size+1,0,none⟩=some (.bool neg)/\w'.cell? ⟨w.heap.size+1,1,none⟩=some (.slice a n cap)/\w'.cell? ⟨w.heap.size+1+1,0,none⟩=some (.bool j7)/\w'.cell? ⟨w.heap.size+1+1,1,none⟩=some (.slice c m j9))) (first|exact zA HK _ (by with_reducible first|exact D5|exact J1|exact G0|exact s9|exact y9)|(dsimp only[cK,cK0,nK,nK0,rK,rK0];go_keep)|go_keep)
  (first
   | (go_at_call 127;have hq:=G0;refine (zHY _ _ _ _ _ _ _ _ (k+k1) k2 (hi*x) y _ E7 ((zA HY).bw G0) (by omega) hy).mono ?_;rintro r' w4 ⟨E4,a4,n4,c4,rfl,H8,p9⟩;have J1:=zB G0 p9;replace A5:=(A5.bw m8).bw p9;obtain⟨q0,q1,q2,q3,q4,q5⟩:=R.bw J1;obtain⟨y0,y1,y2,y3,y4,y5,y6,y7,y8⟩:=zA HK _ J1)
   | (go_at_call 83;have hq:=s9;refine (zV _ _ _ _ _ _ _ _ k k1 hi x _ ((zA HS).hi.bw s9) ((zA HX).bw s9) (by omega) (by omega)).mono ?_;rintro r' w3 ⟨B9,a3,n3,c3,rfl,E7,m8⟩;have G0:=zB s9 m8)
   | (go_at_call 126;have hq:=y9;refine (yN _ _ _ _ _ _ _ _ (k+k1) k2 (lo*x) y _ o8 ((zA HY).bw y9) (by omega) hy).mono ?_;rintro r' w2 ⟨mW,a2,n2,c2,rfl,A5,j8⟩;have s9:=zB y9 j8)
   | (go_at_call 83;refine (zV _ _ _ _ _ _ _ _ k k1 lo x _ ((zA HS).lo.bw D5) ((zA HX).bw D5) (by omega) (by omega)).mono ?_;rintro r' w1 ⟨m7,a1,n1,c1,rfl,o8,b9⟩;have y9:=zB D5 b9))
 all_goals
  go_wp2_with fail;refine bodyPost_ret (v:=.agg #[.bool mW,.slice a2 n2 c2,.bool E4,.slice a4 n4 c4,.int .i64 s.bits]) (by simp[results,Tryz.results151,go_sem,q0,q1,q2,q3,q4]) rfl ⟨⟨mW,a2,n2,c2,E4,a4,n4,c4,s.bits⟩,rfl,rfl,?_,?_⟩
  ·exact SpAt.put5 ⟨A5.mono (by omega),H8.mono (by omega)⟩ q0 q1 q2 q3 q4 _ _ _ _ _
  ·exact jV (zB j6 J1) (by omega) _ _ _ _ _
theorem zTN (w:World) (s:Sp) (k:Nat) (d lo hi:Int) (hs:SpAt w s k lo hi) (hk:k<=300000000) (hd:0<d) (oT:d<=9223372036854775807) :
  Calls Tryz.prog 123 #[.agg s.q,.int .i64 d] w (zH w s.bits (k+14) (lo*1/d) (-(-(hi*1)/d))):=by
 obtain⟨W,hW⟩:∃ W,W=(w.alloc (.cells s.q 31)).alloc (.cells zCq 31):=⟨_,rfl⟩;have j6:Below w.heap.size w W:=by rw[hW];exact bl2 _ _ _
 have A:SpC W w.heap.size s:=by rw[hW];constructor<;>simp[go_sem]
 have R:NoC W (w.heap.size+1):=by rw[hW];constructor<;>simp[go_sem]
 have HS:=zC (hs.bw j6);have lR:=R.lt;have HK:=zC (show ∀ w',Below W.heap.size W w'->(cK0 w' w.heap.size s) from λ w' hB=>⟨(A.bw hB).c0,(A.bw hB).c1,(A.bw hB).c2,(A.bw hB).c3,(A.bw hB).c4⟩)
 clear A hs
 go_enter Tryz.func123,Tryz.ntmps123
 go_wp2;rw[<- hW];clear hW;have n01:w.heap.size≠w.heap.size+1:=by omega
 have Lm:w.heap.size+1≠w.heap.size:=by omega
 obtain⟨x0,x1,x2,x3,x4⟩:=zA HK _ (Below.refl _ _);have D5:Below W.heap.size W W.drew:=(Below.refl _ _).drew
 go_region_held3 (λ w'=>cK0 w' w.heap.size s) (first|exact zA HK _ (by with_reducible first|exact D5|exact G0|exact s9|exact y9)|(dsimp only[cK,cK0,nK,nK0,rK,rK0];go_keep)|go_keep)
  (first
   | (go_at_call 151;have hq:=s9;refine (zKR _ s _ _ _ _ _ _ _ _ k 4 4 lo hi 1 d ((zA HS).bw s9) (o8.bw j8) A5 (by omega) (by omega) hd).mono ?_;rintro r' w3 ⟨u,rfl,B8,B7,m8⟩;have HU:=zC B8;clear B8;have G0:=zB s9 m8;obtain⟨q0,q1,q2,q3,q4,q5⟩:=R.bw G0;obtain⟨y0,y1,y2,y3,y4⟩:=zA HK _ G0)
   | (go_at_call 33;have hq:=y9;refine (zD d _ (by omega) oT).mono ?_;rintro r' w2 ⟨j7,a2,n2,c2,rfl,A5,j8⟩;have s9:=zB y9 j8)
   | (go_at_call 33;refine (zD 1 _ (by decide) (by decide)).mono ?_;rintro r' w1 ⟨m7,a1,n1,c1,rfl,o8,b9⟩;have y9:=zB D5 b9))
 all_goals
  go_wp2_with fail;refine bodyPost_ret (v:=.agg u.q) (by simp[results,Tryz.results123,go_sem,q0,q1,q2,q3,q4]) rfl ⟨u,rfl,zA HU,?_,?_⟩
  ·exact SpAt.put5 (B7.mono (by omega)) q0 q1 q2 q3 q4 _ _ _ _ _
  ·exact jV (zB j6 G0) (Nat.le_succ _) _ _ _ _ _
theorem zDE (w:World) (b:Nat) (hb:b<=1000000):Calls Tryz.prog 93 #[.int .i64 b] w (zH w b (b/16+24) (1*Q b/1) (-(-(1*Q b)/1))):=by
 go_enter Tryz.func93,Tryz.ntmps93
 go_wp2_with fail;refine (zD 1 _ (by decide) (by decide)).mono ?_
 rintro r' w1 ⟨m7,a1,n1,c1,rfl,o8,b9⟩;have R:=(zQ w 31).bw b9;have hB:Below w.heap.size w w1:=zB (bl1 _ _) b9;clear b9;go_wp2_with fail;refine (zD 1 _ (by decide) (by decide)).mono ?_
 rintro r' w2 ⟨j7,a2,n2,c2,rfl,A5,j8⟩;replace R:=R.bw j8;replace hB:=zB hB j8;replace o8:=o8.bw j8;clear j8;go_wp2_with fail;refine (jI _ _ _ _ _ _ _ _ 4 4 b 1 1 _ o8 A5 (by omega) hb (by omega)).mono ?_
 rintro r' w3 ⟨u,rfl,B8,B7,m8⟩;obtain⟨q0,q1,q2,q3,q4,q5⟩:=R.bw m8;replace hB:=zB hB m8;have HU:=zC B8;clear B8 m8;go_wp2_with fail;refine bodyPost_ret (v:=.agg u.q) (by simp[results,Tryz.results93,go_sem,q0,q1,q2,q3,q4]) rfl ⟨u,rfl,zA HU,?_,?_⟩
 ·exact SpAt.put5 (B7.mono (by omega)) q0 q1 q2 q3 q4 _ _ _ _ _
 ·exact jV hB (Yy _) _ _ _ _ _
theorem zUP (w:World) (s:Sp) (k:Nat) (d lo hi:Int) (hs:SpAt w s k lo hi) (hk:k<=300000000) (hd : -9223372036854775808<=d) (oT:d<=9223372036854775807) :
  Calls Tryz.prog 156 #[.agg s.q,.int .i64 d] w (zH w s.bits (k+4) (lo*d) (hi*d)):=by
 obtain⟨W,hW⟩:∃ W,W=(w.alloc (.cells s.q 31)).alloc (.cells zCq 31):=⟨_,rfl⟩;have j6:Below w.heap.size w W:=by rw[hW];exact bl2 _ _ _
 have A:SpC W w.heap.size s:=by rw[hW];constructor<;>simp[go_sem]
 have R:NoC W (w.heap.size+1):=by rw[hW];constructor<;>simp[go_sem]
 have HS:=zC (hs.bw j6);have lR:=R.lt;have HK:=zC (show ∀ w',Below W.heap.size W w'->(cK0 w' w.heap.size s) from λ w' hB=>⟨(A.bw hB).c0,(A.bw hB).c1,(A.bw hB).c2,(A.bw hB).c3,(A.bw hB).c4⟩)
 clear A hs
 go_enter Tryz.func156,Tryz.ntmps156
 go_wp2;rw[<- hW];clear hW;have n01:w.heap.size≠w.heap.size+1:=by omega
 have Lm:w.heap.size+1≠w.heap.size:=by omega
 obtain⟨x0,x1,x2,x3,x4⟩:=zA HK _ (Below.refl _ _);have D5:Below W.heap.size W W.drew:=(Below.refl _ _).drew
 go_region_held3 (λ w'=>cK0 w' w.heap.size s) (first|exact zA HK _ (by with_reducible first|exact D5|exact J1|exact G0|exact s9|exact y9)|(dsimp only[cK,cK0,nK,nK0,rK,rK0];go_keep)|go_keep)
  (first
   | (go_at_call 83;have hq:=G0;refine (zV _ _ _ _ _ _ _ _ k 4 hi d _ ((zA HS).hi.bw G0) E7 (by omega) (by omega)).mono ?_;rintro r' w4 ⟨E4,a4,n4,c4,rfl,H8,p9⟩;have J1:=zB G0 p9;replace A5:=(A5.bw m8).bw p9;obtain⟨q0,q1,q2,q3,q4,q5⟩:=R.bw J1;obtain⟨y0,y1,y2,y3,y4⟩:=zA HK _ J1)
   | (go_at_call 33;have hq:=s9;refine (zD d _ hd oT).mono ?_;rintro r' w3 ⟨B9,a3,n3,c3,rfl,E7,m8⟩;have G0:=zB s9 m8)
   | (go_at_call 83;have hq:=y9;refine (zV _ _ _ _ _ _ _ _ k 4 lo d _ ((zA HS).lo.bw y9) o8 (by omega) (by omega)).mono ?_;rintro r' w2 ⟨j7,a2,n2,c2,rfl,A5,j8⟩;have s9:=zB y9 j8)
   | (go_at_call 33;refine (zD d _ hd oT).mono ?_;rintro r' w1 ⟨m7,a1,n1,c1,rfl,o8,b9⟩;have y9:=zB D5 b9))
 all_goals
  go_wp2_with fail;refine bodyPost_ret (v:=.agg #[.bool j7,.slice a2 n2 c2,.bool E4,.slice a4 n4 c4,.int .i64 s.bits]) (by simp[results,Tryz.results156,go_sem,q0,q1,q2,q3,q4]) rfl ⟨⟨j7,a2,n2,c2,E4,a4,n4,c4,s.bits⟩,rfl,rfl,?_,?_⟩
  ·exact SpAt.put5 ⟨A5,H8⟩ q0 q1 q2 q3 q4 _ _ _ _ _
  ·exact jV (zB j6 J1) (Nat.le_succ _) _ _ _ _ _
theorem zHQ (w:World) (s:Sp) (k:Nat) (bt lo hi:Int) (hs:SpAt w s k lo hi) (hk:k<=300000000) (F9:0<=s.bits) (qI:s.bits<=1000000) (oR:0<=bt) (oc:bt<=1000000) :
  Calls Tryz.prog 97 #[.agg s.q,.int .i64 bt] w (zH w bt (k+62505) (zA5 lo (s.bits-bt)) (-(zA5 (-hi) (s.bits-bt)))):=by
 obtain⟨W,hW⟩:∃ W,W=(w.alloc (.cells s.q 31)).alloc (.cells zCq 31):=⟨_,rfl⟩;have j6:Below w.heap.size w W:=by rw[hW];exact bl2 _ _ _
 have A:SpC W w.heap.size s:=by rw[hW];constructor<;>simp[go_sem]
 have R:NoC W (w.heap.size+1):=by rw[hW];constructor<;>simp[go_sem]
 have HS:=zC (hs.bw j6);have lA:=A.lt;have lR:=R.lt;have E2:Below W.heap.size W W.drew:=(Below.refl _ _).drew
 have HK:=zC (show ∀ w',Below W.heap.size W w'->(w'.cell? ⟨w.heap.size,0,none⟩=some (.bool s.ln)/\w'.cell? ⟨w.heap.size,1,none⟩=some (.slice s.la s.lN s.lc)/\w'.cell? ⟨w.heap.size,2,none⟩=some (.bool s.hn)/\w'.cell? ⟨w.heap.size,3,none⟩=some (.slice s.ha s.hN s.hc)) from λ w' hB=>by
  obtain⟨x0,x1,x2,x3,x4⟩:=A.bw hB
  exact⟨x0,x1,x2,x3⟩)
 go_enter Tryz.func97,Tryz.ntmps97
 go_wp2;obtain⟨x0,x1,x2,x3,x4⟩:=A;rw[<- hW];clear hW
 go_region_held3 (λ w'=>w'.cell? ⟨w.heap.size,0,none⟩=some (.bool s.ln)/\w'.cell? ⟨w.heap.size,1,none⟩=some (.slice s.la s.lN s.lc)/\w'.cell? ⟨w.heap.size,2,none⟩=some (.bool s.hn)/\w'.cell? ⟨w.heap.size,3,none⟩=some (.slice s.ha s.hN s.hc)) (first|exact zA HK _ (by with_reducible first|exact E2|exact o9|exact A7)|go_keep)
  (first
   | (go_at_call 96;refine (zHA _ _ _ _ k (s.bits-bt) lo _ ((zA HS).lo.bw E2) (by omega) (by omega) (by omega)).mono ?_;rintro r w1 ⟨m7,a1,n1,c1,rfl,o8,b9⟩;have A7:=zB E2 b9)
   | (go_at_call 120;refine (zET _ _ _ _ k (s.bits-bt) hi _ ((zA HS).hi.bw A7) (by omega) (by omega) (by omega)).mono ?_;rintro r w2 ⟨j7,a2,n2,c2,rfl,A5,j8⟩;replace o8:=o8.bw j8;have o9:=zB A7 j8;obtain⟨q0,q1,q2,q3,q4,q5⟩:=R.bw o9;obtain⟨i0,i1,i2,i3⟩:=zA HK _ o9))
 go_wp2;refine bodyPost_ret (v:=.agg #[.bool m7,.slice a1 n1 c1,.bool j7,.slice a2 n2 c2,.int .i64 bt]) (by simp[results,Tryz.results97,go_sem,q0,q1,q2,q3,q4]) rfl ⟨⟨m7,a1,n1,c1,j7,a2,n2,c2,bt⟩,rfl,rfl,?_,?_⟩
 ·exact SpAt.put5 ⟨o8.mono (by omega),A5.mono (by omega)⟩ q0 q1 q2 q3 q4 _ _ _ _ _
 ·exact jV (zB j6 o9) (Nat.le_succ _) _ _ _ _ _
theorem zGP (w:World) (s:Sp) (k:Nat) (bt lo hi:Int) (hs:SpAt w s k lo hi) (hk:k<=300000000) (F9:0<=s.bits) (qI:s.bits<=1000000) (oR:0<=bt) (oc:bt<=1000000) :
  Calls Tryz.prog 52 #[.agg s.q,.int .i64 bt] w (zH w bt (k+62505) (zA5 lo (s.bits-bt)) (-(zA5 (-hi) (s.bits-bt)))):=by
 by_cases aI:s.bits<=bt
 ·obtain⟨K,hK⟩:∃ K:Nat,bt-s.bits=K:=⟨(bt-s.bits).toNat,by omega⟩
  have e1:∀ x,zA5 x (s.bits-bt)=x*Q K:=by
   intro x;unfold zA5
   by_cases h0:0<=s.bits-bt
   ·have hz:s.bits-bt=0:=by omega
    have M5:K=0:=by omega
    rw[if_pos h0,hz,M5];simp[Q]
   ·rw[if_neg h0,show (-(s.bits-bt)).toNat=K by omega]
  have HL:=zC (e1 lo);have HH:=zC (show -(zA5 (-hi) (s.bits-bt))=hi*Q K by rw[e1,Int.neg_mul,Int.neg_neg])
  clear e1;have hK1:K<=1000000:=by omega
  rw[zA HL,zA HH];obtain⟨W,hW⟩:∃ W,W=(w.alloc (.cells s.q 38)).alloc (.cells zCq 38):=⟨_,rfl⟩;have j6:Below w.heap.size w W:=by rw[hW];exact bl2 _ _ _
  have A:SpC W w.heap.size s:=by rw[hW];constructor<;>simp[go_sem]
  have R:NoC W (w.heap.size+1):=by rw[hW];constructor<;>simp[go_sem]
  have HS:=zC (hs.bw j6);have lA:=A.lt;have lR:=R.lt;have E2:Below W.heap.size W W.drew:=(Below.refl _ _).drew
  have HK:=zC (show ∀ w',Below W.heap.size W w'->(w'.cell? ⟨w.heap.size,0,none⟩=some (.bool s.ln)/\w'.cell? ⟨w.heap.size,1,none⟩=some (.slice s.la s.lN s.lc)/\w'.cell? ⟨w.heap.size,2,none⟩=some (.bool s.hn)/\w'.cell? ⟨w.heap.size,3,none⟩=some (.slice s.ha s.hN s.hc)) from λ w' hB=>by
   obtain⟨x0,x1,x2,x3,x4⟩:=A.bw hB
   exact⟨x0,x1,x2,x3⟩)
  go_enter Tryz.func52,Tryz.ntmps52
  go_wp2_with fail;rw[<- hW];clear hW;refine (zDQ K _ (by omega)).mono ?_
  rintro r w1 ⟨m7,a1,n1,c1,rfl,o8,b9⟩;obtain⟨W1,cf⟩:∃ W',W'=w1.alloc (.cells #[.bool m7,.slice a1 n1 c1] 29):=⟨_,rfl⟩;have E5:Below w1.heap.size w1 W1:=by rw[cf];exact bl1 _ _
  have X:NmC W1 w1.heap.size ⟨m7,a1,n1,c1⟩:=by rw[cf];exact zDC w1 ⟨m7,a1,n1,c1⟩ _
  have nR:w1.heap.size≠w.heap.size+1:=YC (R.bw b9).lt;have Lp:w.heap.size+1≠w1.heap.size:=λ e=>nR e.symm
  have A7:=zB b9 E5;have R1:=R.bw A7;have A1:=A.bw A7;have RT:=A1.lt;have rO:=R1.lt;have lX:=X.lt;replace o8:=zC (o8.bw E5);replace HS:=zC ((zA HS).bw A7);have D5:Below W1.heap.size W1 W1.drew:=(Below.refl _ _).drew
  have nG:=zC (show ∀ w',Below W1.heap.size W1 w'->(w'.cell? ⟨w.heap.size,0,none⟩=some (.bool s.ln)/\w'.cell? ⟨w.heap.size,1,none⟩=some (.slice s.la s.lN s.lc)/\w'.cell? ⟨w.heap.size,2,none⟩=some (.bool s.hn)/\w'.cell? ⟨w.heap.size,3,none⟩=some (.slice s.ha s.hN s.hc)/\w'.cell? ⟨w1.heap.size,0,none⟩=some (.bool m7)/\w'.cell? ⟨w1.heap.size,1,none⟩=some (.slice a1 n1 c1)) from λ w' hB=>by
   obtain⟨x0,x1,x2,x3,x4⟩:=A1.bw hB
   exact⟨x0,x1,x2,x3,(X.bw hB).c0,(X.bw hB).c1⟩)
  clear HK E2;go_wp2;rw[<- cf];clear cf;obtain⟨i0,i1,i2,i3,i4,i5⟩:=zA nG _ (Below.refl _ _)
  go_region_held3 (λ w'=>w'.cell? ⟨w.heap.size,0,none⟩=some (.bool s.ln)/\w'.cell? ⟨w.heap.size,1,none⟩=some (.slice s.la s.lN s.lc)/\w'.cell? ⟨w.heap.size,2,none⟩=some (.bool s.hn)/\w'.cell? ⟨w.heap.size,3,none⟩=some (.slice s.ha s.hN s.hc)/\w'.cell? ⟨w1.heap.size,0,none⟩=some (.bool m7)/\w'.cell? ⟨w1.heap.size,1,none⟩=some (.slice a1 n1 c1)) (first|exact zA nG _ (by with_reducible first|exact D5|exact G0|exact s9)|go_keep)
   (first
    | (go_at_call 83;have hq:=s9;refine (zV _ _ _ _ _ _ _ _ k (K/16+5) hi (Q K) _ ((zA HS).hi.bw s9) ((zA o8).bw s9) (by omega) (by omega)).mono ?_;rintro r w3 ⟨B9,a3,n3,c3,rfl,E7,m8⟩;replace A5:=A5.bw m8;have G0:=zB s9 m8;obtain⟨q0,q1,q2,q3,q4,q5⟩:=R1.bw G0;obtain⟨d0,d1,d2,d3,d4,d5⟩:=zA nG _ G0)
    | (go_at_call 83;refine (zV _ _ _ _ _ _ _ _ k (K/16+5) lo (Q K) _ ((zA HS).lo.bw D5) ((zA o8).bw D5) (by omega) (by omega)).mono ?_;rintro r w2 ⟨j7,a2,n2,c2,rfl,A5,j8⟩;have s9:=zB D5 j8))
  clear i0 i1 i2 i3 i4 i5;go_wp2;refine bodyPost_ret (v:=.agg #[.bool j7,.slice a2 n2 c2,.bool B9,.slice a3 n3 c3,.int .i64 bt]) (by simp[results,Tryz.results52,go_sem,q0,q1,q2,q3,q4]) rfl ⟨⟨j7,a2,n2,c2,B9,a3,n3,c3,bt⟩,rfl,rfl,?_,?_⟩
  ·exact SpAt.put5 ⟨A5.mono (by omega),E7.mono (by omega)⟩ q0 q1 q2 q3 q4 _ _ _ _ _
  ·exact jV (zB (zB j6 A7) G0) (Nat.le_succ _) _ _ _ _ _
 ·have e0:¬ bt ≥ s.bits:=aI
  obtain⟨W,hW⟩:∃ W,W=(w.alloc (.cells s.q 38)).alloc (.cells zCq 38):=⟨_,rfl⟩;have j6:Below w.heap.size w W:=by rw[hW];exact bl2 _ _ _
  have A:SpC W w.heap.size s:=by rw[hW];constructor<;>simp[go_sem]
  have R:NoC W (w.heap.size+1):=by rw[hW];constructor<;>simp[go_sem]
  have HS:=zC (hs.bw j6);have lA:=A.lt;have lR:=R.lt;have E2:Below W.heap.size W W.drew:=(Below.refl _ _).drew
  have HK:=zC (show ∀ w',Below W.heap.size W w'->(w'.cell? ⟨w.heap.size,0,none⟩=some (.bool s.ln)/\w'.cell? ⟨w.heap.size,1,none⟩=some (.slice s.la s.lN s.lc)/\w'.cell? ⟨w.heap.size,2,none⟩=some (.bool s.hn)/\w'.cell? ⟨w.heap.size,3,none⟩=some (.slice s.ha s.hN s.hc)) from λ w' hB=>by
   obtain⟨x0,x1,x2,x3,x4⟩:=A.bw hB
   exact⟨x0,x1,x2,x3⟩)
  go_enter Tryz.func52,Tryz.ntmps52
  go_wp2;obtain⟨x0,x1,x2,x3,x4⟩:=A;rw[<- hW];clear hW
  go_region_held3 (λ w'=>w'.cell? ⟨w.heap.size,0,none⟩=some (.bool s.ln)/\w'.cell? ⟨w.heap.size,1,none⟩=some (.slice s.la s.lN s.lc)/\w'.cell? ⟨w.heap.size,2,none⟩=some (.bool s.hn)/\w'.cell? ⟨w.heap.size,3,none⟩=some (.slice s.ha s.hN s.hc)) (first|exact zA HK _ (by with_reducible first|exact E2|exact G3|exact A9|exact o9|exact A7)|go_keep)
   (first
    | (go_at_call 87;have hq:=A9;refine (zA8 _ _ _ _ (k+62505) _ _ (E7.mono (by omega)) (by omega)).mono ?_;rintro r w4 ⟨E4,a4,n4,c4,rfl,H8,p9⟩;replace o8:=o8.bw p9;have G3:=zB A9 p9;obtain⟨q0,q1,q2,q3,q4,q5⟩:=R.bw G3;obtain⟨i0,i1,i2,i3⟩:=zA HK _ G3)
    | (go_at_call 96;have hq:=o9;refine (zHA _ _ _ _ k (s.bits-bt) (-hi) _ A5 (by omega) (by omega) (by omega)).mono ?_;rintro r w3 ⟨B9,a3,n3,c3,rfl,E7,m8⟩;replace o8:=o8.bw m8;have A9:=zB o9 m8)
    | (go_at_call 87;have hq:=A7;refine (zA8 _ _ _ _ k hi _ ((zA HS).hi.bw A7) (by omega)).mono ?_;rintro r w2 ⟨j7,a2,n2,c2,rfl,A5,j8⟩;replace o8:=o8.bw j8;have o9:=zB A7 j8)
    | (go_at_call 96;refine (zHA _ _ _ _ k (s.bits-bt) lo _ ((zA HS).lo.bw E2) (by omega) (by omega) (by omega)).mono ?_;rintro r w1 ⟨m7,a1,n1,c1,rfl,o8,b9⟩;have A7:=zB E2 b9))
  go_wp2;refine bodyPost_ret (v:=.agg #[.bool m7,.slice a1 n1 c1,.bool E4,.slice a4 n4 c4,.int .i64 bt]) (by simp[results,Tryz.results52,go_sem,q0,q1,q2,q3,q4]) rfl ⟨⟨m7,a1,n1,c1,E4,a4,n4,c4,bt⟩,rfl,rfl,?_,?_⟩
  ·exact SpAt.put5 ⟨o8.mono (by omega),H8.mono (by omega)⟩ q0 q1 q2 q3 q4 _ _ _ _ _
  ·exact jV (zB j6 G3) (Nat.le_succ _) _ _ _ _ _
theorem IntAt.fits {w:World} {neg:Bool} {a:Option Addr} {n cap k K:Nat} {z:Int} (h:IntAt w neg a n cap k z) (h0 : -P K<z) (hz:z<P K):IntAt w neg a n cap K z:=by
 obtain⟨d,h1,h2,h3,h4,h5⟩:=h;refine⟨d,h1,h2,h3,?_,h5⟩;refine zGF h1.dgs h2 ?_;have:=zY h1.dgs n
 cases neg
 ·simp[sgn] at h5;omega
 ·simp[sgn] at h5;omega
theorem SpAt.fits {w:World} {s:Sp} {k K:Nat} {lo hi:Int} (h:SpAt w s k lo hi) (hle:lo<=hi) (h0 : -P K<lo) (hz:hi<P K):SpAt w s K lo hi:=⟨h.lo.fits h0 (by omega),h.hi.fits (by omega) hz⟩
def zB1 (z l:Int):Prop:=0<=l/\(z=0->l=0)/\(0<z->∃ L:Nat,l=(L:Int)+1/\Q L<=z/\z<Q (L+1))
theorem zD2 (neg:Bool) (a:Option Addr) (n cap k:Nat) (z:Int) (w:World) (h:IntAt w neg a n cap k z) (hz:0<=z) :
  Calls Tryz.prog 98 #[.agg #[.bool neg,.slice a n cap]] w λ r w'=>∃ l,zB1 z l/\r=.returned (.int .i64 l)/\Below w.heap.size w w':=by
 obtain⟨d,h1,h2,h3,h4,h5⟩:=h;refine (zCV neg a n cap d w h1).mono λ r w' ⟨e1,e2⟩=>⟨zIE n d,?_,e1,e2⟩
 have hV:=zY h1.dgs n
 have hv:V d n=z:=by
  cases neg
  ·simp[sgn] at h5;exact h5.symm
  ·simp[sgn] at h5;omega
 rcases Nat.eq_zero_or_pos n with h0|h0
 ·subst h0
  have:z=0:=by simp[V] at hv;omega
  subst this;exact⟨by simp[zIE],λ _=>by simp[zIE],λ h=>by omega⟩
 ·obtain⟨L,l1,l2,l3⟩:=zSM h1.dgs h0 (by rcases h2 with h2|h2;omega;exact h2)
  have:=zE L;exact⟨by omega,λ h=>by omega,λ _=>⟨L,l1,by omega,by omega⟩⟩
def zFZ (bits:Nat) (Pr:Nat->Int->Int->Prop) (L H:Int):Prop :=
 ∃ (m:Nat) (lo hi:Int),Pr (bits+m) lo hi/\32<=m/\L=lo/Q m/\H = -(-hi/Q m)/\(H-L<=1\/zL4 L H (Q bits) 4=true)
def zFL (bits Kw:Nat) (Pr:Nat->Int->Int->Prop):Prop :=
 ∀ (m:Nat) (lo hi:Int),Pr (bits+m) lo hi->lo<=hi/\hi-lo<=Q Kw /\ -(P 200*Q m)<=lo/\hi<=P 200*Q m
theorem zC6 (x q:Int) (hq:0<q):x <= -(-x/q)*q:=by
 have h:=Int.emod_add_mul_ediv (-x) q;have:=Int.emod_nonneg (-x) (show q≠0 by omega)
 have e : -(-x/q)*q = -(q*(-x/q)):=by rw[Int.neg_mul,Int.mul_comm]
 rw[e];omega
theorem zLP (x q:Int) (hq:0<q) : -(-x/q)*q<x+q:=by
 have h:=Int.emod_add_mul_ediv (-x) q;have:=Int.emod_lt_of_pos (-x) hq;have e : -(-x/q)*q = -(q*(-x/q)):=by rw[Int.neg_mul,Int.mul_comm]
 rw[e];omega
theorem zFA (x q:Int) (hq:0<q):x/q*q<=x:=Int.ediv_mul_le _ (by omega)
theorem flo_gt (x q:Int) (hq:0<q):x<x/q*q+q:=by
 have h:=Int.emod_add_mul_ediv x q;have:=Int.emod_lt_of_pos x hq;rw[Int.mul_comm];omega
theorem zOL {lo hi:Int} {m Kw:Nat} (hle:lo<=hi) (hw:hi-lo<=Q Kw):0 <= -(-hi/Q m)-lo/Q m/\(Kw<=m -> -(-hi/Q m)-lo/Q m<=2)/\(m<=Kw -> -(-hi/Q m)-lo/Q m<=Q (Kw-m)+1):=by
 have hq:=zE m;have a1:=zC6 hi (Q m) (by omega)
 have a2:=zLP hi (Q m) (by omega)
 have a3:=zFA lo (Q m) (by omega)
 have a4:=flo_gt lo (Q m) (by omega)
 have hs:(-(-hi/Q m)-lo/Q m)*Q m = -(-hi/Q m)*Q m-lo/Q m*Q m:=Int.sub_mul _ _ _;refine⟨?_,λ h=>?_,λ h=>?_⟩
 ·refine Int.not_lt.1 λ hn=>?_
  have:=Yt (show -(-hi/Q m)-lo/Q m <= -1 by omega) (show 0<=Q m by omega)
  omega
 ·have hk:=zJ h
  refine Int.not_lt.1 λ hn=>?_
  have:=Yt (show 3 <= -(-hi/Q m)-lo/Q m by omega) (show 0<=Q m by omega)
  omega
 ·have hk:Q Kw=Q (Kw-m)*Q m:=by rw[<- jF];congr 1;omega
  refine Int.not_lt.1 λ hn=>?_
  have h5:=Yt (show Q (Kw-m)+2 <= -(-hi/Q m)-lo/Q m by omega) (show 0<=Q m by omega)
  have h6:(Q (Kw-m)+2)*Q m=Q (Kw-m)*Q m+2*Q m:=Int.add_mul _ _ _;omega
theorem zDP {L H:Int} {b:Nat} (hle:L<=H) (h:H-L<=4):zL4 L H (Q b) 4=true:=by
 unfold zL4;rw[decide_eq_true_iff];have hq:=zE b;have h1:(H-L)*Q b<=4*Q b:=Yt h (by omega)
 have h2:0<=zGY H (-L):=by unfold zGY;split<;>omega
 have:4*(Q b+zGY H (-L))=4*Q b+4*zGY H (-L):=Int.mul_add _ _ _;omega
theorem to_fit {lo hi:Int} {m:Nat} (h1 : -(P 200*Q m)<=lo) (h2:hi<=P 200*Q m) : -P 250<lo/Q m /\ -(-hi/Q m)<P 250:=by
 have hq:=zE m
 have hp:P 200<P 250:=by
  have e:P 250=P 200*P 50:=P_add 200 50;have h3:=yF 200;have h4:P 200*65536<=P 200*P 50:=Yx (zBS (show 1<=50 by omega)) (by omega)
  omega
 have a1 : -P 200<=lo/Q m:=by rw[Int.le_ediv_iff_mul_le (by omega),Int.neg_mul];exact h1
 have a2 : -P 200 <= -hi/Q m:=by rw[Int.le_ediv_iff_mul_le (by omega),Int.neg_mul];omega
 omega
def SureInv (Kw m t:Nat):Prop:=32<=m/\1<=t/\t<=m/\((t<=3/\m<=Kw+40*t)\/m<=Kw+40)
theorem zSN {z l:Int} {K:Nat} (h:zB1 z l) (hz:z<=Q K+1) (h0:0<=z):l<=K+2:=by
 obtain⟨h1,h2,h3⟩:=h
 by_cases hp:0<z
 ·obtain⟨L,e1,e2,e3⟩:=h3 hp
  by_cases hL:L<=K+1
  ·omega
  ·have:=zJ (show K+2<=L by omega)
   have e:Q (K+2)=2*(2*Q K):=rfl;have:=zE K;omega
 ·have:=h2 (by omega);omega
theorem zSQ {z l:Int} (h:zB1 z l) (hz:z<=2) (h0:0<=z):l<=2:=by
 have:=zSN (K:=0) h (by simp[Q];omega) h0
 omega
theorem zSP {z l:Int} (h:zB1 z l) (hl:l<=1) (h0:0<=z):z<=1:=by
 obtain⟨h1,h2,h3⟩:=h
 by_cases hp:0<z
 ·obtain⟨L,e1,e2,e3⟩:=h3 hp
  have:L=0:=by omega
  subst this;simp[Q] at e3;omega
 ·omega
end Go.Proofs.YtgmnknmjainabacGreat
namespace Go.Proofs.YtgmnknmjainabacGreat.Ex
def S (f:Nat->Rat):Nat->Rat
 | 0=>0
 | n+1=>S f n+f n
theorem S_add (f g:Nat->Rat) (n:Nat):S (λ i=>f i+g i) n=S f n+S g n:=by
 induction n with
 | zero=>simp[S];try grind
 | succ n ih=>simp only[S,ih];grind
theorem zGV (c:Rat) (f:Nat->Rat) (n:Nat):S (λ i=>c*f i) n=c*S f n:=by
 induction n with
 | zero=>simp[S];try grind
 | succ n ih=>simp only[S,ih];grind
theorem kR {f g:Nat->Rat} (n:Nat) (h:∀ i,i<n->f i=g i):S f n=S g n:=by
 induction n with
 | zero=>rfl
 | succ n ih=>simp only[S];rw[ih (λ i hi=>h i (by omega)),h n (by omega)]
theorem zQO (f:Nat->Rat) (n:Nat):S f (n+1)=f 0+S (λ i=>f (i+1)) n:=by
 induction n with
 | zero=>simp[S];grind
 | succ n ih=>rw[S,ih];simp only[S];grind
def tm (x:Rat):Nat->Rat
 | 0=>1
 | n+1=>tm x n*x/((n:Rat)+1)
theorem zA0 (n:Nat):(0:Rat)<(n:Rat)+1:=by
 have:(0:Rat)<=(n:Rat):=by exact_mod_cast Nat.zero_le n
 grind
theorem kU (x:Rat) (n:Nat):((n:Rat)+1)*tm x (n+1)=x*tm x n:=by
 simp only[tm];have:=zA0 n;grind
def cv (a b:Nat->Rat) (n:Nat):Rat:=S (λ i=>a i*b (n-i)) (n+1)
theorem cv_tm (x y:Rat) (n:Nat):cv (tm x) (tm y) n=tm (x+y) n:=by
 induction n with
 | zero=>simp[cv,S,tm];grind
 | succ n ih =>
  have h:=zA0 n
  have h1:((n:Rat)+1)*cv (tm x) (tm y) (n+1)=(x+y)*cv (tm x) (tm y) n:=by
   have e1:((n:Rat)+1)*cv (tm x) (tm y) (n+1)=S (λ i=>(i:Rat)*tm x i*tm y (n+1-i)+tm x i*((n+1-i:Nat):Rat)*tm y (n+1-i)) (n+2):=by
    unfold cv;rw[<- zGV];refine kR _ λ i hi=>?_
    have:((n:Rat)+1)=(i:Rat)+((n+1-i:Nat):Rat):=by
     have:(n+1:Nat)=i+(n+1-i):=by omega
     have:=congrArg (λ k:Nat=>(k:Rat)) this
     simp at this;grind
    rw[this];grind
   rw[e1,S_add]
   have e2:S (λ i=>(i:Rat)*tm x i*tm y (n+1-i)) (n+2)=x*cv (tm x) (tm y) n:=by
    rw[zQO];simp;rw[Rat.zero_add];unfold cv;rw[<- zGV];refine kR _ λ i hi=>?_
    have:=kU x i;grind
   have e3:S (λ i=>tm x i*((n+1-i:Nat):Rat)*tm y (n+1-i)) (n+2)=y*cv (tm x) (tm y) n:=by
    rw[S];simp;rw[Rat.add_zero];unfold cv;rw[<- zGV];refine kR _ λ i hi=>?_
    have e:n+1-i=(n-i)+1:=by omega
    rw[e];have:=kU y (n-i);simp;grind
   rw[e2,e3];grind
  have h2:=kU (x+y) n;rw[ih] at h1;have:((n:Rat)+1)*cv (tm x) (tm y) (n+1)=((n:Rat)+1)*tm (x+y) (n+1):=by rw[h1,h2]
  have hz:((n:Rat)+1)≠0:=by grind
  have h5:((n:Rat)+1)*(cv (tm x) (tm y) (n+1)-tm (x+y) (n+1))=0:=by grind
  rcases Rat.mul_eq_zero.1 h5 with h6|h6
  ·exact absurd h6 hz
  ·grind
def E (x:Rat) (M:Nat):Rat:=S (tm x) M
theorem E_add (x y:Rat) (M:Nat):E (x+y) M=S (λ i=>tm x i*E y (M-i)) M:=by
 induction M with
 | zero=>rfl
 | succ M ih =>
  have h1:E (x+y) (M+1)=E (x+y) M+tm (x+y) M:=rfl;rw[h1,ih,<- cv_tm]
  have h2:S (λ i=>tm x i*E y (M+1-i)) (M+1)=S (λ i=>tm x i*E y (M-i)+tm x i*tm y (M-i)) (M+1):=by
   refine kR _ λ i hi=>?_
   have e:M+1-i=(M-i)+1:=by omega
   have e2:E y ((M-i)+1)=E y (M-i)+tm y (M-i):=rfl;rw[e,e2];grind
  rw[h2,S_add]
  have h3:S (λ i=>tm x i*E y (M-i)) (M+1)=S (λ i=>tm x i*E y (M-i)) M:=by
   simp only[S];have:M-M=0:=by omega
   rw[this];have:E y 0=0:=rfl;rw[this];grind
  rw[h3];rfl
theorem E_diff (x y:Rat) (M:Nat):E x M*E y M-E (x+y) M=S (λ i=>tm x i*(E y M-E y (M-i))) M:=by
 rw[E_add];have h1:E x M*E y M=S (λ i=>E y M*tm x i) M:=by rw[zGV];unfold E;grind
 rw[h1]
 have h2:S (λ i=>E y M*tm x i) M=S (λ i=>tm x i*(E y M-E y (M-i))) M+S (λ i=>tm x i*E y (M-i)) M:=by
  rw[<- S_add];refine kR _ λ i hi=>?_
  grind
 rw[h2];grind
def AB (t b:Rat):Prop := -b<=t/\t<=b
theorem AB.nonneg {t b:Rat} (h:AB t b):0<=b:=by obtain⟨h1,h2⟩:=h;grind
theorem AB.mul {s t a b:Rat} (h:AB s a) (k:AB t b):AB (s*t) (a*b):=by
 obtain⟨h1,h2⟩:=h;obtain⟨k1,k2⟩:=k;have p1:=Ys (show 0<=a-s by grind) (show 0<=b+t by grind)
 have p2:=Ys (show 0<=a+s by grind) (show 0<=b-t by grind)
 have p3:=Ys (show 0<=a-s by grind) (show 0<=b-t by grind)
 have p4:=Ys (show 0<=a+s by grind) (show 0<=b+t by grind)
 constructor<;>grind
theorem AB.add {s t a b:Rat} (h:AB s a) (k:AB t b):AB (s+t) (a+b):=by
 obtain⟨h1,h2⟩:=h;obtain⟨k1,k2⟩:=k;constructor<;>grind
theorem AB.mono {s a b:Rat} (h:AB s a) (k:a<=b):AB s b:=by
 obtain⟨h1,h2⟩:=h;constructor<;>grind
theorem AB.neg {s a:Rat} (h:AB s a):AB (-s) a:=by
 obtain⟨h1,h2⟩:=h;constructor<;>grind
theorem S_AB {f g:Nat->Rat} (n:Nat) (h:∀ i,i<n->AB (f i) (g i)):AB (S f n) (S g n):=by
 induction n with
 | zero=>simp only[S];constructor<;>grind
 | succ n ih=>simp only[S];exact (ih (λ i hi=>h i (by omega))).add (h n (by omega))
def q4:Nat->Rat
 | 0=>1
 | n+1=>q4 n/4
theorem yE (n:Nat):0<q4 n:=by
 induction n with
 | zero=>simp only[q4];grind
 | succ n ih=>simp only[q4];grind
theorem q4_add (a b:Nat):q4 (a+b)=q4 a*q4 b:=by
 induction b with
 | zero=>simp only[q4,Nat.add_zero];grind
 | succ b ih=>rw[<- Nat.add_assoc];simp only[q4,ih];grind
theorem E_sub (y:Rat) (K:Rat) (hK:∀ i,AB (tm y i) (K*q4 i)) (a i:Nat):AB (E y (a+i)-E y a) (2*K*(q4 a-q4 (a+i))):=by
 induction i with
 | zero=>simp only[Nat.add_zero];constructor<;>grind
 | succ i ih =>
  have e:E y (a+(i+1))=E y (a+i)+tm y (a+i):=rfl;have e2:q4 (a+(i+1))=q4 (a+i)/4:=rfl;rw[e,e2];have h:=hK (a+i);have hn:=h.nonneg;have:=ih.add h;have h3:E y (a+i)+tm y (a+i)-E y a=E y (a+i)-E y a+tm y (a+i):=by grind
  rw[h3];refine this.mono ?_;grind
theorem zQN (c:Rat) (n:Nat):S (λ _=>c) n=n*c:=by
 induction n with
 | zero=>simp[S]
 | succ n ih =>
  simp only[S,ih];have:((n+1:Nat):Rat)=(n:Rat)+1:=by simp
  rw[this];grind
theorem E_mul (x y K L:Rat) (hK:∀ i,AB (tm x i) (K*q4 i)) (hL:∀ i,AB (tm y i) (L*q4 i)) (M:Nat):AB (E x M*E y M-E (x+y) M) (M*(2*K*L*q4 M)):=by
 rw[E_diff,<- zQN];refine S_AB _ λ i hi=>?_
 have h1:=E_sub y L hL (M-i) i;rw[show M-i+i=M by omega] at h1
 have h2:=(hK i).mul h1;refine h2.mono ?_;have e:q4 M=q4 i*q4 (M-i):=by rw[<- q4_add];congr 1;omega
 have tE:=(hL M).nonneg;have Jq:=(hK M).nonneg;have p:=yE M
 have pK:0<=K:=by
  have:=(hK 0).nonneg;simp only[q4] at this;grind
 have pL:0<=L:=by
  have:=(hL 0).nonneg;simp only[q4] at this;grind
 have p5:=Ys (Ys pK pL) (Ys (Yw (yE i)) (Yw p));rw[e] at p5 ⊢;grind
theorem tm_step (x:Rat) (n:Nat) (c:Rat) (hx:AB (4*x) ((n:Rat)+1)) (h:AB (tm x n) (c*q4 n)):AB (tm x (n+1)) (c*q4 (n+1)):=by
 have hp:=zA0 n;have e:=kU x n;have h2:=hx.mul h;have q:=yE n;have e2:q4 (n+1)=q4 n/4:=rfl;rw[e2];have h3:4*x*tm x n=4*((n:Rat)+1)*tm x (n+1):=by grind
 rw[h3] at h2;obtain⟨g1,g2⟩:=h2;constructor
 ·refine Rat.not_lt.1 λ hn=>?_
  have:=Rat.mul_pos hp (show 0 < -(c*(q4 n/4))-tm x (n+1) by grind)
  grind
 ·refine Rat.not_lt.1 λ hn=>?_
  have:=Rat.mul_pos hp (show 0<tm x (n+1)-c*(q4 n/4) by grind)
  grind
theorem AB.self (t:Rat):∃ b,AB t b:=by
 by_cases h:0<=t
 ·exact⟨t,by constructor<;>grind⟩
 ·exact⟨-t,by constructor<;>grind⟩
theorem tm_upto (x:Rat) (n:Nat):∃ K,0<=K/\∀ i,i<=n->AB (tm x i) (K*q4 i):=by
 induction n with
 | zero=>exact⟨1,by grind,λ i hi=>by
   have:i=0:=by omega
   subst this
   simp only[tm,q4];constructor<;>grind⟩
 | succ n ih =>
  obtain⟨K,h0,h⟩:=ih;obtain⟨b,hb⟩:=AB.self (tm x (n+1));have q:=yE (n+1);have F9:=hb.nonneg;have hq:b/q4 (n+1)*q4 (n+1)=b:=by grind
  have hd:0<=b/q4 (n+1):=by
   refine Rat.not_lt.1 λ hn=>?_
   have:=Rat.mul_pos q (show 0 < -(b/q4 (n+1)) by grind)
   grind
  refine⟨K+b/q4 (n+1),by grind,λ i hi=>?_⟩
  have qi:=yE i
  by_cases I6:i=n+1
  ·subst I6
   refine hb.mono ?_;have:=Ys h0 (Yw q);grind
  ·refine (h i (by omega)).mono ?_
   have:=Ys hd (Yw qi);grind
theorem kC (x:Rat):∃ n:Nat,AB x (n:Rat):=by
 refine⟨x.floor.natAbs+1,?_⟩;have h1:=Rat.lt_floor_add_one x;have h2:=Rat.floor_le x
 have h3:((x.floor+1:Int):Rat)<=((x.floor.natAbs+1:Nat):Rat):=by
  have:x.floor+1<=((x.floor.natAbs+1:Nat):Int):=by omega
  exact_mod_cast this
 have h4 : -((x.floor.natAbs+1:Nat):Rat)<=(x.floor:Rat):=by
  have:(0:Int)<=x.floor+((x.floor.natAbs+1:Nat):Int):=by omega
  have h5:(0:Rat)<=((x.floor+((x.floor.natAbs+1:Nat):Int):Int):Rat):=by exact_mod_cast this
  have h6:((x.floor+((x.floor.natAbs+1:Nat):Int):Int):Rat)=(x.floor:Rat)+((x.floor.natAbs+1:Nat):Rat):=by rw[Rat.intCast_add];rfl
  grind
 constructor<;>grind
theorem zP3 (x:Rat):∃ K,0<=K/\∀ i,AB (tm x i) (K*q4 i):=by
 obtain⟨n,hn⟩:=kC (4*x);obtain⟨K,h0,h⟩:=tm_upto x n;refine⟨K,h0,λ i=>?_⟩
 by_cases hi:i<=n
 ·exact h i hi
 ·obtain⟨j,rfl⟩:∃ j,i=n+j:=⟨i-n,by omega⟩
  clear hi
  induction j with
  | zero=>exact h n (Yy _)
  | succ j ih =>
   refine tm_step x (n+j) K (hn.mono ?_) ih;have h1:((n+j:Nat):Rat)=(n:Rat)+j:=by simp
   have h2:(0:Rat)<=(j:Rat):=by exact_mod_cast Nat.zero_le j
   rw[h1];grind
theorem near_bd (M:Nat):0<=(M:Rat)*q4 M:=Ys (by exact_mod_cast Nat.zero_le M) (Yw (yE M))
theorem nat_q4 (M:Nat):(M:Rat)*((M:Rat)+1)*q4 M<=1:=by
 induction M with
 | zero=>simp only[q4];grind
 | succ M ih =>
  have e:((M+1:Nat):Rat)=(M:Rat)+1:=by simp
  have e2:q4 (M+1)=q4 M/4:=rfl;have q:=yE M;have hM:(0:Rat)<=(M:Rat):=by exact_mod_cast Nat.zero_le M
  rw[e,e2]
  rcases Nat.eq_zero_or_pos M with h|h
  ·subst h
   simp only[q4];grind
  ·have h1:(1:Rat)<=(M:Rat):=by exact_mod_cast h
   have p:=Ys (Ys (show 0<=(M:Rat)+1 by grind) (show 0<=3*(M:Rat)-2 by grind)) (Yw q)
   grind
theorem zA1 {x:Rat} (h:0<=x) (n:Nat):0<=tm x n:=by
 induction n with
 | zero=>simp only[tm];grind
 | succ n ih =>
  have e:=kU x n;have hp:=zA0 n;refine Rat.not_lt.1 λ hn=>?_
  have h1:=Rat.mul_pos hp (show 0 < -tm x (n+1) by grind)
  have h2:=Ys h ih;grind
theorem E_one {x:Rat} (h:0<=x) {M:Nat} (hM:1<=M):1<=E x M:=by
 obtain⟨n,rfl⟩:∃ n,M=n+1:=⟨M-1,by omega⟩
 clear hM
 induction n with
 | zero=>simp only[E,S,tm];grind
 | succ n ih =>
  have e:E x (n+1+1)=E x (n+1)+tm x (n+1):=rfl;have:=zA1 h (n+1);rw[e];grind
end Go.Proofs.YtgmnknmjainabacGreat.Ex
