/-
  Its own texts.
-/
import Derived.Deep.LoopGhost
import Derived.Test.YtgmnknmjainabacGreatH06
set_option maxRecDepth 100000
set_option maxHeartbeats 40000000
set_option linter.unnecessarySimpa false
set_option linter.unusedSimpArgs false
set_option linter.unusedVariables false
namespace Go.Proofs.YtgmnknmjainabacGreat
open Go.RowKit
attribute [local go_sem ↓] Go.wp_at_zero Go.wp_at_succ
def FzP (w:World) (p:Value):Prop:=∀ B,p=.pointer (some ⟨B,0,none⟩)->∀ o,w.frozen? ⟨B,o,none⟩=false
def RootOf (x z:Int):Prop:=0<=z/\(x<=0->z=0)/\(0<x->z*z<=x/\x<(z+1)*(z+1))
theorem IntAt.fit {w:World} {neg:Bool} {a:Option Addr} {n cap k K:Nat} {z:Int} (h:IntAt w neg a n cap k z) (h0:0<=z) (hz:z<P K):IntAt w neg a n cap K z:=by
 obtain⟨d,h1,h2,h3,h4,h5⟩:=h;refine⟨d,h1,h2,h3,?_,h5⟩;refine zHC h1.dgs h2 ?_;have:=jA h1.dgs n
 cases neg
 ·simp[sgn] at h5;omega
 ·simp[sgn] at h5;have:=yI K;omega
theorem zT (w:World) (a b:Addr) (v:Value):(w.setCell a v).frozen? b=w.frozen? b:=by simp[go_sem]
theorem jI (n:Int) (h1 : -9223372036854775808<=n) (h2:n<=9223372036854775807):IntKind.i64.wrap n=n:=by rw[IntKind.wrap_i64];omega
theorem zAY (neg:Bool) (a:Option Addr) (n cap k:Nat) (x:Int) (w:World) (h:IntAt w neg a n cap k x) :
  Calls Tryz.prog 73 #[.agg #[.bool neg,.slice a n cap]] w λ r w'=>r=.returned (.int .i64 (zN x 0))/\Below w.heap.size w w':=by
 obtain⟨d,h1,h2,h3,h4,h5⟩:=h
 have e:zL7 neg n=zN x 0:=by
  have hv:=jA h1.dgs n;unfold zL7 zN
  by_cases hn:n=0
  ·subst hn
   have:x=0:=by rw[h5];cases neg<;>simp[sgn,V]
   subst this;simp
  ·have h6:=V_ge h1.dgs (n-1) (by omega)
   rw[show n-1+1=n by omega] at h6
   have:=yI (n-1);rw[if_neg hn]
   cases neg
   ·simp[sgn] at h5
    rw[if_neg (by simp),if_neg (by omega),if_pos (by omega)]
   ·simp[sgn] at h5
    rw[if_pos rfl,if_pos (by omega)]
 exact (zI5 neg a n cap w h1.room).mono λ r w' ⟨p1,p2⟩=>⟨by rw[p1,e],p2⟩
theorem root_pos (neg:Bool) (a:Option Addr) (n cap k:Nat) (x:Int) (w:World) (h1:IntAt w neg a n cap k x) (hk:k<=100000000) (hx:0<x) :
  Calls Tryz.prog 206 #[.agg #[.bool neg,.slice a n cap]] w λ r w'=>∃ z,RootOf x z/\zDP w (k+10) z r w':=by
 obtain⟨d,g1,g2,g3,g4,g5⟩:=h1;have h1:IntAt w neg a n cap k x:=⟨d,g1,g2,g3,g4,g5⟩
 have hn:0<n:=by
  rcases Nat.eq_zero_or_pos n with h0|h0
  ·subst h0;cases neg<;>simp[sgn,V] at g5<;>omega
  ·exact h0
 have hxV:V d n=x:=by
  have:=jA g1.dgs n
  cases neg
  ·simpa [sgn] using g5.symm
  ·simp[sgn] at g5;omega
 obtain⟨l,l1,l2,l3⟩:=zRZ g1.dgs hn (by omega)
 rw[hxV] at l2 l3;obtain⟨K0,Io⟩:∃ K0:Nat,((l:Int)+1)/2+1=(K0:Int):=⟨(l+1)/2+1,by omega⟩
 have BI:l+1<=2*K0/\K0<=l+2:=by omega
 have hln:l+1<=16*n:=by have:=lenZ_le n d;omega
 have ze:0<=(l:Int):=by omega
 have Qg:(l:Int)<=1600000000:=by omega
 have na:=zC (show IntKind.i64.wrap (IntKind.i64.wrap (((l:Int)+1).tdiv 2)+1)=(K0:Int) by
  rw[Int.tdiv_eq_ediv_of_nonneg (by omega),jI (((l:Int)+1)/2) (by omega) (by omega),jI _ (by omega) (by omega)]
  exact Io)
 have nJ:=zE K0
 have YJ:x<Q K0*Q K0:=by
  rw[<- jD];have:=zH (show l+1<=K0+K0 by omega);omega
 have Xj:Q K0<P (k+2):=by
  rw[<- Q_P];have h5:=zH (show K0+1<=16*(k+2) by omega)
  simp only[Q] at h5;omega
 have Tq:=zC (show x<(Q K0+1)*(Q K0+1) by
  have h5:(Q K0+1)*(Q K0+1)=Q K0*Q K0+2*Q K0+1:=by rw[Int.add_mul,Int.mul_add];omega
  omega)
 have t1:¬ zN x 0<=0:=by unfold zN;rw[if_neg (by omega),if_pos (by omega)];omega
 obtain⟨W,hW⟩:∃ W,W=(w.alloc (.cells #[.bool neg,.slice a n cap] 29)).alloc (.cells #[.bool false,.slice none 0 0] 29):=⟨_,rfl⟩;have j8:Below w.heap.size w W:=by rw[hW];exact bl2 _ _ _
 have A:NmC W w.heap.size ⟨neg,a,n,cap⟩:=by rw[hW];constructor<;>simp[go_sem]
 have R:NoI W (w.heap.size+1):=by rw[hW];constructor<;>simp[go_sem]
 have GD:=zC (g1.bw j8);have HX:=zC (h1.bw j8);have HL:=zC l1;have Tb:=zC BI;clear g1 h1 l1 hxV g5 YJ l2 l3 BI
 go_enter Tryz.func206,Tryz.ntmps206
 go_wp2_with fail;rw[<- hW];clear hW;refine (zAY _ _ _ _ k x _ (zA HX)).mono ?_;rintro r w0 ⟨rfl,E8⟩;replace A:=A.bw E8;replace R:=R.bw E8;replace j8:=zB j8 E8;replace GD:=zC ((zA GD).bw E8);replace HX:=zC ((zA HX).bw E8);have Gt:=zC (show ∀ w',Below w0.heap.size w0 w'->(w'.cell? ⟨w.heap.size,0,none⟩=some (.bool neg)/\w'.cell? ⟨w.heap.size,1,none⟩=some (.slice a n cap)) from λ w' hB=>⟨(A.bw hB).c0,(A.bw hB).c1⟩)
 have lA:=A.lt;have lR:=R.lt;obtain⟨i0,i1⟩:=zA Gt _ (Below.refl _ _);clear E8;go_wp2_with fail
 go_cut [3] (λ p wx=>VarAt wx p w0.heap.size (k+10) (1*Q K0)/\FzP wx p/\Below w0.heap.size w0 wx)
 case first =>
  go_region_held3 (λ w'=>w'.cell? ⟨w.heap.size,0,none⟩=some (.bool neg)/\w'.cell? ⟨w.heap.size,1,none⟩=some (.slice a n cap)) (exact zA Gt _ (by repeat' (first|with_reducible exact dZ|with_reducible exact Q8|with_reducible exact J8|with_reducible exact Below.refl _ _|with_reducible refine Below.drew ?_|with_reducible refine zL ?_ _|with_reducible refine Below.setCell ?_ (by first|exact Zb _|exact aW|exact aX|exact fI) _)))
   (first
    | (go_at_call 116;have hq:=Q8;rw[zA na];refine (zCG _ _ _ _ K0 4 1 _ (R9.bw (by with_reducible first|exact Below.refl _ _|exact bl1 _ _)) (by omega) (by have:=zA Tb;omega)).mono ?_;rintro r KA ⟨mJ,GP,Kl,GW,rfl,mb,eX⟩;have bs:Below mK.heap.size mK KA:=(by with_reducible first|exact eX|exact zB (bl1 _ _) eX);have dZ:=zB Q8 bs;(try with_reducible have Bt:=(kA mK 29).bw eX);replace R9:=R9.bw bs;(try replace cE:=cE.bw bs);(try replace iJ:=iJ.bw bs);have fI:=dZ.size;(try have rh:=cE.lt);(try have Pc:=Zg rh);(try have Bp:=Zf rh);(try obtain⟨Eb,Ec,Ed⟩:=cE);(try have ri:=iJ.lt);(try have Pd:=Zg ri);(try have Bq:=Zf ri);(try obtain⟨Ee,Ef,Eg⟩:=iJ);(try have Dh:=Bt.lt);(try have Ws:=Zg Dh);(try have Hi:=Zf Dh);(try obtain⟨MA,MB,MC⟩:=Bt))
    | (go_at_call 98;have hq:=J8;refine (zR0 _ _ _ _ d _ ((zA GD).bw (by with_reducible first|exact J8|exact zL J8 _))).mono ?_;rintro r mK ⟨rfl,aT⟩;rw[zA HL];have aN:Below gI.heap.size gI mK:=(by with_reducible first|exact aT|exact zB (bl1 _ _) aT);have Q8:=zB J8 aN;(try with_reducible have iJ:=(kA gI 29).bw aT);replace R9:=R9.bw aN;(try replace cE:=cE.bw aN);have aX:=Q8.size)
    | (go_at_call 33;refine (zD 1 _ (by decide) (by decide)).mono ?_;rintro r gI ⟨rv,OC,RD,OQ,rfl,R9,aS⟩;have J8:Below w0.heap.size w0 gI:=(by with_reducible first|exact zB (Below.refl _ _).drew aS|exact zB (bl1 _ _).drew aS);(try with_reducible have cE:=((kA w0 29).bw (Below.refl _ _).drew).bw aS);have aW:=J8.size))
  all_goals
   go_wp2_with fail;go_meet;refine⟨⟨_,⟨mJ,GP,Kl,GW⟩,rfl,?_,?_,?_,?_,?_⟩,?_,?_⟩
   ·simp[go_sem, *]
   ·simp[go_sem, *]
   ·first|with_reducible exact IntAt.mono (mb.bw (bl1 _ _)) (by omega)|with_reducible exact IntAt.mono (mb.put2 (by assumption) (by assumption) _ _) (by omega)
   ·first|exact Zb _|exact aW|exact aX|exact fI
   ·simp[World.setCell];try omega
   ·intro B hB o;cases hB;simp[go_sem, *]
   ·repeat' (first|with_reducible exact dZ|with_reducible exact Q8|with_reducible exact J8|with_reducible exact Below.refl _ _|with_reducible refine Below.drew ?_|with_reducible refine zL ?_ _|with_reducible refine Below.setCell ?_ (by first|exact Zb _|exact aW|exact aX|exact fI) _)
 case rest =>
 obtain⟨⟨BX,xX,rfl,zo,zq,nw,yj,hltX⟩,hfzX,hblX⟩:=hcut;have XX:NmC wc BX xX:=⟨zo,zq⟩;have F0:∀ o,wc.frozen? ⟨BX,o,none⟩=false:=hfzX BX rfl;replace A:=A.bw hblX;replace R:=R.bw hblX;replace j8:=zB j8 hblX;replace HX:=zC ((zA HX).bw hblX);rw[Int.one_mul] at nw;have Xy:=nw.fit (by omega) Xj
 have wy:w.heap.size≠BX:=Zg (Zd lA yj);have nXA:BX≠w.heap.size:=λ e9=>wy e9.symm
 have hnXR:BX≠w.heap.size+1:=Zf (Zd lR yj);have WY:w.heap.size<=BX:=by omega
 clear i0 i1 Gt nw zo zq HL na GD;go_wp2_with fail
 go_loopg [4] (Q K0).toNat (λ gg p wr=>∃ (X:Nm) (z:Int),NmC wr BX X/\(∀ o,wr.frozen? ⟨BX,o,none⟩=false)/\IntAt wr X.neg X.a X.n X.cap (k+2) z/\0<z/\z<=Q K0/\z.toNat<=gg/\x<(z+1)*(z+1)/\NmC wr w.heap.size ⟨neg,a,n,cap⟩/\NoI wr (w.heap.size+1)/\IntAt wr neg a n cap k x/\Below w.heap.size w wr)
 case atStart=>exact⟨xX,Q K0,XX,F0,Xy,by omega,Int.le_refl _,Zb _,zA Tq,A,R,zA HX,j8⟩
 case round =>
  obtain⟨X,z,hX,hF,hz,M5,hzq,hzg,QJ,A,R,Bf,ng⟩:=hrel;obtain⟨yv,Fm⟩:∃ yv,yv=(z+x/z)/2:=⟨_,rfl⟩;have hxz:0<=x/z:=Int.ediv_nonneg (by omega) (by omega)
  have C7:x<(yv+1)*(yv+1):=by rw[Fm];exact zSR M5
  have wm:0<yv:=by
   rcases Int.lt_or_le 0 yv with h5|h5
   ·exact h5
   ·have h6:yv=0:=by omega
    rw[h6] at C7;omega
  have TF:=zC (show (z+x/z)/Q 1=yv from Fm.symm)
  have Tx:=zC C7;have TJ:=zC QJ;have Gm:=zC (show z<=yv->z*z<=x from λ h=>zPA M5 (by omega) (by rw[<- Fm];exact h))
  clear Fm C7 QJ;have hz:=zC hz;have Bf:=zC Bf;have aq:=zC (show ∀ w',Below wr.heap.size wr w'->(w'.cell? ⟨w.heap.size,0,none⟩=some (.bool neg)/\w'.cell? ⟨w.heap.size,1,none⟩=some (.slice a n cap)/\nK0 w' BX X) from λ w' hB=>⟨(A.bw hB).c0,(A.bw hB).c1,(hX.bw hB).c0,(hX.bw hB).c1⟩)
  have lA:=A.lt;have lX:=hX.lt;have lR:=R.lt;have nXR:BX≠w.heap.size+1:=hnXR;have Dt:w.heap.size+1≠BX:=λ e9=>nXR e9.symm
  obtain⟨i0,i1,i2,i3⟩:=zA aq _ (Below.refl _ _);go_wp2_with fail
  go_cut [4] (λ p wx=>VarAt wx p wr.heap.size (k+20) ((z+x/z)/Q 1)/\Below wr.heap.size wr wx)
  case first =>
   go_region_held3 (λ w'=>w'.cell? ⟨w.heap.size,0,none⟩=some (.bool neg)/\w'.cell? ⟨w.heap.size,1,none⟩=some (.slice a n cap)/\nK0 w' BX X) (exact zA aq _ (by repeat' (first|with_reducible exact cf|with_reducible exact aH|with_reducible exact X8|with_reducible exact Below.refl _ _|with_reducible refine Below.drew ?_|with_reducible refine zL ?_ _|with_reducible refine Below.setCell ?_ (by first|exact Zb _|exact fJ|exact fK|exact fO) _)))
    (first
     | (go_at_call 96;have hq:=aH;refine (zH1 _ _ _ _ 1 (k+9) (z+x/z) _ ((Y8.bw (by with_reducible first|exact Below.refl _ _|exact bl1 _ _)).mono (by omega)) (by omega) (by omega)).mono ?_;rintro r Ad ⟨DB,Vh,nY3,VB,rfl,bx,fg⟩;have aO:Below oV.heap.size oV Ad:=(by with_reducible first|exact fg|exact zB (bl1 _ _) fg);have cf:=zB aH aO;(try with_reducible have jq:=(kA oV 29).bw fg);replace M7:=M7.bw aO;(try replace bQ:=bQ.bw aO);replace Y8:=Y8.bw aO;(try replace dV:=dV.bw aO);have fO:=cf.size;(try have Di:=bQ.lt);(try have Wt:=Zg Di);(try have Hj:=Zf Di);(try obtain⟨Eh,Ei,Ej⟩:=bQ);(try have Dj:=dV.lt);(try have Wv:=Zg Dj);(try have Hk:=Zf Dj);(try obtain⟨Ek,El,Em⟩:=dV);(try have Dl:=jq.lt);(try have Ww:=Zg Dl);(try have Ho:=Zf Dl);(try obtain⟨En,Eo,Ep⟩:=jq))
     | (go_at_call 32;have hq:=X8;refine (zA5 _ _ _ _ _ _ _ _ (k+2) (k+8) z (x/z) _ ((zA hz).bw (by with_reducible first|exact X8|exact zL X8 _)) (M7.bw (by with_reducible first|exact Below.refl _ _|exact bl1 _ _)) (by omega) (by omega)).mono ?_;rintro r oV ⟨rA,OG,RG,OV,rfl,Y8,fe⟩;have eA:Below oT.heap.size oT oV:=(by with_reducible first|exact fe|exact zB (bl1 _ _) fe);have aH:=zB X8 eA;(try with_reducible have dV:=(kA oT 29).bw fe);replace M7:=M7.bw eA;(try replace bQ:=bQ.bw eA);have fK:=aH.size)
     | (go_at_call 126;refine (zAB _ _ _ _ _ _ _ _ k (k+2) x z _ ((zA Bf).bw (by with_reducible first|exact (Below.refl _ _).drew|exact (bl1 _ _).drew)) ((zA hz).bw (by with_reducible first|exact (Below.refl _ _).drew|exact (bl1 _ _).drew)) (by omega) M5).mono ?_;rintro r oT ⟨rz,OE,RF,OT,rfl,M7,eZ⟩;have X8:Below wr.heap.size wr oT:=(by with_reducible first|exact zB (Below.refl _ _).drew eZ|exact zB (bl1 _ _).drew eZ);(try with_reducible have bQ:=((kA wr 29).bw (Below.refl _ _).drew).bw eZ);have fJ:=X8.size))
   all_goals
    go_wp2_with fail;go_meet;refine⟨⟨_,⟨DB,Vh,nY3,VB⟩,rfl,?_,?_,?_,?_,?_⟩,?_⟩
    ·simp[go_sem, *]
    ·simp[go_sem, *]
    ·first|with_reducible exact IntAt.mono (bx.bw (bl1 _ _)) (by omega)|with_reducible exact IntAt.mono (bx.put2 (by assumption) (by assumption) _ _) (by omega)
    ·first|exact Zb _|exact fJ|exact fK|exact fO
    ·simp[World.setCell];try omega
    ·repeat' (first|with_reducible exact cf|with_reducible exact aH|with_reducible exact X8|with_reducible exact Below.refl _ _|with_reducible refine Below.drew ?_|with_reducible refine zL ?_ _|with_reducible refine Below.setCell ?_ (by first|exact Zb _|exact fJ|exact fK|exact fO) _)
  case rest =>
  obtain⟨⟨BY,xY,rfl,QM,QN,IV,PD,hltY⟩,hblY⟩:=hcut;have XY:NmC wc BY xY:=⟨QM,QN⟩;rw[zA TF] at IV;have hC:Below wr.heap.size wr wc:=hblY;replace hX:=hX.bw hC;replace A:=A.bw hC;replace R:=R.bw hC;have nj:∀ o,wc.frozen? ⟨BX,o,none⟩=false:=λ o=>(hC.frozen (p:=⟨BX,o,none⟩) lX).trans (hF o)
  have ao:=(zA hz).bw hC;have xR:=(zA Bf).bw hC;replace ng:=zB ng hC;have Ka:=hX.lt;have lY2:=XY.lt;have bg:=R.lt;have nXY:BX≠BY:=Zg (Zd lX PD);have nXY':BY≠BX:=λ e9=>nXY e9.symm
  obtain⟨k0,k1⟩:=hX;have hX:NmC wc BX X:=⟨k0,k1⟩;clear i0 i1 i2 i3 aq hblY hC hF hz Bf;go_wp2_with fail;refine (jY _ _ _ _ _ _ _ _ (k+20) (k+2) yv z _ IV ao).mono ?_;rintro r w5 ⟨rfl,D8⟩;have PO:=hX.bw D8;have PQ:=XY.bw D8;have PL:=R.bw D8;have Px:=A.bw D8;have hz5:=ao.bw D8;have hy5:=IV.bw D8;have TC:=xR.bw D8;have BA:∀ o,w5.frozen? ⟨BX,o,none⟩=false:=λ o=>(D8.frozen (p:=⟨BX,o,none⟩) Ka).trans (nj o)
  have O7:=zB ng D8;have l5:=PO.lt;have l6:=PQ.lt;have l7:=PL.lt;obtain⟨e0,e1⟩:=PO;obtain⟨e2,e3⟩:=PQ;obtain⟨e4,e5,e6⟩:=PL;clear k0 k1 QM QN
  by_cases O1:z<=yv
  ·have t2:0<=zN yv z:=by unfold zN;rw[if_neg (by omega)];split<;>omega
   have t2':zN yv z ≥ 0:=t2;have HG:=zC O1;clear O1;go_wp2_with fail;refine bodyPost_ret (v:=.agg X.q) (by simp[results,Tryz.results206,go_sem,e4,e5]) rfl ⟨z,⟨by omega,λ h9=>by omega,λ _=>⟨zA Gm (zA HG),zA TJ⟩⟩,X.neg,X.a,X.n,X.cap,rfl,?_,?_⟩
   ·exact (hz5.put2 e4 e5 _ _).mono (by omega)
   ·exact zE4 O7 (Nat.le_succ _) _ _
  ·have t2:¬ 0<=zN yv z:=by unfold zN;rw[if_pos (by omega)];omega
   have t2':¬ zN yv z ≥ 0:=t2;have hylt:yv<z:=by omega
   clear O1;go_wp2_with fail
   go_roundg yv.toNat
   case rel =>
    refine⟨xY,yv,⟨by simp[go_sem,e0,e1],by simp[go_sem,e0,e1]⟩,λ o=>by rw[zT,zT];exact BA o,?_,wm,by omega,Zb _,zA Tx,?_,?_,?_,?_⟩
    ·exact (hy5.put2 e0 e1 _ _).fit (by omega) (by omega)
    ·exact⟨by simp[go_sem,Px.c0,nXA,wy],by simp[go_sem,Px.c1,nXA,wy]⟩
    ·exact⟨by simp[go_sem,e4,nXR,Dt],by simp[go_sem,e5,nXR,Dt],λ o=>by rw[zT,zT];exact e6 o⟩
    ·exact TC.put2 e0 e1 _ _
    ·exact zE4 O7 (by omega) _ _
   case measure=>omega
theorem root_int (neg:Bool) (a:Option Addr) (n cap k:Nat) (x:Int) (w:World) (h1:IntAt w neg a n cap k x) (hk:k<=100000000) :
  Calls Tryz.prog 206 #[.agg #[.bool neg,.slice a n cap]] w λ r w'=>∃ z,RootOf x z/\zDP w (k+10) z r w':=by
 by_cases hx:0<x
 ·exact root_pos neg a n cap k x w h1 hk hx
 ·have t1:zN x 0<=0:=by unfold zN;split<;>(try split)<;>omega
  have HX:=zC hx;clear hx
  go_enter Tryz.func206,Tryz.ntmps206
  go_wp2_with fail;refine (zAY _ _ _ _ k x _ (h1.bw (bl2 _ _ _))).mono ?_;rintro r w1 ⟨rfl,b9⟩;obtain⟨C9,B9,D6⟩:=zZ (w.heap.size+1+1) (by simp) b9
  go_wp2_with fail;have q0:w1.cell? ⟨w.heap.size+1,0,none⟩=some (.bool false):=by simp[B9,go_sem]
  have q1:w1.cell? ⟨w.heap.size+1,1,none⟩=some (.slice none 0 0):=by simp[B9,go_sem]
  refine bodyPost_ret (v:=.agg #[.bool false,.slice none 0 0]) (by simp[results,Tryz.results206,go_sem,q0,q1]) rfl ⟨0,⟨by omega,λ _=>rfl,λ h9=>by have h8:=zA HX;omega⟩,false,none,0,0,rfl,zE6 _ _,?_⟩
  exact zE4 (zB (bl2 _ _ _) b9) (Nat.le_succ _) _ _
theorem IntAt.fits {w:World} {neg:Bool} {a:Option Addr} {n cap k K:Nat} {z:Int} (h:IntAt w neg a n cap k z) (h0 : -P K<z) (hz:z<P K):IntAt w neg a n cap K z:=by
 obtain⟨d,h1,h2,h3,h4,h5⟩:=h;refine⟨d,h1,h2,h3,?_,h5⟩;refine zHC h1.dgs h2 ?_;have:=jA h1.dgs n
 cases neg
 ·simp[sgn] at h5;omega
 ·simp[sgn] at h5;omega
theorem SpAt.fits {w:World} {s:Sp} {k K:Nat} {lo hi:Int} (h:SpAt w s k lo hi) (hle:lo<=hi) (h0 : -P K<lo) (hz:hi<P K):SpAt w s K lo hi:=⟨h.lo.fits h0 (by omega),h.hi.fits (by omega) hz⟩
def yR (z l:Int):Prop:=0<=l/\(z=0->l=0)/\(0<z->∃ L:Nat,l=(L:Int)+1/\Q L<=z/\z<Q (L+1))
theorem zE0 (neg:Bool) (a:Option Addr) (n cap k:Nat) (z:Int) (w:World) (h:IntAt w neg a n cap k z) (hz:0<=z) :
  Calls Tryz.prog 98 #[.agg #[.bool neg,.slice a n cap]] w λ r w'=>∃ l,yR z l/\r=.returned (.int .i64 l)/\Below w.heap.size w w':=by
 obtain⟨d,h1,h2,h3,h4,h5⟩:=h;refine (zR0 neg a n cap d w h1).mono λ r w' ⟨e1,e2⟩=>⟨lenZ n d,?_,e1,e2⟩
 have hV:=jA h1.dgs n
 have hv:V d n=z:=by
  cases neg
  ·simp[sgn] at h5;exact h5.symm
  ·simp[sgn] at h5;omega
 rcases Nat.eq_zero_or_pos n with h0|h0
 ·subst h0
  have:z=0:=by simp[V] at hv;omega
  subst this;exact⟨by simp[lenZ],λ _=>by simp[lenZ],λ h=>by omega⟩
 ·obtain⟨L,l1,l2,l3⟩:=zRZ h1.dgs h0 (by rcases h2 with h2|h2;omega;exact h2)
  have:=zE L;exact⟨by omega,λ h=>by omega,λ _=>⟨L,l1,by omega,by omega⟩⟩
def zAI (bits:Nat) (Pr:Nat->Int->Int->Prop) (L H:Int):Prop :=
 ∃ (m:Nat) (lo hi:Int),Pr (bits+m) lo hi/\32<=m/\L=lo/Q m/\H = -(-hi/Q m)/\(H-L<=1\/zIW L H (Q bits) 4=true)
def zBU (bits Kw:Nat) (Pr:Nat->Int->Int->Prop):Prop :=
 ∀ (m:Nat) (lo hi:Int),Pr (bits+m) lo hi->lo<=hi/\hi-lo<=Q Kw /\ -(P 200*Q m)<=lo/\hi<=P 200*Q m
theorem zCY (x q:Int) (hq:0<q):x <= -(-x/q)*q:=by
 have h:=Int.emod_add_mul_ediv (-x) q;have:=Int.emod_nonneg (-x) (show q≠0 by omega)
 have e : -(-x/q)*q = -(q*(-x/q)):=by rw[Int.neg_mul,Int.mul_comm]
 rw[e];omega
theorem zLM (x q:Int) (hq:0<q) : -(-x/q)*q<x+q:=by
 have h:=Int.emod_add_mul_ediv (-x) q;have:=Int.emod_lt_of_pos (-x) hq;have e : -(-x/q)*q = -(q*(-x/q)):=by rw[Int.neg_mul,Int.mul_comm]
 rw[e];omega
theorem zE9 (x q:Int) (hq:0<q):x/q*q<=x:=Int.ediv_mul_le _ (by omega)
theorem flo_gt (x q:Int) (hq:0<q):x<x/q*q+q:=by
 have h:=Int.emod_add_mul_ediv x q;have:=Int.emod_lt_of_pos x hq;rw[Int.mul_comm];omega
theorem zFS {lo hi:Int} {m Kw:Nat} (hle:lo<=hi) (hw:hi-lo<=Q Kw):0 <= -(-hi/Q m)-lo/Q m/\(Kw<=m -> -(-hi/Q m)-lo/Q m<=2)/\(m<=Kw -> -(-hi/Q m)-lo/Q m<=Q (Kw-m)+1):=by
 have hq:=zE m;have a1:=zCY hi (Q m) (by omega)
 have a2:=zLM hi (Q m) (by omega)
 have a3:=zE9 lo (Q m) (by omega)
 have a4:=flo_gt lo (Q m) (by omega)
 have hs:(-(-hi/Q m)-lo/Q m)*Q m = -(-hi/Q m)*Q m-lo/Q m*Q m:=Int.sub_mul _ _ _;refine⟨?_,λ h=>?_,λ h=>?_⟩
 ·refine Int.not_lt.1 λ hn=>?_
  have:=YW (show -(-hi/Q m)-lo/Q m <= -1 by omega) (show 0<=Q m by omega)
  omega
 ·have hk:=zH h
  refine Int.not_lt.1 λ hn=>?_
  have:=YW (show 3 <= -(-hi/Q m)-lo/Q m by omega) (show 0<=Q m by omega)
  omega
 ·have hk:Q Kw=Q (Kw-m)*Q m:=by rw[<- jD];congr 1;omega
  refine Int.not_lt.1 λ hn=>?_
  have h5:=YW (show Q (Kw-m)+2 <= -(-hi/Q m)-lo/Q m by omega) (show 0<=Q m by omega)
  have h6:(Q (Kw-m)+2)*Q m=Q (Kw-m)*Q m+2*Q m:=Int.add_mul _ _ _;omega
theorem zDI {L H:Int} {b:Nat} (hle:L<=H) (h:H-L<=4):zIW L H (Q b) 4=true:=by
 unfold zIW;rw[decide_eq_true_iff];have hq:=zE b;have h1:(H-L)*Q b<=4*Q b:=YW h (by omega)
 have h2:0<=zGA H (-L):=by unfold zGA;split<;>omega
 have:4*(Q b+zGA H (-L))=4*Q b+4*zGA H (-L):=Int.mul_add _ _ _;omega
theorem to_fit {lo hi:Int} {m:Nat} (h1 : -(P 200*Q m)<=lo) (h2:hi<=P 200*Q m) : -P 250<lo/Q m /\ -(-hi/Q m)<P 250:=by
 have hq:=zE m
 have hp:P 200<P 250:=by
  have e:P 250=P 200*P 50:=P_add 200 50;have h3:=yI 200;have h4:P 200*65536<=P 200*P 50:=Za (zBT (show 1<=50 by omega)) (by omega)
  omega
 have a1 : -P 200<=lo/Q m:=by rw[Int.le_ediv_iff_mul_le (by omega),Int.neg_mul];exact h1
 have a2 : -P 200 <= -hi/Q m:=by rw[Int.le_ediv_iff_mul_le (by omega),Int.neg_mul];omega
 omega
def SureInv (Kw m t:Nat):Prop:=32<=m/\1<=t/\t<=m/\((t<=3/\m<=Kw+40*t)\/m<=Kw+40)
theorem zR1 {z l:Int} {K:Nat} (h:yR z l) (hz:z<=Q K+1) (h0:0<=z):l<=K+2:=by
 obtain⟨h1,h2,h3⟩:=h
 by_cases hp:0<z
 ·obtain⟨L,e1,e2,e3⟩:=h3 hp
  by_cases hL:L<=K+1
  ·omega
  ·have:=zH (show K+2<=L by omega)
   have e:Q (K+2)=2*(2*Q K):=rfl;have:=zE K;omega
 ·have:=h2 (by omega);omega
theorem zR4 {z l:Int} (h:yR z l) (hz:z<=2) (h0:0<=z):l<=2:=by
 have:=zR1 (K:=0) h (by simp[Q];omega) h0
 omega
theorem zR3 {z l:Int} (h:yR z l) (hl:l<=1) (h0:0<=z):z<=1:=by
 obtain⟨h1,h2,h3⟩:=h
 by_cases hp:0<z
 ·obtain⟨L,e1,e2,e3⟩:=h3 hp
  have:L=0:=by omega
  subst this;simp[Q] at e3;omega
 ·omega
end Go.Proofs.YtgmnknmjainabacGreat
namespace Go.Proofs.YtgmnknmjainabacGreat.Ex
def S (f:Nat->Rat):Nat->Rat
 | 0=>0
 | n+1=>S f n+f n
theorem S_add (f g:Nat->Rat) (n:Nat):S (λ i=>f i+g i) n=S f n+S g n:=by
 induction n with
 | zero=>simp[S];try grind
 | succ n ih=>simp only[S,ih];grind
theorem zGU (c:Rat) (f:Nat->Rat) (n:Nat):S (λ i=>c*f i) n=c*S f n:=by
 induction n with
 | zero=>simp[S];try grind
 | succ n ih=>simp only[S,ih];grind
theorem yT {f g:Nat->Rat} (n:Nat) (h:∀ i,i<n->f i=g i):S f n=S g n:=by
 induction n with
 | zero=>rfl
 | succ n ih=>simp only[S];rw[ih (λ i hi=>h i (by omega)),h n (by omega)]
theorem S_first (f:Nat->Rat) (n:Nat):S f (n+1)=f 0+S (λ i=>f (i+1)) n:=by
 induction n with
 | zero=>simp[S];grind
 | succ n ih=>rw[S,ih];simp only[S];grind
def tm (x:Rat):Nat->Rat
 | 0=>1
 | n+1=>tm x n*x/((n:Rat)+1)
theorem zBN (n:Nat):(0:Rat)<(n:Rat)+1:=by
 have:(0:Rat)<=(n:Rat):=by exact_mod_cast Nat.zero_le n
 grind
theorem kV (x:Rat) (n:Nat):((n:Rat)+1)*tm x (n+1)=x*tm x n:=by
 simp only[tm];have:=zBN n;grind
def cv (a b:Nat->Rat) (n:Nat):Rat:=S (λ i=>a i*b (n-i)) (n+1)
theorem cv_tm (x y:Rat) (n:Nat):cv (tm x) (tm y) n=tm (x+y) n:=by
 induction n with
 | zero=>simp[cv,S,tm];grind
 | succ n ih =>
  have h:=zBN n
  have h1:((n:Rat)+1)*cv (tm x) (tm y) (n+1)=(x+y)*cv (tm x) (tm y) n:=by
   have e1:((n:Rat)+1)*cv (tm x) (tm y) (n+1)=S (λ i=>(i:Rat)*tm x i*tm y (n+1-i)+tm x i*((n+1-i:Nat):Rat)*tm y (n+1-i)) (n+2):=by
    unfold cv;rw[<- zGU];refine yT _ λ i hi=>?_
    have:((n:Rat)+1)=(i:Rat)+((n+1-i:Nat):Rat):=by
     have:(n+1:Nat)=i+(n+1-i):=by omega
     have:=congrArg (λ k:Nat=>(k:Rat)) this
     simp at this;grind
    rw[this];grind
   rw[e1,S_add]
   have e2:S (λ i=>(i:Rat)*tm x i*tm y (n+1-i)) (n+2)=x*cv (tm x) (tm y) n:=by
    rw[S_first];simp;rw[Rat.zero_add];unfold cv;rw[<- zGU];refine yT _ λ i hi=>?_
    have:=kV x i;grind
   have e3:S (λ i=>tm x i*((n+1-i:Nat):Rat)*tm y (n+1-i)) (n+2)=y*cv (tm x) (tm y) n:=by
    rw[S];simp;rw[Rat.add_zero];unfold cv;rw[<- zGU];refine yT _ λ i hi=>?_
    have e:n+1-i=(n-i)+1:=by omega
    rw[e];have:=kV y (n-i);simp;grind
   rw[e2,e3];grind
  have h2:=kV (x+y) n;rw[ih] at h1;have:((n:Rat)+1)*cv (tm x) (tm y) (n+1)=((n:Rat)+1)*tm (x+y) (n+1):=by rw[h1,h2]
  have hz:((n:Rat)+1)≠0:=by grind
  have h5:((n:Rat)+1)*(cv (tm x) (tm y) (n+1)-tm (x+y) (n+1))=0:=by grind
  rcases Rat.mul_eq_zero.1 h5 with h6|h6
  ·exact absurd h6 hz
  ·grind
def E (x:Rat) (M:Nat):Rat:=S (tm x) M
theorem E_add (x y:Rat) (M:Nat):E (x+y) M=S (λ i=>tm x i*E y (M-i)) M:=by
 induction M with
 | zero=>rfl
 | succ M ih =>
  have h1:E (x+y) (M+1)=E (x+y) M+tm (x+y) M:=rfl;rw[h1,ih,<- cv_tm]
  have h2:S (λ i=>tm x i*E y (M+1-i)) (M+1)=S (λ i=>tm x i*E y (M-i)+tm x i*tm y (M-i)) (M+1):=by
   refine yT _ λ i hi=>?_
   have e:M+1-i=(M-i)+1:=by omega
   have e2:E y ((M-i)+1)=E y (M-i)+tm y (M-i):=rfl;rw[e,e2];grind
  rw[h2,S_add]
  have h3:S (λ i=>tm x i*E y (M-i)) (M+1)=S (λ i=>tm x i*E y (M-i)) M:=by
   simp only[S];have:M-M=0:=by omega
   rw[this];have:E y 0=0:=rfl;rw[this];grind
  rw[h3];rfl
theorem E_diff (x y:Rat) (M:Nat):E x M*E y M-E (x+y) M=S (λ i=>tm x i*(E y M-E y (M-i))) M:=by
 rw[E_add];have h1:E x M*E y M=S (λ i=>E y M*tm x i) M:=by rw[zGU];unfold E;grind
 rw[h1]
 have h2:S (λ i=>E y M*tm x i) M=S (λ i=>tm x i*(E y M-E y (M-i))) M+S (λ i=>tm x i*E y (M-i)) M:=by
  rw[<- S_add];refine yT _ λ i hi=>?_
  grind
 rw[h2];grind
def AB (t b:Rat):Prop := -b<=t/\t<=b
theorem AB.nonneg {t b:Rat} (h:AB t b):0<=b:=by obtain⟨h1,h2⟩:=h;grind
theorem AB.mul {s t a b:Rat} (h:AB s a) (k:AB t b):AB (s*t) (a*b):=by
 obtain⟨h1,h2⟩:=h;obtain⟨k1,k2⟩:=k;have p1:=YV (show 0<=a-s by grind) (show 0<=b+t by grind)
 have p2:=YV (show 0<=a+s by grind) (show 0<=b-t by grind)
 have p3:=YV (show 0<=a-s by grind) (show 0<=b-t by grind)
 have p4:=YV (show 0<=a+s by grind) (show 0<=b+t by grind)
 constructor<;>grind
theorem AB.add {s t a b:Rat} (h:AB s a) (k:AB t b):AB (s+t) (a+b):=by
 obtain⟨h1,h2⟩:=h;obtain⟨k1,k2⟩:=k;constructor<;>grind
theorem AB.mono {s a b:Rat} (h:AB s a) (k:a<=b):AB s b:=by
 obtain⟨h1,h2⟩:=h;constructor<;>grind
theorem AB.neg {s a:Rat} (h:AB s a):AB (-s) a:=by
 obtain⟨h1,h2⟩:=h;constructor<;>grind
theorem S_AB {f g:Nat->Rat} (n:Nat) (h:∀ i,i<n->AB (f i) (g i)):AB (S f n) (S g n):=by
 induction n with
 | zero=>simp only[S];constructor<;>grind
 | succ n ih=>simp only[S];exact (ih (λ i hi=>h i (by omega))).add (h n (by omega))
def q4:Nat->Rat
 | 0=>1
 | n+1=>q4 n/4
theorem yE (n:Nat):0<q4 n:=by
 induction n with
 | zero=>simp only[q4];grind
 | succ n ih=>simp only[q4];grind
theorem q4_add (a b:Nat):q4 (a+b)=q4 a*q4 b:=by
 induction b with
 | zero=>simp only[q4,Nat.add_zero];grind
 | succ b ih=>rw[<- Nat.add_assoc];simp only[q4,ih];grind
theorem E_sub (y:Rat) (K:Rat) (hK:∀ i,AB (tm y i) (K*q4 i)) (a i:Nat):AB (E y (a+i)-E y a) (2*K*(q4 a-q4 (a+i))):=by
 induction i with
 | zero=>simp only[Nat.add_zero];constructor<;>grind
 | succ i ih =>
  have e:E y (a+(i+1))=E y (a+i)+tm y (a+i):=rfl;have e2:q4 (a+(i+1))=q4 (a+i)/4:=rfl;rw[e,e2];have h:=hK (a+i);have hn:=h.nonneg;have:=ih.add h;have h3:E y (a+i)+tm y (a+i)-E y a=E y (a+i)-E y a+tm y (a+i):=by grind
  rw[h3];refine this.mono ?_;grind
theorem zP7 (c:Rat) (n:Nat):S (λ _=>c) n=n*c:=by
 induction n with
 | zero=>simp[S]
 | succ n ih =>
  simp only[S,ih];have:((n+1:Nat):Rat)=(n:Rat)+1:=by simp
  rw[this];grind
theorem E_mul (x y K L:Rat) (hK:∀ i,AB (tm x i) (K*q4 i)) (hL:∀ i,AB (tm y i) (L*q4 i)) (M:Nat):AB (E x M*E y M-E (x+y) M) (M*(2*K*L*q4 M)):=by
 rw[E_diff,<- zP7];refine S_AB _ λ i hi=>?_
 have h1:=E_sub y L hL (M-i) i;rw[show M-i+i=M by omega] at h1
 have h2:=(hK i).mul h1;refine h2.mono ?_;have e:q4 M=q4 i*q4 (M-i):=by rw[<- q4_add];congr 1;omega
 have sV:=(hL M).nonneg;have Io:=(hK M).nonneg;have p:=yE M
 have pK:0<=K:=by
  have:=(hK 0).nonneg;simp only[q4] at this;grind
 have pL:0<=L:=by
  have:=(hL 0).nonneg;simp only[q4] at this;grind
 have p5:=YV (YV pK pL) (YV (YZ (yE i)) (YZ p));rw[e] at p5 ⊢;grind
theorem tm_step (x:Rat) (n:Nat) (c:Rat) (hx:AB (4*x) ((n:Rat)+1)) (h:AB (tm x n) (c*q4 n)):AB (tm x (n+1)) (c*q4 (n+1)):=by
 have hp:=zBN n;have e:=kV x n;have h2:=hx.mul h;have q:=yE n;have e2:q4 (n+1)=q4 n/4:=rfl;rw[e2];have h3:4*x*tm x n=4*((n:Rat)+1)*tm x (n+1):=by grind
 rw[h3] at h2;obtain⟨g1,g2⟩:=h2;constructor
 ·refine Rat.not_lt.1 λ hn=>?_
  have:=Rat.mul_pos hp (show 0 < -(c*(q4 n/4))-tm x (n+1) by grind)
  grind
 ·refine Rat.not_lt.1 λ hn=>?_
  have:=Rat.mul_pos hp (show 0<tm x (n+1)-c*(q4 n/4) by grind)
  grind
theorem AB.self (t:Rat):∃ b,AB t b:=by
 by_cases h:0<=t
 ·exact⟨t,by constructor<;>grind⟩
 ·exact⟨-t,by constructor<;>grind⟩
theorem tm_upto (x:Rat) (n:Nat):∃ K,0<=K/\∀ i,i<=n->AB (tm x i) (K*q4 i):=by
 induction n with
 | zero=>exact⟨1,by grind,λ i hi=>by
   have:i=0:=by omega
   subst this
   simp only[tm,q4];constructor<;>grind⟩
 | succ n ih =>
  obtain⟨K,h0,h⟩:=ih;obtain⟨b,hb⟩:=AB.self (tm x (n+1));have q:=yE (n+1);have E8:=hb.nonneg;have hq:b/q4 (n+1)*q4 (n+1)=b:=by grind
  have hd:0<=b/q4 (n+1):=by
   refine Rat.not_lt.1 λ hn=>?_
   have:=Rat.mul_pos q (show 0 < -(b/q4 (n+1)) by grind)
   grind
  refine⟨K+b/q4 (n+1),by grind,λ i hi=>?_⟩
  have qi:=yE i
  by_cases I9:i=n+1
  ·subst I9
   refine hb.mono ?_;have:=YV h0 (YZ q);grind
  ·refine (h i (by omega)).mono ?_
   have:=YV hd (YZ qi);grind
theorem kQ (x:Rat):∃ n:Nat,AB x (n:Rat):=by
 refine⟨x.floor.natAbs+1,?_⟩;have h1:=Rat.lt_floor_add_one x;have h2:=Rat.floor_le x
 have h3:((x.floor+1:Int):Rat)<=((x.floor.natAbs+1:Nat):Rat):=by
  have:x.floor+1<=((x.floor.natAbs+1:Nat):Int):=by omega
  exact_mod_cast this
 have h4 : -((x.floor.natAbs+1:Nat):Rat)<=(x.floor:Rat):=by
  have:(0:Int)<=x.floor+((x.floor.natAbs+1:Nat):Int):=by omega
  have h5:(0:Rat)<=((x.floor+((x.floor.natAbs+1:Nat):Int):Int):Rat):=by exact_mod_cast this
  have h6:((x.floor+((x.floor.natAbs+1:Nat):Int):Int):Rat)=(x.floor:Rat)+((x.floor.natAbs+1:Nat):Rat):=by rw[Rat.intCast_add];rfl
  grind
 constructor<;>grind
theorem zPN (x:Rat):∃ K,0<=K/\∀ i,AB (tm x i) (K*q4 i):=by
 obtain⟨n,hn⟩:=kQ (4*x);obtain⟨K,h0,h⟩:=tm_upto x n;refine⟨K,h0,λ i=>?_⟩
 by_cases hi:i<=n
 ·exact h i hi
 ·obtain⟨j,rfl⟩:∃ j,i=n+j:=⟨i-n,by omega⟩
  clear hi
  induction j with
  | zero=>exact h n (Zb _)
  | succ j ih =>
   refine tm_step x (n+j) K (hn.mono ?_) ih;have h1:((n+j:Nat):Rat)=(n:Rat)+j:=by simp
   have h2:(0:Rat)<=(j:Rat):=by exact_mod_cast Nat.zero_le j
   rw[h1];grind
theorem near_bd (M:Nat):0<=(M:Rat)*q4 M:=YV (by exact_mod_cast Nat.zero_le M) (YZ (yE M))
theorem nat_q4 (M:Nat):(M:Rat)*((M:Rat)+1)*q4 M<=1:=by
 induction M with
 | zero=>simp only[q4];grind
 | succ M ih =>
  have e:((M+1:Nat):Rat)=(M:Rat)+1:=by simp
  have e2:q4 (M+1)=q4 M/4:=rfl;have q:=yE M;have hM:(0:Rat)<=(M:Rat):=by exact_mod_cast Nat.zero_le M
  rw[e,e2]
  rcases Nat.eq_zero_or_pos M with h|h
  ·subst h
   simp only[q4];grind
  ·have h1:(1:Rat)<=(M:Rat):=by exact_mod_cast h
   have p:=YV (YV (show 0<=(M:Rat)+1 by grind) (show 0<=3*(M:Rat)-2 by grind)) (YZ q)
   grind
theorem zA4 {x:Rat} (h:0<=x) (n:Nat):0<=tm x n:=by
 induction n with
 | zero=>simp only[tm];grind
 | succ n ih =>
  have e:=kV x n;have hp:=zBN n;refine Rat.not_lt.1 λ hn=>?_
  have h1:=Rat.mul_pos hp (show 0 < -tm x (n+1) by grind)
  have h2:=YV h ih;grind
theorem E_one {x:Rat} (h:0<=x) {M:Nat} (hM:1<=M):1<=E x M:=by
 obtain⟨n,rfl⟩:∃ n,M=n+1:=⟨M-1,by omega⟩
 clear hM
 induction n with
 | zero=>simp only[E,S,tm];grind
 | succ n ih =>
  have e:E x (n+1+1)=E x (n+1)+tm x (n+1):=rfl;have:=zA4 h (n+1);rw[e];grind
end Go.Proofs.YtgmnknmjainabacGreat.Ex
namespace Go.Proofs.YtgmnknmjainabacGreat.Ex
def Null (f:Nat->Rat):Prop:=∀ e:Rat,0<e->∃ N:Nat,∀ M,N<=M->AB (f M) e
def Has (a b:Rat) (x:Nat->Rat):Prop:=∀ e:Rat,0<e->∃ N:Nat,∀ M,N<=M->a-e<=x M/\x M<=b+e
def Bdd (f:Nat->Rat):Prop:=∃ K N,0<=K/\∀ M:Nat,N<=M->AB (f M) K
theorem AB.sub {s t a b:Rat} (h:AB s a) (k:AB t b):AB (s-t) (a+b):=by
 obtain⟨h1,h2⟩:=h;obtain⟨k1,k2⟩:=k;constructor<;>grind
theorem AB.zero {b:Rat} (h:0<=b):AB 0 b:=by constructor<;>grind
theorem rdm {a b:Rat} (h:0<b):a/b*b=a:=Rat.div_mul_cancel (by grind)
theorem zK {a b:Rat} (ha:0<a) (hb:0<b):0<a/b:=by
 refine Rat.not_le.1 λ hn=>?_
 have h1:=YV (show 0 <= -(a/b) by grind) (YZ hb)
 have h2:=rdm (a:=a) hb;generalize a/b=q at *;grind
theorem null_zero:Null (λ _=>0):=λ e he=>⟨0,λ M _=>AB.zero (YZ he)⟩
theorem Null.add {f g:Nat->Rat} (h:Null f) (k:Null g):Null (λ M=>f M+g M):=λ e he=>by
 obtain⟨N1,h1⟩:=h (e/2) (by grind)
 obtain⟨N2,h2⟩:=k (e/2) (by grind)
 exact⟨N1+N2,λ M hM=>((h1 M (by omega)).add (h2 M (by omega))).mono (by grind)⟩
theorem Null.neg {f:Nat->Rat} (h:Null f):Null (λ M => -f M):=λ e he=>by
 obtain⟨N1,h1⟩:=h e he;exact⟨N1,λ M hM=>(h1 M hM).neg⟩
theorem Null.sub {f g:Nat->Rat} (h:Null f) (k:Null g):Null (λ M=>f M-g M):=λ e he=>by
 obtain⟨N1,h1⟩:=h (e/2) (by grind)
 obtain⟨N2,h2⟩:=k (e/2) (by grind)
 exact⟨N1+N2,λ M hM=>((h1 M (by omega)).sub (h2 M (by omega))).mono (by grind)⟩
theorem Null.bmul {f g:Nat->Rat} (h:Null f) (k:Bdd g):Null (λ M=>f M*g M):=λ e he=>by
 obtain⟨K,N2,k0,h2⟩:=k;have hp:0<K+1:=by grind
 have h3:=rdm (a:=e) hp;have h4:=zK he hp;obtain⟨N1,h1⟩:=h (e/(K+1)) h4;generalize e/(K+1)=q at *;refine⟨N1+N2,λ M hM=>((h1 M (by omega)).mul (h2 M (by omega))).mono ?_⟩
 grind
theorem Null.of_eq {f g:Nat->Rat} (h:Null f) (e:∀ M,g M=f M):Null g:=by
 have:g=f:=funext e;rw[this];exact h
theorem Null.of_eq_from {f g:Nat->Rat} (h:Null f) (N:Nat) (e:∀ M,N<=M->g M=f M):Null g:=λ d hd=>by
 obtain⟨N1,h1⟩:=h d hd;exact⟨N+N1,λ M hM=>by rw[e M (by omega)];exact h1 M (by omega)⟩
theorem Null.of_le {f g:Nat->Rat} (h:Null f) (N:Nat) (e:∀ M,N<=M->AB (g M) (f M)):Null g:=λ d hd=>by
 obtain⟨N1,h1⟩:=h d hd;exact⟨N+N1,λ M hM=>(e M (by omega)).mono (h1 M (by omega)).2⟩
theorem Null.bdd {f:Nat->Rat} (h:Null f):Bdd f:=by
 obtain⟨N,h1⟩:=h 1 (by grind)
 exact⟨1,N,by grind,h1⟩
theorem zB3 (K:Rat) (k0:0<=K):Null (λ M=>K*((M:Rat)*q4 M)):=λ e he=>by
 obtain⟨n,ij,bC⟩:=kQ (K/e);refine⟨n+1,λ M hM=>?_⟩
 have Xf:(0:Rat)<=(M:Rat):=by exact_mod_cast Nat.zero_le M
 have Xg:(n:Rat)<=(M:Rat):=by exact_mod_cast (show n<=M by omega)
 have u:=nat_q4 M;have q:=near_bd M;have e1:K/e*e=K:=by grind
 have s1:=YV (show 0<=(M:Rat)-K/e by grind) (YZ he)
 have s2:=YV (show 0<=(M:Rat)*e-K by grind) q
 have s3:=YV (YZ he) (show 0<=1-(M:Rat)*((M:Rat)+1)*q4 M by grind)
 have s4:=YV (YZ he) q;have s5:=YV k0 q;constructor<;>grind
theorem Bdd.add {f g:Nat->Rat} (h:Bdd f) (k:Bdd g):Bdd (λ M=>f M+g M):=by
 obtain⟨K,N,k0,h⟩:=h;obtain⟨L,N',l0,k⟩:=k;exact⟨K+L,N+N',by grind,λ M hM=>(h M (by omega)).add (k M (by omega))⟩
theorem Bdd.neg {f:Nat->Rat} (h:Bdd f):Bdd (λ M => -f M):=by
 obtain⟨K,N,k0,h⟩:=h;exact⟨K,N,k0,λ M hM=>(h M hM).neg⟩
theorem Bdd.sub {f g:Nat->Rat} (h:Bdd f) (k:Bdd g):Bdd (λ M=>f M-g M):=by
 obtain⟨K,N,k0,h⟩:=h;obtain⟨L,N',l0,k⟩:=k;exact⟨K+L,N+N',by grind,λ M hM=>(h M (by omega)).sub (k M (by omega))⟩
theorem Bdd.mul {f g:Nat->Rat} (h:Bdd f) (k:Bdd g):Bdd (λ M=>f M*g M):=by
 obtain⟨K,N,k0,h⟩:=h;obtain⟨L,N',l0,k⟩:=k;exact⟨K*L,N+N',YV k0 l0,λ M hM=>(h M (by omega)).mul (k M (by omega))⟩
theorem Bdd.const (c:Rat):Bdd (λ _=>c):=by
 obtain⟨b,hb⟩:=AB.self c;exact⟨b,0,hb.nonneg,λ _ _=>hb⟩
theorem Bdd.of_le {f:Nat->Rat} (K:Rat) (N:Nat) (h:∀ M,N<=M->AB (f M) K):Bdd f:=⟨K,N,(h N (Zb _)).nonneg,h⟩
theorem Has.le {a b:Rat} {x:Nat->Rat} (h:Has a b x):a<=b:=by
 refine Rat.not_lt.1 λ hn=>?_
 obtain⟨N,h1⟩:=h ((a-b)/4) (by grind)
 have:=h1 N (Zb _);grind
theorem Has.touch {a b c d:Rat} {x:Nat->Rat} (h:Has a b x) (k:Has c d x):a<=d:=by
 refine Rat.not_lt.1 λ hn=>?_
 obtain⟨N,h1⟩:=h ((a-d)/4) (by grind)
 obtain⟨N',h2⟩:=k ((a-d)/4) (by grind)
 have:=h1 (N+N') (by omega)
 have:=h2 (N+N') (by omega)
 grind
theorem Has.touch_le {a b c d:Rat} {x y z:Nat->Rat} (h:Has a b x) (k:Has c d y) (hz:Null z) (N0:Nat) (P7:∀ M,N0<=M->x M<=y M+z M):a<=d:=by
 refine Rat.not_lt.1 λ hn=>?_
 obtain⟨N,h1⟩:=h ((a-d)/4) (by grind)
 obtain⟨N',h2⟩:=k ((a-d)/4) (by grind)
 obtain⟨N2,h3⟩:=hz ((a-d)/4) (by grind)
 have:=h1 (N+N'+N0+N2) (by omega)
 have:=h2 (N+N'+N0+N2) (by omega)
 have:=P7 (N+N'+N0+N2) (by omega)
 have:=(h3 (N+N'+N0+N2) (by omega)).2
 grind
theorem Has.mono {a b a' b':Rat} {x:Nat->Rat} (h:Has a b x) (h1:a'<=a) (h2:b<=b'):Has a' b' x:=λ e he=>by
 obtain⟨N,h⟩:=h e he;exact⟨N,λ M hM=>by have:=h M hM;constructor<;>grind⟩
theorem Has.congr {a b:Rat} {x y:Nat->Rat} (h:Has a b x) (k:Null (λ M=>y M-x M)):Has a b y:=λ e he=>by
 obtain⟨N,h⟩:=h (e/2) (by grind)
 obtain⟨N',k⟩:=k (e/2) (by grind)
 refine⟨N+N',λ M hM=>?_⟩
 have:=h M (by omega)
 obtain⟨k1,k2⟩:=k M (by omega)
 constructor<;>grind
theorem Has.bdd {a b:Rat} {x:Nat->Rat} (h:Has a b x):Bdd x:=by
 obtain⟨N,h1⟩:=h 1 (by grind)
 obtain⟨p,hp⟩:=AB.self a;obtain⟨q,hq⟩:=AB.self b;have:=hp.nonneg;have:=hq.nonneg;refine⟨p+q+1,N,by grind,λ M hM=>?_⟩
 have:=h1 M hM;obtain⟨_,_⟩:=hp;obtain⟨_,_⟩:=hq;constructor<;>grind
theorem Has.const {a b c:Rat} (h1:a<=c) (h2:c<=b):Has a b (λ _=>c):=λ e he=>⟨0,λ M _=>by constructor<;>grind⟩
theorem Has.of_from {a b:Rat} {x:Nat->Rat} (N:Nat) (h:∀ M,N<=M->a<=x M/\x M<=b):Has a b x:=λ e he=>⟨N,λ M hM=>by have:=h M hM;constructor<;>grind⟩
theorem Has.add {a b c d:Rat} {x y:Nat->Rat} (h:Has a b x) (k:Has c d y):Has (a+c) (b+d) (λ M=>x M+y M):=λ e he=>by
 obtain⟨N,h⟩:=h (e/2) (by grind)
 obtain⟨N',k⟩:=k (e/2) (by grind)
 refine⟨N+N',λ M hM=>?_⟩
 have:=h M (by omega)
 have:=k M (by omega)
 constructor<;>grind
theorem Has.sub {a b c d:Rat} {x y:Nat->Rat} (h:Has a b x) (k:Has c d y):Has (a-d) (b-c) (λ M=>x M-y M):=λ e he=>by
 obtain⟨N,h⟩:=h (e/2) (by grind)
 obtain⟨N',k⟩:=k (e/2) (by grind)
 refine⟨N+N',λ M hM=>?_⟩
 have:=h M (by omega)
 have:=k M (by omega)
 constructor<;>grind
theorem clamp {a b x e:Rat} (ny:a<=b) (he:0<=e) (h1:a-e<=x) (h2:x<=b+e):∃ x0,a<=x0/\x0<=b/\AB (x-x0) e:=by
 by_cases h:x<a
 ·exact⟨a,by grind,ny,by constructor<;>grind⟩
 ·by_cases h':b<x
  ·exact⟨b,ny,by grind,by constructor<;>grind⟩
  ·exact⟨x,by grind,by grind,by constructor<;>grind⟩
theorem corner {a b c d L U x y:Rat} (gD:a<=x) (fR:x<=b) (gF:c<=y) (QE:y<=d)
  (l1:L<=a*c) (l2:L<=a*d) (l3:L<=b*c) (l4:L<=b*d) (u1:a*c<=U) (u2:a*d<=U) (u3:b*c<=U) (u4:b*d<=U):L<=x*y/\x*y<=U:=by
 have p1:=YV (show 0<=x-a by grind) (show 0<=y-c by grind)
 have p2:=YV (show 0<=x-a by grind) (show 0<=d-y by grind)
 have p3:=YV (show 0<=b-x by grind) (show 0<=y-c by grind)
 have p4:=YV (show 0<=b-x by grind) (show 0<=d-y by grind)
 rcases Rat.le_total (a:=0) (b:=y) with hy|hy
 ·have g1:=YV (show 0<=x-a by grind) hy
  have g2:=YV (show 0<=b-x by grind) hy
  rcases Rat.le_total (a:=0) (b:=a) with ha|ha
  ·have:=YV ha (show 0<=y-c by grind)
   rcases Rat.le_total (a:=0) (b:=b) with hb|hb
   ·have:=YV hb (show 0<=d-y by grind);constructor<;>grind
   ·have:=YV (show 0 <= -b by grind) (show 0<=y-c by grind);constructor<;>grind
  ·have:=YV (show 0 <= -a by grind) (show 0<=d-y by grind)
   rcases Rat.le_total (a:=0) (b:=b) with hb|hb
   ·have:=YV hb (show 0<=d-y by grind);constructor<;>grind
   ·have:=YV (show 0 <= -b by grind) (show 0<=y-c by grind);constructor<;>grind
 ·have g1:=YV (show 0<=x-a by grind) (show 0 <= -y by grind)
  have g2:=YV (show 0<=b-x by grind) (show 0 <= -y by grind)
  rcases Rat.le_total (a:=0) (b:=a) with ha|ha
  ·have:=YV ha (show 0<=d-y by grind)
   rcases Rat.le_total (a:=0) (b:=b) with hb|hb
   ·have:=YV hb (show 0<=y-c by grind);constructor<;>grind
   ·have:=YV (show 0 <= -b by grind) (show 0<=d-y by grind);constructor<;>grind
  ·have:=YV (show 0 <= -a by grind) (show 0<=y-c by grind)
   rcases Rat.le_total (a:=0) (b:=b) with hb|hb
   ·have:=YV hb (show 0<=y-c by grind);constructor<;>grind
   ·have:=YV (show 0 <= -b by grind) (show 0<=d-y by grind);constructor<;>grind
theorem AB.between {c d y p q:Rat} (hp:AB c p) (hq:AB d q) (h1:c<=y) (h2:y<=d):AB y (p+q):=by
 have:=hp.nonneg;have:=hq.nonneg;obtain⟨_,_⟩:=hp;obtain⟨_,_⟩:=hq;constructor<;>grind
theorem Has.mul {a b c d L U:Rat} {x y:Nat->Rat} (h:Has a b x) (k:Has c d y)
  (l1:L<=a*c) (l2:L<=a*d) (l3:L<=b*c) (l4:L<=b*d) (u1:a*c<=U) (u2:a*d<=U) (u3:b*c<=U) (u4:b*d<=U):Has L U (λ M=>x M*y M):=λ e he=>by
 obtain⟨R,N0,r0,hR⟩:=h.bdd;obtain⟨p,Ff⟩:=AB.self c;obtain⟨q,dN⟩:=AB.self d;have p0:=Ff.nonneg;have q0:=dN.nonneg;have hp:0<R+(p+q)+1:=by grind
 have hd:=zK he hp;have ny:=h.le;have XJ:=k.le;obtain⟨N,h⟩:=h _ hd;obtain⟨N',k⟩:=k _ hd;refine⟨N+N'+N0,λ M hM=>?_⟩
 have h1:=h M (by omega)
 have k1:=k M (by omega)
 have hr:=hR M (by omega)
 have hδ:=rdm (a:=e) hp;generalize e/(R+(p+q)+1)=δ at *;obtain⟨x0,a1,a2,a3⟩:=clamp ny (YZ hd) h1.1 h1.2;obtain⟨y0,b1,b2,b3⟩:=clamp XJ (YZ hd) k1.1 k1.2;have hc:=corner a1 a2 b1 b2 l1 l2 l3 l4 u1 u2 u3 u4;have g:=(hr.mul b3).add (a3.mul (AB.between Ff dN b1 b2));have e1:x M*(y M-y0)+(x M-x0)*y0=x M*y M-x0*y0:=by grind
 rw[e1] at g;obtain⟨g1,g2⟩:=g
 show L-e<=x M*y M/\x M*y M<=U+e
 generalize x M*y M=X at *;generalize x0*y0=Y at *;constructor<;>grind
theorem Has.scale {a b c:Rat} {x:Nat->Rat} (h:Has a b x) (hc:0<=c):Has (c*a) (c*b) (λ M=>c*x M):=by
 have ny:=h.le;have:=YV hc (show 0<=b-a by grind)
 exact Has.mul (Has.const (Rat.le_refl) (Rat.le_refl) (c:=c)) h (by grind) (by grind) (by grind) (by grind) (by grind) (by grind) (by grind) (by grind)
theorem Has.of_eq {a b:Rat} {x y:Nat->Rat} (h:Has a b x) (e:∀ M,y M=x M):Has a b y:=by
 have:y=x:=funext e;rw[this];exact h
end Go.Proofs.YtgmnknmjainabacGreat.Ex
namespace Go.Proofs.YtgmnknmjainabacGreat.Ex
theorem tm_AB {x R:Rat} (h:AB x R) (n:Nat):AB (tm x n) (tm R n):=by
 induction n with
 | zero=>simp only[tm];constructor<;>grind
 | succ n ih =>
  have hp:=zBN n;have g:=ih.mul h;have e1:=kV x n;have e2:=kV R n;have e3:tm x n*x=((n:Rat)+1)*tm x (n+1):=by grind
  have e4:tm R n*R=((n:Rat)+1)*tm R (n+1):=by grind
  rw[e3,e4] at g;obtain⟨g1,g2⟩:=g;generalize (n:Rat)+1=m at *;constructor
  ·refine Rat.not_lt.1 λ hn=>?_
   have:=Rat.mul_pos hp (show 0 < -tm R (n+1)-tm x (n+1) by grind)
   grind
  ·refine Rat.not_lt.1 λ hn=>?_
   have:=Rat.mul_pos hp (show 0<tm x (n+1)-tm R (n+1) by grind)
   grind
theorem zMD (R:Rat):∃ K,0<=K/\∀ x,AB x R->∀ i,AB (tm x i) (K*q4 i):=by
 obtain⟨K,k0,h⟩:=zPN R;exact⟨K,k0,λ x hx i=>(tm_AB hx i).mono (h i).2⟩
theorem zMN (R:Rat):∃ K,0<=K/\∀ M x y,AB x R->AB y R->AB (E x M*E y M-E (x+y) M) (K*((M:Rat)*q4 M)):=by
 obtain⟨K,k0,h⟩:=zMD R;refine⟨2*K*K,?_,λ M x y hx hy=>(E_mul x y K K (h x hx) (h y hy) M).mono (by grind)⟩
 have:=YV k0 k0;grind
theorem zDS (R:Rat):∃ K,0<=K/\∀ M x,AB x R->AB (E x M) K:=by
 obtain⟨K,k0,h⟩:=zMD R;refine⟨2*K,by grind,λ M x hx=>?_⟩
 have:=E_sub x K (h x hx) 0 M;have e:E x 0=0:=rfl;rw[Nat.zero_add,e] at this;have e1:E x M-0=E x M:=by grind
 rw[e1] at this;refine this.mono ?_;have:=yE M;have:=YV k0 (YZ this);simp only[q4];grind
theorem tm_zero (n:Nat):tm 0 (n+1)=0:=by
 have:=kV 0 n;have hp:=zBN n;have h5:((n:Rat)+1)*tm 0 (n+1)=0:=by grind
 rcases Rat.mul_eq_zero.1 h5 with h6|h6
 ·grind
 ·exact h6
theorem E_zero (M:Nat):E 0 (M+1)=1:=by
 induction M with
 | zero=>simp only[E,S,tm];grind
 | succ M ih =>
  have e:E 0 (M+1+1)=E 0 (M+1)+tm 0 (M+1):=rfl;rw[e,ih,tm_zero];grind
theorem zP (x:Rat):0<=x*x:=by
 rcases Rat.le_total (a:=0) (b:=x) with h|h
 ·exact YV h h
 ·have:=YV (show 0 <= -x by grind) (show 0 <= -x by grind);grind
theorem E_low (R:Rat):∃ c,0<c/\∃ N,∀ M,N<=M->∀ x,AB x R->c<=E x M:=by
 obtain⟨K,k0,hK⟩:=zMN R;obtain⟨L,l0,hL⟩:=zDS R;have hp:0<4*(L+1):=by grind
 have hc:=zK (show (0:Rat)<1 by grind) hp
 have hcL:=rdm (a:=1) hp;refine⟨_,hc,?_⟩;generalize 1/(4*(L+1))=c at *;obtain⟨N,hN⟩:=zB3 K k0 c hc;refine⟨N+1,λ M hM x hx=>?_⟩
 obtain⟨n1,n2⟩:AB (K*((M:Rat)*q4 M)) c:=hN M (by omega)
 have fR:AB (x/2) R:=by obtain⟨a,b⟩:=hx;constructor<;>grind
 have h1:=hK M (x/2) (x/2) fR fR;rw[show x/2+x/2=x by grind] at h1
 have h2:=hK M x (-x) hx hx.neg;rw[show x + -x=0 by grind] at h2
 obtain⟨m,rfl⟩:∃ m,M=m+1:=⟨M-1,by omega⟩
 rw[E_zero] at h2;have h3:=hL (m+1) (-x) hx.neg;have h4:=zP (E (x/2) (m+1));obtain⟨a1,a2⟩:=h1;obtain⟨b1,b2⟩:=h2;generalize K*(((m+1:Nat):Rat)*q4 (m+1))=η at *;generalize E (x/2) (m+1)*E (x/2) (m+1)=s at *;refine Rat.not_lt.1 λ hn=>?_
 have h5:AB (E x (m+1)) c:=by constructor<;>grind
 have h6:=h5.mul h3;obtain⟨c1,c2⟩:=h6;generalize E x (m+1)*E (-x) (m+1)=t at *;have:c*L<=1/4:=by grind
 have:c<=1/4:=by
  have:=YV (YZ hc) l0;grind
 grind
theorem zKZ {h b:Rat} (hb:AB h b) (h4:b<=1/4) (k:Nat):AB (tm h (k+1)) (b*q4 k):=by
 have b0:=hb.nonneg
 induction k with
 | zero=>simp only[tm,q4];obtain⟨_,_⟩:=hb;simp;constructor<;>grind
 | succ k ih =>
  have e:=kV h (k+1);have hp:=zBN (k+1)
  have Ff:(1:Rat)<=((k+1:Nat):Rat)+1:=by
   have:(0:Rat)<=((k+1:Nat):Rat):=by exact_mod_cast Nat.zero_le (k+1)
   grind
  have g:=hb.mul ih;rw[<- e] at g;have q:=yE k;have e2:q4 (k+1)=q4 k/4:=rfl;rw[e2];generalize ((k+1:Nat):Rat)+1=m at *
  have g2:AB (m*tm h (k+1+1)) (b*(q4 k/4)):=by
   refine g.mono ?_;have:=YV (YV b0 (YZ q)) (show 0<=1/4-b by grind)
   grind
  obtain⟨g3,g4⟩:=g2;have hn:=YV b0 (YZ q);generalize b*(q4 k/4)=r at *;have hr:0<=r:=by grind
  constructor
  ·refine Rat.not_lt.1 λ hn=>?_
   have:=YV (show 0<=m-1 by grind) (show 0 <= -r-tm h (k+1+1) by grind)
   have:=YV (show 0<=m-1 by grind) hr
   grind
  ·refine Rat.not_lt.1 λ hn=>?_
   have:=YV (show 0<=m-1 by grind) (show 0<=tm h (k+1+1)-r by grind)
   have:=YV (show 0<=m-1 by grind) hr
   grind
theorem zPV {h b:Rat} (hb:AB h b) (h4:b<=1/4) (M:Nat):AB (E h (M+1)-1) (2*b*(1-q4 M)):=by
 have b0:=hb.nonneg
 induction M with
 | zero=>simp only[E,S,tm,q4];constructor<;>grind
 | succ M ih =>
  have e:E h (M+1+1)=E h (M+1)+tm h (M+1):=rfl;have g:=ih.add (zKZ hb h4 M);rw[e];have e2:q4 (M+1)=q4 M/4:=rfl;have q:=YV b0 (YZ (yE M));have e3:E h (M+1)-1+tm h (M+1)=E h (M+1)+tm h (M+1)-1:=by grind
  rw[e3] at g;rw[e2];exact g.mono (by grind)
theorem zHP {h b:Rat} (hb:AB h b) (h4:b<=1/4) {M:Nat} (hM:1<=M):AB (E h M-1) (2*b):=by
 obtain⟨m,rfl⟩:∃ m,M=m+1:=⟨M-1,by omega⟩
 refine (zPV hb h4 m).mono ?_;have q:=YV hb.nonneg (YZ (yE m));grind
theorem zOJ {h b:Rat} (hb:AB h b) (h4:b<=1/4) (M:Nat):AB (E h (M+2)-1-h) (2*(b*b)*(1-q4 M)):=by
 have b0:=hb.nonneg;have bb:=YV b0 b0
 induction M with
 | zero =>
  have:E h 2=1+h:=by simp[E,S,tm];grind
  rw[this];simp only[q4];constructor<;>grind
 | succ M ih =>
  have e:E h (M+1+2)=E h (M+2)+tm h (M+2):=rfl;have hp:=zBN (M+1)
  have g0:AB (tm h (M+2)) (b*b*q4 M):=by
   have e:=kV h (M+1)
   have Ff:(1:Rat)<=((M+1:Nat):Rat)+1:=by
    have:(0:Rat)<=((M+1:Nat):Rat):=by exact_mod_cast Nat.zero_le (M+1)
    grind
   have g:=hb.mul (zKZ hb h4 M);rw[<- e] at g;have hr:=YV bb (YZ (yE M));rw[show b*(b*q4 M)=b*b*q4 M by grind] at g
   obtain⟨g3,g4⟩:=g;generalize ((M+1:Nat):Rat)+1=m at *;generalize b*b*q4 M=r at *;rw[show M+1+1=M+2 by omega] at *
   constructor
   ·refine Rat.not_lt.1 λ hn=>?_
    have:=YV (show 0<=m-1 by grind) (show 0 <= -r-tm h (M+2) by grind)
    have:=YV (show 0<=m-1 by grind) hr
    grind
   ·refine Rat.not_lt.1 λ hn=>?_
    have:=YV (show 0<=m-1 by grind) (show 0<=tm h (M+2)-r by grind)
    have:=YV (show 0<=m-1 by grind) hr
    grind
  have g:=ih.add g0;rw[e];have e2:q4 (M+1)=q4 M/4:=rfl;have q:=YV bb (YZ (yE M));have e3:E h (M+2)-1-h+tm h (M+2)=E h (M+2)+tm h (M+2)-1-h:=by grind
  rw[e3] at g;rw[e2];exact g.mono (by grind)
theorem zBI {h b:Rat} (hb:AB h b) (h4:b<=1/4) {M:Nat} (hM:2<=M):AB (E h M-1-h) (2*(b*b)):=by
 obtain⟨m,rfl⟩:∃ m,M=m+2:=⟨M-2,by omega⟩
 refine (zOJ hb h4 m).mono ?_;have q:=YV (YV hb.nonneg hb.nonneg) (YZ (yE m));grind
def Ev (x:Nat->Rat) (M:Nat):Rat:=E (x M) M
theorem zAH {x:Nat->Rat} (h:Bdd x):Bdd (Ev x):=by
 obtain⟨R,N,r0,h⟩:=h;obtain⟨K,k0,hK⟩:=zDS R;exact⟨K,N,k0,λ M hM=>hK M _ (h M hM)⟩
theorem zAO {x y:Nat->Rat} (hx:Bdd x) (hy:Bdd y):Null (λ M=>Ev x M*Ev y M-Ev (λ M=>x M+y M) M):=by
 obtain⟨R,N,r0,hx⟩:=hx;obtain⟨R',N',Ac,hy⟩:=hy;obtain⟨K,k0,hK⟩:=zMN (R+R');exact (zB3 K k0).of_le (N+N') λ M hM=>hK M _ _ ((hx M (by omega)).mono (by grind)) ((hy M (by omega)).mono (by grind))
theorem zB9 {x:Nat->Rat} (hx:Bdd x):∃ c,0<c/\∃ N,∀ M,N<=M->c<=Ev x M:=by
 obtain⟨R,N,r0,hx⟩:=hx;obtain⟨c,hc,N',h⟩:=E_low R;exact⟨c,hc,N+N',λ M hM=>h M (by omega) _ (hx M (by omega))⟩
theorem zPZ {h:Nat->Rat} (hn:Null h):Null (λ M=>Ev h M-1):=λ e he=>by
 obtain⟨N,h1⟩:=hn (1/4) (by grind)
 obtain⟨N',h2⟩:=hn (e/2) (by grind)
 refine⟨N+N'+1,λ M hM=>?_⟩
 rcases Rat.le_total (a:=e/2) (b:=1/4) with hc|hc
 ·exact (zHP (h2 M (by omega)) hc (by omega)).mono (by grind)
 ·exact (zHP (h1 M (by omega)) (by grind) (by omega)).mono (by grind)
theorem zD3 {x y:Nat->Rat} (hx:Bdd x) (hy:Bdd y) (h:Null (λ M=>x M-y M)):Null (λ M=>Ev x M-Ev y M):=by
 have h1:=zAO hy (hx.sub hy);have h2:=(zPZ h).bmul (zAH hy);have e:(λ M=>y M+(x M-y M))=x:=funext λ M=>by grind
 rw[e] at h1;refine (h2.sub h1).of_eq λ M=>?_
 grind
theorem zPX {x:Nat->Rat} (hx:Bdd x):Null (λ M=>Ev x M*Ev (λ M => -x M) M-1):=by
 have h1:=zAO hx hx.neg;refine h1.of_eq_from 1 λ M hM=>?_
 obtain⟨m,rfl⟩:∃ m,M=m+1:=⟨M-1,by omega⟩
 have:Ev (λ M=>x M + -x M) (m+1)=1:=by
  show E (x (m+1) + -x (m+1)) (m+1)=1
  rw[show x (m+1) + -x (m+1)=0 by grind,E_zero]
 rw[this]
theorem zCV {x y z:Nat->Rat} (hx:Bdd x) (hy:Bdd y) (hz:Null z) (N0:Nat) (h:∀ M,N0<=M->x M<=y M+z M):∃ v,Null v/\∃ N,∀ M,N<=M->Ev x M<=Ev y M+v M:=by
 have b1:Bdd (λ M=>y M+z M):=hy.add hz.bdd
 have n1:=zD3 b1 hy (hz.of_eq λ M=>by grind)
 have n2:=zAO hx (b1.sub hx);have e:(λ M=>x M+(y M+z M-x M))=λ M=>y M+z M:=funext λ M=>by grind
 rw[e] at n2;obtain⟨c,hc,N1,hl⟩:=zB9 hx;refine⟨_,n1.add n2,N0+N1+1,λ M hM=>?_⟩
 have h1:=E_one (show 0<=y M+z M-x M by have:=h M (by omega);grind) (show 1<=M by omega)
 have h2:=hl M (by omega)
 have h3:=YV (show 0<=Ev x M by grind) (show 0<=Ev (λ M=>y M+z M-x M) M-1 by have:Ev (λ M=>y M+z M-x M) M=E (y M+z M-x M) M:=rfl;rw[this];grind)
 grind
theorem zMM {x:Rat} (h:0<=x) {M:Nat} (hM:2<=M):1+x<=E x M:=by
 obtain⟨m,rfl⟩:∃ m,M=m+2:=⟨M-2,by omega⟩
 clear hM
 induction m with
 | zero=>simp[E,S,tm];grind
 | succ m ih =>
  have e1:E x (m+1+2)=E x (m+2)+tm x (m+2):=rfl;have:=zA4 h (m+2);grind
theorem zK9 {x y z:Nat->Rat} (hx:Bdd x) (hy:Bdd y) (hz:Null z) (N0:Nat) (h:∀ M,N0<=M->Ev x M<=Ev y M+z M) (e:Rat) (he:0<e):∃ N,∀ M,N<=M->x M<=y M+e:=by
 obtain⟨R,N1,r0,hx⟩:=hx;obtain⟨R',N2,Ac,hy⟩:=hy;obtain⟨K,k0,hK⟩:=zMN (R+R'+R+R'+e);obtain⟨c,hc,N3,hl⟩:=E_low (R+R'+R+R'+e);have hce:=Rat.mul_pos hc he;obtain⟨N4,hn⟩:=zB3 K k0 (c*e/4) (by grind)
 obtain⟨N5,hz⟩:=hz (c*e/4) (by grind)
 refine⟨N0+N1+N2+N3+N4+N5+2,λ M hM=>?_⟩
 refine Rat.not_lt.1 λ E2=>?_
 have a1:=hx M (by omega)
 have a2:=hy M (by omega)
 have a3:=h M (by omega)
 obtain⟨a4,a5⟩:AB (K*((M:Rat)*q4 M)) (c*e/4):=hn M (by omega)
 obtain⟨a6,a7⟩:=hz M (by omega)
 have QF:AB (y M+e) (R+R'+R+R'+e):=by obtain⟨_,_⟩:=a2;constructor<;>grind
 have hu:AB (x M-(y M+e)) (R+R'+R+R'+e):=by obtain⟨_,_⟩:=a2;obtain⟨_,_⟩:=a1;constructor<;>grind
 have oJ:AB (y M) (R+R'+R+R'+e):=a2.mono (by grind)
 have PY:AB e (R+R'+R+R'+e):=by constructor<;>grind
 obtain⟨b1,b2⟩:=hK M _ _ QF hu;obtain⟨b3,b4⟩:=hK M _ _ oJ PY;rw[show y M+e+(x M-(y M+e))=x M by grind] at b1 b2
 have l1:=hl M (by omega) _ QF
 have l2:=hl M (by omega) _ oJ
 have o1:=E_one (show 0<=x M-(y M+e) by grind) (show 1<=M by omega)
 have o2:=zMM (YZ he) (show 2<=M by omega)
 have p1:=YV (show 0<=E (y M+e) M by grind) (show 0<=E (x M-(y M+e)) M-1 by grind)
 have p2:=YV (show 0<=E (y M) M by grind) (show 0<=E e M-(1+e) by grind)
 have p3:=YV (show 0<=E (y M) M-c by grind) (YZ he)
 have a3':E (x M) M<=E (y M) M+z M:=a3;generalize E (x M) M=X at *;generalize E (y M) M=Y at *;generalize K*((M:Rat)*q4 M)=η at *;grind
end Go.Proofs.YtgmnknmjainabacGreat.Ex
namespace Go.Proofs.YtgmnknmjainabacGreat.Ex
def pw (x:Rat):Nat->Rat
 | 0=>1
 | k+1=>x*pw x k
def q2:Nat->Rat
 | 0=>1
 | n+1=>q2 n/2
theorem yP (n:Nat):0<q2 n:=by
 induction n with
 | zero=>simp only[q2];grind
 | succ n ih=>simp only[q2];grind
theorem q2_le (n:Nat):q2 n<=1:=by
 induction n with
 | zero=>simp only[q2];grind
 | succ n ih=>simp only[q2];have:=yP n;grind
theorem zTC {y:Rat} (h:AB y (1/2)) (k:Nat):AB (pw y k) (q2 k):=by
 induction k with
 | zero=>simp only[pw,q2];constructor<;>grind
 | succ k ih=>simp only[pw,q2];exact (h.mul ih).mono (by grind)
theorem pw_step {y h:Rat} (hy:AB y (1/2)) (qY:AB (y+h) (1/2)) (k:Nat) :
  AB (pw (y+h) (k+1)-pw y (k+1)-((k:Rat)+1)*(h*pw y k)) ((k:Rat)*((k:Rat)+1)*q2 k*(h*h)):=by
 induction k with
 | zero=>simp only[pw,q2];simp;constructor<;>grind
 | succ k ih =>
  have e1:pw (y+h) (k+1+1)=(y+h)*pw (y+h) (k+1):=rfl;have e2:pw y (k+1+1)=y*pw y (k+1):=rfl;have e3:pw y (k+1)=y*pw y k:=rfl;have e4:((k+1:Nat):Rat)=(k:Rat)+1:=by simp
  have e5:q2 (k+1)=q2 k/2:=rfl;have h2:=zP h;have q:=yP k;have kk:(0:Rat)<=(k:Rat):=by exact_mod_cast Nat.zero_le k
  have g1:=qY.mul ih
  have g2:AB (((k:Rat)+1)*(h*h)*pw y k) (((k:Rat)+1)*(h*h)*q2 k):=by
   have:AB (((k:Rat)+1)*(h*h)) (((k:Rat)+1)*(h*h)):=by
    have:=YV (show 0<=(k:Rat)+1 by grind) h2
    constructor<;>grind
   exact this.mul (zTC hy k)
  have g:=g1.add g2;rw[e1,e2,e4,e5]
  have:(y+h)*(pw (y+h) (k+1)-pw y (k+1)-((k:Rat)+1)*(h*pw y k))+((k:Rat)+1)*(h*h)*pw y k=(y+h)*pw (y+h) (k+1)-y*pw y (k+1)-((k:Rat)+1+1)*(h*pw y (k+1)):=by
   rw[e3];grind
  rw[this] at g;exact g.mono (by grind)
def Lg (y:Rat) (M:Nat):Rat:=S (λ k=>pw y (k+1)/((k:Rat)+1)) M
theorem zDB {t b m:Rat} (hm:0<m) (h:AB t (m*b)):AB (t/m) b:=by
 have e:=rdm (a:=t) hm;generalize t/m=q at *;obtain⟨h1,h2⟩:=h;constructor
 ·refine Rat.not_lt.1 λ hn=>?_
  have:=Rat.mul_pos hm (show 0 < -b-q by grind)
  grind
 ·refine Rat.not_lt.1 λ hn=>?_
  have:=Rat.mul_pos hm (show 0<q-b by grind)
  grind
theorem S_sub (f g:Nat->Rat) (n:Nat):S (λ i=>f i-g i) n=S f n-S g n:=by
 induction n with
 | zero=>simp[S];try grind
 | succ n ih=>simp only[S,ih];grind
theorem S_k2 (M:Nat):S (λ k=>(k:Rat)*q2 k) M=2-2*((M:Rat)+1)*q2 M:=by
 induction M with
 | zero=>simp only[S,q2];simp;grind
 | succ M ih =>
  simp only[S,ih,q2];have e4:((M+1:Nat):Rat)=(M:Rat)+1:=by simp
  rw[e4];grind
theorem Lg_step {y h:Rat} (hy:AB y (1/2)) (qY:AB (y+h) (1/2)) (M:Nat) :
  AB (Lg (y+h) M-Lg y M-h*S (pw y) M) (2*(h*h)):=by
 have e:Lg (y+h) M-Lg y M-h*S (pw y) M=S (λ k=>(pw (y+h) (k+1)-pw y (k+1)-((k:Rat)+1)*(h*pw y k))/((k:Rat)+1)) M:=by
  unfold Lg;rw[<- zGU,<- S_sub,<- S_sub];refine yT _ λ i hi=>?_
  have hp:=zBN i;generalize (i:Rat)+1=m at *;grind
 rw[e];have h2:=zP h
 have g:AB (S (λ k=>(pw (y+h) (k+1)-pw y (k+1)-((k:Rat)+1)*(h*pw y k))/((k:Rat)+1)) M) (S (λ k=>(h*h)*((k:Rat)*q2 k)) M):=by
  refine S_AB _ λ i hi=>?_
  refine zDB (zBN i) ((pw_step hy qY i).mono ?_);grind
 refine g.mono ?_;rw[zGU,S_k2];have q:=yP M;have Xf:(0:Rat)<=(M:Rat):=by exact_mod_cast Nat.zero_le M
 have:=YV (YV h2 (show 0<=(M:Rat)+1 by grind)) (YZ q)
 grind
theorem S_pw (y:Rat) (M:Nat):S (pw y) M*(1-y)=1-pw y M:=by
 induction M with
 | zero=>simp only[S,pw];grind
 | succ M ih=>simp only[S,pw];grind
theorem S_q2 (M:Nat):S q2 M=2-2*q2 M:=by
 induction M with
 | zero=>simp only[S,q2];grind
 | succ M ih=>simp only[S,q2,ih];grind
theorem S_pw_AB {y:Rat} (hy:AB y (1/2)) (M:Nat):AB (S (pw y) M) 2:=by
 refine (S_AB M λ i _=>zTC hy i).mono ?_
 rw[S_q2];have:=yP M;grind
theorem Lg_AB {y:Rat} (hy:AB y (1/2)) (M:Nat):AB (Lg y M) 2:=by
 have:AB (Lg y M) (S q2 M):=by
  refine S_AB M λ i _=>zDB (zBN i) ((zTC hy (i+1)).mono ?_)
  have q:=yP i;have kk:(0:Rat)<=(i:Rat):=by exact_mod_cast Nat.zero_le i
  have:=YV kk (YZ q);simp only[q2];grind
 refine this.mono ?_;rw[S_q2];have:=yP M;grind
theorem pw_zero (k:Nat):pw 0 (k+1)=0:=by simp only[pw];grind
theorem Lg_zero (M:Nat):Lg 0 M=0:=by
 unfold Lg;rw[yT M (g:=λ _=>0) (λ i _=>by rw[pw_zero];grind),zP7];grind
theorem G_step (K η:Rat) (M:Nat) (hM:2<=M) (hK:∀ x,AB x 4->AB (E x M) K) (hη:∀ x y,AB x 4->AB y 4->AB (E x M*E y M-E (x+y) M) η)
  {y h b:Rat} (hy:AB y (1/2)) (qY:AB (y+h) (1/2)) (hb:AB h b) (aR:b<=1/12) :
  AB (E (Lg (y+h) M) M*(1-(y+h))-E (Lg y M) M*(1-y)) (K*(33*(b*b)+b*q2 M)+2*η):=by
 have b0:=hb.nonneg;have g1:=Lg_step hy qY M;have g2:=S_pw y M;have g3:=S_pw_AB hy M;have g4:=zTC hy M;have g5:=Lg_AB hy M;have g6:=Lg_AB qY M;have IY:h*h<=b*b:=by have:=(hb.mul hb).2;grind
 generalize S (pw y) M=g at *;generalize pw y M=pM at *;obtain⟨δ,hδ⟩:∃ δ,δ=Lg (y+h) M-Lg y M:=⟨_,rfl⟩;obtain⟨r,hr⟩:∃ r,r=Lg (y+h) M-Lg y M-h*g:=⟨_,rfl⟩;have Qq:AB r (2*(b*b)):=by rw[hr];exact g1.mono (by grind)
 have bb:=YV b0 b0;have bb2:=YV b0 (show 0<=1/12-b by grind)
 have hδb:AB δ (3*b):=by
  have:=(hb.mul g3).add Qq;have e:h*g+r=δ:=by rw[hr,hδ];grind
  rw[e] at this;exact this.mono (by grind)
 have hs:=zBI hδb (by grind) hM
 have hE:=hK _ (g5.mono (by grind))
 have hmul:=hη (Lg y M) δ (g5.mono (by grind)) (hδb.mono (by grind))
 rw[show Lg y M+δ=Lg (y+h) M by rw[hδ];grind] at hmul
 generalize E (Lg (y+h) M) M=A at *;generalize E (Lg y M) M=C at *;generalize E δ M=D at *;obtain⟨s,qf⟩:∃ s,s=D-1-δ:=⟨_,rfl⟩;rw[<- qf] at hs;obtain⟨t,ht⟩:∃ t,t=C*D-A:=⟨_,rfl⟩;rw[<- ht] at hmul;have WS:AB (1-y) (3/2):=by obtain⟨_,_⟩:=hy;constructor<;>grind
 have Ii:AB (1-(y+h)) 2:=by obtain⟨_,_⟩:=qY;constructor<;>grind
 have Bv:AB (1-(y+h)) (3/2):=by obtain⟨_,_⟩:=qY;constructor<;>grind
 have key:A*(1-(y+h))-C*(1-y)=C*(-(h*pM)+r*(1-y)+(-(δ*h))+s*(1-(y+h))) + -(t*(1-(y+h))):=by
  have e1:A=C*D-t:=by grind
  have e2:D=s+1+δ:=by grind
  have e3:δ=h*g+r:=by rw[hr,hδ];grind
  have e4:pM=1-g*(1-y):=by grind
  rw[e1,e2,e4,e3];grind
 rw[key];have m1:=(hb.mul g4).neg;have m2:=Qq.mul WS;have m3:=(hδb.mul hb).neg;have m4:=hs.mul Bv;have m5:=(hmul.mul Ii).neg;have m:=(hE.mul (((m1.add m2).add m3).add m4)).add m5;refine m.mono ?_;have:=hE.nonneg;have:b*q2 M+2*(b*b)*(3/2)+3*b*b+2*(3*b*(3*b))*(3/2)=33*(b*b)+b*q2 M:=by grind
 rw[this];grind
theorem G_steps (K η:Rat) (M:Nat) (hM:2<=M) (hK:∀ x,AB x 4->AB (E x M) K) (hη:∀ x y,AB x 4->AB y 4->AB (E x M*E y M-E (x+y) M) η)
  {h b:Rat} (n:Nat) (hn:(n:Rat)*b<=1/2) (hb:AB h b) (aR:b<=1/12) (j:Nat) (hj:j<=n) :
  AB (E (Lg ((j:Rat)*h) M) M*(1-(j:Rat)*h)-1) ((j:Rat)*(K*(33*(b*b)+b*q2 M)+2*η)):=by
 have b0:=hb.nonneg
 have I9:∀ i:Nat,i<=n->AB ((i:Rat)*h) (1/2):=λ i hi=>by
  have hi':(i:Rat)<=(n:Rat):=by exact_mod_cast hi
  have Jh:(0:Rat)<=(i:Rat):=by exact_mod_cast Nat.zero_le i
  have:AB (i:Rat) (i:Rat):=by constructor<;>grind
  refine (this.mul hb).mono ?_;have:=YV (show 0<=(n:Rat)-i by grind) b0
  grind
 induction j with
 | zero =>
  have:((0:Nat):Rat)=0:=by simp
  rw[this,Rat.zero_mul,Lg_zero];obtain⟨m,rfl⟩:∃ m,M=m+1:=⟨M-1,by omega⟩
  rw[E_zero,Rat.zero_mul];constructor<;>grind
 | succ j ih =>
  have ih:=ih (by omega)
  have e4:((j+1:Nat):Rat)=(j:Rat)+1:=by simp
  have h2:=I9 (j+1) hj;rw[e4] at h2 ⊢;have e5:((j:Rat)+1)*h=(j:Rat)*h+h:=by grind
  rw[e5] at h2 ⊢;have g:=G_step K η M hM hK hη (I9 j (by omega)) h2 hb aR
  have:=ih.add g;generalize E (Lg ((j:Rat)*h+h) M) M*(1-((j:Rat)*h+h))=X at *;generalize E (Lg ((j:Rat)*h) M) M*(1-(j:Rat)*h)=Y at *;have e6:Y-1+(X-Y)=X-1:=by grind
  rw[e6] at this;exact this.mono (by grind)
theorem q4_q2 (M:Nat):(M:Rat)*q2 M<=1:=by
 induction M with
 | zero=>simp only[q2];simp;grind
 | succ M ih =>
  have e4:((M+1:Nat):Rat)=(M:Rat)+1:=by simp
  rw[e4];simp only[q2];have:=q2_le M;grind
theorem null_q2:Null q2:=λ e he=>by
 obtain⟨n,ij,bC⟩:=kQ (1/e);refine⟨n+1,λ M hM=>?_⟩
 have Xg:(n:Rat)<=(M:Rat):=by exact_mod_cast (show n<=M by omega)
 have u:=q4_q2 M;have q:=yP M;have e1:=rdm (a:=1) he;generalize 1/e=d at *;have s1:=YV (show 0<=(M:Rat)-d by grind) (YZ q)
 have s2:=YV (show 0<=1-d*q2 M by grind) (YZ he)
 have s3:(1-d*q2 M)*e=e-d*e*q2 M:=by grind
 rw[s3,e1] at s2;constructor<;>grind
theorem zPG {b n c:Rat} (hn:0<n) (hc:0<c) (h:b*n=c):0<b:=by
 refine Rat.not_le.1 λ hb=>?_
 have:=YV (show 0 <= -b by grind) (YZ hn)
 grind
theorem Lg_exp (e:Rat) (he:0<e):∃ N,∀ M,N<=M->∀ y,AB y (1/2)->AB (E (Lg y M) M*(1-y)-1) e:=by
 obtain⟨K,k0,hK⟩:=zDS 4;obtain⟨L,l0,hL⟩:=zMN 4;obtain⟨n0,ij,bC⟩:=kQ (33*K/e);obtain⟨n,hn⟩:∃ n:Nat,n=n0+6:=⟨_,rfl⟩;have CA:(n0:Rat)+6=(n:Rat):=by rw[hn];simp
 have cJ:(0:Rat)<=(n0:Rat):=by exact_mod_cast Nat.zero_le n0
 have npos:(0:Rat)<(n:Rat):=by grind
 have hKn:33*K<=e*(n:Rat):=by
  have e1:=rdm (a:=33*K) he;generalize 33*K/e=d at *;have:=YV (show 0<=(n:Rat)-d by grind) (YZ he)
  grind
 have Yz:(6:Rat)<=(n:Rat):=by grind
 clear hn ij bC CA cJ;have d1:=zK he (show 0<4*(K+1) by grind)
 obtain⟨N1,h1⟩:=null_q2 _ d1;have d2:=zK he (show (0:Rat)<8*(n:Rat) by grind)
 obtain⟨N2,h2⟩:=zB3 L l0 _ d2;refine⟨N1+N2+2,λ M hM y hy=>?_⟩
 have g1:=(h1 M (by omega)).2
 have g2:L*((M:Rat)*q4 M)<=e/(8*(n:Rat)):=(h2 M (by omega)).2
 have e1:=rdm (a:=e) (show 0<4*(K+1) by grind)
 have e2:=rdm (a:=e) (show (0:Rat)<8*(n:Rat) by grind)
 generalize e/(4*(K+1))=c1 at *;generalize e/(8*(n:Rat))=c2 at *;obtain⟨b,yq⟩:∃ b,b*(n:Rat)=1/2:=⟨1/2/(n:Rat),rdm npos⟩;have b0:0<b:=zPG npos (by grind) yq
 have hyn:=rdm (a:=y) npos;have hh:AB (y/(n:Rat)) b:=zDB npos (hy.mono (by rw[Rat.mul_comm,yq];exact Rat.le_refl))
 have aR:b<=1/12:=by
  have h6:=YV (YZ b0) (show 0<=(n:Rat)-6 by grind)
  have h7:b*((n:Rat)-6)=b*n-6*b:=by grind
  rw[h7,yq] at h6;grind
 have g:=G_steps K (L*((M:Rat)*q4 M)) M (by omega) (hK M) (hL M) n (by rw[Rat.mul_comm,yq];exact Rat.le_refl) hh aR n (Zb _)
 rw[show (n:Rat)*(y/(n:Rat))=y from (Rat.mul_comm _ _).trans hyn] at g
 refine g.mono ?_;generalize L*((M:Rat)*q4 M)=η at *;have q:=yP M;generalize q2 M=Q at *;have t1:(n:Rat)*(K*(33*(b*b)+b*Q)+2*η)=K*(33*b*(b*n)+(b*n)*Q)+2*(n*η):=by grind
 rw[t1,yq];have t2:=YV (YZ npos) (show 0<=c2-η by grind)
 have t3:=YV k0 (show 0<=c1-Q by grind)
 have t4:=YV (YZ b0) (show 0<=e*(n:Rat)-33*K by grind)
 have t5:b*(e*(n:Rat)-33*K)=e*(b*n)-33*K*b:=by grind
 rw[t5,yq] at t4;have t6:(n:Rat)*(c2-η)=(c2*(8*n))/8-n*η:=by grind
 rw[t6,e2] at t2;have t7:K*(c1-Q)=(c1*(4*(K+1)))/4-c1-K*Q:=by grind
 rw[t7,e1] at t3;have t8:K*(33*b*(1/2)+1/2*Q)=33*K*b/2+K*Q/2:=by grind
 rw[t8];generalize K*Q=A at *;generalize 33*K*b=B at *;generalize (n:Rat)*η=C at *;grind
end Go.Proofs.YtgmnknmjainabacGreat.Ex
