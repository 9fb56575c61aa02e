/-
  Its own texts.
-/
import Derived.Test.YtgmnknmjainabacGreatRows
import Derived.ProofKit
import Derived.OpenShut
import Derived.SizedLaws
import Derived.ChangeOld
import Derived.Test.YtgmnknmjainabacGreatK27
set_option maxRecDepth 100000
set_option maxHeartbeats 40000000
set_option linter.unnecessarySimpa false
set_option linter.unusedSimpArgs false
set_option linter.unusedVariables false
namespace Go.Proofs.YtgmnknmjainabacGreat
open Go.RowKit
attribute [local go_sem ↓] Go.wp_at_zero Go.wp_at_succ
open Ex
theorem zPE (k p q r s n d n2 d2 m0:Int) (bt:Int) (w:World) (e:Int) (h:lbE k p q r s n d bt=e) (he:e≠0) :
  Calls Tryz.prog 3 #[.agg #[.int .i64 k,.int .i64 p,.int .i64 q,.int .i64 r,.int .i64 s],.agg #[.int .i64 n,.int .i64 d],.agg #[.int .i64 n2,.int .i64 d2],.int .i64 m0,.int .i64 bt] w λ z w'=>z=.returned (.bool true)/\Below w.heap.size w w':=by
 obtain⟨W,hW⟩:∃ W,W=((w.alloc (.cells #[.int .i64 k,.int .i64 p,.int .i64 q,.int .i64 r,.int .i64 s] 25)).alloc (.cells #[.int .i64 n,.int .i64 d] 23)).alloc (.cells #[.int .i64 n2,.int .i64 d2] 23):=⟨_,rfl⟩;have j6:Below w.heap.size w W:=by rw[hW];exact bl3 _ _ _ _
 have A:LwC W w.heap.size k p q r s:=by rw[hW];constructor<;>simp[go_sem]
 have G:RaC W (w.heap.size+1) n d:=by rw[hW];constructor<;>simp[go_sem]
 have J:RaC W (w.heap.size+1+1) n2 d2:=by rw[hW];constructor<;>simp[go_sem]
 obtain⟨R,R2,L0,GG,X,hE⟩:=Ms;have HE:=zC hE;have HR:=zC h;have c1:(e != 0)=true:=by simp[he]
 clear h hE
 go_enter Tryz.func3,Tryz.ntmps3
 go_wp2_with fail;rw[<- hW];clear hW;refine (zFD _).mono ?_;rintro z wa ⟨rfl,A6⟩;replace A:=A.bw A6;replace G:=G.bw A6;replace J:=J.bw A6;replace j6:=zB j6 A6;clear A6;go_wp2_with fail;refine (zEN _).mono ?_;rintro z wb ⟨rfl,A6⟩;replace A:=A.bw A6;replace G:=G.bw A6;replace J:=J.bw A6;replace j6:=zB j6 A6;clear A6;have bA:=A.c0;have bC:=A.c1;have cw:=A.c2;have cQ:=A.c3;have cR:=A.c4;have fAl:=A.lt;have qf:=G.c0;have qg:=G.c1;have fGl:=G.lt;go_wp2_with fail;clear bA bC cw cQ cR fAl qf qg fGl;refine (zRC (zA HE) _ k p q r s n d bt e (zA HR) he).mono ?_;rintro z w3 ⟨y,rfl,O6,P7,A6⟩;replace A:=A.bw A6;replace G:=G.bw A6;replace J:=J.bw A6;replace j6:=zB j6 A6;clear A6 O6 P7;obtain⟨V3,I0⟩:∃ V,V=w3.alloc (.cells y.q 31):=⟨_,rfl⟩;have cO:Below w3.heap.size w3 V3:=by rw[I0];exact bl1 _ _
 have S:SpC V3 w3.heap.size y:=by rw[I0];exact kO w3 y _
 replace A:=A.bw cO;replace G:=G.bw cO;replace J:=J.bw cO;replace j6:=zB j6 cO;clear cO S
 go_upto_region 4 with fail
 rw[<- I0];clear I0;have bA:=A.c0;have bC:=A.c1;have cw:=A.c2;have cQ:=A.c3;have cR:=A.c4;have fAl:=A.lt;have qf:=G.c0;have qg:=G.c1;have fGl:=G.lt;go_wp2_with fail;clear bA bC cw cQ cR fAl qf qg fGl;refine (zQT (zA HE) _ k p q r s n d bt e (zA HR) he).mono ?_;rintro z w4 ⟨t,rfl,O6,P7,A6⟩;replace A:=A.bw A6;replace G:=G.bw A6;replace J:=J.bw A6;replace j6:=zB j6 A6;clear A6 O6 P7;obtain⟨V4,gZ⟩:∃ V,V=w4.alloc (.cells t.q 31):=⟨_,rfl⟩;have ai:Below w4.heap.size w4 V4:=by rw[gZ];exact bl1 _ _
 have T:SpC V4 w4.heap.size t:=by rw[gZ];exact kO w4 t _
 replace A:=A.bw ai;replace G:=G.bw ai;replace J:=J.bw ai;replace j6:=zB j6 ai;clear ai T;go_wp2_with fail
 try rw[<- gZ]
 exact bodyPost_ret (v:=.bool true) (by simp[results,Tryz.results3]) rfl ⟨rfl,j6⟩
theorem zSI (k p q r s n d n2 d2 m0:Int) (b:Nat) (w:World) (iz : -9223372036854775808<=m0) (J5:m0<=9223372036854775807) (h:lbE k p q r s n d (b:Int)=0) :
  Calls Tryz.prog 3 #[.agg #[.int .i64 k,.int .i64 p,.int .i64 q,.int .i64 r,.int .i64 s],.agg #[.int .i64 n,.int .i64 d],.agg #[.int .i64 n2,.int .i64 d2],.int .i64 m0,.int .i64 (b:Int)] w λ z w'=>z=.returned (.bool true)/\Below w.heap.size w w':=by
 obtain⟨W,hW⟩:∃ W,W=((w.alloc (.cells #[.int .i64 k,.int .i64 p,.int .i64 q,.int .i64 r,.int .i64 s] 25)).alloc (.cells #[.int .i64 n,.int .i64 d] 23)).alloc (.cells #[.int .i64 n2,.int .i64 d2] 23):=⟨_,rfl⟩;have j6:Below w.heap.size w W:=by rw[hW];exact bl3 _ _ _ _
 have A:LwC W w.heap.size k p q r s:=by rw[hW];constructor<;>simp[go_sem]
 have G:RaC W (w.heap.size+1) n d:=by rw[hW];constructor<;>simp[go_sem]
 have J:RaC W (w.heap.size+1+1) n2 d2:=by rw[hW];constructor<;>simp[go_sem]
 obtain⟨R,R2,L0,GG,X,hE⟩:=Ms;have HE:=zC hE;obtain⟨h0,⟨a1,a2,a3,a4⟩,Jn,Yc⟩:=zID h;have h5:8<=b:=by omega
 have h6:b<=120:=by omega
 have d0:0<d:=by omega
 have HR:=zC h;have Jv:=zE b
 have HQ:Hid (4*Q b<Q 4000):=zC (by
  have e:Q (b+2)=2*(2*Q b):=rfl;have:=zJ (show b+3<=4000 by omega)
  have e2:Q (b+3)=2*Q (b+2):=rfl
  omega)
 clear hE h Jn Yc
 go_enter Tryz.func3,Tryz.ntmps3
 go_wp2_with fail;rw[<- hW];clear hW;refine (zFD _).mono ?_;rintro z wa ⟨rfl,A6⟩;replace A:=A.bw A6;replace G:=G.bw A6;replace J:=J.bw A6;replace j6:=zB j6 A6;clear A6;go_wp2_with fail;refine (zEN _).mono ?_;rintro z wb ⟨rfl,A6⟩;replace A:=A.bw A6;replace G:=G.bw A6;replace J:=J.bw A6;replace j6:=zB j6 A6;clear A6;have bA:=A.c0;have bC:=A.c1;have cw:=A.c2;have cQ:=A.c3;have cR:=A.c4;have fAl:=A.lt;have qf:=G.c0;have qg:=G.c1;have fGl:=G.lt;go_wp2_with fail;clear bA bC cw cQ cR fAl qf qg fGl;refine (zFM (zA HE) _ k p q r s n d b (zA HR)).mono ?_;rintro z w3 ⟨L1,H1,hv,x,rfl,O6,P7,A6⟩;replace A:=A.bw A6;replace G:=G.bw A6;replace J:=J.bw A6;replace j6:=zB j6 A6;clear A6;have yz:=zC hv;have OO:=zC O6;have Y1:=zC P7;clear hv O6 P7;obtain⟨V3,I0⟩:∃ V,V=w3.alloc (.cells x.q 31):=⟨_,rfl⟩;have cO:Below w3.heap.size w3 V3:=by rw[I0];exact bl1 _ _
 have S:SpC V3 w3.heap.size x:=by rw[I0];exact kO w3 x _
 replace A:=A.bw cO;replace G:=G.bw cO;replace J:=J.bw cO;replace Y1:=zC ((zA Y1).bw cO);replace j6:=zB j6 cO;clear cO
 go_upto_region 4 with fail
 rw[<- I0];clear I0;have bA:=A.c0;have bC:=A.c1;have cw:=A.c2;have cQ:=A.c3;have cR:=A.c4;have fAl:=A.lt;have qf:=G.c0;have qg:=G.c1;have fGl:=G.lt;go_wp2_with fail;clear bA bC cw cQ cR fAl qf qg fGl;refine (above_ok (zA HE) _ k p q r s n d b (zA HR)).mono ?_;rintro z w4 ⟨L2,H2,hv,t,rfl,O6,P7,A6⟩;replace A:=A.bw A6;replace G:=G.bw A6;replace J:=J.bw A6;replace Y1:=zC ((zA Y1).bw A6);replace S:=S.bw A6;replace j6:=zB j6 A6;clear A6;have Br:=zC hv;have OM:=zC O6;have gj:=zC P7;clear hv O6 P7;obtain⟨V4,gZ⟩:∃ V,V=w4.alloc (.cells t.q 31):=⟨_,rfl⟩;have ai:Below w4.heap.size w4 V4:=by rw[gZ];exact bl1 _ _
 have T:SpC V4 w4.heap.size t:=by rw[gZ];exact kO w4 t _
 replace A:=A.bw ai;replace G:=G.bw ai;replace J:=J.bw ai;replace Y1:=zC ((zA Y1).bw ai);replace S:=S.bw ai;replace gj:=zC ((zA gj).bw ai);replace j6:=zB j6 ai;clear ai
 go_upto_region 7 with fail
 rw[<- gZ];clear gZ;have Qf:=S.c0;have Qg:=S.c1;have Qh:=S.c2;have Qi:=S.c3;have Qj:=S.c4;have fSl:=S.lt;have XN:=T.c0;have XQ:=T.c1;have XR:=T.c2;have XT:=T.c3;have XV:=T.c4;have fTl:=T.lt;go_wp2_with fail;clear Qf Qg Qh Qi Qj fSl XN XQ XR XT XV fTl;have les:=(zA yz).v.le;have let_:=(zA Br).v.le
 have OI:Hid (Abs (zAR (L1,H1) (L2,H2)) (4*Q b)):=zC (by
  have a1:=(zA yz).lo;have a2:=(zA yz).hi;have a3:=(zA Br).lo;have a4:=(zA Br).hi
  exact⟨by show -(4*Q b)<=L1+L2;omega,by show L1+L2<=4*Q b;omega,by show -(4*Q b)<=H1+H2;omega,by show H1+H2<=4*Q b;omega⟩)
 have oF:=zC (up_unit (zA yz).v (zA Br).v);refine (zHN _ x t b (L1,H1) (L2,H2) (zA Y1) (zA gj) (zA OO) (zA OM) (by omega) h6 les let_ (zA HQ) (zA OI)).mono ?_
 rintro z w6 ⟨c,rfl,O6,P7,A6⟩;replace A:=A.bw A6;replace G:=G.bw A6;replace J:=J.bw A6;replace Y1:=zC ((zA Y1).bw A6);replace S:=S.bw A6;replace gj:=zC ((zA gj).bw A6);replace T:=T.bw A6;replace j6:=zB j6 A6;clear A6;have yi:=zC O6;have nI:=zC P7;clear O6 P7 les let_ OI;obtain⟨V6,lJ⟩:∃ V,V=w6.alloc (.cells c.q 31):=⟨_,rfl⟩;have cP:Below w6.heap.size w6 V6:=by rw[lJ];exact bl1 _ _
 have C:SpC V6 w6.heap.size c:=by rw[lJ];exact kO w6 c _
 replace A:=A.bw cP;replace G:=G.bw cP;replace J:=J.bw cP;replace Y1:=zC ((zA Y1).bw cP);replace S:=S.bw cP;replace gj:=zC ((zA gj).bw cP);replace T:=T.bw cP;replace nI:=zC ((zA nI).bw cP);replace j6:=zB j6 cP;clear cP
 go_upto_region 8 with fail
 rw[<- lJ];clear lJ;have XB:=C.c0;have XC:=C.c1;have XD:=C.c2;have XG:=C.c3;have XI:=C.c4;have fCl:=C.lt;go_wp2_with fail;clear XB XC XD XG XI fCl;refine (zDI _ c).mono ?_;rintro z gL ⟨rfl,A6⟩;replace A:=A.bw A6;replace G:=G.bw A6;replace J:=J.bw A6;replace Y1:=zC ((zA Y1).bw A6);replace S:=S.bw A6;replace gj:=zC ((zA gj).bw A6);replace T:=T.bw A6;replace nI:=zC ((zA nI).bw A6);replace C:=C.bw A6;replace j6:=zB j6 A6;clear A6;go_wp2_with fail;refine (refWhole _ 1 b (by omega) (by omega) (by omega)).mono ?_
 rintro z Tl ⟨y,rfl,O6,P7,A6⟩;replace A:=A.bw A6;replace G:=G.bw A6;replace J:=J.bw A6;replace Y1:=zC ((zA Y1).bw A6);replace S:=S.bw A6;replace gj:=zC ((zA gj).bw A6);replace T:=T.bw A6;replace nI:=zC ((zA nI).bw A6);replace C:=C.bw A6;replace j6:=zB j6 A6;clear A6;have yj:=zC O6;have ES:=zC (P7.mono (show b/16+18<=600 by omega))
 clear O6 P7;go_wp2_with fail;refine (touch_le _ c y 600 0 0 _ _ _ _ (zA nI) (zA ES) (by omega) (by have:=zA yi;omega) (by have:=zA yi;omega) (by have:=zA yj;omega) (by have:=zA yj;omega) (by have:=zA yi;have:=zA yj;omega) (by have:=zA yi;have:=zA yj;omega) (by have:=zA yi;have:=zA yj;omega)).mono ?_
 rintro z Tm ⟨rfl,A6⟩;rw[zA oF];replace A:=A.bw A6;replace G:=G.bw A6;replace J:=J.bw A6;replace Y1:=zC ((zA Y1).bw A6);replace S:=S.bw A6;replace gj:=zC ((zA gj).bw A6);replace T:=T.bw A6;replace nI:=zC ((zA nI).bw A6);replace C:=C.bw A6;replace ES:=zC ((zA ES).bw A6);replace j6:=zB j6 A6;clear A6;clear oF ES nI gj T C yj yi Br OM;have bA:=A.c0;have bC:=A.c1;have cw:=A.c2;have cQ:=A.c3;have cR:=A.c4;have fAl:=A.lt;have Qd:=J.c0;have Qe:=J.c1;have fJl:=J.lt;go_wp2_with fail;clear bA bC cw cQ cR fAl Qd Qe fJl;refine (zER (zA HE) _ k p q r s n2 d2 b).mono ?_;rintro z AE ⟨bt,L4,H4,e2,hrel,u,rfl,O6,P7,A6⟩;replace A:=A.bw A6;replace G:=G.bw A6;replace J:=J.bw A6;replace Y1:=zC ((zA Y1).bw A6);replace S:=S.bw A6;replace j6:=zB j6 A6;clear A6;have oD:=zC hrel;have yw:=zC P7;clear hrel O6 P7;obtain⟨EY,oL⟩:∃ V,V=AE.alloc (.cells u.q 31):=⟨_,rfl⟩
 have cJ:Below AE.heap.size AE EY:=by rw[oL];exact bl1 _ _
 have U:SpC EY AE.heap.size u:=by rw[oL];exact kO AE u _
 replace A:=A.bw cJ;replace G:=G.bw cJ;replace J:=J.bw cJ;replace Y1:=zC ((zA Y1).bw cJ);replace S:=S.bw cJ;replace yw:=zC ((zA yw).bw cJ);replace j6:=zB j6 cJ;clear cJ
 go_upto_region 11 with fail
 rw[<- oL];clear oL
 go_cut [96] (λ vz wx=>vz=.bool false/\Below EY.heap.size EY wx)
 case first =>
  have qf:=G.c0;have qg:=G.c1;have fGl:=G.lt;have Qd:=J.c0;have Qe:=J.c1;have fJl:=J.lt;have Qf:=S.c0;have Qg:=S.c1;have Qh:=S.c2;have Qi:=S.c3;have Qj:=S.c4;have fSl:=S.lt;have fU0:=U.c0;have fU1:=U.c1;have fU2:=U.c2;have fU3:=U.c3;have fU4:=U.c4;have fUl:=U.lt
  rcases zA oD with⟨h2,rfl,rfl,hv⟩|⟨h2,he,_⟩
  ·obtain⟨_,⟨t1,t2,t3,t4⟩,_⟩:=zID h2
   have eb:((b:Int)).toNat=b:=by omega
   rw[eb] at hv;obtain⟨m1,m2⟩:=prodBd a1 a2 t3 t4;obtain⟨m3,m4⟩:=prodBd t1 t2 a3 a4
   by_cases hle:n*d2<=n2*d
   ·have nx:=su_le (zA yz).v hv.v (lb_mono (zA HE) h0 d0 (by omega) hle)
    have cc:=zRL nx;clear nx hv eb h2 oD;go_wp2_with fail;refine (jP _ _ _ _ _ _ _ _ 250 250 L1 H4 _ (zA Y1).lo (zA yw).hi).mono ?_;rintro z w15 ⟨rfl,A6⟩;go_wp2_with fail;go_meet;exact⟨congrArg Value.bool (decide_eq_false (by omega)),A6⟩
   ·clear hv eb h2 oD
    go_wp2_with fail;go_meet;exact⟨rfl,Below.refl _ _⟩
  ·have h3:e2≠0:=by rw[he];exact h2
   have cb2:(e2 == 0)=false:=by simp[h3]
   clear h2 he oD;go_wp2_with fail;go_meet;exact⟨rfl,Below.refl _ _⟩
 case rest =>
 obtain⟨rfl,A6⟩:=hcut;replace A:=A.bw A6;replace G:=G.bw A6;replace J:=J.bw A6;replace Y1:=zC ((zA Y1).bw A6);replace S:=S.bw A6;replace yw:=zC ((zA yw).bw A6);replace U:=U.bw A6;replace j6:=zB j6 A6;clear A6 S U Y1 yw yz OO oD
 go_upto_region 13 with fail
 go_wp2_with fail;refine (zO2 m0 100 _ iz J5 (by omega) (by omega)).mono ?_
 rintro z w20 ⟨z0,rfl,K4,G1,A6⟩;replace A:=A.bw A6;replace G:=G.bw A6;replace J:=J.bw A6;replace j6:=zB j6 A6;clear A6;obtain⟨N,rfl⟩:∃ N:Nat,z0=(N:Int):=⟨z0.toNat,by omega⟩
 have bA:=A.c0;have bC:=A.c1;have cw:=A.c2;have cQ:=A.c3;have cR:=A.c4;have fAl:=A.lt
 go_upto_region 14 with fail
 go_wp2_with fail;clear bA bC cw cQ cR fAl
 by_cases hk6:k<6
 ·have c6:(6:Int)≠0:=by decide
  have HM:=zC (mas_kind (n:=(N:Int)) (b:=(b:Int)) h0 hk6);refine (mass_bad _ k p q r s (N:Int) b (by rw[zA HM];decide)).mono ?_
  rw[zA HM];rintro z mZ ⟨u5,rfl,O6,P7,A6⟩;replace A:=A.bw A6;replace G:=G.bw A6;replace J:=J.bw A6;replace j6:=zB j6 A6;clear A6 O6 P7;obtain⟨BA,bZ⟩:∃ V,V=mZ.alloc (.cells u5.q 31):=⟨_,rfl⟩;have Y6:Below mZ.heap.size mZ BA:=by rw[bZ];exact bl1 _ _
  have U5:SpC BA mZ.heap.size u5:=by rw[bZ];exact kO mZ u5 _
  replace A:=A.bw Y6;replace G:=G.bw Y6;replace J:=J.bw Y6;replace j6:=zB j6 Y6;clear Y6 U5
  go_upto_region 15 with fail
  rw[<- bZ];clear bZ;have bA:=A.c0;have bC:=A.c1;have cw:=A.c2;have cQ:=A.c3;have cR:=A.c4;have fAl:=A.lt;go_wp2_with fail;clear bA bC cw cQ cR fAl;exact bodyPost_ret (v:=.bool true) (by simp[results,Tryz.results3]) rfl ⟨rfl,j6⟩
 ·refine (zJ8 _ k p q r s N b h0 (by omega) (by omega) h5 h6).mono ?_
  rintro z mZ ⟨L5,H5,hv,v,rfl,O6,P7,A6⟩;replace A:=A.bw A6;replace G:=G.bw A6;replace J:=J.bw A6;replace j6:=zB j6 A6;have Bt:=zC hv;have cF:=zC P7;have TL:=zC O6;clear A6 hv O6 P7;obtain⟨BA,bZ⟩:∃ V,V=mZ.alloc (.cells v.q 31):=⟨_,rfl⟩;have Y6:Below mZ.heap.size mZ BA:=by rw[bZ];exact bl1 _ _
  have U5:SpC BA mZ.heap.size v:=by rw[bZ];exact kO mZ v _
  replace A:=A.bw Y6;replace G:=G.bw Y6;replace J:=J.bw Y6;replace cF:=zC ((zA cF).bw Y6);replace j6:=zB j6 Y6;clear Y6
  go_upto_region 17 with fail
  rw[<- bZ];clear bZ;have bA:=A.c0;have bC:=A.c1;have cw:=A.c2;have cQ:=A.c3;have cR:=A.c4;have fAl:=A.lt;go_wp2_with fail;clear bA bC cw cQ cR fAl;refine (zFM (zA HE) _ k p q r s ((N:Int)-1) 1 b (zSJ h0 ⟨by omega,by omega,by omega,by omega⟩ (by omega) (by omega))).mono ?_
  rintro z Ei ⟨L6,H6,hv,a,rfl,O6,P7,A6⟩;replace A:=A.bw A6;replace G:=G.bw A6;replace J:=J.bw A6;replace cF:=zC ((zA cF).bw A6);replace U5:=U5.bw A6;replace j6:=zB j6 A6;have Bq:=zC hv;have gQ:=zC P7;have TK:=zC O6;clear A6 hv O6 P7;obtain⟨Ps,oM⟩:∃ V,V=Ei.alloc (.cells a.q 31):=⟨_,rfl⟩;have cM:Below Ei.heap.size Ei Ps:=by rw[oM];exact bl1 _ _
  have U6:SpC Ps Ei.heap.size a:=by rw[oM];exact kO Ei a _
  replace A:=A.bw cM;replace G:=G.bw cM;replace J:=J.bw cM;replace cF:=zC ((zA cF).bw cM);replace U5:=U5.bw cM;replace gQ:=zC ((zA gQ).bw cM);replace j6:=zB j6 cM;clear cM
  go_upto_region 18 with fail
  rw[<- oM];clear oM;have bA:=A.c0;have bC:=A.c1;have cw:=A.c2;have cQ:=A.c3;have cR:=A.c4;have fAl:=A.lt;go_wp2_with fail;clear bA bC cw cQ cR fAl;refine (zFM (zA HE) _ k p q r s ((N:Int)) 1 b (zSJ h0 ⟨by omega,by omega,by omega,by omega⟩ (by omega) (by omega))).mono ?_
  rintro z Ej ⟨L7,H7,hv,bb,rfl,O6,P7,A6⟩;replace A:=A.bw A6;replace G:=G.bw A6;replace J:=J.bw A6;replace cF:=zC ((zA cF).bw A6);replace U5:=U5.bw A6;replace gQ:=zC ((zA gQ).bw A6);replace U6:=U6.bw A6;replace j6:=zB j6 A6;have Hj:=zC hv;have bx:=zC P7;have GA:=zC O6;clear A6 hv O6 P7;obtain⟨Pt,oN⟩:∃ V,V=Ej.alloc (.cells bb.q 31):=⟨_,rfl⟩;have aX:Below Ej.heap.size Ej Pt:=by rw[oN];exact bl1 _ _
  have U7:SpC Pt Ej.heap.size bb:=by rw[oN];exact kO Ej bb _
  replace A:=A.bw aX;replace G:=G.bw aX;replace J:=J.bw aX;replace cF:=zC ((zA cF).bw aX);replace U5:=U5.bw aX;replace gQ:=zC ((zA gQ).bw aX);replace U6:=U6.bw aX;replace bx:=zC ((zA bx).bw aX);replace j6:=zB j6 aX;clear aX
  go_upto_region 19 with fail
  rw[<- oN];clear oN;have IL:=U6.c0;have IM:=U6.c1;have IP:=U6.c2;have IQ:=U6.c3;have IV:=U6.c4;have IW:=U6.lt;have IF:=U5.c0;have IG:=U5.c1;have IH:=U5.c2;have II:=U5.c3;have IJ:=U5.c4;have IK:=U5.lt;go_wp2_with fail;clear IL IM IP IQ IV IW IF IG IH II IJ IK
  have OJ:Hid (Abs (zAR (L6,H6) (L5,H5)) (4*Q b)):=zC (by
   have a1:=(zA Bq).lo;have a2:=(zA Bq).hi;have a3:=(zA Bt).lo;have a4:=(zA Bt).hi;have a5:=(zA Bq).v.le;have a6:=(zA Bt).v.le
   exact⟨by show -(4*Q b)<=L6+L5;omega,by show L6+L5<=4*Q b;omega,by show -(4*Q b)<=H6+H5;omega,by show H6+H5<=4*Q b;omega⟩)
  have Hg:=zC (zE3 (a:=zAR (L6,H6) (L5,H5)) (c:=(L7,H7)) ((zA Bq).v.val.add (zA Bt).v.val) (Has.congr (zA Hj).v.val (Null.symm (lb_sum h0 (by omega) N))))
  have RX:=(zA Bq).v.le;have RW:=(zA Bt).v.le;refine (zHN _ a v b (L6,H6) (L5,H5) (zA gQ) (zA cF) (zA TK) (zA TL) (by omega) h6 RX RW (zA HQ) (zA OJ)).mono ?_
  rintro z Ek ⟨c8,rfl,O6,P7,A6⟩;replace A:=A.bw A6;replace G:=G.bw A6;replace J:=J.bw A6;replace cF:=zC ((zA cF).bw A6);replace U5:=U5.bw A6;replace gQ:=zC ((zA gQ).bw A6);replace U6:=U6.bw A6;replace bx:=zC ((zA bx).bw A6);replace U7:=U7.bw A6;replace j6:=zB j6 A6;have iZ:=zC P7;have sf:=zC O6;clear A6 O6 P7 RX RW OJ;obtain⟨Pv,oO⟩:∃ V,V=Ek.alloc (.cells c8.q 31):=⟨_,rfl⟩;have Y7:Below Ek.heap.size Ek Pv:=by rw[oO];exact bl1 _ _
  have U8:SpC Pv Ek.heap.size c8:=by rw[oO];exact kO Ek c8 _
  replace A:=A.bw Y7;replace G:=G.bw Y7;replace J:=J.bw Y7;replace cF:=zC ((zA cF).bw Y7);replace U5:=U5.bw Y7;replace gQ:=zC ((zA gQ).bw Y7);replace U6:=U6.bw Y7;replace bx:=zC ((zA bx).bw Y7);replace U7:=U7.bw Y7;replace iZ:=zC ((zA iZ).bw Y7);replace j6:=zB j6 Y7;clear Y7
  go_upto_region 20 with fail
  rw[<- oO];clear oO;have Jd:=U8.c0;have Je:=U8.c1;have Jf:=U8.c2;have Jg:=U8.c3;have Jh:=U8.c4;have Ji:=U8.lt;have IX:=U7.c0;have IY:=U7.c1;have IZ:=U7.c2;have Ja:=U7.c3;have Jb:=U7.c4;have Jc:=U7.lt;go_wp2_with fail;clear Jd Je Jf Jg Jh Ji IX IY IZ Ja Jb Jc;refine (zJ3 _ c8 bb 600 _ _ L7 H7 (zA iZ) ((zA bx).mono (by omega)) (by omega) (by have:=zA sf;omega) (by have:=zA sf;omega) (by have:=zA sf;have:=zA GA;omega)).mono ?_
  rintro z w25 ⟨rfl,A6⟩;rw[zA Hg];replace A:=A.bw A6;replace G:=G.bw A6;replace J:=J.bw A6;replace cF:=zC ((zA cF).bw A6);replace U5:=U5.bw A6;replace gQ:=zC ((zA gQ).bw A6);replace U6:=U6.bw A6;replace bx:=zC ((zA bx).bw A6);replace U7:=U7.bw A6;replace iZ:=zC ((zA iZ).bw A6);replace U8:=U8.bw A6;replace j6:=zB j6 A6;clear A6;go_wp2_with fail;exact bodyPost_ret (v:=.bool true) (by simp[results,Tryz.results3]) rfl ⟨rfl,j6⟩
theorem zGD (k p q r s n d n2 d2 m0 bt:Int) (w:World) (iz : -9223372036854775808<=m0) (J5:m0<=9223372036854775807) :
  Calls Tryz.prog 3 #[.agg #[.int .i64 k,.int .i64 p,.int .i64 q,.int .i64 r,.int .i64 s],.agg #[.int .i64 n,.int .i64 d],.agg #[.int .i64 n2,.int .i64 d2],.int .i64 m0,.int .i64 bt] w λ z w'=>z=.returned (.bool true)/\Below w.heap.size w w':=by
 by_cases h:lbE k p q r s n d bt=0
 ·obtain⟨b,rfl⟩:∃ b:Nat,bt=(b:Int):=⟨bt.toNat,by have:=(zID h).2.2.1;omega⟩
  exact zSI k p q r s n d n2 d2 m0 b w iz J5 h
 ·exact zPE k p q r s n d n2 d2 m0 bt w _ rfl h
open Go.ChangeShapes Go.WideShapes Go.ChangeAt Go.RowKit
theorem Tryz.own:ownKnob Tryz.prog.godebug=none:=by kernel_rfl
theorem Tryz.laidOut:laidOutB Tryz.prog=true:=by kernel_rfl
theorem Tryz.cellsI:Tryz.prog.cellsOf 3=1:=by kernel_rfl
end Go.Proofs.YtgmnknmjainabacGreat
