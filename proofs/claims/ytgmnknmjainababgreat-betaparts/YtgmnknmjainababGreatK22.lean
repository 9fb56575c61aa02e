/-
  Its own texts.
-/
import Derived.Deep.CutBlock
import Derived.Test.YtgmnknmjainababGreatK21
set_option maxRecDepth 100000
set_option maxHeartbeats 40000000
set_option linter.unnecessarySimpa false
set_option linter.unusedSimpArgs false
set_option linter.unusedVariables false
namespace Go.Proofs.YtgmnknmjainababGreat
open Go.RowKit
attribute [local go_sem ↓] Go.wp_at_zero Go.wp_at_succ
open Ex
theorem zK1 (w:World) (x y:Nm) (n d:Int) (b z:Nat) (hx:IntAt w x.neg x.a x.n x.cap 20 n) (hy:IntAt w y.neg y.a y.n y.cap 20 d) (h:zJ6 n d b z) {L:Rat->Nat->Rat} {g X:Nat->Rat} (hL:Lns L) (hg:IsGam L ((n:Rat)/(d:Rat)) g) (hX:IsLog X g) (hz:(z:Int)=2*(n/d)+2*(b:Int)+64) :
  Calls Tryz.prog 64 #[.agg x.q,.agg y.q,.int .i64 b] w (λ r w'=>∃ lo hi,Iv b (lo,hi) X/\Abs (lo,hi) (30000*Q b)/\zJ w b 70000 lo hi r w'):=by
 have BV:=zC (And.intro hL (And.intro hg hX));clear hL hg hX;obtain⟨W,hW⟩:∃ W,W=((w.alloc (.cells x.q 26)).alloc (.cells y.q 26)).alloc (.cells zCq 36):=⟨_,rfl⟩;have b8:Below w.heap.size w W:=by rw[hW];exact bl3 _ _ _ _
 have A:NmC W w.heap.size x:=by rw[hW];constructor<;>simp[go_sem]
 have D:NmC W (w.heap.size+1) y:=by rw[hW];constructor<;>simp[go_sem]
 have R:NoC W (w.heap.size+1+1):=by rw[hW];constructor<;>simp[go_sem]
 have HX:=zC (hx.bw b8);have HY:=zC (hy.bw b8);have b0:=h.b0;have b1:=h.b1;have z1:=h.x1;have d0:=h.d0;have H:=zC h;have hw0:0<=n/d:=Int.ediv_nonneg (by have:=h.n0;omega) (by omega)
 obtain⟨q,hq⟩:∃ q:Nat,n/d=(q:Int):=⟨(n/d).toNat,by omega⟩
 have HQ:=zC hq;rw[hq] at hz;have lA:=A.lt;have lD:=D.lt;have lR:=R.lt;have dR:=A.c0;have dS:=A.c1;have jh:=D.c0;have ji:=D.c1;clear h hx hy hq hw0
 go_enter Tryz.func64,Tryz.ntmps64
 go_wp2_with fail;rw[<- hW];clear hW dR dS jh ji;refine (yH _ _ _ _ _ _ _ _ 20 20 n d _ (zA HX) (zA HY) (by omega) d0).mono ?_
 rintro r w2 ⟨b6,a2,n2,c2,rfl,o0,b9⟩;rw[zA HQ] at o0;replace A:=A.bw b9;replace D:=D.bw b9;replace R:=R.bw b9;replace b8:=zB b8 b9;replace HX:=zC ((zA HX).bw b9);replace HY:=zC ((zA HY).bw b9);clear b9 lA lD lR;obtain⟨g,dg,dtop,dneg,dk,dz⟩:=o0
 have hV:V g n2=(q:Int):=by
  have hv:=zZ dg.dgs n2
  cases b6
  ·simp[sgn] at dz;omega
  ·simp[sgn] at dz;omega
 obtain⟨V2,S9⟩:∃ V2,V2=w2.alloc (.cells #[.bool b6,.slice a2 n2 c2] 26):=⟨_,rfl⟩;have Y8:Below w2.heap.size w2 V2:=by rw[S9];exact bl1 _ _
 have D2:NmC V2 w2.heap.size ⟨b6,a2,n2,c2⟩:=by rw[S9];exact zAK w2 ⟨b6,a2,n2,c2⟩ _
 have rL:=dg.bw Y8;have vW:=zC rL;replace A:=A.bw Y8;replace D:=D.bw Y8;replace R:=R.bw Y8;replace b8:=zB b8 Y8;replace HX:=zC ((zA HX).bw Y8);replace HY:=zC ((zA HY).bw Y8);have Y9:=zC dg.dgs;have hroom:=dg.room;have HV:=zC hV;have lA:=A.lt;have lD:=D.lt;have lR:=R.lt;have Pt:=D2.lt;have gY:=zC D2;have jw:=D2.c0;have vX:=D2.c1;clear dg rL dtop dneg dk dz hV Y8 D2;go_wp2_with fail;rw[<- S9];clear S9
 go_loop [8,9] (λ nn ii=>∃ j:Nat,nn=.int .i64 (Tp g j n2)/\ii=.int .i64 ((j:Int)-1)/\j<=n2) (λ _ ii=>(intOf ii+1).toNat)
 case atStart=>exact⟨n2,by rw[zE3],rfl,XW _⟩
 case round =>
  obtain⟨j,rfl,rfl,hj⟩:=hrel
  by_cases cV:0<j
  ·obtain⟨m,rfl⟩:∃ m,j=m+1:=⟨j-1,by omega⟩
   have em:(((m+1:Nat):Int)-1)=(m:Int):=by omega
   rw[em];obtain⟨bb,off,ha,E4,hcell⟩:=(zA vW).at_ (by omega)
   have hc:=hcell m (by omega)
   have T7:(m:Int)<(n2:Int):=by omega
   have t1:=zAT (zA Y9) (m+1) n2;have t2:=Tp_le (zA Y9) (m+1) n2 (by omega)
   have t3:=zA HV;obtain⟨g1,g2⟩:=zA Y9 m;have t4:=zCT g m n2 (by omega)
   have ED:=zC t4;have t5:Tp g (m+1) n2<=2000:=by omega
   subst ha;clear hcell em t2 t3 t4;go_wp2_with fail
   go_round
   case rel =>
    refine⟨m,?_,?_,by omega⟩
    ·rw[zA ED,Int.add_comm]
    ·rfl
   case measure=>simp[intOf]
  ·have jc:j=0:=by omega
   subst jc;rw[zCR,zA HV];have x0:=A.c0;have x1:=A.c1;have y0:=D.c0;have y1:=D.c1;have Wy:=A.lt;have lQ:=R.lt;clear jw vX hj cV;have aY:=zC (show IntKind.i64.wrap (2*(q:Int)+2*(b:Int)+64)=(z:Int) by rw[jL _ (by omega) (by omega)];omega)
   have kb:=zC (show IntKind.i64.wrap ((b:Int)+128)=((b+128:Nat):Int) by rw[jL _ (by omega) (by omega)];omega)
   go_wp2_with fail;clear x0 x1 y0 y1 aY kb;refine (zED ((b:Int)+128) (b:=b+128) (by omega) y x 20 20 d n _ (zA HY) (zA HX) (by omega) (by omega) (by omega) (zA H).n0).mono ?_
   rintro r w3 ⟨t3,rfl,Gh,pW,k8⟩;have yd:=zC Gh;clear Gh;replace A:=A.bw k8;replace D:=D.bw k8;replace R:=R.bw k8;replace b8:=zB b8 k8;replace HX:=zC ((zA HX).bw k8);replace HY:=zC ((zA HY).bw k8);clear k8 lA lD lR Pt Wy lQ gY vW Y9 hroom HV;have lR:=R.lt;have lA:=A.lt;have nA1:w.heap.size≠w3.heap.size:=by omega
   have nA2:w.heap.size≠w3.heap.size+1:=by omega
   have x0:=A.c0;have x1:=A.c1;obtain⟨V3,D3⟩:∃ V,V=((w3.alloc (.cells t3.q 36)).alloc (.cells t3.q 36)).alloc (.cells x.q 26):=⟨_,rfl⟩;have L8:Below w3.heap.size w3 V3:=by rw[D3];exact bl3 _ _ _ _
   have N9:LmW w V3 x y n d w3.heap.size (w3.heap.size+1) (w3.heap.size+1+1) t3 t3 x (b+128) 0 100 (lmS n d z (b+128) 0).T (lmS n d z (b+128) 0).U :=
    ⟨A.bw L8,D.bw L8,(zA HX).bw L8,(zA HY).bw L8,by rw[D3];exact⟨⟨by simp[go_sem],by simp[go_sem],by simp[go_sem],by simp[go_sem],by simp[go_sem]⟩,λ o=>by simp[go_sem]⟩,by rw[D3];exact⟨⟨by simp[go_sem],by simp[go_sem],by simp[go_sem],by simp[go_sem],by simp[go_sem]⟩,λ o=>by simp[go_sem]⟩,by rw[D3];exact⟨⟨by simp[go_sem],by simp[go_sem]⟩,λ o=>by simp[go_sem]⟩,zA yd,zA yd,(pW.bw L8).mono (by omega),(pW.bw L8).mono (by omega),by rw[show n+((0:Nat):Int)*d=n by omega];exact (zA HX).bw L8,R.bw L8,zB b8 L8,lR,by omega,by omega,by omega,by omega,by omega⟩
   go_upto_block 2 with fail
   rw[<- D3];clear lA nA1 nA2 D3 L8 yd pW x0 x1 A D R b8 HX HY;obtain⟨BT,hBT⟩:∃ B,B=w3.heap.size:=⟨_,rfl⟩;obtain⟨BU,hBU⟩:∃ B',B'=w3.heap.size+1:=⟨_,rfl⟩;obtain⟨BA,hBA⟩:∃ B',B'=w3.heap.size+1+1:=⟨_,rfl⟩;rw[<- hBA,<- hBU,<- hBT] at N9 ⊢;clear hBT hBU hBA lR;obtain⟨K,Lo,Z4,fC,rR⟩:=lm_ends (m:=b+128) (zA H) rfl;have Pv:=zC fC;have HK4:=zC rR;clear fC rR
   go_cut [15,16] (λ ss kk wx=>∃ (T U:Sp) (A:Nm),ss=.int .i64 (64*((lmS n d z (b+128) K).e:Int))/\LmW w wx x y n d BT BU BA T U A (b+128) K 100 (lmS n d z (b+128) K).T (lmS n d z (b+128) K).U)
   case first =>
    go_wp2_with fail
    go_loopw [15,16] (λ ss kk wr=>∃ (k:Nat) (T U:Sp) (A:Nm),ss=.int .i64 (64*((lmS n d z (b+128) k).e:Int))/\kk=.int .i64 ((k:Int)+1)/\k<K/\LmW w wr x y n d BT BU BA T U A (b+128) k 100 (lmS n d z (b+128) k).T (lmS n d z (b+128) k).U) (λ _ kk _=>K-(intOf kk-1).toNat)
    case atStart=>exact⟨0,t3,t3,x,by simp[lmS],rfl,by omega,N9⟩
    case round =>
     obtain⟨k,T,U,A,rfl,rfl,hk,st⟩:=hrel;clear N9;have HS:=zC st;have he:=lm_e n d z (b+128) k;have S7:(k:Int)+1<16*(2*(q:Int)+2*(b:Int)+64):=by omega
     obtain⟨⟨g0,g1⟩,gf⟩:=st.at_;have lA:=st.at_.lt;have lY:=st.y.lt;have h0:=st.y.c0;have h1:=st.y.c1;clear st;go_wp2_with fail;refine (kX _ _ _ _ _ _ _ _ (k+20) 20 (n+(k:Int)*d) d _ (zA HS).ap (zA HS).iy (by omega) (by omega)).mono ?_
     rintro r' w5 ⟨G9,a5,n5,c5,rfl,O0,A7⟩;rw[lm_at] at O0;have s1:=((zA HS).bw A7).putA (A':=⟨G9,a5,n5,c5⟩) (O0.mono (by omega))
     have z5:=(zA HS).at_.bw A7;have lz5:=z5.lt;obtain⟨⟨g0',g1'⟩,gf'⟩:=z5;clear O0 A7 g0 g1 gf h0 h1 HS lA lY;obtain⟨V1,M4⟩:∃ V,V=zAX w5 BA ⟨G9,a5,n5,c5⟩:=⟨_,rfl⟩;rw[<- M4] at s1;unfold zAX at M4;have S0:=zC s1;have Pw:=zC (lm_pos (zA H) (k+1));clear s1;go_wp2_with fail;rw[<- M4];clear M4 g0' g1' gf' lz5;have oG:Below V1.heap.size V1 V1.drew:=(Below.refl _ _).drew;have nC:=zC (show ∀ w',Below V1.heap.size V1 w'->(cK w' BT T (nK w' ((w.heap.size+1)) y (w'.cell? ⟨BA,0,none⟩=some (.bool G9)/\w'.cell? ⟨BA,1,none⟩=some (.slice a5 n5 c5)))) from λ w' hB=>⟨((zA S0).t.bw hB).c.c0,((zA S0).t.bw hB).c.c1,((zA S0).t.bw hB).c.c2,((zA S0).t.bw hB).c.c3,((zA S0).t.bw hB).c.c4,((zA S0).y.bw hB).c0,((zA S0).y.bw hB).c1,((zA S0).at_.bw hB).c.c0,((zA S0).at_.bw hB).c.c1⟩)
     refine AnyL.start (S:=λ w'=>cK w' BT T (nK w' ((w.heap.size+1)) y (w'.cell? ⟨BA,0,none⟩=some (.bool G9)/\w'.cell? ⟨BA,1,none⟩=some (.slice a5 n5 c5)))) (l:=7) (by kernel_rfl) (zA nC _ oG) (λ hHeld=>?_)
     refine AnyL.take (i:=0) (oi:={ dst:=some 63,op:=Go.Op.load 36 (Go.Operand.tmp 12),type:=36,pos := "func.go:198",after:=#[],guard:=none }) (v:=.agg T.q) rfl (by kernel_rfl) (by kernel_rfl) (by kernel_rfl) (by kernel_rfl) (λ _ _ _ h=>h) (Or.inl ⟨by rfl,λ w hSw=>?_⟩) hHeld ?_
     ·obtain⟨s0,s1,s2,s3,s4,s5,s6,s7,s8⟩:=hSw;go_simp
     try simp only[Act.put,XH,XI,XJ]
     refine AnyL.take (i:=1) (oi:={ dst:=some 64,op:=Go.Op.move (Go.Operand.tmp 10),type:=3,pos := "func.go:198",after:=#[],guard:=none }) (v:=.int .i64 (2*(q:Int)+2*(b:Int)+64)) rfl (by kernel_rfl) (by kernel_rfl) (by kernel_rfl) (by kernel_rfl) (λ _ _ _ h=>h) (Or.inl ⟨by rfl,λ w hSw=>?_⟩) hHeld ?_
     ·obtain⟨s0,s1,s2,s3,s4,s5,s6,s7,s8⟩:=hSw;go_simp
     try simp only[Act.put,XH,XI,XJ]
     refine AnyL.take (i:=3) (oi:={ dst:=some 66,op:=Go.Op.load 26 (Go.Operand.tmp 4),type:=26,pos := "func.go:198",after:=#[],guard:=none }) (v:=.agg y.q) rfl (by kernel_rfl) (by kernel_rfl) (by kernel_rfl) (by kernel_rfl) (λ _ _ _ h=>h) (Or.inl ⟨by rfl,λ w hSw=>?_⟩) hHeld ?_
     ·obtain⟨s0,s1,s2,s3,s4,s5,s6,s7,s8⟩:=hSw;go_simp
     try simp only[Act.put,XH,XI,XJ]
     refine AnyL.take (i:=5) (oi:={ dst:=some 68,op:=Go.Op.load 26 (Go.Operand.tmp 14),type:=26,pos := "func.go:198",after:=#[],guard:=none }) (v:=.agg #[.bool G9,.slice a5 n5 c5]) rfl (by kernel_rfl) (by kernel_rfl) (by kernel_rfl) (by kernel_rfl) (λ _ _ _ h=>h) (Or.inl ⟨by rfl,λ w hSw=>?_⟩) hHeld ?_
     ·obtain⟨s0,s1,s2,s3,s4,s5,s6,s7,s8⟩:=hSw;go_simp
     try simp only[Act.put,XH,XI,XJ]
     refine AnyL.one (i:=2) (o:={ dst:=some 65,op:=Go.Op.call { callee:=Go.Callee.value (Go.Operand.func 43),args:=#[Go.Operand.tmp 64],argTypes:=#[3] },type:=26,pos := "func.go:198",after:=#[{ on:=1,ground:=Go.Ground.data }],guard:=none }) (by kernel_rfl) rfl (λ Kc A0=>?_)
     go_simp
     refine (zD (2*(q:Int)+2*(b:Int)+64) _ (by omega) (by omega)).mono ?_
     rintro r' w6 ⟨D4,a6,n6,c6,rfl,L9,G3⟩;have Gi:=zB oG G3;clear G3;go_wp2_with fail;refine A0.out _ _ (zA nC _ Gi) (λ hHeld=>?_)
     clear A0 Kc
     try simp only[Act.put,XH,XI,XJ]
     refine AnyL.one (i:=4) (o:={ dst:=some 67,op:=Go.Op.call { callee:=Go.Callee.value (Go.Operand.func 66),args:=#[Go.Operand.tmp 65,Go.Operand.tmp 66],argTypes:=#[26,26] },type:=26,pos := "func.go:198",after:=#[{ on:=2,ground:=Go.Ground.data },{ on:=3,ground:=Go.Ground.data },{ on:=2,ground:=Go.Ground.chain }],guard:=none }) (by kernel_rfl) rfl (λ Kc A0=>?_)
     go_simp
     refine (zW _ _ _ _ _ _ _ _ 4 20 (2*(q:Int)+2*(b:Int)+64) d _ L9 ((zA S0).iy.bw Gi) (by omega) (by omega)).mono ?_
     rintro r' w7 ⟨P1,a7,n7,c7,rfl,O1,I8⟩;have Gj:=zB Gi I8;clear I8 L9;go_wp2_with fail;refine A0.out _ _ (zA nC _ Gj) (λ hHeld=>?_)
     clear A0 Kc
     try simp only[Act.put,XH,XI,XJ]
     refine AnyL.one (i:=6) (o:={ dst:=some 69,op:=Go.Op.call { callee:=Go.Callee.value (Go.Operand.func 56),args:=#[Go.Operand.tmp 63,Go.Operand.tmp 67,Go.Operand.tmp 68],argTypes:=#[36,26,26] },type:=36,pos := "func.go:198",after:=#[{ on:=0,ground:=Go.Ground.data },{ on:=4,ground:=Go.Ground.data },{ on:=5,ground:=Go.Ground.data },{ on:=4,ground:=Go.Ground.chain }],guard:=none }) (by kernel_rfl) rfl (λ Kc A0=>?_)
     go_simp
     refine (zGG _ T ⟨P1,a7,n7,c7⟩ ⟨G9,a5,n5,c5⟩ 100 24 (k+1+20) (b+128) (lmS n d z (b+128) k).T ((2*(q:Int)+2*(b:Int)+64)*d) (n+((k+1:Nat):Int)*d) ((zA S0).tp.bw Gj) O1 ((zA S0).ap.bw Gj) (by omega) (by omega) (by omega) (zA Pw) (zA S0).tb).mono ?_
     rintro r' w8 ⟨t8,rfl,Gk,Px,Q7⟩;have JK:=zB Gj Q7;have Gl:=zC Gk;clear Q7 O1 Gk;go_wp2_with fail;refine A0.out _ _ (zA nC _ JK) (λ hHeld=>?_)
     clear A0 Kc
     try simp only[Act.put,XH,XI,XJ]
     have VT:=(zA S0).t.bw JK;have lT:=VT.lt;obtain⟨⟨z0,z1,z2,z3,z4⟩,zf⟩:=VT;refine AnyL.last (o:={ dst:=none,op:=Go.Op.store 36 (Go.Operand.tmp 12) (Go.Operand.tmp 69),type:=0,pos := "func.go:198",after:=#[{ on:=6,ground:=Go.Ground.data },{ on:=6,ground:=Go.Ground.chain },{ on:=0,ground:=Go.Ground.phase },{ on:=1,ground:=Go.Ground.phase },{ on:=2,ground:=Go.Ground.phase },{ on:=3,ground:=Go.Ground.phase },{ on:=4,ground:=Go.Ground.phase },{ on:=5,ground:=Go.Ground.phase },{ on:=6,ground:=Go.Ground.phase }],guard:=none }) (by kernel_rfl) rfl (by kernel_rfl) (λ Kc A0=>?_)
     go_simp
     refine A0.out _ _ ?_;clear A0 Kc z0 z1 z2 z3 z4 zf nC;have Py:=zEM (m:=b+128) (zA H) rfl k (by omega)
     have mid:=lm_mid (zA H) rfl Py;rw[lm_by (zA H) Py (by omega)] at Px
     obtain⟨f1,f2,f3,f4⟩:=lm_fit mid (by omega)
     have s2:=((zA S0).bw JK).putT (T':=t8) (zA Gl) (Px.fits mid.tl f3 f1);obtain⟨V2x,pY⟩:∃ V,V=zQ w8 BT t8:=⟨_,rfl⟩;rw[<- pY] at s2;unfold zQ at pY;rw[<- pY];have dW:=zC mid;have P7:=zC (And.intro f1 (And.intro f2 (And.intro f3 f4)));have cm:=zC s2;obtain⟨⟨u0,u1,u2,u3,u4⟩,uf⟩:=s2.u;obtain⟨⟨v0,v1,v2,v3,v4⟩,vf⟩:=s2.t;have lU:=s2.u.lt;have lT2:=s2.t.lt;clear pY Px JK Gl oG Gi Gj S0 Py mid f1 f2 f3 f4 s2 lT
     go_upto_region 18 with fail
     go_cut [] (λ wx=>∃ U':Sp,LmW w wx x y n d BT BU BA t8 U' ⟨G9,a5,n5,c5⟩ (b+128) (k+1) 100 (lmT n d z k (lmS n d z (b+128) k).T) (jJ (lmS n d z (b+128) k).U (lmT n d z k (lmS n d z (b+128) k).T)))
     case first =>
      go_wp2_with fail;refine (yY _ U t8 100 (b+128) (lmS n d z (b+128) k).U (lmT n d z k (lmS n d z (b+128) k).T) (zA cm).up (zA cm).tp (by omega) (zA cm).ub).mono ?_
      rintro r' w9 ⟨u9,rfl,Gm,hp9,cn⟩;have z9:=(zA cm).u.bw cn;have lz9:=z9.lt;have s3:=((zA cm).bw cn).putU (U':=u9) Gm (hp9.fits (zA dW).ul (zA P7).2.2.2 (zA P7).2.1);unfold zQ at s3;have kh:=zC s3;clear u0 u1 u2 u3 u4 uf v0 v1 v2 v3 v4 vf lU lT2 s3 hp9 cn Gm;obtain⟨⟨u0,u1,u2,u3,u4⟩,uf⟩:=z9;go_wp2_with fail;go_meet;exact⟨u9,zA kh⟩
     case rest =>
     obtain⟨U2,JL⟩:=hcut;have kh:=zC JL;obtain⟨V3x,Pm⟩:∃ V,V=wc:=⟨_,rfl⟩;subst Pm;clear u0 u1 u2 u3 u4 uf v0 v1 v2 v3 v4 vf lU lT2 cm;have lU:=JL.u.lt;obtain⟨⟨u0,u1,u2,u3,u4⟩,uf⟩:=JL.u;clear JL;have Gi:IntKind.i64.wrap ((b:Int)+128+128)=(b:Int)+128+128:=jL _ (by omega) (by omega)
     go_wp2_with fail;refine (zB2 _ _ _ _ 100 (jJ (lmS n d z (b+128) k).U (lmT n d z k (lmS n d z (b+128) k).T)).2 _ (zA kh).up.hi (by have:=(zA dW).u1;have:=(zA dW).ul;omega)).mono ?_
     rintro r' oB ⟨l,hl,rfl,P6⟩;have s4:=(zA kh).bw P6;have Q2:=zC s4;have hlen:=lm_len (m:=b+128) hl (by have:=(zA dW).u1;have:=(zA dW).ul;omega)
     clear u0 u1 u2 u3 u4 uf lU kh P6
     go_upto_if 78 with fail
     go_cut [15] (λ ss wx=>∃ T' U':Sp,ss=.int .i64 (64*((lmS n d z (b+128) (k+1)).e:Int))/\LmW w wx x y n d BT BU BA T' U' ⟨G9,a5,n5,c5⟩ (b+128) (k+1) 100 (lmS n d z (b+128) (k+1)).T (lmS n d z (b+128) (k+1)).U)
     case first =>
      by_cases hg:Q (b+128+128)<=(jJ (lmS n d z (b+128) k).U (lmT n d z k (lmS n d z (b+128) k).T)).2
      ·have O5:(b:Int)+128+128<l:=by have:=hlen.2 hg;omega
       have HG:=zC hg;clear hlen hg hl s4;go_wp2_with fail;have JM:Below oB.heap.size oB oB.drew:=(Below.refl _ _).drew;have bI:=zC (show ∀ w',Below oB.heap.size oB w'->((cK0 w' BT t8)/\(cK0 w' BU U2)) from λ w' hB=>⟨⟨((zA Q2).t.bw hB).c.c0,((zA Q2).t.bw hB).c.c1,((zA Q2).t.bw hB).c.c2,((zA Q2).t.bw hB).c.c3,((zA Q2).t.bw hB).c.c4⟩,⟨((zA Q2).u.bw hB).c.c0,((zA Q2).u.bw hB).c.c1,((zA Q2).u.bw hB).c.c2,((zA Q2).u.bw hB).c.c3,((zA Q2).u.bw hB).c.c4⟩⟩)
       refine AnyS.start (S:=λ j w'=>(j=2\/j=4\/j=5\/(w'.cell? ⟨BT,0,none⟩=some (.bool t8.ln)/\w'.cell? ⟨BT,1,none⟩=some (.slice t8.la t8.lN t8.lc)/\w'.cell? ⟨BT,2,none⟩=some (.bool t8.hn)/\w'.cell? ⟨BT,3,none⟩=some (.slice t8.ha t8.hN t8.hc)/\w'.cell? ⟨BT,4,none⟩=some (.int .i64 t8.bits)))/\(j=5\/(w'.cell? ⟨BU,0,none⟩=some (.bool U2.ln)/\w'.cell? ⟨BU,1,none⟩=some (.slice U2.la U2.lN U2.lc)/\w'.cell? ⟨BU,2,none⟩=some (.bool U2.hn)/\w'.cell? ⟨BU,3,none⟩=some (.slice U2.ha U2.hN U2.hc)/\w'.cell? ⟨BU,4,none⟩=some (.int .i64 U2.bits)))) (by kernel_rfl) ?_
       refine AnyS.take (i:=2) (oi:={ dst:=some 81,op:=Go.Op.load 36 (Go.Operand.tmp 13),type:=36,pos := "func.go:201",after:=#[],guard:=none }) (v:=.agg U2.q) (T:=λ w'=>cK0 w' BU U2) rfl (by kernel_rfl) (by kernel_rfl) (by kernel_rfl) (λ _ _ _ h=>h) 5 1 (λ j hl hj w h=>h.2.elim (λ e=>absurd e (by omega)) id) (by kernel_rfl) (λ w h=>⟨Or.inl rfl,Or.inr h⟩) (Or.inl ⟨by rfl,λ w hSw=>?_⟩) (zA bI _ JM).2 ?_
       ·obtain⟨s0,s1,s2,s3,s4⟩:=hSw;go_simp
       try simp only[Act.put,XH,XI,XJ]
       refine AnyS.take (i:=0) (oi:={ dst:=some 79,op:=Go.Op.load 36 (Go.Operand.tmp 12),type:=36,pos := "func.go:201",after:=#[],guard:=none }) (v:=.agg t8.q) (T:=λ w'=>(cK0 w' BT t8)/\(cK0 w' BU U2)) rfl (by kernel_rfl) (by kernel_rfl) (by kernel_rfl) (λ _ _ _ h=>h) 4 2 (λ j hl hj w h=>⟨h.1.elim (λ e=>absurd hl (by rw[e];decide)) (λ h=>h.elim (λ e=>absurd e (by omega)) (λ h=>h.elim (λ e=>absurd e (by omega)) id)),h.2.elim (λ e=>absurd e (by omega)) id⟩) (by kernel_rfl) (λ w h=>⟨Or.inr (Or.inr (Or.inr h.1)),Or.inr h.2⟩) (Or.inl ⟨by rfl,λ w hSw=>?_⟩) (zA bI _ JM) ?_
       ·obtain⟨⟨s0,s1,s2,s3,s4⟩,s5⟩:=hSw;go_simp
       try simp only[Act.put,XH,XI,XJ]
       refine AnyS.one (i:=1) (o:={ dst:=some 80,op:=Go.Op.call { callee:=Go.Callee.value (Go.Operand.func 121),args:=#[Go.Operand.tmp 79,Go.Operand.const (Go.Value.int Go.IntKind.i64 64)],argTypes:=#[36,3] },type:=36,pos := "func.go:201",after:=#[{ on:=0,ground:=Go.Ground.data }],guard:=none }) (by kernel_rfl) rfl (λ Kc A0=>?_)
       go_simp
       refine (zJC _ t8 100 (b+128) (lmT n d z k (lmS n d z (b+128) k).T) ((zA Q2).tp.bw JM) (zA dW).tl (by omega) (zA Q2).tb).mono ?_
       rintro r' Bc ⟨t11,rfl,sJ,pZ,P2⟩;have JN:=zB JM P2;have Gn:=zC sJ;clear P2 sJ;go_wp2_with fail;refine A0.out _ _ ⟨Or.inr (Or.inr (Or.inr (zA bI _ JN).1)),Or.inr (zA bI _ JN).2⟩ (λ _=>?_)
       clear A0 Kc
       try simp only[Act.put,XH,XI,XJ]
       refine AnyS.one (i:=3) (o:={ dst:=some 82,op:=Go.Op.call { callee:=Go.Callee.value (Go.Operand.func 121),args:=#[Go.Operand.tmp 81,Go.Operand.const (Go.Value.int Go.IntKind.i64 64)],argTypes:=#[36,3] },type:=36,pos := "func.go:201",after:=#[{ on:=2,ground:=Go.Ground.data },{ on:=1,ground:=Go.Ground.chain }],guard:=none }) (by kernel_rfl) rfl (λ Kc A0=>?_)
       go_simp
       refine (zJC _ U2 100 (b+128) (jJ (lmS n d z (b+128) k).U (lmT n d z k (lmS n d z (b+128) k).T)) ((zA Q2).up.bw JN) (zA dW).ul (by omega) (zA Q2).ub).mono ?_
       rintro r' BJ ⟨u12,rfl,sL,Gp,T4⟩;have Gq:=zB JN T4;replace pZ:=pZ.bw T4;have Gr:=zC sL;clear T4 sL;go_wp2_with fail;refine A0.out _ _ ⟨Or.inr (Or.inr (Or.inr (zA bI _ Gq).1)),Or.inr (zA bI _ Gq).2⟩ (λ _=>?_)
       clear A0 Kc
       try simp only[Act.put,XH,XI,XJ]
       have VT:=(zA Q2).t.bw Gq;have VU:=(zA Q2).u.bw Gq;have lT:=VT.lt;have lU:=VU.lt;have sM:VrC (zQ BJ BT t11) BU U2:=VU.off (Ne.symm (zA Q2).n1) _;unfold zQ at sM;obtain⟨⟨z0,z1,z2,z3,z4⟩,zf⟩:=VT;refine AnyS.one (i:=4) (o:={ dst:=none,op:=Go.Op.store 36 (Go.Operand.tmp 12) (Go.Operand.tmp 80),type:=0,pos := "func.go:201",after:=#[{ on:=1,ground:=Go.Ground.data },{ on:=3,ground:=Go.Ground.chain },{ on:=0,ground:=Go.Ground.phase },{ on:=1,ground:=Go.Ground.phase },{ on:=2,ground:=Go.Ground.textOnly Go.Departure.lateStores },{ on:=3,ground:=Go.Ground.textOnly Go.Departure.lateStoresUnsure }],guard:=none }) (by kernel_rfl) rfl (λ Kc A0=>?_)
       go_simp
       refine A0.out _ _ ⟨Or.inr (Or.inl rfl),Or.inr ⟨sM.c.c0,sM.c.c1,sM.c.c2,sM.c.c3,sM.c.c4⟩⟩ (λ _=>?_)
       clear A0 Kc z0 z1 z2 z3 z4 zf
       try simp only[Act.put,XH,XI,XJ]
       have lU2:=sM.lt;obtain⟨⟨z0,z1,z2,z3,z4⟩,zf⟩:=sM;refine AnyS.last (o:={ dst:=none,op:=Go.Op.store 36 (Go.Operand.tmp 13) (Go.Operand.tmp 82),type:=0,pos := "func.go:201",after:=#[{ on:=3,ground:=Go.Ground.data },{ on:=4,ground:=Go.Ground.chain },{ on:=0,ground:=Go.Ground.phase },{ on:=1,ground:=Go.Ground.phase },{ on:=2,ground:=Go.Ground.phase },{ on:=3,ground:=Go.Ground.phase },{ on:=4,ground:=Go.Ground.phase }],guard:=none }) (by kernel_rfl) rfl (by kernel_rfl) (λ _=>⟨Or.inr (Or.inr (Or.inl rfl)),Or.inl rfl⟩) (λ Kc A0=>?_)
       go_simp
       refine A0.out _ _ ?_;clear A0 Kc z0 z1 z2 z3 z4 zf VU bI;have eN:=lm_great (zA HG);have sN:=zEM (m:=b+128) (zA H) rfl (k+1) (by omega)
       rw[eN] at sN;obtain⟨f1,f2,f3,f4⟩:=zMX sN (by omega)
       have s5:=((zA Q2).bw Gq).putB (T':=t11) (U':=u12) (zA Gn) (pZ.fits sN.tl f3 f1) (zA Gr) (Gp.fits sN.ul f4 f2);unfold zQ at s5;have Z6:=zC s5;have EN:=zC eN;clear s5 eN sN f1 f2 f3 f4 pZ Gp;go_wp2_with fail;go_meet;rw[zA EN];exact⟨t11,u12,congrArg _ (by show 64*((lmS n d z (b+128) k).e:Int)+64=64*(((lmS n d z (b+128) k).e+1:Nat):Int);omega),zA Z6⟩
      ·have O5:¬ (b:Int)+128+128<l:=λ h=>hg (hlen.1 (by omega))
       have EN:=zC (zP5 hg);clear hlen hg hl s4;go_wp2_with fail;go_meet;rw[zA EN];exact⟨t8,U2,rfl,zA Q2⟩
     case rest =>
     obtain⟨T3,U3,rfl,JO⟩:=hcut;have Z6:=zC JO;obtain⟨V5x,h5x⟩:∃ V,V=wc:=⟨_,rfl⟩;subst h5x;have he1:=lm_e n d z (b+128) (k+1);have lT:=JO.t.lt;obtain⟨⟨t0,t1,t2,t3,t4⟩,tf⟩:=JO.t;have sN:=zEM (m:=b+128) (zA H) rfl (k+1) (by omega)
     have dX:=zC sN;clear dW P7 JO sN Q2 hlen hl s4
     by_cases Pz:k+1=K
     ·have g1:2*(2*(q:Int)+2*(b:Int)+64)<(k:Int)+1:=by omega
      go_wp2_with fail;refine (zDR _ T3 100 1 (lmS n d z (b+128) (k+1)).T.1 (lmS n d z (b+128) (k+1)).T.2 (zA Z6).tp (by decide) (by decide)).mono ?_
      rintro r' Jg ⟨rfl,bC⟩
      have sb:zA6 (lmS n d z (b+128) (k+1)).T.1 (lmS n d z (b+128) (k+1)).T.2 1=true:=by
       have h3:=zA Pv;rw[<- Pz] at h3;have h4:=(zA dX).t0;unfold zA6;simp only[Bool.and_eq_true,decide_eq_true_eq];exact⟨h3,by omega⟩
      rw[sb];have ib:=zC ((zA Z6).bw bC);clear t0 t1 t2 t3 t4 tf lT bC dX sb;go_wp2_with fail;go_meet;exact⟨T3,U3,⟨G9,a5,n5,c5⟩,by first|rfl|rw[Pz],by rw[<- Pz];exact zA ib⟩
     ·by_cases g1:2*(2*(q:Int)+2*(b:Int)+64)<(k:Int)+1
      ·go_wp2_with fail
       refine (zDR _ T3 100 1 (lmS n d z (b+128) (k+1)).T.1 (lmS n d z (b+128) (k+1)).T.2 (zA Z6).tp (by decide) (by decide)).mono ?_
       rintro r' Jg ⟨rfl,bC⟩
       have sb:zA6 (lmS n d z (b+128) (k+1)).T.1 (lmS n d z (b+128) (k+1)).T.2 1=false:=by
        have h3:=zA HK4 (k+1) (by omega) (by omega)
        unfold zA6;rw[decide_eq_false (by omega)]
        rfl
       rw[sb];have ib:=zC ((zA Z6).bw bC);clear t0 t1 t2 t3 t4 tf lT bC dX sb;go_wp2_with fail
       go_roundw
       case rel=>exact⟨k+1,T3,U3,⟨G9,a5,n5,c5⟩,rfl,congrArg _ (by omega),by omega,zA ib⟩
       case measure=>simp[intOf];omega
      ·go_wp2_with fail
       go_roundw
       case rel=>exact⟨k+1,T3,U3,⟨G9,a5,n5,c5⟩,rfl,congrArg _ (by omega),by omega,zA Z6⟩
       case measure=>simp[intOf];omega
   case rest =>
    obtain⟨T,U,A,rfl,st⟩:=hcut;have ok:=zEM (m:=b+128) (zA H) rfl K (by omega)
    obtain⟨f1,f2,f3,f4⟩:=zMX ok (by omega)
    have he:=lm_e n d z (b+128) K;have dX:=zC ok;have hs:=st.ln;have HS:=zC hs;have lU:=hs.u.lt;obtain⟨⟨u0,PA,u2,u3,u4⟩,uf⟩:=hs.u;clear st ok hs N9
    go_upto_region 23 with fail
    go_cut [] (λ wx=>∃ u1:Sp,LnW w wx x y n d BU u1 (b+128) 101 ((lmS n d z (b+128) K).U.1-2,(lmS n d z (b+128) K).U.2+2))
    case first =>
     go_wp2_with fail;refine (zF6 _ U 100 2 (lmS n d z (b+128) K).U.1 (lmS n d z (b+128) K).U.2 (zA HS).up (by omega) (by omega) (by decide) (by decide)).mono ?_
     rintro r' w1 ⟨u1,rfl,cx,en,b7⟩;have z1:=(zA HS).u.bw b7;have Ji:=z1.lt;have s1:=((zA HS).bw b7).putU (U':=u1) (K':=101) (c':=((lmS n d z (b+128) K).U.1-2,(lmS n d z (b+128) K).U.2+2)) (cx.trans (zA HS).ub) en;unfold zQ at s1;have S0:=zC s1;clear u0 PA u2 u3 u4 uf lU s1 en b7 cx;obtain⟨⟨u0,PA,u2,u3,u4⟩,uf⟩:=z1;go_wp2_with fail;go_meet;exact⟨u1,zA S0⟩
    case rest =>
    obtain⟨u1,hS1⟩:=hcut;have S0:=zC hS1;obtain⟨V1,h1x⟩:∃ V,V=wc:=⟨_,rfl⟩;subst h1x;clear u0 PA u2 u3 u4 uf lU HS hS1;go_wp2_with fail;have m8:Below V1.heap.size V1 V1.drew:=(Below.refl _ _).drew;have jk:=zC (show ∀ w',Below V1.heap.size V1 w'->(w'.cell? ⟨BU,2,none⟩=some (.bool u1.hn)/\w'.cell? ⟨BU,3,none⟩=some (.slice u1.ha u1.hN u1.hc)) from λ w' hB=>⟨((zA S0).u.bw hB).c.c2,((zA S0).u.bw hB).c.c3⟩)
    have Gs:=zC (show IntKind.i64.wrap ((b:Int)+128+1)=(b:Int)+128+1 from jL _ (by omega) (by omega))
    refine AnyL.start (S:=λ w'=>w'.cell? ⟨BU,2,none⟩=some (.bool u1.hn)/\w'.cell? ⟨BU,3,none⟩=some (.slice u1.ha u1.hN u1.hc)) (l:=10) (by kernel_rfl) (zA jk _ m8) (λ hHeld=>?_)
    refine AnyL.take (i:=0) (oi:={ dst:=some 95,op:=Go.Op.fieldAddr 36 (Go.Operand.tmp 13) 1,type:=0,pos := "func.go:210",after:=#[],guard:=none }) (v:=.pointer (some ⟨BU,2,none⟩)) rfl (by kernel_rfl) (by kernel_rfl) (by kernel_rfl) (by kernel_rfl) (λ _ _ _ h=>h) (Or.inl ⟨by rfl,λ w hSw=>?_⟩) hHeld ?_
    ·obtain⟨s0,s1⟩:=hSw;go_simp
    try simp only[Act.put,XH,XI,XJ]
    refine AnyL.take (i:=1) (oi:={ dst:=some 96,op:=Go.Op.load 26 (Go.Operand.tmp 95),type:=26,pos := "func.go:210",after:=#[{ on:=0,ground:=Go.Ground.data }],guard:=none }) (v:=.agg #[.bool u1.hn,.slice u1.ha u1.hN u1.hc]) rfl (by kernel_rfl) (by kernel_rfl) (by kernel_rfl) (by kernel_rfl) (λ _ _ _ h=>h) (Or.inl ⟨by rfl,λ w hSw=>?_⟩) hHeld ?_
    ·obtain⟨s0,s1⟩:=hSw;go_simp
    try simp only[Act.put,XH,XI,XJ]
    refine AnyL.take (i:=2) (oi:={ dst:=some 97,op:=Go.Op.move (Go.Operand.tmp 11),type:=3,pos := "func.go:210",after:=#[],guard:=none }) (v:=.int .i64 ((b:Int)+128)) rfl (by kernel_rfl) (by kernel_rfl) (by kernel_rfl) (by kernel_rfl) (λ _ _ _ h=>h) (Or.inl ⟨by rfl,λ w hSw=>?_⟩) hHeld ?_
    ·obtain⟨s0,s1⟩:=hSw;go_simp
    try simp only[Act.put,XH,XI,XJ]
    refine AnyL.take (i:=3) (oi:={ dst:=some 98,op:=Go.Op.binOp Go.BinOp.add 3 (Go.Operand.tmp 97) (Go.Operand.const (Go.Value.int Go.IntKind.i64 1)) 3,type:=3,pos := "func.go:210",after:=#[{ on:=2,ground:=Go.Ground.data }],guard:=none }) (v:=.int .i64 ((b:Int)+128+1)) rfl (by kernel_rfl) (by kernel_rfl) (by kernel_rfl) (by kernel_rfl) (λ _ _ _ h=>h) (Or.inl ⟨by rfl,λ w hSw=>?_⟩) hHeld ?_
    ·obtain⟨s0,s1⟩:=hSw;go_simp;rw[zA Gs]
    try simp only[Act.put,XH,XI,XJ]
    refine AnyL.take (i:=5) (oi:={ dst:=some 100,op:=Go.Op.move (Go.Operand.tmp 15),type:=3,pos := "func.go:210",after:=#[],guard:=none }) (v:=.int .i64 (64*((lmS n d z (b+128) K).e:Int))) rfl (by kernel_rfl) (by kernel_rfl) (by kernel_rfl) (by kernel_rfl) (λ _ _ _ h=>h) (Or.inl ⟨by rfl,λ w hSw=>?_⟩) hHeld ?_
    ·obtain⟨s0,s1⟩:=hSw;go_simp
    try simp only[Act.put,XH,XI,XJ]
    refine AnyL.one (i:=4) (o:={ dst:=some 99,op:=Go.Op.call { callee:=Go.Callee.value (Go.Operand.func 104),args:=#[Go.Operand.tmp 98],argTypes:=#[3] },type:=26,pos := "func.go:210",after:=#[{ on:=3,ground:=Go.Ground.data }],guard:=none }) (by kernel_rfl) rfl (λ Kc A0=>?_)
    go_simp
    refine (zB8 (e:=b+129) ((b:Int)+128+1) (by omega) _ (by omega)).mono ?_
    rintro r' w2 ⟨b6,a2,n2,c2,rfl,o0,b9⟩;have j7:=zB m8 b9;clear b9;go_wp2_with fail;refine A0.out _ _ (zA jk _ j7) (λ hHeld=>?_)
    clear A0 Kc
    try simp only[Act.put,XH,XI,XJ]
    refine AnyL.one (i:=6) (o:={ dst:=some 101,op:=Go.Op.call { callee:=Go.Callee.value (Go.Operand.func 104),args:=#[Go.Operand.tmp 100],argTypes:=#[3] },type:=26,pos := "func.go:210",after:=#[{ on:=5,ground:=Go.Ground.data },{ on:=4,ground:=Go.Ground.chain }],guard:=none }) (by kernel_rfl) rfl (λ Kc A0=>?_)
    go_simp
    refine (zB8 (e:=64*(lmS n d z (b+128) K).e) (64*((lmS n d z (b+128) K).e:Int)) (by omega) _ (by omega)).mono ?_
    rintro r' w3 ⟨p9,a3,n3,c3,rfl,A8,k8⟩;have j9:=zB j7 k8;replace o0:=o0.bw k8;clear k8;go_wp2_with fail;refine A0.out _ _ (zA jk _ j9) (λ hHeld=>?_)
    clear A0 Kc
    try simp only[Act.put,XH,XI,XJ]
    refine AnyL.one (i:=7) (o:={ dst:=some 102,op:=Go.Op.call { callee:=Go.Callee.value (Go.Operand.func 109),args:=#[Go.Operand.tmp 99,Go.Operand.tmp 101],argTypes:=#[26,26] },type:=26,pos := "func.go:210",after:=#[{ on:=4,ground:=Go.Ground.data },{ on:=6,ground:=Go.Ground.data },{ on:=6,ground:=Go.Ground.chain }],guard:=none }) (by kernel_rfl) rfl (λ Kc A0=>?_)
    go_simp
    refine (zCH _ _ _ _ _ _ _ _ ((b+129)/16+8) (64*(lmS n d z (b+128) K).e/16+8) (Q (b+129)) (Q (64*(lmS n d z (b+128) K).e)) _ o0 A8 (by omega) (by omega) (by have:=zG (64*(lmS n d z (b+128) K).e);omega)).mono ?_
    rintro r' w4 ⟨o9,a4,n4,c4,rfl,D9,m9⟩;have y9:=zB j9 m9;clear m9 o0 A8;go_wp2_with fail;refine A0.out _ _ (zA jk _ y9) (λ hHeld=>?_)
    clear A0 Kc
    try simp only[Act.put,XH,XI,XJ]
    refine AnyL.one (i:=8) (o:={ dst:=some 103,op:=Go.Op.call { callee:=Go.Callee.value (Go.Operand.func 65),args:=#[Go.Operand.tmp 96,Go.Operand.tmp 102],argTypes:=#[26,26] },type:=26,pos := "func.go:210",after:=#[{ on:=1,ground:=Go.Ground.data },{ on:=7,ground:=Go.Ground.data },{ on:=7,ground:=Go.Ground.chain }],guard:=none }) (by kernel_rfl) rfl (λ Kc A0=>?_)
    go_simp
    refine (kX _ _ _ _ _ _ _ _ 101 101 ((lmS n d z (b+128) K).U.2+2) (-(-Q (b+129)/Q (64*(lmS n d z (b+128) K).e))) _ ((zA S0).up.hi.bw y9) (D9.mono (by omega)) (by omega) (by omega)).mono ?_
    rintro r' w5 ⟨G9,a5,n5,c5,rfl,O0,A7⟩;have C8:=zB y9 A7;clear A7 D9;go_wp2_with fail;refine A0.out _ _ (zA jk _ C8) (λ hHeld=>?_)
    clear A0 Kc
    try simp only[Act.put,XH,XI,XJ]
    refine AnyL.take (i:=9) (oi:={ dst:=some 104,op:=Go.Op.fieldAddr 36 (Go.Operand.tmp 13) 1,type:=0,pos := "func.go:210",after:=#[{ on:=0,ground:=Go.Ground.phase },{ on:=1,ground:=Go.Ground.phase },{ on:=2,ground:=Go.Ground.phase },{ on:=3,ground:=Go.Ground.phase },{ on:=4,ground:=Go.Ground.phase },{ on:=5,ground:=Go.Ground.phase },{ on:=6,ground:=Go.Ground.phase },{ on:=7,ground:=Go.Ground.phase },{ on:=8,ground:=Go.Ground.phase }],guard:=none }) (v:=.pointer (some ⟨BU,2,none⟩)) rfl (by kernel_rfl) (by kernel_rfl) (by kernel_rfl) (by kernel_rfl) (λ _ _ _ h=>h) (Or.inl ⟨by rfl,λ w hSw=>?_⟩) hHeld ?_
    ·obtain⟨s0,s1⟩:=hSw;go_simp
    try simp only[Act.put,XH,XI,XJ]
    refine AnyL.last (o:={ dst:=none,op:=Go.Op.store 26 (Go.Operand.tmp 104) (Go.Operand.tmp 103),type:=0,pos := "func.go:210",after:=#[{ on:=9,ground:=Go.Ground.data },{ on:=8,ground:=Go.Ground.data },{ on:=8,ground:=Go.Ground.chain },{ on:=0,ground:=Go.Ground.phase },{ on:=1,ground:=Go.Ground.phase },{ on:=2,ground:=Go.Ground.phase },{ on:=3,ground:=Go.Ground.phase },{ on:=4,ground:=Go.Ground.phase },{ on:=5,ground:=Go.Ground.phase },{ on:=6,ground:=Go.Ground.phase },{ on:=7,ground:=Go.Ground.phase },{ on:=8,ground:=Go.Ground.phase }],guard:=none }) (by kernel_rfl) rfl (by kernel_rfl) (λ Kc A0=>?_)
    have V2:=(zA S0).u.bw C8;have lA:=V2.lt;obtain⟨⟨y0,y1,y2,y3,y4⟩,y5⟩:=V2
    go_simp
    refine A0.out _ _ ?_;clear A0 Kc;have Gt:(lmS n d z (b+128) K).U.2+2 + -(-Q (b+129)/Q (64*(lmS n d z (b+128) K).e))=(lmH (b+128) (lmS n d z (b+128) K).e (lmS n d z (b+128) K).U):=rfl;rw[Gt] at O0;have s2:=((zA S0).bw C8).putH (H:=⟨G9,a5,n5,c5⟩) (K':=102) (by omega) O0
    obtain⟨V2,S9⟩:∃ V,V=((w5.setCell ⟨BU,2,none⟩ (.bool G9)).setCell ⟨BU,3,none⟩ (.slice a5 n5 c5)):=⟨_,rfl⟩;rw[<- S9] at s2 ⊢;clear S9 y0 y1 y2 y3 y4 y5 lA O0 jk m8 j7 j9 y9 C8 S0 Gt Gs;obtain⟨uu,huu⟩:∃ uu:Sp,uu=(⟨u1.ln,u1.la,u1.lN,u1.lc,G9,a5,n5,c5,u1.bits⟩:Sp):=⟨_,rfl⟩;rw[<- huu] at s2;have cm:=zC s2;clear s2 huu;have lU:=(zA cm).u.lt;have PB:IntKind.i64.wrap ((b:Int)+40)=(b:Int)+40:=jL _ (by omega) (by omega)
    go_wp2_with fail;refine (zB8 (e:=b+128) ((b:Int)+128) (by omega) _ (by omega)).mono ?_
    rintro r' w6 ⟨D4,a6,n6,c6,rfl,L9,G3⟩;obtain⟨V3,D3⟩:∃ V,V=w6.alloc (.cells #[.bool D4,.slice a6 n6 c6] 26):=⟨_,rfl⟩;have L8:Below w6.heap.size w6 V3:=by rw[D3];exact bl1 _ _
    have s3:=((zA cm).bw G3).bw L8;have Pc:NmC V3 w6.heap.size ⟨D4,a6,n6,c6⟩:=by rw[D3];exact zAK w6 ⟨D4,a6,n6,c6⟩ _
    have kh:=zC s3;have Cf:=zC (L9.bw L8);go_wp2_with fail;rw[<- D3];clear D3 L8 cm lU L9 G3 PB;obtain⟨BP,Ge⟩:∃ B,B=w6.heap.size:=⟨_,rfl⟩;rw[<- Ge] at Pc ⊢;clear Ge;have lU:=s3.u.lt;have lP:=Pc.lt;have pS:=zCK;have BF:=zH4;have ki:=zC (lm_lg (zA dX) (by omega) (by omega))
    have Gv:=zC (show ∀ w',Below V3.heap.size V3 w'->(w'.cell? ⟨BU,0,none⟩=some (.bool uu.ln)/\w'.cell? ⟨BU,1,none⟩=some (.slice uu.la uu.lN uu.lc)/\w'.cell? ⟨BU,2,none⟩=some (.bool uu.hn)/\w'.cell? ⟨BU,3,none⟩=some (.slice uu.ha uu.hN uu.hc)/\nK0 w' BP (⟨D4,a6,n6,c6⟩:Nm)) from λ w' hB=>⟨(s3.u.bw hB).c.c0,(s3.u.bw hB).c.c1,(s3.u.bw hB).c.c2,(s3.u.bw hB).c.c3,(Pc.bw hB).c0,(Pc.bw hB).c1⟩)
    clear s3
    go_cut [19] (λ p wx=>∃ (B:Nat) (u:Sp) (a1 b1 a2 b2:Int) (l1 l2:Nat->Rat),p=.pointer (some ⟨B,0,none⟩)/\(IsLog l1 (λ _=>((lmL (lmS n d z (b+128) K).U):Rat)/(Q (b+128):Rat))/\(Iv (b+40) (a1,b1) l1/\Abs (a1,b1) (3*(((b+128:Nat):Int)+1)*Q (b+40)))/\IsLog l2 (λ _=>((lmH (b+128) (lmS n d z (b+128) K).e (lmS n d z (b+128) K).U):Rat)/(Q (b+128):Rat))/\(Iv (b+40) (a2,b2) l2/\Abs (a2,b2) (3*(((b+128:Nat):Int)+1)*Q (b+40))))/\V3.heap.size<=B/\VrC wx B u/\SpAt wx u 40 (((a1,b2):Int × Int)).1 (((a1,b2):Int × Int)).2/\u.bits=((b+40:Nat):Int)/\Below V3.heap.size V3 wx)
    case first =>
     go_region_held3 (λ w'=>w'.cell? ⟨BU,0,none⟩=some (.bool uu.ln)/\w'.cell? ⟨BU,1,none⟩=some (.slice uu.la uu.lN uu.lc)/\w'.cell? ⟨BU,2,none⟩=some (.bool uu.hn)/\w'.cell? ⟨BU,3,none⟩=some (.slice uu.ha uu.hN uu.hc)/\nK0 w' BP (⟨D4,a6,n6,c6⟩:Nm)) (exact zA Gv _ (by repeat' (first|with_reducible exact W8|with_reducible exact J6|with_reducible exact Below.refl _ _|with_reducible refine Below.drew ?_|with_reducible refine zL ?_ _|with_reducible refine Below.setCell ?_ (by first|exact XW _|exact aB|exact aC) _)))
      (first
       | (go_at_call 124;have hq:=J6;refine (zC1 (b:=b+40) ((b:Int)+40) (by omega) _ ⟨uu.hn,uu.ha,uu.hN,uu.hc⟩ ⟨D4,a6,n6,c6⟩ 110 (b+128) (lmH (b+128) (lmS n d z (b+128) K).e (lmS n d z (b+128) K).U) (Q (b+128)) (((zA kh).up.hi.bw (by with_reducible first|exact J6|exact zL J6 _)).mono (by omega)) (((zA Cf).bw (by with_reducible first|exact J6|exact zL J6 _)).mono (by omega)) (by omega) (by omega) (zA ki).2.2.2.2.2.2.1 (zA ki).2.1 (zA ki).2.2.2.2.2.2.2.1 (zA ki).2.2.2.1 (zA ki).2.2.2.2.2.2.2.2.1 (zA ki).2.2.2.2.2.2.2.2.2 (by omega)).mono ?_;rintro r oL ⟨a2,b2,l2,g2,i2,nD,rfl,dY,cC,aG⟩;have sO:=zC dY;have jg:=zC (And.intro g2 i2);clear dY g2 i2;have bD:Below gZ.heap.size gZ oL:=(by with_reducible first|exact aG|exact zB (bl1 _ _) aG);have W8:=zB J6 bD;(try with_reducible have ke:=(zM gZ 36).bw aG);(try replace cW:=cW.bw bD);have aC:=W8.size;(try have rT:=cW.lt);(try have WR:=Yj rT);(try have Fl:=Yi rT);(try obtain⟨mL,mM,mN,mO,mP,Fm⟩:=cW);(try have rV:=ke.lt);(try have WS:=Yj rV);(try have Fo:=Yi rV);(try obtain⟨mQ,mR,mS,mV,mW,Fp⟩:=ke))
       | (go_at_call 124;refine (zC1 (b:=b+40) ((b:Int)+40) (by omega) _ ⟨uu.ln,uu.la,uu.lN,uu.lc⟩ ⟨D4,a6,n6,c6⟩ 110 (b+128) (lmL (lmS n d z (b+128) K).U) (Q (b+128)) (((zA kh).up.lo.bw (by with_reducible first|exact (Below.refl _ _).drew|exact (bl1 _ _).drew)).mono (by omega)) (((zA Cf).bw (by with_reducible first|exact (Below.refl _ _).drew|exact (bl1 _ _).drew)).mono (by omega)) (by omega) (by omega) (zA ki).1 (zA ki).2.1 (zA ki).2.2.1 (zA ki).2.2.2.1 (zA ki).2.2.2.2.1 (zA ki).2.2.2.2.2.1 (by omega)).mono ?_;rintro r gZ ⟨a1,b1,l1,g1,i1,oN,rfl,dZ,W9,aH⟩;have sP:=zC dZ;have ia:=zC (And.intro g1 i1);clear dZ g1 i1;have J6:Below V3.heap.size V3 gZ:=(by with_reducible first|exact zB (Below.refl _ _).drew aH|exact zB (bl1 _ _).drew aH);(try with_reducible have cW:=((zM V3 36).bw (Below.refl _ _).drew).bw aH);have aB:=J6.size))
     all_goals
      have hfinS:SpAt oL (⟨oN.ln,oN.la,oN.lN,oN.lc,nD.hn,nD.ha,nD.hN,nD.hc,(b:Int)+40⟩:Sp) 40 (((a1,b2):Int × Int)).1 (((a1,b2):Int × Int)).2:=⟨((W9.bw bD).mono (by omega)).lo,(cC.mono (by omega)).hi⟩
      go_wp2_with fail;go_meet;refine⟨_,(⟨oN.ln,oN.la,oN.lN,oN.lc,nD.hn,nD.ha,nD.hN,nD.hc,(b:Int)+40⟩:Sp),a1,b1,a2,b2,l1,l2,rfl,⟨(zA ia).1,(zA ia).2,(zA jg).1,(zA jg).2⟩,?_,⟨⟨?_,?_,?_,?_,?_⟩,?_⟩,?_,(by show (b:Int)+40=_;omega),?_⟩
      ·first|exact XW _|exact aB|exact aC
      ·simp[go_sem, *]
      ·simp[go_sem, *]
      ·simp[go_sem, *]
      ·simp[go_sem, *]
      ·simp[go_sem, *]
      ·intro o;simp[go_sem, *]
      ·first|with_reducible exact SpAt.put5 hfinS mQ mR mS mV mW _ _ _ _ _|with_reducible exact SpAt.put5 hfinS mL mM mN mO mP _ _ _ _ _|with_reducible exact hfinS.bw (bl1 _ _)
      ·repeat' (first|with_reducible exact W8|with_reducible exact J6|with_reducible exact Below.refl _ _|with_reducible refine Below.drew ?_|with_reducible refine zL ?_ _|with_reducible refine Below.setCell ?_ (by first|exact XW _|exact aB|exact aC) _)
    case rest =>
    obtain⟨BS,xS,a1,b1,a2,b2,l1,l2,rfl,oO,Fq,XS,hpS,hxbS,hblS⟩:=hcut;obtain⟨V4,h4x⟩:∃ V,V=wc:=⟨_,rfl⟩;subst h4x
    have s4:LnW w V4 x y n d BS xS (b+40) 40 (a1,b2):=by
     have t:=(zA kh).bw hblS;have:=(zA kh).u.lt;have:=(zA kh).l2;exact⟨t.x,t.y,t.ix,t.iy,XS,hxbS,hpS,t.r,t.be,by omega⟩
    have Q2:=zC s4;have Ch:=zC oO;clear kh Gv pS BF hblS hxbS hpS XS oO s4 lU lP Pc Fq Cf;go_wp2_with fail;have m8:Below V4.heap.size V4 V4.drew:=(Below.refl _ _).drew;have cG:=zC (show ∀ w',Below V4.heap.size V4 w'->(cK0 w' BS xS) from λ w' hB=>⟨((zA Q2).u.bw hB).c.c0,((zA Q2).u.bw hB).c.c1,((zA Q2).u.bw hB).c.c2,((zA Q2).u.bw hB).c.c3,((zA Q2).u.bw hB).c.c4⟩)
    refine AnyL.start (S:=λ w'=>cK0 w' BS xS) (l:=10) (by kernel_rfl) (zA cG _ m8) (λ hHeld=>?_)
    refine AnyL.take (i:=0) (oi:={ dst:=some 123,op:=Go.Op.load 36 (Go.Operand.tmp 19),type:=36,pos := "func.go:215",after:=#[],guard:=none }) (v:=.agg xS.q) rfl (by kernel_rfl) (by kernel_rfl) (by kernel_rfl) (by kernel_rfl) (λ _ _ _ h=>h) (Or.inl ⟨by rfl,λ w hSw=>?_⟩) hHeld ?_
    ·obtain⟨s0,s1,s2,s3,s4⟩:=hSw;go_simp
    try simp only[Act.put,XH,XI,XJ]
    refine AnyL.take (i:=3) (oi:={ dst:=some 126,op:=Go.Op.move (Go.Operand.tmp 17),type:=3,pos := "func.go:215",after:=#[],guard:=none }) (v:=.int .i64 ((b:Int)+40)) rfl (by kernel_rfl) (by kernel_rfl) (by kernel_rfl) (by kernel_rfl) (λ _ _ _ h=>h) (Or.inl ⟨by rfl,λ w hSw=>?_⟩) hHeld ?_
    ·obtain⟨s0,s1,s2,s3,s4⟩:=hSw;go_simp
    try simp only[Act.put,XH,XI,XJ]
    refine AnyL.take (i:=5) (oi:={ dst:=some 128,op:=Go.Op.move (Go.Operand.tmp 15),type:=3,pos := "func.go:215",after:=#[],guard:=none }) (v:=.int .i64 (64*((lmS n d z (b+128) K).e:Int))) rfl (by kernel_rfl) (by kernel_rfl) (by kernel_rfl) (by kernel_rfl) (λ _ _ _ h=>h) (Or.inl ⟨by rfl,λ w hSw=>?_⟩) hHeld ?_
    ·obtain⟨s0,s1,s2,s3,s4⟩:=hSw;go_simp
    try simp only[Act.put,XH,XI,XJ]
    refine AnyL.one (i:=1) (o:={ dst:=some 124,op:=Go.Op.call { callee:=Go.Callee.value (Go.Operand.func 43),args:=#[Go.Operand.const (Go.Value.int Go.IntKind.i64 2)],argTypes:=#[3] },type:=26,pos := "func.go:215",after:=#[],guard:=none }) (by kernel_rfl) rfl (λ Kc A0=>?_)
    go_simp
    refine (zD 2 _ (by decide) (by decide)).mono ?_
    rintro r' w1 ⟨PC,PD,PE,PF,rfl,k9,b7⟩;have j7:=zB m8 b7;clear b7;go_wp2_with fail;refine A0.out _ _ (zA cG _ j7) (λ hHeld=>?_)
    clear A0 Kc
    try simp only[Act.put,XH,XI,XJ]
    refine AnyL.one (i:=2) (o:={ dst:=some 125,op:=Go.Op.call { callee:=Go.Callee.value (Go.Operand.func 43),args:=#[Go.Operand.const (Go.Value.int Go.IntKind.i64 1)],argTypes:=#[3] },type:=26,pos := "func.go:215",after:=#[{ on:=1,ground:=Go.Ground.chain }],guard:=none }) (by kernel_rfl) rfl (λ Kc A0=>?_)
    go_simp
    refine (zD 1 _ (by decide) (by decide)).mono ?_
    rintro r' w2 ⟨PG,PH,PI,PJ,rfl,o0,b9⟩;have j9:=zB j7 b9;replace k9:=k9.bw b9;clear b9;go_wp2_with fail;refine A0.out _ _ (zA cG _ j9) (λ hHeld=>?_)
    clear A0 Kc
    try simp only[Act.put,XH,XI,XJ]
    refine AnyL.one (i:=4) (o:={ dst:=some 127,op:=Go.Op.call { callee:=Go.Callee.value (Go.Operand.func 124),args:=#[Go.Operand.tmp 124,Go.Operand.tmp 125,Go.Operand.tmp 126],argTypes:=#[26,26,3] },type:=36,pos := "func.go:215",after:=#[{ on:=1,ground:=Go.Ground.data },{ on:=2,ground:=Go.Ground.data },{ on:=3,ground:=Go.Ground.data },{ on:=2,ground:=Go.Ground.chain }],guard:=none }) (by kernel_rfl) rfl (λ Kc A0=>?_)
    go_simp
    refine (zC1 (b:=b+40) ((b:Int)+40) (by omega) _ ⟨PC,PD,PE,PF⟩ ⟨PG,PH,PI,PJ⟩ 4 1 2 1 k9 o0 (by omega) (by omega) (by decide) (by decide) (by decide) (by decide) (by decide) (by decide) (by omega)).mono ?_
    rintro r' w3 ⟨a3,b3,l3,g3,i3,v3,rfl,E6,A8,k8⟩;have y9:=zB j9 k8;have ye:=zC E6;have Gw:=zC (And.intro g3 i3);clear k8 E6 g3 i3 k9 o0;go_wp2_with fail;refine A0.out _ _ (zA cG _ y9) (λ hHeld=>?_)
    clear A0 Kc
    try simp only[Act.put,XH,XI,XJ]
    refine AnyL.one (i:=6) (o:={ dst:=some 129,op:=Go.Op.call { callee:=Go.Callee.value (Go.Operand.func 43),args:=#[Go.Operand.tmp 128],argTypes:=#[3] },type:=26,pos := "func.go:215",after:=#[{ on:=5,ground:=Go.Ground.data },{ on:=4,ground:=Go.Ground.chain }],guard:=none }) (by kernel_rfl) rfl (λ Kc A0=>?_)
    go_simp
    refine (zD (64*((lmS n d z (b+128) K).e:Int)) _ (by omega) (by omega)).mono ?_
    rintro r' w4 ⟨ng4,ad4,nn4,cp4,rfl,D9,m9⟩;have C8:=zB y9 m9;replace A8:=A8.bw m9;clear m9;go_wp2_with fail;refine A0.out _ _ (zA cG _ C8) (λ hHeld=>?_)
    clear A0 Kc
    try simp only[Act.put,XH,XI,XJ]
    refine AnyL.one (i:=7) (o:={ dst:=some 130,op:=Go.Op.call { callee:=Go.Callee.value (Go.Operand.func 43),args:=#[Go.Operand.const (Go.Value.int Go.IntKind.i64 1)],argTypes:=#[3] },type:=26,pos := "func.go:215",after:=#[{ on:=6,ground:=Go.Ground.chain }],guard:=none }) (by kernel_rfl) rfl (λ Kc A0=>?_)
    go_simp
    refine (zD 1 _ (by decide) (by decide)).mono ?_
    rintro r' w5 ⟨ng5,ad5,nn5,cp5,rfl,O0,A7⟩;have I5:=zB C8 A7;replace A8:=A8.bw A7;replace D9:=D9.bw A7;clear A7;go_wp2_with fail;refine A0.out _ _ (zA cG _ I5) (λ hHeld=>?_)
    clear A0 Kc
    try simp only[Act.put,XH,XI,XJ]
    refine AnyL.one (i:=8) (o:={ dst:=some 131,op:=Go.Op.call { callee:=Go.Callee.value (Go.Operand.func 56),args:=#[Go.Operand.tmp 127,Go.Operand.tmp 129,Go.Operand.tmp 130],argTypes:=#[36,26,26] },type:=36,pos := "func.go:215",after:=#[{ on:=4,ground:=Go.Ground.data },{ on:=6,ground:=Go.Ground.data },{ on:=7,ground:=Go.Ground.data },{ on:=7,ground:=Go.Ground.chain }],guard:=none }) (by kernel_rfl) rfl (λ Kc A0=>?_)
    go_simp
    refine (zGG _ v3 ⟨ng4,ad4,nn4,cp4⟩ ⟨ng5,ad5,nn5,cp5⟩ 40 4 4 (b+40) (a3,b3) (64*((lmS n d z (b+128) K).e:Int)) 1 (A8.mono (by omega)) D9 O0 (by omega) (by omega) (by omega) (by decide) (zA ye)).mono ?_
    rintro r' w6 ⟨v6,rfl,S3,L9,G3⟩;have I6:=zB I5 G3;have PL:=zC S3;clear G3 S3 A8 D9 O0;go_wp2_with fail;refine A0.out _ _ (zA cG _ I6) (λ hHeld=>?_)
    clear A0 Kc
    try simp only[Act.put,XH,XI,XJ]
    refine AnyL.one (i:=9) (o:={ dst:=some 132,op:=Go.Op.call { callee:=Go.Callee.value (Go.Operand.func 57),args:=#[Go.Operand.tmp 123,Go.Operand.tmp 131],argTypes:=#[36,36] },type:=36,pos := "func.go:215",after:=#[{ on:=0,ground:=Go.Ground.data },{ on:=8,ground:=Go.Ground.data },{ on:=8,ground:=Go.Ground.chain }],guard:=none }) (by kernel_rfl) rfl (λ Kc A0=>?_)
    go_simp
    refine (yY _ xS v6 53 (b+40) (a1,b2) (byI (a3,b3) (64*((lmS n d z (b+128) K).e:Int)) 1) (((zA Q2).up.bw I6).mono (by omega)) L9 (by omega) (zA Q2).ub).mono ?_
    rintro r' w7 ⟨v7,rfl,H9,O1,I8⟩;have Q4:=zB I6 I8;have PM:=zC H9;clear I8 H9 L9;go_wp2_with fail;refine A0.out _ _ (zA cG _ Q4) (λ hHeld=>?_)
    clear A0 Kc
    try simp only[Act.put,XH,XI,XJ]
    refine AnyL.last (o:={ dst:=none,op:=Go.Op.store 36 (Go.Operand.tmp 19) (Go.Operand.tmp 132),type:=0,pos := "func.go:215",after:=#[{ on:=9,ground:=Go.Ground.data },{ on:=9,ground:=Go.Ground.chain },{ on:=0,ground:=Go.Ground.phase },{ on:=1,ground:=Go.Ground.phase },{ on:=2,ground:=Go.Ground.phase },{ on:=3,ground:=Go.Ground.phase },{ on:=4,ground:=Go.Ground.phase },{ on:=5,ground:=Go.Ground.phase },{ on:=6,ground:=Go.Ground.phase },{ on:=7,ground:=Go.Ground.phase },{ on:=8,ground:=Go.Ground.phase },{ on:=9,ground:=Go.Ground.phase }],guard:=none }) (by kernel_rfl) rfl (by kernel_rfl) (λ Kc A0=>?_)
    have V2:=(zA Q2).u.bw Q4;have lA:=V2.lt;obtain⟨⟨y0,y1,y2,y3,y4⟩,y5⟩:=V2
    go_simp
    refine A0.out _ _ ?_;clear A0 Kc;have s5:=((zA Q2).bw Q4).putU (U':=v7) (K':=54) (c':=jJ (a1,b2) (byI (a3,b3) (64*((lmS n d z (b+128) K).e:Int)) 1)) (zA PM) O1;obtain⟨V5,eC⟩:∃ V,V=zQ w7 BS v7:=⟨_,rfl⟩;rw[<- eC] at s5;unfold zQ at eC;rw[<- eC];have Z6:=zC s5;clear eC s5 y0 y1 y2 y3 y4 y5 lA cG Q2 m8 j7 j9 y9 C8 I5 I6 Q4 O1;go_wp2_with fail;have m8:Below V5.heap.size V5 V5.drew:=(Below.refl _ _).drew;have JP:=zC (lm_x4 (z:=(2*(q:Int)+2*(b:Int)+64)) (by omega) (by omega))
    have fS:=zC (show ∀ w',Below V5.heap.size V5 w'->(cK w' BS v7 (nK w' w.heap.size x (nK0 w' ((w.heap.size+1)) y))) from λ w' hB=>⟨((zA Z6).u.bw hB).c.c0,((zA Z6).u.bw hB).c.c1,((zA Z6).u.bw hB).c.c2,((zA Z6).u.bw hB).c.c3,((zA Z6).u.bw hB).c.c4,((zA Z6).x.bw hB).c0,((zA Z6).x.bw hB).c1,((zA Z6).y.bw hB).c0,((zA Z6).y.bw hB).c1⟩)
    refine AnyL.start (S:=λ w'=>cK w' BS v7 (nK w' w.heap.size x (nK0 w' ((w.heap.size+1)) y))) (l:=10) (by kernel_rfl) (zA fS _ m8) (λ hHeld=>?_)
    refine AnyL.take (i:=0) (oi:={ dst:=some 133,op:=Go.Op.load 36 (Go.Operand.tmp 19),type:=36,pos := "func.go:216",after:=#[],guard:=none }) (v:=.agg v7.q) rfl (by kernel_rfl) (by kernel_rfl) (by kernel_rfl) (by kernel_rfl) (λ _ _ _ h=>h) (Or.inl ⟨by rfl,λ w hSw=>?_⟩) hHeld ?_
    ·obtain⟨s0,s1,s2,s3,s4,s5,s6,s7,s8⟩:=hSw;go_simp
    try simp only[Act.put,XH,XI,XJ]
    refine AnyL.take (i:=1) (oi:={ dst:=some 134,op:=Go.Op.move (Go.Operand.tmp 10),type:=3,pos := "func.go:216",after:=#[],guard:=none }) (v:=.int .i64 (2*(q:Int)+2*(b:Int)+64)) rfl (by kernel_rfl) (by kernel_rfl) (by kernel_rfl) (by kernel_rfl) (λ _ _ _ h=>h) (Or.inl ⟨by rfl,λ w hSw=>?_⟩) hHeld ?_
    ·obtain⟨s0,s1,s2,s3,s4,s5,s6,s7,s8⟩:=hSw;go_simp
    try simp only[Act.put,XH,XI,XJ]
    refine AnyL.take (i:=4) (oi:={ dst:=some 137,op:=Go.Op.move (Go.Operand.tmp 17),type:=3,pos := "func.go:216",after:=#[],guard:=none }) (v:=.int .i64 ((b:Int)+40)) rfl (by kernel_rfl) (by kernel_rfl) (by kernel_rfl) (by kernel_rfl) (λ _ _ _ h=>h) (Or.inl ⟨by rfl,λ w hSw=>?_⟩) hHeld ?_
    ·obtain⟨s0,s1,s2,s3,s4,s5,s6,s7,s8⟩:=hSw;go_simp
    try simp only[Act.put,XH,XI,XJ]
    refine AnyL.take (i:=6) (oi:={ dst:=some 139,op:=Go.Op.load 26 (Go.Operand.tmp 3),type:=26,pos := "func.go:216",after:=#[],guard:=none }) (v:=.agg x.q) rfl (by kernel_rfl) (by kernel_rfl) (by kernel_rfl) (by kernel_rfl) (λ _ _ _ h=>h) (Or.inl ⟨by rfl,λ w hSw=>?_⟩) hHeld ?_
    ·obtain⟨s0,s1,s2,s3,s4,s5,s6,s7,s8⟩:=hSw;go_simp
    try simp only[Act.put,XH,XI,XJ]
    refine AnyL.take (i:=7) (oi:={ dst:=some 140,op:=Go.Op.load 26 (Go.Operand.tmp 4),type:=26,pos := "func.go:216",after:=#[],guard:=none }) (v:=.agg y.q) rfl (by kernel_rfl) (by kernel_rfl) (by kernel_rfl) (by kernel_rfl) (λ _ _ _ h=>h) (Or.inl ⟨by rfl,λ w hSw=>?_⟩) hHeld ?_
    ·obtain⟨s0,s1,s2,s3,s4,s5,s6,s7,s8⟩:=hSw;go_simp
    try simp only[Act.put,XH,XI,XJ]
    refine AnyL.one (i:=2) (o:={ dst:=some 135,op:=Go.Op.call { callee:=Go.Callee.value (Go.Operand.func 43),args:=#[Go.Operand.tmp 134],argTypes:=#[3] },type:=26,pos := "func.go:216",after:=#[{ on:=1,ground:=Go.Ground.data }],guard:=none }) (by kernel_rfl) rfl (λ Kc A0=>?_)
    go_simp
    refine (zD (2*(q:Int)+2*(b:Int)+64) _ (by omega) (by omega)).mono ?_
    rintro r' w1 ⟨PC,PD,PE,PF,rfl,k9,b7⟩;have j7:=zB m8 b7;clear b7;go_wp2_with fail;refine A0.out _ _ (zA fS _ j7) (λ hHeld=>?_)
    clear A0 Kc
    try simp only[Act.put,XH,XI,XJ]
    refine AnyL.one (i:=3) (o:={ dst:=some 136,op:=Go.Op.call { callee:=Go.Callee.value (Go.Operand.func 43),args:=#[Go.Operand.const (Go.Value.int Go.IntKind.i64 1)],argTypes:=#[3] },type:=26,pos := "func.go:216",after:=#[{ on:=2,ground:=Go.Ground.chain }],guard:=none }) (by kernel_rfl) rfl (λ Kc A0=>?_)
    go_simp
    refine (zD 1 _ (by decide) (by decide)).mono ?_
    rintro r' w2 ⟨PG,PH,PI,PJ,rfl,o0,b9⟩;have j9:=zB j7 b9;replace k9:=k9.bw b9;clear b9;go_wp2_with fail;refine A0.out _ _ (zA fS _ j9) (λ hHeld=>?_)
    clear A0 Kc
    try simp only[Act.put,XH,XI,XJ]
    refine AnyL.one (i:=5) (o:={ dst:=some 138,op:=Go.Op.call { callee:=Go.Callee.value (Go.Operand.func 124),args:=#[Go.Operand.tmp 135,Go.Operand.tmp 136,Go.Operand.tmp 137],argTypes:=#[26,26,3] },type:=36,pos := "func.go:216",after:=#[{ on:=2,ground:=Go.Ground.data },{ on:=3,ground:=Go.Ground.data },{ on:=4,ground:=Go.Ground.data },{ on:=3,ground:=Go.Ground.chain }],guard:=none }) (by kernel_rfl) rfl (λ Kc A0=>?_)
    go_simp
    refine (zC1 (b:=b+40) ((b:Int)+40) (by omega) _ ⟨PC,PD,PE,PF⟩ ⟨PG,PH,PI,PJ⟩ 4 11 (2*(q:Int)+2*(b:Int)+64) 1 k9 o0 (by omega) (by omega) (by omega) (by decide) (zA JP).1 (by decide) (zA JP).2.1 (zA JP).2.2 (by omega)).mono ?_
    rintro r' w3 ⟨a4,b4,l4,g4,i4,v3,rfl,E6,A8,k8⟩;have y9:=zB j9 k8;have ye:=zC E6;have PN:=zC (And.intro g4 i4);clear k8 E6 g4 i4 k9 o0;go_wp2_with fail;refine A0.out _ _ (zA fS _ y9) (λ hHeld=>?_)
    clear A0 Kc
    try simp only[Act.put,XH,XI,XJ]
    refine AnyL.one (i:=8) (o:={ dst:=some 141,op:=Go.Op.call { callee:=Go.Callee.value (Go.Operand.func 56),args:=#[Go.Operand.tmp 138,Go.Operand.tmp 139,Go.Operand.tmp 140],argTypes:=#[36,26,26] },type:=36,pos := "func.go:216",after:=#[{ on:=5,ground:=Go.Ground.data },{ on:=6,ground:=Go.Ground.data },{ on:=7,ground:=Go.Ground.data },{ on:=5,ground:=Go.Ground.chain }],guard:=none }) (by kernel_rfl) rfl (λ Kc A0=>?_)
    go_simp
    refine (zGG _ v3 x y 40 20 20 (b+40) (a4,b4) n d (A8.mono (by omega)) ((zA Z6).ix.bw y9) ((zA Z6).iy.bw y9) (by omega) (by omega) (by omega) d0 (zA ye)).mono ?_
    rintro r' w6 ⟨v6,rfl,S3,L9,G3⟩;have I6:=zB y9 G3;have PL:=zC S3;clear G3 S3 A8;go_wp2_with fail;refine A0.out _ _ (zA fS _ I6) (λ hHeld=>?_)
    clear A0 Kc
    try simp only[Act.put,XH,XI,XJ]
    refine AnyL.one (i:=9) (o:={ dst:=some 142,op:=Go.Op.call { callee:=Go.Callee.value (Go.Operand.func 57),args:=#[Go.Operand.tmp 133,Go.Operand.tmp 141],argTypes:=#[36,36] },type:=36,pos := "func.go:216",after:=#[{ on:=0,ground:=Go.Ground.data },{ on:=8,ground:=Go.Ground.data },{ on:=8,ground:=Go.Ground.chain }],guard:=none }) (by kernel_rfl) rfl (λ Kc A0=>?_)
    go_simp
    refine (yY _ v7 v6 69 (b+40) (jJ (a1,b2) (byI (a3,b3) (64*((lmS n d z (b+128) K).e:Int)) 1)) (byI (a4,b4) n d) (((zA Z6).up.bw I6).mono (by omega)) L9 (by omega) (zA Z6).ub).mono ?_
    rintro r' w7 ⟨v8,rfl,H9,O1,I8⟩;have Q4:=zB I6 I8;have PO:=zC H9;clear I8 H9 L9;go_wp2_with fail;refine A0.out _ _ (zA fS _ Q4) (λ hHeld=>?_)
    clear A0 Kc
    try simp only[Act.put,XH,XI,XJ]
    refine AnyL.last (o:={ dst:=none,op:=Go.Op.store 36 (Go.Operand.tmp 19) (Go.Operand.tmp 142),type:=0,pos := "func.go:216",after:=#[{ on:=9,ground:=Go.Ground.data },{ on:=9,ground:=Go.Ground.chain },{ on:=0,ground:=Go.Ground.phase },{ on:=1,ground:=Go.Ground.phase },{ on:=2,ground:=Go.Ground.phase },{ on:=3,ground:=Go.Ground.phase },{ on:=4,ground:=Go.Ground.phase },{ on:=5,ground:=Go.Ground.phase },{ on:=6,ground:=Go.Ground.phase },{ on:=7,ground:=Go.Ground.phase },{ on:=8,ground:=Go.Ground.phase },{ on:=9,ground:=Go.Ground.phase }],guard:=none }) (by kernel_rfl) rfl (by kernel_rfl) (λ Kc A0=>?_)
    have V2:=(zA Z6).u.bw Q4;have lA:=V2.lt;obtain⟨⟨y0,y1,y2,y3,y4⟩,y5⟩:=V2
    go_simp
    refine A0.out _ _ ?_;clear A0 Kc;have s6:=((zA Z6).bw Q4).putU (U':=v8) (K':=70) (c':=(jJ (jJ (a1,b2) (byI (a3,b3) (64*((lmS n d z (b+128) K).e:Int)) 1)) (byI (a4,b4) n d))) (zA PO) O1;obtain⟨V6,R8⟩:∃ V,V=zQ w7 BS v8:=⟨_,rfl⟩;rw[<- R8] at s6;unfold zQ at R8;rw[<- R8];have ib:=zC s6;clear R8 s6 y0 y1 y2 y3 y4 y5 lA fS JP Z6 m8 j7 j9 y9 I6 Q4 O1
    have PQ:=zC (show Iv b (zN (zAF (jJ (jJ (a1,b2) (byI (a3,b3) (64*((lmS n d z (b+128) K).e:Int)) 1)) (byI (a4,b4) n d)) ((2*(q:Int)+2*(b:Int)+64)*Q (b+40),(2*(q:Int)+2*(b:Int)+64)*Q (b+40))) 40) X by
     obtain⟨hL,hg,hX⟩:=zA BV;have g4:=(zA PN).1;rw[<- hz] at g4;have t:=lg_end hL (zA H) Lo (by omega) (zA Pv) hg hX (zA Ch).1 (zA Ch).2.2.1 (zA Gw).1 g4 (zA Ch).2.1.1 (zA Ch).2.2.2.1 (zA Gw).2.1 (zA PN).2.1
     unfold lgR at t;rw[show ((64*(lmS n d z (b+128) K).e:Nat):Int)=64*((lmS n d z (b+128) K).e:Int) by omega,hz] at t
     exact t)
    have PR:=zC (show Abs (zN (zAF (jJ (jJ (a1,b2) (byI (a3,b3) (64*((lmS n d z (b+128) K).e:Int)) 1)) (byI (a4,b4) n d)) ((2*(q:Int)+2*(b:Int)+64)*Q (b+40),(2*(q:Int)+2*(b:Int)+64)*Q (b+40))) 40) (30000*Q b) from lg_abs (zA H) (lm_eb (zA H) Lo (by omega) (zA Pv)) hz (zA Ch).2.1.2 (zA Ch).2.2.2.2 (zA Gw).2.2 (zA PN).2.2)
    have m8:Below V6.heap.size V6 V6.drew:=(Below.refl _ _).drew;have PS:=zC (show ∀ w',Below V6.heap.size V6 w'->(cK0 w' BS v8) from λ w' hB=>⟨((zA ib).u.bw hB).c.c0,((zA ib).u.bw hB).c.c1,((zA ib).u.bw hB).c.c2,((zA ib).u.bw hB).c.c3,((zA ib).u.bw hB).c.c4⟩)
    have R:=(zA ib).r;have hBe:=(zA ib).be;have lR:=R.lt;have lBS:=(zA ib).l2;have nR:w.heap.size+1+1≠BS:=by omega
    have CV:BS≠w.heap.size+1+1:=by omega
    go_wp2_with fail
    go_region_held3 (λ w'=>cK0 w' BS v8) (first|exact zA PS _ (by with_reducible first|exact m8|exact y9|exact j9|exact j7)|(dsimp only[cK,cK0,nK,nK0,rK,rK0];go_keep)|go_keep)
     (first
      | (go_at_call 90;have H7:=j9;refine (kQ _ v10 71 (b:Int) (zAF (jJ (jJ (a1,b2) (byI (a3,b3) (64*((lmS n d z (b+128) K).e:Int)) 1)) (byI (a4,b4) n d)) ((2*(q:Int)+2*(b:Int)+64)*Q (b+40),(2*(q:Int)+2*(b:Int)+64)*Q (b+40))).1 (zAF (jJ (jJ (a1,b2) (byI (a3,b3) (64*((lmS n d z (b+128) K).e:Int)) 1)) (byI (a4,b4) n d)) ((2*(q:Int)+2*(b:Int)+64)*Q (b+40),(2*(q:Int)+2*(b:Int)+64)*Q (b+40))).2 bl (by omega) (by have:=zA nE;omega) (by have:=zA nE;omega) (by omega) (by omega)).mono ?_;rintro r' Bc ⟨v11,rfl,dQ,dy,P2⟩;rw[zA nE,show ((b+40:Nat):Int)-(b:Int)=((40:Nat):Int) by omega,kK,kK] at dy;have y9:=zB j9 P2;have Gx:=zC dQ;clear dQ;obtain⟨q0,q1,q2,q3,q4,q5⟩:=R.bw y9)
      | (go_at_call 26;have H7:=j7;refine (zC3 _ v8 v9 70 (b+40) (jJ (jJ (a1,b2) (byI (a3,b3) (64*((lmS n d z (b+128) K).e:Int)) 1)) (byI (a4,b4) n d)) ((2*(q:Int)+2*(b:Int)+64)*Q (b+40),(2*(q:Int)+2*(b:Int)+64)*Q (b+40)) ((zA ib).up.bw j7) (jv.mono (by omega)) (by omega) (zA ib).ub).mono ?_;rintro r' oB ⟨v10,rfl,sQ,bl,P6⟩;have j9:=zB j7 P6;have nE:=zC sQ;clear sQ)
      | (go_at_call 27;refine (zBN (b:=b+40) ((b:Int)+40) (by omega) _ (2*(q:Int)+2*(b:Int)+64) (by omega) (by omega) (by omega)).mono ?_;rintro r' w9 ⟨v9,rfl,Gy,jv,cn⟩;have j7:=zB m8 cn;have HVB9:=zC Gy;clear Gy))
    all_goals
     go_wp2_with fail;refine bodyPost_ret (v:=.agg v11.q) (by simp[results,Tryz.results64,go_sem,q0,q1,q2,q3,q4]) rfl ⟨(zN (zAF (jJ (jJ (a1,b2) (byI (a3,b3) (64*((lmS n d z (b+128) K).e:Int)) 1)) (byI (a4,b4) n d)) ((2*(q:Int)+2*(b:Int)+64)*Q (b+40),(2*(q:Int)+2*(b:Int)+64)*Q (b+40))) 40).1,(zN (zAF (jJ (jJ (a1,b2) (byI (a3,b3) (64*((lmS n d z (b+128) K).e:Int)) 1)) (byI (a4,b4) n d)) ((2*(q:Int)+2*(b:Int)+64)*Q (b+40),(2*(q:Int)+2*(b:Int)+64)*Q (b+40))) 40).2,zA PQ,zA PR,v11,rfl,zA Gx,?_,?_⟩
     ·exact SpAt.put5 ((show SpAt _ v11 (71+62505) (zN (zAF (jJ (jJ (a1,b2) (byI (a3,b3) (64*((lmS n d z (b+128) K).e:Int)) 1)) (byI (a4,b4) n d)) ((2*(q:Int)+2*(b:Int)+64)*Q (b+40),(2*(q:Int)+2*(b:Int)+64)*Q (b+40))) 40).1 (zN (zAF (jJ (jJ (a1,b2) (byI (a3,b3) (64*((lmS n d z (b+128) K).e:Int)) 1)) (byI (a4,b4) n d)) ((2*(q:Int)+2*(b:Int)+64)*Q (b+40),(2*(q:Int)+2*(b:Int)+64)*Q (b+40))) 40).2 from dy).mono (by omega)) q0 q1 q2 q3 q4 _ _ _ _ _
     ·exact kB (zB hBe y9) (by omega) _ _ _ _ _
def zE7 (n d:Int) (b:Nat) (X:Nat->Rat):Prop:=∀ (w':World) (x y:Nm),IntAt w' x.neg x.a x.n x.cap 20 n->IntAt w' y.neg y.a y.n y.cap 20 d->Calls Tryz.prog 64 #[.agg x.q,.agg y.q,.int .i64 b] w' (λ r Ci=>∃ lo hi,(Iv b (lo,hi) X/\Abs (lo,hi) (30000*Q b))/\zJ w' b 70000 lo hi r Ci)
theorem zDB (w:World) (p q:Int) (b:Nat) (X:Nat->Rat) (hr:rok p q) (h:zE7 p q b X) :
  Calls Tryz.prog 19 #[.agg #[.int .i64 p,.int .i64 q],.int .i64 b] w (λ r w'=>∃ lo hi,(Iv b (lo,hi) X/\Abs (lo,hi) (30000*Q b))/\zJ w b 70000 lo hi r w'):=by
 obtain⟨W,hW⟩:∃ W,W=(w.alloc (.cells #[.int .i64 p,.int .i64 q] 23)).alloc (.cells zCq 36):=⟨_,rfl⟩;have b8:Below w.heap.size w W:=by rw[hW];exact bl2 _ _ _
 have A:RaC W w.heap.size p q:=by rw[hW];constructor<;>simp[go_sem]
 have R:NoC W (w.heap.size+1):=by rw[hW];constructor<;>simp[go_sem]
 obtain⟨r1,r2,r3,r4⟩:=hr;have HL:=zC h;have lR:=R.lt;have lA:=A.lt;have HK:=zC (show ∀ w',Below W.heap.size W w'->(rK0 w' w.heap.size p q) from λ w' hB=>⟨(A.bw hB).c0,(A.bw hB).c1⟩)
 clear A h
 go_enter Tryz.func19,Tryz.ntmps19
 go_wp2;rw[<- hW];clear hW;have lq:w.heap.size+1≠w.heap.size:=by omega
 obtain⟨x0,x1⟩:=zA HK _ (Below.refl _ _);have m8:Below W.heap.size W W.drew:=(Below.refl _ _).drew
 go_region_held3 (λ w'=>rK0 w' w.heap.size p q) (first|exact zA HK _ (by with_reducible first|exact m8|exact y9|exact j9|exact j7)|(dsimp only[cK,cK0,nK,nK0,rK,rK0];go_keep)|go_keep)
  (first
   | (go_at_call 64;have H7:=j9;refine (zA HL _ ⟨g9,a1,n1,c1⟩ ⟨b6,a2,n2,c2⟩ ((k9.bw b9).mono (by omega)) (o0.mono (by omega))).mono ?_;rintro r' w3 ⟨lo,hi,DO,t,rfl,I7,Q9,k8⟩;have HT:=zC I7;have HI:=zC DO;clear I7 DO;have y9:=zB j9 k8;obtain⟨q0,q1,q2,q3,q4,q5⟩:=R.bw y9;obtain⟨i0,i1⟩:=zA HK _ y9)
   | (go_at_call 43;have H7:=j7;refine (zD q _ (by omega) (by omega)).mono ?_;rintro r' w2 ⟨b6,a2,n2,c2,rfl,o0,b9⟩;have j9:=zB j7 b9)
   | (go_at_call 43;refine (zD p _ (by omega) (by omega)).mono ?_;rintro r' w1 ⟨g9,a1,n1,c1,rfl,k9,b7⟩;have j7:=zB m8 b7))
 all_goals
  go_wp2_with fail;refine bodyPost_ret (v:=.agg t.q) (by simp[results,Tryz.results19,go_sem,q0,q1,q2,q3,q4]) rfl ⟨lo,hi,zA HI,t,rfl,zA HT,?_,?_⟩
  ·exact SpAt.put5 Q9 q0 q1 q2 q3 q4 _ _ _ _ _
  ·exact kB (zB b8 y9) (Yh _) _ _ _ _ _
theorem zH5 {L G:Rat->Nat->Rat} {X:Int->Int->Nat->Rat} (hE:zM4 L G X) {n d:Int} (h:StIn n d) {b:Nat} (b0:8<=b) (b1:b<=400):zE7 n d b (X n d):=by
 have d0:=h.d0;have n0:=h.n0;have q0:0<=n/d:=Int.ediv_nonneg (by omega) (by omega)
 have q1:n/d<202:=Int.ediv_lt_of_lt_mul d0 (by have:=h.up;omega)
 obtain⟨z,hz⟩:∃ z:Nat,(z:Int)=2*(n/d)+2*(b:Int)+64:=⟨(2*(n/d)+2*(b:Int)+64).toNat,by omega⟩
 have x2:2*n<=(z:Int)*d:=by
  have f:=kV n d0;have m:=XK (show 2*(n/d+1)<=(z:Int) by omega) (show 0<=d by omega)
  have r:2*(n/d+1)*d=2*((n/d+1)*d):=by grind
  omega
 intro w' x y hx hy
 exact (zK1 w' x y n d b z hx hy ⟨n0,d0,h.dd,h.up,b0,b1,x2,by omega,by omega⟩ hE.lns (zDN hE h) (hE.lg n d h) hz).mono λ r Ci ⟨lo,hi,h1,h3,h2⟩=>⟨lo,hi,⟨h1,h3⟩,h2⟩
end Go.Proofs.YtgmnknmjainababGreat
