/-
  Its own texts.
-/
import Derived.Deep.CutBlock
import Derived.Test.YtgmnknmjainababGreatK26
set_option maxRecDepth 100000
set_option maxHeartbeats 8000000
set_option linter.unnecessarySimpa false
set_option linter.unusedSimpArgs false
set_option linter.unusedVariables false
namespace Go.Proofs.YtgmnknmjainababGreat
open Go.RowKit
attribute [local go_sem ↓] Go.wp_at_zero Go.wp_at_succ
open Ex
theorem zJO (w:World) (x y:Nm) (n d:Int) (b z:Nat) (hx:IntAt w x.neg x.a x.n x.cap 20 n) (hy:IntAt w y.neg y.a y.n y.cap 20 d) (h:zIV n d b z) {L:Rat→Nat→Rat} {g X:Nat→Rat} (hL:Lns L) (hg:IsGam L ((n:Rat)/(d:Rat)) g) (hX:IsLog X g) (hz:(z:Int)=2*(n/d)+2*(b:Int)+64) :
  Calls Tryz.prog 64 #[.agg #[.bool x.neg,.slice x.a x.n x.cap],.agg #[.bool y.neg,.slice y.a y.n y.cap],.int .i64 b] w (fun r w'=>∃ lo hi,Iv b (lo,hi) X∧Abs (lo,hi) (30000*Q b)∧zH w b 70000 lo hi r w'):=by
 have HGL:=zC (And.intro hL (And.intro hg hX));clear hL hg hX;obtain ⟨W,hW⟩:∃ W,W=((w.alloc (.cells #[.bool x.neg,.slice x.a x.n x.cap] 26)).alloc (.cells #[.bool y.neg,.slice y.a y.n y.cap] 26)).alloc (.cells #[.bool false,.slice none 0 0,.bool false,.slice none 0 0,.int .i64 0] 36):=⟨_,rfl⟩;have hBW:Below w.heap.size w W:=by rw[hW];exact bl3 _ _ _ _
 have A:NmC W w.heap.size x:=by rw[hW];constructor <;> simp[go_sem]
 have D:NmC W (w.heap.size+1) y:=by rw[hW];constructor <;> simp[go_sem]
 have R:NoC W (w.heap.size+1+1):=by rw[hW];constructor <;> simp[go_sem]
 have HX:=zC (hx.bw hBW);have HY:=zC (hy.bw hBW);have b0:=h.b0;have b1:=h.b1;have z1:=h.x1;have d0:=h.d0;have H:=zC h;have hw0:0≤n/d:=Int.ediv_nonneg (by have:=h.n0;omega) (by omega)
 obtain ⟨q,hq⟩:∃ q:Nat,n/d=(q:Int):=⟨(n/d).toNat,by omega⟩
 have HQ:=zC hq;rw[hq] at hz;have lA:=A.lt;have lD:=D.lt;have lR:=R.lt;have fA0:=A.c0;have fA1:=A.c1;have fD0:=D.c0;have fD1:=D.c1;clear h hx hy hq hw0
 go_enter Tryz.func64,Tryz.ntmps64
 go_wp2_with fail;rw[← hW];clear hW fA0 fA1 fD0 fD1;refine (kO _ _ _ _ _ _ _ _ 20 20 n d _ (zA HX) (zA HY) (by omega) d0).mono ?_
 rintro r w2 ⟨neg2,a2,n2,c2,rfl,hZ2,hb2⟩;rw[zA HQ] at hZ2;replace A:=A.bw hb2;replace D:=D.bw hb2;replace R:=R.bw hb2;replace hBW:=zB hBW hb2;replace HX:=zC ((zA HX).bw hb2);replace HY:=zC ((zA HY).bw hb2);clear hb2 lA lD lR;obtain ⟨g,dg,dtop,dneg,dk,dz⟩:=hZ2
 have hV:V g n2=(q:Int):=by
  have hv:=jB dg.dgs n2
  cases neg2
  ·simp[sgn] at dz;omega
  ·simp[sgn] at dz;omega
 obtain ⟨V2,hV2⟩:∃ V2,V2=w2.alloc (.cells #[.bool neg2,.slice a2 n2 c2] 26):=⟨_,rfl⟩;have bV2:Below w2.heap.size w2 V2:=by rw[hV2];exact bl1 _ _
 have D2:NmC V2 w2.heap.size ⟨neg2,a2,n2,c2⟩:=by rw[hV2];exact yS w2 ⟨neg2,a2,n2,c2⟩ _
 have dg2:=dg.bw bV2;have HDG:=zC dg2;replace A:=A.bw bV2;replace D:=D.bw bV2;replace R:=R.bw bV2;replace hBW:=zB hBW bV2;replace HX:=zC ((zA HX).bw bV2);replace HY:=zC ((zA HY).bw bV2);have hdgs:=zC dg.dgs;have hroom:=dg.room;have HV:=zC hV;have lA:=A.lt;have lD:=D.lt;have lR:=R.lt;have lD2:=D2.lt;have HD2:=zC D2;have d0':=D2.c0;have d1':=D2.c1;clear dg dg2 dtop dneg dk dz hV bV2 D2;go_wp2_with fail;rw[← hV2];clear hV2
 go_loop [8,9] (fun nn ii=>∃ j:Nat,nn=.int .i64 (Tp g j n2)∧ii=.int .i64 ((j:Int)-1)∧j≤n2) (fun _ ii=>(intOf ii+1).toNat)
 case atStart=>exact ⟨n2,by rw[zFH],rfl,Nat.le_refl _⟩
 case round =>
  obtain ⟨j,rfl,rfl,hj⟩:=hrel
  by_cases hj0:0<j
  ·obtain ⟨m,rfl⟩:∃ m,j=m+1:=⟨j-1,by omega⟩
   have em:(((m+1:Nat):Int)-1)=(m:Int):=by omega
   rw[em];obtain ⟨bb,off,ha,hlt,hcell⟩:=(zA HDG).at_ (by omega)
   have hc:=hcell m (by omega)
   have hm2:(m:Int)<(n2:Int):=by omega
   have t1:=zAD (zA hdgs) (m+1) n2;have t2:=Tp_le (zA hdgs) (m+1) n2 (by omega)
   have t3:=zA HV;obtain ⟨g1,g2⟩:=zA hdgs m;have t4:=zB5 g m n2 (by omega)
   have HT4:=zC t4;have t5:Tp g (m+1) n2≤2000:=by omega
   subst ha;clear hcell em t2 t3 t4;go_wp2_with fail
   go_round
   case rel =>
    refine ⟨m,?_,?_,by omega⟩
    ·rw[zA HT4,Int.add_comm]
    ·rfl
   case measure=>simp[intOf]
  ·have hj1:j=0:=by omega
   subst hj1;rw[zCH,zA HV];have x0:=A.c0;have x1:=A.c1;have y0:=D.c0;have y1:=D.c1;have lA3:=A.lt;have lR3:=R.lt;clear d0' d1' hj hj0;have HE1:=zC (show IntKind.i64.wrap (2*(q:Int)+2*(b:Int)+64)=(z:Int) by rw[jO _ (by omega) (by omega)];omega)
   have HE2:=zC (show IntKind.i64.wrap ((b:Int)+128)=((b+128:Nat):Int) by rw[jO _ (by omega) (by omega)];omega)
   go_wp2_with fail;clear x0 x1 y0 y1 HE1 HE2;refine (zGF ((b:Int)+128) (b:=b+128) (by omega) y x 20 20 d n _ (zA HY) (zA HX) (by omega) (by omega) (by omega) (zA H).n0).mono ?_
   rintro r w3 ⟨t3,rfl,htb3,hp3,hb3⟩;have HTB3:=zC htb3;clear htb3;replace A:=A.bw hb3;replace D:=D.bw hb3;replace R:=R.bw hb3;replace hBW:=zB hBW hb3;replace HX:=zC ((zA HX).bw hb3);replace HY:=zC ((zA HY).bw hb3);clear hb3 lA lD lR lD2 lA3 lR3 HD2 HDG hdgs hroom HV;have lR:=R.lt;have lA:=A.lt;have nA1:w.heap.size≠w3.heap.size:=by omega
   have nA2:w.heap.size≠w3.heap.size+1:=by omega
   have x0:=A.c0;have x1:=A.c1;obtain ⟨V3,hV3⟩:∃ V,V=((w3.alloc (.cells #[.bool t3.ln,.slice t3.la t3.lN t3.lc,.bool t3.hn,.slice t3.ha t3.hN t3.hc,.int .i64 t3.bits] 36)).alloc (.cells #[.bool t3.ln,.slice t3.la t3.lN t3.lc,.bool t3.hn,.slice t3.ha t3.hN t3.hc,.int .i64 t3.bits] 36)).alloc (.cells #[.bool x.neg,.slice x.a x.n x.cap] 26):=⟨_,rfl⟩;have bV3:Below w3.heap.size w3 V3:=by rw[hV3];exact bl3 _ _ _ _
   have st0:LmW w V3 x y n d w3.heap.size (w3.heap.size+1) (w3.heap.size+1+1) t3 t3 x (b+128) 0 100 (lmS n d z (b+128) 0).T (lmS n d z (b+128) 0).U :=
    ⟨A.bw bV3,D.bw bV3,(zA HX).bw bV3,(zA HY).bw bV3,by rw[hV3];exact ⟨⟨by simp[go_sem],by simp[go_sem],by simp[go_sem],by simp[go_sem],by simp[go_sem]⟩,fun o=>by simp[go_sem]⟩,by rw[hV3];exact ⟨⟨by simp[go_sem],by simp[go_sem],by simp[go_sem],by simp[go_sem],by simp[go_sem]⟩,fun o=>by simp[go_sem]⟩,by rw[hV3];exact ⟨⟨by simp[go_sem],by simp[go_sem]⟩,fun o=>by simp[go_sem]⟩,zA HTB3,zA HTB3,(hp3.bw bV3).mono (by omega),(hp3.bw bV3).mono (by omega),by rw[show n+((0:Nat):Int)*d=n by omega];exact (zA HX).bw bV3,R.bw bV3,zB hBW bV3,lR,by omega,by omega,by omega,by omega,by omega⟩
   go_upto_block 2 with fail
   rw[← hV3];clear lA nA1 nA2 hV3 bV3 HTB3 hp3 x0 x1 A D R hBW HX HY;obtain ⟨BT,hBT⟩:∃ B,B=w3.heap.size:=⟨_,rfl⟩;obtain ⟨BU,hBU⟩:∃ B',B'=w3.heap.size+1:=⟨_,rfl⟩;obtain ⟨BA,hBA⟩:∃ B',B'=w3.heap.size+1+1:=⟨_,rfl⟩;rw[← hBA,← hBU,← hBT] at st0 ⊢;clear hBT hBU hBA lR;obtain ⟨K,hK1,hK2,hK3,hK4⟩:=lm_ends (m:=b+128) (zA H) rfl;have HK3:=zC hK3;have HK4:=zC hK4;clear hK3 hK4
   go_cut [15,16] (fun ss kk wx=>∃ (T U:Sp) (A:Nm),ss=.int .i64 (64*((lmS n d z (b+128) K).e:Int))∧LmW w wx x y n d BT BU BA T U A (b+128) K 100 (lmS n d z (b+128) K).T (lmS n d z (b+128) K).U)
   case first =>
    go_wp2_with fail
    go_loopw [15,16] (fun ss kk wr=>∃ (k:Nat) (T U:Sp) (A:Nm),ss=.int .i64 (64*((lmS n d z (b+128) k).e:Int))∧kk=.int .i64 ((k:Int)+1)∧k<K∧LmW w wr x y n d BT BU BA T U A (b+128) k 100 (lmS n d z (b+128) k).T (lmS n d z (b+128) k).U) (fun _ kk _=>K-(intOf kk-1).toNat)
    case atStart=>exact ⟨0,t3,t3,x,by simp[lmS],rfl,by omega,st0⟩
    case round =>
     obtain ⟨k,T,U,A,rfl,rfl,hk,st⟩:=hrel;clear st0;have HS:=zC st;have he:=lm_e n d z (b+128) k;have hk1:(k:Int)+1<16*(2*(q:Int)+2*(b:Int)+64):=by omega
     obtain ⟨⟨g0,g1⟩,gf⟩:=st.at_;have lA:=st.at_.lt;have lY:=st.y.lt;have h0:=st.y.c0;have h1:=st.y.c1;clear st;go_wp2_with fail;refine (yQ _ _ _ _ _ _ _ _ (k+20) 20 (n+(k:Int)*d) d _ (zA HS).ap (zA HS).iy (by omega) (by omega)).mono ?_
     rintro r' w5 ⟨neg5,a5,n5,c5,rfl,hZ5,hb5⟩;rw[lm_at] at hZ5;have s1:=((zA HS).bw hb5).putA (A':=⟨neg5,a5,n5,c5⟩) (hZ5.mono (by omega))
     have z5:=(zA HS).at_.bw hb5;have lz5:=z5.lt;obtain ⟨⟨g0',g1'⟩,gf'⟩:=z5;clear hZ5 hb5 g0 g1 gf h0 h1 HS lA lY;obtain ⟨V1,hV1⟩:∃ V,V=zAM w5 BA ⟨neg5,a5,n5,c5⟩:=⟨_,rfl⟩;rw[← hV1] at s1;unfold zAM at hV1;have HS1:=zC s1;have HPOS:=zC (lm_pos (zA H) (k+1));clear s1;go_wp2_with fail;rw[← hV1];clear hV1 g0' g1' gf' lz5;have hE0:Below V1.heap.size V1 V1.drew:=(Below.refl _ _).drew;have HK17:=zC (show ∀ w',Below V1.heap.size V1 w'→(w'.cell? ⟨BT,0,none⟩=some (.bool T.ln)∧w'.cell? ⟨BT,1,none⟩=some (.slice T.la T.lN T.lc)∧w'.cell? ⟨BT,2,none⟩=some (.bool T.hn)∧w'.cell? ⟨BT,3,none⟩=some (.slice T.ha T.hN T.hc)∧w'.cell? ⟨BT,4,none⟩=some (.int .i64 T.bits)∧w'.cell? ⟨(w.heap.size+1),0,none⟩=some (.bool y.neg)∧w'.cell? ⟨(w.heap.size+1),1,none⟩=some (.slice y.a y.n y.cap)∧w'.cell? ⟨BA,0,none⟩=some (.bool neg5)∧w'.cell? ⟨BA,1,none⟩=some (.slice a5 n5 c5)) from fun w' hB=>⟨((zA HS1).t.bw hB).c.c0,((zA HS1).t.bw hB).c.c1,((zA HS1).t.bw hB).c.c2,((zA HS1).t.bw hB).c.c3,((zA HS1).t.bw hB).c.c4,((zA HS1).y.bw hB).c0,((zA HS1).y.bw hB).c1,((zA HS1).at_.bw hB).c.c0,((zA HS1).at_.bw hB).c.c1⟩)
     refine AnyL.start (S:=fun w'=>w'.cell? ⟨BT,0,none⟩=some (.bool T.ln)∧w'.cell? ⟨BT,1,none⟩=some (.slice T.la T.lN T.lc)∧w'.cell? ⟨BT,2,none⟩=some (.bool T.hn)∧w'.cell? ⟨BT,3,none⟩=some (.slice T.ha T.hN T.hc)∧w'.cell? ⟨BT,4,none⟩=some (.int .i64 T.bits)∧w'.cell? ⟨(w.heap.size+1),0,none⟩=some (.bool y.neg)∧w'.cell? ⟨(w.heap.size+1),1,none⟩=some (.slice y.a y.n y.cap)∧w'.cell? ⟨BA,0,none⟩=some (.bool neg5)∧w'.cell? ⟨BA,1,none⟩=some (.slice a5 n5 c5)) (l:=7) (by kernel_rfl) (zA HK17 _ hE0) (fun hHeld=>?_)
     refine AnyL.take (i:=0) (oi:={ dst:=some 63,op:=Go.Op.load 36 (Go.Operand.tmp 12),type:=36,pos := "func.go:198",after:=#[],guard:=none }) (v:=.agg #[.bool T.ln,.slice T.la T.lN T.lc,.bool T.hn,.slice T.ha T.hN T.hc,.int .i64 T.bits]) rfl (by kernel_rfl) (by kernel_rfl) (by kernel_rfl) (by kernel_rfl) (fun _ _ _ h=>h) (Or.inl ⟨by rfl,fun w hSw=>?_⟩) hHeld ?_
     ·obtain ⟨s0,s1,s2,s3,s4,s5,s6,s7,s8⟩:=hSw;go_simp
     try simp only[Act.put,List.setIfInBounds_toArray,List.set_cons_zero,List.set_cons_succ]
     refine AnyL.take (i:=1) (oi:={ dst:=some 64,op:=Go.Op.move (Go.Operand.tmp 10),type:=3,pos := "func.go:198",after:=#[],guard:=none }) (v:=.int .i64 (2*(q:Int)+2*(b:Int)+64)) rfl (by kernel_rfl) (by kernel_rfl) (by kernel_rfl) (by kernel_rfl) (fun _ _ _ h=>h) (Or.inl ⟨by rfl,fun w hSw=>?_⟩) hHeld ?_
     ·obtain ⟨s0,s1,s2,s3,s4,s5,s6,s7,s8⟩:=hSw;go_simp
     try simp only[Act.put,List.setIfInBounds_toArray,List.set_cons_zero,List.set_cons_succ]
     refine AnyL.take (i:=3) (oi:={ dst:=some 66,op:=Go.Op.load 26 (Go.Operand.tmp 4),type:=26,pos := "func.go:198",after:=#[],guard:=none }) (v:=.agg #[.bool y.neg,.slice y.a y.n y.cap]) rfl (by kernel_rfl) (by kernel_rfl) (by kernel_rfl) (by kernel_rfl) (fun _ _ _ h=>h) (Or.inl ⟨by rfl,fun w hSw=>?_⟩) hHeld ?_
     ·obtain ⟨s0,s1,s2,s3,s4,s5,s6,s7,s8⟩:=hSw;go_simp
     try simp only[Act.put,List.setIfInBounds_toArray,List.set_cons_zero,List.set_cons_succ]
     refine AnyL.take (i:=5) (oi:={ dst:=some 68,op:=Go.Op.load 26 (Go.Operand.tmp 14),type:=26,pos := "func.go:198",after:=#[],guard:=none }) (v:=.agg #[.bool neg5,.slice a5 n5 c5]) rfl (by kernel_rfl) (by kernel_rfl) (by kernel_rfl) (by kernel_rfl) (fun _ _ _ h=>h) (Or.inl ⟨by rfl,fun w hSw=>?_⟩) hHeld ?_
     ·obtain ⟨s0,s1,s2,s3,s4,s5,s6,s7,s8⟩:=hSw;go_simp
     try simp only[Act.put,List.setIfInBounds_toArray,List.set_cons_zero,List.set_cons_succ]
     refine AnyL.one (i:=2) (o:={ dst:=some 65,op:=Go.Op.call { callee:=Go.Callee.value (Go.Operand.func 43),args:=#[Go.Operand.tmp 64],argTypes:=#[3] },type:=26,pos := "func.go:198",after:=#[{ on:=1,ground:=Go.Ground.data }],guard:=none }) (by kernel_rfl) rfl (fun Kc hKc=>?_)
     go_simp
     refine (zD (2*(q:Int)+2*(b:Int)+64) _ (by omega) (by omega)).mono ?_
     rintro r' w6 ⟨neg6,a6,n6,c6,rfl,hZ6,hb6⟩;have hE1:=zB hE0 hb6;clear hb6;go_wp2_with fail;refine hKc.out _ _ (zA HK17 _ hE1) (fun hHeld=>?_)
     clear hKc Kc
     try simp only[Act.put,List.setIfInBounds_toArray,List.set_cons_zero,List.set_cons_succ]
     refine AnyL.one (i:=4) (o:={ dst:=some 67,op:=Go.Op.call { callee:=Go.Callee.value (Go.Operand.func 66),args:=#[Go.Operand.tmp 65,Go.Operand.tmp 66],argTypes:=#[26,26] },type:=26,pos := "func.go:198",after:=#[{ on:=2,ground:=Go.Ground.data },{ on:=3,ground:=Go.Ground.data },{ on:=2,ground:=Go.Ground.chain }],guard:=none }) (by kernel_rfl) rfl (fun Kc hKc=>?_)
     go_simp
     refine (zX _ _ _ _ _ _ _ _ 4 20 (2*(q:Int)+2*(b:Int)+64) d _ hZ6 ((zA HS1).iy.bw hE1) (by omega) (by omega)).mono ?_
     rintro r' w7 ⟨neg7,a7,n7,c7,rfl,hZ7,hb7⟩;have hE2:=zB hE1 hb7;clear hb7 hZ6;go_wp2_with fail;refine hKc.out _ _ (zA HK17 _ hE2) (fun hHeld=>?_)
     clear hKc Kc
     try simp only[Act.put,List.setIfInBounds_toArray,List.set_cons_zero,List.set_cons_succ]
     refine AnyL.one (i:=6) (o:={ dst:=some 69,op:=Go.Op.call { callee:=Go.Callee.value (Go.Operand.func 56),args:=#[Go.Operand.tmp 63,Go.Operand.tmp 67,Go.Operand.tmp 68],argTypes:=#[36,26,26] },type:=36,pos := "func.go:198",after:=#[{ on:=0,ground:=Go.Ground.data },{ on:=4,ground:=Go.Ground.data },{ on:=5,ground:=Go.Ground.data },{ on:=4,ground:=Go.Ground.chain }],guard:=none }) (by kernel_rfl) rfl (fun Kc hKc=>?_)
     go_simp
     refine (zEA _ T ⟨neg7,a7,n7,c7⟩ ⟨neg5,a5,n5,c5⟩ 100 24 (k+1+20) (b+128) (lmS n d z (b+128) k).T ((2*(q:Int)+2*(b:Int)+64)*d) (n+((k+1:Nat):Int)*d) ((zA HS1).tp.bw hE2) hZ7 ((zA HS1).ap.bw hE2) (by omega) (by omega) (by omega) (zA HPOS) (zA HS1).tb).mono ?_
     rintro r' w8 ⟨t8,rfl,htb8,hp8,hb8⟩;have hE3:=zB hE2 hb8;have HTB8:=zC htb8;clear hb8 hZ7 htb8;go_wp2_with fail;refine hKc.out _ _ (zA HK17 _ hE3) (fun hHeld=>?_)
     clear hKc Kc
     try simp only[Act.put,List.setIfInBounds_toArray,List.set_cons_zero,List.set_cons_succ]
     have VT:=(zA HS1).t.bw hE3;have lT:=VT.lt;obtain ⟨⟨z0,z1,z2,z3,z4⟩,zf⟩:=VT;refine AnyL.last (o:={ dst:=none,op:=Go.Op.store 36 (Go.Operand.tmp 12) (Go.Operand.tmp 69),type:=0,pos := "func.go:198",after:=#[{ on:=6,ground:=Go.Ground.data },{ on:=6,ground:=Go.Ground.chain },{ on:=0,ground:=Go.Ground.phase },{ on:=1,ground:=Go.Ground.phase },{ on:=2,ground:=Go.Ground.phase },{ on:=3,ground:=Go.Ground.phase },{ on:=4,ground:=Go.Ground.phase },{ on:=5,ground:=Go.Ground.phase },{ on:=6,ground:=Go.Ground.phase }],guard:=none }) (by kernel_rfl) rfl (by kernel_rfl) (fun Kc hKc=>?_)
     go_simp
     refine hKc.out _ _ ?_;clear hKc Kc z0 z1 z2 z3 z4 zf HK17;have ok0:=zD5 (m:=b+128) (zA H) rfl k (by omega)
     have mid:=lm_mid (zA H) rfl ok0;rw[lm_by (zA H) ok0 (by omega)] at hp8
     obtain ⟨f1,f2,f3,f4⟩:=lm_fit mid (by omega)
     have s2:=((zA HS1).bw hE3).putT (T':=t8) (zA HTB8) (hp8.fits mid.tl f3 f1);obtain ⟨V2x,hV2x⟩:∃ V,V=zP w8 BT t8:=⟨_,rfl⟩;rw[← hV2x] at s2;unfold zP at hV2x;rw[← hV2x];have HMID:=zC mid;have HFIT:=zC (And.intro f1 (And.intro f2 (And.intro f3 f4)));have HS2:=zC s2;obtain ⟨⟨u0,u1,u2,u3,u4⟩,uf⟩:=s2.u;obtain ⟨⟨v0,v1,v2,v3,v4⟩,vf⟩:=s2.t;have lU:=s2.u.lt;have lT2:=s2.t.lt;clear hV2x hp8 hE3 HTB8 hE0 hE1 hE2 HS1 ok0 mid f1 f2 f3 f4 s2 lT
     go_upto_region 18 with fail
     go_cut [] (fun wx=>∃ U':Sp,LmW w wx x y n d BT BU BA t8 U' ⟨neg5,a5,n5,c5⟩ (b+128) (k+1) 100 (lmT n d z k (lmS n d z (b+128) k).T) (jJ (lmS n d z (b+128) k).U (lmT n d z k (lmS n d z (b+128) k).T)))
     case first =>
      go_wp2_with fail;refine (yB _ U t8 100 (b+128) (lmS n d z (b+128) k).U (lmT n d z k (lmS n d z (b+128) k).T) (zA HS2).up (zA HS2).tp (by omega) (zA HS2).ub).mono ?_
      rintro r' w9 ⟨u9,rfl,hub9,hp9,hb9⟩;have z9:=(zA HS2).u.bw hb9;have lz9:=z9.lt;have s3:=((zA HS2).bw hb9).putU (U':=u9) hub9 (hp9.fits (zA HMID).ul (zA HFIT).2.2.2 (zA HFIT).2.1);unfold zP at s3;have HS3:=zC s3;clear u0 u1 u2 u3 u4 uf v0 v1 v2 v3 v4 vf lU lT2 s3 hp9 hb9 hub9;obtain ⟨⟨u0,u1,u2,u3,u4⟩,uf⟩:=z9;go_wp2_with fail;go_meet;exact ⟨u9,zA HS3⟩
     case rest =>
     obtain ⟨U2,hS3⟩:=hcut;have HS3:=zC hS3;obtain ⟨V3x,h3x⟩:∃ V,V=wc:=⟨_,rfl⟩;subst h3x;clear u0 u1 u2 u3 u4 uf v0 v1 v2 v3 v4 vf lU lT2 HS2;have lU:=hS3.u.lt;obtain ⟨⟨u0,u1,u2,u3,u4⟩,uf⟩:=hS3.u;clear hS3;have hE1:IntKind.i64.wrap ((b:Int)+128+128)=(b:Int)+128+128:=jO _ (by omega) (by omega)
     go_wp2_with fail;refine (zBM _ _ _ _ 100 (jJ (lmS n d z (b+128) k).U (lmT n d z k (lmS n d z (b+128) k).T)).2 _ (zA HS3).up.hi (by have:=(zA HMID).u1;have:=(zA HMID).ul;omega)).mono ?_
     rintro r' w10 ⟨l,hl,rfl,hb10⟩;have s4:=(zA HS3).bw hb10;have HS4:=zC s4;have hlen:=lm_len (m:=b+128) hl (by have:=(zA HMID).u1;have:=(zA HMID).ul;omega)
     clear u0 u1 u2 u3 u4 uf lU HS3 hb10
     go_upto_if 78 with fail
     go_cut [15] (fun ss wx=>∃ T' U':Sp,ss=.int .i64 (64*((lmS n d z (b+128) (k+1)).e:Int))∧LmW w wx x y n d BT BU BA T' U' ⟨neg5,a5,n5,c5⟩ (b+128) (k+1) 100 (lmS n d z (b+128) (k+1)).T (lmS n d z (b+128) (k+1)).U)
     case first =>
      by_cases hg:Q (b+128+128)≤(jJ (lmS n d z (b+128) k).U (lmT n d z k (lmS n d z (b+128) k).T)).2
      ·have hl1:(b:Int)+128+128<l:=by have:=hlen.2 hg;omega
       have HG:=zC hg;clear hlen hg hl s4;go_wp2_with fail;have hG0:Below w10.heap.size w10 w10.drew:=(Below.refl _ _).drew;have HK20:=zC (show ∀ w',Below w10.heap.size w10 w'→((w'.cell? ⟨BT,0,none⟩=some (.bool t8.ln)∧w'.cell? ⟨BT,1,none⟩=some (.slice t8.la t8.lN t8.lc)∧w'.cell? ⟨BT,2,none⟩=some (.bool t8.hn)∧w'.cell? ⟨BT,3,none⟩=some (.slice t8.ha t8.hN t8.hc)∧w'.cell? ⟨BT,4,none⟩=some (.int .i64 t8.bits))∧(w'.cell? ⟨BU,0,none⟩=some (.bool U2.ln)∧w'.cell? ⟨BU,1,none⟩=some (.slice U2.la U2.lN U2.lc)∧w'.cell? ⟨BU,2,none⟩=some (.bool U2.hn)∧w'.cell? ⟨BU,3,none⟩=some (.slice U2.ha U2.hN U2.hc)∧w'.cell? ⟨BU,4,none⟩=some (.int .i64 U2.bits))) from fun w' hB=>⟨⟨((zA HS4).t.bw hB).c.c0,((zA HS4).t.bw hB).c.c1,((zA HS4).t.bw hB).c.c2,((zA HS4).t.bw hB).c.c3,((zA HS4).t.bw hB).c.c4⟩,⟨((zA HS4).u.bw hB).c.c0,((zA HS4).u.bw hB).c.c1,((zA HS4).u.bw hB).c.c2,((zA HS4).u.bw hB).c.c3,((zA HS4).u.bw hB).c.c4⟩⟩)
       refine AnyS.start (S:=fun j w'=>(j=2∨j=4∨j=5∨(w'.cell? ⟨BT,0,none⟩=some (.bool t8.ln)∧w'.cell? ⟨BT,1,none⟩=some (.slice t8.la t8.lN t8.lc)∧w'.cell? ⟨BT,2,none⟩=some (.bool t8.hn)∧w'.cell? ⟨BT,3,none⟩=some (.slice t8.ha t8.hN t8.hc)∧w'.cell? ⟨BT,4,none⟩=some (.int .i64 t8.bits)))∧(j=5∨(w'.cell? ⟨BU,0,none⟩=some (.bool U2.ln)∧w'.cell? ⟨BU,1,none⟩=some (.slice U2.la U2.lN U2.lc)∧w'.cell? ⟨BU,2,none⟩=some (.bool U2.hn)∧w'.cell? ⟨BU,3,none⟩=some (.slice U2.ha U2.hN U2.hc)∧w'.cell? ⟨BU,4,none⟩=some (.int .i64 U2.bits)))) (by kernel_rfl) ?_
       refine AnyS.take (i:=2) (oi:={ dst:=some 81,op:=Go.Op.load 36 (Go.Operand.tmp 13),type:=36,pos := "func.go:201",after:=#[],guard:=none }) (v:=.agg #[.bool U2.ln,.slice U2.la U2.lN U2.lc,.bool U2.hn,.slice U2.ha U2.hN U2.hc,.int .i64 U2.bits]) (T:=fun w'=>w'.cell? ⟨BU,0,none⟩=some (.bool U2.ln)∧w'.cell? ⟨BU,1,none⟩=some (.slice U2.la U2.lN U2.lc)∧w'.cell? ⟨BU,2,none⟩=some (.bool U2.hn)∧w'.cell? ⟨BU,3,none⟩=some (.slice U2.ha U2.hN U2.hc)∧w'.cell? ⟨BU,4,none⟩=some (.int .i64 U2.bits)) rfl (by kernel_rfl) (by kernel_rfl) (by kernel_rfl) (fun _ _ _ h=>h) 5 1 (fun j hl hj w h=>h.2.elim (fun e=>absurd e (by omega)) id) (by kernel_rfl) (fun w h=>⟨Or.inl rfl,Or.inr h⟩) (Or.inl ⟨by rfl,fun w hSw=>?_⟩) (zA HK20 _ hG0).2 ?_
       ·obtain ⟨s0,s1,s2,s3,s4⟩:=hSw;go_simp
       try simp only[Act.put,List.setIfInBounds_toArray,List.set_cons_zero,List.set_cons_succ]
       refine AnyS.take (i:=0) (oi:={ dst:=some 79,op:=Go.Op.load 36 (Go.Operand.tmp 12),type:=36,pos := "func.go:201",after:=#[],guard:=none }) (v:=.agg #[.bool t8.ln,.slice t8.la t8.lN t8.lc,.bool t8.hn,.slice t8.ha t8.hN t8.hc,.int .i64 t8.bits]) (T:=fun w'=>(w'.cell? ⟨BT,0,none⟩=some (.bool t8.ln)∧w'.cell? ⟨BT,1,none⟩=some (.slice t8.la t8.lN t8.lc)∧w'.cell? ⟨BT,2,none⟩=some (.bool t8.hn)∧w'.cell? ⟨BT,3,none⟩=some (.slice t8.ha t8.hN t8.hc)∧w'.cell? ⟨BT,4,none⟩=some (.int .i64 t8.bits))∧(w'.cell? ⟨BU,0,none⟩=some (.bool U2.ln)∧w'.cell? ⟨BU,1,none⟩=some (.slice U2.la U2.lN U2.lc)∧w'.cell? ⟨BU,2,none⟩=some (.bool U2.hn)∧w'.cell? ⟨BU,3,none⟩=some (.slice U2.ha U2.hN U2.hc)∧w'.cell? ⟨BU,4,none⟩=some (.int .i64 U2.bits))) rfl (by kernel_rfl) (by kernel_rfl) (by kernel_rfl) (fun _ _ _ h=>h) 4 2 (fun j hl hj w h=>⟨h.1.elim (fun e=>absurd hl (by rw[e];decide)) (fun h=>h.elim (fun e=>absurd e (by omega)) (fun h=>h.elim (fun e=>absurd e (by omega)) id)),h.2.elim (fun e=>absurd e (by omega)) id⟩) (by kernel_rfl) (fun w h=>⟨Or.inr (Or.inr (Or.inr h.1)),Or.inr h.2⟩) (Or.inl ⟨by rfl,fun w hSw=>?_⟩) (zA HK20 _ hG0) ?_
       ·obtain ⟨⟨s0,s1,s2,s3,s4⟩,s5⟩:=hSw;go_simp
       try simp only[Act.put,List.setIfInBounds_toArray,List.set_cons_zero,List.set_cons_succ]
       refine AnyS.one (i:=1) (o:={ dst:=some 80,op:=Go.Op.call { callee:=Go.Callee.value (Go.Operand.func 121),args:=#[Go.Operand.tmp 79,Go.Operand.const (Go.Value.int Go.IntKind.i64 64)],argTypes:=#[36,3] },type:=36,pos := "func.go:201",after:=#[{ on:=0,ground:=Go.Ground.data }],guard:=none }) (by kernel_rfl) rfl (fun Kc hKc=>?_)
       go_simp
       refine (zHQ _ t8 100 (b+128) (lmT n d z k (lmS n d z (b+128) k).T) ((zA HS4).tp.bw hG0) (zA HMID).tl (by omega) (zA HS4).tb).mono ?_
       rintro r' w11 ⟨t11,rfl,htb11,hp11,hb11⟩;have hG1:=zB hG0 hb11;have HTB11:=zC htb11;clear hb11 htb11;go_wp2_with fail;refine hKc.out _ _ ⟨Or.inr (Or.inr (Or.inr (zA HK20 _ hG1).1)),Or.inr (zA HK20 _ hG1).2⟩ (fun _=>?_)
       clear hKc Kc
       try simp only[Act.put,List.setIfInBounds_toArray,List.set_cons_zero,List.set_cons_succ]
       refine AnyS.one (i:=3) (o:={ dst:=some 82,op:=Go.Op.call { callee:=Go.Callee.value (Go.Operand.func 121),args:=#[Go.Operand.tmp 81,Go.Operand.const (Go.Value.int Go.IntKind.i64 64)],argTypes:=#[36,3] },type:=36,pos := "func.go:201",after:=#[{ on:=2,ground:=Go.Ground.data },{ on:=1,ground:=Go.Ground.chain }],guard:=none }) (by kernel_rfl) rfl (fun Kc hKc=>?_)
       go_simp
       refine (zHQ _ U2 100 (b+128) (jJ (lmS n d z (b+128) k).U (lmT n d z k (lmS n d z (b+128) k).T)) ((zA HS4).up.bw hG1) (zA HMID).ul (by omega) (zA HS4).ub).mono ?_
       rintro r' w12 ⟨u12,rfl,hub12,hp12,hb12⟩;have hG2:=zB hG1 hb12;replace hp11:=hp11.bw hb12;have HUB12:=zC hub12;clear hb12 hub12;go_wp2_with fail;refine hKc.out _ _ ⟨Or.inr (Or.inr (Or.inr (zA HK20 _ hG2).1)),Or.inr (zA HK20 _ hG2).2⟩ (fun _=>?_)
       clear hKc Kc
       try simp only[Act.put,List.setIfInBounds_toArray,List.set_cons_zero,List.set_cons_succ]
       have VT:=(zA HS4).t.bw hG2;have VU:=(zA HS4).u.bw hG2;have lT:=VT.lt;have lU:=VU.lt;have VU2:VrC (zP w12 BT t11) BU U2:=VU.off (Ne.symm (zA HS4).n1) _;unfold zP at VU2;obtain ⟨⟨z0,z1,z2,z3,z4⟩,zf⟩:=VT;refine AnyS.one (i:=4) (o:={ dst:=none,op:=Go.Op.store 36 (Go.Operand.tmp 12) (Go.Operand.tmp 80),type:=0,pos := "func.go:201",after:=#[{ on:=1,ground:=Go.Ground.data },{ on:=3,ground:=Go.Ground.chain },{ on:=0,ground:=Go.Ground.phase },{ on:=1,ground:=Go.Ground.phase },{ on:=2,ground:=Go.Ground.textOnly Go.Departure.lateStores },{ on:=3,ground:=Go.Ground.textOnly Go.Departure.lateStoresUnsure }],guard:=none }) (by kernel_rfl) rfl (fun Kc hKc=>?_)
       go_simp
       refine hKc.out _ _ ⟨Or.inr (Or.inl rfl),Or.inr ⟨VU2.c.c0,VU2.c.c1,VU2.c.c2,VU2.c.c3,VU2.c.c4⟩⟩ (fun _=>?_)
       clear hKc Kc z0 z1 z2 z3 z4 zf
       try simp only[Act.put,List.setIfInBounds_toArray,List.set_cons_zero,List.set_cons_succ]
       have lU2:=VU2.lt;obtain ⟨⟨z0,z1,z2,z3,z4⟩,zf⟩:=VU2;refine AnyS.last (o:={ dst:=none,op:=Go.Op.store 36 (Go.Operand.tmp 13) (Go.Operand.tmp 82),type:=0,pos := "func.go:201",after:=#[{ on:=3,ground:=Go.Ground.data },{ on:=4,ground:=Go.Ground.chain },{ on:=0,ground:=Go.Ground.phase },{ on:=1,ground:=Go.Ground.phase },{ on:=2,ground:=Go.Ground.phase },{ on:=3,ground:=Go.Ground.phase },{ on:=4,ground:=Go.Ground.phase }],guard:=none }) (by kernel_rfl) rfl (by kernel_rfl) (fun _=>⟨Or.inr (Or.inr (Or.inl rfl)),Or.inl rfl⟩) (fun Kc hKc=>?_)
       go_simp
       refine hKc.out _ _ ?_;clear hKc Kc z0 z1 z2 z3 z4 zf VU HK20;have eN:=lm_great (zA HG);have ok1:=zD5 (m:=b+128) (zA H) rfl (k+1) (by omega)
       rw[eN] at ok1;obtain ⟨f1,f2,f3,f4⟩:=zLC ok1 (by omega)
       have s5:=((zA HS4).bw hG2).putB (T':=t11) (U':=u12) (zA HTB11) (hp11.fits ok1.tl f3 f1) (zA HUB12) (hp12.fits ok1.ul f4 f2);unfold zP at s5;have HS5:=zC s5;have EN:=zC eN;clear s5 eN ok1 f1 f2 f3 f4 hp11 hp12;go_wp2_with fail;go_meet;rw[zA EN];exact ⟨t11,u12,congrArg _ (by show 64*((lmS n d z (b+128) k).e:Int)+64=64*(((lmS n d z (b+128) k).e+1:Nat):Int);omega),zA HS5⟩
      ·have hl1:¬ (b:Int)+128+128<l:=fun h=>hg (hlen.1 (by omega))
       have EN:=zC (zOM hg);clear hlen hg hl s4;go_wp2_with fail;go_meet;rw[zA EN];exact ⟨t8,U2,rfl,zA HS4⟩
     case rest =>
     obtain ⟨T3,U3,rfl,hS5⟩:=hcut;have HS5:=zC hS5;obtain ⟨V5x,h5x⟩:∃ V,V=wc:=⟨_,rfl⟩;subst h5x;have he1:=lm_e n d z (b+128) (k+1);have lT:=hS5.t.lt;obtain ⟨⟨t0,t1,t2,t3,t4⟩,tf⟩:=hS5.t;have ok1:=zD5 (m:=b+128) (zA H) rfl (k+1) (by omega)
     have HOK:=zC ok1;clear HMID HFIT hS5 ok1 HS4 hlen hl s4
     by_cases hKe:k+1=K
     ·have g1:2*(2*(q:Int)+2*(b:Int)+64)<(k:Int)+1:=by omega
      go_wp2_with fail;refine (zC9 _ T3 100 1 (lmS n d z (b+128) (k+1)).T.1 (lmS n d z (b+128) (k+1)).T.2 (zA HS5).tp (by decide) (by decide)).mono ?_
      rintro r' w13 ⟨rfl,hb13⟩
      have sb:zAK (lmS n d z (b+128) (k+1)).T.1 (lmS n d z (b+128) (k+1)).T.2 1=true:=by
       have h3:=zA HK3;rw[← hKe] at h3;have h4:=(zA HOK).t0;unfold zAK;simp only[Bool.and_eq_true,decide_eq_true_eq];exact ⟨h3,by omega⟩
      rw[sb];have HS6:=zC ((zA HS5).bw hb13);clear t0 t1 t2 t3 t4 tf lT hb13 HOK sb;go_wp2_with fail;go_meet;exact ⟨T3,U3,⟨neg5,a5,n5,c5⟩,by first|rfl|rw[hKe],by rw[← hKe];exact zA HS6⟩
     ·by_cases g1:2*(2*(q:Int)+2*(b:Int)+64)<(k:Int)+1
      ·go_wp2_with fail
       refine (zC9 _ T3 100 1 (lmS n d z (b+128) (k+1)).T.1 (lmS n d z (b+128) (k+1)).T.2 (zA HS5).tp (by decide) (by decide)).mono ?_
       rintro r' w13 ⟨rfl,hb13⟩
       have sb:zAK (lmS n d z (b+128) (k+1)).T.1 (lmS n d z (b+128) (k+1)).T.2 1=false:=by
        have h3:=zA HK4 (k+1) (by omega) (by omega)
        unfold zAK;rw[decide_eq_false (by omega)]
        rfl
       rw[sb];have HS6:=zC ((zA HS5).bw hb13);clear t0 t1 t2 t3 t4 tf lT hb13 HOK sb;go_wp2_with fail
       go_roundw
       case rel=>exact ⟨k+1,T3,U3,⟨neg5,a5,n5,c5⟩,rfl,congrArg _ (by omega),by omega,zA HS6⟩
       case measure=>simp[intOf];omega
      ·go_wp2_with fail
       go_roundw
       case rel=>exact ⟨k+1,T3,U3,⟨neg5,a5,n5,c5⟩,rfl,congrArg _ (by omega),by omega,zA HS5⟩
       case measure=>simp[intOf];omega
   case rest =>
    obtain ⟨T,U,A,rfl,st⟩:=hcut;have ok:=zD5 (m:=b+128) (zA H) rfl K (by omega)
    obtain ⟨f1,f2,f3,f4⟩:=zLC ok (by omega)
    have he:=lm_e n d z (b+128) K;have HOK:=zC ok;have hs:=st.ln;have HS:=zC hs;have lU:=hs.u.lt;obtain ⟨⟨u0,u1',u2,u3,u4⟩,uf⟩:=hs.u;clear st ok hs st0
    go_upto_region 23 with fail
    go_cut [] (fun wx=>∃ u1:Sp,LnW w wx x y n d BU u1 (b+128) 101 ((lmS n d z (b+128) K).U.1-2,(lmS n d z (b+128) K).U.2+2))
    case first =>
     go_wp2_with fail;refine (zFA _ U 100 2 (lmS n d z (b+128) K).U.1 (lmS n d z (b+128) K).U.2 (zA HS).up (by omega) (by omega) (by decide) (by decide)).mono ?_
     rintro r' w1 ⟨u1,rfl,hub1,hp1,hb1⟩;have z1:=(zA HS).u.bw hb1;have lz1:=z1.lt;have s1:=((zA HS).bw hb1).putU (U':=u1) (K':=101) (c':=((lmS n d z (b+128) K).U.1-2,(lmS n d z (b+128) K).U.2+2)) (hub1.trans (zA HS).ub) hp1;unfold zP at s1;have HS1:=zC s1;clear u0 u1' u2 u3 u4 uf lU s1 hp1 hb1 hub1;obtain ⟨⟨u0,u1',u2,u3,u4⟩,uf⟩:=z1;go_wp2_with fail;go_meet;exact ⟨u1,zA HS1⟩
    case rest =>
    obtain ⟨u1,hS1⟩:=hcut;have HS1:=zC hS1;obtain ⟨V1,h1x⟩:∃ V,V=wc:=⟨_,rfl⟩;subst h1x;clear u0 u1' u2 u3 u4 uf lU HS hS1;go_wp2_with fail;have hD0:Below V1.heap.size V1 V1.drew:=(Below.refl _ _).drew;have HK24:=zC (show ∀ w',Below V1.heap.size V1 w'→(w'.cell? ⟨BU,2,none⟩=some (.bool u1.hn)∧w'.cell? ⟨BU,3,none⟩=some (.slice u1.ha u1.hN u1.hc)) from fun w' hB=>⟨((zA HS1).u.bw hB).c.c2,((zA HS1).u.bw hB).c.c3⟩)
    have HE24:=zC (show IntKind.i64.wrap ((b:Int)+128+1)=(b:Int)+128+1 from jO _ (by omega) (by omega))
    refine AnyL.start (S:=fun w'=>w'.cell? ⟨BU,2,none⟩=some (.bool u1.hn)∧w'.cell? ⟨BU,3,none⟩=some (.slice u1.ha u1.hN u1.hc)) (l:=10) (by kernel_rfl) (zA HK24 _ hD0) (fun hHeld=>?_)
    refine AnyL.take (i:=0) (oi:={ dst:=some 95,op:=Go.Op.fieldAddr 36 (Go.Operand.tmp 13) 1,type:=0,pos := "func.go:210",after:=#[],guard:=none }) (v:=.pointer (some ⟨BU,2,none⟩)) rfl (by kernel_rfl) (by kernel_rfl) (by kernel_rfl) (by kernel_rfl) (fun _ _ _ h=>h) (Or.inl ⟨by rfl,fun w hSw=>?_⟩) hHeld ?_
    ·obtain ⟨s0,s1⟩:=hSw;go_simp
    try simp only[Act.put,List.setIfInBounds_toArray,List.set_cons_zero,List.set_cons_succ]
    refine AnyL.take (i:=1) (oi:={ dst:=some 96,op:=Go.Op.load 26 (Go.Operand.tmp 95),type:=26,pos := "func.go:210",after:=#[{ on:=0,ground:=Go.Ground.data }],guard:=none }) (v:=.agg #[.bool u1.hn,.slice u1.ha u1.hN u1.hc]) rfl (by kernel_rfl) (by kernel_rfl) (by kernel_rfl) (by kernel_rfl) (fun _ _ _ h=>h) (Or.inl ⟨by rfl,fun w hSw=>?_⟩) hHeld ?_
    ·obtain ⟨s0,s1⟩:=hSw;go_simp
    try simp only[Act.put,List.setIfInBounds_toArray,List.set_cons_zero,List.set_cons_succ]
    refine AnyL.take (i:=2) (oi:={ dst:=some 97,op:=Go.Op.move (Go.Operand.tmp 11),type:=3,pos := "func.go:210",after:=#[],guard:=none }) (v:=.int .i64 ((b:Int)+128)) rfl (by kernel_rfl) (by kernel_rfl) (by kernel_rfl) (by kernel_rfl) (fun _ _ _ h=>h) (Or.inl ⟨by rfl,fun w hSw=>?_⟩) hHeld ?_
    ·obtain ⟨s0,s1⟩:=hSw;go_simp
    try simp only[Act.put,List.setIfInBounds_toArray,List.set_cons_zero,List.set_cons_succ]
    refine AnyL.take (i:=3) (oi:={ dst:=some 98,op:=Go.Op.binOp Go.BinOp.add 3 (Go.Operand.tmp 97) (Go.Operand.const (Go.Value.int Go.IntKind.i64 1)) 3,type:=3,pos := "func.go:210",after:=#[{ on:=2,ground:=Go.Ground.data }],guard:=none }) (v:=.int .i64 ((b:Int)+128+1)) rfl (by kernel_rfl) (by kernel_rfl) (by kernel_rfl) (by kernel_rfl) (fun _ _ _ h=>h) (Or.inl ⟨by rfl,fun w hSw=>?_⟩) hHeld ?_
    ·obtain ⟨s0,s1⟩:=hSw;go_simp;rw[zA HE24]
    try simp only[Act.put,List.setIfInBounds_toArray,List.set_cons_zero,List.set_cons_succ]
    refine AnyL.take (i:=5) (oi:={ dst:=some 100,op:=Go.Op.move (Go.Operand.tmp 15),type:=3,pos := "func.go:210",after:=#[],guard:=none }) (v:=.int .i64 (64*((lmS n d z (b+128) K).e:Int))) rfl (by kernel_rfl) (by kernel_rfl) (by kernel_rfl) (by kernel_rfl) (fun _ _ _ h=>h) (Or.inl ⟨by rfl,fun w hSw=>?_⟩) hHeld ?_
    ·obtain ⟨s0,s1⟩:=hSw;go_simp
    try simp only[Act.put,List.setIfInBounds_toArray,List.set_cons_zero,List.set_cons_succ]
    refine AnyL.one (i:=4) (o:={ dst:=some 99,op:=Go.Op.call { callee:=Go.Callee.value (Go.Operand.func 104),args:=#[Go.Operand.tmp 98],argTypes:=#[3] },type:=26,pos := "func.go:210",after:=#[{ on:=3,ground:=Go.Ground.data }],guard:=none }) (by kernel_rfl) rfl (fun Kc hKc=>?_)
    go_simp
    refine (zCP (e:=b+129) ((b:Int)+128+1) (by omega) _ (by omega)).mono ?_
    rintro r' w2 ⟨neg2,a2,n2,c2,rfl,hZ2,hb2⟩;have hD1:=zB hD0 hb2;clear hb2;go_wp2_with fail;refine hKc.out _ _ (zA HK24 _ hD1) (fun hHeld=>?_)
    clear hKc Kc
    try simp only[Act.put,List.setIfInBounds_toArray,List.set_cons_zero,List.set_cons_succ]
    refine AnyL.one (i:=6) (o:={ dst:=some 101,op:=Go.Op.call { callee:=Go.Callee.value (Go.Operand.func 104),args:=#[Go.Operand.tmp 100],argTypes:=#[3] },type:=26,pos := "func.go:210",after:=#[{ on:=5,ground:=Go.Ground.data },{ on:=4,ground:=Go.Ground.chain }],guard:=none }) (by kernel_rfl) rfl (fun Kc hKc=>?_)
    go_simp
    refine (zCP (e:=64*(lmS n d z (b+128) K).e) (64*((lmS n d z (b+128) K).e:Int)) (by omega) _ (by omega)).mono ?_
    rintro r' w3 ⟨neg3,a3,n3,c3,rfl,hZ3,hb3⟩;have hD2:=zB hD1 hb3;replace hZ2:=hZ2.bw hb3;clear hb3;go_wp2_with fail;refine hKc.out _ _ (zA HK24 _ hD2) (fun hHeld=>?_)
    clear hKc Kc
    try simp only[Act.put,List.setIfInBounds_toArray,List.set_cons_zero,List.set_cons_succ]
    refine AnyL.one (i:=7) (o:={ dst:=some 102,op:=Go.Op.call { callee:=Go.Callee.value (Go.Operand.func 109),args:=#[Go.Operand.tmp 99,Go.Operand.tmp 101],argTypes:=#[26,26] },type:=26,pos := "func.go:210",after:=#[{ on:=4,ground:=Go.Ground.data },{ on:=6,ground:=Go.Ground.data },{ on:=6,ground:=Go.Ground.chain }],guard:=none }) (by kernel_rfl) rfl (fun Kc hKc=>?_)
    go_simp
    refine (zB6 _ _ _ _ _ _ _ _ ((b+129)/16+8) (64*(lmS n d z (b+128) K).e/16+8) (Q (b+129)) (Q (64*(lmS n d z (b+128) K).e)) _ hZ2 hZ3 (by omega) (by omega) (by have:=zG (64*(lmS n d z (b+128) K).e);omega)).mono ?_
    rintro r' w4 ⟨neg4,a4,n4,c4,rfl,hZ4,hb4⟩;have hD3:=zB hD2 hb4;clear hb4 hZ2 hZ3;go_wp2_with fail;refine hKc.out _ _ (zA HK24 _ hD3) (fun hHeld=>?_)
    clear hKc Kc
    try simp only[Act.put,List.setIfInBounds_toArray,List.set_cons_zero,List.set_cons_succ]
    refine AnyL.one (i:=8) (o:={ dst:=some 103,op:=Go.Op.call { callee:=Go.Callee.value (Go.Operand.func 65),args:=#[Go.Operand.tmp 96,Go.Operand.tmp 102],argTypes:=#[26,26] },type:=26,pos := "func.go:210",after:=#[{ on:=1,ground:=Go.Ground.data },{ on:=7,ground:=Go.Ground.data },{ on:=7,ground:=Go.Ground.chain }],guard:=none }) (by kernel_rfl) rfl (fun Kc hKc=>?_)
    go_simp
    refine (yQ _ _ _ _ _ _ _ _ 101 101 ((lmS n d z (b+128) K).U.2+2) (-(-Q (b+129)/Q (64*(lmS n d z (b+128) K).e))) _ ((zA HS1).up.hi.bw hD3) (hZ4.mono (by omega)) (by omega) (by omega)).mono ?_
    rintro r' w5 ⟨neg5,a5,n5,c5,rfl,hZ5,hb5⟩;have hD4:=zB hD3 hb5;clear hb5 hZ4;go_wp2_with fail;refine hKc.out _ _ (zA HK24 _ hD4) (fun hHeld=>?_)
    clear hKc Kc
    try simp only[Act.put,List.setIfInBounds_toArray,List.set_cons_zero,List.set_cons_succ]
    refine AnyL.take (i:=9) (oi:={ dst:=some 104,op:=Go.Op.fieldAddr 36 (Go.Operand.tmp 13) 1,type:=0,pos := "func.go:210",after:=#[{ on:=0,ground:=Go.Ground.phase },{ on:=1,ground:=Go.Ground.phase },{ on:=2,ground:=Go.Ground.phase },{ on:=3,ground:=Go.Ground.phase },{ on:=4,ground:=Go.Ground.phase },{ on:=5,ground:=Go.Ground.phase },{ on:=6,ground:=Go.Ground.phase },{ on:=7,ground:=Go.Ground.phase },{ on:=8,ground:=Go.Ground.phase }],guard:=none }) (v:=.pointer (some ⟨BU,2,none⟩)) rfl (by kernel_rfl) (by kernel_rfl) (by kernel_rfl) (by kernel_rfl) (fun _ _ _ h=>h) (Or.inl ⟨by rfl,fun w hSw=>?_⟩) hHeld ?_
    ·obtain ⟨s0,s1⟩:=hSw;go_simp
    try simp only[Act.put,List.setIfInBounds_toArray,List.set_cons_zero,List.set_cons_succ]
    refine AnyL.last (o:={ dst:=none,op:=Go.Op.store 26 (Go.Operand.tmp 104) (Go.Operand.tmp 103),type:=0,pos := "func.go:210",after:=#[{ on:=9,ground:=Go.Ground.data },{ on:=8,ground:=Go.Ground.data },{ on:=8,ground:=Go.Ground.chain },{ on:=0,ground:=Go.Ground.phase },{ on:=1,ground:=Go.Ground.phase },{ on:=2,ground:=Go.Ground.phase },{ on:=3,ground:=Go.Ground.phase },{ on:=4,ground:=Go.Ground.phase },{ on:=5,ground:=Go.Ground.phase },{ on:=6,ground:=Go.Ground.phase },{ on:=7,ground:=Go.Ground.phase },{ on:=8,ground:=Go.Ground.phase }],guard:=none }) (by kernel_rfl) rfl (by kernel_rfl) (fun Kc hKc=>?_)
    have V2:=(zA HS1).u.bw hD4;have lA:=V2.lt;obtain ⟨⟨y0,y1,y2,y3,y4⟩,y5⟩:=V2
    go_simp
    refine hKc.out _ _ ?_;clear hKc Kc;have e129:(lmS n d z (b+128) K).U.2+2 + -(-Q (b+129)/Q (64*(lmS n d z (b+128) K).e))=(lmH (b+128) (lmS n d z (b+128) K).e (lmS n d z (b+128) K).U):=rfl;rw[e129] at hZ5;have s2:=((zA HS1).bw hD4).putH (H:=⟨neg5,a5,n5,c5⟩) (K':=102) (by omega) hZ5
    obtain ⟨V2,hV2⟩:∃ V,V=((w5.setCell ⟨BU,2,none⟩ (.bool neg5)).setCell ⟨BU,3,none⟩ (.slice a5 n5 c5)):=⟨_,rfl⟩;rw[← hV2] at s2 ⊢;clear hV2 y0 y1 y2 y3 y4 y5 lA hZ5 HK24 hD0 hD1 hD2 hD3 hD4 HS1 e129 HE24;obtain ⟨uu,huu⟩:∃ uu:Sp,uu=(⟨u1.ln,u1.la,u1.lN,u1.lc,neg5,a5,n5,c5,u1.bits⟩:Sp):=⟨_,rfl⟩;rw[← huu] at s2;have HS2:=zC s2;clear s2 huu;have lU:=(zA HS2).u.lt;have hE40:IntKind.i64.wrap ((b:Int)+40)=(b:Int)+40:=jO _ (by omega) (by omega)
    go_wp2_with fail;refine (zCP (e:=b+128) ((b:Int)+128) (by omega) _ (by omega)).mono ?_
    rintro r' w6 ⟨neg6,a6,n6,c6,rfl,hZ6,hb6⟩;obtain ⟨V3,hV3⟩:∃ V,V=w6.alloc (.cells #[.bool neg6,.slice a6 n6 c6] 26):=⟨_,rfl⟩;have bV3:Below w6.heap.size w6 V3:=by rw[hV3];exact bl1 _ _
    have s3:=((zA HS2).bw hb6).bw bV3;have Pc:NmC V3 w6.heap.size ⟨neg6,a6,n6,c6⟩:=by rw[hV3];exact yS w6 ⟨neg6,a6,n6,c6⟩ _
    have HS3:=zC s3;have HIP:=zC (hZ6.bw bV3);go_wp2_with fail;rw[← hV3];clear hV3 bV3 HS2 lU hZ6 hb6 hE40;obtain ⟨BP,hBP⟩:∃ B,B=w6.heap.size:=⟨_,rfl⟩;rw[← hBP] at Pc ⊢;clear hBP;have lU:=s3.u.lt;have lP:=Pc.lt;have hf0:=zCA;have hf1:=zGP;have HLG:=zC (lm_lg (zA HOK) (by omega) (by omega))
    have HK27:=zC (show ∀ w',Below V3.heap.size V3 w'→(w'.cell? ⟨BU,0,none⟩=some (.bool uu.ln)∧w'.cell? ⟨BU,1,none⟩=some (.slice uu.la uu.lN uu.lc)∧w'.cell? ⟨BU,2,none⟩=some (.bool uu.hn)∧w'.cell? ⟨BU,3,none⟩=some (.slice uu.ha uu.hN uu.hc)∧w'.cell? ⟨BP,0,none⟩=some (.bool (⟨neg6,a6,n6,c6⟩:Nm).neg)∧w'.cell? ⟨BP,1,none⟩=some (.slice (⟨neg6,a6,n6,c6⟩:Nm).a (⟨neg6,a6,n6,c6⟩:Nm).n (⟨neg6,a6,n6,c6⟩:Nm).cap)) from fun w' hB=>⟨(s3.u.bw hB).c.c0,(s3.u.bw hB).c.c1,(s3.u.bw hB).c.c2,(s3.u.bw hB).c.c3,(Pc.bw hB).c0,(Pc.bw hB).c1⟩)
    clear s3
    go_cut [19] (fun p wx=>∃ (B:Nat) (u:Sp) (a1 b1 a2 b2:Int) (l1 l2:Nat→Rat),p=.pointer (some ⟨B,0,none⟩)∧(IsLog l1 (fun _=>((lmL (lmS n d z (b+128) K).U):Rat)/(Q (b+128):Rat))∧(Iv (b+40) (a1,b1) l1∧Abs (a1,b1) (3*(((b+128:Nat):Int)+1)*Q (b+40)))∧IsLog l2 (fun _=>((lmH (b+128) (lmS n d z (b+128) K).e (lmS n d z (b+128) K).U):Rat)/(Q (b+128):Rat))∧(Iv (b+40) (a2,b2) l2∧Abs (a2,b2) (3*(((b+128:Nat):Int)+1)*Q (b+40))))∧V3.heap.size≤B∧VrC wx B u∧SpAt wx u 40 (((a1,b2):Int × Int)).1 (((a1,b2):Int × Int)).2∧u.bits=((b+40:Nat):Int)∧Below V3.heap.size V3 wx)
    case first =>
     go_region_held3 (fun w'=>w'.cell? ⟨BU,0,none⟩=some (.bool uu.ln)∧w'.cell? ⟨BU,1,none⟩=some (.slice uu.la uu.lN uu.lc)∧w'.cell? ⟨BU,2,none⟩=some (.bool uu.hn)∧w'.cell? ⟨BU,3,none⟩=some (.slice uu.ha uu.hN uu.hc)∧w'.cell? ⟨BP,0,none⟩=some (.bool (⟨neg6,a6,n6,c6⟩:Nm).neg)∧w'.cell? ⟨BP,1,none⟩=some (.slice (⟨neg6,a6,n6,c6⟩:Nm).a (⟨neg6,a6,n6,c6⟩:Nm).n (⟨neg6,a6,n6,c6⟩:Nm).cap)) (exact zA HK27 _ (by repeat' (first|with_reducible exact hBS2|with_reducible exact hBS1|with_reducible exact Below.refl _ _|with_reducible refine Below.drew ?_|with_reducible refine zK ?_ _|with_reducible refine Below.setCell ?_ (by first|exact Nat.le_refl _|exact hlS1|exact hlS2) _)))
      (first
       | (go_at_call 124;have hq:=hBS1;refine (zCL (b:=b+40) ((b:Int)+40) (by omega) _ ⟨uu.hn,uu.ha,uu.hN,uu.hc⟩ ⟨neg6,a6,n6,c6⟩ 110 (b+128) (lmH (b+128) (lmS n d z (b+128) K).e (lmS n d z (b+128) K).U) (Q (b+128)) (((zA HS3).up.hi.bw (by with_reducible first|exact hBS1|exact zK hBS1 _)).mono (by omega)) (((zA HIP).bw (by with_reducible first|exact hBS1|exact zK hBS1 _)).mono (by omega)) (by omega) (by omega) (zA HLG).2.2.2.2.2.2.1 (zA HLG).2.1 (zA HLG).2.2.2.2.2.2.2.1 (zA HLG).2.2.2.1 (zA HLG).2.2.2.2.2.2.2.2.1 (zA HLG).2.2.2.2.2.2.2.2.2 (by omega)).mono ?_;rintro r wS2 ⟨a2,b2,l2,g2,i2,vS2,rfl,hvbS2,hZS2,hbS2⟩;have HVBS2:=zC hvbS2;have HG2:=zC (And.intro g2 i2);clear hvbS2 g2 i2;have hCS2:Below wS1.heap.size wS1 wS2:=(by with_reducible first|exact hbS2|exact zB (bl1 _ _) hbS2);have hBS2:=zB hBS1 hCS2;(try with_reducible have gS2:=(zO wS1 36).bw hbS2);(try replace gS1:=gS1.bw hCS2);have hlS2:=hBS2.size;(try have mS1:=gS1.lt);(try have eS1:=Nat.ne_of_lt mS1);(try have eS1':=Nat.ne_of_gt mS1);(try obtain ⟨zS10,zS11,zS12,zS13,zS14,zS15⟩:=gS1);(try have mS2:=gS2.lt);(try have eS2:=Nat.ne_of_lt mS2);(try have eS2':=Nat.ne_of_gt mS2);(try obtain ⟨zS20,zS21,zS22,zS23,zS24,zS25⟩:=gS2))
       | (go_at_call 124;refine (zCL (b:=b+40) ((b:Int)+40) (by omega) _ ⟨uu.ln,uu.la,uu.lN,uu.lc⟩ ⟨neg6,a6,n6,c6⟩ 110 (b+128) (lmL (lmS n d z (b+128) K).U) (Q (b+128)) (((zA HS3).up.lo.bw (by with_reducible first|exact (Below.refl _ _).drew|exact (bl1 _ _).drew)).mono (by omega)) (((zA HIP).bw (by with_reducible first|exact (Below.refl _ _).drew|exact (bl1 _ _).drew)).mono (by omega)) (by omega) (by omega) (zA HLG).1 (zA HLG).2.1 (zA HLG).2.2.1 (zA HLG).2.2.2.1 (zA HLG).2.2.2.2.1 (zA HLG).2.2.2.2.2.1 (by omega)).mono ?_;rintro r wS1 ⟨a1,b1,l1,g1,i1,vS1,rfl,hvbS1,hZS1,hbS1⟩;have HVBS1:=zC hvbS1;have HG1:=zC (And.intro g1 i1);clear hvbS1 g1 i1;have hBS1:Below V3.heap.size V3 wS1:=(by with_reducible first|exact zB (Below.refl _ _).drew hbS1|exact zB (bl1 _ _).drew hbS1);(try with_reducible have gS1:=((zO V3 36).bw (Below.refl _ _).drew).bw hbS1);have hlS1:=hBS1.size))
     all_goals
      have hfinS:SpAt wS2 (⟨vS1.ln,vS1.la,vS1.lN,vS1.lc,vS2.hn,vS2.ha,vS2.hN,vS2.hc,(b:Int)+40⟩:Sp) 40 (((a1,b2):Int × Int)).1 (((a1,b2):Int × Int)).2:=⟨((hZS1.bw hCS2).mono (by omega)).lo,(hZS2.mono (by omega)).hi⟩
      go_wp2_with fail;go_meet;refine ⟨_,(⟨vS1.ln,vS1.la,vS1.lN,vS1.lc,vS2.hn,vS2.ha,vS2.hN,vS2.hc,(b:Int)+40⟩:Sp),a1,b1,a2,b2,l1,l2,rfl,⟨(zA HG1).1,(zA HG1).2,(zA HG2).1,(zA HG2).2⟩,?_,⟨⟨?_,?_,?_,?_,?_⟩,?_⟩,?_,(by show (b:Int)+40=_;omega),?_⟩
      ·first|exact Nat.le_refl _|exact hlS1|exact hlS2
      ·simp[go_sem, *]
      ·simp[go_sem, *]
      ·simp[go_sem, *]
      ·simp[go_sem, *]
      ·simp[go_sem, *]
      ·intro o;simp[go_sem, *]
      ·first|with_reducible exact SpAt.put5 hfinS zS20 zS21 zS22 zS23 zS24 _ _ _ _ _|with_reducible exact SpAt.put5 hfinS zS10 zS11 zS12 zS13 zS14 _ _ _ _ _|with_reducible exact hfinS.bw (bl1 _ _)
      ·repeat' (first|with_reducible exact hBS2|with_reducible exact hBS1|with_reducible exact Below.refl _ _|with_reducible refine Below.drew ?_|with_reducible refine zK ?_ _|with_reducible refine Below.setCell ?_ (by first|exact Nat.le_refl _|exact hlS1|exact hlS2) _)
    case rest =>
    obtain ⟨BS,xS,a1,b1,a2,b2,l1,l2,rfl,hLL,hHS,XS,hpS,hxbS,hblS⟩:=hcut;obtain ⟨V4,h4x⟩:∃ V,V=wc:=⟨_,rfl⟩;subst h4x
    have s4:LnW w V4 x y n d BS xS (b+40) 40 (a1,b2):=by
     have t:=(zA HS3).bw hblS;have:=(zA HS3).u.lt;have:=(zA HS3).l2;exact ⟨t.x,t.y,t.ix,t.iy,XS,hxbS,hpS,t.r,t.be,by omega⟩
    have HS4:=zC s4;have HLL:=zC hLL;clear HS3 HK27 hf0 hf1 hblS hxbS hpS XS hLL s4 lU lP Pc hHS HIP;go_wp2_with fail;have hD0:Below V4.heap.size V4 V4.drew:=(Below.refl _ _).drew;have HK28:=zC (show ∀ w',Below V4.heap.size V4 w'→(w'.cell? ⟨BS,0,none⟩=some (.bool xS.ln)∧w'.cell? ⟨BS,1,none⟩=some (.slice xS.la xS.lN xS.lc)∧w'.cell? ⟨BS,2,none⟩=some (.bool xS.hn)∧w'.cell? ⟨BS,3,none⟩=some (.slice xS.ha xS.hN xS.hc)∧w'.cell? ⟨BS,4,none⟩=some (.int .i64 xS.bits)) from fun w' hB=>⟨((zA HS4).u.bw hB).c.c0,((zA HS4).u.bw hB).c.c1,((zA HS4).u.bw hB).c.c2,((zA HS4).u.bw hB).c.c3,((zA HS4).u.bw hB).c.c4⟩)
    refine AnyL.start (S:=fun w'=>w'.cell? ⟨BS,0,none⟩=some (.bool xS.ln)∧w'.cell? ⟨BS,1,none⟩=some (.slice xS.la xS.lN xS.lc)∧w'.cell? ⟨BS,2,none⟩=some (.bool xS.hn)∧w'.cell? ⟨BS,3,none⟩=some (.slice xS.ha xS.hN xS.hc)∧w'.cell? ⟨BS,4,none⟩=some (.int .i64 xS.bits)) (l:=10) (by kernel_rfl) (zA HK28 _ hD0) (fun hHeld=>?_)
    refine AnyL.take (i:=0) (oi:={ dst:=some 123,op:=Go.Op.load 36 (Go.Operand.tmp 19),type:=36,pos := "func.go:215",after:=#[],guard:=none }) (v:=.agg #[.bool xS.ln,.slice xS.la xS.lN xS.lc,.bool xS.hn,.slice xS.ha xS.hN xS.hc,.int .i64 xS.bits]) rfl (by kernel_rfl) (by kernel_rfl) (by kernel_rfl) (by kernel_rfl) (fun _ _ _ h=>h) (Or.inl ⟨by rfl,fun w hSw=>?_⟩) hHeld ?_
    ·obtain ⟨s0,s1,s2,s3,s4⟩:=hSw;go_simp
    try simp only[Act.put,List.setIfInBounds_toArray,List.set_cons_zero,List.set_cons_succ]
    refine AnyL.take (i:=3) (oi:={ dst:=some 126,op:=Go.Op.move (Go.Operand.tmp 17),type:=3,pos := "func.go:215",after:=#[],guard:=none }) (v:=.int .i64 ((b:Int)+40)) rfl (by kernel_rfl) (by kernel_rfl) (by kernel_rfl) (by kernel_rfl) (fun _ _ _ h=>h) (Or.inl ⟨by rfl,fun w hSw=>?_⟩) hHeld ?_
    ·obtain ⟨s0,s1,s2,s3,s4⟩:=hSw;go_simp
    try simp only[Act.put,List.setIfInBounds_toArray,List.set_cons_zero,List.set_cons_succ]
    refine AnyL.take (i:=5) (oi:={ dst:=some 128,op:=Go.Op.move (Go.Operand.tmp 15),type:=3,pos := "func.go:215",after:=#[],guard:=none }) (v:=.int .i64 (64*((lmS n d z (b+128) K).e:Int))) rfl (by kernel_rfl) (by kernel_rfl) (by kernel_rfl) (by kernel_rfl) (fun _ _ _ h=>h) (Or.inl ⟨by rfl,fun w hSw=>?_⟩) hHeld ?_
    ·obtain ⟨s0,s1,s2,s3,s4⟩:=hSw;go_simp
    try simp only[Act.put,List.setIfInBounds_toArray,List.set_cons_zero,List.set_cons_succ]
    refine AnyL.one (i:=1) (o:={ dst:=some 124,op:=Go.Op.call { callee:=Go.Callee.value (Go.Operand.func 43),args:=#[Go.Operand.const (Go.Value.int Go.IntKind.i64 2)],argTypes:=#[3] },type:=26,pos := "func.go:215",after:=#[],guard:=none }) (by kernel_rfl) rfl (fun Kc hKc=>?_)
    go_simp
    refine (zD 2 _ (by decide) (by decide)).mono ?_
    rintro r' w1 ⟨ng1,ad1,nn1,cp1,rfl,hZ1,hb1⟩;have hD1:=zB hD0 hb1;clear hb1;go_wp2_with fail;refine hKc.out _ _ (zA HK28 _ hD1) (fun hHeld=>?_)
    clear hKc Kc
    try simp only[Act.put,List.setIfInBounds_toArray,List.set_cons_zero,List.set_cons_succ]
    refine AnyL.one (i:=2) (o:={ dst:=some 125,op:=Go.Op.call { callee:=Go.Callee.value (Go.Operand.func 43),args:=#[Go.Operand.const (Go.Value.int Go.IntKind.i64 1)],argTypes:=#[3] },type:=26,pos := "func.go:215",after:=#[{ on:=1,ground:=Go.Ground.chain }],guard:=none }) (by kernel_rfl) rfl (fun Kc hKc=>?_)
    go_simp
    refine (zD 1 _ (by decide) (by decide)).mono ?_
    rintro r' w2 ⟨ng2,ad2,nn2,cp2,rfl,hZ2,hb2⟩;have hD2:=zB hD1 hb2;replace hZ1:=hZ1.bw hb2;clear hb2;go_wp2_with fail;refine hKc.out _ _ (zA HK28 _ hD2) (fun hHeld=>?_)
    clear hKc Kc
    try simp only[Act.put,List.setIfInBounds_toArray,List.set_cons_zero,List.set_cons_succ]
    refine AnyL.one (i:=4) (o:={ dst:=some 127,op:=Go.Op.call { callee:=Go.Callee.value (Go.Operand.func 124),args:=#[Go.Operand.tmp 124,Go.Operand.tmp 125,Go.Operand.tmp 126],argTypes:=#[26,26,3] },type:=36,pos := "func.go:215",after:=#[{ on:=1,ground:=Go.Ground.data },{ on:=2,ground:=Go.Ground.data },{ on:=3,ground:=Go.Ground.data },{ on:=2,ground:=Go.Ground.chain }],guard:=none }) (by kernel_rfl) rfl (fun Kc hKc=>?_)
    go_simp
    refine (zCL (b:=b+40) ((b:Int)+40) (by omega) _ ⟨ng1,ad1,nn1,cp1⟩ ⟨ng2,ad2,nn2,cp2⟩ 4 1 2 1 hZ1 hZ2 (by omega) (by omega) (by decide) (by decide) (by decide) (by decide) (by decide) (by decide) (by omega)).mono ?_
    rintro r' w3 ⟨a3,b3,l3,g3,i3,v3,rfl,hvb3,hZ3,hb3⟩;have hD3:=zB hD2 hb3;have HVB3:=zC hvb3;have HG3:=zC (And.intro g3 i3);clear hb3 hvb3 g3 i3 hZ1 hZ2;go_wp2_with fail;refine hKc.out _ _ (zA HK28 _ hD3) (fun hHeld=>?_)
    clear hKc Kc
    try simp only[Act.put,List.setIfInBounds_toArray,List.set_cons_zero,List.set_cons_succ]
    refine AnyL.one (i:=6) (o:={ dst:=some 129,op:=Go.Op.call { callee:=Go.Callee.value (Go.Operand.func 43),args:=#[Go.Operand.tmp 128],argTypes:=#[3] },type:=26,pos := "func.go:215",after:=#[{ on:=5,ground:=Go.Ground.data },{ on:=4,ground:=Go.Ground.chain }],guard:=none }) (by kernel_rfl) rfl (fun Kc hKc=>?_)
    go_simp
    refine (zD (64*((lmS n d z (b+128) K).e:Int)) _ (by omega) (by omega)).mono ?_
    rintro r' w4 ⟨ng4,ad4,nn4,cp4,rfl,hZ4,hb4⟩;have hD4:=zB hD3 hb4;replace hZ3:=hZ3.bw hb4;clear hb4;go_wp2_with fail;refine hKc.out _ _ (zA HK28 _ hD4) (fun hHeld=>?_)
    clear hKc Kc
    try simp only[Act.put,List.setIfInBounds_toArray,List.set_cons_zero,List.set_cons_succ]
    refine AnyL.one (i:=7) (o:={ dst:=some 130,op:=Go.Op.call { callee:=Go.Callee.value (Go.Operand.func 43),args:=#[Go.Operand.const (Go.Value.int Go.IntKind.i64 1)],argTypes:=#[3] },type:=26,pos := "func.go:215",after:=#[{ on:=6,ground:=Go.Ground.chain }],guard:=none }) (by kernel_rfl) rfl (fun Kc hKc=>?_)
    go_simp
    refine (zD 1 _ (by decide) (by decide)).mono ?_
    rintro r' w5 ⟨ng5,ad5,nn5,cp5,rfl,hZ5,hb5⟩;have hD5:=zB hD4 hb5;replace hZ3:=hZ3.bw hb5;replace hZ4:=hZ4.bw hb5;clear hb5;go_wp2_with fail;refine hKc.out _ _ (zA HK28 _ hD5) (fun hHeld=>?_)
    clear hKc Kc
    try simp only[Act.put,List.setIfInBounds_toArray,List.set_cons_zero,List.set_cons_succ]
    refine AnyL.one (i:=8) (o:={ dst:=some 131,op:=Go.Op.call { callee:=Go.Callee.value (Go.Operand.func 56),args:=#[Go.Operand.tmp 127,Go.Operand.tmp 129,Go.Operand.tmp 130],argTypes:=#[36,26,26] },type:=36,pos := "func.go:215",after:=#[{ on:=4,ground:=Go.Ground.data },{ on:=6,ground:=Go.Ground.data },{ on:=7,ground:=Go.Ground.data },{ on:=7,ground:=Go.Ground.chain }],guard:=none }) (by kernel_rfl) rfl (fun Kc hKc=>?_)
    go_simp
    refine (zEA _ v3 ⟨ng4,ad4,nn4,cp4⟩ ⟨ng5,ad5,nn5,cp5⟩ 40 4 4 (b+40) (a3,b3) (64*((lmS n d z (b+128) K).e:Int)) 1 (hZ3.mono (by omega)) hZ4 hZ5 (by omega) (by omega) (by omega) (by decide) (zA HVB3)).mono ?_
    rintro r' w6 ⟨v6,rfl,hvb6,hZ6,hb6⟩;have hD6:=zB hD5 hb6;have HVB6:=zC hvb6;clear hb6 hvb6 hZ3 hZ4 hZ5;go_wp2_with fail;refine hKc.out _ _ (zA HK28 _ hD6) (fun hHeld=>?_)
    clear hKc Kc
    try simp only[Act.put,List.setIfInBounds_toArray,List.set_cons_zero,List.set_cons_succ]
    refine AnyL.one (i:=9) (o:={ dst:=some 132,op:=Go.Op.call { callee:=Go.Callee.value (Go.Operand.func 57),args:=#[Go.Operand.tmp 123,Go.Operand.tmp 131],argTypes:=#[36,36] },type:=36,pos := "func.go:215",after:=#[{ on:=0,ground:=Go.Ground.data },{ on:=8,ground:=Go.Ground.data },{ on:=8,ground:=Go.Ground.chain }],guard:=none }) (by kernel_rfl) rfl (fun Kc hKc=>?_)
    go_simp
    refine (yB _ xS v6 53 (b+40) (a1,b2) (byI (a3,b3) (64*((lmS n d z (b+128) K).e:Int)) 1) (((zA HS4).up.bw hD6).mono (by omega)) hZ6 (by omega) (zA HS4).ub).mono ?_
    rintro r' w7 ⟨v7,rfl,hvb7,hZ7,hb7⟩;have hD7:=zB hD6 hb7;have HVB7:=zC hvb7;clear hb7 hvb7 hZ6;go_wp2_with fail;refine hKc.out _ _ (zA HK28 _ hD7) (fun hHeld=>?_)
    clear hKc Kc
    try simp only[Act.put,List.setIfInBounds_toArray,List.set_cons_zero,List.set_cons_succ]
    refine AnyL.last (o:={ dst:=none,op:=Go.Op.store 36 (Go.Operand.tmp 19) (Go.Operand.tmp 132),type:=0,pos := "func.go:215",after:=#[{ on:=9,ground:=Go.Ground.data },{ on:=9,ground:=Go.Ground.chain },{ on:=0,ground:=Go.Ground.phase },{ on:=1,ground:=Go.Ground.phase },{ on:=2,ground:=Go.Ground.phase },{ on:=3,ground:=Go.Ground.phase },{ on:=4,ground:=Go.Ground.phase },{ on:=5,ground:=Go.Ground.phase },{ on:=6,ground:=Go.Ground.phase },{ on:=7,ground:=Go.Ground.phase },{ on:=8,ground:=Go.Ground.phase },{ on:=9,ground:=Go.Ground.phase }],guard:=none }) (by kernel_rfl) rfl (by kernel_rfl) (fun Kc hKc=>?_)
    have V2:=(zA HS4).u.bw hD7;have lA:=V2.lt;obtain ⟨⟨y0,y1,y2,y3,y4⟩,y5⟩:=V2
    go_simp
    refine hKc.out _ _ ?_;clear hKc Kc;have s5:=((zA HS4).bw hD7).putU (U':=v7) (K':=54) (c':=jJ (a1,b2) (byI (a3,b3) (64*((lmS n d z (b+128) K).e:Int)) 1)) (zA HVB7) hZ7;obtain ⟨V5,hV5⟩:∃ V,V=zP w7 BS v7:=⟨_,rfl⟩;rw[← hV5] at s5;unfold zP at hV5;rw[← hV5];have HS5:=zC s5;clear hV5 s5 y0 y1 y2 y3 y4 y5 lA HK28 HS4 hD0 hD1 hD2 hD3 hD4 hD5 hD6 hD7 hZ7;go_wp2_with fail;have hD0:Below V5.heap.size V5 V5.drew:=(Below.refl _ _).drew;have HX4:=zC (lm_x4 (z:=(2*(q:Int)+2*(b:Int)+64)) (by omega) (by omega))
    have HK29:=zC (show ∀ w',Below V5.heap.size V5 w'→(w'.cell? ⟨BS,0,none⟩=some (.bool v7.ln)∧w'.cell? ⟨BS,1,none⟩=some (.slice v7.la v7.lN v7.lc)∧w'.cell? ⟨BS,2,none⟩=some (.bool v7.hn)∧w'.cell? ⟨BS,3,none⟩=some (.slice v7.ha v7.hN v7.hc)∧w'.cell? ⟨BS,4,none⟩=some (.int .i64 v7.bits)∧w'.cell? ⟨w.heap.size,0,none⟩=some (.bool x.neg)∧w'.cell? ⟨w.heap.size,1,none⟩=some (.slice x.a x.n x.cap)∧w'.cell? ⟨(w.heap.size+1),0,none⟩=some (.bool y.neg)∧w'.cell? ⟨(w.heap.size+1),1,none⟩=some (.slice y.a y.n y.cap)) from fun w' hB=>⟨((zA HS5).u.bw hB).c.c0,((zA HS5).u.bw hB).c.c1,((zA HS5).u.bw hB).c.c2,((zA HS5).u.bw hB).c.c3,((zA HS5).u.bw hB).c.c4,((zA HS5).x.bw hB).c0,((zA HS5).x.bw hB).c1,((zA HS5).y.bw hB).c0,((zA HS5).y.bw hB).c1⟩)
    refine AnyL.start (S:=fun w'=>w'.cell? ⟨BS,0,none⟩=some (.bool v7.ln)∧w'.cell? ⟨BS,1,none⟩=some (.slice v7.la v7.lN v7.lc)∧w'.cell? ⟨BS,2,none⟩=some (.bool v7.hn)∧w'.cell? ⟨BS,3,none⟩=some (.slice v7.ha v7.hN v7.hc)∧w'.cell? ⟨BS,4,none⟩=some (.int .i64 v7.bits)∧w'.cell? ⟨w.heap.size,0,none⟩=some (.bool x.neg)∧w'.cell? ⟨w.heap.size,1,none⟩=some (.slice x.a x.n x.cap)∧w'.cell? ⟨(w.heap.size+1),0,none⟩=some (.bool y.neg)∧w'.cell? ⟨(w.heap.size+1),1,none⟩=some (.slice y.a y.n y.cap)) (l:=10) (by kernel_rfl) (zA HK29 _ hD0) (fun hHeld=>?_)
    refine AnyL.take (i:=0) (oi:={ dst:=some 133,op:=Go.Op.load 36 (Go.Operand.tmp 19),type:=36,pos := "func.go:216",after:=#[],guard:=none }) (v:=.agg #[.bool v7.ln,.slice v7.la v7.lN v7.lc,.bool v7.hn,.slice v7.ha v7.hN v7.hc,.int .i64 v7.bits]) rfl (by kernel_rfl) (by kernel_rfl) (by kernel_rfl) (by kernel_rfl) (fun _ _ _ h=>h) (Or.inl ⟨by rfl,fun w hSw=>?_⟩) hHeld ?_
    ·obtain ⟨s0,s1,s2,s3,s4,s5,s6,s7,s8⟩:=hSw;go_simp
    try simp only[Act.put,List.setIfInBounds_toArray,List.set_cons_zero,List.set_cons_succ]
    refine AnyL.take (i:=1) (oi:={ dst:=some 134,op:=Go.Op.move (Go.Operand.tmp 10),type:=3,pos := "func.go:216",after:=#[],guard:=none }) (v:=.int .i64 (2*(q:Int)+2*(b:Int)+64)) rfl (by kernel_rfl) (by kernel_rfl) (by kernel_rfl) (by kernel_rfl) (fun _ _ _ h=>h) (Or.inl ⟨by rfl,fun w hSw=>?_⟩) hHeld ?_
    ·obtain ⟨s0,s1,s2,s3,s4,s5,s6,s7,s8⟩:=hSw;go_simp
    try simp only[Act.put,List.setIfInBounds_toArray,List.set_cons_zero,List.set_cons_succ]
    refine AnyL.take (i:=4) (oi:={ dst:=some 137,op:=Go.Op.move (Go.Operand.tmp 17),type:=3,pos := "func.go:216",after:=#[],guard:=none }) (v:=.int .i64 ((b:Int)+40)) rfl (by kernel_rfl) (by kernel_rfl) (by kernel_rfl) (by kernel_rfl) (fun _ _ _ h=>h) (Or.inl ⟨by rfl,fun w hSw=>?_⟩) hHeld ?_
    ·obtain ⟨s0,s1,s2,s3,s4,s5,s6,s7,s8⟩:=hSw;go_simp
    try simp only[Act.put,List.setIfInBounds_toArray,List.set_cons_zero,List.set_cons_succ]
    refine AnyL.take (i:=6) (oi:={ dst:=some 139,op:=Go.Op.load 26 (Go.Operand.tmp 3),type:=26,pos := "func.go:216",after:=#[],guard:=none }) (v:=.agg #[.bool x.neg,.slice x.a x.n x.cap]) rfl (by kernel_rfl) (by kernel_rfl) (by kernel_rfl) (by kernel_rfl) (fun _ _ _ h=>h) (Or.inl ⟨by rfl,fun w hSw=>?_⟩) hHeld ?_
    ·obtain ⟨s0,s1,s2,s3,s4,s5,s6,s7,s8⟩:=hSw;go_simp
    try simp only[Act.put,List.setIfInBounds_toArray,List.set_cons_zero,List.set_cons_succ]
    refine AnyL.take (i:=7) (oi:={ dst:=some 140,op:=Go.Op.load 26 (Go.Operand.tmp 4),type:=26,pos := "func.go:216",after:=#[],guard:=none }) (v:=.agg #[.bool y.neg,.slice y.a y.n y.cap]) rfl (by kernel_rfl) (by kernel_rfl) (by kernel_rfl) (by kernel_rfl) (fun _ _ _ h=>h) (Or.inl ⟨by rfl,fun w hSw=>?_⟩) hHeld ?_
    ·obtain ⟨s0,s1,s2,s3,s4,s5,s6,s7,s8⟩:=hSw;go_simp
    try simp only[Act.put,List.setIfInBounds_toArray,List.set_cons_zero,List.set_cons_succ]
    refine AnyL.one (i:=2) (o:={ dst:=some 135,op:=Go.Op.call { callee:=Go.Callee.value (Go.Operand.func 43),args:=#[Go.Operand.tmp 134],argTypes:=#[3] },type:=26,pos := "func.go:216",after:=#[{ on:=1,ground:=Go.Ground.data }],guard:=none }) (by kernel_rfl) rfl (fun Kc hKc=>?_)
    go_simp
    refine (zD (2*(q:Int)+2*(b:Int)+64) _ (by omega) (by omega)).mono ?_
    rintro r' w1 ⟨ng1,ad1,nn1,cp1,rfl,hZ1,hb1⟩;have hD1:=zB hD0 hb1;clear hb1;go_wp2_with fail;refine hKc.out _ _ (zA HK29 _ hD1) (fun hHeld=>?_)
    clear hKc Kc
    try simp only[Act.put,List.setIfInBounds_toArray,List.set_cons_zero,List.set_cons_succ]
    refine AnyL.one (i:=3) (o:={ dst:=some 136,op:=Go.Op.call { callee:=Go.Callee.value (Go.Operand.func 43),args:=#[Go.Operand.const (Go.Value.int Go.IntKind.i64 1)],argTypes:=#[3] },type:=26,pos := "func.go:216",after:=#[{ on:=2,ground:=Go.Ground.chain }],guard:=none }) (by kernel_rfl) rfl (fun Kc hKc=>?_)
    go_simp
    refine (zD 1 _ (by decide) (by decide)).mono ?_
    rintro r' w2 ⟨ng2,ad2,nn2,cp2,rfl,hZ2,hb2⟩;have hD2:=zB hD1 hb2;replace hZ1:=hZ1.bw hb2;clear hb2;go_wp2_with fail;refine hKc.out _ _ (zA HK29 _ hD2) (fun hHeld=>?_)
    clear hKc Kc
    try simp only[Act.put,List.setIfInBounds_toArray,List.set_cons_zero,List.set_cons_succ]
    refine AnyL.one (i:=5) (o:={ dst:=some 138,op:=Go.Op.call { callee:=Go.Callee.value (Go.Operand.func 124),args:=#[Go.Operand.tmp 135,Go.Operand.tmp 136,Go.Operand.tmp 137],argTypes:=#[26,26,3] },type:=36,pos := "func.go:216",after:=#[{ on:=2,ground:=Go.Ground.data },{ on:=3,ground:=Go.Ground.data },{ on:=4,ground:=Go.Ground.data },{ on:=3,ground:=Go.Ground.chain }],guard:=none }) (by kernel_rfl) rfl (fun Kc hKc=>?_)
    go_simp
    refine (zCL (b:=b+40) ((b:Int)+40) (by omega) _ ⟨ng1,ad1,nn1,cp1⟩ ⟨ng2,ad2,nn2,cp2⟩ 4 11 (2*(q:Int)+2*(b:Int)+64) 1 hZ1 hZ2 (by omega) (by omega) (by omega) (by decide) (zA HX4).1 (by decide) (zA HX4).2.1 (zA HX4).2.2 (by omega)).mono ?_
    rintro r' w3 ⟨a4,b4,l4,g4,i4,v3,rfl,hvb3,hZ3,hb3⟩;have hD3:=zB hD2 hb3;have HVB3:=zC hvb3;have HG4:=zC (And.intro g4 i4);clear hb3 hvb3 g4 i4 hZ1 hZ2;go_wp2_with fail;refine hKc.out _ _ (zA HK29 _ hD3) (fun hHeld=>?_)
    clear hKc Kc
    try simp only[Act.put,List.setIfInBounds_toArray,List.set_cons_zero,List.set_cons_succ]
    refine AnyL.one (i:=8) (o:={ dst:=some 141,op:=Go.Op.call { callee:=Go.Callee.value (Go.Operand.func 56),args:=#[Go.Operand.tmp 138,Go.Operand.tmp 139,Go.Operand.tmp 140],argTypes:=#[36,26,26] },type:=36,pos := "func.go:216",after:=#[{ on:=5,ground:=Go.Ground.data },{ on:=6,ground:=Go.Ground.data },{ on:=7,ground:=Go.Ground.data },{ on:=5,ground:=Go.Ground.chain }],guard:=none }) (by kernel_rfl) rfl (fun Kc hKc=>?_)
    go_simp
    refine (zEA _ v3 x y 40 20 20 (b+40) (a4,b4) n d (hZ3.mono (by omega)) ((zA HS5).ix.bw hD3) ((zA HS5).iy.bw hD3) (by omega) (by omega) (by omega) d0 (zA HVB3)).mono ?_
    rintro r' w6 ⟨v6,rfl,hvb6,hZ6,hb6⟩;have hD6:=zB hD3 hb6;have HVB6:=zC hvb6;clear hb6 hvb6 hZ3;go_wp2_with fail;refine hKc.out _ _ (zA HK29 _ hD6) (fun hHeld=>?_)
    clear hKc Kc
    try simp only[Act.put,List.setIfInBounds_toArray,List.set_cons_zero,List.set_cons_succ]
    refine AnyL.one (i:=9) (o:={ dst:=some 142,op:=Go.Op.call { callee:=Go.Callee.value (Go.Operand.func 57),args:=#[Go.Operand.tmp 133,Go.Operand.tmp 141],argTypes:=#[36,36] },type:=36,pos := "func.go:216",after:=#[{ on:=0,ground:=Go.Ground.data },{ on:=8,ground:=Go.Ground.data },{ on:=8,ground:=Go.Ground.chain }],guard:=none }) (by kernel_rfl) rfl (fun Kc hKc=>?_)
    go_simp
    refine (yB _ v7 v6 69 (b+40) (jJ (a1,b2) (byI (a3,b3) (64*((lmS n d z (b+128) K).e:Int)) 1)) (byI (a4,b4) n d) (((zA HS5).up.bw hD6).mono (by omega)) hZ6 (by omega) (zA HS5).ub).mono ?_
    rintro r' w7 ⟨v8,rfl,hvb7,hZ7,hb7⟩;have hD7:=zB hD6 hb7;have HVB8:=zC hvb7;clear hb7 hvb7 hZ6;go_wp2_with fail;refine hKc.out _ _ (zA HK29 _ hD7) (fun hHeld=>?_)
    clear hKc Kc
    try simp only[Act.put,List.setIfInBounds_toArray,List.set_cons_zero,List.set_cons_succ]
    refine AnyL.last (o:={ dst:=none,op:=Go.Op.store 36 (Go.Operand.tmp 19) (Go.Operand.tmp 142),type:=0,pos := "func.go:216",after:=#[{ on:=9,ground:=Go.Ground.data },{ on:=9,ground:=Go.Ground.chain },{ on:=0,ground:=Go.Ground.phase },{ on:=1,ground:=Go.Ground.phase },{ on:=2,ground:=Go.Ground.phase },{ on:=3,ground:=Go.Ground.phase },{ on:=4,ground:=Go.Ground.phase },{ on:=5,ground:=Go.Ground.phase },{ on:=6,ground:=Go.Ground.phase },{ on:=7,ground:=Go.Ground.phase },{ on:=8,ground:=Go.Ground.phase },{ on:=9,ground:=Go.Ground.phase }],guard:=none }) (by kernel_rfl) rfl (by kernel_rfl) (fun Kc hKc=>?_)
    have V2:=(zA HS5).u.bw hD7;have lA:=V2.lt;obtain ⟨⟨y0,y1,y2,y3,y4⟩,y5⟩:=V2
    go_simp
    refine hKc.out _ _ ?_;clear hKc Kc;have s6:=((zA HS5).bw hD7).putU (U':=v8) (K':=70) (c':=(jJ (jJ (a1,b2) (byI (a3,b3) (64*((lmS n d z (b+128) K).e:Int)) 1)) (byI (a4,b4) n d))) (zA HVB8) hZ7;obtain ⟨V6,hV6⟩:∃ V,V=zP w7 BS v8:=⟨_,rfl⟩;rw[← hV6] at s6;unfold zP at hV6;rw[← hV6];have HS6:=zC s6;clear hV6 s6 y0 y1 y2 y3 y4 y5 lA HK29 HX4 HS5 hD0 hD1 hD2 hD3 hD6 hD7 hZ7
    have HFIN:=zC (show Iv b (zN (yH (jJ (jJ (a1,b2) (byI (a3,b3) (64*((lmS n d z (b+128) K).e:Int)) 1)) (byI (a4,b4) n d)) ((2*(q:Int)+2*(b:Int)+64)*Q (b+40),(2*(q:Int)+2*(b:Int)+64)*Q (b+40))) 40) X by
     obtain ⟨hL,hg,hX⟩:=zA HGL;have g4:=(zA HG4).1;rw[← hz] at g4;have t:=lg_end hL (zA H) hK1 (by omega) (zA HK3) hg hX (zA HLL).1 (zA HLL).2.2.1 (zA HG3).1 g4 (zA HLL).2.1.1 (zA HLL).2.2.2.1 (zA HG3).2.1 (zA HG4).2.1
     unfold lgR at t;rw[show ((64*(lmS n d z (b+128) K).e:Nat):Int)=64*((lmS n d z (b+128) K).e:Int) by omega,hz] at t
     exact t)
    have HABS:=zC (show Abs (zN (yH (jJ (jJ (a1,b2) (byI (a3,b3) (64*((lmS n d z (b+128) K).e:Int)) 1)) (byI (a4,b4) n d)) ((2*(q:Int)+2*(b:Int)+64)*Q (b+40),(2*(q:Int)+2*(b:Int)+64)*Q (b+40))) 40) (30000*Q b) from lg_abs (zA H) (lm_eb (zA H) hK1 (by omega) (zA HK3)) hz (zA HLL).2.1.2 (zA HLL).2.2.2.2 (zA HG3).2.2 (zA HG4).2.2)
    have hD0:Below V6.heap.size V6 V6.drew:=(Below.refl _ _).drew;have HK30:=zC (show ∀ w',Below V6.heap.size V6 w'→(w'.cell? ⟨BS,0,none⟩=some (.bool v8.ln)∧w'.cell? ⟨BS,1,none⟩=some (.slice v8.la v8.lN v8.lc)∧w'.cell? ⟨BS,2,none⟩=some (.bool v8.hn)∧w'.cell? ⟨BS,3,none⟩=some (.slice v8.ha v8.hN v8.hc)∧w'.cell? ⟨BS,4,none⟩=some (.int .i64 v8.bits)) from fun w' hB=>⟨((zA HS6).u.bw hB).c.c0,((zA HS6).u.bw hB).c.c1,((zA HS6).u.bw hB).c.c2,((zA HS6).u.bw hB).c.c3,((zA HS6).u.bw hB).c.c4⟩)
    have R:=(zA HS6).r;have hBe:=(zA HS6).be;have lR:=R.lt;have lBS:=(zA HS6).l2;have nR:w.heap.size+1+1≠BS:=by omega
    have nR':BS≠w.heap.size+1+1:=by omega
    go_wp2_with fail
    go_region_held3 (fun w'=>w'.cell? ⟨BS,0,none⟩=some (.bool v8.ln)∧w'.cell? ⟨BS,1,none⟩=some (.slice v8.la v8.lN v8.lc)∧w'.cell? ⟨BS,2,none⟩=some (.bool v8.hn)∧w'.cell? ⟨BS,3,none⟩=some (.slice v8.ha v8.hN v8.hc)∧w'.cell? ⟨BS,4,none⟩=some (.int .i64 v8.bits)) (first|exact zA HK30 _ (by with_reducible first|exact hD0|exact hD3|exact hD2|exact hD1)|go_keep)
     (first
      | (go_at_call 90;have hqq:=hD2;refine (kY _ v10 71 (b:Int) (yH (jJ (jJ (a1,b2) (byI (a3,b3) (64*((lmS n d z (b+128) K).e:Int)) 1)) (byI (a4,b4) n d)) ((2*(q:Int)+2*(b:Int)+64)*Q (b+40),(2*(q:Int)+2*(b:Int)+64)*Q (b+40))).1 (yH (jJ (jJ (a1,b2) (byI (a3,b3) (64*((lmS n d z (b+128) K).e:Int)) 1)) (byI (a4,b4) n d)) ((2*(q:Int)+2*(b:Int)+64)*Q (b+40),(2*(q:Int)+2*(b:Int)+64)*Q (b+40))).2 hZ10 (by omega) (by have:=zA HVB10;omega) (by have:=zA HVB10;omega) (by omega) (by omega)).mono ?_;rintro r' w11 ⟨v11,rfl,hvb11,hZ11,hb11⟩;rw[zA HVB10,show ((b+40:Nat):Int)-(b:Int)=((40:Nat):Int) by omega,kG,kG] at hZ11;have hD3:=zB hD2 hb11;have HVB11:=zC hvb11;clear hvb11;obtain ⟨q0,q1,q2,q3,q4,q5⟩:=R.bw hD3)
      | (go_at_call 26;have hqq:=hD1;refine (zDP _ v8 v9 70 (b+40) (jJ (jJ (a1,b2) (byI (a3,b3) (64*((lmS n d z (b+128) K).e:Int)) 1)) (byI (a4,b4) n d)) ((2*(q:Int)+2*(b:Int)+64)*Q (b+40),(2*(q:Int)+2*(b:Int)+64)*Q (b+40)) ((zA HS6).up.bw hD1) (hZ9.mono (by omega)) (by omega) (zA HS6).ub).mono ?_;rintro r' w10 ⟨v10,rfl,hvb10,hZ10,hb10⟩;have hD2:=zB hD1 hb10;have HVB10:=zC hvb10;clear hvb10)
      | (go_at_call 27;refine (zBE (b:=b+40) ((b:Int)+40) (by omega) _ (2*(q:Int)+2*(b:Int)+64) (by omega) (by omega) (by omega)).mono ?_;rintro r' w9 ⟨v9,rfl,hvb9,hZ9,hb9⟩;have hD1:=zB hD0 hb9;have HVB9:=zC hvb9;clear hvb9))
    all_goals
     go_wp2_with fail;refine bodyPost_ret (v:=.agg #[.bool v11.ln,.slice v11.la v11.lN v11.lc,.bool v11.hn,.slice v11.ha v11.hN v11.hc,.int .i64 v11.bits]) (by simp[results,Tryz.results64,go_sem,q0,q1,q2,q3,q4]) rfl ⟨(zN (yH (jJ (jJ (a1,b2) (byI (a3,b3) (64*((lmS n d z (b+128) K).e:Int)) 1)) (byI (a4,b4) n d)) ((2*(q:Int)+2*(b:Int)+64)*Q (b+40),(2*(q:Int)+2*(b:Int)+64)*Q (b+40))) 40).1,(zN (yH (jJ (jJ (a1,b2) (byI (a3,b3) (64*((lmS n d z (b+128) K).e:Int)) 1)) (byI (a4,b4) n d)) ((2*(q:Int)+2*(b:Int)+64)*Q (b+40),(2*(q:Int)+2*(b:Int)+64)*Q (b+40))) 40).2,zA HFIN,zA HABS,v11,rfl,zA HVB11,?_,?_⟩
     ·exact SpAt.put5 ((show SpAt _ v11 (71+62505) (zN (yH (jJ (jJ (a1,b2) (byI (a3,b3) (64*((lmS n d z (b+128) K).e:Int)) 1)) (byI (a4,b4) n d)) ((2*(q:Int)+2*(b:Int)+64)*Q (b+40),(2*(q:Int)+2*(b:Int)+64)*Q (b+40))) 40).1 (zN (yH (jJ (jJ (a1,b2) (byI (a3,b3) (64*((lmS n d z (b+128) K).e:Int)) 1)) (byI (a4,b4) n d)) ((2*(q:Int)+2*(b:Int)+64)*Q (b+40),(2*(q:Int)+2*(b:Int)+64)*Q (b+40))) 40).2 from hZ11).mono (by omega)) q0 q1 q2 q3 q4 _ _ _ _ _
     ·exact jV (zB hBe hD3) (by omega) _ _ _ _ _
end Go.Proofs.YtgmnknmjainababGreat
