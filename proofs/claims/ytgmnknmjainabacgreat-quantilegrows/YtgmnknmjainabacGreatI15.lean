/-
  Its own texts.
-/
import Derived.Test.YtgmnknmjainabacGreatI14
set_option maxRecDepth 100000
set_option maxHeartbeats 40000000
set_option linter.unnecessarySimpa false
set_option linter.unusedSimpArgs false
set_option linter.unusedVariables false
namespace Go.Proofs.YtgmnknmjainabacGreat
open Go.RowKit
attribute [local go_sem ↓] Go.wp_at_zero Go.wp_at_succ
theorem zUE (neg:Bool) (a:Option Addr) (n cap k1:Nat) (x:Int) (w:World) (h1:IntAt w neg a n cap k1 x) (Z9:k1<=1000000000) :
  Calls Tryz.prog 116 #[.agg #[.bool neg,.slice a n cap],.int .i64 1] w λ r w' =>
   ∃ m8 a' n' o7,r=.returned (.agg #[.bool m8,.slice a' n' o7])/\IntAt w' m8 a' n' o7 (k1+1) (2*x)/\Below w.heap.size w w' :=
 (zBU neg a n cap 1 k1 x w h1 Z9 (by omega)).mono λ r w' ⟨q1,q2,q3,q4,e,h,hb⟩=>⟨q1,q2,q3,q4,e,by
  have e1:x*Q 1=2*x:=by have:Q 1=2:=rfl;rw[this];omega
  have e2:1/16+k1+1=k1+1:=by omega
  rw[e1,e2] at h;exact h,hb⟩
theorem erf_far (w:World) (x y:Nm) (n d:Int) (b:Nat) (hx:IntAt w x.neg x.a x.n x.cap 8 n) (hy:IntAt w y.neg y.a y.n y.cap 8 d) (E6:40<=b) (hb:b<=10000) (az:d*(b:Int)<=n) :
  Calls Tryz.prog 178 #[.agg x.q,.agg y.q,.int .i64 b] w (zH w b (b/16+30) (Q b-1) (Q b)):=by
 obtain⟨W,hW⟩:∃ W,W=((w.alloc (.cells x.q 29)).alloc (.cells y.q 29)).alloc (.cells zCq 31):=⟨_,rfl⟩;have j7:Below w.heap.size w W:=by rw[hW];exact bl3 _ _ _ _
 have X:NmC W w.heap.size x:=by rw[hW];constructor<;>simp[go_sem]
 have Y:NmC W (w.heap.size+1) y:=by rw[hW];constructor<;>simp[go_sem]
 have R:NoC W (w.heap.size+1+1):=by rw[hW];constructor<;>simp[go_sem]
 have HX:=zC (hx.bw j7);have HY:=zC (hy.bw j7);have lX:=X.lt;have lY:=Y.lt;have lR:=R.lt;have HK:=zC (show ∀ w',Below W.heap.size W w'->(nK w' w.heap.size x (nK0 w' (w.heap.size+1) y)) from λ w' hB=>⟨(X.bw hB).c0,(X.bw hB).c1,(Y.bw hB).c0,(Y.bw hB).c1⟩)
 have C8:Below W.heap.size W W.drew:=(Below.refl _ _).drew;clear hx hy;have HC:Hid (zM n (d*(b:Int))=if n=d*(b:Int) then 0 else 1):=zC (by unfold zM;split<;>(try split)<;>(try split)<;>omega)
 have rL:Hid (0<=(if n=d*(b:Int) then (0:Int) else 1)):=zC (by split<;>omega)
 obtain⟨cc,FE⟩:∃ cc:Int,cc=(if n=d*(b:Int) then (0:Int) else 1):=⟨_,rfl⟩
 rw[<- FE] at HC rL;have oy:0<=cc:=zA rL;clear FE rL
 go_enter Tryz.func178,Tryz.ntmps178
 go_wp2;rw[<- hW];clear hW;obtain⟨x0,x1,x2,x3⟩:=zA HK _ (Below.refl _ _)
 go_region_held3 (λ w'=>nK w' w.heap.size x (nK0 w' (w.heap.size+1) y)) (first|exact zA HK _ (by with_reducible first|exact C8|exact A8|exact o9|exact A6)|(dsimp only[cK,cK0,nK,nK0,rK,rK0];go_keep)|go_keep)
  (first
   | (go_at_call 17;have hq:=o9;refine (jO _ _ _ _ _ _ _ _ 8 (8+4) n (d*(b:Int)) _ ((zA HX).bw o9) A5).mono ?_;rintro r w3 ⟨rfl,m9⟩;rw[zA HC];have A8:=zB o9 m9;have i0:=zA HK _ A8)
   | (go_at_call 83;have hq:=A6;refine (zT _ _ _ _ _ _ _ _ 8 4 d (b:Int) _ ((zA HY).bw A6) o8 (by omega) (by omega)).mono ?_;rintro r w2 ⟨j6,a2,n2,c2,rfl,A5,j8⟩;have o9:=zB A6 j8)
   | (go_at_call 33;refine (zD (b:Int) _ (by omega) (by omega)).mono ?_;rintro r w1 ⟨m7,a1,n1,c1,rfl,o8,b9⟩;have A6:=zB C8 b9))
 all_goals
  have R3:=R.bw A8;replace j7:=zB j7 A8;have gQ:=R3.lt;clear x0 x1 x2 x3 i0 A5 o8;go_wp2_with fail;refine (zEE _ b (by omega)).mono ?_
  rintro r w4 ⟨t,rfl,I8,P1,y9⟩;obtain⟨q0,q1,q2,q3,q4,q5⟩:=R3.bw y9;replace j7:=zB j7 y9;have HT:=zC I8;clear I8;go_wp2_with fail;refine bodyPost_ret (v:=.agg t.q) (by simp[results,Tryz.results178,go_sem,q0,q1,q2,q3,q4]) rfl ⟨t,rfl,zA HT,?_,?_⟩
  ·exact SpAt.put5 P1 q0 q1 q2 q3 q4 _ _ _ _ _
  ·exact jY j7 (by omega) _ _ _ _ _
theorem erf_iv (w:World) (x y:Nm) (n d:Int) (b:Nat) (hx:IntAt w x.neg x.a x.n x.cap 8 n) (hy:IntAt w y.neg y.a y.n y.cap 8 d) (E6:40<=b) (hb:b<=10000) (xr:Nat->Rat) (M t N N5 N9:Nat) (l:Int) (h:ErIn n d xr) (D5:n<d*(b:Int)) (hM:M<=3*b+8523) (pN:yO (erT n d b) (zA4 n d) M) (hl:zBV (zW (ofI n d b)) l) (ht:(t:Int)=max 0 (l-b+8)) (KB:t<=16) (hA:Abs (zG (ofI n d b) t) (Q (b-8))) (hN:zU (zV b (zG (ofI n d b) t)) N) (h5:zU (agT 5 b) N5) (h9:zU (agT 239 b) N9) :
  Calls Tryz.prog 178 #[.agg x.q,.agg y.q,.int .i64 b] w (zH w b 3000 (zK0 b (erQ n d b M t N N5 N9)).1 (zK0 b (erQ n d b M t N N5 N9)).2):=by
 obtain⟨W,hW⟩:∃ W,W=((w.alloc (.cells x.q 29)).alloc (.cells y.q 29)).alloc (.cells zCq 31):=⟨_,rfl⟩;have j7:Below w.heap.size w W:=by rw[hW];exact bl3 _ _ _ _
 have X:NmC W w.heap.size x:=by rw[hW];constructor<;>simp[go_sem]
 have Y:NmC W (w.heap.size+1) y:=by rw[hW];constructor<;>simp[go_sem]
 have R:NoC W (w.heap.size+1+1):=by rw[hW];constructor<;>simp[go_sem]
 have HX:=zC (hx.bw j7);have HY:=zC (hy.bw j7);have lX:=X.lt;have lY:=Y.lt;have lR:=R.lt;have HK:=zC (show ∀ w',Below W.heap.size W w'->(nK w' w.heap.size x (nK0 w' (w.heap.size+1) y)) from λ w' hB=>⟨(X.bw hB).c0,(X.bw hB).c1,(Y.bw hB).c0,(Y.bw hB).c1⟩)
 have C8:Below W.heap.size W W.drew:=(Below.refl _ _).drew;clear hx hy;have d0:0<d:=h.d0;have HC:Hid (zM n (d*(b:Int)) = -1):=zC (by unfold zM;rw[if_pos D5])
 have HH:=zC h
 have gB:∀ j:Nat,j<=15900->Q j<P 1000:=λ j hj=>by
  rw[<- Q_P];have h1:=zJ (show j+1<=16*1000 by omega)
  have h2:Q (j+1)=2*Q j:=rfl;have:=zE j;omega
 have Hj:=zC gB
 have oZ:Hid ((erF n d b).1<=(erF n d b).2 /\ -P 1000<(erF n d b).1/\(erF n d b).2<P 1000):=zC (by
  obtain⟨f1,f2,f3,f4,f5⟩:=zMX h b;have:=gB (b+4) (by omega)
  have:=zE (b+4)
  exact⟨f2,by omega,by omega⟩)
 have bc:Hid (∀ j,j<=M -> -P 1000<(erT n d b j).1/\(erT n d b j).2<P 1000):=zC (λ j _=>by
  obtain⟨f1,f2,f3,f4⟩:=zCO h b j;have:=gB (b+2740) (by omega)
  have:=zE (b+2740)
  exact⟨by omega,by omega⟩)
 have fI:Hid (∀ j,j<=M -> -P 1000<(jE (erT n d b) j).1/\(jE (erT n d b) j).2<P 1000):=zC (λ j hj=>by
  obtain⟨f1,f2,f3,f4⟩:=zRA h b hb j (by omega)
  have:=gB (b+2760) (by omega)
  have:=zE (b+2760)
  exact⟨by omega,by omega⟩)
 have fG:=zC (λ j=>(zCO h b j).2.1)
 have Y8:=zC (λ j=>(zCO h b j).1)
 have rN:Hid ((erP b N5 N9).1<=(erP b N5 N9).2 /\ -P 1000<(erP b N5 N9).1/\(erP b N5 N9).2<P 1000):=zC (by
  obtain⟨R',oq⟩:=Ex.piR_ex;obtain⟨f1,f2,f3,f4,f5⟩:=erP_ok oq (by omega) hb h5 h9
  have:=gB (b+4) (by omega)
  have e:Q (b+4)=2*(2*(2*(2*Q b))):=rfl;have:=zE b
  exact⟨f2,by omega,by omega⟩)
 have yz:Hid (0<(zFI n d b t N N5 N9).1/\(zFI n d b t N N5 N9).1<=(zFI n d b t N N5 N9).2):=zC (by
  obtain⟨R',oq⟩:=Ex.piR_ex;obtain⟨f1,f2,f3,f4,f5⟩:=zQ9 oq h E6 hb KB hA hN h5 h9;have:=zE b
  exact⟨by omega,f2⟩)
 have Ho:Hid ((zA0 n d b M).1*2<=(zA0 n d b M).2*2):=zC (by
  obtain⟨f1,f2,f3,f4,f5⟩:=zMY h hb hM pN
  omega)
 have mV:Hid (Q (b+4)<P 1000):=zC (gB _ (by omega))
 have GM:Hid (Q (b+eb t)<P 1000):=zC (gB _ (by have:=zBW (show t<=17 by omega);rw[eb_17] at this;omega))
 have htn:zA4 n d<=303:=zH0 h.n0 h.d0 h.up
 have HZ:Hid (2*n/d=(zA4 n d:Int)/\0<=2*n/d/\2*n/d<P 1 /\ -P 1<2*n/d):=zC (by
  have z0:0<=2*n/d:=Int.ediv_nonneg (by have:=h.n0;omega) (by omega)
  have e:2*n/d=(zA4 n d:Int):=by unfold zA4;omega
  have p1:P 1=65536:=rfl
  exact⟨e,z0,by omega,by omega⟩)
 have Hg:=zC (yA (n:=n) d0 b);have HM:=zC pN;have Hl:=zC hl;have Hr:=zC ht;have Tr:=zC hA;have HN:=zC hN;have H5:=zC h5;have H9:=zC h9;clear h D5 pN hl ht hA hN h5 h9 gB
 go_enter Tryz.func178,Tryz.ntmps178
 go_wp2;rw[<- hW];clear hW;obtain⟨x0,x1,x2,x3⟩:=zA HK _ (Below.refl _ _)
 go_region_held3 (λ w'=>nK w' w.heap.size x (nK0 w' (w.heap.size+1) y)) (first|exact zA HK _ (by with_reducible first|exact C8|exact A8|exact o9|exact A6)|(dsimp only[cK,cK0,nK,nK0,rK,rK0];go_keep)|go_keep)
  (first
   | (go_at_call 17;have hq:=o9;refine (jO _ _ _ _ _ _ _ _ 8 (8+4) n (d*(b:Int)) _ ((zA HX).bw o9) A5).mono ?_;rintro r w3 ⟨rfl,m9⟩;rw[zA HC];have A8:=zB o9 m9;have i0:=zA HK _ A8)
   | (go_at_call 83;have hq:=A6;refine (zT _ _ _ _ _ _ _ _ 8 4 d (b:Int) _ ((zA HY).bw A6) o8 (by omega) (by omega)).mono ?_;rintro r w2 ⟨j6,a2,n2,c2,rfl,A5,j8⟩;have o9:=zB A6 j8)
   | (go_at_call 33;refine (zD (b:Int) _ (by omega) (by omega)).mono ?_;rintro r w1 ⟨m7,a1,n1,c1,rfl,o8,b9⟩;have A6:=zB C8 b9))
 all_goals
  have R3:=R.bw A8;have X3:=X.bw A8;have Y3:=Y.bw A8;have aN:=zC ((zA HX).bw A8);have aW:=zC ((zA HY).bw A8);replace j7:=zB j7 A8;clear x0 x1 x2 x3 i0 A5 o8 HK HX HY X Y R;obtain⟨x0,x1⟩:=X3;obtain⟨x2,x3⟩:=Y3;have FW:=NmC.lt ⟨x0,x1⟩;have lY3:=NmC.lt ⟨x2,x3⟩;go_wp2_with fail;refine (zUE _ _ _ _ 8 n _ (zA aN) (by omega)).mono ?_
  rintro r w4 ⟨D8,a4,n4,c4,rfl,G6,y9⟩;replace R3:=R3.bw y9;have X4:NmC w4 w.heap.size x:=NmC.bw ⟨x0,x1⟩ y9;have Y4:NmC w4 (w.heap.size+1) y:=NmC.bw ⟨x2,x3⟩ y9;replace aN:=zC ((zA aN).bw y9);replace aW:=zC ((zA aW).bw y9);replace j7:=zB j7 y9;clear x0 x1 x2 x3 y9 FW lY3;obtain⟨V4,Fw⟩:∃ V,V=w4.alloc (.cells #[.bool D8,.slice a4 n4 c4] 29):=⟨_,rfl⟩;have pA:Below w4.heap.size w4 V4:=by rw[Fw];exact bl1 _ _
  have D4:NmC V4 w4.heap.size ⟨D8,a4,n4,c4⟩:=by rw[Fw];exact zBZ w4 ⟨D8,a4,n4,c4⟩ _
  have iB:=zC (G6.bw pA);have lD:w.heap.size+1+1<w4.heap.size:=R3.lt;have Lb:=X4.lt;have Ld:=Y4.lt;have Xk:=zC (X4.bw pA);have Yk:=zC (Y4.bw pA);have Dk:=zC D4;obtain⟨x0,x1⟩:=X4;obtain⟨x2,x3⟩:=Y4;replace R3:=R3.bw pA;replace aN:=zC ((zA aN).bw pA);replace aW:=zC ((zA aW).bw pA);replace j7:=zB j7 pA;clear G6 pA D4;go_wp2_with fail;rw[<- Fw];clear Fw x0 x1 x2 x3 Lb Ld;refine (yI _ _ _ _ _ _ _ _ 9 8 (2*n) d _ (zA iB) (zA aW) (by omega) d0).mono ?_
  rintro r w5 ⟨M7,a5,n5,c5,rfl,P6,D6⟩;replace R3:=R3.bw D6;have X4:=(zA Xk).bw D6;have Y4:=(zA Yk).bw D6;have D4:=(zA Dk).bw D6;replace aN:=zC ((zA aN).bw D6);replace aW:=zC ((zA aW).bw D6);replace iB:=zC ((zA iB).bw D6);replace j7:=zB j7 D6;clear D6 Xk Yk Dk;go_wp2_with fail;refine (zKK _ _ _ _ (2*n/d) _ (P6.fits (zA HZ).2.2.2 (zA HZ).2.2.1) (zA HZ).2.1).mono ?_;rintro r w6 ⟨rfl,K7⟩;rw[(zA HZ).1];replace R3:=R3.bw K7;replace X4:=X4.bw K7;replace Y4:=Y4.bw K7;replace D4:=D4.bw K7;replace aN:=zC ((zA aN).bw K7);replace aW:=zC ((zA aW).bw K7);replace iB:=zC ((zA iB).bw K7);replace j7:=zB j7 K7;clear K7 P6;have Lb:=X4.lt;have Ld:=Y4.lt;obtain⟨x0,x1⟩:=X4;obtain⟨x2,x3⟩:=Y4;go_wp2_with fail;refine (jP _ _ _ _ _ _ _ _ 8 8 b n d _ (zA aN) (zA aW) (by omega) (by omega) d0).mono ?_
  rintro r w7 ⟨v7,rfl,cE,gO,Q4⟩;have EP:=zC cE;replace R3:=R3.bw Q4;have X4:NmC w7 w.heap.size x:=NmC.bw ⟨x0,x1⟩ Q4;have Y4:NmC w7 (w.heap.size+1) y:=NmC.bw ⟨x2,x3⟩ Q4;replace D4:=D4.bw Q4;replace aN:=zC ((zA aN).bw Q4);replace aW:=zC ((zA aW).bw Q4);replace iB:=zC ((zA iB).bw Q4);replace j7:=zB j7 Q4;clear Q4 cE x0 x1 x2 x3 Lb Ld;go_wp2_with fail;refine (zFB _ v7 _ b _ _ gO (by omega) (by omega) (zA EP)).mono ?_
  rintro r w8 ⟨v8,rfl,Dx,DA,Y1⟩;have Pl:=zC Dx;have Pd:=zC (show SpAt w8 v8 1000 (erF n d b).1 (erF n d b).2 from DA.fits (zA oZ).1 (zA oZ).2.1 (zA oZ).2.2)
  replace R3:=R3.bw Y1;replace X4:=X4.bw Y1;replace Y4:=Y4.bw Y1;replace D4:=D4.bw Y1;replace aN:=zC ((zA aN).bw Y1);replace aW:=zC ((zA aW).bw Y1);replace iB:=zC ((zA iB).bw Y1);replace j7:=zB j7 Y1;clear Y1 Dx DA gO EP;have cg:=zC (show ∀ (j:Nat) (u:Sp) w',j<M->u.bits=(b:Int)->SpAt w' u 1000 (erT n d b j).1 (erT n d b j).2->Below w8.heap.size w8 w'->Calls Tryz.prog 198 #[.agg u.q,.int .i64 ((j:Int)+1),.pointer (some ⟨w4.heap.size,0,none⟩),.pointer (some ⟨w.heap.size+1,0,none⟩)] w' (zH w' b 1019 (erT n d b (j+1)).1 (erT n d b (j+1)).2) from λ j u w' hj B8 B7 O7=>er1_iv w' w4.heap.size (w.heap.size+1) u ⟨D8,a4,n4,c4⟩ y 1000 9 8 b ((j:Int)+1) (erT n d b j) (2*n) d B7 ((zA iB).bw O7) ((zA aW).bw O7) (D4.bw O7) (Y4.bw O7) (by omega) (by omega) (by omega) B8 (by omega) (by omega) d0)
  go_wp2_with fail;refine (zEJ _ #[.pointer (some ⟨w4.heap.size,0,none⟩),.pointer (some ⟨w.heap.size+1,0,none⟩)] en_erf (erT n d b) (zA4 n d) M b 1000 1019 v8 _ (zA Pd) (zA Pl) (by omega) (by omega) (by omega) (by omega) (zA HM) (by omega) (by omega) (zA fG) (zA Y8) (zA bc) (zA fI) (zA cg)).mono ?_
  rintro r w9 ⟨v,rfl,mB,gP,Z2⟩;have ER:=zC mB;have mS:=zC (show SpAt w9 v 1003 (zA0 n d b M).1 (zA0 n d b M).2 from gP)
  replace R3:=R3.bw Z2;replace X4:=X4.bw Z2;replace Y4:=Y4.bw Z2;replace aN:=zC ((zA aN).bw Z2);replace aW:=zC ((zA aW).bw Z2);replace j7:=zB j7 Z2;have lR9:=R3.lt;clear Z2 mB gP Pd cg D4 iB fG Y8 bc fI HM Pl;obtain⟨V9,Ai⟩:∃ V,V=w9.alloc (.cells v.q 31):=⟨_,rfl⟩;have pC:Below w9.heap.size w9 V9:=by rw[Ai];exact bl1 _ _
  have S9:SpC V9 w9.heap.size v:=by rw[Ai];exact zB2 w9 v _
  replace mS:=zC ((zA mS).bw pC);replace R3:=R3.bw pC;replace X4:=X4.bw pC;replace Y4:=Y4.bw pC;replace aN:=zC ((zA aN).bw pC);replace aW:=zC ((zA aW).bw pC);replace j7:=zB j7 pC;clear pC;have lX9:=X4.lt;have lY9:=Y4.lt;have lS9:=S9.lt;have lRR:=R3.lt;have pc:=zC (show ∀ w',Below V9.heap.size V9 w'->(cK w' w9.heap.size v (nK w' w.heap.size x (nK0 w' (w.heap.size+1) y))) from λ w' hB=>⟨(S9.bw hB).c0,(S9.bw hB).c1,(S9.bw hB).c2,(S9.bw hB).c3,(S9.bw hB).c4,(X4.bw hB).c0,(X4.bw hB).c1,(Y4.bw hB).c0,(Y4.bw hB).c1⟩)
  have A9:Below V9.heap.size V9 V9.drew:=(Below.refl _ _).drew;go_wp2_with fail;rw[<- Ai];clear Ai;obtain⟨x0,x1,x2,x3,x4,x5,x6,x7,x8⟩:=zA pc _ (Below.refl _ _);have DW:w.heap.size+1+1≠w9.heap.size:=by omega
  have rA:w.heap.size+1+1≠w.heap.size+1:=by omega
  have Gc:w.heap.size+1+1≠w.heap.size:=by omega
  go_region_held3 (λ w'=>cK w' w9.heap.size v (nK w' w.heap.size x (nK0 w' (w.heap.size+1) y))) (first|exact zA pc _ (by with_reducible first|exact A9|exact Fm|exact gz|exact kf|exact gy|exact I5|exact E9|exact s9|exact p9)|(dsimp only[cK,cK0,nK,nK0,rK,rK0];go_keep)|go_keep)
   (first
    | (go_at_call 141;have hq:=gz;refine (zBK _ f7 _ b _ _ JQ (zA F7) (by omega) (by omega) (by omega)).mono ?_;rintro r g8 ⟨f8,rfl,CQ,JR,hg8⟩;have F8:=zC CQ;clear CQ;have Fm:=zB gz hg8;obtain⟨q0,q1,q2,q3,q4,q5⟩:=R3.bw Fm;obtain⟨i0,i1,i2,i3,i4,i5,i6,i7,i8⟩:=zA pc _ Fm)
    | (go_at_call 162;have hq:=kf;refine (zDK _ f1 f6 2008 b _ _ _ _ ((lq.bw (zB Ao (zB oD (zB vD (zB CR QP))))).mono (by omega)) JP (by omega) (by omega) (zA F1) (zA Ho) (zA yz).1 (zA yz).2).mono ?_;rintro r g7 ⟨f7,rfl,CP,JQ,hg7⟩;have F7:=zC CP;clear CP;have gz:=zB kf hg7)
    | (go_at_call 124;have hq:=gy;refine (zJ1 _ f3 f5 1000 b (erP b N5 N9) (erX n d b t N) (lI.bw (zB vD CR)) oB (by omega) (zA F3) (by omega)).mono ?_;rintro r g6 ⟨f6,rfl,JO,JP,QP⟩;clear JO;have kf:=zB gy QP)
    | (go_at_call 77;have hq:=I5;refine (zCI _ f4 1000 b t N (ofI n d b) l gD (zA F4) (zA Hg) (by omega) (by omega) (zA Hl) (zA Hr) (by omega) (zA Tr) (zA HN) (zA GM) (by omega)).mono ?_;rintro r g5 ⟨f5,rfl,oA,oB,CR⟩;clear oA;have gy:=zB I5 CR)
    | (go_at_call 88;have hq:=E9;refine (jP _ _ _ _ _ _ _ _ 8 8 b n d _ ((zA aN).bw E9) ((zA aW).bw E9) (by omega) (by omega) d0).mono ?_;rintro r g4 ⟨f4,rfl,cA,pW,vD⟩;have gD:=pW.mono (show 8+b/16+20<=1000 by omega);have F4:=zC cA;clear cA pW;have I5:=zB E9 vD)
    | (go_at_call 197;have hq:=s9;refine (zFB _ f2 1008 b _ _ lv (by omega) (by omega) (zA F2)).mono ?_;rintro r g3 ⟨f3,rfl,eC,pT,oD⟩;have lI:=SpAt.fits (K:=1000) (show SpAt g3 f3 _ (erP b N5 N9).1 (erP b N5 N9).2 from pT) (zA rN).1 (zA rN).2.1 (zA rN).2.2;have F3:=zC eC;clear eC pT;have E9:=zB s9 oD)
    | (go_at_call 199;have hq:=p9;refine (pi_iv _ b N5 N9 1000 (by omega) (by omega) (zA H5) (zA H9) (zA mV) (by omega)).mono ?_;rintro r g2 ⟨f2,rfl,eA,lv,Ao⟩;have F2:=zC eA;clear eA;have s9:=zB p9 Ao)
    | (go_at_call 156;refine (zDO _ v 1003 b 2 _ ((zA mS).bw A9) (by omega) (zA ER) (by omega) (by omega)).mono ?_;rintro r g1 ⟨f1,rfl,eo,lq,pY⟩;have F1:=zC eo;clear eo;have p9:=zB A9 pY))
  all_goals
   go_wp2_with fail;refine bodyPost_ret (v:=.agg f8.q) (by simp[results,Tryz.results178,go_sem,q0,q1,q2,q3,q4]) rfl ⟨f8,rfl,zA F8,?_,?_⟩
   ·have hz:=SpAt.put5 JR q0 q1 q2 q3 q4 (.bool f8.ln) (.slice f8.la f8.lN f8.lc) (.bool f8.hn) (.slice f8.ha f8.hN f8.hc) (.int .i64 f8.bits)
    rw[zED] at hz;exact hz.mono (by omega)
   ·exact jY (zB j7 Fm) (by omega) _ _ _ _ _
def zA8 (B:Nat) (a:Int × Int):Int × Int:=(Q B-a.2,Q B-a.1)
theorem sq_bd {p:Int} (h1 : -1048576<=p) (h2:p<=1048576):0<=p*p/\p*p<=1099511627776:=by
 refine⟨?_,?_⟩
 ·rcases Int.le_total 0 p with h|h
  ·exact YF h h
  ·have:=YF (show 0 <= -p by omega) (show 0 <= -p by omega)
   have e : -p * -p=p*p:=by grind
   omega
 ·have:=yR h1 h2 h1 h2
  omega
theorem one_z {b:Nat} (z:Int) (hz:z=(b:Int)) (w:World) (hb:b<=1000000):Calls Tryz.prog 93 #[.int .i64 z] w (zH w b (b/16+24) (1*Q b/1) (-(-(1*Q b)/1))):=by
 subst hz;exact zDD w b hb
theorem zEW (w:World) (s:Sp) (k b:Nat) (a:Int × Int) (hs:SpAt w s k a.1 a.2) (hbits:s.bits=(b:Int)) (hb:b<=100000) (eG:b/16+24<=k) (hk:k<=100000000) :
  Calls Tryz.prog 48 #[.agg s.q] w (zH w b (k+1) (zA8 b a).1 (zA8 b a).2):=by
 obtain⟨W,hW⟩:∃ W,W=(w.alloc (.cells s.q 31)).alloc (.cells zCq 31):=⟨_,rfl⟩;have j7:Below w.heap.size w W:=by rw[hW];exact bl2 _ _ _
 have A:SpC W w.heap.size s:=by rw[hW];constructor<;>simp[go_sem]
 have R:NoC W (w.heap.size+1):=by rw[hW];constructor<;>simp[go_sem]
 have HS:=zC (hs.bw j7);have HB:=zC hbits;have lA:=A.lt;have lR:=R.lt;have HO:=zC (show (1*Q b/1,-(-(1*Q b)/1))=(Q b,Q b) by rw[Int.ediv_one,Int.ediv_one];simp)
 have C8:Below W.heap.size W W.drew:=(Below.refl _ _).drew;have HK:=zC (show ∀ w',Below W.heap.size W w'->(cK0 w' w.heap.size s) from λ w' hB=>⟨(A.bw hB).c0,(A.bw hB).c1,(A.bw hB).c2,(A.bw hB).c3,(A.bw hB).c4⟩)
 clear hs hbits
 go_enter Tryz.func48,Tryz.ntmps48
 go_wp2;rw[<- hW];clear hW;obtain⟨x0,x1,x2,x3,x4⟩:=A
 go_region_held3 (λ w'=>cK0 w' w.heap.size s) (first|exact zA HK _ (by with_reducible first|exact C8|exact o9|exact A6)|(dsimp only[cK,cK0,nK,nK0,rK,rK0];go_keep)|go_keep)
  (first
   | (go_at_call 92;have hq:=A6;refine (zHJ _ v1 s k b (1*Q b/1,-(-(1*Q b)/1)) a (S7.mono eG) ((zA HS).bw A6) (by omega) (zA HV)).mono ?_;rintro r w2 ⟨t,rfl,I8,P1,j8⟩;have HT:=zC I8;clear I8;have o9:=zB A6 j8;obtain⟨q0,q1,q2,q3,q4,q5⟩:=R.bw o9;obtain⟨i0,i1,i2,i3,i4⟩:=zA HK _ o9)
   | (go_at_call 93;refine (one_z _ (zA HB) _ (by omega)).mono ?_;rintro r w1 ⟨v1,rfl,J6,S7,b9⟩;have HV:=zC J6;clear J6;have A6:=zB C8 b9))
 all_goals
  go_wp2;refine bodyPost_ret (v:=.agg t.q) (by simp[results,Tryz.results48,go_sem,q0,q1,q2,q3,q4]) rfl ⟨t,rfl,zA HT,?_,?_⟩
  ·rw[zA HO] at P1
   exact SpAt.put5 P1 q0 q1 q2 q3 q4 _ _ _ _ _
  ·exact jY (zB j7 o9) (Nat.le_succ _) _ _ _ _ _
open Ex
def zGV (p q:Int):Rat:=(if p<0 then -(p:Rat) else (p:Rat))/(q:Rat)
theorem zLA {p q:Int} (hq:0<q):0<=zGV p q/\zGV p q*zGV p q*((q*q:Int):Rat)=((p*p:Int):Rat):=by
 have q0:(0:Rat)<(q:Rat):=by exact_mod_cast hq
 unfold zGV;have e:=rdm (a:=(if p<0 then -(p:Rat) else (p:Rat))) q0
 have hn:(0:Rat)<=(if p<0 then -(p:Rat) else (p:Rat)):=by
  split
  ·rename_i h
   have:(p:Rat)<=0:=by exact_mod_cast (show p<=0 by omega)
   grind
  ·rename_i h
   exact_mod_cast (show 0<=p by omega)
 refine⟨jW q0 (by grind),?_⟩
 rw[YG,YG];generalize (if p<0 then -(p:Rat) else (p:Rat))/(q:Rat)=z at *
 have:z*z*((q:Rat)*(q:Rat))=(z*(q:Rat))*(z*(q:Rat)):=by grind
 rw[this,e];split<;>grind
theorem zFO {B:Nat} {a:Int × Int} {x:Nat->Rat} (h:Iv B a x):Iv B (zA8 B a) (λ M=>1-x M):=(zHC B).sub h
theorem big_Q {z:Int} {B m:Nat} (hB:B<=120) (h:z<=2*Q (B+m)):z<=P 200*Q m:=by
 have e:Q (B+m)=Q B*Q m:=jF B m;have q:=zE m
 have h1:2*Q B<=P 200:=by
  rw[<- Q_P];have h2:Q (B+1)=2*Q B:=rfl;have:=zJ (show B+1<=16*200 by omega)
  omega
 have m1:=YA h1 (show 0<=Q m by omega)
 have e2:2*Q B*Q m=2*(Q B*Q m):=by grind
 omega
theorem sure_nar {b m:Nat} {lo hi L H:Int} (hle:lo<=hi) (e1:L=lo/Q m) (e2:H = -(-hi/Q m)) (h6:H-L<=1\/zK2 L H (Q b) 4=true):L<=H/\zK2 L H (Q b) 4=true:=by
 have h7:=zOA (m:=m) (Kw:=(hi-lo).toNat) hle (by
  have:∀ k:Nat,(k:Int)<=Q k:=λ k=>by
   induction k with
   | zero=>decide
   | succ k ih=>have e:Q (k+1)=2*Q k:=rfl;have:=zE k;omega
  have:=this (hi-lo).toNat
  omega)
 have h8:L<=H:=by rw[e1,e2];omega
 refine⟨h8,?_⟩
 rcases h6 with h6|h6
 ·exact zDN h8 (by omega)
 ·exact h6
theorem zRI (n:Nat):LeN (ex (-(n:Rat))) (λ _=>q2 n):=by
 have one:LeN (ex (-1)) (λ _=>1/2):=by
  have ad:=zA5 1 (-1);rw[show (1:Rat) + -1=0 by decide +kernel] at ad
  obtain⟨N,pos⟩:=zA6 (-1);refine LeN.of_null (ad.bmul (Bdd.const (1/2))) (N+2) λ M hM=>?_
  have p:=pos M (by omega)
  have e1:1+1<=ex 1 M:=zI8 (by grind) (by omega)
  have e0:ex 0 M=1:=by
   obtain⟨m,rfl⟩:∃ m,M=m+1:=⟨M-1,by omega⟩
   exact kT m
  have m1:=YB e1 p;rw[e0];grind
 induction n with
 | zero =>
  refine LeN.of_le 1 λ M hM=>?_
  have e : -((0:Nat):Rat)=0:=by decide +kernel
  rw[e];obtain⟨m,rfl⟩:∃ m,M=m+1:=⟨M-1,by omega⟩
  rw[show ex 0 (m+1)=1 from kT m]
  show (1:Rat)<=1
  grind
 | succ n ih =>
  have ec:((n+1:Nat):Rat)=(n:Rat)+1:=by push_cast;rfl
  have ad:=zA5 (-(n:Rat)) (-1);rw[show -(n:Rat) + -1 = -((n+1:Nat):Rat) by rw[ec];grind] at ad
  obtain⟨z1,G7,k1⟩:=ih.null;obtain⟨z2,M6,k2⟩:=one.null;obtain⟨N,pos⟩:=zA6 (-1);have b1:=jZ (-1);refine LeN.of_null (((G7.bmul b1).add (M6.bmul (Bdd.const (q2 n)))).add ad.neg) N λ M hM=>?_
  have p:=pos M (by omega)
  have q:=yC n;have m1:=YB (k1 M) p;have m2:=Yy (k2 M) (YC q);have e2:q2 (n+1)=q2 n/2:=rfl;rw[e2];grind
theorem one_QB (B:Nat):((Q B:Int):Rat)/(Q B:Rat)=1:=by
 have q:=jH B;rw[YK,Rat.mul_inv_cancel _ (by grind)]
theorem one_q2:∀ n:Nat,((1:Int):Rat)/(Q n:Rat)=q2 n:=λ n=>by
 induction n with
 | zero=>decide +kernel
 | succ n ih =>
  have e:((Q (n+1):Int):Rat)=2*(Q n:Rat):=by
   have:Q (n+1)=2*Q n:=rfl;rw[this,YG];rfl
  have qn:=jH n
  show _=q2 n/2
  rw[<- ih,e,YK,YK,YK,Rat.inv_mul_rev];grind
theorem rt2_ex:∃ R2,yE (λ _=>(2:Rat)) R2:=zN0 (M0:=0) (λ M _=>by grind) (Bdd.const 2)
theorem half_rt {R2:Nat->Rat} (h:yE (λ _=>(2:Rat)) R2) {c:Rat} (hc:0<=c):RtOf (c*c/2) (λ M=>c*(R2 M/2)):=by
 refine⟨λ M=>Yz hc (by have:=h.one M;grind),?_⟩
 refine (h.sq.bmul (Bdd.const (c*c/4))).of_eq λ M=>?_
 grind
def nrE (E:Nat->Rat) (p:Int) (M:Nat):Rat:=if 0<p then E M else -E M
def nrV (E:Nat->Rat) (p:Int) (M:Nat):Rat:=(1:Int)/((2:Int):Rat)*(1+nrE E p M)
theorem leN_opp {f g:Nat->Rat} (h:LeN f g):LeN (λ M => -g M) (λ M => -f M):=λ e he=>by
 obtain⟨N,k⟩:=h e he;exact⟨N,λ M hM=>by have:=k M hM;simp only[];grind⟩
def ErfN (n d:Int) (B:Nat) (s e:Int):Prop:=∀ (w':World) (x y:Nm),IntAt w' x.neg x.a x.n x.cap 8 n->IntAt w' y.neg y.a y.n y.cap 8 d ->
 Calls Tryz.prog 178 #[.agg x.q,.agg y.q,.int .i64 B] w' (zH w' B 3000 s e)
def nrY (p q:Int):Rat:=((p*p:Int):Rat)/((q*q*2:Int):Rat)
def nrR (R2:Nat->Rat) (p q:Int) (M:Nat):Rat:=zGV p q*(R2 M/2)
theorem zJ5 {p q:Int} (hq:0<q):nrY p q=zGV p q*zGV p q/2:=by
 have q0:(0:Rat)<((q*q:Int):Rat):=by exact_mod_cast Int.mul_pos hq hq
 have q2:(0:Rat)<((q*q*2:Int):Rat):=by exact_mod_cast (show 0<q*q*2 by have:=Int.mul_pos hq hq;omega)
 have e:=(zLA (p:=p) hq).2;have r:=rdm (a:=((p*p:Int):Rat)) q2;unfold nrY;have e2:((q*q*2:Int):Rat)=((q*q:Int):Rat)*2:=by rw[YG (q*q) 2];rfl
 have k:zGV p q*zGV p q/2*((q*q*2:Int):Rat)=((p*p:Int):Rat):=by rw[e2,<- e];grind
 exact Rat.le_antisymm (Rat.le_of_mul_le_mul_right (by rw[r,k];exact Rat.le_refl) q2) (Rat.le_of_mul_le_mul_right (by rw[r,k];exact Rat.le_refl) q2)
theorem zO9 {R2:Nat->Rat} (h2:yE (λ _=>(2:Rat)) R2) {p q:Int} (hq:0<q):RtOf (nrY p q) (nrR R2 p q):=by
 rw[zJ5 hq];exact half_rt h2 (zLA (p:=p) hq).1
theorem sq_pos {p:Int} (hp:p≠0):1<=p*p:=by
 rcases Int.lt_or_gt_of_ne hp with h|h
 ·have:=Int.mul_pos (show 0 < -p by omega) (show 0 < -p by omega)
  have e : -p * -p=p*p:=by grind
  omega
 ·have:=Int.mul_pos h h;omega
def wrok (p q:Int):Prop := -35184372088832<=p/\p<=35184372088832/\1<=q/\q<=137438953472
theorem sq_bw {p K:Int} (h1 : -K<=p) (h2:p<=K):0<=p*p/\p*p<=K*K:=by
 have e : -p * -p=p*p:=by grind
 rcases Int.le_total 0 p with h|h
 ·exact⟨YF h h,Int.mul_le_mul h2 h2 h (by omega)⟩
 ·rw[<- e];exact⟨YF (by omega) (by omega),Int.mul_le_mul (by omega) (by omega) (by omega) (by omega)⟩
theorem nor_in {R2:Nat->Rat} (h2:yE (λ _=>(2:Rat)) R2) {p q:Int} (hr:wrok p q) (h:p*p<152*(q*q*2)):ErIn (p*p) (q*q*2) (nrR R2 p q):=by
 obtain⟨r1,r2,r3,r4⟩:=hr;have q0:0<q*q:=Int.mul_pos (by omega) (by omega)
 have p0:=(sq_bw r1 r2).1;refine⟨p0,by omega,zO9 h2 (by omega),h,?_⟩
 by_cases hp:p=0
 ·exact Or.inl (by rw[hp];rfl)
 ·refine Or.inr ?_
  have h1:=sq_pos hp;have h2:=(sq_bw (p:=q) (K:=137438953472) (by omega) r4).2
  have e:Q 76=75557863725914323419136:=rfl;rw[e];omega
def NoCore (E:Nat->Rat) (B:Nat) (s e:Int):Prop:=Iv B (s,e) E/\0<=s/\s<=e/\e<=Q B/\e-s<=Q 4500
theorem nor_near {R R2:Nat->Rat} (hR:yE piS R) (h2:yE (λ _=>(2:Rat)) R2) {p q:Int} (hr:wrok p q) (h:p*p<152*(q*q*2)) {B:Nat} (hB:40<=B) (o9:B<=10000) (D5:p*p<q*q*2*(B:Int)):∃ s e,ErfN (p*p) (q*q*2) B s e/\NoCore (zC9 R (nrY p q) (nrR R2 p q)) B s e:=by
 have I7:=nor_in h2 hr h;obtain⟨M,hM,pN⟩:=erT_set I7 B;obtain⟨l,t,N,e1,e2,e3,e4,e5⟩:=erX_set I7 hB;obtain⟨N5,h5⟩:=zQC (m:=5) (by omega) (show 2<=B by omega)
 obtain⟨N9,h9⟩:=zQC (m:=239) (by omega) (show 2<=B by omega)
 refine⟨_,_,λ w' x y hx hy=>erf_iv w' x y (p*p) (q*q*2) B hx hy hB o9 (nrR R2 p q) M t N N5 N9 l I7 D5 hM pN e1 e2 e3 e4 e5 h5 h9,?_⟩
 exact erf_ok hR I7 hB o9 hM pN e3 e4 e5 h5 h9
theorem nor_farN {p q:Int} {B:Nat} (hB:40<=B) (o9:B<=10000) (h:q*q*2*(B:Int)<=p*p):ErfN (p*p) (q*q*2) B (Q B-1) (Q B):=λ w' x y hx hy =>
 (erf_far w' x y (p*p) (q*q*2) B hx hy hB o9 h).mono λ r I9 ⟨s,e1,e2,e3,e4⟩=>⟨s,e1,e2,e3.mono (by omega),e4⟩
def oppP (p:Int) (a:Int × Int):Int × Int:=if 0<p then (-a.2,-a.1) else a
def zFC (B:Nat) (p:Int) (a:Int × Int):Int × Int:=zK (zA8 B (oppP p a)) 1 2
theorem zJ4 (B:Nat) (p s e:Int):(zFC B p (s,e)).1=(if 0<p then (Q B+s)/2 else (Q B-e)/2)/\(zFC B p (s,e)).2=(if 0<p then -(-(Q B+e)/2) else -(-(Q B-s)/2)):=by
 unfold zFC zK zA8 oppP
 by_cases hp:0<p
 ·rw[if_pos hp,if_pos hp,if_pos hp]
  simp only[Int.mul_one,Int.sub_neg,and_self]
 ·rw[if_neg hp,if_neg hp,if_neg hp]
  simp only[Int.mul_one,and_self]
theorem norI_ok {B:Nat} {p s e:Int} (h0:0<=s) (h1:s<=e) (h2:e<=Q B) (h3:e-s<=Q 4500):(zFC B p (s,e)).1<=(zFC B p (s,e)).2/\0<=(zFC B p (s,e)).1/\(zFC B p (s,e)).2<=Q B/\(zFC B p (s,e)).2-(zFC B p (s,e)).1<=Q 4500:=by
 obtain⟨e1,e2⟩:=zJ4 B p s e;have q:=zE B;have q4:4<=Q 4500:=by have:=zJ (show 2<=4500 by omega);have:Q 2=4:=rfl;omega
 rw[e1,e2];clear e1 e2;generalize Q 4500=z at *
 by_cases hp:0<p
 ·rw[if_pos hp,if_pos hp];omega
 ·rw[if_neg hp,if_neg hp];omega
theorem norI_iv {B:Nat} {p:Int} {a:Int × Int} {E:Nat->Rat} (h:Iv B a E):Iv B (zFC B p a) (nrV E p):=by
 unfold zFC
 have k:Iv B (zA8 B (oppP p a)) (λ M=>1+nrE E p M):=by
  unfold oppP nrE
  by_cases hp:0<p
  ·rw[if_pos hp]
   exact Has.of_eq (zFO h.opp) λ M=>by rw[if_pos hp];grind
  ·rw[if_neg hp]
   exact Has.of_eq (zFO h) λ M=>by rw[if_neg hp];grind
 exact k.scale (n:=1) (d:=2) (by decide) (by decide)
structure NoV (V:Nat->Rat) (b:Nat) (L H:Int):Prop where
 le:L<=H
 lo:0<=L
 hi:H<=Q b
 nar:zK2 L H (Q b) 4=true
 val:Iv b (L,H) V
def zM2 (p:Int) (b:Nat):Int × Int:=if 0<p then (Q b-1,Q b) else (0,1)
theorem far_no (p : Int) (b : Nat) : (zM2 p b).1 = (zFC (b + 32) p (Q (b + 32) - 1, Q (b + 32))).1 / Q 32 ∧ (zM2 p b).2 = -(-(zFC (b + 32) p (Q (b + 32) - 1, Q (b + 32))).2 / Q 32) := by
  have q := zE 32
  have e : Q (b + 32) = Q b * Q 32 := jF b 32
  obtain ⟨e1, e2⟩ := zJ4 (b + 32) p (Q (b + 32) - 1) (Q (b + 32))
  rw [e1, e2]
  unfold zM2
  by_cases hp : 0 < p
  · rw [if_pos hp, if_pos hp, if_pos hp]
    have g1 : (Q (b + 32) + (Q (b + 32) - 1)) / 2 = Q (b + 32) - 1 := by omega
    have g2 : -(-(Q (b + 32) + Q (b + 32)) / 2) = Q (b + 32) := by omega
    rw [g1, g2, e]
    have q1 : 1 ≤ Q 32 := q
    refine ⟨?_, ?_⟩
    · show Q b - 1 = (Q b * Q 32 - 1) / Q 32
      have a := Int.le_ediv_of_mul_le q (show (Q b - 1) * Q 32 ≤ Q b * Q 32 - 1 by have : (Q b - 1) * Q 32 = Q b * Q 32 - Q 32 := by grind
                                                                                   omega)
      have c := Int.ediv_lt_of_lt_mul q (show Q b * Q 32 - 1 < Q b * Q 32 by omega)
      omega
    · show Q b = -(-(Q b * Q 32) / Q 32)
      rw [← Int.neg_mul, Int.mul_ediv_cancel _ (by omega)]; omega
  · rw [if_neg hp, if_neg hp, if_neg hp]
    have g1 : (Q (b + 32) - Q (b + 32)) / 2 = 0 := by omega
    have g2 : -(-(Q (b + 32) - (Q (b + 32) - 1)) / 2) = 1 := by omega
    rw [g1, g2]
    refine ⟨by show (0 : Int) = 0 / Q 32; simp, ?_⟩
    show (1 : Int) = -(-1 / Q 32)
    have a := Int.le_ediv_of_mul_le q (show -1 * Q 32 ≤ -1 by omega)
    have c := Int.ediv_lt_of_lt_mul q (show -1 < 0 * Q 32 by omega)
    omega
theorem low_one {R:Nat->Rat} (hR:yE piS R) {y:Rat} {r:Nat->Rat} (h:RtOf y r) {b:Nat} (hy:(b:Rat)+32<=y):LeN (λ _=>1-q2 b) (zC9 R y r):=by
 have y0:=h.y0;obtain⟨k,hk⟩:=kB (2*y+3);obtain⟨s,s0,s1,s2⟩:=root0 y y0 k;have k0:(0:Rat)<(k:Rat)+1:=zAV k;have um:=rdm (a:=1) k0;have u0:(0:Rat)<=1/((k:Rat)+1):=jW k0 (by grind)
 have kk:(0:Rat)<=(k:Rat):=by exact_mod_cast Nat.zero_le k
 obtain⟨u,hu⟩:∃ u,u=1/((k:Rat)+1):=⟨_,rfl⟩;rw[<- hu] at s2 um u0;have u1:u<=1:=by have:=Yz u0 kk;grind
 have st:=zI2 s0 s1 u0 u1;have m:=YB hk.2 u0;have sb:(b:Rat)<=s*s:=by grind
 have low:=erf_low hR s0;have ml:=(zBX (a := -(s*s)) (b := -(b:Rat)) (by grind)).trans (zRI b)
 refine LeN.trans ?_ (low.trans (zRC hR h s0 s1));obtain⟨z,hz,kz⟩:=ml.null;refine LeN.of_null hz 0 λ M _=>?_
 have:=kz M;grind
theorem far_noV {R R2:Nat->Rat} (hR:yE piS R) (h2:yE (λ _=>(2:Rat)) R2) {p q:Int} (hq:0<q) {b:Nat} (h:q*q*2*((b:Int)+32)<=p*p):NoV (nrV (zC9 R (nrY p q) (nrR R2 p q)) p) b (zM2 p b).1 (zM2 p b).2:=by
 have q0:0<q*q:=Int.mul_pos hq hq
 have yb:(b:Rat)+32<=nrY p q:=by
  have q2:(0:Rat)<((q*q*2:Int):Rat):=by exact_mod_cast (show 0<q*q*2 by omega)
  refine jW q2 ?_;have c:=zZ h;rw[YG,Rat.intCast_add] at c;have e1:((b:Int):Rat)=(b:Rat):=rfl;have e2:((32:Int):Rat)=32:=rfl;rw[e1,e2] at c;grind
 have rt:=zO9 h2 (p:=p) hq;have lo:=low_one hR rt yb;have one:=zMZ hR rt;have qb:=zE b;have qr:=jH b
 have f:(zM2 p b).2-(zM2 p b).1=1/\0<=(zM2 p b).1/\(zM2 p b).2<=Q b:=by
  unfold zM2
  by_cases hp:0<p
  ·rw[if_pos hp];exact⟨by simp only[];omega,by simp only[];omega,by simp only[];omega⟩
  ·rw[if_neg hp];exact⟨by simp only[];omega,by simp only[];omega,by simp only[];omega⟩
 refine⟨by omega,f.2.1,f.2.2,zDN (by omega) (by omega),?_⟩
 have qp:=yC b
 intro e he
 obtain⟨N1,k1⟩:=lo e he;obtain⟨N2,k2⟩:=one e he;refine⟨N1+N2,λ M hM=>?_⟩
 have a1:=k1 M (by omega)
 have a2:=k2 M (by omega)
 simp only[] at a1 a2;have o1:=one_QB b;have o2:=one_q2 b;have e2:((2:Int):Rat)=2:=rfl;have e1:((1:Int):Rat)=1:=rfl;unfold zM2 nrV nrE
 by_cases hp:0<p
 ·rw[if_pos hp,if_pos hp]
  simp only[];rw[Rat.intCast_sub,zIY,o1,o2,e1,e2];exact⟨by grind,by grind⟩
 ·rw[if_neg hp,if_neg hp]
  simp only[];have z:((0:Int):Rat)/(Q b:Rat)=0:=by rw[YK];exact Rat.zero_mul _
  rw[z,o2,e1,e2];exact⟨by grind,by grind⟩
end Go.Proofs.YtgmnknmjainabacGreat
namespace Go.Proofs.YtgmnknmjainabacGreat.Ex
def Nn (f:Nat->Rat):Prop:=∃ N:Nat,∀ M,N<=M->0<=f M
theorem Nn.mul {f g:Nat->Rat} (h:Nn f) (k:Nn g):Nn (λ M=>f M*g M):=by
 obtain⟨N1,h1⟩:=h;obtain⟨N2,h2⟩:=k;exact⟨N1+N2,λ M hM=>Yz (h1 M (by omega)) (h2 M (by omega))⟩
theorem Nn.add {f g:Nat->Rat} (h:Nn f) (k:Nn g):Nn (λ M=>f M+g M):=by
 obtain⟨N1,h1⟩:=h;obtain⟨N2,h2⟩:=k;exact⟨N1+N2,λ M hM=>by have:=h1 M (by omega);have:=h2 M (by omega);grind⟩
theorem Nn.const {c:Rat} (h:0<=c):Nn (λ _=>c):=⟨0,λ _ _=>h⟩
theorem zPY {x:Nat->Rat} (h:Bdd x):Nn (Ev x):=by
 obtain⟨c,c0,N,k⟩:=zB4 h;exact⟨N,λ M hM=>Rat.le_trans (YC c0) (k M hM)⟩
theorem zDQ (a:Rat):Nn (ex a):=zPY (Bdd.const a)
theorem LeN.bmul {f g k:Nat->Rat} (h:LeN f g) (hk:Bdd k) (hn:Nn k):LeN (λ M=>f M*k M) (λ M=>g M*k M):=by
 obtain⟨z,hz,kz⟩:=h.null;obtain⟨N,hN⟩:=hn;refine LeN.of_null (hz.bmul hk) N λ M hM=>?_
 have:=YB (kz M) (hN M hM);grind
theorem LeN.cmul {f g:Nat->Rat} (h:LeN f g) {c:Rat} (hc:0<=c):LeN (λ M=>c*f M) (λ M=>c*g M):=by
 obtain⟨z,hz,kz⟩:=h.null;refine LeN.of_null (hz.bmul (Bdd.const c)) 0 λ M _=>?_
 have:=Yy (kz M) hc;grind
theorem LeN.of_eqN {f g:Nat->Rat} (h:Null (λ M=>f M-g M)):LeN f g:=h.leN
theorem LeN.mul {f g f' g':Nat->Rat} (h:LeN f g) (h':LeN f' g') (b:Bdd f') (n:Nn f') (b2:Bdd g) (n2:Nn g):LeN (λ M=>f M*f' M) (λ M=>g M*g' M) :=
 (h.bmul b n).trans ((LeN.of_le 0 λ M _=>by show g M*f' M<=f' M*g M;grind).trans ((h'.bmul b2 n2).trans (LeN.of_le 0 λ M _=>by show g' M*g M<=g M*g' M;grind)))
theorem jM {a b c:Rat} (hc:0<c) (h:a*c<=b):a<=b/c:=Rat.le_of_mul_le_mul_right (by rw[rdm hc];exact h) hc
theorem zBH {a b c:Rat} (hc:0<c) (h:a<=b*c):a/c<=b:=Rat.le_of_mul_le_mul_right (by rw[rdm hc];exact h) hc
theorem zX {c a b:Rat} (hc:0<c) (h:c*a=c*b):a=b:=Rat.le_antisymm (Rat.le_of_mul_le_mul_left (by rw[h];exact Rat.le_refl) hc) (Rat.le_of_mul_le_mul_left (by rw[h];exact Rat.le_refl) hc)
def upT (a x:Rat):Nat->Rat
 | 0=>1/a
 | n+1=>x/(a+((n:Rat)+1))*upT a x n
theorem zBJ {a:Rat} (ha:0<a) (n:Nat):0<a+((n:Rat)+1):=by have:=zAV n;grind
theorem yX {a:Rat} (ha:0<a) (x:Rat):a*upT a x 0=1:=by
 have:=rdm (a:=1) ha
 show a*(1/a)=1
 grind
theorem jX {a:Rat} (ha:0<a) (x:Rat) (n:Nat):(a+((n:Rat)+1))*upT a x (n+1)=x*upT a x n:=by
 have e:=rdm (a:=x) (zBJ ha n)
 show (a+((n:Rat)+1))*(x/(a+((n:Rat)+1))*upT a x n)=_
 have:(a+((n:Rat)+1))*(x/(a+((n:Rat)+1))*upT a x n)=x/(a+((n:Rat)+1))*(a+((n:Rat)+1))*upT a x n:=by grind
 rw[this,e]
theorem kG {a x:Rat} (ha:0<a) (h:0<=x) (n:Nat):0<=upT a x n:=by
 induction n with
 | zero=>exact jM ha (by grind)
 | succ n ih=>exact Yz (jM (zBJ ha n) (by grind)) ih
theorem upT_next {a:Rat} (ha:0<a) (x:Rat) (n:Nat):a*upT a x (n+1)=x*upT (a+1) x n:=by
 induction n with
 | zero =>
  have e1:=jX ha x 0;have e2:=yX ha x;have e3:=yX (show 0<a+1 by grind) x
  refine zX (show 0<a+1 by grind) ?_
  have c:((0:Nat):Rat)=0:=rfl;rw[c] at e1;have k1:(a+1)*(a*upT a x (0+1))=a*((a+(0+1))*upT a x (0+1)):=by grind
  have k2:(a+1)*(x*upT (a+1) x 0)=x*((a+1)*upT (a+1) x 0):=by grind
  rw[k1,k2,e1,e3];have k3:a*(x*upT a x 0)=x*(a*upT a x 0):=by grind
  rw[k3,e2]
 | succ n ih =>
  have e1:=jX ha x (n+1);have e2:=jX (show 0<a+1 by grind) x n
  have c:((n+1:Nat):Rat)=(n:Rat)+1:=by push_cast;rfl
  rw[c] at e1;refine zX (show 0<a+((n:Rat)+1+1) by have:=zAV n;grind) ?_
  have k1:(a+((n:Rat)+1+1))*(a*upT a x (n+1+1))=a*((a+((n:Rat)+1+1))*upT a x (n+1+1)):=by grind
  have k2:(a+((n:Rat)+1+1))*(x*upT (a+1) x (n+1))=x*((a+1+((n:Rat)+1))*upT (a+1) x (n+1)):=by grind
  rw[k1,k2,e1,e2,<- ih];grind
def uS (a x:Rat) (M:Nat):Rat:=S (upT a x) M
theorem yS (a x:Rat) (M:Nat):uS a x (M+1)=uS a x M+upT a x M:=rfl
theorem zCH {a x:Rat} (ha:0<a) (h:0<=x) (M:Nat):0<=uS a x M:=by
 induction M with
 | zero=>show (0:Rat)<=0;grind
 | succ n ih=>have:=kG ha h n;rw[yS];grind
theorem zFS {a x:Rat} (ha:0<a) (h:0<=x) (M:Nat):1/a<=uS a x (M+1):=by
 induction M with
 | zero=>show 1/a<=0+1/a;grind
 | succ n ih=>have:=kG ha h (n+1);rw[yS];grind
theorem uS_next {a:Rat} (ha:0<a) (x:Rat) (M:Nat):a*uS a x (M+1)=1+x*uS (a+1) x M:=by
 induction M with
 | zero =>
  have:=yX ha x
  show a*(0+upT a x 0)=1+x*0
  grind
 | succ n ih =>
  have:=upT_next ha x n;rw[yS a x (n+1),yS (a+1) x n];grind
theorem upT_tan {a x u:Rat} (ha:0<a) (hx:0<=x) (hu : -1<=u) (n:Nat):upT a x n+(n:Rat)*u*upT a x n<=upT a (x*(1+u)) n:=by
 induction n with
 | zero =>
  have c:((0:Nat):Rat)=0:=rfl
  show 1/a+((0:Nat):Rat)*u*(1/a)<=1/a
  rw[c];grind
 | succ n ih =>
  have e1:=jX ha x n;have e2:=jX ha (x*(1+u)) n;have c:((n+1:Nat):Rat)=(n:Rat)+1:=by push_cast;rfl
  have y0:=Yz hx (show 0<=1+u by grind)
  have m:=Yy ih y0;have p:=zBJ ha n;refine Rat.le_of_mul_le_mul_left (c:=a+((n:Rat)+1)) ?_ p;rw[e2,c];have k:(a+((n:Rat)+1))*(upT a x (n+1)+((n:Rat)+1)*u*upT a x (n+1))=(1+((n:Rat)+1)*u)*((a+((n:Rat)+1))*upT a x (n+1)):=by grind
  rw[k,e1];have n0:(0:Rat)<=(n:Rat):=by exact_mod_cast Nat.zero_le n
  have q:=Yz (Yz n0 (zO u)) (Yz hx (kG ha hx n));grind
theorem uS_tan {a x u:Rat} (ha:0<a) (hx:0<=x) (hu : -1<=u) (M:Nat):uS a x (M+1)+u*(1+x*uS a x M-a*uS a x (M+1))<=uS a (x*(1+u)) (M+1):=by
 induction M with
 | zero =>
  have e:=yX ha x;have e2:upT a (x*(1+u)) 0=upT a x 0:=rfl
  show 0+upT a x 0+u*(1+x*0-a*(0+upT a x 0))<=0+upT a (x*(1+u)) 0
  rw[e2];have:a*(0+upT a x 0)=1:=by rw[<- e];grind
  rw[this];grind
 | succ n ih =>
  have t:=upT_tan ha hx hu (n+1);have e1:=jX ha x n;have c:((n+1:Nat):Rat)=(n:Rat)+1:=by push_cast;rfl
  rw[c] at t;rw[yS a x (n+1),yS a (x*(1+u)) (n+1)];have e3:uS a x (n+1)=uS a x n+upT a x n:=rfl;have k:((n:Rat)+1)*u*upT a x (n+1)=u*(x*upT a x n)-u*(a*upT a x (n+1)):=by rw[<- e1];grind
  rw[k] at t;rw[e3] at ih ⊢;grind
theorem zUA {a x y:Rat} (ha:0<a) (hx:0<=x) (K6:x<=y) (M:Nat):uS a x M<=uS a y M:=by
 have t:∀ n,upT a x n<=upT a y n:=by
  intro n
  induction n with
  | zero=>exact Rat.le_refl
  | succ n ih =>
   have e1:=jX ha x n;have e2:=jX ha y n;refine Rat.le_of_mul_le_mul_left (c:=a+((n:Rat)+1)) ?_ (zBJ ha n);rw[e1,e2];exact Rat.le_trans (Yy ih hx) (YB K6 (kG ha (by grind) n))
 induction M with
 | zero=>exact Rat.le_refl
 | succ n ih=>have:=t n;rw[yS,yS];grind
theorem zUD {a x:Rat} (ha:0<a) (hx:0<=x) (n:Nat):a*upT a x n<=tm x n:=by
 induction n with
 | zero=>rw[yX ha];exact Rat.le_refl
 | succ n ih =>
  have e1:=jX ha x n;have e2:=kR x n;have p:=zAV n;have q:=Yz (Yz (YC ha) (YC ha)) (kG ha hx (n+1));refine Rat.le_of_mul_le_mul_left (c:=(n:Rat)+1) ?_ p;have m:=Yy ih hx;have k:((n:Rat)+1)*(a*upT a x (n+1))=a*((a+((n:Rat)+1))*upT a x (n+1))-a*a*upT a x (n+1):=by grind
  rw[k,e1,e2];grind
theorem zI6 {a x:Rat} (ha:0<a) (hx:0<=x):Null (upT a x):=by
 obtain⟨K,k0,hK⟩:=zPO x;have h1:Null (λ M=>K/a*((M:Rat)*q4 M)):=zB0 (K/a) (jM ha (by grind))
 refine h1.of_le 1 λ M hM=>?_
 have a1:=zUD ha hx M;have a2:=(hK M).2;have a3:=kG ha hx M;have m1:(1:Rat)<=(M:Rat):=by exact_mod_cast hM
 have q:=yD M;have d:=rdm (a:=K) ha;have m2:=Yy m1 (Yz k0 (YC q))
 have key:upT a x M<=K/a*((M:Rat)*q4 M):=by
  refine Rat.le_of_mul_le_mul_left (c:=a) ?_ ha;have k:a*(K/a*((M:Rat)*q4 M))=K/a*a*((M:Rat)*q4 M):=by grind
  rw[k,d];grind
 exact⟨by grind,key⟩
theorem zKW {a x:Rat} (ha:0<a) (hx:0<=x):∃ K,0<=K/\∀ M,uS a x M<=K:=by
 obtain⟨K,k0,hK⟩:=zDW x;refine⟨K/a,jM ha (by grind),λ M=>?_⟩
 have h:=(hK M x ⟨by grind,Rat.le_refl⟩).2
 have s:a*uS a x M<=E x M:=by
  induction M with
  | zero=>show a*0<=0;grind
  | succ n ih =>
   have t:=zUD ha hx n;have h':=(hK n x ⟨by grind,Rat.le_refl⟩).2
   have i:=ih h';have e:E x (n+1)=E x n+tm x n:=rfl;rw[yS,e];grind
 refine Rat.le_of_mul_le_mul_left (c:=a) ?_ ha;have d:=rdm (a:=K) ha;grind
theorem zDV {a x:Rat} (ha:0<a) (hx:0<=x):Bdd (uS a x):=by
 obtain⟨K,k0,hK⟩:=zKW ha hx;exact Bdd.of_le K 0 λ M _=>⟨by have:=zCH ha hx M;grind,hK M⟩
end Go.Proofs.YtgmnknmjainabacGreat.Ex
namespace Go.Proofs.YtgmnknmjainabacGreat.Ex
def Lns (L:Rat->Nat->Rat):Prop:=∀ x,0<x->IsLog (L x) (λ _=>x)
def pr (L:Rat->Nat->Rat) (c x:Rat) (M:Nat):Rat:=Ev (λ M=>c*L x M) M
theorem kF {L:Rat->Nat->Rat} (hL:Lns L) {x:Rat} (hx:0<x) (c:Rat):Bdd (λ M=>c*L x M):=(Bdd.const c).mul (hL x hx).1
theorem kK {L:Rat->Nat->Rat} (hL:Lns L) {x:Rat} (hx:0<x) (c:Rat):Bdd (pr L c x):=zAC (kF hL hx c)
theorem zC1 {L:Rat->Nat->Rat} (hL:Lns L) {x:Rat} (hx:0<x) (c:Rat):Nn (pr L c x):=zPY (kF hL hx c)
theorem zJ8 {L:Rat->Nat->Rat} (hL:Lns L) {x:Rat} (hx:0<x) (c d:Rat):Null (λ M=>pr L c x M*pr L d x M-pr L (c+d) x M):=by
 have h:=zAI (kF hL hx c) (kF hL hx d);refine h.of_eq λ M=>?_
 have e:Ev (λ M=>c*L x M+d*L x M) M=pr L (c+d) x M:=by unfold pr Ev;congr 1;grind
 rw[e];rfl
theorem zE9 {L:Rat->Nat->Rat} (hL:Lns L) {x:Rat} (hx:0<x):Null (λ M=>pr L 1 x M-x):=by
 refine (hL x hx).2.of_eq λ M=>?_
 show E (1*L x M) M-x=E (L x M) M-x
 rw[Rat.one_mul]
theorem zIB {L : Rat → Nat → Rat} (hL : Lns L) {x r : Rat} (hx : 0 < x) (hr : 0 < r) : IsLog (fun M => L (x * r) M - L x M) (fun _ => r) := by
  have h1 := hL (x * r) (Rat.mul_pos hx hr)
  have d := rdm (a := 1) hx
  have h2 := (hL x hx).neg (s := fun _ => 1 / x) (Bdd.const _) 0 (fun M _ => d)
  have h3 := h1.add h2
  have e : (fun (_ : Nat) => x * r * (1 / x)) = fun _ => r := by funext _; have : x * r * (1 / x) = 1 / x * x * r := by grind
                                                                 rw [this, d]; grind
  rw [e] at h3
  have e2 : (fun M => L (x * r) M + -L x M) = fun M => L (x * r) M - L x M := by funext M; grind
  rw [e2] at h3
  exact h3
theorem zOG {h:Rat} (hb:AB h (1/4)) {M:Nat} (hM:2<=M):AB (E h M-1-h) (2*(h*h)):=by
 by_cases c:0<=h
 ·exact zAB (b:=h) ⟨by grind,Rat.le_refl⟩ hb.2 hM
 ·have:=zAB (h:=h) (b := -h) ⟨by grind,by grind⟩ (by have:=hb.1;grind) hM
  have e : -h * -h=h*h:=by grind
  rw[e] at this;exact this
theorem zCS (c:Rat):IsLog (λ _=>c) (ex c):=⟨Bdd.const c,null_zero.of_eq λ M=>by unfold ex;grind⟩
theorem zMV {d:Nat->Rat} {u:Rat} (h:IsLog d (λ _=>1+u)) (hu:AB u (1/16)):LeN (λ _=>u-4*(u*u)) d:=by
 have uu:=zO u
 have a1:u*u<=1/256:=by
  by_cases c:0<=u
  ·have:=Yy hu.2 c;have:=hu.2;grind
  ·have:=Yy (show -u<=1/16 by have:=hu.1;grind) (show 0 <= -u by grind);have:=hu.1;grind
 intro e he
 have hb:AB (u-4*(u*u)) (1/4):=⟨by have:=hu.1;grind,by have:=hu.2;grind⟩
 refine (zCS (u-4*(u*u))).le h null_zero 2 (λ M hM=>?_) e he
 have k:=(zOG hb (M:=M) hM).2
 show E (u-4*(u*u)) M<=1+u+0
 have q:(u-4*(u*u))*(u-4*(u*u))=u*u*((1-4*u)*(1-4*u)):=by grind
 have r:(1-4*u)*(1-4*u)<=2:=by have:=hu.1;grind
 have m:=Yy r uu;grind
theorem pr_tan {L:Rat->Nat->Rat} (hL:Lns L) {a x u:Rat} (ha:0<=a) (hx:0<x) (hu:AB u (1/16)) (Yq:AB (a*u) (1/8)):LeN (λ M=>(1+a*u-(4*a+4*(a*a))*(u*u))*pr L a x M) (pr L a (x*(1+u))):=by
 have r0:0<1+u:=by have:=hu.1;grind
 have hd:=zIB hL hx r0;have low:=zMV hd hu;obtain⟨z,hz,kz⟩:=(low.cmul ha).null;have bd:Bdd (λ M=>a*(L (x*(1+u)) M-L x M)):=(Bdd.const a).mul hd.1
 obtain⟨v,hv,N,kv⟩:=zC2 (x:=λ _=>a*(u-4*(u*u))) (Bdd.const _) bd hz 0 (λ M _=>kz M)
 have uu:=zO u
 have hb:AB (a*(u-4*(u*u))) (1/4):=by
  have e:a*(u-4*(u*u))=a*u*(1-4*u):=by grind
  rw[e];exact (Yq.mul (show AB (1-4*u) 2 from⟨by have:=hu.2;grind,by have:=hu.1;grind⟩)).mono (by grind)
 have l1:LeN (λ _=>1+a*u-(4*a+4*(a*a))*(u*u)) (Ev (λ M=>a*(L (x*(1+u)) M-L x M))):=by
  refine LeN.of_null hv (N+2) λ M hM=>?_
  have k:=(zOG hb (M:=M) (by omega)).1
  have k2:=kv M (by omega)
  have e2:Ev (λ _=>a*(u-4*(u*u))) M=E (a*(u-4*(u*u))) M:=rfl
  rw[e2] at k2;have q:a*(u-4*(u*u))*(a*(u-4*(u*u)))=a*a*(u*u)*((1-4*u)*(1-4*u)):=by grind
  have r:(1-4*u)*(1-4*u)<=2:=by
   have a1:u*u<=1/256:=by
    by_cases c:0<=u
    ·have:=Yy hu.2 c;have:=hu.2;grind
    ·have:=Yy (show -u<=1/16 by have:=hu.1;grind) (show 0 <= -u by grind);have:=hu.1;grind
   have:=hu.1;grind
  have m:=Yy r (Yz (Yz ha ha) uu);rw[q] at k;generalize a*a*(u*u)*((1-4*u)*(1-4*u))=w at *;generalize Ev (λ M=>a*(L (x*(1+u)) M-L x M)) M=w2 at *
  generalize E (a*(u-4*(u*u))) M=w3 at *;grind
 refine (l1.bmul (kK hL hx a) (zC1 hL hx a)).trans ?_;have s:=zAI bd (kF hL hx a);refine LeN.of_eqN (s.of_eq λ M=>?_)
 have e:Ev (λ M=>a*(L (x*(1+u)) M-L x M)+a*L x M) M=pr L a (x*(1+u)) M:=by unfold pr Ev;congr 1;grind
 rw[e];rfl
theorem ex_tan {x u:Rat} (hu:AB (x*u) (1/4)):LeN (λ M=>(1-x*u-2*(x*x)*(u*u))*ex (-x) M) (ex (-(x*(1+u)))):=by
 have l1:LeN (λ _=>1-x*u-2*(x*x)*(u*u)) (ex (-(x*u))):=LeN.of_le 2 λ M hM=>by
  have k:=(zOG (h := -(x*u)) hu.neg hM).1
  show _<=E (-(x*u)) M
  grind
 refine (l1.bmul (jZ _) (zDQ _)).trans ?_;have s:=zA5 (-(x*u)) (-x);refine LeN.of_eqN (s.of_eq λ M=>?_)
 have e : -(x*u) + -x = -(x*(1+u)):=by grind
 rw[e]
def uG (L:Rat->Nat->Rat) (a x:Rat) (M:Nat):Rat:=pr L a x M*ex (-x) M*uS a x M
theorem tan_poly {a x u s c q1 q2 q3:Rat} (h1:q1=1+a*u-c*(u*u)) (h2:q2=1-x*u-2*(x*x)*(u*u)) (h3:q3=s+u*(1+x*s-a*s)):q1*q2*q3-(s+u)=u*u*((a-x)*(1+x*s-a*s)+(-(a*x)-2*(x*x)-c+u*(c*x-2*(a*(x*x)))+u*u*(2*(c*(x*x))))*q3):=by
 rw[h1,h2,h3];grind
theorem zKR {a x u s c Y K:Rat} (ha:0<=a) (hc:0<=c) (hx:AB x Y) (hs:AB s K) (hu:AB u 1):AB ((a-x)*(1+x*s-a*s)+(-(a*x)-2*(x*x)-c+u*(c*x-2*(a*(x*x)))+u*u*(2*(c*(x*x))))*(s+u*(1+x*s-a*s))) ((a+Y)*(1+Y*K+a*K)+(a*Y+2*(Y*Y)+c+1*(c*Y+2*(a*(Y*Y)))+1*1*(2*(c*(Y*Y))))*(K+1*(1+Y*K+a*K))):=by
 have A:AB a a:=⟨by grind,Rat.le_refl⟩
 have C:AB c c:=⟨by grind,Rat.le_refl⟩
 have one:AB (1:Rat) 1:=⟨by grind,Rat.le_refl⟩
 have two:AB (2:Rat) 2:=⟨by grind,Rat.le_refl⟩
 have p1:=(one.add (hx.mul hs)).sub (A.mul hs);have p2:=(((((A.mul hx).neg.sub (two.mul (hx.mul hx))).sub C).add (hu.mul ((C.mul hx).sub (two.mul (A.mul (hx.mul hx)))))).add ((hu.mul hu).mul (two.mul (C.mul (hx.mul hx)))));exact ((A.sub hx).mul p1).add (p2.mul (hs.add (hu.mul p1)))
theorem zHI {f:Nat->Rat} (h:Null f):Null (λ M=>f (M-1)):=λ e he=>by
 obtain⟨N,hN⟩:=h e he;exact⟨N+1,λ M hM=>hN (M-1) (by omega)⟩
theorem uS_tanN {a x u:Rat} (ha:0<a) (hx:0<=x) (hu : -1<=u):LeN (λ M=>uS a x M+u*(1+x*uS a x M-a*uS a x M)) (uS a (x*(1+u))):=by
 have z:=(zHI (zI6 ha hx)).bmul (Bdd.const (u*x));refine LeN.of_null z 1 λ M hM=>?_
 obtain⟨m,rfl⟩:∃ m,M=m+1:=⟨M-1,by omega⟩
 have t:=uS_tan ha hx hu m;have e:uS a x (m+1)=uS a x m+upT a x m:=rfl;simp only[Nat.add_sub_cancel];have e2:uS a x m=uS a x (m+1)-upT a x m:=by grind
 rw[e2] at t;grind
theorem uG_tan {L:Rat->Nat->Rat} (hL:Lns L) {a Y:Rat} (ha:0<a) (hY:0<Y):∃ C D,0<=C/\0<D/\D<=1/16/\∀ x u,0<x->x<=Y->AB u D->LeN (λ M=>uG L a x M+u*(pr L a x M*ex (-x) M)) (λ M=>uG L a (x*(1+u)) M+C*(u*u)):=by
 obtain⟨K,k0,hK⟩:=zKW ha (YC hY);obtain⟨V,N0,v0,hV⟩:=kK hL hY a;obtain⟨c,hc⟩:∃ c,c=4*a+4*(a*a):=⟨_,rfl⟩;have a0:=YC ha;have aa:=Yz a0 a0;have y0:=YC hY;have c0:0<=c:=by grind
 obtain⟨C1,ib⟩:∃ C1,C1=(a+Y)*(1+Y*K+a*K)+(a*Y+2*(Y*Y)+c+1*(c*Y+2*(a*(Y*Y)))+1*1*(2*(c*(Y*Y))))*(K+1*(1+Y*K+a*K)):=⟨_,rfl⟩;have D0:0<16*(1+a+Y):=by grind
 have dm:=rdm (a:=1) D0;have dp:0<1/(16*(1+a+Y)):=zF (by grind) D0
 obtain⟨D,hD⟩:∃ D,D=1/(16*(1+a+Y)):=⟨_,rfl⟩;rw[<- hD] at dm dp;have Da:=Yz (YC dp) a0;have Dy:=Yz (YC dp) y0
 have rJ:0<=C1:=by
  have:=(zKR (x:=0) (u:=0) (s:=0) (Y:=Y) (K:=K) a0 c0 ⟨by grind,y0⟩ ⟨by grind,k0⟩ ⟨by grind,by grind⟩).nonneg
  rw[ib];exact this
 refine⟨C1*((V+1)*2),D,Yz rJ (by grind),dp,by grind,λ x u hx hxY hu=>?_⟩
 have GF:D<=1/16:=by grind
 have u16:AB u (1/16):=hu.mono GF;have au:AB (a*u) (1/8):=((show AB a a from⟨by grind,Rat.le_refl⟩).mul hu).mono (by grind)
 have x0:=YC hx;have xu:AB (x*u) (1/4):=((show AB x Y from⟨by grind,hxY⟩).mul hu).mono (by grind)
 have r0:0<1+u:=by have:=u16.1;grind
 have ri:0<x*(1+u):=Rat.mul_pos hx r0;have l1:=pr_tan hL a0 hx u16 au;have l2:=ex_tan xu;have l3:=uS_tanN ha x0 (show -1<=u by have:=u16.1;grind)
 obtain⟨q1,h1⟩:∃ q1,q1=1+a*u-c*(u*u):=⟨_,rfl⟩;obtain⟨q2,h2⟩:∃ q2,q2=1-x*u-2*(x*x)*(u*u):=⟨_,rfl⟩;rw[<- hc,<- h1] at l1;rw[<- h2] at l2;have uu16:u*u<=1/16*(1/16):=(u16.mul u16).2
 have xc:0<=q2:=by
  have:=(xu.mul xu).2;have:=xu.2;grind
 have RC:=l1.mul l2 ((Bdd.const q2).mul (jZ (-x))) ((Nn.const xc).mul (zDQ (-x))) (kK hL ri a) (zC1 hL ri a);have sB:=zDV ha x0;have SA:Bdd (λ M=>uS a x M+u*(1+x*uS a x M-a*uS a x M)):=sB.add ((Bdd.const u).mul (((Bdd.const 1).add ((Bdd.const x).mul sB)).sub ((Bdd.const a).mul sB)))
 have SB:Nn (λ M=>uS a x M+u*(1+x*uS a x M-a*uS a x M)):=⟨1,λ M hM=>by
  obtain⟨m,rfl⟩:∃ m,M=m+1:=⟨M-1,by omega⟩
  have f:=zFS ha x0 m;have d:=rdm (a:=1) ha
  have s1:1<=a*uS a x (m+1):=by
   have:=Yy f a0;grind
  show 0<=uS a x (m+1)+u*(1+x*uS a x (m+1)-a*uS a x (m+1))
  generalize uS a x (m+1)=s at *;have s0:0<=s:=by have:=jM (a:=0) (b:=1) ha (by grind);grind
  have t1:=YB (xu.1) s0;have t2:=YB (au.2) s0
  have t3 : -(1/2)*s<=u:=by
   have m1:=YB au.1 s0
   by_cases cu:0<=u
   ·grind
   ·have:=Yy s1 (show 0 <= -u by grind)
    grind
  grind⟩
 have px:Bdd (λ M=>pr L a (x*(1+u)) M*ex (-(x*(1+u))) M):=(kK hL ri a).mul (jZ _)
 have pn:Nn (λ M=>pr L a (x*(1+u)) M*ex (-(x*(1+u))) M):=(zC1 hL ri a).mul (zDQ _)
 have l:=RC.mul l3 SA SB px pn
 have pmono:LeN (pr L a x) (pr L a Y):=by
  have le:=λ e he=>(hL x hx).le (hL Y hY) null_zero 0 (λ M _=>by grind) e he
  have lz:LeN (λ M=>a*L x M) (λ M=>a*L Y M):=LeN.cmul le a0
  obtain⟨z,hz,kz⟩:=lz.null;obtain⟨v,hv,N,kv⟩:=zC2 (kF hL hx a) (kF hL hY a) hz 0 (λ M _=>kz M)
  exact LeN.of_null hv N kv
 obtain⟨N1,n1⟩:=pmono 1 (by grind)
 obtain⟨N2,n2⟩:=(zBX (a := -x) (b:=0) (by grind)) (1/2) (by grind)
 obtain⟨N3,n3⟩:=zC1 hL hx a;obtain⟨N4,n4⟩:=zDQ (-x);refine LeN.trans (LeN.of_le (N0+N1+N2+N3+N4+2) λ M hM=>?_) (l.add (LeN.refl λ _=>C1*((V+1)*2)*(u*u)))
 have a1:=n1 M (by omega)
 have a2:=n2 M (by omega)
 have a3:=n3 M (by omega)
 have a4:=n4 M (by omega)
 have a5:=(hV M (by omega)).2
 have e0:ex 0 M=1:=by
  obtain⟨m,rfl⟩:∃ m,M=m+1:=⟨M-1,by omega⟩
  exact kT m
 rw[e0] at a2;have sK:AB (uS a x M) K:=⟨by have:=zCH ha x0 M;grind,Rat.le_trans (zUA ha x0 hxY M) (hK M)⟩
 have tb:=zKR (x:=x) (u:=u) (s:=uS a x M) (Y:=Y) (K:=K) a0 c0 ⟨by grind,hxY⟩ sK (hu.mono (by grind))
 rw[<- ib] at tb;have tp:=tan_poly (a:=a) (x:=x) (u:=u) (s:=uS a x M) (c:=c) h1 h2 rfl;have uu:=zO u;have m1:=Yy tb.1 uu;have pX:=Yz a3 a4;have pV:pr L a x M*ex (-x) M<=(V+1)*2:=Rat.le_trans (YB (show pr L a x M<=V+1 by grind) a4) (Yy (by grind) (by grind))
 have key:uS a x M+u<=q1*q2*(uS a x M+u*(1+x*uS a x M-a*uS a x M))+C1*(u*u):=by
  rw[<- tp] at m1;grind
 have m2:=YB key pX;have m3:=Yy pV (Yz rJ uu)
 show uG L a x M+u*(pr L a x M*ex (-x) M)<=_
 unfold uG;generalize uS a x M+u*(1+x*uS a x M-a*uS a x M)=q3 at *;clear tb tp m1 key l l1 l2 l3 RC SA SB px pn pmono ib h1 h2 hc;generalize uS a x M=s at *;generalize pr L a x M=p at *;generalize ex (-x) M=xx at *;have r1:q1*p*(q2*xx)*q3=q1*q2*q3*(p*xx):=by grind
 rw[r1];have r2:(s+u)*(p*xx)=p*xx*s+u*(p*xx):=by grind
 have r3:(q1*q2*q3+C1*(u*u))*(p*xx)=q1*q2*q3*(p*xx)+C1*(u*u)*(p*xx):=by grind
 rw[r2,r3] at m2;have r4:C1*((V+1)*2)*(u*u)=C1*(u*u)*((V+1)*2):=by grind
 rw[r4];exact Rat.le_trans m2 (Rat.add_le_add_left.2 m3)
end Go.Proofs.YtgmnknmjainabacGreat.Ex
namespace Go.Proofs.YtgmnknmjainabacGreat.Ex
theorem zOQ {h t:Rat} (ht:0<t):t*(1+h/t)=t+h:=by
 have:=rdm (a:=h) ht;have e:t*(1+h/t)=t+h/t*t:=by grind
 rw[e,this]
theorem div_bd {h t x i:Rat} (hh:0<=h) (ht:x<=t) (t0:0<t) (i0:0<=i) (ix:i*x=1):h/t<=h*i:=by
 refine zBH t0 ?_;have m:=Yy ht (Yz hh i0);have e:h*i*x=h*(i*x):=by grind
 rw[e,ix] at m;grind
theorem zJY {h x i D:Rat} (i0:0<=i) (ix:i*x=1) (h1:h<=D*x):h*i<=D:=by
 have m:=YB h1 i0;have e:D*x*i=D*(i*x):=by grind
 rw[e,ix] at m;grind
theorem zI5 {L:Rat->Nat->Rat} (hL:Lns L) {a x y:Rat} (ha:0<a) (hx:0<x) (K6:x<=y):LeN (uG L a x) (uG L a y):=by
 obtain⟨C,D,C0,D0,GF,tan⟩:=uG_tan hL ha (show 0<y by grind)
 have ix:=rdm (a:=1) hx;have ip:0<1/x:=zF (by grind) hx
 obtain⟨i,hi⟩:∃ i,i=1/x:=⟨_,rfl⟩;rw[<- hi] at ix ip
 have key:=zCL (f:=λ t M => -uG L a t M) (a:=x) (b:=y) (C:=C*(i*i)) (D:=D*x) K6 (Yz C0 (zO i)) (Rat.mul_pos D0 hx) (λ t h ht hh hD hb=>by
  have t0:0<t:=by grind
  have um:=rdm (a:=h) t0;have u0:0<h/t:=zF hh t0;have uh:h/t<=h*i:=div_bd (YC hh) ht t0 (YC ip) ix;have hiD:h*i<=D:=zJY (YC ip) ix hD;have l:=tan t (h/t) t0 (by grind) ⟨by grind,by grind⟩
  rw[zOQ t0] at l;obtain⟨z,hz,kz⟩:=l.null;obtain⟨N,hN⟩:=(zC1 hL t0 a).mul (zDQ (-t));refine⟨z,hz,N,λ M hM=>?_⟩
  have k:=kz M;have n:=Yz (YC u0) (hN M hM);have m1:=Yy uh (YC u0);have m2:=YB uh (Yz (YC hh) (YC ip));have m3:=Yy (show h/t*(h/t)<=h*i*(h*i) by grind) C0
  simp only[] at k n;have e:C*(h*i*(h*i))=C*(i*i)*(h*h):=by grind
  rw[e] at m3;generalize C*(h/t*(h/t))=w1 at *;generalize C*(i*i)*(h*h)=w2 at *;generalize h/t*(pr L a t M*ex (-t) M)=w3 at *
  grind)
 intro e he
 obtain⟨N,k⟩:=key e he;exact⟨N,λ M hM=>by have:=k M hM;simp only[] at this;grind⟩
def uE (L:Rat->Nat->Rat) (a x:Rat) (M:Nat):Rat:=pr L (a-1) x M*ex (-x) M
theorem uE_bdd {L:Rat->Nat->Rat} (hL:Lns L) {x:Rat} (hx:0<x) (a:Rat):Bdd (uE L a x):=(kK hL hx _).mul (jZ _)
theorem zPQ {L:Rat->Nat->Rat} (hL:Lns L) {x:Rat} (hx:0<x) (a:Rat):Nn (uE L a x):=(zC1 hL hx _).mul (zDQ _)
theorem zT6 {L:Rat->Nat->Rat} (hL:Lns L) {a x:Rat} (ha:0<a) (hx:0<x):Bdd (uG L a x):=((kK hL hx _).mul (jZ _)).mul (zDV ha (YC hx))
theorem uG_nn {L:Rat->Nat->Rat} (hL:Lns L) {a x:Rat} (ha:0<a) (hx:0<x):Nn (uG L a x):=((zC1 hL hx _).mul (zDQ _)).mul ⟨0,λ M _=>zCH ha (YC hx) M⟩
theorem zOB {L:Rat->Nat->Rat} (hL:Lns L) {x:Rat} (hx:0<x) (a:Rat):Null (λ M=>x*uE L a x M-pr L a x M*ex (-x) M):=by
 have h1:=zJ8 hL hx (a-1) 1;have h2:=(zE9 hL hx).bmul (kK hL hx (a-1));have e:a-1+1=a:=by grind
 rw[e] at h1;refine ((h1.sub h2).bmul (jZ (-x))).of_eq λ M=>?_
 unfold uE;grind
theorem zGF {L:Rat->Nat->Rat} (hL:Lns L) {c x y:Rat} (hc:c<=0) (hx:0<x) (K6:x<=y):LeN (pr L c y) (pr L c x):=by
 have hy:0<y:=by grind
 have le:LeN (L x) (L y):=λ e he=>(hL x hx).le (hL y hy) null_zero 0 (λ M _=>by grind) e he
 obtain⟨z,hz,kz⟩:=(le.cmul (c := -c) (by grind)).null
 obtain⟨v,hv,N,kv⟩:=zC2 (kF hL hy c) (kF hL hx c) hz 0 (λ M _=>by have:=kz M;grind)
 exact LeN.of_null hv N kv
theorem uE_step {L:Rat->Nat->Rat} (hL:Lns L) {a t h:Rat} (Z8:a<=1) (ht:0<t) (hh:0<=h):LeN (λ M=>(1+h)*uE L a (t+h) M) (uE L a t):=by
 have l1:=zGF hL (c:=a-1) (by grind) ht (show t<=t+h by grind)
 have l2:LeN (λ M=>(1+h)*ex (-(t+h)) M) (ex (-t)):=by
  have l:LeN (λ _=>1+h) (ex h):=LeN.of_le 2 λ M hM=>zI8 hh hM
  refine (l.bmul (jZ (-(t+h))) (zDQ _)).trans ?_;have s:=zA5 h (-(t+h));refine LeN.of_eqN (s.of_eq λ M=>?_)
  have e:h + -(t+h) = -t:=by grind
  rw[e]
 have l:=l1.mul l2 ((Bdd.const (1+h)).mul (jZ _)) ((Nn.const (by grind)).mul (zDQ _)) (kK hL ht _) (zC1 hL ht _)
 refine LeN.trans (LeN.of_le 0 λ M _=>?_) l
 unfold uE;generalize pr L (a-1) (t+h) M=p;generalize ex (-(t+h)) M=q;grind
theorem zOC {L:Rat->Nat->Rat} (hL:Lns L) {a x y:Rat} (ha:0<a) (Z8:a<=1) (hx:0<x) (K6:x<=y):LeN (λ M=>uG L a y M+uE L a y M) (λ M=>uG L a x M+uE L a x M):=by
 obtain⟨C,D,C0,D0,GF,tan⟩:=uG_tan hL ha (show 0<y by grind)
 have ix:=rdm (a:=1) hx;have ip:0<1/x:=zF (by grind) hx
 obtain⟨i,hi⟩:∃ i,i=1/x:=⟨_,rfl⟩;rw[<- hi] at ix ip;refine zCL (f:=λ t M=>uG L a t M+uE L a t M) (a:=x) (b:=y) (C:=C*(i*i)) (D:=D*x) K6 (Yz C0 (zO i)) (Rat.mul_pos D0 hx) (λ t h ht hh hD hb=>?_)
 have t0:0<t:=by grind
 obtain⟨s,hs⟩:∃ s,s=t+h:=⟨_,rfl⟩;have s0:0<s:=by grind
 have vm:=rdm (a:=h) s0;have v0:0<h/s:=zF hh s0;have vh:h/s<=h*i:=div_bd (YC hh) (show x<=s by grind) s0 (YC ip) ix
 have hiD:h*i<=D:=zJY (YC ip) ix hD;have l:=tan s (-(h/s)) s0 (by grind) ⟨by grind,by grind⟩
 have e1:s*(1 + -(h/s))=t:=by
  have:s*(1 + -(h/s))=s-h/s*s:=by grind
  rw[this,vm];grind
 rw[e1] at l;have l2:=uE_step hL Z8 t0 (YC hh);rw[<- hs] at l2;obtain⟨z,hz,kz⟩:=(l.add l2).null;have n:=(zOB hL s0 a).bmul (Bdd.const (h/s));refine⟨_,hz.add n.neg,0,λ M _=>?_⟩
 have k:=kz M;rw[<- hs];have m1:=Yy vh (YC v0);have m2:=YB vh (Yz (YC hh) (YC ip));have m3:=Yy (show h/s*(h/s)<=h*i*(h*i) by grind) C0
 have e:C*(h*i*(h*i))=C*(i*i)*(h*h):=by grind
 rw[e] at m3;have e2 : -(h/s) * -(h/s)=h/s*(h/s):=by grind
 rw[e2] at k
 have e3:(s*uE L a s M-pr L a s M*ex (-s) M)*(h/s)=h*uE L a s M-h/s*(pr L a s M*ex (-s) M):=by
  have:s*uE L a s M*(h/s)=h/s*s*uE L a s M:=by grind
  have e4:(s*uE L a s M-pr L a s M*ex (-s) M)*(h/s)=s*uE L a s M*(h/s)-h/s*(pr L a s M*ex (-s) M):=by grind
  rw[e4,this,vm]
 rw[e3];generalize C*(h/s*(h/s))=w1 at *;generalize C*(i*i)*(h*h)=w2 at *;have e5 : -(h/s)*(pr L a s M*ex (-s) M) = -(h/s*(pr L a s M*ex (-s) M)):=by grind
 rw[e5] at k;generalize h/s*(pr L a s M*ex (-s) M)=w3 at *;generalize uE L a s M=w4 at *;clear e e1 e2 e3 e5 vm v0 vh hiD m1 m2 l l2 n tan;grind
theorem top_ex (P : Nat → Prop) (k : Nat) : ∃ v, (P v ∨ v = 0) ∧ ∀ n, n ≤ k → P n → n ≤ v := by
  induction k with
  | zero => exact ⟨0, Or.inr rfl, fun n hn _ => by omega⟩
  | succ k ih =>
    by_cases h : P (k + 1)
    · exact ⟨k + 1, Or.inl h, fun n hn _ => hn⟩
    · obtain ⟨v, h1, h2⟩ := ih
      exact ⟨v, h1, fun n hn hp => h2 n (by rcases Nat.lt_or_eq_of_le hn with h' | h'
                                            · omega
                                            · subst h'; exact absurd hp h) hp⟩
theorem zJG {R:Nat->Nat->Prop} (h:∀ i,∃ N,∀ M,N<=M->R i M) (k:Nat):∃ N,∀ i,i<k->∀ M,N<=M->R i M:=by
 induction k with
 | zero=>exact⟨0,λ i hi=>by omega⟩
 | succ k ih =>
  obtain⟨N1,h1⟩:=ih;obtain⟨N2,h2⟩:=h k;refine⟨N1+N2,λ i hi M hM=>?_⟩
  by_cases c:i<k
  ·exact h1 i c M (by omega)
  ·have:i=k:=by omega
   subst this;exact h2 M (by omega)
theorem complete {s t : Nat → Nat → Rat} (h1 : ∀ n m, n ≤ m → LeN (s n) (s m)) (h2 : ∀ n m, n ≤ m → LeN (s m) (fun M => s n M + t n M)) : ∃ g, ∀ n, LeN (s n) g ∧ LeN g (fun M => s n M + t n M) := by
  let P : Nat → Nat → Prop := fun M n => ∀ i, i < n + 1 → ∀ j, j < n + 1 → i ≤ j → s i M ≤ s j M + 1 / ((n : Rat) + 1) ∧ s j M ≤ s i M + t i M + 1 / ((n : Rat) + 1)
  have hP : ∀ n, ∃ N, ∀ M, N ≤ M → P M n := fun n => by
    have u0 : (0 : Rat) < 1 / ((n : Rat) + 1) := zF (by grind) (zAV n)
    have step : ∀ i, ∃ N, ∀ M, N ≤ M → ∀ j, j < n + 1 → i ≤ j → s i M ≤ s j M + 1 / ((n : Rat) + 1) ∧ s j M ≤ s i M + t i M + 1 / ((n : Rat) + 1) := fun i => by
      obtain ⟨N, hN⟩ := zJG (R := fun j M => i ≤ j → s i M ≤ s j M + 1 / ((n : Rat) + 1) ∧ s j M ≤ s i M + t i M + 1 / ((n : Rat) + 1)) (fun j => by
        by_cases c : i ≤ j
        · obtain ⟨N1, k1⟩ := h1 i j c _ u0
          obtain ⟨N2, k2⟩ := h2 i j c _ u0
          exact ⟨N1 + N2, fun M hM _ => ⟨k1 M (by omega), k2 M (by omega)⟩⟩
        · exact ⟨0, fun M _ c' => absurd c' c⟩) (n + 1)
      exact ⟨N, fun M hM j hj => hN j hj M hM⟩
    obtain ⟨N, hN⟩ := zJG step (n + 1)
    exact ⟨N, fun M hM i hi j hj hij => hN i hi M hM j hj hij⟩
  obtain ⟨v, hv⟩ := Classical.skolem.1 (fun M => top_ex (P M) M)
  have main : ∀ n (e : Rat), 0 < e → ∃ N, ∀ M, N ≤ M → s n M ≤ s (v M) M + e ∧ s (v M) M ≤ s n M + t n M + e := fun n e he => by
    obtain ⟨m, hm⟩ := kB (1 / e)
    obtain ⟨N, hN⟩ := hP (n + m + 1)
    refine ⟨N + n + m + 1, fun M hM => ?_⟩
    obtain ⟨w1, w2⟩ := hv M
    have ge := w2 (n + m + 1) (by omega) (hN M (by omega))
    have pv : P M (v M) := by rcases w1 with h | h
                              · exact h
                              · omega
    obtain ⟨a1, a2⟩ := pv n (by omega) (v M) (by omega) (by omega)
    have small : 1 / ((v M : Rat) + 1) ≤ e := by
      refine zBH (zAV _) ?_
      have c : (m : Rat) ≤ (v M : Rat) := by exact_mod_cast (show m ≤ v M by omega)
      have d := rdm (a := 1) he
      have := Rat.mul_le_mul_of_nonneg_left (Rat.le_trans hm.2 c) (Rat.le_of_lt he)
      grind
    exact ⟨by grind, by grind⟩
  exact ⟨fun M => s (v M) M, fun n => ⟨fun e he => (main n e he).imp fun N h M hM => (h M hM).1, fun e he => (main n e he).imp fun N h M hM => (h M hM).2⟩⟩
structure Gam1 (L:Rat->Nat->Rat) (a:Rat) (g:Nat->Rat):Prop where
 lo:∀ x,0<x->LeN (uG L a x) g
 hi:∀ x,0<x->LeN g (λ M=>uG L a x M+uE L a x M)
theorem zH4 {L : Rat → Nat → Rat} (hL : Lns L) {a : Rat} (ha : 0 < a) (ha1 : a ≤ 1) : ∃ g, Gam1 L a g := by
  have cast : ∀ {n m : Nat}, n ≤ m → (n : Rat) + 1 ≤ (m : Rat) + 1 := fun {n m} h => by have : (n : Rat) ≤ (m : Rat) := by exact_mod_cast h
                                                                                        grind
  obtain ⟨g, hg⟩ := complete (s := fun n => uG L a ((n : Rat) + 1)) (t := fun n => uE L a ((n : Rat) + 1))
    (fun n m h => zI5 hL ha (zAV n) (cast h))
    (fun n m h => by
      refine LeN.trans ?_ (zOC hL ha ha1 (zAV n) (cast h))
      obtain ⟨N, hN⟩ := zPQ hL (zAV m) a
      exact LeN.of_le N fun M hM => by have := hN M hM; grind)
  have up : ∀ x : Rat, ∃ n : Nat, x ≤ (n : Rat) + 1 := fun x => by
    obtain ⟨n, hn⟩ := kB x
    exact ⟨n, by have := hn.2; grind⟩
  refine ⟨g, fun x hx => ?_, fun x hx => ?_⟩
  · obtain ⟨n, hn⟩ := up x
    exact (zI5 hL ha hx hn).trans (hg n).1
  · obtain ⟨n, hn⟩ := up x
    exact (hg n).2.trans (zOC hL ha ha1 hx hn)
end Go.Proofs.YtgmnknmjainabacGreat.Ex
