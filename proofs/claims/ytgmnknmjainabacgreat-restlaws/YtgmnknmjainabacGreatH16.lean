/-
  Its own texts.
-/
import Derived.Test.YtgmnknmjainabacGreatH15
set_option maxRecDepth 100000
set_option maxHeartbeats 40000000
set_option linter.unnecessarySimpa false
set_option linter.unusedSimpArgs false
set_option linter.unusedVariables false
namespace Go.Proofs.YtgmnknmjainabacGreat
open Go.RowKit
attribute [local go_sem ↓] Go.wp_at_zero Go.wp_at_succ
theorem cmp_gt {x y:Int} (h:y<x):0<zN x y:=by unfold zN;rw[if_neg (by omega),if_pos h];omega
theorem cmp_le {x y:Int} (h:x<=y):¬ 0<zN x y:=by unfold zN;split<;>(try split)<;>omega
theorem er1_iv (w:World) (B0 B1:Nat) (s:Sp) (x y:Nm) (k k1 k2 b:Nat) (n:Int) (a:Int × Int) (u v:Int) (hs:SpAt w s k a.1 a.2) (hx:IntAt w x.neg x.a x.n x.cap k1 u) (hy:IntAt w y.neg y.a y.n y.cap k2 v) (X:NmC w B0 x) (Y:NmC w B1 y) (hk:k<=100000000) (W6:k1<=1000000) (cH:k2<=1000000) (hb:s.bits=(b:Int)) (hn:0<=n) (bC:n<=1000000000000) (hv:0<v) :
  Calls Tryz.prog 198 #[.agg s.q,.int .i64 n,.pointer (some ⟨B0,0,none⟩),.pointer (some ⟨B1,0,none⟩)] w (zG w b (k+k1+10) (zJ a u (v*(2*n+1))).1 (zJ a u (v*(2*n+1))).2):=by
 obtain⟨W,hW⟩:∃ W,W=(w.alloc (.cells s.q 31)).alloc (.cells zCq 31):=⟨_,rfl⟩;have j8:Below w.heap.size w W:=by rw[hW];exact bl2 _ _ _
 have A:SpC W w.heap.size s:=by rw[hW];constructor<;>simp[go_sem]
 have R:NoC W (w.heap.size+1):=by rw[hW];constructor<;>simp[go_sem]
 have HS:=zC (hs.bw j8);have HX:=zC (hx.bw j8);have HY:=zC (hy.bw j8);have l0:=X.lt;have l1:=Y.lt;replace X:=X.bw j8;replace Y:=Y.bw j8;have HB:=zC hb;have HP:=zC (show 0<v*(2*n+1) from Int.mul_pos hv (by omega))
 have lR:=R.lt;have lA:=A.lt;have Z6:=zC (show IntKind.i64.wrap (2*n)=2*n from jI _ (by omega) (by omega))
 have bo:=zC (show IntKind.i64.wrap (2*n+1)=2*n+1 from jI _ (by omega) (by omega))
 clear hs hx hy hb;have D7:Below W.heap.size W W.drew:=(Below.refl _ _).drew;have HK:=zC (show ∀ w',Below W.heap.size W w'->(cK w' w.heap.size s (nK w' B0 x (nK0 w' B1 y))) from λ w' hB=>⟨(A.bw hB).c0,(A.bw hB).c1,(A.bw hB).c2,(A.bw hB).c3,(A.bw hB).c4,(X.bw hB).c0,(X.bw hB).c1,(Y.bw hB).c0,(Y.bw hB).c1⟩)
 go_enter Tryz.func198,Tryz.ntmps198
 go_wp2;rw[<- hW];clear hW;have Dq:w.heap.size+1≠B0:=by omega
 have Fs:w.heap.size+1≠B1:=by omega
 obtain⟨x0,x1,x2,x3,x4,x5,x6,x7,x8⟩:=zA HK _ (Below.refl _ _)
 go_region_held3 (λ w'=>cK w' w.heap.size s (nK w' B0 x (nK0 w' B1 y))) (first|exact zA HK _ (by with_reducible first|exact D7|exact D3|exact o9|exact A6)|(dsimp only[cK,cK0,nK,nK0,rK,rK0];go_keep)|go_keep)
  (first
   | (go_at_call 151;have hq:=o9;refine (zBB _ s ⟨x.neg,x.a,x.n,x.cap⟩ ⟨j6,a2,n2,c2⟩ k k1 _ b a u (v*(2*n+1)) ((zA HS).bw o9) ((zA HX).bw o9) A5 (by omega) (by omega) (zA HP) (zA HB)).mono ?_;rintro r w3 ⟨t,rfl,J2,P5,o7⟩;have HT:=zC J2;clear J2;have D3:=zB o9 o7;obtain⟨q0,q1,q2,q3,q4,q5⟩:=R.bw D3;obtain⟨i0,i1,i2,i3,i4,i5,i6,i7,i8⟩:=zA HK _ D3)
   | (go_at_call 83;have hq:=A6;refine (zX _ _ _ _ _ _ _ _ k2 4 v (2*n+1) _ ((zA HY).bw A6) o8 (by omega) (by omega)).mono ?_;rintro r w2 ⟨j6,a2,n2,c2,rfl,A5,j7⟩;have o9:=zB A6 j7)
   | (go_at_call 33;rw[zA Z6,zA bo];refine (zD (2*n+1) _ (by omega) (by omega)).mono ?_;rintro r w1 ⟨m9,a1,n1,c1,rfl,o8,b9⟩;have A6:=zB D7 b9))
 all_goals
  go_wp2;refine bodyPost_ret (v:=.agg t.q) (by simp[results,Tryz.results198,go_sem,q0,q1,q2,q3,q4]) rfl ⟨t,rfl,zA HT,?_,?_⟩
  ·exact SpAt.put5 P5 q0 q1 q2 q3 q4 _ _ _ _ _
  ·exact jS (zB j8 D3) (Nat.le_succ _) _ _ _ _ _
theorem zEN (ff:Nat) (cs:Array Value) (PZ:∀ (args:Array Value) (w:World),(callFunc ff args).run Tryz.prog w=.ok (.enter ff args) w) (f:Nat->Int × Int) (turn N b K KF:Nat) (s:Sp) (W:World) (hs:SpAt W s K (f 0).1 (f 0).2) (hbits:s.bits=(b:Int)) (hb:b<=1000000) (hK:K<=100000000) (Xd:4<=K) (Xe:KF<=900000000) (hN:yK f turn N) (ym:N<=1000000000) (YN:turn<=1000000000)
  (hle:∀ n,(f n).1<=(f n).2) (h0:∀ n,0<=(f n).1) (ai:∀ n,n<=N -> -P K<(f n).1/\(f n).2<P K) (hfitS:∀ n,n<=N -> -P K<(jE f n).1/\(jE f n).2<P K)
  (hF:∀ (n:Nat) (u:Sp) w',n<N->u.bits=(b:Int)->SpAt w' u K (f n).1 (f n).2->Below W.heap.size W w'->Calls Tryz.prog ff (#[.agg u.q,.int .i64 ((n:Int)+1)] ++ cs) w' (zG w' b KF (f (n+1)).1 (f (n+1)).2)) :
  Calls Tryz.prog 182 #[.agg s.q,.int .i64 turn,.func (.func ff) #[] cs] W (zG W b (K+3) (yC f N).1 (yC f N).2):=by
 have HF:=zC hF;have HN:=zC hN;have gJ:=zC hbits;have H0:=zC h0;clear hF hN hbits h0;obtain⟨V,hV⟩:∃ V,V=(W.alloc (.cells s.q 31)).alloc (.cells zCq 31):=⟨_,rfl⟩;have sD:Below W.heap.size W V:=by rw[hV];exact bl2 _ _ _
 have A:SpC V W.heap.size s:=by rw[hV];constructor<;>simp[go_sem]
 have R:NoC V (W.heap.size+1):=by rw[hV];constructor<;>simp[go_sem]
 have HS:=zC (hs.bw sD);have lA:=A.lt;have lR:=R.lt;clear hs
 go_enter Tryz.func182,Tryz.ntmps182
 go_wp2;rw[<- hV];clear hV
 go_cut [7,8] (λ p q wx=>TwoS V wx s s p q)
 case first =>
  obtain⟨x0,x1,x2,x3,x4⟩:=A
  go_region
  all_goals
   go_wp2_with fail;go_meet
   first
    | with_reducible exact zT1 _ _ _ _
    | with_reducible exact twoS_b _ _ _ _
 case rest =>
 obtain⟨B5,B6,rfl,rfl,l5,l6,hne,X,Y,hB⟩:=hcut;have n5:W.heap.size+1<B5:=by omega
 have n6:W.heap.size+1<B6:=by omega
 have iD:SumSt W wc B5 B6 b K s s s f 0:=⟨X,Y,(zA HS).bw hB,(zA HS).bw hB,zA gJ,zA gJ,A.bw hB,R.bw hB,zB sD hB,n5,n6,hne⟩;clear X Y hB A R HS l5 l6 n5 n6 hne sD lA lR;go_wp2_with fail
 go_loopw [9] (λ nn wr=>∃ (i:Nat) (X Y:Sp),nn=.int .i64 ((i:Int)+1)/\i<=N/\SumSt W wr B5 B6 b K s X Y f i) (λ nn _=>N+1-(intOf nn).toNat)
 case atStart=>exact⟨0,s,s,rfl,Nat.zero_le _,iD⟩
 case round =>
  obtain⟨i,X,Y,rfl,hi,st⟩:=hrel
  by_cases hit:i<turn
  ·have I9:i<N:=by have:=(zA HN).1;omega
   have Jl:((i:Int)+1<=(turn:Int)):=by omega
   obtain⟨⟨y0,y1,y2,y3,y4⟩,y5⟩:=st.y;go_wp2_with fail;refine (zA HF i Y _ I9 st.yb st.yp st.be).mono ?_;rintro r w3 ⟨u,rfl,A8,C7,o7⟩;replace st:=st.bw o7;replace C7:=C7.fits (K:=K) (hle _) (ai _ (by omega)).1 (ai _ (by omega)).2
   have HU:=zC A8;clear o7 y0 y1 y2 y3 y4 y5 A8;obtain⟨V3,I6⟩:∃ V3,V3=zAC w3 B6 u:=⟨_,rfl⟩;have X3:VrC V3 B5 X:=by rw[I6];exact st.x.off st.ne u
   have Y3:VrC V3 B6 u:=by rw[I6];exact st.y.put u
   have P3:SpAt V3 X K (jE f i).1 (jE f i).2:=by rw[I6];exact st.xp.put st.y.c u
   have U3:SpAt V3 u K (f (i+1)).1 (f (i+1)).2:=by rw[I6];exact C7.put st.y.c u
   have F3:SpC V3 W.heap.size s:=by rw[I6];exact st.fs.off (by have:=st.l6;omega) u
   have R3:NoC V3 (W.heap.size+1):=by rw[I6];exact st.no.off (by have:=st.l6;omega) u
   have B3:Below W.heap.size W V3:=by rw[I6];exact zA0 st.be (by have:=st.l6;omega) u
   have xb:=zC st.xb;have l5:=st.l5;have l6:=st.l6;have hne:=st.ne;have lY:=st.y.lt;have lX:=st.x.lt;obtain⟨⟨y0,y1,y2,y3,y4⟩,y5⟩:=st.y;obtain⟨⟨x0,x1,x2,x3,x4⟩,x5⟩:=st.x;clear st C7;go_wp2_with fail;have R7:V3=zAC w3 B6 u:=I6;unfold zAC at R7;rw[<- R7];clear R7 y0 y1 y2 y3 y4 y5 x0 x1 x2 x3 x4 x5;have Fq:B5<V3.heap.size:=X3.lt;refine (zCT _ X u K b (jE f i) (f (i+1)) P3 U3 (by omega) (zA xb)).mono ?_
   rintro r w4 ⟨v,rfl,J7,J5,y9⟩;have X4:=X3.bw y9;have Y4:=Y3.bw y9;have U4:=U3.bw y9;have F4:=F3.bw y9;have R4:=R3.bw y9;have B4:=zB B3 y9;have e:zB8 (jE f i) (f (i+1))=jE f (i+1):=rfl;rw[e] at J5;replace J5:=J5.fits (K:=K) (zGK hle _) (hfitS _ (by omega)).1 (hfitS _ (by omega)).2
   have HV:=zC J7;clear y9 J7 X3 Y3 P3 U3 F3 R3 B3 I6;have stn:SumSt W (zAC w4 B5 v) B5 B6 b K s v u f (i+1):=⟨X4.put v,Y4.off (Ne.symm hne) v,J5.put X4.c v,U4.put X4.c v,zA HV,zA HU,F4.off (by omega) v,R4.off (by omega) v,zA0 B4 (by omega) v,l5,l6,hne⟩
   unfold zAC at stn;obtain⟨⟨x0,x1,x2,x3,x4⟩,x5⟩:=X4;go_wp2_with fail
   go_roundw
   case rel=>exact⟨i+1,v,u,by go_num,by omega,stn⟩
   case measure=>simp[intOf];omega
  ·have Jl:¬ ((i:Int)+1<=(turn:Int)):=by omega
   obtain⟨⟨y0,y1,y2,y3,y4⟩,y5⟩:=st.y;go_wp2_with fail;have iQ:0<=(f i).2:=by have:=zA H0 i;have:=hle i;omega
   refine (zE0 _ _ _ _ _ (f i).2 _ st.yp.hi iQ).mono ?_;rintro r w2 ⟨l,hlen,rfl,j7⟩;replace st:=st.bw j7;clear j7 y0 y1 y2 y3 y4 y5
   by_cases I9:i<N
   ·have hl:2<l:=by
     have h3:=(zA HN).2.2 i I9;refine Int.not_le.1 λ hl=>?_
     obtain⟨g1,g2,g3⟩:=hlen;obtain⟨L,e1,e2,e3⟩:=g3 (by omega)
     have:=zH (show L+1<=2 by omega)
     have:Q 2=4:=rfl;omega
    clear hlen iQ;obtain⟨⟨y0,y1,y2,y3,y4⟩,y5⟩:=st.y;go_wp2_with fail;refine (zA HF i Y _ I9 st.yb st.yp st.be).mono ?_;rintro r w3 ⟨u,rfl,A8,C7,o7⟩;replace st:=st.bw o7;replace C7:=C7.fits (K:=K) (hle _) (ai _ (by omega)).1 (ai _ (by omega)).2
    have HU:=zC A8;clear o7 y0 y1 y2 y3 y4 y5 A8;obtain⟨V3,I6⟩:∃ V3,V3=zAC w3 B6 u:=⟨_,rfl⟩;have X3:VrC V3 B5 X:=by rw[I6];exact st.x.off st.ne u
    have Y3:VrC V3 B6 u:=by rw[I6];exact st.y.put u
    have P3:SpAt V3 X K (jE f i).1 (jE f i).2:=by rw[I6];exact st.xp.put st.y.c u
    have U3:SpAt V3 u K (f (i+1)).1 (f (i+1)).2:=by rw[I6];exact C7.put st.y.c u
    have F3:SpC V3 W.heap.size s:=by rw[I6];exact st.fs.off (by have:=st.l6;omega) u
    have R3:NoC V3 (W.heap.size+1):=by rw[I6];exact st.no.off (by have:=st.l6;omega) u
    have B3:Below W.heap.size W V3:=by rw[I6];exact zA0 st.be (by have:=st.l6;omega) u
    have xb:=zC st.xb;have l5:=st.l5;have l6:=st.l6;have hne:=st.ne;have lY:=st.y.lt;have lX:=st.x.lt;obtain⟨⟨y0,y1,y2,y3,y4⟩,y5⟩:=st.y;obtain⟨⟨x0,x1,x2,x3,x4⟩,x5⟩:=st.x;clear st C7;go_wp2_with fail;have R7:V3=zAC w3 B6 u:=I6;unfold zAC at R7;rw[<- R7];clear R7 y0 y1 y2 y3 y4 y5 x0 x1 x2 x3 x4 x5;have Fq:B5<V3.heap.size:=X3.lt;refine (zCT _ X u K b (jE f i) (f (i+1)) P3 U3 (by omega) (zA xb)).mono ?_
    rintro r w4 ⟨v,rfl,J7,J5,y9⟩;have X4:=X3.bw y9;have Y4:=Y3.bw y9;have U4:=U3.bw y9;have F4:=F3.bw y9;have R4:=R3.bw y9;have B4:=zB B3 y9;have e:zB8 (jE f i) (f (i+1))=jE f (i+1):=rfl;rw[e] at J5;replace J5:=J5.fits (K:=K) (zGK hle _) (hfitS _ (by omega)).1 (hfitS _ (by omega)).2
    have HV:=zC J7;clear y9 J7 X3 Y3 P3 U3 F3 R3 B3 I6;have stn:SumSt W (zAC w4 B5 v) B5 B6 b K s v u f (i+1):=⟨X4.put v,Y4.off (Ne.symm hne) v,J5.put X4.c v,U4.put X4.c v,zA HV,zA HU,F4.off (by omega) v,R4.off (by omega) v,zA0 B4 (by omega) v,l5,l6,hne⟩
    unfold zAC at stn;obtain⟨⟨x0,x1,x2,x3,x4⟩,x5⟩:=X4;go_wp2_with fail
    go_roundw
    case rel=>exact⟨i+1,v,u,by go_num,by omega,stn⟩
    case measure=>simp[intOf];omega
   ·have cX:i=N:=by omega
    subst cX
    have hl:¬ 2<l:=by
     have h1:=(zA HN).2.1
     intro hl
     obtain⟨g1,g2,g3⟩:=hlen
     by_cases hp:0<(f i).2
     ·obtain⟨L,e1,e2,e3⟩:=g3 hp
      have:=zH (show 2<=L by omega)
      have:Q 2=4:=rfl;omega
     ·have:=g2 (by omega);omega
    clear hlen;have l5:=st.l5;have lX:=st.x.lt;have aq:=zC (show ∀ w',Below w2.heap.size w2 w'->(cK w' B5 X (w'.cell? ⟨W.heap.size,4,none⟩=some (.int .i64 s.bits))) from λ w' hB=>⟨(st.x.c.bw hB).c0,(st.x.c.bw hB).c1,(st.x.c.bw hB).c2,(st.x.c.bw hB).c3,(st.x.c.bw hB).c4,(st.fs.bw hB).c4⟩)
    have R3:=st.no;have iz:=R3.lt;have ST:=zC st;clear st;go_wp2_with fail;obtain⟨x0,x1,x2,x3,x4,x5⟩:=zA aq _ (Below.refl _ _);have D5:Below w2.heap.size w2 w2.drew:=(Below.refl _ _).drew;have Dr:W.heap.size+1≠B5:=by omega
    have Ft:W.heap.size+1≠W.heap.size:=by omega
    go_region_held3 (λ w'=>cK w' B5 X (w'.cell? ⟨W.heap.size,4,none⟩=some (.int .i64 s.bits))) (first|exact zA aq _ (by with_reducible first|exact D5|exact p9|exact s9)|(dsimp only[cK,cK0,nK,nK0,rK,rK0];go_keep)|go_keep)
     (first
      | (go_at_call 51;have hq:=s9;refine (zCT _ X ⟨false,none,0,0,E6,a4,n4,c4,s.bits⟩ K b (jE f i) (0,9) ((zA ST).xp.bw s9) ⟨zE6 _ _,I2.mono Xd⟩ (by omega) (zA ST).xb).mono ?_;rintro r' w5 ⟨v,rfl,J7,J5,D8⟩;have p9:=zB s9 D8;have HV:=zC J7;clear J7;obtain⟨q0,q1,q2,q3,q4,q5⟩:=R3.bw p9;obtain⟨y0,y1,y2,y3,y4,y5⟩:=zA aq _ p9)
      | (go_at_call 33;refine (zD 9 _ (by omega) (by omega)).mono ?_;rintro r' w4 ⟨E6,a4,n4,c4,rfl,I2,y9⟩;have s9:=zB D5 y9))
    all_goals
     go_wp2_with fail;refine bodyPost_ret (v:=.agg v.q) (by simp[results,Tryz.results182,go_sem,q0,q1,q2,q3,q4]) rfl ⟨v,rfl,zA HV,?_,?_⟩
     ·exact SpAt.put5 (J5.mono (by omega)) q0 q1 q2 q3 q4 _ _ _ _ _
     ·exact jS (zB (zA ST).be p9) (Nat.le_succ _) _ _ _ _ _
theorem en_erf (args:Array Value) (w:World):(callFunc 198 args).run Tryz.prog w=.ok (.enter 198 args) w:=by simp[go_sem,callFunc,Tryz.func198];kernel_rfl
theorem ag_small {n m:Int} (h1:1<=n) (h2:n<=1000000) (h3:2<=m) (h4:m<=1000):0<(2*n+1)*m/\(2*n+1)*m<=2000001000/\0<(2*n+1)*m*m/\(2*n+1)*m*m<=2000001000000:=by
 have a:=Int.mul_pos (show 0<2*n+1 by omega) (show 0<m by omega)
 have b:=Int.mul_le_mul (show 2*n+1<=2000001 by omega) h4 (by omega) (by omega)
 have c:=Int.mul_pos a (show 0<m by omega)
 have d:=Int.mul_le_mul b h4 (by omega) (by omega)
 exact⟨a,by omega,c,by omega⟩
theorem ag1_iv (w:World) (B0:Nat) (s:Sp) (m:Int) (k b:Nat) (n:Int) (a:Int × Int) (hs:SpAt w s k a.1 a.2) (hc:w.cell? ⟨B0,0,none⟩=some (.int .i64 m)) (l0:B0<w.heap.size) (hk:k<=100000000) (hb:s.bits=(b:Int)) (hn:1<=n) (bC:n<=1000000) (hm:2<=m) (O2:m<=1000) :
  Calls Tryz.prog 210 #[.agg s.q,.int .i64 n,.pointer (some ⟨B0,0,none⟩)] w (zG w b (k+4+10) (negI (zJ a (2*n-1) ((2*n+1)*m*m))).1 (negI (zJ a (2*n-1) ((2*n+1)*m*m))).2):=by
 obtain⟨W,hW⟩:∃ W,W=(w.alloc (.cells s.q 31)).alloc (.cells zCq 31):=⟨_,rfl⟩;have j8:Below w.heap.size w W:=by rw[hW];exact bl2 _ _ _
 have A:SpC W w.heap.size s:=by rw[hW];constructor<;>simp[go_sem]
 have R:NoC W (w.heap.size+1):=by rw[hW];constructor<;>simp[go_sem]
 have HS:=zC (hs.bw j8);have C:W.cell? ⟨B0,0,none⟩=some (.int .i64 m):=(j8.cell (p:=⟨B0,0,none⟩) l0).trans hc;have l1:B0<W.heap.size:=Zd l0 j8.size;have HB:=zC hb;have lR:=R.lt;have lA:=A.lt;obtain⟨b1,b2,b3,b4⟩:=ag_small hn bC hm O2;have Z6:=zC (show IntKind.i64.wrap (2*n)=2*n from jI _ (by omega) (by omega))
 have bo:=zC (show IntKind.i64.wrap (2*n-1)=2*n-1 from jI _ (by omega) (by omega))
 have dJ:=zC (show IntKind.i64.wrap (2*n+1)=2*n+1 from jI _ (by omega) (by omega))
 have xD:=zC (show IntKind.i64.wrap ((2*n+1)*m)=(2*n+1)*m from jI _ (by omega) (by omega))
 have oW:=zC (show IntKind.i64.wrap ((2*n+1)*m*m)=(2*n+1)*m*m from jI _ (by omega) (by omega))
 have pc:=zC (show -9223372036854775808<=(2*n+1)*m*m/\(2*n+1)*m*m<=9223372036854775807 from⟨by omega,by omega⟩)
 have rE:=zC b3;clear hs hb hc b1 b2 b3 b4;have D7:Below W.heap.size W W.drew:=(Below.refl _ _).drew;have HK:=zC (show ∀ w',Below W.heap.size W w'->(cK w' w.heap.size s (w'.cell? ⟨B0,0,none⟩=some (.int .i64 m))) from λ w' hB=>⟨(A.bw hB).c0,(A.bw hB).c1,(A.bw hB).c2,(A.bw hB).c3,(A.bw hB).c4,(hB.cell (p:=⟨B0,0,none⟩) l1).trans C⟩)
 clear C
 go_enter Tryz.func210,Tryz.ntmps210
 go_wp2;rw[<- hW];clear hW;have Dq:w.heap.size+1≠B0:=by omega
 obtain⟨x0,x1,x2,x3,x4,x5⟩:=zA HK _ (Below.refl _ _)
 go_region_held3 (λ w'=>cK w' w.heap.size s (w'.cell? ⟨B0,0,none⟩=some (.int .i64 m))) (first|exact zA HK _ (by with_reducible first|exact D7|exact I1|exact D3|exact o9|exact A6)|(dsimp only[cK,cK0,nK,nK0,rK,rK0];go_keep)|go_keep)
  (first
   | (go_at_call 139;have hq:=D3;refine (zC9 _ v3 (k+4+10) _ _ O5 (by omega)).mono ?_;rintro r w4 ⟨t,rfl,J2,P5,y9⟩;have HT:=zC (J2.trans (zA HV));clear J2;have I1:=zB D3 y9;obtain⟨q0,q1,q2,q3,q4,q5⟩:=R.bw I1;obtain⟨i0,i1,i2,i3,i4,i5⟩:=zA HK _ I1)
   | (go_at_call 151;have hq:=o9;refine (zBB _ s ⟨m9,a1,n1,c1⟩ ⟨j6,a2,n2,c2⟩ k 4 _ b a (2*n-1) ((2*n+1)*m*m) ((zA HS).bw o9) (o8.bw j7) A5 (by omega) (by omega) (zA rE) (zA HB)).mono ?_;rintro r w3 ⟨v3,rfl,I0,O5,o7⟩;have HV:=zC I0;clear I0;have D3:=zB o9 o7)
   | (go_at_call 33;have hq:=A6;(first|rw[zA Z6,zA dJ,zA xD,zA oW]|rw[zA dJ,zA xD,zA oW]);refine (zD ((2*n+1)*m*m) _ (zA pc).1 (zA pc).2).mono ?_;rintro r w2 ⟨j6,a2,n2,c2,rfl,A5,j7⟩;have o9:=zB A6 j7)
   | (go_at_call 33;rw[zA Z6,zA bo];refine (zD (2*n-1) _ (by omega) (by omega)).mono ?_;rintro r w1 ⟨m9,a1,n1,c1,rfl,o8,b9⟩;have A6:=zB D7 b9))
 all_goals
  go_wp2;refine bodyPost_ret (v:=.agg t.q) (by simp[results,Tryz.results210,go_sem,q0,q1,q2,q3,q4]) rfl ⟨t,rfl,zA HT,?_,?_⟩
  ·exact SpAt.put5 P5 q0 q1 q2 q3 q4 _ _ _ _ _
  ·exact jS (zB j8 I1) (Nat.le_succ _) _ _ _ _ _
theorem en_ag (args:Array Value) (w:World):(callFunc 210 args).run Tryz.prog w=.ok (.enter 210 args) w:=by simp[go_sem,callFunc,Tryz.func210];kernel_rfl
theorem zMU (w:World) (m:Int) (b N K:Nat) (hm:2<=m) (O2:m<=1000) (G7:2<=b) (hb:b<=100000) (hN:zU (agT m b) N) (hK:Q (b+4)<P K) (gz:K<=10000000) :
  Calls Tryz.prog 207 #[.int .i64 m,.int .i64 b] w (zG w b (K+3) (zM (agT m b) N).1 (zM (agT m b) N).2):=by
 obtain⟨W,hW⟩:∃ W,W=(w.alloc (.cells #[.int .i64 m] 3)).alloc (.cells zCq 31):=⟨_,rfl⟩;have j8:Below w.heap.size w W:=by rw[hW];exact bl2 _ _ _
 have C:W.cell? ⟨w.heap.size,0,none⟩=some (.int .i64 m):=by rw[hW];simp[go_sem]
 have R:NoC W (w.heap.size+1):=by rw[hW];constructor<;>simp[go_sem]
 have lR:=R.lt;have l0:w.heap.size<W.heap.size:=by omega
 have PJ:=zE b
 have gX:Q b*16<P K:=by
  have e:Q (b+4)=2*(2*(2*(2*Q b))):=rfl;omega
 obtain⟨g1,g2,g3,g4⟩:=zHX hm G7 hN;have az:=zC (zHV hm G7);have rC:=zC (zMR hm b)
 have gL:Hid (∀ j,j<=N -> -P K<(agT m b j).1/\(agT m b j).2<P K):=zC (λ j _=>by
  obtain⟨g1,g2,g3,g4⟩:=zA az j;have:=zH (show b-2*j<=b by omega)
  omega)
 have cM:Hid (∀ j,j<=N -> -P K<(jE (agT m b) j).1/\(jE (agT m b) j).2<P K):=zC (λ j hj=>by
  obtain⟨g1,g2,g3,g4⟩:=zFQ (s:=2) (by omega) (zA az) hN j hj
  have:=zE (b-2*j)
  omega)
 have Ak:Hid (-P K<(ofI 1 m b).1/\(ofI 1 m b).2<P K):=zC ((zA gL) 0 (Nat.zero_le _));have ym:N<=1000000:=by omega
 have HN:=zC hN
 have dK:=zC (show ∀ (j:Nat) (u:Sp) w',j<N->u.bits=(b:Int)->SpAt w' u K (agT m b j).1 (agT m b j).2->Below W.heap.size W w'->Calls Tryz.prog 210 #[.agg u.q,.int .i64 ((j:Int)+1),.pointer (some ⟨w.heap.size,0,none⟩)] w' (zG w' b (K+4+10) (agT m b (j+1)).1 (agT m b (j+1)).2) from λ j u w' hj A8 C7 M8=>by
  have e:=ag1_iv w' w.heap.size u m K b ((j:Int)+1) (agT m b j) C7 ((M8.cell (p:=⟨w.heap.size,0,none⟩) l0).trans C) (Zd l0 M8.size) (by omega) A8 (by omega) (by omega) hm O2
  have e1:2*((j:Int)+1)-1=2*(j:Int)+1:=by omega
  have e2:2*((j:Int)+1)+1=2*(j:Int)+3:=by omega
  rw[e1,e2] at e
  exact e)
 have HK:=zC (show ∀ w',Below W.heap.size W w'->(w'.cell? ⟨w.heap.size,0,none⟩=some (.int .i64 m)) from λ w' hB=>(hB.cell (p:=⟨w.heap.size,0,none⟩) l0).trans C)
 have GB:=zC (kO (n:=1) (show 0<m by omega) b)
 have D7:Below W.heap.size W W.drew:=(Below.refl _ _).drew;clear hN g1 g2 g3 g4 C
 go_enter Tryz.func207,Tryz.ntmps207
 go_wp2;rw[<- hW];clear hW;have nR:w.heap.size+1≠w.heap.size:=by omega
 have x0:=zA HK _ (Below.refl _ _)
 go_region_held3 (λ w'=>w'.cell? ⟨w.heap.size,0,none⟩=some (.int .i64 m)) (first|exact zA HK _ (by with_reducible first|exact D7|exact I1|exact D3|exact o9|exact A6)|go_keep)
  (first
   | (go_at_call 121;have hq:=D3;refine (zMB _ #[.pointer (some ⟨w.heap.size,0,none⟩)] en_ag (agT m b) N b K (K+4+10) v3 _ (O5.fits (K:=K) (zA GB) (zA Ak).1 (zA Ak).2) (zA HV) (by omega) (by omega) (by omega) (zA HN) (by omega) (zA rC) (zA gL) (zA cM) (λ j u w' hj A8 C7 M8=>zA dK j u w' hj A8 C7 (zB D3 M8))).mono ?_;rintro r w4 ⟨t,rfl,J2,P5,y9⟩;have HT:=zC J2;clear J2;have I1:=zB D3 y9;obtain⟨q0,q1,q2,q3,q4,q5⟩:=R.bw I1;have i0:=zA HK _ I1)
   | (go_at_call 88;have hq:=o9;refine (jL _ _ _ _ _ _ _ _ 4 4 b 1 m _ (o8.bw j7) A5 (by omega) (by omega) (by omega)).mono ?_;rintro r w3 ⟨v3,rfl,I0,O5,o7⟩;have HV:=zC I0;clear I0;have D3:=zB o9 o7)
   | (go_at_call 33;have hq:=A6;refine (zD m _ (by omega) (by omega)).mono ?_;rintro r w2 ⟨j6,a2,n2,c2,rfl,A5,j7⟩;have o9:=zB A6 j7)
   | (go_at_call 33;refine (zD 1 _ (by omega) (by omega)).mono ?_;rintro r w1 ⟨m9,a1,n1,c1,rfl,o8,b9⟩;have A6:=zB D7 b9))
 all_goals
  go_wp2;refine bodyPost_ret (v:=.agg t.q) (by simp[results,Tryz.results207,go_sem,q0,q1,q2,q3,q4]) rfl ⟨t,rfl,zA HT,?_,?_⟩
  ·exact SpAt.put5 P5 q0 q1 q2 q3 q4 _ _ _ _ _
  ·exact jS (zB j8 I1) (Nat.le_succ _) _ _ _ _ _
theorem pi_iv (w:World) (b N5 N9 K:Nat) (G7:2<=b) (hb:b<=100000) (h5:zU (agT 5 b) N5) (h9:zU (agT 239 b) N9) (hK:Q (b+4)<P K) (gz:K<=10000000) :
  Calls Tryz.prog 199 #[.int .i64 b] w (zG w b (K+8) (piI b N5 N9).1 (piI b N5 N9).2):=by
 obtain⟨W,hW⟩:∃ W,W=w.alloc (.cells zCq 31):=⟨_,rfl⟩;have j8:Below w.heap.size w W:=by rw[hW];exact bl1 _ _
 have R:NoC W w.heap.size:=by rw[hW];constructor<;>simp[go_sem]
 have H5:=zC h5;have H9:=zC h9;clear h5 h9
 go_enter Tryz.func199,Tryz.ntmps199
 go_wp2_with fail;rw[<- hW];clear hW;refine (zMU _ 5 b N5 K (by omega) (by omega) G7 hb (zA H5) hK gz).mono ?_
 rintro r w1 ⟨v1,rfl,J3,T8,b9⟩;have B1:=zC J3;replace R:=R.bw b9;replace j8:=zB j8 b9;clear J3 b9;go_wp2_with fail;refine (zDK _ v1 (K+3) b 16 _ T8 (by omega) (zA B1) (by omega) (by omega)).mono ?_
 rintro r w2 ⟨v2,rfl,P6,Z3,j7⟩;have B2:=zC P6;replace R:=R.bw j7;replace j8:=zB j8 j7;clear P6 j7 T8;go_wp2_with fail;refine (zMU _ 239 b N9 K (by omega) (by omega) G7 hb (zA H9) hK gz).mono ?_
 rintro r w3 ⟨v3,rfl,I0,O5,o7⟩;have B3:=zC I0;replace R:=R.bw o7;replace j8:=zB j8 o7;replace Z3:=Z3.bw o7;clear I0 o7;go_wp2_with fail;refine (zDK _ v3 (K+3) b 4 _ O5 (by omega) (zA B3) (by omega) (by omega)).mono ?_
 rintro r w4 ⟨v4,rfl,ba,JP,y9⟩;replace R:=R.bw y9;replace j8:=zB j8 y9;replace Z3:=Z3.bw y9;have B4:=zC ba;clear ba y9 O5;go_wp2_with fail;refine (zHM _ v2 v4 (K+3+4) b (kI (zM (agT 5 b) N5) 16) (kI (zM (agT 239 b) N9) 4) Z3 JP (by omega) (zA B2)).mono ?_
 rintro r w5 ⟨v5,rfl,mF,JQ,D8⟩;obtain⟨q0,q1,q2,q3,q4,q5⟩:=R.bw D8;replace j8:=zB j8 D8;have B5:=zC mF;clear mF;go_wp2_with fail;refine bodyPost_ret (v:=.agg v5.q) (by simp[results,Tryz.results199,go_sem,q0,q1,q2,q3,q4]) rfl ⟨v5,rfl,zA B5,?_,?_⟩
 ·exact SpAt.put5 (JQ.mono (by omega)) q0 q1 q2 q3 q4 _ _ _ _ _
 ·exact jS j8 (Zb _) _ _ _ _ _
theorem zSY (a:Int) (h0:0<=a) (h1:a<65536):bits .or .i64 0 a=a:=by
 simp[bits];have e0:(2:Int) ^ IntKind.i64.bits=18446744073709551616:=rfl;have e:a % 2 ^ IntKind.i64.bits=a:=Int.emod_eq_of_lt h0 (by rw[e0];omega)
 rw[e,show max a 0=a by omega]
 exact jI _ (by omega) (by omega)
theorem zKU (neg:Bool) (a:Option Addr) (n cap:Nat) (z:Int) (w:World) (h:IntAt w neg a n cap 1 z) (h0:0<=z) :
  Calls Tryz.prog 181 #[.agg #[.bool neg,.slice a n cap]] w λ r w'=>r=.returned (.int .i64 z)/\Below w.heap.size w w':=by
 obtain⟨d,g1,g2,g3,g4,g5⟩:=h;have hd:=g1.dgs
 rcases (show n=0\/n=1 by omega) with rfl|rfl
 ·have hz:z=0:=by rw[g5];unfold sgn;split<;>rfl
  subst hz;clear g1 g2 g3 g4 g5 hd h0
  go_enter Tryz.func181,Tryz.ntmps181
  go_wp2_with fail
  go_loopw [3,4] (λ oo ii wr=>oo=.int .i64 0/\ii=.int .i64 (-1)/\Below w.heap.size w wr) (λ _ ii _=>0)
  case atStart=>exact⟨rfl,by go_num,bl1 _ _⟩
  case round =>
   obtain⟨rfl,rfl,hB⟩:=hrel;go_wp2_with fail;exact bodyPost_ret (v:=.int .i64 0) (by simp[results,Tryz.results181]) rfl ⟨rfl,hB⟩
 ·have hv:V d 1=d 0:=by show V d 0+d 0*P 0=d 0;show 0+d 0*1=d 0;omega
  have K5:neg=false:=by
   cases neg
   ·rfl
   ·have h1:=(hd 0).1
    rw[hv] at g5;have:z = -d 0:=g5;have:d 0≠0:=by rcases g2 with g|g;exact absurd g (by omega);exact g
    omega
  subst K5;have hz:z=d 0:=by rw[g5,hv];rfl
  subst hz;obtain⟨b1,o1,rfl,l1,E4⟩:=g1.at_ (by omega)
  have c0:=E4 0 (by omega)
  have XR:=(hd 0).1;have XT:=(hd 0).2;have HO:=zC (zSY (d 0) XR XT);have H0:=zC (show IntKind.i64.wrap (d 0)=d 0 from jI _ (by omega) (by omega))
  simp only[Nat.add_zero] at c0;clear E4 g2 g3 g4 g5 hv h0 hd g1
  go_enter Tryz.func181,Tryz.ntmps181
  go_wp2_with fail
  go_loopw [3,4] (λ oo ii wr=>((oo=.int .i64 0/\ii=.int .i64 0)\/(oo=.int .i64 (d 0)/\ii=.int .i64 (-1)))/\Below w.heap.size w wr/\wr.cell? ⟨w.heap.size,1,none⟩=some (.slice (some ⟨b1,o1,none⟩) 1 cap)) (λ _ ii _=>(intOf ii+1).toNat)
  case atStart=>exact⟨Or.inl ⟨rfl,by go_num⟩,bl1 _ _,by simp[go_sem]⟩
  case round =>
   obtain⟨hh,hB,hx⟩:=hrel;have c1:wr.cell? ⟨b1,o1,none⟩=some (.int .u16 (d 0)):=(hB.cell (p:=⟨b1,o1,none⟩) l1).trans c0
   rcases hh with⟨rfl,rfl⟩|⟨rfl,rfl⟩
   ·go_wp2_with fail
    first
     | rw[zA HO]
     | skip
    go_roundw
    case rel=>exact⟨Or.inr ⟨by first|rfl|(rw[zA HO])|(simp[zA HO]),by go_num⟩,hB,hx⟩
    case measure=>simp[intOf]
   ·go_wp2_with fail
    exact bodyPost_ret (v:=.int .i64 (d 0)) (by simp[results,Tryz.results181]) rfl ⟨rfl,hB⟩
theorem zTQ {w:World} {B:Nat} {s:Sp} (h:VrC w B s) (x:Nm):VrC ((w.setCell ⟨B,0,none⟩ (.bool x.neg)).setCell ⟨B,1,none⟩ (.slice x.a x.n x.cap)) B ⟨x.neg,x.a,x.n,x.cap,s.hn,s.ha,s.hN,s.hc,s.bits⟩:=by
 obtain⟨⟨q0,q1,q2,q3,q4⟩,q5⟩:=h;exact⟨⟨by simp[go_sem,q0],by simp[go_sem,q1],by simp[go_sem,q2],by simp[go_sem,q3],by simp[go_sem,q4]⟩,λ o=>by rw[zT,zT];exact q5 o⟩
theorem NoC.offLE {w:World} {B B':Nat} (h:NoC w B) (hne:B≠B') (u0 u1:Value):NoC ((w.setCell ⟨B',0,none⟩ u0).setCell ⟨B',1,none⟩ u1) B:=by
 obtain⟨q0,q1,q2,q3,q4,q5⟩:=h;exact⟨by simp[go_sem,q0,hne,Ne.symm hne],by simp[go_sem,q1,hne,Ne.symm hne],by simp[go_sem,q2,hne,Ne.symm hne],by simp[go_sem,q3,hne,Ne.symm hne],by simp[go_sem,q4,hne,Ne.symm hne],λ o=>by rw[zT,zT];exact q5 o⟩
theorem IntAt.putLE {w:World} {neg:Bool} {a:Option Addr} {n cap k:Nat} {z:Int} (h:IntAt w neg a n cap k z) {B:Nat} {x0:Bool} {y0:Option Addr} {y1 y2:Nat} (h0:w.cell? ⟨B,0,none⟩=some (.bool x0))
  (h1:w.cell? ⟨B,1,none⟩=some (.slice y0 y1 y2)) (u0 u1:Value):IntAt ((w.setCell ⟨B,0,none⟩ u0).setCell ⟨B,1,none⟩ u1) neg a n cap k z:=by
 have hne:(⟨B,0,none⟩:Addr)≠⟨B,1,none⟩:=by simp
 have h2:(w.setCell ⟨B,0,none⟩ u0).cell? ⟨B,1,none⟩=some (.slice y0 y1 y2):=(World.cell?_setCell_other _ _ _ _ hne).trans h1;exact (h.store h0 (λ _ e=>by cases e) u0).store h2 (λ _ e=>by cases e) u1
theorem zEG (w:World) (b:Nat) (hb:b<=100000) :
  Calls Tryz.prog 180 #[.int .i64 b] w (zG w b (b/16+30) (Q b-1) (Q b)):=by
 obtain⟨W,hW⟩:∃ W,W=w.alloc (.cells zCq 31):=⟨_,rfl⟩;have j8:Below w.heap.size w W:=by rw[hW];exact bl1 _ _
 have R:NoC W w.heap.size:=by rw[hW];constructor<;>simp[go_sem]
 have Tj:=zC (show 1*Q b/1=Q b by rw[Int.ediv_one];omega)
 have Tk:=zC (show -(-(1*Q b)/1)=Q b by rw[Int.ediv_one];omega)
 go_enter Tryz.func180,Tryz.ntmps180
 go_wp2_with fail;rw[<- hW];clear hW;refine (zC8 _ b (by omega)).mono ?_
 rintro r' w1 ⟨v1,rfl,J3,hs1,b9⟩;replace R:=R.bw b9;replace j8:=zB j8 b9;have rf:=R.lt;have HB:=zC J3;clear J3 b9;obtain⟨V1,L8⟩:∃ V,V=w1.alloc (.cells v1.q 31):=⟨_,rfl⟩;have bV:Below w1.heap.size w1 V1:=by rw[L8];exact bl1 _ _
 have A:VrC V1 w1.heap.size v1:=by rw[L8];exact⟨yW _ _ _,λ o=>by simp[go_sem]⟩
 have HS:=zC (show SpAt V1 v1 (b/16+24) (Q b) (Q b) from by have:=hs1.bw bV;rw[zA Tj,zA Tk] at this;exact this)
 replace R:=R.bw bV;replace j8:=zB j8 bV;have Gc:=zC j8;have HA:=zC A;have HR:=zC R;have D5:Below V1.heap.size V1 V1.drew:=(Below.refl _ _).drew;have HK:=zC (show ∀ w',Below V1.heap.size V1 w'->(w'.cell? ⟨w1.heap.size,0,none⟩=some (.bool v1.ln)/\w'.cell? ⟨w1.heap.size,1,none⟩=some (.slice v1.la v1.lN v1.lc)) from λ w' hB=>⟨(A.bw hB).c.c0,(A.bw hB).c.c1⟩)
 clear hs1 A R j8 bV;go_wp2_with fail;rw[<- L8];clear L8;refine AnyL.start (S:=λ w'=>w'.cell? ⟨w1.heap.size,0,none⟩=some (.bool v1.ln)/\w'.cell? ⟨w1.heap.size,1,none⟩=some (.slice v1.la v1.lN v1.lc)) (l:=5) (by kernel_rfl) (zA HK _ D5) (λ hHeld=>?_)
 refine AnyL.take (i:=0) (oi:={ dst:=some 6,op:=Go.Op.fieldAddr 31 (Go.Operand.tmp 3) 0,type:=0,pos := "part.go:60",after:=#[],guard:=none }) (v:=.pointer (some ⟨w1.heap.size,0,none⟩)) rfl (by kernel_rfl) (by kernel_rfl) (by kernel_rfl) (by kernel_rfl) (λ _ _ _ h=>h) (Or.inl ⟨by rfl,λ w hSw=>?_⟩) hHeld ?_
 ·obtain⟨s0,s1⟩:=hSw;go_simp
 try simp only[Act.put,YQ,YR,YS]
 refine AnyL.take (i:=1) (oi:={ dst:=some 7,op:=Go.Op.load 29 (Go.Operand.tmp 6),type:=29,pos := "part.go:60",after:=#[{ on:=0,ground:=Go.Ground.data }],guard:=none }) (v:=.agg #[.bool v1.ln,.slice v1.la v1.lN v1.lc]) rfl (by kernel_rfl) (by kernel_rfl) (by kernel_rfl) (by kernel_rfl) (λ _ _ _ h=>h) (Or.inl ⟨by rfl,λ w hSw=>?_⟩) hHeld ?_
 ·obtain⟨s0,s1⟩:=hSw;go_simp
 try simp only[Act.put,YQ,YR,YS]
 refine AnyL.one (i:=2) (o:={ dst:=some 8,op:=Go.Op.call { callee:=Go.Callee.value (Go.Operand.func 33),args:=#[Go.Operand.const (Go.Value.int Go.IntKind.i64 1)],argTypes:=#[3] },type:=29,pos := "part.go:60",after:=#[],guard:=none }) (by kernel_rfl) rfl (λ Kc I7=>?_)
 go_simp
 refine (zD 1 _ (by omega) (by omega)).mono ?_
 rintro r' w2 ⟨j6,a2,n2,c2,rfl,A5,j7⟩;have s9:=zB D5 j7;clear j7;go_wp2_with fail;refine I7.out _ _ (zA HK _ s9) (λ hHeld=>?_)
 clear I7 Kc
 try simp only[Act.put,YQ,YR,YS]
 refine AnyL.one (i:=3) (o:={ dst:=some 9,op:=Go.Op.call { callee:=Go.Callee.value (Go.Operand.func 35),args:=#[Go.Operand.tmp 7,Go.Operand.tmp 8],argTypes:=#[29,29] },type:=29,pos := "part.go:60",after:=#[{ on:=1,ground:=Go.Ground.data },{ on:=2,ground:=Go.Ground.data },{ on:=2,ground:=Go.Ground.chain }],guard:=none }) (by kernel_rfl) rfl (λ Kc I7=>?_)
 go_simp
 refine (zCR _ _ _ _ _ _ _ _ (b/16+24) 4 (Q b) 1 _ ((zA HS).lo.bw s9) A5 (by omega) (by omega)).mono ?_
 rintro r' w3 ⟨B8,a3,n3,c3,rfl,G0,o7⟩;have p9:=zB s9 o7;clear o7;go_wp2_with fail;refine I7.out _ _ (zA HK _ p9) (λ hHeld=>?_)
 clear I7 Kc
 try simp only[Act.put,YQ,YR,YS]
 refine AnyL.take (i:=4) (oi:={ dst:=some 10,op:=Go.Op.fieldAddr 31 (Go.Operand.tmp 3) 0,type:=0,pos := "part.go:60",after:=#[{ on:=0,ground:=Go.Ground.phase },{ on:=1,ground:=Go.Ground.phase },{ on:=2,ground:=Go.Ground.phase },{ on:=3,ground:=Go.Ground.phase }],guard:=none }) (v:=.pointer (some ⟨w1.heap.size,0,none⟩)) rfl (by kernel_rfl) (by kernel_rfl) (by kernel_rfl) (by kernel_rfl) (λ _ _ _ h=>h) (Or.inl ⟨by rfl,λ w hSw=>?_⟩) hHeld ?_
 ·obtain⟨s0,s1⟩:=hSw;go_simp
 try simp only[Act.put,YQ,YR,YS]
 refine AnyL.last (o:={ dst:=none,op:=Go.Op.store 29 (Go.Operand.tmp 10) (Go.Operand.tmp 9),type:=0,pos := "part.go:60",after:=#[{ on:=4,ground:=Go.Ground.data },{ on:=3,ground:=Go.Ground.data },{ on:=3,ground:=Go.Ground.chain },{ on:=0,ground:=Go.Ground.phase },{ on:=1,ground:=Go.Ground.phase },{ on:=2,ground:=Go.Ground.phase },{ on:=3,ground:=Go.Ground.phase }],guard:=none }) (by kernel_rfl) rfl (by kernel_rfl) (λ Kc I7=>?_)
 have V2:=(zA HA).bw p9;have lA:=V2.lt;obtain⟨⟨y0,y1,y2,y3,y4⟩,y5⟩:=V2
 go_simp
 refine I7.out _ _ ?_;clear I7 Kc;have R2:=(zA HR).bw p9;obtain⟨V,hV⟩:∃ V,V=((w3.setCell ⟨w1.heap.size,0,none⟩ (.bool B8)).setCell ⟨w1.heap.size,1,none⟩ (.slice a3 n3 c3)):=⟨_,rfl⟩;have R3:NoC V w.heap.size:=by rw[hV];exact R2.offLE (by omega) _ _
 have A3:VrC V w1.heap.size ⟨B8,a3,n3,c3,v1.hn,v1.ha,v1.hN,v1.hc,v1.bits⟩:=by rw[hV];exact zTQ ((zA HA).bw p9) ⟨B8,a3,n3,c3⟩
 have i1:IntAt V B8 a3 n3 c3 (b/16+30) (Q b-1):=by rw[hV];exact (G0.mono (by omega)).putLE y0 y1 _ _
 have i2:IntAt V v1.hn v1.ha v1.hN v1.hc (b/16+30) (Q b):=by rw[hV];exact (((zA HS).hi.bw p9).mono (by omega)).putLE y0 y1 _ _
 have D3:Below w.heap.size w V:=by rw[hV];exact ((zB (zA Gc) p9).setCell (p:=⟨w1.heap.size,0,none⟩) (Nat.le_of_lt rf) _).setCell (p:=⟨w1.heap.size,1,none⟩) (Nat.le_of_lt rf) _
 rw[<- hV];clear hV y0 y1 y2 y3 y4 y5 lA;have lA:=A3.lt;have lR:=R3.lt;obtain⟨⟨y0,y1,y2,y3,y4⟩,y5⟩:=A3;obtain⟨q0,q1,q2,q3,q4,q5⟩:=R3;go_wp2_with fail;refine bodyPost_ret (v:=.agg #[.bool B8,.slice a3 n3 c3,.bool v1.hn,.slice v1.ha v1.hN v1.hc,.int .i64 v1.bits]) (by simp[results,Tryz.results180,go_sem,q0,q1,q2,q3,q4]) rfl ⟨⟨B8,a3,n3,c3,v1.hn,v1.ha,v1.hN,v1.hc,v1.bits⟩,rfl,zA HB,?_,?_⟩
 ·exact SpAt.put5 (show SpAt V ⟨B8,a3,n3,c3,v1.hn,v1.ha,v1.hN,v1.hc,v1.bits⟩ (b/16+30) (Q b-1) (Q b) from⟨i1,i2⟩) q0 q1 q2 q3 q4 _ _ _ _ _
 ·exact jS D3 (Zb _) _ _ _ _ _
theorem zUD (neg:Bool) (a:Option Addr) (n cap k1:Nat) (x:Int) (w:World) (h1:IntAt w neg a n cap k1 x) (W6:k1<=1000000000) :
  Calls Tryz.prog 116 #[.agg #[.bool neg,.slice a n cap],.int .i64 1] w λ r w' =>
   ∃ j9 a' n' m7,r=.returned (.agg #[.bool j9,.slice a' n' m7])/\IntAt w' j9 a' n' m7 (k1+1) (2*x)/\Below w.heap.size w w' :=
 (zCG neg a n cap 1 k1 x w h1 W6 (by omega)).mono λ r w' ⟨q1,q2,q3,q4,e,h,hb⟩=>⟨q1,q2,q3,q4,e,by
  have e1:x*Q 1=2*x:=by have:Q 1=2:=rfl;rw[this];omega
  have e2:1/16+k1+1=k1+1:=by omega
  rw[e1,e2] at h;exact h,hb⟩
theorem erf_far (w:World) (x y:Nm) (n d:Int) (b:Nat) (hx:IntAt w x.neg x.a x.n x.cap 8 n) (hy:IntAt w y.neg y.a y.n y.cap 8 d) (G7:40<=b) (hb:b<=10000) (O1:d*(b:Int)<=n) :
  Calls Tryz.prog 178 #[.agg x.q,.agg y.q,.int .i64 b] w (zG w b (b/16+30) (Q b-1) (Q b)):=by
 obtain⟨W,hW⟩:∃ W,W=((w.alloc (.cells x.q 29)).alloc (.cells y.q 29)).alloc (.cells zCq 31):=⟨_,rfl⟩;have j8:Below w.heap.size w W:=by rw[hW];exact bl3 _ _ _ _
 have X:NmC W w.heap.size x:=by rw[hW];constructor<;>simp[go_sem]
 have Y:NmC W (w.heap.size+1) y:=by rw[hW];constructor<;>simp[go_sem]
 have R:NoC W (w.heap.size+1+1):=by rw[hW];constructor<;>simp[go_sem]
 have HX:=zC (hx.bw j8);have HY:=zC (hy.bw j8);have lX:=X.lt;have lY:=Y.lt;have lR:=R.lt;have HK:=zC (show ∀ w',Below W.heap.size W w'->(nK w' w.heap.size x (nK0 w' (w.heap.size+1) y)) from λ w' hB=>⟨(X.bw hB).c0,(X.bw hB).c1,(Y.bw hB).c0,(Y.bw hB).c1⟩)
 have D7:Below W.heap.size W W.drew:=(Below.refl _ _).drew;clear hx hy;have HC:Hid (zN n (d*(b:Int))=if n=d*(b:Int) then 0 else 1):=zC (by unfold zN;split<;>(try split)<;>(try split)<;>omega)
 have Ai:Hid (0<=(if n=d*(b:Int) then (0:Int) else 1)):=zC (by split<;>omega)
 obtain⟨cc,PT⟩:∃ cc:Int,cc=(if n=d*(b:Int) then (0:Int) else 1):=⟨_,rfl⟩
 rw[<- PT] at HC Ai;have oz:0<=cc:=zA Ai;clear PT Ai
 go_enter Tryz.func178,Tryz.ntmps178
 go_wp2;rw[<- hW];clear hW;obtain⟨x0,x1,x2,x3⟩:=zA HK _ (Below.refl _ _)
 go_region_held3 (λ w'=>nK w' w.heap.size x (nK0 w' (w.heap.size+1) y)) (first|exact zA HK _ (by with_reducible first|exact D7|exact D3|exact o9|exact A6)|(dsimp only[cK,cK0,nK,nK0,rK,rK0];go_keep)|go_keep)
  (first
   | (go_at_call 17;have hq:=o9;refine (jY _ _ _ _ _ _ _ _ 8 (8+4) n (d*(b:Int)) _ ((zA HX).bw o9) A5).mono ?_;rintro r w3 ⟨rfl,o7⟩;rw[zA HC];have D3:=zB o9 o7;have i0:=zA HK _ D3)
   | (go_at_call 83;have hq:=A6;refine (zX _ _ _ _ _ _ _ _ 8 4 d (b:Int) _ ((zA HY).bw A6) o8 (by omega) (by omega)).mono ?_;rintro r w2 ⟨j6,a2,n2,c2,rfl,A5,j7⟩;have o9:=zB A6 j7)
   | (go_at_call 33;refine (zD (b:Int) _ (by omega) (by omega)).mono ?_;rintro r w1 ⟨m9,a1,n1,c1,rfl,o8,b9⟩;have A6:=zB D7 b9))
 all_goals
  have R3:=R.bw D3;replace j8:=zB j8 D3;have iz:=R3.lt;clear x0 x1 x2 x3 i0 A5 o8;go_wp2_with fail;refine (zEG _ b (by omega)).mono ?_
  rintro r w4 ⟨t,rfl,J2,P5,y9⟩;obtain⟨q0,q1,q2,q3,q4,q5⟩:=R3.bw y9;replace j8:=zB j8 y9;have HT:=zC J2;clear J2;go_wp2_with fail;refine bodyPost_ret (v:=.agg t.q) (by simp[results,Tryz.results178,go_sem,q0,q1,q2,q3,q4]) rfl ⟨t,rfl,zA HT,?_,?_⟩
  ·exact SpAt.put5 P5 q0 q1 q2 q3 q4 _ _ _ _ _
  ·exact jS j8 (by omega) _ _ _ _ _
theorem erf_iv (w:World) (x y:Nm) (n d:Int) (b:Nat) (hx:IntAt w x.neg x.a x.n x.cap 8 n) (hy:IntAt w y.neg y.a y.n y.cap 8 d) (G7:40<=b) (hb:b<=10000) (xr:Nat->Rat) (M t N N5 N9:Nat) (l:Int) (h:ErIn n d xr) (E2:n<d*(b:Int)) (hM:M<=3*b+8523) (pJ:yK (erT n d b) (zA8 n d) M) (hl:yR (zW (ofI n d b)) l) (ht:(t:Int)=max 0 (l-b+8)) (JH:t<=16) (hA:Abs (zF (ofI n d b) t) (Q (b-8))) (hN:zU (zV b (zF (ofI n d b) t)) N) (h5:zU (agT 5 b) N5) (h9:zU (agT 239 b) N9) :
  Calls Tryz.prog 178 #[.agg x.q,.agg y.q,.int .i64 b] w (zG w b 3000 (zK6 b (erQ n d b M t N N5 N9)).1 (zK6 b (erQ n d b M t N N5 N9)).2):=by
 obtain⟨W,hW⟩:∃ W,W=((w.alloc (.cells x.q 29)).alloc (.cells y.q 29)).alloc (.cells zCq 31):=⟨_,rfl⟩;have j8:Below w.heap.size w W:=by rw[hW];exact bl3 _ _ _ _
 have X:NmC W w.heap.size x:=by rw[hW];constructor<;>simp[go_sem]
 have Y:NmC W (w.heap.size+1) y:=by rw[hW];constructor<;>simp[go_sem]
 have R:NoC W (w.heap.size+1+1):=by rw[hW];constructor<;>simp[go_sem]
 have HX:=zC (hx.bw j8);have HY:=zC (hy.bw j8);have lX:=X.lt;have lY:=Y.lt;have lR:=R.lt;have HK:=zC (show ∀ w',Below W.heap.size W w'->(nK w' w.heap.size x (nK0 w' (w.heap.size+1) y)) from λ w' hB=>⟨(X.bw hB).c0,(X.bw hB).c1,(Y.bw hB).c0,(Y.bw hB).c1⟩)
 have D7:Below W.heap.size W W.drew:=(Below.refl _ _).drew;clear hx hy;have d0:0<d:=h.d0;have HC:Hid (zN n (d*(b:Int)) = -1):=zC (by unfold zN;rw[if_pos E2])
 have HH:=zC h
 have gX:∀ j:Nat,j<=15900->Q j<P 1000:=λ j hj=>by
  rw[<- Q_P];have h1:=zH (show j+1<=16*1000 by omega)
  have h2:Q (j+1)=2*Q j:=rfl;have:=zE j;omega
 have GH:=zC gX
 have oX:Hid ((erF n d b).1<=(erF n d b).2 /\ -P 1000<(erF n d b).1/\(erF n d b).2<P 1000):=zC (by
  obtain⟨f1,f2,f3,f4,f5⟩:=zM5 h b;have:=gX (b+4) (by omega)
  have:=zE (b+4)
  exact⟨f2,by omega,by omega⟩)
 have gm:Hid (∀ j,j<=M -> -P 1000<(erT n d b j).1/\(erT n d b j).2<P 1000):=zC (λ j _=>by
  obtain⟨f1,f2,f3,f4⟩:=zCL h b j;have:=gX (b+2740) (by omega)
  have:=zE (b+2740)
  exact⟨by omega,by omega⟩)
 have gy:Hid (∀ j,j<=M -> -P 1000<(jE (erT n d b) j).1/\(jE (erT n d b) j).2<P 1000):=zC (λ j hj=>by
  obtain⟨f1,f2,f3,f4⟩:=zQ9 h b hb j (by omega)
  have:=gX (b+2760) (by omega)
  have:=zE (b+2760)
  exact⟨by omega,by omega⟩)
 have gx:=zC (λ j=>(zCL h b j).2.1)
 have az:=zC (λ j=>(zCL h b j).1)
 have rD:Hid ((erP b N5 N9).1<=(erP b N5 N9).2 /\ -P 1000<(erP b N5 N9).1/\(erP b N5 N9).2<P 1000):=zC (by
  obtain⟨R',oq⟩:=Ex.piR_ex;obtain⟨f1,f2,f3,f4,f5⟩:=erP_ok oq (by omega) hb h5 h9
  have:=gX (b+4) (by omega)
  have e:Q (b+4)=2*(2*(2*(2*Q b))):=rfl;have:=zE b
  exact⟨f2,by omega,by omega⟩)
 have xC:Hid (0<(zFI n d b t N N5 N9).1/\(zFI n d b t N N5 N9).1<=(zFI n d b t N N5 N9).2):=zC (by
  obtain⟨R',oq⟩:=Ex.piR_ex;obtain⟨f1,f2,f3,f4,f5⟩:=zQ8 oq h G7 hb JH hA hN h5 h9;have:=zE b
  exact⟨by omega,f2⟩)
 have GJ:Hid ((zA7 n d b M).1*2<=(zA7 n d b M).2*2):=zC (by
  obtain⟨f1,f2,f3,f4,f5⟩:=zM6 h hb hM pJ
  omega)
 have xQ:Hid (Q (b+4)<P 1000):=zC (gX _ (by omega))
 have Gk:Hid (Q (b+eb t)<P 1000):=zC (gX _ (by have:=zAP (show t<=17 by omega);rw[DQ] at this;omega))
 have YN:zA8 n d<=303:=zH2 h.n0 h.d0 h.up
 have HZ:Hid (2*n/d=(zA8 n d:Int)/\0<=2*n/d/\2*n/d<P 1 /\ -P 1<2*n/d):=zC (by
  have z0:0<=2*n/d:=Int.ediv_nonneg (by have:=h.n0;omega) (by omega)
  have e:2*n/d=(zA8 n d:Int):=by unfold zA8;omega
  have p1:P 1=65536:=rfl
  exact⟨e,z0,by omega,by omega⟩)
 have GB:=zC (kO (n:=n) d0 b);have HM:=zC pJ;have Hl:=zC hl;have Tv:=zC ht;have SH:=zC hA;have HN:=zC hN;have H5:=zC h5;have H9:=zC h9;clear h E2 pJ hl ht hA hN h5 h9 gX
 go_enter Tryz.func178,Tryz.ntmps178
 go_wp2;rw[<- hW];clear hW;obtain⟨x0,x1,x2,x3⟩:=zA HK _ (Below.refl _ _)
 go_region_held3 (λ w'=>nK w' w.heap.size x (nK0 w' (w.heap.size+1) y)) (first|exact zA HK _ (by with_reducible first|exact D7|exact D3|exact o9|exact A6)|(dsimp only[cK,cK0,nK,nK0,rK,rK0];go_keep)|go_keep)
  (first
   | (go_at_call 17;have hq:=o9;refine (jY _ _ _ _ _ _ _ _ 8 (8+4) n (d*(b:Int)) _ ((zA HX).bw o9) A5).mono ?_;rintro r w3 ⟨rfl,o7⟩;rw[zA HC];have D3:=zB o9 o7;have i0:=zA HK _ D3)
   | (go_at_call 83;have hq:=A6;refine (zX _ _ _ _ _ _ _ _ 8 4 d (b:Int) _ ((zA HY).bw A6) o8 (by omega) (by omega)).mono ?_;rintro r w2 ⟨j6,a2,n2,c2,rfl,A5,j7⟩;have o9:=zB A6 j7)
   | (go_at_call 33;refine (zD (b:Int) _ (by omega) (by omega)).mono ?_;rintro r w1 ⟨m9,a1,n1,c1,rfl,o8,b9⟩;have A6:=zB D7 b9))
 all_goals
  have R3:=R.bw D3;have X3:=X.bw D3;have Y3:=Y.bw D3;have bM:=zC ((zA HX).bw D3);have bG:=zC ((zA HY).bw D3);replace j8:=zB j8 D3;clear x0 x1 x2 x3 i0 A5 o8 HK HX HY X Y R;obtain⟨x0,x1⟩:=X3;obtain⟨x2,x3⟩:=Y3;have Fq:=NmC.lt ⟨x0,x1⟩;have lY3:=NmC.lt ⟨x2,x3⟩;go_wp2_with fail;refine (zUD _ _ _ _ 8 n _ (zA bM) (by omega)).mono ?_
  rintro r w4 ⟨E6,a4,n4,c4,rfl,I2,y9⟩;replace R3:=R3.bw y9;have X4:NmC w4 w.heap.size x:=NmC.bw ⟨x0,x1⟩ y9;have Y4:NmC w4 (w.heap.size+1) y:=NmC.bw ⟨x2,x3⟩ y9;replace bM:=zC ((zA bM).bw y9);replace bG:=zC ((zA bG).bw y9);replace j8:=zB j8 y9;clear x0 x1 x2 x3 y9 Fq lY3;obtain⟨V4,nt⟩:∃ V,V=w4.alloc (.cells #[.bool E6,.slice a4 n4 c4] 29):=⟨_,rfl⟩;have po:Below w4.heap.size w4 V4:=by rw[nt];exact bl1 _ _
  have D4:NmC V4 w4.heap.size ⟨E6,a4,n4,c4⟩:=by rw[nt];exact zC6 w4 ⟨E6,a4,n4,c4⟩ _
  have iR:=zC (I2.bw po);have lD:w.heap.size+1+1<w4.heap.size:=R3.lt;have Kb:=X4.lt;have Kd:=Y4.lt;have Xk:=zC (X4.bw po);have Yk:=zC (Y4.bw po);have Dk:=zC D4;obtain⟨x0,x1⟩:=X4;obtain⟨x2,x3⟩:=Y4;replace R3:=R3.bw po;replace bM:=zC ((zA bM).bw po);replace bG:=zC ((zA bG).bw po);replace j8:=zB j8 po;clear I2 po D4;go_wp2_with fail;rw[<- nt];clear nt x0 x1 x2 x3 Kb Kd;refine (zAB _ _ _ _ _ _ _ _ 9 8 (2*n) d _ (zA iR) (zA bG) (by omega) d0).mono ?_
  rintro r w5 ⟨L4,a5,n5,c5,rfl,P9,D8⟩;replace R3:=R3.bw D8;have X4:=(zA Xk).bw D8;have Y4:=(zA Yk).bw D8;have D4:=(zA Dk).bw D8;replace bM:=zC ((zA bM).bw D8);replace bG:=zC ((zA bG).bw D8);replace iR:=zC ((zA iR).bw D8);replace j8:=zB j8 D8;clear D8 Xk Yk Dk;go_wp2_with fail;refine (zKU _ _ _ _ (2*n/d) _ (P9.fits (zA HZ).2.2.2 (zA HZ).2.2.1) (zA HZ).2.1).mono ?_;rintro r w6 ⟨rfl,K8⟩;rw[(zA HZ).1];replace R3:=R3.bw K8;replace X4:=X4.bw K8;replace Y4:=Y4.bw K8;replace D4:=D4.bw K8;replace bM:=zC ((zA bM).bw K8);replace bG:=zC ((zA bG).bw K8);replace iR:=zC ((zA iR).bw K8);replace j8:=zB j8 K8;clear K8 P9;have Kb:=X4.lt;have Kd:=Y4.lt;obtain⟨x0,x1⟩:=X4;obtain⟨x2,x3⟩:=Y4;go_wp2_with fail;refine (jL _ _ _ _ _ _ _ _ 8 8 b n d _ (zA bM) (zA bG) (by omega) (by omega) d0).mono ?_
  rintro r w7 ⟨v7,rfl,dy,iq,W5⟩;have Ey:=zC dy;replace R3:=R3.bw W5;have X4:NmC w7 w.heap.size x:=NmC.bw ⟨x0,x1⟩ W5;have Y4:NmC w7 (w.heap.size+1) y:=NmC.bw ⟨x2,x3⟩ W5;replace D4:=D4.bw W5;replace bM:=zC ((zA bM).bw W5);replace bG:=zC ((zA bG).bw W5);replace iR:=zC ((zA iR).bw W5);replace j8:=zB j8 W5;clear W5 dy x0 x1 x2 x3 Kb Kd;go_wp2_with fail;refine (zFD _ v7 _ b _ _ iq (by omega) (by omega) (zA Ey)).mono ?_
  rintro r w8 ⟨v8,rfl,CO,CR,Z7⟩;have Ot:=zC CO;have Ol:=zC (show SpAt w8 v8 1000 (erF n d b).1 (erF n d b).2 from CR.fits (zA oX).1 (zA oX).2.1 (zA oX).2.2)
  replace R3:=R3.bw Z7;replace X4:=X4.bw Z7;replace Y4:=Y4.bw Z7;replace D4:=D4.bw Z7;replace bM:=zC ((zA bM).bw Z7);replace bG:=zC ((zA bG).bw Z7);replace iR:=zC ((zA iR).bw Z7);replace j8:=zB j8 Z7;clear Z7 CO CR iq Ey;have dK:=zC (show ∀ (j:Nat) (u:Sp) w',j<M->u.bits=(b:Int)->SpAt w' u 1000 (erT n d b j).1 (erT n d b j).2->Below w8.heap.size w8 w'->Calls Tryz.prog 198 #[.agg u.q,.int .i64 ((j:Int)+1),.pointer (some ⟨w4.heap.size,0,none⟩),.pointer (some ⟨w.heap.size+1,0,none⟩)] w' (zG w' b 1019 (erT n d b (j+1)).1 (erT n d b (j+1)).2) from λ j u w' hj A8 C7 M8=>er1_iv w' w4.heap.size (w.heap.size+1) u ⟨E6,a4,n4,c4⟩ y 1000 9 8 b ((j:Int)+1) (erT n d b j) (2*n) d C7 ((zA iR).bw M8) ((zA bG).bw M8) (D4.bw M8) (Y4.bw M8) (by omega) (by omega) (by omega) A8 (by omega) (by omega) d0)
  go_wp2_with fail;refine (zEN _ #[.pointer (some ⟨w4.heap.size,0,none⟩),.pointer (some ⟨w.heap.size+1,0,none⟩)] en_erf (erT n d b) (zA8 n d) M b 1000 1019 v8 _ (zA Ol) (zA Ot) (by omega) (by omega) (by omega) (by omega) (zA HM) (by omega) (by omega) (zA gx) (zA az) (zA gm) (zA gy) (zA dK)).mono ?_
  rintro r w9 ⟨v,rfl,mG,iw,ah⟩;have Ez:=zC mG;have mY:=zC (show SpAt w9 v 1003 (zA7 n d b M).1 (zA7 n d b M).2 from iw)
  replace R3:=R3.bw ah;replace X4:=X4.bw ah;replace Y4:=Y4.bw ah;replace bM:=zC ((zA bM).bw ah);replace bG:=zC ((zA bG).bw ah);replace j8:=zB j8 ah;have lR9:=R3.lt;clear ah mG iw Ol dK D4 iR gx az gm gy HM Ot;obtain⟨V9,yo⟩:∃ V,V=w9.alloc (.cells v.q 31):=⟨_,rfl⟩;have pA:Below w9.heap.size w9 V9:=by rw[yo];exact bl1 _ _
  have S9:SpC V9 w9.heap.size v:=by rw[yo];exact yW w9 v _
  replace mY:=zC ((zA mY).bw pA);replace R3:=R3.bw pA;replace X4:=X4.bw pA;replace Y4:=Y4.bw pA;replace bM:=zC ((zA bM).bw pA);replace bG:=zC ((zA bG).bw pA);replace j8:=zB j8 pA;clear pA;have lX9:=X4.lt;have lY9:=Y4.lt;have lS9:=S9.lt;have lRR:=R3.lt;have oZ:=zC (show ∀ w',Below V9.heap.size V9 w'->(cK w' w9.heap.size v (nK w' w.heap.size x (nK0 w' (w.heap.size+1) y))) from λ w' hB=>⟨(S9.bw hB).c0,(S9.bw hB).c1,(S9.bw hB).c2,(S9.bw hB).c3,(S9.bw hB).c4,(X4.bw hB).c0,(X4.bw hB).c1,(Y4.bw hB).c0,(Y4.bw hB).c1⟩)
  have D5:Below V9.heap.size V9 V9.drew:=(Below.refl _ _).drew;go_wp2_with fail;rw[<- yo];clear yo;obtain⟨x0,x1,x2,x3,x4,x5,x6,x7,x8⟩:=zA oZ _ (Below.refl _ _);have Dr:w.heap.size+1+1≠w9.heap.size:=by omega
  have rj:w.heap.size+1+1≠w.heap.size+1:=by omega
  have Ft:w.heap.size+1+1≠w.heap.size:=by omega
  go_region_held3 (λ w'=>cK w' w9.heap.size v (nK w' w.heap.size x (nK0 w' (w.heap.size+1) y))) (first|exact zA oZ _ (by with_reducible first|exact D5|exact ER|exact pF|exact sR|exact gV|exact I5|exact F9|exact p9|exact s9)|(dsimp only[cK,cK0,nK,nK0,rK,rK0];go_keep)|go_keep)
   (first
    | (go_at_call 141;have hq:=pF;refine (zBR _ f7 _ b _ _ Je (zA F7) (by omega) (by omega) (by omega)).mono ?_;rintro r g8 ⟨f8,rfl,Ci,Jf,Yf⟩;have F8:=zC Ci;clear Ci;have ER:=zB pF Yf;obtain⟨q0,q1,q2,q3,q4,q5⟩:=R3.bw ER;obtain⟨i0,i1,i2,i3,i4,i5,i6,i7,i8⟩:=zA oZ _ ER)
    | (go_at_call 162;have hq:=sR;refine (zDF _ f1 f6 2008 b _ _ _ _ ((mv.bw (zB yx (zB oC (zB tY (zB Cj Qd))))).mono (by omega)) Jd (by omega) (by omega) (zA F1) (zA GJ) (zA xC).1 (zA xC).2).mono ?_;rintro r g7 ⟨f7,rfl,Ch,Je,Ye⟩;have F7:=zC Ch;clear Ch;have pF:=zB sR Ye)
    | (go_at_call 124;have hq:=gV;refine (zKA _ f3 f5 1000 b (erP b N5 N9) (erX n d b t N) (mz.bw (zB tY Cj)) oB (by omega) (zA F3) (by omega)).mono ?_;rintro r g6 ⟨f6,rfl,Jc,Jd,Qd⟩;clear Jc;have sR:=zB gV Qd)
    | (go_at_call 77;have hq:=I5;refine (zBG _ f4 1000 b t N (ofI n d b) l hO (zA F4) (zA GB) (by omega) (by omega) (zA Hl) (zA Tv) (by omega) (zA SH) (zA HN) (zA Gk) (by omega)).mono ?_;rintro r g5 ⟨f5,rfl,oA,oB,Cj⟩;clear oA;have gV:=zB I5 Cj)
    | (go_at_call 88;have hq:=F9;refine (jL _ _ _ _ _ _ _ _ 8 8 b n d _ ((zA bM).bw F9) ((zA bG).bw F9) (by omega) (by omega) d0).mono ?_;rintro r g4 ⟨f4,rfl,cV,pP,tY⟩;have hO:=pP.mono (show 8+b/16+20<=1000 by omega);have F4:=zC cV;clear cV pP;have I5:=zB F9 tY)
    | (go_at_call 197;have hq:=p9;refine (zFD _ f2 1008 b _ _ my (by omega) (by omega) (zA F2)).mono ?_;rintro r g3 ⟨f3,rfl,fo,pO,oC⟩;have mz:=SpAt.fits (K:=1000) (show SpAt g3 f3 _ (erP b N5 N9).1 (erP b N5 N9).2 from pO) (zA rD).1 (zA rD).2.1 (zA rD).2.2;have F3:=zC fo;clear fo pO;have F9:=zB p9 oC)
    | (go_at_call 199;have hq:=s9;refine (pi_iv _ b N5 N9 1000 (by omega) (by omega) (zA H5) (zA H9) (zA xQ) (by omega)).mono ?_;rintro r g2 ⟨f2,rfl,fj,my,yx⟩;have F2:=zC fj;clear fj;have p9:=zB s9 yx)
    | (go_at_call 156;refine (zDK _ v 1003 b 2 _ ((zA mY).bw D5) (by omega) (zA Ez) (by omega) (by omega)).mono ?_;rintro r g1 ⟨f1,rfl,fh,mv,pQ⟩;have F1:=zC fh;clear fh;have s9:=zB D5 pQ))
  all_goals
   go_wp2_with fail;refine bodyPost_ret (v:=.agg f8.q) (by simp[results,Tryz.results178,go_sem,q0,q1,q2,q3,q4]) rfl ⟨f8,rfl,zA F8,?_,?_⟩
   ·have hz:=SpAt.put5 Jf q0 q1 q2 q3 q4 (.bool f8.ln) (.slice f8.la f8.lN f8.lc) (.bool f8.hn) (.slice f8.ha f8.hN f8.hc) (.int .i64 f8.bits)
    rw[zEF] at hz;exact hz.mono (by omega)
   ·exact jS (zB j8 ER) (by omega) _ _ _ _ _
def zB5 (B:Nat) (a:Int × Int):Int × Int:=(Q B-a.2,Q B-a.1)
theorem sq_bd {p:Int} (h1 : -1048576<=p) (h2:p<=1048576):0<=p*p/\p*p<=1099511627776:=by
 refine⟨?_,?_⟩
 ·rcases Int.le_total 0 p with h|h
  ·exact Zc h h
  ·have:=Zc (show 0 <= -p by omega) (show 0 <= -p by omega)
   have e : -p * -p=p*p:=by grind
   omega
 ·have:=yU h1 h2 h1 h2
  omega
theorem one_z {b:Nat} (z:Int) (hz:z=(b:Int)) (w:World) (hb:b<=1000000):Calls Tryz.prog 93 #[.int .i64 z] w (zG w b (b/16+24) (1*Q b/1) (-(-(1*Q b)/1))):=by
 subst hz;exact zC8 w b hb
theorem zGH (w:World) (s:Sp) (k b:Nat) (a:Int × Int) (hs:SpAt w s k a.1 a.2) (hbits:s.bits=(b:Int)) (hb:b<=100000) (bA:b/16+24<=k) (hk:k<=100000000) :
  Calls Tryz.prog 48 #[.agg s.q] w (zG w b (k+1) (zB5 b a).1 (zB5 b a).2):=by
 obtain⟨W,hW⟩:∃ W,W=(w.alloc (.cells s.q 31)).alloc (.cells zCq 31):=⟨_,rfl⟩;have j8:Below w.heap.size w W:=by rw[hW];exact bl2 _ _ _
 have A:SpC W w.heap.size s:=by rw[hW];constructor<;>simp[go_sem]
 have R:NoC W (w.heap.size+1):=by rw[hW];constructor<;>simp[go_sem]
 have HS:=zC (hs.bw j8);have HB:=zC hbits;have lA:=A.lt;have lR:=R.lt;have HO:=zC (show (1*Q b/1,-(-(1*Q b)/1))=(Q b,Q b) by rw[Int.ediv_one,Int.ediv_one];simp)
 have D7:Below W.heap.size W W.drew:=(Below.refl _ _).drew;have HK:=zC (show ∀ w',Below W.heap.size W w'->(cK0 w' w.heap.size s) from λ w' hB=>⟨(A.bw hB).c0,(A.bw hB).c1,(A.bw hB).c2,(A.bw hB).c3,(A.bw hB).c4⟩)
 clear hs hbits
 go_enter Tryz.func48,Tryz.ntmps48
 go_wp2;rw[<- hW];clear hW;obtain⟨x0,x1,x2,x3,x4⟩:=A
 go_region_held3 (λ w'=>cK0 w' w.heap.size s) (first|exact zA HK _ (by with_reducible first|exact D7|exact o9|exact A6)|(dsimp only[cK,cK0,nK,nK0,rK,rK0];go_keep)|go_keep)
  (first
   | (go_at_call 92;have hq:=A6;refine (zHM _ v1 s k b (1*Q b/1,-(-(1*Q b)/1)) a (T8.mono bA) ((zA HS).bw A6) (by omega) (zA HV)).mono ?_;rintro r w2 ⟨t,rfl,J2,P5,j7⟩;have HT:=zC J2;clear J2;have o9:=zB A6 j7;obtain⟨q0,q1,q2,q3,q4,q5⟩:=R.bw o9;obtain⟨i0,i1,i2,i3,i4⟩:=zA HK _ o9)
   | (go_at_call 93;refine (one_z _ (zA HB) _ (by omega)).mono ?_;rintro r w1 ⟨v1,rfl,J3,T8,b9⟩;have HV:=zC J3;clear J3;have A6:=zB D7 b9))
 all_goals
  go_wp2;refine bodyPost_ret (v:=.agg t.q) (by simp[results,Tryz.results48,go_sem,q0,q1,q2,q3,q4]) rfl ⟨t,rfl,zA HT,?_,?_⟩
  ·rw[zA HO] at P5
   exact SpAt.put5 P5 q0 q1 q2 q3 q4 _ _ _ _ _
  ·exact jS (zB j8 o9) (Nat.le_succ _) _ _ _ _ _
open Ex
def absR (p q:Int):Rat:=(if p<0 then -(p:Rat) else (p:Rat))/(q:Rat)
theorem zQB {p q:Int} (hq:0<q):0<=absR p q/\absR p q*absR p q*((q*q:Int):Rat)=((p*p:Int):Rat):=by
 have q0:(0:Rat)<(q:Rat):=by exact_mod_cast hq
 unfold absR;have e:=rdm (a:=(if p<0 then -(p:Rat) else (p:Rat))) q0
 have hn:(0:Rat)<=(if p<0 then -(p:Rat) else (p:Rat)):=by
  split
  ·rename_i h
   have:(p:Rat)<=0:=by exact_mod_cast (show p<=0 by omega)
   grind
  ·rename_i h
   exact_mod_cast (show 0<=p by omega)
 refine⟨kG q0 (by grind),?_⟩
 rw[Ze,Ze];generalize (if p<0 then -(p:Rat) else (p:Rat))/(q:Rat)=z at *
 have:z*z*((q:Rat)*(q:Rat))=(z*(q:Rat))*(z*(q:Rat)):=by grind
 rw[this,e];split<;>grind
theorem zN4 {B:Nat} {a:Int × Int} {x:Nat->Rat} (h:Iv B a x):Iv B (zB5 B a) (λ M=>1-x M):=(zHG B).sub h
theorem big_Q {z:Int} {B m:Nat} (hB:B<=120) (h:z<=2*Q (B+m)):z<=P 200*Q m:=by
 have e:Q (B+m)=Q B*Q m:=jD B m;have q:=zE m
 have h1:2*Q B<=P 200:=by
  rw[<- Q_P];have h2:Q (B+1)=2*Q B:=rfl;have:=zH (show B+1<=16*200 by omega)
  omega
 have m1:=YW h1 (show 0<=Q m by omega)
 have e2:2*Q B*Q m=2*(Q B*Q m):=by grind
 omega
theorem sure_nar {b m:Nat} {lo hi L H:Int} (hle:lo<=hi) (e1:L=lo/Q m) (e2:H = -(-hi/Q m)) (h6:H-L<=1\/zIW L H (Q b) 4=true):L<=H/\zIW L H (Q b) 4=true:=by
 have h7:=zFS (m:=m) (Kw:=(hi-lo).toNat) hle (by
  have:∀ k:Nat,(k:Int)<=Q k:=λ k=>by
   induction k with
   | zero=>decide
   | succ k ih=>have e:Q (k+1)=2*Q k:=rfl;have:=zE k;omega
  have:=this (hi-lo).toNat
  omega)
 have h8:L<=H:=by rw[e1,e2];omega
 refine⟨h8,?_⟩
 rcases h6 with h6|h6
 ·exact zDI h8 (by omega)
 ·exact h6
theorem rt2_ex:∃ R2,zBJ (λ _=>(2:Rat)) R2:=zN7 (M0:=0) (λ M _=>by grind) (Bdd.const 2)
theorem half_rt {R2:Nat->Rat} (h:zBJ (λ _=>(2:Rat)) R2) {c:Rat} (hc:0<=c):RtOf (c*c/2) (λ M=>c*(R2 M/2)):=by
 refine⟨λ M=>YV hc (by have:=h.one M;grind),?_⟩
 refine (h.sq.bmul (Bdd.const (c*c/4))).of_eq λ M=>?_
 grind
def nrE (E:Nat->Rat) (p:Int) (M:Nat):Rat:=if 0<p then E M else -E M
def nrV (E:Nat->Rat) (p:Int) (M:Nat):Rat:=(1:Int)/((2:Int):Rat)*(1+nrE E p M)
def ErfN (n d:Int) (B:Nat) (s e:Int):Prop:=∀ (w':World) (x y:Nm),IntAt w' x.neg x.a x.n x.cap 8 n->IntAt w' y.neg y.a y.n y.cap 8 d ->
 Calls Tryz.prog 178 #[.agg x.q,.agg y.q,.int .i64 B] w' (zG w' B 3000 s e)
def nrY (p q:Int):Rat:=((p*p:Int):Rat)/((q*q*2:Int):Rat)
def nrR (R2:Nat->Rat) (p q:Int) (M:Nat):Rat:=absR p q*(R2 M/2)
theorem nrY_eq {p q:Int} (hq:0<q):nrY p q=absR p q*absR p q/2:=by
 have q0:(0:Rat)<((q*q:Int):Rat):=by exact_mod_cast Int.mul_pos hq hq
 have q2:(0:Rat)<((q*q*2:Int):Rat):=by exact_mod_cast (show 0<q*q*2 by have:=Int.mul_pos hq hq;omega)
 have e:=(zQB (p:=p) hq).2;have r:=rdm (a:=((p*p:Int):Rat)) q2;unfold nrY;have e2:((q*q*2:Int):Rat)=((q*q:Int):Rat)*2:=by rw[Ze (q*q) 2];rfl
 have k:absR p q*absR p q/2*((q*q*2:Int):Rat)=((p*p:Int):Rat):=by rw[e2,<- e];grind
 exact Rat.le_antisymm (Rat.le_of_mul_le_mul_right (by rw[r,k];exact Rat.le_refl) q2) (Rat.le_of_mul_le_mul_right (by rw[r,k];exact Rat.le_refl) q2)
theorem nr_rt {R2:Nat->Rat} (h2:zBJ (λ _=>(2:Rat)) R2) {p q:Int} (hq:0<q):RtOf (nrY p q) (nrR R2 p q):=by
 rw[nrY_eq hq];exact half_rt h2 (zQB (p:=p) hq).1
theorem sq_pos {p:Int} (hp:p≠0):1<=p*p:=by
 rcases Int.lt_or_gt_of_ne hp with h|h
 ·have:=Int.mul_pos (show 0 < -p by omega) (show 0 < -p by omega)
  have e : -p * -p=p*p:=by grind
  omega
 ·have:=Int.mul_pos h h;omega
def wrok (p q:Int):Prop := -35184372088832<=p/\p<=35184372088832/\1<=q/\q<=137438953472
theorem sq_bw {p K:Int} (h1 : -K<=p) (h2:p<=K):0<=p*p/\p*p<=K*K:=by
 have e : -p * -p=p*p:=by grind
 rcases Int.le_total 0 p with h|h
 ·exact⟨Zc h h,Int.mul_le_mul h2 h2 h (by omega)⟩
 ·rw[<- e];exact⟨Zc (by omega) (by omega),Int.mul_le_mul (by omega) (by omega) (by omega) (by omega)⟩
theorem nor_in {R2:Nat->Rat} (h2:zBJ (λ _=>(2:Rat)) R2) {p q:Int} (hr:wrok p q) (h:p*p<152*(q*q*2)):ErIn (p*p) (q*q*2) (nrR R2 p q):=by
 obtain⟨r1,r2,r3,r4⟩:=hr;have q0:0<q*q:=Int.mul_pos (by omega) (by omega)
 have p0:=(sq_bw r1 r2).1;refine⟨p0,by omega,nr_rt h2 (by omega),h,?_⟩
 by_cases hp:p=0
 ·exact Or.inl (by rw[hp];rfl)
 ·refine Or.inr ?_
  have h1:=sq_pos hp;have h2:=(sq_bw (p:=q) (K:=137438953472) (by omega) r4).2
  have e:Q 76=75557863725914323419136:=rfl;rw[e];omega
def NoCore (E:Nat->Rat) (B:Nat) (s e:Int):Prop:=Iv B (s,e) E/\0<=s/\s<=e/\e<=Q B/\e-s<=Q 4500
theorem nor_near {R R2:Nat->Rat} (hR:zBJ piS R) (h2:zBJ (λ _=>(2:Rat)) R2) {p q:Int} (hr:wrok p q) (h:p*p<152*(q*q*2)) {B:Nat} (hB:40<=B) (o9:B<=10000) (E2:p*p<q*q*2*(B:Int)):∃ s e,ErfN (p*p) (q*q*2) B s e/\NoCore (zOV R (nrY p q) (nrR R2 p q)) B s e:=by
 have I9:=nor_in h2 hr h;obtain⟨M,hM,pJ⟩:=erT_set I9 B;obtain⟨l,t,N,e1,e2,e3,e4,e5⟩:=erX_set I9 hB;obtain⟨N5,h5⟩:=zQD (m:=5) (by omega) (show 2<=B by omega)
 obtain⟨N9,h9⟩:=zQD (m:=239) (by omega) (show 2<=B by omega)
 refine⟨_,_,λ w' x y hx hy=>erf_iv w' x y (p*p) (q*q*2) B hx hy hB o9 (nrR R2 p q) M t N N5 N9 l I9 E2 hM pJ e1 e2 e3 e4 e5 h5 h9,?_⟩
 exact erf_ok hR I9 hB o9 hM pJ e3 e4 e5 h5 h9
theorem nor_farN {p q:Int} {B:Nat} (hB:40<=B) (o9:B<=10000) (h:q*q*2*(B:Int)<=p*p):ErfN (p*p) (q*q*2) B (Q B-1) (Q B):=λ w' x y hx hy =>
 (erf_far w' x y (p*p) (q*q*2) B hx hy hB o9 h).mono λ r gH ⟨s,e1,e2,e3,e4⟩=>⟨s,e1,e2,e3.mono (by omega),e4⟩
def oppP (p:Int) (a:Int × Int):Int × Int:=if 0<p then (-a.2,-a.1) else a
def zER (B:Nat) (p:Int) (a:Int × Int):Int × Int:=zJ (zB5 B (oppP p a)) 1 2
theorem zKE (B:Nat) (p s e:Int):(zER B p (s,e)).1=(if 0<p then (Q B+s)/2 else (Q B-e)/2)/\(zER B p (s,e)).2=(if 0<p then -(-(Q B+e)/2) else -(-(Q B-s)/2)):=by
 unfold zER zJ zB5 oppP
 by_cases hp:0<p
 ·rw[if_pos hp,if_pos hp,if_pos hp]
  simp only[Int.mul_one,Int.sub_neg,and_self]
 ·rw[if_neg hp,if_neg hp,if_neg hp]
  simp only[Int.mul_one,and_self]
theorem zSS {B:Nat} {p s e:Int} (h0:0<=s) (h1:s<=e) (h2:e<=Q B) (h3:e-s<=Q 4500):(zER B p (s,e)).1<=(zER B p (s,e)).2/\0<=(zER B p (s,e)).1/\(zER B p (s,e)).2<=Q B/\(zER B p (s,e)).2-(zER B p (s,e)).1<=Q 4500:=by
 obtain⟨e1,e2⟩:=zKE B p s e;have q:=zE B;have q4:4<=Q 4500:=by have:=zH (show 2<=4500 by omega);have:Q 2=4:=rfl;omega
 rw[e1,e2];clear e1 e2;generalize Q 4500=z at *
 by_cases hp:0<p
 ·rw[if_pos hp,if_pos hp];omega
 ·rw[if_neg hp,if_neg hp];omega
theorem norI_iv {B:Nat} {p:Int} {a:Int × Int} {E:Nat->Rat} (h:Iv B a E):Iv B (zER B p a) (nrV E p):=by
 unfold zER
 have k:Iv B (zB5 B (oppP p a)) (λ M=>1+nrE E p M):=by
  unfold oppP nrE
  by_cases hp:0<p
  ·rw[if_pos hp]
   exact Has.of_eq (zN4 h.opp) λ M=>by rw[if_pos hp];grind
  ·rw[if_neg hp]
   exact Has.of_eq (zN4 h) λ M=>by rw[if_neg hp];grind
 exact k.scale (n:=1) (d:=2) (by decide) (by decide)
def farN (p:Int) (b:Nat):Int × Int:=if 0<p then (Q b-1,Q b) else (0,1)
theorem far_no (p : Int) (b : Nat) : (farN p b).1 = (zER (b + 32) p (Q (b + 32) - 1, Q (b + 32))).1 / Q 32 ∧ (farN p b).2 = -(-(zER (b + 32) p (Q (b + 32) - 1, Q (b + 32))).2 / Q 32) := by
  have q := zE 32
  have e : Q (b + 32) = Q b * Q 32 := jD b 32
  obtain ⟨e1, e2⟩ := zKE (b + 32) p (Q (b + 32) - 1) (Q (b + 32))
  rw [e1, e2]
  unfold farN
  by_cases hp : 0 < p
  · rw [if_pos hp, if_pos hp, if_pos hp]
    have g1 : (Q (b + 32) + (Q (b + 32) - 1)) / 2 = Q (b + 32) - 1 := by omega
    have g2 : -(-(Q (b + 32) + Q (b + 32)) / 2) = Q (b + 32) := by omega
    rw [g1, g2, e]
    have q1 : 1 ≤ Q 32 := q
    refine ⟨?_, ?_⟩
    · show Q b - 1 = (Q b * Q 32 - 1) / Q 32
      have a := Int.le_ediv_of_mul_le q (show (Q b - 1) * Q 32 ≤ Q b * Q 32 - 1 by have : (Q b - 1) * Q 32 = Q b * Q 32 - Q 32 := by grind
                                                                                   omega)
      have c := Int.ediv_lt_of_lt_mul q (show Q b * Q 32 - 1 < Q b * Q 32 by omega)
      omega
    · show Q b = -(-(Q b * Q 32) / Q 32)
      rw [← Int.neg_mul, Int.mul_ediv_cancel _ (by omega)]; omega
  · rw [if_neg hp, if_neg hp, if_neg hp]
    have g1 : (Q (b + 32) - Q (b + 32)) / 2 = 0 := by omega
    have g2 : -(-(Q (b + 32) - (Q (b + 32) - 1)) / 2) = 1 := by omega
    rw [g1, g2]
    refine ⟨by show (0 : Int) = 0 / Q 32; simp, ?_⟩
    show (1 : Int) = -(-1 / Q 32)
    have a := Int.le_ediv_of_mul_le q (show -1 * Q 32 ≤ -1 by omega)
    have c := Int.ediv_lt_of_lt_mul q (show -1 < 0 * Q 32 by omega)
    omega
end Go.Proofs.YtgmnknmjainabacGreat
