/-
  Its own texts.
-/
import Derived.Test.YtgmnknmjainabacGreatK14
set_option maxRecDepth 100000
set_option maxHeartbeats 40000000
set_option linter.unnecessarySimpa false
set_option linter.unusedSimpArgs false
set_option linter.unusedVariables false
namespace Go.Proofs.YtgmnknmjainabacGreat
open Go.RowKit
attribute [local go_sem ↓] Go.wp_at_zero Go.wp_at_succ
theorem er1_iv (w:World) (B0 B1:Nat) (s:Sp) (x y:Nm) (k k1 k2 b:Nat) (n:Int) (a:Int × Int) (u v:Int) (hs:SpAt w s k a.1 a.2) (hx:IntAt w x.neg x.a x.n x.cap k1 u) (hy:IntAt w y.neg y.a y.n y.cap k2 v) (X:NmC w B0 x) (Y:NmC w B1 y) (hk:k<=100000000) (ae:k1<=1000000) (cn:k2<=1000000) (hb:s.bits=(b:Int)) (hn:0<=n) (aT:n<=1000000000000) (hv:0<v) :
  Calls Tryz.prog 198 #[.agg s.q,.int .i64 n,.pointer (some ⟨B0,0,none⟩),.pointer (some ⟨B1,0,none⟩)] w (zH w b (k+k1+10) (zK a u (v*(2*n+1))).1 (zK a u (v*(2*n+1))).2):=by
 obtain⟨W,hW⟩:∃ W,W=(w.alloc (.cells s.q 31)).alloc (.cells zCq 31):=⟨_,rfl⟩;have j6:Below w.heap.size w W:=by rw[hW];exact bl2 _ _ _
 have A:SpC W w.heap.size s:=by rw[hW];constructor<;>simp[go_sem]
 have R:NoC W (w.heap.size+1):=by rw[hW];constructor<;>simp[go_sem]
 have HS:=zC (hs.bw j6);have HX:=zC (hx.bw j6);have HY:=zC (hy.bw j6);have l0:=X.lt;have l1:=Y.lt;replace X:=X.bw j6;replace Y:=Y.bw j6;have HB:=zC hb;have HP:=zC (show 0<v*(2*n+1) from Int.mul_pos hv (by omega))
 have lR:=R.lt;have lA:=A.lt;have T7:=zC (show IntKind.i64.wrap (2*n)=2*n from jH _ (by omega) (by omega))
 have ag:=zC (show IntKind.i64.wrap (2*n+1)=2*n+1 from jH _ (by omega) (by omega))
 clear hs hx hy hb;have E2:Below W.heap.size W W.drew:=(Below.refl _ _).drew;have HK:=zC (show ∀ w',Below W.heap.size W w'->(cK w' w.heap.size s (nK w' B0 x (nK0 w' B1 y))) from λ w' hB=>⟨(A.bw hB).c0,(A.bw hB).c1,(A.bw hB).c2,(A.bw hB).c3,(A.bw hB).c4,(X.bw hB).c0,(X.bw hB).c1,(Y.bw hB).c0,(Y.bw hB).c1⟩)
 go_enter Tryz.func198,Tryz.ntmps198
 go_wp2;rw[<- hW];clear hW;have DQ:w.heap.size+1≠B0:=by omega
 have FT:w.heap.size+1≠B1:=by omega
 obtain⟨x0,x1,x2,x3,x4,x5,x6,x7,x8⟩:=zA HK _ (Below.refl _ _)
 go_region_held3 (λ w'=>cK w' w.heap.size s (nK w' B0 x (nK0 w' B1 y))) (first|exact zA HK _ (by with_reducible first|exact E2|exact A9|exact o9|exact A7)|(dsimp only[cK,cK0,nK,nK0,rK,rK0];go_keep)|go_keep)
  (first
   | (go_at_call 151;have hq:=o9;refine (zBF _ s ⟨x.neg,x.a,x.n,x.cap⟩ ⟨j7,a2,n2,c2⟩ k k1 _ b a u (v*(2*n+1)) ((zA HS).bw o9) ((zA HX).bw o9) A5 (by omega) (by omega) (zA HP) (zA HB)).mono ?_;rintro r w3 ⟨t,rfl,I2,K5,m8⟩;have HT:=zC I2;clear I2;have A9:=zB o9 m8;obtain⟨q0,q1,q2,q3,q4,q5⟩:=R.bw A9;obtain⟨i0,i1,i2,i3,i4,i5,i6,i7,i8⟩:=zA HK _ A9)
   | (go_at_call 83;have hq:=A7;refine (zV _ _ _ _ _ _ _ _ k2 4 v (2*n+1) _ ((zA HY).bw A7) o8 (by omega) (by omega)).mono ?_;rintro r w2 ⟨j7,a2,n2,c2,rfl,A5,j8⟩;have o9:=zB A7 j8)
   | (go_at_call 33;rw[zA T7,zA ag];refine (zD (2*n+1) _ (by omega) (by omega)).mono ?_;rintro r w1 ⟨m7,a1,n1,c1,rfl,o8,b9⟩;have A7:=zB E2 b9))
 all_goals
  go_wp2;refine bodyPost_ret (v:=.agg t.q) (by simp[results,Tryz.results198,go_sem,q0,q1,q2,q3,q4]) rfl ⟨t,rfl,zA HT,?_,?_⟩
  ·exact SpAt.put5 K5 q0 q1 q2 q3 q4 _ _ _ _ _
  ·exact jV (zB j6 A9) (Nat.le_succ _) _ _ _ _ _
theorem zEL (ff:Nat) (cs:Array Value) (QY:∀ (args:Array Value) (w:World),(callFunc ff args).run Tryz.prog w=.ok (.enter ff args) w) (f:Nat->Int × Int) (turn N b K KF:Nat) (s:Sp) (W:World) (hs:SpAt W s K (f 0).1 (f 0).2) (hbits:s.bits=(b:Int)) (hb:b<=1000000) (hK:K<=100000000) (Yl:4<=K) (Ym:KF<=900000000) (hN:yS f turn N) (zq:N<=1000000000) (htn:turn<=1000000000)
  (hle:∀ n,(f n).1<=(f n).2) (h0:∀ n,0<=(f n).1) (Z3:∀ n,n<=N -> -P K<(f n).1/\(f n).2<P K) (hfitS:∀ n,n<=N -> -P K<(jE f n).1/\(jE f n).2<P K)
  (hF:∀ (n:Nat) (u:Sp) w',n<N->u.bits=(b:Int)->SpAt w' u K (f n).1 (f n).2->Below W.heap.size W w'->Calls Tryz.prog ff (#[.agg u.q,.int .i64 ((n:Int)+1)] ++ cs) w' (zH w' b KF (f (n+1)).1 (f (n+1)).2)) :
  Calls Tryz.prog 182 #[.agg s.q,.int .i64 turn,.func (.func ff) #[] cs] W (zH W b (K+3) (kY f N).1 (kY f N).2):=by
 have HF:=zC hF;have HN:=zC hN;have gN:=zC hbits;have H0:=zC h0;clear hF hN hbits h0;obtain⟨V,hV⟩:∃ V,V=(W.alloc (.cells s.q 31)).alloc (.cells zCq 31):=⟨_,rfl⟩;have sX:Below W.heap.size W V:=by rw[hV];exact bl2 _ _ _
 have A:SpC V W.heap.size s:=by rw[hV];constructor<;>simp[go_sem]
 have R:NoC V (W.heap.size+1):=by rw[hV];constructor<;>simp[go_sem]
 have HS:=zC (hs.bw sX);have lA:=A.lt;have lR:=R.lt;clear hs
 go_enter Tryz.func182,Tryz.ntmps182
 go_wp2;rw[<- hV];clear hV
 go_cut [7,8] (λ p q wx=>TwoS V wx s s p q)
 case first =>
  obtain⟨x0,x1,x2,x3,x4⟩:=A
  go_region
  all_goals
   go_wp2_with fail;go_meet
   first
    | with_reducible exact zUR _ _ _ _
    | with_reducible exact twoS_b _ _ _ _
 case rest =>
 obtain⟨B5,B6,rfl,rfl,l5,l6,hne,X,Y,hB⟩:=hcut;have n5:W.heap.size+1<B5:=by omega
 have n6:W.heap.size+1<B6:=by omega
 have mY:SumSt W wc B5 B6 b K s s s f 0:=⟨X,Y,(zA HS).bw hB,(zA HS).bw hB,zA gN,zA gN,A.bw hB,R.bw hB,zB sX hB,n5,n6,hne⟩;clear X Y hB A R HS l5 l6 n5 n6 hne sX lA lR;go_wp2_with fail
 go_loopw [9] (λ nn wr=>∃ (i:Nat) (X Y:Sp),nn=.int .i64 ((i:Int)+1)/\i<=N/\SumSt W wr B5 B6 b K s X Y f i) (λ nn _=>N+1-(intOf nn).toNat)
 case atStart=>exact⟨0,s,s,rfl,Nat.zero_le _,mY⟩
 case round =>
  obtain⟨i,X,Y,rfl,hi,st⟩:=hrel
  by_cases hit:i<turn
  ·have I6:i<N:=by have:=(zA HN).1;omega
   have Kh:((i:Int)+1<=(turn:Int)):=by omega
   obtain⟨⟨y0,y1,y2,y3,y4⟩,y5⟩:=st.y;go_wp2_with fail;refine (zA HF i Y _ I6 st.yb st.yp st.be).mono ?_;rintro r w3 ⟨u,rfl,B8,B7,m8⟩;replace st:=st.bw m8;replace B7:=B7.fits (K:=K) (hle _) (Z3 _ (by omega)).1 (Z3 _ (by omega)).2
   have HU:=zC B8;clear m8 y0 y1 y2 y3 y4 y5 B8;obtain⟨V3,I0⟩:∃ V3,V3=yY w3 B6 u:=⟨_,rfl⟩;have X3:VrC V3 B5 X:=by rw[I0];exact st.x.off st.ne u
   have Y3:VrC V3 B6 u:=by rw[I0];exact st.y.put u
   have P3:SpAt V3 X K (jE f i).1 (jE f i).2:=by rw[I0];exact st.xp.put st.y.c u
   have U3:SpAt V3 u K (f (i+1)).1 (f (i+1)).2:=by rw[I0];exact B7.put st.y.c u
   have F3:SpC V3 W.heap.size s:=by rw[I0];exact st.fs.off (by have:=st.l6;omega) u
   have R3:NoC V3 (W.heap.size+1):=by rw[I0];exact st.no.off (by have:=st.l6;omega) u
   have B3:Below W.heap.size W V3:=by rw[I0];exact zAW st.be (by have:=st.l6;omega) u
   have xb:=zC st.xb;have l5:=st.l5;have l6:=st.l6;have hne:=st.ne;have lY:=st.y.lt;have lX:=st.x.lt;obtain⟨⟨y0,y1,y2,y3,y4⟩,y5⟩:=st.y;obtain⟨⟨x0,x1,x2,x3,x4⟩,x5⟩:=st.x;clear st B7;go_wp2_with fail;have Q4:V3=yY w3 B6 u:=I0;unfold yY at Q4;rw[<- Q4];clear Q4 y0 y1 y2 y3 y4 y5 x0 x1 x2 x3 x4 x5;have FP:B5<V3.heap.size:=X3.lt;refine (zC2 _ X u K b (jE f i) (f (i+1)) P3 U3 (by omega) (zA xb)).mono ?_
   rintro r w4 ⟨v,rfl,J8,J6,p9⟩;have X4:=X3.bw p9;have Y4:=Y3.bw p9;have U4:=U3.bw p9;have F4:=F3.bw p9;have R4:=R3.bw p9;have B4:=zB B3 p9;have e:zAR (jE f i) (f (i+1))=jE f (i+1):=rfl;rw[e] at J6;replace J6:=J6.fits (K:=K) (zGR hle _) (hfitS _ (by omega)).1 (hfitS _ (by omega)).2
   have HV:=zC J8;clear p9 J8 X3 Y3 P3 U3 F3 R3 B3 I0;have stn:SumSt W (yY w4 B5 v) B5 B6 b K s v u f (i+1):=⟨X4.put v,Y4.off (Ne.symm hne) v,J6.put X4.c v,U4.put X4.c v,zA HV,zA HU,F4.off (by omega) v,R4.off (by omega) v,zAW B4 (by omega) v,l5,l6,hne⟩
   unfold yY at stn;obtain⟨⟨x0,x1,x2,x3,x4⟩,x5⟩:=X4;go_wp2_with fail
   go_roundw
   case rel=>exact⟨i+1,v,u,by go_num,by omega,stn⟩
   case measure=>simp[intOf];omega
  ·have Kh:¬ ((i:Int)+1<=(turn:Int)):=by omega
   obtain⟨⟨y0,y1,y2,y3,y4⟩,y5⟩:=st.y;go_wp2_with fail;have iV:0<=(f i).2:=by have:=zA H0 i;have:=hle i;omega
   refine (zD2 _ _ _ _ _ (f i).2 _ st.yp.hi iV).mono ?_;rintro r w2 ⟨l,hlen,rfl,j8⟩;replace st:=st.bw j8;clear j8 y0 y1 y2 y3 y4 y5
   by_cases I6:i<N
   ·have hl:2<l:=by
     have h3:=(zA HN).2.2 i I6;refine Int.not_le.1 λ hl=>?_
     obtain⟨g1,g2,g3⟩:=hlen;obtain⟨L,e1,e2,e3⟩:=g3 (by omega)
     have:=zJ (show L+1<=2 by omega)
     have:Q 2=4:=rfl;omega
    clear hlen iV;obtain⟨⟨y0,y1,y2,y3,y4⟩,y5⟩:=st.y;go_wp2_with fail;refine (zA HF i Y _ I6 st.yb st.yp st.be).mono ?_;rintro r w3 ⟨u,rfl,B8,B7,m8⟩;replace st:=st.bw m8;replace B7:=B7.fits (K:=K) (hle _) (Z3 _ (by omega)).1 (Z3 _ (by omega)).2
    have HU:=zC B8;clear m8 y0 y1 y2 y3 y4 y5 B8;obtain⟨V3,I0⟩:∃ V3,V3=yY w3 B6 u:=⟨_,rfl⟩;have X3:VrC V3 B5 X:=by rw[I0];exact st.x.off st.ne u
    have Y3:VrC V3 B6 u:=by rw[I0];exact st.y.put u
    have P3:SpAt V3 X K (jE f i).1 (jE f i).2:=by rw[I0];exact st.xp.put st.y.c u
    have U3:SpAt V3 u K (f (i+1)).1 (f (i+1)).2:=by rw[I0];exact B7.put st.y.c u
    have F3:SpC V3 W.heap.size s:=by rw[I0];exact st.fs.off (by have:=st.l6;omega) u
    have R3:NoC V3 (W.heap.size+1):=by rw[I0];exact st.no.off (by have:=st.l6;omega) u
    have B3:Below W.heap.size W V3:=by rw[I0];exact zAW st.be (by have:=st.l6;omega) u
    have xb:=zC st.xb;have l5:=st.l5;have l6:=st.l6;have hne:=st.ne;have lY:=st.y.lt;have lX:=st.x.lt;obtain⟨⟨y0,y1,y2,y3,y4⟩,y5⟩:=st.y;obtain⟨⟨x0,x1,x2,x3,x4⟩,x5⟩:=st.x;clear st B7;go_wp2_with fail;have Q4:V3=yY w3 B6 u:=I0;unfold yY at Q4;rw[<- Q4];clear Q4 y0 y1 y2 y3 y4 y5 x0 x1 x2 x3 x4 x5;have FP:B5<V3.heap.size:=X3.lt;refine (zC2 _ X u K b (jE f i) (f (i+1)) P3 U3 (by omega) (zA xb)).mono ?_
    rintro r w4 ⟨v,rfl,J8,J6,p9⟩;have X4:=X3.bw p9;have Y4:=Y3.bw p9;have U4:=U3.bw p9;have F4:=F3.bw p9;have R4:=R3.bw p9;have B4:=zB B3 p9;have e:zAR (jE f i) (f (i+1))=jE f (i+1):=rfl;rw[e] at J6;replace J6:=J6.fits (K:=K) (zGR hle _) (hfitS _ (by omega)).1 (hfitS _ (by omega)).2
    have HV:=zC J8;clear p9 J8 X3 Y3 P3 U3 F3 R3 B3 I0;have stn:SumSt W (yY w4 B5 v) B5 B6 b K s v u f (i+1):=⟨X4.put v,Y4.off (Ne.symm hne) v,J6.put X4.c v,U4.put X4.c v,zA HV,zA HU,F4.off (by omega) v,R4.off (by omega) v,zAW B4 (by omega) v,l5,l6,hne⟩
    unfold yY at stn;obtain⟨⟨x0,x1,x2,x3,x4⟩,x5⟩:=X4;go_wp2_with fail
    go_roundw
    case rel=>exact⟨i+1,v,u,by go_num,by omega,stn⟩
    case measure=>simp[intOf];omega
   ·have ie:i=N:=by omega
    subst ie
    have hl:¬ 2<l:=by
     have h1:=(zA HN).2.1
     intro hl
     obtain⟨g1,g2,g3⟩:=hlen
     by_cases hp:0<(f i).2
     ·obtain⟨L,e1,e2,e3⟩:=g3 hp
      have:=zJ (show 2<=L by omega)
      have:Q 2=4:=rfl;omega
     ·have:=g2 (by omega);omega
    clear hlen;have l5:=st.l5;have lX:=st.x.lt;have Z7:=zC (show ∀ w',Below w2.heap.size w2 w'->(cK w' B5 X (w'.cell? ⟨W.heap.size,4,none⟩=some (.int .i64 s.bits))) from λ w' hB=>⟨(st.x.c.bw hB).c0,(st.x.c.bw hB).c1,(st.x.c.bw hB).c2,(st.x.c.bw hB).c3,(st.x.c.bw hB).c4,(st.fs.bw hB).c4⟩)
    have R3:=st.no;have iE:=R3.lt;have ST:=zC st;clear st;go_wp2_with fail;obtain⟨x0,x1,x2,x3,x4,x5⟩:=zA Z7 _ (Below.refl _ _);have D5:Below w2.heap.size w2 w2.drew:=(Below.refl _ _).drew;have DR:W.heap.size+1≠B5:=by omega
    have FV:W.heap.size+1≠W.heap.size:=by omega
    go_region_held3 (λ w'=>cK w' B5 X (w'.cell? ⟨W.heap.size,4,none⟩=some (.int .i64 s.bits))) (first|exact zA Z7 _ (by with_reducible first|exact D5|exact s9|exact y9)|(dsimp only[cK,cK0,nK,nK0,rK,rK0];go_keep)|go_keep)
     (first
      | (go_at_call 51;have hq:=y9;refine (zC2 _ X ⟨false,none,0,0,E4,a4,n4,c4,s.bits⟩ K b (jE f i) (0,9) ((zA ST).xp.bw y9) ⟨zE6 _ _,H8.mono Yl⟩ (by omega) (zA ST).xb).mono ?_;rintro r' w5 ⟨v,rfl,J8,J6,D8⟩;have s9:=zB y9 D8;have HV:=zC J8;clear J8;obtain⟨q0,q1,q2,q3,q4,q5⟩:=R3.bw s9;obtain⟨y0,y1,y2,y3,y4,y5⟩:=zA Z7 _ s9)
      | (go_at_call 33;refine (zD 9 _ (by omega) (by omega)).mono ?_;rintro r' w4 ⟨E4,a4,n4,c4,rfl,H8,p9⟩;have y9:=zB D5 p9))
    all_goals
     go_wp2_with fail;refine bodyPost_ret (v:=.agg v.q) (by simp[results,Tryz.results182,go_sem,q0,q1,q2,q3,q4]) rfl ⟨v,rfl,zA HV,?_,?_⟩
     ·exact SpAt.put5 (J6.mono (by omega)) q0 q1 q2 q3 q4 _ _ _ _ _
     ·exact jV (zB (zA ST).be s9) (Nat.le_succ _) _ _ _ _ _
theorem en_erf (args:Array Value) (w:World):(callFunc 198 args).run Tryz.prog w=.ok (.enter 198 args) w:=by simp[go_sem,callFunc,Tryz.func198];kernel_rfl
theorem ag_small {n m:Int} (h1:1<=n) (h2:n<=1000000) (h3:2<=m) (h4:m<=1000):0<(2*n+1)*m/\(2*n+1)*m<=2000001000/\0<(2*n+1)*m*m/\(2*n+1)*m*m<=2000001000000:=by
 have a:=Int.mul_pos (show 0<2*n+1 by omega) (show 0<m by omega)
 have b:=Int.mul_le_mul (show 2*n+1<=2000001 by omega) h4 (by omega) (by omega)
 have c:=Int.mul_pos a (show 0<m by omega)
 have d:=Int.mul_le_mul b h4 (by omega) (by omega)
 exact⟨a,by omega,c,by omega⟩
theorem ag1_iv (w:World) (B0:Nat) (s:Sp) (m:Int) (k b:Nat) (n:Int) (a:Int × Int) (hs:SpAt w s k a.1 a.2) (hc:w.cell? ⟨B0,0,none⟩=some (.int .i64 m)) (l0:B0<w.heap.size) (hk:k<=100000000) (hb:s.bits=(b:Int)) (hn:1<=n) (aT:n<=1000000) (hm:2<=m) (J5:m<=1000) :
  Calls Tryz.prog 210 #[.agg s.q,.int .i64 n,.pointer (some ⟨B0,0,none⟩)] w (zH w b (k+4+10) (negI (zK a (2*n-1) ((2*n+1)*m*m))).1 (negI (zK a (2*n-1) ((2*n+1)*m*m))).2):=by
 obtain⟨W,hW⟩:∃ W,W=(w.alloc (.cells s.q 31)).alloc (.cells zCq 31):=⟨_,rfl⟩;have j6:Below w.heap.size w W:=by rw[hW];exact bl2 _ _ _
 have A:SpC W w.heap.size s:=by rw[hW];constructor<;>simp[go_sem]
 have R:NoC W (w.heap.size+1):=by rw[hW];constructor<;>simp[go_sem]
 have HS:=zC (hs.bw j6);have C:W.cell? ⟨B0,0,none⟩=some (.int .i64 m):=(j6.cell (p:=⟨B0,0,none⟩) l0).trans hc;have l1:B0<W.heap.size:=YB l0 j6.size;have HB:=zC hb;have lR:=R.lt;have lA:=A.lt;obtain⟨b1,b2,b3,b4⟩:=ag_small hn aT hm J5;have T7:=zC (show IntKind.i64.wrap (2*n)=2*n from jH _ (by omega) (by omega))
 have ag:=zC (show IntKind.i64.wrap (2*n-1)=2*n-1 from jH _ (by omega) (by omega))
 have dK:=zC (show IntKind.i64.wrap (2*n+1)=2*n+1 from jH _ (by omega) (by omega))
 have yn:=zC (show IntKind.i64.wrap ((2*n+1)*m)=(2*n+1)*m from jH _ (by omega) (by omega))
 have pO:=zC (show IntKind.i64.wrap ((2*n+1)*m*m)=(2*n+1)*m*m from jH _ (by omega) (by omega))
 have gR:=zC (show -9223372036854775808<=(2*n+1)*m*m/\(2*n+1)*m*m<=9223372036854775807 from⟨by omega,by omega⟩)
 have sz:=zC b3;clear hs hb hc b1 b2 b3 b4;have E2:Below W.heap.size W W.drew:=(Below.refl _ _).drew;have HK:=zC (show ∀ w',Below W.heap.size W w'->(cK w' w.heap.size s (w'.cell? ⟨B0,0,none⟩=some (.int .i64 m))) from λ w' hB=>⟨(A.bw hB).c0,(A.bw hB).c1,(A.bw hB).c2,(A.bw hB).c3,(A.bw hB).c4,(hB.cell (p:=⟨B0,0,none⟩) l1).trans C⟩)
 clear C
 go_enter Tryz.func210,Tryz.ntmps210
 go_wp2;rw[<- hW];clear hW;have DQ:w.heap.size+1≠B0:=by omega
 obtain⟨x0,x1,x2,x3,x4,x5⟩:=zA HK _ (Below.refl _ _)
 go_region_held3 (λ w'=>cK w' w.heap.size s (w'.cell? ⟨B0,0,none⟩=some (.int .i64 m))) (first|exact zA HK _ (by with_reducible first|exact E2|exact G3|exact A9|exact o9|exact A7)|(dsimp only[cK,cK0,nK,nK0,rK,rK0];go_keep)|go_keep)
  (first
   | (go_at_call 139;have hq:=A9;refine (zDF _ v3 (k+4+10) _ _ O5 (by omega)).mono ?_;rintro r w4 ⟨t,rfl,I2,K5,p9⟩;have HT:=zC (I2.trans (zA HV));clear I2;have G3:=zB A9 p9;obtain⟨q0,q1,q2,q3,q4,q5⟩:=R.bw G3;obtain⟨i0,i1,i2,i3,i4,i5⟩:=zA HK _ G3)
   | (go_at_call 151;have hq:=o9;refine (zBF _ s ⟨m7,a1,n1,c1⟩ ⟨j7,a2,n2,c2⟩ k 4 _ b a (2*n-1) ((2*n+1)*m*m) ((zA HS).bw o9) (o8.bw j8) A5 (by omega) (by omega) (zA sz) (zA HB)).mono ?_;rintro r w3 ⟨v3,rfl,G7,O5,m8⟩;have HV:=zC G7;clear G7;have A9:=zB o9 m8)
   | (go_at_call 33;have hq:=A7;(first|rw[zA T7,zA dK,zA yn,zA pO]|rw[zA dK,zA yn,zA pO]);refine (zD ((2*n+1)*m*m) _ (zA gR).1 (zA gR).2).mono ?_;rintro r w2 ⟨j7,a2,n2,c2,rfl,A5,j8⟩;have o9:=zB A7 j8)
   | (go_at_call 33;rw[zA T7,zA ag];refine (zD (2*n-1) _ (by omega) (by omega)).mono ?_;rintro r w1 ⟨m7,a1,n1,c1,rfl,o8,b9⟩;have A7:=zB E2 b9))
 all_goals
  go_wp2;refine bodyPost_ret (v:=.agg t.q) (by simp[results,Tryz.results210,go_sem,q0,q1,q2,q3,q4]) rfl ⟨t,rfl,zA HT,?_,?_⟩
  ·exact SpAt.put5 K5 q0 q1 q2 q3 q4 _ _ _ _ _
  ·exact jV (zB j6 G3) (Nat.le_succ _) _ _ _ _ _
theorem en_ag (args:Array Value) (w:World):(callFunc 210 args).run Tryz.prog w=.ok (.enter 210 args) w:=by simp[go_sem,callFunc,Tryz.func210];kernel_rfl
theorem zMY (w:World) (m:Int) (b N K:Nat) (hm:2<=m) (J5:m<=1000) (E8:2<=b) (hb:b<=100000) (hN:zT (agT m b) N) (hK:Q (b+4)<P K) (nT:K<=10000000) :
  Calls Tryz.prog 207 #[.int .i64 m,.int .i64 b] w (zH w b (K+3) (zN (agT m b) N).1 (zN (agT m b) N).2):=by
 obtain⟨W,hW⟩:∃ W,W=(w.alloc (.cells #[.int .i64 m] 3)).alloc (.cells zCq 31):=⟨_,rfl⟩;have j6:Below w.heap.size w W:=by rw[hW];exact bl2 _ _ _
 have C:W.cell? ⟨w.heap.size,0,none⟩=some (.int .i64 m):=by rw[hW];simp[go_sem]
 have R:NoC W (w.heap.size+1):=by rw[hW];constructor<;>simp[go_sem]
 have lR:=R.lt;have l0:w.heap.size<W.heap.size:=by omega
 have Jv:=zE b
 have gY:Q b*16<P K:=by
  have e:Q (b+4)=2*(2*(2*(2*Q b))):=rfl;omega
 obtain⟨g1,g2,g3,g4⟩:=zHX hm E8 hN;have Y2:=zC (zHV hm E8);have sj:=zC (zMW hm b)
 have gO:Hid (∀ j,j<=N -> -P K<(agT m b j).1/\(agT m b j).2<P K):=zC (λ j _=>by
  obtain⟨g1,g2,g3,g4⟩:=zA Y2 j;have:=zJ (show b-2*j<=b by omega)
  omega)
 have cD:Hid (∀ j,j<=N -> -P K<(jE (agT m b) j).1/\(jE (agT m b) j).2<P K):=zC (λ j hj=>by
  obtain⟨g1,g2,g3,g4⟩:=zFX (s:=2) (by omega) (zA Y2) hN j hj
  have:=zE (b-2*j)
  omega)
 have AP:Hid (-P K<(ofI 1 m b).1/\(ofI 1 m b).2<P K):=zC ((zA gO) 0 (Nat.zero_le _));have zq:N<=1000000:=by omega
 have HN:=zC hN
 have dL:=zC (show ∀ (j:Nat) (u:Sp) w',j<N->u.bits=(b:Int)->SpAt w' u K (agT m b j).1 (agT m b j).2->Below W.heap.size W w'->Calls Tryz.prog 210 #[.agg u.q,.int .i64 ((j:Int)+1),.pointer (some ⟨w.heap.size,0,none⟩)] w' (zH w' b (K+4+10) (agT m b (j+1)).1 (agT m b (j+1)).2) from λ j u w' hj B8 B7 R9=>by
  have e:=ag1_iv w' w.heap.size u m K b ((j:Int)+1) (agT m b j) B7 ((R9.cell (p:=⟨w.heap.size,0,none⟩) l0).trans C) (YB l0 R9.size) (by omega) B8 (by omega) (by omega) hm J5
  have e1:2*((j:Int)+1)-1=2*(j:Int)+1:=by omega
  have e2:2*((j:Int)+1)+1=2*(j:Int)+3:=by omega
  rw[e1,e2] at e
  exact e)
 have HK:=zC (show ∀ w',Below W.heap.size W w'->(w'.cell? ⟨w.heap.size,0,none⟩=some (.int .i64 m)) from λ w' hB=>(hB.cell (p:=⟨w.heap.size,0,none⟩) l0).trans C)
 have GY:=zC (yB (n:=1) (show 0<m by omega) b)
 have E2:Below W.heap.size W W.drew:=(Below.refl _ _).drew;clear hN g1 g2 g3 g4 C
 go_enter Tryz.func207,Tryz.ntmps207
 go_wp2;rw[<- hW];clear hW;have nR:w.heap.size+1≠w.heap.size:=by omega
 have x0:=zA HK _ (Below.refl _ _)
 go_region_held3 (λ w'=>w'.cell? ⟨w.heap.size,0,none⟩=some (.int .i64 m)) (first|exact zA HK _ (by with_reducible first|exact E2|exact G3|exact A9|exact o9|exact A7)|go_keep)
  (first
   | (go_at_call 121;have hq:=A9;refine (zMH _ #[.pointer (some ⟨w.heap.size,0,none⟩)] en_ag (agT m b) N b K (K+4+10) v3 _ (O5.fits (K:=K) (zA GY) (zA AP).1 (zA AP).2) (zA HV) (by omega) (by omega) (by omega) (zA HN) (by omega) (zA sj) (zA gO) (zA cD) (λ j u w' hj B8 B7 R9=>zA dL j u w' hj B8 B7 (zB A9 R9))).mono ?_;rintro r w4 ⟨t,rfl,I2,K5,p9⟩;have HT:=zC I2;clear I2;have G3:=zB A9 p9;obtain⟨q0,q1,q2,q3,q4,q5⟩:=R.bw G3;have i0:=zA HK _ G3)
   | (go_at_call 88;have hq:=o9;refine (jI _ _ _ _ _ _ _ _ 4 4 b 1 m _ (o8.bw j8) A5 (by omega) (by omega) (by omega)).mono ?_;rintro r w3 ⟨v3,rfl,G7,O5,m8⟩;have HV:=zC G7;clear G7;have A9:=zB o9 m8)
   | (go_at_call 33;have hq:=A7;refine (zD m _ (by omega) (by omega)).mono ?_;rintro r w2 ⟨j7,a2,n2,c2,rfl,A5,j8⟩;have o9:=zB A7 j8)
   | (go_at_call 33;refine (zD 1 _ (by omega) (by omega)).mono ?_;rintro r w1 ⟨m7,a1,n1,c1,rfl,o8,b9⟩;have A7:=zB E2 b9))
 all_goals
  go_wp2;refine bodyPost_ret (v:=.agg t.q) (by simp[results,Tryz.results207,go_sem,q0,q1,q2,q3,q4]) rfl ⟨t,rfl,zA HT,?_,?_⟩
  ·exact SpAt.put5 K5 q0 q1 q2 q3 q4 _ _ _ _ _
  ·exact jV (zB j6 G3) (Nat.le_succ _) _ _ _ _ _
theorem pi_iv (w:World) (b N5 N9 K:Nat) (E8:2<=b) (hb:b<=100000) (h5:zT (agT 5 b) N5) (h9:zT (agT 239 b) N9) (hK:Q (b+4)<P K) (nT:K<=10000000) :
  Calls Tryz.prog 199 #[.int .i64 b] w (zH w b (K+8) (piI b N5 N9).1 (piI b N5 N9).2):=by
 obtain⟨W,hW⟩:∃ W,W=w.alloc (.cells zCq 31):=⟨_,rfl⟩;have j6:Below w.heap.size w W:=by rw[hW];exact bl1 _ _
 have R:NoC W w.heap.size:=by rw[hW];constructor<;>simp[go_sem]
 have H5:=zC h5;have H9:=zC h9;clear h5 h9
 go_enter Tryz.func199,Tryz.ntmps199
 go_wp2_with fail;rw[<- hW];clear hW;refine (zMY _ 5 b N5 K (by omega) (by omega) E8 hb (zA H5) hK nT).mono ?_
 rintro r w1 ⟨v1,rfl,J2,T3,b9⟩;have B1:=zC J2;replace R:=R.bw b9;replace j6:=zB j6 b9;clear J2 b9;go_wp2_with fail;refine (zDR _ v1 (K+3) b 16 _ T3 (by omega) (zA B1) (by omega) (by omega)).mono ?_
 rintro r w2 ⟨v2,rfl,P5,W9,j8⟩;have B2:=zC P5;replace R:=R.bw j8;replace j6:=zB j6 j8;clear P5 j8 T3;go_wp2_with fail;refine (zMY _ 239 b N9 K (by omega) (by omega) E8 hb (zA H9) hK nT).mono ?_
 rintro r w3 ⟨v3,rfl,G7,O5,m8⟩;have B3:=zC G7;replace R:=R.bw m8;replace j6:=zB j6 m8;replace W9:=W9.bw m8;clear G7 m8;go_wp2_with fail;refine (zDR _ v3 (K+3) b 4 _ O5 (by omega) (zA B3) (by omega) (by omega)).mono ?_
 rintro r w4 ⟨v4,rfl,aP,KT,p9⟩;replace R:=R.bw p9;replace j6:=zB j6 p9;replace W9:=W9.bw p9;have B4:=zC aP;clear aP p9 O5;go_wp2_with fail;refine (zHO _ v2 v4 (K+3+4) b (kI (zN (agT 5 b) N5) 16) (kI (zN (agT 239 b) N9) 4) W9 KT (by omega) (zA B2)).mono ?_
 rintro r w5 ⟨v5,rfl,mP,KV,D8⟩;obtain⟨q0,q1,q2,q3,q4,q5⟩:=R.bw D8;replace j6:=zB j6 D8;have B5:=zC mP;clear mP;go_wp2_with fail;refine bodyPost_ret (v:=.agg v5.q) (by simp[results,Tryz.results199,go_sem,q0,q1,q2,q3,q4]) rfl ⟨v5,rfl,zA B5,?_,?_⟩
 ·exact SpAt.put5 (KV.mono (by omega)) q0 q1 q2 q3 q4 _ _ _ _ _
 ·exact jV j6 (Yy _) _ _ _ _ _
theorem zTL (a:Int) (h0:0<=a) (h1:a<65536):bits .or .i64 0 a=a:=by
 simp[bits];have e0:(2:Int) ^ IntKind.i64.bits=18446744073709551616:=rfl;have e:a % 2 ^ IntKind.i64.bits=a:=Int.emod_eq_of_lt h0 (by rw[e0];omega)
 rw[e,show max a 0=a by omega]
 exact jH _ (by omega) (by omega)
theorem zKS (neg:Bool) (a:Option Addr) (n cap:Nat) (z:Int) (w:World) (h:IntAt w neg a n cap 1 z) (h0:0<=z) :
  Calls Tryz.prog 181 #[.agg #[.bool neg,.slice a n cap]] w λ r w'=>r=.returned (.int .i64 z)/\Below w.heap.size w w':=by
 obtain⟨d,g1,g2,g3,g4,g5⟩:=h;have hd:=g1.dgs
 rcases (show n=0\/n=1 by omega) with rfl|rfl
 ·have hz:z=0:=by rw[g5];unfold sgn;split<;>rfl
  subst hz;clear g1 g2 g3 g4 g5 hd h0
  go_enter Tryz.func181,Tryz.ntmps181
  go_wp2_with fail
  go_loopw [3,4] (λ oo ii wr=>oo=.int .i64 0/\ii=.int .i64 (-1)/\Below w.heap.size w wr) (λ _ ii _=>0)
  case atStart=>exact⟨rfl,by go_num,bl1 _ _⟩
  case round =>
   obtain⟨rfl,rfl,hB⟩:=hrel;go_wp2_with fail;exact bodyPost_ret (v:=.int .i64 0) (by simp[results,Tryz.results181]) rfl ⟨rfl,hB⟩
 ·have hv:V d 1=d 0:=by show V d 0+d 0*P 0=d 0;show 0+d 0*1=d 0;omega
  have M4:neg=false:=by
   cases neg
   ·rfl
   ·have h1:=(hd 0).1
    rw[hv] at g5;have:z = -d 0:=g5;have:d 0≠0:=by rcases g2 with g|g;exact absurd g (by omega);exact g
    omega
  subst M4;have hz:z=d 0:=by rw[g5,hv];rfl
  subst hz;obtain⟨b1,o1,rfl,l1,E5⟩:=g1.at_ (by omega)
  have c0:=E5 0 (by omega)
  have hd0:=(hd 0).1;have hd1:=(hd 0).2;have HO:=zC (zTL (d 0) hd0 hd1);have H0:=zC (show IntKind.i64.wrap (d 0)=d 0 from jH _ (by omega) (by omega))
  simp only[Nat.add_zero] at c0;clear E5 g2 g3 g4 g5 hv h0 hd g1
  go_enter Tryz.func181,Tryz.ntmps181
  go_wp2_with fail
  go_loopw [3,4] (λ oo ii wr=>((oo=.int .i64 0/\ii=.int .i64 0)\/(oo=.int .i64 (d 0)/\ii=.int .i64 (-1)))/\Below w.heap.size w wr/\wr.cell? ⟨w.heap.size,1,none⟩=some (.slice (some ⟨b1,o1,none⟩) 1 cap)) (λ _ ii _=>(intOf ii+1).toNat)
  case atStart=>exact⟨Or.inl ⟨rfl,by go_num⟩,bl1 _ _,by simp[go_sem]⟩
  case round =>
   obtain⟨hh,hB,hx⟩:=hrel;have c1:wr.cell? ⟨b1,o1,none⟩=some (.int .u16 (d 0)):=(hB.cell (p:=⟨b1,o1,none⟩) l1).trans c0
   rcases hh with⟨rfl,rfl⟩|⟨rfl,rfl⟩
   ·go_wp2_with fail
    first
     | rw[zA HO]
     | skip
    go_roundw
    case rel=>exact⟨Or.inr ⟨by first|rfl|(rw[zA HO])|(simp[zA HO]),by go_num⟩,hB,hx⟩
    case measure=>simp[intOf]
   ·go_wp2_with fail
    exact bodyPost_ret (v:=.int .i64 (d 0)) (by simp[results,Tryz.results181]) rfl ⟨rfl,hB⟩
theorem zUD {w:World} {B:Nat} {s:Sp} (h:VrC w B s) (x:Nm):VrC ((w.setCell ⟨B,0,none⟩ (.bool x.neg)).setCell ⟨B,1,none⟩ (.slice x.a x.n x.cap)) B ⟨x.neg,x.a,x.n,x.cap,s.hn,s.ha,s.hN,s.hc,s.bits⟩:=by
 obtain⟨⟨q0,q1,q2,q3,q4⟩,q5⟩:=h;exact⟨⟨by simp[go_sem,q0],by simp[go_sem,q1],by simp[go_sem,q2],by simp[go_sem,q3],by simp[go_sem,q4]⟩,λ o=>by rw[zS,zS];exact q5 o⟩
theorem NoC.offLE {w:World} {B B':Nat} (h:NoC w B) (hne:B≠B') (u0 u1:Value):NoC ((w.setCell ⟨B',0,none⟩ u0).setCell ⟨B',1,none⟩ u1) B:=by
 obtain⟨q0,q1,q2,q3,q4,q5⟩:=h;exact⟨by simp[go_sem,q0,hne,Ne.symm hne],by simp[go_sem,q1,hne,Ne.symm hne],by simp[go_sem,q2,hne,Ne.symm hne],by simp[go_sem,q3,hne,Ne.symm hne],by simp[go_sem,q4,hne,Ne.symm hne],λ o=>by rw[zS,zS];exact q5 o⟩
theorem IntAt.putLE {w:World} {neg:Bool} {a:Option Addr} {n cap k:Nat} {z:Int} (h:IntAt w neg a n cap k z) {B:Nat} {x0:Bool} {y0:Option Addr} {y1 y2:Nat} (h0:w.cell? ⟨B,0,none⟩=some (.bool x0))
  (h1:w.cell? ⟨B,1,none⟩=some (.slice y0 y1 y2)) (u0 u1:Value):IntAt ((w.setCell ⟨B,0,none⟩ u0).setCell ⟨B,1,none⟩ u1) neg a n cap k z:=by
 have hne:(⟨B,0,none⟩:Addr)≠⟨B,1,none⟩:=by simp
 have h2:(w.setCell ⟨B,0,none⟩ u0).cell? ⟨B,1,none⟩=some (.slice y0 y1 y2):=(World.cell?_setCell_other _ _ _ _ hne).trans h1;exact (h.store h0 (λ _ e=>by cases e) u0).store h2 (λ _ e=>by cases e) u1
theorem zEG (w:World) (b:Nat) (hb:b<=100000) :
  Calls Tryz.prog 180 #[.int .i64 b] w (zH w b (b/16+30) (Q b-1) (Q b)):=by
 obtain⟨W,hW⟩:∃ W,W=w.alloc (.cells zCq 31):=⟨_,rfl⟩;have j6:Below w.heap.size w W:=by rw[hW];exact bl1 _ _
 have R:NoC W w.heap.size:=by rw[hW];constructor<;>simp[go_sem]
 have GX:=zC (show 1*Q b/1=Q b by rw[Int.ediv_one];omega)
 have Vi:=zC (show -(-(1*Q b)/1)=Q b by rw[Int.ediv_one];omega)
 go_enter Tryz.func180,Tryz.ntmps180
 go_wp2_with fail;rw[<- hW];clear hW;refine (zDE _ b (by omega)).mono ?_
 rintro r' w1 ⟨v1,rfl,J2,hs1,b9⟩;replace R:=R.bw b9;replace j6:=zB j6 b9;have rO:=R.lt;have HB:=zC J2;clear J2 b9;obtain⟨V1,Q3⟩:∃ V,V=w1.alloc (.cells v1.q 31):=⟨_,rfl⟩;have bV:Below w1.heap.size w1 V1:=by rw[Q3];exact bl1 _ _
 have A:VrC V1 w1.heap.size v1:=by rw[Q3];exact⟨kO _ _ _,λ o=>by simp[go_sem]⟩
 have HS:=zC (show SpAt V1 v1 (b/16+24) (Q b) (Q b) from by have:=hs1.bw bV;rw[zA GX,zA Vi] at this;exact this)
 replace R:=R.bw bV;replace j6:=zB j6 bV;have Gz:=zC j6;have HA:=zC A;have HR:=zC R;have D5:Below V1.heap.size V1 V1.drew:=(Below.refl _ _).drew;have HK:=zC (show ∀ w',Below V1.heap.size V1 w'->(w'.cell? ⟨w1.heap.size,0,none⟩=some (.bool v1.ln)/\w'.cell? ⟨w1.heap.size,1,none⟩=some (.slice v1.la v1.lN v1.lc)) from λ w' hB=>⟨(A.bw hB).c.c0,(A.bw hB).c.c1⟩)
 clear hs1 A R j6 bV;go_wp2_with fail;rw[<- Q3];clear Q3;refine AnyL.start (S:=λ w'=>w'.cell? ⟨w1.heap.size,0,none⟩=some (.bool v1.ln)/\w'.cell? ⟨w1.heap.size,1,none⟩=some (.slice v1.la v1.lN v1.lc)) (l:=5) (by kernel_rfl) (zA HK _ D5) (λ hHeld=>?_)
 refine AnyL.take (i:=0) (oi:={ dst:=some 6,op:=Go.Op.fieldAddr 31 (Go.Operand.tmp 3) 0,type:=0,pos := "part.go:60",after:=#[],guard:=none }) (v:=.pointer (some ⟨w1.heap.size,0,none⟩)) rfl (by kernel_rfl) (by kernel_rfl) (by kernel_rfl) (by kernel_rfl) (λ _ _ _ h=>h) (Or.inl ⟨by rfl,λ w hSw=>?_⟩) hHeld ?_
 ·obtain⟨s0,s1⟩:=hSw;go_simp
 try simp only[Act.put,Yo,Yp,Yq]
 refine AnyL.take (i:=1) (oi:={ dst:=some 7,op:=Go.Op.load 29 (Go.Operand.tmp 6),type:=29,pos := "part.go:60",after:=#[{ on:=0,ground:=Go.Ground.data }],guard:=none }) (v:=.agg #[.bool v1.ln,.slice v1.la v1.lN v1.lc]) rfl (by kernel_rfl) (by kernel_rfl) (by kernel_rfl) (by kernel_rfl) (λ _ _ _ h=>h) (Or.inl ⟨by rfl,λ w hSw=>?_⟩) hHeld ?_
 ·obtain⟨s0,s1⟩:=hSw;go_simp
 try simp only[Act.put,Yo,Yp,Yq]
 refine AnyL.one (i:=2) (o:={ dst:=some 8,op:=Go.Op.call { callee:=Go.Callee.value (Go.Operand.func 33),args:=#[Go.Operand.const (Go.Value.int Go.IntKind.i64 1)],argTypes:=#[3] },type:=29,pos := "part.go:60",after:=#[],guard:=none }) (by kernel_rfl) rfl (λ Kc I3=>?_)
 go_simp
 refine (zD 1 _ (by omega) (by omega)).mono ?_
 rintro r' w2 ⟨j7,a2,n2,c2,rfl,A5,j8⟩;have y9:=zB D5 j8;clear j8;go_wp2_with fail;refine I3.out _ _ (zA HK _ y9) (λ hHeld=>?_)
 clear I3 Kc
 try simp only[Act.put,Yo,Yp,Yq]
 refine AnyL.one (i:=3) (o:={ dst:=some 9,op:=Go.Op.call { callee:=Go.Callee.value (Go.Operand.func 35),args:=#[Go.Operand.tmp 7,Go.Operand.tmp 8],argTypes:=#[29,29] },type:=29,pos := "part.go:60",after:=#[{ on:=1,ground:=Go.Ground.data },{ on:=2,ground:=Go.Ground.data },{ on:=2,ground:=Go.Ground.chain }],guard:=none }) (by kernel_rfl) rfl (λ Kc I3=>?_)
 go_simp
 refine (zBP _ _ _ _ _ _ _ _ (b/16+24) 4 (Q b) 1 _ ((zA HS).lo.bw y9) A5 (by omega) (by omega)).mono ?_
 rintro r' w3 ⟨B9,a3,n3,c3,rfl,E7,m8⟩;have s9:=zB y9 m8;clear m8;go_wp2_with fail;refine I3.out _ _ (zA HK _ s9) (λ hHeld=>?_)
 clear I3 Kc
 try simp only[Act.put,Yo,Yp,Yq]
 refine AnyL.take (i:=4) (oi:={ dst:=some 10,op:=Go.Op.fieldAddr 31 (Go.Operand.tmp 3) 0,type:=0,pos := "part.go:60",after:=#[{ on:=0,ground:=Go.Ground.phase },{ on:=1,ground:=Go.Ground.phase },{ on:=2,ground:=Go.Ground.phase },{ on:=3,ground:=Go.Ground.phase }],guard:=none }) (v:=.pointer (some ⟨w1.heap.size,0,none⟩)) rfl (by kernel_rfl) (by kernel_rfl) (by kernel_rfl) (by kernel_rfl) (λ _ _ _ h=>h) (Or.inl ⟨by rfl,λ w hSw=>?_⟩) hHeld ?_
 ·obtain⟨s0,s1⟩:=hSw;go_simp
 try simp only[Act.put,Yo,Yp,Yq]
 refine AnyL.last (o:={ dst:=none,op:=Go.Op.store 29 (Go.Operand.tmp 10) (Go.Operand.tmp 9),type:=0,pos := "part.go:60",after:=#[{ on:=4,ground:=Go.Ground.data },{ on:=3,ground:=Go.Ground.data },{ on:=3,ground:=Go.Ground.chain },{ on:=0,ground:=Go.Ground.phase },{ on:=1,ground:=Go.Ground.phase },{ on:=2,ground:=Go.Ground.phase },{ on:=3,ground:=Go.Ground.phase }],guard:=none }) (by kernel_rfl) rfl (by kernel_rfl) (λ Kc I3=>?_)
 have V2:=(zA HA).bw s9;have lA:=V2.lt;obtain⟨⟨y0,y1,y2,y3,y4⟩,y5⟩:=V2
 go_simp
 refine I3.out _ _ ?_;clear I3 Kc;have R2:=(zA HR).bw s9;obtain⟨V,hV⟩:∃ V,V=((w3.setCell ⟨w1.heap.size,0,none⟩ (.bool B9)).setCell ⟨w1.heap.size,1,none⟩ (.slice a3 n3 c3)):=⟨_,rfl⟩;have R3:NoC V w.heap.size:=by rw[hV];exact R2.offLE (by omega) _ _
 have A3:VrC V w1.heap.size ⟨B9,a3,n3,c3,v1.hn,v1.ha,v1.hN,v1.hc,v1.bits⟩:=by rw[hV];exact zUD ((zA HA).bw s9) ⟨B9,a3,n3,c3⟩
 have i1:IntAt V B9 a3 n3 c3 (b/16+30) (Q b-1):=by rw[hV];exact (E7.mono (by omega)).putLE y0 y1 _ _
 have i2:IntAt V v1.hn v1.ha v1.hN v1.hc (b/16+30) (Q b):=by rw[hV];exact (((zA HS).hi.bw s9).mono (by omega)).putLE y0 y1 _ _
 have A9:Below w.heap.size w V:=by rw[hV];exact ((zB (zA Gz) s9).setCell (p:=⟨w1.heap.size,0,none⟩) (Nat.le_of_lt rO) _).setCell (p:=⟨w1.heap.size,1,none⟩) (Nat.le_of_lt rO) _
 rw[<- hV];clear hV y0 y1 y2 y3 y4 y5 lA;have lA:=A3.lt;have lR:=R3.lt;obtain⟨⟨y0,y1,y2,y3,y4⟩,y5⟩:=A3;obtain⟨q0,q1,q2,q3,q4,q5⟩:=R3;go_wp2_with fail;refine bodyPost_ret (v:=.agg #[.bool B9,.slice a3 n3 c3,.bool v1.hn,.slice v1.ha v1.hN v1.hc,.int .i64 v1.bits]) (by simp[results,Tryz.results180,go_sem,q0,q1,q2,q3,q4]) rfl ⟨⟨B9,a3,n3,c3,v1.hn,v1.ha,v1.hN,v1.hc,v1.bits⟩,rfl,zA HB,?_,?_⟩
 ·exact SpAt.put5 (show SpAt V ⟨B9,a3,n3,c3,v1.hn,v1.ha,v1.hN,v1.hc,v1.bits⟩ (b/16+30) (Q b-1) (Q b) from⟨i1,i2⟩) q0 q1 q2 q3 q4 _ _ _ _ _
 ·exact jV A9 (Yy _) _ _ _ _ _
theorem zU1 (neg:Bool) (a:Option Addr) (n cap k1:Nat) (x:Int) (w:World) (h1:IntAt w neg a n cap k1 x) (ae:k1<=1000000000) :
  Calls Tryz.prog 116 #[.agg #[.bool neg,.slice a n cap],.int .i64 1] w λ r w' =>
   ∃ m9 a' n' o7,r=.returned (.agg #[.bool m9,.slice a' n' o7])/\IntAt w' m9 a' n' o7 (k1+1) (2*x)/\Below w.heap.size w w' :=
 (zB0 neg a n cap 1 k1 x w h1 ae (by omega)).mono λ r w' ⟨q1,q2,q3,q4,e,h,hb⟩=>⟨q1,q2,q3,q4,e,by
  have e1:x*Q 1=2*x:=by have:Q 1=2:=rfl;rw[this];omega
  have e2:1/16+k1+1=k1+1:=by omega
  rw[e1,e2] at h;exact h,hb⟩
theorem erf_far (w:World) (x y:Nm) (n d:Int) (b:Nat) (hx:IntAt w x.neg x.a x.n x.cap 8 n) (hy:IntAt w y.neg y.a y.n y.cap 8 d) (E8:40<=b) (hb:b<=10000) (aI:d*(b:Int)<=n) :
  Calls Tryz.prog 178 #[.agg x.q,.agg y.q,.int .i64 b] w (zH w b (b/16+30) (Q b-1) (Q b)):=by
 obtain⟨W,hW⟩:∃ W,W=((w.alloc (.cells x.q 29)).alloc (.cells y.q 29)).alloc (.cells zCq 31):=⟨_,rfl⟩;have j6:Below w.heap.size w W:=by rw[hW];exact bl3 _ _ _ _
 have X:NmC W w.heap.size x:=by rw[hW];constructor<;>simp[go_sem]
 have Y:NmC W (w.heap.size+1) y:=by rw[hW];constructor<;>simp[go_sem]
 have R:NoC W (w.heap.size+1+1):=by rw[hW];constructor<;>simp[go_sem]
 have HX:=zC (hx.bw j6);have HY:=zC (hy.bw j6);have lX:=X.lt;have lY:=Y.lt;have lR:=R.lt;have HK:=zC (show ∀ w',Below W.heap.size W w'->(nK w' w.heap.size x (nK0 w' (w.heap.size+1) y)) from λ w' hB=>⟨(X.bw hB).c0,(X.bw hB).c1,(Y.bw hB).c0,(Y.bw hB).c1⟩)
 have E2:Below W.heap.size W W.drew:=(Below.refl _ _).drew;clear hx hy;have HC:Hid (zM n (d*(b:Int))=if n=d*(b:Int) then 0 else 1):=zC (by unfold zM;split<;>(try split)<;>(try split)<;>omega)
 have GB:Hid (0<=(if n=d*(b:Int) then (0:Int) else 1)):=zC (by split<;>omega)
 obtain⟨cc,QT⟩:∃ cc:Int,cc=(if n=d*(b:Int) then (0:Int) else 1):=⟨_,rfl⟩
 rw[<- QT] at HC GB;have oR:0<=cc:=zA GB;clear QT GB
 go_enter Tryz.func178,Tryz.ntmps178
 go_wp2;rw[<- hW];clear hW;obtain⟨x0,x1,x2,x3⟩:=zA HK _ (Below.refl _ _)
 go_region_held3 (λ w'=>nK w' w.heap.size x (nK0 w' (w.heap.size+1) y)) (first|exact zA HK _ (by with_reducible first|exact E2|exact A9|exact o9|exact A7)|(dsimp only[cK,cK0,nK,nK0,rK,rK0];go_keep)|go_keep)
  (first
   | (go_at_call 17;have hq:=o9;refine (jP _ _ _ _ _ _ _ _ 8 (8+4) n (d*(b:Int)) _ ((zA HX).bw o9) A5).mono ?_;rintro r w3 ⟨rfl,m8⟩;rw[zA HC];have A9:=zB o9 m8;have i0:=zA HK _ A9)
   | (go_at_call 83;have hq:=A7;refine (zV _ _ _ _ _ _ _ _ 8 4 d (b:Int) _ ((zA HY).bw A7) o8 (by omega) (by omega)).mono ?_;rintro r w2 ⟨j7,a2,n2,c2,rfl,A5,j8⟩;have o9:=zB A7 j8)
   | (go_at_call 33;refine (zD (b:Int) _ (by omega) (by omega)).mono ?_;rintro r w1 ⟨m7,a1,n1,c1,rfl,o8,b9⟩;have A7:=zB E2 b9))
 all_goals
  have R3:=R.bw A9;replace j6:=zB j6 A9;have iE:=R3.lt;clear x0 x1 x2 x3 i0 A5 o8;go_wp2_with fail;refine (zEG _ b (by omega)).mono ?_
  rintro r w4 ⟨t,rfl,I2,K5,p9⟩;obtain⟨q0,q1,q2,q3,q4,q5⟩:=R3.bw p9;replace j6:=zB j6 p9;have HT:=zC I2;clear I2;go_wp2_with fail;refine bodyPost_ret (v:=.agg t.q) (by simp[results,Tryz.results178,go_sem,q0,q1,q2,q3,q4]) rfl ⟨t,rfl,zA HT,?_,?_⟩
  ·exact SpAt.put5 K5 q0 q1 q2 q3 q4 _ _ _ _ _
  ·exact jV j6 (by omega) _ _ _ _ _
theorem erf_iv (w:World) (x y:Nm) (n d:Int) (b:Nat) (hx:IntAt w x.neg x.a x.n x.cap 8 n) (hy:IntAt w y.neg y.a y.n y.cap 8 d) (E8:40<=b) (hb:b<=10000) (xr:Nat->Rat) (M t N N5 N9:Nat) (l:Int) (h:ErIn n d xr) (D9:n<d*(b:Int)) (hM:M<=3*b+8523) (qA:yS (erT n d b) (zBA n d) M) (hl:zB1 (zW (ofI n d b)) l) (ht:(t:Int)=max 0 (l-b+8)) (KL:t<=16) (hA:Abs (zG (ofI n d b) t) (Q (b-8))) (hN:zT (zU b (zG (ofI n d b) t)) N) (h5:zT (agT 5 b) N5) (h9:zT (agT 239 b) N9) :
  Calls Tryz.prog 178 #[.agg x.q,.agg y.q,.int .i64 b] w (zH w b 3000 (zK9 b (erQ n d b M t N N5 N9)).1 (zK9 b (erQ n d b M t N N5 N9)).2):=by
 obtain⟨W,hW⟩:∃ W,W=((w.alloc (.cells x.q 29)).alloc (.cells y.q 29)).alloc (.cells zCq 31):=⟨_,rfl⟩;have j6:Below w.heap.size w W:=by rw[hW];exact bl3 _ _ _ _
 have X:NmC W w.heap.size x:=by rw[hW];constructor<;>simp[go_sem]
 have Y:NmC W (w.heap.size+1) y:=by rw[hW];constructor<;>simp[go_sem]
 have R:NoC W (w.heap.size+1+1):=by rw[hW];constructor<;>simp[go_sem]
 have HX:=zC (hx.bw j6);have HY:=zC (hy.bw j6);have lX:=X.lt;have lY:=Y.lt;have lR:=R.lt;have HK:=zC (show ∀ w',Below W.heap.size W w'->(nK w' w.heap.size x (nK0 w' (w.heap.size+1) y)) from λ w' hB=>⟨(X.bw hB).c0,(X.bw hB).c1,(Y.bw hB).c0,(Y.bw hB).c1⟩)
 have E2:Below W.heap.size W W.drew:=(Below.refl _ _).drew;clear hx hy;have d0:0<d:=h.d0;have HC:Hid (zM n (d*(b:Int)) = -1):=zC (by unfold zM;rw[if_pos D9])
 have HH:=zC h
 have gY:∀ j:Nat,j<=15900->Q j<P 1000:=λ j hj=>by
  rw[<- Q_P];have h1:=zJ (show j+1<=16*1000 by omega)
  have h2:Q (j+1)=2*Q j:=rfl;have:=zE j;omega
 have Hb:=zC gY
 have pP:Hid ((erF n d b).1<=(erF n d b).2 /\ -P 1000<(erF n d b).1/\(erF n d b).2<P 1000):=zC (by
  obtain⟨f1,f2,f3,f4,f5⟩:=zM7 h b;have:=gY (b+4) (by omega)
  have:=zE (b+4)
  exact⟨f2,by omega,by omega⟩)
 have gx:Hid (∀ j,j<=M -> -P 1000<(erT n d b j).1/\(erT n d b j).2<P 1000):=zC (λ j _=>by
  obtain⟨f1,f2,f3,f4⟩:=zCQ h b j;have:=gY (b+2740) (by omega)
  have:=zE (b+2740)
  exact⟨by omega,by omega⟩)
 have gz:Hid (∀ j,j<=M -> -P 1000<(jE (erT n d b) j).1/\(jE (erT n d b) j).2<P 1000):=zC (λ j hj=>by
  obtain⟨f1,f2,f3,f4⟩:=zRV h b hb j (by omega)
  have:=gY (b+2760) (by omega)
  have:=zE (b+2760)
  exact⟨by omega,by omega⟩)
 have gy:=zC (λ j=>(zCQ h b j).2.1)
 have Y2:=zC (λ j=>(zCQ h b j).1)
 have sk:Hid ((erP b N5 N9).1<=(erP b N5 N9).2 /\ -P 1000<(erP b N5 N9).1/\(erP b N5 N9).2<P 1000):=zC (by
  obtain⟨R',oK⟩:=Ex.piR_ex;obtain⟨f1,f2,f3,f4,f5⟩:=erP_ok oK (by omega) hb h5 h9
  have:=gY (b+4) (by omega)
  have e:Q (b+4)=2*(2*(2*(2*Q b))):=rfl;have:=zE b
  exact⟨f2,by omega,by omega⟩)
 have ym:Hid (0<(zFP n d b t N N5 N9).1/\(zFP n d b t N N5 N9).1<=(zFP n d b t N N5 N9).2):=zC (by
  obtain⟨R',oK⟩:=Ex.piR_ex;obtain⟨f1,f2,f3,f4,f5⟩:=zRU oK h E8 hb KL hA hN h5 h9;have:=zE b
  exact⟨by omega,f2⟩)
 have He:Hid ((zA6 n d b M).1*2<=(zA6 n d b M).2*2):=zC (by
  obtain⟨f1,f2,f3,f4,f5⟩:=zM8 h hb hM qA
  omega)
 have nJ:Hid (Q (b+4)<P 1000):=zC (gY _ (by omega))
 have GF:Hid (Q (b+eb t)<P 1000):=zC (gY _ (by have:=zB2 (show t<=17 by omega);rw[eb_17] at this;omega))
 have htn:zBA n d<=303:=zH3 h.n0 h.d0 h.up
 have HZ:Hid (2*n/d=(zBA n d:Int)/\0<=2*n/d/\2*n/d<P 1 /\ -P 1<2*n/d):=zC (by
  have z0:0<=2*n/d:=Int.ediv_nonneg (by have:=h.n0;omega) (by omega)
  have e:2*n/d=(zBA n d:Int):=by unfold zBA;omega
  have p1:P 1=65536:=rfl
  exact⟨e,z0,by omega,by omega⟩)
 have GY:=zC (yB (n:=n) d0 b);have HM:=zC qA;have Hl:=zC hl;have Vt:=zC ht;have TH:=zC hA;have HN:=zC hN;have H5:=zC h5;have H9:=zC h9;clear h D9 qA hl ht hA hN h5 h9 gY
 go_enter Tryz.func178,Tryz.ntmps178
 go_wp2;rw[<- hW];clear hW;obtain⟨x0,x1,x2,x3⟩:=zA HK _ (Below.refl _ _)
 go_region_held3 (λ w'=>nK w' w.heap.size x (nK0 w' (w.heap.size+1) y)) (first|exact zA HK _ (by with_reducible first|exact E2|exact A9|exact o9|exact A7)|(dsimp only[cK,cK0,nK,nK0,rK,rK0];go_keep)|go_keep)
  (first
   | (go_at_call 17;have hq:=o9;refine (jP _ _ _ _ _ _ _ _ 8 (8+4) n (d*(b:Int)) _ ((zA HX).bw o9) A5).mono ?_;rintro r w3 ⟨rfl,m8⟩;rw[zA HC];have A9:=zB o9 m8;have i0:=zA HK _ A9)
   | (go_at_call 83;have hq:=A7;refine (zV _ _ _ _ _ _ _ _ 8 4 d (b:Int) _ ((zA HY).bw A7) o8 (by omega) (by omega)).mono ?_;rintro r w2 ⟨j7,a2,n2,c2,rfl,A5,j8⟩;have o9:=zB A7 j8)
   | (go_at_call 33;refine (zD (b:Int) _ (by omega) (by omega)).mono ?_;rintro r w1 ⟨m7,a1,n1,c1,rfl,o8,b9⟩;have A7:=zB E2 b9))
 all_goals
  have R3:=R.bw A9;have X3:=X.bw A9;have Y3:=Y.bw A9;have aW:=zC ((zA HX).bw A9);have bj:=zC ((zA HY).bw A9);replace j6:=zB j6 A9;clear x0 x1 x2 x3 i0 A5 o8 HK HX HY X Y R;obtain⟨x0,x1⟩:=X3;obtain⟨x2,x3⟩:=Y3;have FP:=NmC.lt ⟨x0,x1⟩;have lY3:=NmC.lt ⟨x2,x3⟩;go_wp2_with fail;refine (zU1 _ _ _ _ 8 n _ (zA aW) (by omega)).mono ?_
  rintro r w4 ⟨E4,a4,n4,c4,rfl,H8,p9⟩;replace R3:=R3.bw p9;have X4:NmC w4 w.heap.size x:=NmC.bw ⟨x0,x1⟩ p9;have Y4:NmC w4 (w.heap.size+1) y:=NmC.bw ⟨x2,x3⟩ p9;replace aW:=zC ((zA aW).bw p9);replace bj:=zC ((zA bj).bw p9);replace j6:=zB j6 p9;clear x0 x1 x2 x3 p9 FP lY3;obtain⟨V4,gZ⟩:∃ V,V=w4.alloc (.cells #[.bool E4,.slice a4 n4 c4] 29):=⟨_,rfl⟩;have ai:Below w4.heap.size w4 V4:=by rw[gZ];exact bl1 _ _
  have D4:NmC V4 w4.heap.size ⟨E4,a4,n4,c4⟩:=by rw[gZ];exact zDC w4 ⟨E4,a4,n4,c4⟩ _
  have iW:=zC (H8.bw ai);have lD:w.heap.size+1+1<w4.heap.size:=R3.lt;have Lf:=X4.lt;have Lh:=Y4.lt;have Xk:=zC (X4.bw ai);have Yk:=zC (Y4.bw ai);have Dk:=zC D4;obtain⟨x0,x1⟩:=X4;obtain⟨x2,x3⟩:=Y4;replace R3:=R3.bw ai;replace aW:=zC ((zA aW).bw ai);replace bj:=zC ((zA bj).bw ai);replace j6:=zB j6 ai;clear H8 ai D4;go_wp2_with fail;rw[<- gZ];clear gZ x0 x1 x2 x3 Lf Lh;refine (yN _ _ _ _ _ _ _ _ 9 8 (2*n) d _ (zA iW) (zA bj) (by omega) d0).mono ?_
  rintro r w5 ⟨J3,a5,n5,c5,rfl,O0,D8⟩;replace R3:=R3.bw D8;have X4:=(zA Xk).bw D8;have Y4:=(zA Yk).bw D8;have D4:=(zA Dk).bw D8;replace aW:=zC ((zA aW).bw D8);replace bj:=zC ((zA bj).bw D8);replace iW:=zC ((zA iW).bw D8);replace j6:=zB j6 D8;clear D8 Xk Yk Dk;go_wp2_with fail;refine (zKS _ _ _ _ (2*n/d) _ (O0.fits (zA HZ).2.2.2 (zA HZ).2.2.1) (zA HZ).2.1).mono ?_;rintro r w6 ⟨rfl,K7⟩;rw[(zA HZ).1];replace R3:=R3.bw K7;replace X4:=X4.bw K7;replace Y4:=Y4.bw K7;replace D4:=D4.bw K7;replace aW:=zC ((zA aW).bw K7);replace bj:=zC ((zA bj).bw K7);replace iW:=zC ((zA iW).bw K7);replace j6:=zB j6 K7;clear K7 O0;have Lf:=X4.lt;have Lh:=Y4.lt;obtain⟨x0,x1⟩:=X4;obtain⟨x2,x3⟩:=Y4;go_wp2_with fail;refine (jI _ _ _ _ _ _ _ _ 8 8 b n d _ (zA aW) (zA bj) (by omega) (by omega) d0).mono ?_
  rintro r w7 ⟨v7,rfl,dy,iC,Q7⟩;have EV:=zC dy;replace R3:=R3.bw Q7;have X4:NmC w7 w.heap.size x:=NmC.bw ⟨x0,x1⟩ Q7;have Y4:NmC w7 (w.heap.size+1) y:=NmC.bw ⟨x2,x3⟩ Q7;replace D4:=D4.bw Q7;replace aW:=zC ((zA aW).bw Q7);replace bj:=zC ((zA bj).bw Q7);replace iW:=zC ((zA iW).bw Q7);replace j6:=zB j6 Q7;clear Q7 dy x0 x1 x2 x3 Lf Lh;go_wp2_with fail;refine (zFH _ v7 _ b _ _ iC (by omega) (by omega) (zA EV)).mono ?_
  rintro r w8 ⟨v8,rfl,Dv,Dx,T9⟩;have Pl:=zC Dv;have Pd:=zC (show SpAt w8 v8 1000 (erF n d b).1 (erF n d b).2 from Dx.fits (zA pP).1 (zA pP).2.1 (zA pP).2.2)
  replace R3:=R3.bw T9;replace X4:=X4.bw T9;replace Y4:=Y4.bw T9;replace D4:=D4.bw T9;replace aW:=zC ((zA aW).bw T9);replace bj:=zC ((zA bj).bw T9);replace iW:=zC ((zA iW).bw T9);replace j6:=zB j6 T9;clear T9 Dv Dx iC EV;have dL:=zC (show ∀ (j:Nat) (u:Sp) w',j<M->u.bits=(b:Int)->SpAt w' u 1000 (erT n d b j).1 (erT n d b j).2->Below w8.heap.size w8 w'->Calls Tryz.prog 198 #[.agg u.q,.int .i64 ((j:Int)+1),.pointer (some ⟨w4.heap.size,0,none⟩),.pointer (some ⟨w.heap.size+1,0,none⟩)] w' (zH w' b 1019 (erT n d b (j+1)).1 (erT n d b (j+1)).2) from λ j u w' hj B8 B7 R9=>er1_iv w' w4.heap.size (w.heap.size+1) u ⟨E4,a4,n4,c4⟩ y 1000 9 8 b ((j:Int)+1) (erT n d b j) (2*n) d B7 ((zA iW).bw R9) ((zA bj).bw R9) (D4.bw R9) (Y4.bw R9) (by omega) (by omega) (by omega) B8 (by omega) (by omega) d0)
  go_wp2_with fail;refine (zEL _ #[.pointer (some ⟨w4.heap.size,0,none⟩),.pointer (some ⟨w.heap.size+1,0,none⟩)] en_erf (erT n d b) (zBA n d) M b 1000 1019 v8 _ (zA Pd) (zA Pl) (by omega) (by omega) (by omega) (by omega) (zA HM) (by omega) (by omega) (zA gy) (zA Y2) (zA gx) (zA gz) (zA dL)).mono ?_
  rintro r w9 ⟨v,rfl,mQ,iD,Z2⟩;have EW:=zC mQ;have nH:=zC (show SpAt w9 v 1003 (zA6 n d b M).1 (zA6 n d b M).2 from iD)
  replace R3:=R3.bw Z2;replace X4:=X4.bw Z2;replace Y4:=Y4.bw Z2;replace aW:=zC ((zA aW).bw Z2);replace bj:=zC ((zA bj).bw Z2);replace j6:=zB j6 Z2;have lR9:=R3.lt;clear Z2 mQ iD Pd dL D4 iW gy Y2 gx gz HM Pl;obtain⟨V9,zv⟩:∃ V,V=w9.alloc (.cells v.q 31):=⟨_,rfl⟩;have qe:Below w9.heap.size w9 V9:=by rw[zv];exact bl1 _ _
  have S9:SpC V9 w9.heap.size v:=by rw[zv];exact kO w9 v _
  replace nH:=zC ((zA nH).bw qe);replace R3:=R3.bw qe;replace X4:=X4.bw qe;replace Y4:=Y4.bw qe;replace aW:=zC ((zA aW).bw qe);replace bj:=zC ((zA bj).bw qe);replace j6:=zB j6 qe;clear qe;have lX9:=X4.lt;have lY9:=Y4.lt;have lS9:=S9.lt;have lRR:=R3.lt;have pQ:=zC (show ∀ w',Below V9.heap.size V9 w'->(cK w' w9.heap.size v (nK w' w.heap.size x (nK0 w' (w.heap.size+1) y))) from λ w' hB=>⟨(S9.bw hB).c0,(S9.bw hB).c1,(S9.bw hB).c2,(S9.bw hB).c3,(S9.bw hB).c4,(X4.bw hB).c0,(X4.bw hB).c1,(Y4.bw hB).c0,(Y4.bw hB).c1⟩)
  have D5:Below V9.heap.size V9 V9.drew:=(Below.refl _ _).drew;go_wp2_with fail;rw[<- zv];clear zv;obtain⟨x0,x1,x2,x3,x4,x5,x6,x7,x8⟩:=zA pQ _ (Below.refl _ _);have DR:w.heap.size+1+1≠w9.heap.size:=by omega
  have rR:w.heap.size+1+1≠w.heap.size+1:=by omega
  have FV:w.heap.size+1+1≠w.heap.size:=by omega
  go_region_held3 (λ w'=>cK w' w9.heap.size v (nK w' w.heap.size x (nK0 w' (w.heap.size+1) y))) (first|exact zA pQ _ (by with_reducible first|exact D5|exact Fo|exact qx|exact tz|exact gX|exact J1|exact G0|exact s9|exact y9)|(dsimp only[cK,cK0,nK,nK0,rK,rK0];go_keep)|go_keep)
   (first
    | (go_at_call 141;have hq:=qx;refine (zBR _ f7 _ b _ _ JX (zA F7) (by omega) (by omega) (by omega)).mono ?_;rintro r g8 ⟨f8,rfl,CJ,JY,hg8⟩;have F8:=zC CJ;clear CJ;have Fo:=zB qx hg8;obtain⟨q0,q1,q2,q3,q4,q5⟩:=R3.bw Fo;obtain⟨i0,i1,i2,i3,i4,i5,i6,i7,i8⟩:=zA pQ _ Fo)
    | (go_at_call 162;have hq:=tz;refine (zDM _ f1 f6 2008 b _ _ _ _ ((my.bw (zB Ac (zB oZ (zB vG (zB CN Re))))).mono (by omega)) JW (by omega) (by omega) (zA F1) (zA He) (zA ym).1 (zA ym).2).mono ?_;rintro r g7 ⟨f7,rfl,CI,JX,hg7⟩;have F7:=zC CI;clear CI;have qx:=zB tz hg7)
    | (go_at_call 124;have hq:=gX;refine (zKC _ f3 f5 1000 b (erP b N5 N9) (erX n d b t N) (mA.bw (zB vG CN)) oW (by omega) (zA F3) (by omega)).mono ?_;rintro r g6 ⟨f6,rfl,JV,JW,Re⟩;clear JV;have tz:=zB gX Re)
    | (go_at_call 77;have hq:=J1;refine (zCK _ f4 1000 b t N (ofI n d b) l ia (zA F4) (zA GY) (by omega) (by omega) (zA Hl) (zA Vt) (by omega) (zA TH) (zA HN) (zA GF) (by omega)).mono ?_;rintro r g5 ⟨f5,rfl,oV,oW,CN⟩;clear oV;have gX:=zB J1 CN)
    | (go_at_call 88;have hq:=G0;refine (jI _ _ _ _ _ _ _ _ 8 8 b n d _ ((zA aW).bw G0) ((zA bj).bw G0) (by omega) (by omega) d0).mono ?_;rintro r g4 ⟨f4,rfl,dh,qK,vG⟩;have ia:=qK.mono (show 8+b/16+20<=1000 by omega);have F4:=zC dh;clear dh qK;have J1:=zB G0 vG)
    | (go_at_call 197;have hq:=s9;refine (zFH _ f2 1008 b _ _ mz (by omega) (by omega) (zA F2)).mono ?_;rintro r g3 ⟨f3,rfl,fq,qJ,oZ⟩;have mA:=SpAt.fits (K:=1000) (show SpAt g3 f3 _ (erP b N5 N9).1 (erP b N5 N9).2 from qJ) (zA sk).1 (zA sk).2.1 (zA sk).2.2;have F3:=zC fq;clear fq qJ;have G0:=zB s9 oZ)
    | (go_at_call 199;have hq:=y9;refine (pi_iv _ b N5 N9 1000 (by omega) (by omega) (zA H5) (zA H9) (zA nJ) (by omega)).mono ?_;rintro r g2 ⟨f2,rfl,fp,mz,Ac⟩;have F2:=zC fp;clear fp;have s9:=zB y9 Ac)
    | (go_at_call 156;refine (zDR _ v 1003 b 2 _ ((zA nH).bw D5) (by omega) (zA EW) (by omega) (by omega)).mono ?_;rintro r g1 ⟨f1,rfl,fo,my,qL⟩;have F1:=zC fo;clear fo;have y9:=zB D5 qL))
  all_goals
   go_wp2_with fail;refine bodyPost_ret (v:=.agg f8.q) (by simp[results,Tryz.results178,go_sem,q0,q1,q2,q3,q4]) rfl ⟨f8,rfl,zA F8,?_,?_⟩
   ·have hz:=SpAt.put5 JY q0 q1 q2 q3 q4 (.bool f8.ln) (.slice f8.la f8.lN f8.lc) (.bool f8.hn) (.slice f8.ha f8.hN f8.hc) (.int .i64 f8.bits)
    rw[zEF] at hz;exact hz.mono (by omega)
   ·exact jV (zB j6 Fo) (by omega) _ _ _ _ _
def zBE (B:Nat) (a:Int × Int):Int × Int:=(Q B-a.2,Q B-a.1)
theorem sq_bd {p:Int} (h1 : -1048576<=p) (h2:p<=1048576):0<=p*p/\p*p<=1099511627776:=by
 refine⟨?_,?_⟩
 ·rcases Int.le_total 0 p with h|h
  ·exact Yz h h
  ·have:=Yz (show 0 <= -p by omega) (show 0 <= -p by omega)
   have e : -p * -p=p*p:=by grind
   omega
 ·have:=yI h1 h2 h1 h2
  omega
theorem one_z {b:Nat} (z:Int) (hz:z=(b:Int)) (w:World) (hb:b<=1000000):Calls Tryz.prog 93 #[.int .i64 z] w (zH w b (b/16+24) (1*Q b/1) (-(-(1*Q b)/1))):=by
 subst hz;exact zDE w b hb
theorem zE0 (w:World) (s:Sp) (k b:Nat) (a:Int × Int) (hs:SpAt w s k a.1 a.2) (hbits:s.bits=(b:Int)) (hb:b<=100000) (fw:b/16+24<=k) (hk:k<=100000000) :
  Calls Tryz.prog 48 #[.agg s.q] w (zH w b (k+1) (zBE b a).1 (zBE b a).2):=by
 obtain⟨W,hW⟩:∃ W,W=(w.alloc (.cells s.q 31)).alloc (.cells zCq 31):=⟨_,rfl⟩;have j6:Below w.heap.size w W:=by rw[hW];exact bl2 _ _ _
 have A:SpC W w.heap.size s:=by rw[hW];constructor<;>simp[go_sem]
 have R:NoC W (w.heap.size+1):=by rw[hW];constructor<;>simp[go_sem]
 have HS:=zC (hs.bw j6);have HB:=zC hbits;have lA:=A.lt;have lR:=R.lt;have HO:=zC (show (1*Q b/1,-(-(1*Q b)/1))=(Q b,Q b) by rw[Int.ediv_one,Int.ediv_one];simp)
 have E2:Below W.heap.size W W.drew:=(Below.refl _ _).drew;have HK:=zC (show ∀ w',Below W.heap.size W w'->(cK0 w' w.heap.size s) from λ w' hB=>⟨(A.bw hB).c0,(A.bw hB).c1,(A.bw hB).c2,(A.bw hB).c3,(A.bw hB).c4⟩)
 clear hs hbits
 go_enter Tryz.func48,Tryz.ntmps48
 go_wp2;rw[<- hW];clear hW;obtain⟨x0,x1,x2,x3,x4⟩:=A
 go_region_held3 (λ w'=>cK0 w' w.heap.size s) (first|exact zA HK _ (by with_reducible first|exact E2|exact o9|exact A7)|(dsimp only[cK,cK0,nK,nK0,rK,rK0];go_keep)|go_keep)
  (first
   | (go_at_call 92;have hq:=A7;refine (zHO _ v1 s k b (1*Q b/1,-(-(1*Q b)/1)) a (T3.mono fw) ((zA HS).bw A7) (by omega) (zA HV)).mono ?_;rintro r w2 ⟨t,rfl,I2,K5,j8⟩;have HT:=zC I2;clear I2;have o9:=zB A7 j8;obtain⟨q0,q1,q2,q3,q4,q5⟩:=R.bw o9;obtain⟨i0,i1,i2,i3,i4⟩:=zA HK _ o9)
   | (go_at_call 93;refine (one_z _ (zA HB) _ (by omega)).mono ?_;rintro r w1 ⟨v1,rfl,J2,T3,b9⟩;have HV:=zC J2;clear J2;have A7:=zB E2 b9))
 all_goals
  go_wp2;refine bodyPost_ret (v:=.agg t.q) (by simp[results,Tryz.results48,go_sem,q0,q1,q2,q3,q4]) rfl ⟨t,rfl,zA HT,?_,?_⟩
  ·rw[zA HO] at K5
   exact SpAt.put5 K5 q0 q1 q2 q3 q4 _ _ _ _ _
  ·exact jV (zB j6 o9) (Nat.le_succ _) _ _ _ _ _
open Ex
def zG2 (p q:Int):Rat:=(if p<0 then -(p:Rat) else (p:Rat))/(q:Rat)
theorem zLI {p q:Int} (hq:0<q):0<=zG2 p q/\zG2 p q*zG2 p q*((q*q:Int):Rat)=((p*p:Int):Rat):=by
 have q0:(0:Rat)<(q:Rat):=by exact_mod_cast hq
 unfold zG2;have e:=rdm (a:=(if p<0 then -(p:Rat) else (p:Rat))) q0
 have hn:(0:Rat)<=(if p<0 then -(p:Rat) else (p:Rat)):=by
  split
  ·rename_i h
   have:(p:Rat)<=0:=by exact_mod_cast (show p<=0 by omega)
   grind
  ·rename_i h
   exact_mod_cast (show 0<=p by omega)
 refine⟨jS q0 (by grind),?_⟩
 rw[YA,YA];generalize (if p<0 then -(p:Rat) else (p:Rat))/(q:Rat)=z at *
 have:z*z*((q:Rat)*(q:Rat))=(z*(q:Rat))*(z*(q:Rat)):=by grind
 rw[this,e];split<;>grind
theorem zFU {B:Nat} {a:Int × Int} {x:Nat->Rat} (h:Iv B a x):Iv B (zBE B a) (λ M=>1-x M):=(zHH B).sub h
theorem big_Q {z:Int} {B m:Nat} (hB:B<=120) (h:z<=2*Q (B+m)):z<=P 200*Q m:=by
 have e:Q (B+m)=Q B*Q m:=jF B m;have q:=zE m
 have h1:2*Q B<=P 200:=by
  rw[<- Q_P];have h2:Q (B+1)=2*Q B:=rfl;have:=zJ (show B+1<=16*200 by omega)
  omega
 have m1:=Yt h1 (show 0<=Q m by omega)
 have e2:2*Q B*Q m=2*(Q B*Q m):=by grind
 omega
theorem sure_nar {b m:Nat} {lo hi L H:Int} (hle:lo<=hi) (e1:L=lo/Q m) (e2:H = -(-hi/Q m)) (h6:H-L<=1\/zL4 L H (Q b) 4=true):L<=H/\zL4 L H (Q b) 4=true:=by
 have h7:=zOL (m:=m) (Kw:=(hi-lo).toNat) hle (by
  have:∀ k:Nat,(k:Int)<=Q k:=λ k=>by
   induction k with
   | zero=>decide
   | succ k ih=>have e:Q (k+1)=2*Q k:=rfl;have:=zE k;omega
  have:=this (hi-lo).toNat
  omega)
 have h8:L<=H:=by rw[e1,e2];omega
 refine⟨h8,?_⟩
 rcases h6 with h6|h6
 ·exact zDP h8 (by omega)
 ·exact h6
theorem zR3 (n:Nat):LeN (ex (-(n:Rat))) (λ _=>q2 n):=by
 have one:LeN (ex (-1)) (λ _=>1/2):=by
  have ad:=zBB 1 (-1);rw[show (1:Rat) + -1=0 by decide +kernel] at ad
  obtain⟨N,pos⟩:=zBC (-1);refine LeN.of_null (ad.bmul (Bdd.const (1/2))) (N+2) λ M hM=>?_
  have p:=pos M (by omega)
  have e1:1+1<=ex 1 M:=zJB (by grind) (by omega)
  have e0:ex 0 M=1:=by
   obtain⟨m,rfl⟩:∃ m,M=m+1:=⟨M-1,by omega⟩
   exact kV m
  have m1:=Yv e1 p;rw[e0];grind
 induction n with
 | zero =>
  refine LeN.of_le 1 λ M hM=>?_
  have e : -((0:Nat):Rat)=0:=by decide +kernel
  rw[e];obtain⟨m,rfl⟩:∃ m,M=m+1:=⟨M-1,by omega⟩
  rw[show ex 0 (m+1)=1 from kV m]
  show (1:Rat)<=1
  grind
 | succ n ih =>
  have ec:((n+1:Nat):Rat)=(n:Rat)+1:=by push_cast;rfl
  have ad:=zBB (-(n:Rat)) (-1);rw[show -(n:Rat) + -1 = -((n+1:Nat):Rat) by rw[ec];grind] at ad
  obtain⟨z1,G1,k1⟩:=ih.null;obtain⟨z2,M5,k2⟩:=one.null;obtain⟨N,pos⟩:=zBC (-1);have b1:=jY (-1);refine LeN.of_null (((G1.bmul b1).add (M5.bmul (Bdd.const (q2 n)))).add ad.neg) N λ M hM=>?_
  have p:=pos M (by omega)
  have q:=yD n;have m1:=Yv (k1 M) p;have m2:=Yr (k2 M) (Yw q);have e2:q2 (n+1)=q2 n/2:=rfl;rw[e2];grind
theorem one_QB (B:Nat):((Q B:Int):Rat)/(Q B:Rat)=1:=by
 have q:=jJ B;rw[YE,Rat.mul_inv_cancel _ (by grind)]
theorem one_q2:∀ n:Nat,((1:Int):Rat)/(Q n:Rat)=q2 n:=λ n=>by
 induction n with
 | zero=>decide +kernel
 | succ n ih =>
  have e:((Q (n+1):Int):Rat)=2*(Q n:Rat):=by
   have:Q (n+1)=2*Q n:=rfl;rw[this,YA];rfl
  have qn:=jJ n
  show _=q2 n/2
  rw[<- ih,e,YE,YE,YE,Rat.inv_mul_rev];grind
theorem rt2_ex:∃ R2,yG (λ _=>(2:Rat)) R2:=zOB (M0:=0) (λ M _=>by grind) (Bdd.const 2)
theorem half_rt {R2:Nat->Rat} (h:yG (λ _=>(2:Rat)) R2) {c:Rat} (hc:0<=c):RtOf (c*c/2) (λ M=>c*(R2 M/2)):=by
 refine⟨λ M=>Ys hc (by have:=h.one M;grind),?_⟩
 refine (h.sq.bmul (Bdd.const (c*c/4))).of_eq λ M=>?_
 grind
def nrE (E:Nat->Rat) (p:Int) (M:Nat):Rat:=if 0<p then E M else -E M
def nrV (E:Nat->Rat) (p:Int) (M:Nat):Rat:=(1:Int)/((2:Int):Rat)*(1+nrE E p M)
theorem leN_opp {f g:Nat->Rat} (h:LeN f g):LeN (λ M => -g M) (λ M => -f M):=λ e he=>by
 obtain⟨N,k⟩:=h e he;exact⟨N,λ M hM=>by have:=k M hM;simp only[];grind⟩
end Go.Proofs.YtgmnknmjainabacGreat
