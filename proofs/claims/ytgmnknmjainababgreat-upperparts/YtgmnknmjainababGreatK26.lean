/-
  Its own texts.
-/
import Derived.Deep.CutBlock
import Derived.Test.YtgmnknmjainababGreatK25
set_option maxRecDepth 100000
set_option maxHeartbeats 8000000
set_option linter.unnecessarySimpa false
set_option linter.unusedSimpArgs false
set_option linter.unusedVariables false
namespace Go.Proofs.YtgmnknmjainababGreat
open Go.RowKit
attribute [local go_sem ↓] Go.wp_at_zero Go.wp_at_succ
open Ex
theorem zD2 (w:World) (p q:Int) (b:Nat) (hp:0<p) (hq:0<q) (hp2:p≤1152921504606846976) (hb:b≤1000000) :
  Calls Tryz.prog 171 #[.agg #[.int .i64 p,.int .i64 q],.int .i64 b] w (fun r w'=>r=.returned (.int .i64 (2*((b:Int)+p/q+1)))∧Below w.heap.size w w'):=by
 obtain ⟨W,hW⟩:∃ W,W=w.alloc (.cells #[.int .i64 p,.int .i64 q] 23):=⟨_,rfl⟩;have hBW:Below w.heap.size w W:=by rw[hW];exact bl1 _ _
 have A:RaC W w.heap.size p q:=by rw[hW];exact rac_new w p q _
 have e:p.tdiv q=p/q:=Int.tdiv_eq_ediv_of_nonneg (by omega)
 obtain ⟨f,hf⟩:∃ f,f=p/q:=⟨_,rfl⟩;have f0:0≤f:=by rw[hf];exact Int.ediv_nonneg (by omega) (by omega)
 have f1:f≤p:=by rw[hf];exact Int.ediv_le_self _ (by omega)
 have e':p.tdiv q=f:=by rw[e,hf]
 rw[← hf];have hq1:¬ q=0:=by omega
 have hq2:¬ q = -1:=by omega
 have lA:=A.lt;obtain ⟨a0,a1⟩:=A;clear e hf
 go_enter Tryz.func171,Tryz.ntmps171
 go_wp2;rw[← hW];clear hW;go_wp2_with fail;refine bodyPost_ret (v:=.int .i64 (2*((b:Int)+f+1))) (by simp[results,Tryz.results171,go_sem]) rfl ⟨rfl,hBW⟩
theorem zHD (w:World) (s:Sp) (k b:Nat) (a:Int × Int) (p q:Int) (hs:SpAt w s k a.1 a.2) (hk:k≤100000000) (hb:s.bits=(b:Int)) (hp0 : -9223372036854775808≤p) (hp:p≤9223372036854775807) (hq:0<q) (hq2:q≤9223372036854775807) :
  Calls Tryz.prog 144 #[.agg #[.bool s.ln,.slice s.la s.lN s.lc,.bool s.hn,.slice s.ha s.hN s.hc,.int .i64 s.bits],.agg #[.int .i64 p,.int .i64 q]] w (zH w b (k+4+10) (zE a p q).1 (zE a p q).2):=by
 obtain ⟨W,hW⟩:∃ W,W=((w.alloc (.cells #[.bool s.ln,.slice s.la s.lN s.lc,.bool s.hn,.slice s.ha s.hN s.hc,.int .i64 s.bits] 28)).alloc (.cells #[.int .i64 p,.int .i64 q] 23)).alloc (.cells #[.bool false,.slice none 0 0,.bool false,.slice none 0 0,.int .i64 0] 28):=⟨_,rfl⟩;have hBW:Below w.heap.size w W:=by rw[hW];exact bl3 _ _ _ _
 have A:SpC W w.heap.size s:=by rw[hW];constructor <;> simp[go_sem]
 have D:RaC W (w.heap.size+1) p q:=by rw[hW];constructor <;> simp[go_sem]
 have R:NoC W (w.heap.size+1+1):=by rw[hW];constructor <;> simp[go_sem]
 have HS:=zC (hs.bw hBW);have HB:=zC hb;have lR:=R.lt;have lA:=A.lt;have lD:=D.lt;clear hs hb;have hB0:Below W.heap.size W W.drew:=(Below.refl _ _).drew;have HK:=zC (show ∀ w',Below W.heap.size W w'→(w'.cell? ⟨w.heap.size,0,none⟩=some (.bool s.ln)∧w'.cell? ⟨w.heap.size,1,none⟩=some (.slice s.la s.lN s.lc)∧w'.cell? ⟨w.heap.size,2,none⟩=some (.bool s.hn)∧w'.cell? ⟨w.heap.size,3,none⟩=some (.slice s.ha s.hN s.hc)∧w'.cell? ⟨w.heap.size,4,none⟩=some (.int .i64 s.bits)∧w'.cell? ⟨w.heap.size+1,0,none⟩=some (.int .i64 p)∧w'.cell? ⟨w.heap.size+1,1,none⟩=some (.int .i64 q)) from fun w' hB=>⟨(A.bw hB).c0,(A.bw hB).c1,(A.bw hB).c2,(A.bw hB).c3,(A.bw hB).c4,(D.bw hB).c0,(D.bw hB).c1⟩)
 clear A D
 go_enter Tryz.func144,Tryz.ntmps144
 go_wp2;rw[← hW];clear hW;have n1:w.heap.size+1+1≠w.heap.size:=by omega
 have n2:w.heap.size+1+1≠w.heap.size+1:=by omega
 obtain ⟨x0,x1,x2,x3,x4,x5,x6⟩:=zA HK _ (Below.refl _ _)
 go_region_held3 (fun w'=>w'.cell? ⟨w.heap.size,0,none⟩=some (.bool s.ln)∧w'.cell? ⟨w.heap.size,1,none⟩=some (.slice s.la s.lN s.lc)∧w'.cell? ⟨w.heap.size,2,none⟩=some (.bool s.hn)∧w'.cell? ⟨w.heap.size,3,none⟩=some (.slice s.ha s.hN s.hc)∧w'.cell? ⟨w.heap.size,4,none⟩=some (.int .i64 s.bits)∧w'.cell? ⟨w.heap.size+1,0,none⟩=some (.int .i64 p)∧w'.cell? ⟨w.heap.size+1,1,none⟩=some (.int .i64 q)) (first|exact zA HK _ (by with_reducible first|exact hB0|exact hB3|exact hB2|exact hB1)|go_keep)
  (first
   | (go_at_call 143;have hqq:=hB2;refine (zC8 _ s ⟨neg1,a1,n1',c1⟩ ⟨neg2,a2,n2',c2⟩ k 4 _ b a p q ((zA HS).bw hB2) (hZ1.bw hb2) hZ2 (by omega) (by omega) hq (zA HB)).mono ?_;rintro r w3 ⟨t,rfl,htb,htp,hb3⟩;have HT:=zC htb;clear htb;have hB3:=zB hB2 hb3;obtain ⟨q0,q1,q2,q3,q4,q5⟩:=R.bw hB3;obtain ⟨i0,i1,i2,i3,i4,i5,i6⟩:=zA HK _ hB3)
   | (go_at_call 43;have hqq:=hB1;refine (zD q _ (by omega) (by omega)).mono ?_;rintro r w2 ⟨neg2,a2,n2',c2,rfl,hZ2,hb2⟩;have hB2:=zB hB1 hb2)
   | (go_at_call 43;refine (zD p _ (by omega) (by omega)).mono ?_;rintro r w1 ⟨neg1,a1,n1',c1,rfl,hZ1,hb1⟩;have hB1:=zB hB0 hb1))
 all_goals
  go_wp2;refine bodyPost_ret (v:=.agg #[.bool t.ln,.slice t.la t.lN t.lc,.bool t.hn,.slice t.ha t.hN t.hc,.int .i64 t.bits]) (by simp[results,Tryz.results144,go_sem,q0,q1,q2,q3,q4]) rfl ⟨t,rfl,zA HT,?_,?_⟩
  ·exact SpAt.put5 htp q0 q1 q2 q3 q4 _ _ _ _ _
  ·exact jV (zB hBW hB3) (by omega) _ _ _ _ _
theorem lo1_iv (w:World) (B0 B1 B2:Nat) (s:Sp) (u y:Nm) (k ku ky b:Nat) (j:Int) (a:Int × Int) (un d p q:Int) (hs:SpAt w s k a.1 a.2) (hu:IntAt w u.neg u.a u.n u.cap ku un) (hy:IntAt w y.neg y.a y.n y.cap ky d) (U:NmC w B0 u) (Y:NmC w B1 y) (Z:RaC w B2 p q) (hk:k≤100000000) (hku:ku≤100000000) (hky:ky≤100000000) (hb:s.bits=(b:Int)) (hj:0≤j*q) (hj2:j*q≤4611686018427387904) (hp:0<p) (hp2:p≤4611686018427387903) (hd:0<d) :
  Calls Tryz.prog 172 #[.agg #[.bool s.ln,.slice s.la s.lN s.lc,.bool s.hn,.slice s.ha s.hN s.hc,.int .i64 s.bits],.int .i64 j,.pointer (some ⟨B0,0,none⟩),.pointer (some ⟨B1,0,none⟩),.pointer (some ⟨B2,0,none⟩)] w (zH w b (k+ku+10) (zE a un (d*(p+j*q))).1 (zE a un (d*(p+j*q))).2):=by
 obtain ⟨W,hW⟩:∃ W,W=(w.alloc (.cells #[.bool s.ln,.slice s.la s.lN s.lc,.bool s.hn,.slice s.ha s.hN s.hc,.int .i64 s.bits] 28)).alloc (.cells #[.bool false,.slice none 0 0,.bool false,.slice none 0 0,.int .i64 0] 28):=⟨_,rfl⟩;have hBW:Below w.heap.size w W:=by rw[hW];exact bl2 _ _ _
 have A:SpC W w.heap.size s:=by rw[hW];constructor <;> simp[go_sem]
 have R:NoC W (w.heap.size+1):=by rw[hW];constructor <;> simp[go_sem]
 have HS:=zC (hs.bw hBW);have HU:=zC (hu.bw hBW);have HY:=zC (hy.bw hBW);have l0:=U.lt;have l1:=Y.lt;have l2:=Z.lt;replace U:=U.bw hBW;replace Y:=Y.bw hBW;replace Z:=Z.bw hBW;have HB:=zC hb;have lR:=R.lt;have lA:=A.lt;have HE2:=zC (show IntKind.i64.wrap (j*q)=j*q from jO _ (by omega) (by omega))
 have HE3:=zC (show IntKind.i64.wrap (p+j*q)=p+j*q from jO _ (by omega) (by omega))
 have HQ2:=zC (show -9223372036854775808≤p+j*q∧p+j*q≤9223372036854775807 from ⟨by omega,by omega⟩)
 have HQ3:=zC (show 0<d*(p+j*q) from Int.mul_pos hd (by omega))
 clear hs hu hy hb hj hj2 hp hp2;have hB0:Below W.heap.size W W.drew:=(Below.refl _ _).drew;have HK:=zC (show ∀ w',Below W.heap.size W w'→(w'.cell? ⟨w.heap.size,0,none⟩=some (.bool s.ln)∧w'.cell? ⟨w.heap.size,1,none⟩=some (.slice s.la s.lN s.lc)∧w'.cell? ⟨w.heap.size,2,none⟩=some (.bool s.hn)∧w'.cell? ⟨w.heap.size,3,none⟩=some (.slice s.ha s.hN s.hc)∧w'.cell? ⟨w.heap.size,4,none⟩=some (.int .i64 s.bits)∧w'.cell? ⟨B0,0,none⟩=some (.bool u.neg)∧w'.cell? ⟨B0,1,none⟩=some (.slice u.a u.n u.cap)∧w'.cell? ⟨B1,0,none⟩=some (.bool y.neg)∧w'.cell? ⟨B1,1,none⟩=some (.slice y.a y.n y.cap)∧w'.cell? ⟨B2,0,none⟩=some (.int .i64 p)∧w'.cell? ⟨B2,1,none⟩=some (.int .i64 q)) from fun w' hB=>⟨(A.bw hB).c0,(A.bw hB).c1,(A.bw hB).c2,(A.bw hB).c3,(A.bw hB).c4,(U.bw hB).c0,(U.bw hB).c1,(Y.bw hB).c0,(Y.bw hB).c1,(Z.bw hB).c0,(Z.bw hB).c1⟩)
 clear U Y Z A
 go_enter Tryz.func172,Tryz.ntmps172
 go_wp2;rw[← hW];clear hW;have nB0:w.heap.size+1≠B0:=by omega
 have nB1:w.heap.size+1≠B1:=by omega
 have nB2:w.heap.size+1≠B2:=by omega
 obtain ⟨x0,x1,x2,x3,x4,x5,x6,x7,x8,x9,x10⟩:=zA HK _ (Below.refl _ _)
 go_region_held3 (fun w'=>w'.cell? ⟨w.heap.size,0,none⟩=some (.bool s.ln)∧w'.cell? ⟨w.heap.size,1,none⟩=some (.slice s.la s.lN s.lc)∧w'.cell? ⟨w.heap.size,2,none⟩=some (.bool s.hn)∧w'.cell? ⟨w.heap.size,3,none⟩=some (.slice s.ha s.hN s.hc)∧w'.cell? ⟨w.heap.size,4,none⟩=some (.int .i64 s.bits)∧w'.cell? ⟨B0,0,none⟩=some (.bool u.neg)∧w'.cell? ⟨B0,1,none⟩=some (.slice u.a u.n u.cap)∧w'.cell? ⟨B1,0,none⟩=some (.bool y.neg)∧w'.cell? ⟨B1,1,none⟩=some (.slice y.a y.n y.cap)∧w'.cell? ⟨B2,0,none⟩=some (.int .i64 p)∧w'.cell? ⟨B2,1,none⟩=some (.int .i64 q)) (first|exact zA HK _ (by with_reducible first|exact hB0|exact hB3|exact hB2|exact hB1)|go_keep)
  (first
   | (go_at_call 143;have hqq:=hB2;refine (zC8 _ s u ⟨neg2,a2,n2,c2⟩ k ku _ b a un (d*(p+j*q)) ((zA HS).bw hB2) ((zA HU).bw hB2) hZ2 (by omega) (by omega) (zA HQ3) (zA HB)).mono ?_;rintro r w3 ⟨t,rfl,htb,htp,hb3⟩;have HT:=zC htb;clear htb;have hB3:=zB hB2 hb3;obtain ⟨q0,q1,q2,q3,q4,q5⟩:=R.bw hB3;obtain ⟨i0,i1,i2,i3,i4,i5,i6,i7,i8,i9,i10⟩:=zA HK _ hB3)
   | (go_at_call 66;have hqq:=hB1;refine (zX _ _ _ _ _ _ _ _ ky 4 d (p+j*q) _ ((zA HY).bw hB1) hZ1 (by omega) (by omega)).mono ?_;rintro r w2 ⟨neg2,a2,n2,c2,rfl,hZ2,hb2⟩;have hB2:=zB hB1 hb2)
   | (go_at_call 43;(first|rw[zA HE2,zA HE3]|rw[zA HE3]);refine (zD (p+j*q) _ (zA HQ2).1 (zA HQ2).2).mono ?_;rintro r w1 ⟨neg1,a1,n1,c1,rfl,hZ1,hb1⟩;have hB1:=zB hB0 hb1))
 all_goals
  go_wp2;refine bodyPost_ret (v:=.agg #[.bool t.ln,.slice t.la t.lN t.lc,.bool t.hn,.slice t.ha t.hN t.hc,.int .i64 t.bits]) (by simp[results,Tryz.results172,go_sem,q0,q1,q2,q3,q4]) rfl ⟨t,rfl,zA HT,?_,?_⟩
  ·exact SpAt.put5 htp q0 q1 q2 q3 q4 _ _ _ _ _
  ·exact jV (zB hBW hB3) (Nat.le_succ _) _ _ _ _ _
theorem rise_lo (p1 p2 p3:Value) (f:Nat→Int × Int) (turn N b K KF:Nat) (s:Sp) (W:World) (hs:SpAt W s K (f 0).1 (f 0).2) (hbits:s.bits=(b:Int)) (hb:b≤1000000) (hK:K≤100000000) (hK4:4≤K) (hKF:KF≤900000000) (hN:zBV f turn N) (hNb:N≤1000000000) (htn:turn≤1000000000)
  (hle:∀ n,(f n).1≤(f n).2) (h0:∀ n,0≤(f n).1) (hfit:∀ n,n≤N → -P K<(f n).1∧(f n).2<P K) (hfitS:∀ n,n≤N → -P K<(jG f n).1∧(jG f n).2<P K)
  (hF:∀ (n:Nat) (u:Sp) w',n<N→u.bits=(b:Int)→SpAt w' u K (f n).1 (f n).2→Below W.heap.size W w'→Calls Tryz.prog 172 #[.agg #[.bool u.ln,.slice u.la u.lN u.lc,.bool u.hn,.slice u.ha u.hN u.hc,.int .i64 u.bits],.int .i64 ((n:Int)+1),p1,p2,p3] w' (zH w' b KF (f (n+1)).1 (f (n+1)).2)) :
  Calls Tryz.prog 141 #[.agg #[.bool s.ln,.slice s.la s.lN s.lc,.bool s.hn,.slice s.ha s.hN s.hc,.int .i64 s.bits],.int .i64 turn,.func (.func 172) #[] #[p1,p2,p3]] W (zH W b (K+3) (zAY f N).1 (zAY f N).2):=by
 have HF:=zC hF;have HN:=zC hN;have HBT:=zC hbits;have H0:=zC h0;clear hF hN hbits h0;obtain ⟨V,hV⟩:∃ V,V=(W.alloc (.cells #[.bool s.ln,.slice s.la s.lN s.lc,.bool s.hn,.slice s.ha s.hN s.hc,.int .i64 s.bits] 28)).alloc (.cells #[.bool false,.slice none 0 0,.bool false,.slice none 0 0,.int .i64 0] 28):=⟨_,rfl⟩;have hBV:Below W.heap.size W V:=by rw[hV];exact bl2 _ _ _
 have A:SpC V W.heap.size s:=by rw[hV];constructor <;> simp[go_sem]
 have R:NoC V (W.heap.size+1):=by rw[hV];constructor <;> simp[go_sem]
 have HS:=zC (hs.bw hBV);have lA:=A.lt;have lR:=R.lt;clear hs
 go_enter Tryz.func141,Tryz.ntmps141
 go_wp2;rw[← hV];clear hV
 go_cut [7,8] (fun p q wx=>TwoS V wx s s p q)
 case first =>
  obtain ⟨x0,x1,x2,x3,x4⟩:=A
  go_region
  all_goals
   go_wp2_with fail;go_meet
   first
    | with_reducible exact zHF _ _ _ _
    | with_reducible exact zKE _ _ _ _
 case rest =>
 obtain ⟨B5,B6,rfl,rfl,l5,l6,hne,X,Y,hB⟩:=hcut;have n5:W.heap.size+1<B5:=by omega
 have n6:W.heap.size+1<B6:=by omega
 have st0:SumSt W wc B5 B6 b K s s s f 0:=⟨X,Y,(zA HS).bw hB,(zA HS).bw hB,zA HBT,zA HBT,A.bw hB,R.bw hB,zB hBV hB,n5,n6,hne⟩;clear X Y hB A R HS l5 l6 n5 n6 hne hBV lA lR;go_wp2_with fail
 go_loopw [9] (fun nn wr=>∃ (i:Nat) (X Y:Sp),nn=.int .i64 ((i:Int)+1)∧i≤N∧SumSt W wr B5 B6 b K s X Y f i) (fun nn _=>N+1-(intOf nn).toNat)
 case atStart=>exact ⟨0,s,s,rfl,Nat.zero_le _,st0⟩
 case round =>
  obtain ⟨i,X,Y,rfl,hi,st⟩:=hrel
  by_cases hit:i<turn
  ·have hin:i<N:=by have:=(zA HN).1;omega
   have hit':((i:Int)+1≤(turn:Int)):=by omega
   obtain ⟨⟨y0,y1,y2,y3,y4⟩,y5⟩:=st.y;go_wp2_with fail;refine (zA HF i Y _ hin st.yb st.yp st.be).mono ?_;rintro r w3 ⟨u,rfl,hub,hup,hb3⟩;replace st:=st.bw hb3;replace hup:=hup.fits (K:=K) (hle _) (hfit _ (by omega)).1 (hfit _ (by omega)).2
   have HU:=zC hub;clear hb3 y0 y1 y2 y3 y4 y5 hub;obtain ⟨V3,hV3⟩:∃ V3,V3=zP w3 B6 u:=⟨_,rfl⟩;have X3:VrC V3 B5 X:=by rw[hV3];exact st.x.off st.ne u
   have Y3:VrC V3 B6 u:=by rw[hV3];exact st.y.put u
   have P3:SpAt V3 X K (jG f i).1 (jG f i).2:=by rw[hV3];exact st.xp.put st.y.c u
   have U3:SpAt V3 u K (f (i+1)).1 (f (i+1)).2:=by rw[hV3];exact hup.put st.y.c u
   have F3:SpC V3 W.heap.size s:=by rw[hV3];exact st.fs.off (by have:=st.l6;omega) u
   have R3:NoC V3 (W.heap.size+1):=by rw[hV3];exact st.no.off (by have:=st.l6;omega) u
   have B3:Below W.heap.size W V3:=by rw[hV3];exact zZ st.be (by have:=st.l6;omega) u
   have xb:=zC st.xb;have l5:=st.l5;have l6:=st.l6;have hne:=st.ne;have lY:=st.y.lt;have lX:=st.x.lt;obtain ⟨⟨y0,y1,y2,y3,y4⟩,y5⟩:=st.y;obtain ⟨⟨x0,x1,x2,x3,x4⟩,x5⟩:=st.x;clear st hup;go_wp2_with fail;have hV3':V3=zP w3 B6 u:=hV3;unfold zP at hV3';rw[← hV3'];clear hV3' y0 y1 y2 y3 y4 y5 x0 x1 x2 x3 x4 x5;have lX3:B5<V3.heap.size:=X3.lt;refine (zA8 _ X u K b (jG f i) (f (i+1)) P3 U3 (by omega) (zA xb)).mono ?_
   rintro r w4 ⟨v,rfl,hvb,hvp,hb4⟩;have X4:=X3.bw hb4;have Y4:=Y3.bw hb4;have U4:=U3.bw hb4;have F4:=F3.bw hb4;have R4:=R3.bw hb4;have B4:=zB B3 hb4;have e:jJ (jG f i) (f (i+1))=jG f (i+1):=rfl;rw[e] at hvp;replace hvp:=hvp.fits (K:=K) (zCB hle _) (hfitS _ (by omega)).1 (hfitS _ (by omega)).2
   have HV:=zC hvb;clear hb4 hvb X3 Y3 P3 U3 F3 R3 B3 hV3;have stn:SumSt W (zP w4 B5 v) B5 B6 b K s v u f (i+1):=⟨X4.put v,Y4.off (Ne.symm hne) v,hvp.put X4.c v,U4.put X4.c v,zA HV,zA HU,F4.off (by omega) v,R4.off (by omega) v,zZ B4 (by omega) v,l5,l6,hne⟩
   unfold zP at stn;obtain ⟨⟨x0,x1,x2,x3,x4⟩,x5⟩:=X4;go_wp2_with fail
   go_roundw
   case rel=>exact ⟨i+1,v,u,by go_num,by omega,stn⟩
   case measure=>simp[intOf];omega
  ·have hit':¬ ((i:Int)+1≤(turn:Int)):=by omega
   obtain ⟨⟨y0,y1,y2,y3,y4⟩,y5⟩:=st.y;go_wp2_with fail;have hr0:0≤(f i).2:=by have:=zA H0 i;have:=hle i;omega
   refine (zBM _ _ _ _ _ (f i).2 _ st.yp.hi hr0).mono ?_;rintro r w2 ⟨l,hlen,rfl,hb2⟩;replace st:=st.bw hb2;clear hb2 y0 y1 y2 y3 y4 y5
   by_cases hin:i<N
   ·have hl:2<l:=by
     have h3:=(zA HN).2.2 i hin;refine Int.not_le.1 fun hl=>?_
     obtain ⟨g1,g2,g3⟩:=hlen;obtain ⟨L,e1,e2,e3⟩:=g3 (by omega)
     have:=zJ (show L+1≤2 by omega)
     have:Q 2=4:=rfl;omega
    clear hlen hr0;obtain ⟨⟨y0,y1,y2,y3,y4⟩,y5⟩:=st.y;go_wp2_with fail;refine (zA HF i Y _ hin st.yb st.yp st.be).mono ?_;rintro r w3 ⟨u,rfl,hub,hup,hb3⟩;replace st:=st.bw hb3;replace hup:=hup.fits (K:=K) (hle _) (hfit _ (by omega)).1 (hfit _ (by omega)).2
    have HU:=zC hub;clear hb3 y0 y1 y2 y3 y4 y5 hub;obtain ⟨V3,hV3⟩:∃ V3,V3=zP w3 B6 u:=⟨_,rfl⟩;have X3:VrC V3 B5 X:=by rw[hV3];exact st.x.off st.ne u
    have Y3:VrC V3 B6 u:=by rw[hV3];exact st.y.put u
    have P3:SpAt V3 X K (jG f i).1 (jG f i).2:=by rw[hV3];exact st.xp.put st.y.c u
    have U3:SpAt V3 u K (f (i+1)).1 (f (i+1)).2:=by rw[hV3];exact hup.put st.y.c u
    have F3:SpC V3 W.heap.size s:=by rw[hV3];exact st.fs.off (by have:=st.l6;omega) u
    have R3:NoC V3 (W.heap.size+1):=by rw[hV3];exact st.no.off (by have:=st.l6;omega) u
    have B3:Below W.heap.size W V3:=by rw[hV3];exact zZ st.be (by have:=st.l6;omega) u
    have xb:=zC st.xb;have l5:=st.l5;have l6:=st.l6;have hne:=st.ne;have lY:=st.y.lt;have lX:=st.x.lt;obtain ⟨⟨y0,y1,y2,y3,y4⟩,y5⟩:=st.y;obtain ⟨⟨x0,x1,x2,x3,x4⟩,x5⟩:=st.x;clear st hup;go_wp2_with fail;have hV3':V3=zP w3 B6 u:=hV3;unfold zP at hV3';rw[← hV3'];clear hV3' y0 y1 y2 y3 y4 y5 x0 x1 x2 x3 x4 x5;have lX3:B5<V3.heap.size:=X3.lt;refine (zA8 _ X u K b (jG f i) (f (i+1)) P3 U3 (by omega) (zA xb)).mono ?_
    rintro r w4 ⟨v,rfl,hvb,hvp,hb4⟩;have X4:=X3.bw hb4;have Y4:=Y3.bw hb4;have U4:=U3.bw hb4;have F4:=F3.bw hb4;have R4:=R3.bw hb4;have B4:=zB B3 hb4;have e:jJ (jG f i) (f (i+1))=jG f (i+1):=rfl;rw[e] at hvp;replace hvp:=hvp.fits (K:=K) (zCB hle _) (hfitS _ (by omega)).1 (hfitS _ (by omega)).2
    have HV:=zC hvb;clear hb4 hvb X3 Y3 P3 U3 F3 R3 B3 hV3;have stn:SumSt W (zP w4 B5 v) B5 B6 b K s v u f (i+1):=⟨X4.put v,Y4.off (Ne.symm hne) v,hvp.put X4.c v,U4.put X4.c v,zA HV,zA HU,F4.off (by omega) v,R4.off (by omega) v,zZ B4 (by omega) v,l5,l6,hne⟩
    unfold zP at stn;obtain ⟨⟨x0,x1,x2,x3,x4⟩,x5⟩:=X4;go_wp2_with fail
    go_roundw
    case rel=>exact ⟨i+1,v,u,by go_num,by omega,stn⟩
    case measure=>simp[intOf];omega
   ·have hie:i=N:=by omega
    subst hie
    have hl:¬ 2<l:=by
     have h1:=(zA HN).2.1
     intro hl
     obtain ⟨g1,g2,g3⟩:=hlen
     by_cases hp:0<(f i).2
     ·obtain ⟨L,e1,e2,e3⟩:=g3 hp
      have:=zJ (show 2≤L by omega)
      have:Q 2=4:=rfl;omega
     ·have:=g2 (by omega);omega
    clear hlen;have l5:=st.l5;have lX:=st.x.lt;have HKr:=zC (show ∀ w',Below w2.heap.size w2 w'→(w'.cell? ⟨B5,0,none⟩=some (.bool X.ln)∧w'.cell? ⟨B5,1,none⟩=some (.slice X.la X.lN X.lc)∧w'.cell? ⟨B5,2,none⟩=some (.bool X.hn)∧w'.cell? ⟨B5,3,none⟩=some (.slice X.ha X.hN X.hc)∧w'.cell? ⟨B5,4,none⟩=some (.int .i64 X.bits)∧w'.cell? ⟨W.heap.size,4,none⟩=some (.int .i64 s.bits)) from fun w' hB=>⟨(st.x.c.bw hB).c0,(st.x.c.bw hB).c1,(st.x.c.bw hB).c2,(st.x.c.bw hB).c3,(st.x.c.bw hB).c4,(st.fs.bw hB).c4⟩)
    have R3:=st.no;have lR3:=R3.lt;have ST:=zC st;clear st;go_wp2_with fail;obtain ⟨x0,x1,x2,x3,x4,x5⟩:=zA HKr _ (Below.refl _ _);have hD0:Below w2.heap.size w2 w2.drew:=(Below.refl _ _).drew;have nR1:W.heap.size+1≠B5:=by omega
    have nR3:W.heap.size+1≠W.heap.size:=by omega
    go_region_held3 (fun w'=>w'.cell? ⟨B5,0,none⟩=some (.bool X.ln)∧w'.cell? ⟨B5,1,none⟩=some (.slice X.la X.lN X.lc)∧w'.cell? ⟨B5,2,none⟩=some (.bool X.hn)∧w'.cell? ⟨B5,3,none⟩=some (.slice X.ha X.hN X.hc)∧w'.cell? ⟨B5,4,none⟩=some (.int .i64 X.bits)∧w'.cell? ⟨W.heap.size,4,none⟩=some (.int .i64 s.bits)) (first|exact zA HKr _ (by with_reducible first|exact hD0|exact hD2|exact hD1)|go_keep)
     (first
      | (go_at_call 113;have hq:=hD1;refine (zA8 _ X ⟨false,none,0,0,neg4,a4,n4,c4,s.bits⟩ K b (jG f i) (0,9) ((zA ST).xp.bw hD1) ⟨zBJ _ _,hZ4.mono hK4⟩ (by omega) (zA ST).xb).mono ?_;rintro r' w5 ⟨v,rfl,hvb,hvp,hb5⟩;have hD2:=zB hD1 hb5;have HV:=zC hvb;clear hvb;obtain ⟨q0,q1,q2,q3,q4,q5⟩:=R3.bw hD2;obtain ⟨y0,y1,y2,y3,y4,y5⟩:=zA HKr _ hD2)
      | (go_at_call 43;refine (zD 9 _ (by omega) (by omega)).mono ?_;rintro r' w4 ⟨neg4,a4,n4,c4,rfl,hZ4,hb4⟩;have hD1:=zB hD0 hb4))
    all_goals
     go_wp2_with fail;refine bodyPost_ret (v:=.agg #[.bool v.ln,.slice v.la v.lN v.lc,.bool v.hn,.slice v.ha v.hN v.hc,.int .i64 v.bits]) (by simp[results,Tryz.results141,go_sem,q0,q1,q2,q3,q4]) rfl ⟨v,rfl,zA HV,?_,?_⟩
     ·exact SpAt.put5 (hvp.mono (by omega)) q0 q1 q2 q3 q4 _ _ _ _ _
     ·exact jV (zB (zA ST).be hD2) (Nat.le_succ _) _ _ _ _ _
def lwX (L:Rat→Nat→Rat) (p q n d:Int) (g:Nat→Rat):Nat→Rat:=if n=0 then fun _=>0 else lw L ((p:Rat)/(q:Rat)) ((n:Rat)/(d:Rat)) g
structure LwAr (p q n d:Int) (B:Nat):Prop where
 p0:0<p
 q0:0<q
 pq:p≤100*q
 qq:q≤1048576
 n0:0≤n
 d0:0<d
 nn:n≤1099511627776
 dd:d≤1048576
 b0:40≤B
 b1:B≤400
theorem zLJ {x:Nat→Rat} {B:Nat} {l u:Int} (h:zE4 x B l u) (hB:B≤400):l≤u ∧ -P 30<l∧u<P 30:=by
 have h1:=zJ (show B+1≤16*30 by omega)
 rw[Q_P] at h1;have h2:Q (B+1)=2*Q B:=rfl;have:=zG B;have:=h.lo;have:=h.hi;exact ⟨h.le,by omega,by omega⟩
theorem lu_exp {L:Rat→Nat→Rat} {p q n d:Int} {B NS:Nat} {o:Int × Int} {lg ug:Int} {X g:Nat→Rat} (h:zJ4 p q n d B) (ho:zM0 L ((n:Rat)/(d:Rat)) B o) (hg:LgP2 X B lg ug) (hL:Lns L) (ig:IsGam L ((p:Rat)/(q:Rat)) g) (hX:IsLog X (fun M=>(p:Rat)/(q:Rat)*g M)) (hS:NS≤70000) (hS2:zBV (luT p q n d B) (luN n d) NS) :
  ∃ (l:Int) (t NE:Nat),zDW (zT (luY p q n d B o (lg,ug))) l∧(t:Int)=max 0 (l-B+8)∧t≤26∧Abs (zN (luY p q n d B o (lg,ug)) t) (Q (B-8))∧jX (zY B (zN (luY p q n d B o (lg,ug)) t)) NE∧Q (B+eb t)<P 49300∧(luY p q n d B o (lg,ug)).1≤(luY p q n d B o (lg,ug)).2 ∧
   (0<(luE p q n d B o (lg,ug) t NE).1∧(luE p q n d B o (lg,ug) t NE).1≤(luE p q n d B o (lg,ug) t NE).2∧0≤(zAI p q n d B NS).1∧(zAI p q n d B NS).1≤(zAI p q n d B NS).2∧zE4 (lw L ((p:Rat)/(q:Rat)) ((n:Rat)/(d:Rat)) g) B (zEB (zAI p q n d B NS).1 (zAI p q n d B NS).2 (luE p q n d B o (lg,ug) t NE).1 (luE p q n d B o (lg,ug) t NE).2 B) (luHi (zAI p q n d B NS) (luE p q n d B o (lg,ug) t NE) B)):=by
 obtain ⟨y1,y2,y3,y4⟩:=luY_ok h ho hg;have b0:=h.b0;have b1:=h.b1;have qB:=zG B
 have r:zT (luY p q n d B o (lg,ug))<Q (B+18):=by
  have a:=zAJ y3;have e:Q (B+18)=Q B*Q 18:=jC B 18;have e18:Q 18=262144:=rfl;rw[e18] at e;omega
 obtain ⟨l,t,NE,e1,e2,e3,e4,e5⟩:=zNB (B:=B) (e:=18) (by omega) y1 r
 refine ⟨l,t,NE,e1,e2,by omega,e4,e5,?_,y1,lw_ok hL h ig hX ho hg (by omega) e4 e5 hS hS2⟩
 rw[← Q_P];have ebm:=zEP (show t≤26 by omega)
 have eb26:eb 26=786432:=by decide
 rw[eb26] at ebm;have h1:=zJ (show B+eb t+1≤16*49300 by omega)
 have h2:∀ j,Q (j+1)=2*Q j:=fun _=>rfl
 rw[h2] at h1;have:=zG (B+eb t);generalize Q (B+eb t)=y at *;generalize Q (16*49300)=z at *;omega
namespace Ex
theorem ex1_lo {M:Nat} (hM:10≤M):(271828:Rat)/100000≤ex 1 M:=by
 obtain ⟨j,rfl⟩:∃ j,M=10+j:=⟨M-10,by omega⟩
 clear hM
 induction j with
 | zero=>decide +kernel
 | succ j ih =>
  have e:ex 1 (10+(j+1))=ex 1 (10+j)+tm 1 (10+j):=rfl;have p:(0:Rat)≤tm 1 (10+j):=kT (by grind) _
  rw[e];grind
theorem ex1_hi {M:Nat} (hM:12≤M):ex 1 M≤(2718282:Rat)/1000000:=by
 have key:∀ j:Nat,ex 1 (12+j)+tm 1 (11+j)≤(2718282:Rat)/1000000:=fun j=>by
  induction j with
  | zero=>decide +kernel
  | succ j ih =>
   have e:ex 1 (12+(j+1))=ex 1 (12+j)+tm 1 (12+j):=rfl;have s:=kB 1 (11+j);have e2:11+j+1=12+j:=by omega
   have e3:11+(j+1)=12+j:=by omega
   rw[e2] at s;have p:(0:Rat)≤tm 1 (12+j):=kT (by grind) _
   have c:((11+j:Nat):Rat)+1=(j:Rat)+12:=by push_cast;grind
   have j0:(0:Rat)≤(j:Rat):=by exact_mod_cast Nat.zero_le j
   rw[c] at s;have q:=Rat.mul_le_mul_of_nonneg_right (show (2:Rat)≤(j:Rat)+12 by grind) p
   rw[e,e3];grind
 obtain ⟨j,rfl⟩:∃ j,M=12+j:=⟨M-12,by omega⟩
 have p:(0:Rat)≤tm 1 (11+j):=kT (by grind) _
 have:=key j;grind
theorem exm1:LeN (ex (-1)) (fun _=>100000/271828)∧LeN (fun _=>1000000/2718282) (ex (-1)):=by
 obtain ⟨N,hN⟩:=zCQ (-1);refine ⟨LeN.of_null (ex_neg_one.bmul (Bdd.const (100000/271828))) (N+10) fun M hM=>?_,LeN.of_null (ex_neg_one.neg.bmul (Bdd.const (1000000/2718282))) (N+12) fun M hM=>?_⟩
 ·have a:=ex1_lo (M:=M) (by omega)
  have p:=hN M (by omega)
  have m:=Rat.mul_le_mul_of_nonneg_right a p;generalize ex 1 M=y at *;generalize ex (-1) M=z at *;grind
 ·have a:=ex1_hi (M:=M) (by omega)
  have p:=hN M (by omega)
  have m:=Rat.mul_le_mul_of_nonneg_right a p;generalize ex 1 M=y at *;generalize ex (-1) M=z at *;grind
theorem lw_11 {L:Rat→Nat→Rat} (hL:Lns L) {g:Nat→Rat} (ig:IsGam L 1 g) (h1:Null (fun M=>1-g M)):Null (fun M=>lw L 1 1 g M-(1-ex (-1) M)):=by
 obtain ⟨i1,i2,N,i3⟩:=zCR ig.pos;have u:=zCG (show (0:Rat)<1 by grind) (show (0:Rat)≤1 by grind)
 have n1:=(zB1 hL 1).bmul (((kS (-1)).mul u).mul i1);have n2:=h1.bmul (i1.mul ((kS (-1)).mul u));obtain ⟨K,k0,hK⟩:=zMF 1
 have tn:Null (tm 1):=(zA6 K k0).of_le 1 fun M hM=>(hK M).mono (by
  have m1:(1:Rat)≤(M:Rat):=by exact_mod_cast hM
  have:=Rat.mul_le_mul_of_nonneg_left m1 (Rat.mul_nonneg k0 (Rat.le_of_lt (yI M)))
  grind)
 have n3:=tn.bmul (kS (-1));refine ((n1.add n2).add (n3.add ex_neg_one)).of_eq_from N fun M hM=>?_
 obtain ⟨e1,e2,e3⟩:=i3 M hM;have s:=zM5 (x:=1) M;have es:E 1 (M+1)=ex 1 M+tm 1 M:=rfl;rw[es] at s;unfold lw uG;generalize 1/g M=j at *;generalize g M=gg at *;generalize pr L 1 1 M=p at *;generalize ex (-1) M=y at *;generalize ex 1 M=v at *;generalize tm 1 M=t at *;generalize uS 1 1 M=us at *;clear n1 n2 n3 i1 i2 i3 h1 u tn hK ig;have r1:us=v+t-1:=by grind
 have r2:y*us*(gg*j)=y*us:=by rw[e1];grind
 rw[r1] at r2 ⊢;grind
end Ex
theorem iv_lt {B:Nat} {a:Int × Int} {x:Nat→Rat} (h:Iv B a x) {c:Rat} (k:LeN x (fun _=>c)) {z:Int} (hz:c*(Q B:Rat)<(z:Rat)):a.1<z:=by
 have q:=zV B
 have l:(a.1:Rat)/(Q B:Rat)≤c:=by
  refine Rat.not_lt.1 fun hlt=>?_
  obtain ⟨e,he⟩:∃ e,e=((a.1:Rat)/(Q B:Rat)-c)/4:=⟨_,rfl⟩;have e0:0<e:=by grind
  obtain ⟨N1,k1⟩:=h e e0;obtain ⟨N2,k2⟩:=k e e0;have a1:=(k1 (N1+N2) (by omega)).1
  have a2:=k2 (N1+N2) (by omega)
  simp only[] at a2;grind
 have m:=Rat.mul_le_mul_of_nonneg_right l (Rat.le_of_lt q);rw[rdm q] at m
 exact_mod_cast (show (a.1:Rat)<(z:Rat) by grind)
theorem iv_gt {B:Nat} {a:Int × Int} {x:Nat→Rat} (h:Iv B a x) {c:Rat} (k:LeN (fun _=>c) x) {z:Int} (hz:(z:Rat)<c*(Q B:Rat)):z<a.2:=by
 have q:=zV B
 have l:c≤(a.2:Rat)/(Q B:Rat):=by
  refine Rat.not_lt.1 fun hlt=>?_
  obtain ⟨e,he⟩:∃ e,e=(c-(a.2:Rat)/(Q B:Rat))/4:=⟨_,rfl⟩;have e0:0<e:=by grind
  obtain ⟨N1,k1⟩:=h e e0;obtain ⟨N2,k2⟩:=k e e0;have a1:=(k1 (N1+N2) (by omega)).2
  have a2:=k2 (N1+N2) (by omega)
  simp only[] at a2;grind
 have m:=Rat.mul_le_mul_of_nonneg_right l (Rat.le_of_lt q);rw[rdm q] at m
 exact_mod_cast (show (z:Rat)<(a.2:Rat) by grind)
theorem up_begun {L G:Rat→Nat→Rat} {X:Int→Int→Nat→Rat} (hE:zIP L G X) {l h:Int} (v:SuV (lwX L 1 1 1 1 (gmV 1 1 (G (gA 1 1)))) 20 l h):l≤662826∧662825≤h:=by
 have st:StIn 1 1:=⟨by decide,by decide,by decide,by decide⟩
 have ig:=zCF hE st;have c1:((1:Int):Rat)/((1:Int):Rat)=1:=by decide +kernel
 rw[c1] at ig;have n1:=gm_1 hE;have c2:((1:Int):Rat)=1:=rfl;rw[c2] at n1;have nl:=lw_11 hE.lns ig n1
 have e:lwX L 1 1 1 1 (gmV 1 1 (G (gA 1 1)))=lw L 1 1 (gmV 1 1 (G (gA 1 1))):=by
  unfold lwX;rw[if_neg (by decide),c1]
 have iv:=v.val;rw[e] at iv;obtain ⟨x1,x2⟩:=exm1
 have up:LeN (lw L 1 1 (gmV 1 1 (G (gA 1 1)))) (fun _=>1-1000000/2718282):=by
  refine (LeN.of_eqN nl).trans ?_;obtain ⟨z,hz,kz⟩:=x2.null;exact LeN.of_null hz 0 fun M _=>by have:=kz M;grind
 have lo:LeN (fun _=>1-100000/271828) (lw L 1 1 (gmV 1 1 (G (gA 1 1)))):=by
  refine LeN.trans ?_ (LeN.of_eqN (Null.symm nl));obtain ⟨z,hz,kz⟩:=x1.null;exact LeN.of_null hz 0 fun M _=>by have:=kz M;grind
 have a:=iv_lt iv up (z:=662827) (by decide +kernel)
 have b:=iv_gt iv lo (z:=662824) (by decide +kernel)
 simp only[] at a b;exact ⟨by omega,by omega⟩
open Go.RowKit
attribute [local go_sem ↓] Go.wp_at_zero Go.wp_at_succ
open Ex
theorem lo_arg {L:Rat→Nat→Rat} {l Y:Nat→Rat} (hL:Lns L) {pa qa:Int} {x:Rat} {B:Nat} {a c:Int × Int} (q0:0<qa) (hx:0<x) (hl:IsLog l (fun _=>x)) (ha:Iv B a l) (hc:Iv B c Y):Iv B (yH (byI a pa qa) c) (fun M=>(pa:Rat)/(qa:Rat)*L x M-Y M):=((ha.congr ((hL x hx).uniq hl)).by_ pa q0).sub hc
theorem lo_abs {pa qa m:Int} {B J:Nat} {a c:Int × Int} (p0:0<pa) (q0:0<qa) (pq:pa≤100*qa) (hJ:J≤200) (hle:a.1≤a.2) (ha:Abs a (3*((J:Int)+1)*Q B)) (hc:Abs c (30000*Q B)):Abs (yH (byI a pa qa) c) (91000*Q B):=by
 rw[kP hle (by omega)]
 have qB:=zG B;have hM:3*((J:Int)+1)*Q B≤603*Q B:=Int.mul_le_mul_of_nonneg_right (by omega) (by omega)
 obtain ⟨a1,a2,a3,a4⟩:=ha;obtain ⟨c1,c2,c3,c4⟩:=hc
 have lo:∀ z:Int,-(603*Q B)≤z→z≤603*Q B → -(60300*Q B*qa)≤z*pa∧z*pa≤60300*Q B*qa:=fun z z1 z2=>by
  have k1:=Int.mul_le_mul_of_nonneg_right z1 (show 0≤pa by omega)
  have k2:=Int.mul_le_mul_of_nonneg_right z2 (show 0≤pa by omega)
  have k3:=Int.mul_le_mul_of_nonneg_left pq (show 0≤603*Q B by omega)
  have e1:603*Q B*(100*qa)=60300*Q B*qa:=by grind
  have e2 : -(603*Q B)*pa = -(603*Q B*pa):=Int.neg_mul _ _;constructor <;> omega
 obtain ⟨u1,u2⟩:=lo a.1 (by omega) (by omega)
 obtain ⟨u3,u4⟩:=lo a.2 (by omega) (by omega)
 have f:∀ z:Int,-(60300*Q B*qa)≤z→z≤60300*Q B*qa → -(60300*Q B)≤z/qa∧z/qa≤60300*Q B:=fun z z1 z2=>⟨(Int.le_ediv_iff_mul_le q0).2 (by rw[Int.neg_mul];exact z1),Int.ediv_le_of_le_mul q0 z2⟩
 have f1:=f _ u1 u2;have f2:=f (-(a.2*pa)) (by omega) (by omega)
 have s1:(zE a pa qa).1=a.1*pa/qa:=rfl;have s2:(zE a pa qa).2 = -(-(a.2*pa)/qa):=rfl;have t1:(yH (zE a pa qa) c).1=(zE a pa qa).1-c.2:=rfl;have t2:(yH (zE a pa qa) c).2=(zE a pa qa).2-c.1:=rfl;unfold Abs;rw[t1,t2,s1,s2];generalize a.1*pa/qa=y1 at *;generalize -(a.2*pa)/qa=y2 at *;refine ⟨?_,?_,?_,?_⟩ <;> omega
theorem far_eq {pa qa:Int} (q0:0<qa) (B:Nat) (n:Int):(jJ (byI (ofI pa qa B) 2 1) (n*Q B,n*Q B)).2=2*(ofI pa qa B).2+n*Q B:=by
 rw[kP (zDA q0 B) (by omega)]
 show -(-((ofI pa qa B).2*2)/1)+n*Q B=_
 rw[Int.ediv_one];omega
structure RlOk (L:Rat→Nat→Rat) (pa qa X:Int) (B:Nat) (g:Nat→Rat) (lo hi:Int):Prop where
 l0:0≤lo
 h1:hi≤Q B
 z:X=0→lo=0∧hi=0
 iv:0<X→Iv B (lo,hi) (lw L ((pa:Rat)/(qa:Rat)) ((X:Rat)/(Q B:Rat)) g)
theorem lo_end {L:Rat→Nat→Rat} (hL:Lns L) {pa qa X:Int} {B:Nat} {g:Nat→Rat} {l u:Int} (p0:0<pa) (q0:0<qa) (X0:0<X) (ig:IsGam L ((pa:Rat)/(qa:Rat)) g) (h:Iv B (l,u) (lw L ((pa:Rat)/(qa:Rat)) ((X:Rat)/(Q B:Rat)) g)):RlOk L pa qa X B g (zEW l) (zDS B u):=by
 have pr:(0:Rat)<(pa:Rat):=by exact_mod_cast p0
 have qr:(0:Rat)<(qa:Rat):=by exact_mod_cast q0
 have xr:(0:Rat)<(X:Rat):=by exact_mod_cast X0
 have a0:=zL pr qr;have x0:=zL xr (zV B);have qB:=zG B;refine ⟨by unfold zEW;split <;> omega,by unfold zDS;split <;> omega,fun h=>by omega,fun _=>?_⟩
 have k:=h.capL (zLB x0 ig);have e1:(if u≤Q B then u else Q B)=zDS B u:=by unfold zDS;split <;> split <;> omega
 simp only[e1] at k
 by_cases hl:l<0
 ·have e2:zEW l=0:=by unfold zEW;rw[if_pos hl]
  rw[e2];obtain ⟨N0,hn⟩:=lw_nn hL a0 x0 ig;have b:=k.bottom N0 hn;simp only[hl,if_true] at b;exact b
 ·have e2:zEW l=l:=by unfold zEW;rw[if_neg hl]
  rw[e2];exact k
theorem zFY (z:Int) (w:World) (s:Sp) (k b m:Nat) (lo hi:Int) (x:Nat→Rat) (hz:z=(m:Int)) (hs:SpAt w s k lo hi) (hbits:s.bits=(b:Int)) (hk:k≤300000000) (hb:b≤1000000) (hm:m≤1000000) (h:Iv b (lo,hi) x) :
  Calls Tryz.prog 90 #[.agg #[.bool s.ln,.slice s.la s.lN s.lc,.bool s.hn,.slice s.ha s.hN s.hc,.int .i64 s.bits],.int .i64 z] w (fun r w'=>∃ l u,Iv m (l,u) x∧zH w m (k+62505) l u r w'):=by
 subst hz;refine (kY w s k m lo hi hs hk (by omega) (by omega) (by omega) (by omega)).mono fun r w' g=>?_
 rw[hbits] at g
 by_cases hc:b≤m
 ·obtain ⟨i,rfl⟩:∃ i,m=b+i:=⟨m-b,by omega⟩
  rw[zCK lo (b:Int) ((b+i:Nat):Int) i (by omega),zB0 hi (b:Int) ((b+i:Nat):Int) i (by omega)] at g
  exact ⟨_,_,h.up i,g⟩
 ·obtain ⟨i,rfl⟩:∃ i,b=m+i:=⟨b-m,by omega⟩
  have e:((m+i:Nat):Int)-(m:Int)=(i:Int):=by omega
  rw[e,kG,kG] at g;exact ⟨_,_,h.to,g⟩
theorem zDQ (z n:Int) (hz:z=n) (w:World) (b:Nat) (hb:b≤100000) (h0 : -9223372036854775808≤n) (h1:n≤9223372036854775807) :
  Calls Tryz.prog 27 #[.int .i64 z,.int .i64 b] w (zH w b (b/16+18) (n*Q b) (n*Q b)):=by
 subst hz;exact zDE w z b hb h0 h1
theorem numOf_z (z n:Int) (hz:z=n) (w:World) (h0 : -9223372036854775808≤n) (h1:n≤9223372036854775807) :
  Calls Tryz.prog 43 #[.int .i64 z] w fun r w' =>
   ∃ neg' a' n' cap',r=.returned (.agg #[.bool neg',.slice a' n' cap'])∧IntAt w' neg' a' n' cap' 4 n∧Below w.heap.size w w':=by
 subst hz;exact zD z w h0 h1
theorem RaC.offP {w:World} {B B':Nat} {p q:Int} (h:RaC w B p q) (hne:B≠B') (u:Sp):RaC (zP w B' u) B p q:=⟨kI h.c0 hne _ _ _ _ _,kI h.c1 hne _ _ _ _ _⟩
structure RlB (w wr:World) (x:Nm) (pa qa X:Int):Prop where
 a:RaC wr w.heap.size pa qa
 c:NmC wr (w.heap.size+1) x
 no:NoC wr (w.heap.size+1+1)
 xp:IntAt wr x.neg x.a x.n x.cap 100 X
 be:Below w.heap.size w wr
theorem RlB.bw {w wr wr':World} {x:Nm} {pa qa X:Int} (h:RlB w wr x pa qa X) (hb:Below wr.heap.size wr wr'):RlB w wr' x pa qa X:=⟨h.a.bw hb,h.c.bw hb,h.no.bw hb,h.xp.bw hb,zB h.be hb⟩
theorem RlB.offP {w wr:World} {x:Nm} {pa qa X:Int} {B:Nat} {t:Sp} (h:RlB w wr x pa qa X) (v:VrC wr B t) (hB:w.heap.size+1+1<B) (u:Sp):RlB w (zP wr B u) x pa qa X :=
 ⟨h.a.offP (by omega) u,h.c.offP (by omega) u,h.no.off (by omega) u,h.xp.put v.c u,zZ h.be (by omega) u⟩
structure RlSt (w wr:World) (x:Nm) (pa qa X:Int) (B1 B2 m K:Nat) (U Sm:Sp) (a c:Int × Int):Prop where
 b:RlB w wr x pa qa X
 y:VrC wr B1 U
 s:VrC wr B2 Sm
 yp:SpAt wr U K a.1 a.2
 sp:SpAt wr Sm K c.1 c.2
 yb:U.bits=(m:Int)
 sb:Sm.bits=(m:Int)
 l1:w.heap.size+1+1<B1
 l2:w.heap.size+1+1<B2
 n:B1≠B2
theorem RlSt.bw {w wr wr':World} {x:Nm} {pa qa X:Int} {B1 B2 m K:Nat} {U Sm:Sp} {a c:Int × Int} (h:RlSt w wr x pa qa X B1 B2 m K U Sm a c) (hb:Below wr.heap.size wr wr'):RlSt w wr' x pa qa X B1 B2 m K U Sm a c :=
 ⟨h.b.bw hb,h.y.bw hb,h.s.bw hb,h.yp.bw hb,h.sp.bw hb,h.yb,h.sb,h.l1,h.l2,h.n⟩
theorem RlSt.put1 {w wr:World} {x:Nm} {pa qa X:Int} {B1 B2 m K:Nat} {U Sm:Sp} {a c a':Int × Int} (h:RlSt w wr x pa qa X B1 B2 m K U Sm a c) (v:Sp) (hv:SpAt wr v K a'.1 a'.2) (hb:v.bits=(m:Int)):RlSt w (zP wr B1 v) x pa qa X B1 B2 m K v Sm a' c :=
 ⟨h.b.offP h.y h.l1 v,h.y.put v,h.s.off (Ne.symm h.n) v,hv.put h.y.c v,h.sp.put h.y.c v,hb,h.sb,h.l1,h.l2,h.n⟩
theorem RlSt.put2 {w wr:World} {x:Nm} {pa qa X:Int} {B1 B2 m K K':Nat} {U Sm:Sp} {a c c':Int × Int} (h:RlSt w wr x pa qa X B1 B2 m K U Sm a c) (v:Sp) (hv:SpAt wr v K' c'.1 c'.2) (hb:v.bits=(m:Int)) (hK:K≤K'):RlSt w (zP wr B2 v) x pa qa X B1 B2 m K' U v a c' :=
 ⟨h.b.offP h.s h.l2 v,h.y.off h.n v,h.s.put v,(h.yp.mono hK).put h.s.c v,hv.put h.s.c v,h.yb,hb,h.l1,h.l2,h.n⟩
theorem zGK (L:Rat→Nat→Rat) (g:Nat→Rat) (w:World) (x:Nm) (pa qa X:Int) (B:Nat) (hx:IntAt w x.neg x.a x.n x.cap 100 X) (hb:B≤1000) (hX:X=0) :
  Calls Tryz.prog 71 #[.agg #[.int .i64 pa,.int .i64 qa],.agg #[.bool x.neg,.slice x.a x.n x.cap],.int .i64 B] w (fun r w'=>∃ lo hi,RlOk L pa qa X B g lo hi∧zH w B 600000 lo hi r w'):=by
 obtain ⟨W,hW⟩:∃ W,W=((w.alloc (.cells #[.int .i64 pa,.int .i64 qa] 23)).alloc (.cells #[.bool x.neg,.slice x.a x.n x.cap] 26)).alloc (.cells #[.bool false,.slice none 0 0,.bool false,.slice none 0 0,.int .i64 0] 36):=⟨_,rfl⟩;have hBW:Below w.heap.size w W:=by rw[hW];exact bl3 _ _ _ _
 have st:RlB w W x pa qa X:=by
  refine ⟨?_,?_,?_,hx.bw hBW,hBW⟩ <;> rw[hW]
  ·constructor <;> simp[go_sem]
  ·constructor <;> simp[go_sem]
  ·constructor <;> simp[go_sem]
 clear hx hBW
 go_enter Tryz.func71,Tryz.ntmps71
 go_wp2_with fail;rw[← hW];clear hW;refine (jZ _ _ _ _ _ X _ st.xp).mono ?_;rintro r w1 ⟨rfl,hb1⟩;replace st:=st.bw hb1;clear hb1;rw[show zF X 0=0 by rw[hX];rfl]
 have HOK:=zC (show RlOk L pa qa X B g (0*Q B) (0*Q B) from ⟨by omega,by have:=zG B;omega,fun _=>⟨by omega,by omega⟩,fun h=>by omega⟩)
 clear hX;have a0:=st.a.c0;have a1:=st.a.c1;have x0:=st.c.c0;have x1:=st.c.c1;have lA:=st.a.lt;have lC:=st.c.lt;have lR:=st.no.lt;go_wp2_with fail;clear a0 a1 x0 x1 lA lC lR;refine (zDQ _ 0 rfl _ B (by omega) (by omega) (by omega)).mono ?_
 rintro r w2 ⟨v2,rfl,hvb2,hvp2,hb2⟩;replace st:=st.bw hb2;have HVB:=zC hvb2;clear hb2 hvb2;obtain ⟨q0,q1,q2,q3,q4,q5⟩:=st.no;have lR:=st.no.lt;go_wp2_with fail;refine bodyPost_ret (v:=.agg #[.bool v2.ln,.slice v2.la v2.lN v2.lc,.bool v2.hn,.slice v2.ha v2.hN v2.hc,.int .i64 v2.bits]) (by simp[results,Tryz.results71,go_sem,q0,q1,q2,q3,q4]) rfl ⟨_,_,zA HOK,v2,rfl,zA HVB,?_,?_⟩
 ·exact SpAt.put5 (hvp2.mono (by omega)) q0 q1 q2 q3 q4 _ _ _ _ _
 ·exact jV st.be (by omega) _ _ _ _ _
theorem zHX (L:Rat→Nat→Rat) (g:Nat→Rat) (w:World) (x:Nm) (pa qa X:Int) (B:Nat) (hx:IntAt w x.neg x.a x.n x.cap 100 X) (hL:Lns L) (hb0:1≤B) (hb:B≤1000) (p0:0<pa) (hr:rok pa qa) (X0:0<X) (ig:IsGam L ((pa:Rat)/(qa:Rat)) g) (hf:2*(ofI pa qa B).2+(2*(B:Int)+41)*Q B<X) :
  Calls Tryz.prog 71 #[.agg #[.int .i64 pa,.int .i64 qa],.agg #[.bool x.neg,.slice x.a x.n x.cap],.int .i64 B] w (fun r w'=>∃ lo hi,RlOk L pa qa X B g lo hi∧zH w B 600000 lo hi r w'):=by
 have HOK:=zC (show RlOk L pa qa X B g (Q B-1) (Q B) from by
  have k:=rw_far hL p0 (by have:=hr.2.2.1;omega) hf hb0 ig
  have q:=zG B
  exact ⟨by omega,by omega,fun h=>by omega,fun _=>k.iv⟩)
 obtain ⟨W,hW⟩:∃ W,W=((w.alloc (.cells #[.int .i64 pa,.int .i64 qa] 23)).alloc (.cells #[.bool x.neg,.slice x.a x.n x.cap] 26)).alloc (.cells #[.bool false,.slice none 0 0,.bool false,.slice none 0 0,.int .i64 0] 36):=⟨_,rfl⟩;have hBW:Below w.heap.size w W:=by rw[hW];exact bl3 _ _ _ _
 have st:RlB w W x pa qa X:=by
  refine ⟨?_,?_,?_,hx.bw hBW,hBW⟩ <;> rw[hW]
  ·constructor <;> simp[go_sem]
  ·constructor <;> simp[go_sem]
  ·constructor <;> simp[go_sem]
 clear hx hBW
 go_enter Tryz.func71,Tryz.ntmps71
 go_wp2_with fail;rw[← hW];clear hW;refine (jZ _ _ _ _ _ X _ st.xp).mono ?_;rintro r w1 ⟨rfl,hb1⟩;replace st:=st.bw hb1;clear hb1;rw[show zF X 0=1 by unfold zF;rw[if_neg (by omega),if_pos (by omega)]]
 have a0:=st.a.c0;have a1:=st.a.c1;have x0:=st.c.c0;have x1:=st.c.c1;have lA:=st.a.lt;have lC:=st.c.lt;have lR:=st.no.lt;go_wp2_with fail;clear a0 a1 x0 x1 lA lC lR;refine (zA4 pa qa B _ hr (by omega)).mono ?_
 rintro r w2 ⟨v2,rfl,hvb2,hvp2,hb2⟩;replace st:=st.bw hb2;have HV2:=zC hvb2;clear hb2 hvb2;go_wp2_with fail;refine (zD 2 _ (by decide) (by decide)).mono ?_
 rintro r w3 ⟨neg3,a3,n3,c3,rfl,hZ3,hb3⟩;replace st:=st.bw hb3;replace hvp2:=hvp2.bw hb3;clear hb3;go_wp2_with fail;refine (zD 1 _ (by decide) (by decide)).mono ?_
 rintro r w4 ⟨neg4,a4,n4,c4,rfl,hZ4,hb4⟩;replace st:=st.bw hb4;replace hvp2:=hvp2.bw hb4;replace hZ3:=hZ3.bw hb4;clear hb4;go_wp2_with fail;refine (zEA _ v2 ⟨neg3,a3,n3,c3⟩ ⟨neg4,a4,n4,c4⟩ _ _ _ B (ofI pa qa B) 2 1 hvp2 hZ3 hZ4 (by omega) (by omega) (by omega) (by omega) (zA HV2)).mono ?_
 rintro r w5 ⟨v5,rfl,hvb5,hvp5,hb5⟩;replace st:=st.bw hb5;have HV5:=zC hvb5;clear hb5 hvb5 hvp2 hZ3 hZ4 HV2;go_wp2_with fail;refine (zDQ _ (2*(B:Int)+41) (by first|rfl|exact jO _ (by omega) (by omega)) _ B (by omega) (by omega) (by omega)).mono ?_
 rintro r w6 ⟨v6,rfl,hvb6,hvp6,hb6⟩;replace st:=st.bw hb6;replace hvp5:=hvp5.bw hb6;clear hb6 hvb6;go_wp2_with fail;refine (yB _ v5 v6 (B/16+40) B (byI (ofI pa qa B) 2 1) ((2*(B:Int)+41)*Q B,(2*(B:Int)+41)*Q B) (hvp5.mono (by omega)) (hvp6.mono (by omega)) (by omega) (zA HV5)).mono ?_
 rintro r w7 ⟨v7,rfl,hvb7,hvp7,hb7⟩;replace st:=st.bw hb7;clear hb7 hvb7 hvp5 hvp6 HV5;obtain ⟨V7,hV7⟩:∃ V,V=w7.alloc (.cells #[.bool v7.ln,.slice v7.la v7.lN v7.lc,.bool v7.hn,.slice v7.ha v7.hN v7.hc,.int .i64 v7.bits] 36):=⟨_,rfl⟩;have bV7:Below w7.heap.size w7 V7:=by rw[hV7];exact bl1 _ _
 have HP7:=zC (hvp7.bw bV7);clear hvp7;have a0:=st.a.c0;have a1:=st.a.c1;have x0:=st.c.c0;have x1:=st.c.c1;have lA:=st.a.lt;have lC:=st.c.lt;have lR:=st.no.lt;go_wp2_with fail;rw[← hV7];clear a0 a1 x0 x1 lA lC lR;clear hV7;replace st:=st.bw bV7;clear bV7;refine (zS _ _ _ _ _ _ _ _ _ _ X _ _ st.xp (zA HP7).hi).mono ?_;rintro r w8 ⟨rfl,hb8⟩;replace st:=st.bw hb8;clear hb8 HP7;rw[far_eq (by have:=hr.2.2.1;omega) B (2*(B:Int)+41)]
 have hcc:zF X (2*(ofI pa qa B).2+(2*(B:Int)+41)*Q B)=1:=by unfold zF;rw[if_neg (by omega),if_pos hf]
 rw[hcc];clear hcc;go_wp2_with fail;refine (kC B _ (by omega)).mono ?_
 rintro r w9 ⟨neg9,a9,n9,c9,rfl,hZ9,hb9⟩;replace st:=st.bw hb9;clear hb9;obtain ⟨V9,hV9⟩:∃ V,V=w9.alloc (.cells #[.bool neg9,.slice a9 n9 c9] 26):=⟨_,rfl⟩;have bV9:Below w9.heap.size w9 V9:=by rw[hV9];exact bl1 _ _
 have Pc:NmC V9 w9.heap.size ⟨neg9,a9,n9,c9⟩:=by rw[hV9];exact yS w9 ⟨neg9,a9,n9,c9⟩ _
 have HIP:=zC (hZ9.bw bV9);have lR9:=st.no.lt;replace st:=st.bw bV9;clear hZ9 bV9;go_wp2_with fail;rw[← hV9];clear hV9;obtain ⟨BP,hBP⟩:∃ B',B'=w9.heap.size:=⟨_,rfl⟩;rw[← hBP] at Pc lR9 ⊢;clear hBP;have lP:=Pc.lt;have lR2:=st.no.lt;have nR1:w.heap.size+1+1≠BP:=by omega
 have HK:=zC (show ∀ w',Below V9.heap.size V9 w'→(w'.cell? ⟨BP,0,none⟩=some (.bool (⟨neg9,a9,n9,c9⟩:Nm).neg)∧w'.cell? ⟨BP,1,none⟩=some (.slice (⟨neg9,a9,n9,c9⟩:Nm).a (⟨neg9,a9,n9,c9⟩:Nm).n (⟨neg9,a9,n9,c9⟩:Nm).cap)) from fun w' hB=>⟨(Pc.bw hB).c0,(Pc.bw hB).c1⟩)
 clear Pc;obtain ⟨x5,x6⟩:=zA HK _ (Below.refl _ _);have hD0:Below V9.heap.size V9 V9.drew:=(Below.refl _ _).drew
 go_region_held3 (fun w'=>w'.cell? ⟨BP,0,none⟩=some (.bool (⟨neg9,a9,n9,c9⟩:Nm).neg)∧w'.cell? ⟨BP,1,none⟩=some (.slice (⟨neg9,a9,n9,c9⟩:Nm).a (⟨neg9,a9,n9,c9⟩:Nm).n (⟨neg9,a9,n9,c9⟩:Nm).cap)) (first|exact zA HK _ (by with_reducible first|exact hD0|exact hD2|exact hD1)|go_keep)
  (first
   | (go_at_call 72;have hqq:=hD1;refine (zAL _ _ _ _ _ _ _ _ (B/16+8) 4 (Q B) 1 _ (((zA HIP).bw hD1).mono (by omega)) hZ1 (by omega) (by omega)).mono ?_;rintro r' w2 ⟨neg2,a2,n2,c2,rfl,hZ2,hb2⟩;have hD2:=zB hD1 hb2;obtain ⟨q0,q1,q2,q3,q4,q5⟩:=st.no.bw hD2;have HIQ:=zC ((zA HIP).bw hD2))
   | (go_at_call 43;refine (zD 1 _ (by decide) (by decide)).mono ?_;rintro r' w1 ⟨neg1,a1,n1,c1,rfl,hZ1,hb1⟩;have hD1:=zB hD0 hb1))
 all_goals
  go_wp2_with fail;refine bodyPost_ret (v:=.agg #[.bool neg2,.slice a2 n2 c2,.bool neg9,.slice a9 n9 c9,.int .i64 (B:Int)]) (by simp[results,Tryz.results71,go_sem,q0,q1,q2,q3,q4]) rfl ⟨_,_,zA HOK,⟨neg2,a2,n2,c2,neg9,a9,n9,c9,(B:Int)⟩,rfl,rfl,?_,?_⟩
  ·exact SpAt.put5 (show SpAt _ (⟨neg2,a2,n2,c2,neg9,a9,n9,c9,(B:Int)⟩:Sp) _ _ _ from ⟨hZ2.mono (by omega),(zA HIQ).mono (by omega)⟩) q0 q1 q2 q3 q4 _ _ _ _ _
  ·exact jV (zB st.be hD2) (by omega) _ _ _ _ _
end Go.Proofs.YtgmnknmjainababGreat
