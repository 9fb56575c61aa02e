/-
  Its own texts.
-/
import Derived.Test.YtgmnknmjainababGreatK18
set_option maxRecDepth 100000
set_option maxHeartbeats 8000000
set_option linter.unnecessarySimpa false
set_option linter.unusedSimpArgs false
set_option linter.unusedVariables false
namespace Go.Proofs.YtgmnknmjainababGreat
open Go.RowKit
attribute [local go_sem ↓] Go.wp_at_zero Go.wp_at_succ
theorem zC8 (w:World) (s:Sp) (x y:Nm) (k k1 k2 b:Nat) (a:Int × Int) (n d:Int) (hs:SpAt w s k a.1 a.2) (h1:IntAt w x.neg x.a x.n x.cap k1 n) (h2:IntAt w y.neg y.a y.n y.cap k2 d) (hk:k≤300000000) (hk1:k1≤300000000) (hd:0<d) (hb:s.bits=(b:Int)) :
  Calls Tryz.prog 143 #[.agg #[.bool s.ln,.slice s.la s.lN s.lc,.bool s.hn,.slice s.ha s.hN s.hc,.int .i64 s.bits],.agg #[.bool x.neg,.slice x.a x.n x.cap],.agg #[.bool y.neg,.slice y.a y.n y.cap]] w (zH w b (k+k1+10) (zE a n d).1 (zE a n d).2) :=
 (zHU w s _ _ _ _ _ _ _ _ k k1 k2 a.1 a.2 n d hs h1 h2 hk hk1 hd).mono fun r w' h=>by rw[hb] at h;exact h
theorem ln1_iv (w:World) (B0:Nat) (s u:Sp) (k b:Nat) (n:Int) (a c:Int × Int) (hs:SpAt w s k a.1 a.2) (hu:SpAt w u k c.1 c.2) (hU:SpC w B0 u) (hk:k≤100000000) (hb:s.bits=(b:Int)) (hbm:b≤1000000) (hn:1≤n) (hn2:n≤1000000000000) :
  Calls Tryz.prog 192 #[.agg #[.bool s.ln,.slice s.la s.lN s.lc,.bool s.hn,.slice s.ha s.hN s.hc,.int .i64 s.bits],.int .i64 n,.pointer (some ⟨B0,0,none⟩)] w (zH w b (k+k+8+4+10) (zE (kJ b a c) (2*n-1) (2*n+1)).1 (zE (kJ b a c) (2*n-1) (2*n+1)).2):=by
 obtain ⟨W,hW⟩:∃ W,W=(w.alloc (.cells #[.bool s.ln,.slice s.la s.lN s.lc,.bool s.hn,.slice s.ha s.hN s.hc,.int .i64 s.bits] 28)).alloc (.cells #[.bool false,.slice none 0 0,.bool false,.slice none 0 0,.int .i64 0] 28):=⟨_,rfl⟩;have hBW:Below w.heap.size w W:=by rw[hW];exact bl2 _ _ _
 have R:NoC W (w.heap.size+1):=by rw[hW];constructor <;> simp[go_sem]
 have HS:=zC (hs.bw hBW);have HU:=zC (hu.bw hBW);have l0:=hU.lt;obtain ⟨y0,y1,y2,y3,y4⟩:=hU;have HB:=zC hb;clear hs hu hb
 go_enter Tryz.func192,Tryz.ntmps192
 go_wp2_with fail;rw[← hW];clear hW;refine (zLK _ s u k b a c (zA HS) (zA HU) (by omega) (zA HB) hbm).mono ?_
 rintro r' w1 ⟨v,rfl,hvb,hvp,hb1⟩;have HV:=zC hvb;clear hvb y0 y1 y2 y3 y4;replace R:=R.bw hb1;replace hBW:=zB hBW hb1;go_wp2_with fail;refine (zD (2*n-1) _ (by omega) (by omega)).mono ?_
 rintro r' w2 ⟨neg2,a2,n2,c2,rfl,hZ2,hb2⟩;replace R:=R.bw hb2;replace hBW:=zB hBW hb2;replace hvp:=hvp.bw hb2;go_wp2_with fail;refine (zD (2*n+1) _ (by omega) (by omega)).mono ?_
 rintro r' w3 ⟨neg3,a3,n3,c3,rfl,hZ3,hb3⟩;replace R:=R.bw hb3;replace hBW:=zB hBW hb3;replace hvp:=hvp.bw hb3;replace hZ2:=hZ2.bw hb3;go_wp2_with fail;refine (zC8 _ v ⟨neg2,a2,n2,c2⟩ ⟨neg3,a3,n3,c3⟩ _ _ _ b _ (2*n-1) (2*n+1) hvp hZ2 hZ3 (by omega) (by omega) (by omega) (zA HV)).mono ?_
 rintro r' w4 ⟨t,rfl,htb,htp,hb4⟩;obtain ⟨q0,q1,q2,q3,q4,q5⟩:=R.bw hb4;replace hBW:=zB hBW hb4;have HT:=zC htb;clear htb;go_wp2_with fail;refine bodyPost_ret (v:=.agg #[.bool t.ln,.slice t.la t.lN t.lc,.bool t.hn,.slice t.ha t.hN t.hc,.int .i64 t.bits]) (by simp[results,Tryz.results192,go_sem,q0,q1,q2,q3,q4]) rfl ⟨t,rfl,zA HT,?_,?_⟩
 ·exact SpAt.put5 (htp.mono (by omega)) q0 q1 q2 q3 q4 _ _ _ _ _
 ·exact jV hBW (Nat.le_succ _) _ _ _ _ _
theorem sum_ln (p1:Value) (f:Nat→Int × Int) (N b K KF:Nat) (s:Sp) (W:World) (hs:SpAt W s K (f 0).1 (f 0).2) (hbits:s.bits=(b:Int)) (hb:b≤1000000) (hK:K≤100000000) (hKF:KF≤900000000) (hN:jX f N) (hNb:N≤1000000000)
  (hle:∀ n,(f n).1≤(f n).2) (hfit:∀ n,n≤N → -P K<(f n).1∧(f n).2<P K) (hfitS:∀ n,n≤N → -P K<(jG f n).1∧(jG f n).2<P K)
  (hF:∀ (n:Nat) (u:Sp) w',n<N→u.bits=(b:Int)→SpAt w' u K (f n).1 (f n).2→Below W.heap.size W w'→Calls Tryz.prog 192 #[.agg #[.bool u.ln,.slice u.la u.lN u.lc,.bool u.hn,.slice u.ha u.hN u.hc,.int .i64 u.bits],.int .i64 ((n:Int)+1),p1] w' (zH w' b KF (f (n+1)).1 (f (n+1)).2)) :
  Calls Tryz.prog 182 #[.agg #[.bool s.ln,.slice s.la s.lN s.lc,.bool s.hn,.slice s.ha s.hN s.hc,.int .i64 s.bits],.func (.func 192) #[] #[p1]] W (zH W b (K+3) (zQ f N).1 (zQ f N).2):=by
 have HF:=zC hF;have HN:=zC hN;have HBT:=zC hbits;clear hF hN hbits;obtain ⟨V,hV⟩:∃ V,V=(W.alloc (.cells #[.bool s.ln,.slice s.la s.lN s.lc,.bool s.hn,.slice s.ha s.hN s.hc,.int .i64 s.bits] 28)).alloc (.cells #[.bool false,.slice none 0 0,.bool false,.slice none 0 0,.int .i64 0] 28):=⟨_,rfl⟩;have hBV:Below W.heap.size W V:=by rw[hV];exact bl2 _ _ _
 have A:SpC V W.heap.size s:=by rw[hV];constructor <;> simp[go_sem]
 have R:NoC V (W.heap.size+1):=by rw[hV];constructor <;> simp[go_sem]
 have HS:=zC (hs.bw hBV);have lA:=A.lt;have lR:=R.lt;clear hs
 go_enter Tryz.func182,Tryz.ntmps182
 go_wp2;rw[← hV];clear hV
 go_cut [5,6] (fun p q wx=>TwoS V wx s s p q)
 case first =>
  obtain ⟨x0,x1,x2,x3,x4⟩:=A
  go_region
  all_goals
   go_wp2_with fail;go_meet
   first
    | with_reducible exact zHF _ _ _ _
    | with_reducible exact zKE _ _ _ _
 case rest =>
 obtain ⟨B5,B6,rfl,rfl,l5,l6,hne,X,Y,hB⟩:=hcut;have n5:W.heap.size+1<B5:=by omega
 have n6:W.heap.size+1<B6:=by omega
 have st0:SumSt W wc B5 B6 b K s s s f 0:=⟨X,Y,(zA HS).bw hB,(zA HS).bw hB,zA HBT,zA HBT,A.bw hB,R.bw hB,zB hBV hB,n5,n6,hne⟩;clear X Y hB A R HS l5 l6 n5 n6 hne hBV lA lR;go_wp2_with fail
 go_loopw [7] (fun nn wr=>∃ (i:Nat) (X Y:Sp),nn=.int .i64 ((i:Int)+1)∧i≤N∧SumSt W wr B5 B6 b K s X Y f i) (fun nn _=>N+1-(intOf nn).toNat)
 case atStart=>exact ⟨0,s,s,rfl,Nat.zero_le _,st0⟩
 case round =>
  obtain ⟨i,X,Y,rfl,hi,st⟩:=hrel;have hr0:=yX (hle i);obtain ⟨⟨y0,y1,y2,y3,y4⟩,y5⟩:=st.y;go_wp2_with fail;refine (zBH _ Y K _ _ st.yp (by omega)).mono ?_
  rintro r w1 ⟨neg1,a1,n1,c1,rfl,hZ1,hb1⟩;replace st:=st.bw hb1;clear hb1 y0 y1 y2 y3 y4 y5;go_wp2_with fail;refine (zBM _ _ _ _ _ (zT (f i)) _ hZ1 hr0).mono ?_;rintro r w2 ⟨l,hlen,rfl,hb2⟩;replace st:=st.bw hb2;clear hb2 hZ1
  by_cases hin:i<N
  ·have hl:1<l:=by
    refine Int.not_le.1 fun hl=>?_
    have:=zI7 hlen hl hr0;have:=(zA HN).2 i hin;omega
   clear hlen;obtain ⟨⟨y0,y1,y2,y3,y4⟩,y5⟩:=st.y;go_wp2_with fail;refine (zA HF i Y _ hin st.yb st.yp st.be).mono ?_;rintro r w3 ⟨u,rfl,hub,hup,hb3⟩;replace st:=st.bw hb3;replace hup:=hup.fits (K:=K) (hle _) (hfit _ (by omega)).1 (hfit _ (by omega)).2
   have HU:=zC hub;clear hb3 y0 y1 y2 y3 y4 y5 hub;obtain ⟨V3,hV3⟩:∃ V3,V3=zP w3 B6 u:=⟨_,rfl⟩;have X3:VrC V3 B5 X:=by rw[hV3];exact st.x.off st.ne u
   have Y3:VrC V3 B6 u:=by rw[hV3];exact st.y.put u
   have P3:SpAt V3 X K (jG f i).1 (jG f i).2:=by rw[hV3];exact st.xp.put st.y.c u
   have U3:SpAt V3 u K (f (i+1)).1 (f (i+1)).2:=by rw[hV3];exact hup.put st.y.c u
   have F3:SpC V3 W.heap.size s:=by rw[hV3];exact st.fs.off (by have:=st.l6;omega) u
   have R3:NoC V3 (W.heap.size+1):=by rw[hV3];exact st.no.off (by have:=st.l6;omega) u
   have B3:Below W.heap.size W V3:=by rw[hV3];exact zZ st.be (by have:=st.l6;omega) u
   have xb:=zC st.xb;have l5:=st.l5;have l6:=st.l6;have hne:=st.ne;have lY:=st.y.lt;have lX:=st.x.lt;obtain ⟨⟨y0,y1,y2,y3,y4⟩,y5⟩:=st.y;obtain ⟨⟨x0,x1,x2,x3,x4⟩,x5⟩:=st.x;clear st hup;go_wp2_with fail;have hV3':V3=zP w3 B6 u:=hV3;unfold zP at hV3';rw[← hV3'];clear hV3' y0 y1 y2 y3 y4 y5 x0 x1 x2 x3 x4 x5;have lX3:B5<V3.heap.size:=X3.lt;refine (zA8 _ X u K b (jG f i) (f (i+1)) P3 U3 (by omega) (zA xb)).mono ?_
   rintro r w4 ⟨v,rfl,hvb,hvp,hb4⟩;have X4:=X3.bw hb4;have Y4:=Y3.bw hb4;have U4:=U3.bw hb4;have F4:=F3.bw hb4;have R4:=R3.bw hb4;have B4:=zB B3 hb4;have e:jJ (jG f i) (f (i+1))=jG f (i+1):=rfl;rw[e] at hvp;replace hvp:=hvp.fits (K:=K) (zCB hle _) (hfitS _ (by omega)).1 (hfitS _ (by omega)).2
   have HV:=zC hvb;clear hb4 hvb X3 Y3 P3 U3 F3 R3 B3 hV3;have stn:SumSt W (zP w4 B5 v) B5 B6 b K s v u f (i+1):=⟨X4.put v,Y4.off (Ne.symm hne) v,hvp.put X4.c v,U4.put X4.c v,zA HV,zA HU,F4.off (by omega) v,R4.off (by omega) v,zZ B4 (by omega) v,l5,l6,hne⟩
   unfold zP at stn;obtain ⟨⟨x0,x1,x2,x3,x4⟩,x5⟩:=X4;go_wp2_with fail
   go_roundw
   case rel=>exact ⟨i+1,v,u,by go_num,by omega,stn⟩
   case measure=>simp[intOf];omega
  ·have hie:i=N:=by omega
   subst hie
   have hl:¬ 1<l:=by
    have h1:=(zA HN).1
    intro hl
    obtain ⟨g1,g2,g3⟩:=hlen
    by_cases hp:0<zT (f i)
    ·obtain ⟨L,e1,e2,e3⟩:=g3 hp
     have:1≤L:=by omega
     have:=zJ this;have:Q 1=2:=rfl;omega
    ·have:=g2 (by omega);omega
   clear hlen;obtain ⟨⟨y0,y1,y2,y3,y4⟩,y5⟩:=st.y;go_wp2_with fail;refine (zBH _ Y K _ _ st.yp (by omega)).mono ?_
   rintro r w3 ⟨neg3,a3,n3,c3,rfl,hZ3,hb3⟩;replace st:=st.bw hb3;clear hb3 y0 y1 y2 y3 y4 y5;obtain ⟨V3,hV3⟩:∃ V3,V3=w3.alloc (.cells #[.bool neg3,.slice a3 n3 c3] 26):=⟨_,rfl⟩;have bV:Below w3.heap.size w3 V3:=by rw[hV3];exact bl1 _ _
   have L3:NmC V3 w3.heap.size ⟨neg3,a3,n3,c3⟩:=by rw[hV3];exact yS w3 ⟨neg3,a3,n3,c3⟩ _
   have st3:=st.bw bV;have HI:=zC (hZ3.bw bV);have l5:=st.l5;have lX:=st.x.lt;have HKr:=zC (show ∀ w',Below V3.heap.size V3 w'→(w'.cell? ⟨B5,0,none⟩=some (.bool X.ln)∧w'.cell? ⟨B5,1,none⟩=some (.slice X.la X.lN X.lc)∧w'.cell? ⟨B5,2,none⟩=some (.bool X.hn)∧w'.cell? ⟨B5,3,none⟩=some (.slice X.ha X.hN X.hc)∧w'.cell? ⟨B5,4,none⟩=some (.int .i64 X.bits)∧w'.cell? ⟨w3.heap.size,0,none⟩=some (.bool neg3)∧w'.cell? ⟨w3.heap.size,1,none⟩=some (.slice a3 n3 c3)∧w'.cell? ⟨W.heap.size,4,none⟩=some (.int .i64 s.bits)) from fun w' hB=>⟨(st3.x.c.bw hB).c0,(st3.x.c.bw hB).c1,(st3.x.c.bw hB).c2,(st3.x.c.bw hB).c3,(st3.x.c.bw hB).c4,(L3.bw hB).c0,(L3.bw hB).c1,(st3.fs.bw hB).c4⟩)
   have lL:=L3.lt;have R3:=st3.no;have lR3:=R3.lt;clear st L3 hZ3;go_wp2_with fail;rw[← hV3];clear hV3;obtain ⟨x0,x1,x2,x3,x4,x5,x6,x7⟩:=zA HKr _ (Below.refl _ _);have hD0:Below V3.heap.size V3 V3.drew:=(Below.refl _ _).drew;have nR1:W.heap.size+1≠B5:=by omega
   have nR2:W.heap.size+1≠w3.heap.size:=by omega
   have nR3:W.heap.size+1≠W.heap.size:=by omega
   go_region_held3 (fun w'=>w'.cell? ⟨B5,0,none⟩=some (.bool X.ln)∧w'.cell? ⟨B5,1,none⟩=some (.slice X.la X.lN X.lc)∧w'.cell? ⟨B5,2,none⟩=some (.bool X.hn)∧w'.cell? ⟨B5,3,none⟩=some (.slice X.ha X.hN X.hc)∧w'.cell? ⟨B5,4,none⟩=some (.int .i64 X.bits)∧w'.cell? ⟨w3.heap.size,0,none⟩=some (.bool neg3)∧w'.cell? ⟨w3.heap.size,1,none⟩=some (.slice a3 n3 c3)∧w'.cell? ⟨W.heap.size,4,none⟩=some (.int .i64 s.bits)) (first|exact zA HKr _ (by with_reducible first|exact hD0|exact hD2|exact hD1)|go_keep)
    (first
     | (go_at_call 113;have hq:=hD1;refine (zA8 _ X ⟨neg4,a4,n4,c4,neg3,a3,n3,c3,s.bits⟩ (K+1) b (jG f i) (-zT (f i),zT (f i)) ((st3.xp.bw hD1).mono (by omega)) ⟨hZ4,(zA HI).bw hD1⟩ (by omega) st3.xb).mono ?_;rintro r' w5 ⟨v,rfl,hvb,hvp,hb5⟩;have hD2:=zB hD1 hb5;have HV:=zC hvb;clear hvb;obtain ⟨q0,q1,q2,q3,q4,q5⟩:=R3.bw hD2;obtain ⟨y0,y1,y2,y3,y4,y5,y6,y7⟩:=zA HKr _ hD2)
     | (go_at_call 103;refine (jY _ _ _ _ (K+1) (zT (f i)) _ ((zA HI).bw hD0) (by omega)).mono ?_;rintro r' w4 ⟨neg4,a4,n4,c4,rfl,hZ4,hb4⟩;have hD1:=zB hD0 hb4))
   all_goals
    go_wp2_with fail;refine bodyPost_ret (v:=.agg #[.bool v.ln,.slice v.la v.lN v.lc,.bool v.hn,.slice v.ha v.hN v.hc,.int .i64 v.bits]) (by simp[results,Tryz.results182,go_sem,q0,q1,q2,q3,q4]) rfl ⟨v,rfl,zA HV,?_,?_⟩
    ·exact SpAt.put5 (hvp.mono (by omega)) q0 q1 q2 q3 q4 _ _ _ _ _
    ·exact jV (zB st3.be hD2) (Nat.le_succ _) _ _ _ _ _
theorem zGH (w:World) (x y:Nm) (k b N K:Nat) (n d:Int) (hx:IntAt w x.neg x.a x.n x.cap k n) (hy:IntAt w y.neg y.a y.n y.cap k d) (hk:k≤10000000) (h1:yG n d) (hb16:16≤b) (hb:b≤1000000) (hN:jX (lnT n d b) N) (hK:Q (b+4)<P K) (hK2:K≤10000000) :
  Calls Tryz.prog 167 #[.agg #[.bool x.neg,.slice x.a x.n x.cap],.agg #[.bool y.neg,.slice y.a y.n y.cap],.int .i64 b] w (zH w b (K+7) (yJ (zQ (lnT n d b) N) 2).1 (yJ (zQ (lnT n d b) N) 2).2):=by
 obtain ⟨W,hW⟩:∃ W,W=((w.alloc (.cells #[.bool x.neg,.slice x.a x.n x.cap] 26)).alloc (.cells #[.bool y.neg,.slice y.a y.n y.cap] 26)).alloc (.cells #[.bool false,.slice none 0 0,.bool false,.slice none 0 0,.int .i64 0] 28):=⟨_,rfl⟩;have hBW:Below w.heap.size w W:=by rw[hW];exact bl3 _ _ _ _
 have X:NmC W w.heap.size x:=by rw[hW];constructor <;> simp[go_sem]
 have Y:NmC W (w.heap.size+1) y:=by rw[hW];constructor <;> simp[go_sem]
 have R:NoC W (w.heap.size+1+1):=by rw[hW];constructor <;> simp[go_sem]
 have HX:=zC (hx.bw hBW);have HY:=zC (hy.bw hBW);have lX:=X.lt;have lY:=Y.lt;have lR:=R.lt;have hnd:0<n+d:=by have:=h1.hn;have:=h1.hd;omega
 have hQb:=zG b
 have hQK:Q b*16<P K:=by
  have e:Q (b+4)=2*(2*(2*(2*Q b))):=rfl;omega
 have hza:=zJK h1 hb16;have hfitz : -P K<(zI n d b).1∧(zI n d b).2<P K:=by have:=hza.1;have:=hza.2.2.2;omega
 have hsa:=zJW h1 hb16
 have hfitq : -P K<(kJ b (zI n d b) (zI n d b)).1∧(kJ b (zI n d b) (zI n d b)).2<P K:=by
  have:=hsa.1;have:=hsa.2.2.2;have:=zJ (show b-3≤b by omega);omega
 have HFZ:=zC hfitz;have HFQ:=zC hfitq;have HZL:=zC (zDA (n:=n-d) hnd b);have H1:=zC h1;have HN:=zC hN;have HK:=zC (show ∀ w',Below W.heap.size W w'→(w'.cell? ⟨w.heap.size,0,none⟩=some (.bool x.neg)∧w'.cell? ⟨w.heap.size,1,none⟩=some (.slice x.a x.n x.cap)∧w'.cell? ⟨w.heap.size+1,0,none⟩=some (.bool y.neg)∧w'.cell? ⟨w.heap.size+1,1,none⟩=some (.slice y.a y.n y.cap)) from fun w' hB=>⟨(X.bw hB).c0,(X.bw hB).c1,(Y.bw hB).c0,(Y.bw hB).c1⟩)
 clear hx hy hza hfitz hsa hfitq h1 hN
 go_enter Tryz.func167,Tryz.ntmps167
 go_wp2;rw[← hW];clear hW;obtain ⟨x0,x1,x2,x3⟩:=zA HK _ (Below.refl _ _)
 go_cut [7] (fun p wx=>∃ (B:Nat) (u:Sp),p=.pointer (some ⟨B,0,none⟩)∧W.heap.size≤B∧VrC wx B u∧SpAt wx u K (zI n d b).1 (zI n d b).2∧u.bits=(b:Int)∧Below W.heap.size W wx)
 case first =>
  go_region_held3 (fun w'=>w'.cell? ⟨w.heap.size,0,none⟩=some (.bool x.neg)∧w'.cell? ⟨w.heap.size,1,none⟩=some (.slice x.a x.n x.cap)∧w'.cell? ⟨w.heap.size+1,0,none⟩=some (.bool y.neg)∧w'.cell? ⟨w.heap.size+1,1,none⟩=some (.slice y.a y.n y.cap)) (exact zA HK _ (by repeat' (first|with_reducible exact hBU3|with_reducible exact hBU2|with_reducible exact hBU1|with_reducible exact Below.refl _ _|with_reducible refine Below.drew ?_|with_reducible refine zK ?_ _|with_reducible refine Below.setCell ?_ (by first|exact Nat.le_refl _|exact hlU1|exact hlU2|exact hlU3) _)))
   (first
    | (go_at_call 140;have hq:=hBU2;refine (zAR _ _ _ _ _ _ _ _ _ _ b (n-d) (n+d) _ (hZU1.bw (by with_reducible first|exact Below.refl _ _|exact bl1 _ _)) (hZU2.bw (by with_reducible first|exact Below.refl _ _|exact bl1 _ _)) (by omega) hb hnd).mono ?_;rintro r wU3 ⟨vU3,rfl,hvbU3,hZU3,hbU3⟩;have HVBU3:=zC hvbU3;clear hvbU3;have hCU3:Below wU2.heap.size wU2 wU3:=(by with_reducible first|exact hbU3|exact zB (bl1 _ _) hbU3);have hBU3:=zB hBU2 hCU3;(try with_reducible have gU3:=(zO wU2 28).bw hbU3);replace hZU1:=hZU1.bw hCU3;(try replace gU1:=gU1.bw hCU3);replace hZU2:=hZU2.bw hCU3;(try replace gU2:=gU2.bw hCU3);have hlU3:=hBU3.size;(try have mU1:=gU1.lt);(try have eU1:=Nat.ne_of_lt mU1);(try have eU1':=Nat.ne_of_gt mU1);(try obtain ⟨zU10,zU11,zU12,zU13,zU14,zU15⟩:=gU1);(try have mU2:=gU2.lt);(try have eU2:=Nat.ne_of_lt mU2);(try have eU2':=Nat.ne_of_gt mU2);(try obtain ⟨zU20,zU21,zU22,zU23,zU24,zU25⟩:=gU2);(try have mU3:=gU3.lt);(try have eU3:=Nat.ne_of_lt mU3);(try have eU3':=Nat.ne_of_gt mU3);(try obtain ⟨zU30,zU31,zU32,zU33,zU34,zU35⟩:=gU3))
    | (go_at_call 65;have hq:=hBU1;refine (yQ _ _ _ _ _ _ _ _ k k n d _ ((zA HX).bw (by with_reducible first|exact hBU1|exact zK hBU1 _)) ((zA HY).bw (by with_reducible first|exact hBU1|exact zK hBU1 _)) (by omega) (by omega)).mono ?_;rintro r wU2 ⟨negU2,aU2,nU2,cU2,rfl,hZU2,hbU2⟩;have hCU2:Below wU1.heap.size wU1 wU2:=(by with_reducible first|exact hbU2|exact zB (bl1 _ _) hbU2);have hBU2:=zB hBU1 hCU2;(try with_reducible have gU2:=(zO wU1 28).bw hbU2);replace hZU1:=hZU1.bw hCU2;(try replace gU1:=gU1.bw hCU2);have hlU2:=hBU2.size)
    | (go_at_call 72;refine (zAL _ _ _ _ _ _ _ _ k k n d _ ((zA HX).bw (by with_reducible first|exact (Below.refl _ _).drew|exact (bl1 _ _).drew)) ((zA HY).bw (by with_reducible first|exact (Below.refl _ _).drew|exact (bl1 _ _).drew)) (by omega) (by omega)).mono ?_;rintro r wU1 ⟨negU1,aU1,nU1,cU1,rfl,hZU1,hbU1⟩;have hBU1:Below W.heap.size W wU1:=(by with_reducible first|exact zB (Below.refl _ _).drew hbU1|exact zB (bl1 _ _).drew hbU1);(try with_reducible have gU1:=((zO W 28).bw (Below.refl _ _).drew).bw hbU1);have hlU1:=hBU1.size))
  all_goals
   have hfinU:SpAt wU3 vU3 K (zI n d b).1 (zI n d b).2:=(hZU3.fits (K:=K) (zA HZL) (zA HFZ).1 (zA HFZ).2);go_wp2_with fail;go_meet;refine ⟨_,vU3,rfl,?_,⟨⟨?_,?_,?_,?_,?_⟩,?_⟩,?_,zA HVBU3,?_⟩
   ·first|exact Nat.le_refl _|exact hlU1|exact hlU2|exact hlU3
   ·simp[go_sem, *]
   ·simp[go_sem, *]
   ·simp[go_sem, *]
   ·simp[go_sem, *]
   ·simp[go_sem, *]
   ·intro o;simp[go_sem, *]
   ·first|with_reducible exact hfinU.bw (bl1 _ _)|with_reducible exact SpAt.put5 hfinU (by assumption) (by assumption) (by assumption) (by assumption) (by assumption) _ _ _ _ _
   ·repeat' (first|with_reducible exact hBU3|with_reducible exact hBU2|with_reducible exact hBU1|with_reducible exact Below.refl _ _|with_reducible refine Below.drew ?_|with_reducible refine zK ?_ _|with_reducible refine Below.setCell ?_ (by first|exact Nat.le_refl _|exact hlU1|exact hlU2|exact hlU3) _)
 case rest =>
 obtain ⟨BU,xU,rfl,hHU,XU,hpU,hxbU,hblU⟩:=hcut;replace R:=R.bw hblU;replace hBW:=zB hBW hblU;have lU:=XU.lt;have nRU:w.heap.size+1+1<BU:=by omega
 have lR2:=R.lt;have HXB:=zC hxbU;have HHU:=zC hpU;have FU:=XU.fz;obtain ⟨z0,z1,z2,z3,z4⟩:=XU.c;clear hxbU hpU HX HY HK x0 x1 x2 x3 hblU X Y;go_wp2_with fail;refine (zLK _ xU xU K b (zI n d b) (zI n d b) (zA HHU) (zA HHU) (by omega) (zA HXB) hb).mono ?_
 rintro r w1 ⟨v1,rfl,hvb1,hvp1,hb1⟩;replace hvp1:=hvp1.fits (K:=K) (kV b) (zA HFQ).1 (zA HFQ).2;replace XU:=XU.bw hb1;replace HHU:=zC ((zA HHU).bw hb1);replace R:=R.bw hb1;replace hBW:=zB hBW hb1;have HVB1:=zC hvb1;clear hb1 hvb1 z0 z1 z2 z3 z4 FU;obtain ⟨V,hV⟩:∃ V,V=w1.alloc (.cells #[.bool v1.ln,.slice v1.la v1.lN v1.lc,.bool v1.hn,.slice v1.ha v1.hN v1.hc,.int .i64 v1.bits] 28):=⟨_,rfl⟩;have bV:Below w1.heap.size w1 V:=by rw[hV];exact bl1 _ _
 have S1:SpC V w1.heap.size v1:=by rw[hV];exact yP w1 v1 _
 have HVP1:=zC (hvp1.bw bV);have lU3:=XU.lt;have Z:=zC (XU.c);obtain ⟨z0,z1,z2,z3,z4⟩:=XU.c;replace XU:=XU.bw bV;have lR3:=R.lt;replace R:=R.bw bV;replace HHU:=zC ((zA HHU).bw bV);replace hBW:=zB hBW bV;clear hvp1 bV;have HT0:=zC (zFG (zA H1) hb16);have HLT:=zC (zLH (zA H1) b)
 have HFIT:Hid (∀ j,j≤N → -P K<(lnT n d b j).1∧(lnT n d b j).2<P K):=zC (fun j _=>by
  obtain ⟨g1,g2,g3,g4⟩:=zA HT0 j;have:=zJ (show b-3*j≤b by omega)
  omega)
 have HFITS:Hid (∀ j,j≤N → -P K<(jG (lnT n d b) j).1∧(jG (lnT n d b) j).2<P K):=zC (fun j hj=>by
  obtain ⟨g1,g2,g3,g4⟩:=zGY (s:=3) (by omega) (zA HT0) (zA HN) j hj
  have:=zG (b-3*j)
  omega)
 have hNb:N≤1000000000:=by
  obtain ⟨N',n1,n2⟩:=zCY (s:=3) (by omega) (zA HT0)
  have:N≤N':=Nat.not_lt.1 fun hlt=>by have:=(zA HN).2 N' hlt;have:=n2.1;omega
  omega
 go_wp2_with fail;rw[← hV];clear hV;refine (sum_ln _ (lnT n d b) N b K (K+K+8+4+10) xU _ (zA HHU) (zA HXB) hb (by omega) (by omega) (zA HN) hNb (zA HLT) (zA HFIT) (zA HFITS) (fun j u w' hj hub hup hbw=>?_)).mono ?_
 ·have e:=ln1_iv w' w1.heap.size u v1 K b ((j:Int)+1) (lnT n d b j) (kJ b (zI n d b) (zI n d b)) hup ((zA HVP1).bw hbw) (S1.bw hbw) (by omega) hub hb (by omega) (by omega)
  have e1:2*((j:Int)+1)-1=2*(j:Int)+1:=by omega
  have e2:2*((j:Int)+1)+1=2*(j:Int)+3:=by omega
  rw[e1,e2] at e;exact e
 rintro r w2 ⟨v2,rfl,hvb2,hvp2,hb2⟩;replace R:=R.bw hb2;replace hBW:=zB hBW hb2;have HV2:=zC hvb2;clear hvb2 hb2;have lR4:=R.lt;obtain ⟨V2,hV2⟩:∃ V2,V2=w2.alloc (.cells #[.bool v2.ln,.slice v2.la v2.lN v2.lc,.bool v2.hn,.slice v2.ha v2.hN v2.hc,.int .i64 v2.bits] 28):=⟨_,rfl⟩;have bV2:Below w2.heap.size w2 V2:=by rw[hV2];exact bl1 _ _
 replace hvp2:=hvp2.bw bV2;replace R:=R.bw bV2;replace hBW:=zB hBW bV2;go_wp2_with fail;rw[← hV2];clear hV2 bV2;refine (zG7 _ v2 (K+3) b 2 _ hvp2 (by omega) (zA HV2) (by omega) (by omega)).mono ?_
 rintro r w3 ⟨v,rfl,hvb,hvp,hb3⟩;obtain ⟨q0,q1,q2,q3,q4,q5⟩:=R.bw hb3;replace hBW:=zB hBW hb3;have HV:=zC hvb;clear hvb;go_wp2_with fail;refine bodyPost_ret (v:=.agg #[.bool v.ln,.slice v.la v.lN v.lc,.bool v.hn,.slice v.ha v.hN v.hc,.int .i64 v.bits]) (by simp[results,Tryz.results167,go_sem,q0,q1,q2,q3,q4]) rfl ⟨v,rfl,zA HV,?_,?_⟩
 ·exact SpAt.put5 (hvp.mono (by omega)) q0 q1 q2 q3 q4 _ _ _ _ _
 ·exact jV hBW (by omega) _ _ _ _ _
theorem NoC.offI {w:World} {B B':Nat} (h:NoC w B) (hne:B≠B') (u0 u1:Value):NoC ((w.setCell ⟨B',0,none⟩ u0).setCell ⟨B',1,none⟩ u1) B:=by
 obtain ⟨q0,q1,q2,q3,q4,q5⟩:=h;exact ⟨by simp[go_sem,q0,hne,Ne.symm hne],by simp[go_sem,q1,hne,Ne.symm hne],by simp[go_sem,q2,hne,Ne.symm hne],by simp[go_sem,q3,hne,Ne.symm hne],by simp[go_sem,q4,hne,Ne.symm hne],zAT q5 _ _⟩
theorem zBC (w:World) (x y:Nm) (k b K:Nat) (n d:Int) (hx:IntAt w x.neg x.a x.n x.cap k n) (hy:IntAt w y.neg y.a y.n y.cap k d) (hk:k≤100000) (hn:0<n) (hd:0<d) (hb16:16≤b) (hb:b≤1000000) (hK:Q (b+4)<P K) (hK2:K≤10000000) :
  Calls Tryz.prog 116 #[.agg #[.bool x.neg,.slice x.a x.n x.cap],.agg #[.bool y.neg,.slice y.a y.n y.cap],.int .i64 b] w (fun r w'=>∃ (n' d' c:Int) (N N2:Nat),Bal n d n' d' c ∧ -(16*k+1)≤c∧c≤16*k+1∧jX (lnT n' d' b) N∧jX (lnT 2 1 b) N2∧zH w b (K+20) (zFS (zQ (lnT n' d' b) N) (zQ (lnT 2 1 b) N2) c).1 (zFS (zQ (lnT n' d' b) N) (zQ (lnT 2 1 b) N2) c).2 r w'):=by
 obtain ⟨W,hW⟩:∃ W,W=((w.alloc (.cells #[.bool x.neg,.slice x.a x.n x.cap] 26)).alloc (.cells #[.bool y.neg,.slice y.a y.n y.cap] 26)).alloc (.cells #[.bool false,.slice none 0 0,.bool false,.slice none 0 0,.int .i64 0] 28):=⟨_,rfl⟩;have hBW:Below w.heap.size w W:=by rw[hW];exact bl3 _ _ _ _
 have X:NmC W w.heap.size x:=by rw[hW];constructor <;> simp[go_sem]
 have FX:∀ o,W.frozen? ⟨w.heap.size,o,none⟩=false:=by rw[hW];intro o;simp[go_sem]
 have Y:NmC W (w.heap.size+1) y:=by rw[hW];constructor <;> simp[go_sem]
 have FY:∀ o,W.frozen? ⟨w.heap.size+1,o,none⟩=false:=by rw[hW];intro o;simp[go_sem]
 have R:NoC W (w.heap.size+1+1):=by rw[hW];constructor <;> simp[go_sem]
 have HX:=zC (hx.bw hBW);have HY:=zC (hy.bw hBW);have lX:=X.lt;have lY:=Y.lt;clear hx hy
 go_enter Tryz.func116,Tryz.ntmps116
 go_wp2_with fail;rw[← hW];clear hW;refine (zIM _ x y k n d (zA HX) (zA HY) hn hd (by omega)).mono ?_
 rintro r w1 ⟨U,T,n',d',c,rfl,hbal,hc1,hc2,iU,iT,hb1⟩;have FX1:∀ o,w1.frozen? ⟨w.heap.size,o,none⟩=false:=fun o=>(hb1.frozen (p:=⟨w.heap.size,o,none⟩) lX).trans (FX o)
 have FY1:∀ o,w1.frozen? ⟨w.heap.size+1,o,none⟩=false:=fun o=>(hb1.frozen (p:=⟨w.heap.size+1,o,none⟩) lY).trans (FY o)
 replace X:=X.bw hb1;replace Y:=Y.bw hb1;replace R:=R.bw hb1;replace hBW:=zB hBW hb1;have HBal:=zC hbal;clear hb1 FX FY HX HY hbal;obtain ⟨V,hV⟩:∃ V,V=(((w1.setCell ⟨w.heap.size,0,none⟩ (.bool U.neg)).setCell ⟨w.heap.size,1,none⟩ (.slice U.a U.n U.cap)).setCell ⟨w.heap.size+1,0,none⟩ (.bool T.neg)).setCell ⟨w.heap.size+1,1,none⟩ (.slice T.a T.n T.cap):=⟨_,rfl⟩
 have hE:IntAt V U.neg U.a U.n U.cap (k+k+20) n'∧IntAt V T.neg T.a T.n T.cap (k+k+20) d'∧NoC V (w.heap.size+1+1)∧Below w.heap.size w V:=by
  rw[hV];have hy1:=Y.off (B':=w.heap.size) (by omega) (.bool U.neg) (.slice U.a U.n U.cap)
  have i1:=iU.put2 X.c0 X.c1 (.bool U.neg) (.slice U.a U.n U.cap);have i2:=iT.put2 X.c0 X.c1 (.bool U.neg) (.slice U.a U.n U.cap);have r1:=R.offI (B':=w.heap.size) (by omega) (.bool U.neg) (.slice U.a U.n U.cap)
  have b1:=zDN hBW (Nat.le_refl _) (.bool U.neg) (.slice U.a U.n U.cap);generalize (w1.setCell ⟨w.heap.size,0,none⟩ (.bool U.neg)).setCell ⟨w.heap.size,1,none⟩ (.slice U.a U.n U.cap)=V0 at *;exact ⟨i1.put2 hy1.c0 hy1.c1 _ _,i2.put2 hy1.c0 hy1.c1 _ _,r1.offI (by omega) _ _,zDN b1 (Nat.le_succ _) _ _⟩
 obtain ⟨jU,jT,R2,hB2⟩:=hE;have HJU:=zC jU;have HJT:=zC jT;obtain ⟨x0,x1⟩:=X;obtain ⟨y0,y1⟩:=Y;have lX1:w.heap.size<w1.heap.size:=World.block_lt_of_cell? w1 ⟨w.heap.size,0,none⟩ x0;have lY1:w.heap.size+1<w1.heap.size:=World.block_lt_of_cell? w1 ⟨w.heap.size+1,0,none⟩ y0;clear iU iT R hBW jU jT;go_wp2_with fail;rw[← hV];clear hV x0 x1 y0 y1 FX1 FY1;obtain ⟨N,hN1,hN2⟩:=zCY (s:=3) (by omega) (zFG (zA HBal).1 hb16)
 obtain ⟨N2,hN3,hN4⟩:=zCY (s:=3) (by omega) (zFG zM8 hb16)
 have HS1:=zC hN2;have HS2:=zC hN4;clear hN1 hN2 hN3 hN4;refine (zGH _ U T (k+k+20) b N K n' d' (zA HJU) (zA HJT) (by omega) (zA HBal).1 hb16 hb (zA HS1) hK hK2).mono ?_
 rintro r w3 ⟨v3,rfl,hvb3,hvp3,hb3⟩;replace R2:=R2.bw hb3;have lw3:=R2.lt;replace hB2:=zB hB2 hb3;have HV3:=zC hvb3;clear hb3 hvb3 HJU HJT;obtain ⟨V3,hV3⟩:∃ V3,V3=w3.alloc (.cells #[.bool v3.ln,.slice v3.la v3.lN v3.lc,.bool v3.hn,.slice v3.ha v3.hN v3.hc,.int .i64 v3.bits] 28):=⟨_,rfl⟩;have bV3:Below w3.heap.size w3 V3:=by rw[hV3];exact bl1 _ _
 have C3:SpC V3 w3.heap.size v3:=by rw[hV3];exact yP w3 v3 _
 replace hvp3:=hvp3.bw bV3;replace R2:=R2.bw bV3;replace hB2:=zB hB2 bV3;clear bV3;go_wp2_with fail;rw[← hV3];clear hV3;refine (zD 2 _ (by decide) (by decide)).mono ?_
 rintro r w4 ⟨neg4,a4,n4,c4,rfl,hZ4,hb4⟩;replace C3:=C3.bw hb4;replace hvp3:=hvp3.bw hb4;replace R2:=R2.bw hb4;replace hB2:=zB hB2 hb4;clear hb4;go_wp2_with fail;refine (zD 1 _ (by decide) (by decide)).mono ?_
 rintro r w5 ⟨neg5,a5,n5,c5,rfl,hZ5,hb5⟩;replace C3:=C3.bw hb5;replace hvp3:=hvp3.bw hb5;replace R2:=R2.bw hb5;replace hB2:=zB hB2 hb5;replace hZ4:=hZ4.bw hb5;clear hb5;go_wp2_with fail;refine (zGH _ ⟨neg4,a4,n4,c4⟩ ⟨neg5,a5,n5,c5⟩ 4 b N2 K 2 1 hZ4 hZ5 (by omega) zM8 hb16 hb (zA HS2) hK hK2).mono ?_
 rintro r w6 ⟨v6,rfl,hvb6,hvp6,hb6⟩;have lC3:=C3.lt;have l36:w3.heap.size<w6.heap.size:=Nat.lt_of_lt_of_le lC3 hb6.size;replace C3:=C3.bw hb6;replace hvp3:=hvp3.bw hb6;replace R2:=R2.bw hb6;replace hB2:=zB hB2 hb6;have HV6:=zC hvb6;clear hb6 hvb6 hZ4 hZ5;obtain ⟨V6,hV6⟩:∃ V6,V6=w6.alloc (.cells #[.bool v6.ln,.slice v6.la v6.lN v6.lc,.bool v6.hn,.slice v6.ha v6.hN v6.hc,.int .i64 v6.bits] 28):=⟨_,rfl⟩;have bV6:Below w6.heap.size w6 V6:=by rw[hV6];exact bl1 _ _
 have C6:SpC V6 w6.heap.size v6:=by rw[hV6];exact yP w6 v6 _
 replace C3:=C3.bw bV6;have HP6:=zC (hvp6.bw bV6);have HP3:=zC (hvp3.bw bV6);replace R2:=R2.bw bV6;replace hB2:=zB hB2 bV6;have lR2:=R2.lt;have HKr:=zC (show ∀ w',Below V6.heap.size V6 w'→(w'.cell? ⟨w3.heap.size,0,none⟩=some (.bool v3.ln)∧w'.cell? ⟨w3.heap.size,1,none⟩=some (.slice v3.la v3.lN v3.lc)∧w'.cell? ⟨w3.heap.size,2,none⟩=some (.bool v3.hn)∧w'.cell? ⟨w3.heap.size,3,none⟩=some (.slice v3.ha v3.hN v3.hc)∧w'.cell? ⟨w3.heap.size,4,none⟩=some (.int .i64 v3.bits)∧w'.cell? ⟨w6.heap.size,0,none⟩=some (.bool v6.ln)∧w'.cell? ⟨w6.heap.size,1,none⟩=some (.slice v6.la v6.lN v6.lc)∧w'.cell? ⟨w6.heap.size,2,none⟩=some (.bool v6.hn)∧w'.cell? ⟨w6.heap.size,3,none⟩=some (.slice v6.ha v6.hN v6.hc)∧w'.cell? ⟨w6.heap.size,4,none⟩=some (.int .i64 v6.bits)) from fun w' hB=>⟨(C3.bw hB).c0,(C3.bw hB).c1,(C3.bw hB).c2,(C3.bw hB).c3,(C3.bw hB).c4,(C6.bw hB).c0,(C6.bw hB).c1,(C6.bw hB).c2,(C6.bw hB).c3,(C6.bw hB).c4⟩)
 have hD0:Below V6.heap.size V6 V6.drew:=(Below.refl _ _).drew;have l3:=C3.lt;have l6:=C6.lt;have m1:w.heap.size+1+1≠w3.heap.size:=by omega
 have m2:w.heap.size+1+1≠w6.heap.size:=by omega
 have m3:w3.heap.size≠w.heap.size+1+1:=by omega
 have m4:w6.heap.size≠w.heap.size+1+1:=by omega
 clear hvp3 hvp6 bV6 C3 C6;have hkk:k≤100000:=hk
 by_cases hcz:c<0
 ·go_wp2_with fail
  rw[← hV6];clear hV6;obtain ⟨e0,e1,e2,e3,e4,e5,e6,e7,e8,e9⟩:=zA HKr _ (Below.refl _ _);have HWC:=zC (show IntKind.i64.wrap (-c) = -c from jO _ (by omega) (by omega))
  go_region_held3 (fun w'=>w'.cell? ⟨w3.heap.size,0,none⟩=some (.bool v3.ln)∧w'.cell? ⟨w3.heap.size,1,none⟩=some (.slice v3.la v3.lN v3.lc)∧w'.cell? ⟨w3.heap.size,2,none⟩=some (.bool v3.hn)∧w'.cell? ⟨w3.heap.size,3,none⟩=some (.slice v3.ha v3.hN v3.hc)∧w'.cell? ⟨w3.heap.size,4,none⟩=some (.int .i64 v3.bits)∧w'.cell? ⟨w6.heap.size,0,none⟩=some (.bool v6.ln)∧w'.cell? ⟨w6.heap.size,1,none⟩=some (.slice v6.la v6.lN v6.lc)∧w'.cell? ⟨w6.heap.size,2,none⟩=some (.bool v6.hn)∧w'.cell? ⟨w6.heap.size,3,none⟩=some (.slice v6.ha v6.hN v6.hc)∧w'.cell? ⟨w6.heap.size,4,none⟩=some (.int .i64 v6.bits)) (first|exact zA HKr _ (by with_reducible first|exact hD0|exact hD2|exact hD1)|go_keep)
   (first
    | (go_at_call 118;have hq:=hD1;refine (zKY _ v3 v7 (K+11) b (yJ (zQ (lnT n' d' b) N) 2) (yJ (yJ (zQ (lnT 2 1 b) N2) 2) (-c)) (((zA HP3).bw hD1).mono (by omega)) (hvp7.mono (by omega)) (by omega) (zA HV3)).mono ?_;rintro r' w8 ⟨v,rfl,hvb,hvp,hb8⟩;have hD2:=zB hD1 hb8;have HV:=zC hvb;clear hvb;obtain ⟨q0,q1,q2,q3,q4,q5⟩:=R2.bw hD2;obtain ⟨z0,z1,z2,z3,z4,z5,z6,z7,z8,z9⟩:=zA HKr _ hD2)
    | (go_at_call 161;rw[zA HWC];refine (zG7 _ v6 (K+7) b (-c) (yJ (zQ (lnT 2 1 b) N2) 2) ((zA HP6).bw hD0) (by omega) (zA HV6) (by omega) (by omega)).mono ?_;rintro r' w7 ⟨v7,rfl,hvb7,hvp7,hb7⟩;have HV7:=zC hvb7;clear hvb7;have hD1:=zB hD0 hb7))
  all_goals
   go_wp2_with fail;refine bodyPost_ret (v:=.agg #[.bool v.ln,.slice v.la v.lN v.lc,.bool v.hn,.slice v.ha v.hN v.hc,.int .i64 v.bits]) (by simp[results,Tryz.results116,go_sem,q0,q1,q2,q3,q4]) rfl ⟨n',d',c,N,N2,zA HBal,hc1,hc2,zA HS1,zA HS2,v,rfl,zA HV,?_,?_⟩
   ·refine SpAt.put5 ?_ q0 q1 q2 q3 q4 _ _ _ _ _
    unfold zFS;rw[if_pos hcz];exact hvp.mono (by omega)
   ·exact jV (zB hB2 hD2) (by omega) _ _ _ _ _
 ·go_wp2_with fail
  rw[← hV6];clear hV6;obtain ⟨e0,e1,e2,e3,e4,e5,e6,e7,e8,e9⟩:=zA HKr _ (Below.refl _ _);have hcz':¬ c<0:=by omega
  go_region_held3 (fun w'=>w'.cell? ⟨w3.heap.size,0,none⟩=some (.bool v3.ln)∧w'.cell? ⟨w3.heap.size,1,none⟩=some (.slice v3.la v3.lN v3.lc)∧w'.cell? ⟨w3.heap.size,2,none⟩=some (.bool v3.hn)∧w'.cell? ⟨w3.heap.size,3,none⟩=some (.slice v3.ha v3.hN v3.hc)∧w'.cell? ⟨w3.heap.size,4,none⟩=some (.int .i64 v3.bits)∧w'.cell? ⟨w6.heap.size,0,none⟩=some (.bool v6.ln)∧w'.cell? ⟨w6.heap.size,1,none⟩=some (.slice v6.la v6.lN v6.lc)∧w'.cell? ⟨w6.heap.size,2,none⟩=some (.bool v6.hn)∧w'.cell? ⟨w6.heap.size,3,none⟩=some (.slice v6.ha v6.hN v6.hc)∧w'.cell? ⟨w6.heap.size,4,none⟩=some (.int .i64 v6.bits)) (first|exact zA HKr _ (by with_reducible first|exact hD0|exact hD2|exact hD1)|go_keep)
   (first
    | (go_at_call 113;have hq:=hD1;refine (zA8 _ v3 v7 (K+11) b (yJ (zQ (lnT n' d' b) N) 2) (yJ (yJ (zQ (lnT 2 1 b) N2) 2) c) (((zA HP3).bw hD1).mono (by omega)) (hvp7.mono (by omega)) (by omega) (zA HV3)).mono ?_;rintro r' w8 ⟨v,rfl,hvb,hvp,hb8⟩;have hD2:=zB hD1 hb8;have HV:=zC hvb;clear hvb;obtain ⟨q0,q1,q2,q3,q4,q5⟩:=R2.bw hD2;obtain ⟨z0,z1,z2,z3,z4,z5,z6,z7,z8,z9⟩:=zA HKr _ hD2)
    | (go_at_call 161;refine (zG7 _ v6 (K+7) b c (yJ (zQ (lnT 2 1 b) N2) 2) ((zA HP6).bw hD0) (by omega) (zA HV6) (by omega) (by omega)).mono ?_;rintro r' w7 ⟨v7,rfl,hvb7,hvp7,hb7⟩;have HV7:=zC hvb7;clear hvb7;have hD1:=zB hD0 hb7))
  all_goals
   go_wp2_with fail;refine bodyPost_ret (v:=.agg #[.bool v.ln,.slice v.la v.lN v.lc,.bool v.hn,.slice v.ha v.hN v.hc,.int .i64 v.bits]) (by simp[results,Tryz.results116,go_sem,q0,q1,q2,q3,q4]) rfl ⟨n',d',c,N,N2,zA HBal,hc1,hc2,zA HS1,zA HS2,v,rfl,zA HV,?_,?_⟩
   ·refine SpAt.put5 ?_ q0 q1 q2 q3 q4 _ _ _ _ _
    unfold zFS;rw[if_neg (show ¬ c<0 by omega)]
    exact hvp.mono (by omega)
   ·exact jV (zB hB2 hD2) (by omega) _ _ _ _ _
open Ex
structure IcC (w:World) (B:Nat) (v:Int):Prop where
 c0:w.cell? ⟨B,0,none⟩=some (.int .i64 v)
theorem IcC.lt {w:World} {B:Nat} {v:Int} (h:IcC w B v):B<w.heap.size:=World.block_lt_of_cell? w ⟨B,0,none⟩ h.c0
theorem IcC.bw {w w':World} {B:Nat} {v:Int} (h:IcC w B v) (hb:Below w.heap.size w w'):IcC w' B v:=⟨(hb.cell (p:=⟨B,0,none⟩) h.lt).trans h.c0⟩
theorem ga1_iv (w:World) (B0 B1 B2:Nat) (s:Sp) (x d n:Int) (k b:Nat) (j:Int) (a:Int × Int) (hs:SpAt w s k a.1 a.2) (X:IcC w B0 x) (D:IcC w B1 d) (Z:IcC w B2 n) (hk:k≤100000000) (hb:s.bits=(b:Int)) (hx:0≤x*d) (hx2:x*d≤9223372036854775807) (hj:0≤j*d) (hj2:j*d≤4611686018427387904) (hn:0<n) (hn2:n≤4611686018427387903) :
  Calls Tryz.prog 165 #[.agg #[.bool s.ln,.slice s.la s.lN s.lc,.bool s.hn,.slice s.ha s.hN s.hc,.int .i64 s.bits],.int .i64 j,.pointer (some ⟨B0,0,none⟩),.pointer (some ⟨B1,0,none⟩),.pointer (some ⟨B2,0,none⟩)] w (zH w b (k+4+10) (zE a (x*d) (n+j*d)).1 (zE a (x*d) (n+j*d)).2):=by
 obtain ⟨W,hW⟩:∃ W,W=(w.alloc (.cells #[.bool s.ln,.slice s.la s.lN s.lc,.bool s.hn,.slice s.ha s.hN s.hc,.int .i64 s.bits] 28)).alloc (.cells #[.bool false,.slice none 0 0,.bool false,.slice none 0 0,.int .i64 0] 28):=⟨_,rfl⟩;have hBW:Below w.heap.size w W:=by rw[hW];exact bl2 _ _ _
 have A:SpC W w.heap.size s:=by rw[hW];constructor <;> simp[go_sem]
 have R:NoC W (w.heap.size+1):=by rw[hW];constructor <;> simp[go_sem]
 have HS:=zC (hs.bw hBW);have l0:=X.lt;have l1:=D.lt;have l2:=Z.lt;replace X:=X.bw hBW;replace D:=D.bw hBW;replace Z:=Z.bw hBW;have HB:=zC hb;have lR:=R.lt;have lA:=A.lt;have HE1:=zC (show IntKind.i64.wrap (x*d)=x*d from jO _ (by omega) (by omega))
 have HE2:=zC (show IntKind.i64.wrap (j*d)=j*d from jO _ (by omega) (by omega))
 have HE3:=zC (show IntKind.i64.wrap (n+j*d)=n+j*d from jO _ (by omega) (by omega))
 have HQ1:=zC (show -9223372036854775808≤x*d∧x*d≤9223372036854775807 from ⟨by omega,by omega⟩)
 have HQ2:=zC (show -9223372036854775808≤n+j*d∧n+j*d≤9223372036854775807 from ⟨by omega,by omega⟩)
 have HQ3:=zC (show 0<n+j*d by omega)
 clear hs hb hx hx2 hj hj2 hn hn2;have hB0:Below W.heap.size W W.drew:=(Below.refl _ _).drew;have HK:=zC (show ∀ w',Below W.heap.size W w'→(w'.cell? ⟨w.heap.size,0,none⟩=some (.bool s.ln)∧w'.cell? ⟨w.heap.size,1,none⟩=some (.slice s.la s.lN s.lc)∧w'.cell? ⟨w.heap.size,2,none⟩=some (.bool s.hn)∧w'.cell? ⟨w.heap.size,3,none⟩=some (.slice s.ha s.hN s.hc)∧w'.cell? ⟨w.heap.size,4,none⟩=some (.int .i64 s.bits)∧w'.cell? ⟨B0,0,none⟩=some (.int .i64 x)∧w'.cell? ⟨B1,0,none⟩=some (.int .i64 d)∧w'.cell? ⟨B2,0,none⟩=some (.int .i64 n)) from fun w' hB=>⟨(A.bw hB).c0,(A.bw hB).c1,(A.bw hB).c2,(A.bw hB).c3,(A.bw hB).c4,(X.bw hB).c0,(D.bw hB).c0,(Z.bw hB).c0⟩)
 clear X D Z
 go_enter Tryz.func165,Tryz.ntmps165
 go_wp2;rw[← hW];clear hW;have nB0:w.heap.size+1≠B0:=by omega
 have nB1:w.heap.size+1≠B1:=by omega
 have nB2:w.heap.size+1≠B2:=by omega
 obtain ⟨x0,x1,x2,x3,x4,x5,x6,x7⟩:=zA HK _ (Below.refl _ _)
 go_region_held3 (fun w'=>w'.cell? ⟨w.heap.size,0,none⟩=some (.bool s.ln)∧w'.cell? ⟨w.heap.size,1,none⟩=some (.slice s.la s.lN s.lc)∧w'.cell? ⟨w.heap.size,2,none⟩=some (.bool s.hn)∧w'.cell? ⟨w.heap.size,3,none⟩=some (.slice s.ha s.hN s.hc)∧w'.cell? ⟨w.heap.size,4,none⟩=some (.int .i64 s.bits)∧w'.cell? ⟨B0,0,none⟩=some (.int .i64 x)∧w'.cell? ⟨B1,0,none⟩=some (.int .i64 d)∧w'.cell? ⟨B2,0,none⟩=some (.int .i64 n)) (first|exact zA HK _ (by with_reducible first|exact hB0|exact hB3|exact hB2|exact hB1)|go_keep)
  (first
   | (go_at_call 143;have hq:=hB2;refine (zC8 _ s ⟨neg1,a1,n1,c1⟩ ⟨neg2,a2,n2,c2⟩ k 4 _ b a (x*d) (n+j*d) ((zA HS).bw hB2) (hZ1.bw hb2) hZ2 (by omega) (by omega) (zA HQ3) (zA HB)).mono ?_;rintro r w3 ⟨t,rfl,htb,htp,hb3⟩;have HT:=zC htb;clear htb;have hB3:=zB hB2 hb3;obtain ⟨q0,q1,q2,q3,q4,q5⟩:=R.bw hB3;obtain ⟨i0,i1,i2,i3,i4,i5,i6,i7⟩:=zA HK _ hB3)
   | (go_at_call 43;have hq:=hB1;(first|rw[zA HE2,zA HE3]|rw[zA HE3]);refine (zD (n+j*d) _ (zA HQ2).1 (zA HQ2).2).mono ?_;rintro r w2 ⟨neg2,a2,n2,c2,rfl,hZ2,hb2⟩;have hB2:=zB hB1 hb2)
   | (go_at_call 43;rw[zA HE1];refine (zD (x*d) _ (zA HQ1).1 (zA HQ1).2).mono ?_;rintro r w1 ⟨neg1,a1,n1,c1,rfl,hZ1,hb1⟩;have hB1:=zB hB0 hb1))
 all_goals
  go_wp2;refine bodyPost_ret (v:=.agg #[.bool t.ln,.slice t.la t.lN t.lc,.bool t.hn,.slice t.ha t.hN t.hc,.int .i64 t.bits]) (by simp[results,Tryz.results165,go_sem,q0,q1,q2,q3,q4]) rfl ⟨t,rfl,zA HT,?_,?_⟩
  ·exact SpAt.put5 htp q0 q1 q2 q3 q4 _ _ _ _ _
  ·exact jV (zB hBW hB3) (Nat.le_succ _) _ _ _ _ _
theorem rise_ga (p1 p2 p3:Value) (f:Nat→Int × Int) (turn N b K KF:Nat) (s:Sp) (W:World) (hs:SpAt W s K (f 0).1 (f 0).2) (hbits:s.bits=(b:Int)) (hb:b≤1000000) (hK:K≤100000000) (hK4:4≤K) (hKF:KF≤900000000) (hN:zBV f turn N) (hNb:N≤1000000000) (htn:turn≤1000000000)
  (hle:∀ n,(f n).1≤(f n).2) (h0:∀ n,0≤(f n).1) (hfit:∀ n,n≤N → -P K<(f n).1∧(f n).2<P K) (hfitS:∀ n,n≤N → -P K<(jG f n).1∧(jG f n).2<P K)
  (hF:∀ (n:Nat) (u:Sp) w',n<N→u.bits=(b:Int)→SpAt w' u K (f n).1 (f n).2→Below W.heap.size W w'→Calls Tryz.prog 165 #[.agg #[.bool u.ln,.slice u.la u.lN u.lc,.bool u.hn,.slice u.ha u.hN u.hc,.int .i64 u.bits],.int .i64 ((n:Int)+1),p1,p2,p3] w' (zH w' b KF (f (n+1)).1 (f (n+1)).2)) :
  Calls Tryz.prog 141 #[.agg #[.bool s.ln,.slice s.la s.lN s.lc,.bool s.hn,.slice s.ha s.hN s.hc,.int .i64 s.bits],.int .i64 turn,.func (.func 165) #[] #[p1,p2,p3]] W (zH W b (K+3) (zAY f N).1 (zAY f N).2):=by
 have HF:=zC hF;have HN:=zC hN;have HBT:=zC hbits;have H0:=zC h0;clear hF hN hbits h0;obtain ⟨V,hV⟩:∃ V,V=(W.alloc (.cells #[.bool s.ln,.slice s.la s.lN s.lc,.bool s.hn,.slice s.ha s.hN s.hc,.int .i64 s.bits] 28)).alloc (.cells #[.bool false,.slice none 0 0,.bool false,.slice none 0 0,.int .i64 0] 28):=⟨_,rfl⟩;have hBV:Below W.heap.size W V:=by rw[hV];exact bl2 _ _ _
 have A:SpC V W.heap.size s:=by rw[hV];constructor <;> simp[go_sem]
 have R:NoC V (W.heap.size+1):=by rw[hV];constructor <;> simp[go_sem]
 have HS:=zC (hs.bw hBV);have lA:=A.lt;have lR:=R.lt;clear hs
 go_enter Tryz.func141,Tryz.ntmps141
 go_wp2;rw[← hV];clear hV
 go_cut [7,8] (fun p q wx=>TwoS V wx s s p q)
 case first =>
  obtain ⟨x0,x1,x2,x3,x4⟩:=A
  go_region
  all_goals
   go_wp2_with fail;go_meet
   first
    | with_reducible exact zHF _ _ _ _
    | with_reducible exact zKE _ _ _ _
 case rest =>
 obtain ⟨B5,B6,rfl,rfl,l5,l6,hne,X,Y,hB⟩:=hcut;have n5:W.heap.size+1<B5:=by omega
 have n6:W.heap.size+1<B6:=by omega
 have st0:SumSt W wc B5 B6 b K s s s f 0:=⟨X,Y,(zA HS).bw hB,(zA HS).bw hB,zA HBT,zA HBT,A.bw hB,R.bw hB,zB hBV hB,n5,n6,hne⟩;clear X Y hB A R HS l5 l6 n5 n6 hne hBV lA lR;go_wp2_with fail
 go_loopw [9] (fun nn wr=>∃ (i:Nat) (X Y:Sp),nn=.int .i64 ((i:Int)+1)∧i≤N∧SumSt W wr B5 B6 b K s X Y f i) (fun nn _=>N+1-(intOf nn).toNat)
 case atStart=>exact ⟨0,s,s,rfl,Nat.zero_le _,st0⟩
 case round =>
  obtain ⟨i,X,Y,rfl,hi,st⟩:=hrel
  by_cases hit:i<turn
  ·have hin:i<N:=by have:=(zA HN).1;omega
   have hit':((i:Int)+1≤(turn:Int)):=by omega
   obtain ⟨⟨y0,y1,y2,y3,y4⟩,y5⟩:=st.y;go_wp2_with fail;refine (zA HF i Y _ hin st.yb st.yp st.be).mono ?_;rintro r w3 ⟨u,rfl,hub,hup,hb3⟩;replace st:=st.bw hb3;replace hup:=hup.fits (K:=K) (hle _) (hfit _ (by omega)).1 (hfit _ (by omega)).2
   have HU:=zC hub;clear hb3 y0 y1 y2 y3 y4 y5 hub;obtain ⟨V3,hV3⟩:∃ V3,V3=zP w3 B6 u:=⟨_,rfl⟩;have X3:VrC V3 B5 X:=by rw[hV3];exact st.x.off st.ne u
   have Y3:VrC V3 B6 u:=by rw[hV3];exact st.y.put u
   have P3:SpAt V3 X K (jG f i).1 (jG f i).2:=by rw[hV3];exact st.xp.put st.y.c u
   have U3:SpAt V3 u K (f (i+1)).1 (f (i+1)).2:=by rw[hV3];exact hup.put st.y.c u
   have F3:SpC V3 W.heap.size s:=by rw[hV3];exact st.fs.off (by have:=st.l6;omega) u
   have R3:NoC V3 (W.heap.size+1):=by rw[hV3];exact st.no.off (by have:=st.l6;omega) u
   have B3:Below W.heap.size W V3:=by rw[hV3];exact zZ st.be (by have:=st.l6;omega) u
   have xb:=zC st.xb;have l5:=st.l5;have l6:=st.l6;have hne:=st.ne;have lY:=st.y.lt;have lX:=st.x.lt;obtain ⟨⟨y0,y1,y2,y3,y4⟩,y5⟩:=st.y;obtain ⟨⟨x0,x1,x2,x3,x4⟩,x5⟩:=st.x;clear st hup;go_wp2_with fail;have hV3':V3=zP w3 B6 u:=hV3;unfold zP at hV3';rw[← hV3'];clear hV3' y0 y1 y2 y3 y4 y5 x0 x1 x2 x3 x4 x5;have lX3:B5<V3.heap.size:=X3.lt;refine (zA8 _ X u K b (jG f i) (f (i+1)) P3 U3 (by omega) (zA xb)).mono ?_
   rintro r w4 ⟨v,rfl,hvb,hvp,hb4⟩;have X4:=X3.bw hb4;have Y4:=Y3.bw hb4;have U4:=U3.bw hb4;have F4:=F3.bw hb4;have R4:=R3.bw hb4;have B4:=zB B3 hb4;have e:jJ (jG f i) (f (i+1))=jG f (i+1):=rfl;rw[e] at hvp;replace hvp:=hvp.fits (K:=K) (zCB hle _) (hfitS _ (by omega)).1 (hfitS _ (by omega)).2
   have HV:=zC hvb;clear hb4 hvb X3 Y3 P3 U3 F3 R3 B3 hV3;have stn:SumSt W (zP w4 B5 v) B5 B6 b K s v u f (i+1):=⟨X4.put v,Y4.off (Ne.symm hne) v,hvp.put X4.c v,U4.put X4.c v,zA HV,zA HU,F4.off (by omega) v,R4.off (by omega) v,zZ B4 (by omega) v,l5,l6,hne⟩
   unfold zP at stn;obtain ⟨⟨x0,x1,x2,x3,x4⟩,x5⟩:=X4;go_wp2_with fail
   go_roundw
   case rel=>exact ⟨i+1,v,u,by go_num,by omega,stn⟩
   case measure=>simp[intOf];omega
  ·have hit':¬ ((i:Int)+1≤(turn:Int)):=by omega
   obtain ⟨⟨y0,y1,y2,y3,y4⟩,y5⟩:=st.y;go_wp2_with fail;have hr0:0≤(f i).2:=by have:=zA H0 i;have:=hle i;omega
   refine (zBM _ _ _ _ _ (f i).2 _ st.yp.hi hr0).mono ?_;rintro r w2 ⟨l,hlen,rfl,hb2⟩;replace st:=st.bw hb2;clear hb2 y0 y1 y2 y3 y4 y5
   by_cases hin:i<N
   ·have hl:2<l:=by
     have h3:=(zA HN).2.2 i hin;refine Int.not_le.1 fun hl=>?_
     obtain ⟨g1,g2,g3⟩:=hlen;obtain ⟨L,e1,e2,e3⟩:=g3 (by omega)
     have:=zJ (show L+1≤2 by omega)
     have:Q 2=4:=rfl;omega
    clear hlen hr0;obtain ⟨⟨y0,y1,y2,y3,y4⟩,y5⟩:=st.y;go_wp2_with fail;refine (zA HF i Y _ hin st.yb st.yp st.be).mono ?_;rintro r w3 ⟨u,rfl,hub,hup,hb3⟩;replace st:=st.bw hb3;replace hup:=hup.fits (K:=K) (hle _) (hfit _ (by omega)).1 (hfit _ (by omega)).2
    have HU:=zC hub;clear hb3 y0 y1 y2 y3 y4 y5 hub;obtain ⟨V3,hV3⟩:∃ V3,V3=zP w3 B6 u:=⟨_,rfl⟩;have X3:VrC V3 B5 X:=by rw[hV3];exact st.x.off st.ne u
    have Y3:VrC V3 B6 u:=by rw[hV3];exact st.y.put u
    have P3:SpAt V3 X K (jG f i).1 (jG f i).2:=by rw[hV3];exact st.xp.put st.y.c u
    have U3:SpAt V3 u K (f (i+1)).1 (f (i+1)).2:=by rw[hV3];exact hup.put st.y.c u
    have F3:SpC V3 W.heap.size s:=by rw[hV3];exact st.fs.off (by have:=st.l6;omega) u
    have R3:NoC V3 (W.heap.size+1):=by rw[hV3];exact st.no.off (by have:=st.l6;omega) u
    have B3:Below W.heap.size W V3:=by rw[hV3];exact zZ st.be (by have:=st.l6;omega) u
    have xb:=zC st.xb;have l5:=st.l5;have l6:=st.l6;have hne:=st.ne;have lY:=st.y.lt;have lX:=st.x.lt;obtain ⟨⟨y0,y1,y2,y3,y4⟩,y5⟩:=st.y;obtain ⟨⟨x0,x1,x2,x3,x4⟩,x5⟩:=st.x;clear st hup;go_wp2_with fail;have hV3':V3=zP w3 B6 u:=hV3;unfold zP at hV3';rw[← hV3'];clear hV3' y0 y1 y2 y3 y4 y5 x0 x1 x2 x3 x4 x5;have lX3:B5<V3.heap.size:=X3.lt;refine (zA8 _ X u K b (jG f i) (f (i+1)) P3 U3 (by omega) (zA xb)).mono ?_
    rintro r w4 ⟨v,rfl,hvb,hvp,hb4⟩;have X4:=X3.bw hb4;have Y4:=Y3.bw hb4;have U4:=U3.bw hb4;have F4:=F3.bw hb4;have R4:=R3.bw hb4;have B4:=zB B3 hb4;have e:jJ (jG f i) (f (i+1))=jG f (i+1):=rfl;rw[e] at hvp;replace hvp:=hvp.fits (K:=K) (zCB hle _) (hfitS _ (by omega)).1 (hfitS _ (by omega)).2
    have HV:=zC hvb;clear hb4 hvb X3 Y3 P3 U3 F3 R3 B3 hV3;have stn:SumSt W (zP w4 B5 v) B5 B6 b K s v u f (i+1):=⟨X4.put v,Y4.off (Ne.symm hne) v,hvp.put X4.c v,U4.put X4.c v,zA HV,zA HU,F4.off (by omega) v,R4.off (by omega) v,zZ B4 (by omega) v,l5,l6,hne⟩
    unfold zP at stn;obtain ⟨⟨x0,x1,x2,x3,x4⟩,x5⟩:=X4;go_wp2_with fail
    go_roundw
    case rel=>exact ⟨i+1,v,u,by go_num,by omega,stn⟩
    case measure=>simp[intOf];omega
   ·have hie:i=N:=by omega
    subst hie
    have hl:¬ 2<l:=by
     have h1:=(zA HN).2.1
     intro hl
     obtain ⟨g1,g2,g3⟩:=hlen
     by_cases hp:0<(f i).2
     ·obtain ⟨L,e1,e2,e3⟩:=g3 hp
      have:=zJ (show 2≤L by omega)
      have:Q 2=4:=rfl;omega
     ·have:=g2 (by omega);omega
    clear hlen;have l5:=st.l5;have lX:=st.x.lt;have HKr:=zC (show ∀ w',Below w2.heap.size w2 w'→(w'.cell? ⟨B5,0,none⟩=some (.bool X.ln)∧w'.cell? ⟨B5,1,none⟩=some (.slice X.la X.lN X.lc)∧w'.cell? ⟨B5,2,none⟩=some (.bool X.hn)∧w'.cell? ⟨B5,3,none⟩=some (.slice X.ha X.hN X.hc)∧w'.cell? ⟨B5,4,none⟩=some (.int .i64 X.bits)∧w'.cell? ⟨W.heap.size,4,none⟩=some (.int .i64 s.bits)) from fun w' hB=>⟨(st.x.c.bw hB).c0,(st.x.c.bw hB).c1,(st.x.c.bw hB).c2,(st.x.c.bw hB).c3,(st.x.c.bw hB).c4,(st.fs.bw hB).c4⟩)
    have R3:=st.no;have lR3:=R3.lt;have ST:=zC st;clear st;go_wp2_with fail;obtain ⟨x0,x1,x2,x3,x4,x5⟩:=zA HKr _ (Below.refl _ _);have hD0:Below w2.heap.size w2 w2.drew:=(Below.refl _ _).drew;have nR1:W.heap.size+1≠B5:=by omega
    have nR3:W.heap.size+1≠W.heap.size:=by omega
    go_region_held3 (fun w'=>w'.cell? ⟨B5,0,none⟩=some (.bool X.ln)∧w'.cell? ⟨B5,1,none⟩=some (.slice X.la X.lN X.lc)∧w'.cell? ⟨B5,2,none⟩=some (.bool X.hn)∧w'.cell? ⟨B5,3,none⟩=some (.slice X.ha X.hN X.hc)∧w'.cell? ⟨B5,4,none⟩=some (.int .i64 X.bits)∧w'.cell? ⟨W.heap.size,4,none⟩=some (.int .i64 s.bits)) (first|exact zA HKr _ (by with_reducible first|exact hD0|exact hD2|exact hD1)|go_keep)
     (first
      | (go_at_call 113;have hq:=hD1;refine (zA8 _ X ⟨false,none,0,0,neg4,a4,n4,c4,s.bits⟩ K b (jG f i) (0,9) ((zA ST).xp.bw hD1) ⟨zBJ _ _,hZ4.mono hK4⟩ (by omega) (zA ST).xb).mono ?_;rintro r' w5 ⟨v,rfl,hvb,hvp,hb5⟩;have hD2:=zB hD1 hb5;have HV:=zC hvb;clear hvb;obtain ⟨q0,q1,q2,q3,q4,q5⟩:=R3.bw hD2;obtain ⟨y0,y1,y2,y3,y4,y5⟩:=zA HKr _ hD2)
      | (go_at_call 43;refine (zD 9 _ (by omega) (by omega)).mono ?_;rintro r' w4 ⟨neg4,a4,n4,c4,rfl,hZ4,hb4⟩;have hD1:=zB hD0 hb4))
    all_goals
     go_wp2_with fail;refine bodyPost_ret (v:=.agg #[.bool v.ln,.slice v.la v.lN v.lc,.bool v.hn,.slice v.ha v.hN v.hc,.int .i64 v.bits]) (by simp[results,Tryz.results141,go_sem,q0,q1,q2,q3,q4]) rfl ⟨v,rfl,zA HV,?_,?_⟩
     ·exact SpAt.put5 (hvp.mono (by omega)) q0 q1 q2 q3 q4 _ _ _ _ _
     ·exact jV (zB (zA ST).be hD2) (Nat.le_succ _) _ _ _ _ _
end Go.Proofs.YtgmnknmjainababGreat
