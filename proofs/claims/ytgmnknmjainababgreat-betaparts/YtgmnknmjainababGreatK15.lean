/-
  Its own texts.
-/
import Derived.Deep.RegionHeld3
import Derived.Test.YtgmnknmjainababGreatK14
set_option maxRecDepth 100000
set_option maxHeartbeats 40000000
set_option linter.unnecessarySimpa false
set_option linter.unusedSimpArgs false
set_option linter.unusedVariables false
namespace Go.Proofs.YtgmnknmjainababGreat
open Go.RowKit
attribute [local go_sem ↓] Go.wp_at_zero Go.wp_at_succ
theorem zDT (w:World) (s:Sp) (x y:Nm) (k k1 k2 b:Nat) (a:Int × Int) (n d:Int) (hs:SpAt w s k a.1 a.2) (h1:IntAt w x.neg x.a x.n x.cap k1 n) (h2:IntAt w y.neg y.a y.n y.cap k2 d) (hk:k<=300000000) (S7:k1<=300000000) (hd:0<d) (hb:s.bits=(b:Int)) :
  Calls Tryz.prog 143 #[.agg s.q,.agg x.q,.agg y.q] w (zJ w b (k+k1+10) (zE a n d).1 (zE a n d).2) :=
 (zIB w s _ _ _ _ _ _ _ _ k k1 k2 a.1 a.2 n d hs h1 h2 hk S7 hd).mono λ r w' h=>by rw[hb] at h;exact h
theorem ln1_iv (w:World) (B0:Nat) (s u:Sp) (k b:Nat) (n:Int) (a c:Int × Int) (hs:SpAt w s k a.1 a.2) (hu:SpAt w u k c.1 c.2) (hU:SpC w B0 u) (hk:k<=100000000) (hb:s.bits=(b:Int)) (gP:b<=1000000) (hn:1<=n) (km:n<=1000000000000) :
  Calls Tryz.prog 192 #[.agg s.q,.int .i64 n,.pointer (some ⟨B0,0,none⟩)] w (zJ w b (k+k+8+4+10) (zE (kJ b a c) (2*n-1) (2*n+1)).1 (zE (kJ b a c) (2*n-1) (2*n+1)).2):=by
 obtain⟨W,hW⟩:∃ W,W=(w.alloc (.cells s.q 28)).alloc (.cells zCq 28):=⟨_,rfl⟩;have b8:Below w.heap.size w W:=by rw[hW];exact bl2 _ _ _
 have R:NoC W (w.heap.size+1):=by rw[hW];constructor<;>simp[go_sem]
 have HS:=zC (hs.bw b8);have HU:=zC (hu.bw b8);have l0:=hU.lt;obtain⟨y0,y1,y2,y3,y4⟩:=hU;have HB:=zC hb;clear hs hu hb
 go_enter Tryz.func192,Tryz.ntmps192
 go_wp2_with fail;rw[<- hW];clear hW;refine (zLX _ s u k b a c (zA HS) (zA HU) (by omega) (zA HB) gP).mono ?_
 rintro r' w1 ⟨v,rfl,I4,H5,b7⟩;have HV:=zC I4;clear I4 y0 y1 y2 y3 y4;replace R:=R.bw b7;replace b8:=zB b8 b7;go_wp2_with fail;refine (zD (2*n-1) _ (by omega) (by omega)).mono ?_
 rintro r' w2 ⟨b6,a2,n2,c2,rfl,o0,b9⟩;replace R:=R.bw b9;replace b8:=zB b8 b9;replace H5:=H5.bw b9;go_wp2_with fail;refine (zD (2*n+1) _ (by omega) (by omega)).mono ?_
 rintro r' w3 ⟨p9,a3,n3,c3,rfl,A8,k8⟩;replace R:=R.bw k8;replace b8:=zB b8 k8;replace H5:=H5.bw k8;replace o0:=o0.bw k8;go_wp2_with fail;refine (zDT _ v ⟨b6,a2,n2,c2⟩ ⟨p9,a3,n3,c3⟩ _ _ _ b _ (2*n-1) (2*n+1) H5 o0 A8 (by omega) (by omega) (by omega) (zA HV)).mono ?_
 rintro r' w4 ⟨t,rfl,I7,Q9,m9⟩;obtain⟨q0,q1,q2,q3,q4,q5⟩:=R.bw m9;replace b8:=zB b8 m9;have HT:=zC I7;clear I7;go_wp2_with fail;refine bodyPost_ret (v:=.agg t.q) (by simp[results,Tryz.results192,go_sem,q0,q1,q2,q3,q4]) rfl ⟨t,rfl,zA HT,?_,?_⟩
 ·exact SpAt.put5 (Q9.mono (by omega)) q0 q1 q2 q3 q4 _ _ _ _ _
 ·exact kB b8 (Yh _) _ _ _ _ _
theorem sum_ln (p1:Value) (f:Nat->Int × Int) (N b K KF:Nat) (s:Sp) (W:World) (hs:SpAt W s K (f 0).1 (f 0).2) (hbits:s.bits=(b:Int)) (hb:b<=1000000) (hK:K<=100000000) (LN:KF<=900000000) (hN:kG f N) (rf:N<=1000000000)
  (hle:∀ n,(f n).1<=(f n).2) (J1:∀ n,n<=N -> -P K<(f n).1/\(f n).2<P K) (hfitS:∀ n,n<=N -> -P K<(jE f n).1/\(jE f n).2<P K)
  (hF:∀ (n:Nat) (u:Sp) w',n<N->u.bits=(b:Int)->SpAt w' u K (f n).1 (f n).2->Below W.heap.size W w'->Calls Tryz.prog 192 #[.agg u.q,.int .i64 ((n:Int)+1),p1] w' (zJ w' b KF (f (n+1)).1 (f (n+1)).2)) :
  Calls Tryz.prog 182 #[.agg s.q,.func (.func 192) #[] #[p1]] W (zJ W b (K+3) (zT f N).1 (zT f N).2):=by
 have HF:=zC hF;have HN:=zC hN;have L6:=zC hbits;clear hF hN hbits;obtain⟨V,hV⟩:∃ V,V=(W.alloc (.cells s.q 28)).alloc (.cells zCq 28):=⟨_,rfl⟩;have fo:Below W.heap.size W V:=by rw[hV];exact bl2 _ _ _
 have A:SpC V W.heap.size s:=by rw[hV];constructor<;>simp[go_sem]
 have R:NoC V (W.heap.size+1):=by rw[hV];constructor<;>simp[go_sem]
 have HS:=zC (hs.bw fo);have lA:=A.lt;have lR:=R.lt;clear hs
 go_enter Tryz.func182,Tryz.ntmps182
 go_wp2;rw[<- hV];clear hV
 go_cut [5,6] (λ p q wx=>TwoS V wx s s p q)
 case first =>
  obtain⟨x0,x1,x2,x3,x4⟩:=A
  go_region
  all_goals
   go_wp2_with fail;go_meet
   first
    | with_reducible exact zJE _ _ _ _
    | with_reducible exact zL7 _ _ _ _
 case rest =>
 obtain⟨B5,B6,rfl,rfl,l5,l6,hne,X,Y,hB⟩:=hcut;have n5:W.heap.size+1<B5:=by omega
 have n6:W.heap.size+1<B6:=by omega
 have N9:SumSt W wc B5 B6 b K s s s f 0:=⟨X,Y,(zA HS).bw hB,(zA HS).bw hB,zA L6,zA L6,A.bw hB,R.bw hB,zB fo hB,n5,n6,hne⟩;clear X Y hB A R HS l5 l6 n5 n6 hne fo lA lR;go_wp2_with fail
 go_loopw [7] (λ nn wr=>∃ (i:Nat) (X Y:Sp),nn=.int .i64 ((i:Int)+1)/\i<=N/\SumSt W wr B5 B6 b K s X Y f i) (λ nn _=>N+1-(intOf nn).toNat)
 case atStart=>exact⟨0,s,s,rfl,Nat.zero_le _,N9⟩
 case round =>
  obtain⟨i,X,Y,rfl,hi,st⟩:=hrel;have dh:=zAI (hle i);obtain⟨⟨y0,y1,y2,y3,y4⟩,y5⟩:=st.y;go_wp2_with fail;refine (zBO _ Y K _ _ st.yp (by omega)).mono ?_
  rintro r w1 ⟨g9,a1,n1,c1,rfl,k9,b7⟩;replace st:=st.bw b7;clear b7 y0 y1 y2 y3 y4 y5;go_wp2_with fail;refine (zB2 _ _ _ _ _ (zP (f i)) _ k9 dh).mono ?_;rintro r w2 ⟨l,hlen,rfl,b9⟩;replace st:=st.bw b9;clear b9 k9
  by_cases G4:i<N
  ·have hl:1<l:=by
    refine Int.not_le.1 λ hl=>?_
    have:=zKL hlen hl dh;have:=(zA HN).2 i G4;omega
   clear hlen;obtain⟨⟨y0,y1,y2,y3,y4⟩,y5⟩:=st.y;go_wp2_with fail;refine (zA HF i Y _ G4 st.yb st.yp st.be).mono ?_;rintro r w3 ⟨u,rfl,I0,E9,k8⟩;replace st:=st.bw k8;replace E9:=E9.fits (K:=K) (hle _) (J1 _ (by omega)).1 (J1 _ (by omega)).2
   have HU:=zC I0;clear k8 y0 y1 y2 y3 y4 y5 I0;obtain⟨V3,D3⟩:∃ V3,V3=zQ w3 B6 u:=⟨_,rfl⟩;have X3:VrC V3 B5 X:=by rw[D3];exact st.x.off st.ne u
   have Y3:VrC V3 B6 u:=by rw[D3];exact st.y.put u
   have P3:SpAt V3 X K (jE f i).1 (jE f i).2:=by rw[D3];exact st.xp.put st.y.c u
   have U3:SpAt V3 u K (f (i+1)).1 (f (i+1)).2:=by rw[D3];exact E9.put st.y.c u
   have F3:SpC V3 W.heap.size s:=by rw[D3];exact st.fs.off (by have:=st.l6;omega) u
   have R3:NoC V3 (W.heap.size+1):=by rw[D3];exact st.no.off (by have:=st.l6;omega) u
   have B3:Below W.heap.size W V3:=by rw[D3];exact jC st.be (by have:=st.l6;omega) u
   have xb:=zC st.xb;have l5:=st.l5;have l6:=st.l6;have hne:=st.ne;have lY:=st.y.lt;have lX:=st.x.lt;obtain⟨⟨y0,y1,y2,y3,y4⟩,y5⟩:=st.y;obtain⟨⟨x0,x1,x2,x3,x4⟩,x5⟩:=st.x;clear st E9;go_wp2_with fail;have J2:V3=zQ w3 B6 u:=D3;unfold zQ at J2;rw[<- J2];clear J2 y0 y1 y2 y3 y4 y5 x0 x1 x2 x3 x4 x5;have DP:B5<V3.heap.size:=X3.lt;refine (zA5 _ X u K b (jE f i) (f (i+1)) P3 U3 (by omega) (zA xb)).mono ?_
   rintro r w4 ⟨v,rfl,I4,H5,m9⟩;have X4:=X3.bw m9;have Y4:=Y3.bw m9;have U4:=U3.bw m9;have F4:=F3.bw m9;have R4:=R3.bw m9;have B4:=zB B3 m9;have e:jJ (jE f i) (f (i+1))=jE f (i+1):=rfl;rw[e] at H5;replace H5:=H5.fits (K:=K) (zCW hle _) (hfitS _ (by omega)).1 (hfitS _ (by omega)).2
   have HV:=zC I4;clear m9 I4 X3 Y3 P3 U3 F3 R3 B3 D3;have stn:SumSt W (zQ w4 B5 v) B5 B6 b K s v u f (i+1):=⟨X4.put v,Y4.off (Ne.symm hne) v,H5.put X4.c v,U4.put X4.c v,zA HV,zA HU,F4.off (by omega) v,R4.off (by omega) v,jC B4 (by omega) v,l5,l6,hne⟩
   unfold zQ at stn;obtain⟨⟨x0,x1,x2,x3,x4⟩,x5⟩:=X4;go_wp2_with fail
   go_roundw
   case rel=>exact⟨i+1,v,u,by go_num,by omega,stn⟩
   case measure=>simp[intOf];omega
  ·have bg:i=N:=by omega
   subst bg
   have hl:¬ 1<l:=by
    have h1:=(zA HN).1
    intro hl
    obtain⟨g1,g2,g3⟩:=hlen
    by_cases hp:0<zP (f i)
    ·obtain⟨L,e1,e2,e3⟩:=g3 hp
     have:1<=L:=by omega
     have:=zK this;have:Q 1=2:=rfl;omega
    ·have:=g2 (by omega);omega
   clear hlen;obtain⟨⟨y0,y1,y2,y3,y4⟩,y5⟩:=st.y;go_wp2_with fail;refine (zBO _ Y K _ _ st.yp (by omega)).mono ?_
   rintro r w3 ⟨p9,a3,n3,c3,rfl,A8,k8⟩;replace st:=st.bw k8;clear k8 y0 y1 y2 y3 y4 y5;obtain⟨V3,D3⟩:∃ V3,V3=w3.alloc (.cells #[.bool p9,.slice a3 n3 c3] 26):=⟨_,rfl⟩;have bV:Below w3.heap.size w3 V3:=by rw[D3];exact bl1 _ _
   have L3:NmC V3 w3.heap.size ⟨p9,a3,n3,c3⟩:=by rw[D3];exact zAK w3 ⟨p9,a3,n3,c3⟩ _
   have M7:=st.bw bV;have HI:=zC (A8.bw bV);have l5:=st.l5;have lX:=st.x.lt;have Q5:=zC (show ∀ w',Below V3.heap.size V3 w'->(cK w' B5 X (w'.cell? ⟨w3.heap.size,0,none⟩=some (.bool p9)/\w'.cell? ⟨w3.heap.size,1,none⟩=some (.slice a3 n3 c3)/\w'.cell? ⟨W.heap.size,4,none⟩=some (.int .i64 s.bits))) from λ w' hB=>⟨(M7.x.c.bw hB).c0,(M7.x.c.bw hB).c1,(M7.x.c.bw hB).c2,(M7.x.c.bw hB).c3,(M7.x.c.bw hB).c4,(L3.bw hB).c0,(L3.bw hB).c1,(M7.fs.bw hB).c4⟩)
   have lL:=L3.lt;have R3:=M7.no;have lQ:=R3.lt;clear st L3 A8;go_wp2_with fail;rw[<- D3];clear D3;obtain⟨x0,x1,x2,x3,x4,x5,x6,x7⟩:=zA Q5 _ (Below.refl _ _);have m8:Below V3.heap.size V3 V3.drew:=(Below.refl _ _).drew;have vz:W.heap.size+1≠B5:=by omega
   have rh:W.heap.size+1≠w3.heap.size:=by omega
   have IX:W.heap.size+1≠W.heap.size:=by omega
   go_region_held3 (λ w'=>cK w' B5 X (w'.cell? ⟨w3.heap.size,0,none⟩=some (.bool p9)/\w'.cell? ⟨w3.heap.size,1,none⟩=some (.slice a3 n3 c3)/\w'.cell? ⟨W.heap.size,4,none⟩=some (.int .i64 s.bits))) (first|exact zA Q5 _ (by with_reducible first|exact m8|exact j9|exact j7)|(dsimp only[cK,cK0,nK,nK0,rK,rK0];go_keep)|go_keep)
    (first
     | (go_at_call 113;have hq:=j7;refine (zA5 _ X ⟨o9,a4,n4,c4,p9,a3,n3,c3,s.bits⟩ (K+1) b (jE f i) (-zP (f i),zP (f i)) ((M7.xp.bw j7).mono (by omega)) ⟨D9,(zA HI).bw j7⟩ (by omega) M7.xb).mono ?_;rintro r' w5 ⟨v,rfl,I4,H5,A7⟩;have j9:=zB j7 A7;have HV:=zC I4;clear I4;obtain⟨q0,q1,q2,q3,q4,q5⟩:=R3.bw j9;obtain⟨y0,y1,y2,y3,y4,y5,y6,y7⟩:=zA Q5 _ j9)
     | (go_at_call 103;refine (kC _ _ _ _ (K+1) (zP (f i)) _ ((zA HI).bw m8) (by omega)).mono ?_;rintro r' w4 ⟨o9,a4,n4,c4,rfl,D9,m9⟩;have j7:=zB m8 m9))
   all_goals
    go_wp2_with fail;refine bodyPost_ret (v:=.agg v.q) (by simp[results,Tryz.results182,go_sem,q0,q1,q2,q3,q4]) rfl ⟨v,rfl,zA HV,?_,?_⟩
    ·exact SpAt.put5 (H5.mono (by omega)) q0 q1 q2 q3 q4 _ _ _ _ _
    ·exact kB (zB M7.be j9) (Yh _) _ _ _ _ _
theorem zGZ (w:World) (x y:Nm) (k b N K:Nat) (n d:Int) (hx:IntAt w x.neg x.a x.n x.cap k n) (hy:IntAt w y.neg y.a y.n y.cap k d) (hk:k<=10000000) (h1:yQ n d) (R0:16<=b) (hb:b<=1000000) (hN:kG (lnT n d b) N) (hK:Q (b+4)<P K) (Z4:K<=10000000) :
  Calls Tryz.prog 167 #[.agg x.q,.agg y.q,.int .i64 b] w (zJ w b (K+7) (yT (zT (lnT n d b) N) 2).1 (yT (zT (lnT n d b) N) 2).2):=by
 obtain⟨W,hW⟩:∃ W,W=((w.alloc (.cells x.q 26)).alloc (.cells y.q 26)).alloc (.cells zCq 28):=⟨_,rfl⟩;have b8:Below w.heap.size w W:=by rw[hW];exact bl3 _ _ _ _
 have X:NmC W w.heap.size x:=by rw[hW];constructor<;>simp[go_sem]
 have Y:NmC W (w.heap.size+1) y:=by rw[hW];constructor<;>simp[go_sem]
 have R:NoC W (w.heap.size+1+1):=by rw[hW];constructor<;>simp[go_sem]
 have HX:=zC (hx.bw b8);have HY:=zC (hy.bw b8);have lX:=X.lt;have lY:=Y.lt;have lR:=R.lt;have Cw:0<n+d:=by have:=h1.hn;have:=h1.hd;omega
 have Mh:=zG b
 have mg:Q b*16<P K:=by
  have e:Q (b+4)=2*(2*(2*(2*Q b))):=rfl;omega
 have BD:=zKU h1 R0;have hfitz : -P K<(zI n d b).1/\(zI n d b).2<P K:=by have:=BD.1;have:=BD.2.2.2;omega
 have MN:=zKV h1 R0
 have hfitq : -P K<(kJ b (zI n d b) (zI n d b)).1/\(kJ b (zI n d b) (zI n d b)).2<P K:=by
  have:=MN.1;have:=MN.2.2.2;have:=zK (show b-3<=b by omega);omega
 have Wc:=zC hfitz;have Wd:=zC hfitq;have MO:=zC (zGB (n:=n-d) Cw b);have H1:=zC h1;have HN:=zC hN;have HK:=zC (show ∀ w',Below W.heap.size W w'->(nK w' w.heap.size x (nK0 w' (w.heap.size+1) y)) from λ w' hB=>⟨(X.bw hB).c0,(X.bw hB).c1,(Y.bw hB).c0,(Y.bw hB).c1⟩)
 clear hx hy BD hfitz MN hfitq h1 hN
 go_enter Tryz.func167,Tryz.ntmps167
 go_wp2;rw[<- hW];clear hW;obtain⟨x0,x1,x2,x3⟩:=zA HK _ (Below.refl _ _)
 go_cut [7] (λ p wx=>∃ (B:Nat) (u:Sp),p=.pointer (some ⟨B,0,none⟩)/\W.heap.size<=B/\VrC wx B u/\SpAt wx u K (zI n d b).1 (zI n d b).2/\u.bits=(b:Int)/\Below W.heap.size W wx)
 case first =>
  go_region_held3 (λ w'=>nK w' w.heap.size x (nK0 w' (w.heap.size+1) y)) (exact zA HK _ (by repeat' (first|with_reducible exact dM|with_reducible exact J9|with_reducible exact F9|with_reducible exact Below.refl _ _|with_reducible refine Below.drew ?_|with_reducible refine zL ?_ _|with_reducible refine Below.setCell ?_ (by first|exact XW _|exact F6|exact H6|exact R9) _)))
   (first
    | (go_at_call 140;have hq:=J9;refine (zBM _ _ _ _ _ _ _ _ _ _ b (n-d) (n+d) _ (I9.bw (by with_reducible first|exact Below.refl _ _|exact bl1 _ _)) (R6.bw (by with_reducible first|exact Below.refl _ _|exact bl1 _ _)) (by omega) hb Cw).mono ?_;rintro r oK ⟨We,rfl,rj,mC,bz⟩;have Es:=zC rj;clear rj;have W6:Below cw.heap.size cw oK:=(by with_reducible first|exact bz|exact zB (bl1 _ _) bz);have dM:=zB J9 W6;(try with_reducible have Wf:=(zM cw 28).bw bz);replace I9:=I9.bw W6;(try replace ma:=ma.bw W6);replace R6:=R6.bw W6;(try replace vA:=vA.bw W6);have R9:=dM.size;(try have DT:=ma.lt);(try have eU1:=Yj DT);(try have LO:=Yi DT);(try obtain⟨LP,LQ,LR,LS,LV,LW⟩:=ma);(try have DV:=vA.lt);(try have eU2:=Yj DV);(try have LX:=Yi DV);(try obtain⟨LY,LZ,Ma,Mb,Mc,Md⟩:=vA);(try have Wh:=Wf.lt);(try have eU3:=Yj Wh);(try have eU3':=Yi Wh);(try obtain⟨zU30,zU31,zU32,zU33,zU34,zU35⟩:=Wf))
    | (go_at_call 65;have hq:=F9;refine (kX _ _ _ _ _ _ _ _ k k n d _ ((zA HX).bw (by with_reducible first|exact F9|exact zL F9 _)) ((zA HY).bw (by with_reducible first|exact F9|exact zL F9 _)) (by omega) (by omega)).mono ?_;rintro r cw ⟨dB,DQ,DR,DS,rfl,R6,K4⟩;have O4:Below R7.heap.size R7 cw:=(by with_reducible first|exact K4|exact zB (bl1 _ _) K4);have J9:=zB F9 O4;(try with_reducible have vA:=(zM R7 28).bw K4);replace I9:=I9.bw O4;(try replace ma:=ma.bw O4);have H6:=J9.size)
    | (go_at_call 72;refine (zAD _ _ _ _ _ _ _ _ k k n d _ ((zA HX).bw (by with_reducible first|exact (Below.refl _ _).drew|exact (bl1 _ _).drew)) ((zA HY).bw (by with_reducible first|exact (Below.refl _ _).drew|exact (bl1 _ _).drew)) (by omega) (by omega)).mono ?_;rintro r R7 ⟨mb,Me,Mf,Mg,rfl,I9,H8⟩;have F9:Below W.heap.size W R7:=(by with_reducible first|exact zB (Below.refl _ _).drew H8|exact zB (bl1 _ _).drew H8);(try with_reducible have ma:=((zM W 28).bw (Below.refl _ _).drew).bw H8);have F6:=F9.size))
  all_goals
   have hfinU:SpAt oK We K (zI n d b).1 (zI n d b).2:=(mC.fits (K:=K) (zA MO) (zA Wc).1 (zA Wc).2);go_wp2_with fail;go_meet;refine⟨_,We,rfl,?_,⟨⟨?_,?_,?_,?_,?_⟩,?_⟩,?_,zA Es,?_⟩
   ·first|exact XW _|exact F6|exact H6|exact R9
   ·simp[go_sem, *]
   ·simp[go_sem, *]
   ·simp[go_sem, *]
   ·simp[go_sem, *]
   ·simp[go_sem, *]
   ·intro o;simp[go_sem, *]
   ·first|with_reducible exact hfinU.bw (bl1 _ _)|with_reducible exact SpAt.put5 hfinU (by assumption) (by assumption) (by assumption) (by assumption) (by assumption) _ _ _ _ _
   ·repeat' (first|with_reducible exact dM|with_reducible exact J9|with_reducible exact F9|with_reducible exact Below.refl _ _|with_reducible refine Below.drew ?_|with_reducible refine zL ?_ _|with_reducible refine Below.setCell ?_ (by first|exact XW _|exact F6|exact H6|exact R9) _)
 case rest =>
 obtain⟨BU,xU,rfl,vB,XU,hpU,hxbU,hblU⟩:=hcut;replace R:=R.bw hblU;replace b8:=zB b8 hblU;have lU:=XU.lt;have nRU:w.heap.size+1+1<BU:=by omega
 have Y1:=R.lt;have oI:=zC hxbU;have mf:=zC hpU;have FU:=XU.fz;obtain⟨z0,z1,z2,z3,z4⟩:=XU.c;clear hxbU hpU HX HY HK x0 x1 x2 x3 hblU X Y;go_wp2_with fail;refine (zLX _ xU xU K b (zI n d b) (zI n d b) (zA mf) (zA mf) (by omega) (zA oI) hb).mono ?_
 rintro r w1 ⟨v1,rfl,D6,F7,b7⟩;replace F7:=F7.fits (K:=K) (yK b) (zA Wd).1 (zA Wd).2;replace XU:=XU.bw b7;replace mf:=zC ((zA mf).bw b7);replace R:=R.bw b7;replace b8:=zB b8 b7;have vC:=zC D6;clear b7 D6 z0 z1 z2 z3 z4 FU;obtain⟨V,hV⟩:∃ V,V=w1.alloc (.cells v1.q 28):=⟨_,rfl⟩;have bV:Below w1.heap.size w1 V:=by rw[hV];exact bl1 _ _
 have S1:SpC V w1.heap.size v1:=by rw[hV];exact zA0 w1 v1 _
 have pF:=zC (F7.bw bV);have lU3:=XU.lt;have Z:=zC (XU.c);obtain⟨z0,z1,z2,z3,z4⟩:=XU.c;replace XU:=XU.bw bV;have lQ:=R.lt;replace R:=R.bw bV;replace mf:=zC ((zA mf).bw bV);replace b8:=zB b8 bV;clear F7 bV;have gV:=zC (zF2 (zA H1) R0);have pE:=zC (zMY (zA H1) b)
 have P7:Hid (∀ j,j<=N -> -P K<(lnT n d b j).1/\(lnT n d b j).2<P K):=zC (λ j _=>by
  obtain⟨g1,g2,g3,g4⟩:=zA gV j;have:=zK (show b-3*j<=b by omega)
  omega)
 have K3:Hid (∀ j,j<=N -> -P K<(jE (lnT n d b) j).1/\(jE (lnT n d b) j).2<P K):=zC (λ j hj=>by
  obtain⟨g1,g2,g3,g4⟩:=zHI (s:=3) (by omega) (zA gV) (zA HN) j hj
  have:=zG (b-3*j)
  omega)
 have rf:N<=1000000000:=by
  obtain⟨N',n1,n2⟩:=zDD (s:=3) (by omega) (zA gV)
  have:N<=N':=Nat.not_lt.1 λ E4=>by have:=(zA HN).2 N' E4;have:=n2.1;omega
  omega
 go_wp2_with fail;rw[<- hV];clear hV;refine (sum_ln _ (lnT n d b) N b K (K+K+8+4+10) xU _ (zA mf) (zA oI) hb (by omega) (by omega) (zA HN) rf (zA pE) (zA P7) (zA K3) (λ j u w' hj I0 E9 dD=>?_)).mono ?_
 ·have e:=ln1_iv w' w1.heap.size u v1 K b ((j:Int)+1) (lnT n d b j) (kJ b (zI n d b) (zI n d b)) E9 ((zA pF).bw dD) (S1.bw dD) (by omega) I0 hb (by omega) (by omega)
  have e1:2*((j:Int)+1)-1=2*(j:Int)+1:=by omega
  have e2:2*((j:Int)+1)+1=2*(j:Int)+3:=by omega
  rw[e1,e2] at e;exact e
 rintro r w2 ⟨v2,rfl,G7,Y6,b9⟩;replace R:=R.bw b9;replace b8:=zB b8 b9;have oA:=zC G7;clear G7 b9;have lR4:=R.lt;obtain⟨V2,S9⟩:∃ V2,V2=w2.alloc (.cells v2.q 28):=⟨_,rfl⟩;have Y8:Below w2.heap.size w2 V2:=by rw[S9];exact bl1 _ _
 replace Y6:=Y6.bw Y8;replace R:=R.bw Y8;replace b8:=zB b8 Y8;go_wp2_with fail;rw[<- S9];clear S9 Y8;refine (zHA _ v2 (K+3) b 2 _ Y6 (by omega) (zA oA) (by omega) (by omega)).mono ?_
 rintro r w3 ⟨v,rfl,I4,H5,k8⟩;obtain⟨q0,q1,q2,q3,q4,q5⟩:=R.bw k8;replace b8:=zB b8 k8;have HV:=zC I4;clear I4;go_wp2_with fail;refine bodyPost_ret (v:=.agg v.q) (by simp[results,Tryz.results167,go_sem,q0,q1,q2,q3,q4]) rfl ⟨v,rfl,zA HV,?_,?_⟩
 ·exact SpAt.put5 (H5.mono (by omega)) q0 q1 q2 q3 q4 _ _ _ _ _
 ·exact kB b8 (by omega) _ _ _ _ _
open Go
section
variable {Pg : Program} {ops : Array Oper} {Q : Exit -> Act -> World -> Prop} {md : Region.Mode} {S : World -> Prop} {l : Nat}
def AnyL (Pg:Program) (md:Region.Mode) (ops:Array Oper) (Q:Exit->Act->World->Prop) (S:World->Prop) (l:Nat):Nat->Array Bool->Act->World->Prop
 | 0,listed,a,w=>Region.ready md ops listed=[]/\Q .normal a w
 | fuel+1,listed,a,w =>
  (Region.ready md ops listed=[]->Q .normal a w) /\
  ∀ i ∈ Region.ready md ops listed,wpOp Pg ops Q i (λ a' w'=>(i≠l->S w')/\AnyL Pg md ops Q S l fuel (listed.setIfInBounds i true) a' w') a w
theorem AnyL.any:∀ (fuel:Nat) (listed:Array Bool) (a:Act) (w:World),AnyL Pg md ops Q S l fuel listed a w->wpAny Pg md ops Q fuel listed a w
 | 0,_,_,_,h=>h
 | fuel+1,_,_,_,h=>⟨h.1,λ i hi=>wpOp_mono (λ a' w' h'=>AnyL.any fuel _ a' w' h'.2) (h.2 i hi)⟩
def zKO (md:Region.Mode) (ops:Array Oper) (l i:Nat):Bool :=
 match ops[l]? with
 | some o=>o.after.any (λ e=>Region.binds md e && e.on == i)
 | none=>false
theorem zIR {i:Nat} {listed:Array Bool} (hw:zKO md ops l i=true) (hi:i ∈ Region.ready md ops listed) (hl:l ∈ Region.ready md ops listed):False:=by
 obtain⟨_,ol,hol,mD⟩:=mem_ready.1 hl;obtain⟨h0,oi,KN,_⟩:=mem_ready.1 hi;unfold zKO at hw;rw[hol] at hw;simp only[Array.any_eq_true'] at hw;obtain⟨e,he,h2⟩:=hw;simp only[Bool.and_eq_true,beq_iff_eq] at h2;have h1:=mD e he h2.1;rw[h2.2] at h1
 rcases Nat.lt_or_ge i listed.size with h'|h'
 ·simp[h'] at h0 h1;rw[h0] at h1;cases h1
 ·simp[Array.getElem?_eq_none h'] at h1
theorem AnyL.first {i:Nat} {oi:Oper} {v:Value} (hi:ops[i]?=some oi) (mE:∀ (j:Nat) (o:Oper) cs b,ops[j]?=some o->o.op≠.select cs b)
  (hQ:∀ c a w,Q (.panic c) (a.put oi.dst v) w->Q (.panic c) a w) (MP:zKO md ops l i=true) :
  ∀ (fuel:Nat) (listed:Array Bool) (a:Act) (w:World),
   (∀ j oj,ops[j]?=some oj->j≠i->listed.getD j true=false->(∀ e ∈ oj.after,Region.binds md e=true->e.on≠i)->oi.apart ops oj=true) ->
   i ∈ Region.ready md ops listed->YieldsIf Pg ops S oi v a->S w ->
   AnyL Pg md ops Q S l fuel (listed.setIfInBounds i true) (a.put oi.dst v) w->AnyL Pg md ops Q S l (fuel+1) listed a w:=by
 intro fuel
 induction fuel with
 | zero =>
  intro listed a w _ hr hy hS H
  refine⟨λ h=>(by rw[h] at hr;cases hr),λ j hj=>?_⟩
  by_cases bj:j=i
  ·subst bj;exact hy.wpOp hi hS ⟨λ _=>hS,H⟩
  ·have:=ready_mono hj bj
   rw[H.1] at this
   cases this
 | succ fuel ih =>
  intro listed a w hfree hr hy hS H
  refine⟨λ h=>(by rw[h] at hr;cases hr),λ j hj=>?_⟩
  by_cases bj:j=i
  ·subst bj;exact hy.wpOp hi hS ⟨λ _=>hS,H⟩
  ·have Wj:j≠l:=λ h=>zIR MP hr (h ▸ hj)
   have h1:=H.2 j (ready_mono hj bj);obtain⟨ja,oj,vP,mD⟩:=mem_ready.1 hj
   have vQ:∀ e ∈ oj.after,Region.binds md e=true->e.on≠i:=λ e he hb heq=>by
    have h1:=mD e he hb;have h0:=(mem_ready.1 hr).1;rw[heq] at h1
    rcases Nat.lt_or_ge i listed.size with h'|h'
    ·simp[h'] at h0 h1;rw[h0] at h1;cases h1
    ·simp[Array.getElem?_eq_none h'] at h1
   have h2:=wpOp_putIf vP (hfree j oj vP bj ja vQ) (λ cs b=>mE i oi cs b hi) (λ cs b=>mE j oj cs b vP) hQ hy h1
   have fB:∀ k ok,ops[k]?=some ok->k≠i->(listed.setIfInBounds j true).getD k true=false ->
     (∀ e ∈ ok.after,Region.binds md e=true->e.on≠i)->oi.apart ops ok=true:=λ k ok hk MQ Et MR=>by
    refine hfree k ok hk MQ ?_ MR
    by_cases rm:j=k
    ·subst rm;exact ja
    ·rw[getD_set_ne true rm] at Et;exact Et
   refine wpOp_mono (λ a' w' h3=>⟨λ _=>h3.2.1 Wj,ih (listed.setIfInBounds j true) a' w' fB (ready_mono hr (Ne.symm bj)) h3.1 (h3.2.1 Wj) ?_⟩) h2
   rw[Array.setIfInBounds_comm _ _ bj];exact h3.2.2
theorem AnyL.take {i:Nat} {oi:Oper} {v:Value} {fuel:Nat} {listed:Array Bool} {a:Act} {w:World} (hi:ops[i]?=some oi)
  (hs:Region.noSelect ops=true) (hf:Region.free md ops listed i=true) (hr:(Region.ready md ops listed).contains i=true) (MP:zKO md ops l i=true)
  (hQ:∀ c a w,Q (.panic c) (a.put oi.dst v) w->Q (.panic c) a w) (hy:YieldsIf Pg ops S oi v a) (hS:S w)
  (h:AnyL Pg md ops Q S l fuel (listed.setIfInBounds i true) (a.put oi.dst v) w):AnyL Pg md ops Q S l (fuel+1) listed a w :=
 AnyL.first hi (Region.noSelect_spec hs) hQ MP fuel listed a w (Region.free_spec hi hf) (by simpa using hr) hy hS h
theorem AnyL.one {i:Nat} {o:Oper} {fuel:Nat} {listed:Array Bool} {a:Act} {w:World} (hr:Region.ready md ops listed=[i]) (ho:ops[i]?=some o)
  (h:∀ K':Act->World->Prop,Shut (∀ a w,S w->(S w->AnyL Pg md ops Q S l fuel (listed.setIfInBounds i true) a w)->K' a w)->if Region.wanted o (yielded ops a.tmps)=true then Oper.wp Pg o a w K' Q else K' (a.put o.dst undef) w) :
  AnyL Pg md ops Q S l (fuel+1) listed a w :=
 ⟨λ h0=>absurd (hr ▸ h0) (by simp),λ j hj=>by
  rw[hr] at hj;have vR:j=i:=by simpa using hj
  subst vR
  exact wpOp_step ho (λ K' hK=>h K' (λ a w hS hW=>hK a w ⟨λ _=>hS,hW hS⟩))⟩
theorem AnyL.last {o:Oper} {fuel:Nat} {listed:Array Bool} {a:Act} {w:World} (hr:Region.ready md ops listed=[l]) (ho:ops[l]?=some o)
  (hd:Region.ready md ops (listed.setIfInBounds l true)=[])
  (h:∀ K':Act->World->Prop,Shut (∀ a w,Q .normal a w->K' a w)->if Region.wanted o (yielded ops a.tmps)=true then Oper.wp Pg o a w K' Q else K' (a.put o.dst undef) w) :
  AnyL Pg md ops Q S l (fuel+1) listed a w :=
 ⟨λ h0=>absurd (hr ▸ h0) (by simp),λ j hj=>by
  rw[hr] at hj;have vR:j=l:=by simpa using hj
  subst vR;refine wpOp_step ho (λ K' hK=>h K' (λ a w hW=>hK a w ⟨λ h=>absurd rfl h,?_⟩))
  cases fuel with
  | zero=>exact⟨hd,hW⟩
  | succ fuel=>exact⟨λ _=>hW,by rw[hd];simp⟩⟩
theorem AnyL.start {id:Nat} {a:Act} {w:World} (hm:Pg.follows .mixedOrders=true) (hS:S w.drew)
  (h:S w.drew->AnyL Pg .any ops Q S l ops.size (Array.replicate ops.size false) a w.drew):(Code.region id ops true).wp Pg Q a w :=
 wp_region_any hm (AnyL.any _ _ _ _ (h hS))
end
open Go.RowKit
attribute [local go_sem ↓] Go.wp_at_zero Go.wp_at_succ
theorem minZ_cap (x q:Int):minZ x q=if x<=q then x else q:=by unfold minZ;split<;>split<;>omega
theorem fieldP1 (x y:Bool) (a a':Option Addr) (n c n' c':Nat) (b:Int) (w:World):(Instr.field 28 (.agg #[.bool x,.slice a n c,.bool y,.slice a' n' c',.int .i64 b]) 1).run Tryz.prog w=.ok (.agg #[.bool y,.slice a' n' c']) w:=by kernel_rfl
theorem zHX {w:World} {B:Nat} {s:Sp} (h:VrC w B s) (x:Nm):VrC ((w.setCell ⟨B,2,none⟩ (.bool x.neg)).setCell ⟨B,3,none⟩ (.slice x.a x.n x.cap)) B ⟨s.ln,s.la,s.lN,s.lc,x.neg,x.a,x.n,x.cap,s.bits⟩:=by
 obtain⟨⟨q0,q1,q2,q3,q4⟩,q5⟩:=h;exact⟨⟨by simp[go_sem,q0],by simp[go_sem,q1],by simp[go_sem,q2],by simp[go_sem,q3],by simp[go_sem,q4]⟩,λ o=>by rw[zO,zO];exact q5 o⟩
theorem NoC.offH {w:World} {B B':Nat} (h:NoC w B) (hne:B≠B') (u0 u1:Value):NoC ((w.setCell ⟨B',2,none⟩ u0).setCell ⟨B',3,none⟩ u1) B:=by
 obtain⟨q0,q1,q2,q3,q4,q5⟩:=h;exact⟨by simp[go_sem,q0,hne,Ne.symm hne],by simp[go_sem,q1,hne,Ne.symm hne],by simp[go_sem,q2,hne,Ne.symm hne],by simp[go_sem,q3,hne,Ne.symm hne],by simp[go_sem,q4,hne,Ne.symm hne],λ o=>by rw[zO,zO];exact q5 o⟩
theorem IntAt.putH {w:World} {neg:Bool} {a:Option Addr} {n cap k:Nat} {z:Int} (h:IntAt w neg a n cap k z) {B:Nat} {x0:Bool} {y0:Option Addr} {y1 y2:Nat} (h0:w.cell? ⟨B,2,none⟩=some (.bool x0))
  (h1:w.cell? ⟨B,3,none⟩=some (.slice y0 y1 y2)) (u0 u1:Value):IntAt ((w.setCell ⟨B,2,none⟩ u0).setCell ⟨B,3,none⟩ u1) neg a n cap k z:=by
 have hne:(⟨B,2,none⟩:Addr)≠⟨B,3,none⟩:=by simp
 have h2:(w.setCell ⟨B,2,none⟩ u0).cell? ⟨B,3,none⟩=some (.slice y0 y1 y2):=(World.cell?_setCell_other _ _ _ _ hne).trans h1;exact (h.store h0 (λ _ e=>by cases e) u0).store h2 (λ _ e=>by cases e) u1
theorem zK9 (w:World) (s:Sp) (k b:Nat) (lo hi:Int) (hs:SpAt w s k lo hi) (hbits:s.bits=(b:Int)) (hb:b<=100000) (T5:b/16+24<=k) (hk:k<=100000000) :
  Calls Tryz.prog 145 #[.agg s.q] w (zJ w b (k+1) lo (minZ hi (Q b))):=by
 obtain⟨W,hW⟩:∃ W,W=(w.alloc (.cells s.q 28)).alloc (.cells zCq 28):=⟨_,rfl⟩;have b8:Below w.heap.size w W:=by rw[hW];exact bl2 _ _ _
 have A:VrC W w.heap.size s:=by rw[hW];exact⟨⟨by simp[go_sem],by simp[go_sem],by simp[go_sem],by simp[go_sem],by simp[go_sem]⟩,λ o=>by simp[go_sem]⟩
 have R:NoC W (w.heap.size+1):=by rw[hW];constructor<;>simp[go_sem]
 have HBW:=zC b8;have HS:=zC (hs.bw b8);have HB:=zC hbits;have HA:=zC A;have HR:=zC R;have HO:=zC (show -(-(1*Q b)/1)=Q b by rw[Int.ediv_one];omega)
 have HK:=zC (show ∀ w',Below W.heap.size W w'->(w'.cell? ⟨w.heap.size,2,none⟩=some (.bool s.hn)/\w'.cell? ⟨w.heap.size,3,none⟩=some (.slice s.ha s.hN s.hc)/\w'.cell? ⟨w.heap.size,4,none⟩=some (.int .i64 s.bits)) from λ w' hB=>⟨(A.bw hB).c.c2,(A.bw hB).c.c3,(A.bw hB).c.c4⟩)
 have m8:Below W.heap.size W W.drew:=(Below.refl _ _).drew;clear hs hbits b8 A R
 go_enter Tryz.func145,Tryz.ntmps145
 go_wp2;rw[<- hW];clear hW;refine AnyL.start (S:=λ w'=>w'.cell? ⟨w.heap.size,2,none⟩=some (.bool s.hn)/\w'.cell? ⟨w.heap.size,3,none⟩=some (.slice s.ha s.hN s.hc)/\w'.cell? ⟨w.heap.size,4,none⟩=some (.int .i64 s.bits)) (l:=9) (by kernel_rfl) (zA HK _ m8) (λ hHeld=>?_)
 refine AnyL.take (i:=0) (oi:={ dst:=some 3,op:=Go.Op.fieldAddr 28 (Go.Operand.tmp 1) 1,type:=0,pos := "part.go:53",after:=#[],guard:=none }) (v:=.pointer (some ⟨w.heap.size,2,none⟩)) rfl (by kernel_rfl) (by kernel_rfl) (by kernel_rfl) (by kernel_rfl) (λ _ _ _ h=>h) (Or.inl ⟨by rfl,λ w hSw=>?_⟩) hHeld ?_
 ·obtain⟨s0,s1,s2⟩:=hSw;go_simp
 try simp only[Act.put,XH,XI,XJ]
 refine AnyL.take (i:=1) (oi:={ dst:=some 4,op:=Go.Op.load 26 (Go.Operand.tmp 3),type:=26,pos := "part.go:53",after:=#[{ on:=0,ground:=Go.Ground.data }],guard:=none }) (v:=.agg #[.bool s.hn,.slice s.ha s.hN s.hc]) rfl (by kernel_rfl) (by kernel_rfl) (by kernel_rfl) (by kernel_rfl) (λ _ _ _ h=>h) (Or.inl ⟨by rfl,λ w hSw=>?_⟩) hHeld ?_
 ·obtain⟨s0,s1,s2⟩:=hSw;go_simp
 try simp only[Act.put,XH,XI,XJ]
 refine AnyL.take (i:=2) (oi:={ dst:=some 5,op:=Go.Op.fieldAddr 28 (Go.Operand.tmp 1) 2,type:=0,pos := "part.go:53",after:=#[],guard:=none }) (v:=.pointer (some ⟨w.heap.size,4,none⟩)) rfl (by kernel_rfl) (by kernel_rfl) (by kernel_rfl) (by kernel_rfl) (λ _ _ _ h=>h) (Or.inl ⟨by rfl,λ w hSw=>?_⟩) hHeld ?_
 ·obtain⟨s0,s1,s2⟩:=hSw;go_simp
 try simp only[Act.put,XH,XI,XJ]
 refine AnyL.take (i:=3) (oi:={ dst:=some 6,op:=Go.Op.load 3 (Go.Operand.tmp 5),type:=3,pos := "part.go:53",after:=#[{ on:=2,ground:=Go.Ground.data }],guard:=none }) (v:=.int .i64 s.bits) rfl (by kernel_rfl) (by kernel_rfl) (by kernel_rfl) (by kernel_rfl) (λ _ _ _ h=>h) (Or.inl ⟨by rfl,λ w hSw=>?_⟩) hHeld ?_
 ·obtain⟨s0,s1,s2⟩:=hSw;go_simp
 try simp only[Act.put,XH,XI,XJ]
 refine AnyL.one (i:=4) (o:={ dst:=some 7,op:=Go.Op.call { callee:=Go.Callee.value (Go.Operand.func 133),args:=#[Go.Operand.tmp 6],argTypes:=#[3] },type:=28,pos := "part.go:53",after:=#[{ on:=3,ground:=Go.Ground.data }],guard:=none }) (by kernel_rfl) rfl (λ Kc A0=>?_)
 go_simp
 rw[zA HB];refine (zHH _ b (by omega)).mono ?_
 rintro r' w1 ⟨v1,rfl,D6,hs1,hb⟩;have j7:=zB m8 hb;clear hb D6;go_wp2_with fail;refine A0.out _ _ (zA HK _ j7) (λ hHeld=>?_)
 clear A0 Kc
 try simp only[Act.put,XH,XI,XJ]
 refine AnyL.take (i:=5) (oi:={ dst:=some 8,op:=Go.Op.field 28 (Go.Operand.tmp 7) 1,type:=26,pos := "part.go:53",after:=#[{ on:=4,ground:=Go.Ground.data }],guard:=none }) (v:=.agg #[.bool v1.hn,.slice v1.ha v1.hN v1.hc]) rfl (by kernel_rfl) (by kernel_rfl) (by kernel_rfl) (by kernel_rfl) (λ _ _ _ h=>h) (Or.inl ⟨by rfl,λ w hSw=>?_⟩) hHeld ?_
 ·obtain⟨s0,s1,s2⟩:=hSw;(have BF:=fieldP1;go_simp)
 try simp only[Act.put,XH,XI,XJ]
 refine AnyL.one (i:=6) (o:={ dst:=some 9,op:=Go.Op.buildSlice 104 2 #[(0,Go.Operand.tmp 4),(1,Go.Operand.tmp 8)],type:=104,pos := "part.go:53",after:=#[{ on:=1,ground:=Go.Ground.data },{ on:=5,ground:=Go.Ground.data }],guard:=none }) (by kernel_rfl) rfl (λ Kc A0=>?_)
 go_simp
 refine A0.out _ _ (zA HK _ (zL j7 _)) (λ hHeld=>?_)
 clear A0 Kc
 try simp only[Act.put,XH,XI,XJ]
 refine AnyL.one (i:=7) (o:={ dst:=some 10,op:=Go.Op.call { callee:=Go.Callee.value (Go.Operand.func 177),args:=#[Go.Operand.tmp 9],argTypes:=#[104] },type:=26,pos := "part.go:53",after:=#[{ on:=6,ground:=Go.Ground.data },{ on:=4,ground:=Go.Ground.chain }],guard:=none }) (by kernel_rfl) rfl (λ Kc A0=>?_)
 go_simp
 refine (least2 w1 _ rfl ⟨s.hn,s.ha,s.hN,s.hc⟩ ⟨v1.hn,v1.ha,v1.hN,v1.hc⟩ k hi (Q b) _ _ ((zA HS).hi.bw j7) ((zA HO ▸ hs1.hi).mono T5) (by omega)).mono ?_
 rintro r' w2 ⟨b6,a2,n2,c2,rfl,o0,b9⟩;have j9:=zB j7 b9;clear b9;go_wp2_with fail;refine A0.out _ _ (zA HK _ j9) (λ hHeld=>?_)
 clear A0 Kc
 try simp only[Act.put,XH,XI,XJ]
 refine AnyL.take (i:=8) (oi:={ dst:=some 11,op:=Go.Op.fieldAddr 28 (Go.Operand.tmp 1) 1,type:=0,pos := "part.go:53",after:=#[{ on:=0,ground:=Go.Ground.phase },{ on:=1,ground:=Go.Ground.phase },{ on:=2,ground:=Go.Ground.phase },{ on:=3,ground:=Go.Ground.phase },{ on:=4,ground:=Go.Ground.phase },{ on:=5,ground:=Go.Ground.phase },{ on:=6,ground:=Go.Ground.phase },{ on:=7,ground:=Go.Ground.phase }],guard:=none }) (v:=.pointer (some ⟨w.heap.size,2,none⟩)) rfl (by kernel_rfl) (by kernel_rfl) (by kernel_rfl) (by kernel_rfl) (λ _ _ _ h=>h) (Or.inl ⟨by rfl,λ w hSw=>?_⟩) hHeld ?_
 ·obtain⟨s0,s1,s2⟩:=hSw;go_simp
 try simp only[Act.put,XH,XI,XJ]
 have V2:=(zA HA).bw j9;have lA:=V2.lt;obtain⟨⟨y0,y1,y2,y3,y4⟩,y5⟩:=V2;refine AnyL.last (o:={ dst:=none,op:=Go.Op.store 26 (Go.Operand.tmp 11) (Go.Operand.tmp 10),type:=0,pos := "part.go:53",after:=#[{ on:=8,ground:=Go.Ground.data },{ on:=7,ground:=Go.Ground.data },{ on:=7,ground:=Go.Ground.chain },{ on:=0,ground:=Go.Ground.phase },{ on:=1,ground:=Go.Ground.phase },{ on:=2,ground:=Go.Ground.phase },{ on:=3,ground:=Go.Ground.phase },{ on:=4,ground:=Go.Ground.phase },{ on:=5,ground:=Go.Ground.phase },{ on:=6,ground:=Go.Ground.phase },{ on:=7,ground:=Go.Ground.phase }],guard:=none }) (by kernel_rfl) rfl (by kernel_rfl) (λ Kc A0=>?_)
 go_simp
 refine A0.out _ _ ?_;clear A0 Kc;have R2:=(zA HR).bw j9;obtain⟨V,hV⟩:∃ V,V=((w2.setCell ⟨w.heap.size,2,none⟩ (.bool b6)).setCell ⟨w.heap.size,3,none⟩ (.slice a2 n2 c2)):=⟨_,rfl⟩;have R3:NoC V (w.heap.size+1):=by rw[hV];exact R2.offH (by omega) _ _
 have A3:VrC V w.heap.size ⟨s.ln,s.la,s.lN,s.lc,b6,a2,n2,c2,s.bits⟩:=by rw[hV];exact zHX ((zA HA).bw j9) ⟨b6,a2,n2,c2⟩
 have i1:IntAt V s.ln s.la s.lN s.lc k lo:=by rw[hV];exact ((zA HS).lo.bw j9).putH y2 y3 _ _
 have i2:IntAt V b6 a2 n2 c2 (k+1) (minZ hi (Q b)):=by rw[hV];exact o0.putH y2 y3 _ _
 have E2:Below w.heap.size w V:=by rw[hV];exact ((zB (zA HBW) j9).setCell (p:=⟨w.heap.size,2,none⟩) (XW _) _).setCell (p:=⟨w.heap.size,3,none⟩) (XW _) _
 rw[<- hV];clear hV y0 y1 y2 y3 y4 y5 lA;have lA:=A3.lt;have lR:=R3.lt;obtain⟨⟨y0,y1,y2,y3,y4⟩,y5⟩:=A3;obtain⟨q0,q1,q2,q3,q4,q5⟩:=R3;go_wp2_with fail;refine bodyPost_ret (v:=.agg #[.bool s.ln,.slice s.la s.lN s.lc,.bool b6,.slice a2 n2 c2,.int .i64 s.bits]) (by simp[results,Tryz.results145,go_sem,q0,q1,q2,q3,q4]) rfl ⟨⟨s.ln,s.la,s.lN,s.lc,b6,a2,n2,c2,s.bits⟩,rfl,zA HB,?_,?_⟩
 ·exact SpAt.put5 (show SpAt V ⟨s.ln,s.la,s.lN,s.lc,b6,a2,n2,c2,s.bits⟩ (k+1) lo (minZ hi (Q b)) from⟨i1.mono (by omega),i2⟩) q0 q1 q2 q3 q4 _ _ _ _ _
 ·exact kB E2 (Yh _) _ _ _ _ _
def zND (B:Nat) (a:Int × Int):Int × Int:=(Q B-a.2,Q B-a.1)
theorem one_z {b:Nat} (z:Int) (hz:z=(b:Int)) (w:World) (hb:b<=1000000):Calls Tryz.prog 133 #[.int .i64 z] w (zJ w b (b/16+24) (1*Q b/1) (-(-(1*Q b)/1))):=by
 subst hz;exact zHH w b hb
theorem rest_iv (w:World) (s:Sp) (k b:Nat) (a:Int × Int) (hs:SpAt w s k a.1 a.2) (hbits:s.bits=(b:Int)) (hb:b<=100000) (T5:b/16+24<=k) (hk:k<=100000000) :
  Calls Tryz.prog 70 #[.agg s.q] w (zJ w b (k+1) (zND b a).1 (zND b a).2):=by
 obtain⟨W,hW⟩:∃ W,W=(w.alloc (.cells s.q 28)).alloc (.cells zCq 28):=⟨_,rfl⟩;have b8:Below w.heap.size w W:=by rw[hW];exact bl2 _ _ _
 have A:SpC W w.heap.size s:=by rw[hW];constructor<;>simp[go_sem]
 have R:NoC W (w.heap.size+1):=by rw[hW];constructor<;>simp[go_sem]
 have HS:=zC (hs.bw b8);have HB:=zC hbits;have lA:=A.lt;have lR:=R.lt;have HO:=zC (show (1*Q b/1,-(-(1*Q b)/1))=(Q b,Q b) by rw[Int.ediv_one,Int.ediv_one];simp)
 have C4:Below W.heap.size W W.drew:=(Below.refl _ _).drew;have HK:=zC (show ∀ w',Below W.heap.size W w'->(cK0 w' w.heap.size s) from λ w' hB=>⟨(A.bw hB).c0,(A.bw hB).c1,(A.bw hB).c2,(A.bw hB).c3,(A.bw hB).c4⟩)
 clear hs hbits
 go_enter Tryz.func70,Tryz.ntmps70
 go_wp2;rw[<- hW];clear hW;obtain⟨x0,x1,x2,x3,x4⟩:=A
 go_region_held3 (λ w'=>cK0 w' w.heap.size s) (first|exact zA HK _ (by with_reducible first|exact C4|exact o7|exact A6)|(dsimp only[cK,cK0,nK,nK0,rK,rK0];go_keep)|go_keep)
  (first
   | (go_at_call 118;have hq:=A6;refine (zMH _ v1 s k b (1*Q b/1,-(-(1*Q b)/1)) a (F7.mono T5) ((zA HS).bw A6) (by omega) (zA HV)).mono ?_;rintro r w2 ⟨t,rfl,I7,Q9,b9⟩;have HT:=zC I7;clear I7;have o7:=zB A6 b9;obtain⟨q0,q1,q2,q3,q4,q5⟩:=R.bw o7;obtain⟨i0,i1,i2,i3,i4⟩:=zA HK _ o7)
   | (go_at_call 133;refine (one_z _ (zA HB) _ (by omega)).mono ?_;rintro r w1 ⟨v1,rfl,D6,F7,b7⟩;have HV:=zC D6;clear D6;have A6:=zB C4 b7))
 all_goals
  go_wp2;refine bodyPost_ret (v:=.agg t.q) (by simp[results,Tryz.results70,go_sem,q0,q1,q2,q3,q4]) rfl ⟨t,rfl,zA HT,?_,?_⟩
  ·rw[zA HO] at Q9
   exact SpAt.put5 Q9 q0 q1 q2 q3 q4 _ _ _ _ _
  ·exact kB (zB b8 o7) (Yh _) _ _ _ _ _
open Ex
theorem sure_nar {b m:Nat} {lo hi L H:Int} (hle:lo<=hi) (e1:L=lo/Q m) (e2:H = -(-hi/Q m)) (h6:H-L<=1\/zJJ L H (Q b) 4=true):L<=H/\zJJ L H (Q b) 4=true:=by
 have h7:=zLT (m:=m) (Kw:=(hi-lo).toNat) hle (by
  have:∀ k:Nat,(k:Int)<=Q k:=λ k=>by
   induction k with
   | zero=>decide
   | succ k ih=>have e:Q (k+1)=2*Q k:=rfl;have:=zG k;omega
  have:=this (hi-lo).toNat
  omega)
 have h8:L<=H:=by rw[e1,e2];omega
 refine⟨h8,?_⟩
 rcases h6 with h6|h6
 ·exact zG1 h8 (by omega)
 ·exact h6
theorem Lns_ex:∃ L,Lns L:=by
 have each:∀ x:Rat,∃ l:Nat->Rat,0<x->IsLog l (λ _=>x):=λ x=>by
  by_cases h:0<x
  ·have hn:0<x.num:=by have:=(Rat.lt_iff (0:Rat) x).1 h;simpa using this
   have hd:(0:Int)<(x.den:Int):=by exact_mod_cast x.den_pos
   obtain⟨l,hl⟩:=log_ex hn hd;have e:(x.num:Rat)/((x.den:Int):Rat)=x:=(Rat.divInt_eq_div _ _).symm.trans (Rat.num_divInt_den x);rw[e] at hl;exact⟨l,λ _=>hl⟩
  ·exact⟨λ _=>0,λ h'=>absurd h' h⟩
 obtain⟨L,hL⟩:=Classical.skolem.1 each;exact⟨L,λ x hx=>hL x hx⟩
def gA (n d:Int):Rat:=((n-(stN n d:Int)*d:Int):Rat)/(d:Rat)
structure zM4 (L G:Rat->Nat->Rat) (X:Int->Int->Nat->Rat):Prop where
 lns:Lns L
 gam:∀ a,0<a->a<=1->Gam1 L a (G a)
 lg:∀ n d,StIn n d->IsLog (X n d) (gmV n d (G (gA n d)))
theorem zIS {n d:Int} (h:StIn n d):0<gA n d/\gA n d<=1:=by
 obtain⟨r1,r2,r3⟩:=h.rest;have d0:(0:Rat)<(d:Rat):=by exact_mod_cast h.d0
 have a0:(0:Rat)<((n-(stN n d:Int)*d:Int):Rat):=by exact_mod_cast r1
 exact⟨zH a0 d0,jZ d0 (by have:=zX r2;grind)⟩
theorem gmV_log {L:Rat->Nat->Rat} (hL:Lns L) {n d:Int} (h:StIn n d) {g:Nat->Rat} (hg:Gam1 L (gA n d) g):∃ x,IsLog x (gmV n d g):=by
 have ig:=hg.isGam hL (zIS h).1;have p0:(0:Rat)<(stP n d (stN n d):Rat):=by exact_mod_cast zQE h (XW _)
 have q0:(0:Rat)<(stQ d (stN n d):Rat):=by exact_mod_cast zJ8 h.d0 _
 have r0:=zH p0 q0;refine zPS hL ((Bdd.const _).mul ig.bdd) ?_;obtain⟨c,c0,N,hc⟩:=ig.pos;exact⟨_,Rat.mul_pos r0 c0,N,λ M hM=>Ya (hc M hM) (XV r0)⟩
theorem zOK:∃ L G X,zM4 L G X:=by
 obtain⟨L,hL⟩:=Lns_ex
 have e1:∀ a:Rat,∃ g:Nat->Rat,0<a->a<=1->Gam1 L a g:=λ a=>by
  by_cases h:0<a/\a<=1
  ·obtain⟨g,hg⟩:=zHP hL h.1 h.2
   exact⟨g,λ _ _=>hg⟩
  ·exact⟨λ _=>0,λ h1 h2=>absurd ⟨h1,h2⟩ h⟩
 obtain⟨G,hG⟩:=Classical.skolem.1 e1
 have e2:∀ z:Int × Int,∃ x:Nat->Rat,StIn z.1 z.2->IsLog x (gmV z.1 z.2 (G (gA z.1 z.2))):=λ z=>by
  by_cases h:StIn z.1 z.2
  ·obtain⟨x,hx⟩:=gmV_log hL h (hG _ (zIS h).1 (zIS h).2)
   exact⟨x,λ _=>hx⟩
  ·exact⟨λ _=>0,λ h'=>absurd h' h⟩
 obtain⟨X,hX⟩:=Classical.skolem.1 e2;exact⟨L,G,λ n d=>X (n,d),hL,hG,λ n d h=>hX (n,d) h⟩
theorem Q_fit {b m k:Nat} (h:b+k<=3200):Q (b+m+k)<=P 200*Q m:=by
 rw[<- Q_P,<- jD];exact zK (by omega)
structure SuV (x:Nat->Rat) (b:Nat) (L H:Int):Prop where
 le:L<=H
 nar:zJJ L H (Q b) 4=true
 val:Iv b (L,H) x
theorem sure_su {x:Nat->Rat} {b:Nat} {Pr:Nat->Int->Int->Prop} {L H:Int} (h:zLM b Pr L H) (hp:∀ B lo hi,Pr B lo hi->lo<=hi/\Iv B (lo,hi) x):SuV x b L H:=by
 obtain⟨m,lo,hi,pr,hm,e1,e2,h6⟩:=h;obtain⟨g1,iv⟩:=hp _ _ _ pr;obtain⟨n1,n2⟩:=sure_nar g1 e1 e2 h6;refine⟨n1,n2,?_⟩;have:=Iv.to (B:=b) (m:=m) iv;rw[e1,e2];exact this
theorem NoC.offI {w:World} {B B':Nat} (h:NoC w B) (hne:B≠B') (u0 u1:Value):NoC ((w.setCell ⟨B',0,none⟩ u0).setCell ⟨B',1,none⟩ u1) B:=by
 obtain⟨q0,q1,q2,q3,q4,q5⟩:=h;exact⟨by simp[go_sem,q0,hne,Ne.symm hne],by simp[go_sem,q1,hne,Ne.symm hne],by simp[go_sem,q2,hne,Ne.symm hne],by simp[go_sem,q3,hne,Ne.symm hne],by simp[go_sem,q4,hne,Ne.symm hne],zA9 q5 _ _⟩
theorem zBT (w:World) (x y:Nm) (k b K:Nat) (n d:Int) (hx:IntAt w x.neg x.a x.n x.cap k n) (hy:IntAt w y.neg y.a y.n y.cap k d) (hk:k<=100000) (hn:0<n) (hd:0<d) (R0:16<=b) (hb:b<=1000000) (hK:Q (b+4)<P K) (Z4:K<=10000000) :
  Calls Tryz.prog 116 #[.agg x.q,.agg y.q,.int .i64 b] w (λ r w'=>∃ (n' d' c:Int) (N N2:Nat),Bal n d n' d' c /\ -(16*k+1)<=c/\c<=16*k+1/\kG (lnT n' d' b) N/\kG (lnT 2 1 b) N2/\zJ w b (K+20) (zIN (zT (lnT n' d' b) N) (zT (lnT 2 1 b) N2) c).1 (zIN (zT (lnT n' d' b) N) (zT (lnT 2 1 b) N2) c).2 r w'):=by
 obtain⟨W,hW⟩:∃ W,W=((w.alloc (.cells x.q 26)).alloc (.cells y.q 26)).alloc (.cells zCq 28):=⟨_,rfl⟩;have b8:Below w.heap.size w W:=by rw[hW];exact bl3 _ _ _ _
 have X:NmC W w.heap.size x:=by rw[hW];constructor<;>simp[go_sem]
 have FX:∀ o,W.frozen? ⟨w.heap.size,o,none⟩=false:=by rw[hW];intro o;simp[go_sem]
 have Y:NmC W (w.heap.size+1) y:=by rw[hW];constructor<;>simp[go_sem]
 have FY:∀ o,W.frozen? ⟨w.heap.size+1,o,none⟩=false:=by rw[hW];intro o;simp[go_sem]
 have R:NoC W (w.heap.size+1+1):=by rw[hW];constructor<;>simp[go_sem]
 have HX:=zC (hx.bw b8);have HY:=zC (hy.bw b8);have lX:=X.lt;have lY:=Y.lt;clear hx hy
 go_enter Tryz.func116,Tryz.ntmps116
 go_wp2_with fail;rw[<- hW];clear hW;refine (zH6 _ x y k n d (zA HX) (zA HY) hn hd (by omega)).mono ?_
 rintro r w1 ⟨U,T,n',d',c,rfl,K7,F8,G8,iU,iT,b7⟩;have FX1:∀ o,w1.frozen? ⟨w.heap.size,o,none⟩=false:=λ o=>(b7.frozen (p:=⟨w.heap.size,o,none⟩) lX).trans (FX o)
 have FY1:∀ o,w1.frozen? ⟨w.heap.size+1,o,none⟩=false:=λ o=>(b7.frozen (p:=⟨w.heap.size+1,o,none⟩) lY).trans (FY o)
 replace X:=X.bw b7;replace Y:=Y.bw b7;replace R:=R.bw b7;replace b8:=zB b8 b7;have pQ:=zC K7;clear b7 FX FY HX HY K7;obtain⟨V,hV⟩:∃ V,V=(((w1.setCell ⟨w.heap.size,0,none⟩ (.bool U.neg)).setCell ⟨w.heap.size,1,none⟩ (.slice U.a U.n U.cap)).setCell ⟨w.heap.size+1,0,none⟩ (.bool T.neg)).setCell ⟨w.heap.size+1,1,none⟩ (.slice T.a T.n T.cap):=⟨_,rfl⟩
 have hE:IntAt V U.neg U.a U.n U.cap (k+k+20) n'/\IntAt V T.neg T.a T.n T.cap (k+k+20) d'/\NoC V (w.heap.size+1+1)/\Below w.heap.size w V:=by
  rw[hV];have gI:=Y.off (B':=w.heap.size) (by omega) (.bool U.neg) (.slice U.a U.n U.cap)
  have i1:=iU.put2 X.c0 X.c1 (.bool U.neg) (.slice U.a U.n U.cap);have i2:=iT.put2 X.c0 X.c1 (.bool U.neg) (.slice U.a U.n U.cap);have r1:=R.offI (B':=w.heap.size) (by omega) (.bool U.neg) (.slice U.a U.n U.cap)
  have b1:=zD5 b8 (XW _) (.bool U.neg) (.slice U.a U.n U.cap);generalize (w1.setCell ⟨w.heap.size,0,none⟩ (.bool U.neg)).setCell ⟨w.heap.size,1,none⟩ (.slice U.a U.n U.cap)=V0 at *;exact⟨i1.put2 gI.c0 gI.c1 _ _,i2.put2 gI.c0 gI.c1 _ _,r1.offI (by omega) _ _,zD5 b1 (Yh _) _ _⟩
 obtain⟨jU,jT,R2,o7⟩:=hE;have Wk:=zC jU;have Wl:=zC jT;obtain⟨x0,x1⟩:=X;obtain⟨y0,y1⟩:=Y;have lX1:w.heap.size<w1.heap.size:=World.block_lt_of_cell? w1 ⟨w.heap.size,0,none⟩ x0;have lY1:w.heap.size+1<w1.heap.size:=World.block_lt_of_cell? w1 ⟨w.heap.size+1,0,none⟩ y0;clear iU iT R b8 jU jT;go_wp2_with fail;rw[<- hV];clear hV x0 x1 y0 y1 FX1 FY1;obtain⟨N,Q3,ct⟩:=zDD (s:=3) (by omega) (zF2 (zA pQ).1 R0)
 obtain⟨N2,vK,Wm⟩:=zDD (s:=3) (by omega) (zF2 zQJ R0)
 have S0:=zC ct;have cm:=zC Wm;clear Q3 ct vK Wm;refine (zGZ _ U T (k+k+20) b N K n' d' (zA Wk) (zA Wl) (by omega) (zA pQ).1 R0 hb (zA S0) hK Z4).mono ?_
 rintro r w3 ⟨v3,rfl,E6,J3,k8⟩;replace R2:=R2.bw k8;have lw3:=R2.lt;replace o7:=zB o7 k8;have rp:=zC E6;clear k8 E6 Wk Wl;obtain⟨V3,D3⟩:∃ V3,V3=w3.alloc (.cells v3.q 28):=⟨_,rfl⟩;have L8:Below w3.heap.size w3 V3:=by rw[D3];exact bl1 _ _
 have C3:SpC V3 w3.heap.size v3:=by rw[D3];exact zA0 w3 v3 _
 replace J3:=J3.bw L8;replace R2:=R2.bw L8;replace o7:=zB o7 L8;clear L8;go_wp2_with fail;rw[<- D3];clear D3;refine (zD 2 _ (by decide) (by decide)).mono ?_
 rintro r w4 ⟨o9,a4,n4,c4,rfl,D9,m9⟩;replace C3:=C3.bw m9;replace J3:=J3.bw m9;replace R2:=R2.bw m9;replace o7:=zB o7 m9;clear m9;go_wp2_with fail;refine (zD 1 _ (by decide) (by decide)).mono ?_
 rintro r w5 ⟨G9,a5,n5,c5,rfl,O0,A7⟩;replace C3:=C3.bw A7;replace J3:=J3.bw A7;replace R2:=R2.bw A7;replace o7:=zB o7 A7;replace D9:=D9.bw A7;clear A7;go_wp2_with fail;refine (zGZ _ ⟨o9,a4,n4,c4⟩ ⟨G9,a5,n5,c5⟩ 4 b N2 K 2 1 D9 O0 (by omega) zQJ R0 hb (zA cm) hK Z4).mono ?_
 rintro r w6 ⟨v6,rfl,S3,M8,G3⟩;have lC3:=C3.lt;have l36:w3.heap.size<w6.heap.size:=Yd lC3 G3.size;replace C3:=C3.bw G3;replace J3:=J3.bw G3;replace R2:=R2.bw G3;replace o7:=zB o7 G3;have BG:=zC S3;clear G3 S3 D9 O0;obtain⟨V6,R8⟩:∃ V6,V6=w6.alloc (.cells v6.q 28):=⟨_,rfl⟩;have BH:Below w6.heap.size w6 V6:=by rw[R8];exact bl1 _ _
 have C6:SpC V6 w6.heap.size v6:=by rw[R8];exact zA0 w6 v6 _
 replace C3:=C3.bw BH;have Wn:=zC (M8.bw BH);have Wo:=zC (J3.bw BH);replace R2:=R2.bw BH;replace o7:=zB o7 BH;have Y1:=R2.lt;have Q5:=zC (show ∀ w',Below V6.heap.size V6 w'->(cK w' w3.heap.size v3 (cK0 w' w6.heap.size v6)) from λ w' hB=>⟨(C3.bw hB).c0,(C3.bw hB).c1,(C3.bw hB).c2,(C3.bw hB).c3,(C3.bw hB).c4,(C6.bw hB).c0,(C6.bw hB).c1,(C6.bw hB).c2,(C6.bw hB).c3,(C6.bw hB).c4⟩)
 have m8:Below V6.heap.size V6 V6.drew:=(Below.refl _ _).drew;have l3:=C3.lt;have l6:=C6.lt;have m1:w.heap.size+1+1≠w3.heap.size:=by omega
 have m2:w.heap.size+1+1≠w6.heap.size:=by omega
 have m3:w3.heap.size≠w.heap.size+1+1:=by omega
 have m4:w6.heap.size≠w.heap.size+1+1:=by omega
 clear J3 M8 BH C3 C6;have hkk:k<=100000:=hk
 by_cases hcz:c<0
 ·go_wp2_with fail
  rw[<- R8];clear R8;obtain⟨e0,e1,e2,e3,e4,e5,e6,e7,e8,e9⟩:=zA Q5 _ (Below.refl _ _);have HWC:=zC (show IntKind.i64.wrap (-c) = -c from jL _ (by omega) (by omega))
  go_region_held3 (λ w'=>cK w' w3.heap.size v3 (cK0 w' w6.heap.size v6)) (first|exact zA Q5 _ (by with_reducible first|exact m8|exact j9|exact j7)|(dsimp only[cK,cK0,nK,nK0,rK,rK0];go_keep)|go_keep)
   (first
    | (go_at_call 118;have hq:=j7;refine (zMH _ v3 v7 (K+11) b (yT (zT (lnT n' d' b) N) 2) (yT (yT (zT (lnT 2 1 b) N2) 2) (-c)) (((zA Wo).bw j7).mono (by omega)) (M3.mono (by omega)) (by omega) (zA rp)).mono ?_;rintro r' w8 ⟨v,rfl,I4,H5,Q7⟩;have j9:=zB j7 Q7;have HV:=zC I4;clear I4;obtain⟨q0,q1,q2,q3,q4,q5⟩:=R2.bw j9;obtain⟨z0,z1,z2,z3,z4,z5,z6,z7,z8,z9⟩:=zA Q5 _ j9)
    | (go_at_call 161;rw[zA HWC];refine (zHA _ v6 (K+7) b (-c) (yT (zT (lnT 2 1 b) N2) 2) ((zA Wn).bw m8) (by omega) (zA BG) (by omega) (by omega)).mono ?_;rintro r' w7 ⟨v7,rfl,H9,M3,I8⟩;have jz:=zC H9;clear H9;have j7:=zB m8 I8))
  all_goals
   go_wp2_with fail;refine bodyPost_ret (v:=.agg v.q) (by simp[results,Tryz.results116,go_sem,q0,q1,q2,q3,q4]) rfl ⟨n',d',c,N,N2,zA pQ,F8,G8,zA S0,zA cm,v,rfl,zA HV,?_,?_⟩
   ·refine SpAt.put5 ?_ q0 q1 q2 q3 q4 _ _ _ _ _
    unfold zIN;rw[if_pos hcz];exact H5.mono (by omega)
   ·exact kB (zB o7 j9) (by omega) _ _ _ _ _
 ·go_wp2_with fail
  rw[<- R8];clear R8;obtain⟨e0,e1,e2,e3,e4,e5,e6,e7,e8,e9⟩:=zA Q5 _ (Below.refl _ _);have hcz':¬ c<0:=by omega
  go_region_held3 (λ w'=>cK w' w3.heap.size v3 (cK0 w' w6.heap.size v6)) (first|exact zA Q5 _ (by with_reducible first|exact m8|exact j9|exact j7)|(dsimp only[cK,cK0,nK,nK0,rK,rK0];go_keep)|go_keep)
   (first
    | (go_at_call 113;have hq:=j7;refine (zA5 _ v3 v7 (K+11) b (yT (zT (lnT n' d' b) N) 2) (yT (yT (zT (lnT 2 1 b) N2) 2) c) (((zA Wo).bw j7).mono (by omega)) (M3.mono (by omega)) (by omega) (zA rp)).mono ?_;rintro r' w8 ⟨v,rfl,I4,H5,Q7⟩;have j9:=zB j7 Q7;have HV:=zC I4;clear I4;obtain⟨q0,q1,q2,q3,q4,q5⟩:=R2.bw j9;obtain⟨z0,z1,z2,z3,z4,z5,z6,z7,z8,z9⟩:=zA Q5 _ j9)
    | (go_at_call 161;refine (zHA _ v6 (K+7) b c (yT (zT (lnT 2 1 b) N2) 2) ((zA Wn).bw m8) (by omega) (zA BG) (by omega) (by omega)).mono ?_;rintro r' w7 ⟨v7,rfl,H9,M3,I8⟩;have jz:=zC H9;clear H9;have j7:=zB m8 I8))
  all_goals
   go_wp2_with fail;refine bodyPost_ret (v:=.agg v.q) (by simp[results,Tryz.results116,go_sem,q0,q1,q2,q3,q4]) rfl ⟨n',d',c,N,N2,zA pQ,F8,G8,zA S0,zA cm,v,rfl,zA HV,?_,?_⟩
   ·refine SpAt.put5 ?_ q0 q1 q2 q3 q4 _ _ _ _ _
    unfold zIN;rw[if_neg (show ¬ c<0 by omega)]
    exact H5.mono (by omega)
   ·exact kB (zB o7 j9) (by omega) _ _ _ _ _
def zHJ (lo hi:Int) (i:Nat) (lo' hi':Int) (j:Nat):Bool:=decide (lo*Q i<=hi'*Q j) && decide (lo'*Q j<=hi*Q i)
theorem zBK (x:Int) (a b:Int) (i:Nat) (h:b-a=(i:Int)):zBC x (a-b)=x*Q i:=by
 unfold zBC
 by_cases h0:i=0
 ·subst h0
  have e:a-b=0:=by omega
  rw[e];simp[Q]
 ·rw[if_neg (by omega)];congr 2;omega
theorem zBA (x:Int) (a b:Int) (i:Nat) (h:b-a=(i:Int)) : -(zBC (-x) (a-b))=x*Q i:=by
 rw[zBK _ a b i h,Int.neg_mul,Int.neg_neg]
theorem zLO (w:World) (s t:Sp) (k i j:Nat) (lo hi lo' hi':Int) (hs:SpAt w s k lo hi) (ht:SpAt w t k lo' hi') (hk:k<=300000000) (s0:0<=s.bits) (s1:s.bits<=1000000) (t0:0<=t.bits) (t1:t.bits<=1000000) (hc:s.bits<t.bits) (O9:t.bits-s.bits=(i:Int)) (jc:t.bits-t.bits=(j:Int)) :
  Calls Tryz.prog 50 #[.agg s.q,.agg t.q] w λ r w'=>r=.returned (.bool (zHJ lo hi i lo' hi' j))/\Below w.heap.size w w':=by
 obtain⟨W,hW⟩:∃ W,W=(w.alloc (.cells s.q 36)).alloc (.cells t.q 36):=⟨_,rfl⟩;have b8:Below w.heap.size w W:=by rw[hW];exact bl2 _ _ _
 have A:SpC W w.heap.size s:=by rw[hW];constructor<;>simp[go_sem]
 have G:SpC W (w.heap.size+1) t:=by rw[hW];constructor<;>simp[go_sem]
 have FA:∀ o,W.frozen? ⟨w.heap.size,o,none⟩=false:=by intro o;rw[hW];simp[go_sem]
 have FG:∀ o,W.frozen? ⟨w.heap.size+1,o,none⟩=false:=by intro o;rw[hW];simp[go_sem]
 have a1:=zC (zBK lo s.bits (t.bits) i O9);have a2:=zC (zBA hi s.bits (t.bits) i O9);have a3:=zC (zBK lo' t.bits (t.bits) j jc);have a4:=zC (zBA hi' t.bits (t.bits) j jc);have HS:=zC (hs.bw b8);have HT:=zC (ht.bw b8);have HA:=zC A;have HG:=zC G;have lA:=A.lt;have lG:=G.lt;have nAG:w.heap.size≠w.heap.size+1:=by omega
 clear O9 jc hs ht
 go_enter Tryz.func50,Tryz.ntmps50
 go_wp2_with fail;rw[<- hW];clear hW;obtain⟨x0,x1,x2,x3,x4⟩:=A;obtain⟨y0,y1,y2,y3,y4⟩:=G
 try go_wp2_with fail
 go_cut [] (λ wx=>∃ s2 t2:Sp,SpC wx w.heap.size s2/\SpC wx (w.heap.size+1) t2/\SpAt wx s2 (k+62505) (lo*Q i) (hi*Q i)/\SpAt wx t2 (k+62505) (lo'*Q j) (hi'*Q j)/\Below w.heap.size w wx)
 case first =>
  go_region_with
   (first
    | (go_at_call 90;have hq:=A6;refine (kQ _ t k (t.bits) lo' hi' ((zA HT).bw A6) hk t0 t1 (by omega) (by omega)).mono ?_;rintro r w2 ⟨u2,rfl,iZ,fA,b9⟩;rw[zA a3,zA a4] at fA;clear iZ;have o7:=zB A6 b9;replace W5:=W5.bw b9;have VI:=Yd lA o7.size;have VJ:=Yd lG o7.size;obtain⟨a0,a1,a2,a3,a4⟩:=(zA HA).bw o7;obtain⟨g0,g1,g2,g3,g4⟩:=(zA HG).bw o7;have Br:∀ o,w2.frozen? ⟨w.heap.size,o,none⟩=false:=(λ o=>(o7.frozen (p:=⟨w.heap.size,o,none⟩) lA).trans (FA o));have VK:∀ o,w2.frozen? ⟨w.heap.size+1,o,none⟩=false:=(λ o=>(o7.frozen (p:=⟨w.heap.size+1,o,none⟩) lG).trans (FG o)))
    | (go_at_call 90;refine (kQ _ s k (t.bits) lo hi ((zA HS).bw (by repeat' (first|with_reducible exact Below.refl _ _|with_reducible refine Below.drew ?_))) hk s0 s1 (by omega) (by omega)).mono ?_;rintro r w1 ⟨u1,rfl,cx,W5,b7⟩;rw[zA a1,zA a2] at W5;clear cx;have A6:Below W.heap.size W w1:=zB (by repeat' (first|with_reducible exact Below.refl _ _|with_reducible refine Below.drew ?_)) b7;obtain⟨b0,b1,b2,b3,b4⟩:=(zA HA).bw A6;obtain⟨d0,d1,d2,d3,d4⟩:=(zA HG).bw A6;have VM:=Yd lA A6.size;have VN:=Yd lG A6.size))
  all_goals
   go_wp2_with fail;go_meet;have A2:SpC w2 w.heap.size s:=⟨a0,a1,a2,a3,a4⟩;have G2:SpC w2 (w.heap.size+1) t:=⟨g0,g1,g2,g3,g4⟩;obtain⟨p1,p2,p3,p4⟩:=zP6 A2 G2 nAG u1 u2;exact⟨u1,u2,p1,p2,p3 W5,p3 fA,kB (kB (zB b8 o7) (XW _) _ _ _ _ _) (Yh _) _ _ _ _ _⟩
 case rest =>
 obtain⟨s2,t2,A,G,hs,ht,b8⟩:=hcut;clear HA HG HS HT lA lG x0 x1 x2 x3 x4 y0 y1 y2 y3 y4 FA FG;have lA:=A.lt;have lG:=G.lt
 by_cases hq:lo*Q i<=hi'*Q j
 ·have c1:zF (lo*Q i) (hi'*Q j)<=0:=by unfold zF;split;omega;rw[if_neg (by omega)];omega
  have HE:=zC (show decide (zF (lo'*Q j) (hi*Q i)<=0)=zHJ lo hi i lo' hi' j by rw[zH1];unfold zHJ;rw[decide_eq_true hq,Bool.true_and])
  obtain⟨x0,x1,x2,x3,x4⟩:=A;obtain⟨y0,y1,y2,y3,y4⟩:=G;clear hq;go_wp2_with fail;refine (zU _ _ _ _ _ _ _ _ (k+62505) (k+62505) (lo*Q i) (hi'*Q j) _ hs.lo ht.hi).mono ?_;rintro r w1 ⟨rfl,b7⟩;have A:=(SpC.mk x0 x1 x2 x3 x4).bw b7;have G:=(SpC.mk y0 y1 y2 y3 y4).bw b7;replace hs:=hs.bw b7;replace ht:=ht.bw b7;replace b8:=zB b8 b7;clear x0 x1 x2 x3 x4 y0 y1 y2 y3 y4 b7;obtain⟨x0,x1,x2,x3,x4⟩:=A;obtain⟨y0,y1,y2,y3,y4⟩:=G;go_wp2_with fail;refine (zU _ _ _ _ _ _ _ _ (k+62505) (k+62505) (lo'*Q j) (hi*Q i) _ ht.lo hs.hi).mono ?_;rintro r w2 ⟨rfl,b9⟩;replace b8:=zB b8 b9;go_wp2_with fail
  go_ret
  exact⟨by rw[<- zA HE];rfl,b8⟩
 ·have c1:¬ zF (lo*Q i) (hi'*Q j)<=0:=by unfold zF;rw[if_neg (by omega),if_pos (by omega)];omega
  have HE:=zC (show zHJ lo hi i lo' hi' j=false by unfold zHJ;rw[decide_eq_false hq,Bool.false_and])
  obtain⟨x0,x1,x2,x3,x4⟩:=A;obtain⟨y0,y1,y2,y3,y4⟩:=G;clear hq;go_wp2_with fail;refine (zU _ _ _ _ _ _ _ _ (k+62505) (k+62505) (lo*Q i) (hi'*Q j) _ hs.lo ht.hi).mono ?_;rintro r w1 ⟨rfl,b7⟩;replace b8:=zB b8 b7;go_wp2_with fail
  go_ret
  exact⟨by rw[zA HE];rfl,b8⟩
theorem touch_le (w:World) (s t:Sp) (k i j:Nat) (lo hi lo' hi':Int) (hs:SpAt w s k lo hi) (ht:SpAt w t k lo' hi') (hk:k<=300000000) (s0:0<=s.bits) (s1:s.bits<=1000000) (t0:0<=t.bits) (t1:t.bits<=1000000) (hc:t.bits<=s.bits) (O9:s.bits-s.bits=(i:Int)) (jc:s.bits-t.bits=(j:Int)) :
  Calls Tryz.prog 50 #[.agg s.q,.agg t.q] w λ r w'=>r=.returned (.bool (zHJ lo hi i lo' hi' j))/\Below w.heap.size w w':=by
 obtain⟨W,hW⟩:∃ W,W=(w.alloc (.cells s.q 36)).alloc (.cells t.q 36):=⟨_,rfl⟩;have b8:Below w.heap.size w W:=by rw[hW];exact bl2 _ _ _
 have A:SpC W w.heap.size s:=by rw[hW];constructor<;>simp[go_sem]
 have G:SpC W (w.heap.size+1) t:=by rw[hW];constructor<;>simp[go_sem]
 have FA:∀ o,W.frozen? ⟨w.heap.size,o,none⟩=false:=by intro o;rw[hW];simp[go_sem]
 have FG:∀ o,W.frozen? ⟨w.heap.size+1,o,none⟩=false:=by intro o;rw[hW];simp[go_sem]
 have a1:=zC (zBK lo s.bits (s.bits) i O9);have a2:=zC (zBA hi s.bits (s.bits) i O9);have a3:=zC (zBK lo' t.bits (s.bits) j jc);have a4:=zC (zBA hi' t.bits (s.bits) j jc);have HS:=zC (hs.bw b8);have HT:=zC (ht.bw b8);have HA:=zC A;have HG:=zC G;have lA:=A.lt;have lG:=G.lt;have nAG:w.heap.size≠w.heap.size+1:=by omega
 clear O9 jc hs ht
 go_enter Tryz.func50,Tryz.ntmps50
 go_wp2_with fail;rw[<- hW];clear hW;obtain⟨x0,x1,x2,x3,x4⟩:=A;obtain⟨y0,y1,y2,y3,y4⟩:=G
 try go_wp2_with fail
 go_cut [] (λ wx=>∃ s2 t2:Sp,SpC wx w.heap.size s2/\SpC wx (w.heap.size+1) t2/\SpAt wx s2 (k+62505) (lo*Q i) (hi*Q i)/\SpAt wx t2 (k+62505) (lo'*Q j) (hi'*Q j)/\Below w.heap.size w wx)
 case first =>
  go_region_with
   (first
    | (go_at_call 90;have hq:=A6;refine (kQ _ t k (s.bits) lo' hi' ((zA HT).bw A6) hk t0 t1 (by omega) (by omega)).mono ?_;rintro r w2 ⟨u2,rfl,iZ,fA,b9⟩;rw[zA a3,zA a4] at fA;clear iZ;have o7:=zB A6 b9;replace W5:=W5.bw b9;have VI:=Yd lA o7.size;have VJ:=Yd lG o7.size;obtain⟨a0,a1,a2,a3,a4⟩:=(zA HA).bw o7;obtain⟨g0,g1,g2,g3,g4⟩:=(zA HG).bw o7;have Br:∀ o,w2.frozen? ⟨w.heap.size,o,none⟩=false:=(λ o=>(o7.frozen (p:=⟨w.heap.size,o,none⟩) lA).trans (FA o));have VK:∀ o,w2.frozen? ⟨w.heap.size+1,o,none⟩=false:=(λ o=>(o7.frozen (p:=⟨w.heap.size+1,o,none⟩) lG).trans (FG o)))
    | (go_at_call 90;refine (kQ _ s k (s.bits) lo hi ((zA HS).bw (by repeat' (first|with_reducible exact Below.refl _ _|with_reducible refine Below.drew ?_))) hk s0 s1 (by omega) (by omega)).mono ?_;rintro r w1 ⟨u1,rfl,cx,W5,b7⟩;rw[zA a1,zA a2] at W5;clear cx;have A6:Below W.heap.size W w1:=zB (by repeat' (first|with_reducible exact Below.refl _ _|with_reducible refine Below.drew ?_)) b7;obtain⟨b0,b1,b2,b3,b4⟩:=(zA HA).bw A6;obtain⟨d0,d1,d2,d3,d4⟩:=(zA HG).bw A6;have VM:=Yd lA A6.size;have VN:=Yd lG A6.size))
  all_goals
   go_wp2_with fail;go_meet;have A2:SpC w2 w.heap.size s:=⟨a0,a1,a2,a3,a4⟩;have G2:SpC w2 (w.heap.size+1) t:=⟨g0,g1,g2,g3,g4⟩;obtain⟨p1,p2,p3,p4⟩:=zP6 A2 G2 nAG u1 u2;exact⟨u1,u2,p1,p2,p3 W5,p3 fA,kB (kB (zB b8 o7) (XW _) _ _ _ _ _) (Yh _) _ _ _ _ _⟩
 case rest =>
 obtain⟨s2,t2,A,G,hs,ht,b8⟩:=hcut;clear HA HG HS HT lA lG x0 x1 x2 x3 x4 y0 y1 y2 y3 y4 FA FG;have lA:=A.lt;have lG:=G.lt
 by_cases hq:lo*Q i<=hi'*Q j
 ·have c1:zF (lo*Q i) (hi'*Q j)<=0:=by unfold zF;split;omega;rw[if_neg (by omega)];omega
  have HE:=zC (show decide (zF (lo'*Q j) (hi*Q i)<=0)=zHJ lo hi i lo' hi' j by rw[zH1];unfold zHJ;rw[decide_eq_true hq,Bool.true_and])
  obtain⟨x0,x1,x2,x3,x4⟩:=A;obtain⟨y0,y1,y2,y3,y4⟩:=G;clear hq;go_wp2_with fail;refine (zU _ _ _ _ _ _ _ _ (k+62505) (k+62505) (lo*Q i) (hi'*Q j) _ hs.lo ht.hi).mono ?_;rintro r w1 ⟨rfl,b7⟩;have A:=(SpC.mk x0 x1 x2 x3 x4).bw b7;have G:=(SpC.mk y0 y1 y2 y3 y4).bw b7;replace hs:=hs.bw b7;replace ht:=ht.bw b7;replace b8:=zB b8 b7;clear x0 x1 x2 x3 x4 y0 y1 y2 y3 y4 b7;obtain⟨x0,x1,x2,x3,x4⟩:=A;obtain⟨y0,y1,y2,y3,y4⟩:=G;go_wp2_with fail;refine (zU _ _ _ _ _ _ _ _ (k+62505) (k+62505) (lo'*Q j) (hi*Q i) _ ht.lo hs.hi).mono ?_;rintro r w2 ⟨rfl,b9⟩;replace b8:=zB b8 b9;go_wp2_with fail
  go_ret
  exact⟨by rw[<- zA HE];rfl,b8⟩
 ·have c1:¬ zF (lo*Q i) (hi'*Q j)<=0:=by unfold zF;rw[if_neg (by omega),if_pos (by omega)];omega
  have HE:=zC (show zHJ lo hi i lo' hi' j=false by unfold zHJ;rw[decide_eq_false hq,Bool.false_and])
  obtain⟨x0,x1,x2,x3,x4⟩:=A;obtain⟨y0,y1,y2,y3,y4⟩:=G;clear hq;go_wp2_with fail;refine (zU _ _ _ _ _ _ _ _ (k+62505) (k+62505) (lo*Q i) (hi'*Q j) _ hs.lo ht.hi).mono ?_;rintro r w1 ⟨rfl,b7⟩;replace b8:=zB b8 b7;go_wp2_with fail
  go_ret
  exact⟨by rw[zA HE];rfl,b8⟩
end Go.Proofs.YtgmnknmjainababGreat
