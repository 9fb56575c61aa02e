/-
  Its own texts.
-/
import Derived.Test.YtgmnknmjainababGreatK17
set_option maxRecDepth 100000
set_option maxHeartbeats 40000000
set_option linter.unnecessarySimpa false
set_option linter.unusedSimpArgs false
set_option linter.unusedVariables false
namespace Go.Proofs.YtgmnknmjainababGreat
open Go.RowKit
attribute [local go_sem ↓] Go.wp_at_zero Go.wp_at_succ
theorem zQS (w:World) (s:Sp) (x:Nm) (k k1 e b:Nat) (a:Int × Int) (n:Int) (hs:SpAt w s k a.1 a.2) (hx:IntAt w x.neg x.a x.n x.cap k1 n) (hle:a.1<=a.2) (hn:0<=n) (hk:k<=100000000) (S7:k1<=100000000) (he:e<=1000000) (hbits:s.bits=(b:Int)) :
  Calls Tryz.prog 135 #[.agg s.q,.agg x.q,.int .i64 e] w (zJ w b (k+k1+30) (zE a n (Q e)).1 (zE a n (Q e)).2):=by
 obtain⟨W,hW⟩:∃ W,W=((w.alloc (.cells s.q 36)).alloc (.cells x.q 26)).alloc (.cells zCq 36):=⟨_,rfl⟩;have b8:Below w.heap.size w W:=by rw[hW];exact bl3 _ _ _ _
 have A:SpC W w.heap.size s:=by rw[hW];constructor<;>simp[go_sem]
 have X:NmC W (w.heap.size+1) x:=by rw[hW];constructor<;>simp[go_sem]
 have R:NoC W (w.heap.size+1+1):=by rw[hW];constructor<;>simp[go_sem]
 have HS:=zC (hs.bw b8);have HX:=zC (hx.bw b8);have HB:=zC hbits;have Bx:=zC (zA7 (d:=Q e) hle hn);have HK:=zC (show ∀ w',Below W.heap.size W w'->(w'.cell? ⟨w.heap.size,0,none⟩=some (.bool s.ln)/\w'.cell? ⟨w.heap.size,1,none⟩=some (.slice s.la s.lN s.lc)/\w'.cell? ⟨w.heap.size,2,none⟩=some (.bool s.hn)/\w'.cell? ⟨w.heap.size,3,none⟩=some (.slice s.ha s.hN s.hc)/\nK0 w' (w.heap.size+1) x) from λ w' hB=>⟨(A.bw hB).c0,(A.bw hB).c1,(A.bw hB).c2,(A.bw hB).c3,(X.bw hB).c0,(X.bw hB).c1⟩)
 clear hs hx hbits hle hn
 go_enter Tryz.func135,Tryz.ntmps135
 go_wp2;rw[<- hW];clear hW;obtain⟨x0,x1,x2,x3,x4,x5⟩:=zA HK _ (Below.refl _ _);have C4:Below W.heap.size W W.drew:=(Below.refl _ _).drew
 go_region_held3 (λ w'=>w'.cell? ⟨w.heap.size,0,none⟩=some (.bool s.ln)/\w'.cell? ⟨w.heap.size,1,none⟩=some (.slice s.la s.lN s.lc)/\w'.cell? ⟨w.heap.size,2,none⟩=some (.bool s.hn)/\w'.cell? ⟨w.heap.size,3,none⟩=some (.slice s.ha s.hN s.hc)/\nK0 w' (w.heap.size+1) x) (exact zA HK _ (by with_reducible first|exact C4|exact zL o7 _|exact o7|exact A6))
  (first
   | (go_at_call 66;have hq:=A6;refine (zW _ _ _ _ _ _ _ _ k k1 a.2 n _ ((zA HS).hi.bw A6) ((zA HX).bw A6) (by omega) (by omega)).mono ?_;rintro r w2 ⟨b6,a2,n2,c2,rfl,o0,b9⟩;have k9:=k9.bw b9;have o7:=zB A6 b9)
   | (go_at_call 66;refine (zW _ _ _ _ _ _ _ _ k k1 a.1 n _ ((zA HS).lo.bw C4) ((zA HX).bw C4) (by omega) (by omega)).mono ?_;rintro r w1 ⟨g9,a1,n1,c1,rfl,k9,b7⟩;have A6:=zB C4 b7))
 obtain⟨w5,cf⟩:∃ w5,w5=w2.alloc (.cells #[.bool g9,.slice a1 n1 c1,.bool b6,.slice a2 n2 c2] 26):=⟨_,rfl⟩;have M6:Below W.heap.size W w5:=by rw[cf];exact zL o7 _
 have hN:Nums w5 w2.heap.size 2 (k+k1) (pr ⟨g9,a1,n1,c1⟩ ⟨b6,a2,n2,c2⟩) (pr (a.1*n) (a.2*n)):=by rw[cf];exact nums2' w2 _ rfl ⟨g9,a1,n1,c1⟩ ⟨b6,a2,n2,c2⟩ _ _ _ _ k9 o0
 have R5:=R.bw M6;have O5:=R5.lt;have A5:=A.bw M6;have lA:=A5.lt;have ah:=zC (show ∀ w',Below w5.heap.size w5 w'->(w'.cell? ⟨w.heap.size,4,none⟩=some (.int .i64 s.bits)) from λ w' hB=>(A5.bw hB).c4)
 have m8:Below w5.heap.size w5 w5.drew:=(Below.refl _ _).drew;clear x0 x1 x2 x3 x4 x5 b7 b9 k9 o0 A6 o7 C4 HK HS HX A X R;go_wp2;rw[<- cf];clear cf;have x0:=zA ah _ (Below.refl _ _);have n3:w.heap.size+1+1≠w.heap.size:=by omega
 have n4:w.heap.size≠w.heap.size+1+1:=by omega
 go_region_held3 (λ w'=>w'.cell? ⟨w.heap.size,4,none⟩=some (.int .i64 s.bits)) (first|exact zA ah _ (by with_reducible first|exact m8|exact I6|exact I5|exact C8|exact y9|exact j9|exact j7)|go_keep)
  (first
   | (go_at_call 103;have hq:=I5;refine (kC _ _ _ _ (k+k1+5+2) _ _ (bl.mono (by omega)) (by omega)).mono ?_;rintro r Bc ⟨bM,Be,tZ,qM,rfl,dy,P2⟩;have O1:=((((O1.bw Q7).bw cn).bw P6).bw P2);have I6:=zB I5 P2;obtain⟨q0,q1,q2,q3,q4,q5⟩:=R5.bw I6;have y0:=zA ah _ I6)
   | (go_at_call 105;have hq:=C8;refine (zBX _ _ _ _ e _ _ _ jv (by omega) (by omega)).mono ?_;rintro r oB ⟨lj,Lk,lq,gM,rfl,bl,P6⟩;have I5:=zB C8 P6)
   | (go_at_call 103;have hq:=y9;refine (kC _ _ _ _ (k+k1) _ _ vd (by omega)).mono ?_;rintro r w9 ⟨eQ,a9,n9,c9,rfl,jv,cn⟩;have C8:=zB y9 cn)
   | (go_at_call 102;have hq:=j9;refine (zAU _ 1 _ (k+k1) _ _ _ (hN.bw j9) (by omega)).mono ?_;rintro r w8 ⟨CT,a8,n8,c8,rfl,vd,Q7⟩;have y9:=zB j9 Q7)
   | (go_at_call 105;have hq:=j7;refine (zBX _ _ _ _ e _ _ _ L9 (by omega) (by omega)).mono ?_;rintro r w7 ⟨P1,a7,n7,c7,rfl,O1,I8⟩;have j9:=zB j7 I8)
   | (go_at_call 106;refine (zFH _ 1 _ (k+k1) _ _ _ (hN.bw m8) (by omega)).mono ?_;rintro r w6 ⟨D4,a6,n6,c6,rfl,L9,G3⟩;have j7:=zB m8 G3))
 all_goals
  go_wp2_with fail;refine bodyPost_ret (v:=.agg #[.bool P1,.slice a7 n7 c7,.bool bM,.slice Be tZ qM,.int .i64 s.bits]) (by simp[results,Tryz.results135,go_sem,q0,q1,q2,q3,q4]) rfl ⟨⟨P1,a7,n7,c7,bM,Be,tZ,qM,s.bits⟩,rfl,zA HB,?_,?_⟩
  ·rw[<- zA Bx]
   exact SpAt.put5 ⟨O1.mono (by omega),dy.mono (by omega)⟩ q0 q1 q2 q3 q4 _ _ _ _ _
  ·exact kB (zB (zB b8 M6) I6) (by omega) _ _ _ _ _
structure VnC (w:World) (B:Nat) (x:Nm):Prop where
 c:NmC w B x
 fz:∀ o,w.frozen? ⟨B,o,none⟩=false
theorem VnC.lt {w:World} {B:Nat} {x:Nm} (h:VnC w B x):B<w.heap.size:=h.c.lt
theorem VnC.bw {w w':World} {B:Nat} {x:Nm} (h:VnC w B x) (hb:Below w.heap.size w w'):VnC w' B x :=
 ⟨h.c.bw hb,λ o=>(hb.frozen (p:=⟨B,o,none⟩) h.lt).trans (h.fz o)⟩
abbrev zAX (w:World) (B:Nat) (x:Nm):World:=(w.setCell ⟨B,0,none⟩ (.bool x.neg)).setCell ⟨B,1,none⟩ (.slice x.a x.n x.cap)
theorem VnC.put {w:World} {B:Nat} {x:Nm} (h:VnC w B x) (y:Nm):VnC (zAX w B y) B y:=⟨zE4 h.c y,zA9 h.fz _ _⟩
theorem VnC.off {w:World} {B B':Nat} {x:Nm} (h:VnC w B x) (hne:B≠B') (y:Nm):VnC (zAX w B' y) B x:=⟨h.c.off hne _ _,zA9 h.fz _ _⟩
theorem IntAt.putv {w:World} {neg:Bool} {a:Option Addr} {n cap k:Nat} {z:Int} (h:IntAt w neg a n cap k z) {B:Nat} {x:Nm} (hx:VnC w B x) (y:Nm):IntAt (zAX w B y) neg a n cap k z:=h.put2 hx.c.c0 hx.c.c1 _ _
theorem NoC.offv {w:World} {B B':Nat} (h:NoC w B) (hne:B≠B') (y:Nm):NoC (zAX w B' y) B:=by
 obtain⟨q0,q1,q2,q3,q4,q5⟩:=h;exact⟨by simp[go_sem,q0,hne,Ne.symm hne],by simp[go_sem,q1,hne,Ne.symm hne],by simp[go_sem,q2,hne,Ne.symm hne],by simp[go_sem,q3,hne,Ne.symm hne],by simp[go_sem,q4,hne,Ne.symm hne],zA9 q5 _ _⟩
theorem vnc_new (w:World) (x:Nm) (T:TypeId):VnC (w.alloc (.cells x.q T)) w.heap.size x:=⟨⟨by simp,by simp⟩,λ o=>by simp[go_sem]⟩
def zF4 (lo:Int):Int:=if lo<0 then 0 else lo
def zEC (b:Nat) (hi:Int):Int:=if Q b<hi then Q b else hi
theorem zBN {b:Nat} (z:Int) (hz:z=(b:Int)) (w:World) (n:Int) (hb:b<=100000) (h0 : -9223372036854775808<=n) (h1:n<=9223372036854775807) :
  Calls Tryz.prog 27 #[.int .i64 n,.int .i64 z] w (zJ w b (b/16+18) (n*Q b) (n*Q b)):=by
 subst hz;exact zDS w n b hb h0 h1
theorem sp_putLo {w:World} {B:Nat} {s:Sp} (h:VrC w B s) (x:Nm):VrC (zAX w B x) B ⟨x.neg,x.a,x.n,x.cap,s.hn,s.ha,s.hN,s.hc,s.bits⟩:=by
 obtain⟨⟨q0,q1,q2,q3,q4⟩,q5⟩:=h;exact⟨⟨by simp[go_sem,q0],by simp[go_sem,q1],by simp[go_sem,q2],by simp[go_sem,q3],by simp[go_sem,q4]⟩,λ o=>by rw[zO,zO];exact q5 o⟩
theorem VrC.offv {w:World} {B B':Nat} {s:Sp} (h:VrC w B s) (hne:B≠B') (y:Nm):VrC (zAX w B' y) B s:=by
 obtain⟨⟨q0,q1,q2,q3,q4⟩,q5⟩:=h;exact⟨⟨by simp[go_sem,q0,hne,Ne.symm hne],by simp[go_sem,q1,hne,Ne.symm hne],by simp[go_sem,q2,hne,Ne.symm hne],by simp[go_sem,q3,hne,Ne.symm hne],by simp[go_sem,q4,hne,Ne.symm hne]⟩,λ o=>by rw[zO,zO];exact q5 o⟩
structure ClSt (w wr:World) (B C:Nat) (ss xx yy:Sp) (K b:Nat) (lo hi:Int):Prop where
 s:VrC wr w.heap.size ss
 x:VrC wr B xx
 y:VrC wr C yy
 ps:SpAt wr ss K lo hi
 px:SpAt wr xx K 0 0
 py:SpAt wr yy K (Q b) (Q b)
 no:NoC wr (w.heap.size+1)
 be:Below w.heap.size w wr
 l:w.heap.size+1<B
 l':w.heap.size+1<C
theorem ClSt.bw {w wr wr':World} {B C:Nat} {s x y:Sp} {K b:Nat} {lo hi:Int} (h:ClSt w wr B C s x y K b lo hi) (hb:Below wr.heap.size wr wr'):ClSt w wr' B C s x y K b lo hi :=
 ⟨h.s.bw hb,h.x.bw hb,h.y.bw hb,h.ps.bw hb,h.px.bw hb,h.py.bw hb,h.no.bw hb,zB h.be hb,h.l,h.l'⟩
theorem ClSt.putL {w wr:World} {B C:Nat} {s x y:Sp} {K b:Nat} {lo hi:Int} (h:ClSt w wr B C s x y K b lo hi):ClSt w (zAX wr w.heap.size ⟨x.ln,x.la,x.lN,x.lc⟩) B C ⟨x.ln,x.la,x.lN,x.lc,s.hn,s.ha,s.hN,s.hc,s.bits⟩ x y K b 0 hi:=by
 have c0:=h.s.c.c0;have c1:=h.s.c.c1;exact⟨sp_putLo h.s ⟨x.ln,x.la,x.lN,x.lc⟩,h.x.offv (by have:=h.l;omega) _,h.y.offv (by have:=h.l';omega) _,⟨h.px.lo.put2 c0 c1 _ _,h.ps.hi.put2 c0 c1 _ _⟩,⟨h.px.lo.put2 c0 c1 _ _,h.px.hi.put2 c0 c1 _ _⟩,⟨h.py.lo.put2 c0 c1 _ _,h.py.hi.put2 c0 c1 _ _⟩,h.no.offv (by omega) _,zD5 h.be (XW _) _ _,h.l,h.l'⟩
theorem zO3 (w:World) (s:Sp) (K b:Nat) (lo hi:Int) (hs:SpAt w s K lo hi) (hbits:s.bits=(b:Int)) (hb:b<=10000) (T5:b/16+18<=K) (hK:K<=100000000) :
  Calls Tryz.prog 55 #[.agg s.q,.int .i64 0,.int .i64 1] w (zJ w b K (zF4 lo) (zEC b hi)):=by
 have qb:=zG b;obtain⟨W,hW⟩:∃ W,W=(w.alloc (.cells s.q 36)).alloc (.cells zCq 36):=⟨_,rfl⟩;have b8:Below w.heap.size w W:=by rw[hW];exact bl2 _ _ _
 have A:VrC W w.heap.size s:=by rw[hW];exact⟨⟨by simp[go_sem],by simp[go_sem],by simp[go_sem],by simp[go_sem],by simp[go_sem]⟩,λ o=>by simp[go_sem]⟩
 have R:NoC W (w.heap.size+1):=by rw[hW];constructor<;>simp[go_sem]
 have HS:=zC (hs.bw b8);have HB:=zC hbits;have lA:=A.lt;have lR:=R.lt;clear hs hbits
 go_enter Tryz.func55,Tryz.ntmps55
 go_wp2;rw[<- hW];clear hW;have HK:=zC (show ∀ w',Below W.heap.size W w'->(w'.cell? ⟨w.heap.size,4,none⟩=some (.int .i64 s.bits)) from λ w' hB=>(A.bw hB).c.c4)
 have x4:=zA HK _ (Below.refl _ _)
 go_cut [7,8] (λ p q wx=>TwoP W wx b K K (0,0) (Q b,Q b) p q)
 case first =>
  go_region_held3 (λ w'=>w'.cell? ⟨w.heap.size,4,none⟩=some (.int .i64 s.bits)) (exact zA HK _ (by repeat' (first|with_reducible exact J9|with_reducible exact F9|with_reducible exact Below.refl _ _|with_reducible refine Below.drew ?_|with_reducible refine zL ?_ _|with_reducible refine Below.setCell ?_ (by with_reducible first|exact XW _|exact Yh _|exact F6|exact Yf F6|exact H6|exact Yf H6) _)))
   (first
    | (go_at_call 27;have hq:=F9;refine (zBN s.bits (zA HB) _ 1 (by omega) (by decide) (by decide)).mono ?_;rintro r cw ⟨BK,rfl,rQ,R6,K4⟩;have dO:=zC rQ;clear rQ;have O4:Below R7.heap.size R7 cw:=(by with_reducible first|exact K4|exact zB (bl1 _ _) K4|exact zB (bl2 _ _ _) K4);have J9:=zB F9 O4;(first|with_reducible have W7:=(zM R7 36).bw K4|with_reducible have W7:=((zM R7 36).bw (bl1 _ _)).bw K4|skip);(try with_reducible have az:=(zB4 (R7.alloc _) (R7.heap.size+1) (hs1 _ _) 36).bw K4);replace I9:=I9.bw O4;(try have wm:=J4.lt);(try have wo:=K8.lt);(try replace J4:=J4.bw O4);(try replace K8:=K8.bw O4);have H6:=J9.size;(try have mF:=J4);(try obtain⟨rv,ry,rz,rA,rB,rC⟩:=mF);(try have Ew:=J4.lt);(try have mG:=K8);(try obtain⟨rD,rE,rF,rG,rH,rJ⟩:=mG);(try have Ey:=K8.lt);(try have wy:=W7);(try obtain⟨EK,EL,EM,EP,ER,ES⟩:=wy);(try have Ns:=W7.lt);(try have wz:=az);(try obtain⟨ET,EV,EW,EX,EY,EZ⟩:=wz);(try have Nt:=az.lt))
    | (go_at_call 27;refine (zBN s.bits (zA HB) _ 0 (by omega) (by decide) (by decide)).mono ?_;rintro r R7 ⟨bX,rfl,Y2,I9,H8⟩;have I3:=zC Y2;clear Y2;have F9:Below W.heap.size W R7:=(by with_reducible first|exact zB (Below.refl _ _).drew H8|exact zB (bl1 _ _).drew H8|exact zB (bl2 _ _ _).drew H8);(first|with_reducible have J4:=((zM W 36).bw (Below.refl _ _).drew).bw H8|with_reducible have J4:=((zM W 36).bw (bl1 _ _).drew).bw H8|skip);(try with_reducible have K8:=((zB4 (W.alloc _) (W.heap.size+1) (hs1 _ _) 36).bw (Below.refl _ _).drew).bw H8);have F6:=F9.size))
  all_goals
   have hiXU:=(show SpAt cw bX K 0 0 by have h:=I9.mono T5;rw[Int.zero_mul] at h;exact h)
   have hiYU:=(show SpAt cw BK K (Q b) (Q b) by have h:=R6.mono T5;rw[Int.one_mul] at h;exact h)
   go_wp2_with fail;go_meet
   first
    | with_reducible exact zFE (x:=bX) (y:=BK) J9 hiXU hiYU (zA I3) (zA dO)
    | with_reducible exact zE0 (x:=bX) (y:=BK) J9 hiXU hiYU (zA I3) (zA dO)
    | with_reducible exact zHQ (x:=bX) (y:=BK) J9 hiXU hiYU (zA I3) (zA dO) (by assumption) (by with_reducible first|exact XW _|exact Yh _|exact F6|exact Yf F6|exact H6|exact Yf H6)
    | with_reducible exact zK2 (x:=bX) (y:=BK) J9 hiXU hiYU (zA I3) (zA dO) (by assumption) (by with_reducible first|exact XW _|exact Yh _|exact F6|exact Yf F6|exact H6|exact Yf H6)
    | with_reducible exact zKJ (x:=bX) (y:=BK) J9 hiXU hiYU (zA I3) (zA dO) (by assumption) (by assumption) (by with_reducible first|exact XW _|exact Yh _|exact F6|exact Yf F6|exact H6|exact Yf H6) (by with_reducible first|exact XW _|exact Yh _|exact F6|exact Yf F6|exact H6|exact Yf H6) (by omega)
 case rest =>
 obtain⟨BU,CU,xU,yU,rfl,rfl,vB,Jb,hneU,XU,YU,hxU,hyU,bxU,byU,hblU⟩:=hcut;have st:ClSt w wc BU CU s xU yU K b lo hi:=⟨A.bw hblU,XU,YU,(zA HS).bw hblU,hxU,hyU,R.bw hblU,zB b8 hblU,by omega,by omega⟩
 have dA:=zA HB;have oI:=zC bxU;clear A R HS x4 HK XU YU hxU hyU bxU byU b8 hblU lA lR;have wB:=st.s.lt;have Ji:=st.x.lt;obtain⟨⟨t0,t1,t2,t3,t4⟩,t5⟩:=st.s;obtain⟨⟨u0,u1,u2,u3,u4⟩,u5⟩:=st.x;have Q8:=zC dA;clear dA;go_wp2_with fail;refine (zU _ _ _ _ _ _ _ _ _ _ lo 0 _ st.ps.lo st.px.lo).mono ?_;rintro r' w4 ⟨rfl,m9⟩;replace st:=st.bw m9;clear m9 t0 t1 t2 t3 t4 t5 u0 u1 u2 u3 u4 u5 wB Ji
 by_cases hl:lo<0
 ·have F8:zF lo 0<0:=by unfold zF;rw[if_pos (by omega)];omega
  have wE:=zC (show zF4 lo=0 by unfold zF4;rw[if_pos hl])
  have wB:=st.s.lt;have Ji:=st.x.lt;have stn:=st.putL;have HSY:=zC st.y;obtain⟨⟨t0,t1,t2,t3,t4⟩,t5⟩:=st.s;obtain⟨⟨u0,u1,u2,u3,u4⟩,u5⟩:=st.x;obtain⟨V,hV⟩:∃ V,V=zAX w4 w.heap.size ⟨xU.ln,xU.la,xU.lN,xU.lc⟩:=⟨_,rfl⟩;rw[<- hV] at stn;unfold zAX at hV;rw[zA wE];clear st hl;have st:=stn;clear stn;have Nv:=st.s.lt;have Fa:=st.y.lt;have n02:w.heap.size≠CU:=by have:=st.l';omega
  have n20:CU≠w.heap.size:=by have:=st.l';omega
  have y4:=(zA HSY);obtain⟨⟨v0,v1,v2,v3,v4⟩,v5⟩:=y4;go_wp2_with fail;rw[<- hV];clear hV u0 u1 u2 u3 u4 u5 F8 Ji Nv;refine (zU _ _ _ _ _ _ _ _ _ _ hi (Q b) _ st.ps.hi st.py.lo).mono ?_;rintro r' w5 ⟨rfl,A7⟩;replace st:=st.bw A7;clear A7 t0 t1 t2 t3 t4 t5 v0 v1 v2 v3 v4 v5 wB Fa;have wB:=st.s.lt;have Fa:=st.y.lt;have lzR:=st.no.lt;have K9:=zC st
  by_cases hh:Q b<hi
  ·have G8:0<zF hi (Q b):=by unfold zF;rw[if_neg (by omega),if_pos (by omega)];omega
   have wF:=zC (show zEC b hi=Q b by unfold zEC;rw[if_pos (by omega)])
   obtain⟨⟨t0,t1,t2,t3,t4⟩,t5⟩:=st.s;obtain⟨⟨v0,v1,v2,v3,v4⟩,v5⟩:=st.y;obtain⟨q0,q1,q2,q3,q4,q5⟩:=st.no;have fD:=st.be;have i1:=st.ps.lo;have i2:=st.py.lo;clear st hh;go_wp2_with fail;rw[zA wF]
   (try rw[zA wE])
   obtain⟨p0,p1,p2,p3,p4,p5⟩:=NoC.offH ⟨q0,q1,q2,q3,q4,q5⟩ (show w.heap.size+1≠w.heap.size by omega) (.bool yU.ln) (.slice yU.la yU.lN yU.lc)
   refine bodyPost_ret (v:=.agg #[.bool xU.ln,.slice xU.la xU.lN xU.lc,.bool yU.ln,.slice yU.la yU.lN yU.lc,.int .i64 s.bits]) (by simp[results,Tryz.results55,go_sem,q0,q1,q2,q3,q4]) rfl ⟨⟨xU.ln,xU.la,xU.lN,xU.lc,yU.ln,yU.la,yU.lN,yU.lc,s.bits⟩,rfl,zA Q8,?_,?_⟩
   ·exact SpAt.put5 (show SpAt _ (⟨xU.ln,xU.la,xU.lN,xU.lc,yU.ln,yU.la,yU.lN,yU.lc,s.bits⟩:Sp) K _ _ from⟨i1.putH t2 t3 _ _,i2.putH t2 t3 _ _⟩) p0 p1 p2 p3 p4 _ _ _ _ _
   ·exact kB ((fD.setCell (p:=⟨w.heap.size,2,none⟩) (XW _) _).setCell (p:=⟨w.heap.size,3,none⟩) (XW _) _) (Yh _) _ _ _ _ _
  ·have G8:¬ 0<zF hi (Q b):=by unfold zF;split<;>(try split)<;>omega
   have wF:=zC (show zEC b hi=hi by unfold zEC;rw[if_neg (by omega)])
   obtain⟨⟨t0,t1,t2,t3,t4⟩,t5⟩:=st.s;obtain⟨q0,q1,q2,q3,q4,q5⟩:=st.no;have fD:=st.be;have i1:=st.ps;clear st hh;go_wp2_with fail;rw[zA wF]
   (try rw[zA wE])
   refine bodyPost_ret (v:=.agg #[.bool xU.ln,.slice xU.la xU.lN xU.lc,.bool s.hn,.slice s.ha s.hN s.hc,.int .i64 s.bits]) (by simp[results,Tryz.results55,go_sem,q0,q1,q2,q3,q4]) rfl ⟨⟨xU.ln,xU.la,xU.lN,xU.lc,s.hn,s.ha,s.hN,s.hc,s.bits⟩,rfl,zA Q8,?_,?_⟩
   ·exact SpAt.put5 i1 q0 q1 q2 q3 q4 _ _ _ _ _
   ·exact kB fD (Yh _) _ _ _ _ _
 ·have F8:¬ zF lo 0<0:=by unfold zF;rw[if_neg (by omega)];split<;>omega
  have wE:=zC (show zF4 lo=lo by unfold zF4;rw[if_neg hl])
  rw[zA wE];clear hl;have wB:=st.s.lt;have Fa:=st.y.lt;obtain⟨⟨t0,t1,t2,t3,t4⟩,t5⟩:=st.s;obtain⟨⟨v0,v1,v2,v3,v4⟩,v5⟩:=st.y;go_wp2_with fail;refine (zU _ _ _ _ _ _ _ _ _ _ hi (Q b) _ st.ps.hi st.py.lo).mono ?_;rintro r' w5 ⟨rfl,A7⟩;replace st:=st.bw A7;clear A7 t0 t1 t2 t3 t4 t5 v0 v1 v2 v3 v4 v5 wB Fa;have wB:=st.s.lt;have Fa:=st.y.lt;have lzR:=st.no.lt;have K9:=zC st
  by_cases hh:Q b<hi
  ·have G8:0<zF hi (Q b):=by unfold zF;rw[if_neg (by omega),if_pos (by omega)];omega
   have wF:=zC (show zEC b hi=Q b by unfold zEC;rw[if_pos (by omega)])
   obtain⟨⟨t0,t1,t2,t3,t4⟩,t5⟩:=st.s;obtain⟨⟨v0,v1,v2,v3,v4⟩,v5⟩:=st.y;obtain⟨q0,q1,q2,q3,q4,q5⟩:=st.no;have fD:=st.be;have i1:=st.ps.lo;have i2:=st.py.lo;clear st hh;go_wp2_with fail;rw[zA wF]
   (try rw[zA wE])
   obtain⟨p0,p1,p2,p3,p4,p5⟩:=NoC.offH ⟨q0,q1,q2,q3,q4,q5⟩ (show w.heap.size+1≠w.heap.size by omega) (.bool yU.ln) (.slice yU.la yU.lN yU.lc)
   refine bodyPost_ret (v:=.agg #[.bool s.ln,.slice s.la s.lN s.lc,.bool yU.ln,.slice yU.la yU.lN yU.lc,.int .i64 s.bits]) (by simp[results,Tryz.results55,go_sem,q0,q1,q2,q3,q4]) rfl ⟨⟨s.ln,s.la,s.lN,s.lc,yU.ln,yU.la,yU.lN,yU.lc,s.bits⟩,rfl,zA Q8,?_,?_⟩
   ·exact SpAt.put5 (show SpAt _ (⟨s.ln,s.la,s.lN,s.lc,yU.ln,yU.la,yU.lN,yU.lc,s.bits⟩:Sp) K _ _ from⟨i1.putH t2 t3 _ _,i2.putH t2 t3 _ _⟩) p0 p1 p2 p3 p4 _ _ _ _ _
   ·exact kB ((fD.setCell (p:=⟨w.heap.size,2,none⟩) (XW _) _).setCell (p:=⟨w.heap.size,3,none⟩) (XW _) _) (Yh _) _ _ _ _ _
  ·have G8:¬ 0<zF hi (Q b):=by unfold zF;split<;>(try split)<;>omega
   have wF:=zC (show zEC b hi=hi by unfold zEC;rw[if_neg (by omega)])
   obtain⟨⟨t0,t1,t2,t3,t4⟩,t5⟩:=st.s;obtain⟨q0,q1,q2,q3,q4,q5⟩:=st.no;have fD:=st.be;have i1:=st.ps;clear st hh;go_wp2_with fail;rw[zA wF]
   (try rw[zA wE])
   refine bodyPost_ret (v:=.agg s.q) (by simp[results,Tryz.results55,go_sem,q0,q1,q2,q3,q4]) rfl ⟨⟨s.ln,s.la,s.lN,s.lc,s.hn,s.ha,s.hN,s.hc,s.bits⟩,rfl,zA Q8,?_,?_⟩
   ·exact SpAt.put5 i1 q0 q1 q2 q3 q4 _ _ _ _ _
   ·exact kB fD (Yh _) _ _ _ _ _
theorem zB8 {e : Nat} (z : Int) (hz : z = (e : Int)) (w : World) (hk : e ≤ 1000000000) : Calls Tryz.prog 104 #[.int .i64 z] w fun r w' =>
      ∃ neg' a' n' cap', r = .returned (.agg #[.bool neg', .slice a' n' cap']) ∧ IntAt w' neg' a' n' cap' (e / 16 + 8) (Q e) ∧ Below w.heap.size w w' := by
  subst hz
  exact (kT e w hk).mono fun r w' ⟨q1, q2, q3, q4, h1, h2, h3⟩ => ⟨q1, q2, q3, q4, h1, h2.mono (by omega), h3⟩
theorem zFI (z:Int) (w:World) (s:Sp) (x:Nm) (k k1 e b:Nat) (hz:z=(e:Int)) (a:Int × Int) (n:Int) (hs:SpAt w s k a.1 a.2) (hx:IntAt w x.neg x.a x.n x.cap k1 n) (hle:a.1<=a.2) (hn:0<=n) (hk:k<=100000000) (S7:k1<=100000000) (he:e<=1000000) (hbits:s.bits=(b:Int)) :
  Calls Tryz.prog 135 #[.agg s.q,.agg x.q,.int .i64 z] w (zJ w b (k+k1+30) (zE a n (Q e)).1 (zE a n (Q e)).2):=by
 subst hz;exact zQS w s x k k1 e b a n hs hx hle hn hk S7 he hbits
theorem zFR (w:World) (s t:Sp) (k b:Nat) (a c:Int × Int) (hs:SpAt w s k a.1 a.2) (ht:SpAt w t k c.1 c.2) (hk:k<=700000000) (hb:s.bits=(b:Int)) :
  Calls Tryz.prog 26 #[.agg s.q,.agg t.q] w (zJ w b (k+1) (zAF a c).1 (zAF a c).2) :=
 (zFD w s t k a.1 a.2 c.1 c.2 hs ht hk).mono λ r w' h=>by rw[hb] at h;exact h
theorem NmC.offP {w:World} {B B':Nat} {x:Nm} (h:NmC w B x) (hne:B≠B') (u:Sp):NmC (zQ w B' u) B x:=⟨kN h.c0 hne _ _ _ _ _,kN h.c1 hne _ _ _ _ _⟩
def ShF (p q:Nat->Int) (n:Nat) (z:Int):Prop:=(z=5/\∃ j,j<n/\p j<=0)\/(z=2/\(∀ j,j<n->0<p j)/\∃ j,j<n/\100*q j<p j)\/(z=0/\∀ j,j<n->0<p j/\p j<=100*q j)
def ShW (p q:Nat->Int) (i:Nat) (z:Int):Prop:=(∀ j,j<i->0<p j)/\((z=0/\∀ j,j<i->p j<=100*q j)\/(z=2/\∃ j,j<i/\100*q j<p j))
theorem ShW.ok {p q:Nat->Int} {i:Nat} {z:Int} (h:ShW p q i z) (h0:0<p i) (h1:p i<=100*q i):ShW p q (i+1) z:=by
 obtain⟨a,b⟩:=h;refine⟨λ j hj=>?_,?_⟩
 ·by_cases e:j=i
  ·subst e;exact h0
  ·exact a j (by omega)
 ·rcases b with⟨e,b⟩|⟨e,j,hj,b⟩
  ·refine Or.inl ⟨e,λ j hj=>?_⟩
   by_cases e:j=i
   ·subst e;exact h1
   ·exact b j (by omega)
  ·exact Or.inr ⟨e,j,by omega,b⟩
theorem ShW.many {p q:Nat->Int} {i:Nat} {z:Int} (h:ShW p q i z) (h0:0<p i) (h1:100*q i<p i):ShW p q (i+1) 2:=by
 refine⟨λ j hj=>?_,Or.inr ⟨rfl,i,by omega,h1⟩⟩
 by_cases e:j=i
 ·subst e;exact h0
 ·exact h.1 j (by omega)
theorem ShW.fin {p q:Nat->Int} {n:Nat} {z:Int} (h:ShW p q n z):ShF p q n z:=by
 obtain⟨a,b⟩:=h
 rcases b with⟨e,b⟩|⟨e,b⟩
 ·exact Or.inr (Or.inr ⟨e,λ j hj=>⟨a j hj,b j hj⟩⟩)
 ·exact Or.inr (Or.inl ⟨e,a,b⟩)
theorem zGI (b n cap:Nat) (p q:Nat->Int) (w:World) (h:Rats w b n p q) (hn:n<=1000) (hr:∀ j,j<n->rok (p j) (q j)) :
  Calls Tryz.prog 111 #[.slice (some ⟨b,0,none⟩) n cap] w λ r w'=>∃ z,r=.returned (.int .i64 z)/\ShF p q n z/\Below w.heap.size w w':=by
 have iF:=h.lt;have HH:=zC h;have HR:=zC hr;clear h hr
 go_enter Tryz.func111,Tryz.ntmps111
 go_wp2
 go_loopw [3,8] (λ ee ii wr=>∃ (i:Nat) (z:Int),i<=n/\ii=.int .i64 i/\ee=.int .i64 z/\ShW p q i z/\Below w.heap.size w wr) (λ _ ii _=>n-(intOf ii).toNat)
 case atStart=>exact⟨0,0,by omega,rfl,rfl,⟨λ j hj=>by omega,Or.inl ⟨rfl,λ j hj=>by omega⟩⟩,Below.refl _ _⟩
 case round =>
  obtain⟨i,z,hi,rfl,rfl,hz,hB⟩:=hrel
  by_cases G4:i<n
  ·have H2:=(zA HH).bw hB
   have g0:=H2.c0 i G4;have g1:=H2.c1 i G4;have O9:(i:Int)<(n:Int):=by omega
   have HZ:=zC hz;have rk:=zA HR i G4;clear hz H2
   by_cases hp:p i<=0
   ·go_wp2_with fail
    go_ret
    exact⟨5,rfl,Or.inl ⟨rfl,i,G4,hp⟩,zL hB _⟩
   ·obtain⟨r1,r2,r3,r4⟩:=rk
    by_cases hc:p i<=100*q i
    ·have dt:zDH (p i) (q i) 100=true:=by unfold zDH;simp;omega
     have HC:=zC (And.intro hp hc);have DN:¬ p i<=0:=hp;clear hc;go_wp2_with (go_at_call 151;refine (zGL _ _ 100 _ (by omega) (by omega) (by omega) (by omega)).mono ?_;rintro r w1 ⟨rfl,b7⟩;rw[dt])
     go_roundw
     case rel=>exact⟨i+1,z,by omega,by go_num,rfl,(zA HZ).ok (by have:=(zA HC).1;omega) (zA HC).2,zB (zL hB _) b7⟩
     case measure=>simp[intOf];omega
    ·have dt:zDH (p i) (q i) 100=false:=by unfold zDH;simp;omega
     have HC:=zC (And.intro hp hc);have DN:¬ p i<=0:=hp;clear hc;go_wp2_with (go_at_call 151;refine (zGL _ _ 100 _ (by omega) (by omega) (by omega) (by omega)).mono ?_;rintro r w1 ⟨rfl,b7⟩;rw[dt])
     go_roundw
     case rel=>exact⟨i+1,2,by omega,by go_num,rfl,(zA HZ).many (by have:=(zA HC).1;omega) (by have:=(zA HC).2;omega),zB (zL hB _) b7⟩
     case measure=>simp[intOf];omega
  ·have hiE:i=n:=by omega
   subst hiE;have O9:¬ (i:Int)<(i:Int):=by omega
   have HZ:=zC hz;clear hz;go_wp2_with fail
   go_ret
   exact⟨z,rfl,(zA HZ).fin,hB⟩
open Go
section
variable {Pg : Program} {ops : Array Oper} {Q : Exit -> Act -> World -> Prop} {md : Region.Mode} {S : Nat -> World -> Prop}
def AnyS (Pg:Program) (md:Region.Mode) (ops:Array Oper) (Q:Exit->Act->World->Prop) (S:Nat->World->Prop):Nat->Array Bool->Act->World->Prop
 | 0,listed,a,w=>Region.ready md ops listed=[]/\Q .normal a w
 | fuel+1,listed,a,w =>
  (Region.ready md ops listed=[]->Q .normal a w) /\
  ∀ i ∈ Region.ready md ops listed,wpOp Pg ops Q i (λ a' w'=>S i w'/\AnyS Pg md ops Q S fuel (listed.setIfInBounds i true) a' w') a w
theorem AnyS.any:∀ (fuel:Nat) (listed:Array Bool) (a:Act) (w:World),AnyS Pg md ops Q S fuel listed a w->wpAny Pg md ops Q fuel listed a w
 | 0,_,_,_,h=>h
 | fuel+1,_,_,_,h=>⟨h.1,λ i hi=>wpOp_mono (λ a' w' h'=>AnyS.any fuel _ a' w' h'.2) (h.2 i hi)⟩
theorem AnyS.first {i:Nat} {oi:Oper} {v:Value} {T:World->Prop} (hi:ops[i]?=some oi) (mE:∀ (j:Nat) (o:Oper) cs b,ops[j]?=some o->o.op≠.select cs b)
  (hQ:∀ c a w,Q (.panic c) (a.put oi.dst v) w->Q (.panic c) a w) (hi':∀ w,T w->S i w) :
  ∀ (fuel:Nat) (listed:Array Bool) (a:Act) (w:World),(∀ j,listed.getD j true=false->zKO md ops j i=true\/∀ w,S j w->T w) ->
   (∀ j oj,ops[j]?=some oj->j≠i->listed.getD j true=false->(∀ e ∈ oj.after,Region.binds md e=true->e.on≠i)->oi.apart ops oj=true) ->
   i ∈ Region.ready md ops listed->YieldsIf Pg ops T oi v a->T w->S i w ->
   AnyS Pg md ops Q S fuel (listed.setIfInBounds i true) (a.put oi.dst v) w->AnyS Pg md ops Q S (fuel+1) listed a w:=by
 intro fuel
 induction fuel with
 | zero =>
  intro listed a w hT _ hr hy Nw hS H
  refine⟨λ h=>(by rw[h] at hr;cases hr),λ j hj=>?_⟩
  by_cases bj:j=i
  ·subst bj;exact hy.wpOp hi Nw ⟨hS,H⟩
  ·have:=ready_mono hj bj
   rw[H.1] at this
   cases this
 | succ fuel ih =>
  intro listed a w hT hfree hr hy Nw hS H
  refine⟨λ h=>(by rw[h] at hr;cases hr),λ j hj=>?_⟩
  by_cases bj:j=i
  ·subst bj;exact hy.wpOp hi Nw ⟨hS,H⟩
  ·have hjT:∀ w,S j w->T w:=by
    rcases hT j (mem_ready.1 hj).1 with h|h
    ·exact absurd hj (λ hj=>zIR h hr hj)
    ·exact h
   have h1:=H.2 j (ready_mono hj bj);obtain⟨ja,oj,vP,mD⟩:=mem_ready.1 hj
   have vQ:∀ e ∈ oj.after,Region.binds md e=true->e.on≠i:=λ e he hb heq=>by
    have h1:=mD e he hb;have h0:=(mem_ready.1 hr).1;rw[heq] at h1
    rcases Nat.lt_or_ge i listed.size with h'|h'
    ·simp[h'] at h0 h1;rw[h0] at h1;cases h1
    ·simp[Array.getElem?_eq_none h'] at h1
   have h2:=wpOp_putIf vP (hfree j oj vP bj ja vQ) (λ cs b=>mE i oi cs b hi) (λ cs b=>mE j oj cs b vP) hQ hy h1
   have fB:∀ k ok,ops[k]?=some ok->k≠i->(listed.setIfInBounds j true).getD k true=false ->
     (∀ e ∈ ok.after,Region.binds md e=true->e.on≠i)->oi.apart ops ok=true:=λ k ok hk MQ Et MR=>by
    refine hfree k ok hk MQ ?_ MR
    by_cases rm:j=k
    ·subst rm;exact ja
    ·rw[getD_set_ne true rm] at Et;exact Et
   have hT2:∀ k,(listed.setIfInBounds j true).getD k true=false->zKO md ops k i=true\/∀ w,S k w->T w:=λ k hk=>by
    refine hT k ?_
    by_cases rm:j=k
    ·subst rm;exact ja
    ·rw[getD_set_ne true rm] at hk;exact hk
   refine wpOp_mono (λ a' w' h3=>⟨h3.2.1,ih (listed.setIfInBounds j true) a' w' hT2 fB (ready_mono hr (Ne.symm bj)) h3.1 (hjT w' h3.2.1) (hi' _ (hjT w' h3.2.1)) ?_⟩) h2
   rw[Array.setIfInBounds_comm _ _ bj];exact h3.2.2
theorem AnyS.take {i:Nat} {oi:Oper} {v:Value} {T:World->Prop} {fuel:Nat} {listed:Array Bool} {a:Act} {w:World} (hi:ops[i]?=some oi)
  (hs:Region.noSelect ops=true) (hf:Region.free md ops listed i=true) (hr:(Region.ready md ops listed).contains i=true)
  (hQ:∀ c a w,Q (.panic c) (a.put oi.dst v) w->Q (.panic c) a w) (k m:Nat) (hk:∀ j,listed.getD j true=false->j<k\/k+m<=j->∀ w,S j w->T w) (hlate:(List.range m).all (λ j=>zKO md ops (k+j) i)=true)
  (hi':∀ w,T w->S i w) (hy:YieldsIf Pg ops T oi v a) (WJ:T w)
  (h:AnyS Pg md ops Q S fuel (listed.setIfInBounds i true) (a.put oi.dst v) w):AnyS Pg md ops Q S (fuel+1) listed a w :=
 AnyS.first hi (Region.noSelect_spec hs) hQ hi' fuel listed a w (λ j hj=>by
  by_cases h1:j<k\/k+m<=j
  ·exact Or.inr (hk j hj h1)
  ·refine Or.inl ?_
   have:=(List.all_eq_true.1 hlate) (j-k) (List.mem_range.2 (by omega))
   have e:k+(j-k)=j:=by omega
   rw[e] at this
   exact this) (Region.free_spec hi hf) (by simpa using hr) hy WJ (hi' _ WJ) h
theorem AnyS.one {i:Nat} {o:Oper} {fuel:Nat} {listed:Array Bool} {a:Act} {w:World} (hr:Region.ready md ops listed=[i]) (ho:ops[i]?=some o)
  (h:∀ K':Act->World->Prop,Shut (∀ a w,S i w->(S i w->AnyS Pg md ops Q S fuel (listed.setIfInBounds i true) a w)->K' a w)->if Region.wanted o (yielded ops a.tmps)=true then Oper.wp Pg o a w K' Q else K' (a.put o.dst undef) w) :
  AnyS Pg md ops Q S (fuel+1) listed a w :=
 ⟨λ h0=>absurd (hr ▸ h0) (by simp),λ j hj=>by
  rw[hr] at hj;have vR:j=i:=by simpa using hj
  subst vR
  exact wpOp_step ho (λ K' hK=>h K' (λ a w hS hW=>hK a w ⟨hS,hW hS⟩))⟩
theorem AnyS.last {l:Nat} {o:Oper} {fuel:Nat} {listed:Array Bool} {a:Act} {w:World} (hr:Region.ready md ops listed=[l]) (ho:ops[l]?=some o)
  (hd:Region.ready md ops (listed.setIfInBounds l true)=[]) (hSl:∀ w,S l w)
  (h:∀ K':Act->World->Prop,Shut (∀ a w,Q .normal a w->K' a w)->if Region.wanted o (yielded ops a.tmps)=true then Oper.wp Pg o a w K' Q else K' (a.put o.dst undef) w) :
  AnyS Pg md ops Q S (fuel+1) listed a w :=
 ⟨λ h0=>absurd (hr ▸ h0) (by simp),λ j hj=>by
  rw[hr] at hj;have vR:j=l:=by simpa using hj
  subst vR;refine wpOp_step ho (λ K' hK=>h K' (λ a w hW=>hK a w ⟨hSl w,?_⟩))
  cases fuel with
  | zero=>exact⟨hd,hW⟩
  | succ fuel=>exact⟨λ _=>hW,by rw[hd];simp⟩⟩
theorem AnyS.start {id:Nat} {a:Act} {w:World} (hm:Pg.follows .mixedOrders=true)
  (h:AnyS Pg .any ops Q S ops.size (Array.replicate ops.size false) a w.drew):(Code.region id ops true).wp Pg Q a w :=
 wp_region_any hm (AnyS.any _ _ _ _ h)
end
open Go.RowKit
attribute [local go_sem ↓] Go.wp_at_zero Go.wp_at_succ
structure StSt (w wr:World) (BX BY:Nat) (X Y:Nm) (k:Nat) (p q:Int):Prop where
 x:VnC wr BX X
 y:VnC wr BY Y
 ix:IntAt wr X.neg X.a X.n X.cap k p
 iy:IntAt wr Y.neg Y.a Y.n Y.cap k q
 n1:NoI wr w.heap.size
 n2:NoI wr (w.heap.size+1)
 be:Below w.heap.size w wr
 l1:w.heap.size+1<BX
 l2:w.heap.size+1<BY
 ne:BX≠BY
theorem StSt.bw {w wr wr':World} {BX BY:Nat} {X Y:Nm} {k:Nat} {p q:Int} (h:StSt w wr BX BY X Y k p q) (hb:Below wr.heap.size wr wr'):StSt w wr' BX BY X Y k p q :=
 ⟨h.x.bw hb,h.y.bw hb,h.ix.bw hb,h.iy.bw hb,h.n1.bw hb,h.n2.bw hb,zB h.be hb,h.l1,h.l2,h.ne⟩
theorem NoI.offs {w:World} {B B':Nat} (h:NoI w B) (hne:B≠B') (y:Nm):NoI (zAX w B' y) B:=by
 obtain⟨q0,q1,q2⟩:=h;exact⟨by simp[go_sem,q0,hne,Ne.symm hne],by simp[go_sem,q1,hne,Ne.symm hne],zA9 q2 _ _⟩
theorem StSt.put {w wr:World} {BX BY:Nat} {X Y X' Y':Nm} {k k':Nat} {p q p' q':Int} (h:StSt w wr BX BY X Y k p q) (hx:IntAt wr X'.neg X'.a X'.n X'.cap k' p') (hy:IntAt wr Y'.neg Y'.a Y'.n Y'.cap k' q'):StSt w (zAX (zAX wr BX X') BY Y') BX BY X' Y' k' p' q' :=
 have x1:=h.x.put X';have y1:=h.y.off (Ne.symm h.ne) X'
 ⟨x1.off h.ne Y',y1.put Y',(hx.putv h.x X').putv y1 Y',(hy.putv h.x X').putv y1 Y',(h.n1.offs (by have:=h.l1;omega) X').offs (by have:=h.l2;omega) Y',(h.n2.offs (by have:=h.l1;omega) X').offs (by have:=h.l2;omega) Y',zD5 (zD5 h.be (by have:=h.l1;omega) _ _) (by have:=h.l2;omega) _ _,h.l1,h.l2,h.ne⟩
theorem st_end {w wr:World} {BX BY:Nat} {X Y:Nm} {k:Nat} {p q:Int} (h:StSt w wr BX BY X Y k p q):IntAt (zAX (zAX wr w.heap.size X) (w.heap.size+1) Y) X.neg X.a X.n X.cap k p/\IntAt (zAX (zAX wr w.heap.size X) (w.heap.size+1) Y) Y.neg Y.a Y.n Y.cap k q/\Below w.heap.size w (zAX (zAX wr w.heap.size X) (w.heap.size+1) Y):=by
 have n2:=h.n2.offs (B':=w.heap.size) (by omega) X
 obtain⟨a0,a1,af⟩:=h.n1;obtain⟨b0,b1,bf⟩:=n2;exact⟨(h.ix.put2 a0 a1 _ _).put2 b0 b1 _ _,(h.iy.put2 a0 a1 _ _).put2 b0 b1 _ _,zD5 (zD5 h.be (XW _) _ _) (Yh _) _ _⟩
theorem zQ7 (w:World) (n d:Int) (h:StIn n d) (hn:n<=4611686018427387904) :
  Calls Tryz.prog 112 #[.int .i64 n,.int .i64 d] w (λ r w'=>∃ X Y:Nm,r=.returned (.tuple #[.int .i64 (n-(stN n d:Int)*d),.agg X.q,.agg Y.q])/\IntAt w' X.neg X.a X.n X.cap (4*stN n d+4) (stP n d (stN n d))/\IntAt w' Y.neg Y.a Y.n Y.cap (4*stN n d+4) (stQ d (stN n d))/\Below w.heap.size w w'):=by
 obtain⟨W,hW⟩:∃ W,W=(w.alloc (.cells #[.bool false,.slice none 0 0] 26)).alloc (.cells #[.bool false,.slice none 0 0] 26):=⟨_,rfl⟩;have b8:Below w.heap.size w W:=by rw[hW];exact bl2 _ _ _
 have R1:NoI W w.heap.size:=by rw[hW];exact (jO w _).bw (bl1 _ _)
 have R2:NoI W (w.heap.size+1):=by rw[hW];constructor<;>simp[go_sem]
 have d0:=h.d0;have dd:=h.dd;have Nx:=h.rest.2.2;have H:=zC h;clear h
 go_enter Tryz.func112,Tryz.ntmps112
 go_wp2_with fail;rw[<- hW];clear hW;refine (zD 1 _ (by decide) (by decide)).mono ?_
 rintro r' w1 ⟨g9,a1,n1,c1,rfl,k9,b7⟩;replace R1:=R1.bw b7;replace R2:=R2.bw b7;replace b8:=zB b8 b7;clear b7;go_wp2_with fail;refine (zD 1 _ (by decide) (by decide)).mono ?_
 rintro r' w2 ⟨b6,a2,n2,c2,rfl,o0,b9⟩;replace R1:=R1.bw b9;replace R2:=R2.bw b9;replace b8:=zB b8 b9;replace k9:=k9.bw b9;clear b9;have lR:=R2.lt;obtain⟨V1,M4⟩:∃ V1,V1=(w2.alloc (.cells #[.bool g9,.slice a1 n1 c1] 26)).alloc (.cells #[.bool b6,.slice a2 n2 c2] 26):=⟨_,rfl⟩;have aX:Below w2.heap.size w2 V1:=by rw[M4];exact bl2 _ _ _
 have N9:StSt w V1 w2.heap.size (w2.heap.size+1) ⟨g9,a1,n1,c1⟩ ⟨b6,a2,n2,c2⟩ (4*0+4) (stP n d 0) (stQ d 0):=⟨by rw[M4];exact (vnc_new w2 ⟨g9,a1,n1,c1⟩ _).bw (bl1 _ _),by rw[M4];exact⟨⟨by simp[go_sem],by simp[go_sem]⟩,λ o=>by simp[go_sem]⟩,k9.bw aX,o0.bw aX,R1.bw aX,R2.bw aX,zB b8 aX,lR,by omega,by omega⟩
 go_wp2_with fail;rw[<- M4];clear M4 aX k9 o0 R1 R2 b8;obtain⟨BX,WK⟩:∃ B,B=w2.heap.size:=⟨_,rfl⟩;obtain⟨BY,WL⟩:∃ B',B'=w2.heap.size+1:=⟨_,rfl⟩;rw[<- WL,<- WK] at N9 ⊢;clear WK WL lR
 go_loopw [0] (λ nn wr=>∃ (i:Nat) (X Y:Nm),nn=.int .i64 (n-(i:Int)*d)/\i<=stN n d/\StSt w wr BX BY X Y (4*i+4) (stP n d i) (stQ d i)) (λ nn _=>(intOf nn).toNat)
 case atStart=>exact⟨0,_,_,by simp,Nat.zero_le _,N9⟩
 case round =>
  obtain⟨i,X,Y,rfl,hi,st⟩:=hrel;clear N9;have p0:=(st_at (zA H) hi).1;have id0:=Yb (show (0:Int)<=(i:Int) by omega) (show 0<=d by omega)
  by_cases G4:i<stN n d
  ·have Ny:d<n-(i:Int)*d:=(st_at (zA H) hi).2 G4
   have HX:=zC st.x;have HY:=zC st.y;have HI:=zC st.ix;have HJ:=zC st.iy;have K9:=zC st;have aY:=zC (show IntKind.i64.wrap (n-(i:Int)*d-d)=n-(i:Int)*d-d from jL _ (by omega) (by omega))
   have HR:=zC (show -9223372036854775808<=n-(i:Int)*d-d/\n-(i:Int)*d-d<=9223372036854775807 from⟨by omega,by omega⟩)
   clear st;go_wp2_with fail;have m8:Below wr.heap.size wr wr.drew:=(Below.refl _ _).drew;have cB:=zC (show ∀ w',Below wr.heap.size wr w'->(nK0 w' BX X) from λ w' hB=>⟨((zA HX).bw hB).c.c0,((zA HX).bw hB).c.c1⟩)
   have Z5:=zC (show ∀ w',Below wr.heap.size wr w'->(nK0 w' BY Y) from λ w' hB=>⟨((zA HY).bw hB).c.c0,((zA HY).bw hB).c.c1⟩)
   refine AnyS.start (S:=λ j w'=>(j=6\/j=7\/j=10\/j=11\/(w'.cell? ⟨BX,0,none⟩=some (.bool X.neg)/\w'.cell? ⟨BX,1,none⟩=some (.slice X.a X.n X.cap)))/\(j=11\/(w'.cell? ⟨BY,0,none⟩=some (.bool Y.neg)/\w'.cell? ⟨BY,1,none⟩=some (.slice Y.a Y.n Y.cap)))) (by kernel_rfl) ?_
   refine AnyS.take (i:=6) (oi:={ dst:=some 23,op:=Go.Op.load 26 (Go.Operand.tmp 8),type:=26,pos := "gamma.go:37",after:=#[],guard:=none }) (v:=.agg Y.q) (T:=λ w'=>nK0 w' BY Y) rfl (by kernel_rfl) (by kernel_rfl) (by kernel_rfl) (λ _ _ _ h=>h) 11 1 (λ j hl hj w h=>h.2.elim (λ e=>absurd e (by omega)) id) (by kernel_rfl) (λ w h=>⟨Or.inl rfl,Or.inr h⟩) (Or.inl ⟨by rfl,λ w hSw=>?_⟩) (zA Z5 _ m8) ?_
   ·obtain⟨s0,s1⟩:=hSw;go_simp
   try simp only[Act.put,XH,XI,XJ]
   refine AnyS.take (i:=7) (oi:={ dst:=some 24,op:=Go.Op.move (Go.Operand.tmp 1),type:=3,pos := "gamma.go:37",after:=#[],guard:=none }) (v:=.int .i64 d) (T:=λ w'=>nK0 w' BY Y) rfl (by kernel_rfl) (by kernel_rfl) (by kernel_rfl) (λ _ _ _ h=>h) 11 1 (λ j hl hj w h=>h.2.elim (λ e=>absurd e (by omega)) id) (by kernel_rfl) (λ w h=>⟨Or.inr (Or.inl rfl),Or.inr h⟩) (Or.inl ⟨by rfl,λ w hSw=>?_⟩) (zA Z5 _ m8) ?_
   ·go_simp
   try simp only[Act.put,XH,XI,XJ]
   refine AnyS.take (i:=0) (oi:={ dst:=some 17,op:=Go.Op.load 26 (Go.Operand.tmp 7),type:=26,pos := "gamma.go:37",after:=#[],guard:=none }) (v:=.agg X.q) (T:=λ w'=>(nK0 w' BX X)/\(nK0 w' BY Y)) rfl (by kernel_rfl) (by kernel_rfl) (by kernel_rfl) (λ _ _ _ h=>h) 10 2 (λ j hl hj w h=>⟨h.1.elim (λ e=>absurd hl (by rw[e];decide)) (λ h=>h.elim (λ e=>absurd hl (by rw[e];decide)) (λ h=>h.elim (λ e=>absurd e (by omega)) (λ h=>h.elim (λ e=>absurd e (by omega)) id))),h.2.elim (λ e=>absurd e (by omega)) id⟩) (by kernel_rfl) (λ w h=>⟨Or.inr (Or.inr (Or.inr (Or.inr h.1))),Or.inr h.2⟩) (Or.inl ⟨by rfl,λ w hSw=>?_⟩) ⟨zA cB _ m8,zA Z5 _ m8⟩ ?_
   ·obtain⟨⟨s0,s1⟩,_⟩:=hSw;go_simp
   try simp only[Act.put,XH,XI,XJ]
   refine AnyS.take (i:=1) (oi:={ dst:=some 18,op:=Go.Op.move (Go.Operand.tmp 0),type:=3,pos := "gamma.go:37",after:=#[],guard:=none }) (v:=.int .i64 (n-(i:Int)*d)) (T:=λ w'=>(nK0 w' BX X)/\(nK0 w' BY Y)) rfl (by kernel_rfl) (by kernel_rfl) (by kernel_rfl) (λ _ _ _ h=>h) 10 2 (λ j hl hj w h=>⟨h.1.elim (λ e=>absurd hl (by rw[e];decide)) (λ h=>h.elim (λ e=>absurd hl (by rw[e];decide)) (λ h=>h.elim (λ e=>absurd e (by omega)) (λ h=>h.elim (λ e=>absurd e (by omega)) id))),h.2.elim (λ e=>absurd e (by omega)) id⟩) (by kernel_rfl) (λ w h=>⟨Or.inr (Or.inr (Or.inr (Or.inr h.1))),Or.inr h.2⟩) (Or.inl ⟨by rfl,λ w hSw=>?_⟩) ⟨zA cB _ m8,zA Z5 _ m8⟩ ?_
   ·go_simp
   try simp only[Act.put,XH,XI,XJ]
   refine AnyS.take (i:=2) (oi:={ dst:=some 19,op:=Go.Op.move (Go.Operand.tmp 1),type:=3,pos := "gamma.go:37",after:=#[],guard:=none }) (v:=.int .i64 d) (T:=λ w'=>(nK0 w' BX X)/\(nK0 w' BY Y)) rfl (by kernel_rfl) (by kernel_rfl) (by kernel_rfl) (λ _ _ _ h=>h) 10 2 (λ j hl hj w h=>⟨h.1.elim (λ e=>absurd hl (by rw[e];decide)) (λ h=>h.elim (λ e=>absurd hl (by rw[e];decide)) (λ h=>h.elim (λ e=>absurd e (by omega)) (λ h=>h.elim (λ e=>absurd e (by omega)) id))),h.2.elim (λ e=>absurd e (by omega)) id⟩) (by kernel_rfl) (λ w h=>⟨Or.inr (Or.inr (Or.inr (Or.inr h.1))),Or.inr h.2⟩) (Or.inl ⟨by rfl,λ w hSw=>?_⟩) ⟨zA cB _ m8,zA Z5 _ m8⟩ ?_
   ·go_simp
   try simp only[Act.put,XH,XI,XJ]
   refine AnyS.take (i:=3) (oi:={ dst:=some 20,op:=Go.Op.binOp Go.BinOp.sub 3 (Go.Operand.tmp 18) (Go.Operand.tmp 19) 3,type:=3,pos := "gamma.go:37",after:=#[{ on:=1,ground:=Go.Ground.data },{ on:=2,ground:=Go.Ground.data }],guard:=none }) (v:=.int .i64 (n-(i:Int)*d-d)) (T:=λ w'=>(nK0 w' BX X)/\(nK0 w' BY Y)) rfl (by kernel_rfl) (by kernel_rfl) (by kernel_rfl) (λ _ _ _ h=>h) 10 2 (λ j hl hj w h=>⟨h.1.elim (λ e=>absurd hl (by rw[e];decide)) (λ h=>h.elim (λ e=>absurd hl (by rw[e];decide)) (λ h=>h.elim (λ e=>absurd e (by omega)) (λ h=>h.elim (λ e=>absurd e (by omega)) id))),h.2.elim (λ e=>absurd e (by omega)) id⟩) (by kernel_rfl) (λ w h=>⟨Or.inr (Or.inr (Or.inr (Or.inr h.1))),Or.inr h.2⟩) (Or.inl ⟨by rfl,λ w hSw=>?_⟩) ⟨zA cB _ m8,zA Z5 _ m8⟩ ?_
   ·go_simp;rw[zA aY]
   try simp only[Act.put,XH,XI,XJ]
   refine AnyS.one (i:=4) (o:={ dst:=some 21,op:=Go.Op.call { callee:=Go.Callee.value (Go.Operand.func 43),args:=#[Go.Operand.tmp 20],argTypes:=#[3] },type:=26,pos := "gamma.go:37",after:=#[{ on:=3,ground:=Go.Ground.data }],guard:=none }) (by kernel_rfl) rfl (λ Kc A0=>?_)
   go_simp
   refine (zD (n-(i:Int)*d-d) _ (zA HR).1 (zA HR).2).mono ?_;rintro r' w1 ⟨g9,a1,n1,c1,rfl,k9,b7⟩;have j7:=zB m8 b7;clear b7;go_wp2_with fail;refine A0.out _ _ ⟨Or.inr (Or.inr (Or.inr (Or.inr (zA cB _ j7)))),Or.inr (zA Z5 _ j7)⟩ (λ _=>?_)
   clear A0 Kc
   try simp only[Act.put,XH,XI,XJ]
   refine AnyS.one (i:=5) (o:={ dst:=some 22,op:=Go.Op.call { callee:=Go.Callee.value (Go.Operand.func 66),args:=#[Go.Operand.tmp 17,Go.Operand.tmp 21],argTypes:=#[26,26] },type:=26,pos := "gamma.go:37",after:=#[{ on:=0,ground:=Go.Ground.data },{ on:=4,ground:=Go.Ground.data },{ on:=4,ground:=Go.Ground.chain }],guard:=none }) (by kernel_rfl) rfl (λ Kc A0=>?_)
   go_simp
   refine (zW _ _ _ _ _ _ _ _ (4*i+4) 4 (stP n d i) (n-(i:Int)*d-d) _ ((zA HI).bw j7) k9 (by omega) (by omega)).mono ?_
   rintro r' w2 ⟨b6,a2,n2,c2,rfl,o0,b9⟩;have j9:=zB j7 b9;clear b9 k9;go_wp2_with fail;refine A0.out _ _ ⟨Or.inr (Or.inr (Or.inr (Or.inr (zA cB _ j9)))),Or.inr (zA Z5 _ j9)⟩ (λ _=>?_)
   clear A0 Kc
   try simp only[Act.put,XH,XI,XJ]
   refine AnyS.one (i:=8) (o:={ dst:=some 25,op:=Go.Op.call { callee:=Go.Callee.value (Go.Operand.func 43),args:=#[Go.Operand.tmp 24],argTypes:=#[3] },type:=26,pos := "gamma.go:37",after:=#[{ on:=7,ground:=Go.Ground.data },{ on:=5,ground:=Go.Ground.chain }],guard:=none }) (by kernel_rfl) rfl (λ Kc A0=>?_)
   go_simp
   refine (zD d _ (by omega) (by omega)).mono ?_
   rintro r' w3 ⟨p9,a3,n3,c3,rfl,A8,k8⟩;have y9:=zB j9 k8;replace o0:=o0.bw k8;clear k8;go_wp2_with fail;refine A0.out _ _ ⟨Or.inr (Or.inr (Or.inr (Or.inr (zA cB _ y9)))),Or.inr (zA Z5 _ y9)⟩ (λ _=>?_)
   clear A0 Kc
   try simp only[Act.put,XH,XI,XJ]
   refine AnyS.one (i:=9) (o:={ dst:=some 26,op:=Go.Op.call { callee:=Go.Callee.value (Go.Operand.func 66),args:=#[Go.Operand.tmp 23,Go.Operand.tmp 25],argTypes:=#[26,26] },type:=26,pos := "gamma.go:37",after:=#[{ on:=6,ground:=Go.Ground.data },{ on:=8,ground:=Go.Ground.data },{ on:=8,ground:=Go.Ground.chain }],guard:=none }) (by kernel_rfl) rfl (λ Kc A0=>?_)
   go_simp
   refine (zW _ _ _ _ _ _ _ _ (4*i+4) 4 (stQ d i) d _ ((zA HJ).bw y9) A8 (by omega) (by omega)).mono ?_
   rintro r' w4 ⟨o9,a4,n4,c4,rfl,D9,m9⟩;have C8:=zB y9 m9;replace o0:=o0.bw m9;clear m9 A8;go_wp2_with fail;refine A0.out _ _ ⟨Or.inr (Or.inr (Or.inr (Or.inr (zA cB _ C8)))),Or.inr (zA Z5 _ C8)⟩ (λ _=>?_)
   clear A0 Kc
   try simp only[Act.put,XH,XI,XJ]
   have VX:=(zA HX).bw C8;have VY:=(zA HY).bw C8;have lX:=VX.lt;have lY:=VY.lt;have Fb:VnC (zAX w4 BX ⟨b6,a2,n2,c2⟩) BY Y:=VY.off (Ne.symm (zA K9).ne) ⟨b6,a2,n2,c2⟩;unfold zAX at Fb;obtain⟨⟨z0,z1⟩,zf⟩:=VX;refine AnyS.one (i:=10) (o:={ dst:=none,op:=Go.Op.store 26 (Go.Operand.tmp 7) (Go.Operand.tmp 22),type:=0,pos := "gamma.go:37",after:=#[{ on:=5,ground:=Go.Ground.data },{ on:=9,ground:=Go.Ground.chain },{ on:=0,ground:=Go.Ground.phase },{ on:=1,ground:=Go.Ground.phase },{ on:=2,ground:=Go.Ground.phase },{ on:=3,ground:=Go.Ground.phase },{ on:=4,ground:=Go.Ground.phase },{ on:=5,ground:=Go.Ground.phase },{ on:=6,ground:=Go.Ground.textOnly Go.Departure.lateStores },{ on:=7,ground:=Go.Ground.textOnly Go.Departure.lateStores },{ on:=8,ground:=Go.Ground.textOnly Go.Departure.lateStoresUnsure },{ on:=9,ground:=Go.Ground.textOnly Go.Departure.lateStoresUnsure }],guard:=none }) (by kernel_rfl) rfl (λ Kc A0=>?_)
   go_simp
   refine A0.out _ _ ⟨Or.inr (Or.inr (Or.inl rfl)),Or.inr ⟨Fb.c.c0,Fb.c.c1⟩⟩ (λ _=>?_)
   clear A0 Kc z0 z1 zf
   try simp only[Act.put,XH,XI,XJ]
   have Bn:=Fb.lt;obtain⟨⟨z0,z1⟩,zf⟩:=Fb;refine AnyS.last (o:={ dst:=none,op:=Go.Op.store 26 (Go.Operand.tmp 8) (Go.Operand.tmp 26),type:=0,pos := "gamma.go:37",after:=#[{ on:=9,ground:=Go.Ground.data },{ on:=10,ground:=Go.Ground.chain },{ on:=0,ground:=Go.Ground.phase },{ on:=1,ground:=Go.Ground.phase },{ on:=2,ground:=Go.Ground.phase },{ on:=3,ground:=Go.Ground.phase },{ on:=4,ground:=Go.Ground.phase },{ on:=5,ground:=Go.Ground.phase },{ on:=6,ground:=Go.Ground.phase },{ on:=7,ground:=Go.Ground.phase },{ on:=8,ground:=Go.Ground.phase },{ on:=9,ground:=Go.Ground.phase },{ on:=10,ground:=Go.Ground.phase }],guard:=none }) (by kernel_rfl) rfl (by kernel_rfl) (λ _=>⟨Or.inr (Or.inr (Or.inr (Or.inl rfl))),Or.inl rfl⟩) (λ Kc A0=>?_)
   go_simp
   refine A0.out _ _ ?_;clear A0 Kc z0 z1 zf cB Z5;have stn:=((zA K9).bw C8).put (X':=⟨b6,a2,n2,c2⟩) (Y':=⟨o9,a4,n4,c4⟩) o0 D9;unfold zAX at stn
   have e1:stP n d i*(n-(i:Int)*d-d)=stP n d (i+1):=by
    show _=stP n d i*(n-((i:Int)+1)*d)
    congr 1;grind
   have e2:stQ d i*d=stQ d (i+1):=rfl
   have e3:n-(i:Int)*d-d=n-((i+1:Nat):Int)*d:=by
    have:((i+1:Nat):Int)=(i:Int)+1:=by omega
    rw[this];grind
   rw[e1,e2,show 4*i+4+4=4*(i+1)+4 by omega] at stn
   have E3:=zC e3;clear e1 e2 e3;go_wp2_with fail
   go_roundw
   case rel=>exact⟨i+1,_,_,congrArg _ (zA E3),by omega,stn⟩
   case measure=>simp[intOf];omega
  ·have Ny:¬ d<n-(i:Int)*d:=by
    have:=(zA H).rest.2.1;have e:i=stN n d:=by omega
    rw[e];omega
   have hik:i=stN n d:=by omega
   subst hik;have lX:=st.x.lt;have lY:=st.y.lt;have q1:=st.n1;have q2:=st.n2;have l1:=st.l1;have l2:=st.l2;have lq1:=q1.lt;have lq2:=q2.lt;have K9:=zC st;obtain⟨⟨x0,x1⟩,xf⟩:=st.x;obtain⟨⟨y0,y1⟩,yf⟩:=st.y;obtain⟨q10,q11,q1f⟩:=q1;obtain⟨Im,q21,q2f⟩:=q2;clear st;have m1:w.heap.size≠BX:=by omega
   have m2:w.heap.size≠BY:=by omega
   have m3:w.heap.size+1≠BX:=by omega
   have m4:w.heap.size+1≠BY:=by omega
   go_wp2_with fail;have HE:=st_end (zA K9);unfold zAX at HE
   go_region
   all_goals
    go_wp2_with fail;refine bodyPost_ret (v:=.tuple #[.int .i64 (n-(stN n d:Int)*d),.agg X.q,.agg Y.q]) (by simp[results,Tryz.results112,go_sem,q10,q11,Im,q21]) rfl ⟨X,Y,rfl,?_,?_,?_⟩
    ·exact HE.1.bw (Below.refl _ _).drew
    ·exact HE.2.1.bw (Below.refl _ _).drew
    ·exact HE.2.2.drew
open Ex
structure IcC (w:World) (B:Nat) (v:Int):Prop where
 c0:w.cell? ⟨B,0,none⟩=some (.int .i64 v)
theorem IcC.lt {w:World} {B:Nat} {v:Int} (h:IcC w B v):B<w.heap.size:=World.block_lt_of_cell? w ⟨B,0,none⟩ h.c0
theorem IcC.bw {w w':World} {B:Nat} {v:Int} (h:IcC w B v) (hb:Below w.heap.size w w'):IcC w' B v:=⟨(hb.cell (p:=⟨B,0,none⟩) h.lt).trans h.c0⟩
theorem ga1_iv (w:World) (B0 B1 B2:Nat) (s:Sp) (x d n:Int) (k b:Nat) (j:Int) (a:Int × Int) (hs:SpAt w s k a.1 a.2) (X:IcC w B0 x) (D:IcC w B1 d) (Z:IcC w B2 n) (hk:k<=100000000) (hb:s.bits=(b:Int)) (hx:0<=x*d) (qA:x*d<=9223372036854775807) (hj:0<=j*d) (Jj:j*d<=4611686018427387904) (hn:0<n) (km:n<=4611686018427387903) :
  Calls Tryz.prog 165 #[.agg s.q,.int .i64 j,.pointer (some ⟨B0,0,none⟩),.pointer (some ⟨B1,0,none⟩),.pointer (some ⟨B2,0,none⟩)] w (zJ w b (k+4+10) (zE a (x*d) (n+j*d)).1 (zE a (x*d) (n+j*d)).2):=by
 obtain⟨W,hW⟩:∃ W,W=(w.alloc (.cells s.q 28)).alloc (.cells zCq 28):=⟨_,rfl⟩;have b8:Below w.heap.size w W:=by rw[hW];exact bl2 _ _ _
 have A:SpC W w.heap.size s:=by rw[hW];constructor<;>simp[go_sem]
 have R:NoC W (w.heap.size+1):=by rw[hW];constructor<;>simp[go_sem]
 have HS:=zC (hs.bw b8);have l0:=X.lt;have l1:=D.lt;have l2:=Z.lt;replace X:=X.bw b8;replace D:=D.bw b8;replace Z:=Z.bw b8;have HB:=zC hb;have lR:=R.lt;have lA:=A.lt;have aY:=zC (show IntKind.i64.wrap (x*d)=x*d from jL _ (by omega) (by omega))
 have kb:=zC (show IntKind.i64.wrap (j*d)=j*d from jL _ (by omega) (by omega))
 have Fc:=zC (show IntKind.i64.wrap (n+j*d)=n+j*d from jL _ (by omega) (by omega))
 have wG:=zC (show -9223372036854775808<=x*d/\x*d<=9223372036854775807 from⟨by omega,by omega⟩)
 have WM:=zC (show -9223372036854775808<=n+j*d/\n+j*d<=9223372036854775807 from⟨by omega,by omega⟩)
 have Nz:=zC (show 0<n+j*d by omega)
 clear hs hb hx qA hj Jj hn km;have C4:Below W.heap.size W W.drew:=(Below.refl _ _).drew;have HK:=zC (show ∀ w',Below W.heap.size W w'->(cK w' w.heap.size s (w'.cell? ⟨B0,0,none⟩=some (.int .i64 x)/\w'.cell? ⟨B1,0,none⟩=some (.int .i64 d)/\w'.cell? ⟨B2,0,none⟩=some (.int .i64 n))) from λ w' hB=>⟨(A.bw hB).c0,(A.bw hB).c1,(A.bw hB).c2,(A.bw hB).c3,(A.bw hB).c4,(X.bw hB).c0,(D.bw hB).c0,(Z.bw hB).c0⟩)
 clear X D Z
 go_enter Tryz.func165,Tryz.ntmps165
 go_wp2;rw[<- hW];clear hW;have nB0:w.heap.size+1≠B0:=by omega
 have nB1:w.heap.size+1≠B1:=by omega
 have nB2:w.heap.size+1≠B2:=by omega
 obtain⟨x0,x1,x2,x3,x4,x5,x6,x7⟩:=zA HK _ (Below.refl _ _)
 go_region_held3 (λ w'=>cK w' w.heap.size s (w'.cell? ⟨B0,0,none⟩=some (.int .i64 x)/\w'.cell? ⟨B1,0,none⟩=some (.int .i64 d)/\w'.cell? ⟨B2,0,none⟩=some (.int .i64 n))) (first|exact zA HK _ (by with_reducible first|exact C4|exact E2|exact o7|exact A6)|(dsimp only[cK,cK0,nK,nK0,rK,rK0];go_keep)|go_keep)
  (first
   | (go_at_call 143;have hq:=o7;refine (zDT _ s ⟨g9,a1,n1,c1⟩ ⟨b6,a2,n2,c2⟩ k 4 _ b a (x*d) (n+j*d) ((zA HS).bw o7) (k9.bw b9) o0 (by omega) (by omega) (zA Nz) (zA HB)).mono ?_;rintro r w3 ⟨t,rfl,I7,Q9,k8⟩;have HT:=zC I7;clear I7;have E2:=zB o7 k8;obtain⟨q0,q1,q2,q3,q4,q5⟩:=R.bw E2;obtain⟨i0,i1,i2,i3,i4,i5,i6,i7⟩:=zA HK _ E2)
   | (go_at_call 43;have hq:=A6;(first|rw[zA kb,zA Fc]|rw[zA Fc]);refine (zD (n+j*d) _ (zA WM).1 (zA WM).2).mono ?_;rintro r w2 ⟨b6,a2,n2,c2,rfl,o0,b9⟩;have o7:=zB A6 b9)
   | (go_at_call 43;rw[zA aY];refine (zD (x*d) _ (zA wG).1 (zA wG).2).mono ?_;rintro r w1 ⟨g9,a1,n1,c1,rfl,k9,b7⟩;have A6:=zB C4 b7))
 all_goals
  go_wp2;refine bodyPost_ret (v:=.agg t.q) (by simp[results,Tryz.results165,go_sem,q0,q1,q2,q3,q4]) rfl ⟨t,rfl,zA HT,?_,?_⟩
  ·exact SpAt.put5 Q9 q0 q1 q2 q3 q4 _ _ _ _ _
  ·exact kB (zB b8 E2) (Yh _) _ _ _ _ _
theorem rise_ga (p1 p2 p3:Value) (f:Nat->Int × Int) (turn N b K KF:Nat) (s:Sp) (W:World) (hs:SpAt W s K (f 0).1 (f 0).2) (hbits:s.bits=(b:Int)) (hb:b<=1000000) (hK:K<=100000000) (rR:4<=K) (LN:KF<=900000000) (hN:zCC f turn N) (rf:N<=1000000000) (htn:turn<=1000000000)
  (hle:∀ n,(f n).1<=(f n).2) (h0:∀ n,0<=(f n).1) (J1:∀ n,n<=N -> -P K<(f n).1/\(f n).2<P K) (hfitS:∀ n,n<=N -> -P K<(jE f n).1/\(jE f n).2<P K)
  (hF:∀ (n:Nat) (u:Sp) w',n<N->u.bits=(b:Int)->SpAt w' u K (f n).1 (f n).2->Below W.heap.size W w'->Calls Tryz.prog 165 #[.agg u.q,.int .i64 ((n:Int)+1),p1,p2,p3] w' (zJ w' b KF (f (n+1)).1 (f (n+1)).2)) :
  Calls Tryz.prog 141 #[.agg s.q,.int .i64 turn,.func (.func 165) #[] #[p1,p2,p3]] W (zJ W b (K+3) (zBD f N).1 (zBD f N).2):=by
 have HF:=zC hF;have HN:=zC hN;have L6:=zC hbits;have H0:=zC h0;clear hF hN hbits h0;obtain⟨V,hV⟩:∃ V,V=(W.alloc (.cells s.q 28)).alloc (.cells zCq 28):=⟨_,rfl⟩;have fo:Below W.heap.size W V:=by rw[hV];exact bl2 _ _ _
 have A:SpC V W.heap.size s:=by rw[hV];constructor<;>simp[go_sem]
 have R:NoC V (W.heap.size+1):=by rw[hV];constructor<;>simp[go_sem]
 have HS:=zC (hs.bw fo);have lA:=A.lt;have lR:=R.lt;clear hs
 go_enter Tryz.func141,Tryz.ntmps141
 go_wp2;rw[<- hV];clear hV
 go_cut [7,8] (λ p q wx=>TwoS V wx s s p q)
 case first =>
  obtain⟨x0,x1,x2,x3,x4⟩:=A
  go_region
  all_goals
   go_wp2_with fail;go_meet
   first
    | with_reducible exact zJE _ _ _ _
    | with_reducible exact zL7 _ _ _ _
 case rest =>
 obtain⟨B5,B6,rfl,rfl,l5,l6,hne,X,Y,hB⟩:=hcut;have n5:W.heap.size+1<B5:=by omega
 have n6:W.heap.size+1<B6:=by omega
 have N9:SumSt W wc B5 B6 b K s s s f 0:=⟨X,Y,(zA HS).bw hB,(zA HS).bw hB,zA L6,zA L6,A.bw hB,R.bw hB,zB fo hB,n5,n6,hne⟩;clear X Y hB A R HS l5 l6 n5 n6 hne fo lA lR;go_wp2_with fail
 go_loopw [9] (λ nn wr=>∃ (i:Nat) (X Y:Sp),nn=.int .i64 ((i:Int)+1)/\i<=N/\SumSt W wr B5 B6 b K s X Y f i) (λ nn _=>N+1-(intOf nn).toNat)
 case atStart=>exact⟨0,s,s,rfl,Nat.zero_le _,N9⟩
 case round =>
  obtain⟨i,X,Y,rfl,hi,st⟩:=hrel
  by_cases hit:i<turn
  ·have G4:i<N:=by have:=(zA HN).1;omega
   have wH:((i:Int)+1<=(turn:Int)):=by omega
   obtain⟨⟨y0,y1,y2,y3,y4⟩,y5⟩:=st.y;go_wp2_with fail;refine (zA HF i Y _ G4 st.yb st.yp st.be).mono ?_;rintro r w3 ⟨u,rfl,I0,E9,k8⟩;replace st:=st.bw k8;replace E9:=E9.fits (K:=K) (hle _) (J1 _ (by omega)).1 (J1 _ (by omega)).2
   have HU:=zC I0;clear k8 y0 y1 y2 y3 y4 y5 I0;obtain⟨V3,D3⟩:∃ V3,V3=zQ w3 B6 u:=⟨_,rfl⟩;have X3:VrC V3 B5 X:=by rw[D3];exact st.x.off st.ne u
   have Y3:VrC V3 B6 u:=by rw[D3];exact st.y.put u
   have P3:SpAt V3 X K (jE f i).1 (jE f i).2:=by rw[D3];exact st.xp.put st.y.c u
   have U3:SpAt V3 u K (f (i+1)).1 (f (i+1)).2:=by rw[D3];exact E9.put st.y.c u
   have F3:SpC V3 W.heap.size s:=by rw[D3];exact st.fs.off (by have:=st.l6;omega) u
   have R3:NoC V3 (W.heap.size+1):=by rw[D3];exact st.no.off (by have:=st.l6;omega) u
   have B3:Below W.heap.size W V3:=by rw[D3];exact jC st.be (by have:=st.l6;omega) u
   have xb:=zC st.xb;have l5:=st.l5;have l6:=st.l6;have hne:=st.ne;have lY:=st.y.lt;have lX:=st.x.lt;obtain⟨⟨y0,y1,y2,y3,y4⟩,y5⟩:=st.y;obtain⟨⟨x0,x1,x2,x3,x4⟩,x5⟩:=st.x;clear st E9;go_wp2_with fail;have J2:V3=zQ w3 B6 u:=D3;unfold zQ at J2;rw[<- J2];clear J2 y0 y1 y2 y3 y4 y5 x0 x1 x2 x3 x4 x5;have DP:B5<V3.heap.size:=X3.lt;refine (zA5 _ X u K b (jE f i) (f (i+1)) P3 U3 (by omega) (zA xb)).mono ?_
   rintro r w4 ⟨v,rfl,I4,H5,m9⟩;have X4:=X3.bw m9;have Y4:=Y3.bw m9;have U4:=U3.bw m9;have F4:=F3.bw m9;have R4:=R3.bw m9;have B4:=zB B3 m9;have e:jJ (jE f i) (f (i+1))=jE f (i+1):=rfl;rw[e] at H5;replace H5:=H5.fits (K:=K) (zCW hle _) (hfitS _ (by omega)).1 (hfitS _ (by omega)).2
   have HV:=zC I4;clear m9 I4 X3 Y3 P3 U3 F3 R3 B3 D3;have stn:SumSt W (zQ w4 B5 v) B5 B6 b K s v u f (i+1):=⟨X4.put v,Y4.off (Ne.symm hne) v,H5.put X4.c v,U4.put X4.c v,zA HV,zA HU,F4.off (by omega) v,R4.off (by omega) v,jC B4 (by omega) v,l5,l6,hne⟩
   unfold zQ at stn;obtain⟨⟨x0,x1,x2,x3,x4⟩,x5⟩:=X4;go_wp2_with fail
   go_roundw
   case rel=>exact⟨i+1,v,u,by go_num,by omega,stn⟩
   case measure=>simp[intOf];omega
  ·have wH:¬ ((i:Int)+1<=(turn:Int)):=by omega
   obtain⟨⟨y0,y1,y2,y3,y4⟩,y5⟩:=st.y;go_wp2_with fail;have dh:0<=(f i).2:=by have:=zA H0 i;have:=hle i;omega
   refine (zB2 _ _ _ _ _ (f i).2 _ st.yp.hi dh).mono ?_;rintro r w2 ⟨l,hlen,rfl,b9⟩;replace st:=st.bw b9;clear b9 y0 y1 y2 y3 y4 y5
   by_cases G4:i<N
   ·have hl:2<l:=by
     have h3:=(zA HN).2.2 i G4;refine Int.not_le.1 λ hl=>?_
     obtain⟨g1,g2,g3⟩:=hlen;obtain⟨L,e1,e2,e3⟩:=g3 (by omega)
     have:=zK (show L+1<=2 by omega)
     have:Q 2=4:=rfl;omega
    clear hlen dh;obtain⟨⟨y0,y1,y2,y3,y4⟩,y5⟩:=st.y;go_wp2_with fail;refine (zA HF i Y _ G4 st.yb st.yp st.be).mono ?_;rintro r w3 ⟨u,rfl,I0,E9,k8⟩;replace st:=st.bw k8;replace E9:=E9.fits (K:=K) (hle _) (J1 _ (by omega)).1 (J1 _ (by omega)).2
    have HU:=zC I0;clear k8 y0 y1 y2 y3 y4 y5 I0;obtain⟨V3,D3⟩:∃ V3,V3=zQ w3 B6 u:=⟨_,rfl⟩;have X3:VrC V3 B5 X:=by rw[D3];exact st.x.off st.ne u
    have Y3:VrC V3 B6 u:=by rw[D3];exact st.y.put u
    have P3:SpAt V3 X K (jE f i).1 (jE f i).2:=by rw[D3];exact st.xp.put st.y.c u
    have U3:SpAt V3 u K (f (i+1)).1 (f (i+1)).2:=by rw[D3];exact E9.put st.y.c u
    have F3:SpC V3 W.heap.size s:=by rw[D3];exact st.fs.off (by have:=st.l6;omega) u
    have R3:NoC V3 (W.heap.size+1):=by rw[D3];exact st.no.off (by have:=st.l6;omega) u
    have B3:Below W.heap.size W V3:=by rw[D3];exact jC st.be (by have:=st.l6;omega) u
    have xb:=zC st.xb;have l5:=st.l5;have l6:=st.l6;have hne:=st.ne;have lY:=st.y.lt;have lX:=st.x.lt;obtain⟨⟨y0,y1,y2,y3,y4⟩,y5⟩:=st.y;obtain⟨⟨x0,x1,x2,x3,x4⟩,x5⟩:=st.x;clear st E9;go_wp2_with fail;have J2:V3=zQ w3 B6 u:=D3;unfold zQ at J2;rw[<- J2];clear J2 y0 y1 y2 y3 y4 y5 x0 x1 x2 x3 x4 x5;have DP:B5<V3.heap.size:=X3.lt;refine (zA5 _ X u K b (jE f i) (f (i+1)) P3 U3 (by omega) (zA xb)).mono ?_
    rintro r w4 ⟨v,rfl,I4,H5,m9⟩;have X4:=X3.bw m9;have Y4:=Y3.bw m9;have U4:=U3.bw m9;have F4:=F3.bw m9;have R4:=R3.bw m9;have B4:=zB B3 m9;have e:jJ (jE f i) (f (i+1))=jE f (i+1):=rfl;rw[e] at H5;replace H5:=H5.fits (K:=K) (zCW hle _) (hfitS _ (by omega)).1 (hfitS _ (by omega)).2
    have HV:=zC I4;clear m9 I4 X3 Y3 P3 U3 F3 R3 B3 D3;have stn:SumSt W (zQ w4 B5 v) B5 B6 b K s v u f (i+1):=⟨X4.put v,Y4.off (Ne.symm hne) v,H5.put X4.c v,U4.put X4.c v,zA HV,zA HU,F4.off (by omega) v,R4.off (by omega) v,jC B4 (by omega) v,l5,l6,hne⟩
    unfold zQ at stn;obtain⟨⟨x0,x1,x2,x3,x4⟩,x5⟩:=X4;go_wp2_with fail
    go_roundw
    case rel=>exact⟨i+1,v,u,by go_num,by omega,stn⟩
    case measure=>simp[intOf];omega
   ·have bg:i=N:=by omega
    subst bg
    have hl:¬ 2<l:=by
     have h1:=(zA HN).2.1
     intro hl
     obtain⟨g1,g2,g3⟩:=hlen
     by_cases hp:0<(f i).2
     ·obtain⟨L,e1,e2,e3⟩:=g3 hp
      have:=zK (show 2<=L by omega)
      have:Q 2=4:=rfl;omega
     ·have:=g2 (by omega);omega
    clear hlen;have l5:=st.l5;have lX:=st.x.lt;have Q5:=zC (show ∀ w',Below w2.heap.size w2 w'->(cK w' B5 X (w'.cell? ⟨W.heap.size,4,none⟩=some (.int .i64 s.bits))) from λ w' hB=>⟨(st.x.c.bw hB).c0,(st.x.c.bw hB).c1,(st.x.c.bw hB).c2,(st.x.c.bw hB).c3,(st.x.c.bw hB).c4,(st.fs.bw hB).c4⟩)
    have R3:=st.no;have lQ:=R3.lt;have ST:=zC st;clear st;go_wp2_with fail;obtain⟨x0,x1,x2,x3,x4,x5⟩:=zA Q5 _ (Below.refl _ _);have m8:Below w2.heap.size w2 w2.drew:=(Below.refl _ _).drew;have vz:W.heap.size+1≠B5:=by omega
    have IX:W.heap.size+1≠W.heap.size:=by omega
    go_region_held3 (λ w'=>cK w' B5 X (w'.cell? ⟨W.heap.size,4,none⟩=some (.int .i64 s.bits))) (first|exact zA Q5 _ (by with_reducible first|exact m8|exact j9|exact j7)|(dsimp only[cK,cK0,nK,nK0,rK,rK0];go_keep)|go_keep)
     (first
      | (go_at_call 113;have hq:=j7;refine (zA5 _ X ⟨false,none,0,0,o9,a4,n4,c4,s.bits⟩ K b (jE f i) (0,9) ((zA ST).xp.bw j7) ⟨zE6 _ _,D9.mono rR⟩ (by omega) (zA ST).xb).mono ?_;rintro r' w5 ⟨v,rfl,I4,H5,A7⟩;have j9:=zB j7 A7;have HV:=zC I4;clear I4;obtain⟨q0,q1,q2,q3,q4,q5⟩:=R3.bw j9;obtain⟨y0,y1,y2,y3,y4,y5⟩:=zA Q5 _ j9)
      | (go_at_call 43;refine (zD 9 _ (by omega) (by omega)).mono ?_;rintro r' w4 ⟨o9,a4,n4,c4,rfl,D9,m9⟩;have j7:=zB m8 m9))
    all_goals
     go_wp2_with fail;refine bodyPost_ret (v:=.agg v.q) (by simp[results,Tryz.results141,go_sem,q0,q1,q2,q3,q4]) rfl ⟨v,rfl,zA HV,?_,?_⟩
     ·exact SpAt.put5 (H5.mono (by omega)) q0 q1 q2 q3 q4 _ _ _ _ _
     ·exact kB (zB (zA ST).be j9) (Yh _) _ _ _ _ _
end Go.Proofs.YtgmnknmjainababGreat
