/-
  Its own texts.
-/
import Derived.Test.YtgmnknmjainababGreatK08
set_option maxRecDepth 100000
set_option maxHeartbeats 8000000
set_option linter.unnecessarySimpa false
set_option linter.unusedSimpArgs false
set_option linter.unusedVariables false
namespace Go.Proofs.YtgmnknmjainababGreat
open Go.RowKit
attribute [local go_sem ↓] Go.wp_at_zero Go.wp_at_succ
structure VrC (w:World) (B:Nat) (s:Sp):Prop where
 c:SpC w B s
 fz:∀ o,w.frozen? ⟨B,o,none⟩=false
theorem VrC.lt {w:World} {B:Nat} {s:Sp} (h:VrC w B s):B<w.heap.size:=h.c.lt
theorem VrC.bw {w w':World} {B:Nat} {s:Sp} (h:VrC w B s) (hb:Below w.heap.size w w'):VrC w' B s :=
 ⟨h.c.bw hb,fun o=>(hb.frozen (p:=⟨B,o,none⟩) h.lt).trans (h.fz o)⟩
abbrev zP (w:World) (B:Nat) (u:Sp):World:=((((w.setCell ⟨B,0,none⟩ (.bool u.ln)).setCell ⟨B,1,none⟩ (.slice u.la u.lN u.lc)).setCell ⟨B,2,none⟩ (.bool u.hn)).setCell ⟨B,3,none⟩ (.slice u.ha u.hN u.hc)).setCell ⟨B,4,none⟩ (.int .i64 u.bits)
theorem zDL {w:World} {B B':Nat} (h:∀ o,w.frozen? ⟨B,o,none⟩=false) (u:Sp):∀ o,(zP w B' u).frozen? ⟨B,o,none⟩=false:=fun o=>by
 show (zP w B' u).frozen? ⟨B,o,none⟩=false
 unfold zP;rw[zM,zM,zM,zM,zM];exact h o
theorem VrC.put {w:World} {B:Nat} {s:Sp} (h:VrC w B s) (u:Sp):VrC (zP w B u) B u:=by
 refine ⟨?_,zDL h.fz u⟩;obtain ⟨⟨q0,q1,q2,q3,q4⟩,q5⟩:=h;constructor <;> simp[go_sem,q0,q1,q2,q3,q4]
theorem SpC.off {w:World} {B B':Nat} {s:Sp} (h:SpC w B s) (hne:B≠B') (u:Sp):SpC (zP w B' u) B s:=h.put hne _ _ _ _ _
theorem VrC.off {w:World} {B B':Nat} {s:Sp} (h:VrC w B s) (hne:B≠B') (u:Sp):VrC (zP w B' u) B s:=⟨h.c.off hne u,zDL h.fz u⟩
theorem NoC.off {w:World} {B B':Nat} (h:NoC w B) (hne:B≠B') (u:Sp):NoC (zP w B' u) B:=by
 obtain ⟨q0,q1,q2,q3,q4,q5⟩:=h;exact ⟨kI q0 hne _ _ _ _ _,kI q1 hne _ _ _ _ _,kI q2 hne _ _ _ _ _,kI q3 hne _ _ _ _ _,kI q4 hne _ _ _ _ _,zDL q5 u⟩
theorem SpAt.put {w:World} {s:Sp} {k:Nat} {lo hi:Int} (h:SpAt w s k lo hi) {B:Nat} {z:Sp} (hB:SpC w B z) (u:Sp):SpAt (zP w B u) s k lo hi:=SpAt.put5 h hB.c0 hB.c1 hB.c2 hB.c3 hB.c4 _ _ _ _ _
theorem IntAt.put {w:World} {neg:Bool} {a:Option Addr} {n cap k:Nat} {z:Int} (h:IntAt w neg a n cap k z) {B:Nat} {y:Sp} (hB:SpC w B y) (u:Sp):IntAt (zP w B u) neg a n cap k z:=IntAt.put5 h hB.c0 hB.c1 hB.c2 hB.c3 hB.c4 _ _ _ _ _
theorem zZ {B B':Nat} {a w:World} (h:Below B a w) (hB:B≤B') (u:Sp):Below B a (zP w B' u):=jV h hB _ _ _ _ _
theorem size_put (w:World) (B:Nat) (u:Sp):(zP w B u).heap.size=w.heap.size:=by simp[zP,World.setCell]
def TwoS (W wx:World) (s t:Sp) (p q:Value):Prop :=
 ∃ B B',p=.pointer (some ⟨B,0,none⟩)∧q=.pointer (some ⟨B',0,none⟩)∧W.heap.size≤B∧W.heap.size≤B'∧B≠B'∧VrC wx B s∧VrC wx B' t∧Below W.heap.size W wx
theorem zHF (V:World) (s t:Sp) (T:TypeId):TwoS V ((V.alloc (.cells #[.bool s.ln,.slice s.la s.lN s.lc,.bool s.hn,.slice s.ha s.hN s.hc,.int .i64 s.bits] T)).alloc (.cells #[.bool t.ln,.slice t.la t.lN t.lc,.bool t.hn,.slice t.ha t.hN t.hc,.int .i64 t.bits] T)).drew s t (.pointer (some ⟨V.heap.size,0,none⟩)) (.pointer (some ⟨V.heap.size+1,0,none⟩)):=by
 refine ⟨_,_,rfl,rfl,Nat.le_refl _,Nat.le_succ _,Nat.ne_of_lt (Nat.lt_succ_self _),VrC.bw (w:=(V.alloc (.cells #[.bool s.ln,.slice s.la s.lN s.lc,.bool s.hn,.slice s.ha s.hN s.hc,.int .i64 s.bits] T)).alloc (.cells #[.bool t.ln,.slice t.la t.lN t.lc,.bool t.hn,.slice t.ha t.hN t.hc,.int .i64 t.bits] T)) ⟨⟨by simp[go_sem],by simp[go_sem],by simp[go_sem],by simp[go_sem],by simp[go_sem]⟩,fun o=>by simp[go_sem]⟩ (Below.refl _ _).drew,VrC.bw (w:=(V.alloc (.cells #[.bool s.ln,.slice s.la s.lN s.lc,.bool s.hn,.slice s.ha s.hN s.hc,.int .i64 s.bits] T)).alloc (.cells #[.bool t.ln,.slice t.la t.lN t.lc,.bool t.hn,.slice t.ha t.hN t.hc,.int .i64 t.bits] T)) ⟨⟨by simp[go_sem],by simp[go_sem],by simp[go_sem],by simp[go_sem],by simp[go_sem]⟩,fun o=>by simp[go_sem]⟩ (Below.refl _ _).drew,(bl2 _ _ _).drew⟩
theorem zKE (V:World) (s t:Sp) (T:TypeId):TwoS V ((V.alloc (.cells #[.bool t.ln,.slice t.la t.lN t.lc,.bool t.hn,.slice t.ha t.hN t.hc,.int .i64 t.bits] T)).alloc (.cells #[.bool s.ln,.slice s.la s.lN s.lc,.bool s.hn,.slice s.ha s.hN s.hc,.int .i64 s.bits] T)).drew s t (.pointer (some ⟨V.heap.size+1,0,none⟩)) (.pointer (some ⟨V.heap.size,0,none⟩)):=by
 obtain ⟨B,B',h1,h2,h3,h4,h5,h6,h7,h8⟩:=zHF V t s T;exact ⟨B',B,h2,h1,h4,h3,fun e=>h5 e.symm,h7,h6,h8⟩
structure SumSt (W wr:World) (B5 B6 b K:Nat) (s X Y:Sp) (f:Nat→Int × Int) (i:Nat):Prop where
 x:VrC wr B5 X
 y:VrC wr B6 Y
 xp:SpAt wr X K (jG f i).1 (jG f i).2
 yp:SpAt wr Y K (f i).1 (f i).2
 xb:X.bits=(b:Int)
 yb:Y.bits=(b:Int)
 fs:SpC wr W.heap.size s
 no:NoC wr (W.heap.size+1)
 be:Below W.heap.size W wr
 l5:W.heap.size+1<B5
 l6:W.heap.size+1<B6
 ne:B5≠B6
theorem SumSt.bw {W wr wr':World} {B5 B6 b K:Nat} {s X Y:Sp} {f:Nat→Int × Int} {i:Nat} (h:SumSt W wr B5 B6 b K s X Y f i) (hb:Below wr.heap.size wr wr'):SumSt W wr' B5 B6 b K s X Y f i :=
 ⟨h.x.bw hb,h.y.bw hb,h.xp.bw hb,h.yp.bw hb,h.xb,h.yb,h.fs.bw hb,h.no.bw hb,zB h.be hb,h.l5,h.l6,h.ne⟩
theorem sum_exp (p1:Value) (f:Nat→Int × Int) (N b K KF:Nat) (s:Sp) (W:World) (hs:SpAt W s K (f 0).1 (f 0).2) (hbits:s.bits=(b:Int)) (hb:b≤1000000) (hK:K≤100000000) (hKF:KF≤900000000) (hN:jX f N) (hNb:N≤1000000000)
  (hle:∀ n,(f n).1≤(f n).2) (hfit:∀ n,n≤N → -P K<(f n).1∧(f n).2<P K) (hfitS:∀ n,n≤N → -P K<(jG f n).1∧(jG f n).2<P K)
  (hF:∀ (n:Nat) (u:Sp) w',n<N→u.bits=(b:Int)→SpAt w' u K (f n).1 (f n).2→Below W.heap.size W w'→Calls Tryz.prog 183 #[.agg #[.bool u.ln,.slice u.la u.lN u.lc,.bool u.hn,.slice u.ha u.hN u.hc,.int .i64 u.bits],.int .i64 ((n:Int)+1),p1] w' (zH w' b KF (f (n+1)).1 (f (n+1)).2)) :
  Calls Tryz.prog 182 #[.agg #[.bool s.ln,.slice s.la s.lN s.lc,.bool s.hn,.slice s.ha s.hN s.hc,.int .i64 s.bits],.func (.func 183) #[] #[p1]] W (zH W b (K+3) (zQ f N).1 (zQ f N).2):=by
 have HF:=zC hF;have HN:=zC hN;have HBT:=zC hbits;clear hF hN hbits;obtain ⟨V,hV⟩:∃ V,V=(W.alloc (.cells #[.bool s.ln,.slice s.la s.lN s.lc,.bool s.hn,.slice s.ha s.hN s.hc,.int .i64 s.bits] 28)).alloc (.cells #[.bool false,.slice none 0 0,.bool false,.slice none 0 0,.int .i64 0] 28):=⟨_,rfl⟩;have hBV:Below W.heap.size W V:=by rw[hV];exact bl2 _ _ _
 have A:SpC V W.heap.size s:=by rw[hV];constructor <;> simp[go_sem]
 have R:NoC V (W.heap.size+1):=by rw[hV];constructor <;> simp[go_sem]
 have HS:=zC (hs.bw hBV);have lA:=A.lt;have lR:=R.lt;clear hs
 go_enter Tryz.func182,Tryz.ntmps182
 go_wp2;rw[← hV];clear hV
 go_cut [5,6] (fun p q wx=>TwoS V wx s s p q)
 case first =>
  obtain ⟨x0,x1,x2,x3,x4⟩:=A
  go_region
  all_goals
   go_wp2_with fail;go_meet
   first
    | with_reducible exact zHF _ _ _ _
    | with_reducible exact zKE _ _ _ _
 case rest =>
 obtain ⟨B5,B6,rfl,rfl,l5,l6,hne,X,Y,hB⟩:=hcut;have n5:W.heap.size+1<B5:=by omega
 have n6:W.heap.size+1<B6:=by omega
 have st0:SumSt W wc B5 B6 b K s s s f 0:=⟨X,Y,(zA HS).bw hB,(zA HS).bw hB,zA HBT,zA HBT,A.bw hB,R.bw hB,zB hBV hB,n5,n6,hne⟩;clear X Y hB A R HS l5 l6 n5 n6 hne hBV lA lR;go_wp2_with fail
 go_loopw [7] (fun nn wr=>∃ (i:Nat) (X Y:Sp),nn=.int .i64 ((i:Int)+1)∧i≤N∧SumSt W wr B5 B6 b K s X Y f i) (fun nn _=>N+1-(intOf nn).toNat)
 case atStart=>exact ⟨0,s,s,rfl,Nat.zero_le _,st0⟩
 case round =>
  obtain ⟨i,X,Y,rfl,hi,st⟩:=hrel;have hr0:=yX (hle i);obtain ⟨⟨y0,y1,y2,y3,y4⟩,y5⟩:=st.y;go_wp2_with fail;refine (zBH _ Y K _ _ st.yp (by omega)).mono ?_
  rintro r w1 ⟨neg1,a1,n1,c1,rfl,hZ1,hb1⟩;replace st:=st.bw hb1;clear hb1 y0 y1 y2 y3 y4 y5;go_wp2_with fail;refine (zBM _ _ _ _ _ (zT (f i)) _ hZ1 hr0).mono ?_;rintro r w2 ⟨l,hlen,rfl,hb2⟩;replace st:=st.bw hb2;clear hb2 hZ1
  by_cases hin:i<N
  ·have hl:1<l:=by
    refine Int.not_le.1 fun hl=>?_
    have:=zI7 hlen hl hr0;have:=(zA HN).2 i hin;omega
   clear hlen;obtain ⟨⟨y0,y1,y2,y3,y4⟩,y5⟩:=st.y;go_wp2_with fail;refine (zA HF i Y _ hin st.yb st.yp st.be).mono ?_;rintro r w3 ⟨u,rfl,hub,hup,hb3⟩;replace st:=st.bw hb3;replace hup:=hup.fits (K:=K) (hle _) (hfit _ (by omega)).1 (hfit _ (by omega)).2
   have HU:=zC hub;clear hb3 y0 y1 y2 y3 y4 y5 hub;obtain ⟨V3,hV3⟩:∃ V3,V3=zP w3 B6 u:=⟨_,rfl⟩;have X3:VrC V3 B5 X:=by rw[hV3];exact st.x.off st.ne u
   have Y3:VrC V3 B6 u:=by rw[hV3];exact st.y.put u
   have P3:SpAt V3 X K (jG f i).1 (jG f i).2:=by rw[hV3];exact st.xp.put st.y.c u
   have U3:SpAt V3 u K (f (i+1)).1 (f (i+1)).2:=by rw[hV3];exact hup.put st.y.c u
   have F3:SpC V3 W.heap.size s:=by rw[hV3];exact st.fs.off (by have:=st.l6;omega) u
   have R3:NoC V3 (W.heap.size+1):=by rw[hV3];exact st.no.off (by have:=st.l6;omega) u
   have B3:Below W.heap.size W V3:=by rw[hV3];exact zZ st.be (by have:=st.l6;omega) u
   have xb:=zC st.xb;have l5:=st.l5;have l6:=st.l6;have hne:=st.ne;have lY:=st.y.lt;have lX:=st.x.lt;obtain ⟨⟨y0,y1,y2,y3,y4⟩,y5⟩:=st.y;obtain ⟨⟨x0,x1,x2,x3,x4⟩,x5⟩:=st.x;clear st hup;go_wp2_with fail;have hV3':V3=zP w3 B6 u:=hV3;unfold zP at hV3';rw[← hV3'];clear hV3' y0 y1 y2 y3 y4 y5 x0 x1 x2 x3 x4 x5;have lX3:B5<V3.heap.size:=X3.lt;refine (zA8 _ X u K b (jG f i) (f (i+1)) P3 U3 (by omega) (zA xb)).mono ?_
   rintro r w4 ⟨v,rfl,hvb,hvp,hb4⟩;have X4:=X3.bw hb4;have Y4:=Y3.bw hb4;have U4:=U3.bw hb4;have F4:=F3.bw hb4;have R4:=R3.bw hb4;have B4:=zB B3 hb4;have e:jJ (jG f i) (f (i+1))=jG f (i+1):=rfl;rw[e] at hvp;replace hvp:=hvp.fits (K:=K) (zCB hle _) (hfitS _ (by omega)).1 (hfitS _ (by omega)).2
   have HV:=zC hvb;clear hb4 hvb X3 Y3 P3 U3 F3 R3 B3 hV3;have stn:SumSt W (zP w4 B5 v) B5 B6 b K s v u f (i+1):=⟨X4.put v,Y4.off (Ne.symm hne) v,hvp.put X4.c v,U4.put X4.c v,zA HV,zA HU,F4.off (by omega) v,R4.off (by omega) v,zZ B4 (by omega) v,l5,l6,hne⟩
   unfold zP at stn;obtain ⟨⟨x0,x1,x2,x3,x4⟩,x5⟩:=X4;go_wp2_with fail
   go_roundw
   case rel=>exact ⟨i+1,v,u,by go_num,by omega,stn⟩
   case measure=>simp[intOf];omega
  ·have hie:i=N:=by omega
   subst hie
   have hl:¬ 1<l:=by
    have h1:=(zA HN).1
    intro hl
    obtain ⟨g1,g2,g3⟩:=hlen
    by_cases hp:0<zT (f i)
    ·obtain ⟨L,e1,e2,e3⟩:=g3 hp
     have:1≤L:=by omega
     have:=zJ this;have:Q 1=2:=rfl;omega
    ·have:=g2 (by omega);omega
   clear hlen;obtain ⟨⟨y0,y1,y2,y3,y4⟩,y5⟩:=st.y;go_wp2_with fail;refine (zBH _ Y K _ _ st.yp (by omega)).mono ?_
   rintro r w3 ⟨neg3,a3,n3,c3,rfl,hZ3,hb3⟩;replace st:=st.bw hb3;clear hb3 y0 y1 y2 y3 y4 y5;obtain ⟨V3,hV3⟩:∃ V3,V3=w3.alloc (.cells #[.bool neg3,.slice a3 n3 c3] 26):=⟨_,rfl⟩;have bV:Below w3.heap.size w3 V3:=by rw[hV3];exact bl1 _ _
   have L3:NmC V3 w3.heap.size ⟨neg3,a3,n3,c3⟩:=by rw[hV3];exact yS w3 ⟨neg3,a3,n3,c3⟩ _
   have st3:=st.bw bV;have HI:=zC (hZ3.bw bV);have l5:=st.l5;have lX:=st.x.lt;have HKr:=zC (show ∀ w',Below V3.heap.size V3 w'→(w'.cell? ⟨B5,0,none⟩=some (.bool X.ln)∧w'.cell? ⟨B5,1,none⟩=some (.slice X.la X.lN X.lc)∧w'.cell? ⟨B5,2,none⟩=some (.bool X.hn)∧w'.cell? ⟨B5,3,none⟩=some (.slice X.ha X.hN X.hc)∧w'.cell? ⟨B5,4,none⟩=some (.int .i64 X.bits)∧w'.cell? ⟨w3.heap.size,0,none⟩=some (.bool neg3)∧w'.cell? ⟨w3.heap.size,1,none⟩=some (.slice a3 n3 c3)∧w'.cell? ⟨W.heap.size,4,none⟩=some (.int .i64 s.bits)) from fun w' hB=>⟨(st3.x.c.bw hB).c0,(st3.x.c.bw hB).c1,(st3.x.c.bw hB).c2,(st3.x.c.bw hB).c3,(st3.x.c.bw hB).c4,(L3.bw hB).c0,(L3.bw hB).c1,(st3.fs.bw hB).c4⟩)
   have lL:=L3.lt;have R3:=st3.no;have lR3:=R3.lt;clear st L3 hZ3;go_wp2_with fail;rw[← hV3];clear hV3;obtain ⟨x0,x1,x2,x3,x4,x5,x6,x7⟩:=zA HKr _ (Below.refl _ _);have hD0:Below V3.heap.size V3 V3.drew:=(Below.refl _ _).drew;have nR1:W.heap.size+1≠B5:=by omega
   have nR2:W.heap.size+1≠w3.heap.size:=by omega
   have nR3:W.heap.size+1≠W.heap.size:=by omega
   go_region_held3 (fun w'=>w'.cell? ⟨B5,0,none⟩=some (.bool X.ln)∧w'.cell? ⟨B5,1,none⟩=some (.slice X.la X.lN X.lc)∧w'.cell? ⟨B5,2,none⟩=some (.bool X.hn)∧w'.cell? ⟨B5,3,none⟩=some (.slice X.ha X.hN X.hc)∧w'.cell? ⟨B5,4,none⟩=some (.int .i64 X.bits)∧w'.cell? ⟨w3.heap.size,0,none⟩=some (.bool neg3)∧w'.cell? ⟨w3.heap.size,1,none⟩=some (.slice a3 n3 c3)∧w'.cell? ⟨W.heap.size,4,none⟩=some (.int .i64 s.bits)) (first|exact zA HKr _ (by with_reducible first|exact hD0|exact hD2|exact hD1)|go_keep)
    (first
     | (go_at_call 113;have hq:=hD1;refine (zA8 _ X ⟨neg4,a4,n4,c4,neg3,a3,n3,c3,s.bits⟩ (K+1) b (jG f i) (-zT (f i),zT (f i)) ((st3.xp.bw hD1).mono (by omega)) ⟨hZ4,(zA HI).bw hD1⟩ (by omega) st3.xb).mono ?_;rintro r' w5 ⟨v,rfl,hvb,hvp,hb5⟩;have hD2:=zB hD1 hb5;have HV:=zC hvb;clear hvb;obtain ⟨q0,q1,q2,q3,q4,q5⟩:=R3.bw hD2;obtain ⟨y0,y1,y2,y3,y4,y5,y6,y7⟩:=zA HKr _ hD2)
     | (go_at_call 103;refine (jY _ _ _ _ (K+1) (zT (f i)) _ ((zA HI).bw hD0) (by omega)).mono ?_;rintro r' w4 ⟨neg4,a4,n4,c4,rfl,hZ4,hb4⟩;have hD1:=zB hD0 hb4))
   all_goals
    go_wp2_with fail;refine bodyPost_ret (v:=.agg #[.bool v.ln,.slice v.la v.lN v.lc,.bool v.hn,.slice v.ha v.hN v.hc,.int .i64 v.bits]) (by simp[results,Tryz.results182,go_sem,q0,q1,q2,q3,q4]) rfl ⟨v,rfl,zA HV,?_,?_⟩
    ·exact SpAt.put5 (hvp.mono (by omega)) q0 q1 q2 q3 q4 _ _ _ _ _
    ·exact jV (zB st3.be hD2) (Nat.le_succ _) _ _ _ _ _
theorem len_uniq {z l l':Int} (h:zDW z l) (h':zDW z l') (hz:0≤z):l=l':=by
 obtain ⟨a1,a2,a3⟩:=h;obtain ⟨b1,b2,b3⟩:=h'
 by_cases hp:0<z
 ·obtain ⟨L,e1,e2,e3⟩:=a3 hp
  obtain ⟨L',f1,f2,f3⟩:=b3 hp
  have:L=L':=by
   rcases Nat.lt_trichotomy L L' with h|h|h
   ·have:=zJ (show L+1≤L' by omega);omega
   ·exact h
   ·have:=zJ (show L'+1≤L by omega);omega
  omega
 ·have:=a2 (by omega);have:=b2 (by omega);omega
theorem exp_one {b N:Nat} {sm:Int × Int} (hb:16≤b) (hN:jX (zY b sm) N):1≤N:=by
 refine Nat.pos_of_ne_zero fun e=>?_
 have:=hN.1;rw[e] at this
 have h2:zT (zY b sm 0)=Q b:=by
  show zEE (Q b) (-Q b)=Q b
  have:=zG b;unfold zEE;rw[if_neg (by omega)]
 rw[h2] at this;have:=zJ hb;have:Q 16=65536:=rfl;omega
theorem zOT {z l l' bt:Int} {b t:Nat} (h':zDW z l') (h:zDW z l) (ht:(t:Int)=max 0 (l-b+8)) (hb:bt=(b:Int)) (hbm:b≤1000000) (ht2:t≤1000000) (hz:0≤z) :
  (if 0<IntKind.i64.wrap (IntKind.i64.wrap (l'-bt)+8) then IntKind.i64.wrap (IntKind.i64.wrap (l'-bt)+8) else 0)=(t:Int):=by
 have e:=len_uniq h' h hz;have l0:=h.1;have l1:l≤3000000:=by omega
 subst e;rw[hb,jO (l'-b) (by omega) (by omega),jO (l'-b+8) (by omega) (by omega)]
 split <;> omega
theorem zF0 (w:World) (s:Sp) (K b t N:Nat) (a:Int × Int) (l:Int) (hs:SpAt w s K a.1 a.2) (hbits:s.bits=(b:Int)) (hle:a.1≤a.2) (hb16:16≤b) (hb:b≤1000000) (hl:zDW (zT a) l) (ht:(t:Int)=max 0 (l-b+8)) (ht2:t≤1000000)
  (hsm:Abs (zN a t) (Q (b-8))) (hN:jX (zY b (zN a t)) N) (hK:Q (b+eb t)<P K) (hK2:K≤10000000) :
  Calls Tryz.prog 147 #[.agg #[.bool s.ln,.slice s.la s.lN s.lc,.bool s.hn,.slice s.ha s.hN s.hc,.int .i64 s.bits]] w (zH w b K (sqI b (zQ (zY b (zN a t)) N) t).1 (sqI b (zQ (zY b (zN a t)) N) t).2):=by
 obtain ⟨W,hW⟩:∃ W,W=(w.alloc (.cells #[.bool s.ln,.slice s.la s.lN s.lc,.bool s.hn,.slice s.ha s.hN s.hc,.int .i64 s.bits] 28)).alloc (.cells #[.bool false,.slice none 0 0,.bool false,.slice none 0 0,.int .i64 0] 28):=⟨_,rfl⟩;have hBW:Below w.heap.size w W:=by rw[hW];exact bl2 _ _ _
 have A:SpC W w.heap.size s:=by rw[hW];constructor <;> simp[go_sem]
 have R:NoC W (w.heap.size+1):=by rw[hW];constructor <;> simp[go_sem]
 have HS:=zC (hs.bw hBW);have lA:=A.lt;have lR:=R.lt;have HB:=zC hbits;have HT:=zC ht;have hr0:=yX hle;have HK:=zC (show ∀ w',Below W.heap.size W w'→(w'.cell? ⟨w.heap.size,0,none⟩=some (.bool s.ln)∧w'.cell? ⟨w.heap.size,1,none⟩=some (.slice s.la s.lN s.lc)∧w'.cell? ⟨w.heap.size,2,none⟩=some (.bool s.hn)∧w'.cell? ⟨w.heap.size,3,none⟩=some (.slice s.ha s.hN s.hc)∧w'.cell? ⟨w.heap.size,4,none⟩=some (.int .i64 s.bits)) from fun w' hB=>⟨(A.bw hB).c0,(A.bw hB).c1,(A.bw hB).c2,(A.bw hB).c3,(A.bw hB).c4⟩)
 clear hs hbits ht
 go_enter Tryz.func147,Tryz.ntmps147
 go_wp2;rw[← hW];clear hW;obtain ⟨x0,x1,x2,x3,x4⟩:=zA HK _ (Below.refl _ _);have hD0:Below W.heap.size W W.drew:=(Below.refl _ _).drew
 go_cut [3] (fun p wx=>p=.int .i64 (t:Int)∧Below W.heap.size W wx)
 case first =>
  go_region_held3 (fun w'=>w'.cell? ⟨w.heap.size,0,none⟩=some (.bool s.ln)∧w'.cell? ⟨w.heap.size,1,none⟩=some (.slice s.la s.lN s.lc)∧w'.cell? ⟨w.heap.size,2,none⟩=some (.bool s.hn)∧w'.cell? ⟨w.heap.size,3,none⟩=some (.slice s.ha s.hN s.hc)∧w'.cell? ⟨w.heap.size,4,none⟩=some (.int .i64 s.bits)) (first|exact zA HK _ (by with_reducible first|exact hD0|exact hD2|exact hD1)|go_keep)
   (first
    | (go_at_call 120;have hq:=hD1;refine (zBM _ _ _ _ _ (zT a) _ hZ1 hr0).mono ?_;rintro r' w2 ⟨l',hlen,rfl,hb2⟩;have hD2:=zB hD1 hb2)
    | (go_at_call 175;refine (zBH _ s K _ _ ((zA HS).bw hD0) (by omega)).mono ?_;rintro r' w1 ⟨neg1,a1,n1,c1,rfl,hZ1,hb1⟩;have hD1:=zB hD0 hb1))
  all_goals go_wp2_with fail
  all_goals
   go_meet;refine ⟨congrArg _ ?_,hD2⟩;have e:=zOT hlen hl (zA HT) (zA HB) hb ht2 hr0;split at e <;> omega
 case rest =>
 obtain ⟨rfl,hb0⟩:=hcut;replace A:=A.bw hb0;replace R:=R.bw hb0;replace hBW:=zB hBW hb0;replace HS:=zC ((zA HS).bw hb0);have lA:=A.lt;have lR:=R.lt;have HK:=zC (show ∀ w',Below wc.heap.size wc w'→(w'.cell? ⟨w.heap.size,0,none⟩=some (.bool s.ln)∧w'.cell? ⟨w.heap.size,1,none⟩=some (.slice s.la s.lN s.lc)∧w'.cell? ⟨w.heap.size,2,none⟩=some (.bool s.hn)∧w'.cell? ⟨w.heap.size,3,none⟩=some (.slice s.ha s.hN s.hc)∧w'.cell? ⟨w.heap.size,4,none⟩=some (.int .i64 s.bits)) from fun w' hB=>⟨(A.bw hB).c0,(A.bw hB).c1,(A.bw hB).c2,(A.bw hB).c3,(A.bw hB).c4⟩)
 clear x0 x1 x2 x3 x4 hD0 hb0;obtain ⟨x0,x1,x2,x3,x4⟩:=zA HK _ (Below.refl _ _);go_wp2_with fail
 go_cut [4] (fun p wx=>∃ (B:Nat) (u:Sp),p=.pointer (some ⟨B,0,none⟩)∧wc.heap.size≤B∧VrC wx B u∧SpAt wx u (K+5) (zN a t).1 (zN a t).2∧u.bits=(b:Int)∧Below wc.heap.size wc wx)
 case first =>
  go_region_held3 (fun w'=>w'.cell? ⟨w.heap.size,0,none⟩=some (.bool s.ln)∧w'.cell? ⟨w.heap.size,1,none⟩=some (.slice s.la s.lN s.lc)∧w'.cell? ⟨w.heap.size,2,none⟩=some (.bool s.hn)∧w'.cell? ⟨w.heap.size,3,none⟩=some (.slice s.ha s.hN s.hc)∧w'.cell? ⟨w.heap.size,4,none⟩=some (.int .i64 s.bits)) (exact zA HK _ (by repeat' (first|with_reducible exact hBU2|with_reducible exact hBU1|with_reducible exact Below.refl _ _|with_reducible refine Below.drew ?_|with_reducible refine zK ?_ _|with_reducible refine Below.setCell ?_ (by first|exact Nat.le_refl _|exact hlU1|exact hlU2) _)))
   (first
    | (go_at_call 174;have hq:=hBU1;refine (zDR _ _ _ _ K (t:Int) a.2 _ ((zA HS).hi.bw (by with_reducible first|exact hBU1|exact zK hBU1 _)) (by omega) (by omega) (by omega)).mono ?_;rintro r wU2 ⟨negU2,aU2,nU2,cU2,rfl,hZU2,hbU2⟩;have hCU2:Below wU1.heap.size wU1 wU2:=(by with_reducible first|exact hbU2|exact zB (bl1 _ _) hbU2);have hBU2:=zB hBU1 hCU2;(try with_reducible have gU2:=(zO wU1 28).bw hbU2);replace hZU1:=hZU1.bw hCU2;(try replace gU1:=gU1.bw hCU2);have hlU2:=hBU2.size;(try have mU1:=gU1.lt);(try have eU1:=Nat.ne_of_lt mU1);(try have eU1':=Nat.ne_of_gt mU1);(try obtain ⟨zU10,zU11,zU12,zU13,zU14,zU15⟩:=gU1);(try have mU2:=gU2.lt);(try have eU2:=Nat.ne_of_lt mU2);(try have eU2':=Nat.ne_of_gt mU2);(try obtain ⟨zU20,zU21,zU22,zU23,zU24,zU25⟩:=gU2))
    | (go_at_call 105;refine (zD6 _ _ _ _ K (t:Int) a.1 _ ((zA HS).lo.bw (by with_reducible first|exact (Below.refl _ _).drew|exact (bl1 _ _).drew)) (by omega) (by omega) (by omega)).mono ?_;rintro r wU1 ⟨negU1,aU1,nU1,cU1,rfl,hZU1,hbU1⟩;have hBU1:Below wc.heap.size wc wU1:=(by with_reducible first|exact zB (Below.refl _ _).drew hbU1|exact zB (bl1 _ _).drew hbU1);(try with_reducible have gU1:=((zO wc 28).bw (Below.refl _ _).drew).bw hbU1);have hlU1:=hBU1.size))
  all_goals
   have hfinU:SpAt wU2 ⟨negU1,aU1,nU1,cU1,negU2,aU2,nU2,cU2,s.bits⟩ (K+5) (zN a t).1 (zN a t).2:=⟨by rw[kG] at hZU1;exact hZU1.mono (by omega),by rw[kG] at hZU2;exact hZU2.mono (by omega)⟩
   go_wp2_with fail;go_meet;refine ⟨_,⟨negU1,aU1,nU1,cU1,negU2,aU2,nU2,cU2,s.bits⟩,rfl,?_,⟨⟨?_,?_,?_,?_,?_⟩,?_⟩,?_,zA HB,?_⟩
   ·first|exact Nat.le_refl _|exact hlU1|exact hlU2
   ·simp[go_sem, *]
   ·simp[go_sem, *]
   ·simp[go_sem, *]
   ·simp[go_sem, *]
   ·simp[go_sem, *]
   ·intro o;simp[go_sem, *]
   ·first|with_reducible exact hfinU.bw (bl1 _ _)|with_reducible exact SpAt.put5 hfinU (by assumption) (by assumption) (by assumption) (by assumption) (by assumption) _ _ _ _ _
   ·repeat' (first|with_reducible exact hBU2|with_reducible exact hBU1|with_reducible exact Below.refl _ _|with_reducible refine Below.drew ?_|with_reducible refine zK ?_ _|with_reducible refine Below.setCell ?_ (by first|exact Nat.le_refl _|exact hlU1|exact hlU2) _)
 case rest =>
 obtain ⟨BU,xU,rfl,hHU,XU,hpU,hxbU,hblU⟩:=hcut;replace A:=A.bw hblU;replace R:=R.bw hblU;replace hBW:=zB hBW hblU;have lU:=XU.lt;have nRU:w.heap.size+1<BU:=by omega
 have lA2:=A.lt;have lR2:=R.lt;have HXB:=zC hxbU;have HHU:=zC hpU;clear hxbU hpU HS HK x0 x1 x2 x3 x4 hblU;have x4:=A.c4;rw[zA HB] at x4;go_wp2_with fail;refine (zE7 _ b hb).mono ?_;rintro r w1 ⟨v1,rfl,hvb1,hvp1,hb1⟩;have hQb:=zG b
 have hv0:(zY b (zN a t) 0).1=1*Q b/1∧(zY b (zN a t) 0).2 = -(-(1*Q b)/1):=by
  constructor
  ·show Q b=_;omega
  ·show Q b=_;omega
 rw[← hv0.1,← hv0.2] at hvp1
 have hQK:Q b*2<P K∧2*Q b+Q b<P K:=by
  have h12:12≤eb t:=by have:=zEP (show 0≤t by omega);simpa [eb] using this
  have:=zJ (show b+2≤b+eb t by omega)
  have e:Q (b+2)=2*(2*Q b):=rfl;omega
 have hT:=zEG (by omega) hsm
 have hlT:=kX b (zN a t)
 have hfit:∀ n,n≤N → -P K<(zY b (zN a t) n).1∧(zY b (zN a t) n).2<P K:=fun n _=>by
  obtain ⟨g1,g2,g3,g4⟩:=hT n;have:=zJ (show b-8*n≤b by omega)
  omega
 have hfitS:∀ n,n≤N → -P K<(jG (zY b (zN a t)) n).1∧(jG (zY b (zN a t)) n).2<P K:=fun n hn=>by
  obtain ⟨g1,g2,g3,g4⟩:=zGY (s:=8) (by omega) hT hN n hn
  have:=zG (b-8*n);omega
 have hNb:N≤1000000000:=by
  obtain ⟨N',n1,n2⟩:=zCY (s:=8) (by omega) hT
  have:N≤N':=Nat.not_lt.1 fun hlt=>by have:=hN.2 N' hlt;have:=n2.1;omega
  omega
 replace hvp1:=hvp1.fits (K:=K) (hlT 0) (hfit 0 (by omega)).1 (hfit 0 (by omega)).2
 have HT0:=zC hT;have HLT:=zC hlT;have HFIT:=zC hfit;have HFITS:=zC hfitS;have HVP1:=zC hvp1;have HVB1:=zC hvb1;have HQK:=zC hQK;clear hT hlT hfit hfitS hv0 hvp1 hvb1 hQK;replace XU:=XU.bw hb1;replace HHU:=zC ((zA HHU).bw hb1);replace R:=R.bw hb1;replace hBW:=zB hBW hb1;have lU3:=XU.lt;have lR3:=R.lt;clear hb1 x4 A lA2;go_wp2_with fail;refine (sum_exp _ (zY b (zN a t)) N b K (K+5+(K+5)+22) v1 _ (zA HVP1) (zA HVB1) hb (by omega) (by omega) hN hNb (zA HLT) (zA HFIT) (zA HFITS) (fun n u w' hn hub hup hbw=>?_)).mono ?_
 ·exact exp1_iv w' BU u xU (K+5) b ((n:Int)+1) (zY b (zN a t) n) (zN a t) (hup.mono (by omega)) ((zA HHU).bw hbw) (XU.c.bw hbw) (by omega) hub hb (by omega) (by omega)
 rintro r w2 ⟨v2,rfl,hvb2,hvp2,hb2⟩;replace XU:=XU.bw hb2;replace R:=R.bw hb2;replace hBW:=zB hBW hb2;have hdl:=zFE (zA HLT) N;have hda:=zHP (s:=8) (by omega) (zA HLT) (zA HT0) hN
 replace hvp2:=hvp2.fits (K:=K) hdl (by have:=hda.1;have:=zA HQK;omega) (by have:=hda.2.2.2;have:=zA HQK;omega)
 have HV2:=zC hvb2;clear hvb2 hb2 HVP1 HVB1 hdl hda;have lR4:=R.lt;go_wp2_with fail
 go_loopw [31] (fun ii wr=>∃ (i:Nat) (X:Sp),ii=.int .i64 (i:Int)∧i≤t∧VrC wr w2.heap.size X∧SpAt wr X K (sqI b (zQ (zY b (zN a t)) N) i).1 (sqI b (zQ (zY b (zN a t)) N) i).2∧X.bits=(b:Int)∧NoC wr (w.heap.size+1)∧Below w.heap.size w wr) (fun ii _=>t-(intOf ii).toNat)
 case atStart =>
  refine ⟨0,v2,rfl,Nat.zero_le _,⟨⟨by simp[go_sem],by simp[go_sem],by simp[go_sem],by simp[go_sem],by simp[go_sem]⟩,fun o=>by simp[go_sem]⟩,hvp2.bw (bl1 _ _),zA HV2,R.bw (bl1 _ _),zK hBW _⟩
 case round =>
  obtain ⟨i,X,rfl,hi,hX,hp,hxb,hR,hB⟩:=hrel;have HXB:=zC hxb;clear hxb;have lX:=hX.lt
  by_cases hin:i<t
  ·have hin':(i:Int)<(t:Int):=by omega
   obtain ⟨⟨x0,x1,x2,x3,x4⟩,x5⟩:=hX;go_wp2_with fail;refine (zLK _ X X K b _ _ hp hp (by omega) (zA HXB) hb).mono ?_
   rintro r w3 ⟨v,rfl,hvb,hvp,hb3⟩;have X3:=VrC.bw ⟨⟨x0,x1,x2,x3,x4⟩,x5⟩ hb3;have R3:=hR.bw hb3;have B3:=zB hB hb3;have e:kJ b (sqI b (zQ (zY b (zN a t)) N) i) (sqI b (zQ (zY b (zN a t)) N) i)=sqI b (zQ (zY b (zN a t)) N) (i+1):=rfl;rw[e] at hvp;have h1N:1≤N:=exp_one hb16 hN;have ha:=zN1 hb16 (zIL (s:=8) (by omega) (zA HLT) (zA HT0) hN h1N) (i+1)
   have hm:=zJ (show b+eb (i+1)≤b+eb t by have:=zEP (show i+1≤t by omega);omega)
   replace hvp:=hvp.fits (K:=K) (kV b) (by have:=ha.1;omega) (by have:=ha.2.2.2;omega)
   have HV:=zC hvb;have nB:w.heap.size+1≠w2.heap.size:=by omega
   have stn:VrC (zP w3 w2.heap.size v) w2.heap.size v∧SpAt (zP w3 w2.heap.size v) v K (sqI b (zQ (zY b (zN a t)) N) (i+1)).1 (sqI b (zQ (zY b (zN a t)) N) (i+1)).2∧NoC (zP w3 w2.heap.size v) (w.heap.size+1)∧Below w.heap.size w (zP w3 w2.heap.size v):=⟨X3.put v,hvp.put X3.c v,R3.off nB v,zZ B3 (by omega) v⟩
   unfold zP at stn;clear hvb hb3 x0 x1 x2 x3 x4 x5 hvp ha hm;obtain ⟨⟨x0,x1,x2,x3,x4⟩,x5⟩:=X3;go_wp2_with fail
   go_roundw
   case rel=>exact ⟨i+1,v,by go_num,by omega,stn.1,stn.2.1,zA HV,stn.2.2.1,stn.2.2.2⟩
   case measure=>simp[intOf];omega
  ·have hie:i=t:=by omega
   subst hie;have hin':¬ (i:Int)<(i:Int):=by omega
   obtain ⟨⟨x0,x1,x2,x3,x4⟩,x5⟩:=hX;obtain ⟨q0,q1,q2,q3,q4,q5⟩:=hR;go_wp2_with fail;refine bodyPost_ret (v:=.agg #[.bool X.ln,.slice X.la X.lN X.lc,.bool X.hn,.slice X.ha X.hN X.hc,.int .i64 X.bits]) (by simp[results,Tryz.results147,go_sem,q0,q1,q2,q3,q4]) rfl ⟨X,rfl,zA HXB,?_,?_⟩
   ·exact SpAt.put5 hp q0 q1 q2 q3 q4 _ _ _ _ _
   ·exact jV hB (Nat.le_succ _) _ _ _ _ _
open Ex
def zMC (B:Nat) (z sq:Int × Int):Nat→Int × Int
 | 0=>z
 | n+1=>zE (kJ B (zMC B z sq n) sq) (2*(n:Int)+1) (2*(n:Int)+3)
theorem zDA {n d:Int} (hd:0<d) (B:Nat):(ofI n d B).1≤(ofI n d B).2:=by
 have:=jQ (a:=(n*Q B,n*Q B)) (n:=1) (Int.le_refl _) hd (by omega)
 simpa [zE,ofI] using this
theorem zC6 {n d:Int} (hd:0<d) (B:Nat):(ofI n d B).2-(ofI n d B).1≤1:=by
 have:=zCN (x:=n*Q B) (y:=n*Q B) (c:=0) hd (by omega)
 simpa [ofI] using this
theorem zJT {n d m:Int} (hd:0<d) (B:Nat) (h1 : -(m*d)≤n*Q B) (h2:n*Q B≤m*d):Abs (ofI n d B) m:=by
 have:=jD hd h1 h2;exact ⟨this.1,this.2.1,this.2.2.1,this.2.2.2⟩
theorem zOL {B:Nat} {z sq:Int × Int} (hz:z.1≤z.2) (n:Nat):(zMC B z sq n).1≤(zMC B z sq n).2:=by
 cases n with
 | zero=>exact hz
 | succ n=>exact jQ (kV B) (by omega) (by omega)
theorem zKX {B:Nat} {z sq:Int × Int} (hB:3≤B) (hz:Abs z (Q B)) (hs:Abs sq (Q (B-3))) (n:Nat):Abs (zMC B z sq n) (Q (B-3*n)):=by
 induction n with
 | zero=>exact hz
 | succ n ih=>exact yR (yW ih hs (Q_step hB n)) (by omega) (by omega) (by omega)
theorem zNU {B:Nat} (hB:3≤B):Q B=8*Q (B-3):=by
 have:=jC 3 (B-3);rw[show 3+(B-3)=B by omega] at this
 rw[this];rfl
theorem zNG {B:Nat} {z sq:Int × Int} (hB:3≤B) (hz:Abs z (Q B)) (hs:Abs sq (Q (B-3))) (hzl:z.1≤z.2) (hsl:sq.1≤sq.2) (hzw:z.2-z.1≤1) (hsw:sq.2-sq.1≤2) (n:Nat):(zMC B z sq n).2-(zMC B z sq n).1≤6:=by
 induction n with
 | zero=>simp only[zMC];omega
 | succ n ih =>
  have q:=zG (B-3);have e:=zNU hB;have m1:Q (B-3*n)≤Q B:=zJ (by omega)
  have p1:=Int.mul_le_mul m1 hsw (by omega) (by omega)
  have p2:=Int.mul_le_mul_of_nonneg_left ih (show 0≤Q (B-3) by omega)
  have h1:=zDD (B:=B) (c:=3) (zKX hB hz hs n) hs (zOL hzl n) hsl (by omega)
  have h2:=zBK (a:=kJ B (zMC B z sq n) sq) (n:=2*(n:Int)+1) (d:=2*(n:Int)+3) (c:=4) (by omega) (by
   have:=Int.mul_le_mul_of_nonneg_right (show (kJ B (zMC B z sq n) sq).2-(kJ B (zMC B z sq n) sq).1≤4 by omega) (show 0≤2*(n:Int)+1 by omega)
   omega)
  simp only[zMC];omega
theorem logT_has {B:Nat} {a sq:Int × Int} {z:Rat} (h:Iv B a (fun _=>z)) (hs:Iv B sq (fun _=>z*z)) (n:Nat):Iv B (zMC B a sq n) (fun _=>pw z (2*n+1)/(2*(n:Rat)+1)):=by
 induction n with
 | zero =>
  refine Has.of_eq h fun M=>?_
  simp[pw];grind
 | succ n ih =>
  have:=(ih.mul hs).scale (n:=2*(n:Int)+1) (d:=2*(n:Int)+3) (by omega) (by omega)
  refine Has.of_eq this fun M=>?_
  have e1:((2*(n:Int)+1:Int):Rat)=2*(n:Rat)+1:=by rw[Rat.intCast_add,Rat.intCast_mul];rfl
  have e2:((2*(n:Int)+3:Int):Rat)=2*(n:Rat)+3:=by rw[Rat.intCast_add,Rat.intCast_mul];rfl
  have e3:((n+1:Nat):Rat)=(n:Rat)+1:=by simp
  have e4:pw z (2*(n+1)+1)=z*(z*pw z (2*n+1)):=rfl;rw[e1,e2,e3,e4];have hn:(0:Rat)≤(n:Rat):=by exact_mod_cast Nat.zero_le n
  generalize pw z (2*n+1)=p;have d1:(2*(n:Rat)+1)≠0:=by grind
  have d2:(2*(n:Rat)+3)≠0:=by grind
  have d3:2*((n:Rat)+1)+1=2*(n:Rat)+3:=by grind
  rw[d3];generalize 2*(n:Rat)+1=u at *;generalize 2*(n:Rat)+3=v at *;grind
theorem odd_half {z b:Rat} (hz:AB z (1/2)) (n:Nat) (h:AB (pw z (2*n+1)/(2*(n:Rat)+1)) b):AB (pw z (2*(n+1)+1)/(2*((n+1:Nat):Rat)+1)) (b/2):=by
 have hn:(0:Rat)≤(n:Rat):=by exact_mod_cast Nat.zero_le n
 have e3:((n+1:Nat):Rat)=(n:Rat)+1:=by simp
 have e4:pw z (2*(n+1)+1)=z*(z*pw z (2*n+1)):=rfl;have e5:=rdm (a:=pw z (2*n+1)) (show (0:Rat)<2*(n:Rat)+1 by grind)
 rw[e3,e4];refine zAO (by grind) ?_
 generalize pw z (2*n+1)/(2*(n:Rat)+1)=t at *;rw[← e5];have h1:AB (2*(n:Rat)+1) (2*(n:Rat)+1):=by constructor <;> grind
 have g:=(hz.mul (hz.mul (h.mul h1)));refine g.mono ?_;have:=Rat.mul_nonneg hn h.nonneg;have:=h.nonneg;grind
structure yG (n d:Int):Prop where
 hn:0<n
 hd:0<d
 h1:3*(n-d)≤n+d
 h2:3*(d-n)≤n+d
def zI (n d:Int) (B:Nat):Int × Int:=ofI (n-d) (n+d) B
def lnT (n d:Int) (B:Nat):Nat→Int × Int:=zMC B (zI n d B) (kJ B (zI n d B) (zI n d B))
def zR (n d:Int):Rat:=((n-d:Int):Rat)/((n+d:Int):Rat)
theorem zIE {n d:Int} (h:yG n d) (B:Nat):Abs (zI n d B) (Q B/3+1):=by
 obtain ⟨h0,h0',h1,h2⟩:=h;have q:=zG B;have g1:=Int.mul_le_mul_of_nonneg_right h1 (show 0≤Q B by omega)
 have g2:=Int.mul_le_mul_of_nonneg_right h2 (show 0≤Q B by omega)
 have g3:=Int.mul_le_mul_of_nonneg_right (show Q B≤3*(Q B/3+1) by omega) (show 0≤n+d by omega)
 have e1:3*(Q B/3+1)*(n+d)=3*((Q B/3+1)*(n+d)):=Int.mul_assoc _ _ _;have e2:3*(n-d)*Q B=3*((n-d)*Q B):=Int.mul_assoc _ _ _;have e3:3*(d-n)*Q B = -(3*((n-d)*Q B)):=by grind
 have e4:(n+d)*Q B=Q B*(n+d):=Int.mul_comm _ _;exact zJT (by omega) B (by omega) (by omega)
theorem sq_small {q:Int} (hq:65536≤q):(q/3+1)*(q/3+1)*8≤q*q:=by
 have h1:3*(q/3+1)≤q+3:=by omega
 have h2:=Int.mul_le_mul h1 h1 (by omega) (by omega)
 have h3:=Int.mul_le_mul_of_nonneg_right hq (show 0≤q by omega)
 grind
theorem zJW {n d:Int} (h:yG n d) {B:Nat} (hB:16≤B):Abs (kJ B (zI n d B) (zI n d B)) (Q (B-3)):=by
 refine yW (zIE h B) (zIE h B) ?_;have e:=zNU (show 3≤B by omega)
 have h1:=zJ hB;have h2:Q 16=65536:=rfl;have h3:=sq_small (q:=Q B) (by omega)
 have e2:Q B*Q B=8*(Q (B-3)*Q B):=by rw[e];grind
 omega
theorem zJK {n d:Int} (h:yG n d) {B:Nat} (hB:16≤B):Abs (zI n d B) (Q B):=(zIE h B).mono (by
 have h1:=zJ hB;have h2:Q 16=65536:=rfl
 omega)
theorem sqI_wide {n d:Int} (h:yG n d) {B:Nat} (hB:16≤B):(kJ B (zI n d B) (zI n d B)).2-(kJ B (zI n d B) (zI n d B)).1≤2:=by
 have hd:0<n+d:=by have:=h.hn;have:=h.hd;omega
 have l:=zDA (n:=n-d) hd B;have w:=zC6 (n:=n-d) hd B;have h1:=zJ hB;have h2:Q 16=65536:=rfl;have p:=Int.mul_le_mul_of_nonneg_left w (show 0≤Q B/3+1 by omega)
 exact zDD (c:=1) (zIE h B) (zIE h B) l l (by
  show (Q B/3+1)*((ofI (n-d) (n+d) B).2-(ofI (n-d) (n+d) B).1)+(Q B/3+1)*((ofI (n-d) (n+d) B).2-(ofI (n-d) (n+d) B).1)≤1*Q B
  omega)
theorem zFG {n d:Int} (h:yG n d) {B:Nat} (hB:16≤B) (k:Nat):Abs (lnT n d B k) (Q (B-3*k)):=zKX (by omega) (zJK h hB) (zJW h hB) k
theorem zLH {n d:Int} (h:yG n d) (B k:Nat):(lnT n d B k).1≤(lnT n d B k).2:=zOL (zDA (by have:=h.hn;have:=h.hd;omega) B) k
theorem lnT_wide {n d:Int} (h:yG n d) {B:Nat} (hB:16≤B) (k:Nat):(lnT n d B k).2-(lnT n d B k).1≤6 :=
 zNG (by omega) (zJK h hB) (zJW h hB) (zDA (by have:=h.hn;have:=h.hd;omega) B) (kV B) (zC6 (by have:=h.hn;have:=h.hd;omega) B) (sqI_wide h hB) k
theorem zK1 {n d:Int} (h:yG n d) {B N:Nat} (hB:16≤B) (hN:jX (lnT n d B) N) :
  (zQ (lnT n d B) N).1≤(zQ (lnT n d B) N).2∧Abs (zQ (lnT n d B) N) (2*Q B)∧N≤B/3+1∧(zQ (lnT n d B) N).2-(zQ (lnT n d B) N).1≤((N:Int)+1)*6+2:=by
 refine ⟨zFE (zLH h B) N,zHP (s:=3) (by omega) (zLH h B) (zFG h hB) hN,?_,zC4 (lnT_wide h hB) hN⟩
 obtain ⟨N',n1,n2⟩:=zCY (s:=3) (by omega) (zFG h hB)
 refine Nat.le_trans (Nat.not_lt.1 fun hlt=>?_) n1
 have:=hN.2 N' hlt;have:=n2.1;omega
theorem zR_AB {n d:Int} (h:yG n d):AB (zR n d) (1/2):=by
 obtain ⟨h0,h0',h1,h2⟩:=h;have hp:(0:Rat)<((n+d:Int):Rat):=by exact_mod_cast (show 0<n+d by omega)
 refine zAO hp ?_;have g1:((3*(n-d):Int):Rat)≤((n+d:Int):Rat):=zW h1;have g2:((-(3*(n-d)):Int):Rat)≤((n+d:Int):Rat):=zW (by omega)
 rw[Rat.intCast_neg] at g2;rw[Rat.intCast_mul] at g1 g2;have e:((3:Int):Rat)=3:=rfl;rw[e] at g1 g2;constructor <;> grind
theorem ln_has {n d:Int} (h:yG n d) (B N:Nat):Iv B (zQ (lnT n d B) N) (fun M=>Az (zR n d) M):=by
 have hz:Iv B (zI n d B) (fun _=>zR n d):=Iv.of B (by have:=h.hn;have:=h.hd;omega)
 exact zGX (zLH h B) (fun k _=>logT_has hz (hz.mul hz) k) 0 (fun M _ k b _ hb=>odd_half (zR_AB h) k hb)
theorem zDC {n d:Int} (h:yG n d):IsLog (fun M=>2*Az (zR n d) M) (fun _=>(n:Rat)/(d:Rat)):=by
 refine isLog_Az (z:=fun _=>zR n d) 0 (fun _ _=>zR_AB h) (fun M _=>?_)
 obtain ⟨h0,h0',h1,h2⟩:=h;have hp:(0:Rat)<((n+d:Int):Rat):=by exact_mod_cast (show 0<n+d by omega)
 have hd:(0:Rat)<(d:Rat):=by exact_mod_cast h0'
 have e1:=rdm (a:=((n-d:Int):Rat)) hp;have e2:=rdm (a:=(n:Rat)) hd
 show (n:Rat)/(d:Rat)*(1-zR n d)=1+zR n d
 unfold zR;generalize ((n-d:Int):Rat)/((n+d:Int):Rat)=z at *;generalize (n:Rat)/(d:Rat)=r at *;rw[Rat.intCast_sub,Rat.intCast_add] at e1;rw[Rat.intCast_add] at hp;have e3:z*(r*d+d)=r*d-d:=by rw[e2];exact e1
 have e4:(d:Rat)*(r*(1-z)-(1+z))=0:=by grind
 rcases Rat.mul_eq_zero.1 e4 with h|h
 ·grind
 ·grind
theorem pw_Q (k:Nat):pw 2 k=(Q k:Rat):=by
 induction k with
 | zero=>rfl
 | succ k ih =>
  have e:Q (k+1)=2*Q k:=rfl;rw[e,Rat.intCast_mul];simp only[pw,ih];rfl
def zFS (a b:Int × Int) (k:Int):Int × Int:=if k<0 then yH (yJ a 2) (yJ (yJ b 2) (-k)) else jJ (yJ a 2) (yJ (yJ b 2) k)
def Bal (n d n' d' k:Int):Prop:=yG n' d'∧(0≤k→n*d'=n'*d*Q k.toNat)∧(k<0→n*d'*Q (-k).toNat=n'*d)
theorem zM8:yG 2 1:=⟨by omega,by omega,by omega,by omega⟩
theorem zFB {n d n' d' k:Int} (hn:0<n) (hd:0<d) (h:Bal n d n' d' k) (B N N2:Nat) :
  ∃ l,IsLog l (fun _=>(n:Rat)/(d:Rat))∧Iv B (zFS (zQ (lnT n' d' B) N) (zQ (lnT 2 1 B) N2) k) l:=by
 obtain ⟨h1,h2,h3⟩:=h;have d0:(0:Rat)<(d:Rat):=by exact_mod_cast hd
 have d0':(0:Rat)<(d':Rat):=by exact_mod_cast h1.hd
 have a1:=(ln_has h1 B N).times 2;have a2:=(ln_has zM8 B N2).times 2;have l1:=zDC h1;have l2:=zDC zM8;have e2:((2:Nat):Rat)=2:=rfl
 have e21:(fun _:Nat=>((2:Int):Rat)/((1:Int):Rat))=fun _=>(2:Rat):=funext fun _=>by
  have:((2:Int):Rat)/((1:Int):Rat)=2:=by
   have e:=rdm (a:=((2:Int):Rat)) (show (0:Rat)<((1:Int):Rat) by decide)
   have e1:((1:Int):Rat)=1:=rfl;have e3:((2:Int):Rat)=2:=rfl;rw[e1,e3] at e ⊢;grind
  exact this
 rw[e21] at l2;rw[e2] at a1 a2
 by_cases hk:k<0
 ·obtain ⟨j,rfl⟩:∃ j:Nat,k = -(j:Int):=⟨(-k).toNat,by omega⟩
  have hq:=h3 hk;have ej:(-(-(j:Int))).toNat=j:=by omega
  rw[ej] at hq;have qj:=zV j;have l3:=(l2.times j).neg (s:=fun _=>1/(Q j:Rat)) (Bdd.const _) 0 (fun M _=>by rw[pw_Q];exact rdm qj)
  refine ⟨_,(l1.add l3).congr_r (null_zero.of_eq fun M=>?_),?_⟩
  ·show (n':Rat)/(d':Rat)*(1/(Q j:Rat))-(n:Rat)/(d:Rat)=0
   have hq2:((n*d'*Q j:Int):Rat)=((n'*d:Int):Rat):=by rw[hq]
   rw[Rat.intCast_mul,Rat.intCast_mul,Rat.intCast_mul] at hq2;have f1:=rdm (a:=(n':Rat)) d0';have f2:=rdm (a:=(n:Rat)) d0;have f3:=rdm (a:=(1:Rat)) qj;generalize (n':Rat)/(d':Rat)=r' at *;generalize (n:Rat)/(d:Rat)=r at *;generalize 1/(Q j:Rat)=i at *;rw[← f1,← f2] at hq2;have f4:(d:Rat)*((d':Rat)*(r*(Q j:Rat)-r'))=0:=by grind
   have f5:r*(Q j:Rat)=r':=by
    rcases Rat.mul_eq_zero.1 f4 with h|h
    ·grind
    ·rcases Rat.mul_eq_zero.1 h with h|h
     ·grind
     ·grind
   rw[← f5];have:r*(Q j:Rat)*i-r=r*(i*(Q j:Rat))-r:=by grind
   rw[this,f3];grind
  ·unfold zFS
   rw[if_pos hk];have:=a1.sub (a2.times j);rw[show -(-(j:Int))=(j:Int) by omega]
   refine Has.of_eq this fun M=>?_
   grind
 ·obtain ⟨j,rfl⟩:∃ j:Nat,k=(j:Int):=⟨k.toNat,by omega⟩
  have hq:=h2 (by omega)
  have ej:((j:Int)).toNat=j:=by omega
  rw[ej] at hq;have l3:=l2.times j;refine ⟨_,(l1.add l3).congr_r (null_zero.of_eq fun M=>?_),?_⟩
  ·show (n':Rat)/(d':Rat)*pw 2 j-(n:Rat)/(d:Rat)=0
   rw[pw_Q];have hq2:((n*d':Int):Rat)=((n'*d*Q j:Int):Rat):=by rw[hq]
   rw[Rat.intCast_mul,Rat.intCast_mul,Rat.intCast_mul] at hq2;have f1:=rdm (a:=(n':Rat)) d0';have f2:=rdm (a:=(n:Rat)) d0;generalize (n':Rat)/(d':Rat)=r' at *;generalize (n:Rat)/(d:Rat)=r at *;rw[← f1,← f2] at hq2;have f4:(d:Rat)*((d':Rat)*(r'*(Q j:Rat)-r))=0:=by grind
   rcases Rat.mul_eq_zero.1 f4 with h|h
   ·grind
   ·rcases Rat.mul_eq_zero.1 h with h|h
    ·grind
    ·exact h
  ·unfold zFS
   rw[if_neg hk];exact a1.add (a2.times j)
theorem zFF {n' d' k:Int} (h:yG n' d') {B N N2:Nat} (hB:16≤B) (hN:jX (lnT n' d' B) N) (hN2:jX (lnT 2 1 B) N2) (K:Int) (hk1 : -K≤k) (hk2:k≤K) :
  let o:=zFS (zQ (lnT n' d' B) N) (zQ (lnT 2 1 B) N2) k
  o.1≤o.2∧Abs o ((K+1)*(4*Q B))∧o.2-o.1≤(K+1)*(2*(((B:Int)/3+2)*6+2)):=by
 obtain ⟨a1,a2,a3,a4⟩:=zK1 h hB hN;obtain ⟨b1,b2,b3,b4⟩:=zK1 zM8 hB hN2
 intro o
 have q:=zG B;obtain ⟨W,hW⟩:∃ W:Int,W=((B:Int)/3+2)*6+2:=⟨_,rfl⟩;have a5:(zQ (lnT n' d' B) N).2-(zQ (lnT n' d' B) N).1≤W:=by omega
 have b5:(zQ (lnT 2 1 B) N2).2-(zQ (lnT 2 1 B) N2).1≤W:=by omega
 rw[← hW];have ho:o=zFS (zQ (lnT n' d' B) N) (zQ (lnT 2 1 B) N2) k:=rfl
 clear_value o
 subst ho;generalize zQ (lnT n' d' B) N=x at *;generalize zQ (lnT 2 1 B) N2=y at *;obtain ⟨x1,x2,x3,x4⟩:=a2;obtain ⟨y1,y2,y3,y4⟩:=b2;clear a3 a4 b3 b4;have hK:0≤K:=by omega
 have eK:(K+1)*(4*Q B)=K*(4*Q B)+4*Q B:=by rw[Int.add_mul,Int.one_mul]
 have eW:(K+1)*(2*W)=K*(2*W)+2*W:=by rw[Int.add_mul,Int.one_mul]
 rw[eK,eW]
 have hj:∀ j:Int,0≤j→j≤K→y.1*2*j≤y.2*2*j ∧ -(K*(4*Q B))≤y.1*2*j∧y.1*2*j≤K*(4*Q B) ∧ -(K*(4*Q B))≤y.2*2*j∧y.2*2*j≤K*(4*Q B)∧y.2*2*j-y.1*2*j≤K*(2*W):=fun j j0 jK=>by
  have c1:=yV (x:=y.1*2) (m:=4*Q B) (by omega) (by omega) (show -K≤j by omega) jK
  have c2:=yV (x:=y.2*2) (m:=4*Q B) (by omega) (by omega) (show -K≤j by omega) jK
  have c3:=Int.mul_le_mul_of_nonneg_right (show y.1*2≤y.2*2 by omega) j0
  have c4:=Int.mul_le_mul (show y.2*2-y.1*2≤2*W by omega) jK j0 (by omega)
  rw[Int.sub_mul] at c4;have e1:4*Q B*K=K*(4*Q B):=Int.mul_comm _ _;have e2:2*W*K=K*(2*W):=Int.mul_comm _ _;omega
 unfold zFS;split
 ·obtain ⟨c1,c2,c3,c4,c5,c6⟩:=hj (-k) (by omega) (by omega)
  simp only[yH,yJ,Abs];omega
 ·obtain ⟨c1,c2,c3,c4,c5,c6⟩:=hj k (by omega) (by omega)
  simp only[jJ,yJ,Abs];omega
def zCX (p q n:Int):Bool:=decide (-(n*q)≤p) && decide (p≤n*q)
theorem zFT (p q n:Int) (w:World) (hn0:0≤n) (hn:n≤100000) (hq0:1≤q) (hq:q≤1024) :
  Calls Tryz.prog 151 #[.agg #[.int .i64 p,.int .i64 q],.int .i64 n] w fun r w'=>r=.returned (.bool (zCX p q n))∧Below w.heap.size w w':=by
 have e : -n*q = -(n*q):=Int.neg_mul _ _;have b1:0≤n*q:=Int.mul_nonneg hn0 (by omega)
 have b2:n*q≤102400000:=Int.le_trans (Int.mul_le_mul hn hq (by omega) (by omega)) (by decide)
 by_cases h1 : -(n*q)≤p
 ·go_enter Tryz.func151,Tryz.ntmps151
  go_wp2
  go_ret
  exact ⟨by simp[zCX,h1];try omega,bl1 _ _⟩
 ·go_enter Tryz.func151,Tryz.ntmps151
  go_wp2
  go_ret
  exact ⟨by simp[zCX,h1];try omega,bl1 _ _⟩
theorem len_ex {z:Int} (hz:0≤z) {e:Nat} (he:z<Q e):∃ l,zDW z l∧l≤e∧z<Q l.toNat:=by
 by_cases hp:0<z
 ·have key:∀ e:Nat,z<Q e→∃ L:Nat,L+1≤e∧Q L≤z∧z<Q (L+1):=fun e=>by
   induction e with
   | zero=>intro h;simp[Q] at h;omega
   | succ e ih =>
    intro h
    by_cases hq:Q e≤z
    ·exact ⟨e,Nat.le_refl _,hq,h⟩
    ·obtain ⟨L,h1,h2⟩:=ih (by omega)
     exact ⟨L,by omega,h2⟩
  obtain ⟨L,h1,h2,h3⟩:=key e he;exact ⟨(L:Int)+1,⟨by omega,fun h=>by omega,fun _=>⟨L,rfl,h2,h3⟩⟩,by omega,by rw[show ((L:Int)+1).toNat=L+1 by omega];exact h3⟩
 ·have:z=0:=by omega
  subst this;exact ⟨0,⟨by omega,fun _=>rfl,fun h=>by omega⟩,by omega,by simp[Q]⟩
theorem zNB {B e:Nat} {a:Int × Int} (hB:16≤B) (ha:a.1≤a.2) (h:zT a<Q (B+e)) :
  ∃ (l:Int) (t N:Nat),zDW (zT a) l∧(t:Int)=max 0 (l-B+8)∧t≤e+8∧Abs (zN a t) (Q (B-8))∧jX (zY B (zN a t)) N:=by
 obtain ⟨l,h1,h2,h3⟩:=len_ex (yX ha) h;obtain ⟨t,ht⟩:∃ t:Nat,(t:Int)=max 0 (l-B+8):=⟨(max 0 (l-(B:Int)+8)).toNat,by omega⟩
 have hA:Abs (zN a t) (Q (B-8)):=by
  obtain ⟨g1,g2,g3,g4⟩:=zDI ha;have q:=zG t;have hm:=zJ (show l.toNat≤B-8+t by omega)
  rw[jC] at hm;have r1:=jD (x:=a.1) (m:=Q (B-8)) (q:=Q t) (by omega) (by omega) (by omega)
  have r2:=jD (x:=a.2) (m:=Q (B-8)) (q:=Q t) (by omega) (by omega) (by omega)
  exact ⟨r1.1,r1.2.1,r2.2.2.1,r2.2.2.2⟩
 obtain ⟨N,n1,n2⟩:=zCY (s:=8) (by omega) (zEG (by omega) hA)
 exact ⟨l,t,N,h1,ht,by omega,hA,n2⟩
structure RaC (w:World) (B:Nat) (p q:Int):Prop where
 c0:w.cell? ⟨B,0,none⟩=some (.int .i64 p)
 c1:w.cell? ⟨B,1,none⟩=some (.int .i64 q)
theorem RaC.lt {w:World} {B:Nat} {p q:Int} (h:RaC w B p q):B<w.heap.size:=World.block_lt_of_cell? w ⟨B,0,none⟩ h.c0
theorem RaC.bw {w w':World} {B:Nat} {p q:Int} (h:RaC w B p q) (hb:Below w.heap.size w w'):RaC w' B p q :=
 ⟨(hb.cell (p:=⟨B,0,none⟩) h.lt).trans h.c0,(hb.cell (p:=⟨B,1,none⟩) h.lt).trans h.c1⟩
theorem rac_new (w:World) (p q:Int) (T:TypeId):RaC (w.alloc (.cells #[.int .i64 p,.int .i64 q] T)) w.heap.size p q:=⟨by simp,by simp⟩
end Go.Proofs.YtgmnknmjainababGreat
