/-
  Its own texts.
-/
import Derived.Test.YtgmnknmjainababGreatK12
set_option maxRecDepth 100000
set_option maxHeartbeats 40000000
set_option linter.unnecessarySimpa false
set_option linter.unusedSimpArgs false
set_option linter.unusedVariables false
namespace Go.Proofs.YtgmnknmjainababGreat
open Go.RowKit
attribute [local go_sem ↓] Go.wp_at_zero Go.wp_at_succ
theorem zKN (w:World) (s t:Sp) (k b:Nat) (lo hi lo' hi':Int) (hs:SpAt w s k lo hi) (ht:SpAt w t k lo' hi') (hk:k<=300000000) (hb:b<=1000000) (hbits:s.bits=b) (hp:0<lo') (Y7:0<hi') :
  Calls Tryz.prog 146 #[.agg s.q,.agg t.q] w (zJ w b (b/16+k+10) (jB (pr4 (lo*Q b/lo') (lo*Q b/hi') (hi*Q b/lo') (hi*Q b/hi')) 3) (jP (pr4 (-(-(lo*Q b)/lo')) (-(-(lo*Q b)/hi')) (-(-(hi*Q b)/lo')) (-(-(hi*Q b)/hi'))) 3)):=by
 have L6:=zC hbits;have t1:¬ zF hi' 0<0:=by unfold zF;rw[if_neg (by omega)];split<;>omega
 clear hbits;obtain⟨W,hW⟩:∃ W,W=((w.alloc (.cells s.q 28)).alloc (.cells t.q 28)).alloc (.cells zCq 28):=⟨_,rfl⟩;have b8:Below w.heap.size w W:=by rw[hW];exact bl3 _ _ _ _
 have A:SpC W w.heap.size s:=by rw[hW];constructor<;>simp[go_sem]
 have G:SpC W (w.heap.size+1) t:=by rw[hW];constructor<;>simp[go_sem]
 have R:NoC W (w.heap.size+1+1):=by rw[hW];constructor<;>simp[go_sem]
 replace hs:=hs.bw b8;replace ht:=ht.bw b8
 go_enter Tryz.func146,Tryz.ntmps146
 go_wp2_with fail;rw[<- hW];clear hW;refine (yA _ _ _ _ k hi' _ ht.hi).mono ?_;rintro r w0 ⟨rfl,C9⟩;replace b8:=zB b8 C9;replace A:=A.bw C9;replace G:=G.bw C9;replace R:=R.bw C9;replace hs:=hs.bw C9;replace ht:=ht.bw C9;clear C9;have lA:=A.lt;have lG:=G.lt;obtain⟨x0,x1,x2,x3,x4⟩:=A;obtain⟨y0,y1,y2,y3,y4⟩:=G;have A:SpC w0 w.heap.size s:=⟨x0,x1,x2,x3,x4⟩;have G:SpC w0 (w.heap.size+1) t:=⟨y0,y1,y2,y3,y4⟩;go_wp2_with fail;clear lA lG x0 x1 x2 x3 x4 y0 y1 y2 y3 y4;refine (zEO _ s t k b w.heap.size lo hi lo' hi' hs ht hk hb hp Y7 (by rw[<- zA L6];exact A.c4)).mono ?_
 rintro r w1 ⟨B1,f1,rfl,Q3,b7⟩;replace b8:=zB b8 b7;replace A:=A.bw b7;replace G:=G.bw b7;replace R:=R.bw b7;replace hs:=hs.bw b7;replace ht:=ht.bw b7;clear b7;go_wp2_with fail;refine (zC2 _ 3 _ (b/16+k+9) f1 _ _ Q3 (by omega) (by omega)).mono ?_
 rintro r w2 ⟨b6,a2,n2,c2,rfl,o0,b9⟩;replace b8:=zB b8 b9;replace A:=A.bw b9;replace G:=G.bw b9;replace R:=R.bw b9;replace hs:=hs.bw b9;replace ht:=ht.bw b9;clear b9 Q3;obtain⟨W2,mo⟩:∃ W',W'=w2.alloc (.cells #[.bool b6,.slice a2 n2 c2] 26):=⟨_,rfl⟩;have G8:Below w2.heap.size w2 W2:=by rw[mo];exact bl1 _ _
 have X2:NmC W2 w2.heap.size ⟨b6,a2,n2,c2⟩:=by rw[mo];exact zAK w2 ⟨b6,a2,n2,c2⟩ _
 have lA:=A.lt;have lG:=G.lt;obtain⟨x0,x1,x2,x3,x4⟩:=A;obtain⟨y0,y1,y2,y3,y4⟩:=G;have A:SpC w2 w.heap.size s:=⟨x0,x1,x2,x3,x4⟩;have G:SpC w2 (w.heap.size+1) t:=⟨y0,y1,y2,y3,y4⟩;go_wp2_with fail;rw[<- mo];clear mo;clear lA lG x0 x1 x2 x3 x4 y0 y1 y2 y3 y4;have rh:w2.heap.size≠w.heap.size+1+1:=Yi R.lt;replace b8:=zB b8 G8;replace A:=A.bw G8;replace G:=G.bw G8;replace R:=R.bw G8;replace hs:=hs.bw G8;replace ht:=ht.bw G8;replace o0:=o0.bw G8;clear G8;refine (zEJ _ s t k b w.heap.size lo hi lo' hi' hs ht hk hb hp Y7 (by rw[<- zA L6];exact A.c4)).mono ?_
 rintro r w3 ⟨B3,f3,rfl,vK,k8⟩;replace b8:=zB b8 k8;replace A:=A.bw k8;replace R:=R.bw k8;replace o0:=o0.bw k8;replace X2:=X2.bw k8;clear k8;go_wp2_with fail;refine (zEV _ 3 _ (b/16+k+9) f3 _ _ vK (by omega) (by omega)).mono ?_
 rintro r w4 ⟨o9,a4,n4,c4,rfl,D9,m9⟩;replace b8:=zB b8 m9;replace A:=A.bw m9;replace R:=R.bw m9;replace o0:=o0.bw m9;replace X2:=X2.bw m9;clear m9 vK;have lA:=A.lt;have lX:=X2.lt;have lR:=R.lt;have Mv:w.heap.size+1+1≠w2.heap.size:=λ e9=>rh e9.symm
 have VH:w4.heap.size≠w.heap.size+1+1:=Yi lR;have Mw:w.heap.size+1+1≠w4.heap.size:=Yj lR;have nX4:w2.heap.size≠w4.heap.size:=Yj lX;obtain⟨x0,x1,x2,x3,x4⟩:=A;obtain⟨z0,z1⟩:=X2;obtain⟨q0,q1,q2,q3,q4,q5⟩:=R;go_wp2_with fail;refine bodyPost_ret (v:=.agg #[.bool b6,.slice a2 n2 c2,.bool o9,.slice a4 n4 c4,.int .i64 s.bits]) (by simp[results,Tryz.results146,go_sem,lR,q0,q1,q2,q3,q4]) rfl ⟨⟨b6,a2,n2,c2,o9,a4,n4,c4,s.bits⟩,rfl,zA L6,?_,?_⟩
 ·first|with_reducible exact SpAt.put5 ⟨(o0.bw (bl1 _ _)).mono (by omega),(D9.bw (bl1 _ _)).mono (by omega)⟩ (by simp[go_sem,lR,q0]) (by simp[go_sem,lR,q1]) (by simp[go_sem,lR,q2]) (by simp[go_sem,lR,q3]) (by simp[go_sem,lR,q4]) _ _ _ _ _|with_reducible exact SpAt.bw (SpAt.put5 ⟨o0.mono (by omega),D9.mono (by omega)⟩ q0 q1 q2 q3 q4 _ _ _ _ _) (bl1 _ _)
 ·first|with_reducible exact kB (zL b8 _) (by omega) _ _ _ _ _|with_reducible exact zL (kB b8 (by omega) _ _ _ _ _) _
theorem SpC.put5n {w:World} {B B':Nat} {s:Sp} (h:SpC w B s) (hne:B≠B') (u0 u1 u2 u3 u4:Value) :
  SpC (((((w.setCell ⟨B',0,none⟩ u0).setCell ⟨B',1,none⟩ u1).setCell ⟨B',2,none⟩ u2).setCell ⟨B',3,none⟩ u3).setCell ⟨B',4,none⟩ u4) B s :=
 ⟨jG h.c0 hne _ _ _ _ _,jG h.c1 hne _ _ _ _ _,jG h.c2 hne _ _ _ _ _,jG h.c3 hne _ _ _ _ _,jG h.c4 hne _ _ _ _ _⟩
theorem NoC.put5n {w:World} {B B':Nat} (h:NoC w B) (hne:B≠B') (u0 u1 u2 u3 u4:Value) :
  NoC (((((w.setCell ⟨B',0,none⟩ u0).setCell ⟨B',1,none⟩ u1).setCell ⟨B',2,none⟩ u2).setCell ⟨B',3,none⟩ u3).setCell ⟨B',4,none⟩ u4) B:=by
 obtain⟨q0,q1,q2,q3,q4,q5⟩:=h;exact⟨jG q0 hne _ _ _ _ _,jG q1 hne _ _ _ _ _,jG q2 hne _ _ _ _ _,jG q3 hne _ _ _ _ _,jG q4 hne _ _ _ _ _,λ o=>by rw[zO,zO,zO,zO,zO];exact q5 o⟩
theorem sp_put {w:World} {B:Nat} {t:Sp} (h:SpC w B t) (s:Sp):SpC (((((w.setCell ⟨B,0,none⟩ (.bool s.ln)).setCell ⟨B,1,none⟩ (.slice s.la s.lN s.lc)).setCell ⟨B,2,none⟩ (.bool s.hn)).setCell ⟨B,3,none⟩ (.slice s.ha s.hN s.hc)).setCell ⟨B,4,none⟩ (.int .i64 s.bits)) B s:=by
 obtain⟨q0,q1,q2,q3,q4⟩:=h;constructor<;>simp[go_sem,q0,q1,q2,q3,q4]
theorem zP6 {w:World} {B B':Nat} {s t:Sp} (hA:SpC w B s) (hG:SpC w B' t) (hne:B≠B') (u v:Sp) :
  let w1:=((((w.setCell ⟨B,0,none⟩ (.bool u.ln)).setCell ⟨B,1,none⟩ (.slice u.la u.lN u.lc)).setCell ⟨B,2,none⟩ (.bool u.hn)).setCell ⟨B,3,none⟩ (.slice u.ha u.hN u.hc)).setCell ⟨B,4,none⟩ (.int .i64 u.bits)
  let w2:=((((w1.setCell ⟨B',0,none⟩ (.bool v.ln)).setCell ⟨B',1,none⟩ (.slice v.la v.lN v.lc)).setCell ⟨B',2,none⟩ (.bool v.hn)).setCell ⟨B',3,none⟩ (.slice v.ha v.hN v.hc)).setCell ⟨B',4,none⟩ (.int .i64 v.bits)
  SpC w2 B u/\SpC w2 B' v/\(∀ {x:Sp} {k:Nat} {lo hi:Int},SpAt w x k lo hi->SpAt w2 x k lo hi)/\(∀ {C:Nat},NoC w C->C≠B->C≠B'->NoC w2 C):=by
 intro w1 w2
 have h1:SpC w1 B u:=sp_put hA u;have h2:SpC w1 B' t:=hG.put5n (λ e=>hne e.symm) _ _ _ _ _
 exact⟨h1.put5n hne _ _ _ _ _,sp_put h2 v,λ h=>SpAt.put5 (SpAt.put5 h hA.c0 hA.c1 hA.c2 hA.c3 hA.c4 _ _ _ _ _) h2.c0 h2.c1 h2.c2 h2.c3 h2.c4 _ _ _ _ _,λ h n1 n2=>(h.put5n n1 _ _ _ _ _).put5n n2 _ _ _ _ _⟩
theorem zJ3 (w:World) (s t:Sp) (k b:Nat) (lo hi lo' hi':Int) (hs:SpAt w s k lo hi) (ht:SpAt w t k lo' hi') (hk:k<=300000000) (hb:b<=1000000) (hbits:s.bits=b) (hp:lo'<0) (Y7:hi'<0) :
  Calls Tryz.prog 146 #[.agg s.q,.agg t.q] w (zJ w b (b/16+k+10) (jB (pr4 ((-hi)*Q b/(-hi')) ((-hi)*Q b/(-lo')) ((-lo)*Q b/(-hi')) ((-lo)*Q b/(-lo'))) 3) (jP (pr4 (-(-((-hi)*Q b)/(-hi'))) (-(-((-hi)*Q b)/(-lo'))) (-(-((-lo)*Q b)/(-hi'))) (-(-((-lo)*Q b)/(-lo')))) 3)):=by
 have L6:=zC hbits;have t1:zF hi' 0<0:=by unfold zF;rw[if_pos (by omega)];omega
 clear hbits;obtain⟨W,hW⟩:∃ W,W=((w.alloc (.cells s.q 28)).alloc (.cells t.q 28)).alloc (.cells zCq 28):=⟨_,rfl⟩;have b8:Below w.heap.size w W:=by rw[hW];exact bl3 _ _ _ _
 have A:SpC W w.heap.size s:=by rw[hW];constructor<;>simp[go_sem]
 have G:SpC W (w.heap.size+1) t:=by rw[hW];constructor<;>simp[go_sem]
 have R:NoC W (w.heap.size+1+1):=by rw[hW];constructor<;>simp[go_sem]
 have FA:∀ o,W.frozen? ⟨w.heap.size,o,none⟩=false:=by intro o;rw[hW];simp[go_sem]
 have FG:∀ o,W.frozen? ⟨w.heap.size+1,o,none⟩=false:=by intro o;rw[hW];simp[go_sem]
 replace hs:=hs.bw b8;replace ht:=ht.bw b8
 go_enter Tryz.func146,Tryz.ntmps146
 go_wp2_with fail;rw[<- hW];clear hW;refine (yA _ _ _ _ k hi' _ ht.hi).mono ?_;rintro r w0 ⟨rfl,C9⟩;replace b8:=zB b8 C9;replace FA:∀ o,w0.frozen? ⟨w.heap.size,o,none⟩=false:=λ o=>(C9.frozen (p:=⟨w.heap.size,o,none⟩) A.lt).trans (FA o)
 replace FG:∀ o,w0.frozen? ⟨w.heap.size+1,o,none⟩=false:=λ o=>(C9.frozen (p:=⟨w.heap.size+1,o,none⟩) G.lt).trans (FG o)
 replace A:=A.bw C9;replace G:=G.bw C9;replace R:=R.bw C9;replace hs:=hs.bw C9;replace ht:=ht.bw C9;clear C9;have nAG:w.heap.size≠w.heap.size+1:=by omega
 have nRA:w.heap.size+1+1≠w.heap.size:=by omega
 have nRG:w.heap.size+1+1≠w.heap.size+1:=by omega
 have HS:=zC hs;have HT:=zC ht;have HR:=zC R;have HA:=zC A;have HG:=zC G;have lA:=A.lt;have lG:=G.lt;have C4:Below w0.heap.size w0 w0.drew:=(Below.refl _ _).drew;obtain⟨x0,x1,x2,x3,x4⟩:=A;obtain⟨y0,y1,y2,y3,y4⟩:=G;go_wp2_with fail
 go_cut [12] (λ p wx=>∃ s2 t2:Sp,s2.bits=s.bits/\SpC wx w.heap.size s2/\SpC wx (w.heap.size+1) t2/\SpAt wx s2 k (-hi) (-lo)/\SpAt wx t2 k (-hi') (-lo')/\NoC wx (w.heap.size+1+1)/\Below w.heap.size w wx)
 case first =>
  go_region_with
   (first
    | (go_at_call 97;have hq:=A6;refine (zCO _ t k lo' hi' ((zA HT).bw A6) (by omega)).mono ?_;rintro r w2 ⟨u2,rfl,iZ,fA,b9⟩;have HU2:=zC iZ;clear iZ;have o7:=zB A6 b9;replace W5:=W5.bw b9;have VI:=Yd lA o7.size;have VJ:=Yd lG o7.size;obtain⟨a0,a1,a2,a3,a4⟩:=(zA HA).bw o7;obtain⟨g0,g1,g2,g3,g4⟩:=(zA HG).bw o7;have Br:∀ o,w2.frozen? ⟨w.heap.size,o,none⟩=false:=(λ o=>(o7.frozen (p:=⟨w.heap.size,o,none⟩) lA).trans (FA o));have VK:∀ o,w2.frozen? ⟨w.heap.size+1,o,none⟩=false:=(λ o=>(o7.frozen (p:=⟨w.heap.size+1,o,none⟩) lG).trans (FG o)))
    | (go_at_call 97;refine (zCO _ s k lo hi ((zA HS).bw (by repeat' (first|with_reducible exact Below.refl _ _|with_reducible refine Below.drew ?_))) (by omega)).mono ?_;rintro r w1 ⟨u1,rfl,cx,W5,b7⟩;have HU1:=zC cx;clear cx;have A6:Below w0.heap.size w0 w1:=zB (by repeat' (first|with_reducible exact Below.refl _ _|with_reducible refine Below.drew ?_)) b7;obtain⟨b0,b1,b2,b3,b4⟩:=(zA HA).bw A6;obtain⟨d0,d1,d2,d3,d4⟩:=(zA HG).bw A6;have VM:=Yd lA A6.size;have VN:=Yd lG A6.size))
  all_goals
   go_wp2_with fail;go_meet;have A2:SpC w2 w.heap.size s:=⟨a0,a1,a2,a3,a4⟩;have G2:SpC w2 (w.heap.size+1) t:=⟨g0,g1,g2,g3,g4⟩;obtain⟨p1,p2,p3,p4⟩:=zP6 A2 G2 nAG u1 u2;exact⟨u1,u2,zA HU1,p1,p2,p3 W5,p3 fA,p4 ((zA HR).bw o7) nRA nRG,kB (kB (zB b8 o7) (XW _) _ _ _ _ _) (Yh _) _ _ _ _ _⟩
 case rest =>
 obtain⟨s2,t2,dA,A,G,hs,ht,R,b8⟩:=hcut;replace L6:=zC (dA.trans (zA L6));clear dA HA HG HS HT HR lA lG x0 x1 x2 x3 x4 y0 y1 y2 y3 y4 FA FG C4;have lA:=A.lt;have lG:=G.lt;obtain⟨x0,x1,x2,x3,x4⟩:=A;obtain⟨y0,y1,y2,y3,y4⟩:=G;have A:SpC wc w.heap.size s2:=⟨x0,x1,x2,x3,x4⟩;have G:SpC wc (w.heap.size+1) t2:=⟨y0,y1,y2,y3,y4⟩;go_wp2_with fail;clear lA lG x0 x1 x2 x3 x4 y0 y1 y2 y3 y4;refine (zEO _ s2 t2 k b w.heap.size (-hi) (-lo) (-hi') (-lo') hs ht hk hb (by omega) (by omega) (by rw[<- zA L6];exact A.c4)).mono ?_
 rintro r w1 ⟨B1,f1,rfl,Q3,b7⟩;replace b8:=zB b8 b7;replace A:=A.bw b7;replace G:=G.bw b7;replace R:=R.bw b7;replace hs:=hs.bw b7;replace ht:=ht.bw b7;clear b7;go_wp2_with fail;refine (zC2 _ 3 _ (b/16+k+9) f1 _ _ Q3 (by omega) (by omega)).mono ?_
 rintro r w2 ⟨b6,a2,n2,c2,rfl,o0,b9⟩;replace b8:=zB b8 b9;replace A:=A.bw b9;replace G:=G.bw b9;replace R:=R.bw b9;replace hs:=hs.bw b9;replace ht:=ht.bw b9;clear b9 Q3;obtain⟨W2,mo⟩:∃ W',W'=w2.alloc (.cells #[.bool b6,.slice a2 n2 c2] 26):=⟨_,rfl⟩;have G8:Below w2.heap.size w2 W2:=by rw[mo];exact bl1 _ _
 have X2:NmC W2 w2.heap.size ⟨b6,a2,n2,c2⟩:=by rw[mo];exact zAK w2 ⟨b6,a2,n2,c2⟩ _
 have lA:=A.lt;have lG:=G.lt;obtain⟨x0,x1,x2,x3,x4⟩:=A;obtain⟨y0,y1,y2,y3,y4⟩:=G;have A:SpC w2 w.heap.size s2:=⟨x0,x1,x2,x3,x4⟩;have G:SpC w2 (w.heap.size+1) t2:=⟨y0,y1,y2,y3,y4⟩;go_wp2_with fail;rw[<- mo];clear mo;clear lA lG x0 x1 x2 x3 x4 y0 y1 y2 y3 y4;have rh:w2.heap.size≠w.heap.size+1+1:=Yi R.lt;replace b8:=zB b8 G8;replace A:=A.bw G8;replace G:=G.bw G8;replace R:=R.bw G8;replace hs:=hs.bw G8;replace ht:=ht.bw G8;replace o0:=o0.bw G8;clear G8;refine (zEJ _ s2 t2 k b w.heap.size (-hi) (-lo) (-hi') (-lo') hs ht hk hb (by omega) (by omega) (by rw[<- zA L6];exact A.c4)).mono ?_
 rintro r w3 ⟨B3,f3,rfl,vK,k8⟩;replace b8:=zB b8 k8;replace A:=A.bw k8;replace R:=R.bw k8;replace o0:=o0.bw k8;replace X2:=X2.bw k8;clear k8;go_wp2_with fail;refine (zEV _ 3 _ (b/16+k+9) f3 _ _ vK (by omega) (by omega)).mono ?_
 rintro r w4 ⟨o9,a4,n4,c4,rfl,D9,m9⟩;replace b8:=zB b8 m9;replace A:=A.bw m9;replace R:=R.bw m9;replace o0:=o0.bw m9;replace X2:=X2.bw m9;clear m9 vK;have lA:=A.lt;have lX:=X2.lt;have lR:=R.lt;have Mv:w.heap.size+1+1≠w2.heap.size:=λ e9=>rh e9.symm
 have VH:w4.heap.size≠w.heap.size+1+1:=Yi lR;have Mw:w.heap.size+1+1≠w4.heap.size:=Yj lR;have nX4:w2.heap.size≠w4.heap.size:=Yj lX;obtain⟨x0,x1,x2,x3,x4⟩:=A;obtain⟨z0,z1⟩:=X2;obtain⟨q0,q1,q2,q3,q4,q5⟩:=R;go_wp2_with fail;refine bodyPost_ret (v:=.agg #[.bool b6,.slice a2 n2 c2,.bool o9,.slice a4 n4 c4,.int .i64 s2.bits]) (by simp[results,Tryz.results146,go_sem,lR,q0,q1,q2,q3,q4]) rfl ⟨⟨b6,a2,n2,c2,o9,a4,n4,c4,s2.bits⟩,rfl,zA L6,?_,?_⟩
 ·first|with_reducible exact SpAt.put5 ⟨(o0.bw (bl1 _ _)).mono (by omega),(D9.bw (bl1 _ _)).mono (by omega)⟩ (by simp[go_sem,lR,q0]) (by simp[go_sem,lR,q1]) (by simp[go_sem,lR,q2]) (by simp[go_sem,lR,q3]) (by simp[go_sem,lR,q4]) _ _ _ _ _|with_reducible exact SpAt.bw (SpAt.put5 ⟨o0.mono (by omega),D9.mono (by omega)⟩ q0 q1 q2 q3 q4 _ _ _ _ _) (bl1 _ _)
 ·first|with_reducible exact kB (zL b8 _) (by omega) _ _ _ _ _|with_reducible exact zL (kB b8 (by omega) _ _ _ _ _) _
theorem zFQ (w:World) (s t:Sp) (k b:Nat) (lo hi lo' hi':Int) (hs:SpAt w s k lo hi) (ht:SpAt w t k lo' hi') (hk:k<=300000000) (hb:b<=1000000) (hbits:s.bits=b) (hl:lo<=hi) (hp:¬ (lo'<=0/\0<=hi')) (Y7:lo'<=hi') :
  Calls Tryz.prog 146 #[.agg s.q,.agg t.q] w (zJ w b (b/16+k+10) (zEZ lo hi lo' hi' b) (zFL lo hi lo' hi' b)):=by
 have hq:=zG b;unfold zEZ zFL
 by_cases h:hi'<0
 ·rw[if_pos h,if_pos h]
  have:=zJ3 w s t k b lo hi lo' hi' hs ht hk hb hbits (by omega) h
  rw[zGP (XK (by omega) (by omega)) (by omega) (by omega),zIH (XK (by omega) (by omega)) (by omega) (by omega)] at this
  exact this
 ·rw[if_neg h,if_neg h]
  have:=zKN w s t k b lo hi lo' hi' hs ht hk hb hbits (by omega) (by omega)
  rw[zGP (XK hl (by omega)) (by omega) (by omega),zIH (XK hl (by omega)) (by omega) (by omega)] at this
  exact this
open Ex
structure zGT (n d:Int) (B:Nat):Prop where
 n0:0<n
 nd:n<=d
 dd:d<=2199023255552
 b0:40<=B
 b1:B<=1000
def gaU (d:Int) (B:Nat) (_:Nat):Int:=(B:Int)*d
def gaD (n d:Int) (k:Nat):Int:=n+(k:Int)*d
def gaT (n d:Int) (B:Nat):Nat->Int × Int:=riT (ofI d n B) (gaU d B) (gaD n d)
theorem zFW {n d:Int} {B:Nat} (h:zGT n d B) (k:Nat):0<gaD n d k:=by
 have:=Yb (show (0:Int)<=(k:Int) by omega) (show 0<=d by have:=h.n0;have:=h.nd;omega)
 have:=h.n0;unfold gaD;omega
theorem zRF {n d:Int} {B:Nat} (h:zGT n d B):RiOk (gaU d B) (gaD n d):=⟨λ _=>Yb (by omega) (by have:=h.n0;have:=h.nd;omega),λ k=>zFW h k⟩
theorem ga_34 {n d:Int} {B:Nat} (h:zGT n d B) (k:Nat) (hk:2*B<=k):4*gaU d B (k+1)<=3*gaD n d (k+1):=by
 have n0:=h.n0;have nd:=h.nd;have m:=XK (show 2*(B:Int)<=((k+1:Nat):Int) by omega) (show 0<=d by omega)
 have e:2*(B:Int)*d=2*((B:Int)*d):=by grind
 have p:=Yb (show (0:Int)<=(B:Int) by omega) (show 0<=d by omega)
 unfold gaU gaD;omega
theorem ga_val {n d:Int} {B:Nat} (h:zGT n d B) (k M:Nat):riV (λ _=>(d:Rat)/(n:Rat)) (gaU d B) (gaD n d) k M=upT ((n:Rat)/(d:Rat)) (B:Rat) k:=by
 have n0:(0:Rat)<(n:Rat):=by exact_mod_cast h.n0
 have d0:(0:Rat)<(d:Rat):=by exact_mod_cast (show (0:Int)<d by have:=h.n0;have:=h.nd;omega)
 have a0:(0:Rat)<(n:Rat)/(d:Rat):=zH n0 d0;have ed:=rdm (a:=(n:Rat)) d0
 induction k with
 | zero =>
  refine zS (c:=(n:Rat)/(d:Rat)) a0 ?_;rw[zAO a0]
  show (n:Rat)/(d:Rat)*((d:Rat)/(n:Rat))=1
  have e2:=rdm (a:=(d:Rat)) n0;refine zS (c:=(n:Rat)*(d:Rat)) (Rat.mul_pos n0 d0) ?_;have e3:(n:Rat)*(d:Rat)*((n:Rat)/(d:Rat)*((d:Rat)/(n:Rat)))=(n:Rat)/(d:Rat)*(d:Rat)*((d:Rat)/(n:Rat)*(n:Rat)):=by grind
  rw[e3,ed,e2];grind
 | succ k ih =>
  have p:(0:Rat)<(gaD n d (k+1):Rat):=by exact_mod_cast zFW h (k+1)
  refine zS (c:=(n:Rat)/(d:Rat)+((k:Rat)+1)) (zBI a0 k) ?_;rw[kH a0,<- ih]
  show ((n:Rat)/(d:Rat)+((k:Rat)+1))*((gaU d B (k+1):Rat)/(gaD n d (k+1):Rat)*riV (λ _=>(d:Rat)/(n:Rat)) (gaU d B) (gaD n d) k M)=_
  generalize riV (λ _=>(d:Rat)/(n:Rat)) (gaU d B) (gaD n d) k M=r
  have eD:(gaD n d (k+1):Rat)=(n:Rat)+((k:Rat)+1)*(d:Rat):=by
   unfold gaD;rw[Rat.intCast_add,Ye];have:(((k+1:Nat):Int):Rat)=(k:Rat)+1:=by push_cast;rfl
   rw[this]
  have eU:(gaU d B (k+1):Rat)=(B:Rat)*(d:Rat):=by
   unfold gaU;rw[Ye];rfl
  have e4:=rdm (a:=(gaU d B (k+1):Rat)) p
  have e5:((n:Rat)/(d:Rat)+((k:Rat)+1))*(d:Rat)=(gaD n d (k+1):Rat):=by
   rw[eD];have:((n:Rat)/(d:Rat)+((k:Rat)+1))*(d:Rat)=(n:Rat)/(d:Rat)*(d:Rat)+((k:Rat)+1)*(d:Rat):=by grind
   rw[this,ed]
  refine zS (c:=(d:Rat)) d0 ?_;have e6:(d:Rat)*(((n:Rat)/(d:Rat)+((k:Rat)+1))*((gaU d B (k+1):Rat)/(gaD n d (k+1):Rat)*r))=((n:Rat)/(d:Rat)+((k:Rat)+1))*(d:Rat)*((gaU d B (k+1):Rat)/(gaD n d (k+1):Rat))*r:=by grind
  rw[e6,e5];have e7:(gaD n d (k+1):Rat)*((gaU d B (k+1):Rat)/(gaD n d (k+1):Rat))=(gaU d B (k+1):Rat)/(gaD n d (k+1):Rat)*(gaD n d (k+1):Rat):=by grind
  rw[e7,e4,eU];grind
theorem ga_has {n d:Int} {B N:Nat} (h:zGT n d B) (hN:zCC (gaT n d B) (2*B) N):Iv B (zBD (gaT n d B) N) (uS ((n:Rat)/(d:Rat)) (B:Rat)):=by
 have n0:=h.n0;have q0:(0:Rat)<=(d:Rat)/(n:Rat):=zG0 (by have:=h.nd;omega) n0
 have r:=zG7 (zRF h) (Iv.of B (n:=d) n0) 0 (λ M _=>q0) (λ k hk=>ga_34 h k hk) hN
 refine Has.of_eq r λ M=>?_
 show S (upT ((n:Rat)/(d:Rat)) (B:Rat)) M=S (λ k=>riV (λ _=>(d:Rat)/(n:Rat)) (gaU d B) (gaD n d) k M) M
 exact zA1 M λ k _=>(ga_val h k M).symm
theorem zB6 {n d:Int} {B:Nat} (h:zGT n d B):Q B<=(ofI d n B).1/\(ofI d n B).1<=(ofI d n B).2/\(ofI d n B).2<=Q (B+41)/\(ofI d n B).2-(ofI d n B).1<=1:=by
 have n0:=h.n0;have q:=zG B;have e:Q (B+41)=Q B*Q 41:=jD B 41;have Mx:Q 41=2199023255552:=rfl;refine⟨?_,zGB n0 B,?_,zE1 n0 B⟩
 ·refine Int.le_ediv_of_mul_le n0 ?_
  have:=XR h.nd (show 0<=Q B by omega)
  have:d*Q B=Q B*d:=Int.mul_comm _ _;omega
 ·have:=(jA (x:=d*Q B) (m:=Q (B+41)) (q:=n) n0 (by
   have:=Yb (show 0<=d by have:=h.nd;omega) (show 0<=Q B by omega)
   have:=Yb (show 0<=Q (B+41) by have:=zG (B+41);omega) (show 0<=n by omega)
   omega) (by
   have m1:=XK h.dd (show 0<=Q B by omega)
   have m2:=XR (show 1<=n by omega) (show 0<=Q (B+41) by have:=zG (B+41);omega)
   rw[e,Mx] at m2 ⊢;have:Q B*2199023255552=2199023255552*Q B:=Int.mul_comm _ _
   omega)).2.2.2
  exact this
theorem zB1 {n d:Int} {B:Nat} (h:zGT n d B) (k:Nat):0<=(gaT n d B k).1/\(gaT n d B k).1<=(gaT n d B k).2:=by
 obtain⟨f1,f2,f3,f4⟩:=zB6 h;have q:=zG B;exact⟨zC5 (zRF h) (by omega) k,zLQ (zRF h) f2 k⟩
theorem zI8 {x u v c:Int} (hv:0<v) (hx:0<=x) (h:u<=c*v) : -(-(x*u)/v)<=c*x:=by
 have e : -(c*x)*v <= -(x*u):=by
  have:=XR h hx;have e1 : -(c*x)*v = -(x*(c*v)):=by grind
  omega
 have:=Int.le_ediv_of_mul_le hv e;omega
theorem ga_hi1 {n d:Int} {B:Nat} (h:zGT n d B) (k:Nat):(gaT n d B k).2<=Q (B+41+10*k):=by
 induction k with
 | zero=>exact (zB6 h).2.2.1
 | succ k ih =>
  obtain⟨e1,e2⟩:=zB1 h k;have p:=zFW h (k+1);have n0:=h.n0;have nd:=h.nd;have b1:=h.b1
  have m:=zI8 (x:=(gaT n d B k).2) (u:=gaU d B (k+1)) (v:=gaD n d (k+1)) (c:=1024) p (by omega) (by
   have m1:=XK (show (B:Int)<=1024 by omega) (show 0<=d by omega)
   have m2:=Yb (show (0:Int)<=(k:Int) by omega) (show 0<=d by omega)
   have e:((k+1:Nat):Int)*d=(k:Int)*d+d:=by
    have:((k+1:Nat):Int)=(k:Int)+1:=by omega
    rw[this];grind
   unfold gaU gaD
   omega)
  have VO:Q (B+41+10*(k+1))=1024*Q (B+41+10*k):=by
   have:=jD (B+41+10*k) 10;have e:Q 10=1024:=rfl;rw[e] at this;have e2:B+41+10*k+10=B+41+10*(k+1):=by omega
   rw[e2] at this;omega
  show -(-((gaT n d B k).2*gaU d B (k+1))/gaD n d (k+1))<=_
  omega
theorem ga_hi {n d:Int} {B:Nat} (h:zGT n d B) (k:Nat):(gaT n d B k).2<=Q (21*B+41):=by
 by_cases c:k<=2*B
 ·exact Int.le_trans (ga_hi1 h k) (zK (by omega))
 ·obtain⟨j,rfl⟩:∃ j,k=2*B+j:=⟨k-2*B,by omega⟩
  have big:3<=Q (21*B+41):=by have:=zK (show 2<=21*B+41 by omega);have:Q 2=4:=rfl;omega
  clear c
  induction j with
  | zero=>exact Int.le_trans (ga_hi1 h _) (zK (by omega))
  | succ j ih =>
   obtain⟨e1,e2⟩:=zB1 h (2*B+j);have f:=zQZ (x:=(gaT n d B (2*B+j)).2) (zFW h (2*B+j+1)) (by omega) (ga_34 h (2*B+j) (by omega))
   have e:(gaT n d B (2*B+(j+1))).2 = -(-((gaT n d B (2*B+j)).2*gaU d B (2*B+j+1))/gaD n d (2*B+j+1)):=rfl;rw[e];omega
theorem ga_set {n d:Int} {B:Nat} (h:zGT n d B):∃ N,N<=65*B+126/\zCC (gaT n d B) (2*B) N:=by
 obtain⟨f1,f2,f3,f4⟩:=zB6 h;have q:=zG B
 obtain⟨N,h1,h2⟩:=zRD (turn:=2*B) (H:=21*B+42) (zRF h) (show 0<=(ofI d n B).1 by omega) f2 (λ k hk=>ga_34 h k hk) (by
  have a:(riT (ofI d n B) (gaU d B) (gaD n d) (2*B)).2<=Q (21*B+41):=ga_hi h (2*B);have e:Q (21*B+42)=2*Q (21*B+41):=rfl;have:=zG (21*B+41)
  omega)
 exact⟨N,by omega,h2⟩
theorem ga_rise {n d:Int} {B:Nat} (h:zGT n d B) (k:Nat) (hk:gaD n d (k+1)<=gaU d B (k+1)):(ofI d n B).2<=(gaT n d B k).2:=by
 induction k with
 | zero=>exact Int.le_refl _
 | succ k ih =>
  have n0:=h.n0;have nd:=h.nd
  have qK:gaD n d (k+1)<=gaU d B (k+1):=by
   have e:gaD n d (k+1+1)=gaD n d (k+1)+d:=by
    unfold gaD;have:((k+1+1:Nat):Int)=((k+1:Nat):Int)+1:=by omega
    rw[this];grind
   have e2:gaU d B (k+1+1)=gaU d B (k+1):=rfl;rw[e,e2] at hk;omega
  have i:=ih qK;obtain⟨e1,e2⟩:=zB1 h k;have p:=zFW h (k+1);have c:=zCP ((gaT n d B k).2*gaU d B (k+1)) p;have m:=XR qK (show 0<=(gaT n d B k).2 by omega)
  refine Int.le_trans i ?_;refine Int.le_of_mul_le_mul_right (a:=gaD n d (k+1)) ?_ p;exact Int.le_trans m c
theorem zLW {n d:Int} {B:Nat} (h:zGT n d B) (k:Nat):((gaT n d B k).2-(gaT n d B k).1)*(ofI d n B).2<=(1+2*(k:Int))*((gaT n d B k).2+(ofI d n B).2):=by
 obtain⟨f1,f2,f3,f4⟩:=zB6 h;have q:=zG B;obtain⟨e1,e2⟩:=zB1 h k;have w:=zMI (zRF h) (show 0<=(ofI d n B).1 by omega) f2 (by omega) f4 (λ k hk=>ga_rise h k hk) k
 refine Int.le_trans w (XR ?_ (by omega))
 have e:riT (ofI d n B) (gaU d B) (gaD n d) k=gaT n d B k:=rfl;rw[e];split<;>omega
theorem zMF {n d:Int} {B:Nat} (h:zGT n d B) (k:Nat):((jE (gaT n d B) k).2-(jE (gaT n d B) k).1)*(ofI d n B).2<=(1+2*(k:Int))*((jE (gaT n d B) k).2+((k:Int)+1)*(ofI d n B).2)/\0<=(jE (gaT n d B) k).2/\(ofI d n B).2<=(jE (gaT n d B) k).2/\(ofI d n B).1<=(jE (gaT n d B) k).1:=by
 obtain⟨f1,f2,f3,f4⟩:=zB6 h;have q:=zG B;have a2:0<=(ofI d n B).2:=by omega
 induction k with
 | zero =>
  have w:=zLW h 0;refine⟨?_,by show 0<=(ofI d n B).2;omega,Int.le_refl _,Int.le_refl _⟩
  show ((gaT n d B 0).2-(gaT n d B 0).1)*(ofI d n B).2<=(1+2*((0:Nat):Int))*((gaT n d B 0).2+(((0:Nat):Int)+1)*(ofI d n B).2)
  have e:((0:Nat):Int)=0:=rfl;rw[e] at w ⊢;generalize ((gaT n d B 0).2-(gaT n d B 0).1)*(ofI d n B).2=z at *;omega
 | succ k ih =>
  obtain⟨i1,i2,i3,i4⟩:=ih;have w:=zLW h (k+1);obtain⟨e1,e2⟩:=zB1 h (k+1);have es:jE (gaT n d B) (k+1)=jJ (jE (gaT n d B) k) (gaT n d B (k+1)):=rfl;have My:(jE (gaT n d B) (k+1)).1=(jE (gaT n d B) k).1+(gaT n d B (k+1)).1:=rfl;have Mz:(jE (gaT n d B) (k+1)).2=(jE (gaT n d B) k).2+(gaT n d B (k+1)).2:=rfl;have ec:((k+1:Nat):Int)=(k:Int)+1:=by omega
  refine⟨?_,by omega,by omega,by omega⟩
  rw[My,Mz];rw[ec] at w ⊢;generalize (jE (gaT n d B) k).2=S2 at *;generalize (jE (gaT n d B) k).1=S1 at *;generalize (gaT n d B (k+1)).2=T2 at *;generalize (gaT n d B (k+1)).1=T1 at *;generalize (ofI d n B).2=A at *;have k0:(0:Int)<=(k:Int):=by omega
  have m1:=Yb k0 a2;have r0:((k:Int)+1)*A=(k:Int)*A+A:=by grind
  have m2:(1+2*(k:Int))*(S2+((k:Int)+1)*A)<=(1+2*((k:Int)+1))*(S2+((k:Int)+1)*A):=XK (by omega) (by omega)
  have r1:(S2+T2-(S1+T1))*A=(S2-S1)*A+(T2-T1)*A:=by grind
  have r2:(1+2*((k:Int)+1))*(S2+T2+((k:Int)+1+1)*A)=(1+2*((k:Int)+1))*(S2+((k:Int)+1)*A)+(1+2*((k:Int)+1))*(T2+A):=by grind
  rw[r1,r2];omega
def jS (n d:Int) (B N:Nat):Int × Int:=zBD (gaT n d B) N
theorem zMJ {n d:Int} {B N:Nat} (h:zGT n d B) (hN:N<=65*B+126):Q B<=(jS n d B N).1/\(jS n d B N).1<=(jS n d B N).2/\((jS n d B N).2-(jS n d B N).1)*Q B<=9500*((B:Int)*(B:Int))*(jS n d B N).2:=by
 obtain⟨f1,f2,f3,f4⟩:=zB6 h;obtain⟨w1,w2,w3,w4⟩:=zMF h N;have q:=zG B;have e1:(jS n d B N).1=(jE (gaT n d B) N).1+0:=rfl;have e2:(jS n d B N).2=(jE (gaT n d B) N).2+9:=rfl;have sl:(jE (gaT n d B) N).1<=(jE (gaT n d B) N).2:=zCW (λ k=>(zB1 h k).2) N
 refine⟨by omega,by omega,?_⟩
 have b0:=h.b0;have b1:=h.b1;rw[e1,e2];generalize (jE (gaT n d B) N).2=S2 at *;generalize (jE (gaT n d B) N).1=S1 at *;generalize (ofI d n B).2=A at *;have m0:=XR (show Q B<=A by omega) (show 0<=S2+9-(S1+0) by omega)
 have m1:(1+2*(N:Int))*(S2+((N:Int)+1)*A)<=(1+2*(N:Int))*(((N:Int)+2)*(S2+9)):=XR (by
  have a:=XR (show A<=S2+9 by omega) (show 0<=(N:Int)+1 by omega)
  have e:((N:Int)+2)*(S2+9)=((N:Int)+1)*(S2+9)+(S2+9):=by grind
  omega) (by omega)
 have r:(S2+9-(S1+0))*A=(S2-S1)*A+9*A:=by grind
 have k1:(1+2*(N:Int))*((N:Int)+2)+9<=9500*((B:Int)*(B:Int)):=by
  have n1:(N:Int)+2<=69*(B:Int):=by omega
  have n2:1+2*(N:Int)<=137*(B:Int):=by omega
  have a:=Int.mul_le_mul n2 n1 (by omega) (by omega)
  have e:137*(B:Int)*(69*(B:Int))=9453*((B:Int)*(B:Int)):=by grind
  have:=Int.mul_le_mul (show (40:Int)<=(B:Int) by omega) (show (40:Int)<=(B:Int) by omega) (by omega) (by omega)
  omega
 have m2:=XK k1 (show 0<=S2+9 by omega)
 have r2:((1+2*(N:Int))*((N:Int)+2)+9)*(S2+9)=(1+2*(N:Int))*(((N:Int)+2)*(S2+9))+9*(S2+9):=by grind
 rw[r] at m0;rw[r2] at m2;omega
theorem ga_fit {n d:Int} {B:Nat} (h:zGT n d B) (k:Nat) (hk:k<=65*B+126):(jE (gaT n d B) k).2+9<=Q (21*B+60):=by
 have b1:=h.b1
 have s:∀ j:Nat,(jE (gaT n d B) j).2<=((j:Int)+1)*Q (21*B+41):=λ j=>by
  induction j with
  | zero =>
   have:=ga_hi h 0
   show (gaT n d B 0).2<=(((0:Nat):Int)+1)*Q (21*B+41)
   have e:((0:Nat):Int)=0:=rfl;rw[e];omega
  | succ j ih =>
   have:=ga_hi h (j+1);have e:(jE (gaT n d B) (j+1)).2=(jE (gaT n d B) j).2+(gaT n d B (j+1)).2:=rfl;have ec:((j+1:Nat):Int)+1=((j:Int)+1)+1:=by omega
   have r:(((j:Int)+1)+1)*Q (21*B+41)=((j:Int)+1)*Q (21*B+41)+Q (21*B+41):=by grind
   rw[e,ec,r];omega
 have a:=s k;have q:=zG (21*B+41);have big:9<=Q (21*B+41):=by have:=zK (show 4<=21*B+41 by omega);have:Q 4=16:=rfl;omega
 have m:=XK (show (k:Int)+1<=65127 by omega) (show 0<=Q (21*B+41) by omega)
 have e:Q (21*B+60)=Q (21*B+41)*Q 19:=by have:=jD (21*B+41) 19;exact this
 have vM:Q 19=524288:=rfl;rw[vM] at e;omega
theorem mulI_sq {B:Nat} {a:Int × Int} (h0:0<=a.1) (hl:a.1<=a.2):(kJ B a a).1=a.1*a.1/Q B/\(kJ B a a).2 = -(-(a.2*a.2)/Q B):=by
 obtain⟨l1,l2,l3,l4,lh⟩:=zC8 (a.1*a.1) (a.1*a.2) (a.2*a.1) (a.2*a.2);obtain⟨g1,g2,g3,g4,gh⟩:=zCZ (a.1*a.1) (a.1*a.2) (a.2*a.1) (a.2*a.2);have m1:=XR hl h0;have m2:=XK hl h0;have m3:=XR hl (show 0<=a.2 by omega)
 have m4:=XK hl (show 0<=a.2 by omega)
 unfold kJ;have e1:jB (pr4 (a.1*a.1) (a.1*a.2) (a.2*a.1) (a.2*a.2)) 3=a.1*a.1:=by omega
 have e2:jP (pr4 (a.1*a.1) (a.1*a.2) (a.2*a.1) (a.2*a.2)) 3=a.2*a.2:=by omega
 rw[e1,e2];exact⟨rfl,rfl⟩
theorem sq_rel {B:Nat} {a:Int × Int} {C:Int} (h0:0<=a.1) (hl:a.1<=a.2) (hC:0<=C) (h:(a.2-a.1)*Q B<=C*a.2) (hq:Q B<=2*(kJ B a a).2):((kJ B a a).2-(kJ B a a).1)*Q B<=(2*C+4)*(kJ B a a).2:=by
 have q:=zG B;obtain⟨e1,e2⟩:=mulI_sq (B:=B) h0 hl;have f1:=kV (a.1*a.1) (show 0<Q B by omega)
 have f2:=kV (-(a.2*a.2)) (show 0<Q B by omega)
 have f3:=zCP (a.2*a.2) (show 0<Q B by omega)
 rw[<- e1] at f1;rw[<- e2] at f3
 have f4:((kJ B a a).2-1)*Q B<a.2*a.2:=by
  have:(-(a.2*a.2)/Q B+1)*Q B = -(((kJ B a a).2-1)*Q B):=by rw[e2];grind
  omega
 generalize (kJ B a a).1=x at *;generalize (kJ B a a).2=y at *
 have g1:(y-x)*Q B<=a.2*a.2-a.1*a.1+2*Q B:=by
  have r1:(y-1)*Q B=y*Q B-Q B:=by grind
  have r2:(x+1)*Q B=x*Q B+Q B:=by grind
  have r3:(y-x)*Q B=y*Q B-x*Q B:=by grind
  omega
 have m1:=XR h (show 0<=2*a.2 by omega)
 have m2:(a.2*a.2-a.1*a.1)*Q B<=2*a.2*((a.2-a.1)*Q B):=by
  have r:a.2*a.2-a.1*a.1=2*a.2*(a.2-a.1)-(a.2-a.1)*(a.2-a.1):=by grind
  have s:=Yb (show 0<=a.2-a.1 by omega) (show 0<=a.2-a.1 by omega)
  have m:=XK (show a.2*a.2-a.1*a.1<=2*a.2*(a.2-a.1) by omega) (show 0<=Q B by omega)
  have r2:2*a.2*(a.2-a.1)*Q B=2*a.2*((a.2-a.1)*Q B):=by grind
  omega
 have m3:=XR f3 (show 0<=2*C by omega)
 have r4:2*a.2*(C*a.2)=2*C*(a.2*a.2):=by grind
 have r5:2*C*(y*Q B)=2*C*y*Q B:=by grind
 rw[r4] at m1;rw[r5] at m3;have m4:a.2*a.2-a.1*a.1<=2*C*y:=Int.le_of_mul_le_mul_right (a:=Q B) (by omega) (by omega)
 have r6:(2*C+4)*y=2*C*y+4*y:=by grind
 omega
theorem sqs_rel {B:Nat} {d:Int × Int} {C:Int} (hB:40<=B) (hd:d.1<=d.2) (hl:Q B-1<=d.1) (hC:0<=C) (h:(d.2-d.1)*Q B<=C*d.2) (i:Nat) (hi:i<=20) :
  ((sqI B d i).2-(sqI B d i).1)*Q B<=(Q i*(C+4)-4)*(sqI B d i).2:=by
 have h4:=zK hB;have e2:Q 40=1099511627776:=rfl
 induction i with
 | zero =>
  show (d.2-d.1)*Q B<=(1*(C+4)-4)*d.2
  have:1*(C+4)-4=C:=by omega
  rw[this];exact h
 | succ i ih =>
  have i1:=ih (by omega)
  have qi:=zK (show i+1<=20 by omega)
  have Bt:Q 20=1048576:=rfl;have es:Q (i+1)=2*Q i:=rfl;have q0:=zG i;obtain⟨l1,l2⟩:=zPP (B:=B) hd i (by omega) hl
  obtain⟨l3,l4⟩:=zPP (B:=B) hd (i+1) (by omega) hl
  have m:=XK q0 (show 0<=C+4 by omega)
  have r:=sq_rel (B:=B) (a:=sqI B d i) (C:=Q i*(C+4)-4) (by omega) l2 (by omega) i1 (by
   have e:(kJ B (sqI B d i) (sqI B d i)).2=(sqI B d (i+1)).2:=rfl
   rw[e];omega)
  have ec:2*(Q i*(C+4)-4)+4=Q (i+1)*(C+4)-4:=by rw[es];grind
  rw[ec] at r;exact r
theorem bal_nat {B:Nat} {n' d' c:Int} (h0:40<=B) (h1:B<=1000) (h:Bal (B:Int) 1 n' d' c):0<=c/\c<=10/\4*(c+1)<=(B:Int):=by
 obtain⟨⟨n0,d0,g1,g2⟩,h2,h3⟩:=h
 have c0:0<=c:=Int.not_lt.1 λ hc=>by
  have e:=h3 hc;have q:=zG (-c).toNat;have m:=XR q (show 0<=(B:Int)*d' from Yb (by omega) (by omega))
  have m2:=XK (show (40:Int)<=(B:Int) by omega) (show 0<=d' by omega)
  omega
 have e:=h2 c0;obtain⟨k,hk⟩:∃ k:Nat,c=(k:Int):=⟨c.toNat,by omega⟩
 subst hk;have ek:((k:Int)).toNat=k:=by omega
 rw[ek] at e;have qk:=zG k
 have le:Q k<=2*(B:Int):=by
  have m:=XR (show d'<=2*n' by omega) (show 0<=(B:Int) by omega)
  refine Int.le_of_mul_le_mul_left (a:=n') ?_ n0;have r1:n'*1*Q k=n'*Q k:=by grind
  have r2:(B:Int)*(2*n')=n'*(2*(B:Int)):=by grind
  omega
 have gJ:k<=10:=Nat.not_lt.1 λ hk=>by
  have:=zK (show 11<=k by omega)
  have:Q 11=2048:=rfl;omega
 refine⟨by omega,by omega,?_⟩
 by_cases c9:k<=9
 ·omega
 ·have:k=10:=by omega
  subst this;have:Q 10=1024:=rfl;omega
def gaY (n d:Int) (B:Nat) (o:Int × Int):Int × Int:=zAF (ofI (B:Int) 1 B) (zE o n d)
structure zPE (L:Rat->Nat->Rat) (B:Nat) (o:Int × Int):Prop where
 le:o.1<=o.2
 ab:Abs o ((B:Int)*Q B)
 wd:o.2-o.1<=44*(B:Int)+308
 iv:Iv B o (L (B:Rat))
theorem gaLog_of {L:Rat->Nat->Rat} (hL:Lns L) {B:Nat} (h0:40<=B) (h1:B<=1000) {n' d' c:Int} {N N2:Nat} (h:Bal (B:Int) 1 n' d' c) (hN:kG (lnT n' d' B) N) (ct:kG (lnT 2 1 B) N2):zPE L B (zIN (zT (lnT n' d' B) N) (zT (lnT 2 1 B) N2) c):=by
 obtain⟨c0,c1,c2⟩:=bal_nat h0 h1 h;obtain⟨b1,b2,b3⟩:=zF3 (k:=c) h.1 (show 16<=B by omega) hN ct c (by omega) (by omega)
 obtain⟨l,il,iv⟩:=zE9 (show (0:Int)<(B:Int) by omega) (by omega) h B N N2
 have q:=zG B;refine⟨b1,b2.mono ?_,?_,?_⟩
 ·have m:=XK c2 (show 0<=Q B by omega)
  have r:(c+1)*(4*Q B)=4*(c+1)*Q B:=by grind
  omega
 ·have m:=XK (show c+1<=11 by omega) (show 0<=2*(((B:Int)/3+2)*6+2) by omega)
  omega
 ·have e:(λ (_:Nat)=>((B:Int):Rat)/((1:Int):Rat))=λ _=>(B:Rat):=by
   funext _
   have e1:((1:Int):Rat)=1:=rfl;have e2:((B:Int):Rat)=(B:Rat):=rfl;rw[e1,e2,Yg];have:(1:Rat)⁻¹=1:=by decide +kernel
   rw[this,Rat.mul_one]
  rw[e] at il;have b0:(0:Rat)<(B:Rat):=by exact_mod_cast (show 0<B by omega)
  exact iv.congr ((hL _ b0).uniq il)
theorem gaY_ok {L:Rat->Nat->Rat} {n d:Int} {B:Nat} {o:Int × Int} (h:zGT n d B) (ho:zPE L B o):0<=(gaY n d B o).1/\(gaY n d B o).1<=(gaY n d B o).2/\(gaY n d B o).2-(gaY n d B o).1<=44*(B:Int)+309/\zP (gaY n d B o)<Q (B+11)/\Iv B (gaY n d B o) (λ M=>(B:Rat)-(n:Rat)/(d:Rat)*L (B:Rat) M):=by
 have n0:=h.n0;have nd:=h.nd;have b0:=h.b0;have b1:=h.b1;have d0:0<d:=by omega
 have q:=zG B;have sa:=zAH ho.ab d0 (show 0<=n by omega) nd
 have sl:=kR ho.le d0 (show 0<=n by omega)
 have sw:=zAL (a:=o) (n:=n) (d:=d) (c:=o.2-o.1) d0 (XR nd (by have:=ho.le;omega))
 have e1:(ofI (B:Int) 1 B).1=(B:Int)*Q B:=Int.ediv_one _;have e2:(ofI (B:Int) 1 B).2=(B:Int)*Q B:=by show -(-((B:Int)*Q B)/1)=_;rw[Int.ediv_one];omega
 have g1:(gaY n d B o).1=(B:Int)*Q B-(zE o n d).2:=by show (ofI (B:Int) 1 B).1-_=_;rw[e1]
 have g2:(gaY n d B o).2=(B:Int)*Q B-(zE o n d).1:=by show (ofI (B:Int) 1 B).2-_=_;rw[e2]
 obtain⟨s1,s2,s3,s4⟩:=sa;have wd:=ho.wd;have lo:0<=(gaY n d B o).1:=by omega
 refine⟨lo,by omega,by omega,?_,?_⟩
 ·have r:zP (gaY n d B o)<=2*((B:Int)*Q B):=zAE ⟨by omega,by omega,by omega,by omega⟩
  have e:Q (B+11)=Q B*Q 11:=jD B 11;have MA:Q 11=2048:=rfl;rw[MA] at e;have m:=XK (show (B:Int)<=1000 by omega) (show 0<=Q B by omega)
  omega
 ·have i1:=Iv.of B (n:=(B:Int)) (d:=1) (by decide)
  have i2:=ho.iv.scale (n:=n) (d:=d) (by omega) d0
  refine Has.of_eq (i1.sub i2) λ M=>?_
  have e1:((1:Int):Rat)=1:=rfl;have e2:((B:Int):Rat)=(B:Rat):=rfl
  have e3:(B:Rat)/1=(B:Rat):=by
   rw[Yg];have:(1:Rat)⁻¹=1:=by decide +kernel
   rw[this,Rat.mul_one]
  rw[e1,e2,e3]
def gaE (n d:Int) (B:Nat) (o:Int × Int) (t N:Nat):Int × Int:=sqI B (zT (zV B (zN (gaY n d B o) t)) N) t
theorem gaE_ok {L:Rat->Nat->Rat} {n d:Int} {B t N:Nat} {o:Int × Int} (h:zGT n d B) (ho:zPE L B o) (ht:t<=19) (hA:Abs (zN (gaY n d B o) t) (Q (B-8))) (hN:kG (zV B (zN (gaY n d B o) t)) N) :
  Q B+1<=2*(gaE n d B o t N).1/\(gaE n d B o t N).1<=(gaE n d B o t N).2/\(gaE n d B o t N).2<=Q (B+6144)/\((gaE n d B o t N).2-(gaE n d B o t N).1)*Q B<=9900000*((B:Int)*(B:Int))*(gaE n d B o t N).2/\Iv B (gaE n d B o t N) (Ev (λ M=>(B:Rat)-(n:Rat)/(d:Rat)*L (B:Rat) M)):=by
 obtain⟨y1,y2,y3,y4,y5⟩:=gaY_ok h ho;have b0:=h.b0;have b1:=h.b1;have q:=zG t;have qB:=zG B
 obtain⟨g1,g2,g3,g4⟩:=zI7 (ws:=44*(B:Int)+309) (by omega) hA y2 (by
  have m:=XR q (show 0<=44*(B:Int)+309 by omega)
  omega) hN
 have hs:0<=(zN (gaY n d B o) t).1:=Int.ediv_nonneg y1 (by omega)
 have bN:(zN (gaY n d B o) t).1<=(zN (gaY n d B o) t).2:=by
  have:=kR (a:=gaY n d B o) (n:=1) (d:=Q t) y2 (by omega) (by omega)
  simpa [zE,zN] using this
 have dl:=done_low hs bN hN;have dle:=zF5 (kY B (zN (gaY n d B o) t)) N;have sl:=zPP (B:=B) dle t (zK (by omega)) dl
 have h3:=zK (show t<=19 by omega)
 have h4:=zK b0;have vM:Q 19=524288:=rfl;have DM:Q 40=1099511627776:=rfl;have vN:eb 19=6144:=by decide
 have ebm:=zFG (show t<=19 by omega)
 rw[vN] at ebm;have up:=(g2.mono (zK (show B+eb t<=B+6144 by omega))).2.2.2
 have wd:(zN (gaY n d B o) t).2-(zN (gaY n d B o) t).1<=44*(B:Int)+309+1:=zC7 (by omega) (by
  have m:=XR q (show 0<=44*(B:Int)+309 by omega)
  omega)
 have wD:=zFP (zJB (by omega) hA bN wd) hN
 obtain⟨D,hD⟩:∃ D,D=zT (zV B (zN (gaY n d B o) t)) N:=⟨_,rfl⟩;rw[<- hD] at dl dle wD
 have wC:D.2-D.1<=((B:Int)/8+2)*(88*(B:Int)+624)+2:=by
  have m:=XK (show (N:Int)+1<=(B:Int)/8+2 by omega) (show 0<=2*(44*(B:Int)+309+1)+4 by omega)
  have r:2*(44*(B:Int)+309+1)+4=88*(B:Int)+624:=by omega
  rw[r] at m wD;omega
 obtain⟨C,hC⟩:∃ C,C=((B:Int)/8+2)*(88*(B:Int)+624)+4:=⟨_,rfl⟩;have C0:0<=C:=by have:=Yb (show 0<=(B:Int)/8+2 by omega) (show 0<=88*(B:Int)+624 by omega);omega
 have BB:=Int.mul_le_mul (show (40:Int)<=(B:Int) by omega) (show (40:Int)<=(B:Int) by omega) (by omega) (by omega)
 have Cb:40*(C+4)<=735*((B:Int)*(B:Int)):=by
  have m:=Int.mul_le_mul (show 40*((B:Int)/8+2)<=7*(B:Int) by omega) (show 88*(B:Int)+624<=104*(B:Int) by omega) (by omega) (by omega)
  have r1:40*((B:Int)/8+2)*(88*(B:Int)+624)=40*(((B:Int)/8+2)*(88*(B:Int)+624)):=by grind
  have r2:7*(B:Int)*(104*(B:Int))=728*((B:Int)*(B:Int)):=by grind
  omega
 have rel:(D.2-D.1)*Q B<=C*D.2:=by
  have m1:=XK wC (show 0<=Q B by omega)
  have m2:=XR (show Q B<=D.2+1 by omega) (show 0<=C-2 by have:=Yb (show 0<=(B:Int)/8+2 by omega) (show 0<=88*(B:Int)+624 by omega);omega)
  have r1:((B:Int)/8+2)*(88*(B:Int)+624)+2=C-2:=by omega
  rw[r1] at m1;have r2:(C-2)*(D.2+1)=C*D.2+C-2*D.2-2:=by grind
  have:C<=2*D.2+2:=by
   have m3:=Int.mul_le_mul (show (B:Int)<=1000 by omega) (show (B:Int)<=1000 by omega) (by omega) (by omega)
   omega
  omega
 have rs:=sqs_rel (B:=B) b0 dle dl C0 rel t (by omega)
 refine⟨?_,g1,up,?_,zPY (by omega) y5 hA⟩
 ·show Q B+1<=2*(sqI B (zT (zV B (zN (gaY n d B o) t)) N) t).1
  omega
 ·show ((sqI B (zT (zV B (zN (gaY n d B o) t)) N) t).2-(sqI B (zT (zV B (zN (gaY n d B o) t)) N) t).1)*Q B<=9900000*((B:Int)*(B:Int))*(sqI B (zT (zV B (zN (gaY n d B o) t)) N) t).2
  rw[<- hD] at sl ⊢;refine Int.le_trans rs (XK ?_ (by omega))
  have m:=XK h3 (show 0<=C+4 by omega)
  rw[vM] at m;omega
namespace Ex
theorem zDL {L:Rat->Nat->Rat} (hL:Lns L) (c:Rat):Null (λ M=>pr L c 1 M-1):=by
 have h:=(hL 1 (by grind)).uniq isLog_one
 have h2:Null (λ M=>c*L 1 M):=(h.bmul (Bdd.const c)).of_eq λ M=>by grind
 exact zQV h2
theorem upT_anti {a x:Rat} (ha:0<a) (aR:a<=1) (hx:0<=x) (n:Nat):upT 1 x n<=upT a x n:=by
 induction n with
 | zero =>
  have e:=zAO ha x;have e1:=zAO (show (0:Rat)<1 by grind) x
  have p:=kA ha hx 0;have m:=Yc aR p;grind
 | succ n ih =>
  have e:=kH ha x n;have e1:=kH (show (0:Rat)<1 by grind) x n
  have p:=kA ha hx (n+1);have q:=zBI (show (0:Rat)<1 by grind) n
  have m:=Yc (show a+((n:Rat)+1)<=1+((n:Rat)+1) by grind) p
  have m2:=Ya ih hx;refine Rat.le_of_mul_le_mul_left (c:=1+((n:Rat)+1)) ?_ q;rw[e1];rw[e] at m;exact Rat.le_trans m2 m
theorem uS_anti {a x:Rat} (ha:0<a) (aR:a<=1) (hx:0<=x) (M:Nat):uS 1 x M<=uS a x M:=by
 induction M with
 | zero=>exact Rat.le_refl
 | succ n ih=>have:=upT_anti ha aR hx n;rw[yW,yW];grind
theorem uS_E {a x:Rat} (ha:0<a) (hx:0<=x) (M:Nat):a*uS a x M<=E x M:=by
 induction M with
 | zero=>show a*0<=0;grind
 | succ n ih =>
  have t:=zRG ha hx n;have e:E x (n+1)=E x n+tm x n:=rfl;rw[yW,e];grind
theorem ex_neg_one:Null (λ M=>ex 1 M*ex (-1) M-1):=by
 have s:=zFX 1 (-1);have e:(1:Rat) + -1=0:=by grind
 rw[e] at s;refine s.of_eq_from 1 λ M hM=>?_
 obtain⟨m,rfl⟩:∃ m,M=m+1:=⟨M-1,by omega⟩
 have:ex 0 (m+1)=1:=zAB m;rw[this]
theorem q2_one:q2 1=1/2:=by
 have e:q2 1=q2 0/2:=rfl;have e0:q2 0=1:=rfl;rw[e,e0]
theorem gam_half {L:Rat->Nat->Rat} (hL:Lns L) {a:Rat} {g:Nat->Rat} (ha:0<a) (aR:a<=1) (h:Gam1 L a g):LeN (λ _=>1/2) g:=by
 refine LeN.trans ?_ (h.lo 1 (by grind))
 obtain⟨N,hN⟩:=zCE (-1);obtain⟨z,hz,kz⟩:=(zFT 1).null;have e1 : -((1:Nat):Rat) = -1:=rfl;rw[e1] at kz;have b:=(yD (-1)).mul (zDV ha (show (0:Rat)<=1 by grind))
 have n1:=(zDL hL a).bmul b;obtain⟨K,k0,hK⟩:=tm_bd 1
 have tn:Null (tm 1):=(zCM K k0).of_le 1 λ M hM=>(hK M).mono (by
  have m1:(1:Rat)<=(M:Rat):=by exact_mod_cast hM
  have:=Ya m1 (XQ k0 (XV (zAA M)))
  grind)
 have n2:=tn.bmul (yD (-1));refine LeN.of_null (((n1.neg).add hz).add ((ex_neg_one.neg).add n2.neg)) (N+1) λ M hM=>?_
 have s1:=uS_one (x:=1) M;have s2:=uS_anti ha aR (show (0:Rat)<=1 by grind) M
 have e0:=hN M (by omega)
 have k:=kz M;have q:=q2_one;have m:=Ya s2 e0;have e2:E 1 (M+1)=ex 1 M+tm 1 M:=rfl;rw[e2] at s1;unfold uG;generalize pr L a 1 M=p at *;generalize ex (-1) M=y at *;generalize uS 1 1 M=u1 at *;generalize uS a 1 M=ua at *;generalize ex 1 M=v at *;generalize tm 1 M=t at *;have r:y*u1=y*(v+t-1):=by rw[<- s1];grind
 rw[r] at m;rw[q] at k;grind
theorem gam_top {L:Rat->Nat->Rat} (hL:Lns L) {a:Rat} {g:Nat->Rat} (ha:0<a) (h:Gam1 L a g):LeN g (λ _=>1/a+1):=by
 refine (h.hi 1 (by grind)).trans ?_
 obtain⟨N,hN⟩:=zCE (-1);obtain⟨z,hz,kz⟩:=(zFT 1).null;have e1 : -((1:Nat):Rat) = -1:=rfl;rw[e1] at kz;have b:=(yD (-1)).mul (zDV ha (show (0:Rat)<=1 by grind))
 have n1:=(zDL hL a).bmul b;have n2:=(zDL hL (a-1)).bmul (yD (-1));have n3:=ex_neg_one.bmul (Bdd.const (1/a));refine LeN.of_null ((n1.add n2).add (hz.add n3)) N λ M hM=>?_
 have s1:=uS_E ha (show (0:Rat)<=1 by grind) M
 have e0:=hN M hM;have k:=kz M;have q:=q2_one;have m:=Ya s1 e0;have e2:E 1 M=ex 1 M:=rfl;rw[e2] at m;have d:=rdm (a:=1) ha;have ip:0<=1/a:=jQ ha (by grind)
 have m2:=Ya m ip;unfold uG uE;generalize pr L a 1 M=p at *;generalize pr L (a-1) 1 M=p2 at *;generalize ex (-1) M=y at *;generalize uS a 1 M=ua at *;generalize ex 1 M=v at *;have r:1/a*(y*(a*ua))=1/a*a*(y*ua):=by grind
 rw[r,d] at m2;rw[q] at k;generalize 1/a=i at *;clear r d n1 n2 n3 b;grind
theorem uE_half {L:Rat->Nat->Rat} (hL:Lns L) {a:Rat} (aR:a<=1) {n:Nat} (hn:1<=n):LeN (uE L a (n:Rat)) (λ _=>q2 n):=by
 have n1:(1:Rat)<=(n:Rat):=by exact_mod_cast hn
 have n0:(0:Rat)<(n:Rat):=by grind
 have l1:=(zFJ hL (c:=a-1) (by grind) (show (0:Rat)<1 by grind) n1).trans (LeN.of_eqN (zDL hL (a-1)))
 have l:=l1.mul (zFT n) (yD _) (zCE _) (Bdd.const 1) (Nn.const (by grind))
 exact l.trans (LeN.of_le 0 λ M _=>by grind)
theorem uG_quot {L:Rat->Nat->Rat} (hL:Lns L) {a x:Rat} (ha:0<a) (hx:0<x):Null (λ M=>uG L a x M-uS a x M/Ev (λ M=>x-a*L x M) M):=by
 have hb:Bdd (λ M=>x-a*L x M):=(Bdd.const x).sub (kD hL hx a)
 obtain⟨c,c0,N,hc⟩:=zCV hb;have i1:=yZ (kD hL hx a) (Bdd.const (-x));have i2:=zLS hb
 have bq:Bdd (λ M=>uS a x M/Ev (λ M=>x-a*L x M) M):=by
  obtain⟨K,k0,hK⟩:=zIJ ha (XV hx);refine Bdd.of_le (K/c) N λ M hM=>?_
  have e:=hc M hM;have ep:0<Ev (λ M=>x-a*L x M) M:=by grind
  have s0:=zCQ ha (XV hx) M;have q0:0<=uS a x M/Ev (λ M=>x-a*L x M) M:=jQ ep (by grind)
  have kc:0<=K/c:=jQ c0 (by grind)
  refine⟨by grind,zAJ ep ?_⟩
  have d:=rdm (a:=K) c0;have m:=Ya e kc;have:=hK M;grind
 have bE:=zA4 hb;have n1:=(i1.bmul (zDV ha (XV hx)));have n2:=i2.bmul bq;refine (n1.add n2).of_eq_from N λ M hM=>?_
 have e:=hc M hM;have ep:0<Ev (λ M=>x-a*L x M) M:=by grind
 have d:=rdm (a:=uS a x M) ep;have e1:Ev (λ M => -(x-a*L x M)) M=Ev (λ M=>a*L x M + -x) M:=by unfold Ev;congr 1;grind
 rw[e1];unfold uG pr ex;generalize Ev (λ M=>a*L x M + -x) M=w1 at *
 generalize Ev (λ M=>a*L x M) M=w2 at *
 have e2:Ev (λ _ => -x) M=Ev (λ M => -x) M:=rfl
 generalize Ev (λ _ => -x) M=w3 at *
 generalize Ev (λ M=>x-a*L x M) M=w4 at *
 generalize uS a x M=s at *;have r:(w4*w1-1)*(s/w4)=s/w4*w4*w1-s/w4:=by grind
 rw[r,d];grind
end Ex
theorem dv_rel {s1 s2 e1 e2 q C D lo hi:Int} (hq:0<q) (h0:0<=s1) (hC:0<=C) (hD:0<=D) (hCq:C<=q) (VP:D<=q) (he:0<e1) (hee:e1<=e2) (hs:(s2-s1)*q<=C*s2) (aT:s1<=s2) (he2:(e2-e1)*q<=D*e2) (IV:lo=s1*q/e2) (VQ:hi = -(-(s2*q)/e1)):(hi-lo)*q<=(C+D)*hi+2*q:=by
 have Bt:0<e2:=by omega
 have A:=kV (s1*q) Bt;rw[<- IV] at A
 have Cc:(hi-1)*e1<=s2*q:=by
  have:=kV (-(s2*q)) he;have r:(-(s2*q)/e1+1)*e1 = -((hi-1)*e1):=by rw[VQ];grind
  omega
 have oT:0<=hi:=by
  have : -(s2*q)/e1<=0:=Int.ediv_nonpos_of_nonpos_of_neg (by have:=Yb (show 0<=s2 by omega) (show 0<=q by omega);omega) he
  omega
 by_cases hz:hi=0
 ·have l0:0<=lo:=by rw[IV];exact Int.ediv_nonneg (Yb h0 (by omega)) (by omega)
  have:=Yb l0 (show 0<=q by omega)
  have r:(hi-lo)*q=hi*q-lo*q:=by grind
  rw[r,hz];omega
 ·have p:0<=hi-1:=by omega
  have B1:s2*(q-C)<=s1*q:=by
   have r1:s2*(q-C)=s2*q-C*s2:=by grind
   have r2:(s2-s1)*q=s2*q-s1*q:=by grind
   omega
  have B2:e2*(q-D)<=e1*q:=by
   have r1:e2*(q-D)=e2*q-D*e2:=by grind
   have r2:(e2-e1)*q=e2*q-e1*q:=by grind
   omega
  have qC:0<=q-C:=by omega
  have qD:0<=q-D:=by omega
  have k1:=XR B2 (Yb p qC);have k2:=XK Cc (Yb qC (show 0<=q by omega))
  have k3:=XR B1 (Yb (show 0<=q by omega) (show 0<=q by omega))
  have k4:=XR (show s1*q<=(lo+1)*e2 by omega) (Yb (show 0<=q by omega) (show 0<=q by omega))
  have r1:(hi-1)*(q-C)*(e1*q)=(hi-1)*e1*((q-C)*q):=by grind
  have r2:s2*q*((q-C)*q)=q*q*(s2*(q-C)):=by grind
  have r3:(hi-1)*(q-C)*(e2*(q-D))=(hi-1)*((q-C)*(q-D))*e2:=by grind
  have r4:q*q*((lo+1)*e2)=(lo+1)*(q*q)*e2:=by grind
  have k5:(hi-1)*((q-C)*(q-D))<=(lo+1)*(q*q):=Int.le_of_mul_le_mul_right (a:=e2) (by omega) Bt
  have r5:(q-C)*(q-D)=q*(q-(C+D))+C*D:=by grind
  have cd:=Yb hC hD;have k6:=XR (show q*(q-(C+D))<=(q-C)*(q-D) by omega) p
  have r6:(hi-1)*(q*(q-(C+D)))=(hi-1)*(q-(C+D))*q:=by grind
  have r7:(lo+1)*(q*q)=(lo+1)*q*q:=by grind
  have k7:(hi-1)*(q-(C+D))<=(lo+1)*q:=Int.le_of_mul_le_mul_right (a:=q) (by omega) hq
  have r8:(hi-1)*(q-(C+D))=hi*q-q-(C+D)*hi+(C+D):=by grind
  have r9:(lo+1)*q=lo*q+q:=by grind
  have r10:(hi-lo)*q=hi*q-lo*q:=by grind
  omega
theorem zO6 {B:Nat} (h0:40<=B) (h1:B<=1000):16*(10000000*((B:Int)*(B:Int)))<=Q B:=by
 by_cases c:B<=80
 ·have m:=Int.mul_le_mul (show (B:Int)<=80 by omega) (show (B:Int)<=80 by omega) (by omega) (by omega)
  have q:=zK h0;have e:Q 40=1099511627776:=rfl;omega
 ·have m:=Int.mul_le_mul (show (B:Int)<=1000 by omega) (show (B:Int)<=1000 by omega) (by omega) (by omega)
  have q:=zK (show 60<=B by omega)
  have e:Q 60=1152921504606846976:=rfl;omega
def gaG (n d:Int) (B:Nat) (o:Int × Int) (t N NS:Nat):Int × Int:=(zEZ (jS n d B NS).1 (jS n d B NS).2 (gaE n d B o t N).1 (gaE n d B o t N).2 B,zFL (jS n d B NS).1 (jS n d B NS).2 (gaE n d B o t N).1 (gaE n d B o t N).2 B+1)
structure GaV (g:Nat->Rat) (B:Nat) (a:Int × Int):Prop where
 lo:Q B<=4*a.1
 le:a.1<=a.2
 rel:(a.2-a.1)*Q B<=10000000*((B:Int)*(B:Int))*a.2
 hi:a.2<=Q (B+43)
 iv:Iv B a g
theorem zLL {B:Nat} {a:Int × Int} {x y:Nat->Rat} (h:Iv B a x) (k:LeN x y) {z:Int} (hz:LeN y (λ _=>(z:Rat)/(Q B:Rat))):a.1<=z:=by
 have q:=zY B;refine Int.not_lt.1 λ E4=>?_
 have d:(0:Rat)<1/(Q B:Rat):=zH (by grind) q
 obtain⟨e,he⟩:∃ e,e=1/(Q B:Rat)/4:=⟨_,rfl⟩;have e0:0<e:=by grind
 obtain⟨N1,k1⟩:=h e e0;obtain⟨N2,k2⟩:=k e e0;obtain⟨N3,k3⟩:=hz e e0;have a1:=(k1 (N1+N2+N3) (by omega)).1
 have a2:=k2 (N1+N2+N3) (by omega)
 have a3:=k3 (N1+N2+N3) (by omega)
 simp only[] at a3;have c:=zX (show z+1<=a.1 by omega)
 rw[Rat.intCast_add] at c;have c1:((1:Int):Rat)=1:=rfl;rw[c1] at c;have m:((z:Rat)+1)/(Q B:Rat)<=(a.1:Rat)/(Q B:Rat):=jZ q (by rw[rdm q];exact c)
 rw[yO] at m;generalize 1/(Q B:Rat)=i at *;grind
theorem gaG_ok {L:Rat->Nat->Rat} (hL:Lns L) {n d:Int} {B t N NS:Nat} {o:Int × Int} {g:Nat->Rat} (h:zGT n d B) (hg:Gam1 L ((n:Rat)/(d:Rat)) g) (ho:zPE L B o) (ht:t<=19) (hA:Abs (zN (gaY n d B o) t) (Q (B-8))) (hN:kG (zV B (zN (gaY n d B o) t)) N) (hS:NS<=65*B+126) (Eo:zCC (gaT n d B) (2*B) NS):GaV g B (gaG n d B o t N NS):=by
 obtain⟨s1,s2,s3⟩:=zMJ h hS;obtain⟨e1,e2,e3,e4,e5⟩:=gaE_ok h ho ht hA hN;have si:=ga_has h Eo;have n0:=h.n0;have nd:=h.nd;have b0:=h.b0;have b1:=h.b1;have q:=zG B;have qr:=zY B;have big:=zO6 b0 b1;have BB:=Int.mul_le_mul (show (40:Int)<=(B:Int) by omega) (show (40:Int)<=(B:Int) by omega) (by omega) (by omega)
 have nr:(0:Rat)<(n:Rat):=by exact_mod_cast n0
 have dr:(0:Rat)<(d:Rat):=by exact_mod_cast (show 0<d by omega)
 have a0:(0:Rat)<(n:Rat)/(d:Rat):=zH nr dr;have a1:(n:Rat)/(d:Rat)<=1:=zAJ dr (by have:=zX nd;grind)
 have bb:(0:Rat)<(B:Rat):=by exact_mod_cast (show 0<B by omega)
 have dv:Iv B (zEZ (jS n d B NS).1 (jS n d B NS).2 (gaE n d B o t N).1 (gaE n d B o t N).2 B,zFL (jS n d B NS).1 (jS n d B NS).2 (gaE n d B o t N).1 (gaE n d B o t N).2 B) (uG L ((n:Rat)/(d:Rat)) (B:Rat)):=(Iv.dv si e5 (show 0<=(jS n d B NS).1 by omega) (show 0<(gaE n d B o t N).1 by omega)).congr (uG_quot hL a0 bb)
 obtain⟨l1,l2⟩:=zRB (b:=B) (lo:=(jS n d B NS).1) (hi:=(jS n d B NS).2) (lo':=(gaE n d B o t N).1) (hi':=(gaE n d B o t N).2) (by omega) s2 (by omega) e2
 have iv:Iv B (gaG n d B o t N NS) g:=by
  have low:=hg.lo _ bb;have up:=(hg.hi _ bb).trans ((LeN.refl _).add (uE_half hL a1 (show 1<=B by omega)))
  have qq:q2 B=1/(Q B:Rat):=by
   have:∀ k:Nat,q2 k*(Q k:Rat)=1:=λ k=>by
    induction k with
    | zero =>
     show (1:Rat)*((1:Int):Rat)=1
     have c1:((1:Int):Rat)=1:=rfl;rw[c1];grind
    | succ k ih =>
     have e:q2 (k+1)=q2 k/2:=rfl;have e2:Q (k+1)=2*Q k:=rfl;rw[e,e2,Ye];have:((2:Int):Rat)=2:=rfl;rw[this];grind
   have k:=this B;refine Rat.le_antisymm (jQ qr (by rw[k];exact Rat.le_refl)) (zAJ qr (by rw[k];exact Rat.le_refl))
  intro e he
  obtain⟨N1,k1⟩:=dv (e/2) (by grind)
  obtain⟨N2,k2⟩:=low (e/2) (by grind)
  obtain⟨N3,k3⟩:=up (e/2) (by grind)
  refine⟨N1+N2+N3,λ M hM=>?_⟩
  obtain⟨x1,x2⟩:=k1 M (by omega)
  have x3:=k2 M (by omega)
  have x4:=k3 M (by omega)
  simp only[] at x4;unfold gaG;simp only[] at x1 x2 ⊢;rw[Rat.intCast_add,yO];have c1:((1:Int):Rat)=1:=rfl;rw[c1,<- qq];generalize ((zEZ (jS n d B NS).1 (jS n d B NS).2 (gaE n d B o t N).1 (gaE n d B o t N).2 B:Int):Rat)/(Q B:Rat)=z1 at *;generalize ((zFL (jS n d B NS).1 (jS n d B NS).2 (gaE n d B o t N).1 (gaE n d B o t N).2 B:Int):Rat)/(Q B:Rat)=z2 at *;generalize uG L ((n:Rat)/(d:Rat)) (B:Rat) M=z3 at *;generalize g M=z4 at *;generalize q2 B=z5 at *;clear dv low up k1 k2 k3 si e5 l1 l2 s3 e4;exact⟨by grind,by grind⟩
 have vO:=dv_rel (q:=Q B) (C:=9500*((B:Int)*(B:Int))) (D:=9900000*((B:Int)*(B:Int))) (show 0<Q B by omega) (show 0<=(jS n d B NS).1 by omega) (by omega) (by omega) (by omega) (by omega) (show 0<(gaE n d B o t N).1 by omega) e2 s3 s2 e4 l1 l2
 have gl:(gaG n d B o t N NS).1=zEZ (jS n d B NS).1 (jS n d B NS).2 (gaE n d B o t N).1 (gaE n d B o t N).2 B:=rfl;have gh:(gaG n d B o t N NS).2=zFL (jS n d B NS).1 (jS n d B NS).2 (gaE n d B o t N).1 (gaE n d B o t N).2 B+1:=rfl;rw[<- gl] at vO;have VR:zFL (jS n d B NS).1 (jS n d B NS).2 (gaE n d B o t N).1 (gaE n d B o t N).2 B=(gaG n d B o t N NS).2-1:=by rw[gh];omega
 rw[VR] at vO;have le:(gaG n d B o t N NS).1<=(gaG n d B o t N NS).2:=iv.le;have half:=gam_half hL a0 a1 hg
 have bQ:Q B<=2*(gaG n d B o t N NS).2:=by
  refine Int.not_lt.1 λ E4=>?_
  have hi:=zLL (B:=B+1) (a:=(Q B,Q B)) (x:=λ _=>1/2) (y:=g) (z:=2*(gaG n d B o t N NS).2) ?_ half ?_
  ·omega
  ·have e:Q (B+1)=2*Q B:=rfl
   refine Has.of_from 0 λ M _=>?_
   have:(Q B:Rat)/(Q (B+1):Rat)=1/2:=by
    rw[e,Ye];have c2:((2:Int):Rat)=2:=rfl;rw[c2];have p:(0:Rat)<2*(Q B:Rat):=by grind
    exact Rat.le_antisymm (zAJ p (by grind)) (jQ p (by grind))
   simp only[this];exact⟨Rat.le_refl,Rat.le_refl⟩
  ·intro e he
   obtain⟨N1,k1⟩:=iv e he;refine⟨N1,λ M hM=>?_⟩
   have:=(k1 M hM).2
   have e2:((2*(gaG n d B o t N NS).2:Int):Rat)/(Q (B+1):Rat)=((gaG n d B o t N NS).2:Rat)/(Q B:Rat):=by
    have e:Q (B+1)=2*Q B:=rfl;rw[e,Ye,Ye];have c2:((2:Int):Rat)=2:=rfl;rw[c2];have p:(0:Rat)<2*(Q B:Rat):=by grind
    have dq:=rdm (a:=((gaG n d B o t N NS).2:Rat)) qr;refine Rat.le_antisymm (zAJ p ?_) (jQ p ?_)
    ·have:((gaG n d B o t N NS).2:Rat)/(Q B:Rat)*(2*(Q B:Rat))=2*(((gaG n d B o t N NS).2:Rat)/(Q B:Rat)*(Q B:Rat)):=by grind
     rw[this,dq];exact Rat.le_refl
    ·have:((gaG n d B o t N NS).2:Rat)/(Q B:Rat)*(2*(Q B:Rat))=2*(((gaG n d B o t N NS).2:Rat)/(Q B:Rat)*(Q B:Rat)):=by grind
     rw[this,dq];exact Rat.le_refl
   simp only[];rw[e2];exact this
 have rel:((gaG n d B o t N NS).2-(gaG n d B o t N NS).1)*Q B<=10000000*((B:Int)*(B:Int))*(gaG n d B o t N NS).2:=by
  clear gl gh VR l1 l2 dv e3 e4 e1 e2 s1 s2 s3;generalize (gaG n d B o t N NS).2=H at *;generalize (gaG n d B o t N NS).1=L0 at *;generalize (B:Int)*(B:Int)=b2 at *;have r1:(H-1-L0)*Q B=(H-L0)*Q B-Q B:=by grind
  have r2:(9500*b2+9900000*b2)*(H-1)=9909500*b2*H-9909500*b2:=by grind
  rw[r1,r2] at vO;have m:=XK (show 6<=90500*b2 by omega) (show 0<=H by omega)
  have r3:10000000*b2*H=9909500*b2*H+90500*b2*H:=by grind
  rw[r3];omega
 have sm:16*((gaG n d B o t N NS).2-(gaG n d B o t N NS).1)<=(gaG n d B o t N NS).2:=by
  have m:=XK big (show 0<=(gaG n d B o t N NS).2 by omega)
  refine Int.le_of_mul_le_mul_right (a:=Q B) ?_ (by omega)
  have r:16*((gaG n d B o t N NS).2-(gaG n d B o t N NS).1)*Q B=16*(((gaG n d B o t N NS).2-(gaG n d B o t N NS).1)*Q B):=by grind
  have r2:16*(10000000*((B:Int)*(B:Int)))*(gaG n d B o t N NS).2=16*(10000000*((B:Int)*(B:Int))*(gaG n d B o t N NS).2):=by grind
  have r3:Q B*(gaG n d B o t N NS).2=(gaG n d B o t N NS).2*Q B:=Int.mul_comm _ _;omega
 have top:=gam_top hL a0 hg
 have lo42:(gaG n d B o t N NS).1<=Q (B+42):=by
  refine zLL iv top (LeN.of_le 0 λ M _=>?_)
  refine yF qr ?_;have e:Q (B+42)=Q B*Q 42:=jD B 42;have VS:Q 42=4398046511104:=rfl;rw[e,VS,Ye];have c42:((4398046511104:Int):Rat)=4398046511104:=rfl;rw[c42]
  have i:1/((n:Rat)/(d:Rat))<=2199023255552:=by
   refine zAJ a0 ?_;have dd:=zX h.dd;have cdd:((2199023255552:Int):Rat)=2199023255552:=rfl;rw[cdd] at dd;have n1:=zX (show 1<=n by omega)
   have c1:((1:Int):Rat)=1:=rfl;rw[c1] at n1;have r:2199023255552*((n:Rat)/(d:Rat))=2199023255552*(n:Rat)/(d:Rat):=by rw[Yg,Yg];grind
   rw[r];exact jQ dr (by grind)
  have m:=Yc (show 1/((n:Rat)/(d:Rat))+1<=4398046511104 by grind) (XV qr)
  grind
 refine⟨by omega,le,rel,?_,iv⟩
 have e:Q (B+43)=2*Q (B+42):=rfl;have:=zG (B+42);omega
open Ex
def stN (n d:Int):Nat:=((n-1)/d).toNat
def stP (n d:Int):Nat->Int
 | 0=>1
 | k+1=>stP n d k*(n-((k:Int)+1)*d)
def stQ (d:Int):Nat->Int
 | 0=>1
 | k+1=>stQ d k*d
structure StIn (n d:Int):Prop where
 n0:0<n
 d0:0<d
 dd:d<=2199023255552
 up:n<=201*d
theorem StIn.rest {n d:Int} (h:StIn n d):0<n-(stN n d:Int)*d/\n-(stN n d:Int)*d<=d/\stN n d<=200:=by
 have d0:=h.d0;have n0:=h.n0;have q0:0<=(n-1)/d:=Int.ediv_nonneg (by omega) (by omega)
 have e:((stN n d:Nat):Int)=(n-1)/d:=by unfold stN;omega
 have f1:=Int.ediv_mul_le (n-1) (show d≠0 by omega)
 have f2:=Int.lt_ediv_add_one_mul_self (n-1) d0;have r:((n-1)/d+1)*d=(n-1)/d*d+d:=by grind
 refine⟨by rw[e];omega,by rw[e];omega,?_⟩
 have:(n-1)/d<201:=Int.ediv_lt_of_lt_mul d0 (by have:=h.up;omega)
 omega
theorem StIn.in_ {n d:Int} (h:StIn n d) {B:Nat} (h0:40<=B) (h1:B<=1000):zGT (n-(stN n d:Int)*d) d B:=⟨h.rest.1,h.rest.2.1,h.dd,h0,h1⟩
theorem st_at {n d:Int} (h:StIn n d) {k:Nat} (hk:k<=stN n d):0<n-(k:Int)*d/\(k<stN n d->d<n-(k:Int)*d):=by
 obtain⟨r1,r2,r3⟩:=h.rest;have d0:=h.d0;have m:=XK (show (k:Int)<=(stN n d:Int) by omega) (show 0<=d by omega)
 refine⟨by omega,λ E4=>?_⟩
 have m2:=XK (show (k:Int)+1<=(stN n d:Int) by omega) (show 0<=d by omega)
 have r:((k:Int)+1)*d=(k:Int)*d+d:=by grind
 omega
theorem zJ8 {d:Int} (h:0<d) (k:Nat):0<stQ d k:=by
 induction k with
 | zero=>show (0:Int)<1;decide
 | succ k ih=>exact Int.mul_pos ih h
theorem zQE {n d:Int} (h:StIn n d) {k:Nat} (hk:k<=stN n d):0<stP n d k:=by
 induction k with
 | zero=>show (0:Int)<1;decide
 | succ k ih =>
  have:=(st_at h (k:=k+1) hk).1;have e:((k+1:Nat):Int)=(k:Int)+1:=by omega
  rw[e] at this;exact Int.mul_pos (ih (by omega)) this
theorem stP_next (n d:Int) (k:Nat):stP (n+d) d (k+1)=n*stP n d k:=by
 induction k with
 | zero =>
  show 1*(n+d-(((0:Nat):Int)+1)*d)=n*1
  have e:((0:Nat):Int)=0:=rfl;rw[e];omega
 | succ k ih =>
  show stP (n+d) d (k+1)*(n+d-(((k+1:Nat):Int)+1)*d)=n*(stP n d k*(n-((k:Int)+1)*d))
  have e:((k+1:Nat):Int)=(k:Int)+1:=by omega
  rw[ih,e];have r:n+d-((k:Int)+1+1)*d=n-((k:Int)+1)*d:=by grind
  rw[r];grind
theorem stN_next {n d:Int} (h:0<d) (h0:0<n):stN (n+d) d=stN n d+1:=by
 unfold stN;have q0:0<=(n-1)/d:=Int.ediv_nonneg (by omega) (by omega)
 have e:(n+d-1)/d=(n-1)/d+1:=by
  have r:n+d-1=(n-1)+1*d:=by omega
  rw[r,Int.add_mul_ediv_right _ _ (by omega)]
 rw[e];omega
def gmV (n d:Int) (g:Nat->Rat) (M:Nat):Rat:=(stP n d (stN n d):Rat)/(stQ d (stN n d):Rat)*g M
structure LsIn (a:Int × Int) (B:Nat) (o1 o2:Int × Int) (l1 l2:Nat->Rat):Prop where
 a0:0<a.1
 al:a.1<=a.2
 g1:IsLog l1 (λ _=>(a.1:Rat)/(Q B:Rat))
 g2:IsLog l2 (λ _=>(a.2:Rat)/(Q B:Rat))
 i1:Iv B o1 l1
 i2:Iv B o2 l2
theorem ls_has {a:Int × Int} {B:Nat} {o1 o2:Int × Int} {l1 l2 g lg:Nat->Rat} (h:LsIn a B o1 o2 l1 l2) (hg:Iv B a g) (hl:IsLog lg g):Iv B (o1.1,o2.2) lg:=by
 have low:LeN l1 lg:=λ e he=>by
  obtain⟨z,hz,kz⟩:=(show LeN (λ _=>(a.1:Rat)/(Q B:Rat)) g from λ e he=>by
   obtain⟨N,k⟩:=hg e he
   exact⟨N,λ M hM=>by have:=(k M hM).1;grind⟩).null
  exact h.g1.le hl hz 0 (λ M _=>kz M) e he
 have up:LeN lg l2:=λ e he=>by
  obtain⟨z,hz,kz⟩:=(show LeN g (λ _=>(a.2:Rat)/(Q B:Rat)) from λ e he=>by
   obtain⟨N,k⟩:=hg e he
   exact⟨N,λ M hM=>(k M hM).2⟩).null
  exact hl.le h.g2 hz 0 (λ M _=>kz M) e he
 intro e he
 obtain⟨N1,k1⟩:=low (e/2) (by grind)
 obtain⟨N2,k2⟩:=up (e/2) (by grind)
 obtain⟨N3,k3⟩:=h.i1 (e/2) (by grind)
 obtain⟨N4,k4⟩:=h.i2 (e/2) (by grind)
 refine⟨N1+N2+N3+N4,λ M hM=>?_⟩
 have x1:=k1 M (by omega)
 have x2:=k2 M (by omega)
 have x3:=(k3 M (by omega)).1
 have x4:=(k4 M (by omega)).2
 exact⟨by grind,by grind⟩
theorem zPU {a:Int × Int} {B:Nat} {o1 o2:Int × Int} {l1 l2:Nat->Rat} (h:LsIn a B o1 o2 l1 l2) {C:Int} (hr:(a.2-a.1)*Q B<=C*a.1):o2.1-o1.2<=C:=by
 have q:=zY B;have a0:(0:Rat)<(a.1:Rat):=by exact_mod_cast h.a0
 have a1q:(0:Rat)<(a.1:Rat)/(Q B:Rat):=zH a0 q;obtain⟨δ,hδ⟩:∃ δ:Rat,δ=((a.2-a.1:Int):Rat)/(a.1:Rat):=⟨_,rfl⟩;have dm:δ*(a.1:Rat)=((a.2-a.1:Int):Rat):=by rw[hδ];exact rdm a0
 have d0:0<=δ:=by rw[hδ];exact yF a0 (by have:=zX (show 0<=a.2-a.1 by have:=h.al;omega);have e:((0:Int):Rat)=0:=rfl;rw[e] at this;grind)
 have lg:IsLog (λ M=>l1 M+δ) (λ M=>(a.1:Rat)/(Q B:Rat)*ex δ M):=h.g1.add (zA8 δ)
 have le:LeN l2 (λ M=>l1 M+δ):=λ e he=>h.g2.le lg null_zero 2 (λ M hM=>by
  have k:1+δ<=ex δ M:=zL1 d0 hM;have m:=Ya k (XV a1q)
  have e1:(a.1:Rat)/(Q B:Rat)*(1+δ)=(a.2:Rat)/(Q B:Rat):=by
   have r:(a.1:Rat)/(Q B:Rat)*(1+δ)=((a.1:Rat)+δ*(a.1:Rat))/(Q B:Rat):=by rw[Yg,Yg];grind
   rw[r,dm,Rat.intCast_sub]
   congr 1;grind
  grind) e he
 have dC:δ<=(C:Rat)/(Q B:Rat):=by
  refine yF q ?_;rw[hδ];have c:=zX hr;rw[Ye,Ye] at c;have r:((a.2-a.1:Int):Rat)/(a.1:Rat)*(Q B:Rat)=((a.2-a.1:Int):Rat)*(Q B:Rat)/(a.1:Rat):=by rw[Yg,Yg];grind
  rw[r];exact jZ a0 c
 have k:=zLL (B:=B) (a:=o2) (x:=l2) (y:=λ M=>l1 M+δ) (z:=o1.2+C) h.i2 le (λ e he=>by
  obtain⟨N,kk⟩:=h.i1 e he;refine⟨N,λ M hM=>?_⟩
  have:=(kk M hM).2;rw[Rat.intCast_add,yO]
  grind)
 omega
end Go.Proofs.YtgmnknmjainababGreat
