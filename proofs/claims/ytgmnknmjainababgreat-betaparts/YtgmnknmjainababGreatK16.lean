/-
  Its own texts.
-/
import Derived.Test.YtgmnknmjainababGreatK15
set_option maxRecDepth 100000
set_option maxHeartbeats 40000000
set_option linter.unnecessarySimpa false
set_option linter.unusedSimpArgs false
set_option linter.unusedVariables false
namespace Go.Proofs.YtgmnknmjainababGreat
open Go.RowKit
attribute [local go_sem ↓] Go.wp_at_zero Go.wp_at_succ
theorem zIK (neg b6:Bool) (a c:Option Addr) (n m cap j6 k k2 b:Nat) (x y:Int) (w:World) (h1:IntAt w neg a n cap k x) (h2:IntAt w b6 c m j6 k2 y) (hk:k<=600000000) (ba:k2<=100000000) (hb:b<=900000) (hy:0<y)
  (gO:∀ j8 a' n' m7 w',IntAt w' j8 a' n' m7 (k+b/16+5) (x*Q b)->IntAt w' b6 c m j6 k2 y->Calls Tryz.prog 119 #[.agg #[.bool j8,.slice a' n' m7],.agg #[.bool b6,.slice c m j6]] w' (zAN w' (k+b/16+5) (x*Q b/y))) :
  Calls Tryz.prog 54 #[.agg #[.bool neg,.slice a n cap],.agg #[.bool b6,.slice c m j6],.int .i64 b] w (zJ w b (k+b/16+14) (x*Q b/y) (-(-(x*Q b)/y))):=by
 have HF:=zC gO;clear gO;obtain⟨W,hW⟩:∃ W,W=((w.alloc (.cells #[.bool neg,.slice a n cap] 26)).alloc (.cells #[.bool b6,.slice c m j6] 26)).alloc (.cells zCq 36):=⟨_,rfl⟩;have b8:Below w.heap.size w W:=by rw[hW];exact bl3 _ _ _ _
 have A:NmC W w.heap.size ⟨neg,a,n,cap⟩:=by rw[hW];constructor<;>simp[go_sem]
 have G:NmC W (w.heap.size+1) ⟨b6,c,m,j6⟩:=by rw[hW];constructor<;>simp[go_sem]
 have R:NoC W (w.heap.size+1+1):=by rw[hW];constructor<;>simp[go_sem]
 have HX:=zC (h1.bw b8);have HY:=zC (h2.bw b8);have HK:=zC (show ∀ w',Below W.heap.size W w'->(w'.cell? ⟨w.heap.size,0,none⟩=some (.bool neg)/\w'.cell? ⟨w.heap.size,1,none⟩=some (.slice a n cap)) from λ w' hB=>⟨(A.bw hB).c0,(A.bw hB).c1⟩)
 go_enter Tryz.func54,Tryz.ntmps54
 go_wp2;rw[<- hW];clear hW;obtain⟨i0,i1⟩:=A;have lW:=G.lt;have lR:=R.lt
 go_cut [7] (λ p wx=>VarAt wx p W.heap.size (k+b/16+5) (x*Q b)/\Below W.heap.size W wx)
 case first =>
  go_region_held3 (λ w'=>w'.cell? ⟨w.heap.size,0,none⟩=some (.bool neg)/\w'.cell? ⟨w.heap.size,1,none⟩=some (.slice a n cap)) (exact zA HK _ (by repeat' (first|with_reducible exact T8|with_reducible exact J0|with_reducible exact Below.refl _ _|with_reducible refine Below.drew ?_|with_reducible refine zL ?_ _|with_reducible refine Below.setCell ?_ (by first|exact XW _|exact ai|exact aj) _)))
   (first
    | (go_at_call 66;have hq:=J0;refine (zW _ _ _ _ _ _ _ _ k (b/16+5) x (Q b) _ ((zA HX).bw (by with_reducible first|exact J0|exact zL J0 _)) (T9.bw (by with_reducible first|exact Below.refl _ _|exact bl1 _ _)) (by omega) (by omega)).mono ?_;rintro r qN ⟨lF,Ll,Lm,Ln,rfl,lI,ak⟩;have ao:Below gQ.heap.size gQ qN:=(by with_reducible first|exact ak|exact zB (bl1 _ _) ak);have T8:=zB J0 ao;(try with_reducible have oC:=(jO gQ 26).bw ak);replace T9:=T9.bw ao;(try replace ez:=ez.bw ao);have aj:=T8.size;(try have qO:=ez.lt);(try have Tk:=Yj qO);(try have CW:=Yi qO);(try obtain⟨CZ,Db,Dc⟩:=ez);(try have qP:=oC.lt);(try have Tl:=Yj qP);(try have Dd:=Yi qP);(try obtain⟨De,Df,Dg⟩:=oC))
    | (go_at_call 104;refine (kT b _ (by omega)).mono ?_;rintro r gQ ⟨qQ,Tm,Tn,To,rfl,T9,aq⟩;have J0:Below W.heap.size W gQ:=(by with_reducible first|exact zB (Below.refl _ _).drew aq|exact zB (bl1 _ _).drew aq);(try with_reducible have ez:=((jO W 26).bw (Below.refl _ _).drew).bw aq);have ai:=J0.size))
  all_goals
   go_wp2_with fail;go_meet;refine⟨⟨_,⟨lF,Ll,Lm,Ln⟩,rfl,?_,?_,?_,?_,?_⟩,?_⟩
   ·simp[go_sem, *]
   ·simp[go_sem, *]
   ·first|with_reducible exact IntAt.mono (lI.bw (bl1 _ _)) (by omega)|with_reducible exact IntAt.mono (lI.put2 (by assumption) (by assumption) _ _) (by omega)
   ·first|exact XW _|exact ai|exact aj
   ·simp[World.setCell];try omega
   ·repeat' (first|with_reducible exact T8|with_reducible exact J0|with_reducible exact Below.refl _ _|with_reducible refine Below.drew ?_|with_reducible refine zL ?_ _|with_reducible refine Below.setCell ?_ (by first|exact XW _|exact ai|exact aj) _)
 case rest =>
 obtain⟨⟨BX,xX,rfl,Bf,Bg,iJ,Bh,hltX⟩,hblX⟩:=hcut;have XX:NmC wc BX xX:=⟨Bf,Bg⟩;clear i0 i1 HK;replace G:=G.bw hblX;replace R:=R.bw hblX;replace HY:=zC ((zA HY).bw hblX);replace iJ:=zC iJ;have Y1:=R.lt;have Dh:=XX.lt;have nR:BX≠w.heap.size+1+1:=Yi (Yd lR Bh);have CV:w.heap.size+1+1≠BX:=λ e=>nR e.symm
 have iL:=zB b8 hblX;have m8:Below wc.heap.size wc wc.drew:=(Below.refl _ _).drew;have HK:=zC (show ∀ w',Below wc.heap.size wc w'->(nK w' BX xX (w'.cell? ⟨w.heap.size+1,0,none⟩=some (.bool b6)/\w'.cell? ⟨w.heap.size+1,1,none⟩=some (.slice c m j6))) from λ w' hB=>⟨(XX.bw hB).c0,(XX.bw hB).c1,(G.bw hB).c0,(G.bw hB).c1⟩)
 obtain⟨i2,i3⟩:=G;go_wp2
 go_region_held3 (λ w'=>nK w' BX xX (w'.cell? ⟨w.heap.size+1,0,none⟩=some (.bool b6)/\w'.cell? ⟨w.heap.size+1,1,none⟩=some (.slice c m j6))) (first|exact zA HK _ (by with_reducible first|exact m8|exact j9|exact j7)|(dsimp only[cK,cK0,nK,nK0,rK,rK0];go_keep)|go_keep)
  (first
   | (go_at_call 108;refine (zCS _ _ _ _ _ _ _ _ (k+b/16+5) k2 (x*Q b) y _ ((zA iJ).bw m8) ((zA HY).bw m8) (by omega) (by omega) (λ w' p q=>zA HF _ _ _ _ w' p q)).mono ?_;rintro r w1 ⟨g9,a1,n1,c1,rfl,k9,b7⟩;have j7:=zB m8 b7)
   | (go_at_call 109;refine (zD9 _ _ _ _ _ _ _ _ (k+b/16+5) k2 (x*Q b) y _ ((zA iJ).bw j7) ((zA HY).bw j7) (by omega) (by omega) hy (λ w' p q=>zA HF _ _ _ _ w' p q)).mono ?_;rintro r w2 ⟨p9,a3,n3,c3,rfl,A8,b9⟩;replace k9:=k9.bw b9;have j9:=zB j7 b9;obtain⟨q0,q1,q2,q3,q4,q5⟩:=R.bw j9;obtain⟨d0,d1,d2,d3⟩:=zA HK _ j9))
 go_wp2;refine bodyPost_ret (v:=.agg #[.bool g9,.slice a1 n1 c1,.bool p9,.slice a3 n3 c3,.int .i64 b]) (by simp[results,Tryz.results54,go_sem,q0,q1,q2,q3,q4]) rfl ⟨⟨g9,a1,n1,c1,p9,a3,n3,c3,b⟩,rfl,rfl,?_,?_⟩
 ·exact SpAt.put5 ⟨k9.mono (by omega),A8.mono (by omega)⟩ q0 q1 q2 q3 q4 _ _ _ _ _
 ·exact kB (zB iL j9) (by omega) _ _ _ _ _
theorem zCX (w:World) (n:Int) (b:Nat) (hb:b<=900000) (h0 : -9223372036854775808<=n) (h1:n<=9223372036854775807) :
  Calls Tryz.prog 27 #[.int .i64 n,.int .i64 b] w (zJ w b (b/16+18) (n*Q b) (n*Q b)):=by
 have R:=zM w 36
 go_enter Tryz.func27,Tryz.ntmps27
 go_wp2_with fail;refine (zD n _ h0 h1).mono ?_;rintro r' w1 ⟨g9,a1,n1,c1,rfl,k9,b7⟩;replace R:=R.bw b7;have hB:Below w.heap.size w w1:=zB (bl1 _ _) b7;clear b7;go_wp2_with fail;refine (zD 1 _ (by decide) (by decide)).mono ?_
 rintro r' w2 ⟨b6,a2,n2,c2,rfl,o0,b9⟩;replace R:=R.bw b9;replace hB:=zB hB b9;replace k9:=k9.bw b9;clear b9;go_wp2_with fail;refine (zIK _ _ _ _ _ _ _ _ 4 4 b n 1 _ k9 o0 (by omega) (by omega) hb (by decide) (λ j8 a' n' m7 w' p1 p2=>yH _ _ _ _ _ _ _ _ _ 4 _ _ w' p1 p2 (by omega) (by decide))).mono ?_
 rintro r' w3 ⟨u,rfl,I0,E9,k8⟩;have e1:n*Q b/1=n*Q b:=Int.ediv_one _;have e2 : -(-(n*Q b)/1)=n*Q b:=by rw[Int.ediv_one];omega
 rw[e1,e2] at E9;obtain⟨q0,q1,q2,q3,q4,q5⟩:=R.bw k8;replace hB:=zB hB k8;have HU:=zC I0;clear I0 e1 e2;go_wp2_with fail;refine bodyPost_ret (v:=.agg u.q) (by simp[results,Tryz.results27,go_sem,q0,q1,q2,q3,q4]) rfl ⟨u,rfl,zA HU,?_,?_⟩
 ·exact SpAt.put5 (E9.mono (by omega)) q0 q1 q2 q3 q4 _ _ _ _ _
 ·exact kB hB (XW _) _ _ _ _ _
theorem NoC.vr {w:World} {B:Nat} (h:NoC w B) (u:Sp):VrC (zQ w B u) B u:=by
 refine⟨?_,zD8 h.fz u⟩;obtain⟨q0,q1,q2,q3,q4,q5⟩:=h;constructor<;>simp[go_sem,q0,q1,q2,q3,q4]
theorem NoC.spat {w:World} {B:Nat} (h:NoC w B) {s:Sp} {k:Nat} {lo hi:Int} (hs:SpAt w s k lo hi) (u:Sp):SpAt (zQ w B u) s k lo hi:=SpAt.put5 hs h.c0 h.c1 h.c2 h.c3 h.c4 _ _ _ _ _
def TwoP (W wx:World) (b k1 k2:Nat) (a c:Int × Int) (p q:Value):Prop :=
 ∃ (B B':Nat) (x y:Sp),p=.pointer (some ⟨B,0,none⟩)/\q=.pointer (some ⟨B',0,none⟩)/\W.heap.size<=B/\W.heap.size<=B'/\B≠B'/\VrC wx B x/\VrC wx B' y/\SpAt wx x k1 a.1 a.2/\SpAt wx y k2 c.1 c.2/\x.bits=(b:Int)/\y.bits=(b:Int)/\Below W.heap.size W wx
theorem zIM (w:World) (x:Sp) (T:TypeId):VrC (w.alloc (.cells x.q T)) w.heap.size x:=⟨zA0 w x T,λ o=>by simp[go_sem]⟩
theorem vr_new' (w:World) (B:Nat) (hB:w.heap.size=B) (x:Sp) (T:TypeId):VrC (w.alloc (.cells x.q T)) B x:=by subst hB;exact zIM w x T
variable {W w2 : World} {b k1 k2 : Nat} {a c : Int × Int} {x y : Sp} {T : TypeId}
theorem zFE (hb:Below W.heap.size W w2) (ix:SpAt w2 x k1 a.1 a.2) (iy:SpAt w2 y k2 c.1 c.2) (bx:x.bits=(b:Int)) (by_:y.bits=(b:Int)) :
  TwoP W ((w2.alloc (.cells x.q T)).alloc (.cells y.q T)) b k1 k2 a c (.pointer (some ⟨w2.heap.size,0,none⟩)) (.pointer (some ⟨w2.heap.size+1,0,none⟩)) :=
 ⟨_,_,x,y,rfl,rfl,hb.size,Yf hb.size,Yj (Nat.lt_succ_self _),(zIM w2 x T).bw (bl1 _ _),vr_new' _ _ (by simp) y T,ix.bw (bl2 _ _ _),iy.bw (bl2 _ _ _),bx,by_,zB hb (bl2 _ _ _)⟩
theorem TwoP.swap {wx:World} {p q:Value} (h:TwoP W wx b k1 k2 a c p q):TwoP W wx b k2 k1 c a q p:=by
 obtain⟨B,B',x,y,h1,h2,h3,h4,h5,h6,h7,h8,h9,qY,qZ,IZ⟩:=h;exact⟨B',B,y,x,h2,h1,h4,h3,λ e=>h5 e.symm,h7,h6,h9,h8,qZ,qY,IZ⟩
theorem zE0 (hb:Below W.heap.size W w2) (ix:SpAt w2 x k1 a.1 a.2) (iy:SpAt w2 y k2 c.1 c.2) (bx:x.bits=(b:Int)) (by_:y.bits=(b:Int)) :
  TwoP W ((w2.alloc (.cells y.q T)).alloc (.cells x.q T)) b k1 k2 a c (.pointer (some ⟨w2.heap.size+1,0,none⟩)) (.pointer (some ⟨w2.heap.size,0,none⟩)):=(zFE hb iy ix by_ bx).swap
theorem zHQ {B:Nat} (hb:Below W.heap.size W w2) (ix:SpAt w2 x k1 a.1 a.2) (iy:SpAt w2 y k2 c.1 c.2) (bx:x.bits=(b:Int)) (by_:y.bits=(b:Int)) (g:NoC w2 B) (h1:W.heap.size<=B) :
  TwoP W ((zQ w2 B x).alloc (.cells y.q T)) b k1 k2 a c (.pointer (some ⟨B,0,none⟩)) (.pointer (some ⟨w2.heap.size,0,none⟩)):=by
 have hx:=g.vr x;have vD:=g.spat ix x;have vE:=g.spat iy x;have hl:=g.lt;have hs:=size_put w2 B x;have Q6:=jC hb h1 x;generalize zQ w2 B x=V at *;rw[<- hs];exact⟨_,_,x,y,rfl,rfl,h1,Q6.size,by omega,hx.bw (bl1 _ _),zIM V y T,vD.bw (bl1 _ _),vE.bw (bl1 _ _),bx,by_,zB Q6 (bl1 _ _)⟩
theorem zK2 {B:Nat} (hb:Below W.heap.size W w2) (ix:SpAt w2 x k1 a.1 a.2) (iy:SpAt w2 y k2 c.1 c.2) (bx:x.bits=(b:Int)) (by_:y.bits=(b:Int)) (g:NoC w2 B) (h1:W.heap.size<=B) :
  TwoP W ((zQ w2 B y).alloc (.cells x.q T)) b k1 k2 a c (.pointer (some ⟨w2.heap.size,0,none⟩)) (.pointer (some ⟨B,0,none⟩)):=(zHQ hb iy ix by_ bx g h1).swap
theorem zKJ {B B':Nat} (hb:Below W.heap.size W w2) (ix:SpAt w2 x k1 a.1 a.2) (iy:SpAt w2 y k2 c.1 c.2) (bx:x.bits=(b:Int)) (by_:y.bits=(b:Int)) (g:NoC w2 B) (g':NoC w2 B') (h1:W.heap.size<=B) (h2:W.heap.size<=B') (hne:B≠B') :
  TwoP W (zQ (zQ w2 B x) B' y) b k1 k2 a c (.pointer (some ⟨B,0,none⟩)) (.pointer (some ⟨B',0,none⟩)):=by
 have hx:=g.vr x;have vD:=g.spat ix x;have vE:=g.spat iy x;have g2:=g'.off (Ne.symm hne) x;have Q6:=jC hb h1 x;generalize zQ w2 B x=V at *;exact⟨_,_,x,y,rfl,rfl,h1,h2,hne,hx.off hne y,g2.vr y,g2.spat vD y,g2.spat vE y,bx,by_,jC Q6 h2 y⟩
theorem yV (w:World) (s t:Sp) (k b:Nat) (a c:Int × Int) (hs:SpAt w s k a.1 a.2) (ht:SpAt w t k c.1 c.2) (hk:k<=300000000) (hb:s.bits=(b:Int)) (gP:b<=1000000) :
  Calls Tryz.prog 52 #[.agg s.q,.agg t.q] w (zJ w b (k+k+8) (kJ b a c).1 (kJ b a c).2) :=
 (zIP w s t k a.1 a.2 c.1 c.2 hs ht hk (by omega) (by omega)).mono λ r w' h=>by
  rw[hb,kK,kK] at h;exact h
theorem yY (w:World) (s t:Sp) (k b:Nat) (a c:Int × Int) (hs:SpAt w s k a.1 a.2) (ht:SpAt w t k c.1 c.2) (hk:k<=700000000) (hb:s.bits=(b:Int)) :
  Calls Tryz.prog 57 #[.agg s.q,.agg t.q] w (zJ w b (k+1) (jJ a c).1 (jJ a c).2) :=
 (zKI w s t k a.1 a.2 c.1 c.2 hs ht hk).mono λ r w' h=>by rw[hb] at h;exact h
theorem zDI {lo hi:Int}:zA6 lo hi 1=decide (zP (lo,hi)<=1):=by
 unfold zA6 zP zF7;rw[Bool.eq_iff_iff,Bool.and_eq_true,decide_eq_true_iff,decide_eq_true_iff,decide_eq_true_iff];simp only[];split<;>omega
structure LowSt (w wr:World) (B5 B6 B7 b K:Nat) (U Pp Sm:Sp) (f:Nat->Int × Int) (X:Int) (i:Nat):Prop where
 u:VrC wr B5 U
 p:VrC wr B6 Pp
 s:VrC wr B7 Sm
 up:SpAt wr U K (f i).1 (f i).2
 pp:SpAt wr Pp K X X
 sp:SpAt wr Sm K (jE f i).1 (jE f i).2
 ub:U.bits=(b:Int)
 pb:Pp.bits=(b:Int)
 sb:Sm.bits=(b:Int)
 no:NoC wr (w.heap.size+1)
 be:Below w.heap.size w wr
 l5:w.heap.size+1<B5
 l6:w.heap.size+1<B6
 l7:w.heap.size+1<B7
 n56:B5≠B6
 n57:B5≠B7
 n67:B6≠B7
theorem LowSt.bw {w wr wr':World} {B5 B6 B7 b K:Nat} {U Pp Sm:Sp} {f:Nat->Int × Int} {X:Int} {i:Nat} (h:LowSt w wr B5 B6 B7 b K U Pp Sm f X i) (hb:Below wr.heap.size wr wr'):LowSt w wr' B5 B6 B7 b K U Pp Sm f X i :=
 ⟨h.u.bw hb,h.p.bw hb,h.s.bw hb,h.up.bw hb,h.pp.bw hb,h.sp.bw hb,h.ub,h.pb,h.sb,h.no.bw hb,zB h.be hb,h.l5,h.l6,h.l7,h.n56,h.n57,h.n67⟩
theorem zIZ (w:World) (x:Nm) (k b N K:Nat) (X:Int) (hx:IntAt w x.neg x.a x.n x.cap k X) (hkK:k<=K) (h0:0<=X) (h1:X<=Q b) (hb:b<=900000) (hN:zDC (zV b (X,X)) N) (rf:N<=b+4) (hK:Q (b+20)<P K) (Z4:K<=10000000) (fC:b/16+18<=K) :
  Calls Tryz.prog 188 #[.agg x.q,.int .i64 b] w (zJ w b (K+1) (zBZ (zV b (X,X)) N).1 (zBZ (zV b (X,X)) N).2):=by
 obtain⟨W,hW⟩:∃ W,W=(w.alloc (.cells x.q 26)).alloc (.cells zCq 36):=⟨_,rfl⟩;have b8:Below w.heap.size w W:=by rw[hW];exact bl2 _ _ _
 have A:NmC W w.heap.size x:=by rw[hW];constructor<;>simp[go_sem]
 have R:NoC W (w.heap.size+1):=by rw[hW];constructor<;>simp[go_sem]
 have HX:=zC ((hx.bw b8).mono hkK);have lR:=R.lt;have Mh:=zG b
 have mg:Q b*1048576<P K:=by
  have e:Q (b+20)=Q b*Q 20:=jD b 20;have e2:Q 20=1048576:=rfl;rw[e,e2] at hK;exact hK
 have P7:Hid (∀ j,j<=N -> -P K<(zV b (X,X) j).1/\(zV b (X,X) j).2<P K):=zC (λ j _=>by
  obtain⟨g1,g2,g3,g4⟩:=zET h0 h1 j
  omega)
 have K3:Hid (∀ j,j<=N -> -P K<(jE (zV b (X,X)) j).1/\(jE (zV b (X,X)) j).2<P K):=zC (λ j hj=>by
  obtain⟨g1,g2,g3,g4⟩:=zNK h0 h1 j;have:=XK (show (j:Int)+1<=1048575 by omega) (show 0<=Q b by omega)
  omega)
 have HN:=zC hN;have HK:=zC (show ∀ w',Below W.heap.size W w'->(nK0 w' w.heap.size x) from λ w' hB=>⟨(A.bw hB).c0,(A.bw hB).c1⟩)
 clear hx hN mg
 go_enter Tryz.func188,Tryz.ntmps188
 go_wp2;rw[<- hW];clear hW;obtain⟨x0,x1⟩:=zA HK _ (Below.refl _ _)
 go_cut [5,6] (λ p q wx=>TwoP W wx b K K (zV b (X,X) 0) (X,X) p q)
 case first =>
  go_region_held3 (λ w'=>nK0 w' w.heap.size x) (exact zA HK _ (by repeat' (first|with_reducible exact F9|with_reducible exact Below.refl _ _|with_reducible refine Below.drew ?_|with_reducible refine zL ?_ _|with_reducible refine Below.setCell ?_ (by with_reducible first|exact XW _|exact Yh _|exact F6|exact Yf F6) _)))
   (first
    | (go_at_call 27;refine (zCX _ 1 b hb (by decide) (by decide)).mono ?_;rintro r R7 ⟨bX,rfl,Y2,I9,H8⟩;have I3:=zC Y2;clear Y2;have F9:Below W.heap.size W R7:=(by with_reducible first|exact zB (Below.refl _ _).drew H8|exact zB (bl1 _ _).drew H8|exact zB (bl2 _ _ _).drew H8);(first|with_reducible have J4:=((zM W 36).bw (Below.refl _ _).drew).bw H8|with_reducible have J4:=((zM W 36).bw (bl1 _ _).drew).bw H8|skip);(try with_reducible have K8:=((zB4 (W.alloc _) (W.heap.size+1) (hs1 _ _) 36).bw (Below.refl _ _).drew).bw H8);have F6:=F9.size;(try have mF:=J4);(try obtain⟨rv,ry,rz,rA,rB,rC⟩:=mF);(try have Ew:=J4.lt);(try have mG:=K8);(try obtain⟨rD,rE,rF,rG,rH,rJ⟩:=mG);(try have Ey:=K8.lt)))
  all_goals
   have hiXU:=(show SpAt R7 bX K (zV b (X,X) 0).1 (zV b (X,X) 0).2 by rw[show (zV b (X,X) 0).1=1*Q b from (Int.one_mul _).symm,show (zV b (X,X) 0).2=1*Q b from (Int.one_mul _).symm];exact I9.mono fC)
   have hiYU:=(show SpAt R7 ⟨x.neg,x.a,x.n,x.cap,x.neg,x.a,x.n,x.cap,(b:Int)⟩ K X X from⟨(zA HX).bw F9,(zA HX).bw F9⟩)
   go_wp2_with fail;go_meet
   first
    | with_reducible exact zFE (x:=bX) (y:=⟨x.neg,x.a,x.n,x.cap,x.neg,x.a,x.n,x.cap,(b:Int)⟩) F9 hiXU hiYU (zA I3) rfl
    | with_reducible exact zE0 (x:=bX) (y:=⟨x.neg,x.a,x.n,x.cap,x.neg,x.a,x.n,x.cap,(b:Int)⟩) F9 hiXU hiYU (zA I3) rfl
    | with_reducible exact zHQ (x:=bX) (y:=⟨x.neg,x.a,x.n,x.cap,x.neg,x.a,x.n,x.cap,(b:Int)⟩) F9 hiXU hiYU (zA I3) rfl (by assumption) (by with_reducible first|exact XW _|exact Yh _|exact F6|exact Yf F6)
    | with_reducible exact zK2 (x:=bX) (y:=⟨x.neg,x.a,x.n,x.cap,x.neg,x.a,x.n,x.cap,(b:Int)⟩) F9 hiXU hiYU (zA I3) rfl (by assumption) (by with_reducible first|exact XW _|exact Yh _|exact F6|exact Yf F6)
    | with_reducible exact zKJ (x:=bX) (y:=⟨x.neg,x.a,x.n,x.cap,x.neg,x.a,x.n,x.cap,(b:Int)⟩) F9 hiXU hiYU (zA I3) rfl (by assumption) (by assumption) (by with_reducible first|exact XW _|exact Yh _|exact F6|exact Yf F6) (by with_reducible first|exact XW _|exact Yh _|exact F6|exact Yf F6) (by omega)
 case rest =>
 obtain⟨BU,CU,xU,yU,rfl,rfl,vB,Jb,hneU,XU,YU,hxU,hyU,bxU,byU,hblU⟩:=hcut;replace R:=R.bw hblU;replace b8:=zB b8 hblU;have lx:=XU.lt;have ly:=YU.lt;have Y1:=R.lt;obtain⟨⟨y0,y1,y2,y3,y4⟩,y5⟩:=XU;have XU:VrC wc BU xU:=⟨⟨y0,y1,y2,y3,y4⟩,y5⟩;have N9:LowSt w (wc.alloc (.cells xU.q 36)) BU CU wc.heap.size b K xU yU xU (zV b (X,X)) X 0:=⟨XU.bw (bl1 _ _),YU.bw (bl1 _ _),zIM wc xU _,hxU.bw (bl1 _ _),hyU.bw (bl1 _ _),hxU.bw (bl1 _ _),bxU,byU,bxU,R.bw (bl1 _ _),zL b8 _,by omega,by omega,by omega,hneU,by omega,by omega⟩
 have HBX:=zC bxU;clear bxU byU hxU hyU HX HK A x0 x1;go_wp2_with fail
 go_loopw [8] (λ nn wr=>∃ (i:Nat) (U Pp Sm:Sp),nn=.int .i64 ((i:Int)+1)/\i<N/\LowSt w wr BU CU wc.heap.size b K U Pp Sm (zV b (X,X)) X i) (λ nn _=>N+1-(intOf nn).toNat)
 case atStart=>exact⟨0,xU,yU,xU,rfl,by have:=(zA HN).1;omega,N9⟩
 case round =>
  obtain⟨i,U,Pp,Sm,rfl,hi,st⟩:=hrel;have vS:(i:Int)+1<3*(b:Int)+20:=by omega
  clear y0 y1 y2 y3 y4 y5 XU;obtain⟨⟨y0,y1,y2,y3,y4⟩,y5⟩:=st.u;obtain⟨⟨z0,z1,z2,z3,z4⟩,z5⟩:=st.p;go_wp2_with fail;refine (yV _ U Pp K b (zV b (X,X) i) (X,X) st.up st.pp (by omega) st.ub (by omega)).mono ?_
  rintro r w1 ⟨v1,rfl,D6,F7,b7⟩;replace st:=st.bw b7;have pR:=zC D6;clear b7 D6 y0 y1 y2 y3 y4 y5 z0 z1 z2 z3 z4 z5;go_wp2_with fail;refine (zD 1 _ (by decide) (by decide)).mono ?_
  rintro r w2 ⟨b6,a2,n2,c2,rfl,o0,b9⟩;replace st:=st.bw b9;replace F7:=F7.bw b9;clear b9;go_wp2_with fail;refine (zD ((i:Int)+1) _ (by omega) (by omega)).mono ?_
  rintro r w3 ⟨p9,a3,n3,c3,rfl,A8,k8⟩;replace st:=st.bw k8;replace F7:=F7.bw k8;replace o0:=o0.bw k8;clear k8;go_wp2_with fail;refine (zGG _ v1 ⟨b6,a2,n2,c2⟩ ⟨p9,a3,n3,c3⟩ _ _ _ b _ 1 ((i:Int)+1) F7 o0 A8 (by omega) (by omega) (by omega) (by omega) (zA pR)).mono ?_
  rintro r w4 ⟨v4,rfl,S6,ay,m9⟩;rw[zA7 (yK b) (by omega)] at ay
  have e4:zE (kJ b (zV b (X,X) i) (X,X)) 1 ((i:Int)+1)=zV b (X,X) (i+1):=rfl;rw[e4] at ay;replace ay:=ay.fits (K:=K) (kY b (X,X) _) (zA P7 _ (by omega)).1 (zA P7 _ (by omega)).2
  replace st:=st.bw m9;have MS:=zC S6;clear m9 S6 F7 o0 A8 e4;obtain⟨V4,gW⟩:∃ V4,V4=zQ w4 BU v4:=⟨_,rfl⟩;have U4:VrC V4 BU v4:=by rw[gW];exact st.u.put v4
  have P4:VrC V4 CU Pp:=by rw[gW];exact st.p.off (Ne.symm st.n56) v4
  have S4:VrC V4 wc.heap.size Sm:=by rw[gW];exact st.s.off (Ne.symm st.n57) v4
  have MT:SpAt V4 v4 K (zV b (X,X) (i+1)).1 (zV b (X,X) (i+1)).2:=by rw[gW];exact ay.put st.u.c v4
  have Wp:SpAt V4 Pp K X X:=by rw[gW];exact st.pp.put st.u.c v4
  have Wq:SpAt V4 Sm K (jE (zV b (X,X)) i).1 (jE (zV b (X,X)) i).2:=by rw[gW];exact st.sp.put st.u.c v4
  have R4:NoC V4 (w.heap.size+1):=by rw[gW];exact st.no.off (by have:=st.l5;omega) v4
  have B4:Below w.heap.size w V4:=by rw[gW];exact jC st.be (by have:=st.l5;omega) v4
  have hpb:=zC st.pb;have dA:=zC st.sb;have l5:=st.l5;have l6:=st.l6;have l7:=st.l7;have n56:=st.n56;have n57:=st.n57;have n67:=st.n67;have lu:=st.u.lt;have ls:=st.s.lt;obtain⟨⟨y0,y1,y2,y3,y4⟩,y5⟩:=st.u;obtain⟨⟨z0,z1,z2,z3,z4⟩,z5⟩:=st.s;clear st ay;go_wp2_with fail;have vV:V4=zQ w4 BU v4:=gW;unfold zQ at vV;rw[<- vV];clear vV gW y0 y1 y2 y3 y4 y5 z0 z1 z2 z3 z4 z5;refine (yY _ Sm v4 K b (jE (zV b (X,X)) i) (zV b (X,X) (i+1)) Wq MT (by omega) (zA dA)).mono ?_
  rintro r w5 ⟨v5,rfl,J5,G5,A7⟩;have e5:jJ (jE (zV b (X,X)) i) (zV b (X,X) (i+1))=jE (zV b (X,X)) (i+1):=rfl;rw[e5] at G5;replace G5:=G5.fits (K:=K) (zCW (kY b (X,X)) _) (zA K3 _ (by omega)).1 (zA K3 _ (by omega)).2
  have U5:=U4.bw A7;have P5:=P4.bw A7;have S5:=S4.bw A7;have Wr:=MT.bw A7;have Ws:=Wp.bw A7;have R5:=R4.bw A7;have B5:=zB B4 A7;have ka:=zC J5;clear A7 J5 U4 P4 S4 MT Wp Wq R4 B4 e5;have stn:LowSt w (zQ w5 wc.heap.size v5) BU CU wc.heap.size b K v4 Pp v5 (zV b (X,X)) X (i+1):=⟨U5.off n57 v5,P5.off n67 v5,S5.put v5,Wr.put S5.c v5,Ws.put S5.c v5,G5.put S5.c v5,zA MS,zA hpb,zA ka,R5.off (by omega) v5,jC B5 (by omega) v5,l5,l6,l7,n56,n57,n67⟩
  have lu5:=U5.lt;have Wt:=S5.lt;obtain⟨⟨y0,y1,y2,y3,y4⟩,y5⟩:=U5;obtain⟨⟨z0,z1,z2,z3,z4⟩,z5⟩:=S5;clear P5 Wr Ws R5 B5 G5;obtain⟨V5,eC⟩:∃ V5,V5=zQ w5 wc.heap.size v5:=⟨_,rfl⟩;rw[<- eC] at stn;unfold zQ at eC;go_wp2_with fail;rw[<- eC];clear eC y0 y1 y2 y3 y4 y5 z0 z1 z2 z3 z4 z5;refine (zDR _ v4 K 1 _ _ stn.up (by omega) (by omega)).mono ?_
  rintro r w6 ⟨rfl,G3⟩;rw[zDI];replace stn:=stn.bw G3;clear G3;have er:zP ((zV b (X,X) (i+1)).1,(zV b (X,X) (i+1)).2)=zP (zV b (X,X) (i+1)):=rfl;rw[er];clear er
  by_cases G4:i+1<N
  ·by_cases hr:zP (zV b (X,X) (i+1))<=1
   ·have h3:¬ (2:Int)<(i:Int)+1:=by
     intro h3
     have:=(zA HN).2.2 (i+1) (by omega) G4
     omega
    rw[decide_eq_true hr];clear hr;go_wp2_with fail
    go_roundw
    case rel=>exact⟨i+1,v4,Pp,v5,by go_num,G4,stn⟩
    case measure=>simp[intOf];omega
   ·rw[decide_eq_false hr]
    clear hr;go_wp2_with fail
    go_roundw
    case rel=>exact⟨i+1,v4,Pp,v5,by go_num,G4,stn⟩
    case measure=>simp[intOf];omega
  ·have bg:i+1=N:=by omega
   have hr:zP (zV b (X,X) (i+1))<=1:=by rw[bg];exact (zA HN).2.1
   have h3:(2:Int)<(i:Int)+1:=by have:=(zA HN).1;omega
   rw[decide_eq_true hr];have MV:=zC bg;clear hr bg;have Wv:=stn.s.lt;obtain⟨⟨z0,z1,z2,z3,z4⟩,z5⟩:=stn.s;go_wp2_with fail;refine (zF6 _ v5 K 1 _ _ stn.sp (by omega) (by omega) (by omega) (by omega)).mono ?_
   rintro r w7 ⟨v7,rfl,H9,M3,I8⟩;obtain⟨q0,q1,q2,q3,q4,q5⟩:=stn.no.bw I8;have fD:=zB stn.be I8;have jz:=zC (H9.trans stn.sb);rw[zA MV] at M3;clear H9 I8;go_wp2_with fail;refine bodyPost_ret (v:=.agg v7.q) (by simp[results,Tryz.results188,go_sem,q0,q1,q2,q3,q4]) rfl ⟨v7,rfl,zA jz,?_,?_⟩
   ·exact SpAt.put5 M3 q0 q1 q2 q3 q4 _ _ _ _ _
   ·exact kB fD (Yh _) _ _ _ _ _
structure RaiSt2 (w wr:World) (B5 b K:Nat) (O S:Sp) (o s:Int × Int):Prop where
 u:VrC wr B5 O
 v:VrC wr w.heap.size S
 up:SpAt wr O K o.1 o.2
 vp:SpAt wr S K s.1 s.2
 ub:O.bits=(b:Int)
 vb:S.bits=(b:Int)
 no:NoC wr (w.heap.size+1)
 be:Below w.heap.size w wr
 l5:w.heap.size+1<B5
theorem RaiSt2.bw {w wr wr':World} {B5 b K:Nat} {O S:Sp} {o s:Int × Int} (h:RaiSt2 w wr B5 b K O S o s) (hb:Below wr.heap.size wr wr'):RaiSt2 w wr' B5 b K O S o s :=
 ⟨h.u.bw hb,h.v.bw hb,h.up.bw hb,h.vp.bw hb,h.ub,h.vb,h.no.bw hb,zB h.be hb,h.l5⟩
theorem zH7 (w:World) (s:Sp) (b K n:Nat) (a:Int × Int) (Inv:Nat->Int × Int->Int × Int->Prop) (hs:SpAt w s K a.1 a.2) (hbits:s.bits=(b:Int)) (hb:b<=900000) (hn:n<=1000000) (Z4:K<=10000000) (fC:b/16+18<=K)
  (Ww:Inv n (Q b,Q b) a)
  (Wx:∀ m o c,0<m->Inv m o c->Inv (m/2) (if m % 2=1 then kJ b o c else o) (kJ b c c)/\(-P K<(kJ b o c).1/\(kJ b o c).2<P K\/m % 2≠1) /\ -P K<(kJ b c c).1/\(kJ b c c).2<P K) :
  Calls Tryz.prog 187 #[.agg s.q,.int .i64 n] w (λ r w'=>∃ o c,Inv 0 o c/\zJ w b K o.1 o.2 r w'):=by
 obtain⟨W,hW⟩:∃ W,W=(w.alloc (.cells s.q 36)).alloc (.cells zCq 36):=⟨_,rfl⟩;have b8:Below w.heap.size w W:=by rw[hW];exact bl2 _ _ _
 have A:VrC W w.heap.size s:=by rw[hW];exact⟨⟨by simp[go_sem],by simp[go_sem],by simp[go_sem],by simp[go_sem],by simp[go_sem]⟩,λ o=>by simp[go_sem]⟩
 have R:NoC W (w.heap.size+1):=by rw[hW];constructor<;>simp[go_sem]
 have HS:=zC (hs.bw b8);have HI0:=zC Ww;have aW:=zC Wx;have HB:=zC hbits;clear hs Ww Wx hbits
 go_enter Tryz.func187,Tryz.ntmps187
 go_wp2_with fail;rw[<- hW,zA HB];clear hW;refine (zCX _ 1 b hb (by decide) (by decide)).mono ?_
 rintro r w1 ⟨v1,rfl,D6,F7,b7⟩;rw[Int.one_mul] at F7;replace F7:=F7.mono fC;replace A:=A.bw b7;replace R:=R.bw b7;replace b8:=zB b8 b7;replace HS:=zC ((zA HS).bw b7);have lR:=R.lt;have N9:RaiSt2 w (w1.alloc (.cells v1.q 36)) w1.heap.size b K v1 s (Q b,Q b) a:=⟨zIM w1 v1 _,A.bw (bl1 _ _),F7.bw (bl1 _ _),(zA HS).bw (bl1 _ _),D6,zA HB,R.bw (bl1 _ _),zL b8 _,by omega⟩
 have pR:=zC D6;clear D6 F7 A R b8 HS b7;go_wp2_with fail
 go_loopw [1] (λ mm wr=>∃ (m:Nat) (O S:Sp) (o c:Int × Int),mm=.int .i64 (m:Int)/\m<=n/\Inv m o c/\RaiSt2 w wr w1.heap.size b K O S o c) (λ mm _=>(intOf mm).toNat)
 case atStart=>exact⟨n,v1,s,(Q b,Q b),a,rfl,XW _,zA HI0,N9⟩
 case round =>
  obtain⟨m,O,S,o,c,rfl,oW,Ez,st⟩:=hrel;have EA:=zC Ez;clear Ez
  by_cases hm:0<m
  ·have hm':(0:Int)<(m:Int):=by omega
   have q1:((m:Int)).tdiv 2=((m/2:Nat):Int):=by rw[Int.tdiv_eq_ediv_of_nonneg (by omega)];omega
   have HQ:=zC q1;obtain⟨k1,k2,k3⟩:=zA aW m o c hm (zA EA);have HN:=zC k1;have HF:=zC k2;have HG:=zC k3;clear k1 k2 k3 q1;have lv:=st.v.lt;have lu:=st.u.lt
   by_cases ax:m % 2=1
   ·have q2:((m:Int)).tmod 2=1:=by rw[Int.tmod_eq_emod_of_nonneg (by omega)];omega
    have q3:(m:Int) % 2=1:=by omega
    have HO:=zC ax;obtain⟨⟨y0,y1,y2,y3,y4⟩,y5⟩:=st.u;obtain⟨⟨z0,z1,z2,z3,z4⟩,z5⟩:=st.v;clear ax;go_wp2_with fail;refine (yV _ O S K b o c st.up st.vp (by omega) st.ub (by omega)).mono ?_
    rintro r w2 ⟨v2,rfl,G7,Y6,b9⟩;have hf:=(zA HF).resolve_right (λ h=>h (zA HO))
    replace Y6:=Y6.fits (K:=K) (yK b) hf.1 hf.2;replace st:=st.bw b9;have oA:=zC G7;clear G7 b9 hf y0 y1 y2 y3 y4 y5 z0 z1 z2 z3 z4 z5;have Jc:w.heap.size≠w1.heap.size:=by have:=st.l5;omega
    have J7:RaiSt2 w (zQ w2 w1.heap.size v2) w1.heap.size b K v2 S (kJ b o c) c:=⟨st.u.put v2,st.v.off Jc v2,Y6.put st.u.c v2,st.vp.put st.u.c v2,zA oA,st.vb,st.no.off (by have:=st.l5;omega) v2,jC st.be (by have:=st.l5;omega) v2,st.l5⟩
    have lv2:=st.v.lt;have lu2:=st.u.lt;obtain⟨⟨y0,y1,y2,y3,y4⟩,y5⟩:=st.u;obtain⟨⟨z0,z1,z2,z3,z4⟩,z5⟩:=st.v;obtain⟨V2,S9⟩:∃ V2,V2=zQ w2 w1.heap.size v2:=⟨_,rfl⟩;rw[<- S9] at J7;unfold zQ at S9;clear st Y6;go_wp2_with fail;rw[<- S9];clear S9 y0 y1 y2 y3 y4 y5 z0 z1 z2 z3 z4 z5;refine (yV _ S S K b c c J7.vp J7.vp (by omega) J7.vb (by omega)).mono ?_
    rintro r w3 ⟨v3,rfl,E6,J3,k8⟩;replace J3:=J3.fits (K:=K) (yK b) (zA HG).1 (zA HG).2;replace J7:=J7.bw k8;have rp:=zC E6;clear E6 k8;have M7:RaiSt2 w (zQ w3 w.heap.size v3) w1.heap.size b K v2 v3 (kJ b o c) (kJ b c c):=⟨J7.u.off (Ne.symm Jc) v3,J7.v.put v3,J7.up.put J7.v.c v3,J3.put J7.v.c v3,J7.ub,zA rp,J7.no.off (by omega) v3,jC J7.be (XW _) v3,J7.l5⟩
    unfold zQ at M7;have lv3:=J7.v.lt;obtain⟨⟨z0,z1,z2,z3,z4⟩,z5⟩:=J7.v;clear J7 J3;go_wp2_with fail
    go_roundw
    case rel =>
     refine⟨m/2,v2,v3,kJ b o c,kJ b c c,?_,by omega,?_,M7⟩
     ·first|exact congrArg _ (zA HQ)|(congr 1;omega)
     ·have:=zA HN
      rw[if_pos (zA HO)] at this;exact this
    case measure=>have:=zA HQ;simp[intOf];omega
   ·have q2:((m:Int)).tmod 2=0:=by rw[Int.tmod_eq_emod_of_nonneg (by omega)];omega
    have q3:(m:Int) % 2=0:=by omega
    have HO:=zC ax;obtain⟨⟨z0,z1,z2,z3,z4⟩,z5⟩:=st.v;clear ax;go_wp2_with fail;refine (yV _ S S K b c c st.vp st.vp (by omega) st.vb (by omega)).mono ?_
    rintro r w3 ⟨v3,rfl,E6,J3,k8⟩;replace J3:=J3.fits (K:=K) (yK b) (zA HG).1 (zA HG).2;replace st:=st.bw k8;have rp:=zC E6;clear E6 k8 z0 z1 z2 z3 z4 z5;have Jc:w.heap.size≠w1.heap.size:=by have:=st.l5;omega
    have M7:RaiSt2 w (zQ w3 w.heap.size v3) w1.heap.size b K O v3 o (kJ b c c):=⟨st.u.off (Ne.symm Jc) v3,st.v.put v3,st.up.put st.v.c v3,J3.put st.v.c v3,st.ub,zA rp,st.no.off (by omega) v3,jC st.be (XW _) v3,st.l5⟩
    unfold zQ at M7;have lv3:=st.v.lt;obtain⟨⟨z0,z1,z2,z3,z4⟩,z5⟩:=st.v;clear st J3;go_wp2_with fail
    go_roundw
    case rel =>
     refine⟨m/2,O,v3,o,kJ b c c,?_,by omega,?_,M7⟩
     ·first|exact congrArg _ (zA HQ)|(congr 1;omega)
     ·have:=zA HN
      rw[if_neg (zA HO)] at this;exact this
    case measure=>have:=zA HQ;simp[intOf];omega
  ·have qy:m=0:=by omega
   subst qy;have lu:=st.u.lt;obtain⟨⟨y0,y1,y2,y3,y4⟩,y5⟩:=st.u;obtain⟨q0,q1,q2,q3,q4,q5⟩:=st.no;have I0:=zC st.ub;go_wp2_with fail;refine bodyPost_ret (v:=.agg O.q) (by simp[results,Tryz.results187,go_sem,q0,q1,q2,q3,q4]) rfl ⟨o,c,zA EA,O,rfl,zA I0,?_,?_⟩
   ·exact SpAt.put5 st.up q0 q1 q2 q3 q4 _ _ _ _ _
   ·exact kB st.be (Yh _) _ _ _ _ _
theorem Tp_le {d:Nat->Int} (hd:Dgs d) (j n:Nat) (h:j<=n):Tp d j n<=V d n:=by
 have e:=zFB d j (n-j);rw[show j+(n-j)=n by omega] at e
 have h1:=zZ hd j;have h2:=zAT hd j n;have h3:=yB j
 have h4:Tp d j n<=P j*Tp d j n:=by
  have:=XK h3 h2;omega
 unfold Tp at *;omega
theorem zGX (w:World) (x:Nm) (k B K n:Nat) (X:Int) (hx:IntAt w x.neg x.a x.n x.cap k X) (h0:0<=X) (BI:X/Q B=(n:Int)) (hn:n<=100000) (hB:20<=B) (o7:B<=400000) (hK:Q (B+40+4*(2*n+1)+20)<P K) (Z4:K<=1000000) (hkK:k<=K) (fC:(B+40)/16+30<=K) :
  Calls Tryz.prog 156 #[.agg x.q,.int .i64 B] w (λ r w'=>∃ o:Int × Int,Iv B o (Ex.Ev (λ _=>(X:Rat)/(Q B:Rat)))/\o.1<=o.2/\Q B-1<=o.1/\o.2<P K/\zJ w B K o.1 o.2 r w'):=by
 obtain⟨W,hW⟩:∃ W,W=(w.alloc (.cells x.q 26)).alloc (.cells zCq 36):=⟨_,rfl⟩;have b8:Below w.heap.size w W:=by rw[hW];exact bl2 _ _ _
 have A:NmC W w.heap.size x:=by rw[hW];constructor<;>simp[go_sem]
 have R:NoC W (w.heap.size+1):=by rw[hW];constructor<;>simp[go_sem]
 have HX:=zC ((hx.bw b8).mono hkK);have lA:=A.lt;have lR:=R.lt;have EB:¬ zF X 0<0:=by unfold zF;rw[if_neg (by omega)];split<;>omega
 have EC:=zC BI;clear hx BI
 go_enter Tryz.func156,Tryz.ntmps156
 go_wp2_with fail;rw[<- hW];clear hW;refine (yA _ _ _ _ _ X _ (zA HX)).mono ?_;rintro r w1 ⟨rfl,b7⟩;replace A:=A.bw b7;replace R:=R.bw b7;replace b8:=zB b8 b7;replace HX:=zC ((zA HX).bw b7);have lA1:=A.lt;clear b7;have x0:=A.c0;have x1:=A.c1;go_wp2_with fail;refine (zBX _ _ _ _ B K X _ (zA HX) (by omega) (by omega)).mono ?_
 rintro r w2 ⟨b6,a2,n2,c2,rfl,o0,b9⟩;rw[zA EC] at o0;replace A:=A.bw b9;replace R:=R.bw b9;replace b8:=zB b8 b9;replace HX:=zC ((zA HX).bw b9);have Y1:=R.lt;clear b9 x0 x1 EB;have bO:=zC o0;obtain⟨d,dg,dtop,dneg,dk,dz⟩:=o0
 have hV:V d n2=(n:Int):=by
  have hv:=zZ dg.dgs n2
  cases b6
  ·simp[sgn] at dz;omega
  ·simp[sgn] at dz;omega
 obtain⟨V2,S9⟩:∃ V2,V2=w2.alloc (.cells #[.bool b6,.slice a2 n2 c2] 26):=⟨_,rfl⟩;have Y8:Below w2.heap.size w2 V2:=by rw[S9];exact bl1 _ _
 have D2:NmC V2 w2.heap.size ⟨b6,a2,n2,c2⟩:=by rw[S9];exact zAK w2 ⟨b6,a2,n2,c2⟩ _
 have rL:=dg.bw Y8;have vW:=zC rL;replace A:=A.bw Y8;replace R:=R.bw Y8;replace b8:=zB b8 Y8;replace HX:=zC ((zA HX).bw Y8);replace bO:=zC ((zA bO).bw Y8);have Y9:=zC dg.dgs;have hroom:=dg.room;have HV:=zC hV;have lD:=D2.lt;have gY:=zC D2;have jw:=D2.c0;have vX:=D2.c1;clear dg rL dtop dneg dk dz hV Y8 D2;go_wp2_with fail;rw[<- S9];clear S9
 go_loop [6,7] (λ nn ii=>∃ j:Nat,nn=.int .i64 (Tp d j n2)/\ii=.int .i64 ((j:Int)-1)/\j<=n2) (λ _ ii=>(intOf ii+1).toNat)
 case atStart=>exact⟨n2,by rw[zE3],rfl,XW _⟩
 case round =>
  obtain⟨j,rfl,rfl,hj⟩:=hrel
  by_cases cV:0<j
  ·obtain⟨m,rfl⟩:∃ m,j=m+1:=⟨j-1,by omega⟩
   have em:(((m+1:Nat):Int)-1)=(m:Int):=by omega
   rw[em];obtain⟨bb,off,ha,E4,hcell⟩:=(zA vW).at_ (by omega)
   have hc:=hcell m (by omega)
   have T7:(m:Int)<(n2:Int):=by omega
   have t1:=zAT (zA Y9) (m+1) n2;have t2:=Tp_le (zA Y9) (m+1) n2 (by omega)
   have t3:=zA HV;obtain⟨g1,g2⟩:=zA Y9 m;have t4:=zCT d m n2 (by omega)
   have ED:=zC t4;have t5:Tp d (m+1) n2<=100000:=by omega
   subst ha;clear hcell em t2 t3 t4;go_wp2_with fail
   go_round
   case rel =>
    refine⟨m,?_,?_,by omega⟩
    ·rw[zA ED,Int.add_comm]
    ·rfl
   case measure=>simp[intOf]
  ·have jc:j=0:=by omega
   subst jc;rw[zCR,zA HV];have Wy:=A.lt;have lQ:=R.lt;clear jw vX hj cV;have mg:Q (B+40+20)<P K:=Int.lt_of_le_of_lt (zK (by omega)) hK
   have hq40:=zG (B+40);obtain⟨N1,tZ,EE⟩:=zMO (b:=B+40) (X:=Q (B+40)) (by omega) (Int.le_refl _)
   have oG:=zM7 (n:=n) (by omega) EE
   have vY:=zHU (by omega) (by omega) (Int.le_refl _) EE
   have rM : -P K<(zBZ (zV (B+40) (Q (B+40),Q (B+40))) N1).1/\(zBZ (zV (B+40) (Q (B+40),Q (B+40))) N1).2<P K:=by
    have h2:=zK (show B+40+2<=B+40+20 by omega)
    have:=vY.1;have:=vY.2.2.2;omega
   have K9:=zC EE;have Jd:=zC oG;have Wz:=zC rM;have MW:=zC (zDP (kY (B+40) (Q (B+40),Q (B+40))) N1);clear EE oG vY rM;go_wp2_with fail;rw[show ((B:Int)+40)=((B+40:Nat):Int) by omega]
   refine (kT (B+40) _ (by omega)).mono ?_
   rintro r w3 ⟨p9,a3,n3,c3,rfl,A8,k8⟩;replace A:=A.bw k8;replace R:=R.bw k8;replace b8:=zB b8 k8;replace HX:=zC ((zA HX).bw k8);replace bO:=zC ((zA bO).bw k8);replace gY:=zC ((zA gY).bw k8);clear k8;go_wp2_with fail;refine (zIZ _ ⟨p9,a3,n3,c3⟩ _ (B+40) N1 K (Q (B+40)) A8 (by omega) (by omega) (Int.le_refl _) (by omega) (zA K9) tZ mg (by omega) (by omega)).mono ?_
   rintro r w4 ⟨v4,rfl,S6,ay,m9⟩;replace ay:=ay.fits (K:=K) (zA MW) (zA Wz).1 (zA Wz).2;replace A:=A.bw m9;replace R:=R.bw m9;replace b8:=zB b8 m9;replace HX:=zC ((zA HX).bw m9);replace bO:=zC ((zA bO).bw m9);replace gY:=zC ((zA gY).bw m9);have MS:=zC S6;clear m9 S6 A8;go_wp2_with fail;refine (zH7 _ v4 (B+40) K n _ (EInv (B+40) n) ay (zA MS) (by omega) (by omega) (by omega) (by omega) (zA Jd) (λ m o c hm hI=>?_)).mono ?_
   ·obtain⟨g1,g2,g3⟩:=zRA (by omega) hn hm hI
    have h2:=zK (show B+40+4*(2*n+1)<=B+40+4*(2*n+1)+20 by omega)
    have h3:=zK (show B+40+2*n<=B+40+4*(2*n+1)+20 by omega)
    have:=g2.1;have:=g2.2.2.2;refine⟨g1,?_,by omega,by omega⟩
    by_cases ax:m % 2=1
    ·have g4:=g3 ax
     have:=g4.1;have:=g4.2.2.2;exact Or.inl ⟨by omega,by omega⟩
    ·exact Or.inr ax
   rintro r we ⟨oe,ce,WA,ve,rfl,EF,EG,A7⟩;obtain⟨i1,i2,i3,i4⟩:=einv_end WA;have HI:=zC (And.intro i1 (And.intro i2 (And.intro i3 i4)));have HVE:=zC EF;replace A:=A.bw A7;replace R:=R.bw A7;replace b8:=zB b8 A7;replace HX:=zC ((zA HX).bw A7);replace bO:=zC ((zA bO).bw A7);replace gY:=zC ((zA gY).bw A7);have lA5:=A.lt;have Ti:=R.lt;have lD5:=(zA gY).lt;clear A7 EF WA i1 i2 i3 i4 ay;obtain⟨Ve,Je⟩:∃ Ve,Ve=we.alloc (.cells ve.q 36):=⟨_,rfl⟩;have bVe:Below we.heap.size we Ve:=by rw[Je];exact bl1 _ _
   have E5:SpC Ve we.heap.size ve:=by rw[Je];exact zA0 we ve _
   replace A:=A.bw bVe;replace R:=R.bw bVe;replace b8:=zB b8 bVe;replace HX:=zC ((zA HX).bw bVe);replace bO:=zC ((zA bO).bw bVe);have D5:=(zA gY).bw bVe;have MX:=zC (EG.bw bVe);clear bVe gY EG;have HK:=zC (show ∀ w',Below Ve.heap.size Ve w'->(cK w' we.heap.size ve (nK w' w.heap.size x (w'.cell? ⟨w2.heap.size,0,none⟩=some (.bool b6)/\w'.cell? ⟨w2.heap.size,1,none⟩=some (.slice a2 n2 c2)))) from λ w' hB=>⟨(E5.bw hB).c0,(E5.bw hB).c1,(E5.bw hB).c2,(E5.bw hB).c3,(E5.bw hB).c4,(A.bw hB).c0,(A.bw hB).c1,(D5.bw hB).c0,(D5.bw hB).c1⟩)
   have lE:=E5.lt;have hQB:=zG B
   have O8:X-n*Q B=X % Q B:=by
    have h1:=Int.emod_add_mul_ediv X (Q B);rw[zA EC] at h1;rw[Int.mul_comm (n:Int)];omega
   have oF:0<=(X-n*Q B)*Q 40:=by
    rw[O8];exact Yb (Int.emod_nonneg _ (by omega)) (by have:=zG 40;omega)
   have pj:(X-n*Q B)*Q 40<=Q (B+40):=by
    rw[O8,jD];exact XK (by have:=Int.emod_lt_of_pos X (show 0<Q B by omega);omega) (by have:=zG 40;omega)
   obtain⟨N2,n21,Jf⟩:=zMO oF pj;have hR:=expR_has hB (zA EC) h0 hn (zA HI).1 (zA HI).2.1 (zA HI).2.2.1 (zA HI).2.2.2 Jf oF pj;have mH:=zHU (by omega) oF pj Jf
   have mI:=zDP (kY (B+40) ((X-n*Q B)*Q 40,(X-n*Q B)*Q 40)) N2;have MY:=zC Jf;have HR:=zC hR
   have IA:=zC (show -P K<(zBZ (zV (B+40) ((X-n*Q B)*Q 40,(X-n*Q B)*Q 40)) N2).1/\(zBZ (zV (B+40) ((X-n*Q B)*Q 40,(X-n*Q B)*Q 40)) N2).2<P K by
    have h2:=zK (show B+40+2<=B+40+20 by omega)
    have:=mH.1;have:=mH.2.2.2
    omega)
   have MZ:=zC mI;have HY:=zC (And.intro oF pj);clear Jf hR mH mI O8 oF pj;obtain⟨p,hp⟩:∃ p,p=kJ (B+40) oe (zBZ (zV (B+40) ((X-n*Q B)*Q 40,(X-n*Q B)*Q 40)) N2):=⟨_,rfl⟩;have HP:=zC hp;have HRP:Hid (Iv B (zN p 40) (Ex.Ev (λ _=>(X:Rat)/(Q B:Rat)))/\Abs p (Q (B+40+2*(n+1)))/\p.1<=p.2/\Q B-1<=(zN p 40).1):=zC (by rw[hp];exact zA HR)
   clear hp HR;go_wp2_with fail;rw[<- Je];clear Je;obtain⟨x0,x1,x2,x3,x4,x5,x6,x7,x8⟩:=zA HK _ (Below.refl _ _);have m8:Below Ve.heap.size Ve Ve.drew:=(Below.refl _ _).drew;have m1:w.heap.size+1≠we.heap.size:=by omega
   have m2:w.heap.size+1≠w.heap.size:=by omega
   have m3:w.heap.size+1≠w2.heap.size:=by omega
   have m4:we.heap.size≠w.heap.size+1:=by omega
   have m5:w.heap.size≠w.heap.size+1:=by omega
   have m6:w2.heap.size≠w.heap.size+1:=by omega
   have eBB:((B+40:Nat):Int)-(B:Int)=((40:Nat):Int):=by omega
   have vZ:=zC eBB;clear eBB
   go_region_held3 (λ w'=>cK w' we.heap.size ve (nK w' w.heap.size x (w'.cell? ⟨w2.heap.size,0,none⟩=some (.bool b6)/\w'.cell? ⟨w2.heap.size,1,none⟩=some (.slice a2 n2 c2)))) (first|exact zA HK _ (by with_reducible first|exact m8|exact dx|exact Q4|exact I6|exact I5|exact C8|exact y9|exact j9|exact j7)|(dsimp only[cK,cK0,nK,nK0,rK,rK0];go_keep)|go_keep)
    (first
     | (go_at_call 90;have hq:=Q4;refine (kQ _ v17 (K+K+8) B p.1 p.2 (by rw[zA HP];exact EH) (by omega) (by have:=zA wa;omega) (by have:=zA wa;omega) (by omega) (by omega)).mono ?_;rintro r' w18 ⟨WB,rfl,rN,dN,Na⟩;have dx:=zB Q4 Na;rw[zA wa,zA vZ,kK,kK] at dN;have Nc:=zC rN;clear rN;obtain⟨q0,q1,q2,q3,q4,q5⟩:=R.bw dx;obtain⟨y0,y1,y2,y3,y4,y5,y6,y7,y8⟩:=zA HK _ dx)
     | (go_at_call 52;have hq:=I6;refine (yV _ ve v16 K (B+40) oe _ ((zA MX).bw I6) mJ (by omega) (zA HVE) (by omega)).mono ?_;rintro r' w17 ⟨v17,rfl,rO,EH,Nd⟩;have Q4:=zB I6 Nd;have wa:=zC rO;clear rO)
     | (go_at_call 188;have hq:=I5;refine (zIZ _ ⟨EI,a15,n15,c15⟩ _ (B+40) N2 K ((X-n*Q B)*Q 40) (Nf.fits (K:=K) (by have:=(zA HY).1;have:=yB K;omega) (Int.lt_of_le_of_lt (zA HY).2 (Int.lt_of_le_of_lt (zK (by omega)) mg))) (XW _) (zA HY).1 (zA HY).2 (by omega) (zA MY) n21 mg (by omega) (by omega)).mono ?_;rintro r' w16 ⟨v16,rfl,rP,mJ,R0⟩;replace mJ:=mJ.fits (K:=K) (zA MZ) (zA IA).1 (zA IA).2;have I6:=zB I5 R0;have HV16:=zC rP;clear rP)
     | (go_at_call 66;have hq:=C8;refine (zW _ _ _ _ _ _ _ _ (K+(K+5+(B/16+5))+5) 7 (X-n*Q B) (Q 40) _ ((Ng.bw EJ).mono (by omega)) Nh (by omega) (by omega)).mono ?_;rintro r' w15 ⟨EI,a15,n15,c15,rfl,Nf,Ni⟩;have I5:=zB C8 Ni)
     | (go_at_call 104;have hq:=y9;refine (kT 40 _ (by omega)).mono ?_;rintro r' w14 ⟨WC,a14,n14,c14,rfl,Nh,EJ⟩;have C8:=zB y9 EJ)
     | (go_at_call 72;have hq:=j9;refine (zAD _ _ _ _ _ _ _ _ K (K+5+(B/16+5)) X (n*Q B) _ ((zA HX).bw j9) Nj (by omega) (by omega)).mono ?_;rintro r' Jg ⟨WD,a13,n13,c13,rfl,Ng,bC⟩;have y9:=zB j9 bC)
     | (go_at_call 66;have hq:=j7;refine (zW _ _ _ _ _ _ _ _ (K+5) (B/16+5) n (Q B) _ ((zA bO).bw j7) dy (by omega) (by omega)).mono ?_;rintro r' BJ ⟨WE,a12,EE,WG,rfl,Nj,T4⟩;have j9:=zB j7 T4)
     | (go_at_call 104;refine (kT B _ (by omega)).mono ?_;rintro r' Bc ⟨bM,Be,n11',qM,rfl,dy,P2⟩;have j7:=zB m8 P2))
   all_goals
    obtain⟨z1,z2,z3,z4⟩:=zA HRP
    have Jh:Abs (zN p 40) (Q (B+2*(n+1))):=by
     obtain⟨k1,k2,k3,k4⟩:=z2;have e:Q (B+40+2*(n+1))=Q (B+2*(n+1))*Q 40:=by rw[<- jD];congr 1;omega
     rw[e] at k1 k2 k3 k4;have r1:=jA (q:=Q 40) (by have:=zG 40;omega) k1 k2
     have r2:=jA (q:=Q 40) (by have:=zG 40;omega) k3 k4
     exact⟨r1.1,r1.2.1,r2.2.2.1,r2.2.2.2⟩
    have hzP:Q (B+2*(n+1))<P K:=Int.lt_of_le_of_lt (zK (by omega)) hK
    have wk:(zN p 40).1<=(zN p 40).2:=by
     have:=kR (a:=p) (n:=1) (d:=Q 40) z3 (by have:=zG 40;omega) (by omega)
     simpa [zE,zN] using this
    have e1:p.1/Q 40=(zN p 40).1:=rfl;have e2 : -(-p.2/Q 40)=(zN p 40).2:=rfl;rw[e1,e2] at dN;replace dN:=dN.fits (K:=K) wk (by have:=Jh.1;omega) (by have:=Jh.2.2.2;omega)
    have HZ:=zC (And.intro z1 (And.intro wk (And.intro z4 (show (zN p 40).2<P K by have:=Jh.2.2.2;omega))))
    clear z1 z2 z3 z4 Jh hzP wk e1 e2;go_wp2_with fail;refine bodyPost_ret (v:=.agg WB.q) (by simp[results,Tryz.results156,go_sem,q0,q1,q2,q3,q4]) rfl ⟨zN p 40,(zA HZ).1,(zA HZ).2.1,(zA HZ).2.2.1,(zA HZ).2.2.2,WB,rfl,zA Nc,?_,?_⟩
    ·exact SpAt.put5 dN q0 q1 q2 q3 q4 _ _ _ _ _
    ·exact kB (zB b8 dx) (Yh _) _ _ _ _ _
theorem over_one {B:Nat} {o:Int × Int} (h1:0<o.1) (h2:o.1<=o.2):zEZ (Q B) (Q B) o.1 o.2 B=Q B*Q B/o.2/\zFL (Q B) (Q B) o.1 o.2 B = -(-(Q B*Q B)/o.1):=by
 have q:=zG B;have p:=Yb (show 0<=Q B by omega) (show 0<=Q B by omega)
 unfold zEZ zFL ovLo zL9;rw[if_neg (by omega),if_neg (by omega),if_neg (by omega),if_neg (by omega)]
 exact⟨rfl,rfl⟩
theorem over_fit {B:Nat} {o:Int × Int} (hB:20<=B) (h1:Q B-1<=o.1) (h2:o.1<=o.2):0<=Q B*Q B/o.2/\Q B*Q B/o.2 <= -(-(Q B*Q B)/o.1) /\ -(-(Q B*Q B)/o.1)<=Q B+2/\Q B*Q B/o.2*o.2<=Q B*Q B/\Q B*Q B <= -(-(Q B*Q B)/o.1)*o.1:=by
 have q:1048576<=Q B:=by have:=zK hB;have e:Q 20=1048576:=rfl;omega
 have p:=Yb (show 0<=Q B by omega) (show 0<=Q B by omega)
 have a1:=zDJ (Q B*Q B) o.2 (by omega)
 have a2:=zB9 (Q B*Q B) o.1 (by omega)
 have a3:0<=Q B*Q B/o.2:=Int.ediv_nonneg p (by omega)
 have a4:=(jA (x:=Q B*Q B) (m:=Q B+2) (q:=o.1) (by omega) (by have:=Yb (show 0<=Q B+2 by omega) (show 0<=o.1 by omega);omega) (by
  have:=XR h1 (show 0<=Q B+2 by omega)
  grind)).2.2.2
 refine⟨a3,?_,a4,a1,a2⟩;refine Int.not_lt.1 λ hn=>?_
 have h3:=Int.mul_lt_mul_of_pos_right hn (show 0<o.1 by omega)
 have h4:=XR h2 a3;omega
theorem zOB (X:Int) (B:Nat):((-X:Int):Rat)/(Q B:Rat) = -((X:Rat)/(Q B:Rat)):=by rw[Rat.intCast_neg,Yg,Yg,Rat.neg_mul]
theorem zNW (w:World) (x:Nm) (k B K n:Nat) (X:Int) (hx:IntAt w x.neg x.a x.n x.cap k X) (h0:X<0) (BI : -X/Q B=(n:Int)) (hn:n<=100000) (hB:20<=B) (o7:B<=400000) (hK:Q (B+40+4*(2*n+1)+20)<P K) (Z4:K<=1000000) (hkK:k<=K) (fC:(B+40)/16+30<=K) :
  Calls Tryz.prog 156 #[.agg x.q,.int .i64 B] w (λ r w'=>∃ o:Int × Int,Iv B o (Ex.Ev (λ _=>(X:Rat)/(Q B:Rat)))/\o.1<=o.2/\zJ w B K o.1 o.2 r w'):=by
 obtain⟨W,hW⟩:∃ W,W=(w.alloc (.cells x.q 26)).alloc (.cells zCq 36):=⟨_,rfl⟩;have b8:Below w.heap.size w W:=by rw[hW];exact bl2 _ _ _
 have A:NmC W w.heap.size x:=by rw[hW];constructor<;>simp[go_sem]
 have R:NoC W (w.heap.size+1):=by rw[hW];constructor<;>simp[go_sem]
 have HX:=zC ((hx.bw b8).mono hkK);have EB:zF X 0<0:=by unfold zF;rw[if_pos h0];omega
 have EC:=zC BI;clear hx BI
 go_enter Tryz.func156,Tryz.ntmps156
 go_wp2_with fail;rw[<- hW];clear hW;refine (yA _ _ _ _ _ X _ (zA HX)).mono ?_;rintro r w1 ⟨rfl,b7⟩;replace A:=A.bw b7;replace R:=R.bw b7;replace b8:=zB b8 b7;replace HX:=zC ((zA HX).bw b7);have lA:=A.lt;have lR:=R.lt;have HK:=zC (show ∀ w',Below w1.heap.size w1 w'->(nK0 w' w.heap.size x) from λ w' hB=>⟨(A.bw hB).c0,(A.bw hB).c1⟩)
 clear b7;obtain⟨x0,x1⟩:=zA HK _ (Below.refl _ _);have m8:Below w1.heap.size w1 w1.drew:=(Below.refl _ _).drew;have m1:w.heap.size+1≠w.heap.size:=by omega
 have m2:w.heap.size≠w.heap.size+1:=by omega
 have hq:1048576<=Q B:=by have:=zK hB;have e:Q 20=1048576:=rfl;omega
 go_wp2_with fail
 go_region_held3 (λ w'=>nK0 w' w.heap.size x) (first|exact zA HK _ (by with_reducible first|exact m8|exact C8|exact y9|exact j9|exact j7)|(dsimp only[cK,cK0,nK,nK0,rK,rK0];go_keep)|go_keep)
  (first
   | (go_at_call 91;have H7:=y9;refine (zK8 _ v2 v4 K B (Q B) (Q B) o4.1 o4.2 ((((o0.mono (by omega)).bw k8).bw m9)) D9 (by omega) (by omega) (zA Nk) (by have:=(zA jd).2.2.1;omega) (zA jd).2.1).mono ?_;rintro r' w5 ⟨v5,rfl,J5,G5,A7⟩;have C8:=zB y9 A7;have ka:=zC J5;clear J5;obtain⟨q0,q1,q2,q3,q4,q5⟩:=R.bw C8;obtain⟨y0,y1⟩:=zA HK _ C8)
   | (go_at_call 156;have H7:=j9;refine (zGX _ ⟨p9,a3,n3,c3⟩ K B K n (-X) A8 (by omega) (zA EC) hn hB o7 hK Z4 (XW _) fC).mono ?_;rintro r' w4 ⟨o4,i1,i2,i3,i4,v4,rfl,S6,D9,m9⟩;have y9:=zB j9 m9;have jd:=zC (And.intro i1 (And.intro i2 (And.intro i3 i4)));have HVB4:=zC S6;clear S6 i1 i2 i3 i4)
   | (go_at_call 103;have H7:=j7;refine (kC _ _ _ _ K X _ ((zA HX).bw j7) (by omega)).mono ?_;rintro r' w3 ⟨p9,a3,n3,c3,rfl,A8,k8⟩;have j9:=zB j7 k8)
   | (go_at_call 27;refine (zCX _ 1 B (by omega) (by decide) (by decide)).mono ?_;rintro r' w2 ⟨v2,rfl,G7,o0,b9⟩;rw[Int.one_mul] at o0;have j7:=zB m8 b9;have Nk:=zC G7;clear G7))
 all_goals
  obtain⟨i1,i2,i3,i4⟩:=zA jd;obtain⟨e1,e2⟩:=over_one (B:=B) (o:=o4) (by omega) i2
  obtain⟨f1,f2,f3,f4,f5⟩:=over_fit hB i3 i2;rw[e1,e2] at G5
  have hPK:Q B+2<P K:=by
   have h1:=zK (show B+1<=B+40+4*(2*n+1)+20 by omega)
   have h2:Q (B+1)=2*Q B:=rfl;omega
  replace G5:=G5.fits (K:=K) f2 (by have:=yB K;omega) (by omega)
  rw[zOB] at i1;have HO:=zC (And.intro (inv_has (x:=(X:Rat)/(Q B:Rat)) (by omega) i1 f4 f5) f2)
  clear i1 i2 i3 i4 e1 e2 f1 f2 f3 f4 f5 hPK;go_wp2_with fail;refine bodyPost_ret (v:=.agg v5.q) (by simp[results,Tryz.results156,go_sem,q0,q1,q2,q3,q4]) rfl ⟨(Q B*Q B/o4.2,-(-(Q B*Q B)/o4.1)),(zA HO).1,(zA HO).2,v5,rfl,zA ka,?_,?_⟩
  ·exact SpAt.put5 G5 q0 q1 q2 q3 q4 _ _ _ _ _
  ·exact kB (zB b8 C8) (Yh _) _ _ _ _ _
def wh (X:Int) (B:Nat):Int:=(if 0<=X then X else -X)/Q B
theorem zGN (w:World) (x:Nm) (k B K n:Nat) (X:Int) (hx:IntAt w x.neg x.a x.n x.cap k X) (BI:wh X B<=(n:Int)) (hn:n<=100000) (hB:20<=B) (o7:B<=400000) (hK:Q (B+40+4*(2*n+1)+20)<P K) (Z4:K<=1000000) (hkK:k<=K) (fC:(B+40)/16+30<=K) :
  Calls Tryz.prog 156 #[.agg x.q,.int .i64 B] w (λ r w'=>∃ o:Int × Int,Iv B o (Ex.Ev (λ _=>(X:Rat)/(Q B:Rat)))/\o.1<=o.2/\(0<=X->Q B-1<=o.1)/\zJ w B K o.1 o.2 r w'):=by
 have q:=zG B;have h0:0<=wh X B:=by unfold wh;split<;>exact Int.ediv_nonneg (by omega) (by omega)
 obtain⟨m,hm⟩:∃ m:Nat,wh X B=(m:Int):=⟨(wh X B).toNat,by omega⟩
 have hK':Q (B+40+4*(2*m+1)+20)<P K:=Int.lt_of_le_of_lt (zK (by omega)) hK
 have oW:m<=n:=by omega
 by_cases hX:0<=X
 ·unfold wh at hm
  rw[if_pos hX] at hm;refine (zGX w x k B K m X hx hX hm (by omega) hB o7 hK' Z4 hkK fC).mono ?_
  rintro r w' ⟨o,g1,g2,g3,g4,h⟩;exact⟨o,g1,g2,λ _=>g3,h⟩
 ·unfold wh at hm
  rw[if_neg hX] at hm;exact (zNW w x k B K m X hx (by omega) hm (by omega) hB o7 hK' Z4 hkK fC).mono λ r w' ⟨o,g1,g2,h⟩=>⟨o,g1,g2,λ h0=>absurd h0 hX,h⟩
theorem zCK (x y:Bool) (a a':Option Addr) (n c n' c':Nat) (b:Int) (w:World):(Instr.field 36 (.agg #[.bool x,.slice a n c,.bool y,.slice a' n' c',.int .i64 b]) 0).run Tryz.prog w=.ok (.agg #[.bool x,.slice a n c]) w:=by kernel_rfl
theorem zH4 (x y:Bool) (a a':Option Addr) (n c n' c':Nat) (b:Int) (w:World):(Instr.field 36 (.agg #[.bool x,.slice a n c,.bool y,.slice a' n' c',.int .i64 b]) 1).run Tryz.prog w=.ok (.agg #[.bool y,.slice a' n' c']) w:=by kernel_rfl
theorem zFC (w:World) (s:Sp) (k B K n:Nat) (a:Int × Int) (x:Nat->Rat) (hbx:Ex.Bdd x) (hs:SpAt w s k a.1 a.2) (hbits:s.bits=(B:Int)) (hx:Iv B a x) (h1:wh a.1 B<=(n:Int)) (h2:wh a.2 B<=(n:Int)) (hn:n<=100000) (hB:20<=B) (o7:B<=400000) (hK:Q (B+40+4*(2*n+1)+20)<P K) (Z4:K<=1000000) (hkK:k<=K) (fC:(B+40)/16+30<=K) :
  Calls Tryz.prog 92 #[.agg s.q] w (λ r w'=>∃ o:Int × Int,Iv B o (Ex.Ev x)/\(0<=a.1->Q B-1<=o.1)/\zJ w B K o.1 o.2 r w'):=by
 obtain⟨W,hW⟩:∃ W,W=(w.alloc (.cells s.q 36)).alloc (.cells zCq 36):=⟨_,rfl⟩;have b8:Below w.heap.size w W:=by rw[hW];exact bl2 _ _ _
 have A:SpC W w.heap.size s:=by rw[hW];constructor<;>simp[go_sem]
 have R:NoC W (w.heap.size+1):=by rw[hW];constructor<;>simp[go_sem]
 have HS:=zC (hs.bw b8);have HB:=zC hbits;have Nl:=zC hx;have lR:=R.lt;have HK:=zC (show ∀ w',Below W.heap.size W w'->(cK0 w' w.heap.size s) from λ w' hB=>⟨(A.bw hB).c0,(A.bw hB).c1,(A.bw hB).c2,(A.bw hB).c3,(A.bw hB).c4⟩)
 clear A hs hbits hx;have pS:=zCK;have BF:=zH4
 go_enter Tryz.func92,Tryz.ntmps92
 go_wp2;rw[<- hW];clear hW;have IW:w.heap.size≠w.heap.size+1:=by omega
 have lq:w.heap.size+1≠w.heap.size:=by omega
 obtain⟨x0,x1,x2,x3,x4⟩:=zA HK _ (Below.refl _ _);have m8:Below W.heap.size W W.drew:=(Below.refl _ _).drew
 go_region_held3 (λ w'=>cK0 w' w.heap.size s) (first|exact zA HK _ (by with_reducible first|exact m8|exact j9|exact j7)|(dsimp only[cK,cK0,nK,nK0,rK,rK0];go_keep)|go_keep)
  (first
   | (go_at_call 156;have H7:=j7;(try rw[zA HB]);refine (zGN _ ⟨s.hn,s.ha,s.hN,s.hc⟩ k B K n a.2 ((zA HS).hi.bw j7) h2 hn hB o7 hK Z4 hkK fC).mono ?_;rintro r' w2 ⟨o2,i2,j2,_,v2,rfl,G7,o0,b9⟩;have j9:=zB j7 b9;have bO:=zC i2;clear i2 G7;replace k9:=k9.bw b9;obtain⟨q0,q1,q2,q3,q4,q5⟩:=R.bw j9;obtain⟨y0,y1,y2,y3,y4⟩:=zA HK _ j9)
   | (go_at_call 156;rw[zA HB];refine (zGN _ ⟨s.ln,s.la,s.lN,s.lc⟩ k B K n a.1 ((zA HS).lo.bw m8) h1 hn hB o7 hK Z4 hkK fC).mono ?_;rintro r' w1 ⟨o1,i1,j1,k1,v1,rfl,D6,k9,b7⟩;have j7:=zB m8 b7;have aW:=zC i1;have ah:=zC k1;clear k1;clear i1 D6))
 all_goals
  have HO:=zC (zNM hbx (zA Nl) (zA aW) (zA bO));go_wp2_with fail;refine bodyPost_ret (v:=.agg #[.bool v1.ln,.slice v1.la v1.lN v1.lc,.bool v2.hn,.slice v2.ha v2.hN v2.hc,.int .i64 (B:Int)]) (by simp[results,Tryz.results92,go_sem,q0,q1,q2,q3,q4]) rfl ⟨(o1.1,o2.2),zA HO,zA ah,⟨v1.ln,v1.la,v1.lN,v1.lc,v2.hn,v2.ha,v2.hN,v2.hc,(B:Int)⟩,rfl,rfl,?_,?_⟩
  ·exact SpAt.put5 (show SpAt _ (⟨v1.ln,v1.la,v1.lN,v1.lc,v2.hn,v2.ha,v2.hN,v2.hc,(B:Int)⟩:Sp) K o1.1 o2.2 from⟨k9.lo,o0.hi⟩) q0 q1 q2 q3 q4 _ _ _ _ _
  ·exact kB (zB b8 j9) (Yh _) _ _ _ _ _
end Go.Proofs.YtgmnknmjainababGreat
