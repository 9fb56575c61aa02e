/-
  Its own texts.
-/
import Derived.Test.YtgmnknmjainabacGreatH21
set_option maxRecDepth 100000
set_option maxHeartbeats 40000000
set_option linter.unnecessarySimpa false
set_option linter.unusedSimpArgs false
set_option linter.unusedVariables false
namespace Go.Proofs.YtgmnknmjainabacGreat
open Go.RowKit
attribute [local go_sem ↓] Go.wp_at_zero Go.wp_at_succ
open Ex
theorem zFA (w:World) (p q:Int) (b:Nat) (hp:0<p) (hq:0<q) (L9:p<=1152921504606846976) (hb:b<=1000000) :
  Calls Tryz.prog 179 #[.agg #[.int .i64 p,.int .i64 q],.int .i64 b] w (λ r w'=>r=.returned (.int .i64 (2*((b:Int)+p/q+1)))/\Below w.heap.size w w'):=by
 obtain⟨W,hW⟩:∃ W,W=w.alloc (.cells #[.int .i64 p,.int .i64 q] 23):=⟨_,rfl⟩;have j8:Below w.heap.size w W:=by rw[hW];exact bl1 _ _
 have A:RaC W w.heap.size p q:=by rw[hW];exact zL4 w p q _
 have e:p.tdiv q=p/q:=Int.tdiv_eq_ediv_of_nonneg (by omega)
 obtain⟨f,hf⟩:∃ f,f=p/q:=⟨_,rfl⟩;have f0:0<=f:=by rw[hf];exact Int.ediv_nonneg (by omega) (by omega)
 have f1:f<=p:=by rw[hf];exact Int.ediv_le_self _ (by omega)
 have e':p.tdiv q=f:=by rw[e,hf]
 rw[<- hf];have dN:¬ q=0:=by omega
 have bl:¬ q = -1:=by omega
 have lA:=A.lt;obtain⟨a0,a1⟩:=A;clear e hf
 go_enter Tryz.func179,Tryz.ntmps179
 go_wp2;rw[<- hW];clear hW;go_wp2_with fail;refine bodyPost_ret (v:=.int .i64 (2*((b:Int)+f+1))) (by simp[results,Tryz.results179,go_sem]) rfl ⟨rfl,j8⟩
theorem zCS (w:World) (s:Sp) (k b:Nat) (a:Int × Int) (p q:Int) (hs:SpAt w s k a.1 a.2) (hk:k<=100000000) (hb:s.bits=(b:Int)) (CD : -9223372036854775808<=p) (hp:p<=9223372036854775807) (hq:0<q) (bl:q<=9223372036854775807) :
  Calls Tryz.prog 184 #[.agg s.q,.agg #[.int .i64 p,.int .i64 q]] w (zG w b (k+4+10) (zJ a p q).1 (zJ a p q).2):=by
 obtain⟨W,hW⟩:∃ W,W=((w.alloc (.cells s.q 31)).alloc (.cells #[.int .i64 p,.int .i64 q] 23)).alloc (.cells zCq 31):=⟨_,rfl⟩;have j8:Below w.heap.size w W:=by rw[hW];exact bl3 _ _ _ _
 have A:SpC W w.heap.size s:=by rw[hW];constructor<;>simp[go_sem]
 have D:RaC W (w.heap.size+1) p q:=by rw[hW];constructor<;>simp[go_sem]
 have R:NoC W (w.heap.size+1+1):=by rw[hW];constructor<;>simp[go_sem]
 have HS:=zC (hs.bw j8);have HB:=zC hb;have lR:=R.lt;have lA:=A.lt;have lD:=D.lt;clear hs hb;have D7:Below W.heap.size W W.drew:=(Below.refl _ _).drew;have HK:=zC (show ∀ w',Below W.heap.size W w'->(cK w' w.heap.size s (rK0 w' (w.heap.size+1) p q)) from λ w' hB=>⟨(A.bw hB).c0,(A.bw hB).c1,(A.bw hB).c2,(A.bw hB).c3,(A.bw hB).c4,(D.bw hB).c0,(D.bw hB).c1⟩)
 clear A D
 go_enter Tryz.func184,Tryz.ntmps184
 go_wp2;rw[<- hW];clear hW;have n1:w.heap.size+1+1≠w.heap.size:=by omega
 have n2:w.heap.size+1+1≠w.heap.size+1:=by omega
 obtain⟨x0,x1,x2,x3,x4,x5,x6⟩:=zA HK _ (Below.refl _ _)
 go_region_held3 (λ w'=>cK w' w.heap.size s (rK0 w' (w.heap.size+1) p q)) (first|exact zA HK _ (by with_reducible first|exact D7|exact D3|exact o9|exact A6)|(dsimp only[cK,cK0,nK,nK0,rK,rK0];go_keep)|go_keep)
  (first
   | (go_at_call 151;have O4:=o9;refine (zBB _ s ⟨m9,a1,oO,c1⟩ ⟨j6,a2,n2',c2⟩ k 4 _ b a p q ((zA HS).bw o9) (o8.bw j7) A5 (by omega) (by omega) hq (zA HB)).mono ?_;rintro r w3 ⟨t,rfl,J2,P5,o7⟩;have HT:=zC J2;clear J2;have D3:=zB o9 o7;obtain⟨q0,q1,q2,q3,q4,q5⟩:=R.bw D3;obtain⟨i0,i1,i2,i3,i4,i5,i6⟩:=zA HK _ D3)
   | (go_at_call 33;have O4:=A6;refine (zD q _ (by omega) (by omega)).mono ?_;rintro r w2 ⟨j6,a2,n2',c2,rfl,A5,j7⟩;have o9:=zB A6 j7)
   | (go_at_call 33;refine (zD p _ (by omega) (by omega)).mono ?_;rintro r w1 ⟨m9,a1,oO,c1,rfl,o8,b9⟩;have A6:=zB D7 b9))
 all_goals
  go_wp2;refine bodyPost_ret (v:=.agg t.q) (by simp[results,Tryz.results184,go_sem,q0,q1,q2,q3,q4]) rfl ⟨t,rfl,zA HT,?_,?_⟩
  ·exact SpAt.put5 P5 q0 q1 q2 q3 q4 _ _ _ _ _
  ·exact jS (zB j8 D3) (by omega) _ _ _ _ _
theorem lo1_iv (w:World) (B0 B1 B2:Nat) (s:Sp) (u y:Nm) (k ku ky b:Nat) (j:Int) (a:Int × Int) (un d p q:Int) (hs:SpAt w s k a.1 a.2) (hu:IntAt w u.neg u.a u.n u.cap ku un) (hy:IntAt w y.neg y.a y.n y.cap ky d) (U:NmC w B0 u) (Y:NmC w B1 y) (Z:RaC w B2 p q) (hk:k<=100000000) (hku:ku<=100000000) (hky:ky<=100000000) (hb:s.bits=(b:Int)) (hj:0<=j*q) (Co:j*q<=4611686018427387904) (hp:0<p) (L9:p<=4611686018427387903) (hd:0<d) :
  Calls Tryz.prog 183 #[.agg s.q,.int .i64 j,.pointer (some ⟨B0,0,none⟩),.pointer (some ⟨B1,0,none⟩),.pointer (some ⟨B2,0,none⟩)] w (zG w b (k+ku+10) (zJ a un (d*(p+j*q))).1 (zJ a un (d*(p+j*q))).2):=by
 obtain⟨W,hW⟩:∃ W,W=(w.alloc (.cells s.q 31)).alloc (.cells zCq 31):=⟨_,rfl⟩;have j8:Below w.heap.size w W:=by rw[hW];exact bl2 _ _ _
 have A:SpC W w.heap.size s:=by rw[hW];constructor<;>simp[go_sem]
 have R:NoC W (w.heap.size+1):=by rw[hW];constructor<;>simp[go_sem]
 have HS:=zC (hs.bw j8);have HU:=zC (hu.bw j8);have HY:=zC (hy.bw j8);have l0:=U.lt;have l1:=Y.lt;have l2:=Z.lt;replace U:=U.bw j8;replace Y:=Y.bw j8;replace Z:=Z.bw j8;have HB:=zC hb;have lR:=R.lt;have lA:=A.lt;have bo:=zC (show IntKind.i64.wrap (j*q)=j*q from jI _ (by omega) (by omega))
 have dJ:=zC (show IntKind.i64.wrap (p+j*q)=p+j*q from jI _ (by omega) (by omega))
 have pd:=zC (show -9223372036854775808<=p+j*q/\p+j*q<=9223372036854775807 from⟨by omega,by omega⟩)
 have rE:=zC (show 0<d*(p+j*q) from Int.mul_pos hd (by omega))
 clear hs hu hy hb hj Co hp L9;have D7:Below W.heap.size W W.drew:=(Below.refl _ _).drew;have HK:=zC (show ∀ w',Below W.heap.size W w'->(cK w' w.heap.size s (nK w' B0 u (nK w' B1 y (rK0 w' B2 p q)))) from λ w' hB=>⟨(A.bw hB).c0,(A.bw hB).c1,(A.bw hB).c2,(A.bw hB).c3,(A.bw hB).c4,(U.bw hB).c0,(U.bw hB).c1,(Y.bw hB).c0,(Y.bw hB).c1,(Z.bw hB).c0,(Z.bw hB).c1⟩)
 clear U Y Z A
 go_enter Tryz.func183,Tryz.ntmps183
 go_wp2;rw[<- hW];clear hW;have Dq:w.heap.size+1≠B0:=by omega
 have Fs:w.heap.size+1≠B1:=by omega
 have Rz:w.heap.size+1≠B2:=by omega
 obtain⟨x0,x1,x2,x3,x4,x5,x6,x7,x8,x9,FV⟩:=zA HK _ (Below.refl _ _)
 go_region_held3 (λ w'=>cK w' w.heap.size s (nK w' B0 u (nK w' B1 y (rK0 w' B2 p q)))) (first|exact zA HK _ (by with_reducible first|exact D7|exact D3|exact o9|exact A6)|(dsimp only[cK,cK0,nK,nK0,rK,rK0];go_keep)|go_keep)
  (first
   | (go_at_call 151;have O4:=o9;refine (zBB _ s u ⟨j6,a2,n2,c2⟩ k ku _ b a un (d*(p+j*q)) ((zA HS).bw o9) ((zA HU).bw o9) A5 (by omega) (by omega) (zA rE) (zA HB)).mono ?_;rintro r w3 ⟨t,rfl,J2,P5,o7⟩;have HT:=zC J2;clear J2;have D3:=zB o9 o7;obtain⟨q0,q1,q2,q3,q4,q5⟩:=R.bw D3;obtain⟨i0,i1,i2,i3,i4,i5,i6,i7,i8,i9,i10⟩:=zA HK _ D3)
   | (go_at_call 83;have O4:=A6;refine (zX _ _ _ _ _ _ _ _ ky 4 d (p+j*q) _ ((zA HY).bw A6) o8 (by omega) (by omega)).mono ?_;rintro r w2 ⟨j6,a2,n2,c2,rfl,A5,j7⟩;have o9:=zB A6 j7)
   | (go_at_call 33;(first|rw[zA bo,zA dJ]|rw[zA dJ]);refine (zD (p+j*q) _ (zA pd).1 (zA pd).2).mono ?_;rintro r w1 ⟨m9,a1,n1,c1,rfl,o8,b9⟩;have A6:=zB D7 b9))
 all_goals
  go_wp2;refine bodyPost_ret (v:=.agg t.q) (by simp[results,Tryz.results183,go_sem,q0,q1,q2,q3,q4]) rfl ⟨t,rfl,zA HT,?_,?_⟩
  ·exact SpAt.put5 P5 q0 q1 q2 q3 q4 _ _ _ _ _
  ·exact jS (zB j8 D3) (Nat.le_succ _) _ _ _ _ _
theorem en_lo (args:Array Value) (w:World):(callFunc 183 args).run Tryz.prog w=.ok (.enter 183 args) w:=by simp[go_sem,callFunc,Tryz.func183];kernel_rfl
def LgAt (n d:Int) (b:Nat) (l u:Int):Prop:=∀ w':World,Calls Tryz.prog 185 #[.int .i64 n,.int .i64 d,.int .i64 b] w' (zG w' b 521 l u)
def zP2 (n d:Int) (b:Nat) (x:Nat->Rat):Prop:=∃ l u,LgP2 x b l u/\LgAt n d b l u
def rok2 (p q:Int):Prop := -1048576<=p/\p<=1048576/\1<=q/\q<=2048
theorem zL1 {p q:Int} (h1 : -1048576<=p) (h2:p<=1048576) (h3:0<=q) (h4:q<=2048) : -2147483648<=p*q/\p*q<=2147483648:=by
 have:=yU (x:=p) (y:=q) (m:=1048576) (n:=2048) h1 h2 (by omega) h4
 omega
theorem zKV (w:World) (p1 q1 p2 q2:Int) (h1:rok2 p1 q1) (h2:rok2 p2 q2) :
  Calls Tryz.prog 186 #[.agg #[.int .i64 p1,.int .i64 q1],.agg #[.int .i64 p2,.int .i64 q2]] w (λ r w'=>r=.returned (.agg #[.int .i64 (p1*q2+p2*q1),.int .i64 (q1*q2)])/\Below w.heap.size w w'):=by
 obtain⟨a1,a2,a3,a4⟩:=h1;obtain⟨b1,b2,b3,b4⟩:=h2;obtain⟨c1,c2⟩:=zL1 a1 a2 (show 0<=q2 by omega) b4
 obtain⟨d1,d2⟩:=zL1 b1 b2 (show 0<=q1 by omega) a4
 obtain⟨e1,e2⟩:=zL1 (p:=q1) (by omega) (by omega) (show 0<=q2 by omega) b4
 go_enter Tryz.func186,Tryz.ntmps186
 go_wp2_with fail;refine bodyPost_ret (v:=.agg #[.int .i64 (p1*q2+p2*q1),.int .i64 (q1*q2)]) (by simp[results,Tryz.results186,go_sem]) rfl ⟨rfl,?_⟩
 exact bl3 _ _ _ _
theorem zO2 (w:World) (p1 q1 p2 q2:Int) (b:Nat) (l1 u1 l2 u2 l3 u3:Int) (h1:rok2 p1 q1) (h2:rok2 p2 q2) (L1:LgAt p1 q1 b l1 u1) (L2:LgAt p2 q2 b l2 u2) (L3:LgAt (p1*q2+p2*q1) (q1*q2) b l3 u3) :
  Calls Tryz.prog 188 #[.agg #[.int .i64 p1,.int .i64 q1],.agg #[.int .i64 p2,.int .i64 q2],.int .i64 b] w (zG w b 523 (l1+l2-u3) (u1+u2-l3)):=by
 obtain⟨W,hW⟩:∃ W,W=((w.alloc (.cells #[.int .i64 p1,.int .i64 q1] 23)).alloc (.cells #[.int .i64 p2,.int .i64 q2] 23)).alloc (.cells zCq 31):=⟨_,rfl⟩;have j8:Below w.heap.size w W:=by rw[hW];exact bl3 _ _ _ _
 have A:RaC W w.heap.size p1 q1:=by rw[hW];constructor<;>simp[go_sem]
 have D:RaC W (w.heap.size+1) p2 q2:=by rw[hW];constructor<;>simp[go_sem]
 have R:NoC W (w.heap.size+1+1):=by rw[hW];constructor<;>simp[go_sem]
 have H1:=zC L1;have H2:=zC L2;have H3:=zC L3;have HR:=zC (And.intro h1 h2);have lA:=A.lt;have lD:=D.lt;have WI:=A.c0;have WJ:=A.c1;have WK:=D.c0;have WL:=D.c1;clear L1 L2 L3 h1 h2
 go_enter Tryz.func188,Tryz.ntmps188
 go_wp2_with fail;rw[<- hW];clear hW WI WJ WK WL;refine (zKV _ p1 q1 p2 q2 (zA HR).1 (zA HR).2).mono ?_;rintro r w1 ⟨rfl,b9⟩;replace A:=A.bw b9;replace D:=D.bw b9;replace R:=R.bw b9;replace j8:=zB j8 b9;clear b9 lA lD;have lR:=R.lt;obtain⟨V,hV⟩:∃ V,V=w1.alloc (.cells #[.int .i64 (p1*q2+p2*q1),.int .i64 (q1*q2)] 23):=⟨_,rfl⟩;have bV:Below w1.heap.size w1 V:=by rw[hV];exact bl1 _ _
 have E:RaC V w1.heap.size (p1*q2+p2*q1) (q1*q2):=by rw[hV];exact zL4 w1 _ _ _
 replace A:=A.bw bV;replace D:=D.bw bV;replace R:=R.bw bV;replace j8:=zB j8 bV;have lA:=A.lt;have lD:=D.lt;have lE:=E.lt;have HK:=zC (show ∀ w',Below V.heap.size V w'->(rK w' w.heap.size p1 q1 (rK w' ((w.heap.size+1)) p2 q2 (w'.cell? ⟨w1.heap.size,0,none⟩=some (.int .i64 (p1*q2+p2*q1))/\w'.cell? ⟨w1.heap.size,1,none⟩=some (.int .i64 (q1*q2))))) from λ w' hB=>⟨(A.bw hB).c0,(A.bw hB).c1,(D.bw hB).c0,(D.bw hB).c1,(E.bw hB).c0,(E.bw hB).c1⟩)
 clear bV;go_wp2_with fail;rw[<- hV];clear hV
 go_cut [8] (λ p wx=>∃ (B:Nat) (u:Sp),p=.pointer (some ⟨B,0,none⟩)/\V.heap.size<=B/\VrC wx B u/\SpAt wx u 522 (((l1+l2,u1+u2):Int × Int)).1 (((l1+l2,u1+u2):Int × Int)).2/\u.bits=(b:Int)/\Below V.heap.size V wx)
 case first =>
  go_region_held3 (λ w'=>rK w' w.heap.size p1 q1 (rK w' ((w.heap.size+1)) p2 q2 (w'.cell? ⟨w1.heap.size,0,none⟩=some (.int .i64 (p1*q2+p2*q1))/\w'.cell? ⟨w1.heap.size,1,none⟩=some (.int .i64 (q1*q2))))) (exact zA HK _ (by repeat' (first|with_reducible exact rY|with_reducible exact jv|with_reducible exact jt|with_reducible exact Below.refl _ _|with_reducible refine Below.drew ?_|with_reducible refine zL ?_ _|with_reducible refine Below.setCell ?_ (by first|exact Zb _|exact vo|exact vw|exact vx) _)))
   (first
    | (go_at_call 51;have hq:=jv;refine (zCT _ vE1 vE2 521 b (l1,u1) (l2,u2) ((IG.bw sL).bw (by with_reducible first|exact Below.refl _ _|exact bl1 _ _)) (IH.bw (by with_reducible first|exact Below.refl _ _|exact bl1 _ _)) (by omega) (zA AJ)).mono ?_;rintro r Sq ⟨Sc,rfl,qy,II,tk⟩;have AL:=zC qy;clear qy;have sM:Below Fz.heap.size Fz Sq:=(by with_reducible first|exact tk|exact zB (bl1 _ _) tk);have rY:=zB jv sM;(try with_reducible have Pj:=(zS Fz 31).bw tk);(try replace gE1:=gE1.bw sM);(try replace gE2:=gE2.bw sM);have vx:=rY.size;(try have QY:=gE1.lt);(try have eE1:=Zg QY);(try have VR:=Zf QY);(try obtain⟨KB,KC,KE,KG,KH,zE15⟩:=gE1);(try have QZ:=gE2.lt);(try have eE2:=Zg QZ);(try have VS:=Zf QZ);(try obtain⟨KI,KJ,KL,KM,KN,zE25⟩:=gE2);(try have Ra:=Pj.lt);(try have eE3:=Zg Ra);(try have VT:=Zf Ra);(try obtain⟨KO,KP,KQ,KR,KS,zE35⟩:=Pj))
    | (go_at_call 185;have hq:=jt;refine (zA H2 _).mono ?_;rintro r Fz ⟨vE2,rfl,qx,IH,tj⟩;have Ov:=zC qx;clear qx;have sL:Below Fy.heap.size Fy Fz:=(by with_reducible first|exact tj|exact zB (bl1 _ _) tj);have jv:=zB jt sL;(try with_reducible have gE2:=(zS Fy 31).bw tj);(try replace gE1:=gE1.bw sL);have vw:=jv.size)
    | (go_at_call 185;refine (zA H1 _).mono ?_;rintro r Fy ⟨vE1,rfl,qw,IG,th⟩;have AJ:=zC qw;clear qw;have jt:Below V.heap.size V Fy:=(by with_reducible first|exact zB (Below.refl _ _).drew th|exact zB (bl1 _ _).drew th);(try with_reducible have gE1:=((zS V 31).bw (Below.refl _ _).drew).bw th);have vo:=jt.size))
  all_goals
   have hfinE:SpAt Sq Sc 522 (((l1+l2,u1+u2):Int × Int)).1 (((l1+l2,u1+u2):Int × Int)).2:=II;go_wp2_with fail;go_meet;refine⟨_,Sc,rfl,?_,⟨⟨?_,?_,?_,?_,?_⟩,?_⟩,?_,zA AL,?_⟩
   ·first|exact Zb _|exact vo|exact vw|exact vx
   ·simp[go_sem, *]
   ·simp[go_sem, *]
   ·simp[go_sem, *]
   ·simp[go_sem, *]
   ·simp[go_sem, *]
   ·intro o;simp[go_sem, *]
   ·first|with_reducible exact SpAt.put5 hfinE KO KP KQ KR KS _ _ _ _ _|with_reducible exact SpAt.put5 hfinE KI KJ KL KM KN _ _ _ _ _|with_reducible exact SpAt.put5 hfinE KB KC KE KG KH _ _ _ _ _|with_reducible exact hfinE.bw (bl1 _ _)
   ·repeat' (first|with_reducible exact rY|with_reducible exact jv|with_reducible exact jt|with_reducible exact Below.refl _ _|with_reducible refine Below.drew ?_|with_reducible refine zL ?_ _|with_reducible refine Below.setCell ?_ (by first|exact Zb _|exact vo|exact vw|exact vx) _)
 case rest =>
 obtain⟨BE,xE,rfl,hHE,XE,hpE,hxbE,hblE⟩:=hcut;replace A:=A.bw hblE;replace D:=D.bw hblE;replace E:=E.bw hblE;have bg:=R.lt;replace R:=R.bw hblE;replace j8:=zB j8 hblE;have Gk:=zC hxbE;have SX:=zC hpE;have lXE:=XE.lt;have gM:=zC (show ∀ w',Below wc.heap.size wc w'->(rK w' w.heap.size p1 q1 (rK w' ((w.heap.size+1)) p2 q2 (w'.cell? ⟨w1.heap.size,0,none⟩=some (.int .i64 (p1*q2+p2*q1))/\w'.cell? ⟨w1.heap.size,1,none⟩=some (.int .i64 (q1*q2))/\cK0 w' BE xE))) from λ w' hB=>⟨(A.bw hB).c0,(A.bw hB).c1,(D.bw hB).c0,(D.bw hB).c1,(E.bw hB).c0,(E.bw hB).c1,(XE.c.bw hB).c0,(XE.c.bw hB).c1,(XE.c.bw hB).c2,(XE.c.bw hB).c3,(XE.c.bw hB).c4⟩)
 have Db:=A.lt;have JZ:=D.lt;have lE2:=E.lt;have iz:=R.lt;have n1:w.heap.size+1+1≠w.heap.size:=by omega
 have n2:w.heap.size+1+1≠w.heap.size+1:=by omega
 have n3:w.heap.size+1+1≠w1.heap.size:=by omega
 have n4:w.heap.size+1+1≠BE:=by omega
 clear hxbE hpE HK hblE A D E XE;have D5:Below wc.heap.size wc wc.drew:=(Below.refl _ _).drew;obtain⟨x0,x1,x2,x3,x4,x5,y0,y1,y2,y3,y4⟩:=zA gM _ (Below.refl _ _);go_wp2_with fail
 go_region_held3 (λ w'=>rK w' w.heap.size p1 q1 (rK w' ((w.heap.size+1)) p2 q2 (w'.cell? ⟨w1.heap.size,0,none⟩=some (.int .i64 (p1*q2+p2*q1))/\w'.cell? ⟨w1.heap.size,1,none⟩=some (.int .i64 (q1*q2))/\cK0 w' BE xE))) (first|exact zA gM _ (by with_reducible first|exact D5|exact p9|exact s9)|(dsimp only[cK,cK0,nK,nK0,rK,rK0];go_keep)|go_keep)
  (first
   | (go_at_call 92;have O4:=s9;refine (zHM _ xE v1 522 b (l1+l2,u1+u2) (l3,u3) ((zA SX).bw s9) (o8.mono (by omega)) (by omega) (zA Gk)).mono ?_;rintro r' w5 ⟨t,rfl,J2,P5,j7⟩;have HT:=zC J2;clear J2;have p9:=zB s9 j7;obtain⟨q0,RS,DI,q3,q4,q5⟩:=R.bw p9;obtain⟨i0,i1,i2,i3,i4,i5,j0,j1,j2,j3,j4⟩:=zA gM _ p9)
   | (go_at_call 185;refine (zA H3 _).mono ?_;rintro r' w4 ⟨v1,rfl,J3,o8,b9⟩;clear J3;have s9:=zB D5 b9))
 all_goals
  go_wp2_with fail;refine bodyPost_ret (v:=.agg t.q) (by simp[results,Tryz.results188,go_sem,q0,RS,DI,q3,q4]) rfl ⟨t,rfl,zA HT,?_,?_⟩
  ·exact SpAt.put5 P5 q0 RS DI q3 q4 _ _ _ _ _
  ·exact jS (zB j8 p9) (by omega) _ _ _ _ _
theorem pt1_iv (w:World) (B0 B1 B2 B3 B4:Nat) (v:Sp) (x y:Nm) (k b:Nat) (j:Int) (a:Int × Int) (bn bd p q r s n d:Int) (hs:SpAt w v k a.1 a.2) (hx:IntAt w x.neg x.a x.n x.cap 4 n) (hy:IntAt w y.neg y.a y.n y.cap 4 d) (Z:RaC w B0 bn bd) (A:RaC w B1 p q) (D:RaC w B2 r s) (X:NmC w B3 x) (Y:NmC w B4 y) (hk:k<=100000000) (hb:v.bits=(b:Int)) (j0:1<=j) (j1:j<=1000000) (z0:0<=(j-1)*bd) (z1:(j-1)*bd<=1152921504606846976) (Vs:0<=bn) (Vt:bn<=1152921504606846976) (y0:0<=j*q) (y1:j*q<=1152921504606846976) (p0:0<p) (p1:p<=1152921504606846976) (t0:0<(p+j*q)*s) (t1:(p+j*q)*s<=1152921504606846976) (hd:0<d) :
  Calls Tryz.prog 187 #[.agg v.q,.int .i64 j,.pointer (some ⟨B0,0,none⟩),.pointer (some ⟨B1,0,none⟩),.pointer (some ⟨B2,0,none⟩),.pointer (some ⟨B3,0,none⟩),.pointer (some ⟨B4,0,none⟩)] w (zG w b (k+8+10) (zJ a (n*(bn+(j-1)*bd)) (d*((p+j*q)*s))).1 (zJ a (n*(bn+(j-1)*bd)) (d*((p+j*q)*s))).2):=by
 obtain⟨W,hW⟩:∃ W,W=(w.alloc (.cells v.q 31)).alloc (.cells zCq 31):=⟨_,rfl⟩;have j8:Below w.heap.size w W:=by rw[hW];exact bl2 _ _ _
 have V:SpC W w.heap.size v:=by rw[hW];constructor<;>simp[go_sem]
 have R:NoC W (w.heap.size+1):=by rw[hW];constructor<;>simp[go_sem]
 have HS:=zC (hs.bw j8);have HX:=zC (hx.bw j8);have HY:=zC (hy.bw j8);have l3:=X.lt;have l4:=Y.lt;replace X:=X.bw j8;replace Y:=Y.bw j8;replace Z:=Z.bw j8;replace A:=A.bw j8;replace D:=D.bw j8;have HB:=zC hb;have rE:=zC (show 0<(d*((p+j*q)*s)) from Int.mul_pos hd t0)
 have lR0:=R.lt;clear hs hx hy hb hd;obtain⟨za,zb⟩:=Z
 go_enter Tryz.func187,Tryz.ntmps187
 go_upto_region 1 with fail
 rw[<- hW];clear hW;go_wp2_with fail;clear za zb;refine (zD (bn+(j-1)*bd) _ (by omega) (by omega)).mono ?_
 rintro r1 w1 ⟨m9,a1,n1,c1,rfl,o8,b9⟩;clear z0 z1 Vs Vt;obtain⟨V1,L8⟩:∃ V,V=w1.alloc (.cells #[.bool m9,.slice a1 n1 c1] 29):=⟨_,rfl⟩;have aB:Below w1.heap.size w1 V1:=by rw[L8];exact bl1 _ _
 have W4:=zB b9 aB;have U1:NmC V1 w1.heap.size ⟨m9,a1,n1,c1⟩:=by rw[L8];constructor<;>simp[go_sem]
 have nP:=zC (o8.bw aB);have lw1:=b9.size;have lU0:=U1.lt;replace V:=V.bw W4;replace R:=R.bw W4;replace X:=X.bw W4;replace Y:=Y.bw W4;replace A:=A.bw W4;replace D:=D.bw W4;replace HS:=zC ((zA HS).bw W4);replace HX:=zC ((zA HX).bw W4);replace HY:=zC ((zA HY).bw W4);replace j8:=zB j8 W4;clear b9 W4 aB o8;have aa:=A.c0;have ab:=A.c1;have db:=D.c1;have lA:=A.lt;have lD:=D.lt
 go_upto_region 2 with fail
 rw[<- L8];clear L8;go_wp2_with fail;clear aa ab db A D lA lD y0 y1 p0 p1;refine (zD ((p+j*q)*s) _ (by omega) (by omega)).mono ?_
 rintro r2 w2 ⟨j6,a2,n2,c2,rfl,A5,j7⟩;obtain⟨V2,P8⟩:∃ V,V=w2.alloc (.cells #[.bool j6,.slice a2 n2 c2] 29):=⟨_,rfl⟩;have O6:Below w2.heap.size w2 V2:=by rw[P8];exact bl1 _ _
 have S3:=zB j7 O6;have U2:NmC V2 w2.heap.size ⟨j6,a2,n2,c2⟩:=by rw[P8];constructor<;>simp[go_sem]
 have xG:=zC (A5.bw O6);have lw2:=j7.size;replace V:=V.bw S3;replace R:=R.bw S3;replace X:=X.bw S3;replace Y:=Y.bw S3;replace U1:=U1.bw S3;replace nP:=zC ((zA nP).bw S3);replace HS:=zC ((zA HS).bw S3);replace HX:=zC ((zA HX).bw S3);replace HY:=zC ((zA HY).bw S3);replace j8:=zB j8 S3;clear j7 S3 O6 A5 t0 t1 j0 j1;have lR:=R.lt;have lV:=V.lt;have lX:=X.lt;have lY:=Y.lt;have lU1:=U1.lt;have lU2:=U2.lt;have HK:=zC (show ∀ w',Below V2.heap.size V2 w'->(cK w' w.heap.size v (nK w' B3 x (nK w' B4 y (nK w' w1.heap.size (⟨m9,a1,n1,c1⟩:Nm) (nK0 w' w2.heap.size (⟨j6,a2,n2,c2⟩:Nm)))))) from λ w' hB=>⟨(V.bw hB).c0,(V.bw hB).c1,(V.bw hB).c2,(V.bw hB).c3,(V.bw hB).c4,(X.bw hB).c0,(X.bw hB).c1,(Y.bw hB).c0,(Y.bw hB).c1,(U1.bw hB).c0,(U1.bw hB).c1,(U2.bw hB).c0,(U2.bw hB).c1⟩)
 have D7:Below V2.heap.size V2 V2.drew:=(Below.refl _ _).drew;clear V X Y U1 U2;have nB3:w.heap.size+1≠B3:=by omega
 have nB4:w.heap.size+1≠B4:=by omega
 have nB5:w.heap.size+1≠w1.heap.size:=by omega
 have nB6:w.heap.size+1≠w2.heap.size:=by omega
 go_wp2_with fail;rw[<- P8];clear P8;obtain⟨x0,x1,x2,x3,x4,x5,x6,x7,x8,x9,FV,SC,SD⟩:=zA HK _ (Below.refl _ _)
 go_region_held3 (λ w'=>cK w' w.heap.size v (nK w' B3 x (nK w' B4 y (nK w' w1.heap.size (⟨m9,a1,n1,c1⟩:Nm) (nK0 w' w2.heap.size (⟨j6,a2,n2,c2⟩:Nm)))))) (first|exact zA HK _ (by with_reducible first|exact D7|exact D3|exact o9|exact A6)|(dsimp only[cK,cK0,nK,nK0,rK,rK0];go_keep)|go_keep)
  (first
   | (go_at_call 151;have O4:=o9;refine (zBB _ v ⟨B8,a3,n3,c3⟩ ⟨E6,a4,n4,c4⟩ k 8 8 b a (n*(bn+(j-1)*bd)) (d*((p+j*q)*s)) ((zA HS).bw o9) (G0.bw y9) I2 (by omega) (by omega) (zA rE) (zA HB)).mono ?_;rintro r w5 ⟨t,rfl,J2,P5,D8⟩;have HT:=zC J2;clear J2;have D3:=zB o9 D8;obtain⟨q0,q1,q2,q3,q4,q5⟩:=R.bw D3;obtain⟨i0,i1,i2,i3,i4,i5,i6,i7,i8,i9,i10,i11,i12⟩:=zA HK _ D3)
   | (go_at_call 83;have O4:=A6;refine (zX _ _ _ _ _ _ _ _ 4 4 d ((p+j*q)*s) _ ((zA HY).bw A6) ((zA xG).bw A6) (by omega) (by omega)).mono ?_;rintro r w4 ⟨E6,a4,n4,c4,rfl,I2,y9⟩;have o9:=zB A6 y9)
   | (go_at_call 83;refine (zX _ _ _ _ _ _ _ _ 4 4 n (bn+(j-1)*bd) _ ((zA HX).bw D7) ((zA nP).bw D7) (by omega) (by omega)).mono ?_;rintro r w3 ⟨B8,a3,n3,c3,rfl,G0,o7⟩;have A6:=zB D7 o7))
 all_goals
  go_wp2;refine bodyPost_ret (v:=.agg t.q) (by simp[results,Tryz.results187,go_sem,q0,q1,q2,q3,q4]) rfl ⟨t,rfl,zA HT,?_,?_⟩
  ·exact SpAt.put5 P5 q0 q1 q2 q3 q4 _ _ _ _ _
  ·exact jS (zB j8 D3) (Nat.le_succ _) _ _ _ _ _
theorem en_pt (args:Array Value) (w:World):(callFunc 187 args).run Tryz.prog w=.ok (.enter 187 args) w:=by simp[go_sem,callFunc,Tryz.func187];kernel_rfl
def lwX (L:Rat->Nat->Rat) (p q n d:Int) (g:Nat->Rat):Nat->Rat:=if n=0 then λ _=>0 else lw L ((p:Rat)/(q:Rat)) ((n:Rat)/(d:Rat)) g
structure LwAr (p q n d:Int) (B:Nat):Prop where
 p0:0<p
 q0:0<q
 pq:p<=100*q
 qq:q<=1048576
 n0:0<=n
 d0:0<d
 nn:n<=1099511627776
 dd:d<=1048576
 b0:40<=B
 b1:B<=400
theorem zHE {x:Nat->Rat} {B:Nat} {l u:Int} (h:LwPr x B l u) (hB:B<=400):l<=u /\ -P 30<l/\u<P 30:=by
 have h1:=zH (show B+1<=16*30 by omega)
 rw[Q_P] at h1;have h2:Q (B+1)=2*Q B:=rfl;have:=zE B;have:=h.lo;have:=h.hi;exact⟨h.le,by omega,by omega⟩
theorem lu_exp {L:Rat->Nat->Rat} {p q n d:Int} {B NS:Nat} {o:Int × Int} {lg ug:Int} {X g:Nat->Rat} (h:zMO p q n d B) (ho:zDT L ((n:Rat)/(d:Rat)) B o) (hg:LgP2 X B lg ug) (hL:Lns L) (ig:IsGam L ((p:Rat)/(q:Rat)) g) (hX:IsLog X (λ M=>(p:Rat)/(q:Rat)*g M)) (hS:NS<=70000) (lv:yK (luT p q n d B) (luN n d) NS) :
  ∃ (l:Int) (t NE:Nat),yR (zW (luY p q n d B o (lg,ug))) l/\(t:Int)=max 0 (l-B+8)/\t<=26/\Abs (zF (luY p q n d B o (lg,ug)) t) (Q (B-8))/\zU (zV B (zF (luY p q n d B o (lg,ug)) t)) NE/\Q (B+eb t)<P 49300/\(luY p q n d B o (lg,ug)).1<=(luY p q n d B o (lg,ug)).2 /\
   (0<(luE p q n d B o (lg,ug) t NE).1/\(luE p q n d B o (lg,ug) t NE).1<=(luE p q n d B o (lg,ug) t NE).2/\0<=(zA2 p q n d B NS).1/\(zA2 p q n d B NS).1<=(zA2 p q n d B NS).2/\LwPr (lw L ((p:Rat)/(q:Rat)) ((n:Rat)/(d:Rat)) g) B (zDN (zA2 p q n d B NS).1 (zA2 p q n d B NS).2 (luE p q n d B o (lg,ug) t NE).1 (luE p q n d B o (lg,ug) t NE).2 B) (zNO (zA2 p q n d B NS) (luE p q n d B o (lg,ug) t NE) B)):=by
 obtain⟨y1,y2,y3,y4⟩:=luY_ok h ho hg;have b0:=h.b0;have b1:=h.b1;have qB:=zE B
 have r:zW (luY p q n d B o (lg,ug))<Q (B+18):=by
  have a:=zAJ y3;have e:Q (B+18)=Q B*Q 18:=jD B 18;have VJ:Q 18=262144:=rfl;rw[VJ] at e;omega
 obtain⟨l,t,NE,e1,e2,e3,e4,e5⟩:=zC3 (B:=B) (e:=18) (by omega) y1 r
 refine⟨l,t,NE,e1,e2,by omega,e4,e5,?_,y1,lw_ok hL h ig hX ho hg (by omega) e4 e5 hS lv⟩
 rw[<- Q_P];have ebm:=zAP (show t<=26 by omega)
 have Hp:eb 26=786432:=by decide
 rw[Hp] at ebm;have h1:=zH (show B+eb t+1<=16*49300 by omega)
 have h2:∀ j,Q (j+1)=2*Q j:=λ _=>rfl
 rw[h2] at h1;have:=zE (B+eb t);generalize Q (B+eb t)=y at *;generalize Q (16*49300)=z at *;omega
theorem bl5 (w:World) (o1 o2 o3 o4 o5:Obj):Below w.heap.size w (((((w.alloc o1).alloc o2).alloc o3).alloc o4).alloc o5):=(bl4 w o1 o2 o3 o4).alloc (by simp;omega) _
theorem zDM (L:Rat->Nat->Rat) (hL:Lns L) (b:Nat) (n d:Int) (bC:n<=9223372036854775807) (nG:d<=9223372036854775807) (hn:0<n) (hd:0<d) (E8:40<=b) (hb:b<=400) :
  ∃ o,zDT L ((n:Rat)/(d:Rat)) b o/\LogX 4 n d b 520 o:=by
 have Vp:=big64
 obtain⟨n',d',cc,N1,N2,O9,E4,G3,cF,bj,h⟩:=zBH 4 b 500 n d (by omega) (by omega) (by omega) hn hd (by omega) (by omega) (by
  rw[<- Q_P];have h1:=zH (show b+4+1<=16*500 by omega)
  have h2:Q (b+4+1)=2*Q (b+4):=rfl;have:=zE (b+4)
  omega) (by omega)
 exact⟨_,lwLog_of hL hn hd (by omega) O9 (by omega) (by omega) cF bj,h⟩
def bvX (L:Rat->Nat->Rat) (p q r s n d:Int):Nat->Rat:=if n=0 then λ _=>0 else if n=d then λ _=>1 else bv L ((p:Rat)/(q:Rat)) ((r:Rat)/(s:Rat)) ((n:Rat)/(d:Rat))
end Go.Proofs.YtgmnknmjainabacGreat
