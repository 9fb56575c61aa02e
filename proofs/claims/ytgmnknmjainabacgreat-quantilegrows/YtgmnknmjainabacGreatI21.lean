/-
  Its own texts.
-/
import Derived.Test.YtgmnknmjainabacGreatI20
set_option maxRecDepth 100000
set_option maxHeartbeats 40000000
set_option linter.unnecessarySimpa false
set_option linter.unusedSimpArgs false
set_option linter.unusedVariables false
namespace Go.Proofs.YtgmnknmjainabacGreat
open Go.RowKit
attribute [local go_sem ↓] Go.wp_at_zero Go.wp_at_succ
open Ex
theorem zE5 (w:World) (p q:Int) (b:Nat) (hp:0<p) (hq:0<q) (I2:p<=1152921504606846976) (hb:b<=1000000) :
  Calls Tryz.prog 179 #[.agg #[.int .i64 p,.int .i64 q],.int .i64 b] w (λ r w'=>r=.returned (.int .i64 (2*((b:Int)+p/q+1)))/\Below w.heap.size w w'):=by
 obtain⟨W,hW⟩:∃ W,W=w.alloc (.cells #[.int .i64 p,.int .i64 q] 23):=⟨_,rfl⟩;have j7:Below w.heap.size w W:=by rw[hW];exact bl1 _ _
 have A:RaC W w.heap.size p q:=by rw[hW];exact zL1 w p q _
 have e:p.tdiv q=p/q:=Int.tdiv_eq_ediv_of_nonneg (by omega)
 obtain⟨f,hf⟩:∃ f,f=p/q:=⟨_,rfl⟩;have f0:0<=f:=by rw[hf];exact Int.ediv_nonneg (by omega) (by omega)
 have f1:f<=p:=by rw[hf];exact Int.ediv_le_self _ (by omega)
 have e':p.tdiv q=f:=by rw[e,hf]
 rw[<- hf];have aX:¬ q=0:=by omega
 have O2:¬ q = -1:=by omega
 have lA:=A.lt;obtain⟨a0,a1⟩:=A;clear e hf
 go_enter Tryz.func179,Tryz.ntmps179
 go_wp2;rw[<- hW];clear hW;go_wp2_with fail;refine bodyPost_ret (v:=.int .i64 (2*((b:Int)+f+1))) (by simp[results,Tryz.results179,go_sem]) rfl ⟨rfl,j7⟩
theorem zCX (w:World) (s:Sp) (k b:Nat) (a:Int × Int) (p q:Int) (hs:SpAt w s k a.1 a.2) (hk:k<=100000000) (hb:s.bits=(b:Int)) (Di : -9223372036854775808<=p) (hp:p<=9223372036854775807) (hq:0<q) (O2:q<=9223372036854775807) :
  Calls Tryz.prog 184 #[.agg s.q,.agg #[.int .i64 p,.int .i64 q]] w (zH w b (k+4+10) (zK a p q).1 (zK a p q).2):=by
 obtain⟨W,hW⟩:∃ W,W=((w.alloc (.cells s.q 31)).alloc (.cells #[.int .i64 p,.int .i64 q] 23)).alloc (.cells zCq 31):=⟨_,rfl⟩;have j7:Below w.heap.size w W:=by rw[hW];exact bl3 _ _ _ _
 have A:SpC W w.heap.size s:=by rw[hW];constructor<;>simp[go_sem]
 have D:RaC W (w.heap.size+1) p q:=by rw[hW];constructor<;>simp[go_sem]
 have R:NoC W (w.heap.size+1+1):=by rw[hW];constructor<;>simp[go_sem]
 have HS:=zC (hs.bw j7);have HB:=zC hb;have lR:=R.lt;have lA:=A.lt;have lD:=D.lt;clear hs hb;have C8:Below W.heap.size W W.drew:=(Below.refl _ _).drew;have HK:=zC (show ∀ w',Below W.heap.size W w'->(cK w' w.heap.size s (rK0 w' (w.heap.size+1) p q)) from λ w' hB=>⟨(A.bw hB).c0,(A.bw hB).c1,(A.bw hB).c2,(A.bw hB).c3,(A.bw hB).c4,(D.bw hB).c0,(D.bw hB).c1⟩)
 clear A D
 go_enter Tryz.func184,Tryz.ntmps184
 go_wp2;rw[<- hW];clear hW;have n1:w.heap.size+1+1≠w.heap.size:=by omega
 have n2:w.heap.size+1+1≠w.heap.size+1:=by omega
 obtain⟨x0,x1,x2,x3,x4,x5,x6⟩:=zA HK _ (Below.refl _ _)
 go_region_held3 (λ w'=>cK w' w.heap.size s (rK0 w' (w.heap.size+1) p q)) (first|exact zA HK _ (by with_reducible first|exact C8|exact A8|exact o9|exact A6)|(dsimp only[cK,cK0,nK,nK0,rK,rK0];go_keep)|go_keep)
  (first
   | (go_at_call 151;have K4:=o9;refine (zA9 _ s ⟨m7,a1,gR,c1⟩ ⟨j6,a2,Ll,c2⟩ k 4 _ b a p q ((zA HS).bw o9) (o8.bw j8) A5 (by omega) (by omega) hq (zA HB)).mono ?_;rintro r w3 ⟨t,rfl,I8,P1,m9⟩;have HT:=zC I8;clear I8;have A8:=zB o9 m9;obtain⟨q0,q1,q2,q3,q4,q5⟩:=R.bw A8;obtain⟨i0,i1,i2,i3,i4,i5,i6⟩:=zA HK _ A8)
   | (go_at_call 33;have K4:=A6;refine (zD q _ (by omega) (by omega)).mono ?_;rintro r w2 ⟨j6,a2,Ll,c2,rfl,A5,j8⟩;have o9:=zB A6 j8)
   | (go_at_call 33;refine (zD p _ (by omega) (by omega)).mono ?_;rintro r w1 ⟨m7,a1,gR,c1,rfl,o8,b9⟩;have A6:=zB C8 b9))
 all_goals
  go_wp2;refine bodyPost_ret (v:=.agg t.q) (by simp[results,Tryz.results184,go_sem,q0,q1,q2,q3,q4]) rfl ⟨t,rfl,zA HT,?_,?_⟩
  ·exact SpAt.put5 P1 q0 q1 q2 q3 q4 _ _ _ _ _
  ·exact jY (zB j7 A8) (by omega) _ _ _ _ _
theorem lo1_iv (w:World) (B0 B1 B2:Nat) (s:Sp) (u y:Nm) (k ku ky b:Nat) (j:Int) (a:Int × Int) (un d p q:Int) (hs:SpAt w s k a.1 a.2) (hu:IntAt w u.neg u.a u.n u.cap ku un) (hy:IntAt w y.neg y.a y.n y.cap ky d) (U:NmC w B0 u) (Y:NmC w B1 y) (Z:RaC w B2 p q) (hk:k<=100000000) (hku:ku<=100000000) (hky:ky<=100000000) (hb:s.bits=(b:Int)) (hj:0<=j*q) (CZ:j*q<=4611686018427387904) (hp:0<p) (I2:p<=4611686018427387903) (hd:0<d) :
  Calls Tryz.prog 183 #[.agg s.q,.int .i64 j,.pointer (some ⟨B0,0,none⟩),.pointer (some ⟨B1,0,none⟩),.pointer (some ⟨B2,0,none⟩)] w (zH w b (k+ku+10) (zK a un (d*(p+j*q))).1 (zK a un (d*(p+j*q))).2):=by
 obtain⟨W,hW⟩:∃ W,W=(w.alloc (.cells s.q 31)).alloc (.cells zCq 31):=⟨_,rfl⟩;have j7:Below w.heap.size w W:=by rw[hW];exact bl2 _ _ _
 have A:SpC W w.heap.size s:=by rw[hW];constructor<;>simp[go_sem]
 have R:NoC W (w.heap.size+1):=by rw[hW];constructor<;>simp[go_sem]
 have HS:=zC (hs.bw j7);have HU:=zC (hu.bw j7);have HY:=zC (hy.bw j7);have l0:=U.lt;have l1:=Y.lt;have l2:=Z.lt;replace U:=U.bw j7;replace Y:=Y.bw j7;replace Z:=Z.bw j7;have HB:=zC hb;have lR:=R.lt;have lA:=A.lt;have Y7:=zC (show IntKind.i64.wrap (j*q)=j*q from jB _ (by omega) (by omega))
 have cR:=zC (show IntKind.i64.wrap (p+j*q)=p+j*q from jB _ (by omega) (by omega))
 have gZ:=zC (show -9223372036854775808<=p+j*q/\p+j*q<=9223372036854775807 from⟨by omega,by omega⟩)
 have rO:=zC (show 0<d*(p+j*q) from Int.mul_pos hd (by omega))
 clear hs hu hy hb hj CZ hp I2;have C8:Below W.heap.size W W.drew:=(Below.refl _ _).drew;have HK:=zC (show ∀ w',Below W.heap.size W w'->(cK w' w.heap.size s (nK w' B0 u (nK w' B1 y (rK0 w' B2 p q)))) from λ w' hB=>⟨(A.bw hB).c0,(A.bw hB).c1,(A.bw hB).c2,(A.bw hB).c3,(A.bw hB).c4,(U.bw hB).c0,(U.bw hB).c1,(Y.bw hB).c0,(Y.bw hB).c1,(Z.bw hB).c0,(Z.bw hB).c1⟩)
 clear U Y Z A
 go_enter Tryz.func183,Tryz.ntmps183
 go_wp2;rw[<- hW];clear hW;have DV:w.heap.size+1≠B0:=by omega
 have Gb:w.heap.size+1≠B1:=by omega
 have Si:w.heap.size+1≠B2:=by omega
 obtain⟨x0,x1,x2,x3,x4,x5,x6,x7,x8,x9,GC⟩:=zA HK _ (Below.refl _ _)
 go_region_held3 (λ w'=>cK w' w.heap.size s (nK w' B0 u (nK w' B1 y (rK0 w' B2 p q)))) (first|exact zA HK _ (by with_reducible first|exact C8|exact A8|exact o9|exact A6)|(dsimp only[cK,cK0,nK,nK0,rK,rK0];go_keep)|go_keep)
  (first
   | (go_at_call 151;have K4:=o9;refine (zA9 _ s u ⟨j6,a2,n2,c2⟩ k ku _ b a un (d*(p+j*q)) ((zA HS).bw o9) ((zA HU).bw o9) A5 (by omega) (by omega) (zA rO) (zA HB)).mono ?_;rintro r w3 ⟨t,rfl,I8,P1,m9⟩;have HT:=zC I8;clear I8;have A8:=zB o9 m9;obtain⟨q0,q1,q2,q3,q4,q5⟩:=R.bw A8;obtain⟨i0,i1,i2,i3,i4,i5,i6,i7,i8,i9,i10⟩:=zA HK _ A8)
   | (go_at_call 83;have K4:=A6;refine (zT _ _ _ _ _ _ _ _ ky 4 d (p+j*q) _ ((zA HY).bw A6) o8 (by omega) (by omega)).mono ?_;rintro r w2 ⟨j6,a2,n2,c2,rfl,A5,j8⟩;have o9:=zB A6 j8)
   | (go_at_call 33;(first|rw[zA Y7,zA cR]|rw[zA cR]);refine (zD (p+j*q) _ (zA gZ).1 (zA gZ).2).mono ?_;rintro r w1 ⟨m7,a1,n1,c1,rfl,o8,b9⟩;have A6:=zB C8 b9))
 all_goals
  go_wp2;refine bodyPost_ret (v:=.agg t.q) (by simp[results,Tryz.results183,go_sem,q0,q1,q2,q3,q4]) rfl ⟨t,rfl,zA HT,?_,?_⟩
  ·exact SpAt.put5 P1 q0 q1 q2 q3 q4 _ _ _ _ _
  ·exact jY (zB j7 A8) (Nat.le_succ _) _ _ _ _ _
theorem en_lo (args:Array Value) (w:World):(callFunc 183 args).run Tryz.prog w=.ok (.enter 183 args) w:=by simp[go_sem,callFunc,Tryz.func183];kernel_rfl
def zK6 (n d:Int) (b:Nat) (x:Nat->Rat):Prop:=∀ w':World,Calls Tryz.prog 185 #[.int .i64 n,.int .i64 d,.int .i64 b] w' (λ r I9=>∃ lo hi,zPS x b lo hi/\zH w' b 521 lo hi r I9)
def rok2 (p q:Int):Prop := -1048576<=p/\p<=1048576/\1<=q/\q<=2048
theorem zLY {p q:Int} (h1 : -1048576<=p) (h2:p<=1048576) (h3:0<=q) (h4:q<=2048) : -2147483648<=p*q/\p*q<=2147483648:=by
 have:=yR (x:=p) (y:=q) (m:=1048576) (n:=2048) h1 h2 (by omega) h4
 omega
theorem zKO (w:World) (p1 q1 p2 q2:Int) (h1:rok2 p1 q1) (h2:rok2 p2 q2) :
  Calls Tryz.prog 186 #[.agg #[.int .i64 p1,.int .i64 q1],.agg #[.int .i64 p2,.int .i64 q2]] w (λ r w'=>r=.returned (.agg #[.int .i64 (p1*q2+p2*q1),.int .i64 (q1*q2)])/\Below w.heap.size w w'):=by
 obtain⟨a1,a2,a3,a4⟩:=h1;obtain⟨b1,b2,b3,b4⟩:=h2;obtain⟨c1,c2⟩:=zLY a1 a2 (show 0<=q2 by omega) b4
 obtain⟨d1,d2⟩:=zLY b1 b2 (show 0<=q1 by omega) a4
 obtain⟨e1,e2⟩:=zLY (p:=q1) (by omega) (by omega) (show 0<=q2 by omega) b4
 go_enter Tryz.func186,Tryz.ntmps186
 go_wp2_with fail;refine bodyPost_ret (v:=.agg #[.int .i64 (p1*q2+p2*q1),.int .i64 (q1*q2)]) (by simp[results,Tryz.results186,go_sem]) rfl ⟨rfl,?_⟩
 exact bl3 _ _ _ _
theorem zLT (w:World) (p1 q1 p2 q2:Int) (b:Nat) (x y z:Nat->Rat) (h1:rok2 p1 q1) (h2:rok2 p2 q2) (L1:zK6 p1 q1 b x) (L2:zK6 p2 q2 b y) (L3:zK6 (p1*q2+p2*q1) (q1*q2) b z) :
  Calls Tryz.prog 188 #[.agg #[.int .i64 p1,.int .i64 q1],.agg #[.int .i64 p2,.int .i64 q2],.int .i64 b] w (λ r w'=>∃ lo hi,LgP3 (λ M=>x M+y M-z M) b lo hi/\zH w b 523 lo hi r w'):=by
 obtain⟨W,hW⟩:∃ W,W=((w.alloc (.cells #[.int .i64 p1,.int .i64 q1] 23)).alloc (.cells #[.int .i64 p2,.int .i64 q2] 23)).alloc (.cells zCq 31):=⟨_,rfl⟩;have j7:Below w.heap.size w W:=by rw[hW];exact bl3 _ _ _ _
 have A:RaC W w.heap.size p1 q1:=by rw[hW];constructor<;>simp[go_sem]
 have D:RaC W (w.heap.size+1) p2 q2:=by rw[hW];constructor<;>simp[go_sem]
 have R:NoC W (w.heap.size+1+1):=by rw[hW];constructor<;>simp[go_sem]
 have H1:=zC L1;have H2:=zC L2;have H3:=zC L3;have HR:=zC (And.intro h1 h2);have lA:=A.lt;have lD:=D.lt;have iL:=A.c0;have iM:=A.c1;have Xt:=D.c0;have Xv:=D.c1;clear L1 L2 L3 h1 h2
 go_enter Tryz.func188,Tryz.ntmps188
 go_wp2_with fail;rw[<- hW];clear hW iL iM Xt Xv;refine (zKO _ p1 q1 p2 q2 (zA HR).1 (zA HR).2).mono ?_;rintro r w1 ⟨rfl,b9⟩;replace A:=A.bw b9;replace D:=D.bw b9;replace R:=R.bw b9;replace j7:=zB j7 b9;clear b9 lA lD;have lR:=R.lt;obtain⟨V,hV⟩:∃ V,V=w1.alloc (.cells #[.int .i64 (p1*q2+p2*q1),.int .i64 (q1*q2)] 23):=⟨_,rfl⟩;have bV:Below w1.heap.size w1 V:=by rw[hV];exact bl1 _ _
 have E:RaC V w1.heap.size (p1*q2+p2*q1) (q1*q2):=by rw[hV];exact zL1 w1 _ _ _
 replace A:=A.bw bV;replace D:=D.bw bV;replace R:=R.bw bV;replace j7:=zB j7 bV;have lA:=A.lt;have lD:=D.lt;have lE:=E.lt;have HK:=zC (show ∀ w',Below V.heap.size V w'->(rK w' w.heap.size p1 q1 (rK w' ((w.heap.size+1)) p2 q2 (w'.cell? ⟨w1.heap.size,0,none⟩=some (.int .i64 (p1*q2+p2*q1))/\w'.cell? ⟨w1.heap.size,1,none⟩=some (.int .i64 (q1*q2))))) from λ w' hB=>⟨(A.bw hB).c0,(A.bw hB).c1,(D.bw hB).c0,(D.bw hB).c1,(E.bw hB).c0,(E.bw hB).c1⟩)
 clear bV;go_wp2_with fail;rw[<- hV];clear hV
 go_cut [8] (λ p wx=>∃ (B:Nat) (u:Sp) (l1 u1 l2 u2:Int),p=.pointer (some ⟨B,0,none⟩)/\zPS x b l1 u1/\zPS y b l2 u2/\V.heap.size<=B/\VrC wx B u/\SpAt wx u 522 (((l1+l2,u1+u2):Int × Int)).1 (((l1+l2,u1+u2):Int × Int)).2/\u.bits=(b:Int)/\Below V.heap.size V wx)
 case first =>
  go_region_held3 (λ w'=>rK w' w.heap.size p1 q1 (rK w' ((w.heap.size+1)) p2 q2 (w'.cell? ⟨w1.heap.size,0,none⟩=some (.int .i64 (p1*q2+p2*q1))/\w'.cell? ⟨w1.heap.size,1,none⟩=some (.int .i64 (q1*q2))))) (exact zA HK _ (by repeat' (first|with_reducible exact sG|with_reducible exact iZ|with_reducible exact iW|with_reducible exact Below.refl _ _|with_reducible refine Below.drew ?_|with_reducible refine zL ?_ _|with_reducible refine Below.setCell ?_ (by first|exact YE _|exact vH|exact vI|exact vJ) _)))
   (first
    | (go_at_call 51;have hq:=iZ;refine (zCZ _ vE1 vE2 521 b (l1,u1) (l2,u2) ((Js.bw sS).bw (by with_reducible first|exact Below.refl _ _|exact bl1 _ _)) (Jt.bw (by with_reducible first|exact Below.refl _ _|exact bl1 _ _)) (by omega) (zA Bm)).mono ?_;rintro r SR ⟨SE,rfl,qG,Jv,tH⟩;have Bn:=zC qG;clear qG;have sT:Below Gi.heap.size Gi SR:=(by with_reducible first|exact tH|exact zB (bl1 _ _) tH);have sG:=zB iZ sT;(try with_reducible have PX:=(zQ Gi 31).bw tH);(try replace gE1:=gE1.bw sT);(try replace gE2:=gE2.bw sT);have vJ:=sG.size;(try have RJ:=gE1.lt);(try have eE1:=YJ RJ);(try have WI:=YI RJ);(try obtain⟨LB,LC,LD,LF,LG,zE15⟩:=gE1);(try have RK:=gE2.lt);(try have eE2:=YJ RK);(try have WJ:=YI RK);(try obtain⟨LH,LI,LJ,LK,LL,zE25⟩:=gE2);(try have RL:=PX.lt);(try have eE3:=YJ RL);(try have WK:=YI RL);(try obtain⟨LM,LN,LO,LP,LQ,zE35⟩:=PX))
    | (go_at_call 185;have hq:=iW;refine (zA H2 _).mono ?_;rintro r Gi ⟨l2,u2,I2,vE2,rfl,qF,Jt,tG⟩;have Pm:=zC qF;have Ik:=zC I2;clear qF I2;have sS:Below Gh.heap.size Gh Gi:=(by with_reducible first|exact tG|exact zB (bl1 _ _) tG);have iZ:=zB iW sS;(try with_reducible have gE2:=(zQ Gh 31).bw tG);(try replace gE1:=gE1.bw sS);have vI:=iZ.size)
    | (go_at_call 185;refine (zA H1 _).mono ?_;rintro r Gh ⟨l1,u1,nG,vE1,rfl,qA,Js,tF⟩;have Bm:=zC qA;have Ij:=zC nG;clear qA nG;have iW:Below V.heap.size V Gh:=(by with_reducible first|exact zB (Below.refl _ _).drew tF|exact zB (bl1 _ _).drew tF);(try with_reducible have gE1:=((zQ V 31).bw (Below.refl _ _).drew).bw tF);have vH:=iW.size))
  all_goals
   have hfinE:SpAt SR SE 522 (((l1+l2,u1+u2):Int × Int)).1 (((l1+l2,u1+u2):Int × Int)).2:=Jv;go_wp2_with fail;go_meet;refine⟨_,SE,l1,u1,l2,u2,rfl,zA Ij,zA Ik,?_,⟨⟨?_,?_,?_,?_,?_⟩,?_⟩,?_,zA Bn,?_⟩
   ·first|exact YE _|exact vH|exact vI|exact vJ
   ·simp[go_sem, *]
   ·simp[go_sem, *]
   ·simp[go_sem, *]
   ·simp[go_sem, *]
   ·simp[go_sem, *]
   ·intro o;simp[go_sem, *]
   ·first|with_reducible exact SpAt.put5 hfinE LM LN LO LP LQ _ _ _ _ _|with_reducible exact SpAt.put5 hfinE LH LI LJ LK LL _ _ _ _ _|with_reducible exact SpAt.put5 hfinE LB LC LD LF LG _ _ _ _ _|with_reducible exact hfinE.bw (bl1 _ _)
   ·repeat' (first|with_reducible exact sG|with_reducible exact iZ|with_reducible exact iW|with_reducible exact Below.refl _ _|with_reducible refine Below.drew ?_|with_reducible refine zL ?_ _|with_reducible refine Below.setCell ?_ (by first|exact YE _|exact vH|exact vI|exact vJ) _)
 case rest =>
 obtain⟨BE,xE,l1,u1,l2,u2,rfl,nG,I2,hHE,XE,hpE,hxbE,hblE⟩:=hcut;replace A:=A.bw hblE;replace D:=D.bw hblE;replace E:=E.bw hblE;have ae:=R.lt;replace R:=R.bw hblE;replace j7:=zB j7 hblE;have GM:=zC hxbE;have TD:=zC hpE;have VG:=zC nG;have VH:=zC I2;have lXE:=XE.lt;have gf:=zC (show ∀ w',Below wc.heap.size wc w'->(rK w' w.heap.size p1 q1 (rK w' ((w.heap.size+1)) p2 q2 (w'.cell? ⟨w1.heap.size,0,none⟩=some (.int .i64 (p1*q2+p2*q1))/\w'.cell? ⟨w1.heap.size,1,none⟩=some (.int .i64 (q1*q2))/\cK0 w' BE xE))) from λ w' hB=>⟨(A.bw hB).c0,(A.bw hB).c1,(D.bw hB).c0,(D.bw hB).c1,(E.bw hB).c0,(E.bw hB).c1,(XE.c.bw hB).c0,(XE.c.bw hB).c1,(XE.c.bw hB).c2,(XE.c.bw hB).c3,(XE.c.bw hB).c4⟩)
 have FT:=A.lt;have KZ:=D.lt;have lE2:=E.lt;have gQ:=R.lt;have n1:w.heap.size+1+1≠w.heap.size:=by omega
 have n2:w.heap.size+1+1≠w.heap.size+1:=by omega
 have n3:w.heap.size+1+1≠w1.heap.size:=by omega
 have n4:w.heap.size+1+1≠BE:=by omega
 clear hxbE hpE nG I2 HK hblE A D E XE;have A9:Below wc.heap.size wc wc.drew:=(Below.refl _ _).drew;obtain⟨x0,x1,x2,x3,x4,x5,y0,y1,y2,y3,y4⟩:=zA gf _ (Below.refl _ _);go_wp2_with fail
 go_region_held3 (λ w'=>rK w' w.heap.size p1 q1 (rK w' ((w.heap.size+1)) p2 q2 (w'.cell? ⟨w1.heap.size,0,none⟩=some (.int .i64 (p1*q2+p2*q1))/\w'.cell? ⟨w1.heap.size,1,none⟩=some (.int .i64 (q1*q2))/\cK0 w' BE xE))) (first|exact zA gf _ (by with_reducible first|exact A9|exact s9|exact p9)|(dsimp only[cK,cK0,nK,nK0,rK,rK0];go_keep)|go_keep)
  (first
   | (go_at_call 92;have K4:=p9;refine (zHJ _ xE v1 522 b (l1+l2,u1+u2) (l3,u3) ((zA TD).bw p9) (o8.mono (by omega)) (by omega) (zA GM)).mono ?_;rintro r' w5 ⟨t,rfl,I8,P1,j8⟩;have HT:=zC I8;clear I8;have s9:=zB p9 j8;obtain⟨q0,Sz,Ej,q3,q4,q5⟩:=R.bw s9;obtain⟨i0,i1,i2,i3,i4,i5,j0,j1,j2,j3,j4⟩:=zA gf _ s9)
   | (go_at_call 185;refine (zA H3 _).mono ?_;rintro r' w4 ⟨l3,u3,Rb,v1,rfl,J6,o8,b9⟩;have VI:=zC Rb;clear J6 Rb;have p9:=zB A9 b9))
 all_goals
  go_wp2_with fail;refine bodyPost_ret (v:=.agg t.q) (by simp[results,Tryz.results188,go_sem,q0,Sz,Ej,q3,q4]) rfl ⟨_,_,lgP3_of (zA VG) (zA VH) (zA VI),t,rfl,zA HT,?_,?_⟩
  ·exact SpAt.put5 P1 q0 Sz Ej q3 q4 _ _ _ _ _
  ·exact jY (zB j7 s9) (by omega) _ _ _ _ _
theorem pt1_iv (w:World) (B0 B1 B2 B3 B4:Nat) (v:Sp) (x y:Nm) (k b:Nat) (j:Int) (a:Int × Int) (bn bd p q r s n d:Int) (hs:SpAt w v k a.1 a.2) (hx:IntAt w x.neg x.a x.n x.cap 4 n) (hy:IntAt w y.neg y.a y.n y.cap 4 d) (Z:RaC w B0 bn bd) (A:RaC w B1 p q) (D:RaC w B2 r s) (X:NmC w B3 x) (Y:NmC w B4 y) (hk:k<=100000000) (hb:v.bits=(b:Int)) (j0:1<=j) (j1:j<=1000000) (z0:0<=(j-1)*bd) (z1:(j-1)*bd<=1152921504606846976) (Wf:0<=bn) (Wh:bn<=1152921504606846976) (y0:0<=j*q) (y1:j*q<=1152921504606846976) (p0:0<p) (p1:p<=1152921504606846976) (t0:0<(p+j*q)*s) (t1:(p+j*q)*s<=1152921504606846976) (hd:0<d) :
  Calls Tryz.prog 187 #[.agg v.q,.int .i64 j,.pointer (some ⟨B0,0,none⟩),.pointer (some ⟨B1,0,none⟩),.pointer (some ⟨B2,0,none⟩),.pointer (some ⟨B3,0,none⟩),.pointer (some ⟨B4,0,none⟩)] w (zH w b (k+8+10) (zK a (n*(bn+(j-1)*bd)) (d*((p+j*q)*s))).1 (zK a (n*(bn+(j-1)*bd)) (d*((p+j*q)*s))).2):=by
 obtain⟨W,hW⟩:∃ W,W=(w.alloc (.cells v.q 31)).alloc (.cells zCq 31):=⟨_,rfl⟩;have j7:Below w.heap.size w W:=by rw[hW];exact bl2 _ _ _
 have V:SpC W w.heap.size v:=by rw[hW];constructor<;>simp[go_sem]
 have R:NoC W (w.heap.size+1):=by rw[hW];constructor<;>simp[go_sem]
 have HS:=zC (hs.bw j7);have HX:=zC (hx.bw j7);have HY:=zC (hy.bw j7);have l3:=X.lt;have l4:=Y.lt;replace X:=X.bw j7;replace Y:=Y.bw j7;replace Z:=Z.bw j7;replace A:=A.bw j7;replace D:=D.bw j7;have HB:=zC hb;have rO:=zC (show 0<(d*((p+j*q)*s)) from Int.mul_pos hd t0)
 have lR0:=R.lt;clear hs hx hy hb hd;obtain⟨za,zb⟩:=Z
 go_enter Tryz.func187,Tryz.ntmps187
 go_upto_region 1 with fail
 rw[<- hW];clear hW;go_wp2_with fail;clear za zb;refine (zD (bn+(j-1)*bd) _ (by omega) (by omega)).mono ?_
 rintro r1 w1 ⟨m7,a1,n1,c1,rfl,o8,b9⟩;clear z0 z1 Wf Wh;obtain⟨V1,Q2⟩:∃ V,V=w1.alloc (.cells #[.bool m7,.slice a1 n1 c1] 29):=⟨_,rfl⟩;have ag:Below w1.heap.size w1 V1:=by rw[Q2];exact bl1 _ _
 have L8:=zB b9 ag;have U1:NmC V1 w1.heap.size ⟨m7,a1,n1,c1⟩:=by rw[Q2];constructor<;>simp[go_sem]
 have nO:=zC (o8.bw ag);have lw1:=b9.size;have lU0:=U1.lt;replace V:=V.bw L8;replace R:=R.bw L8;replace X:=X.bw L8;replace Y:=Y.bw L8;replace A:=A.bw L8;replace D:=D.bw L8;replace HS:=zC ((zA HS).bw L8);replace HX:=zC ((zA HX).bw L8);replace HY:=zC ((zA HY).bw L8);replace j7:=zB j7 L8;clear b9 L8 ag o8;have aa:=A.c0;have ab:=A.c1;have db:=D.c1;have lA:=A.lt;have lD:=D.lt
 go_upto_region 2 with fail
 rw[<- Q2];clear Q2;go_wp2_with fail;clear aa ab db A D lA lD y0 y1 p0 p1;refine (zD ((p+j*q)*s) _ (by omega) (by omega)).mono ?_
 rintro r2 w2 ⟨j6,a2,n2,c2,rfl,A5,j8⟩;obtain⟨V2,aI⟩:∃ V,V=w2.alloc (.cells #[.bool j6,.slice a2 n2 c2] 29):=⟨_,rfl⟩;have W5:Below w2.heap.size w2 V2:=by rw[aI];exact bl1 _ _
 have J5:=zB j8 W5;have U2:NmC V2 w2.heap.size ⟨j6,a2,n2,c2⟩:=by rw[aI];constructor<;>simp[go_sem]
 have zg:=zC (A5.bw W5);have lw2:=j8.size;replace V:=V.bw J5;replace R:=R.bw J5;replace X:=X.bw J5;replace Y:=Y.bw J5;replace U1:=U1.bw J5;replace nO:=zC ((zA nO).bw J5);replace HS:=zC ((zA HS).bw J5);replace HX:=zC ((zA HX).bw J5);replace HY:=zC ((zA HY).bw J5);replace j7:=zB j7 J5;clear j8 J5 W5 A5 t0 t1 j0 j1;have lR:=R.lt;have lV:=V.lt;have lX:=X.lt;have lY:=Y.lt;have lU1:=U1.lt;have lU2:=U2.lt;have HK:=zC (show ∀ w',Below V2.heap.size V2 w'->(cK w' w.heap.size v (nK w' B3 x (nK w' B4 y (nK w' w1.heap.size (⟨m7,a1,n1,c1⟩:Nm) (nK0 w' w2.heap.size (⟨j6,a2,n2,c2⟩:Nm)))))) from λ w' hB=>⟨(V.bw hB).c0,(V.bw hB).c1,(V.bw hB).c2,(V.bw hB).c3,(V.bw hB).c4,(X.bw hB).c0,(X.bw hB).c1,(Y.bw hB).c0,(Y.bw hB).c1,(U1.bw hB).c0,(U1.bw hB).c1,(U2.bw hB).c0,(U2.bw hB).c1⟩)
 have C8:Below V2.heap.size V2 V2.drew:=(Below.refl _ _).drew;clear V X Y U1 U2;have nB3:w.heap.size+1≠B3:=by omega
 have nB4:w.heap.size+1≠B4:=by omega
 have nB5:w.heap.size+1≠w1.heap.size:=by omega
 have nB6:w.heap.size+1≠w2.heap.size:=by omega
 go_wp2_with fail;rw[<- aI];clear aI;obtain⟨x0,x1,x2,x3,x4,x5,x6,x7,x8,x9,GC,Ti,Tj⟩:=zA HK _ (Below.refl _ _)
 go_region_held3 (λ w'=>cK w' w.heap.size v (nK w' B3 x (nK w' B4 y (nK w' w1.heap.size (⟨m7,a1,n1,c1⟩:Nm) (nK0 w' w2.heap.size (⟨j6,a2,n2,c2⟩:Nm)))))) (first|exact zA HK _ (by with_reducible first|exact C8|exact A8|exact o9|exact A6)|(dsimp only[cK,cK0,nK,nK0,rK,rK0];go_keep)|go_keep)
  (first
   | (go_at_call 151;have K4:=o9;refine (zA9 _ v ⟨A7,a3,n3,c3⟩ ⟨D8,a4,n4,c4⟩ k 8 8 b a (n*(bn+(j-1)*bd)) (d*((p+j*q)*s)) ((zA HS).bw o9) (E5.bw y9) G6 (by omega) (by omega) (zA rO) (zA HB)).mono ?_;rintro r w5 ⟨t,rfl,I8,P1,D6⟩;have HT:=zC I8;clear I8;have A8:=zB o9 D6;obtain⟨q0,q1,q2,q3,q4,q5⟩:=R.bw A8;obtain⟨i0,i1,i2,i3,i4,i5,i6,i7,i8,i9,i10,i11,i12⟩:=zA HK _ A8)
   | (go_at_call 83;have K4:=A6;refine (zT _ _ _ _ _ _ _ _ 4 4 d ((p+j*q)*s) _ ((zA HY).bw A6) ((zA zg).bw A6) (by omega) (by omega)).mono ?_;rintro r w4 ⟨D8,a4,n4,c4,rfl,G6,y9⟩;have o9:=zB A6 y9)
   | (go_at_call 83;refine (zT _ _ _ _ _ _ _ _ 4 4 n (bn+(j-1)*bd) _ ((zA HX).bw C8) ((zA nO).bw C8) (by omega) (by omega)).mono ?_;rintro r w3 ⟨A7,a3,n3,c3,rfl,E5,m9⟩;have A6:=zB C8 m9))
 all_goals
  go_wp2;refine bodyPost_ret (v:=.agg t.q) (by simp[results,Tryz.results187,go_sem,q0,q1,q2,q3,q4]) rfl ⟨t,rfl,zA HT,?_,?_⟩
  ·exact SpAt.put5 P1 q0 q1 q2 q3 q4 _ _ _ _ _
  ·exact jY (zB j7 A8) (Nat.le_succ _) _ _ _ _ _
theorem en_pt (args:Array Value) (w:World):(callFunc 187 args).run Tryz.prog w=.ok (.enter 187 args) w:=by simp[go_sem,callFunc,Tryz.func187];kernel_rfl
def lwX (L:Rat->Nat->Rat) (p q n d:Int) (g:Nat->Rat):Nat->Rat:=if n=0 then λ _=>0 else lw L ((p:Rat)/(q:Rat)) ((n:Rat)/(d:Rat)) g
structure LwAr (p q n d:Int) (B:Nat):Prop where
 p0:0<p
 q0:0<q
 pq:p<=100*q
 qq:q<=1048576
 n0:0<=n
 d0:0<d
 nn:n<=1099511627776
 dd:d<=1048576
 b0:40<=B
 b1:B<=400
theorem zGB {x:Nat->Rat} {B:Nat} {l u:Int} (h:LwPr x B l u) (hB:B<=400):l<=u /\ -P 30<l/\u<P 30:=by
 have h1:=zJ (show B+1<=16*30 by omega)
 rw[Q_P] at h1;have h2:Q (B+1)=2*Q B:=rfl;have:=zE B;have:=h.lo;have:=h.hi;exact⟨h.le,by omega,by omega⟩
theorem lu_exp {L:Rat->Nat->Rat} {p q n d:Int} {B NS:Nat} {o:Int × Int} {lg ug:Int} {X g:Nat->Rat} (h:zML p q n d B) (ho:zCJ L ((n:Rat)/(d:Rat)) B o) (hg:zPS X B lg ug) (hL:Lns L) (ig:IsGam L ((p:Rat)/(q:Rat)) g) (hX:IsLog X (λ M=>(p:Rat)/(q:Rat)*g M)) (hS:NS<=70000) (ki:yO (luT p q n d B) (luN n d) NS) :
  ∃ (l:Int) (t NE:Nat),zBV (zW (luY p q n d B o (lg,ug))) l/\(t:Int)=max 0 (l-B+8)/\t<=26/\Abs (zG (luY p q n d B o (lg,ug)) t) (Q (B-8))/\zU (zV B (zG (luY p q n d B o (lg,ug)) t)) NE/\Q (B+eb t)<P 49300/\(luY p q n d B o (lg,ug)).1<=(luY p q n d B o (lg,ug)).2 /\
   (0<(luE p q n d B o (lg,ug) t NE).1/\(luE p q n d B o (lg,ug) t NE).1<=(luE p q n d B o (lg,ug) t NE).2/\0<=(zAT p q n d B NS).1/\(zAT p q n d B NS).1<=(zAT p q n d B NS).2/\LwPr (lw L ((p:Rat)/(q:Rat)) ((n:Rat)/(d:Rat)) g) B (zDT (zAT p q n d B NS).1 (zAT p q n d B NS).2 (luE p q n d B o (lg,ug) t NE).1 (luE p q n d B o (lg,ug) t NE).2 B) (zO5 (zAT p q n d B NS) (luE p q n d B o (lg,ug) t NE) B)):=by
 obtain⟨y1,y2,y3,y4⟩:=luY_ok h ho hg;have b0:=h.b0;have b1:=h.b1;have qB:=zE B
 have r:zW (luY p q n d B o (lg,ug))<Q (B+18):=by
  have a:=zAD y3;have e:Q (B+18)=Q B*Q 18:=jF B 18;have WA:Q 18=262144:=rfl;rw[WA] at e;omega
 obtain⟨l,t,NE,e1,e2,e3,e4,e5⟩:=zD0 (B:=B) (e:=18) (by omega) y1 r
 refine⟨l,t,NE,e1,e2,by omega,e4,e5,?_,y1,lw_ok hL h ig hX ho hg (by omega) e4 e5 hS ki⟩
 rw[<- Q_P];have ebm:=zBW (show t<=26 by omega)
 have IP:eb 26=786432:=by decide
 rw[IP] at ebm;have h1:=zJ (show B+eb t+1<=16*49300 by omega)
 have h2:∀ j,Q (j+1)=2*Q j:=λ _=>rfl
 rw[h2] at h1;have:=zE (B+eb t);generalize Q (B+eb t)=y at *;generalize Q (16*49300)=z at *;omega
theorem bl5 (w:World) (o1 o2 o3 o4 o5:Obj):Below w.heap.size w (((((w.alloc o1).alloc o2).alloc o3).alloc o4).alloc o5):=(bl4 w o1 o2 o3 o4).alloc (by simp;omega) _
theorem zEY (L:Rat->Nat->Rat) (hL:Lns L) (w:World) (x y:Nm) (b:Nat) (n d:Int) (hx:IntAt w x.neg x.a x.n x.cap 4 n) (hy:IntAt w y.neg y.a y.n y.cap 4 d) (hn:0<n) (hd:0<d) (E8:40<=b) (hb:b<=400) :
  Calls Tryz.prog 125 #[.agg x.q,.agg y.q,.int .i64 b] w (λ r w'=>∃ lo hi,zCJ L ((n:Rat)/(d:Rat)) b (lo,hi)/\zH w b 520 lo hi r w'):=by
 refine (zBC w x y 4 b 500 n d hx hy (by omega) hn hd (by omega) (by omega) ?_ (by omega)).mono ?_
 ·rw[<- Q_P]
  have h1:=zJ (show b+4+1<=16*500 by omega)
  have h2:Q (b+4+1)=2*Q (b+4):=rfl;have:=zE (b+4);omega
 ·rintro r w' ⟨n',d',cc,N1,N2,M3,D7,E7,T4,Z7,h⟩
  exact⟨_,_,zNI hL hn hd (by omega) M3 (by omega) (by omega) T4 Z7,h⟩
def bvX (L:Rat->Nat->Rat) (p q r s n d:Int):Nat->Rat:=if n=0 then λ _=>0 else if n=d then λ _=>1 else bv L ((p:Rat)/(q:Rat)) ((r:Rat)/(s:Rat)) ((n:Rat)/(d:Rat))
end Go.Proofs.YtgmnknmjainabacGreat
