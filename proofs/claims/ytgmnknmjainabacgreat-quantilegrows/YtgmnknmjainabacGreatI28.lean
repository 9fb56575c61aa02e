/-
  Its own texts.
-/
import Derived.Deep.CutBlock
import Derived.Test.YtgmnknmjainabacGreatRows
import Derived.ProofKit
import Derived.OpenShut
import Derived.SizedLaws
import Derived.ChangeOld
import Derived.Test.YtgmnknmjainabacGreatI27
set_option maxRecDepth 100000
set_option maxHeartbeats 40000000
set_option linter.unnecessarySimpa false
set_option linter.unusedSimpArgs false
set_option linter.unusedVariables false
namespace Go.Proofs.YtgmnknmjainabacGreat
open Go.RowKit
attribute [local go_sem ↓] Go.wp_at_zero Go.wp_at_succ
open Ex
theorem grow_a {x:Nat->Rat} {pn pd L H:Int} {b:Nat} (hd:0<pd) (h:QT x pn pd b) (s:SuB x b L H):(ofI pn pd b).1<=H+16:=by
 obtain⟨L',H',s',t⟩:=h;have w:=zTX s';have l:=su_le s'.v s.v (LeN.refl x);refine Int.le_trans (Int.ediv_le_of_le_mul hd (b:=H') ?_) (by omega)
 exact t
theorem grow_b {X:Int->Nat->Rat} {lo hi pn pd qn qd:Int} {b i j:Nat} (hp:0<pd) (hq:0<qd) (hX:∀ y z:Int,y<=z->LeN (X y) (X z)) (h1:QAt X lo hi pn pd b j) (h2:QAt X lo hi qn qd b i) (lK:i<j):(ofI qn qd b).1-(ofI pn pd b).2<32:=by
 obtain⟨L1,H1,s1,t1⟩:=h1.f (by omega)
 have le:=h1.le;obtain⟨L2,H2,s2,t2⟩:=h2.t (by omega)
 have w:=zTX s2;have l:=su_le s2.v s1.v (hX _ _ (show lo+(i:Int)<=lo+(j:Int)-1 by omega))
 have a:(ofI qn qd b).1<=H2:=Int.ediv_le_of_le_mul hq t2
 have c:H1<(ofI pn pd b).2:=by
  have d:=zDY (pn*Q b) hp;have e:(ofI pn pd b).2 = -(-(pn*Q b)/pd):=rfl;rw[e];exact Int.lt_of_mul_lt_mul_right (show H1*pd < -(-(pn*Q b)/pd)*pd by omega) (by omega)
 omega
theorem zKG (p q:Int) (b:Nat) (w:World) (r1 : -9223372036854775808<=p) (r2:p<=9223372036854775807) (r3 : -9223372036854775808<=q) (r4:q<=9223372036854775807) (hb:b<=120) :
  Calls Tryz.prog 34 #[.agg #[.int .i64 p,.int .i64 q],.int .i64 b] w (λ r w'=>∃ lo hi,(rok p q->lo=p*Q b/q)/\zH w b 60 lo hi r w'):=by
 by_cases h:rok p q
 ·exact (zB1 p q b w h (by omega)).mono λ r w' ⟨s,e1,e2,e3,e4⟩=>⟨_,_,λ _=>rfl,s,e1,e2,e3.mono (by omega),e4⟩
 ·exact (zGI p q b w r1 r2 r3 r4 hb).mono λ r w' ⟨lo,hi,h1⟩=>⟨lo,hi,λ c=>absurd c h,h1⟩
theorem zOY (k p q r s pn pd qn qd:Int) (st b:Int) (w:World) (e:Int) (h:qE k p q r s pn pd st b=e) (he:e≠0) :
  Calls Tryz.prog 6 #[.agg #[.int .i64 k,.int .i64 p,.int .i64 q,.int .i64 r,.int .i64 s],.agg #[.int .i64 pn,.int .i64 pd],.agg #[.int .i64 qn,.int .i64 qd],.int .i64 st,.int .i64 b] w λ z w'=>z=.returned (.bool true)/\Below w.heap.size w w':=by
 obtain⟨W,hW⟩:∃ W,W=((w.alloc (.cells #[.int .i64 k,.int .i64 p,.int .i64 q,.int .i64 r,.int .i64 s] 25)).alloc (.cells #[.int .i64 pn,.int .i64 pd] 23)).alloc (.cells #[.int .i64 qn,.int .i64 qd] 23):=⟨_,rfl⟩;have j7:Below w.heap.size w W:=by rw[hW];exact bl3 _ _ _ _
 have A:LwC W w.heap.size k p q r s:=by rw[hW];constructor<;>simp[go_sem]
 have G:RaC W (w.heap.size+1) pn pd:=by rw[hW];constructor<;>simp[go_sem]
 have J:RaC W (w.heap.size+1+1) qn qd:=by rw[hW];constructor<;>simp[go_sem]
 have HR:=zC h;have c1:(e != 0)=true:=by simp[he]
 clear h
 go_enter Tryz.func6,Tryz.ntmps6
 go_wp2_with fail;rw[<- hW];clear hW;refine (zCD _).mono ?_;rintro z wa ⟨rfl,I0⟩;replace A:=A.bw I0;replace G:=G.bw I0;replace J:=J.bw I0;replace j7:=zB j7 I0;clear I0;go_wp2_with fail;refine (zE7 _).mono ?_;rintro z wb ⟨rfl,I0⟩;replace A:=A.bw I0;replace G:=G.bw I0;replace J:=J.bw I0;replace j7:=zB j7 I0;clear I0;have iL:=A.c0;have iM:=A.c1;have mY:=A.c2;have od:=A.c3;have og:=A.c4;have fAl:=A.lt;have IY:=G.c0;have IZ:=G.c1;have fGl:=G.lt;go_wp2_with fail;clear iL iM mY od og fAl IY IZ fGl;refine (zKA _ k p q r s pn pd st b e (zA HR) he).mono ?_;rintro z w3 ⟨rfl,I0⟩;replace A:=A.bw I0;replace G:=G.bw I0;replace J:=J.bw I0;replace j7:=zB j7 I0;clear I0;go_wp2_with fail;exact bodyPost_ret (v:=.bool true) (by simp[results,Tryz.results6]) rfl ⟨rfl,j7⟩
theorem zRX (k p q r s pn pd qn qd:Int) (st b:Nat) (w:World) (aX : -9223372036854775808<=qn) (O2:qn<=9223372036854775807) (Kq : -9223372036854775808<=qd) (Kr:qd<=9223372036854775807) (h:qE k p q r s pn pd st b=0) :
  Calls Tryz.prog 6 #[.agg #[.int .i64 k,.int .i64 p,.int .i64 q,.int .i64 r,.int .i64 s],.agg #[.int .i64 pn,.int .i64 pd],.agg #[.int .i64 qn,.int .i64 qd],.int .i64 (st:Int),.int .i64 (b:Int)] w λ z w'=>z=.returned (.bool true)/\Below w.heap.size w w':=by
 obtain⟨W,hW⟩:∃ W,W=((w.alloc (.cells #[.int .i64 k,.int .i64 p,.int .i64 q,.int .i64 r,.int .i64 s] 25)).alloc (.cells #[.int .i64 pn,.int .i64 pd] 23)).alloc (.cells #[.int .i64 qn,.int .i64 qd] 23):=⟨_,rfl⟩;have j7:Below w.heap.size w W:=by rw[hW];exact bl3 _ _ _ _
 have A:LwC W w.heap.size k p q r s:=by rw[hW];constructor<;>simp[go_sem]
 have G:RaC W (w.heap.size+1) pn pd:=by rw[hW];constructor<;>simp[go_sem]
 have J:RaC W (w.heap.size+1+1) qn qd:=by rw[hW];constructor<;>simp[go_sem]
 obtain⟨R,R2,L0,GG,X,hE⟩:=zLS;have HE:=zC hE;obtain⟨h0,⟨⟨a1,a2,a3,a4⟩,Jg,XB⟩,⟨p0,p1,Gf,s6'⟩,hc⟩:=zIV h;have h5:8<=b:=by omega
 have h6:b<=120:=by omega
 have rH:st<=6:=by omega
 have KX:=(zAG h0).1;have HR:=zC h;have Pj:=zC (show rok pn pd from⟨a1,a2,a3,a4⟩)
 have HC:=zC (show zG1 k=true->st=0 from λ c=>by have:=hc c;omega)
 obtain⟨lo,cS⟩:∃ lo,lo=qLo k st:=⟨_,rfl⟩;obtain⟨hi,fO⟩:∃ hi,hi=qHi k st:=⟨_,rfl⟩
 have bd : -3200<=lo/\lo<=0/\0<=hi/\hi<=3200:=by
  have qs:=Q6 rH;rw[cS,fO];unfold qLo qHi
  by_cases c:zG1 k=true
  ·rw[if_pos c,if_pos c];exact⟨by omega,by omega,by omega,by omega⟩
  ·rw[if_neg c,if_neg c];exact⟨by omega,by omega,by omega,by omega⟩
 obtain⟨b1,b2,b3,b4⟩:=bd;have Vg:=zC (show ∀ w',Calls Tryz.prog 31 #[.agg #[.int .i64 k,.int .i64 p,.int .i64 q,.int .i64 r,.int .i64 s],.int .i64 (st:Int)] w' λ z I9=>z=.returned (.tuple #[.int .i64 lo,.int .i64 hi])/\Below w'.heap.size w' I9 from λ w'=>by rw[cS,fO];exact zTG w' k p q r s st rH KX.1 KX.2)
 have Vc:=zC (show ∀ (pn pd:Int),qE k p q r s pn pd st b=0->∀ w',Calls Tryz.prog 27 #[.agg #[.int .i64 k,.int .i64 p,.int .i64 q,.int .i64 r,.int .i64 s],.agg #[.int .i64 pn,.int .i64 pd],.int .i64 (st:Int),.int .i64 (b:Int)] w' (λ z I9=>∃ j:Nat,z=.returned (.tuple #[.int .i64 (lo+(j:Int)),.int .i64 0])/\QAt (λ z=>lbX R R2 L0 GG k p q r s z (Q st)) lo hi pn pd b j/\Below w'.heap.size w' I9) from λ pn pd hq w'=>by rw[cS,fO];exact zIW hE w' k p q r s pn pd st b hq)
 have Vb:=zC (show ∀ w',Calls Tryz.prog 27 #[.agg #[.int .i64 k,.int .i64 p,.int .i64 q,.int .i64 r,.int .i64 s],.agg #[.int .i64 qn,.int .i64 qd],.int .i64 (st:Int),.int .i64 (b:Int)] w' (λ z I9=>∃ m e:Int,z=.returned (.tuple #[.int .i64 m,.int .i64 e])/\((e=0/\rok qn qd/\∃ i':Nat,m=lo+(i':Int)/\QAt (λ z=>lbX R R2 L0 GG k p q r s z (Q st)) lo hi qn qd b i')\/e≠0)/\Below w'.heap.size w' I9) from λ w'=>by
  by_cases hq:qE k p q r s qn qd st b=0
  ·rw[cS,fO];exact (zIW hE w' k p q r s qn qd st b hq).mono λ z I9 ⟨j,e1,e2,e3⟩=>⟨_,_,e1,Or.inl ⟨rfl,(zIV hq).2.1.1,j,rfl,e2⟩,e3⟩
  ·exact (zKA w' k p q r s qn qd st b _ rfl hq).mono λ z I9 ⟨e1,e2⟩=>⟨_,_,e1,Or.inr hq,e2⟩)
 have TV:=zC (show ∀ y z:Int,y<=z->LeN (lbX R R2 L0 GG k p q r s y (Q st)) (lbX R R2 L0 GG k p q r s z (Q st)) from λ y z hyz=>lb_mono hE h0 (zE st) (zE st) (YA hyz (by have:=zE st;omega)))
 have OY:=zC (show ∀ j:Nat,lo+(j:Int)<=hi->lbE k p q r s (lo+(j:Int)) (Q st) b=0 from λ j hj=>zRY h0 (by rw[cS] at hj ⊢;rw[fO] at hj;exact q_rok rH (zA HC) hj) (by omega) (by omega))
 clear hE h Jg XB hc Gf s6' cS fO
 go_enter Tryz.func6,Tryz.ntmps6
 go_wp2_with fail;rw[<- hW];clear hW;refine (zCD _).mono ?_;rintro z wa ⟨rfl,I0⟩;replace A:=A.bw I0;replace G:=G.bw I0;replace J:=J.bw I0;replace j7:=zB j7 I0;clear I0;go_wp2_with fail;refine (zE7 _).mono ?_;rintro z wb ⟨rfl,I0⟩;replace A:=A.bw I0;replace G:=G.bw I0;replace J:=J.bw I0;replace j7:=zB j7 I0;clear I0;have iL:=A.c0;have iM:=A.c1;have mY:=A.c2;have od:=A.c3;have og:=A.c4;have fAl:=A.lt;have IY:=G.c0;have IZ:=G.c1;have fGl:=G.lt;go_wp2_with fail;clear iL iM mY od og fAl IY IZ fGl;refine (zA Vc pn pd (zA HR) _).mono ?_;rintro z w3 ⟨j,rfl,hq,I0⟩;replace A:=A.bw I0;replace G:=G.bw I0;replace J:=J.bw I0;replace j7:=zB j7 I0;have jle:=hq.le;have ba:=zC hq;clear I0 hq;have iL:=A.c0;have iM:=A.c1;have mY:=A.c2;have od:=A.c3;have og:=A.c4;have fAl:=A.lt;go_wp2_with fail;clear iL iM mY od og fAl;refine (zA Vg _).mono ?_;rintro z w4 ⟨rfl,I0⟩
 replace A:=A.bw I0;replace G:=G.bw I0;replace J:=J.bw I0;replace j7:=zB j7 I0;clear I0;have g1:¬ lo+(j:Int)<lo:=by omega
 have g2:¬ lo+(j:Int) > hi+1:=by omega
 have g3:¬ hi+1<lo+(j:Int):=by omega
 go_wp2_with fail
 go_loopw [15,16] (λ oo ii wr=>∃ i:Nat,oo=.int .i64 (Q i)/\ii=.int .i64 (i:Int)/\i<=st/\Below w4.heap.size w4 wr) (λ _ ii _=>st-(intOf ii).toNat)
 case atStart=>exact⟨0,rfl,rfl,Nat.zero_le _,Below.refl _ _⟩
 case round =>
 obtain⟨i,rfl,rfl,hi',I0⟩:=hrel
 by_cases I7:i<st
 ·have gI:(i:Int)<(st:Int):=by omega
  have q:=zE i;have q6:=zJ (show i<=6 by omega)
  have e6:Q 6=64:=rfl;rw[e6] at q6;obtain⟨Z,dL⟩:∃ Z,Z=Q i:=⟨_,rfl⟩;have Ie:=zC dL;rw[<- dL];rw[<- dL] at q q6;clear e6 dL;go_wp2_with fail
  go_roundw
  case rel=>exact⟨i+1,by rw[show Q (i+1)=Z*2 by rw[zA Ie];show 2*Q i=_;omega],by go_num,by omega,I0⟩
  case measure=>simp[intOf];omega
 have gI:¬ (i:Int)<(st:Int):=by omega
 have he:i=st:=by omega
 subst he;clear I7 hi';replace A:=A.bw I0;replace G:=G.bw I0;replace J:=J.bw I0;replace j7:=zB j7 I0;clear I0
 go_upto_if 63 with fail
 go_cut [18] (λ _ wx=>Below wr.heap.size wr wx)
 case first =>
  by_cases hle:lo+(j:Int)<=hi
  ·have iL:=A.c0
   have iM:=A.c1;have mY:=A.c2;have od:=A.c3;have og:=A.c4;have fAl:=A.lt;go_wp2_with fail;clear iL iM mY od og fAl;refine (zHU (zA HE) _ k p q r s (lo+(j:Int)) (Q i) b (zA OY j hle)).mono ?_;rintro z w5 ⟨L5,H5,hv,s5,rfl,FO,Rq,D6⟩
   have HG:=zC (show ¬ zM (H5+16) (pn*Q b/pd)<0 by
    have g:=grow_a (by omega) ((zA ba).t hle) hv
    have e:(ofI pn pd b).1=pn*Q b/pd:=rfl;rw[e] at g
    unfold zM;split<;>(try split)<;>omega)
   obtain⟨V5,Fx⟩:∃ V,V=w5.alloc (.cells s5.q 31):=⟨_,rfl⟩;have Io:Below w5.heap.size w5 V5:=by rw[Fx];exact bl1 _ _
   have U5:SpC V5 w5.heap.size s5:=by rw[Fx];exact zB2 w5 s5 _
   have nb:=zB D6 Io;have EK:=zC ((Rq.bw Io).hi);have G5:=G.bw nb;clear FO Rq hv D6 Io
   go_upto_region 16 with fail
   rw[<- Fx];clear Fx;have HK:=zC (show ∀ w',Below V5.heap.size V5 w'->(w'.cell? ⟨w5.heap.size,2,none⟩=some (.bool s5.hn)/\w'.cell? ⟨w5.heap.size,3,none⟩=some (.slice s5.ha s5.hN s5.hc)/\rK0 w' ((w.heap.size+1)) pn pd) from λ w' hB=>⟨(U5.bw hB).c2,(U5.bw hB).c3,(G5.bw hB).c0,(G5.bw hB).c1⟩)
   have lU:=U5.lt;have lG5:=G5.lt;have pS:=@zRN;have A9:Below V5.heap.size V5 V5.drew:=(Below.refl _ _).drew;obtain⟨x0,x1,x2,x3⟩:=zA HK _ (Below.refl _ _)
   go_region_held3 (λ w'=>w'.cell? ⟨w5.heap.size,2,none⟩=some (.bool s5.hn)/\w'.cell? ⟨w5.heap.size,3,none⟩=some (.slice s5.ha s5.hN s5.hc)/\rK0 w' ((w.heap.size+1)) pn pd) (first|exact zA HK _ (by with_reducible first|exact A9|exact I5|exact E9|exact s9|exact p9)|(dsimp only[cK,cK0,nK,nK0,rK,rK0];go_keep)|go_keep)
    (first
     | (go_at_call 17;have K4:=E9;refine (jO _ _ _ _ _ _ _ _ _ _ (H5+16) (pn*Q b/pd) _ (A5.bw CG) Kz.lo).mono ?_;rintro zz v4 ⟨rfl,y9⟩;have I5:=zB E9 y9)
     | (go_at_call 34;have K4:=s9;refine (zB1 pn pd b _ (zA Pj) (by omega)).mono ?_;rintro zz v3 ⟨y3,rfl,KT,Kz,CG⟩;clear KT;have E9:=zB s9 CG)
     | (go_at_call 32;have K4:=p9;refine (zAE _ _ _ _ _ _ _ _ 250 4 H5 16 _ ((zA EK).bw p9) o8 (by omega) (by omega)).mono ?_;rintro zz v2 ⟨j6,a2',Ll,c2',rfl,A5,J5⟩;have s9:=zB p9 J5)
     | (go_at_call 33;refine (zD 16 _ (by omega) (by omega)).mono ?_;rintro zz v1 ⟨m7,Ps,gR,PG,rfl,o8,L8⟩;have p9:=zB A9 L8))
   all_goals
    have hg:=zA HG;go_wp2_with fail;go_meet;exact zB nb I5
  ·go_wp2_with fail
   go_meet;exact Below.refl _ _
 case rest =>
 replace A:=A.bw hcut;replace G:=G.bw hcut;replace J:=J.bw hcut;replace j7:=zB j7 hcut;clear hcut OY g1 g2 g3;have iL:=A.c0;have iM:=A.c1;have mY:=A.c2;have od:=A.c3;have og:=A.c4;have fAl:=A.lt;have Xw:=J.c0;have Xx:=J.c1;have fJl:=J.lt;go_wp2_with fail;clear iL iM mY od og fAl Xw Xx fJl;refine (zA Vb _).mono ?_;rintro z w6 ⟨m,e,rfl,FI,I0⟩;replace A:=A.bw I0;replace G:=G.bw I0;replace J:=J.bw I0;replace j7:=zB j7 I0;have TT:=zC FI;clear I0 FI
 go_upto_region 19 with fail
 have HK:=zC (show ∀ w',Below w6.heap.size w6 w'->(rK w' ((w.heap.size+1)) pn pd (rK0 w' ((w.heap.size+1+1)) qn qd)) from λ w' hB=>⟨(G.bw hB).c0,(G.bw hB).c1,(J.bw hB).c0,(J.bw hB).c1⟩)
 have lG6:=G.lt;have lJ6:=J.lt;have pS:=@zRN;have JN:=@fieldS1;obtain⟨x0,x1,x2,x3⟩:=zA HK _ (Below.refl _ _)
 go_cut [20] (λ pz wx=>∃ (B:Nat) (u:Nm) (zl:Int),pz=.pointer (some ⟨B,0,none⟩)/\(rok qn qd->zl=qn*Q b/qd)/\w6.heap.size<=B/\NmC wx B u/\IntAt wx u.neg u.a u.n u.cap 80 (zl - -(-(pn*Q b)/pd))/\Below w6.heap.size w6 wx)
 case first =>
  go_region_held3 (λ w'=>rK w' ((w.heap.size+1)) pn pd (rK0 w' ((w.heap.size+1+1)) qn qd)) (exact zA HK _ (by repeat' (first|with_reducible exact sI|with_reducible exact jf|with_reducible exact jd|with_reducible exact Below.refl _ _|with_reducible refine Below.drew ?_|with_reducible refine zL ?_ _|with_reducible refine Below.setCell ?_ (by first|exact YE _|exact vN|exact vO|exact vP) _)))
   (first
    | (go_at_call 35;have hq:=jf;refine (zBI _ _ _ _ _ _ _ _ 60 60 zl (-(-(pn*Q b)/pd)) _ (kl.bw (by with_reducible first|exact Below.refl _ _|exact bl1 _ _)) ((tB.bw (by with_reducible first|exact Below.refl _ _|exact bl1 _ _)).mono (by omega)) (by omega) (by omega)).mono ?_;rintro r SV ⟨rC,Pv,Sk,PI,rfl,Jx,tN⟩;have jx:Below Gm.heap.size Gm SV:=(by with_reducible first|exact tN|exact zB (bl1 _ _) tN);have sI:=zB jf jx;(try with_reducible have PZ:=(jL Gm 29).bw tN);replace kl:=kl.bw jx;(try replace zv:=zv.bw jx);replace tB:=tB.bw jx;(try replace Ff:=Ff.bw jx);have vP:=sI.size;(try have mG1:=zv.lt);(try obtain⟨LZ,Ma,zG1f⟩:=zv);(try have mG2:=Ff.lt);(try obtain⟨Mb,Mc,zG2f⟩:=Ff);(try have mG3:=PZ.lt);(try obtain⟨Md,Me,zG3f⟩:=PZ))
    | (go_at_call 34;have hq:=jd;refine (zB1 pn pd b _ (zA Pj) (by omega)).mono ?_;rintro r Gm ⟨yG2,rfl,DG,qw,tM⟩;have tB:=qw.hi;clear DG qw;have sW:Below Gl.heap.size Gl Gm:=(by with_reducible first|exact tM|exact zB (bl1 _ _) tM);have jf:=zB jd sW;(try with_reducible have Ff:=(jL Gl 29).bw tM);replace kl:=kl.bw sW;(try replace zv:=zv.bw sW);have vO:=jf.size)
    | (go_at_call 34;refine (zKG qn qd b _ aX O2 Kq Kr (by omega)).mono ?_;rintro r Gl ⟨zl,zh,rm,yG1,rfl,DF,qo,tL⟩;have kl:=qo.lo;have Ii:=zC rm;clear rm DF qo;have jd:Below w6.heap.size w6 Gl:=(by with_reducible first|exact zB (Below.refl _ _).drew tL|exact zB (bl1 _ _).drew tL);(try with_reducible have zv:=((jL w6 29).bw (Below.refl _ _).drew).bw tL);have vN:=jd.size))
  all_goals
   have hfinG:IntAt SV rC Pv Sk PI 80 (zl - -(-(pn*Q b)/pd)):=Jx.mono (by omega)
   go_wp2_with fail;go_meet;refine⟨_,⟨rC,Pv,Sk,PI⟩,zl,rfl,zA Ii,?_,⟨?_,?_⟩,?_,?_⟩
   ·first|exact YE _|exact vN|exact vO|exact vP
   ·simp[go_sem, *]
   ·simp[go_sem, *]
   ·first|with_reducible exact hfinG.put2 Md Me _ _|with_reducible exact hfinG.put2 Mb Mc _ _|with_reducible exact hfinG.put2 LZ Ma _ _|with_reducible exact hfinG.bw (bl1 _ _)
   ·repeat' (first|with_reducible exact sI|with_reducible exact jf|with_reducible exact jd|with_reducible exact Below.refl _ _|with_reducible refine Below.drew ?_|with_reducible refine zL ?_ _|with_reducible refine Below.setCell ?_ (by first|exact YE _|exact vN|exact vO|exact vP) _)
 case rest =>
 obtain⟨BG,xG,zl,rfl,rm,hHG,XG,hpG,hblG⟩:=hcut;replace j7:=zB j7 hblG;obtain⟨gp,ny⟩:∃ gp,gp=zl - -(-(pn*Q b)/pd):=⟨_,rfl⟩;rw[<- ny] at hpG;have Pe:=zC hpG;have GQ:=zC ny;clear ny;obtain⟨V7,CC⟩:∃ V,V=wc:=⟨_,rfl⟩;subst CC;have lXG:=XG.lt;clear hpG hblG x0 x1 x2 x3 HK pS JN A G J;have nle:=zA TT;have HK:=zC (show ∀ w',Below V7.heap.size V7 w'->(nK0 w' BG xG) from λ w' hB=>⟨(XG.bw hB).c0,(XG.bw hB).c1⟩)
 have A9:Below V7.heap.size V7 V7.drew:=(Below.refl _ _).drew
 by_cases he:e=0
 ·subst he
  have I7:rok qn qd/\∃ i':Nat,m=lo+(i':Int)/\QAt (λ z=>lbX R R2 L0 GG k p q r s z (Q i)) lo hi qn qd b i':=by
   rcases nle with⟨_,h1,h2⟩|h1
   ·exact⟨h1,h2⟩
   ·exact absurd rfl h1
  obtain⟨Rg,i',rfl,Ks⟩:=I7;have AE:=rm Rg;have gZ:=zC Ks;have ile:=Ks.le;clear rm nle Ks
  by_cases lJ:gp<32
  ·have rL:=zC (show zM gp 32<0 by unfold zM;rw[if_pos lJ];decide)
   clear AE lJ ba gZ;go_wp2_with fail;refine wp_region_held_drew (S:=λ w'=>nK0 w' BG xG) (by kernel_rfl) (zA HK _ A9) (λ hHeld=>?_)
   refine wpAnyH_take (i:=0) (oi:={ dst:=some 104,op:=Go.Op.move (Go.Operand.tmp 12),type:=32,pos := "all.go:645",after:=#[],guard:=none }) (v:=.int .i64 0) rfl (by kernel_rfl) (by kernel_rfl) (by kernel_rfl) (λ _ _ _ h=>h) (Or.inl ⟨by rfl,λ w hSw=>?_⟩) hHeld ?_
   ·obtain⟨s0,s1⟩:=hSw;go_simp
   try simp only[Act.put,Yv,Yw,Yx]
   refine wpAnyH_take (i:=1) (oi:={ dst:=some 105,op:=Go.Op.binOp Go.BinOp.neq 32 (Go.Operand.tmp 104) (Go.Operand.const (Go.Value.int Go.IntKind.i64 0)) 32,type:=4,pos := "all.go:645",after:=#[{ on:=0,ground:=Go.Ground.data }],guard:=none }) (v:=.bool false) rfl (by kernel_rfl) (by kernel_rfl) (by kernel_rfl) (λ _ _ _ h=>h) (Or.inl ⟨by rfl,λ w hSw=>?_⟩) hHeld ?_
   ·obtain⟨s0,s1⟩:=hSw;go_simp
   try simp only[Act.put,Yv,Yw,Yx]
   refine wpAnyH_take (i:=2) (oi:={ dst:=some 106,op:=Go.Op.move (Go.Operand.tmp 105),type:=4,pos := "all.go:645",after:=#[{ on:=1,ground:=Go.Ground.data }],guard:=none }) (v:=.bool false) rfl (by kernel_rfl) (by kernel_rfl) (by kernel_rfl) (λ _ _ _ h=>h) (Or.inl ⟨by rfl,λ w hSw=>?_⟩) hHeld ?_
   ·obtain⟨s0,s1⟩:=hSw;go_simp
   try simp only[Act.put,Yv,Yw,Yx]
   refine wpAnyH_take (i:=3) (oi:={ dst:=some 107,op:=Go.Op.load 29 (Go.Operand.tmp 20),type:=29,pos := "all.go:645",after:=#[{ on:=2,ground:=Go.Ground.guard }],guard:=some (2,false) }) (v:=.agg xG.q) rfl (by kernel_rfl) (by kernel_rfl) (by kernel_rfl) (λ _ _ _ h=>h) (Or.inl ⟨by rfl,λ w hSw=>?_⟩) hHeld ?_
   ·obtain⟨s0,s1⟩:=hSw;go_simp
   try simp only[Act.put,Yv,Yw,Yx]
   refine wpAnyH_ready (rs:=[4]) (by kernel_rfl) (by simp) ?_
   refine AllReadyH.cons (o:={ dst:=some 108,op:=Go.Op.call { callee:=Go.Callee.value (Go.Operand.func 33),args:=#[Go.Operand.const (Go.Value.int Go.IntKind.i64 32)],argTypes:=#[3] },type:=29,pos := "all.go:645",after:=#[{ on:=2,ground:=Go.Ground.chain },{ on:=2,ground:=Go.Ground.guard }],guard:=some (2,false) }) rfl (λ K hK=>?_) AllReadyH.nil
   go_simp
   refine (zD 32 _ (by omega) (by omega)).mono ?_
   rintro r' v1 ⟨m7,Ps,gR,PG,rfl,o8,L8⟩;have p9:=zB A9 L8;clear L8;go_wp2_with fail;refine hK.out _ _ (zA HK _ p9) (λ hHeld=>?_)
   clear hK K
   try simp only[Act.put,Yv,Yw,Yx]
   refine wpAnyH_ready (rs:=[5]) (by kernel_rfl) (by simp) ?_
   refine AllReadyH.cons (o:={ dst:=some 109,op:=Go.Op.call { callee:=Go.Callee.value (Go.Operand.func 17),args:=#[Go.Operand.tmp 107,Go.Operand.tmp 108],argTypes:=#[29,29] },type:=3,pos := "all.go:645",after:=#[{ on:=3,ground:=Go.Ground.data },{ on:=4,ground:=Go.Ground.data },{ on:=4,ground:=Go.Ground.chain },{ on:=2,ground:=Go.Ground.guard }],guard:=some (2,false) }) rfl (λ K hK=>?_) AllReadyH.nil
   go_simp
   refine (jO _ _ _ _ _ _ _ _ 80 4 gp 32 _ ((zA Pe).bw p9) o8).mono ?_;rintro r' v2 ⟨rfl,J5⟩;have s9:=zB p9 J5;clear J5;go_wp2_with fail;refine hK.out _ _ (zA HK _ s9) (λ hHeld=>?_)
   clear hK K
   try simp only[Act.put,Yv,Yw,Yx]
   refine wpAnyH_take (i:=6) (oi:={ dst:=some 110,op:=Go.Op.binOp Go.BinOp.lss 3 (Go.Operand.tmp 109) (Go.Operand.const (Go.Value.int Go.IntKind.i64 0)) 3,type:=4,pos := "all.go:645",after:=#[{ on:=5,ground:=Go.Ground.data },{ on:=2,ground:=Go.Ground.guard }],guard:=some (2,false) }) (v:=.bool true) rfl (by kernel_rfl) (by kernel_rfl) (by kernel_rfl) (λ _ _ _ h=>h) (Or.inl ⟨by rfl,λ w hSw=>?_⟩) hHeld ?_
   ·obtain⟨s0,s1⟩:=hSw;(have FE:=zA rL;go_simp)
   try simp only[Act.put,Yv,Yw,Yx]
   refine wpAnyH_take (i:=7) (oi:={ dst:=some 111,op:=Go.Op.pick (Go.Operand.tmp 106) (Go.Operand.const (Go.Value.bool true)) (Go.Operand.tmp 110),type:=4,pos := "all.go:645",after:=#[{ on:=2,ground:=Go.Ground.data },{ on:=6,ground:=Go.Ground.data }],guard:=none }) (v:=.bool true) rfl (by kernel_rfl) (by kernel_rfl) (by kernel_rfl) (λ _ _ _ h=>h) (Or.inl ⟨by rfl,λ w hSw=>?_⟩) hHeld ?_
   ·obtain⟨s0,s1⟩:=hSw;go_simp
   try simp only[Act.put,Yv,Yw,Yx]
   refine wpAnyH_take (i:=8) (oi:={ dst:=some 112,op:=Go.Op.move (Go.Operand.tmp 111),type:=4,pos := "all.go:645",after:=#[{ on:=7,ground:=Go.Ground.data },{ on:=5,ground:=Go.Ground.chain }],guard:=none }) (v:=.bool true) rfl (by kernel_rfl) (by kernel_rfl) (by kernel_rfl) (λ _ _ _ h=>h) (Or.inl ⟨by rfl,λ w hSw=>?_⟩) hHeld ?_
   ·obtain⟨s0,s1⟩:=hSw;go_simp
   try simp only[Act.put,Yv,Yw,Yx]
   refine wpAnyH_take (i:=9) (oi:={ dst:=some 113,op:=Go.Op.move (Go.Operand.tmp 11),type:=3,pos := "all.go:645",after:=#[{ on:=8,ground:=Go.Ground.guard }],guard:=some (8,false) }) (v:=undef) rfl (by kernel_rfl) (by kernel_rfl) (by kernel_rfl) (λ _ _ _ h=>h) (Or.inr ⟨by rfl,rfl⟩) hHeld ?_
   try simp only[Act.put,Yv,Yw,Yx]
   refine wpAnyH_take (i:=10) (oi:={ dst:=some 114,op:=Go.Op.move (Go.Operand.tmp 19),type:=3,pos := "all.go:645",after:=#[{ on:=8,ground:=Go.Ground.guard }],guard:=some (8,false) }) (v:=undef) rfl (by kernel_rfl) (by kernel_rfl) (by kernel_rfl) (λ _ _ _ h=>h) (Or.inr ⟨by rfl,rfl⟩) hHeld ?_
   try simp only[Act.put,Yv,Yw,Yx]
   refine wpAnyH_take (i:=11) (oi:={ dst:=some 115,op:=Go.Op.binOp Go.BinOp.leq 3 (Go.Operand.tmp 113) (Go.Operand.tmp 114) 3,type:=4,pos := "all.go:645",after:=#[{ on:=9,ground:=Go.Ground.data },{ on:=10,ground:=Go.Ground.data },{ on:=8,ground:=Go.Ground.guard }],guard:=some (8,false) }) (v:=undef) rfl (by kernel_rfl) (by kernel_rfl) (by kernel_rfl) (λ _ _ _ h=>h) (Or.inr ⟨by rfl,rfl⟩) hHeld ?_
   try simp only[Act.put,Yv,Yw,Yx]
   refine wpAnyH_take (i:=12) (oi:={ dst:=some 116,op:=Go.Op.pick (Go.Operand.tmp 112) (Go.Operand.const (Go.Value.bool true)) (Go.Operand.tmp 115),type:=4,pos := "all.go:645",after:=#[{ on:=8,ground:=Go.Ground.data },{ on:=11,ground:=Go.Ground.data }],guard:=none }) (v:=.bool true) rfl (by kernel_rfl) (by kernel_rfl) (by kernel_rfl) (λ _ _ _ h=>h) (Or.inl ⟨by rfl,λ w hSw=>?_⟩) hHeld ?_
   ·obtain⟨s0,s1⟩:=hSw;go_simp
   try simp only[Act.put,Yv,Yw,Yx]
   refine wpAnyH_take (i:=13) (oi:={ dst:=some 10,op:=Go.Op.assign (Go.Operand.tmp 116),type:=4,pos := "all.go:645",after:=#[{ on:=12,ground:=Go.Ground.data },{ on:=8,ground:=Go.Ground.chain },{ on:=0,ground:=Go.Ground.phase },{ on:=1,ground:=Go.Ground.phase },{ on:=2,ground:=Go.Ground.phase },{ on:=3,ground:=Go.Ground.phase },{ on:=4,ground:=Go.Ground.phase },{ on:=5,ground:=Go.Ground.phase },{ on:=6,ground:=Go.Ground.phase },{ on:=7,ground:=Go.Ground.phase },{ on:=8,ground:=Go.Ground.phase },{ on:=9,ground:=Go.Ground.phase },{ on:=10,ground:=Go.Ground.phase },{ on:=11,ground:=Go.Ground.phase },{ on:=12,ground:=Go.Ground.phase }],guard:=none }) (v:=.bool true) rfl (by kernel_rfl) (by kernel_rfl) (by kernel_rfl) (λ _ _ _ h=>h) (Or.inl ⟨by rfl,λ w hSw=>?_⟩) hHeld ?_
   ·obtain⟨s0,s1⟩:=hSw;go_simp
   try simp only[Act.put,Yv,Yw,Yx]
   refine wpAnyH_done (by kernel_rfl) ?_ _
   go_wp2_with fail;exact bodyPost_ret (v:=.bool true) (by simp[results,Tryz.results6]) rfl ⟨rfl,zB j7 s9⟩
  ·have rL:=zC (show ¬ zM gp 32<0 by unfold zM;rw[if_neg lJ];split<;>decide)
   have TW:=zC (show lo+(j:Int)<=lo+(i':Int) by
    refine Int.not_lt.1 λ D5=>lJ ?_
    have g:=grow_b (by omega) (by have:=Rg.2.2.1;omega) (zA TV) (zA ba) (zA gZ) (show i'<j by omega)
    have e1:(ofI qn qd b).1=qn*Q b/qd:=rfl;have e2:(ofI pn pd b).2 = -(-(pn*Q b)/pd):=rfl
    rw[zA GQ,AE,<- e1,<- e2];exact g)
   clear AE lJ ba gZ;go_wp2_with fail;refine wp_region_held_drew (S:=λ w'=>nK0 w' BG xG) (by kernel_rfl) (zA HK _ A9) (λ hHeld=>?_)
   refine wpAnyH_take (i:=0) (oi:={ dst:=some 104,op:=Go.Op.move (Go.Operand.tmp 12),type:=32,pos := "all.go:645",after:=#[],guard:=none }) (v:=.int .i64 0) rfl (by kernel_rfl) (by kernel_rfl) (by kernel_rfl) (λ _ _ _ h=>h) (Or.inl ⟨by rfl,λ w hSw=>?_⟩) hHeld ?_
   ·obtain⟨s0,s1⟩:=hSw;go_simp
   try simp only[Act.put,Yv,Yw,Yx]
   refine wpAnyH_take (i:=1) (oi:={ dst:=some 105,op:=Go.Op.binOp Go.BinOp.neq 32 (Go.Operand.tmp 104) (Go.Operand.const (Go.Value.int Go.IntKind.i64 0)) 32,type:=4,pos := "all.go:645",after:=#[{ on:=0,ground:=Go.Ground.data }],guard:=none }) (v:=.bool false) rfl (by kernel_rfl) (by kernel_rfl) (by kernel_rfl) (λ _ _ _ h=>h) (Or.inl ⟨by rfl,λ w hSw=>?_⟩) hHeld ?_
   ·obtain⟨s0,s1⟩:=hSw;go_simp
   try simp only[Act.put,Yv,Yw,Yx]
   refine wpAnyH_take (i:=2) (oi:={ dst:=some 106,op:=Go.Op.move (Go.Operand.tmp 105),type:=4,pos := "all.go:645",after:=#[{ on:=1,ground:=Go.Ground.data }],guard:=none }) (v:=.bool false) rfl (by kernel_rfl) (by kernel_rfl) (by kernel_rfl) (λ _ _ _ h=>h) (Or.inl ⟨by rfl,λ w hSw=>?_⟩) hHeld ?_
   ·obtain⟨s0,s1⟩:=hSw;go_simp
   try simp only[Act.put,Yv,Yw,Yx]
   refine wpAnyH_take (i:=3) (oi:={ dst:=some 107,op:=Go.Op.load 29 (Go.Operand.tmp 20),type:=29,pos := "all.go:645",after:=#[{ on:=2,ground:=Go.Ground.guard }],guard:=some (2,false) }) (v:=.agg xG.q) rfl (by kernel_rfl) (by kernel_rfl) (by kernel_rfl) (λ _ _ _ h=>h) (Or.inl ⟨by rfl,λ w hSw=>?_⟩) hHeld ?_
   ·obtain⟨s0,s1⟩:=hSw;go_simp
   try simp only[Act.put,Yv,Yw,Yx]
   refine wpAnyH_ready (rs:=[4]) (by kernel_rfl) (by simp) ?_
   refine AllReadyH.cons (o:={ dst:=some 108,op:=Go.Op.call { callee:=Go.Callee.value (Go.Operand.func 33),args:=#[Go.Operand.const (Go.Value.int Go.IntKind.i64 32)],argTypes:=#[3] },type:=29,pos := "all.go:645",after:=#[{ on:=2,ground:=Go.Ground.chain },{ on:=2,ground:=Go.Ground.guard }],guard:=some (2,false) }) rfl (λ K hK=>?_) AllReadyH.nil
   go_simp
   refine (zD 32 _ (by omega) (by omega)).mono ?_
   rintro r' v1 ⟨m7,Ps,gR,PG,rfl,o8,L8⟩;have p9:=zB A9 L8;clear L8;go_wp2_with fail;refine hK.out _ _ (zA HK _ p9) (λ hHeld=>?_)
   clear hK K
   try simp only[Act.put,Yv,Yw,Yx]
   refine wpAnyH_ready (rs:=[5]) (by kernel_rfl) (by simp) ?_
   refine AllReadyH.cons (o:={ dst:=some 109,op:=Go.Op.call { callee:=Go.Callee.value (Go.Operand.func 17),args:=#[Go.Operand.tmp 107,Go.Operand.tmp 108],argTypes:=#[29,29] },type:=3,pos := "all.go:645",after:=#[{ on:=3,ground:=Go.Ground.data },{ on:=4,ground:=Go.Ground.data },{ on:=4,ground:=Go.Ground.chain },{ on:=2,ground:=Go.Ground.guard }],guard:=some (2,false) }) rfl (λ K hK=>?_) AllReadyH.nil
   go_simp
   refine (jO _ _ _ _ _ _ _ _ 80 4 gp 32 _ ((zA Pe).bw p9) o8).mono ?_;rintro r' v2 ⟨rfl,J5⟩;have s9:=zB p9 J5;clear J5;go_wp2_with fail;refine hK.out _ _ (zA HK _ s9) (λ hHeld=>?_)
   clear hK K
   try simp only[Act.put,Yv,Yw,Yx]
   refine wpAnyH_take (i:=6) (oi:={ dst:=some 110,op:=Go.Op.binOp Go.BinOp.lss 3 (Go.Operand.tmp 109) (Go.Operand.const (Go.Value.int Go.IntKind.i64 0)) 3,type:=4,pos := "all.go:645",after:=#[{ on:=5,ground:=Go.Ground.data },{ on:=2,ground:=Go.Ground.guard }],guard:=some (2,false) }) (v:=.bool false) rfl (by kernel_rfl) (by kernel_rfl) (by kernel_rfl) (λ _ _ _ h=>h) (Or.inl ⟨by rfl,λ w hSw=>?_⟩) hHeld ?_
   ·obtain⟨s0,s1⟩:=hSw;(have FE:=zA rL;go_simp)
   try simp only[Act.put,Yv,Yw,Yx]
   refine wpAnyH_take (i:=7) (oi:={ dst:=some 111,op:=Go.Op.pick (Go.Operand.tmp 106) (Go.Operand.const (Go.Value.bool true)) (Go.Operand.tmp 110),type:=4,pos := "all.go:645",after:=#[{ on:=2,ground:=Go.Ground.data },{ on:=6,ground:=Go.Ground.data }],guard:=none }) (v:=.bool false) rfl (by kernel_rfl) (by kernel_rfl) (by kernel_rfl) (λ _ _ _ h=>h) (Or.inl ⟨by rfl,λ w hSw=>?_⟩) hHeld ?_
   ·obtain⟨s0,s1⟩:=hSw;go_simp
   try simp only[Act.put,Yv,Yw,Yx]
   refine wpAnyH_take (i:=8) (oi:={ dst:=some 112,op:=Go.Op.move (Go.Operand.tmp 111),type:=4,pos := "all.go:645",after:=#[{ on:=7,ground:=Go.Ground.data },{ on:=5,ground:=Go.Ground.chain }],guard:=none }) (v:=.bool false) rfl (by kernel_rfl) (by kernel_rfl) (by kernel_rfl) (λ _ _ _ h=>h) (Or.inl ⟨by rfl,λ w hSw=>?_⟩) hHeld ?_
   ·obtain⟨s0,s1⟩:=hSw;go_simp
   try simp only[Act.put,Yv,Yw,Yx]
   refine wpAnyH_take (i:=9) (oi:={ dst:=some 113,op:=Go.Op.move (Go.Operand.tmp 11),type:=3,pos := "all.go:645",after:=#[{ on:=8,ground:=Go.Ground.guard }],guard:=some (8,false) }) (v:=.int .i64 (lo+(j:Int))) rfl (by kernel_rfl) (by kernel_rfl) (by kernel_rfl) (λ _ _ _ h=>h) (Or.inl ⟨by rfl,λ w hSw=>?_⟩) hHeld ?_
   ·obtain⟨s0,s1⟩:=hSw;go_simp
   try simp only[Act.put,Yv,Yw,Yx]
   refine wpAnyH_take (i:=10) (oi:={ dst:=some 114,op:=Go.Op.move (Go.Operand.tmp 19),type:=3,pos := "all.go:645",after:=#[{ on:=8,ground:=Go.Ground.guard }],guard:=some (8,false) }) (v:=(.int .i64 (lo+(i':Int)))) rfl (by kernel_rfl) (by kernel_rfl) (by kernel_rfl) (λ _ _ _ h=>h) (Or.inl ⟨by rfl,λ w hSw=>?_⟩) hHeld ?_
   ·obtain⟨s0,s1⟩:=hSw;go_simp
   try simp only[Act.put,Yv,Yw,Yx]
   refine wpAnyH_take (i:=11) (oi:={ dst:=some 115,op:=Go.Op.binOp Go.BinOp.leq 3 (Go.Operand.tmp 113) (Go.Operand.tmp 114) 3,type:=4,pos := "all.go:645",after:=#[{ on:=9,ground:=Go.Ground.data },{ on:=10,ground:=Go.Ground.data },{ on:=8,ground:=Go.Ground.guard }],guard:=some (8,false) }) (v:=.bool true) rfl (by kernel_rfl) (by kernel_rfl) (by kernel_rfl) (λ _ _ _ h=>h) (Or.inl ⟨by rfl,λ w hSw=>?_⟩) hHeld ?_
   ·obtain⟨s0,s1⟩:=hSw;(have fR:=zA TW;go_simp)
   try simp only[Act.put,Yv,Yw,Yx]
   refine wpAnyH_take (i:=12) (oi:={ dst:=some 116,op:=Go.Op.pick (Go.Operand.tmp 112) (Go.Operand.const (Go.Value.bool true)) (Go.Operand.tmp 115),type:=4,pos := "all.go:645",after:=#[{ on:=8,ground:=Go.Ground.data },{ on:=11,ground:=Go.Ground.data }],guard:=none }) (v:=.bool true) rfl (by kernel_rfl) (by kernel_rfl) (by kernel_rfl) (λ _ _ _ h=>h) (Or.inl ⟨by rfl,λ w hSw=>?_⟩) hHeld ?_
   ·obtain⟨s0,s1⟩:=hSw;go_simp
   try simp only[Act.put,Yv,Yw,Yx]
   refine wpAnyH_take (i:=13) (oi:={ dst:=some 10,op:=Go.Op.assign (Go.Operand.tmp 116),type:=4,pos := "all.go:645",after:=#[{ on:=12,ground:=Go.Ground.data },{ on:=8,ground:=Go.Ground.chain },{ on:=0,ground:=Go.Ground.phase },{ on:=1,ground:=Go.Ground.phase },{ on:=2,ground:=Go.Ground.phase },{ on:=3,ground:=Go.Ground.phase },{ on:=4,ground:=Go.Ground.phase },{ on:=5,ground:=Go.Ground.phase },{ on:=6,ground:=Go.Ground.phase },{ on:=7,ground:=Go.Ground.phase },{ on:=8,ground:=Go.Ground.phase },{ on:=9,ground:=Go.Ground.phase },{ on:=10,ground:=Go.Ground.phase },{ on:=11,ground:=Go.Ground.phase },{ on:=12,ground:=Go.Ground.phase }],guard:=none }) (v:=.bool true) rfl (by kernel_rfl) (by kernel_rfl) (by kernel_rfl) (λ _ _ _ h=>h) (Or.inl ⟨by rfl,λ w hSw=>?_⟩) hHeld ?_
   ·obtain⟨s0,s1⟩:=hSw;go_simp
   try simp only[Act.put,Yv,Yw,Yx]
   refine wpAnyH_done (by kernel_rfl) ?_ _
   go_wp2_with fail;exact bodyPost_ret (v:=.bool true) (by simp[results,Tryz.results6]) rfl ⟨rfl,zB j7 s9⟩
 ·have c1:(e != 0)=true:=by simp[he]
  clear rm nle ba he;go_wp2_with fail;refine wp_region_held_drew (S:=λ w'=>nK0 w' BG xG) (by kernel_rfl) (zA HK _ A9) (λ hHeld=>?_)
  refine wpAnyH_take (i:=0) (oi:={ dst:=some 104,op:=Go.Op.move (Go.Operand.tmp 12),type:=32,pos := "all.go:645",after:=#[],guard:=none }) (v:=.int .i64 e) rfl (by kernel_rfl) (by kernel_rfl) (by kernel_rfl) (λ _ _ _ h=>h) (Or.inl ⟨by rfl,λ w hSw=>?_⟩) hHeld ?_
  ·obtain⟨s0,s1⟩:=hSw;go_simp
  try simp only[Act.put,Yv,Yw,Yx]
  refine wpAnyH_take (i:=1) (oi:={ dst:=some 105,op:=Go.Op.binOp Go.BinOp.neq 32 (Go.Operand.tmp 104) (Go.Operand.const (Go.Value.int Go.IntKind.i64 0)) 32,type:=4,pos := "all.go:645",after:=#[{ on:=0,ground:=Go.Ground.data }],guard:=none }) (v:=.bool true) rfl (by kernel_rfl) (by kernel_rfl) (by kernel_rfl) (λ _ _ _ h=>h) (Or.inl ⟨by rfl,λ w hSw=>?_⟩) hHeld ?_
  ·obtain⟨s0,s1⟩:=hSw;go_simp
  try simp only[Act.put,Yv,Yw,Yx]
  refine wpAnyH_take (i:=2) (oi:={ dst:=some 106,op:=Go.Op.move (Go.Operand.tmp 105),type:=4,pos := "all.go:645",after:=#[{ on:=1,ground:=Go.Ground.data }],guard:=none }) (v:=.bool true) rfl (by kernel_rfl) (by kernel_rfl) (by kernel_rfl) (λ _ _ _ h=>h) (Or.inl ⟨by rfl,λ w hSw=>?_⟩) hHeld ?_
  ·obtain⟨s0,s1⟩:=hSw;go_simp
  try simp only[Act.put,Yv,Yw,Yx]
  refine wpAnyH_take (i:=3) (oi:={ dst:=some 107,op:=Go.Op.load 29 (Go.Operand.tmp 20),type:=29,pos := "all.go:645",after:=#[{ on:=2,ground:=Go.Ground.guard }],guard:=some (2,false) }) (v:=undef) rfl (by kernel_rfl) (by kernel_rfl) (by kernel_rfl) (λ _ _ _ h=>h) (Or.inr ⟨by rfl,rfl⟩) hHeld ?_
  try simp only[Act.put,Yv,Yw,Yx]
  refine wpAnyH_take (i:=4) (oi:={ dst:=some 108,op:=Go.Op.call { callee:=Go.Callee.value (Go.Operand.func 33),args:=#[Go.Operand.const (Go.Value.int Go.IntKind.i64 32)],argTypes:=#[3] },type:=29,pos := "all.go:645",after:=#[{ on:=2,ground:=Go.Ground.chain },{ on:=2,ground:=Go.Ground.guard }],guard:=some (2,false) }) (v:=undef) rfl (by kernel_rfl) (by kernel_rfl) (by kernel_rfl) (λ _ _ _ h=>h) (Or.inr ⟨by rfl,rfl⟩) hHeld ?_
  try simp only[Act.put,Yv,Yw,Yx]
  refine wpAnyH_take (i:=5) (oi:={ dst:=some 109,op:=Go.Op.call { callee:=Go.Callee.value (Go.Operand.func 17),args:=#[Go.Operand.tmp 107,Go.Operand.tmp 108],argTypes:=#[29,29] },type:=3,pos := "all.go:645",after:=#[{ on:=3,ground:=Go.Ground.data },{ on:=4,ground:=Go.Ground.data },{ on:=4,ground:=Go.Ground.chain },{ on:=2,ground:=Go.Ground.guard }],guard:=some (2,false) }) (v:=undef) rfl (by kernel_rfl) (by kernel_rfl) (by kernel_rfl) (λ _ _ _ h=>h) (Or.inr ⟨by rfl,rfl⟩) hHeld ?_
  try simp only[Act.put,Yv,Yw,Yx]
  refine wpAnyH_take (i:=6) (oi:={ dst:=some 110,op:=Go.Op.binOp Go.BinOp.lss 3 (Go.Operand.tmp 109) (Go.Operand.const (Go.Value.int Go.IntKind.i64 0)) 3,type:=4,pos := "all.go:645",after:=#[{ on:=5,ground:=Go.Ground.data },{ on:=2,ground:=Go.Ground.guard }],guard:=some (2,false) }) (v:=undef) rfl (by kernel_rfl) (by kernel_rfl) (by kernel_rfl) (λ _ _ _ h=>h) (Or.inr ⟨by rfl,rfl⟩) hHeld ?_
  try simp only[Act.put,Yv,Yw,Yx]
  refine wpAnyH_take (i:=7) (oi:={ dst:=some 111,op:=Go.Op.pick (Go.Operand.tmp 106) (Go.Operand.const (Go.Value.bool true)) (Go.Operand.tmp 110),type:=4,pos := "all.go:645",after:=#[{ on:=2,ground:=Go.Ground.data },{ on:=6,ground:=Go.Ground.data }],guard:=none }) (v:=.bool true) rfl (by kernel_rfl) (by kernel_rfl) (by kernel_rfl) (λ _ _ _ h=>h) (Or.inl ⟨by rfl,λ w hSw=>?_⟩) hHeld ?_
  ·obtain⟨s0,s1⟩:=hSw;go_simp
  try simp only[Act.put,Yv,Yw,Yx]
  refine wpAnyH_take (i:=8) (oi:={ dst:=some 112,op:=Go.Op.move (Go.Operand.tmp 111),type:=4,pos := "all.go:645",after:=#[{ on:=7,ground:=Go.Ground.data },{ on:=5,ground:=Go.Ground.chain }],guard:=none }) (v:=.bool true) rfl (by kernel_rfl) (by kernel_rfl) (by kernel_rfl) (λ _ _ _ h=>h) (Or.inl ⟨by rfl,λ w hSw=>?_⟩) hHeld ?_
  ·obtain⟨s0,s1⟩:=hSw;go_simp
  try simp only[Act.put,Yv,Yw,Yx]
  refine wpAnyH_take (i:=9) (oi:={ dst:=some 113,op:=Go.Op.move (Go.Operand.tmp 11),type:=3,pos := "all.go:645",after:=#[{ on:=8,ground:=Go.Ground.guard }],guard:=some (8,false) }) (v:=undef) rfl (by kernel_rfl) (by kernel_rfl) (by kernel_rfl) (λ _ _ _ h=>h) (Or.inr ⟨by rfl,rfl⟩) hHeld ?_
  try simp only[Act.put,Yv,Yw,Yx]
  refine wpAnyH_take (i:=10) (oi:={ dst:=some 114,op:=Go.Op.move (Go.Operand.tmp 19),type:=3,pos := "all.go:645",after:=#[{ on:=8,ground:=Go.Ground.guard }],guard:=some (8,false) }) (v:=undef) rfl (by kernel_rfl) (by kernel_rfl) (by kernel_rfl) (λ _ _ _ h=>h) (Or.inr ⟨by rfl,rfl⟩) hHeld ?_
  try simp only[Act.put,Yv,Yw,Yx]
  refine wpAnyH_take (i:=11) (oi:={ dst:=some 115,op:=Go.Op.binOp Go.BinOp.leq 3 (Go.Operand.tmp 113) (Go.Operand.tmp 114) 3,type:=4,pos := "all.go:645",after:=#[{ on:=9,ground:=Go.Ground.data },{ on:=10,ground:=Go.Ground.data },{ on:=8,ground:=Go.Ground.guard }],guard:=some (8,false) }) (v:=undef) rfl (by kernel_rfl) (by kernel_rfl) (by kernel_rfl) (λ _ _ _ h=>h) (Or.inr ⟨by rfl,rfl⟩) hHeld ?_
  try simp only[Act.put,Yv,Yw,Yx]
  refine wpAnyH_take (i:=12) (oi:={ dst:=some 116,op:=Go.Op.pick (Go.Operand.tmp 112) (Go.Operand.const (Go.Value.bool true)) (Go.Operand.tmp 115),type:=4,pos := "all.go:645",after:=#[{ on:=8,ground:=Go.Ground.data },{ on:=11,ground:=Go.Ground.data }],guard:=none }) (v:=.bool true) rfl (by kernel_rfl) (by kernel_rfl) (by kernel_rfl) (λ _ _ _ h=>h) (Or.inl ⟨by rfl,λ w hSw=>?_⟩) hHeld ?_
  ·obtain⟨s0,s1⟩:=hSw;go_simp
  try simp only[Act.put,Yv,Yw,Yx]
  refine wpAnyH_take (i:=13) (oi:={ dst:=some 10,op:=Go.Op.assign (Go.Operand.tmp 116),type:=4,pos := "all.go:645",after:=#[{ on:=12,ground:=Go.Ground.data },{ on:=8,ground:=Go.Ground.chain },{ on:=0,ground:=Go.Ground.phase },{ on:=1,ground:=Go.Ground.phase },{ on:=2,ground:=Go.Ground.phase },{ on:=3,ground:=Go.Ground.phase },{ on:=4,ground:=Go.Ground.phase },{ on:=5,ground:=Go.Ground.phase },{ on:=6,ground:=Go.Ground.phase },{ on:=7,ground:=Go.Ground.phase },{ on:=8,ground:=Go.Ground.phase },{ on:=9,ground:=Go.Ground.phase },{ on:=10,ground:=Go.Ground.phase },{ on:=11,ground:=Go.Ground.phase },{ on:=12,ground:=Go.Ground.phase }],guard:=none }) (v:=.bool true) rfl (by kernel_rfl) (by kernel_rfl) (by kernel_rfl) (λ _ _ _ h=>h) (Or.inl ⟨by rfl,λ w hSw=>?_⟩) hHeld ?_
  ·obtain⟨s0,s1⟩:=hSw;go_simp
  try simp only[Act.put,Yv,Yw,Yx]
  refine wpAnyH_done (by kernel_rfl) ?_ _
  go_wp2_with fail;exact bodyPost_ret (v:=.bool true) (by simp[results,Tryz.results6]) rfl ⟨rfl,zB j7 A9⟩
theorem zET (k p q r s pn pd qn qd st b:Int) (w:World) (aX : -9223372036854775808<=qn) (O2:qn<=9223372036854775807) (Kq : -9223372036854775808<=qd) (Kr:qd<=9223372036854775807) :
  Calls Tryz.prog 6 #[.agg #[.int .i64 k,.int .i64 p,.int .i64 q,.int .i64 r,.int .i64 s],.agg #[.int .i64 pn,.int .i64 pd],.agg #[.int .i64 qn,.int .i64 qd],.int .i64 st,.int .i64 b] w λ z w'=>z=.returned (.bool true)/\Below w.heap.size w w':=by
 by_cases h:qE k p q r s pn pd st b=0
 ·obtain⟨_,⟨_,b8,_⟩,⟨_,_,s0,_⟩,_⟩:=zIV h
  obtain⟨B,rfl⟩:∃ B:Nat,b=(B:Int):=⟨b.toNat,by omega⟩
  obtain⟨S,rfl⟩:∃ S:Nat,st=(S:Int):=⟨st.toNat,by omega⟩
  exact zRX k p q r s pn pd qn qd S B w aX O2 Kq Kr h
 ·exact zOY k p q r s pn pd qn qd st b w _ rfl h
open Go.ChangeShapes Go.WideShapes Go.ChangeAt Go.RowKit
theorem Tryz.own:ownKnob Tryz.prog.godebug=none:=by kernel_rfl
theorem Tryz.laidOut:laidOutB Tryz.prog=true:=by kernel_rfl
theorem Tryz.cellsI:Tryz.prog.cellsOf 3=1:=by kernel_rfl
end Go.Proofs.YtgmnknmjainabacGreat
