/-
  Its own texts.
-/
import Derived.Deep.CutBlock
import Derived.Test.YtgmnknmjainababGreatK20
set_option maxRecDepth 100000
set_option maxHeartbeats 40000000
set_option linter.unnecessarySimpa false
set_option linter.unusedSimpArgs false
set_option linter.unusedVariables false
namespace Go.Proofs.YtgmnknmjainababGreat
open Go.RowKit
attribute [local go_sem ↓] Go.wp_at_zero Go.wp_at_succ
open Ex
theorem lp_facts {B J:Nat} {Y:Int} (hB:B<=300) (hY:0<Y) (JJ:Y<Q (B+20)) (fR:Q B<=Y*Q J) (cX:Y<Q B*Q (J+1)):0<Y*Q 64/\Y*Q 64<P 120/\2*Q (B+64)<P 120/\Q (B+64)<=Y*Q 64*Q J/\Y*Q 64<Q (B+64)*Q (J+1)/\True:=by
 have q:=zG 64;have e:Q (B+64)=Q B*Q 64:=jD B 64;have m1:=Int.mul_lt_mul_of_pos_right JJ (show 0<Q 64 by omega)
 have e2:Q (B+20)*Q 64=Q (B+84):=by rw[<- jD]
 have m2:=zK (show B+84<=16*120 by omega)
 have m3:=zK (show B+64+1<=16*120 by omega)
 have e3:Q (B+64+1)=2*Q (B+64):=rfl;have m3':=zK (show B+64+1+1<=16*120 by omega)
 have e4:Q (B+64+1+1)=2*Q (B+64+1):=rfl;have qq:=zG (B+64);rw[Q_P] at m2 m3 m3';have m4:=XK fR (show 0<=Q 64 by omega)
 have m5:=Int.mul_lt_mul_of_pos_right cX (show 0<Q 64 by omega)
 have r1:Y*Q J*Q 64=Y*Q 64*Q J:=by grind
 have r2:Q B*Q (J+1)*Q 64=Q B*Q 64*Q (J+1):=by grind
 exact⟨Int.mul_pos hY (by omega),by omega,by omega,by omega,by rw[e];omega,trivial⟩
theorem lp_log {B:Nat} {Y:Int} {l:Nat->Rat} (h:IsLog l (λ _=>((Y*Q 64:Int):Rat)/(Q (B+64):Rat))):IsLog l (λ _=>(Y:Rat)/(Q B:Rat)):=by
 have q:=zY B;have oJ:=zY 64;have q2:=zY (B+64)
 have e:((Y*Q 64:Int):Rat)/(Q (B+64):Rat)=(Y:Rat)/(Q B:Rat):=by
  have e1:(Q (B+64):Rat)=(Q B:Rat)*(Q 64:Rat):=by rw[jD,Ye]
  have a:=rdm (a:=((Y*Q 64:Int):Rat)) q2;have b:=rdm (a:=(Y:Rat)) q;refine zS (c:=(Q (B+64):Rat)) q2 ?_;have r1:(Q (B+64):Rat)*(((Y*Q 64:Int):Rat)/(Q (B+64):Rat))=((Y*Q 64:Int):Rat)/(Q (B+64):Rat)*(Q (B+64):Rat):=by grind
  rw[r1,a,e1,Ye];have r2:(Q B:Rat)*(Q 64:Rat)*((Y:Rat)/(Q B:Rat))=(Y:Rat)/(Q B:Rat)*(Q B:Rat)*(Q 64:Rat):=by grind
  rw[r2,b]
 rw[e] at h;exact h
theorem refValue (w:World) (x:Nm) (k:Nat) (z:Int) (hx:IntAt w x.neg x.a x.n x.cap k z) (h0:0<=z) (h1:z<=1000000000) :
  Calls Tryz.prog 134 #[.agg x.q] w (λ r w'=>r=.returned (.int .i64 z)/\Below w.heap.size w w'):=by
 obtain⟨g,dg,dtop,dneg,dk,dz⟩:=hx
 have hV:V g x.n=z:=by
  have hv:=zZ dg.dgs x.n
  cases K5:x.neg
  ·rw[K5] at dz;simp[sgn] at dz;omega
  ·rw[K5] at dz;simp[sgn] at dz;omega
 obtain⟨W,hW⟩:∃ W,W=w.alloc (.cells x.q 26):=⟨_,rfl⟩;have b8:Below w.heap.size w W:=by rw[hW];exact bl1 _ _
 have D:NmC W w.heap.size x:=by rw[hW];exact zAK w x _
 have rL:=dg.bw b8;have vW:=zC rL;have Y9:=zC dg.dgs;have hroom:=dg.room;have HV:=zC hV;have lD:=D.lt;have jw:=D.c0;have vX:=D.c1;clear dg rL dtop dneg dk dz hV;obtain⟨xneg,xa,xn,xcap⟩:=x;simp only[] at vW HV hroom jw vX D hW
 go_enter Tryz.func134,Tryz.ntmps134
 go_wp2_with fail;rw[<- hW];clear hW
 go_loop [3,4] (λ nn ii=>∃ j:Nat,nn=.int .i64 (Tp g j xn)/\ii=.int .i64 ((j:Int)-1)/\j<=xn) (λ _ ii=>(intOf ii+1).toNat)
 case atStart=>exact⟨xn,by rw[zE3],rfl,XW _⟩
 case round =>
  obtain⟨j,rfl,rfl,hj⟩:=hrel
  by_cases cV:0<j
  ·obtain⟨m,rfl⟩:∃ m,j=m+1:=⟨j-1,by omega⟩
   have em:(((m+1:Nat):Int)-1)=(m:Int):=by omega
   rw[em];obtain⟨bb,off,ha,E4,hcell⟩:=(zA vW).at_ (by omega)
   have hc:=hcell m (by omega)
   have T7:(m:Int)<(xn:Int):=by omega
   have t1:=zAT (zA Y9) (m+1) xn;have t2:=Tp_le (zA Y9) (m+1) xn (by omega)
   have t3:=zA HV;obtain⟨g1,g2⟩:=zA Y9 m;have t4:=zCT g m xn (by omega)
   have ED:=zC t4;have t5:Tp g (m+1) xn<=1000000000:=by omega
   subst ha;clear hcell em t2 t3 t4;go_wp2_with fail
   go_round
   case rel =>
    refine⟨m,?_,?_,by omega⟩
    ·rw[zA ED,Int.add_comm]
    ·rfl
   case measure=>simp[intOf]
  ·have jc:j=0:=by omega
   subst jc;rw[zCR,zA HV];clear jw vX hj cV;go_wp2_with fail;exact bodyPost_ret (v:=.int .i64 z) (by simp[results,Tryz.results134,go_sem]) rfl ⟨rfl,b8⟩
theorem refLogOf (w:World) (s:Sp) (k B J:Nat) (Y:Int) (hs:SpAt w s k Y Y) (hbits:s.bits=(B:Int)) (hk:k<=1000000) (hB:B<=1000) (ba:B/16+8<=k) (hY:0<Y) (hYk:Y<P k) (hBk:2*Q B<P k) (fR:Q B<=Y*Q J) (cX:Y<Q B*Q (J+1)) (hJ:J<=1000) :
  Calls Tryz.prog 173 #[.agg s.q] w (λ r w'=>∃ (lo hi:Int) (l:Nat->Rat),Ex.IsLog l (λ _=>(Y:Rat)/(Q B:Rat))/\(Iv B (lo,hi) l/\Abs (lo,hi) (3*((J:Int)+1)*Q B))/\zJ w B (B/16+10) lo hi r w'):=by
 obtain⟨W,hW⟩:∃ W,W=(w.alloc (.cells s.q 36)).alloc (.cells zCq 36):=⟨_,rfl⟩;have b8:Below w.heap.size w W:=by rw[hW];exact bl2 _ _ _
 have A:SpC W w.heap.size s:=by rw[hW];constructor<;>simp[go_sem]
 have R:NoC W (w.heap.size+1):=by rw[hW];constructor<;>simp[go_sem]
 have HS:=zC (hs.bw b8);have HB:=zC hbits;have lA:=A.lt;have lR:=R.lt;have a4:=A.c4;have pS:=zCK;have BF:=zH4;have HY:=zC (And.intro hYk (And.intro hBk (And.intro fR cX)));have qB:=zG B;clear hs hbits hYk hBk fR cX
 go_enter Tryz.func173,Tryz.ntmps173
 go_wp2_with fail;rw[<- hW];clear hW a4;refine (zB8 (e:=B) s.bits (zA HB) _ (by omega)).mono ?_
 rintro r' w6 ⟨D4,a6,n6,c6,rfl,L9,G3⟩;obtain⟨V3,D3⟩:∃ V,V=w6.alloc (.cells #[.bool D4,.slice a6 n6 c6] 26):=⟨_,rfl⟩;have L8:Below w6.heap.size w6 V3:=by rw[D3];exact bl1 _ _
 have Pc:NmC V3 w6.heap.size ⟨D4,a6,n6,c6⟩:=by rw[D3];exact zAK w6 ⟨D4,a6,n6,c6⟩ _
 have Cf:=zC (L9.bw L8);replace R:=R.bw G3;have lR6:=R.lt;replace A:=(A.bw G3).bw L8;replace R:=R.bw L8;replace b8:=zB (zB b8 G3) L8;replace HS:=zC (((zA HS).bw G3).bw L8);clear L9 G3 L8;go_wp2_with fail;rw[<- D3];clear D3;obtain⟨BP,Ge⟩:∃ B',B'=w6.heap.size:=⟨_,rfl⟩;rw[<- Ge] at Pc lR6 ⊢;clear Ge;have lP:=Pc.lt;have IY:=A.lt;have Y1:=R.lt;have vz:w.heap.size+1≠BP:=by omega
 have rh:w.heap.size+1≠w.heap.size:=by omega
 have HK:=zC (show ∀ w',Below V3.heap.size V3 w'->(cK w' w.heap.size s (nK0 w' BP (⟨D4,a6,n6,c6⟩:Nm))) from λ w' hB=>⟨(A.bw hB).c0,(A.bw hB).c1,(A.bw hB).c2,(A.bw hB).c3,(A.bw hB).c4,(Pc.bw hB).c0,(Pc.bw hB).c1⟩)
 clear A Pc;obtain⟨x0,x1,x2,x3,x4,x5,x6⟩:=zA HK _ (Below.refl _ _);have m8:Below V3.heap.size V3 V3.drew:=(Below.refl _ _).drew
 go_region_held3 (λ w'=>cK w' w.heap.size s (nK0 w' BP (⟨D4,a6,n6,c6⟩:Nm))) (first|exact zA HK _ (by with_reducible first|exact m8|exact j9|exact j7)|(dsimp only[cK,cK0,nK,nK0,rK,rK0];go_keep)|go_keep)
  (first
   | (go_at_call 124;have H7:=j7;refine (zC1 (b:=B) s.bits (zA HB) _ ⟨s.hn,s.ha,s.hN,s.hc⟩ ⟨D4,a6,n6,c6⟩ k J Y (Q B) ((zA HS).hi.bw j7) (((zA Cf).bw j7).mono ba) (by omega) (by omega) hY (by omega) (zA HY).1 (zA HY).2.1 (zA HY).2.2.1 (zA HY).2.2.2 hJ).mono ?_;rintro r' w2 ⟨Cg,bQ,l2,g2,i2,v2,rfl,G7,o0,b9⟩;have j9:=zB j7 b9;have jg:=zC (And.intro g2 i2);clear G7 g2 i2;replace k9:=k9.bw b9;obtain⟨q0,q1,q2,q3,q4,q5⟩:=R.bw j9)
   | (go_at_call 124;refine (zC1 (b:=B) s.bits (zA HB) _ ⟨s.ln,s.la,s.lN,s.lc⟩ ⟨D4,a6,n6,c6⟩ k J Y (Q B) ((zA HS).lo.bw m8) (((zA Cf).bw m8).mono ba) (by omega) (by omega) hY (by omega) (zA HY).1 (zA HY).2.1 (zA HY).2.2.1 (zA HY).2.2.2 hJ).mono ?_;rintro r' w1 ⟨gX,O9,l1,g1,i1,v1,rfl,D6,k9,b7⟩;have j7:=zB m8 b7;have ia:=zC (And.intro g1 i1);clear D6 g1 i1))
 all_goals
  have HO:=zC (zD6 (zA ia).2.1 ((zA jg).2.1.congr (((zA ia).1).uniq (zA jg).1)) (LeN.refl l1) (LeN.refl l1));have Pj:=zC (show Abs (gX,bQ) (3*((J:Int)+1)*Q B) from⟨(zA ia).2.2.1,(zA ia).2.2.2.1,(zA jg).2.2.2.2.1,(zA jg).2.2.2.2.2⟩)
  go_wp2_with fail;refine bodyPost_ret (v:=.agg #[.bool v1.ln,.slice v1.la v1.lN v1.lc,.bool v2.hn,.slice v2.ha v2.hN v2.hc,.int .i64 s.bits]) (by simp[results,Tryz.results173,go_sem,q0,q1,q2,q3,q4]) rfl ⟨gX,bQ,l1,(zA ia).1,⟨zA HO,zA Pj⟩,⟨v1.ln,v1.la,v1.lN,v1.lc,v2.hn,v2.ha,v2.hN,v2.hc,s.bits⟩,rfl,zA HB,?_,?_⟩
  ·exact SpAt.put5 (show SpAt _ (⟨v1.ln,v1.la,v1.lN,v1.lc,v2.hn,v2.ha,v2.hN,v2.hc,s.bits⟩:Sp) _ gX bQ from⟨k9.lo,o0.hi⟩) q0 q1 q2 q3 q4 _ _ _ _ _
  ·exact kB (zB b8 j9) (Yh _) _ _ _ _ _
theorem zK7 (w:World) (x:Nm) (B J:Nat) (p q Y:Int) (hx:IntAt w x.neg x.a x.n x.cap 100 Y) (hB:B<=300) (hY:0<Y) (JJ:Y<Q (B+20)) (fR:Q B<=Y*Q J) (cX:Y<Q B*Q (J+1)) (hJ:J<=1000) (hp:0<p) (hq:0<q) (Y7:p<=1048576) (ag:q<=1048576) :
  Calls Tryz.prog 136 #[.agg x.q,.agg #[.int .i64 p,.int .i64 q],.int .i64 B] w (λ r w'=>∃ (lo hi:Int) (l:Nat->Rat),Ex.IsLog l (λ _=>(Y:Rat)/(Q B:Rat))/\(Iv (B+64) (lo,hi) l/\Abs (lo,hi) (3*((J:Int)+1)*Q (B+64)))/\zJ w ((B+64:Nat):Int) 60 (byI (lo,hi) p q).1 (byI (lo,hi) p q).2 r w'):=by
 obtain⟨W,hW⟩:∃ W,W=((w.alloc (.cells x.q 26)).alloc (.cells #[.int .i64 p,.int .i64 q] 23)).alloc (.cells zCq 36):=⟨_,rfl⟩;have b8:Below w.heap.size w W:=by rw[hW];exact bl3 _ _ _ _
 have A:NmC W w.heap.size x:=by rw[hW];constructor<;>simp[go_sem]
 have D:RaC W (w.heap.size+1) p q:=by rw[hW];constructor<;>simp[go_sem]
 have R:NoC W (w.heap.size+1+1):=by rw[hW];constructor<;>simp[go_sem]
 have HX:=zC (hx.bw b8);have lA:=A.lt;have lD:=D.lt;have lR:=R.lt;have HK:=zC (show ∀ w',Below W.heap.size W w'->(nK w' w.heap.size x (rK0 w' (w.heap.size+1) p q)) from λ w' hB=>⟨(A.bw hB).c0,(A.bw hB).c1,(D.bw hB).c0,(D.bw hB).c1⟩)
 have Gf:=zC (lp_facts (J:=J) hB hY JJ fR cX);have HE:=zC (show IntKind.i64.wrap ((B:Int)+64)=((B+64:Nat):Int) from (jL _ (by omega) (by omega)).trans (by omega))
 have kb:=zC (show ((B:Int)+64)=((B+64:Nat):Int) by omega)
 clear hx A D fR cX JJ
 go_enter Tryz.func136,Tryz.ntmps136
 go_wp2_with fail;rw[<- hW];clear hW;have n1:w.heap.size+1+1≠w.heap.size:=by omega
 have n2:w.heap.size+1+1≠w.heap.size+1:=by omega
 obtain⟨x0,x1,x2,x3⟩:=zA HK _ (Below.refl _ _);have m8:Below W.heap.size W W.drew:=(Below.refl _ _).drew
 go_region_held3 (λ w'=>nK w' w.heap.size x (rK0 w' (w.heap.size+1) p q)) (first|exact zA HK _ (by with_reducible first|exact m8|exact dx|exact Q4|exact I6|exact I5|exact C8|exact y9|exact j9|exact j7)|(dsimp only[cK,cK0,nK,nK0,rK,rK0];go_keep)|go_keep)
  (first
   | (go_at_call 56;have H7:=Q4;refine (zGG _ v5 ⟨D4,a6,n6,c6⟩ ⟨P1,a7,n7,c7⟩ 40 4 4 (B+64) (lo,hi) p q (((O0.bw G3).bw I8).mono (by omega)) (L9.bw I8) O1 (by omega) (by omega) (by omega) hq (zA HB5)).mono ?_;rintro r' w8 ⟨v8,rfl,nv,vd,Q7⟩;have dx:=zB Q4 Q7;have HB8:=zC nv;clear nv;obtain⟨q0,q1,q2,q3,q4,q5⟩:=R.bw dx)
   | (go_at_call 43;have H7:=I6;refine (zD q _ (by omega) (by omega)).mono ?_;rintro r' w7 ⟨P1,a7,n7,c7,rfl,O1,I8⟩;have Q4:=zB I6 I8)
   | (go_at_call 43;have H7:=I5;refine (zD p _ (by omega) (by omega)).mono ?_;rintro r' w6 ⟨D4,a6,n6,c6,rfl,L9,G3⟩;have I6:=zB I5 G3)
   | (go_at_call 173;have H7:=C8;(first|rw[zA HE]|rw[zA kb]|skip);refine (refLogOf _ ⟨b6,a2,JA,c2,o9,a4,n4',c4,((B+64:Nat):Int)⟩ 120 (B+64) J (Y*Q 64) ⟨((o0.bw k8).bw m9).mono (by omega),D9.mono (by omega)⟩ rfl (by omega) (by omega) (by omega) (zA Gf).1 (zA Gf).2.1 (zA Gf).2.2.1 (zA Gf).2.2.2.1 (zA Gf).2.2.2.2.1 hJ).mono ?_;rintro r' w5 ⟨lo,hi,l,gl,il,v5,rfl,J5,O0,A7⟩;have I5:=zB C8 A7;have HB5:=zC J5;have BV:=zC (And.intro gl il);clear J5 gl il)
   | (go_at_call 66;have H7:=y9;refine (zW _ _ _ _ _ _ _ _ 100 (64/16+8) Y (Q 64) _ ((zA HX).bw y9) A8 (by omega) (by omega)).mono ?_;rintro r' w4 ⟨o9,a4,n4',c4,rfl,D9,m9⟩;have C8:=zB y9 m9)
   | (go_at_call 104;have H7:=j9;refine (zB8 (e:=64) 64 rfl _ (by omega)).mono ?_;rintro r' w3 ⟨p9,a3,n3',c3,rfl,A8,k8⟩;have y9:=zB j9 k8)
   | (go_at_call 66;have H7:=j7;refine (zW _ _ _ _ _ _ _ _ 100 (64/16+8) Y (Q 64) _ ((zA HX).bw j7) k9 (by omega) (by omega)).mono ?_;rintro r' w2 ⟨b6,a2,JA,c2,rfl,o0,b9⟩;have j9:=zB j7 b9)
   | (go_at_call 104;refine (zB8 (e:=64) 64 rfl _ (by omega)).mono ?_;rintro r' w1 ⟨g9,a1,mB,c1,rfl,k9,b7⟩;have j7:=zB m8 b7))
 all_goals
  have HGF:=zC (lp_log (zA BV).1);go_wp2_with fail;refine bodyPost_ret (v:=.agg v8.q) (by simp[results,Tryz.results136,go_sem,q0,q1,q2,q3,q4]) rfl ⟨lo,hi,l,zA HGF,(zA BV).2,v8,rfl,zA HB8,?_,?_⟩
  ·exact SpAt.put5 (vd.mono (by omega)) q0 q1 q2 q3 q4 _ _ _ _ _
  ·exact kB (zB b8 dx) (by omega) _ _ _ _ _
theorem wh_ab {B:Nat} {x c:Int} (h1 : -(c*Q B)<=x) (h2:x<=c*Q B):wh x B<=c:=by
 have q:=zG B;unfold wh;split
 ·exact Int.ediv_le_of_le_mul (by omega) h2
 ·exact Int.ediv_le_of_le_mul (by omega) (by omega)
theorem Iv.up {B:Nat} {a:Int × Int} {x:Nat->Rat} (h:Iv B a x) (i:Nat):Iv (B+i) (a.1*Q i,a.2*Q i) x:=by
 have q:=zY B;have qi:=zY i;have q2:=zY (B+i);have e1:(Q (B+i):Rat)=(Q B:Rat)*(Q i:Rat):=by rw[jD,Ye]
 have e:∀ z:Int,((z*Q i:Int):Rat)/(Q (B+i):Rat)=(z:Rat)/(Q B:Rat):=λ z=>by
  have a:=rdm (a:=((z*Q i:Int):Rat)) q2;have b:=rdm (a:=(z:Rat)) q;refine zS (c:=(Q (B+i):Rat)) q2 ?_;have r1:(Q (B+i):Rat)*(((z*Q i:Int):Rat)/(Q (B+i):Rat))=((z*Q i:Int):Rat)/(Q (B+i):Rat)*(Q (B+i):Rat):=by grind
  rw[r1,a,e1,Ye];have r2:(Q B:Rat)*(Q i:Rat)*((z:Rat)/(Q B:Rat))=(z:Rat)/(Q B:Rat)*(Q B:Rat)*(Q i:Rat):=by grind
  rw[r2,b]
 show Has (((a.1*Q i:Int):Rat)/(Q (B+i):Rat)) (((a.2*Q i:Int):Rat)/(Q (B+i):Rat)) x
 rw[e,e];exact h
theorem wh_up {B i:Nat} {x c:Int} (h1 : -(c*Q B)<=x) (h2:x<=c*Q B):wh (x*Q i) (B+i)<=c:=by
 have qi:=zG i;have qB:=zG B;have e:Q (B+i)=Q B*Q i:=jD B i;refine wh_ab (B:=B+i) ?_ ?_
 ·have m:=XK h1 (show 0<=Q i by omega)
  have r : -(c*Q B)*Q i = -(c*Q (B+i)):=by rw[e];grind
  omega
 ·have m:=XK h2 (show 0<=Q i by omega)
  have r:c*Q B*Q i=c*Q (B+i):=by rw[e];grind
  omega
theorem down_at {K:Nat} (z:Int) (hz:z=(K:Int)) (neg:Bool) (a:Option Addr) (n cap k1:Nat) (x:Int) (w:World) (h1:IntAt w neg a n cap k1 x) (S7:k1<=1000000000) (hk:K<=1000000000) :
  Calls Tryz.prog 105 #[.agg #[.bool neg,.slice a n cap],.int .i64 z] w λ r w' =>
   ∃ j8 a' n' m7,r=.returned (.agg #[.bool j8,.slice a' n' m7])/\IntAt w' j8 a' n' m7 (k1+5) (x/Q K)/\Below w.heap.size w w':=by
 subst hz;exact zBX neg a n cap K k1 x w h1 S7 hk
theorem zJ9 {e K:Nat} (h:e+1<=16*K):Q e<P K:=by
 rw[<- Q_P];have g1:=zK h;have g2:Q (e+1)=2*Q e:=rfl;have g3:=zG e;omega
theorem ew_fit {B i:Nat} (hB:B<=1000) (hi:i<=188016):Q (B+i+40+4*(2*94000+1)+20)<P 200000:=zJ9 (by omega)
theorem zNL (w:World) (s:Sp) (k B:Nat) (lo hi:Int) (y:Nat->Rat) (hs:SpAt w s k lo hi) (hbits:s.bits=(B:Int)) (hk:k<=100000) (C4:20<=B) (hB:B<=1000) (hy:Iv B (lo,hi) y) (ha:Abs (lo,hi) (94000*Q B)) :
  Calls Tryz.prog 137 #[.agg s.q] w (λ r w'=>∃ (i:Nat) (lo hi:Int),i<=2*94000+16/\Iv (B+i) (lo,hi) (Ev y)/\zJ w ((B+i:Nat):Int) 200000 lo hi r w'):=by
 obtain⟨W,hW⟩:∃ W,W=(w.alloc (.cells s.q 36)).alloc (.cells zCq 36):=⟨_,rfl⟩;have b8:Below w.heap.size w W:=by rw[hW];exact bl2 _ _ _
 have A:SpC W w.heap.size s:=by rw[hW];constructor<;>simp[go_sem]
 have R:NoC W (w.heap.size+1):=by rw[hW];constructor<;>simp[go_sem]
 have HS:=zC (hs.bw b8);have HB:=zC hbits;have HY:=zC (And.intro hy ha);have lA:=A.lt;have lR:=R.lt;have a0:=A.c0;have a1:=A.c1;have a4:=A.c4;have qB:=zG B;clear hs hbits hy ha
 go_enter Tryz.func137,Tryz.ntmps137
 go_wp2_with fail;rw[<- hW];clear hW a0 a1 a4;have qV:=zA HB;refine (yA _ _ _ _ _ lo _ (zA HS).lo).mono ?_;rintro r w1 ⟨rfl,b7⟩;replace A:=A.bw b7;replace R:=R.bw b7;replace b8:=zB b8 b7;replace HS:=zC ((zA HS).bw b7);clear b7 lA lR
 by_cases h0:lo<0
 ·have hc:zF lo 0 = -1:=by unfold zF;rw[if_pos h0]
  rw[hc];clear hc;obtain⟨v,hv⟩:∃ v:Nat,(v:Int) = -lo/Q B:=⟨(-lo/Q B).toNat,by have:=Int.ediv_nonneg (show 0 <= -lo by omega) (show 0<=Q B by omega);omega⟩
  have hvc:v<=94000:=by
   have t:=(zA HY).2.1;simp only[] at t;have : -lo/Q B<=94000:=Int.ediv_le_of_le_mul (by omega) (by omega)
   omega
  have HV:=zC hv;have HE:=zC (show IntKind.i64.wrap (s.bits+(2*(v:Int)+16))=((B+(2*v+16):Nat):Int) by rw[qV];exact (jL _ (by omega) (by omega)).trans (by omega))
  have aY:=zC (show IntKind.i64.wrap (2*(v:Int)+16)=2*(v:Int)+16 from jL _ (by omega) (by omega))
  have Jd:=zC (show IntKind.i64.wrap (2*(v:Int))=2*(v:Int) from jL _ (by omega) (by omega))
  clear hv qV;go_wp2_with fail
  go_cut [3] (λ bb wx=>bb=.int .i64 ((B+(2*v+16):Nat):Int)/\Below w1.heap.size w1 wx)
  case first =>
   have HK:=zC (show ∀ w',Below w1.heap.size w1 w'->(cK0 w' w.heap.size s) from λ w' hB=>⟨(A.bw hB).c0,(A.bw hB).c1,(A.bw hB).c2,(A.bw hB).c3,(A.bw hB).c4⟩)
   have m8:Below w1.heap.size w1 w1.drew:=(Below.refl _ _).drew;have lA:=A.lt;obtain⟨x0,x1,x2,x3,x4⟩:=zA HK _ (Below.refl _ _)
   go_region_held3 (λ w'=>cK0 w' w.heap.size s) (first|exact zA HK _ (by with_reducible first|exact m8|exact y9|exact j9|exact j7)|(dsimp only[cK,cK0,nK,nK0,rK,rK0];go_keep)|go_keep)
    (first
     | (go_at_call 134;have H7:=j9;refine (refValue _ ⟨p9,a3,n3,c3⟩ (k+5) (v:Int) (by rw[zA HV];exact A8) (by omega) (by omega)).mono ?_;rintro r' w4 ⟨rfl,m9⟩;have y9:=zB j9 m9)
     | (go_at_call 105;have H7:=j7;refine (down_at (K:=B) s.bits (zA HB) _ _ _ _ k (-lo) _ o0 (by omega) (by omega)).mono ?_;rintro r' w3 ⟨p9,a3,n3,c3,rfl,A8,k8⟩;have j9:=zB j7 k8)
     | (go_at_call 103;refine (kC _ _ _ _ k lo _ ((zA HS).lo.bw m8) (by omega)).mono ?_;rintro r' w2 ⟨b6,a2,n2,c2,rfl,o0,b9⟩;have j7:=zB m8 b9))
   all_goals
    go_wp2_with fail;go_meet;refine⟨?_,y9⟩
    first|rw[zA Jd,zA aY,zA HE]|rw[zA aY,zA HE]|rw[zA HE]|(have qV:=zA HB;rw[qV];congr 1;omega)
  case rest =>
  obtain⟨rfl,Gg⟩:=hcut;obtain⟨V3,Pm⟩:∃ V,V=wc:=⟨_,rfl⟩;subst Pm;replace A:=A.bw Gg;replace R:=R.bw Gg;replace b8:=zB b8 Gg;replace HS:=zC ((zA HS).bw Gg);have lA:=A.lt;obtain⟨x0,x1,x2,x3,x4⟩:=A;clear Gg HE aY Jd;go_wp2_with fail;refine (kQ _ s k (((B+(2*v+16):Nat):Int)) lo hi (zA HS) (by omega) (by have:=zA HB;omega) (by have:=zA HB;omega) (by omega) (by omega)).mono ?_
  rintro r wt ⟨vt,rfl,ny,ya,aV⟩;rw[zA HB,zBK _ _ _ (2*v+16) (by omega),zBA _ _ _ (2*v+16) (by omega)] at ya
  have L6:=zC ny;have Pn:=zC ya;replace R:=R.bw aV;replace b8:=zB b8 aV;clear ny ya aV;have Bp:=zC (ew_fit (B:=B) (i:=(2*v+16)) (by omega) (by omega))
  go_wp2_with fail;refine (zFC _ vt (k+62505) (B+(2*v+16)) 200000 94000 (lo*Q (2*v+16),hi*Q (2*v+16)) y (zA HY).1.bdd (zA Pn) (zA L6) ((zA HY).1.up (2*v+16)) (wh_up (zA HY).2.1 (zA HY).2.2.1) (wh_up (zA HY).2.2.2.1 (zA HY).2.2.2.2) (by omega) (by omega) (by omega) (zA Bp) (by omega) (by omega) (by omega)).mono ?_
  rintro r we ⟨o,io,_,ve,rfl,nA,Po,yc⟩;have Pq:=zC io;have Ps:=zC nA;have lR:=R.lt;obtain⟨q0,q1,q2,q3,q4,q5⟩:=R.bw yc;replace b8:=zB b8 yc;clear io nA yc;go_wp2_with fail;refine bodyPost_ret (v:=.agg ve.q) (by simp[results,Tryz.results137,go_sem,q0,q1,q2,q3,q4]) rfl ⟨(2*v+16),o.1,o.2,by omega,zA Pq,ve,rfl,zA Ps,?_,?_⟩
  ·exact SpAt.put5 Po q0 q1 q2 q3 q4 _ _ _ _ _
  ·exact kB b8 (by omega) _ _ _ _ _
 ·obtain⟨cc,qI,hc⟩:∃ cc:Int,0<=cc/\zF lo 0=cc:=⟨_,by unfold zF;rw[if_neg h0];split<;>omega,rfl⟩
  rw[hc];clear hc;have lA:=A.lt;obtain⟨x0,x1,x2,x3,x4⟩:=A;have L4:s.bits=((B+0:Nat):Int):=by rw[qV];omega
  have HZ0:=zC L4;clear qV L4;go_wp2_with fail;refine (kQ _ s k s.bits lo hi (zA HS) (by omega) (by have:=zA HB;omega) (by have:=zA HB;omega) (by have:=zA HB;omega) (by have:=zA HB;omega)).mono ?_
  rintro r wt ⟨vt,rfl,ny,ya,aV⟩;rw[zBK _ _ _ 0 (by omega),zBA _ _ _ 0 (by omega)] at ya
  have L6:=zC (ny.trans (zA HZ0));have Pn:=zC ya;replace R:=R.bw aV;replace b8:=zB b8 aV;clear ny ya aV;have Bp:=zC (ew_fit (B:=B) (i:=0) (by omega) (by omega))
  go_wp2_with fail;refine (zFC _ vt (k+62505) (B+0) 200000 94000 (lo*Q 0,hi*Q 0) y (zA HY).1.bdd (zA Pn) (zA L6) ((zA HY).1.up 0) (wh_up (zA HY).2.1 (zA HY).2.2.1) (wh_up (zA HY).2.2.2.1 (zA HY).2.2.2.2) (by omega) (by omega) (by omega) (zA Bp) (by omega) (by omega) (by omega)).mono ?_
  rintro r we ⟨o,io,_,ve,rfl,nA,Po,yc⟩;have Pq:=zC io;have Ps:=zC nA;have lR:=R.lt;obtain⟨q0,q1,q2,q3,q4,q5⟩:=R.bw yc;replace b8:=zB b8 yc;clear io nA yc;go_wp2_with fail;refine bodyPost_ret (v:=.agg ve.q) (by simp[results,Tryz.results137,go_sem,q0,q1,q2,q3,q4]) rfl ⟨0,o.1,o.2,by omega,zA Pq,ve,rfl,zA Ps,?_,?_⟩
  ·exact SpAt.put5 Po q0 q1 q2 q3 q4 _ _ _ _ _
  ·exact kB b8 (by omega) _ _ _ _ _
theorem zDM (w:World) (s:Sp) (k b:Nat) (a:Int × Int) (p q:Int) (hs:SpAt w s k a.1 a.2) (hk:k<=100000000) (hb:s.bits=(b:Int)) (hp0 : -9223372036854775808<=p) (hp:p<=9223372036854775807) (hq:0<q) (ag:q<=9223372036854775807) :
  Calls Tryz.prog 144 #[.agg s.q,.agg #[.int .i64 p,.int .i64 q]] w (zJ w b (k+4+10) (zE a p q).1 (zE a p q).2):=by
 obtain⟨W,hW⟩:∃ W,W=((w.alloc (.cells s.q 28)).alloc (.cells #[.int .i64 p,.int .i64 q] 23)).alloc (.cells zCq 28):=⟨_,rfl⟩;have b8:Below w.heap.size w W:=by rw[hW];exact bl3 _ _ _ _
 have A:SpC W w.heap.size s:=by rw[hW];constructor<;>simp[go_sem]
 have D:RaC W (w.heap.size+1) p q:=by rw[hW];constructor<;>simp[go_sem]
 have R:NoC W (w.heap.size+1+1):=by rw[hW];constructor<;>simp[go_sem]
 have HS:=zC (hs.bw b8);have HB:=zC hb;have lR:=R.lt;have lA:=A.lt;have lD:=D.lt;clear hs hb;have C4:Below W.heap.size W W.drew:=(Below.refl _ _).drew;have HK:=zC (show ∀ w',Below W.heap.size W w'->(cK w' w.heap.size s (rK0 w' (w.heap.size+1) p q)) from λ w' hB=>⟨(A.bw hB).c0,(A.bw hB).c1,(A.bw hB).c2,(A.bw hB).c3,(A.bw hB).c4,(D.bw hB).c0,(D.bw hB).c1⟩)
 clear A D
 go_enter Tryz.func144,Tryz.ntmps144
 go_wp2;rw[<- hW];clear hW;have n1:w.heap.size+1+1≠w.heap.size:=by omega
 have n2:w.heap.size+1+1≠w.heap.size+1:=by omega
 obtain⟨x0,x1,x2,x3,x4,x5,x6⟩:=zA HK _ (Below.refl _ _)
 go_region_held3 (λ w'=>cK w' w.heap.size s (rK0 w' (w.heap.size+1) p q)) (first|exact zA HK _ (by with_reducible first|exact C4|exact E2|exact o7|exact A6)|(dsimp only[cK,cK0,nK,nK0,rK,rK0];go_keep)|go_keep)
  (first
   | (go_at_call 143;have H7:=o7;refine (zDT _ s ⟨g9,a1,mB,c1⟩ ⟨b6,a2,JA,c2⟩ k 4 _ b a p q ((zA HS).bw o7) (k9.bw b9) o0 (by omega) (by omega) hq (zA HB)).mono ?_;rintro r w3 ⟨t,rfl,I7,Q9,k8⟩;have HT:=zC I7;clear I7;have E2:=zB o7 k8;obtain⟨q0,q1,q2,q3,q4,q5⟩:=R.bw E2;obtain⟨i0,i1,i2,i3,i4,i5,i6⟩:=zA HK _ E2)
   | (go_at_call 43;have H7:=A6;refine (zD q _ (by omega) (by omega)).mono ?_;rintro r w2 ⟨b6,a2,JA,c2,rfl,o0,b9⟩;have o7:=zB A6 b9)
   | (go_at_call 43;refine (zD p _ (by omega) (by omega)).mono ?_;rintro r w1 ⟨g9,a1,mB,c1,rfl,k9,b7⟩;have A6:=zB C4 b7))
 all_goals
  go_wp2;refine bodyPost_ret (v:=.agg t.q) (by simp[results,Tryz.results144,go_sem,q0,q1,q2,q3,q4]) rfl ⟨t,rfl,zA HT,?_,?_⟩
  ·exact SpAt.put5 Q9 q0 q1 q2 q3 q4 _ _ _ _ _
  ·exact kB (zB b8 E2) (by omega) _ _ _ _ _
theorem zPK {x:Nat->Rat} {B:Nat} {l u:Int} (h:LwPr x B l u) (hB:B<=400):l<=u /\ -P 30<l/\u<P 30:=by
 have h1:=zK (show B+1<=16*30 by omega)
 rw[Q_P] at h1;have h2:Q (B+1)=2*Q B:=rfl;have:=zG B;have:=h.lo;have:=h.hi;exact⟨h.le,by omega,by omega⟩
theorem lo_arg {L:Rat->Nat->Rat} {l Y:Nat->Rat} (hL:Lns L) {pa qa:Int} {x:Rat} {B:Nat} {a c:Int × Int} (q0:0<qa) (hx:0<x) (hl:IsLog l (λ _=>x)) (ha:Iv B a l) (hc:Iv B c Y):Iv B (zAF (byI a pa qa) c) (λ M=>(pa:Rat)/(qa:Rat)*L x M-Y M):=((ha.congr ((hL x hx).uniq hl)).by_ pa q0).sub hc
theorem zGY (z:Int) (w:World) (s:Sp) (k b m:Nat) (lo hi:Int) (x:Nat->Rat) (hz:z=(m:Int)) (hs:SpAt w s k lo hi) (hbits:s.bits=(b:Int)) (hk:k<=300000000) (hb:b<=1000000) (hm:m<=1000000) (h:Iv b (lo,hi) x) :
  Calls Tryz.prog 90 #[.agg s.q,.int .i64 z] w (λ r w'=>∃ l u,Iv m (l,u) x/\zJ w m (k+62505) l u r w'):=by
 subst hz;refine (kQ w s k m lo hi hs hk (by omega) (by omega) (by omega) (by omega)).mono λ r w' g=>?_
 rw[hbits] at g
 by_cases hc:b<=m
 ·obtain⟨i,rfl⟩:∃ i,m=b+i:=⟨m-b,by omega⟩
  rw[zBK lo (b:Int) ((b+i:Nat):Int) i (by omega),zBA hi (b:Int) ((b+i:Nat):Int) i (by omega)] at g
  exact⟨_,_,h.up i,g⟩
 ·obtain⟨i,rfl⟩:∃ i,b=m+i:=⟨b-m,by omega⟩
  have e:((m+i:Nat):Int)-(m:Int)=(i:Int):=by omega
  rw[e,kK,kK] at g;exact⟨_,_,h.to,g⟩
theorem RaC.offP {w:World} {B B':Nat} {p q:Int} (h:RaC w B p q) (hne:B≠B') (u:Sp):RaC (zQ w B' u) B p q:=⟨kN h.c0 hne _ _ _ _ _,kN h.c1 hne _ _ _ _ _⟩
end Go.Proofs.YtgmnknmjainababGreat
