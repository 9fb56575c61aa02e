/-
  Its own texts.
-/
import Derived.Test.YtgmnknmjainabacGreatI13
set_option maxRecDepth 100000
set_option maxHeartbeats 40000000
set_option linter.unnecessarySimpa false
set_option linter.unusedSimpArgs false
set_option linter.unusedVariables false
namespace Go.Proofs.YtgmnknmjainabacGreat
open Go.RowKit
attribute [local go_sem ↓] Go.wp_at_zero Go.wp_at_succ
theorem NoC.offI {w:World} {B B':Nat} (h:NoC w B) (hne:B≠B') (u0 u1:Value):NoC ((w.setCell ⟨B',0,none⟩ u0).setCell ⟨B',1,none⟩ u1) B:=by
 obtain⟨q0,q1,q2,q3,q4,q5⟩:=h;exact⟨by simp[go_sem,q0,hne,Ne.symm hne],by simp[go_sem,q1,hne,Ne.symm hne],by simp[go_sem,q2,hne,Ne.symm hne],by simp[go_sem,q3,hne,Ne.symm hne],by simp[go_sem,q4,hne,Ne.symm hne],yY q5 _ _⟩
theorem zBC (w:World) (x y:Nm) (k b K:Nat) (n d:Int) (hx:IntAt w x.neg x.a x.n x.cap k n) (hy:IntAt w y.neg y.a y.n y.cap k d) (hk:k<=100000) (hn:0<n) (hd:0<d) (O6:16<=b) (hb:b<=1000000) (hK:Q (b+4)<P K) (nj:K<=10000000) :
  Calls Tryz.prog 125 #[.agg x.q,.agg y.q,.int .i64 b] w (λ r w'=>∃ (n' d' c:Int) (N N2:Nat),Bal n d n' d' c /\ -(16*k+1)<=c/\c<=16*k+1/\zU (lnT n' d' b) N/\zU (lnT 2 1 b) N2/\zH w b (K+20) (zGR (zN (lnT n' d' b) N) (zN (lnT 2 1 b) N2) c).1 (zGR (zN (lnT n' d' b) N) (zN (lnT 2 1 b) N2) c).2 r w'):=by
 obtain⟨W,hW⟩:∃ W,W=((w.alloc (.cells x.q 29)).alloc (.cells y.q 29)).alloc (.cells zCq 31):=⟨_,rfl⟩;have j7:Below w.heap.size w W:=by rw[hW];exact bl3 _ _ _ _
 have X:NmC W w.heap.size x:=by rw[hW];constructor<;>simp[go_sem]
 have FX:∀ o,W.frozen? ⟨w.heap.size,o,none⟩=false:=by rw[hW];intro o;simp[go_sem]
 have Y:NmC W (w.heap.size+1) y:=by rw[hW];constructor<;>simp[go_sem]
 have FY:∀ o,W.frozen? ⟨w.heap.size+1,o,none⟩=false:=by rw[hW];intro o;simp[go_sem]
 have R:NoC W (w.heap.size+1+1):=by rw[hW];constructor<;>simp[go_sem]
 have HX:=zC (hx.bw j7);have HY:=zC (hy.bw j7);have lX:=X.lt;have lY:=Y.lt;clear hx hy
 go_enter Tryz.func125,Tryz.ntmps125
 go_wp2_with fail;rw[<- hW];clear hW;refine (zJF _ x y k n d (zA HX) (zA HY) hn hd (by omega)).mono ?_
 rintro r w1 ⟨U,T,n',d',c,rfl,M3,D7,E7,iU,iT,b9⟩;have To:∀ o,w1.frozen? ⟨w.heap.size,o,none⟩=false:=λ o=>(b9.frozen (p:=⟨w.heap.size,o,none⟩) lX).trans (FX o)
 have Tq:∀ o,w1.frozen? ⟨w.heap.size+1,o,none⟩=false:=λ o=>(b9.frozen (p:=⟨w.heap.size+1,o,none⟩) lY).trans (FY o)
 replace X:=X.bw b9;replace Y:=Y.bw b9;replace R:=R.bw b9;replace j7:=zB j7 b9;have nN:=zC M3;clear b9 FX FY HX HY M3;obtain⟨V,hV⟩:∃ V,V=(((w1.setCell ⟨w.heap.size,0,none⟩ (.bool U.neg)).setCell ⟨w.heap.size,1,none⟩ (.slice U.a U.n U.cap)).setCell ⟨w.heap.size+1,0,none⟩ (.bool T.neg)).setCell ⟨w.heap.size+1,1,none⟩ (.slice T.a T.n T.cap):=⟨_,rfl⟩
 have hE:IntAt V U.neg U.a U.n U.cap (k+k+20) n'/\IntAt V T.neg T.a T.n T.cap (k+k+20) d'/\NoC V (w.heap.size+1+1)/\Below w.heap.size w V:=by
  rw[hV];have fV:=Y.off (B':=w.heap.size) (by omega) (.bool U.neg) (.slice U.a U.n U.cap)
  have i1:=iU.put2 X.c0 X.c1 (.bool U.neg) (.slice U.a U.n U.cap);have i2:=iT.put2 X.c0 X.c1 (.bool U.neg) (.slice U.a U.n U.cap);have r1:=R.offI (B':=w.heap.size) (by omega) (.bool U.neg) (.slice U.a U.n U.cap)
  have b1:=zD2 j7 (YE _) (.bool U.neg) (.slice U.a U.n U.cap);generalize (w1.setCell ⟨w.heap.size,0,none⟩ (.bool U.neg)).setCell ⟨w.heap.size,1,none⟩ (.slice U.a U.n U.cap)=V0 at *;exact⟨i1.put2 fV.c0 fV.c1 _ _,i2.put2 fV.c0 fV.c1 _ _,r1.offI (by omega) _ _,zD2 b1 (Nat.le_succ _) _ _⟩
 obtain⟨jU,jT,R2,o9⟩:=hE;have OV:=zC jU;have OT:=zC jT;obtain⟨x0,x1⟩:=X;obtain⟨y0,y1⟩:=Y;have RI:w.heap.size<w1.heap.size:=World.block_lt_of_cell? w1 ⟨w.heap.size,0,none⟩ x0;have lY1:w.heap.size+1<w1.heap.size:=World.block_lt_of_cell? w1 ⟨w.heap.size+1,0,none⟩ y0;clear iU iT R j7 jU jT;go_wp2_with fail;rw[<- hV];clear hV x0 x1 y0 y1 To Tq;obtain⟨N,T4,Z7⟩:=zB3 (s:=3) (by omega) (zF8 (zA nN).1 O6)
 obtain⟨N2,Ae,Ft⟩:=zB3 (s:=3) (by omega) (zF8 zST O6)
 have Hk:=zC Z7;have ph:=zC Ft;clear T4 Z7 Ae Ft;refine (zG9 _ U T (k+k+20) b N K n' d' (zA OV) (zA OT) (by omega) (zA nN).1 O6 hb (zA Hk) hK nj).mono ?_
 rintro r w3 ⟨v3,rfl,G3,O4,m9⟩;replace R2:=R2.bw m9;have lw3:=R2.lt;replace o9:=zB o9 m9;have hO:=zC G3;clear m9 G3 OV OT;obtain⟨V3,I6⟩:∃ V3,V3=w3.alloc (.cells v3.q 31):=⟨_,rfl⟩;have EW:Below w3.heap.size w3 V3:=by rw[I6];exact bl1 _ _
 have C3:SpC V3 w3.heap.size v3:=by rw[I6];exact zB2 w3 v3 _
 replace O4:=O4.bw EW;replace R2:=R2.bw EW;replace o9:=zB o9 EW;clear EW;go_wp2_with fail;rw[<- I6];clear I6;refine (zD 2 _ (by decide) (by decide)).mono ?_
 rintro r w4 ⟨D8,a4,n4,c4,rfl,G6,y9⟩;replace C3:=C3.bw y9;replace O4:=O4.bw y9;replace R2:=R2.bw y9;replace o9:=zB o9 y9;clear y9;go_wp2_with fail;refine (zD 1 _ (by decide) (by decide)).mono ?_
 rintro r w5 ⟨M7,a5,n5,c5,rfl,P6,D6⟩;replace C3:=C3.bw D6;replace O4:=O4.bw D6;replace R2:=R2.bw D6;replace o9:=zB o9 D6;replace G6:=G6.bw D6;clear D6;go_wp2_with fail;refine (zG9 _ ⟨D8,a4,n4,c4⟩ ⟨M7,a5,n5,c5⟩ 4 b N2 K 2 1 G6 P6 (by omega) zST O6 hb (zA ph) hK nj).mono ?_
 rintro r w6 ⟨v6,rfl,Dw,Dz,K7⟩;have lC3:=C3.lt;have l36:w3.heap.size<w6.heap.size:=YH lC3 K7.size;replace C3:=C3.bw K7;replace O4:=O4.bw K7;replace R2:=R2.bw K7;replace o9:=zB o9 K7;have Pk:=zC Dw;clear K7 Dw G6 P6;obtain⟨V6,Ah⟩:∃ V6,V6=w6.alloc (.cells v6.q 31):=⟨_,rfl⟩;have zn:Below w6.heap.size w6 V6:=by rw[Ah];exact bl1 _ _
 have C6:SpC V6 w6.heap.size v6:=by rw[Ah];exact zB2 w6 v6 _
 replace C3:=C3.bw zn;have Pc:=zC (Dz.bw zn);have Pb:=zC (O4.bw zn);replace R2:=R2.bw zn;replace o9:=zB o9 zn;have ae:=R2.lt;have Z6:=zC (show ∀ w',Below V6.heap.size V6 w'->(cK w' w3.heap.size v3 (cK0 w' w6.heap.size v6)) from λ w' hB=>⟨(C3.bw hB).c0,(C3.bw hB).c1,(C3.bw hB).c2,(C3.bw hB).c3,(C3.bw hB).c4,(C6.bw hB).c0,(C6.bw hB).c1,(C6.bw hB).c2,(C6.bw hB).c3,(C6.bw hB).c4⟩)
 have A9:Below V6.heap.size V6 V6.drew:=(Below.refl _ _).drew;have l3:=C3.lt;have l6:=C6.lt;have m1:w.heap.size+1+1≠w3.heap.size:=by omega
 have m2:w.heap.size+1+1≠w6.heap.size:=by omega
 have m3:w3.heap.size≠w.heap.size+1+1:=by omega
 have m4:w6.heap.size≠w.heap.size+1+1:=by omega
 clear O4 Dz zn C3 C6;have hkk:k<=100000:=hk
 by_cases hcz:c<0
 ·go_wp2_with fail
  rw[<- Ah];clear Ah;obtain⟨e0,e1,e2,e3,e4,e5,e6,e7,e8,e9⟩:=zA Z6 _ (Below.refl _ _);have Vq:=zC (show IntKind.i64.wrap (-c) = -c from jB _ (by omega) (by omega))
  go_region_held3 (λ w'=>cK w' w3.heap.size v3 (cK0 w' w6.heap.size v6)) (first|exact zA Z6 _ (by with_reducible first|exact A9|exact s9|exact p9)|(dsimp only[cK,cK0,nK,nK0,rK,rK0];go_keep)|go_keep)
   (first
    | (go_at_call 92;have hq:=p9;refine (zHJ _ v3 v7 (K+11) b (kH (zN (lnT n' d' b) N) 2) (kH (kH (zN (lnT 2 1 b) N2) 2) (-c)) (((zA Pb).bw p9).mono (by omega)) (gO.mono (by omega)) (by omega) (zA hO)).mono ?_;rintro r' w8 ⟨v,rfl,K3,J7,Y1⟩;have s9:=zB p9 Y1;have HV:=zC K3;clear K3;obtain⟨q0,q1,q2,q3,q4,q5⟩:=R2.bw s9;obtain⟨z0,z1,z2,z3,z4,z5,z6,z7,z8,z9⟩:=zA Z6 _ s9)
    | (go_at_call 156;rw[zA Vq];refine (zDO _ v6 (K+7) b (-c) (kH (zN (lnT 2 1 b) N2) 2) ((zA Pc).bw A9) (by omega) (zA Pk) (by omega) (by omega)).mono ?_;rintro r' w7 ⟨v7,rfl,cE,gO,Q4⟩;have EP:=zC cE;clear cE;have p9:=zB A9 Q4))
  all_goals
   go_wp2_with fail;refine bodyPost_ret (v:=.agg v.q) (by simp[results,Tryz.results125,go_sem,q0,q1,q2,q3,q4]) rfl ⟨n',d',c,N,N2,zA nN,D7,E7,zA Hk,zA ph,v,rfl,zA HV,?_,?_⟩
   ·refine SpAt.put5 ?_ q0 q1 q2 q3 q4 _ _ _ _ _
    unfold zGR;rw[if_pos hcz];exact J7.mono (by omega)
   ·exact jY (zB o9 s9) (by omega) _ _ _ _ _
 ·go_wp2_with fail
  rw[<- Ah];clear Ah;obtain⟨e0,e1,e2,e3,e4,e5,e6,e7,e8,e9⟩:=zA Z6 _ (Below.refl _ _);have hcz':¬ c<0:=by omega
  go_region_held3 (λ w'=>cK w' w3.heap.size v3 (cK0 w' w6.heap.size v6)) (first|exact zA Z6 _ (by with_reducible first|exact A9|exact s9|exact p9)|(dsimp only[cK,cK0,nK,nK0,rK,rK0];go_keep)|go_keep)
   (first
    | (go_at_call 51;have hq:=p9;refine (zCZ _ v3 v7 (K+11) b (kH (zN (lnT n' d' b) N) 2) (kH (kH (zN (lnT 2 1 b) N2) 2) c) (((zA Pb).bw p9).mono (by omega)) (gO.mono (by omega)) (by omega) (zA hO)).mono ?_;rintro r' w8 ⟨v,rfl,K3,J7,Y1⟩;have s9:=zB p9 Y1;have HV:=zC K3;clear K3;obtain⟨q0,q1,q2,q3,q4,q5⟩:=R2.bw s9;obtain⟨z0,z1,z2,z3,z4,z5,z6,z7,z8,z9⟩:=zA Z6 _ s9)
    | (go_at_call 156;refine (zDO _ v6 (K+7) b c (kH (zN (lnT 2 1 b) N2) 2) ((zA Pc).bw A9) (by omega) (zA Pk) (by omega) (by omega)).mono ?_;rintro r' w7 ⟨v7,rfl,cE,gO,Q4⟩;have EP:=zC cE;clear cE;have p9:=zB A9 Q4))
  all_goals
   go_wp2_with fail;refine bodyPost_ret (v:=.agg v.q) (by simp[results,Tryz.results125,go_sem,q0,q1,q2,q3,q4]) rfl ⟨n',d',c,N,N2,zA nN,D7,E7,zA Hk,zA ph,v,rfl,zA HV,?_,?_⟩
   ·refine SpAt.put5 ?_ q0 q1 q2 q3 q4 _ _ _ _ _
    unfold zGR;rw[if_neg (show ¬ c<0 by omega)]
    exact J7.mono (by omega)
   ·exact jY (zB o9 s9) (by omega) _ _ _ _ _
def touB (lo hi:Int) (i:Nat) (lo' hi':Int) (j:Nat):Bool:=decide (lo*Q i<=hi'*Q j) && decide (lo'*Q j<=hi*Q i)
theorem zHX (x:Int) (a b:Int) (i:Nat) (h:b-a=(i:Int)):zAZ x (a-b)=x*Q i:=by
 unfold zAZ
 by_cases h0:i=0
 ·subst h0
  have e:a-b=0:=by omega
  rw[e];simp[Q]
 ·rw[if_neg (by omega)];congr 2;omega
theorem zJO (x:Int) (a b:Int) (i:Nat) (h:b-a=(i:Int)) : -(zAZ (-x) (a-b))=x*Q i:=by
 rw[zHX _ a b i h,Int.neg_mul,Int.neg_neg]
theorem touch_le (w:World) (s t:Sp) (k i j:Nat) (lo hi lo' hi':Int) (hs:SpAt w s k lo hi) (ht:SpAt w t k lo' hi') (hk:k<=300000000) (s0:0<=s.bits) (s1:s.bits<=1000000) (t0:0<=t.bits) (t1:t.bits<=1000000) (hc:t.bits<=s.bits) (nD:s.bits-s.bits=(i:Int)) (CV:s.bits-t.bits=(j:Int)) :
  Calls Tryz.prog 14 #[.agg s.q,.agg t.q] w λ r w'=>r=.returned (.bool (touB lo hi i lo' hi' j))/\Below w.heap.size w w':=by
 obtain⟨W,hW⟩:∃ W,W=(w.alloc (.cells s.q 38)).alloc (.cells t.q 38):=⟨_,rfl⟩;have j7:Below w.heap.size w W:=by rw[hW];exact bl2 _ _ _
 have A:SpC W w.heap.size s:=by rw[hW];constructor<;>simp[go_sem]
 have G:SpC W (w.heap.size+1) t:=by rw[hW];constructor<;>simp[go_sem]
 have FA:∀ o,W.frozen? ⟨w.heap.size,o,none⟩=false:=by intro o;rw[hW];simp[go_sem]
 have FG:∀ o,W.frozen? ⟨w.heap.size+1,o,none⟩=false:=by intro o;rw[hW];simp[go_sem]
 have a1:=zC (zHX lo s.bits (s.bits) i nD);have a2:=zC (zJO hi s.bits (s.bits) i nD);have a3:=zC (zHX lo' t.bits (s.bits) j CV);have a4:=zC (zJO hi' t.bits (s.bits) j CV);have HS:=zC (hs.bw j7);have HT:=zC (ht.bw j7);have HA:=zC A;have HG:=zC G;have lA:=A.lt;have lG:=G.lt;have nAG:w.heap.size≠w.heap.size+1:=by omega
 clear nD CV hs ht
 go_enter Tryz.func14,Tryz.ntmps14
 go_wp2_with fail;rw[<- hW];clear hW;obtain⟨x0,x1,x2,x3,x4⟩:=A;obtain⟨y0,y1,y2,y3,y4⟩:=G
 try go_wp2_with fail
 go_cut [] (λ wx=>∃ s2 t2:Sp,SpC wx w.heap.size s2/\SpC wx (w.heap.size+1) t2/\SpAt wx s2 (k+62505) (lo*Q i) (hi*Q i)/\SpAt wx t2 (k+62505) (lo'*Q j) (hi'*Q j)/\Below w.heap.size w wx)
 case first =>
  go_region_with
   (first
    | (go_at_call 52;have hq:=A6;refine (zGJ _ t k (s.bits) lo' hi' ((zA HT).bw A6) hk t0 t1 (by omega) (by omega)).mono ?_;rintro r w2 ⟨u2,rfl,KJ,Dv,j8⟩;rw[zA a3,zA a4] at Dv;clear KJ;have o9:=zB A6 j8;replace oL:=oL.bw j8;have l2A:=YH lA o9.size;have l2G:=YH lG o9.size;obtain⟨a0,a1,a2,a3,a4⟩:=(zA HA).bw o9;obtain⟨g0,g1,g2,g3,g4⟩:=(zA HG).bw o9;have mY:∀ o,w2.frozen? ⟨w.heap.size,o,none⟩=false:=(λ o=>(o9.frozen (p:=⟨w.heap.size,o,none⟩) lA).trans (FA o));have fG2:∀ o,w2.frozen? ⟨w.heap.size+1,o,none⟩=false:=(λ o=>(o9.frozen (p:=⟨w.heap.size+1,o,none⟩) lG).trans (FG o)))
    | (go_at_call 52;refine (zGJ _ s k (s.bits) lo hi ((zA HS).bw (by repeat' (first|with_reducible exact Below.refl _ _|with_reducible refine Below.drew ?_))) hk s0 s1 (by omega) (by omega)).mono ?_;rintro r w1 ⟨u1,rfl,KI,oL,b9⟩;rw[zA a1,zA a2] at oL;clear KI;have A6:Below W.heap.size W w1:=zB (by repeat' (first|with_reducible exact Below.refl _ _|with_reducible refine Below.drew ?_)) b9;obtain⟨b0,b1,b2,b3,b4⟩:=(zA HA).bw A6;obtain⟨d0,d1,d2,d3,d4⟩:=(zA HG).bw A6;have l1A:=YH lA A6.size;have l1G:=YH lG A6.size))
  all_goals
   go_wp2_with fail;go_meet;have A2:SpC w2 w.heap.size s:=⟨a0,a1,a2,a3,a4⟩;have G2:SpC w2 (w.heap.size+1) t:=⟨g0,g1,g2,g3,g4⟩;obtain⟨p1,p2,p3,p4⟩:=two_sp A2 G2 nAG u1 u2;exact⟨u1,u2,p1,p2,p3 oL,p3 Dv,jY (jY (zB j7 o9) (YE _) _ _ _ _ _) (Nat.le_succ _) _ _ _ _ _⟩
 case rest =>
 obtain⟨s2,t2,A,G,hs,ht,j7⟩:=hcut;clear HA HG HS HT lA lG x0 x1 x2 x3 x4 y0 y1 y2 y3 y4 FA FG;have lA:=A.lt;have lG:=G.lt
 by_cases hq:lo*Q i<=hi'*Q j
 ·have c1:zM (lo*Q i) (hi'*Q j)<=0:=by unfold zM;split;omega;rw[if_neg (by omega)];omega
  have HE:=zC (show decide (zM (lo'*Q j) (hi*Q i)<=0)=touB lo hi i lo' hi' j by rw[zLI];unfold touB;rw[decide_eq_true hq,Bool.true_and])
  obtain⟨x0,x1,x2,x3,x4⟩:=A;obtain⟨y0,y1,y2,y3,y4⟩:=G;clear hq;go_wp2_with fail;refine (jO _ _ _ _ _ _ _ _ (k+62505) (k+62505) (lo*Q i) (hi'*Q j) _ hs.lo ht.hi).mono ?_;rintro r w1 ⟨rfl,b9⟩;have A:=(SpC.mk x0 x1 x2 x3 x4).bw b9;have G:=(SpC.mk y0 y1 y2 y3 y4).bw b9;replace hs:=hs.bw b9;replace ht:=ht.bw b9;replace j7:=zB j7 b9;clear x0 x1 x2 x3 x4 y0 y1 y2 y3 y4 b9;obtain⟨x0,x1,x2,x3,x4⟩:=A;obtain⟨y0,y1,y2,y3,y4⟩:=G;go_wp2_with fail;refine (jO _ _ _ _ _ _ _ _ (k+62505) (k+62505) (lo'*Q j) (hi*Q i) _ ht.lo hs.hi).mono ?_;rintro r w2 ⟨rfl,j8⟩;replace j7:=zB j7 j8;go_wp2_with fail
  go_ret
  exact⟨by rw[<- zA HE];rfl,j7⟩
 ·have c1:¬ zM (lo*Q i) (hi'*Q j)<=0:=by unfold zM;rw[if_neg (by omega),if_pos (by omega)];omega
  have HE:=zC (show touB lo hi i lo' hi' j=false by unfold touB;rw[decide_eq_false hq,Bool.false_and])
  obtain⟨x0,x1,x2,x3,x4⟩:=A;obtain⟨y0,y1,y2,y3,y4⟩:=G;clear hq;go_wp2_with fail;refine (jO _ _ _ _ _ _ _ _ (k+62505) (k+62505) (lo*Q i) (hi'*Q j) _ hs.lo ht.hi).mono ?_;rintro r w1 ⟨rfl,b9⟩;replace j7:=zB j7 b9;go_wp2_with fail
  go_ret
  exact⟨by rw[zA HE];rfl,j7⟩
theorem cmp_gt {x y:Int} (h:y<x):0<zM x y:=by unfold zM;rw[if_neg (by omega),if_pos h];omega
theorem cmp_le {x y:Int} (h:x<=y):¬ 0<zM x y:=by unfold zM;split<;>(try split)<;>omega
theorem er1_iv (w:World) (B0 B1:Nat) (s:Sp) (x y:Nm) (k k1 k2 b:Nat) (n:Int) (a:Int × Int) (u v:Int) (hs:SpAt w s k a.1 a.2) (hx:IntAt w x.neg x.a x.n x.cap k1 u) (hy:IntAt w y.neg y.a y.n y.cap k2 v) (X:NmC w B0 x) (Y:NmC w B1 y) (hk:k<=100000000) (Z9:k1<=1000000) (aJ:k2<=1000000) (hb:s.bits=(b:Int)) (hn:0<=n) (aR:n<=1000000000000) (hv:0<v) :
  Calls Tryz.prog 198 #[.agg s.q,.int .i64 n,.pointer (some ⟨B0,0,none⟩),.pointer (some ⟨B1,0,none⟩)] w (zH w b (k+k1+10) (zK a u (v*(2*n+1))).1 (zK a u (v*(2*n+1))).2):=by
 obtain⟨W,hW⟩:∃ W,W=(w.alloc (.cells s.q 31)).alloc (.cells zCq 31):=⟨_,rfl⟩;have j7:Below w.heap.size w W:=by rw[hW];exact bl2 _ _ _
 have A:SpC W w.heap.size s:=by rw[hW];constructor<;>simp[go_sem]
 have R:NoC W (w.heap.size+1):=by rw[hW];constructor<;>simp[go_sem]
 have HS:=zC (hs.bw j7);have HX:=zC (hx.bw j7);have HY:=zC (hy.bw j7);have l0:=X.lt;have l1:=Y.lt;replace X:=X.bw j7;replace Y:=Y.bw j7;have HB:=zC hb;have HP:=zC (show 0<v*(2*n+1) from Int.mul_pos hv (by omega))
 have lR:=R.lt;have lA:=A.lt;have P5:=zC (show IntKind.i64.wrap (2*n)=2*n from jB _ (by omega) (by omega))
 have Y7:=zC (show IntKind.i64.wrap (2*n+1)=2*n+1 from jB _ (by omega) (by omega))
 clear hs hx hy hb;have C8:Below W.heap.size W W.drew:=(Below.refl _ _).drew;have HK:=zC (show ∀ w',Below W.heap.size W w'->(cK w' w.heap.size s (nK w' B0 x (nK0 w' B1 y))) from λ w' hB=>⟨(A.bw hB).c0,(A.bw hB).c1,(A.bw hB).c2,(A.bw hB).c3,(A.bw hB).c4,(X.bw hB).c0,(X.bw hB).c1,(Y.bw hB).c0,(Y.bw hB).c1⟩)
 go_enter Tryz.func198,Tryz.ntmps198
 go_wp2;rw[<- hW];clear hW;have DV:w.heap.size+1≠B0:=by omega
 have Gb:w.heap.size+1≠B1:=by omega
 obtain⟨x0,x1,x2,x3,x4,x5,x6,x7,x8⟩:=zA HK _ (Below.refl _ _)
 go_region_held3 (λ w'=>cK w' w.heap.size s (nK w' B0 x (nK0 w' B1 y))) (first|exact zA HK _ (by with_reducible first|exact C8|exact A8|exact o9|exact A6)|(dsimp only[cK,cK0,nK,nK0,rK,rK0];go_keep)|go_keep)
  (first
   | (go_at_call 151;have hq:=o9;refine (zA9 _ s ⟨x.neg,x.a,x.n,x.cap⟩ ⟨j6,a2,n2,c2⟩ k k1 _ b a u (v*(2*n+1)) ((zA HS).bw o9) ((zA HX).bw o9) A5 (by omega) (by omega) (zA HP) (zA HB)).mono ?_;rintro r w3 ⟨t,rfl,I8,P1,m9⟩;have HT:=zC I8;clear I8;have A8:=zB o9 m9;obtain⟨q0,q1,q2,q3,q4,q5⟩:=R.bw A8;obtain⟨i0,i1,i2,i3,i4,i5,i6,i7,i8⟩:=zA HK _ A8)
   | (go_at_call 83;have hq:=A6;refine (zT _ _ _ _ _ _ _ _ k2 4 v (2*n+1) _ ((zA HY).bw A6) o8 (by omega) (by omega)).mono ?_;rintro r w2 ⟨j6,a2,n2,c2,rfl,A5,j8⟩;have o9:=zB A6 j8)
   | (go_at_call 33;rw[zA P5,zA Y7];refine (zD (2*n+1) _ (by omega) (by omega)).mono ?_;rintro r w1 ⟨m7,a1,n1,c1,rfl,o8,b9⟩;have A6:=zB C8 b9))
 all_goals
  go_wp2;refine bodyPost_ret (v:=.agg t.q) (by simp[results,Tryz.results198,go_sem,q0,q1,q2,q3,q4]) rfl ⟨t,rfl,zA HT,?_,?_⟩
  ·exact SpAt.put5 P1 q0 q1 q2 q3 q4 _ _ _ _ _
  ·exact jY (zB j7 A8) (Nat.le_succ _) _ _ _ _ _
theorem zEJ (ff:Nat) (cs:Array Value) (JM:∀ (args:Array Value) (w:World),(callFunc ff args).run Tryz.prog w=.ok (.enter ff args) w) (f:Nat->Int × Int) (turn N b K KF:Nat) (s:Sp) (W:World) (hs:SpAt W s K (f 0).1 (f 0).2) (hbits:s.bits=(b:Int)) (hb:b<=1000000) (hK:K<=100000000) (XQ:4<=K) (XR:KF<=900000000) (hN:yO f turn N) (Af:N<=1000000000) (htn:turn<=1000000000)
  (hle:∀ n,(f n).1<=(f n).2) (h0:∀ n,0<=(f n).1) (Z3:∀ n,n<=N -> -P K<(f n).1/\(f n).2<P K) (hfitS:∀ n,n<=N -> -P K<(jE f n).1/\(jE f n).2<P K)
  (hF:∀ (n:Nat) (u:Sp) w',n<N->u.bits=(b:Int)->SpAt w' u K (f n).1 (f n).2->Below W.heap.size W w'->Calls Tryz.prog ff (#[.agg u.q,.int .i64 ((n:Int)+1)] ++ cs) w' (zH w' b KF (f (n+1)).1 (f (n+1)).2)) :
  Calls Tryz.prog 182 #[.agg s.q,.int .i64 turn,.func (.func ff) #[] cs] W (zH W b (K+3) (kW f N).1 (kW f N).2):=by
 have HF:=zC hF;have HN:=zC hN;have fY:=zC hbits;have H0:=zC h0;clear hF hN hbits h0;obtain⟨V,hV⟩:∃ V,V=(W.alloc (.cells s.q 31)).alloc (.cells zCq 31):=⟨_,rfl⟩;have nb:Below W.heap.size W V:=by rw[hV];exact bl2 _ _ _
 have A:SpC V W.heap.size s:=by rw[hV];constructor<;>simp[go_sem]
 have R:NoC V (W.heap.size+1):=by rw[hV];constructor<;>simp[go_sem]
 have HS:=zC (hs.bw nb);have lA:=A.lt;have lR:=R.lt;clear hs
 go_enter Tryz.func182,Tryz.ntmps182
 go_wp2;rw[<- hV];clear hV
 go_cut [7,8] (λ p q wx=>TwoS V wx s s p q)
 case first =>
  obtain⟨x0,x1,x2,x3,x4⟩:=A
  go_region
  all_goals
   go_wp2_with fail;go_meet
   first
    | with_reducible exact zT4 _ _ _ _
    | with_reducible exact twoS_b _ _ _ _
 case rest =>
 obtain⟨B5,B6,rfl,rfl,l5,l6,hne,X,Y,hB⟩:=hcut;have n5:W.heap.size+1<B5:=by omega
 have n6:W.heap.size+1<B6:=by omega
 have mJ:SumSt W wc B5 B6 b K s s s f 0:=⟨X,Y,(zA HS).bw hB,(zA HS).bw hB,zA fY,zA fY,A.bw hB,R.bw hB,zB nb hB,n5,n6,hne⟩;clear X Y hB A R HS l5 l6 n5 n6 hne nb lA lR;go_wp2_with fail
 go_loopw [9] (λ nn wr=>∃ (i:Nat) (X Y:Sp),nn=.int .i64 ((i:Int)+1)/\i<=N/\SumSt W wr B5 B6 b K s X Y f i) (λ nn _=>N+1-(intOf nn).toNat)
 case atStart=>exact⟨0,s,s,rfl,Nat.zero_le _,mJ⟩
 case round =>
  obtain⟨i,X,Y,rfl,hi,st⟩:=hrel
  by_cases hit:i<turn
  ·have I7:i<N:=by have:=(zA HN).1;omega
   have JZ:((i:Int)+1<=(turn:Int)):=by omega
   obtain⟨⟨y0,y1,y2,y3,y4⟩,y5⟩:=st.y;go_wp2_with fail;refine (zA HF i Y _ I7 st.yb st.yp st.be).mono ?_;rintro r w3 ⟨u,rfl,B8,B7,m9⟩;replace st:=st.bw m9;replace B7:=B7.fits (K:=K) (hle _) (Z3 _ (by omega)).1 (Z3 _ (by omega)).2
   have HU:=zC B8;clear m9 y0 y1 y2 y3 y4 y5 B8;obtain⟨V3,I6⟩:∃ V3,V3=yW w3 B6 u:=⟨_,rfl⟩;have X3:VrC V3 B5 X:=by rw[I6];exact st.x.off st.ne u
   have Y3:VrC V3 B6 u:=by rw[I6];exact st.y.put u
   have P3:SpAt V3 X K (jE f i).1 (jE f i).2:=by rw[I6];exact st.xp.put st.y.c u
   have U3:SpAt V3 u K (f (i+1)).1 (f (i+1)).2:=by rw[I6];exact B7.put st.y.c u
   have F3:SpC V3 W.heap.size s:=by rw[I6];exact st.fs.off (by have:=st.l6;omega) u
   have R3:NoC V3 (W.heap.size+1):=by rw[I6];exact st.no.off (by have:=st.l6;omega) u
   have B3:Below W.heap.size W V3:=by rw[I6];exact zAR st.be (by have:=st.l6;omega) u
   have xb:=zC st.xb;have l5:=st.l5;have l6:=st.l6;have hne:=st.ne;have lY:=st.y.lt;have lX:=st.x.lt;obtain⟨⟨y0,y1,y2,y3,y4⟩,y5⟩:=st.y;obtain⟨⟨x0,x1,x2,x3,x4⟩,x5⟩:=st.x;clear st B7;go_wp2_with fail;have Q3:V3=yW w3 B6 u:=I6;unfold yW at Q3;rw[<- Q3];clear Q3 y0 y1 y2 y3 y4 y5 x0 x1 x2 x3 x4 x5;have FW:B5<V3.heap.size:=X3.lt;refine (zCZ _ X u K b (jE f i) (f (i+1)) P3 U3 (by omega) (zA xb)).mono ?_
   rintro r w4 ⟨v,rfl,K3,J7,y9⟩;have X4:=X3.bw y9;have Y4:=Y3.bw y9;have U4:=U3.bw y9;have F4:=F3.bw y9;have R4:=R3.bw y9;have B4:=zB B3 y9;have e:zB5 (jE f i) (f (i+1))=jE f (i+1):=rfl;rw[e] at J7;replace J7:=J7.fits (K:=K) (zGL hle _) (hfitS _ (by omega)).1 (hfitS _ (by omega)).2
   have HV:=zC K3;clear y9 K3 X3 Y3 P3 U3 F3 R3 B3 I6;have stn:SumSt W (yW w4 B5 v) B5 B6 b K s v u f (i+1):=⟨X4.put v,Y4.off (Ne.symm hne) v,J7.put X4.c v,U4.put X4.c v,zA HV,zA HU,F4.off (by omega) v,R4.off (by omega) v,zAR B4 (by omega) v,l5,l6,hne⟩
   unfold yW at stn;obtain⟨⟨x0,x1,x2,x3,x4⟩,x5⟩:=X4;go_wp2_with fail
   go_roundw
   case rel=>exact⟨i+1,v,u,by go_num,by omega,stn⟩
   case measure=>simp[intOf];omega
  ·have JZ:¬ ((i:Int)+1<=(turn:Int)):=by omega
   obtain⟨⟨y0,y1,y2,y3,y4⟩,y5⟩:=st.y;go_wp2_with fail;have iw:0<=(f i).2:=by have:=zA H0 i;have:=hle i;omega
   refine (zD1 _ _ _ _ _ (f i).2 _ st.yp.hi iw).mono ?_;rintro r w2 ⟨l,hlen,rfl,j8⟩;replace st:=st.bw j8;clear j8 y0 y1 y2 y3 y4 y5
   by_cases I7:i<N
   ·have hl:2<l:=by
     have h3:=(zA HN).2.2 i I7;refine Int.not_le.1 λ hl=>?_
     obtain⟨g1,g2,g3⟩:=hlen;obtain⟨L,e1,e2,e3⟩:=g3 (by omega)
     have:=zJ (show L+1<=2 by omega)
     have:Q 2=4:=rfl;omega
    clear hlen iw;obtain⟨⟨y0,y1,y2,y3,y4⟩,y5⟩:=st.y;go_wp2_with fail;refine (zA HF i Y _ I7 st.yb st.yp st.be).mono ?_;rintro r w3 ⟨u,rfl,B8,B7,m9⟩;replace st:=st.bw m9;replace B7:=B7.fits (K:=K) (hle _) (Z3 _ (by omega)).1 (Z3 _ (by omega)).2
    have HU:=zC B8;clear m9 y0 y1 y2 y3 y4 y5 B8;obtain⟨V3,I6⟩:∃ V3,V3=yW w3 B6 u:=⟨_,rfl⟩;have X3:VrC V3 B5 X:=by rw[I6];exact st.x.off st.ne u
    have Y3:VrC V3 B6 u:=by rw[I6];exact st.y.put u
    have P3:SpAt V3 X K (jE f i).1 (jE f i).2:=by rw[I6];exact st.xp.put st.y.c u
    have U3:SpAt V3 u K (f (i+1)).1 (f (i+1)).2:=by rw[I6];exact B7.put st.y.c u
    have F3:SpC V3 W.heap.size s:=by rw[I6];exact st.fs.off (by have:=st.l6;omega) u
    have R3:NoC V3 (W.heap.size+1):=by rw[I6];exact st.no.off (by have:=st.l6;omega) u
    have B3:Below W.heap.size W V3:=by rw[I6];exact zAR st.be (by have:=st.l6;omega) u
    have xb:=zC st.xb;have l5:=st.l5;have l6:=st.l6;have hne:=st.ne;have lY:=st.y.lt;have lX:=st.x.lt;obtain⟨⟨y0,y1,y2,y3,y4⟩,y5⟩:=st.y;obtain⟨⟨x0,x1,x2,x3,x4⟩,x5⟩:=st.x;clear st B7;go_wp2_with fail;have Q3:V3=yW w3 B6 u:=I6;unfold yW at Q3;rw[<- Q3];clear Q3 y0 y1 y2 y3 y4 y5 x0 x1 x2 x3 x4 x5;have FW:B5<V3.heap.size:=X3.lt;refine (zCZ _ X u K b (jE f i) (f (i+1)) P3 U3 (by omega) (zA xb)).mono ?_
    rintro r w4 ⟨v,rfl,K3,J7,y9⟩;have X4:=X3.bw y9;have Y4:=Y3.bw y9;have U4:=U3.bw y9;have F4:=F3.bw y9;have R4:=R3.bw y9;have B4:=zB B3 y9;have e:zB5 (jE f i) (f (i+1))=jE f (i+1):=rfl;rw[e] at J7;replace J7:=J7.fits (K:=K) (zGL hle _) (hfitS _ (by omega)).1 (hfitS _ (by omega)).2
    have HV:=zC K3;clear y9 K3 X3 Y3 P3 U3 F3 R3 B3 I6;have stn:SumSt W (yW w4 B5 v) B5 B6 b K s v u f (i+1):=⟨X4.put v,Y4.off (Ne.symm hne) v,J7.put X4.c v,U4.put X4.c v,zA HV,zA HU,F4.off (by omega) v,R4.off (by omega) v,zAR B4 (by omega) v,l5,l6,hne⟩
    unfold yW at stn;obtain⟨⟨x0,x1,x2,x3,x4⟩,x5⟩:=X4;go_wp2_with fail
    go_roundw
    case rel=>exact⟨i+1,v,u,by go_num,by omega,stn⟩
    case measure=>simp[intOf];omega
   ·have gH:i=N:=by omega
    subst gH
    have hl:¬ 2<l:=by
     have h1:=(zA HN).2.1
     intro hl
     obtain⟨g1,g2,g3⟩:=hlen
     by_cases hp:0<(f i).2
     ·obtain⟨L,e1,e2,e3⟩:=g3 hp
      have:=zJ (show 2<=L by omega)
      have:Q 2=4:=rfl;omega
     ·have:=g2 (by omega);omega
    clear hlen;have l5:=st.l5;have lX:=st.x.lt;have Z6:=zC (show ∀ w',Below w2.heap.size w2 w'->(cK w' B5 X (w'.cell? ⟨W.heap.size,4,none⟩=some (.int .i64 s.bits))) from λ w' hB=>⟨(st.x.c.bw hB).c0,(st.x.c.bw hB).c1,(st.x.c.bw hB).c2,(st.x.c.bw hB).c3,(st.x.c.bw hB).c4,(st.fs.bw hB).c4⟩)
    have R3:=st.no;have gQ:=R3.lt;have ST:=zC st;clear st;go_wp2_with fail;obtain⟨x0,x1,x2,x3,x4,x5⟩:=zA Z6 _ (Below.refl _ _);have A9:Below w2.heap.size w2 w2.drew:=(Below.refl _ _).drew;have DW:W.heap.size+1≠B5:=by omega
    have Gc:W.heap.size+1≠W.heap.size:=by omega
    go_region_held3 (λ w'=>cK w' B5 X (w'.cell? ⟨W.heap.size,4,none⟩=some (.int .i64 s.bits))) (first|exact zA Z6 _ (by with_reducible first|exact A9|exact s9|exact p9)|(dsimp only[cK,cK0,nK,nK0,rK,rK0];go_keep)|go_keep)
     (first
      | (go_at_call 51;have hq:=p9;refine (zCZ _ X ⟨false,none,0,0,D8,a4,n4,c4,s.bits⟩ K b (jE f i) (0,9) ((zA ST).xp.bw p9) ⟨zD3 _ _,G6.mono XQ⟩ (by omega) (zA ST).xb).mono ?_;rintro r' w5 ⟨v,rfl,K3,J7,D6⟩;have s9:=zB p9 D6;have HV:=zC K3;clear K3;obtain⟨q0,q1,q2,q3,q4,q5⟩:=R3.bw s9;obtain⟨y0,y1,y2,y3,y4,y5⟩:=zA Z6 _ s9)
      | (go_at_call 33;refine (zD 9 _ (by omega) (by omega)).mono ?_;rintro r' w4 ⟨D8,a4,n4,c4,rfl,G6,y9⟩;have p9:=zB A9 y9))
    all_goals
     go_wp2_with fail;refine bodyPost_ret (v:=.agg v.q) (by simp[results,Tryz.results182,go_sem,q0,q1,q2,q3,q4]) rfl ⟨v,rfl,zA HV,?_,?_⟩
     ·exact SpAt.put5 (J7.mono (by omega)) q0 q1 q2 q3 q4 _ _ _ _ _
     ·exact jY (zB (zA ST).be s9) (Nat.le_succ _) _ _ _ _ _
theorem en_erf (args:Array Value) (w:World):(callFunc 198 args).run Tryz.prog w=.ok (.enter 198 args) w:=by simp[go_sem,callFunc,Tryz.func198];kernel_rfl
theorem ag_small {n m:Int} (h1:1<=n) (h2:n<=1000000) (h3:2<=m) (h4:m<=1000):0<(2*n+1)*m/\(2*n+1)*m<=2000001000/\0<(2*n+1)*m*m/\(2*n+1)*m*m<=2000001000000:=by
 have a:=Int.mul_pos (show 0<2*n+1 by omega) (show 0<m by omega)
 have b:=Int.mul_le_mul (show 2*n+1<=2000001 by omega) h4 (by omega) (by omega)
 have c:=Int.mul_pos a (show 0<m by omega)
 have d:=Int.mul_le_mul b h4 (by omega) (by omega)
 exact⟨a,by omega,c,by omega⟩
theorem ag1_iv (w:World) (B0:Nat) (s:Sp) (m:Int) (k b:Nat) (n:Int) (a:Int × Int) (hs:SpAt w s k a.1 a.2) (hc:w.cell? ⟨B0,0,none⟩=some (.int .i64 m)) (l0:B0<w.heap.size) (hk:k<=100000000) (hb:s.bits=(b:Int)) (hn:1<=n) (aR:n<=1000000) (hm:2<=m) (K5:m<=1000) :
  Calls Tryz.prog 210 #[.agg s.q,.int .i64 n,.pointer (some ⟨B0,0,none⟩)] w (zH w b (k+4+10) (negI (zK a (2*n-1) ((2*n+1)*m*m))).1 (negI (zK a (2*n-1) ((2*n+1)*m*m))).2):=by
 obtain⟨W,hW⟩:∃ W,W=(w.alloc (.cells s.q 31)).alloc (.cells zCq 31):=⟨_,rfl⟩;have j7:Below w.heap.size w W:=by rw[hW];exact bl2 _ _ _
 have A:SpC W w.heap.size s:=by rw[hW];constructor<;>simp[go_sem]
 have R:NoC W (w.heap.size+1):=by rw[hW];constructor<;>simp[go_sem]
 have HS:=zC (hs.bw j7);have C:W.cell? ⟨B0,0,none⟩=some (.int .i64 m):=(j7.cell (p:=⟨B0,0,none⟩) l0).trans hc;have l1:B0<W.heap.size:=YH l0 j7.size;have HB:=zC hb;have lR:=R.lt;have lA:=A.lt;obtain⟨b1,b2,b3,b4⟩:=ag_small hn aR hm K5;have P5:=zC (show IntKind.i64.wrap (2*n)=2*n from jB _ (by omega) (by omega))
 have Y7:=zC (show IntKind.i64.wrap (2*n-1)=2*n-1 from jB _ (by omega) (by omega))
 have cR:=zC (show IntKind.i64.wrap (2*n+1)=2*n+1 from jB _ (by omega) (by omega))
 have zd:=zC (show IntKind.i64.wrap ((2*n+1)*m)=(2*n+1)*m from jB _ (by omega) (by omega))
 have oX:=zC (show IntKind.i64.wrap ((2*n+1)*m*m)=(2*n+1)*m*m from jB _ (by omega) (by omega))
 have ba:=zC (show -9223372036854775808<=(2*n+1)*m*m/\(2*n+1)*m*m<=9223372036854775807 from⟨by omega,by omega⟩)
 have rO:=zC b3;clear hs hb hc b1 b2 b3 b4;have C8:Below W.heap.size W W.drew:=(Below.refl _ _).drew;have HK:=zC (show ∀ w',Below W.heap.size W w'->(cK w' w.heap.size s (w'.cell? ⟨B0,0,none⟩=some (.int .i64 m))) from λ w' hB=>⟨(A.bw hB).c0,(A.bw hB).c1,(A.bw hB).c2,(A.bw hB).c3,(A.bw hB).c4,(hB.cell (p:=⟨B0,0,none⟩) l1).trans C⟩)
 clear C
 go_enter Tryz.func210,Tryz.ntmps210
 go_wp2;rw[<- hW];clear hW;have DV:w.heap.size+1≠B0:=by omega
 obtain⟨x0,x1,x2,x3,x4,x5⟩:=zA HK _ (Below.refl _ _)
 go_region_held3 (λ w'=>cK w' w.heap.size s (w'.cell? ⟨B0,0,none⟩=some (.int .i64 m))) (first|exact zA HK _ (by with_reducible first|exact C8|exact G0|exact A8|exact o9|exact A6)|(dsimp only[cK,cK0,nK,nK0,rK,rK0];go_keep)|go_keep)
  (first
   | (go_at_call 139;have hq:=A8;refine (zDE _ v3 (k+4+10) _ _ O4 (by omega)).mono ?_;rintro r w4 ⟨t,rfl,I8,P1,y9⟩;have HT:=zC (I8.trans (zA HV));clear I8;have G0:=zB A8 y9;obtain⟨q0,q1,q2,q3,q4,q5⟩:=R.bw G0;obtain⟨i0,i1,i2,i3,i4,i5⟩:=zA HK _ G0)
   | (go_at_call 151;have hq:=o9;refine (zA9 _ s ⟨m7,a1,n1,c1⟩ ⟨j6,a2,n2,c2⟩ k 4 _ b a (2*n-1) ((2*n+1)*m*m) ((zA HS).bw o9) (o8.bw j8) A5 (by omega) (by omega) (zA rO) (zA HB)).mono ?_;rintro r w3 ⟨v3,rfl,G3,O4,m9⟩;have HV:=zC G3;clear G3;have A8:=zB o9 m9)
   | (go_at_call 33;have hq:=A6;(first|rw[zA P5,zA cR,zA zd,zA oX]|rw[zA cR,zA zd,zA oX]);refine (zD ((2*n+1)*m*m) _ (zA ba).1 (zA ba).2).mono ?_;rintro r w2 ⟨j6,a2,n2,c2,rfl,A5,j8⟩;have o9:=zB A6 j8)
   | (go_at_call 33;rw[zA P5,zA Y7];refine (zD (2*n-1) _ (by omega) (by omega)).mono ?_;rintro r w1 ⟨m7,a1,n1,c1,rfl,o8,b9⟩;have A6:=zB C8 b9))
 all_goals
  go_wp2;refine bodyPost_ret (v:=.agg t.q) (by simp[results,Tryz.results210,go_sem,q0,q1,q2,q3,q4]) rfl ⟨t,rfl,zA HT,?_,?_⟩
  ·exact SpAt.put5 P1 q0 q1 q2 q3 q4 _ _ _ _ _
  ·exact jY (zB j7 G0) (Nat.le_succ _) _ _ _ _ _
theorem en_ag (args:Array Value) (w:World):(callFunc 210 args).run Tryz.prog w=.ok (.enter 210 args) w:=by simp[go_sem,callFunc,Tryz.func210];kernel_rfl
theorem zMP (w:World) (m:Int) (b N K:Nat) (hm:2<=m) (K5:m<=1000) (E6:2<=b) (hb:b<=100000) (hN:zU (agT m b) N) (hK:Q (b+4)<P K) (nj:K<=10000000) :
  Calls Tryz.prog 207 #[.int .i64 m,.int .i64 b] w (zH w b (K+3) (zN (agT m b) N).1 (zN (agT m b) N).2):=by
 obtain⟨W,hW⟩:∃ W,W=(w.alloc (.cells #[.int .i64 m] 3)).alloc (.cells zCq 31):=⟨_,rfl⟩;have j7:Below w.heap.size w W:=by rw[hW];exact bl2 _ _ _
 have C:W.cell? ⟨w.heap.size,0,none⟩=some (.int .i64 m):=by rw[hW];simp[go_sem]
 have R:NoC W (w.heap.size+1):=by rw[hW];constructor<;>simp[go_sem]
 have lR:=R.lt;have l0:w.heap.size<W.heap.size:=by omega
 have Qz:=zE b
 have gB:Q b*16<P K:=by
  have e:Q (b+4)=2*(2*(2*(2*Q b))):=rfl;omega
 obtain⟨g1,g2,g3,g4⟩:=zHT hm E6 hN;have Y8:=zC (zHR hm E6);have rM:=zC (zMN hm b)
 have fZ:Hid (∀ j,j<=N -> -P K<(agT m b j).1/\(agT m b j).2<P K):=zC (λ j _=>by
  obtain⟨g1,g2,g3,g4⟩:=zA Y8 j;have:=zJ (show b-2*j<=b by omega)
  omega)
 have cl:Hid (∀ j,j<=N -> -P K<(jE (agT m b) j).1/\(jE (agT m b) j).2<P K):=zC (λ j hj=>by
  obtain⟨g1,g2,g3,g4⟩:=zFR (s:=2) (by omega) (zA Y8) hN j hj
  have:=zE (b-2*j)
  omega)
 have Bf:Hid (-P K<(ofI 1 m b).1/\(ofI 1 m b).2<P K):=zC ((zA fZ) 0 (Nat.zero_le _));have Af:N<=1000000:=by omega
 have HN:=zC hN
 have cg:=zC (show ∀ (j:Nat) (u:Sp) w',j<N->u.bits=(b:Int)->SpAt w' u K (agT m b j).1 (agT m b j).2->Below W.heap.size W w'->Calls Tryz.prog 210 #[.agg u.q,.int .i64 ((j:Int)+1),.pointer (some ⟨w.heap.size,0,none⟩)] w' (zH w' b (K+4+10) (agT m b (j+1)).1 (agT m b (j+1)).2) from λ j u w' hj B8 B7 O7=>by
  have e:=ag1_iv w' w.heap.size u m K b ((j:Int)+1) (agT m b j) B7 ((O7.cell (p:=⟨w.heap.size,0,none⟩) l0).trans C) (YH l0 O7.size) (by omega) B8 (by omega) (by omega) hm K5
  have e1:2*((j:Int)+1)-1=2*(j:Int)+1:=by omega
  have e2:2*((j:Int)+1)+1=2*(j:Int)+3:=by omega
  rw[e1,e2] at e
  exact e)
 have HK:=zC (show ∀ w',Below W.heap.size W w'->(w'.cell? ⟨w.heap.size,0,none⟩=some (.int .i64 m)) from λ w' hB=>(hB.cell (p:=⟨w.heap.size,0,none⟩) l0).trans C)
 have Hg:=zC (yA (n:=1) (show 0<m by omega) b)
 have C8:Below W.heap.size W W.drew:=(Below.refl _ _).drew;clear hN g1 g2 g3 g4 C
 go_enter Tryz.func207,Tryz.ntmps207
 go_wp2;rw[<- hW];clear hW;have nR:w.heap.size+1≠w.heap.size:=by omega
 have x0:=zA HK _ (Below.refl _ _)
 go_region_held3 (λ w'=>w'.cell? ⟨w.heap.size,0,none⟩=some (.int .i64 m)) (first|exact zA HK _ (by with_reducible first|exact C8|exact G0|exact A8|exact o9|exact A6)|go_keep)
  (first
   | (go_at_call 121;have hq:=A8;refine (zL9 _ #[.pointer (some ⟨w.heap.size,0,none⟩)] en_ag (agT m b) N b K (K+4+10) v3 _ (O4.fits (K:=K) (zA Hg) (zA Bf).1 (zA Bf).2) (zA HV) (by omega) (by omega) (by omega) (zA HN) (by omega) (zA rM) (zA fZ) (zA cl) (λ j u w' hj B8 B7 O7=>zA cg j u w' hj B8 B7 (zB A8 O7))).mono ?_;rintro r w4 ⟨t,rfl,I8,P1,y9⟩;have HT:=zC I8;clear I8;have G0:=zB A8 y9;obtain⟨q0,q1,q2,q3,q4,q5⟩:=R.bw G0;have i0:=zA HK _ G0)
   | (go_at_call 88;have hq:=o9;refine (jP _ _ _ _ _ _ _ _ 4 4 b 1 m _ (o8.bw j8) A5 (by omega) (by omega) (by omega)).mono ?_;rintro r w3 ⟨v3,rfl,G3,O4,m9⟩;have HV:=zC G3;clear G3;have A8:=zB o9 m9)
   | (go_at_call 33;have hq:=A6;refine (zD m _ (by omega) (by omega)).mono ?_;rintro r w2 ⟨j6,a2,n2,c2,rfl,A5,j8⟩;have o9:=zB A6 j8)
   | (go_at_call 33;refine (zD 1 _ (by omega) (by omega)).mono ?_;rintro r w1 ⟨m7,a1,n1,c1,rfl,o8,b9⟩;have A6:=zB C8 b9))
 all_goals
  go_wp2;refine bodyPost_ret (v:=.agg t.q) (by simp[results,Tryz.results207,go_sem,q0,q1,q2,q3,q4]) rfl ⟨t,rfl,zA HT,?_,?_⟩
  ·exact SpAt.put5 P1 q0 q1 q2 q3 q4 _ _ _ _ _
  ·exact jY (zB j7 G0) (Nat.le_succ _) _ _ _ _ _
theorem pi_iv (w:World) (b N5 N9 K:Nat) (E6:2<=b) (hb:b<=100000) (h5:zU (agT 5 b) N5) (h9:zU (agT 239 b) N9) (hK:Q (b+4)<P K) (nj:K<=10000000) :
  Calls Tryz.prog 199 #[.int .i64 b] w (zH w b (K+8) (piI b N5 N9).1 (piI b N5 N9).2):=by
 obtain⟨W,hW⟩:∃ W,W=w.alloc (.cells zCq 31):=⟨_,rfl⟩;have j7:Below w.heap.size w W:=by rw[hW];exact bl1 _ _
 have R:NoC W w.heap.size:=by rw[hW];constructor<;>simp[go_sem]
 have H5:=zC h5;have H9:=zC h9;clear h5 h9
 go_enter Tryz.func199,Tryz.ntmps199
 go_wp2_with fail;rw[<- hW];clear hW;refine (zMP _ 5 b N5 K (by omega) (by omega) E6 hb (zA H5) hK nj).mono ?_
 rintro r w1 ⟨v1,rfl,J6,S7,b9⟩;have B1:=zC J6;replace R:=R.bw b9;replace j7:=zB j7 b9;clear J6 b9;go_wp2_with fail;refine (zDO _ v1 (K+3) b 16 _ S7 (by omega) (zA B1) (by omega) (by omega)).mono ?_
 rintro r w2 ⟨v2,rfl,P2,X8,j8⟩;have B2:=zC P2;replace R:=R.bw j8;replace j7:=zB j7 j8;clear P2 j8 S7;go_wp2_with fail;refine (zMP _ 239 b N9 K (by omega) (by omega) E6 hb (zA H9) hK nj).mono ?_
 rintro r w3 ⟨v3,rfl,G3,O4,m9⟩;have B3:=zC G3;replace R:=R.bw m9;replace j7:=zB j7 m9;replace X8:=X8.bw m9;clear G3 m9;go_wp2_with fail;refine (zDO _ v3 (K+3) b 4 _ O4 (by omega) (zA B3) (by omega) (by omega)).mono ?_
 rintro r w4 ⟨v4,rfl,aG,KM,y9⟩;replace R:=R.bw y9;replace j7:=zB j7 y9;replace X8:=X8.bw y9;have B4:=zC aG;clear aG y9 O4;go_wp2_with fail;refine (zHJ _ v2 v4 (K+3+4) b (kH (zN (agT 5 b) N5) 16) (kH (zN (agT 239 b) N9) 4) X8 KM (by omega) (zA B2)).mono ?_
 rintro r w5 ⟨v5,rfl,mA,KN,D6⟩;obtain⟨q0,q1,q2,q3,q4,q5⟩:=R.bw D6;replace j7:=zB j7 D6;have B5:=zC mA;clear mA;go_wp2_with fail;refine bodyPost_ret (v:=.agg v5.q) (by simp[results,Tryz.results199,go_sem,q0,q1,q2,q3,q4]) rfl ⟨v5,rfl,zA B5,?_,?_⟩
 ·exact SpAt.put5 (KN.mono (by omega)) q0 q1 q2 q3 q4 _ _ _ _ _
 ·exact jY j7 (YE _) _ _ _ _ _
theorem zS1 (a:Int) (h0:0<=a) (h1:a<65536):bits .or .i64 0 a=a:=by
 simp[bits];have e0:(2:Int) ^ IntKind.i64.bits=18446744073709551616:=rfl;have e:a % 2 ^ IntKind.i64.bits=a:=Int.emod_eq_of_lt h0 (by rw[e0];omega)
 rw[e,show max a 0=a by omega]
 exact jB _ (by omega) (by omega)
theorem zKK (neg:Bool) (a:Option Addr) (n cap:Nat) (z:Int) (w:World) (h:IntAt w neg a n cap 1 z) (h0:0<=z) :
  Calls Tryz.prog 181 #[.agg #[.bool neg,.slice a n cap]] w λ r w'=>r=.returned (.int .i64 z)/\Below w.heap.size w w':=by
 obtain⟨d,g1,g2,g3,g4,g5⟩:=h;have hd:=g1.dgs
 rcases (show n=0\/n=1 by omega) with rfl|rfl
 ·have hz:z=0:=by rw[g5];unfold sgn;split<;>rfl
  subst hz;clear g1 g2 g3 g4 g5 hd h0
  go_enter Tryz.func181,Tryz.ntmps181
  go_wp2_with fail
  go_loopw [3,4] (λ oo ii wr=>oo=.int .i64 0/\ii=.int .i64 (-1)/\Below w.heap.size w wr) (λ _ ii _=>0)
  case atStart=>exact⟨rfl,by go_num,bl1 _ _⟩
  case round =>
   obtain⟨rfl,rfl,hB⟩:=hrel;go_wp2_with fail;exact bodyPost_ret (v:=.int .i64 0) (by simp[results,Tryz.results181]) rfl ⟨rfl,hB⟩
 ·have hv:V d 1=d 0:=by show V d 0+d 0*P 0=d 0;show 0+d 0*1=d 0;omega
  have M5:neg=false:=by
   cases neg
   ·rfl
   ·have h1:=(hd 0).1
    rw[hv] at g5;have:z = -d 0:=g5;have:d 0≠0:=by rcases g2 with g|g;exact absurd g (by omega);exact g
    omega
  subst M5;have hz:z=d 0:=by rw[g5,hv];rfl
  subst hz;obtain⟨b1,o1,rfl,l1,D7⟩:=g1.at_ (by omega)
  have c0:=D7 0 (by omega)
  have hd0:=(hd 0).1;have hd1:=(hd 0).2;have HO:=zC (zS1 (d 0) hd0 hd1);have H0:=zC (show IntKind.i64.wrap (d 0)=d 0 from jB _ (by omega) (by omega))
  simp only[Nat.add_zero] at c0;clear D7 g2 g3 g4 g5 hv h0 hd g1
  go_enter Tryz.func181,Tryz.ntmps181
  go_wp2_with fail
  go_loopw [3,4] (λ oo ii wr=>((oo=.int .i64 0/\ii=.int .i64 0)\/(oo=.int .i64 (d 0)/\ii=.int .i64 (-1)))/\Below w.heap.size w wr/\wr.cell? ⟨w.heap.size,1,none⟩=some (.slice (some ⟨b1,o1,none⟩) 1 cap)) (λ _ ii _=>(intOf ii+1).toNat)
  case atStart=>exact⟨Or.inl ⟨rfl,by go_num⟩,bl1 _ _,by simp[go_sem]⟩
  case round =>
   obtain⟨hh,hB,hx⟩:=hrel;have c1:wr.cell? ⟨b1,o1,none⟩=some (.int .u16 (d 0)):=(hB.cell (p:=⟨b1,o1,none⟩) l1).trans c0
   rcases hh with⟨rfl,rfl⟩|⟨rfl,rfl⟩
   ·go_wp2_with fail
    first
     | rw[zA HO]
     | skip
    go_roundw
    case rel=>exact⟨Or.inr ⟨by first|rfl|(rw[zA HO])|(simp[zA HO]),by go_num⟩,hB,hx⟩
    case measure=>simp[intOf]
   ·go_wp2_with fail
    exact bodyPost_ret (v:=.int .i64 (d 0)) (by simp[results,Tryz.results181]) rfl ⟨rfl,hB⟩
theorem zTR {w:World} {B:Nat} {s:Sp} (h:VrC w B s) (x:Nm):VrC ((w.setCell ⟨B,0,none⟩ (.bool x.neg)).setCell ⟨B,1,none⟩ (.slice x.a x.n x.cap)) B ⟨x.neg,x.a,x.n,x.cap,s.hn,s.ha,s.hN,s.hc,s.bits⟩:=by
 obtain⟨⟨q0,q1,q2,q3,q4⟩,q5⟩:=h;exact⟨⟨by simp[go_sem,q0],by simp[go_sem,q1],by simp[go_sem,q2],by simp[go_sem,q3],by simp[go_sem,q4]⟩,λ o=>by rw[zS,zS];exact q5 o⟩
theorem NoC.offLE {w:World} {B B':Nat} (h:NoC w B) (hne:B≠B') (u0 u1:Value):NoC ((w.setCell ⟨B',0,none⟩ u0).setCell ⟨B',1,none⟩ u1) B:=by
 obtain⟨q0,q1,q2,q3,q4,q5⟩:=h;exact⟨by simp[go_sem,q0,hne,Ne.symm hne],by simp[go_sem,q1,hne,Ne.symm hne],by simp[go_sem,q2,hne,Ne.symm hne],by simp[go_sem,q3,hne,Ne.symm hne],by simp[go_sem,q4,hne,Ne.symm hne],λ o=>by rw[zS,zS];exact q5 o⟩
theorem IntAt.putLE {w:World} {neg:Bool} {a:Option Addr} {n cap k:Nat} {z:Int} (h:IntAt w neg a n cap k z) {B:Nat} {x0:Bool} {y0:Option Addr} {y1 y2:Nat} (h0:w.cell? ⟨B,0,none⟩=some (.bool x0))
  (h1:w.cell? ⟨B,1,none⟩=some (.slice y0 y1 y2)) (u0 u1:Value):IntAt ((w.setCell ⟨B,0,none⟩ u0).setCell ⟨B,1,none⟩ u1) neg a n cap k z:=by
 have hne:(⟨B,0,none⟩:Addr)≠⟨B,1,none⟩:=by simp
 have h2:(w.setCell ⟨B,0,none⟩ u0).cell? ⟨B,1,none⟩=some (.slice y0 y1 y2):=(World.cell?_setCell_other _ _ _ _ hne).trans h1;exact (h.store h0 (λ _ e=>by cases e) u0).store h2 (λ _ e=>by cases e) u1
theorem zEE (w:World) (b:Nat) (hb:b<=100000) :
  Calls Tryz.prog 180 #[.int .i64 b] w (zH w b (b/16+30) (Q b-1) (Q b)):=by
 obtain⟨W,hW⟩:∃ W,W=w.alloc (.cells zCq 31):=⟨_,rfl⟩;have j7:Below w.heap.size w W:=by rw[hW];exact bl1 _ _
 have R:NoC W w.heap.size:=by rw[hW];constructor<;>simp[go_sem]
 have Hf:=zC (show 1*Q b/1=Q b by rw[Int.ediv_one];omega)
 have TX:=zC (show -(-(1*Q b)/1)=Q b by rw[Int.ediv_one];omega)
 go_enter Tryz.func180,Tryz.ntmps180
 go_wp2_with fail;rw[<- hW];clear hW;refine (zDD _ b (by omega)).mono ?_
 rintro r' w1 ⟨v1,rfl,J6,hs1,b9⟩;replace R:=R.bw b9;replace j7:=zB j7 b9;have rz:=R.lt;have HB:=zC J6;clear J6 b9;obtain⟨V1,Q2⟩:∃ V,V=w1.alloc (.cells v1.q 31):=⟨_,rfl⟩;have bV:Below w1.heap.size w1 V1:=by rw[Q2];exact bl1 _ _
 have A:VrC V1 w1.heap.size v1:=by rw[Q2];exact⟨zB2 _ _ _,λ o=>by simp[go_sem]⟩
 have HS:=zC (show SpAt V1 v1 (b/16+24) (Q b) (Q b) from by have:=hs1.bw bV;rw[zA Hf,zA TX] at this;exact this)
 replace R:=R.bw bV;replace j7:=zB j7 bV;have GK:=zC j7;have HA:=zC A;have HR:=zC R;have A9:Below V1.heap.size V1 V1.drew:=(Below.refl _ _).drew;have HK:=zC (show ∀ w',Below V1.heap.size V1 w'->(w'.cell? ⟨w1.heap.size,0,none⟩=some (.bool v1.ln)/\w'.cell? ⟨w1.heap.size,1,none⟩=some (.slice v1.la v1.lN v1.lc)) from λ w' hB=>⟨(A.bw hB).c.c0,(A.bw hB).c.c1⟩)
 clear hs1 A R j7 bV;go_wp2_with fail;rw[<- Q2];clear Q2;refine AnyL.start (S:=λ w'=>w'.cell? ⟨w1.heap.size,0,none⟩=some (.bool v1.ln)/\w'.cell? ⟨w1.heap.size,1,none⟩=some (.slice v1.la v1.lN v1.lc)) (l:=5) (by kernel_rfl) (zA HK _ A9) (λ hHeld=>?_)
 refine AnyL.take (i:=0) (oi:={ dst:=some 6,op:=Go.Op.fieldAddr 31 (Go.Operand.tmp 3) 0,type:=0,pos := "part.go:60",after:=#[],guard:=none }) (v:=.pointer (some ⟨w1.heap.size,0,none⟩)) rfl (by kernel_rfl) (by kernel_rfl) (by kernel_rfl) (by kernel_rfl) (λ _ _ _ h=>h) (Or.inl ⟨by rfl,λ w hSw=>?_⟩) hHeld ?_
 ·obtain⟨s0,s1⟩:=hSw;go_simp
 try simp only[Act.put,Yv,Yw,Yx]
 refine AnyL.take (i:=1) (oi:={ dst:=some 7,op:=Go.Op.load 29 (Go.Operand.tmp 6),type:=29,pos := "part.go:60",after:=#[{ on:=0,ground:=Go.Ground.data }],guard:=none }) (v:=.agg #[.bool v1.ln,.slice v1.la v1.lN v1.lc]) rfl (by kernel_rfl) (by kernel_rfl) (by kernel_rfl) (by kernel_rfl) (λ _ _ _ h=>h) (Or.inl ⟨by rfl,λ w hSw=>?_⟩) hHeld ?_
 ·obtain⟨s0,s1⟩:=hSw;go_simp
 try simp only[Act.put,Yv,Yw,Yx]
 refine AnyL.one (i:=2) (o:={ dst:=some 8,op:=Go.Op.call { callee:=Go.Callee.value (Go.Operand.func 33),args:=#[Go.Operand.const (Go.Value.int Go.IntKind.i64 1)],argTypes:=#[3] },type:=29,pos := "part.go:60",after:=#[],guard:=none }) (by kernel_rfl) rfl (λ Kc H8=>?_)
 go_simp
 refine (zD 1 _ (by omega) (by omega)).mono ?_
 rintro r' w2 ⟨j6,a2,n2,c2,rfl,A5,j8⟩;have p9:=zB A9 j8;clear j8;go_wp2_with fail;refine H8.out _ _ (zA HK _ p9) (λ hHeld=>?_)
 clear H8 Kc
 try simp only[Act.put,Yv,Yw,Yx]
 refine AnyL.one (i:=3) (o:={ dst:=some 9,op:=Go.Op.call { callee:=Go.Callee.value (Go.Operand.func 35),args:=#[Go.Operand.tmp 7,Go.Operand.tmp 8],argTypes:=#[29,29] },type:=29,pos := "part.go:60",after:=#[{ on:=1,ground:=Go.Ground.data },{ on:=2,ground:=Go.Ground.data },{ on:=2,ground:=Go.Ground.chain }],guard:=none }) (by kernel_rfl) rfl (λ Kc H8=>?_)
 go_simp
 refine (zBI _ _ _ _ _ _ _ _ (b/16+24) 4 (Q b) 1 _ ((zA HS).lo.bw p9) A5 (by omega) (by omega)).mono ?_
 rintro r' w3 ⟨A7,a3,n3,c3,rfl,E5,m9⟩;have s9:=zB p9 m9;clear m9;go_wp2_with fail;refine H8.out _ _ (zA HK _ s9) (λ hHeld=>?_)
 clear H8 Kc
 try simp only[Act.put,Yv,Yw,Yx]
 refine AnyL.take (i:=4) (oi:={ dst:=some 10,op:=Go.Op.fieldAddr 31 (Go.Operand.tmp 3) 0,type:=0,pos := "part.go:60",after:=#[{ on:=0,ground:=Go.Ground.phase },{ on:=1,ground:=Go.Ground.phase },{ on:=2,ground:=Go.Ground.phase },{ on:=3,ground:=Go.Ground.phase }],guard:=none }) (v:=.pointer (some ⟨w1.heap.size,0,none⟩)) rfl (by kernel_rfl) (by kernel_rfl) (by kernel_rfl) (by kernel_rfl) (λ _ _ _ h=>h) (Or.inl ⟨by rfl,λ w hSw=>?_⟩) hHeld ?_
 ·obtain⟨s0,s1⟩:=hSw;go_simp
 try simp only[Act.put,Yv,Yw,Yx]
 refine AnyL.last (o:={ dst:=none,op:=Go.Op.store 29 (Go.Operand.tmp 10) (Go.Operand.tmp 9),type:=0,pos := "part.go:60",after:=#[{ on:=4,ground:=Go.Ground.data },{ on:=3,ground:=Go.Ground.data },{ on:=3,ground:=Go.Ground.chain },{ on:=0,ground:=Go.Ground.phase },{ on:=1,ground:=Go.Ground.phase },{ on:=2,ground:=Go.Ground.phase },{ on:=3,ground:=Go.Ground.phase }],guard:=none }) (by kernel_rfl) rfl (by kernel_rfl) (λ Kc H8=>?_)
 have V2:=(zA HA).bw s9;have lA:=V2.lt;obtain⟨⟨y0,y1,y2,y3,y4⟩,y5⟩:=V2
 go_simp
 refine H8.out _ _ ?_;clear H8 Kc;have R2:=(zA HR).bw s9;obtain⟨V,hV⟩:∃ V,V=((w3.setCell ⟨w1.heap.size,0,none⟩ (.bool A7)).setCell ⟨w1.heap.size,1,none⟩ (.slice a3 n3 c3)):=⟨_,rfl⟩;have R3:NoC V w.heap.size:=by rw[hV];exact R2.offLE (by omega) _ _
 have A3:VrC V w1.heap.size ⟨A7,a3,n3,c3,v1.hn,v1.ha,v1.hN,v1.hc,v1.bits⟩:=by rw[hV];exact zTR ((zA HA).bw s9) ⟨A7,a3,n3,c3⟩
 have i1:IntAt V A7 a3 n3 c3 (b/16+30) (Q b-1):=by rw[hV];exact (E5.mono (by omega)).putLE y0 y1 _ _
 have i2:IntAt V v1.hn v1.ha v1.hN v1.hc (b/16+30) (Q b):=by rw[hV];exact (((zA HS).hi.bw s9).mono (by omega)).putLE y0 y1 _ _
 have A8:Below w.heap.size w V:=by rw[hV];exact ((zB (zA GK) s9).setCell (p:=⟨w1.heap.size,0,none⟩) (Nat.le_of_lt rz) _).setCell (p:=⟨w1.heap.size,1,none⟩) (Nat.le_of_lt rz) _
 rw[<- hV];clear hV y0 y1 y2 y3 y4 y5 lA;have lA:=A3.lt;have lR:=R3.lt;obtain⟨⟨y0,y1,y2,y3,y4⟩,y5⟩:=A3;obtain⟨q0,q1,q2,q3,q4,q5⟩:=R3;go_wp2_with fail;refine bodyPost_ret (v:=.agg #[.bool A7,.slice a3 n3 c3,.bool v1.hn,.slice v1.ha v1.hN v1.hc,.int .i64 v1.bits]) (by simp[results,Tryz.results180,go_sem,q0,q1,q2,q3,q4]) rfl ⟨⟨A7,a3,n3,c3,v1.hn,v1.ha,v1.hN,v1.hc,v1.bits⟩,rfl,zA HB,?_,?_⟩
 ·exact SpAt.put5 (show SpAt V ⟨A7,a3,n3,c3,v1.hn,v1.ha,v1.hN,v1.hc,v1.bits⟩ (b/16+30) (Q b-1) (Q b) from⟨i1,i2⟩) q0 q1 q2 q3 q4 _ _ _ _ _
 ·exact jY A8 (YE _) _ _ _ _ _
end Go.Proofs.YtgmnknmjainabacGreat
