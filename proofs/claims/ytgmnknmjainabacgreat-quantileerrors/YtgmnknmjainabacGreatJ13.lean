/-
  Its own texts.
-/
import Derived.Test.YtgmnknmjainabacGreatJ12
set_option maxRecDepth 100000
set_option maxHeartbeats 40000000
set_option linter.unnecessarySimpa false
set_option linter.unusedSimpArgs false
set_option linter.unusedVariables false
namespace Go.Proofs.YtgmnknmjainabacGreat
open Go.RowKit
attribute [local go_sem ↓] Go.wp_at_zero Go.wp_at_succ
theorem ag_small {n m:Int} (h1:1<=n) (h2:n<=1000000) (h3:2<=m) (h4:m<=1000):0<(2*n+1)*m/\(2*n+1)*m<=2000001000/\0<(2*n+1)*m*m/\(2*n+1)*m*m<=2000001000000:=by
 have a:=Int.mul_pos (show 0<2*n+1 by omega) (show 0<m by omega)
 have b:=Int.mul_le_mul (show 2*n+1<=2000001 by omega) h4 (by omega) (by omega)
 have c:=Int.mul_pos a (show 0<m by omega)
 have d:=Int.mul_le_mul b h4 (by omega) (by omega)
 exact⟨a,by omega,c,by omega⟩
theorem ag1_iv (w:World) (B0:Nat) (s:Sp) (m:Int) (k b:Nat) (n:Int) (a:Int × Int) (hs:SpAt w s k a.1 a.2) (hc:w.cell? ⟨B0,0,none⟩=some (.int .i64 m)) (l0:B0<w.heap.size) (hk:k<=100000000) (hb:s.bits=(b:Int)) (hn:1<=n) (bL:n<=1000000) (hm:2<=m) (P6:m<=1000) :
  Calls Tryz.prog 210 #[.agg s.q,.int .i64 n,.pointer (some ⟨B0,0,none⟩)] w (zL w b (k+4+10) (negI (zJ a (2*n-1) ((2*n+1)*m*m))).1 (negI (zJ a (2*n-1) ((2*n+1)*m*m))).2):=by
 obtain⟨W,hW⟩:∃ W,W=(w.alloc (.cells s.q 31)).alloc (.cells zCq 31):=⟨_,rfl⟩;have j6:Below w.heap.size w W:=by rw[hW];exact bl2 _ _ _
 have A:SpC W w.heap.size s:=by rw[hW];constructor<;>simp[go_sem]
 have R:NoC W (w.heap.size+1):=by rw[hW];constructor<;>simp[go_sem]
 have HS:=zC (hs.bw j6);have C:W.cell? ⟨B0,0,none⟩=some (.int .i64 m):=(j6.cell (p:=⟨B0,0,none⟩) l0).trans hc;have l1:B0<W.heap.size:=Yn l0 j6.size;have HB:=zC hb;have lR:=R.lt;have lA:=A.lt;obtain⟨b1,b2,b3,b4⟩:=ag_small hn bL hm P6;have M5:=zC (show IntKind.i64.wrap (2*n)=2*n from jC _ (by omega) (by omega))
 have S3:=zC (show IntKind.i64.wrap (2*n-1)=2*n-1 from jC _ (by omega) (by omega))
 have cl:=zC (show IntKind.i64.wrap (2*n+1)=2*n+1 from jC _ (by omega) (by omega))
 have vG:=zC (show IntKind.i64.wrap ((2*n+1)*m)=(2*n+1)*m from jC _ (by omega) (by omega))
 have mZ:=zC (show IntKind.i64.wrap ((2*n+1)*m*m)=(2*n+1)*m*m from jC _ (by omega) (by omega))
 have cm:=zC (show -9223372036854775808<=(2*n+1)*m*m/\(2*n+1)*m*m<=9223372036854775807 from⟨by omega,by omega⟩)
 have po:=zC b3;clear hs hb hc b1 b2 b3 b4;have D9:Below W.heap.size W W.drew:=(Below.refl _ _).drew;have HK:=zC (show ∀ w',Below W.heap.size W w'->(cK w' w.heap.size s (w'.cell? ⟨B0,0,none⟩=some (.int .i64 m))) from λ w' hB=>⟨(A.bw hB).c0,(A.bw hB).c1,(A.bw hB).c2,(A.bw hB).c3,(A.bw hB).c4,(hB.cell (p:=⟨B0,0,none⟩) l1).trans C⟩)
 clear C
 go_enter Tryz.func210,Tryz.ntmps210
 go_wp2;rw[<- hW];clear hW;have Bv:w.heap.size+1≠B0:=by omega
 obtain⟨x0,x1,x2,x3,x4,x5⟩:=zA HK _ (Below.refl _ _)
 go_region_held3 (λ w'=>cK w' w.heap.size s (w'.cell? ⟨B0,0,none⟩=some (.int .i64 m))) (first|exact zA HK _ (by with_reducible first|exact D9|exact H6|exact D6|exact A7|exact C9)|(dsimp only[cK,cK0,nK,nK0,rK,rK0];go_keep)|go_keep)
  (first
   | (go_at_call 139;have hq:=D6;refine (zCY _ v3 (k+4+10) _ _ L6 (by omega)).mono ?_;rintro r w4 ⟨t,rfl,G8,K4,A5⟩;have HT:=zC (G8.trans (zA HV));clear G8;have H6:=zB D6 A5;obtain⟨q0,q1,q2,q3,q4,q5⟩:=R.bw H6;obtain⟨i0,i1,i2,i3,i4,i5⟩:=zA HK _ H6)
   | (go_at_call 151;have hq:=A7;refine (zA4 _ s ⟨o7,a1,n1,c1⟩ ⟨j7,a2,n2,c2⟩ k 4 _ b a (2*n-1) ((2*n+1)*m*m) ((zA HS).bw A7) (s9.bw j5) A8 (by omega) (by omega) (zA po) (zA HB)).mono ?_;rintro r w3 ⟨v3,rfl,H7,L6,m8⟩;have HV:=zC H7;clear H7;have D6:=zB A7 m8)
   | (go_at_call 33;have hq:=C9;(first|rw[zA M5,zA cl,zA vG,zA mZ]|rw[zA cl,zA vG,zA mZ]);refine (zE ((2*n+1)*m*m) _ (zA cm).1 (zA cm).2).mono ?_;rintro r w2 ⟨j7,a2,n2,c2,rfl,A8,j5⟩;have A7:=zB C9 j5)
   | (go_at_call 33;rw[zA M5,zA S3];refine (zE (2*n-1) _ (by omega) (by omega)).mono ?_;rintro r w1 ⟨o7,a1,n1,c1,rfl,s9,b9⟩;have C9:=zB D9 b9))
 all_goals
  go_wp2;refine bodyPost_ret (v:=.agg t.q) (by simp[results,Tryz.results210,go_sem,q0,q1,q2,q3,q4]) rfl ⟨t,rfl,zA HT,?_,?_⟩
  ·exact SpAt.put5 K4 q0 q1 q2 q3 q4 _ _ _ _ _
  ·exact kM (zB j6 H6) (Nat.le_succ _) _ _ _ _ _
theorem en_ag (args:Array Value) (w:World):(callFunc 210 args).run Tryz.prog w=.ok (.enter 210 args) w:=by simp[go_sem,callFunc,Tryz.func210];kernel_rfl
theorem zKT (w:World) (m:Int) (b N K:Nat) (hm:2<=m) (P6:m<=1000) (E7:2<=b) (hb:b<=100000) (hN:zT (agT m b) N) (hK:Q (b+4)<P K) (kr:K<=10000000) :
  Calls Tryz.prog 207 #[.int .i64 m,.int .i64 b] w (zL w b (K+3) (zM (agT m b) N).1 (zM (agT m b) N).2):=by
 obtain⟨W,hW⟩:∃ W,W=(w.alloc (.cells #[.int .i64 m] 3)).alloc (.cells zCq 31):=⟨_,rfl⟩;have j6:Below w.heap.size w W:=by rw[hW];exact bl2 _ _ _
 have C:W.cell? ⟨w.heap.size,0,none⟩=some (.int .i64 m):=by rw[hW];simp[go_sem]
 have R:NoC W (w.heap.size+1):=by rw[hW];constructor<;>simp[go_sem]
 have lR:=R.lt;have l0:w.heap.size<W.heap.size:=by omega
 have Nr:=zF b
 have ft:Q b*16<P K:=by
  have e:Q (b+4)=2*(2*(2*(2*Q b))):=rfl;omega
 obtain⟨g1,g2,g3,g4⟩:=zG1 hm E7 hN;have S5:=zC (zGZ hm E7);have pj:=zC (zKR hm b)
 have fj:Hid (∀ j,j<=N -> -P K<(agT m b j).1/\(agT m b j).2<P K):=zC (λ j _=>by
  obtain⟨g1,g2,g3,g4⟩:=zA S5 j;have:=zK (show b-2*j<=b by omega)
  omega)
 have aZ:Hid (∀ j,j<=N -> -P K<(jH (agT m b) j).1/\(jH (agT m b) j).2<P K):=zC (λ j hj=>by
  obtain⟨g1,g2,g3,g4⟩:=zFC (s:=2) (by omega) (zA S5) hN j hj
  have:=zF (b-2*j)
  omega)
 have xq:Hid (-P K<(ofI 1 m b).1/\(ofI 1 m b).2<P K):=zC ((zA fj) 0 (Nat.zero_le _));have wk:N<=1000000:=by omega
 have HN:=zC hN
 have aT:=zC (show ∀ (j:Nat) (u:Sp) w',j<N->u.bits=(b:Int)->SpAt w' u K (agT m b j).1 (agT m b j).2->Below W.heap.size W w'->Calls Tryz.prog 210 #[.agg u.q,.int .i64 ((j:Int)+1),.pointer (some ⟨w.heap.size,0,none⟩)] w' (zL w' b (K+4+10) (agT m b (j+1)).1 (agT m b (j+1)).2) from λ j u w' hj D5 B9 M4=>by
  have e:=ag1_iv w' w.heap.size u m K b ((j:Int)+1) (agT m b j) B9 ((M4.cell (p:=⟨w.heap.size,0,none⟩) l0).trans C) (Yn l0 M4.size) (by omega) D5 (by omega) (by omega) hm P6
  have e1:2*((j:Int)+1)-1=2*(j:Int)+1:=by omega
  have e2:2*((j:Int)+1)+1=2*(j:Int)+3:=by omega
  rw[e1,e2] at e
  exact e)
 have HK:=zC (show ∀ w',Below W.heap.size W w'->(w'.cell? ⟨w.heap.size,0,none⟩=some (.int .i64 m)) from λ w' hB=>(hB.cell (p:=⟨w.heap.size,0,none⟩) l0).trans C)
 have EC:=zC (yU (n:=1) (show 0<m by omega) b)
 have D9:Below W.heap.size W W.drew:=(Below.refl _ _).drew;clear hN g1 g2 g3 g4 C
 go_enter Tryz.func207,Tryz.ntmps207
 go_wp2;rw[<- hW];clear hW;have nR:w.heap.size+1≠w.heap.size:=by omega
 have x0:=zA HK _ (Below.refl _ _)
 go_region_held3 (λ w'=>w'.cell? ⟨w.heap.size,0,none⟩=some (.int .i64 m)) (first|exact zA HK _ (by with_reducible first|exact D9|exact H6|exact D6|exact A7|exact C9)|go_keep)
  (first
   | (go_at_call 121;have hq:=D6;refine (zKE _ #[.pointer (some ⟨w.heap.size,0,none⟩)] en_ag (agT m b) N b K (K+4+10) v3 _ (L6.fits (K:=K) (zA EC) (zA xq).1 (zA xq).2) (zA HV) (by omega) (by omega) (by omega) (zA HN) (by omega) (zA pj) (zA fj) (zA aZ) (λ j u w' hj D5 B9 M4=>zA aT j u w' hj D5 B9 (zB D6 M4))).mono ?_;rintro r w4 ⟨t,rfl,G8,K4,A5⟩;have HT:=zC G8;clear G8;have H6:=zB D6 A5;obtain⟨q0,q1,q2,q3,q4,q5⟩:=R.bw H6;have i0:=zA HK _ H6)
   | (go_at_call 88;have hq:=A7;refine (jL _ _ _ _ _ _ _ _ 4 4 b 1 m _ (s9.bw j5) A8 (by omega) (by omega) (by omega)).mono ?_;rintro r w3 ⟨v3,rfl,H7,L6,m8⟩;have HV:=zC H7;clear H7;have D6:=zB A7 m8)
   | (go_at_call 33;have hq:=C9;refine (zE m _ (by omega) (by omega)).mono ?_;rintro r w2 ⟨j7,a2,n2,c2,rfl,A8,j5⟩;have A7:=zB C9 j5)
   | (go_at_call 33;refine (zE 1 _ (by omega) (by omega)).mono ?_;rintro r w1 ⟨o7,a1,n1,c1,rfl,s9,b9⟩;have C9:=zB D9 b9))
 all_goals
  go_wp2;refine bodyPost_ret (v:=.agg t.q) (by simp[results,Tryz.results207,go_sem,q0,q1,q2,q3,q4]) rfl ⟨t,rfl,zA HT,?_,?_⟩
  ·exact SpAt.put5 K4 q0 q1 q2 q3 q4 _ _ _ _ _
  ·exact kM (zB j6 H6) (Nat.le_succ _) _ _ _ _ _
theorem pi_iv (w:World) (b N5 N9 K:Nat) (E7:2<=b) (hb:b<=100000) (h5:zT (agT 5 b) N5) (h9:zT (agT 239 b) N9) (hK:Q (b+4)<P K) (kr:K<=10000000) :
  Calls Tryz.prog 199 #[.int .i64 b] w (zL w b (K+8) (piI b N5 N9).1 (piI b N5 N9).2):=by
 obtain⟨W,hW⟩:∃ W,W=w.alloc (.cells zCq 31):=⟨_,rfl⟩;have j6:Below w.heap.size w W:=by rw[hW];exact bl1 _ _
 have R:NoC W w.heap.size:=by rw[hW];constructor<;>simp[go_sem]
 have H5:=zC h5;have H9:=zC h9;clear h5 h9
 go_enter Tryz.func199,Tryz.ntmps199
 go_wp2_with fail;rw[<- hW];clear hW;refine (zKT _ 5 b N5 K (by omega) (by omega) E7 hb (zA H5) hK kr).mono ?_
 rintro r w1 ⟨v1,rfl,I3,O8,b9⟩;have B1:=zC I3;replace R:=R.bw b9;replace j6:=zB j6 b9;clear I3 b9;go_wp2_with fail;refine (zDA _ v1 (K+3) b 16 _ O8 (by omega) (zA B1) (by omega) (by omega)).mono ?_
 rintro r w2 ⟨v2,rfl,Q8,Q9,j5⟩;have B2:=zC Q8;replace R:=R.bw j5;replace j6:=zB j6 j5;clear Q8 j5 O8;go_wp2_with fail;refine (zKT _ 239 b N9 K (by omega) (by omega) E7 hb (zA H9) hK kr).mono ?_
 rintro r w3 ⟨v3,rfl,H7,L6,m8⟩;have B3:=zC H7;replace R:=R.bw m8;replace j6:=zB j6 m8;replace Q9:=Q9.bw m8;clear H7 m8;go_wp2_with fail;refine (zDA _ v3 (K+3) b 4 _ L6 (by omega) (zA B3) (by omega) (by omega)).mono ?_
 rintro r w4 ⟨v4,rfl,bN,Hf,A5⟩;replace R:=R.bw A5;replace j6:=zB j6 A5;replace Q9:=Q9.bw A5;have B4:=zC bN;clear bN A5 L6;go_wp2_with fail;refine (zGR _ v2 v4 (K+3+4) b (kF (zM (agT 5 b) N5) 16) (kF (zM (agT 239 b) N9) 4) Q9 Hf (by omega) (zA B2)).mono ?_
 rintro r w5 ⟨v5,rfl,jk,Hg,E4⟩;obtain⟨q0,q1,q2,q3,q4,q5⟩:=R.bw E4;replace j6:=zB j6 E4;have B5:=zC jk;clear jk;go_wp2_with fail;refine bodyPost_ret (v:=.agg v5.q) (by simp[results,Tryz.results199,go_sem,q0,q1,q2,q3,q4]) rfl ⟨v5,rfl,zA B5,?_,?_⟩
 ·exact SpAt.put5 (Hg.mono (by omega)) q0 q1 q2 q3 q4 _ _ _ _ _
 ·exact kM j6 (Yj _) _ _ _ _ _
theorem zQX (a:Int) (h0:0<=a) (h1:a<65536):bits .or .i64 0 a=a:=by
 simp[bits];have e0:(2:Int) ^ IntKind.i64.bits=18446744073709551616:=rfl;have e:a % 2 ^ IntKind.i64.bits=a:=Int.emod_eq_of_lt h0 (by rw[e0];omega)
 rw[e,show max a 0=a by omega]
 exact jC _ (by omega) (by omega)
theorem zI1 (neg:Bool) (a:Option Addr) (n cap:Nat) (z:Int) (w:World) (h:IntAt w neg a n cap 1 z) (h0:0<=z) :
  Calls Tryz.prog 181 #[.agg #[.bool neg,.slice a n cap]] w λ r w'=>r=.returned (.int .i64 z)/\Below w.heap.size w w':=by
 obtain⟨d,g1,g2,g3,g4,g5⟩:=h;have hd:=g1.dgs
 rcases (show n=0\/n=1 by omega) with rfl|rfl
 ·have hz:z=0:=by rw[g5];unfold sgn;split<;>rfl
  subst hz;clear g1 g2 g3 g4 g5 hd h0
  go_enter Tryz.func181,Tryz.ntmps181
  go_wp2_with fail
  go_loopw [3,4] (λ oo ii wr=>oo=.int .i64 0/\ii=.int .i64 (-1)/\Below w.heap.size w wr) (λ _ ii _=>0)
  case atStart=>exact⟨rfl,by go_num,bl1 _ _⟩
  case round =>
   obtain⟨rfl,rfl,hB⟩:=hrel;go_wp2_with fail;exact bodyPost_ret (v:=.int .i64 0) (by simp[results,Tryz.results181]) rfl ⟨rfl,hB⟩
 ·have hv:V d 1=d 0:=by show V d 0+d 0*P 0=d 0;show 0+d 0*1=d 0;omega
  have K3:neg=false:=by
   cases neg
   ·rfl
   ·have h1:=(hd 0).1
    rw[hv] at g5;have:z = -d 0:=g5;have:d 0≠0:=by rcases g2 with g|g;exact absurd g (by omega);exact g
    omega
  subst K3;have hz:z=d 0:=by rw[g5,hv];rfl
  subst hz;obtain⟨b1,o1,rfl,l1,o8⟩:=g1.at_ (by omega)
  have c0:=o8 0 (by omega)
  have Vn:=(hd 0).1;have Vo:=(hd 0).2;have HO:=zC (zQX (d 0) Vn Vo);have H0:=zC (show IntKind.i64.wrap (d 0)=d 0 from jC _ (by omega) (by omega))
  simp only[Nat.add_zero] at c0;clear o8 g2 g3 g4 g5 hv h0 hd g1
  go_enter Tryz.func181,Tryz.ntmps181
  go_wp2_with fail
  go_loopw [3,4] (λ oo ii wr=>((oo=.int .i64 0/\ii=.int .i64 0)\/(oo=.int .i64 (d 0)/\ii=.int .i64 (-1)))/\Below w.heap.size w wr/\wr.cell? ⟨w.heap.size,1,none⟩=some (.slice (some ⟨b1,o1,none⟩) 1 cap)) (λ _ ii _=>(intOf ii+1).toNat)
  case atStart=>exact⟨Or.inl ⟨rfl,by go_num⟩,bl1 _ _,by simp[go_sem]⟩
  case round =>
   obtain⟨hh,hB,hx⟩:=hrel;have c1:wr.cell? ⟨b1,o1,none⟩=some (.int .u16 (d 0)):=(hB.cell (p:=⟨b1,o1,none⟩) l1).trans c0
   rcases hh with⟨rfl,rfl⟩|⟨rfl,rfl⟩
   ·go_wp2_with fail
    first
     | rw[zA HO]
     | skip
    go_roundw
    case rel=>exact⟨Or.inr ⟨by first|rfl|(rw[zA HO])|(simp[zA HO]),by go_num⟩,hB,hx⟩
    case measure=>simp[intOf]
   ·go_wp2_with fail
    exact bodyPost_ret (v:=.int .i64 (d 0)) (by simp[results,Tryz.results181]) rfl ⟨rfl,hB⟩
theorem zRR {w:World} {B:Nat} {s:Sp} (h:VrC w B s) (x:Nm):VrC ((w.setCell ⟨B,0,none⟩ (.bool x.neg)).setCell ⟨B,1,none⟩ (.slice x.a x.n x.cap)) B ⟨x.neg,x.a,x.n,x.cap,s.hn,s.ha,s.hN,s.hc,s.bits⟩:=by
 obtain⟨⟨q0,q1,q2,q3,q4⟩,q5⟩:=h;exact⟨⟨by simp[go_sem,q0],by simp[go_sem,q1],by simp[go_sem,q2],by simp[go_sem,q3],by simp[go_sem,q4]⟩,λ o=>by rw[zV,zV];exact q5 o⟩
theorem NoC.offLE {w:World} {B B':Nat} (h:NoC w B) (hne:B≠B') (u0 u1:Value):NoC ((w.setCell ⟨B',0,none⟩ u0).setCell ⟨B',1,none⟩ u1) B:=by
 obtain⟨q0,q1,q2,q3,q4,q5⟩:=h;exact⟨by simp[go_sem,q0,hne,Ne.symm hne],by simp[go_sem,q1,hne,Ne.symm hne],by simp[go_sem,q2,hne,Ne.symm hne],by simp[go_sem,q3,hne,Ne.symm hne],by simp[go_sem,q4,hne,Ne.symm hne],λ o=>by rw[zV,zV];exact q5 o⟩
theorem IntAt.putLE {w:World} {neg:Bool} {a:Option Addr} {n cap k:Nat} {z:Int} (h:IntAt w neg a n cap k z) {B:Nat} {x0:Bool} {y0:Option Addr} {y1 y2:Nat} (h0:w.cell? ⟨B,0,none⟩=some (.bool x0))
  (h1:w.cell? ⟨B,1,none⟩=some (.slice y0 y1 y2)) (u0 u1:Value):IntAt ((w.setCell ⟨B,0,none⟩ u0).setCell ⟨B,1,none⟩ u1) neg a n cap k z:=by
 have hne:(⟨B,0,none⟩:Addr)≠⟨B,1,none⟩:=by simp
 have h2:(w.setCell ⟨B,0,none⟩ u0).cell? ⟨B,1,none⟩=some (.slice y0 y1 y2):=(World.cell?_setCell_other _ _ _ _ hne).trans h1;exact (h.store h0 (λ _ e=>by cases e) u0).store h2 (λ _ e=>by cases e) u1
theorem zDY (w:World) (b:Nat) (hb:b<=100000) :
  Calls Tryz.prog 180 #[.int .i64 b] w (zL w b (b/16+30) (Q b-1) (Q b)):=by
 obtain⟨W,hW⟩:∃ W,W=w.alloc (.cells zCq 31):=⟨_,rfl⟩;have j6:Below w.heap.size w W:=by rw[hW];exact bl1 _ _
 have R:NoC W w.heap.size:=by rw[hW];constructor<;>simp[go_sem]
 have EB:=zC (show 1*Q b/1=Q b by rw[Int.ediv_one];omega)
 have QV:=zC (show -(-(1*Q b)/1)=Q b by rw[Int.ediv_one];omega)
 go_enter Tryz.func180,Tryz.ntmps180
 go_wp2_with fail;rw[<- hW];clear hW;refine (zCX _ b (by omega)).mono ?_
 rintro r' w1 ⟨v1,rfl,I3,hs1,b9⟩;replace R:=R.bw b9;replace j6:=zB j6 b9;have DA:=R.lt;have HB:=zC I3;clear I3 b9;obtain⟨V1,R6⟩:∃ V,V=w1.alloc (.cells v1.q 31):=⟨_,rfl⟩;have bV:Below w1.heap.size w1 V1:=by rw[R6];exact bl1 _ _
 have A:VrC V1 w1.heap.size v1:=by rw[R6];exact⟨zDM _ _ _,λ o=>by simp[go_sem]⟩
 have HS:=zC (show SpAt V1 v1 (b/16+24) (Q b) (Q b) from by have:=hs1.bw bV;rw[zA EB,zA QV] at this;exact this)
 replace R:=R.bw bV;replace j6:=zB j6 bV;have Eg:=zC j6;have HA:=zC A;have HR:=zC R;have D8:Below V1.heap.size V1 V1.drew:=(Below.refl _ _).drew;have HK:=zC (show ∀ w',Below V1.heap.size V1 w'->(w'.cell? ⟨w1.heap.size,0,none⟩=some (.bool v1.ln)/\w'.cell? ⟨w1.heap.size,1,none⟩=some (.slice v1.la v1.lN v1.lc)) from λ w' hB=>⟨(A.bw hB).c.c0,(A.bw hB).c.c1⟩)
 clear hs1 A R j6 bV;go_wp2_with fail;rw[<- R6];clear R6;refine AnyL.start (S:=λ w'=>w'.cell? ⟨w1.heap.size,0,none⟩=some (.bool v1.ln)/\w'.cell? ⟨w1.heap.size,1,none⟩=some (.slice v1.la v1.lN v1.lc)) (l:=5) (by kernel_rfl) (zA HK _ D8) (λ hHeld=>?_)
 refine AnyL.take (i:=0) (oi:={ dst:=some 6,op:=Go.Op.fieldAddr 31 (Go.Operand.tmp 3) 0,type:=0,pos := "part.go:60",after:=#[],guard:=none }) (v:=.pointer (some ⟨w1.heap.size,0,none⟩)) rfl (by kernel_rfl) (by kernel_rfl) (by kernel_rfl) (by kernel_rfl) (λ _ _ _ h=>h) (Or.inl ⟨by rfl,λ w hSw=>?_⟩) hHeld ?_
 ·obtain⟨s0,s1⟩:=hSw;go_simp
 try simp only[Act.put,Ya,Yb,Yc]
 refine AnyL.take (i:=1) (oi:={ dst:=some 7,op:=Go.Op.load 29 (Go.Operand.tmp 6),type:=29,pos := "part.go:60",after:=#[{ on:=0,ground:=Go.Ground.data }],guard:=none }) (v:=.agg #[.bool v1.ln,.slice v1.la v1.lN v1.lc]) rfl (by kernel_rfl) (by kernel_rfl) (by kernel_rfl) (by kernel_rfl) (λ _ _ _ h=>h) (Or.inl ⟨by rfl,λ w hSw=>?_⟩) hHeld ?_
 ·obtain⟨s0,s1⟩:=hSw;go_simp
 try simp only[Act.put,Ya,Yb,Yc]
 refine AnyL.one (i:=2) (o:={ dst:=some 8,op:=Go.Op.call { callee:=Go.Callee.value (Go.Operand.func 33),args:=#[Go.Operand.const (Go.Value.int Go.IntKind.i64 1)],argTypes:=#[3] },type:=29,pos := "part.go:60",after:=#[],guard:=none }) (by kernel_rfl) rfl (λ Kc I0=>?_)
 go_simp
 refine (zE 1 _ (by omega) (by omega)).mono ?_
 rintro r' w2 ⟨j7,a2,n2,c2,rfl,A8,j5⟩;have y9:=zB D8 j5;clear j5;go_wp2_with fail;refine I0.out _ _ (zA HK _ y9) (λ hHeld=>?_)
 clear I0 Kc
 try simp only[Act.put,Ya,Yb,Yc]
 refine AnyL.one (i:=3) (o:={ dst:=some 9,op:=Go.Op.call { callee:=Go.Callee.value (Go.Operand.func 35),args:=#[Go.Operand.tmp 7,Go.Operand.tmp 8],argTypes:=#[29,29] },type:=29,pos := "part.go:60",after:=#[{ on:=1,ground:=Go.Ground.data },{ on:=2,ground:=Go.Ground.data },{ on:=2,ground:=Go.Ground.chain }],guard:=none }) (by kernel_rfl) rfl (λ Kc I0=>?_)
 go_simp
 refine (zBR _ _ _ _ _ _ _ _ (b/16+24) 4 (Q b) 1 _ ((zA HS).lo.bw y9) A8 (by omega) (by omega)).mono ?_
 rintro r' w3 ⟨C7,a3,n3,c3,rfl,E8,m8⟩;have A6:=zB y9 m8;clear m8;go_wp2_with fail;refine I0.out _ _ (zA HK _ A6) (λ hHeld=>?_)
 clear I0 Kc
 try simp only[Act.put,Ya,Yb,Yc]
 refine AnyL.take (i:=4) (oi:={ dst:=some 10,op:=Go.Op.fieldAddr 31 (Go.Operand.tmp 3) 0,type:=0,pos := "part.go:60",after:=#[{ on:=0,ground:=Go.Ground.phase },{ on:=1,ground:=Go.Ground.phase },{ on:=2,ground:=Go.Ground.phase },{ on:=3,ground:=Go.Ground.phase }],guard:=none }) (v:=.pointer (some ⟨w1.heap.size,0,none⟩)) rfl (by kernel_rfl) (by kernel_rfl) (by kernel_rfl) (by kernel_rfl) (λ _ _ _ h=>h) (Or.inl ⟨by rfl,λ w hSw=>?_⟩) hHeld ?_
 ·obtain⟨s0,s1⟩:=hSw;go_simp
 try simp only[Act.put,Ya,Yb,Yc]
 refine AnyL.last (o:={ dst:=none,op:=Go.Op.store 29 (Go.Operand.tmp 10) (Go.Operand.tmp 9),type:=0,pos := "part.go:60",after:=#[{ on:=4,ground:=Go.Ground.data },{ on:=3,ground:=Go.Ground.data },{ on:=3,ground:=Go.Ground.chain },{ on:=0,ground:=Go.Ground.phase },{ on:=1,ground:=Go.Ground.phase },{ on:=2,ground:=Go.Ground.phase },{ on:=3,ground:=Go.Ground.phase }],guard:=none }) (by kernel_rfl) rfl (by kernel_rfl) (λ Kc I0=>?_)
 have V2:=(zA HA).bw A6;have lA:=V2.lt;obtain⟨⟨y0,y1,y2,y3,y4⟩,y5⟩:=V2
 go_simp
 refine I0.out _ _ ?_;clear I0 Kc;have R2:=(zA HR).bw A6;obtain⟨V,hV⟩:∃ V,V=((w3.setCell ⟨w1.heap.size,0,none⟩ (.bool C7)).setCell ⟨w1.heap.size,1,none⟩ (.slice a3 n3 c3)):=⟨_,rfl⟩;have R3:NoC V w.heap.size:=by rw[hV];exact R2.offLE (by omega) _ _
 have A3:VrC V w1.heap.size ⟨C7,a3,n3,c3,v1.hn,v1.ha,v1.hN,v1.hc,v1.bits⟩:=by rw[hV];exact zRR ((zA HA).bw A6) ⟨C7,a3,n3,c3⟩
 have i1:IntAt V C7 a3 n3 c3 (b/16+30) (Q b-1):=by rw[hV];exact (E8.mono (by omega)).putLE y0 y1 _ _
 have i2:IntAt V v1.hn v1.ha v1.hN v1.hc (b/16+30) (Q b):=by rw[hV];exact (((zA HS).hi.bw A6).mono (by omega)).putLE y0 y1 _ _
 have D6:Below w.heap.size w V:=by rw[hV];exact ((zB (zA Eg) A6).setCell (p:=⟨w1.heap.size,0,none⟩) (Nat.le_of_lt DA) _).setCell (p:=⟨w1.heap.size,1,none⟩) (Nat.le_of_lt DA) _
 rw[<- hV];clear hV y0 y1 y2 y3 y4 y5 lA;have lA:=A3.lt;have lR:=R3.lt;obtain⟨⟨y0,y1,y2,y3,y4⟩,y5⟩:=A3;obtain⟨q0,q1,q2,q3,q4,q5⟩:=R3;go_wp2_with fail;refine bodyPost_ret (v:=.agg #[.bool C7,.slice a3 n3 c3,.bool v1.hn,.slice v1.ha v1.hN v1.hc,.int .i64 v1.bits]) (by simp[results,Tryz.results180,go_sem,q0,q1,q2,q3,q4]) rfl ⟨⟨C7,a3,n3,c3,v1.hn,v1.ha,v1.hN,v1.hc,v1.bits⟩,rfl,zA HB,?_,?_⟩
 ·exact SpAt.put5 (show SpAt V ⟨C7,a3,n3,c3,v1.hn,v1.ha,v1.hN,v1.hc,v1.bits⟩ (b/16+30) (Q b-1) (Q b) from⟨i1,i2⟩) q0 q1 q2 q3 q4 _ _ _ _ _
 ·exact kM D6 (Yj _) _ _ _ _ _
theorem zSD (neg:Bool) (a:Option Addr) (n cap k1:Nat) (x:Int) (w:World) (h1:IntAt w neg a n cap k1 x) (V5:k1<=1000000000) :
  Calls Tryz.prog 116 #[.agg #[.bool neg,.slice a n cap],.int .i64 1] w λ r w' =>
   ∃ j9 a' n' m9,r=.returned (.agg #[.bool j9,.slice a' n' m9])/\IntAt w' j9 a' n' m9 (k1+1) (2*x)/\Below w.heap.size w w' :=
 (zB2 neg a n cap 1 k1 x w h1 V5 (by omega)).mono λ r w' ⟨q1,q2,q3,q4,e,h,hb⟩=>⟨q1,q2,q3,q4,e,by
  have e1:x*Q 1=2*x:=by have:Q 1=2:=rfl;rw[this];omega
  have e2:1/16+k1+1=k1+1:=by omega
  rw[e1,e2] at h;exact h,hb⟩
theorem erf_far (w:World) (x y:Nm) (n d:Int) (b:Nat) (hx:IntAt w x.neg x.a x.n x.cap 8 n) (hy:IntAt w y.neg y.a y.n y.cap 8 d) (E7:40<=b) (hb:b<=10000) (Z7:d*(b:Int)<=n) :
  Calls Tryz.prog 178 #[.agg x.q,.agg y.q,.int .i64 b] w (zL w b (b/16+30) (Q b-1) (Q b)):=by
 obtain⟨W,hW⟩:∃ W,W=((w.alloc (.cells x.q 29)).alloc (.cells y.q 29)).alloc (.cells zCq 31):=⟨_,rfl⟩;have j6:Below w.heap.size w W:=by rw[hW];exact bl3 _ _ _ _
 have X:NmC W w.heap.size x:=by rw[hW];constructor<;>simp[go_sem]
 have Y:NmC W (w.heap.size+1) y:=by rw[hW];constructor<;>simp[go_sem]
 have R:NoC W (w.heap.size+1+1):=by rw[hW];constructor<;>simp[go_sem]
 have HX:=zC (hx.bw j6);have HY:=zC (hy.bw j6);have lX:=X.lt;have lY:=Y.lt;have lR:=R.lt;have HK:=zC (show ∀ w',Below W.heap.size W w'->(nK w' w.heap.size x (nK0 w' (w.heap.size+1) y)) from λ w' hB=>⟨(X.bw hB).c0,(X.bw hB).c1,(Y.bw hB).c0,(Y.bw hB).c1⟩)
 have D9:Below W.heap.size W W.drew:=(Below.refl _ _).drew;clear hx hy;have HC:Hid (zP n (d*(b:Int))=if n=d*(b:Int) then 0 else 1):=zC (by unfold zP;split<;>(try split)<;>(try split)<;>omega)
 have Eh:Hid (0<=(if n=d*(b:Int) then (0:Int) else 1)):=zC (by split<;>omega)
 obtain⟨cc,NA⟩:∃ cc:Int,cc=(if n=d*(b:Int) then (0:Int) else 1):=⟨_,rfl⟩
 rw[<- NA] at HC Eh;have nS:0<=cc:=zA Eh;clear NA Eh
 go_enter Tryz.func178,Tryz.ntmps178
 go_wp2;rw[<- hW];clear hW;obtain⟨x0,x1,x2,x3⟩:=zA HK _ (Below.refl _ _)
 go_region_held3 (λ w'=>nK w' w.heap.size x (nK0 w' (w.heap.size+1) y)) (first|exact zA HK _ (by with_reducible first|exact D9|exact D6|exact A7|exact C9)|(dsimp only[cK,cK0,nK,nK0,rK,rK0];go_keep)|go_keep)
  (first
   | (go_at_call 17;have hq:=A7;refine (yS _ _ _ _ _ _ _ _ 8 (8+4) n (d*(b:Int)) _ ((zA HX).bw A7) A8).mono ?_;rintro r w3 ⟨rfl,m8⟩;rw[zA HC];have D6:=zB A7 m8;have i0:=zA HK _ D6)
   | (go_at_call 83;have hq:=C9;refine (jA _ _ _ _ _ _ _ _ 8 4 d (b:Int) _ ((zA HY).bw C9) s9 (by omega) (by omega)).mono ?_;rintro r w2 ⟨j7,a2,n2,c2,rfl,A8,j5⟩;have A7:=zB C9 j5)
   | (go_at_call 33;refine (zE (b:Int) _ (by omega) (by omega)).mono ?_;rintro r w1 ⟨o7,a1,n1,c1,rfl,s9,b9⟩;have C9:=zB D9 b9))
 all_goals
  have R3:=R.bw D6;replace j6:=zB j6 D6;have fJ:=R3.lt;clear x0 x1 x2 x3 i0 A8 s9;go_wp2_with fail;refine (zDY _ b (by omega)).mono ?_
  rintro r w4 ⟨t,rfl,G8,K4,A5⟩;obtain⟨q0,q1,q2,q3,q4,q5⟩:=R3.bw A5;replace j6:=zB j6 A5;have HT:=zC G8;clear G8;go_wp2_with fail;refine bodyPost_ret (v:=.agg t.q) (by simp[results,Tryz.results178,go_sem,q0,q1,q2,q3,q4]) rfl ⟨t,rfl,zA HT,?_,?_⟩
  ·exact SpAt.put5 K4 q0 q1 q2 q3 q4 _ _ _ _ _
  ·exact kM j6 (by omega) _ _ _ _ _
theorem erf_iv (w:World) (x y:Nm) (n d:Int) (b:Nat) (hx:IntAt w x.neg x.a x.n x.cap 8 n) (hy:IntAt w y.neg y.a y.n y.cap 8 d) (E7:40<=b) (hb:b<=10000) (xr:Nat->Rat) (M t N N5 N9:Nat) (l:Int) (h:ErIn n d xr) (E2:n<d*(b:Int)) (hM:M<=3*b+8523) (nM:yG (erT n d b) (zAY n d) M) (hl:zBM (zX (ofI n d b)) l) (ht:(t:Int)=max 0 (l-b+8)) (GZ:t<=16) (hA:Abs (zG (ofI n d b) t) (Q (b-8))) (hN:zT (zW b (zG (ofI n d b) t)) N) (h5:zT (agT 5 b) N5) (h9:zT (agT 239 b) N9) :
  Calls Tryz.prog 178 #[.agg x.q,.agg y.q,.int .i64 b] w (zL w b 3000 (zJE b (erQ n d b M t N N5 N9)).1 (zJE b (erQ n d b M t N N5 N9)).2):=by
 obtain⟨W,hW⟩:∃ W,W=((w.alloc (.cells x.q 29)).alloc (.cells y.q 29)).alloc (.cells zCq 31):=⟨_,rfl⟩;have j6:Below w.heap.size w W:=by rw[hW];exact bl3 _ _ _ _
 have X:NmC W w.heap.size x:=by rw[hW];constructor<;>simp[go_sem]
 have Y:NmC W (w.heap.size+1) y:=by rw[hW];constructor<;>simp[go_sem]
 have R:NoC W (w.heap.size+1+1):=by rw[hW];constructor<;>simp[go_sem]
 have HX:=zC (hx.bw j6);have HY:=zC (hy.bw j6);have lX:=X.lt;have lY:=Y.lt;have lR:=R.lt;have HK:=zC (show ∀ w',Below W.heap.size W w'->(nK w' w.heap.size x (nK0 w' (w.heap.size+1) y)) from λ w' hB=>⟨(X.bw hB).c0,(X.bw hB).c1,(Y.bw hB).c0,(Y.bw hB).c1⟩)
 have D9:Below W.heap.size W W.drew:=(Below.refl _ _).drew;clear hx hy;have d0:0<d:=h.d0;have HC:Hid (zP n (d*(b:Int)) = -1):=zC (by unfold zP;rw[if_pos E2])
 have HH:=zC h
 have ft:∀ j:Nat,j<=15900->Q j<P 1000:=λ j hj=>by
  rw[<- Q_P];have h1:=zK (show j+1<=16*1000 by omega)
  have h2:Q (j+1)=2*Q j:=rfl;have:=zF j;omega
 have EF:=zC ft
 have na:Hid ((erF n d b).1<=(erF n d b).2 /\ -P 1000<(erF n d b).1/\(erF n d b).2<P 1000):=zC (by
  obtain⟨f1,f2,f3,f4,f5⟩:=zK4 h b;have:=ft (b+4) (by omega)
  have:=zF (b+4)
  exact⟨f2,by omega,by omega⟩)
 have ar:Hid (∀ j,j<=M -> -P 1000<(erT n d b j).1/\(erT n d b j).2<P 1000):=zC (λ j _=>by
  obtain⟨f1,f2,f3,f4⟩:=zB9 h b j;have:=ft (b+2740) (by omega)
  have:=zF (b+2740)
  exact⟨by omega,by omega⟩)
 have eQ:Hid (∀ j,j<=M -> -P 1000<(jH (erT n d b) j).1/\(jH (erT n d b) j).2<P 1000):=zC (λ j hj=>by
  obtain⟨f1,f2,f3,f4⟩:=zPA h b hb j (by omega)
  have:=ft (b+2760) (by omega)
  have:=zF (b+2760)
  exact⟨by omega,by omega⟩)
 have eO:=zC (λ j=>(zB9 h b j).2.1)
 have S5:=zC (λ j=>(zB9 h b j).1)
 have pk:Hid ((erP b N5 N9).1<=(erP b N5 N9).2 /\ -P 1000<(erP b N5 N9).1/\(erP b N5 N9).2<P 1000):=zC (by
  obtain⟨R',mr⟩:=Ex.piR_ex;obtain⟨f1,f2,f3,f4,f5⟩:=erP_ok mr (by omega) hb h5 h9
  have:=ft (b+4) (by omega)
  have e:Q (b+4)=2*(2*(2*(2*Q b))):=rfl;have:=zF b
  exact⟨f2,by omega,by omega⟩)
 have vF:Hid (0<(zE4 n d b t N N5 N9).1/\(zE4 n d b t N N5 N9).1<=(zE4 n d b t N N5 N9).2):=zC (by
  obtain⟨R',mr⟩:=Ex.piR_ex;obtain⟨f1,f2,f3,f4,f5⟩:=zO9 mr h E7 hb GZ hA hN h5 h9;have:=zF b
  exact⟨by omega,f2⟩)
 have Re:Hid ((zAV n d b M).1*2<=(zAV n d b M).2*2):=zC (by
  obtain⟨f1,f2,f3,f4,f5⟩:=zK5 h hb hM nM
  omega)
 have kf:Hid (Q (b+4)<P 1000):=zC (ft _ (by omega))
 have Ej:Hid (Q (b+eb t)<P 1000):=zC (ft _ (by have:=zB8 (show t<=17 by omega);rw[eb_17] at this;omega))
 have We:zAY n d<=303:=zG6 h.n0 h.d0 h.up
 have HZ:Hid (2*n/d=(zAY n d:Int)/\0<=2*n/d/\2*n/d<P 1 /\ -P 1<2*n/d):=zC (by
  have z0:0<=2*n/d:=Int.ediv_nonneg (by have:=h.n0;omega) (by omega)
  have e:2*n/d=(zAY n d:Int):=by unfold zAY;omega
  have p1:P 1=65536:=rfl
  exact⟨e,z0,by omega,by omega⟩)
 have EC:=zC (yU (n:=n) d0 b);have HM:=zC nM;have Hl:=zC hl;have EH:=zC ht;have Qq:=zC hA;have HN:=zC hN;have H5:=zC h5;have H9:=zC h9;clear h E2 nM hl ht hA hN h5 h9 ft
 go_enter Tryz.func178,Tryz.ntmps178
 go_wp2;rw[<- hW];clear hW;obtain⟨x0,x1,x2,x3⟩:=zA HK _ (Below.refl _ _)
 go_region_held3 (λ w'=>nK w' w.heap.size x (nK0 w' (w.heap.size+1) y)) (first|exact zA HK _ (by with_reducible first|exact D9|exact D6|exact A7|exact C9)|(dsimp only[cK,cK0,nK,nK0,rK,rK0];go_keep)|go_keep)
  (first
   | (go_at_call 17;have hq:=A7;refine (yS _ _ _ _ _ _ _ _ 8 (8+4) n (d*(b:Int)) _ ((zA HX).bw A7) A8).mono ?_;rintro r w3 ⟨rfl,m8⟩;rw[zA HC];have D6:=zB A7 m8;have i0:=zA HK _ D6)
   | (go_at_call 83;have hq:=C9;refine (jA _ _ _ _ _ _ _ _ 8 4 d (b:Int) _ ((zA HY).bw C9) s9 (by omega) (by omega)).mono ?_;rintro r w2 ⟨j7,a2,n2,c2,rfl,A8,j5⟩;have A7:=zB C9 j5)
   | (go_at_call 33;refine (zE (b:Int) _ (by omega) (by omega)).mono ?_;rintro r w1 ⟨o7,a1,n1,c1,rfl,s9,b9⟩;have C9:=zB D9 b9))
 all_goals
  have R3:=R.bw D6;have X3:=X.bw D6;have Y3:=Y.bw D6;have Z3:=zC ((zA HX).bw D6);have ai:=zC ((zA HY).bw D6);replace j6:=zB j6 D6;clear x0 x1 x2 x3 i0 A8 s9 HK HX HY X Y R;obtain⟨x0,x1⟩:=X3;obtain⟨x2,x3⟩:=Y3;have DB:=NmC.lt ⟨x0,x1⟩;have WM:=NmC.lt ⟨x2,x3⟩;go_wp2_with fail;refine (zSD _ _ _ _ 8 n _ (zA Z3) (by omega)).mono ?_
  rintro r w4 ⟨E5,a4,n4,c4,rfl,H8,A5⟩;replace R3:=R3.bw A5;have X4:NmC w4 w.heap.size x:=NmC.bw ⟨x0,x1⟩ A5;have Y4:NmC w4 (w.heap.size+1) y:=NmC.bw ⟨x2,x3⟩ A5;replace Z3:=zC ((zA Z3).bw A5);replace ai:=zC ((zA ai).bw A5);replace j6:=zB j6 A5;clear x0 x1 x2 x3 A5 DB WM;obtain⟨V4,Dd⟩:∃ V,V=w4.alloc (.cells #[.bool E5,.slice a4 n4 c4] 29):=⟨_,rfl⟩;have nv:Below w4.heap.size w4 V4:=by rw[Dd];exact bl1 _ _
  have D4:NmC V4 w4.heap.size ⟨E5,a4,n4,c4⟩:=by rw[Dd];exact zFW w4 ⟨E5,a4,n4,c4⟩ _
  have gi:=zC (H8.bw nv);have lD:w.heap.size+1+1<w4.heap.size:=R3.lt;have Hz:=X4.lt;have Ia:=Y4.lt;have Xk:=zC (X4.bw nv);have Yk:=zC (Y4.bw nv);have Dk:=zC D4;obtain⟨x0,x1⟩:=X4;obtain⟨x2,x3⟩:=Y4;replace R3:=R3.bw nv;replace Z3:=zC ((zA Z3).bw nv);replace ai:=zC ((zA ai).bw nv);replace j6:=zB j6 nv;clear H8 nv D4;go_wp2_with fail;rw[<- Dd];clear Dd x0 x1 x2 x3 Hz Ia;refine (zAN _ _ _ _ _ _ _ _ 9 8 (2*n) d _ (zA gi) (zA ai) (by omega) d0).mono ?_
  rintro r w5 ⟨L8,a5,n5,c5,rfl,T8,E4⟩;replace R3:=R3.bw E4;have X4:=(zA Xk).bw E4;have Y4:=(zA Yk).bw E4;have D4:=(zA Dk).bw E4;replace Z3:=zC ((zA Z3).bw E4);replace ai:=zC ((zA ai).bw E4);replace gi:=zC ((zA gi).bw E4);replace j6:=zB j6 E4;clear E4 Xk Yk Dk;go_wp2_with fail;refine (zI1 _ _ _ _ (2*n/d) _ (T8.fits (zA HZ).2.2.2 (zA HZ).2.2.1) (zA HZ).2.1).mono ?_;rintro r w6 ⟨rfl,R7⟩;rw[(zA HZ).1];replace R3:=R3.bw R7;replace X4:=X4.bw R7;replace Y4:=Y4.bw R7;replace D4:=D4.bw R7;replace Z3:=zC ((zA Z3).bw R7);replace ai:=zC ((zA ai).bw R7);replace gi:=zC ((zA gi).bw R7);replace j6:=zB j6 R7;clear R7 T8;have Hz:=X4.lt;have Ia:=Y4.lt;obtain⟨x0,x1⟩:=X4;obtain⟨x2,x3⟩:=Y4;go_wp2_with fail;refine (jL _ _ _ _ _ _ _ _ 8 8 b n d _ (zA Z3) (zA ai) (by omega) (by omega) d0).mono ?_
  rintro r w7 ⟨v7,rfl,bO,fG,bA⟩;have Cz:=zC bO;replace R3:=R3.bw bA;have X4:NmC w7 w.heap.size x:=NmC.bw ⟨x0,x1⟩ bA;have Y4:NmC w7 (w.heap.size+1) y:=NmC.bw ⟨x2,x3⟩ bA;replace D4:=D4.bw bA;replace Z3:=zC ((zA Z3).bw bA);replace ai:=zC ((zA ai).bw bA);replace gi:=zC ((zA gi).bw bA);replace j6:=zB j6 bA;clear bA bO x0 x1 x2 x3 Hz Ia;go_wp2_with fail;refine (zEY _ v7 _ b _ _ fG (by omega) (by omega) (zA Cz)).mono ?_
  rintro r w8 ⟨v8,rfl,AZ,Bb,bC⟩;have Mi:=zC AZ;have Mc:=zC (show SpAt w8 v8 1000 (erF n d b).1 (erF n d b).2 from Bb.fits (zA na).1 (zA na).2.1 (zA na).2.2)
  replace R3:=R3.bw bC;replace X4:=X4.bw bC;replace Y4:=Y4.bw bC;replace D4:=D4.bw bC;replace Z3:=zC ((zA Z3).bw bC);replace ai:=zC ((zA ai).bw bC);replace gi:=zC ((zA gi).bw bC);replace j6:=zB j6 bC;clear bC AZ Bb fG Cz;have aT:=zC (show ∀ (j:Nat) (u:Sp) w',j<M->u.bits=(b:Int)->SpAt w' u 1000 (erT n d b j).1 (erT n d b j).2->Below w8.heap.size w8 w'->Calls Tryz.prog 198 #[.agg u.q,.int .i64 ((j:Int)+1),.pointer (some ⟨w4.heap.size,0,none⟩),.pointer (some ⟨w.heap.size+1,0,none⟩)] w' (zL w' b 1019 (erT n d b (j+1)).1 (erT n d b (j+1)).2) from λ j u w' hj D5 B9 M4=>er1_iv w' w4.heap.size (w.heap.size+1) u ⟨E5,a4,n4,c4⟩ y 1000 9 8 b ((j:Int)+1) (erT n d b j) (2*n) d B9 ((zA gi).bw M4) ((zA ai).bw M4) (D4.bw M4) (Y4.bw M4) (by omega) (by omega) (by omega) D5 (by omega) (by omega) d0)
  go_wp2_with fail;refine (zD4 _ #[.pointer (some ⟨w4.heap.size,0,none⟩),.pointer (some ⟨w.heap.size+1,0,none⟩)] en_erf (erT n d b) (zAY n d) M b 1000 1019 v8 _ (zA Mc) (zA Mi) (by omega) (by omega) (by omega) (by omega) (zA HM) (by omega) (by omega) (zA eO) (zA S5) (zA ar) (zA eQ) (zA aT)).mono ?_
  rintro r w9 ⟨v,rfl,jl,fI,aV⟩;have CA:=zC jl;have jz:=zC (show SpAt w9 v 1003 (zAV n d b M).1 (zAV n d b M).2 from fI)
  replace R3:=R3.bw aV;replace X4:=X4.bw aV;replace Y4:=Y4.bw aV;replace Z3:=zC ((zA Z3).bw aV);replace ai:=zC ((zA ai).bw aV);replace j6:=zB j6 aV;have lR9:=R3.lt;clear aV jl fI Mc aT D4 gi eO S5 ar eQ HM Mi;obtain⟨V9,wy⟩:∃ V,V=w9.alloc (.cells v.q 31):=⟨_,rfl⟩;have nw:Below w9.heap.size w9 V9:=by rw[wy];exact bl1 _ _
  have S9:SpC V9 w9.heap.size v:=by rw[wy];exact zDM w9 v _
  replace jz:=zC ((zA jz).bw nw);replace R3:=R3.bw nw;replace X4:=X4.bw nw;replace Y4:=Y4.bw nw;replace Z3:=zC ((zA Z3).bw nw);replace ai:=zC ((zA ai).bw nw);replace j6:=zB j6 nw;clear nw;have lX9:=X4.lt;have lY9:=Y4.lt;have lS9:=S9.lt;have lRR:=R3.lt;have nb:=zC (show ∀ w',Below V9.heap.size V9 w'->(cK w' w9.heap.size v (nK w' w.heap.size x (nK0 w' (w.heap.size+1) y))) from λ w' hB=>⟨(S9.bw hB).c0,(S9.bw hB).c1,(S9.bw hB).c2,(S9.bw hB).c3,(S9.bw hB).c4,(X4.bw hB).c0,(X4.bw hB).c1,(Y4.bw hB).c0,(Y4.bw hB).c1⟩)
  have D8:Below V9.heap.size V9 V9.drew:=(Below.refl _ _).drew;go_wp2_with fail;rw[<- wy];clear wy;obtain⟨x0,x1,x2,x3,x4,x5,x6,x7,x8⟩:=zA nb _ (Below.refl _ _);have Bw:w.heap.size+1+1≠w9.heap.size:=by omega
  have oV:w.heap.size+1+1≠w.heap.size+1:=by omega
  have DE:w.heap.size+1+1≠w.heap.size:=by omega
  go_region_held3 (λ w'=>cK w' w9.heap.size v (nK w' w.heap.size x (nK0 w' (w.heap.size+1) y))) (first|exact zA nb _ (by with_reducible first|exact D8|exact CQ|exact FD|exact FC|exact fq|exact J0|exact G6|exact A6|exact y9)|(dsimp only[cK,cK0,nK,nK0,rK,rK0];go_keep)|go_keep)
   (first
    | (go_at_call 141;have hq:=FD;refine (zCH _ f7 _ b _ _ Gs (zA F7) (by omega) (by omega) (by omega)).mono ?_;rintro r g8 ⟨f8,rfl,Ay,Gt,Vw⟩;have F8:=zC Ay;clear Ay;have CQ:=zB FD Vw;obtain⟨q0,q1,q2,q3,q4,q5⟩:=R3.bw CQ;obtain⟨i0,i1,i2,i3,i4,i5,i6,i7,i8⟩:=zA nb _ CQ)
    | (go_at_call 162;have hq:=FC;refine (zC5 _ f1 f6 2008 b _ _ _ _ ((iO.bw (zB dG (zB mE (zB rP (zB AD NH))))).mono (by omega)) Gr (by omega) (by omega) (zA F1) (zA Re) (zA vF).1 (zA vF).2).mono ?_;rintro r g7 ⟨f7,rfl,Ax,Gs,Vv⟩;have F7:=zC Ax;clear Ax;have FD:=zB FC Vv)
    | (go_at_call 124;have hq:=fq;refine (zIQ _ f3 f5 1000 b (erP b N5 N9) (erX n d b t N) (iQ.bw (zB rP AD)) mC (by omega) (zA F3) (by omega)).mono ?_;rintro r g6 ⟨f6,rfl,Gq,Gr,NH⟩;clear Gq;have FC:=zB fq NH)
    | (go_at_call 77;have hq:=J0;refine (zB3 _ f4 1000 b t N (ofI n d b) l fw (zA F4) (zA EC) (by omega) (by omega) (zA Hl) (zA EH) (by omega) (zA Qq) (zA HN) (zA Ej) (by omega)).mono ?_;rintro r g5 ⟨f5,rfl,mA,mC,AD⟩;clear mA;have fq:=zB J0 AD)
    | (go_at_call 88;have hq:=G6;refine (jL _ _ _ _ _ _ _ _ 8 8 b n d _ ((zA Z3).bw G6) ((zA ai).bw G6) (by omega) (by omega) d0).mono ?_;rintro r g4 ⟨f4,rfl,bG,nX,rP⟩;have fw:=nX.mono (show 8+b/16+20<=1000 by omega);have F4:=zC bG;clear bG nX;have J0:=zB G6 rP)
    | (go_at_call 197;have hq:=A6;refine (zEY _ f2 1008 b _ _ iP (by omega) (by omega) (zA F2)).mono ?_;rintro r g3 ⟨f3,rfl,dD,nT,mE⟩;have iQ:=SpAt.fits (K:=1000) (show SpAt g3 f3 _ (erP b N5 N9).1 (erP b N5 N9).2 from nT) (zA pk).1 (zA pk).2.1 (zA pk).2.2;have F3:=zC dD;clear dD nT;have G6:=zB A6 mE)
    | (go_at_call 199;have hq:=y9;refine (pi_iv _ b N5 N9 1000 (by omega) (by omega) (zA H5) (zA H9) (zA kf) (by omega)).mono ?_;rintro r g2 ⟨f2,rfl,dB,iP,dG⟩;have F2:=zC dB;clear dB;have A6:=zB y9 dG)
    | (go_at_call 156;refine (zDA _ v 1003 b 2 _ ((zA jz).bw D8) (by omega) (zA CA) (by omega) (by omega)).mono ?_;rintro r g1 ⟨f1,rfl,dA,iO,aj⟩;have F1:=zC dA;clear dA;have y9:=zB D8 aj))
  all_goals
   go_wp2_with fail;refine bodyPost_ret (v:=.agg f8.q) (by simp[results,Tryz.results178,go_sem,q0,q1,q2,q3,q4]) rfl ⟨f8,rfl,zA F8,?_,?_⟩
   ·have hz:=SpAt.put5 Gt q0 q1 q2 q3 q4 (.bool f8.ln) (.slice f8.la f8.lN f8.lc) (.bool f8.hn) (.slice f8.ha f8.hN f8.hc) (.int .i64 f8.bits)
    rw[zE7] at hz;exact hz.mono (by omega)
   ·exact kM (zB j6 CQ) (by omega) _ _ _ _ _
def zA3 (B:Nat) (a:Int × Int):Int × Int:=(Q B-a.2,Q B-a.1)
theorem sq_bd {p:Int} (h1 : -1048576<=p) (h2:p<=1048576):0<=p*p/\p*p<=1099511627776:=by
 refine⟨?_,?_⟩
 ·rcases Int.le_total 0 p with h|h
  ·exact Yl h h
  ·have:=Yl (show 0 <= -p by omega) (show 0 <= -p by omega)
   have e : -p * -p=p*p:=by grind
   omega
 ·have:=yJ h1 h2 h1 h2
  omega
theorem one_z {b:Nat} (z:Int) (hz:z=(b:Int)) (w:World) (hb:b<=1000000):Calls Tryz.prog 93 #[.int .i64 z] w (zL w b (b/16+24) (1*Q b/1) (-(-(1*Q b)/1))):=by
 subst hz;exact zCX w b hb
theorem zEJ (w:World) (s:Sp) (k b:Nat) (a:Int × Int) (hs:SpAt w s k a.1 a.2) (hbits:s.bits=(b:Int)) (hb:b<=100000) (dH:b/16+24<=k) (hk:k<=100000000) :
  Calls Tryz.prog 48 #[.agg s.q] w (zL w b (k+1) (zA3 b a).1 (zA3 b a).2):=by
 obtain⟨W,hW⟩:∃ W,W=(w.alloc (.cells s.q 31)).alloc (.cells zCq 31):=⟨_,rfl⟩;have j6:Below w.heap.size w W:=by rw[hW];exact bl2 _ _ _
 have A:SpC W w.heap.size s:=by rw[hW];constructor<;>simp[go_sem]
 have R:NoC W (w.heap.size+1):=by rw[hW];constructor<;>simp[go_sem]
 have HS:=zC (hs.bw j6);have HB:=zC hbits;have lA:=A.lt;have lR:=R.lt;have HO:=zC (show (1*Q b/1,-(-(1*Q b)/1))=(Q b,Q b) by rw[Int.ediv_one,Int.ediv_one];simp)
 have D9:Below W.heap.size W W.drew:=(Below.refl _ _).drew;have HK:=zC (show ∀ w',Below W.heap.size W w'->(cK0 w' w.heap.size s) from λ w' hB=>⟨(A.bw hB).c0,(A.bw hB).c1,(A.bw hB).c2,(A.bw hB).c3,(A.bw hB).c4⟩)
 clear hs hbits
 go_enter Tryz.func48,Tryz.ntmps48
 go_wp2;rw[<- hW];clear hW;obtain⟨x0,x1,x2,x3,x4⟩:=A
 go_region_held3 (λ w'=>cK0 w' w.heap.size s) (first|exact zA HK _ (by with_reducible first|exact D9|exact A7|exact C9)|(dsimp only[cK,cK0,nK,nK0,rK,rK0];go_keep)|go_keep)
  (first
   | (go_at_call 92;have hq:=C9;refine (zGR _ v1 s k b (1*Q b/1,-(-(1*Q b)/1)) a (O8.mono dH) ((zA HS).bw C9) (by omega) (zA HV)).mono ?_;rintro r w2 ⟨t,rfl,G8,K4,j5⟩;have HT:=zC G8;clear G8;have A7:=zB C9 j5;obtain⟨q0,q1,q2,q3,q4,q5⟩:=R.bw A7;obtain⟨i0,i1,i2,i3,i4⟩:=zA HK _ A7)
   | (go_at_call 93;refine (one_z _ (zA HB) _ (by omega)).mono ?_;rintro r w1 ⟨v1,rfl,I3,O8,b9⟩;have HV:=zC I3;clear I3;have C9:=zB D9 b9))
 all_goals
  go_wp2;refine bodyPost_ret (v:=.agg t.q) (by simp[results,Tryz.results48,go_sem,q0,q1,q2,q3,q4]) rfl ⟨t,rfl,zA HT,?_,?_⟩
  ·rw[zA HO] at K4
   exact SpAt.put5 K4 q0 q1 q2 q3 q4 _ _ _ _ _
  ·exact kM (zB j6 A7) (Nat.le_succ _) _ _ _ _ _
open Ex
def absR (p q:Int):Rat:=(if p<0 then -(p:Rat) else (p:Rat))/(q:Rat)
theorem zOD {p q:Int} (hq:0<q):0<=absR p q/\absR p q*absR p q*((q*q:Int):Rat)=((p*p:Int):Rat):=by
 have q0:(0:Rat)<(q:Rat):=by exact_mod_cast hq
 unfold absR;have e:=rdm (a:=(if p<0 then -(p:Rat) else (p:Rat))) q0
 have hn:(0:Rat)<=(if p<0 then -(p:Rat) else (p:Rat)):=by
  split
  ·rename_i h
   have:(p:Rat)<=0:=by exact_mod_cast (show p<=0 by omega)
   grind
  ·rename_i h
   exact_mod_cast (show 0<=p by omega)
 refine⟨jY q0 (by grind),?_⟩
 rw[Ym,Ym];generalize (if p<0 then -(p:Rat) else (p:Rat))/(q:Rat)=z at *
 have:z*z*((q:Rat)*(q:Rat))=(z*(q:Rat))*(z*(q:Rat)):=by grind
 rw[this,e];split<;>grind
theorem zFA {B:Nat} {a:Int × Int} {x:Nat->Rat} (h:Iv B a x):Iv B (zA3 B a) (λ M=>1-x M):=(zGM B).sub h
theorem big_Q {z:Int} {B m:Nat} (hB:B<=120) (h:z<=2*Q (B+m)):z<=P 200*Q m:=by
 have e:Q (B+m)=Q B*Q m:=jI B m;have q:=zF m
 have h1:2*Q B<=P 200:=by
  rw[<- Q_P];have h2:Q (B+1)=2*Q B:=rfl;have:=zK (show B+1<=16*200 by omega)
  omega
 have m1:=Yg h1 (show 0<=Q m by omega)
 have e2:2*Q B*Q m=2*(Q B*Q m):=by grind
 omega
theorem sure_nar {b m:Nat} {lo hi L H:Int} (hle:lo<=hi) (e1:L=lo/Q m) (e2:H = -(-hi/Q m)) (h6:H-L<=1\/zNC L H (Q b) 4=true):L<=H/\zNC L H (Q b) 4=true:=by
 have h7:=zME (m:=m) (Kw:=(hi-lo).toNat) hle (by
  have:∀ k:Nat,(k:Int)<=Q k:=λ k=>by
   induction k with
   | zero=>decide
   | succ k ih=>have e:Q (k+1)=2*Q k:=rfl;have:=zF k;omega
  have:=this (hi-lo).toNat
  omega)
 have h8:L<=H:=by rw[e1,e2];omega
 refine⟨h8,?_⟩
 rcases h6 with h6|h6
 ·exact zC8 h8 (by omega)
 ·exact h6
theorem zPF (n:Nat):LeN (ex (-(n:Rat))) (λ _=>q2 n):=by
 have one:LeN (ex (-1)) (λ _=>1/2):=by
  have ad:=zAZ 1 (-1);rw[show (1:Rat) + -1=0 by decide +kernel] at ad
  obtain⟨N,pos⟩:=zA0 (-1);refine LeN.of_null (ad.bmul (Bdd.const (1/2))) (N+2) λ M hM=>?_
  have p:=pos M (by omega)
  have e1:1+1<=ex 1 M:=zHZ (by grind) (by omega)
  have e0:ex 0 M=1:=by
   obtain⟨m,rfl⟩:∃ m,M=m+1:=⟨M-1,by omega⟩
   exact kV m
  have m1:=Yf e1 p;rw[e0];grind
 induction n with
 | zero =>
  refine LeN.of_le 1 λ M hM=>?_
  have e : -((0:Nat):Rat)=0:=by decide +kernel
  rw[e];obtain⟨m,rfl⟩:∃ m,M=m+1:=⟨M-1,by omega⟩
  rw[show ex 0 (m+1)=1 from kV m]
  show (1:Rat)<=1
  grind
 | succ n ih =>
  have ec:((n+1:Nat):Rat)=(n:Rat)+1:=by push_cast;rfl
  have ad:=zAZ (-(n:Rat)) (-1);rw[show -(n:Rat) + -1 = -((n+1:Nat):Rat) by rw[ec];grind] at ad
  obtain⟨z1,F9,k1⟩:=ih.null;obtain⟨z2,K6,k2⟩:=one.null;obtain⟨N,pos⟩:=zA0 (-1);have b1:=jW (-1);refine LeN.of_null (((F9.bmul b1).add (K6.bmul (Bdd.const (q2 n)))).add ad.neg) N λ M hM=>?_
  have p:=pos M (by omega)
  have q:=kW n;have m1:=Yf (k1 M) p;have m2:=Yd (k2 M) (Yh q);have e2:q2 (n+1)=q2 n/2:=rfl;rw[e2];grind
theorem one_QB (B:Nat):((Q B:Int):Rat)/(Q B:Rat)=1:=by
 have q:=jJ B;rw[Yp,Rat.mul_inv_cancel _ (by grind)]
theorem one_q2:∀ n:Nat,((1:Int):Rat)/(Q n:Rat)=q2 n:=λ n=>by
 induction n with
 | zero=>decide +kernel
 | succ n ih =>
  have e:((Q (n+1):Int):Rat)=2*(Q n:Rat):=by
   have:Q (n+1)=2*Q n:=rfl;rw[this,Ym];rfl
  have qn:=jJ n
  show _=q2 n/2
  rw[<- ih,e,Yp,Yp,Yp,Rat.inv_mul_rev];grind
theorem rt2_ex:∃ R2,zAA (λ _=>(2:Rat)) R2:=zL6 (M0:=0) (λ M _=>by grind) (Bdd.const 2)
theorem half_rt {R2:Nat->Rat} (h:zAA (λ _=>(2:Rat)) R2) {c:Rat} (hc:0<=c):RtOf (c*c/2) (λ M=>c*(R2 M/2)):=by
 refine⟨λ M=>Ye hc (by have:=h.one M;grind),?_⟩
 refine (h.sq.bmul (Bdd.const (c*c/4))).of_eq λ M=>?_
 grind
def nrE (E:Nat->Rat) (p:Int) (M:Nat):Rat:=if 0<p then E M else -E M
def nrV (E:Nat->Rat) (p:Int) (M:Nat):Rat:=(1:Int)/((2:Int):Rat)*(1+nrE E p M)
def ErfN (n d:Int) (B:Nat) (s e:Int):Prop:=∀ (w':World) (x y:Nm),IntAt w' x.neg x.a x.n x.cap 8 n->IntAt w' y.neg y.a y.n y.cap 8 d ->
 Calls Tryz.prog 178 #[.agg x.q,.agg y.q,.int .i64 B] w' (zL w' B 3000 s e)
def nrY (p q:Int):Rat:=((p*p:Int):Rat)/((q*q*2:Int):Rat)
def nrR (R2:Nat->Rat) (p q:Int) (M:Nat):Rat:=absR p q*(R2 M/2)
theorem nrY_eq {p q:Int} (hq:0<q):nrY p q=absR p q*absR p q/2:=by
 have q0:(0:Rat)<((q*q:Int):Rat):=by exact_mod_cast Int.mul_pos hq hq
 have q2:(0:Rat)<((q*q*2:Int):Rat):=by exact_mod_cast (show 0<q*q*2 by have:=Int.mul_pos hq hq;omega)
 have e:=(zOD (p:=p) hq).2;have r:=rdm (a:=((p*p:Int):Rat)) q2;unfold nrY;have e2:((q*q*2:Int):Rat)=((q*q:Int):Rat)*2:=by rw[Ym (q*q) 2];rfl
 have k:absR p q*absR p q/2*((q*q*2:Int):Rat)=((p*p:Int):Rat):=by rw[e2,<- e];grind
 exact Rat.le_antisymm (Rat.le_of_mul_le_mul_right (by rw[r,k];exact Rat.le_refl) q2) (Rat.le_of_mul_le_mul_right (by rw[r,k];exact Rat.le_refl) q2)
theorem nr_rt {R2:Nat->Rat} (h2:zAA (λ _=>(2:Rat)) R2) {p q:Int} (hq:0<q):RtOf (nrY p q) (nrR R2 p q):=by
 rw[nrY_eq hq];exact half_rt h2 (zOD (p:=p) hq).1
theorem sq_pos {p:Int} (hp:p≠0):1<=p*p:=by
 rcases Int.lt_or_gt_of_ne hp with h|h
 ·have:=Int.mul_pos (show 0 < -p by omega) (show 0 < -p by omega)
  have e : -p * -p=p*p:=by grind
  omega
 ·have:=Int.mul_pos h h;omega
def wrok (p q:Int):Prop := -35184372088832<=p/\p<=35184372088832/\1<=q/\q<=137438953472
theorem sq_bw {p K:Int} (h1 : -K<=p) (h2:p<=K):0<=p*p/\p*p<=K*K:=by
 have e : -p * -p=p*p:=by grind
 rcases Int.le_total 0 p with h|h
 ·exact⟨Yl h h,Int.mul_le_mul h2 h2 h (by omega)⟩
 ·rw[<- e];exact⟨Yl (by omega) (by omega),Int.mul_le_mul (by omega) (by omega) (by omega) (by omega)⟩
theorem nor_in {R2:Nat->Rat} (h2:zAA (λ _=>(2:Rat)) R2) {p q:Int} (hr:wrok p q) (h:p*p<152*(q*q*2)):ErIn (p*p) (q*q*2) (nrR R2 p q):=by
 obtain⟨r1,r2,r3,r4⟩:=hr;have q0:0<q*q:=Int.mul_pos (by omega) (by omega)
 have p0:=(sq_bw r1 r2).1;refine⟨p0,by omega,nr_rt h2 (by omega),h,?_⟩
 by_cases hp:p=0
 ·exact Or.inl (by rw[hp];rfl)
 ·refine Or.inr ?_
  have h1:=sq_pos hp;have h2:=(sq_bw (p:=q) (K:=137438953472) (by omega) r4).2
  have e:Q 76=75557863725914323419136:=rfl;rw[e];omega
def NoCore (E:Nat->Rat) (B:Nat) (s e:Int):Prop:=Iv B (s,e) E/\0<=s/\s<=e/\e<=Q B/\e-s<=Q 4500
theorem nor_near {R R2:Nat->Rat} (hR:zAA piS R) (h2:zAA (λ _=>(2:Rat)) R2) {p q:Int} (hr:wrok p q) (h:p*p<152*(q*q*2)) {B:Nat} (hB:40<=B) (A7:B<=10000) (E2:p*p<q*q*2*(B:Int)):∃ s e,ErfN (p*p) (q*q*2) B s e/\NoCore (zJF R (nrY p q) (nrR R2 p q)) B s e:=by
 have I5:=nor_in h2 hr h;obtain⟨M,hM,nM⟩:=erT_set I5 B;obtain⟨l,t,N,e1,e2,e3,e4,e5⟩:=erX_set I5 hB;obtain⟨N5,h5⟩:=zOE (m:=5) (by omega) (show 2<=B by omega)
 obtain⟨N9,h9⟩:=zOE (m:=239) (by omega) (show 2<=B by omega)
 refine⟨_,_,λ w' x y hx hy=>erf_iv w' x y (p*p) (q*q*2) B hx hy hB A7 (nrR R2 p q) M t N N5 N9 l I5 E2 hM nM e1 e2 e3 e4 e5 h5 h9,?_⟩
 exact erf_ok hR I5 hB A7 hM nM e3 e4 e5 h5 h9
theorem nor_farN {p q:Int} {B:Nat} (hB:40<=B) (A7:B<=10000) (h:q*q*2*(B:Int)<=p*p):ErfN (p*p) (q*q*2) B (Q B-1) (Q B):=λ w' x y hx hy =>
 (erf_far w' x y (p*p) (q*q*2) B hx hy hB A7 h).mono λ r J2 ⟨s,e1,e2,e3,e4⟩=>⟨s,e1,e2,e3.mono (by omega),e4⟩
def oppP (p:Int) (a:Int × Int):Int × Int:=if 0<p then (-a.2,-a.1) else a
def zEZ (B:Nat) (p:Int) (a:Int × Int):Int × Int:=zJ (zA3 B (oppP p a)) 1 2
theorem zIS (B:Nat) (p s e:Int):(zEZ B p (s,e)).1=(if 0<p then (Q B+s)/2 else (Q B-e)/2)/\(zEZ B p (s,e)).2=(if 0<p then -(-(Q B+e)/2) else -(-(Q B-s)/2)):=by
 unfold zEZ zJ zA3 oppP
 by_cases hp:0<p
 ·rw[if_pos hp,if_pos hp,if_pos hp]
  simp only[Int.mul_one,Int.sub_neg,and_self]
 ·rw[if_neg hp,if_neg hp,if_neg hp]
  simp only[Int.mul_one,and_self]
theorem norI_ok {B:Nat} {p s e:Int} (h0:0<=s) (h1:s<=e) (h2:e<=Q B) (h3:e-s<=Q 4500):(zEZ B p (s,e)).1<=(zEZ B p (s,e)).2/\0<=(zEZ B p (s,e)).1/\(zEZ B p (s,e)).2<=Q B/\(zEZ B p (s,e)).2-(zEZ B p (s,e)).1<=Q 4500:=by
 obtain⟨e1,e2⟩:=zIS B p s e;have q:=zF B;have q4:4<=Q 4500:=by have:=zK (show 2<=4500 by omega);have:Q 2=4:=rfl;omega
 rw[e1,e2];clear e1 e2;generalize Q 4500=z at *
 by_cases hp:0<p
 ·rw[if_pos hp,if_pos hp];omega
 ·rw[if_neg hp,if_neg hp];omega
theorem norI_iv {B:Nat} {p:Int} {a:Int × Int} {E:Nat->Rat} (h:Iv B a E):Iv B (zEZ B p a) (nrV E p):=by
 unfold zEZ
 have k:Iv B (zA3 B (oppP p a)) (λ M=>1+nrE E p M):=by
  unfold oppP nrE
  by_cases hp:0<p
  ·rw[if_pos hp]
   exact Has.of_eq (zFA h.opp) λ M=>by rw[if_pos hp];grind
  ·rw[if_neg hp]
   exact Has.of_eq (zFA h) λ M=>by rw[if_neg hp];grind
 exact k.scale (n:=1) (d:=2) (by decide) (by decide)
structure NoV (V:Nat->Rat) (b:Nat) (L H:Int):Prop where
 le:L<=H
 lo:0<=L
 hi:H<=Q b
 nar:zNC L H (Q b) 4=true
 val:Iv b (L,H) V
def zK9 (p:Int) (b:Nat):Int × Int:=if 0<p then (Q b-1,Q b) else (0,1)
theorem far_no (p : Int) (b : Nat) : (zK9 p b).1 = (zEZ (b + 32) p (Q (b + 32) - 1, Q (b + 32))).1 / Q 32 ∧ (zK9 p b).2 = -(-(zEZ (b + 32) p (Q (b + 32) - 1, Q (b + 32))).2 / Q 32) := by
  have q := zF 32
  have e : Q (b + 32) = Q b * Q 32 := jI b 32
  obtain ⟨e1, e2⟩ := zIS (b + 32) p (Q (b + 32) - 1) (Q (b + 32))
  rw [e1, e2]
  unfold zK9
  by_cases hp : 0 < p
  · rw [if_pos hp, if_pos hp, if_pos hp]
    have g1 : (Q (b + 32) + (Q (b + 32) - 1)) / 2 = Q (b + 32) - 1 := by omega
    have g2 : -(-(Q (b + 32) + Q (b + 32)) / 2) = Q (b + 32) := by omega
    rw [g1, g2, e]
    have q1 : 1 ≤ Q 32 := q
    refine ⟨?_, ?_⟩
    · show Q b - 1 = (Q b * Q 32 - 1) / Q 32
      have a := Int.le_ediv_of_mul_le q (show (Q b - 1) * Q 32 ≤ Q b * Q 32 - 1 by have : (Q b - 1) * Q 32 = Q b * Q 32 - Q 32 := by grind
                                                                                   omega)
      have c := Int.ediv_lt_of_lt_mul q (show Q b * Q 32 - 1 < Q b * Q 32 by omega)
      omega
    · show Q b = -(-(Q b * Q 32) / Q 32)
      rw [← Int.neg_mul, Int.mul_ediv_cancel _ (by omega)]; omega
  · rw [if_neg hp, if_neg hp, if_neg hp]
    have g1 : (Q (b + 32) - Q (b + 32)) / 2 = 0 := by omega
    have g2 : -(-(Q (b + 32) - (Q (b + 32) - 1)) / 2) = 1 := by omega
    rw [g1, g2]
    refine ⟨by show (0 : Int) = 0 / Q 32; simp, ?_⟩
    show (1 : Int) = -(-1 / Q 32)
    have a := Int.le_ediv_of_mul_le q (show -1 * Q 32 ≤ -1 by omega)
    have c := Int.ediv_lt_of_lt_mul q (show -1 < 0 * Q 32 by omega)
    omega
theorem low_one {R:Nat->Rat} (hR:zAA piS R) {y:Rat} {r:Nat->Rat} (h:RtOf y r) {b:Nat} (hy:(b:Rat)+32<=y):LeN (λ _=>1-q2 b) (zJF R y r):=by
 have y0:=h.y0;obtain⟨k,hk⟩:=kC (2*y+3);obtain⟨s,s0,s1,s2⟩:=root0 y y0 k;have k0:(0:Rat)<(k:Rat)+1:=zAT k;have um:=rdm (a:=1) k0;have u0:(0:Rat)<=1/((k:Rat)+1):=jY k0 (by grind)
 have kk:(0:Rat)<=(k:Rat):=by exact_mod_cast Nat.zero_le k
 obtain⟨u,hu⟩:∃ u,u=1/((k:Rat)+1):=⟨_,rfl⟩;rw[<- hu] at s2 um u0;have u1:u<=1:=by have:=Ye u0 kk;grind
 have st:=zKC s0 s1 u0 u1;have m:=Yf hk.2 u0;have sb:(b:Rat)<=s*s:=by grind
 have low:=erf_low hR s0;have ml:=(zCS (a := -(s*s)) (b := -(b:Rat)) (by grind)).trans (zPF b)
 refine LeN.trans ?_ (low.trans (erfG_ge hR h s0 s1));obtain⟨z,hz,kz⟩:=ml.null;refine LeN.of_null hz 0 λ M _=>?_
 have:=kz M;grind
theorem far_noV {R R2:Nat->Rat} (hR:zAA piS R) (h2:zAA (λ _=>(2:Rat)) R2) {p q:Int} (hq:0<q) {b:Nat} (h:q*q*2*((b:Int)+32)<=p*p):NoV (nrV (zJF R (nrY p q) (nrR R2 p q)) p) b (zK9 p b).1 (zK9 p b).2:=by
 have q0:0<q*q:=Int.mul_pos hq hq
 have yb:(b:Rat)+32<=nrY p q:=by
  have q2:(0:Rat)<((q*q*2:Int):Rat):=by exact_mod_cast (show 0<q*q*2 by omega)
  refine jY q2 ?_;have c:=jG h;rw[Ym,Rat.intCast_add] at c;have e1:((b:Int):Rat)=(b:Rat):=rfl;have e2:((32:Int):Rat)=32:=rfl;rw[e1,e2] at c;grind
 have rt:=nr_rt h2 (p:=p) hq;have lo:=low_one hR rt yb;have one:=zK6 hR rt;have qb:=zF b;have qr:=jJ b
 have f:(zK9 p b).2-(zK9 p b).1=1/\0<=(zK9 p b).1/\(zK9 p b).2<=Q b:=by
  unfold zK9
  by_cases hp:0<p
  ·rw[if_pos hp];exact⟨by simp only[];omega,by simp only[];omega,by simp only[];omega⟩
  ·rw[if_neg hp];exact⟨by simp only[];omega,by simp only[];omega,by simp only[];omega⟩
 refine⟨by omega,f.2.1,f.2.2,zC8 (by omega) (by omega),?_⟩
 have qp:=kW b
 intro e he
 obtain⟨N1,k1⟩:=lo e he;obtain⟨N2,k2⟩:=one e he;refine⟨N1+N2,λ M hM=>?_⟩
 have a1:=k1 M (by omega)
 have a2:=k2 M (by omega)
 simp only[] at a1 a2;have o1:=one_QB b;have o2:=one_q2 b;have e2:((2:Int):Rat)=2:=rfl;have e1:((1:Int):Rat)=1:=rfl;unfold zK9 nrV nrE
 by_cases hp:0<p
 ·rw[if_pos hp,if_pos hp]
  simp only[];rw[Rat.intCast_sub,zHQ,o1,o2,e1,e2];exact⟨by grind,by grind⟩
 ·rw[if_neg hp,if_neg hp]
  simp only[];have z:((0:Int):Rat)/(Q b:Rat)=0:=by rw[Yp];exact Rat.zero_mul _
  rw[z,o2,e1,e2];exact⟨by grind,by grind⟩
end Go.Proofs.YtgmnknmjainabacGreat
namespace Go.Proofs.YtgmnknmjainabacGreat.Ex
def Nn (f:Nat->Rat):Prop:=∃ N:Nat,∀ M,N<=M->0<=f M
theorem Nn.mul {f g:Nat->Rat} (h:Nn f) (k:Nn g):Nn (λ M=>f M*g M):=by
 obtain⟨N1,h1⟩:=h;obtain⟨N2,h2⟩:=k;exact⟨N1+N2,λ M hM=>Ye (h1 M (by omega)) (h2 M (by omega))⟩
theorem Nn.add {f g:Nat->Rat} (h:Nn f) (k:Nn g):Nn (λ M=>f M+g M):=by
 obtain⟨N1,h1⟩:=h;obtain⟨N2,h2⟩:=k;exact⟨N1+N2,λ M hM=>by have:=h1 M (by omega);have:=h2 M (by omega);grind⟩
theorem Nn.const {c:Rat} (h:0<=c):Nn (λ _=>c):=⟨0,λ _ _=>h⟩
theorem zNZ {x:Nat->Rat} (h:Bdd x):Nn (Ev x):=by
 obtain⟨c,c0,N,k⟩:=zBS h;exact⟨N,λ M hM=>Rat.le_trans (Yh c0) (k M hM)⟩
theorem zDC (a:Rat):Nn (ex a):=zNZ (Bdd.const a)
theorem LeN.bmul {f g k:Nat->Rat} (h:LeN f g) (hk:Bdd k) (hn:Nn k):LeN (λ M=>f M*k M) (λ M=>g M*k M):=by
 obtain⟨z,hz,kz⟩:=h.null;obtain⟨N,hN⟩:=hn;refine LeN.of_null (hz.bmul hk) N λ M hM=>?_
 have:=Yf (kz M) (hN M hM);grind
theorem LeN.cmul {f g:Nat->Rat} (h:LeN f g) {c:Rat} (hc:0<=c):LeN (λ M=>c*f M) (λ M=>c*g M):=by
 obtain⟨z,hz,kz⟩:=h.null;refine LeN.of_null (hz.bmul (Bdd.const c)) 0 λ M _=>?_
 have:=Yd (kz M) hc;grind
theorem LeN.of_eqN {f g:Nat->Rat} (h:Null (λ M=>f M-g M)):LeN f g:=h.leN
theorem LeN.mul {f g f' g':Nat->Rat} (h:LeN f g) (h':LeN f' g') (b:Bdd f') (n:Nn f') (b2:Bdd g) (n2:Nn g):LeN (λ M=>f M*f' M) (λ M=>g M*g' M) :=
 (h.bmul b n).trans ((LeN.of_le 0 λ M _=>by show g M*f' M<=f' M*g M;grind).trans ((h'.bmul b2 n2).trans (LeN.of_le 0 λ M _=>by show g' M*g M<=g M*g' M;grind)))
theorem jR {a b c:Rat} (hc:0<c) (h:a*c<=b):a<=b/c:=Rat.le_of_mul_le_mul_right (by rw[rdm hc];exact h) hc
theorem zBB {a b c:Rat} (hc:0<c) (h:a<=b*c):a/c<=b:=Rat.le_of_mul_le_mul_right (by rw[rdm hc];exact h) hc
theorem zY {c a b:Rat} (hc:0<c) (h:c*a=c*b):a=b:=Rat.le_antisymm (Rat.le_of_mul_le_mul_left (by rw[h];exact Rat.le_refl) hc) (Rat.le_of_mul_le_mul_left (by rw[h];exact Rat.le_refl) hc)
def upT (a x:Rat):Nat->Rat
 | 0=>1/a
 | n+1=>x/(a+((n:Rat)+1))*upT a x n
theorem zBC {a:Rat} (ha:0<a) (n:Nat):0<a+((n:Rat)+1):=by have:=zAT n;grind
theorem yR {a:Rat} (ha:0<a) (x:Rat):a*upT a x 0=1:=by
 have:=rdm (a:=1) ha
 show a*(1/a)=1
 grind
theorem jS {a:Rat} (ha:0<a) (x:Rat) (n:Nat):(a+((n:Rat)+1))*upT a x (n+1)=x*upT a x n:=by
 have e:=rdm (a:=x) (zBC ha n)
 show (a+((n:Rat)+1))*(x/(a+((n:Rat)+1))*upT a x n)=_
 have:(a+((n:Rat)+1))*(x/(a+((n:Rat)+1))*upT a x n)=x/(a+((n:Rat)+1))*(a+((n:Rat)+1))*upT a x n:=by grind
 rw[this,e]
theorem kD {a x:Rat} (ha:0<a) (h:0<=x) (n:Nat):0<=upT a x n:=by
 induction n with
 | zero=>exact jR ha (by grind)
 | succ n ih=>exact Ye (jR (zBC ha n) (by grind)) ih
theorem upT_next {a:Rat} (ha:0<a) (x:Rat) (n:Nat):a*upT a x (n+1)=x*upT (a+1) x n:=by
 induction n with
 | zero =>
  have e1:=jS ha x 0;have e2:=yR ha x;have e3:=yR (show 0<a+1 by grind) x
  refine zY (show 0<a+1 by grind) ?_
  have c:((0:Nat):Rat)=0:=rfl;rw[c] at e1;have k1:(a+1)*(a*upT a x (0+1))=a*((a+(0+1))*upT a x (0+1)):=by grind
  have k2:(a+1)*(x*upT (a+1) x 0)=x*((a+1)*upT (a+1) x 0):=by grind
  rw[k1,k2,e1,e3];have k3:a*(x*upT a x 0)=x*(a*upT a x 0):=by grind
  rw[k3,e2]
 | succ n ih =>
  have e1:=jS ha x (n+1);have e2:=jS (show 0<a+1 by grind) x n
  have c:((n+1:Nat):Rat)=(n:Rat)+1:=by push_cast;rfl
  rw[c] at e1;refine zY (show 0<a+((n:Rat)+1+1) by have:=zAT n;grind) ?_
  have k1:(a+((n:Rat)+1+1))*(a*upT a x (n+1+1))=a*((a+((n:Rat)+1+1))*upT a x (n+1+1)):=by grind
  have k2:(a+((n:Rat)+1+1))*(x*upT (a+1) x (n+1))=x*((a+1+((n:Rat)+1))*upT (a+1) x (n+1)):=by grind
  rw[k1,k2,e1,e2,<- ih];grind
def uS (a x:Rat) (M:Nat):Rat:=S (upT a x) M
theorem yK (a x:Rat) (M:Nat):uS a x (M+1)=uS a x M+upT a x M:=rfl
theorem zB1 {a x:Rat} (ha:0<a) (h:0<=x) (M:Nat):0<=uS a x M:=by
 induction M with
 | zero=>show (0:Rat)<=0;grind
 | succ n ih=>have:=kD ha h n;rw[yK];grind
theorem zFD {a x:Rat} (ha:0<a) (h:0<=x) (M:Nat):1/a<=uS a x (M+1):=by
 induction M with
 | zero=>show 1/a<=0+1/a;grind
 | succ n ih=>have:=kD ha h (n+1);rw[yK];grind
theorem uS_next {a:Rat} (ha:0<a) (x:Rat) (M:Nat):a*uS a x (M+1)=1+x*uS (a+1) x M:=by
 induction M with
 | zero =>
  have:=yR ha x
  show a*(0+upT a x 0)=1+x*0
  grind
 | succ n ih =>
  have:=upT_next ha x n;rw[yK a x (n+1),yK (a+1) x n];grind
theorem upT_tan {a x u:Rat} (ha:0<a) (hx:0<=x) (hu : -1<=u) (n:Nat):upT a x n+(n:Rat)*u*upT a x n<=upT a (x*(1+u)) n:=by
 induction n with
 | zero =>
  have c:((0:Nat):Rat)=0:=rfl
  show 1/a+((0:Nat):Rat)*u*(1/a)<=1/a
  rw[c];grind
 | succ n ih =>
  have e1:=jS ha x n;have e2:=jS ha (x*(1+u)) n;have c:((n+1:Nat):Rat)=(n:Rat)+1:=by push_cast;rfl
  have y0:=Ye hx (show 0<=1+u by grind)
  have m:=Yd ih y0;have p:=zBC ha n;refine Rat.le_of_mul_le_mul_left (c:=a+((n:Rat)+1)) ?_ p;rw[e2,c];have k:(a+((n:Rat)+1))*(upT a x (n+1)+((n:Rat)+1)*u*upT a x (n+1))=(1+((n:Rat)+1)*u)*((a+((n:Rat)+1))*upT a x (n+1)):=by grind
  rw[k,e1];have n0:(0:Rat)<=(n:Rat):=by exact_mod_cast Nat.zero_le n
  have q:=Ye (Ye n0 (zN u)) (Ye hx (kD ha hx n));grind
theorem uS_tan {a x u:Rat} (ha:0<a) (hx:0<=x) (hu : -1<=u) (M:Nat):uS a x (M+1)+u*(1+x*uS a x M-a*uS a x (M+1))<=uS a (x*(1+u)) (M+1):=by
 induction M with
 | zero =>
  have e:=yR ha x;have e2:upT a (x*(1+u)) 0=upT a x 0:=rfl
  show 0+upT a x 0+u*(1+x*0-a*(0+upT a x 0))<=0+upT a (x*(1+u)) 0
  rw[e2];have:a*(0+upT a x 0)=1:=by rw[<- e];grind
  rw[this];grind
 | succ n ih =>
  have t:=upT_tan ha hx hu (n+1);have e1:=jS ha x n;have c:((n+1:Nat):Rat)=(n:Rat)+1:=by push_cast;rfl
  rw[c] at t;rw[yK a x (n+1),yK a (x*(1+u)) (n+1)];have e3:uS a x (n+1)=uS a x n+upT a x n:=rfl;have k:((n:Rat)+1)*u*upT a x (n+1)=u*(x*upT a x n)-u*(a*upT a x (n+1)):=by rw[<- e1];grind
  rw[k] at t;rw[e3] at ih ⊢;grind
theorem zR9 {a x y:Rat} (ha:0<a) (hx:0<=x) (O9:x<=y) (M:Nat):uS a x M<=uS a y M:=by
 have t:∀ n,upT a x n<=upT a y n:=by
  intro n
  induction n with
  | zero=>exact Rat.le_refl
  | succ n ih =>
   have e1:=jS ha x n;have e2:=jS ha y n;refine Rat.le_of_mul_le_mul_left (c:=a+((n:Rat)+1)) ?_ (zBC ha n);rw[e1,e2];exact Rat.le_trans (Yd ih hx) (Yf O9 (kD ha (by grind) n))
 induction M with
 | zero=>exact Rat.le_refl
 | succ n ih=>have:=t n;rw[yK,yK];grind
theorem zSC {a x:Rat} (ha:0<a) (hx:0<=x) (n:Nat):a*upT a x n<=tm x n:=by
 induction n with
 | zero=>rw[yR ha];exact Rat.le_refl
 | succ n ih =>
  have e1:=jS ha x n;have e2:=kQ x n;have p:=zAT n;have q:=Ye (Ye (Yh ha) (Yh ha)) (kD ha hx (n+1));refine Rat.le_of_mul_le_mul_left (c:=(n:Rat)+1) ?_ p;have m:=Yd ih hx;have k:((n:Rat)+1)*(a*upT a x (n+1))=a*((a+((n:Rat)+1))*upT a x (n+1))-a*a*upT a x (n+1):=by grind
  rw[k,e1,e2];grind
theorem zHW {a x:Rat} (ha:0<a) (hx:0<=x):Null (upT a x):=by
 obtain⟨K,k0,hK⟩:=zNQ x;have h1:Null (λ M=>K/a*((M:Rat)*q4 M)):=zBP (K/a) (jR ha (by grind))
 refine h1.of_le 1 λ M hM=>?_
 have a1:=zSC ha hx M;have a2:=(hK M).2;have a3:=kD ha hx M;have m1:(1:Rat)<=(M:Rat):=by exact_mod_cast hM
 have q:=kX M;have d:=rdm (a:=K) ha;have m2:=Yd m1 (Ye k0 (Yh q))
 have key:upT a x M<=K/a*((M:Rat)*q4 M):=by
  refine Rat.le_of_mul_le_mul_left (c:=a) ?_ ha;have k:a*(K/a*((M:Rat)*q4 M))=K/a*a*((M:Rat)*q4 M):=by grind
  rw[k,d];grind
 exact⟨by grind,key⟩
theorem zJA {a x:Rat} (ha:0<a) (hx:0<=x):∃ K,0<=K/\∀ M,uS a x M<=K:=by
 obtain⟨K,k0,hK⟩:=zDH x;refine⟨K/a,jR ha (by grind),λ M=>?_⟩
 have h:=(hK M x ⟨by grind,Rat.le_refl⟩).2
 have s:a*uS a x M<=E x M:=by
  induction M with
  | zero=>show a*0<=0;grind
  | succ n ih =>
   have t:=zSC ha hx n;have h':=(hK n x ⟨by grind,Rat.le_refl⟩).2
   have i:=ih h';have e:E x (n+1)=E x n+tm x n:=rfl;rw[yK,e];grind
 refine Rat.le_of_mul_le_mul_left (c:=a) ?_ ha;have d:=rdm (a:=K) ha;grind
theorem zDG {a x:Rat} (ha:0<a) (hx:0<=x):Bdd (uS a x):=by
 obtain⟨K,k0,hK⟩:=zJA ha hx;exact Bdd.of_le K 0 λ M _=>⟨by have:=zB1 ha hx M;grind,hK M⟩
end Go.Proofs.YtgmnknmjainabacGreat.Ex
