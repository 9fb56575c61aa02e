/-
  Its own texts.
-/
import Derived.Test.YtgmnknmjainabacGreatK23
set_option maxRecDepth 100000
set_option maxHeartbeats 40000000
set_option linter.unnecessarySimpa false
set_option linter.unusedSimpArgs false
set_option linter.unusedVariables false
namespace Go.Proofs.YtgmnknmjainabacGreat
open Go.RowKit
attribute [local go_sem ↓] Go.wp_at_zero Go.wp_at_succ
theorem zOJ (ff:Nat) (cs:Array Value) (QY:∀ (args:Array Value) (w:World),(callFunc ff args).run Tryz.prog w=.ok (.enter ff args) w) (bits Kw KD:Nat) (Pr:Nat->Int->Int->Prop) (W:World) (hb:bits<=120) (QF:Kw<=900000) (Cr:KD<=100000000) (hE:zFL bits Kw Pr)
  (hF:∀ (m:Nat) w',32<=m->m<=Kw+120->Below W.heap.size W w'->Calls Tryz.prog ff (#[.int .i64 ((bits:Int)+m)] ++ cs) w' (λ r T4=>∃ lo hi,Pr (bits+m) lo hi/\zH w' ((bits:Int)+m) KD lo hi r T4)) :
  Calls Tryz.prog 55 #[.int .i64 bits,.func (.func ff) #[] cs] W (λ r w'=>∃ L H,zFZ bits Pr L H/\zH W bits 250 L H r w'):=by
 have HF:=zC hF;have HE:=zC hE;clear hF hE;have zr:=zQ W 31
 go_enter Tryz.func55,Tryz.ntmps55
 go_wp2_with fail
 go_loopw [5,6] (λ mm tt wr=>∃ m t:Nat,mm=.int .i64 (m:Int)/\tt=.int .i64 (t:Int)/\SureInv Kw m t/\NoC wr W.heap.size/\Below W.heap.size W wr) (λ mm _ _=>Kw+200-(intOf mm).toNat)
 case atStart=>exact⟨32,1,rfl,rfl,⟨Yy _,Yy _,by omega,Or.inl ⟨by omega,by omega⟩⟩,zr,bl1 _ _⟩
 case round =>
  obtain⟨m,t,rfl,rfl,hinv,R,hB⟩:=hrel;obtain⟨hm,ht,htm,Rl⟩:=hinv;have hmK:m<=Kw+120:=by omega
  have HI:=zC Rl;clear Rl;go_wp2_with fail;refine (zA HF m _ hm hmK hB).mono ?_;rintro r w1 ⟨lo,hi,Jt,s,rfl,aV,bl,b9⟩;replace R:=R.bw b9;replace hB:=zB hB b9;clear b9;obtain⟨e1,e2,e3,e4⟩:=zA HE m lo hi Jt;obtain⟨v1,v2,v3⟩:=zOL (m:=m) e1 e2;obtain⟨f1,f2⟩:=to_fit e3 e4;have Ph:=zC Jt;have HV:=zC (And.intro v2 v3);have mL:0<=s.bits:=by omega
  have hs1:s.bits<=1000000:=by omega
  have d1:zA5 lo (s.bits-bits)=lo/Q m:=by unfold zA5;rw[aV,if_pos (by omega)];congr 2;omega
  have d2:zA5 (-hi) (s.bits-bits) = -hi/Q m:=by unfold zA5;rw[aV,if_pos (by omega)];congr 2;omega
  have AK:=zC d1;have AL:=zC d2;clear Jt e1 e2 e3 e4 v2 v3 d1 d2 aV;go_wp2_with fail;refine (zHQ _ s KD bits lo hi bl (by omega) mL hs1 (by omega) (by omega)).mono ?_
  rintro r w2 ⟨u,rfl,B8,B7,j8⟩;rw[zA AK,zA AL] at B7;obtain⟨L,hL⟩:∃ L,L=lo/Q m:=⟨_,rfl⟩;obtain⟨H,hH⟩:∃ H,H = -(-hi/Q m):=⟨_,rfl⟩;rw[<- hL,<- hH] at B7 v1;rw[<- hL] at f1;rw[<- hH] at f2;have dM:=zC (show (Kw<=m->H-L<=2)/\(m<=Kw->H-L<=Q (Kw-m)+1) by rw[hL,hH];exact zA HV)
  have HL:=zC hL;have HH:=zC hH;replace B7:=B7.fits (K:=250) (by omega) f1 f2
  replace R:=R.bw j8;replace hB:=zB hB j8;have G8:=zC B8;clear j8 hL hH B8 mL hs1 AK AL HV bl;have lR:=R.lt;obtain⟨V,hV⟩:∃ V,V=w2.alloc (.cells u.q 31):=⟨_,rfl⟩;have bV:Below w2.heap.size w2 V:=by rw[hV];exact bl1 _ _
  have U:SpC V w2.heap.size u:=by rw[hV];exact⟨by simp,by simp,by simp,by simp,by simp⟩
  replace R:=R.bw bV;replace hB:=zB hB bV;replace B7:=B7.bw bV;clear bV;go_wp2_with fail;rw[<- hV];clear hV;refine (zBP _ _ _ _ _ _ _ _ 250 250 H L _ B7.hi B7.lo (by omega) (by omega)).mono ?_
  rintro r w3 ⟨B9,a3,n3,c3,rfl,E7,m8⟩;replace U:=U.bw m8;replace R:=R.bw m8;replace hB:=zB hB m8;replace B7:=B7.bw m8;clear m8;go_wp2_with fail;refine (zD2 _ _ _ _ _ (H-L) _ E7 v1).mono ?_;rintro r w4 ⟨l,hlen,rfl,p9⟩;replace U:=U.bw p9;replace R:=R.bw p9;replace hB:=zB hB p9;replace B7:=B7.bw p9;clear p9 E7
  have Rh:0<=l/\l<=Kw+2/\(m<=Kw->l<=Kw-m+2)/\(Kw<=m->l<=2):=by
   obtain⟨g1,g2⟩:=zA dM;refine⟨hlen.1,?_,λ h=>?_,λ h=>?_⟩
   ·rcases Nat.le_total m Kw with h|h
    ·have:=zSN (K:=Kw-m) hlen (g2 h) v1;omega
    ·have:=zSQ hlen (g1 h) v1;omega
   ·have:=zSN (K:=Kw-m) hlen (g2 h) v1;omega
   ·exact zSQ hlen (g1 h) v1
  obtain⟨ph,K8,M8,vJ⟩:=Rh;have GP:=zC (And.intro M8 vJ);have GR:=zC hlen;clear M8 vJ hlen;have lU:=U.lt;have Z6:=R.lt;have nRU:W.heap.size≠w2.heap.size:=by omega
  have Lq:w2.heap.size≠W.heap.size:=by omega
  have HU:=zC U;obtain⟨x0,x1,x2,x3,x4⟩:=U
  by_cases hc:l<=1
  ·have hN:=R
   obtain⟨q0,q1,q2,q3,q4,q5⟩:=R;have Hc:=zC hc;go_wp2_with fail;refine bodyPost_ret (v:=.agg u.q) (by simp[results,Tryz.results55,go_sem,q0,q1,q2,q3,q4]) rfl ⟨L,H,⟨m,lo,hi,zA Ph,hm,zA HL,zA HH,Or.inl (zSP (zA GR) (zA Hc) v1)⟩,u,rfl,zA G8,?_,?_⟩
   ·exact SpAt.put5 B7 q0 q1 q2 q3 q4 _ _ _ _ _
   ·exact jV hB (Yy _) _ _ _ _ _
  ·by_cases ht3:3<=t
   ·have KM:(3:Int)<=(t:Int):=by omega
    cases hn:zL4 L H (Q bits) 4
    ·have hmK2:m<Kw:=by
      refine Nat.lt_of_not_le λ h=>?_
      have h5:=(zA dM).1 h;rw[zDP (by omega) (by omega)] at hn
      cases hn
     go_wp2_with fail;refine (zHG _ u bits 4 L H B7 (zA G8) hb (by omega)).mono ?_
     rintro r w5 ⟨rfl,D8⟩;rw[show zL4 L H (Q bits) ((4:Nat):Int)=false from hn]
     replace R:=R.bw D8;replace hB:=zB hB D8;go_wp2_with fail
     go_roundw
     case rel=>exact⟨m+l.toNat+32,t+1,by congr 1;omega,by congr 1,⟨by omega,by omega,by omega,Or.inr (by have:=(zA GP).1;omega)⟩,R,hB⟩
     case measure=>simp[intOf];omega
    ·go_wp2_with fail
     refine (zHG _ u bits 4 L H B7 (zA G8) hb (by omega)).mono ?_
     rintro r w5 ⟨rfl,D8⟩;rw[show zL4 L H (Q bits) ((4:Nat):Int)=true from hn]
     replace R:=R.bw D8;replace hB:=zB hB D8;replace B7:=B7.bw D8;obtain⟨y0,y1,y2,y3,y4⟩:=(zA HU).bw D8;obtain⟨q0,q1,q2,q3,q4,q5⟩:=R;have lU2:=YB lU D8.size;have iE:=YB Z6 D8.size;clear D8 x0 x1 x2 x3 x4;go_wp2_with fail;refine bodyPost_ret (v:=.agg u.q) (by simp[results,Tryz.results55,go_sem,q0,q1,q2,q3,q4]) rfl ⟨L,H,⟨m,lo,hi,zA Ph,hm,zA HL,zA HH,Or.inr hn⟩,u,rfl,zA G8,?_,?_⟩
     ·exact SpAt.put5 B7 q0 q1 q2 q3 q4 _ _ _ _ _
     ·exact jV hB (Yy _) _ _ _ _ _
   ·have KM:¬ (3:Int)<=(t:Int):=by omega
    go_wp2_with fail
    go_roundw
    case rel=>exact⟨m+l.toNat+32,t+1,by congr 1;omega,by congr 1,⟨by omega,by omega,by omega,by
     have g1:=(zA GP).1;have g2:=(zA GP).2;have g3:=zA HI
     rcases Nat.le_total m Kw with h|h
     ·have:=g1 h;exact Or.inr (by omega)
     ·have:=g2 h;exact Or.inl ⟨by omega,by omega⟩⟩,R,hB⟩
    case measure=>simp[intOf];omega
theorem zO9 (args:Array Value) (w:World):(callFunc 90 args).run Tryz.prog w=.ok (.enter 90 args) w:=by simp[go_sem,callFunc,Tryz.func90];kernel_rfl
theorem en_mass (args:Array Value) (w:World):(callFunc 56 args).run Tryz.prog w=.ok (.enter 56 args) w:=by simp[go_sem,callFunc,Tryz.func56];kernel_rfl
theorem NoC.off2 {w:World} {B B':Nat} (h:NoC w B) (hne:B≠B') (u0 u1:Value):NoC ((w.setCell ⟨B',0,none⟩ u0).setCell ⟨B',1,none⟩ u1) B:=by
 obtain⟨q0,q1,q2,q3,q4,q5⟩:=h;exact⟨by simp[go_sem,q0,hne,Ne.symm hne],by simp[go_sem,q1,hne,Ne.symm hne],by simp[go_sem,q2,hne,Ne.symm hne],by simp[go_sem,q3,hne,Ne.symm hne],by simp[go_sem,q4,hne,Ne.symm hne],zAA q5 _ _⟩
def zDT (f:Nat->Int):Nat->Int
 | 0=>0
 | i+1=>zDT f i+f i
def zEO (p r s:Int) (n:Nat):Int:=wayF (r ^ n*(s-r) ^ (p.toNat-n)) (p-n) n
theorem zRM (k q r s last:Int) (P M b:Nat) (w:World) (hM:(min last (P:Int)+1).toNat=M) (ph : -1000000000<=last) (hl:last<=1000000000) (hp:P<=100) (hr:0<=r) (hs:r<=s) (hs1:1<=s) (X7:s<=1024) (hb:b<=1000000) :
  Calls Tryz.prog 136 #[.agg #[.int .i64 k,.int .i64 (P:Int),.int .i64 q,.int .i64 r,.int .i64 s],.int .i64 last,.int .i64 b] w (zH w b (b/16+5000) (zDT (zEO P r s) M*Q b/s ^ P) (-(-(zDT (zEO P r s) M*Q b)/s ^ P))):=by
 have hMp:M<=P+1:=by omega
 have P1:0<s ^ P:=Int.pow_pos (by omega)
 go_enter Tryz.func136,Tryz.ntmps136
 go_wp2_with fail;refine (zD 0 _ (by decide) (by decide)).mono ?_
 rintro r' w1 ⟨m7,a1,n1,c1,rfl,o8,b9⟩;have L:LwC w1 w.heap.size k P q r s:=((kX w k P q r s _).bw (bl1 _ _)).bw b9;have hR:NoC w1 (w.heap.size+1):=NoC.bw ⟨by simp[go_sem],by simp[go_sem],by simp[go_sem],by simp[go_sem],by simp[go_sem],λ o=>by simp[go_sem]⟩ b9
 have A7:Below w.heap.size w w1:=zB (bl2 _ _ _) b9;clear b9;have lL:=L.lt;have lR:=hR.lt;obtain⟨i0,i1,i2,i3,i4⟩:=L;have HM:=zC hM;go_wp2_with fail
 all_goals
  have hmin:(min last (P:Int)+1).toNat=M:=zA HM
  go_loopw [16,8] (λ ii nn wr=>∃ (i:Nat) (X:Nm),ii=.int .i64 (i:Int)/\i<=M/\NmC wr w1.heap.size X/\(∀ o,wr.frozen? ⟨w1.heap.size,o,none⟩=false)/\IntAt wr X.neg X.a X.n X.cap (4+2500+i) (zDT (zEO P r s) i)/\LwC wr w.heap.size k P q r s/\NoC wr (w.heap.size+1)/\Below w.heap.size w wr) (λ ii _ _=>M-(intOf ii).toNat)
  case atStart=>exact⟨0,⟨m7,a1,n1,c1⟩,rfl,Nat.zero_le _,⟨by simp[go_sem],by simp[go_sem]⟩,λ o=>by simp[go_sem],(o8.bw (bl1 _ _)).mono (by omega),LwC.bw ⟨i0,i1,i2,i3,i4⟩ (bl1 _ _),hR.bw (bl1 _ _),zL A7 _⟩
  case round =>
   obtain⟨i,X,rfl,hi,hX,hF,hint,L,R,hB⟩:=hrel;have lX:=hX.lt
   by_cases I6:i<M
   ·have mB:(i:Int)<min last (P:Int)+1:=by omega
    try have Ke:(i:Int)<last+1:=by omega
    try have Kf:(i:Int)<(P:Int)+1:=by omega
    have hint:=zC hint;have HL:=zC L;have HX:=zC hX;have lL2:=L.lt;obtain⟨l0,l1,l2,l3,l4⟩:=L;obtain⟨x0,x1⟩:=hX;go_wp2_with fail
    go_region_with
     (first
      | (go_at_call 32;have hq:=y9;refine (zA3 _ _ _ _ _ _ _ _ (4+2500+i) 2504 (zDT (zEO P r s) i) (zEO P r s i) _ ((zA hint).bw y9) (JB.mono (by omega)) (by omega) (by omega)).mono ?_;rintro r' w3 ⟨B9,a3,n3,c3,rfl,E7,m8⟩;have s9:=zB y9 m8;have Ld:=s9.size;obtain⟨z0,z1⟩:=(zA HX).bw s9;have F4:∀ o,w3.frozen? ⟨w1.heap.size,o,none⟩=false:=λ o=>(s9.frozen (p:=⟨w1.heap.size,o,none⟩) lX).trans (hF o))
      | (go_at_call 101;refine (zOQ k P q r s i _ (by omega) (by omega) hr hs X7).mono ?_;rintro r' w2 ⟨j7,a2,n2,c2,rfl,JB,j8⟩;have y9:Below wr.heap.size wr w2:=zB (by repeat' (first|with_reducible exact Below.refl _ _|with_reducible refine Below.drew ?_)) j8;obtain⟨d0,d1⟩:=(zA HX).bw y9))
    all_goals
     go_wp2_with fail
     go_roundw
     case rel =>
      exact⟨i+1,⟨B9,a3,n3,c3⟩,by go_num,by omega,zDG (z:=X) ⟨z0,z1⟩ ⟨B9,a3,n3,c3⟩,zAA F4 _ _,(E7.put2 z0 z1 _ _).mono (by omega),((zA HL).bw s9).off (by omega) _ _,(R.bw s9).off2 (by omega) _ _,zE2 (zB hB s9) (by omega) _ _⟩
     case measure=>simp[intOf];omega
   ·have mB:¬ (i:Int)<min last (P:Int)+1:=by omega
    try have Ke:¬ (i:Int)<last+1:=by omega
    try have Kf:¬ (i:Int)<(P:Int)+1:=by omega
    have ie:i=M:=by omega
    subst ie;have hint:=zC hint;have Z7:=zC (show ∀ w',Below wr.heap.size wr w'->(w'.cell? ⟨w.heap.size,1,none⟩=some (.int .i64 (P:Int))/\w'.cell? ⟨w.heap.size,4,none⟩=some (.int .i64 s)/\nK0 w' w1.heap.size X) from λ w' hB=>⟨(L.bw hB).c1,(L.bw hB).c4,(hX.bw hB).c0,(hX.bw hB).c1⟩)
    have lL2:=L.lt;have Z6:=R.lt;obtain⟨l1,l4,x0,x1⟩:=zA Z7 _ (Below.refl _ _);have D5:Below wr.heap.size wr wr.drew:=(Below.refl _ _).drew;have nE:w1.heap.size≠w.heap.size+1:=by omega
    have nE':w.heap.size+1≠w1.heap.size:=by omega
    go_wp2_with fail
    go_region_held3 (λ w'=>w'.cell? ⟨w.heap.size,1,none⟩=some (.int .i64 (P:Int))/\w'.cell? ⟨w.heap.size,4,none⟩=some (.int .i64 s)/\nK0 w' w1.heap.size X) (first|exact zA Z7 _ (by with_reducible first|exact D5|exact s9|exact y9)|(dsimp only[cK,cK0,nK,nK0,rK,rK0];go_keep)|go_keep)
     (first
      | (go_at_call 88;have hq:=y9;refine (jI _ _ _ _ _ _ _ _ (4+2500+i) (4*P+4) b (zDT (zEO P r s) i) (s ^ P) _ ((zA hint).bw y9) A5 (by omega) hb P1).mono ?_;rintro r' w3 ⟨u,rfl,B8,B7,m8⟩;have s9:=zB y9 m8;obtain⟨q0,q1,q2,q3,q4,q5⟩:=R.bw s9;have G8:=zC B8;clear B8;obtain⟨e0,e1,e2,e3⟩:=zA Z7 _ s9)
      | (go_at_call 102;refine (zBI s P _ (by omega) (by omega) (by omega)).mono ?_;rintro r' w2 ⟨j7,a2,n2,c2,rfl,A5,j8⟩;have y9:=zB D5 j8))
    all_goals
     go_wp2_with fail;refine bodyPost_ret (v:=.agg u.q) (by simp[results,Tryz.results136,go_sem,q0,q1,q2,q3,q4]) rfl ⟨u,rfl,zA G8,?_,?_⟩
     ·exact SpAt.put5 (B7.mono (by omega)) q0 q1 q2 q3 q4 _ _ _ _ _
     ·exact jV (zB hB s9) (Nat.le_succ _) _ _ _ _ _
def zTB (k p q r s n b:Int):Int :=
 if kT k p q r s≠0 then kT k p q r s else if k<6 then 6 else if b<8\/120<b\/n < -1048576\/1048576<n then 3 else if k=7/\100<n then 2 else 0
theorem law_k {k p q r s:Int} (h:kT k p q r s=0):1<=k/\k<=7:=by
 unfold kT at h;split at h
 ·omega
 ·omega
theorem zIK (k p q r s n b:Int) (w:World) (h0:kT k p q r s≠0) :
  Calls Tryz.prog 54 #[.agg #[.int .i64 k,.int .i64 p,.int .i64 q,.int .i64 r,.int .i64 s],.int .i64 n,.int .i64 b] w λ z w'=>z=.returned (.int .i64 (kT k p q r s))/\Below w.heap.size w w':=by
 go_enter Tryz.func54,Tryz.ntmps54
 go_wp2_with fail;refine (jO k p q r s _).mono ?_;rintro r' w1 ⟨rfl,b9⟩;have h1:(kT k p q r s != 0)=true:=by simpa using h0
 go_wp2_with fail
 go_ret
 exact⟨rfl,zB (bl1 _ _) b9⟩
theorem zGX (k p q r s n b:Int) (w:World) (h0:kT k p q r s=0) (hk:k<6) :
  Calls Tryz.prog 54 #[.agg #[.int .i64 k,.int .i64 p,.int .i64 q,.int .i64 r,.int .i64 s],.int .i64 n,.int .i64 b] w λ z w'=>z=.returned (.int .i64 6)/\Below w.heap.size w w':=by
 obtain⟨k1,k7⟩:=law_k h0;have g1:(k != 6)=true:=by simpa using (show ¬ k=6 by omega)
 have g2:(k != 7)=true:=by simpa using (show ¬ k=7 by omega)
 go_enter Tryz.func54,Tryz.ntmps54
 go_wp2_with fail;refine (jO k p q r s _).mono ?_;rintro r' w1 ⟨rfl,b9⟩;have C:LwC w1 w.heap.size k p q r s:=(kX w k p q r s _).bw b9;have hB:Below w.heap.size w w1:=zB (bl1 _ _) b9;have lC:=C.lt;obtain⟨x0,x1,x2,x3,x4⟩:=C;clear b9;rw[h0];clear h0;go_wp2_with fail
 go_ret
 exact⟨rfl,hB⟩
theorem zIN (p q r s n b:Int) (w:World) (h0:kT 6 p q r s=0) (h:b<8) :
  Calls Tryz.prog 54 #[.agg #[.int .i64 6,.int .i64 p,.int .i64 q,.int .i64 r,.int .i64 s],.int .i64 n,.int .i64 b] w λ z w'=>z=.returned (.int .i64 3)/\Below w.heap.size w w':=by
 go_enter Tryz.func54,Tryz.ntmps54
 go_wp2_with fail;refine (jO 6 p q r s _).mono ?_;rintro r' w1 ⟨rfl,b9⟩;have C:LwC w1 w.heap.size 6 p q r s:=(kX w 6 p q r s _).bw b9;have hB:Below w.heap.size w w1:=zB (bl1 _ _) b9;have lC:=C.lt;obtain⟨x0,x1,x2,x3,x4⟩:=C;clear b9;rw[h0];clear h0;go_wp2_with fail
 go_ret
 exact⟨rfl,hB⟩
theorem zIO (p q r s n b:Int) (w:World) (h0:kT 6 p q r s=0) (h1:¬ b<8) (h:120<b) :
  Calls Tryz.prog 54 #[.agg #[.int .i64 6,.int .i64 p,.int .i64 q,.int .i64 r,.int .i64 s],.int .i64 n,.int .i64 b] w λ z w'=>z=.returned (.int .i64 3)/\Below w.heap.size w w':=by
 go_enter Tryz.func54,Tryz.ntmps54
 go_wp2_with fail;refine (jO 6 p q r s _).mono ?_;rintro r' w1 ⟨rfl,b9⟩;have C:LwC w1 w.heap.size 6 p q r s:=(kX w 6 p q r s _).bw b9;have hB:Below w.heap.size w w1:=zB (bl1 _ _) b9;have lC:=C.lt;obtain⟨x0,x1,x2,x3,x4⟩:=C;clear b9;rw[h0];clear h0;go_wp2_with fail
 go_ret
 exact⟨rfl,hB⟩
theorem zIP (p q r s n b:Int) (w:World) (h0:kT 6 p q r s=0) (h1:¬ b<8) (h2:¬ 120<b) (h:n < -1048576) :
  Calls Tryz.prog 54 #[.agg #[.int .i64 6,.int .i64 p,.int .i64 q,.int .i64 r,.int .i64 s],.int .i64 n,.int .i64 b] w λ z w'=>z=.returned (.int .i64 3)/\Below w.heap.size w w':=by
 go_enter Tryz.func54,Tryz.ntmps54
 go_wp2_with fail;refine (jO 6 p q r s _).mono ?_;rintro r' w1 ⟨rfl,b9⟩;have C:LwC w1 w.heap.size 6 p q r s:=(kX w 6 p q r s _).bw b9;have hB:Below w.heap.size w w1:=zB (bl1 _ _) b9;have lC:=C.lt;obtain⟨x0,x1,x2,x3,x4⟩:=C;clear b9;rw[h0];clear h0;go_wp2_with fail
 go_ret
 exact⟨rfl,hB⟩
theorem zIQ (p q r s n b:Int) (w:World) (h0:kT 6 p q r s=0) (h1:¬ b<8) (h2:¬ 120<b) (h3:¬ n < -1048576) (h:1048576<n) :
  Calls Tryz.prog 54 #[.agg #[.int .i64 6,.int .i64 p,.int .i64 q,.int .i64 r,.int .i64 s],.int .i64 n,.int .i64 b] w λ z w'=>z=.returned (.int .i64 3)/\Below w.heap.size w w':=by
 go_enter Tryz.func54,Tryz.ntmps54
 go_wp2_with fail;refine (jO 6 p q r s _).mono ?_;rintro r' w1 ⟨rfl,b9⟩;have C:LwC w1 w.heap.size 6 p q r s:=(kX w 6 p q r s _).bw b9;have hB:Below w.heap.size w w1:=zB (bl1 _ _) b9;have lC:=C.lt;obtain⟨x0,x1,x2,x3,x4⟩:=C;clear b9;rw[h0];clear h0;go_wp2_with fail
 go_ret
 exact⟨rfl,hB⟩
theorem zIL (p q r s n b:Int) (w:World) (h0:kT 6 p q r s=0) (h1:¬ b<8) (h2:¬ 120<b) (h3:¬ n < -1048576) (h4:¬ 1048576<n) :
  Calls Tryz.prog 54 #[.agg #[.int .i64 6,.int .i64 p,.int .i64 q,.int .i64 r,.int .i64 s],.int .i64 n,.int .i64 b] w λ z w'=>z=.returned (.int .i64 0)/\Below w.heap.size w w':=by
 go_enter Tryz.func54,Tryz.ntmps54
 go_wp2_with fail;refine (jO 6 p q r s _).mono ?_;rintro r' w1 ⟨rfl,b9⟩;have C:LwC w1 w.heap.size 6 p q r s:=(kX w 6 p q r s _).bw b9;have hB:Below w.heap.size w w1:=zB (bl1 _ _) b9;have lC:=C.lt;obtain⟨x0,x1,x2,x3,x4⟩:=C;clear b9;rw[h0];clear h0;go_wp2_with fail
 go_ret
 exact⟨rfl,hB⟩
theorem zIR (p q r s n b:Int) (w:World) (h0:kT 7 p q r s=0) (h:b<8) :
  Calls Tryz.prog 54 #[.agg #[.int .i64 7,.int .i64 p,.int .i64 q,.int .i64 r,.int .i64 s],.int .i64 n,.int .i64 b] w λ z w'=>z=.returned (.int .i64 3)/\Below w.heap.size w w':=by
 go_enter Tryz.func54,Tryz.ntmps54
 go_wp2_with fail;refine (jO 7 p q r s _).mono ?_;rintro r' w1 ⟨rfl,b9⟩;have C:LwC w1 w.heap.size 7 p q r s:=(kX w 7 p q r s _).bw b9;have hB:Below w.heap.size w w1:=zB (bl1 _ _) b9;have lC:=C.lt;obtain⟨x0,x1,x2,x3,x4⟩:=C;clear b9;rw[h0];clear h0;go_wp2_with fail
 go_ret
 exact⟨rfl,hB⟩
theorem zIS (p q r s n b:Int) (w:World) (h0:kT 7 p q r s=0) (h1:¬ b<8) (h:120<b) :
  Calls Tryz.prog 54 #[.agg #[.int .i64 7,.int .i64 p,.int .i64 q,.int .i64 r,.int .i64 s],.int .i64 n,.int .i64 b] w λ z w'=>z=.returned (.int .i64 3)/\Below w.heap.size w w':=by
 go_enter Tryz.func54,Tryz.ntmps54
 go_wp2_with fail;refine (jO 7 p q r s _).mono ?_;rintro r' w1 ⟨rfl,b9⟩;have C:LwC w1 w.heap.size 7 p q r s:=(kX w 7 p q r s _).bw b9;have hB:Below w.heap.size w w1:=zB (bl1 _ _) b9;have lC:=C.lt;obtain⟨x0,x1,x2,x3,x4⟩:=C;clear b9;rw[h0];clear h0;go_wp2_with fail
 go_ret
 exact⟨rfl,hB⟩
theorem zIT (p q r s n b:Int) (w:World) (h0:kT 7 p q r s=0) (h1:¬ b<8) (h2:¬ 120<b) (h:n < -1048576) :
  Calls Tryz.prog 54 #[.agg #[.int .i64 7,.int .i64 p,.int .i64 q,.int .i64 r,.int .i64 s],.int .i64 n,.int .i64 b] w λ z w'=>z=.returned (.int .i64 3)/\Below w.heap.size w w':=by
 go_enter Tryz.func54,Tryz.ntmps54
 go_wp2_with fail;refine (jO 7 p q r s _).mono ?_;rintro r' w1 ⟨rfl,b9⟩;have C:LwC w1 w.heap.size 7 p q r s:=(kX w 7 p q r s _).bw b9;have hB:Below w.heap.size w w1:=zB (bl1 _ _) b9;have lC:=C.lt;obtain⟨x0,x1,x2,x3,x4⟩:=C;clear b9;rw[h0];clear h0;go_wp2_with fail
 go_ret
 exact⟨rfl,hB⟩
theorem zIU (p q r s n b:Int) (w:World) (h0:kT 7 p q r s=0) (h1:¬ b<8) (h2:¬ 120<b) (h3:¬ n < -1048576) (h:1048576<n) :
  Calls Tryz.prog 54 #[.agg #[.int .i64 7,.int .i64 p,.int .i64 q,.int .i64 r,.int .i64 s],.int .i64 n,.int .i64 b] w λ z w'=>z=.returned (.int .i64 3)/\Below w.heap.size w w':=by
 go_enter Tryz.func54,Tryz.ntmps54
 go_wp2_with fail;refine (jO 7 p q r s _).mono ?_;rintro r' w1 ⟨rfl,b9⟩;have C:LwC w1 w.heap.size 7 p q r s:=(kX w 7 p q r s _).bw b9;have hB:Below w.heap.size w w1:=zB (bl1 _ _) b9;have lC:=C.lt;obtain⟨x0,x1,x2,x3,x4⟩:=C;clear b9;rw[h0];clear h0;go_wp2_with fail
 go_ret
 exact⟨rfl,hB⟩
theorem zJ7 (p q r s n b:Int) (w:World) (h0:kT 7 p q r s=0) (h1:¬ b<8) (h2:¬ 120<b) (h3:¬ n < -1048576) (h4:¬ 1048576<n) (h:100<n) :
  Calls Tryz.prog 54 #[.agg #[.int .i64 7,.int .i64 p,.int .i64 q,.int .i64 r,.int .i64 s],.int .i64 n,.int .i64 b] w λ z w'=>z=.returned (.int .i64 2)/\Below w.heap.size w w':=by
 go_enter Tryz.func54,Tryz.ntmps54
 go_wp2_with fail;refine (jO 7 p q r s _).mono ?_;rintro r' w1 ⟨rfl,b9⟩;have C:LwC w1 w.heap.size 7 p q r s:=(kX w 7 p q r s _).bw b9;have hB:Below w.heap.size w w1:=zB (bl1 _ _) b9;have lC:=C.lt;obtain⟨x0,x1,x2,x3,x4⟩:=C;clear b9;rw[h0];clear h0;go_wp2_with fail
 go_ret
 exact⟨rfl,hB⟩
theorem zIM (p q r s n b:Int) (w:World) (h0:kT 7 p q r s=0) (h1:¬ b<8) (h2:¬ 120<b) (h3:¬ n < -1048576) (h4:¬ 1048576<n) (h:¬ 100<n) :
  Calls Tryz.prog 54 #[.agg #[.int .i64 7,.int .i64 p,.int .i64 q,.int .i64 r,.int .i64 s],.int .i64 n,.int .i64 b] w λ z w'=>z=.returned (.int .i64 0)/\Below w.heap.size w w':=by
 go_enter Tryz.func54,Tryz.ntmps54
 go_wp2_with fail;refine (jO 7 p q r s _).mono ?_;rintro r' w1 ⟨rfl,b9⟩;have C:LwC w1 w.heap.size 7 p q r s:=(kX w 7 p q r s _).bw b9;have hB:Below w.heap.size w w1:=zB (bl1 _ _) b9;have lC:=C.lt;obtain⟨x0,x1,x2,x3,x4⟩:=C;clear b9;rw[h0];clear h0;go_wp2_with fail
 go_ret
 exact⟨rfl,hB⟩
theorem zEE (k p q r s n b:Int) (w:World) :
  Calls Tryz.prog 54 #[.agg #[.int .i64 k,.int .i64 p,.int .i64 q,.int .i64 r,.int .i64 s],.int .i64 n,.int .i64 b] w λ z w'=>z=.returned (.int .i64 (zTB k p q r s n b))/\Below w.heap.size w w':=by
 unfold zTB
 by_cases h0:kT k p q r s=0
 ·rw[if_neg (by simpa using h0)]
  obtain⟨k1,k7⟩:=law_k h0
  by_cases hk:k<6
  ·rw[if_pos hk];exact zGX k p q r s n b w h0 hk
  ·rw[if_neg hk]
   have cn:k=6\/k=7:=by omega
   by_cases g1:b<8
   ·rw[if_pos (Or.inl g1)]
    rcases cn with h|h
    ·subst h;exact zIN p q r s n b w h0 g1
    ·subst h;exact zIR p q r s n b w h0 g1
   by_cases g2:120<b
   ·rw[if_pos (Or.inr (Or.inl g2))]
    rcases cn with h|h
    ·subst h;exact zIO p q r s n b w h0 g1 g2
    ·subst h;exact zIS p q r s n b w h0 g1 g2
   by_cases g3:n < -1048576
   ·rw[if_pos (Or.inr (Or.inr (Or.inl g3)))]
    rcases cn with h|h
    ·subst h;exact zIP p q r s n b w h0 g1 g2 g3
    ·subst h;exact zIT p q r s n b w h0 g1 g2 g3
   by_cases g4:1048576<n
   ·rw[if_pos (Or.inr (Or.inr (Or.inr g4)))]
    rcases cn with h|h
    ·subst h;exact zIQ p q r s n b w h0 g1 g2 g3 g4
    ·subst h;exact zIU p q r s n b w h0 g1 g2 g3 g4
   rw[if_neg (by omega)]
   rcases cn with h|h
   ·rw[if_neg (by omega)];subst h;exact zIL p q r s n b w h0 g1 g2 g3 g4
   ·by_cases g5:100<n
    ·rw[if_pos ⟨h,g5⟩];subst h;exact zJ7 p q r s n b w h0 g1 g2 g3 g4 g5
    ·rw[if_neg (by omega)];subst h;exact zIM p q r s n b w h0 g1 g2 g3 g4 g5
 ·rw[if_pos h0];exact zIK k p q r s n b w h0
theorem zNX (w:World) (b:Nat) (hb:b<=2000) :
  Calls Tryz.prog 100 #[.int .i64 b] w (zH w b 6000 (ofI 0 1 b).1 (ofI 0 1 b).2):=by
 have R:=zQ w 31
 go_enter Tryz.func100,Tryz.ntmps100
 go_wp2_with fail;refine (zD 0 _ (by decide) (by decide)).mono ?_
 rintro r' w1 ⟨m7,a1,n1,c1,rfl,o8,b9⟩;replace R:=R.bw b9;have hB:Below w.heap.size w w1:=zB (bl1 _ _) b9;clear b9;go_wp2_with fail;refine (zD 1 _ (by decide) (by decide)).mono ?_
 rintro r' w2 ⟨j7,a2,n2,c2,rfl,A5,j8⟩;replace R:=R.bw j8;replace hB:=zB hB j8;replace o8:=o8.bw j8;clear j8;go_wp2_with fail;refine (jI _ _ _ _ _ _ _ _ 4 4 b 0 1 _ o8 A5 (by omega) (by omega) (by decide)).mono ?_
 rintro r' w3 ⟨v3,rfl,G7,bg,m8⟩;replace hB:=zB hB m8;obtain⟨q0,q1,q2,q3,q4,q5⟩:=R.bw m8;have iI:=zC G7;clear G7 m8 R;go_wp2_with fail;refine bodyPost_ret (v:=.agg v3.q) (by simp[results,Tryz.results100,go_sem,q0,q1,q2,q3,q4]) rfl ⟨v3,rfl,zA iI,?_,?_⟩
 ·exact SpAt.put5 (SpAt.mono bg (by omega)) q0 q1 q2 q3 q4 _ _ _ _ _
 ·exact jV hB (Yy _) _ _ _ _ _
theorem just_big (w:World) (p q r s n:Int) (b:Nat) (hb:b<=2000) (hn:¬ n<0) (hp:p<n) :
  Calls Tryz.prog 57 #[.agg #[.int .i64 6,.int .i64 p,.int .i64 q,.int .i64 r,.int .i64 s],.int .i64 n,.int .i64 b] w (λ zz w'=>∃ lo hi,zEP (λ _=>((0:Int):Rat)/((1:Int):Rat)) b lo hi/\zH w b 6000 lo hi zz w'):=by
 have M9:=zC (of_pr (N:=0) (D:=1) b (by decide) (by decide) (by decide))
 obtain⟨W,hW⟩:∃ W,W=(w.alloc (.cells #[.int .i64 6,.int .i64 p,.int .i64 q,.int .i64 r,.int .i64 s] 25)).alloc (.cells zCq 31):=⟨_,rfl⟩;have j6:Below w.heap.size w W:=by rw[hW];exact bl2 _ _ _
 have C:LwC W w.heap.size 6 p q r s:=by rw[hW];exact (kX w 6 p q r s _).bw (bl1 _ _)
 have R:NoC W (w.heap.size+1):=by rw[hW];constructor<;>simp[go_sem]
 have lC:=C.lt;have lR:=R.lt;obtain⟨x0,x1,x2,x3,x4⟩:=C
 go_enter Tryz.func57,Tryz.ntmps57
 go_wp2_with fail;rw[<- hW];clear hW;refine (zNX _ b (by omega)).mono ?_
 rintro r' w3 ⟨v3,rfl,G7,bg,m8⟩;obtain⟨q0,q1,q2,q3,q4,q5⟩:=R.bw m8;have hB:=zB j6 m8;have HV:=zC G7;clear G7 m8 x0 x1 x2 x3 x4;go_wp2_with fail;refine bodyPost_ret (v:=.agg v3.q) (by simp[results,Tryz.results57,go_sem,q0,q1,q2,q3,q4]) rfl ⟨_,_,zA M9,v3,rfl,zA HV,?_,?_⟩
 ·exact SpAt.put5 bg q0 q1 q2 q3 q4 _ _ _ _ _
 ·exact jV hB (Nat.le_succ _) _ _ _ _ _
theorem zOP {p n:Nat} (h:n<=p) (r s:Int):wayF (r ^ n*(s-r) ^ ((p:Int).toNat-n)) ((p:Int)-(n:Int)) n=(ch p n:Int)*(r ^ n*(s-r) ^ (p-n)):=by
 rw[show (p:Int)-(n:Int)=((p-n:Nat):Int) by omega,wayF_ch,show p-n+n=p by omega,show (p:Int).toNat=p by omega,Int.mul_comm]
theorem way_le {p n:Nat} (h:n<=p) {r s:Int} (hr:0<=r) (hs:r<=s):0<=(ch p n:Int)*(r ^ n*(s-r) ^ (p-n))/\(ch p n:Int)*(r ^ n*(s-r) ^ (p-n))<=s ^ p:=by
 obtain⟨a,ha⟩:∃ a:Nat,r=(a:Int):=⟨r.toNat,by omega⟩
 obtain⟨c,hc⟩:∃ c:Nat,s-r=(c:Int):=⟨(s-r).toNat,by omega⟩
 have KH:s=((a+c:Nat):Int):=by omega
 have h1:=ch_le a c p n h;have h2:((ch p n*a ^ n*c ^ (p-n):Nat):Int)<=(((a+c) ^ p:Nat):Int):=by omega
 rw[Int.natCast_mul,Int.natCast_mul,Int.natCast_pow,Int.natCast_pow,Int.natCast_pow] at h2;rw[hc,ha,KH,<- Int.mul_assoc];refine⟨?_,h2⟩;have:0<=((ch p n*a ^ n*c ^ (p-n):Nat):Int):=by omega
 rw[Int.natCast_mul,Int.natCast_mul,Int.natCast_pow,Int.natCast_pow] at this;exact this
theorem zPD (w:World) (q r s:Int) (p n b:Nat) (hb:b<=2000) (hn:n<=p) (hp:p<=100) (hr:0<=r) (FF:r<=s) (mL:1<=s) (hs:s<=1024) :
  Calls Tryz.prog 57 #[.agg #[.int .i64 6,.int .i64 (p:Int),.int .i64 q,.int .i64 r,.int .i64 s],.int .i64 n,.int .i64 b] w (λ zz w'=>∃ lo hi,zEP (λ _=>(((ch p n:Int)*(r ^ n*(s-r) ^ (p-n)):Int):Rat)/((s ^ p:Int):Rat)) b lo hi/\zH w b 6000 lo hi zz w'):=by
 have P1:0<s ^ p:=Int.pow_pos (by omega)
 obtain⟨v0,v1⟩:=way_le hn hr FF;have M9:=zC (of_pr b v0 P1 v1);have Vz:=zC (zOP hn r s);clear v0 v1;obtain⟨W,hW⟩:∃ W,W=(w.alloc (.cells #[.int .i64 6,.int .i64 (p:Int),.int .i64 q,.int .i64 r,.int .i64 s] 25)).alloc (.cells zCq 31):=⟨_,rfl⟩;have j6:Below w.heap.size w W:=by rw[hW];exact bl2 _ _ _
 have C:LwC W w.heap.size 6 (p:Int) q r s:=by rw[hW];exact (kX w 6 (p:Int) q r s _).bw (bl1 _ _)
 have R:NoC W (w.heap.size+1):=by rw[hW];constructor<;>simp[go_sem]
 have lC:=C.lt;have lR:=R.lt;have HK:=zC (show ∀ w',Below W.heap.size W w'->(w'.cell? ⟨w.heap.size,0,none⟩=some (.int .i64 6)/\w'.cell? ⟨w.heap.size,1,none⟩=some (.int .i64 (p:Int))/\w'.cell? ⟨w.heap.size,2,none⟩=some (.int .i64 q)/\w'.cell? ⟨w.heap.size,3,none⟩=some (.int .i64 r)/\w'.cell? ⟨w.heap.size,4,none⟩=some (.int .i64 s)) from λ w' hB=>⟨(C.bw hB).c0,(C.bw hB).c1,(C.bw hB).c2,(C.bw hB).c3,(C.bw hB).c4⟩)
 have dt:¬ (n:Int)<0:=by omega
 have iA:¬ (p:Int)<(n:Int):=by omega
 have m1:w.heap.size≠w.heap.size+1:=by omega
 have m2:w.heap.size+1≠w.heap.size:=by omega
 have D5:Below W.heap.size W W.drew:=(Below.refl _ _).drew;obtain⟨x0,x1,x2,x3,x4⟩:=C
 go_enter Tryz.func57,Tryz.ntmps57
 go_wp2_with fail
 try rw[<- hW]
 clear hW
 go_region_held3 (λ w'=>w'.cell? ⟨w.heap.size,0,none⟩=some (.int .i64 6)/\w'.cell? ⟨w.heap.size,1,none⟩=some (.int .i64 (p:Int))/\w'.cell? ⟨w.heap.size,2,none⟩=some (.int .i64 q)/\w'.cell? ⟨w.heap.size,3,none⟩=some (.int .i64 r)/\w'.cell? ⟨w.heap.size,4,none⟩=some (.int .i64 s)) (first|exact zA HK _ (by with_reducible first|exact D5|exact G0|exact s9|exact y9)|go_keep)
  (first
   | (go_at_call 88;have O3:=s9;refine (jI _ _ _ _ _ _ _ _ 2500 500 b _ (s ^ p) _ ((o8.bw j8).mono (by omega)) (A5.mono (by omega)) (by omega) (by omega) P1).mono ?_;rintro r' w3 ⟨u,rfl,B8,B7,m8⟩;have G0:=zB s9 m8;obtain⟨q0,q1,q2,q3,q4,q5⟩:=R.bw G0;have HV:=zC B8;clear B8;obtain⟨y0,y1,y2,y3,y4⟩:=zA HK _ G0;have bg:=SpAt.mono B7 (show 2500+b/16+20<=6000 by omega))
   | (go_at_call 102;have O3:=y9;refine (zBI s p _ (by omega) (by omega) (by omega)).mono ?_;rintro r' w2 ⟨j7,a2,n2,c2,rfl,A5,j8⟩;have s9:=zB y9 j8)
   | (go_at_call 101;refine (zOQ 6 p q r s n _ (by omega) (by omega) hr FF hs).mono ?_;rintro r' w1 ⟨m7,a1,n1,c1,rfl,o8,b9⟩;have y9:=zB D5 b9;rw[zA Vz] at o8))
 all_goals
  go_wp2_with fail;refine bodyPost_ret (v:=.agg u.q) (by simp[results,Tryz.results57,go_sem,q0,q1,q2,q3,q4]) rfl ⟨_,_,zA M9,u,rfl,zA HV,?_,?_⟩
  ·exact SpAt.put5 bg q0 q1 q2 q3 q4 _ _ _ _ _
  ·exact jV (zB j6 G0) (Nat.le_succ _) _ _ _ _ _
theorem zSH (w:World) (p q r s:Int) (n b:Nat) (E8:40<=b) (hb:b<=2000) (hn:n<=100) (hrk:rok p q) (hp:0<=p) (I8:p<=100*q) :
  Calls Tryz.prog 57 #[.agg #[.int .i64 7,.int .i64 p,.int .i64 q,.int .i64 r,.int .i64 s],.int .i64 n,.int .i64 b] w (λ zz w'=>∃ lo hi,zEP (zCY p q n) b lo hi/\zH w b 6000 lo hi zz w'):=by
 obtain⟨W,hW⟩:∃ W,W=(w.alloc (.cells #[.int .i64 7,.int .i64 p,.int .i64 q,.int .i64 r,.int .i64 s] 25)).alloc (.cells zCq 31):=⟨_,rfl⟩;have j6:Below w.heap.size w W:=by rw[hW];exact bl2 _ _ _
 have C:LwC W w.heap.size 7 p q r s:=by rw[hW];exact (kX w 7 p q r s _).bw (bl1 _ _)
 have R:NoC W (w.heap.size+1):=by rw[hW];constructor<;>simp[go_sem]
 have lC:=C.lt;have lR:=R.lt;have dt:¬ (n:Int)<0:=by omega
 obtain⟨x0,x1,x2,x3,x4⟩:=C
 go_enter Tryz.func57,Tryz.ntmps57
 go_wp2_with fail;rw[<- hW];clear hW;refine (zPW _ p q n b hrk hp I8 hn E8 hb).mono ?_;rintro r' w3 ⟨lo,hi,I9,v3,rfl,G7,bg,m8⟩;obtain⟨q0,q1,q2,q3,q4,q5⟩:=R.bw m8;have hB:=zB j6 m8;have HV:=zC G7;have M9:=zC I9;clear G7 m8 x0 x1 x2 x3 x4 I9;go_wp2_with fail;refine bodyPost_ret (v:=.agg v3.q) (by simp[results,Tryz.results57,go_sem,q0,q1,q2,q3,q4]) rfl ⟨_,_,zA M9,v3,rfl,zA HV,?_,?_⟩
 ·exact SpAt.put5 bg q0 q1 q2 q3 q4 _ _ _ _ _
 ·exact jV hB (Nat.le_succ _) _ _ _ _ _
def MasAt (w:World) (B1 B2:Nat) (k p q r s n:Int):Prop:=LwC w B1 k p q r s/\w.cell? ⟨B2,0,none⟩=some (.int .i64 n)
theorem MasAt.bw {w w':World} {B1 B2:Nat} {k p q r s n:Int} (h:MasAt w B1 B2 k p q r s n) (hb:Below w.heap.size w w'):MasAt w' B1 B2 k p q r s n :=
 ⟨h.1.bw hb,(hb.cell (p:=⟨B2,0,none⟩) (World.block_lt_of_cell? w ⟨B2,0,none⟩ h.2)).trans h.2⟩
theorem mass1_of (b:Nat) (B1 B2:Nat) (w:World) (k p q r s n:Int) (x:Nat->Rat) (h:MasAt w B1 B2 k p q r s n)
  (hJ:∀ w',Calls Tryz.prog 57 #[.agg #[.int .i64 k,.int .i64 p,.int .i64 q,.int .i64 r,.int .i64 s],.int .i64 n,.int .i64 b] w' (λ r T4=>∃ lo hi,zEP x b lo hi/\zH w' b 6000 lo hi r T4)) :
  Calls Tryz.prog 56 #[.int .i64 b,.pointer (some ⟨B1,0,none⟩),.pointer (some ⟨B2,0,none⟩)] w (λ zz w'=>∃ lo hi,zEP x b lo hi/\zH w b 6000 lo hi zz w'):=by
 have HJ:=zC hJ;clear hJ;obtain⟨⟨x0,x1,x2,x3,x4⟩,y0⟩:=h;have l1:=World.block_lt_of_cell? w ⟨B1,0,none⟩ x0;have l2:=World.block_lt_of_cell? w ⟨B2,0,none⟩ y0
 go_enter Tryz.func56,Tryz.ntmps56
 go_wp2_with fail;refine (zA HJ _).mono ?_;rintro r' w1 ⟨lo,hi,I9,u,rfl,B8,B7,b9⟩;obtain⟨q0,q1,q2,q3,q4,q5⟩:=(zQ w 31).bw b9;have hB:Below w.heap.size w w1:=zB (bl1 _ _) b9;have G8:=zC B8;have M9:=zC I9;clear B8 b9 I9;go_wp2_with fail;refine bodyPost_ret (v:=.agg u.q) (by simp[results,Tryz.results56,go_sem,q0,q1,q2,q3,q4]) rfl ⟨lo,hi,zA M9,u,rfl,zA G8,?_,?_⟩
 ·exact SpAt.put5 B7 q0 q1 q2 q3 q4 _ _ _ _ _
 ·exact jV hB (Yy _) _ _ _ _ _
theorem zL3 (w:World) (k p q r s n:Int) (b:Nat) (x:Nat->Rat) (h5:8<=b) (h6:b<=120) (hE:zTB k p q r s n b=0)
  (hJ:∀ (m:Nat) w',40<=m->m<=2000->Calls Tryz.prog 57 #[.agg #[.int .i64 k,.int .i64 p,.int .i64 q,.int .i64 r,.int .i64 s],.int .i64 n,.int .i64 m] w' (λ r T4=>∃ lo hi,zEP x m lo hi/\zH w' m 6000 lo hi r T4)) :
  Calls Tryz.prog 19 #[.agg #[.int .i64 k,.int .i64 p,.int .i64 q,.int .i64 r,.int .i64 s],.int .i64 n,.int .i64 b] w (λ r w'=>∃ L H,zFZ b (zEP x) L H/\PairAns w b 250 L H 0 r w'):=by
 have HJ:=zC hJ;have HE:=zC hE;clear hJ hE
 go_enter Tryz.func19,Tryz.ntmps19
 go_wp2_with fail;refine (zEE k p q r s n b _).mono ?_;rintro r' w1 ⟨rfl,b9⟩;rw[zA HE];have C:MasAt w1 w.heap.size (w.heap.size+1) k p q r s n:=MasAt.bw ⟨⟨by simp[go_sem],by simp[go_sem],by simp[go_sem],by simp[go_sem],by simp[go_sem]⟩,by simp[go_sem]⟩ b9
 have R:NoC w1 (w.heap.size+1+1):=NoC.bw ⟨by simp[go_sem],by simp[go_sem],by simp[go_sem],by simp[go_sem],by simp[go_sem],λ o=>by simp[go_sem]⟩ b9
 have hB:Below w.heap.size w w1:=zB (bl3 _ _ _ _) b9;have lR:=R.lt;clear b9;go_wp2_with fail;refine (zOJ _ _ en_mass b 1702 6000 (zEP x) _ h6 (by omega) (by omega) (mas_ends b x h6) (λ m w' hm J5 C8=>?_)).mono ?_
 ·rw[show ((b:Int)+(m:Int))=((b+m:Nat):Int) by omega]
  exact mass1_of (b+m) w.heap.size (w.heap.size+1) w' k p q r s n x (C.bw C8) (λ T4=>zA HJ (b+m) T4 (by omega) (by omega))
 rintro r' w3 ⟨L,H,hS,u,rfl,B8,B7,m8⟩;obtain⟨q0,q1,q2,q3,q4,q5⟩:=R.bw m8;replace hB:=zB hB m8;have G8:=zC B8;have Hf:=zC hS;clear B8 hS;go_wp2_with fail;refine bodyPost_ret (v:=.tuple #[.agg u.q,.int .i64 0]) (by simp[results,Tryz.results19,go_sem,q0,q1,q2,q3,q4]) rfl ⟨L,H,zA Hf,u,rfl,zA G8,?_,?_⟩
 ·exact SpAt.put5 B7 q0 q1 q2 q3 q4 _ _ _ _ _
 ·exact jV hB (by omega) _ _ _ _ _
theorem mass_bad (w:World) (k p q r s n b:Int) (hE:zTB k p q r s n b≠0) :
  Calls Tryz.prog 19 #[.agg #[.int .i64 k,.int .i64 p,.int .i64 q,.int .i64 r,.int .i64 s],.int .i64 n,.int .i64 b] w (PairAns w 0 250 0 0 (zTB k p q r s n b)):=by
 go_enter Tryz.func19,Tryz.ntmps19
 go_wp2_with fail;refine (zEE k p q r s n b _).mono ?_;rintro r' w1 ⟨rfl,b9⟩;have h1:(zTB k p q r s n b != 0)=true:=by simpa using hE
 have R:NoC w1 (w.heap.size+1+1):=NoC.bw ⟨by simp[go_sem],by simp[go_sem],by simp[go_sem],by simp[go_sem],by simp[go_sem],λ o=>by simp[go_sem]⟩ b9
 have hB:Below w.heap.size w w1:=zB (bl3 _ _ _ _) b9;have lR:=R.lt;clear b9;obtain⟨q0,q1,q2,q3,q4,q5⟩:=R;go_wp2_with fail;refine bodyPost_ret (v:=.tuple #[.agg zCq,.int .i64 (zTB k p q r s n b)]) (by simp[results,Tryz.results19,go_sem,q0,q1,q2,q3,q4]) rfl ⟨⟨false,none,0,0,false,none,0,0,0⟩,rfl,rfl,zOR _ _,?_⟩
 exact jV hB (by omega) _ _ _ _ _
open Ex
theorem zI0 {n d n2 d2:Int} (d0:0<d) (d20:0<d2) (hle:n*d2<=n2*d):(n:Rat)/(d:Rat)<=(n2:Rat)/(d2:Rat):=by
 have dr:(0:Rat)<(d:Rat):=by exact_mod_cast d0
 have BK:(0:Rat)<(d2:Rat):=by exact_mod_cast d20
 refine jL BK (Rat.le_of_mul_le_mul_right (c:=(d:Rat)) ?_ dr);have c:=jA hle;rw[YA,YA] at c;have r:=rdm (a:=(n:Rat)) dr;have e:(n:Rat)/(d:Rat)*(d2:Rat)*(d:Rat)=(n:Rat)/(d:Rat)*(d:Rat)*(d2:Rat):=by grind
 rw[e,r];exact c
theorem zKQ {y z:Rat} (y0:0<=y) (h:y<z):∃ s:Rat,0<=s/\y<=s*s/\s*s<=z:=by
 have dz:0<z-y:=by grind
 obtain⟨k,hk⟩:=kC ((2*z+3)/(z-y));obtain⟨s,s0,s1,s2⟩:=root0 z (by grind) k
 have k0:(0:Rat)<(k:Rat)+1:=zA0 k;have kk:(0:Rat)<=(k:Rat):=by exact_mod_cast Nat.zero_le k
 have um:=rdm (a:=1) k0;have u0:(0:Rat)<=1/((k:Rat)+1):=jS k0 (by grind)
 obtain⟨u,hu⟩:∃ u,u=1/((k:Rat)+1):=⟨_,rfl⟩;rw[<- hu] at s2 um u0;have u1:u<=1:=by have:=Ys u0 kk;grind
 have st:=zI4 s0 s1 u0 u1;have r:=rdm (a:=2*z+3) dz;have m1:=Yv hk.2 (Yw dz);rw[r] at m1;have m2:=Yv m1 u0;have e2:(k:Rat)*(z-y)*u=(z-y)*((k:Rat)*u):=by grind
 have e3:(k:Rat)*u=1-u:=by grind
 have m3:=Ys (Yw dz) u0;rw[e2,e3] at m2;refine⟨s,s0,?_,s1⟩;grind
theorem zRZ {R:Nat->Rat} (hR:yG piS R) {y z:Rat} {r t:Nat->Rat} (hy:RtOf y r) (hz:RtOf z t) (h:y<z):LeN (zC9 R y r) (zC9 R z t):=by
 obtain⟨s,s0,s1,s2⟩:=zKQ hy.y0 h;exact (zRY hR hy s0 s1).trans (zRX hR hz s0 s2)
theorem zTF {R R2:Nat->Rat} (hR:yG piS R) (h2:yG (λ _=>(2:Rat)) R2) {p q p2 q2:Int} (hq:0<q) (P6:0<q2) (h:zG2 p q<=zG2 p2 q2):LeN (zC9 R (nrY p q) (nrR R2 p q)) (zC9 R (nrY p2 q2) (nrR R2 p2 q2)):=by
 have a0:=(zLI (p:=p) hq).1
 by_cases e:zG2 p q=zG2 p2 q2
 ·have e1:nrY p q=nrY p2 q2:=by rw[zKG hq,zKG P6,e]
  have e2:nrR R2 p q=nrR R2 p2 q2:=by funext M;unfold nrR;rw[e]
  rw[e1,e2];exact LeN.refl _
 ·refine zRZ hR (zPQ h2 hq) (zPQ h2 P6) ?_
  rw[zKG hq,zKG P6];have lt:zG2 p q<zG2 p2 q2:=by grind
  have m1:=Yr h a0;have m2:=Rat.mul_lt_mul_of_pos_right lt (show 0<zG2 p2 q2 by grind)
  grind
theorem half_leN {f g:Nat->Rat} (h:LeN f g):LeN (λ M=>(1:Int)/((2:Int):Rat)*(1+f M)) (λ M=>(1:Int)/((2:Int):Rat)*(1+g M)):=λ e he=>by
 obtain⟨N,k⟩:=h e he;have e2:((2:Int):Rat)=2:=rfl;have e1:((1:Int):Rat)=1:=rfl;rw[e1,e2];exact⟨N,λ M hM=>by have:=k M hM;simp only[];grind⟩
theorem nor_mono {R R2:Nat->Rat} (hR:yG piS R) (h2:yG (λ _=>(2:Rat)) R2) {p q p2 q2:Int} (hq:0<q) (P6:0<q2) (hle:p*q2<=p2*q):LeN (nrV (zC9 R (nrY p q) (nrR R2 p q)) p) (nrV (zC9 R (nrY p2 q2) (nrR R2 p2 q2)) p2):=by
 have ql:=zI0 hq P6 hle;have neg:∀ a b:Int,-(a:Rat)/(b:Rat) = -((a:Rat)/(b:Rat)):=λ a b=>by rw[YE,YE,Rat.neg_mul]
 have z0:∀ b:Int,((0:Int):Rat)/(b:Rat)=0:=λ b=>by rw[YE];exact Rat.zero_mul _
 have ab:∀ a b:Int,¬ 0<a->zG2 a b = -((a:Rat)/(b:Rat)):=λ a b h=>by
  unfold zG2
  by_cases hn:a<0
  ·rw[if_pos hn,neg]
  ·have:a=0:=by omega
   subst this;rw[if_neg hn,z0];rfl
 have ap:∀ a b:Int,0<a->zG2 a b=(a:Rat)/(b:Rat):=λ a b h=>by unfold zG2;rw[if_neg (by omega)]
 refine half_leN (f:=nrE (zC9 R (nrY p q) (nrR R2 p q)) p) (g:=nrE (zC9 R (nrY p2 q2) (nrR R2 p2 q2)) p2) ?_
 by_cases hp:0<p
 ·have np:0<p*q2:=Int.mul_pos hp P6
  have I8:0<p2:=Int.not_le.1 λ h=>by
   have:=Yz (show 0 <= -p2 by omega) (show 0<=q by omega)
   have e : -p2*q = -(p2*q):=by grind
   omega
  have e1:nrE (zC9 R (nrY p q) (nrR R2 p q)) p=zC9 R (nrY p q) (nrR R2 p q):=by funext M;unfold nrE;rw[if_pos hp]
  have e2:nrE (zC9 R (nrY p2 q2) (nrR R2 p2 q2)) p2=zC9 R (nrY p2 q2) (nrR R2 p2 q2):=by funext M;unfold nrE;rw[if_pos I8]
  rw[e1,e2];exact zTF hR h2 hq P6 (by rw[ap _ _ hp,ap _ _ I8];exact ql)
 ·have e1:nrE (zC9 R (nrY p q) (nrR R2 p q)) p=λ M => -zC9 R (nrY p q) (nrR R2 p q) M:=by funext M;unfold nrE;rw[if_neg hp]
  rw[e1]
  by_cases I8:0<p2
  ·have e2:nrE (zC9 R (nrY p2 q2) (nrR R2 p2 q2)) p2=zC9 R (nrY p2 q2) (nrR R2 p2 q2):=by funext M;unfold nrE;rw[if_pos I8]
   rw[e2];refine LeN.of_le 1 λ M hM=>?_
   have a:=zF8 hR (zPQ h2 (p:=p) hq) hM;have b:=zF8 hR (zPQ h2 (p:=p2) P6) hM;grind
  ·have e2:nrE (zC9 R (nrY p2 q2) (nrR R2 p2 q2)) p2=λ M => -zC9 R (nrY p2 q2) (nrR R2 p2 q2) M:=by funext M;unfold nrE;rw[if_neg I8]
   rw[e2];refine leN_opp (zTF hR h2 P6 hq ?_);rw[ab _ _ hp,ab _ _ I8];grind
def noX (R R2:Nat->Rat) (p q r s n d:Int):Nat->Rat:=nrV (zC9 R (nrY ((n*q-p*d)*s) (d*q*r)) (nrR R2 ((n*q-p*d)*s) (d*q*r))) ((n*q-p*d)*s)
theorem noX_mono {R R2:Nat->Rat} (hR:yG piS R) (h2:yG (λ _=>(2:Rat)) R2) {p q r s n d n2 d2:Int} (q0:0<q) (r0:0<r) (s0:0<s) (d0:0<d) (d20:0<d2) (hle:n*d2<=n2*d):LeN (noX R R2 p q r s n d) (noX R R2 p q r s n2 d2):=by
 refine nor_mono hR h2 (Int.mul_pos (Int.mul_pos d0 q0) r0) (Int.mul_pos (Int.mul_pos d20 q0) r0) ?_;have c:0<=q*q*(s*r):=Yz (Yz (by omega) (by omega)) (Yz (by omega) (by omega))
 have m:=Yt hle c;have e1:(n*q-p*d)*s*(d2*q*r)=n*d2*(q*q*(s*r))-p*d*d2*(q*(s*r)):=by grind
 have e2:(n2*q-p*d2)*s*(d*q*r)=n2*d*(q*q*(s*r))-p*d*d2*(q*(s*r)):=by grind
 rw[e1,e2];omega
def waX (p q n d:Int):Nat->Rat:=if n<=0 then λ _=>0 else λ M=>1-Ev (λ _=>((-p*n:Int):Rat)/((q*d:Int):Rat)) M
theorem ex_one0:LeN (ex 0) (λ _=>1):=LeN.of_le 1 λ M hM=>by
 obtain⟨k,rfl⟩:∃ k,M=k+1:=⟨M-1,by omega⟩
 show E 0 (k+1)<=1
 rw[kV];exact Rat.le_refl
theorem zFV {f g:Nat->Rat} (h:LeN f g):LeN (λ M=>1-g M) (λ M=>1-f M):=λ e he=>by
 obtain⟨N,k⟩:=h e he;exact⟨N,λ M hM=>by have:=k M hM;simp only[];grind⟩
theorem waX_mono {p q n d n2 d2:Int} (p0:0<p) (q0:0<q) (d0:0<d) (d20:0<d2) (hle:n*d2<=n2*d):LeN (waX p q n d) (waX p q n2 d2):=by
 unfold waX
 by_cases aT:n2<=0
 ·have:n<=0:=Int.not_lt.1 λ h=>by
   have a:=Int.mul_pos h d20;have b:=Yz (show 0 <= -n2 by omega) (show 0<=d by omega)
   have e : -n2*d = -(n2*d):=by grind
   omega
  rw[if_pos this,if_pos aT];exact LeN.refl _
 ·rw[if_neg aT]
  have q2:0<q*d2:=Int.mul_pos q0 d20
  by_cases hn:n<=0
  ·rw[if_pos hn]
   have c:((-p*n2:Int):Rat)/((q*d2:Int):Rat)<=0:=by
    have qr:(0:Rat)<((q*d2:Int):Rat):=by exact_mod_cast q2
    have m:=Yz (show 0<=p by omega) (show 0<=n2 by omega)
    have e : -p*n2 = -(p*n2):=by grind
    have:((-p*n2:Int):Rat)<=0:=by exact_mod_cast (show -p*n2<=0 by omega)
    exact jR qr (by grind)
   have l:=zFV ((zB3 c).trans ex_one0);refine LeN.trans (LeN.of_le 0 λ M _=>?_) l
   grind
  ·rw[if_neg hn]
   refine zFV (f:=ex _) (g:=ex _) (zB3 (zI0 q2 (Int.mul_pos q0 d0) ?_));have m:=Yx hle (show 0<=p*q from Yz (by omega) (by omega))
   have e1 : -p*n2*(q*d) = -(p*q*(n2*d)):=by grind
   have e2 : -p*n*(q*d2) = -(p*q*(n*d2)):=by grind
   rw[e1,e2];omega
theorem lwX_nn {L G:Rat->Nat->Rat} {X:Int->Int->Nat->Rat} (hE:zLD L G X) {p q n d:Int} (st:StIn p q) (n0:0<=n) (d0:0<d):Nn (lwX L p q n d (gmV p q (G (gA p q)))):=by
 unfold lwX
 by_cases h:n=0
 ·rw[if_pos h];exact Nn.const (by grind)
 ·rw[if_neg h]
  have pr:(0:Rat)<(p:Rat):=by exact_mod_cast st.n0
  have qr:(0:Rat)<(q:Rat):=by exact_mod_cast st.d0
  have nr:(0:Rat)<(n:Rat):=by exact_mod_cast (show 0<n by omega)
  have dr:(0:Rat)<(d:Rat):=by exact_mod_cast d0
  exact lw_nn hE.lns (zF pr qr) (zF nr dr) (zCE hE st)
theorem lwX_mono {L G:Rat->Nat->Rat} {X:Int->Int->Nat->Rat} (hE:zLD L G X) {p q n d n2 d2:Int} (st:StIn p q) (n0:0<=n) (d0:0<d) (d20:0<d2) (FR:0<=n2) (hle:n*d2<=n2*d):LeN (lwX L p q n d (gmV p q (G (gA p q)))) (lwX L p q n2 d2 (gmV p q (G (gA p q)))):=by
 by_cases hn:n=0
 ·have e:lwX L p q n d (gmV p q (G (gA p q)))=λ _=>0:=by unfold lwX;rw[if_pos hn]
  rw[e];exact (lwX_nn hE st FR d20).leN
 ·have np:0<n*d2:=Int.mul_pos (by omega) d20
  have DP:n2≠0:=λ h=>by rw[h,Int.zero_mul] at hle;omega
  unfold lwX;rw[if_neg hn,if_neg DP];have pr:(0:Rat)<(p:Rat):=by exact_mod_cast st.n0
  have qr:(0:Rat)<(q:Rat):=by exact_mod_cast st.d0
  have nr:(0:Rat)<(n:Rat):=by exact_mod_cast (show 0<n by omega)
  have dr:(0:Rat)<(d:Rat):=by exact_mod_cast d0
  exact lw_mono hE.lns (zF pr qr) (zF nr dr) (zI0 d0 d20 hle) (zCE hE st)
def gaX (L G:Rat->Nat->Rat) (p q r s n d:Int):Nat->Rat:=if n<=0 then λ _=>0 else lwX L p q (r*n) (s*d) (gmV p q (G (gA p q)))
theorem gaX_mono {L G:Rat->Nat->Rat} {X:Int->Int->Nat->Rat} (hE:zLD L G X) {p q r s n d n2 d2:Int} (st:StIn p q) (r0:0<r) (s0:0<s) (d0:0<d) (d20:0<d2) (hle:n*d2<=n2*d):LeN (gaX L G p q r s n d) (gaX L G p q r s n2 d2):=by
 unfold gaX
 by_cases aT:n2<=0
 ·have:n<=0:=Int.not_lt.1 λ h=>by
   have a:=Int.mul_pos h d20;have b:=Yz (show 0 <= -n2 by omega) (show 0<=d by omega)
   have e : -n2*d = -(n2*d):=by grind
   omega
  rw[if_pos this,if_pos aT];exact LeN.refl _
 ·rw[if_neg aT]
  have b0:=Yz (show 0<=r by omega) (show 0<=n2 by omega)
  have c2:=Int.mul_pos s0 d20
  by_cases hn:n<=0
  ·rw[if_pos hn];exact (lwX_nn hE st b0 c2).leN
  ·rw[if_neg hn]
   refine lwX_mono hE st (Yz (by omega) (by omega)) (Int.mul_pos s0 d0) c2 b0 ?_
   have m:=Yx hle (show 0<=r*s from Yz (by omega) (by omega))
   have e1:r*n*(s*d2)=r*s*(n*d2):=by grind
   have e2:r*n2*(s*d)=r*s*(n2*d):=by grind
   rw[e1,e2];exact m
def clX (n d:Int):Int:=if n<=0 then 0 else if d<=n then d else n
theorem zG5 {n d:Int} (d0:0<d):0<=clX n d/\clX n d<=d:=by unfold clX;split<;>(try split)<;>omega
def beX (L:Rat->Nat->Rat) (p q r s n d:Int):Nat->Rat:=bvX L p q r s (clX n d) d
theorem clX_mono {n d n2 d2:Int} (d0:0<d) (d20:0<d2) (hle:n*d2<=n2*d):clX n d*d2<=clX n2 d2*d:=by
 have c2:=zG5 (n:=n2) d20
 by_cases h1:n<=0
 ·have e:clX n d=0:=by unfold clX;rw[if_pos h1]
  rw[e,Int.zero_mul];exact Yz c2.1 (by omega)
 ·have np:=Int.mul_pos (show 0<n by omega) d20
  have DP:0<n2:=Int.not_le.1 λ h=>by
   have b:=Yz (show 0 <= -n2 by omega) (show 0<=d by omega)
   have e : -n2*d = -(n2*d):=by grind
   omega
  by_cases h2:d2<=n2
  ·have e:clX n2 d2=d2:=by unfold clX;rw[if_neg (by omega),if_pos h2]
   have c1:=(zG5 (n:=n) d0).2;rw[e,Int.mul_comm d2 d];exact Yt c1 (by omega)
  ·have e:clX n2 d2=n2:=by unfold clX;rw[if_neg (by omega),if_neg h2]
   have h3:¬ d<=n:=λ h=>by
    have a:=Yt h (show 0<=d2 by omega)
    have b:=Int.mul_lt_mul_of_pos_right (show n2<d2 by omega) d0
    rw[Int.mul_comm d2 d] at b;omega
   have e':clX n d=n:=by unfold clX;rw[if_neg h1,if_neg h3]
   rw[e,e'];exact hle
theorem beX_mono {L:Rat->Nat->Rat} (hL:Lns L) {p q r s n d n2 d2:Int} (p0:0<p) (q0:0<q) (r0:0<r) (s0:0<s) (d0:0<d) (d20:0<d2) (hle:n*d2<=n2*d):LeN (beX L p q r s n d) (beX L p q r s n2 d2) :=
 zM3 hL p0 q0 r0 s0 (zG5 d0).1 (zG5 d0).2 d0 (zG5 d20).1 (zG5 d20).2 d20 (clX_mono d0 d20 hle)
def stX0 (L:Rat->Nat->Rat) (p q n d:Int) (M:Nat):Rat:=(1:Int)/((2:Int):Rat)*bvX L p (2*q) 1 2 (p*(d*d)) (p*(d*d)+q*(n*n)) M
def stX (L:Rat->Nat->Rat) (p q n d:Int):Nat->Rat:=if n<=0 then stX0 L p q n d else λ M=>1-stX0 L p q n d M
theorem sqn (n:Int):0<=n*n:=by
 rcases Int.le_total 0 n with h|h
 ·exact Yz h h
 ·have:=Yz (show 0 <= -n by omega) (show 0 <= -n by omega)
  have e : -n * -n=n*n:=by grind
  omega
theorem halfs {f g:Nat->Rat} (h:LeN f g):LeN (λ M=>(1:Int)/((2:Int):Rat)*f M) (λ M=>(1:Int)/((2:Int):Rat)*g M):=λ e he=>by
 obtain⟨N,k⟩:=h e he;have e2:((2:Int):Rat)=2:=rfl;have e1:((1:Int):Rat)=1:=rfl;rw[e1,e2];exact⟨N,λ M hM=>by have:=k M hM;simp only[];grind⟩
theorem zKV {L:Rat->Nat->Rat} (hL:Lns L) {p q n d n2 d2:Int} (p0:0<p) (q0:0<q) (d0:0<d) (d20:0<d2) (hle:(n2*d)*(n2*d)<=(n*d2)*(n*d2)):LeN (stX0 L p q n d) (stX0 L p q n2 d2):=by
 have f1:=Int.mul_pos p0 (Int.mul_pos d0 d0);have f2:=Int.mul_pos p0 (Int.mul_pos d20 d20);have s1:=Yz (show 0<=q by omega) (sqn n)
 have s2:=Yz (show 0<=q by omega) (sqn n2)
 refine halfs (zM3 hL p0 (by omega) (by decide) (by decide) (by omega) (by omega) (by omega) (by omega) (by omega) (by omega) ?_)
 have m:=Yx hle (show 0<=p*q from Yz (by omega) (by omega))
 have e1:p*(d*d)*(p*(d2*d2)+q*(n2*n2))=p*p*(d*d*(d2*d2))+p*q*(n2*d*(n2*d)):=by grind
 have e2:p*(d2*d2)*(p*(d*d)+q*(n*n))=p*p*(d*d*(d2*d2))+p*q*(n*d2*(n*d2)):=by grind
 rw[e1,e2];omega
theorem zKU {L:Rat->Nat->Rat} (hL:Lns L) {p q n d:Int} (p0:0<p) (q0:0<q) (d0:0<d):LeN (stX0 L p q n d) (λ _=>(1:Int)/((2:Int):Rat)):=by
 have f1:=Int.mul_pos p0 (Int.mul_pos d0 d0);have s1:=Yz (show 0<=q by omega) (sqn n)
 have h:=halfs (zRF hL p0 (show 0<2*q by omega) (show (0:Int)<1 by decide) (show (0:Int)<2 by decide) (show 0<=p*(d*d) by omega) (show p*(d*d)<=p*(d*d)+q*(n*n) by omega) (by omega)).2
 refine LeN.trans h (LeN.of_le 0 λ M _=>?_)
 grind
theorem zOE {a b:Int} (h0:0<=a) (h:a<=b):a*a<=b*b:=Int.mul_le_mul h h h0 (by omega)
theorem stX_mono {L:Rat->Nat->Rat} (hL:Lns L) {p q n d n2 d2:Int} (p0:0<p) (q0:0<q) (d0:0<d) (d20:0<d2) (hle:n*d2<=n2*d):LeN (stX L p q n d) (stX L p q n2 d2):=by
 unfold stX
 by_cases h1:n<=0
 ·rw[if_pos h1]
  by_cases h2:n2<=0
  ·rw[if_pos h2]
   refine zKV hL p0 q0 d0 d20 ?_;have b:=Yz (show 0 <= -n2 by omega) (show 0<=d by omega)
   have e : -n2*d = -(n2*d):=by grind
   have k:=zOE (a := -(n2*d)) (b := -(n*d2)) (by omega) (by omega)
   have e1 : -(n2*d) * -(n2*d)=n2*d*(n2*d):=by grind
   have e2 : -(n*d2) * -(n*d2)=n*d2*(n*d2):=by grind
   omega
  ·rw[if_neg h2]
   refine (zKU hL p0 q0 d0).trans (LeN.trans (LeN.of_le 0 λ M _=>?_) (zFV (zKU hL (n:=n2) p0 q0 d20)))
   have e2:((2:Int):Rat)=2:=rfl;have e1:((1:Int):Rat)=1:=rfl
   skip
   rw[e1,e2];grind
 ·have np:=Int.mul_pos (show 0<n by omega) d20
  have DP:0<n2:=Int.not_le.1 λ h=>by
   have b:=Yz (show 0 <= -n2 by omega) (show 0<=d by omega)
   have e : -n2*d = -(n2*d):=by grind
   omega
  rw[if_neg h1,if_neg (by omega)]
  exact zFV (zKV hL p0 q0 d20 d0 (zOE (by omega) hle))
def coN (P:Nat) (n d:Int):Nat:=(min (n/d) (P:Int)+1).toNat
def coX (P:Nat) (r s n d:Int) (_:Nat):Rat:=((zDT (zEO P r s) (coN P n d):Int):Rat)/((s ^ P:Int):Rat)
theorem zKK {n d n2 d2:Int} (d0:0<d) (d20:0<d2) (hle:n*d2<=n2*d):n/d<=n2/d2:=by
 refine Int.le_ediv_of_mul_le d20 ?_;have a:n/d*d<=n:=Int.ediv_mul_le n (by omega)
 have m:=Yt a (show 0<=d2 by omega)
 refine Int.le_of_mul_le_mul_right (a:=d) ?_ d0;have e:n/d*d2*d=n/d*d*d2:=by grind
 rw[e];omega
theorem zMN {P n:Nat} (h:n<=P) {r s:Int} (hr:0<=r) (hs:r<=s):0<=zEO P r s n:=by
 unfold zEO;rw[zOP h];exact (way_le h hr hs).1
theorem zF5 {P:Nat} {r s:Int} (hr:0<=r) (hs:r<=s) {i j:Nat} (pc:i<=j) (hj:j<=P+1):zDT (zEO P r s) i<=zDT (zEO P r s) j:=by
 induction j with
 | zero=>rw[show i=0 by omega];exact Int.le_refl _
 | succ j ih =>
  by_cases h:i=j+1
  ·rw[h];exact Int.le_refl _
  ·have:=ih (by omega) (by omega)
   have:=zMN (P:=P) (n:=j) (by omega) hr hs
   show _<=zDT (zEO P r s) j+zEO P r s j
   omega
theorem coX_mono {P:Nat} {r s n d n2 d2:Int} (hr:0<=r) (hs:r<=s) (s0:0<s) (d0:0<d) (d20:0<d2) (hle:n*d2<=n2*d):LeN (coX P r s n d) (coX P r s n2 d2):=by
 refine LeN.of_le 0 λ M _=>?_
 unfold coX;have sp:0<s ^ P:=Int.pow_pos s0;have q:=zKK d0 d20 hle;have c:=zF5 (P:=P) hr hs (i:=coN P n d) (j:=coN P n2 d2) (by unfold coN;omega) (by unfold coN;omega)
 exact zI0 sp sp (Yt c (by omega))
def raN (n d:Int):Nat:=(n/d+1).toNat
def raX (p q n d:Int) (M:Nat):Rat:=S (λ i=>zCY p q i M) (raN n d)
theorem raS_mono {p q:Int} (hp:0<=p) (hq:0<q) {i j:Nat} (pc:i<=j) (M:Nat) (hM:j<=M):S (λ i=>zCY p q i M) i<=S (λ i=>zCY p q i M) j:=by
 induction j with
 | zero=>rw[show i=0 by omega];exact Rat.le_refl
 | succ j ih =>
  by_cases h:i=j+1
  ·rw[h];exact Rat.le_refl
  ·have a:=ih (by omega) (by omega)
   have b:=(zN8 hp hq j M (by omega)).1
   show _<=S (λ i=>zCY p q i M) j+zCY p q j M
   grind
theorem raX_mono {p q n d n2 d2:Int} (hp:0<=p) (hq:0<q) (d0:0<d) (d20:0<d2) (hle:n*d2<=n2*d):LeN (raX p q n d) (raX p q n2 d2):=by
 have k:=zKK d0 d20 hle;exact LeN.of_le (raN n2 d2) λ M hM=>raS_mono hp hq (by unfold raN;omega) M hM
end Go.Proofs.YtgmnknmjainabacGreat
