/-
  Its own texts.
-/
import Derived.Test.YtgmnknmjainababGreatK10
set_option maxRecDepth 100000
set_option maxHeartbeats 40000000
set_option linter.unnecessarySimpa false
set_option linter.unusedSimpArgs false
set_option linter.unusedVariables false
namespace Go.Proofs.YtgmnknmjainababGreat
open Go.RowKit
attribute [local go_sem ↓] Go.wp_at_zero Go.wp_at_succ
theorem len_uniq {z l l':Int} (h:zDZ z l) (h':zDZ z l') (hz:0<=z):l=l':=by
 obtain⟨a1,a2,a3⟩:=h;obtain⟨b1,b2,b3⟩:=h'
 by_cases hp:0<z
 ·obtain⟨L,e1,e2,e3⟩:=a3 hp
  obtain⟨L',f1,f2,f3⟩:=b3 hp
  have:L=L':=by
   rcases Nat.lt_trichotomy L L' with h|h|h
   ·have:=zK (show L+1<=L' by omega);omega
   ·exact h
   ·have:=zK (show L'+1<=L by omega);omega
  omega
 ·have:=a2 (by omega);have:=b2 (by omega);omega
theorem exp_one {b N:Nat} {sm:Int × Int} (hb:16<=b) (hN:kG (zV b sm) N):1<=N:=by
 refine Nat.pos_of_ne_zero λ e=>?_
 have:=hN.1;rw[e] at this
 have h2:zP (zV b sm 0)=Q b:=by
  show zF7 (Q b) (-Q b)=Q b
  have:=zG b;unfold zF7;rw[if_neg (by omega)]
 rw[h2] at this;have:=zK hb;have:Q 16=65536:=rfl;omega
theorem zO9 {z l l' bt:Int} {b t:Nat} (h':zDZ z l') (h:zDZ z l) (ht:(t:Int)=max 0 (l-b+8)) (hb:bt=(b:Int)) (gP:b<=1000000) (vy:t<=1000000) (hz:0<=z) :
  (if 0<IntKind.i64.wrap (IntKind.i64.wrap (l'-bt)+8) then IntKind.i64.wrap (IntKind.i64.wrap (l'-bt)+8) else 0)=(t:Int):=by
 have e:=len_uniq h' h hz;have l0:=h.1;have l1:l<=3000000:=by omega
 subst e;rw[hb,jL (l'-b) (by omega) (by omega),jL (l'-b+8) (by omega) (by omega)]
 split<;>omega
theorem zGM (w:World) (s:Sp) (K b t N:Nat) (a:Int × Int) (l:Int) (hs:SpAt w s K a.1 a.2) (hbits:s.bits=(b:Int)) (hle:a.1<=a.2) (R0:16<=b) (hb:b<=1000000) (hl:zDZ (zP a) l) (ht:(t:Int)=max 0 (l-b+8)) (vy:t<=1000000)
  (hsm:Abs (zN a t) (Q (b-8))) (hN:kG (zV b (zN a t)) N) (hK:Q (b+eb t)<P K) (Z4:K<=10000000) :
  Calls Tryz.prog 147 #[.agg s.q] w (zJ w b K (sqI b (zT (zV b (zN a t)) N) t).1 (sqI b (zT (zV b (zN a t)) N) t).2):=by
 obtain⟨W,hW⟩:∃ W,W=(w.alloc (.cells s.q 28)).alloc (.cells zCq 28):=⟨_,rfl⟩;have b8:Below w.heap.size w W:=by rw[hW];exact bl2 _ _ _
 have A:SpC W w.heap.size s:=by rw[hW];constructor<;>simp[go_sem]
 have R:NoC W (w.heap.size+1):=by rw[hW];constructor<;>simp[go_sem]
 have HS:=zC (hs.bw b8);have lA:=A.lt;have lR:=R.lt;have HB:=zC hbits;have HT:=zC ht;have dh:=zAI hle;have HK:=zC (show ∀ w',Below W.heap.size W w'->(cK0 w' w.heap.size s) from λ w' hB=>⟨(A.bw hB).c0,(A.bw hB).c1,(A.bw hB).c2,(A.bw hB).c3,(A.bw hB).c4⟩)
 clear hs hbits ht
 go_enter Tryz.func147,Tryz.ntmps147
 go_wp2;rw[<- hW];clear hW;obtain⟨x0,x1,x2,x3,x4⟩:=zA HK _ (Below.refl _ _);have m8:Below W.heap.size W W.drew:=(Below.refl _ _).drew
 go_cut [3] (λ p wx=>p=.int .i64 (t:Int)/\Below W.heap.size W wx)
 case first =>
  go_region_held3 (λ w'=>cK0 w' w.heap.size s) (first|exact zA HK _ (by with_reducible first|exact m8|exact j9|exact j7)|(dsimp only[cK,cK0,nK,nK0,rK,rK0];go_keep)|go_keep)
   (first
    | (go_at_call 120;have hq:=j7;refine (zB2 _ _ _ _ _ (zP a) _ k9 dh).mono ?_;rintro r' w2 ⟨l',hlen,rfl,b9⟩;have j9:=zB j7 b9)
    | (go_at_call 175;refine (zBO _ s K _ _ ((zA HS).bw m8) (by omega)).mono ?_;rintro r' w1 ⟨g9,a1,n1,c1,rfl,k9,b7⟩;have j7:=zB m8 b7))
  all_goals go_wp2_with fail
  all_goals
   go_meet;refine⟨congrArg _ ?_,j9⟩;have e:=zO9 hlen hl (zA HT) (zA HB) hb vy dh;split at e<;>omega
 case rest =>
 obtain⟨rfl,C9⟩:=hcut;replace A:=A.bw C9;replace R:=R.bw C9;replace b8:=zB b8 C9;replace HS:=zC ((zA HS).bw C9);have lA:=A.lt;have lR:=R.lt;have HK:=zC (show ∀ w',Below wc.heap.size wc w'->(cK0 w' w.heap.size s) from λ w' hB=>⟨(A.bw hB).c0,(A.bw hB).c1,(A.bw hB).c2,(A.bw hB).c3,(A.bw hB).c4⟩)
 clear x0 x1 x2 x3 x4 m8 C9;obtain⟨x0,x1,x2,x3,x4⟩:=zA HK _ (Below.refl _ _);go_wp2_with fail
 go_cut [4] (λ p wx=>∃ (B:Nat) (u:Sp),p=.pointer (some ⟨B,0,none⟩)/\wc.heap.size<=B/\VrC wx B u/\SpAt wx u (K+5) (zN a t).1 (zN a t).2/\u.bits=(b:Int)/\Below wc.heap.size wc wx)
 case first =>
  go_region_held3 (λ w'=>cK0 w' w.heap.size s) (exact zA HK _ (by repeat' (first|with_reducible exact J9|with_reducible exact F9|with_reducible exact Below.refl _ _|with_reducible refine Below.drew ?_|with_reducible refine zL ?_ _|with_reducible refine Below.setCell ?_ (by first|exact XW _|exact F6|exact H6) _)))
   (first
    | (go_at_call 174;have hq:=F9;refine (zD2 _ _ _ _ K (t:Int) a.2 _ ((zA HS).hi.bw (by with_reducible first|exact F9|exact zL F9 _)) (by omega) (by omega) (by omega)).mono ?_;rintro r cw ⟨dB,DQ,DR,DS,rfl,R6,K4⟩;have O4:Below R7.heap.size R7 cw:=(by with_reducible first|exact K4|exact zB (bl1 _ _) K4);have J9:=zB F9 O4;(try with_reducible have vA:=(zM R7 28).bw K4);replace I9:=I9.bw O4;(try replace ma:=ma.bw O4);have H6:=J9.size;(try have DT:=ma.lt);(try have eU1:=Yj DT);(try have LO:=Yi DT);(try obtain⟨LP,LQ,LR,LS,LV,LW⟩:=ma);(try have DV:=vA.lt);(try have eU2:=Yj DV);(try have LX:=Yi DV);(try obtain⟨LY,LZ,Ma,Mb,Mc,Md⟩:=vA))
    | (go_at_call 105;refine (zEE _ _ _ _ K (t:Int) a.1 _ ((zA HS).lo.bw (by with_reducible first|exact (Below.refl _ _).drew|exact (bl1 _ _).drew)) (by omega) (by omega) (by omega)).mono ?_;rintro r R7 ⟨mb,Me,Mf,Mg,rfl,I9,H8⟩;have F9:Below wc.heap.size wc R7:=(by with_reducible first|exact zB (Below.refl _ _).drew H8|exact zB (bl1 _ _).drew H8);(try with_reducible have ma:=((zM wc 28).bw (Below.refl _ _).drew).bw H8);have F6:=F9.size))
  all_goals
   have hfinU:SpAt cw ⟨mb,Me,Mf,Mg,dB,DQ,DR,DS,s.bits⟩ (K+5) (zN a t).1 (zN a t).2:=⟨by rw[kK] at I9;exact I9.mono (by omega),by rw[kK] at R6;exact R6.mono (by omega)⟩
   go_wp2_with fail;go_meet;refine⟨_,⟨mb,Me,Mf,Mg,dB,DQ,DR,DS,s.bits⟩,rfl,?_,⟨⟨?_,?_,?_,?_,?_⟩,?_⟩,?_,zA HB,?_⟩
   ·first|exact XW _|exact F6|exact H6
   ·simp[go_sem, *]
   ·simp[go_sem, *]
   ·simp[go_sem, *]
   ·simp[go_sem, *]
   ·simp[go_sem, *]
   ·intro o;simp[go_sem, *]
   ·first|with_reducible exact hfinU.bw (bl1 _ _)|with_reducible exact SpAt.put5 hfinU (by assumption) (by assumption) (by assumption) (by assumption) (by assumption) _ _ _ _ _
   ·repeat' (first|with_reducible exact J9|with_reducible exact F9|with_reducible exact Below.refl _ _|with_reducible refine Below.drew ?_|with_reducible refine zL ?_ _|with_reducible refine Below.setCell ?_ (by first|exact XW _|exact F6|exact H6) _)
 case rest =>
 obtain⟨BU,xU,rfl,vB,XU,hpU,hxbU,hblU⟩:=hcut;replace A:=A.bw hblU;replace R:=R.bw hblU;replace b8:=zB b8 hblU;have lU:=XU.lt;have nRU:w.heap.size+1<BU:=by omega
 have IY:=A.lt;have Y1:=R.lt;have oI:=zC hxbU;have mf:=zC hpU;clear hxbU hpU HS HK x0 x1 x2 x3 x4 hblU;have x4:=A.c4;rw[zA HB] at x4;go_wp2_with fail;refine (zHH _ b hb).mono ?_;rintro r w1 ⟨v1,rfl,D6,F7,b7⟩;have Mh:=zG b
 have Mi:(zV b (zN a t) 0).1=1*Q b/1/\(zV b (zN a t) 0).2 = -(-(1*Q b)/1):=by
  constructor
  ·show Q b=_;omega
  ·show Q b=_;omega
 rw[<- Mi.1,<- Mi.2] at F7
 have mg:Q b*2<P K/\2*Q b+Q b<P K:=by
  have IZ:12<=eb t:=by have:=zFG (show 0<=t by omega);simpa [eb] using this
  have:=zK (show b+2<=b+eb t by omega)
  have e:Q (b+2)=2*(2*Q b):=rfl;omega
 have hT:=zC0 (by omega) hsm
 have hlT:=kY b (zN a t)
 have J1:∀ n,n<=N -> -P K<(zV b (zN a t) n).1/\(zV b (zN a t) n).2<P K:=λ n _=>by
  obtain⟨g1,g2,g3,g4⟩:=hT n;have:=zK (show b-8*n<=b by omega)
  omega
 have hfitS:∀ n,n<=N -> -P K<(jE (zV b (zN a t)) n).1/\(jE (zV b (zN a t)) n).2<P K:=λ n hn=>by
  obtain⟨g1,g2,g3,g4⟩:=zHI (s:=8) (by omega) hT hN n hn
  have:=zG (b-8*n);omega
 have rf:N<=1000000000:=by
  obtain⟨N',n1,n2⟩:=zDD (s:=8) (by omega) hT
  have:N<=N':=Nat.not_lt.1 λ E4=>by have:=hN.2 N' E4;have:=n2.1;omega
  omega
 replace F7:=F7.fits (K:=K) (hlT 0) (J1 0 (by omega)).1 (J1 0 (by omega)).2
 have gV:=zC hT;have pE:=zC hlT;have P7:=zC J1;have K3:=zC hfitS;have pF:=zC F7;have vC:=zC D6;have Bp:=zC mg;clear hT hlT J1 hfitS Mi F7 D6 mg;replace XU:=XU.bw b7;replace mf:=zC ((zA mf).bw b7);replace R:=R.bw b7;replace b8:=zB b8 b7;have lU3:=XU.lt;have lQ:=R.lt;clear b7 x4 A IY;go_wp2_with fail;refine (sum_exp _ (zV b (zN a t)) N b K (K+5+(K+5)+22) v1 _ (zA pF) (zA vC) hb (by omega) (by omega) hN rf (zA pE) (zA P7) (zA K3) (λ n u w' hn I0 E9 dD=>?_)).mono ?_
 ·exact exp1_iv w' BU u xU (K+5) b ((n:Int)+1) (zV b (zN a t) n) (zN a t) (E9.mono (by omega)) ((zA mf).bw dD) (XU.c.bw dD) (by omega) I0 hb (by omega) (by omega)
 rintro r w2 ⟨v2,rfl,G7,Y6,b9⟩;replace XU:=XU.bw b9;replace R:=R.bw b9;replace b8:=zB b8 b9;have Bo:=zF5 (zA pE) N;have Bq:=zH8 (s:=8) (by omega) (zA pE) (zA gV) hN
 replace Y6:=Y6.fits (K:=K) Bo (by have:=Bq.1;have:=zA Bp;omega) (by have:=Bq.2.2.2;have:=zA Bp;omega)
 have oA:=zC G7;clear G7 b9 pF vC Bo Bq;have lR4:=R.lt;go_wp2_with fail
 go_loopw [31] (λ ii wr=>∃ (i:Nat) (X:Sp),ii=.int .i64 (i:Int)/\i<=t/\VrC wr w2.heap.size X/\SpAt wr X K (sqI b (zT (zV b (zN a t)) N) i).1 (sqI b (zT (zV b (zN a t)) N) i).2/\X.bits=(b:Int)/\NoC wr (w.heap.size+1)/\Below w.heap.size w wr) (λ ii _=>t-(intOf ii).toNat)
 case atStart =>
  refine⟨0,v2,rfl,Nat.zero_le _,⟨⟨by simp[go_sem],by simp[go_sem],by simp[go_sem],by simp[go_sem],by simp[go_sem]⟩,λ o=>by simp[go_sem]⟩,Y6.bw (bl1 _ _),zA oA,R.bw (bl1 _ _),zL b8 _⟩
 case round =>
  obtain⟨i,X,rfl,hi,hX,hp,dE,hR,hB⟩:=hrel;have oI:=zC dE;clear dE;have lX:=hX.lt
  by_cases G4:i<t
  ·have Mj:(i:Int)<(t:Int):=by omega
   obtain⟨⟨x0,x1,x2,x3,x4⟩,x5⟩:=hX;go_wp2_with fail;refine (zLX _ X X K b _ _ hp hp (by omega) (zA oI) hb).mono ?_
   rintro r w3 ⟨v,rfl,I4,H5,k8⟩;have X3:=VrC.bw ⟨⟨x0,x1,x2,x3,x4⟩,x5⟩ k8;have R3:=hR.bw k8;have B3:=zB hB k8;have e:kJ b (sqI b (zT (zV b (zN a t)) N) i) (sqI b (zT (zV b (zN a t)) N) i)=sqI b (zT (zV b (zN a t)) N) (i+1):=rfl;rw[e] at H5;have IP:1<=N:=exp_one R0 hN;have ha:=zOA R0 (zIQ (s:=8) (by omega) (zA pE) (zA gV) hN IP) (i+1)
   have hm:=zK (show b+eb (i+1)<=b+eb t by have:=zFG (show i+1<=t by omega);omega)
   replace H5:=H5.fits (K:=K) (yK b) (by have:=ha.1;omega) (by have:=ha.2.2.2;omega)
   have HV:=zC I4;have nB:w.heap.size+1≠w2.heap.size:=by omega
   have stn:VrC (zQ w3 w2.heap.size v) w2.heap.size v/\SpAt (zQ w3 w2.heap.size v) v K (sqI b (zT (zV b (zN a t)) N) (i+1)).1 (sqI b (zT (zV b (zN a t)) N) (i+1)).2/\NoC (zQ w3 w2.heap.size v) (w.heap.size+1)/\Below w.heap.size w (zQ w3 w2.heap.size v):=⟨X3.put v,H5.put X3.c v,R3.off nB v,jC B3 (by omega) v⟩
   unfold zQ at stn;clear I4 k8 x0 x1 x2 x3 x4 x5 H5 ha hm;obtain⟨⟨x0,x1,x2,x3,x4⟩,x5⟩:=X3;go_wp2_with fail
   go_roundw
   case rel=>exact⟨i+1,v,by go_num,by omega,stn.1,stn.2.1,zA HV,stn.2.2.1,stn.2.2.2⟩
   case measure=>simp[intOf];omega
  ·have bg:i=t:=by omega
   subst bg;have Mj:¬ (i:Int)<(i:Int):=by omega
   obtain⟨⟨x0,x1,x2,x3,x4⟩,x5⟩:=hX;obtain⟨q0,q1,q2,q3,q4,q5⟩:=hR;go_wp2_with fail;refine bodyPost_ret (v:=.agg X.q) (by simp[results,Tryz.results147,go_sem,q0,q1,q2,q3,q4]) rfl ⟨X,rfl,zA oI,?_,?_⟩
   ·exact SpAt.put5 hp q0 q1 q2 q3 q4 _ _ _ _ _
   ·exact kB hB (Yh _) _ _ _ _ _
def zDH (p q n:Int):Bool:=decide (-(n*q)<=p) && decide (p<=n*q)
theorem zGL (p q n:Int) (w:World) (tI:0<=n) (hn:n<=100000) (oz:1<=q) (hq:q<=1024) :
  Calls Tryz.prog 151 #[.agg #[.int .i64 p,.int .i64 q],.int .i64 n] w λ r w'=>r=.returned (.bool (zDH p q n))/\Below w.heap.size w w':=by
 have e : -n*q = -(n*q):=Int.neg_mul _ _;have b1:0<=n*q:=Yb tI (by omega)
 have b2:n*q<=102400000:=Int.le_trans (Int.mul_le_mul hn hq (by omega) (by omega)) (by decide)
 by_cases h1 : -(n*q)<=p
 ·go_enter Tryz.func151,Tryz.ntmps151
  go_wp2
  go_ret
  exact⟨by simp[zDH,h1];try omega,bl1 _ _⟩
 ·go_enter Tryz.func151,Tryz.ntmps151
  go_wp2
  go_ret
  exact⟨by simp[zDH,h1];try omega,bl1 _ _⟩
theorem len_ex {z:Int} (hz:0<=z) {e:Nat} (he:z<Q e):∃ l,zDZ z l/\l<=e/\z<Q l.toNat:=by
 by_cases hp:0<z
 ·have key:∀ e:Nat,z<Q e->∃ L:Nat,L+1<=e/\Q L<=z/\z<Q (L+1):=λ e=>by
   induction e with
   | zero=>intro h;simp[Q] at h;omega
   | succ e ih =>
    intro h
    by_cases hq:Q e<=z
    ·exact⟨e,XW _,hq,h⟩
    ·obtain⟨L,h1,h2⟩:=ih (by omega)
     exact⟨L,by omega,h2⟩
  obtain⟨L,h1,h2,h3⟩:=key e he;exact⟨(L:Int)+1,⟨by omega,λ h=>by omega,λ _=>⟨L,rfl,h2,h3⟩⟩,by omega,by rw[show ((L:Int)+1).toNat=L+1 by omega];exact h3⟩
 ·have:z=0:=by omega
  subst this;exact⟨0,⟨by omega,λ _=>rfl,λ h=>by omega⟩,by omega,by simp[Q]⟩
theorem zRK {B e:Nat} {a:Int × Int} (hB:16<=B) (ha:a.1<=a.2) (h:zP a<Q (B+e)) :
  ∃ (l:Int) (t N:Nat),zDZ (zP a) l/\(t:Int)=max 0 (l-B+8)/\t<=e+8/\Abs (zN a t) (Q (B-8))/\kG (zV B (zN a t)) N:=by
 obtain⟨l,h1,h2,h3⟩:=len_ex (zAI ha) h;obtain⟨t,ht⟩:∃ t:Nat,(t:Int)=max 0 (l-B+8):=⟨(max 0 (l-(B:Int)+8)).toNat,by omega⟩
 have hA:Abs (zN a t) (Q (B-8)):=by
  obtain⟨g1,g2,g3,g4⟩:=zCU ha;have q:=zG t;have hm:=zK (show l.toNat<=B-8+t by omega)
  rw[jD] at hm;have r1:=jA (x:=a.1) (m:=Q (B-8)) (q:=Q t) (by omega) (by omega) (by omega)
  have r2:=jA (x:=a.2) (m:=Q (B-8)) (q:=Q t) (by omega) (by omega) (by omega)
  exact⟨r1.1,r1.2.1,r2.2.2.1,r2.2.2.2⟩
 obtain⟨N,n1,n2⟩:=zDD (s:=8) (by omega) (zC0 (by omega) hA)
 exact⟨l,t,N,h1,ht,by omega,hA,n2⟩
structure RaC (w:World) (B:Nat) (p q:Int):Prop where
 c0:w.cell? ⟨B,0,none⟩=some (.int .i64 p)
 c1:w.cell? ⟨B,1,none⟩=some (.int .i64 q)
theorem RaC.lt {w:World} {B:Nat} {p q:Int} (h:RaC w B p q):B<w.heap.size:=World.block_lt_of_cell? w ⟨B,0,none⟩ h.c0
theorem RaC.bw {w w':World} {B:Nat} {p q:Int} (h:RaC w B p q) (hb:Below w.heap.size w w'):RaC w' B p q :=
 ⟨(hb.cell (p:=⟨B,0,none⟩) h.lt).trans h.c0,(hb.cell (p:=⟨B,1,none⟩) h.lt).trans h.c1⟩
theorem zO5 (w:World) (p q:Int) (T:TypeId):RaC (w.alloc (.cells #[.int .i64 p,.int .i64 q] T)) w.heap.size p q:=⟨by simp,by simp⟩
theorem zDS (w:World) (n:Int) (b:Nat) (hb:b<=100000) (h0 : -9223372036854775808<=n) (h1:n<=9223372036854775807) :
  Calls Tryz.prog 27 #[.int .i64 n,.int .i64 b] w (zJ w b (b/16+18) (n*Q b) (n*Q b)):=by
 have R:=zM w 36
 go_enter Tryz.func27,Tryz.ntmps27
 go_wp2_with fail;refine (zD n _ h0 h1).mono ?_;rintro r' w1 ⟨g9,a1,n1,c1,rfl,k9,b7⟩;replace R:=R.bw b7;have hB:Below w.heap.size w w1:=zB (bl1 _ _) b7;clear b7;go_wp2_with fail;refine (zD 1 _ (by decide) (by decide)).mono ?_
 rintro r' w2 ⟨b6,a2,n2,c2,rfl,o0,b9⟩;replace R:=R.bw b9;replace hB:=zB hB b9;replace k9:=k9.bw b9;clear b9;go_wp2_with fail;refine (zCA _ _ _ _ _ _ _ _ 4 4 b n 1 _ k9 o0 (by omega) (by omega) hb (by decide) (λ j8 a' n' m7 w' p1 p2=>yH _ _ _ _ _ _ _ _ _ 4 _ _ w' p1 p2 (by omega) (by decide))).mono ?_
 rintro r' w3 ⟨u,rfl,I0,E9,k8⟩;have e1:n*Q b/1=n*Q b:=Int.ediv_one _;have e2 : -(-(n*Q b)/1)=n*Q b:=by rw[Int.ediv_one];omega
 rw[e1,e2] at E9;obtain⟨q0,q1,q2,q3,q4,q5⟩:=R.bw k8;replace hB:=zB hB k8;have HU:=zC I0;clear I0 e1 e2;go_wp2_with fail;refine bodyPost_ret (v:=.agg u.q) (by simp[results,Tryz.results27,go_sem,q0,q1,q2,q3,q4]) rfl ⟨u,rfl,zA HU,?_,?_⟩
 ·exact SpAt.put5 (E9.mono (by omega)) q0 q1 q2 q3 q4 _ _ _ _ _
 ·exact kB hB (XW _) _ _ _ _ _
theorem zF6 (w:World) (s:Sp) (k:Nat) (n lo hi:Int) (hs:SpAt w s k lo hi) (hk:k<=300000000) (Iq:4<=k) (h0 : -9223372036854775808<=n) (h1:n<=9223372036854775807) :
  Calls Tryz.prog 123 #[.agg s.q,.int .i64 n] w (zJ w s.bits (k+1) (lo-n) (hi+n)):=by
 obtain⟨W,hW⟩:∃ W,W=(w.alloc (.cells s.q 36)).alloc (.cells zCq 36):=⟨_,rfl⟩;have b8:Below w.heap.size w W:=by rw[hW];exact bl2 _ _ _
 have A:SpC W w.heap.size s:=by rw[hW];constructor<;>simp[go_sem]
 have R:NoC W (w.heap.size+1):=by rw[hW];constructor<;>simp[go_sem]
 have HS:=zC (hs.bw b8);have lR:=R.lt;have HK:=zC (show ∀ w',Below W.heap.size W w'->(cK0 w' w.heap.size s) from λ w' hB=>⟨(A.bw hB).c0,(A.bw hB).c1,(A.bw hB).c2,(A.bw hB).c3,(A.bw hB).c4⟩)
 clear A hs
 go_enter Tryz.func123,Tryz.ntmps123
 go_wp2;rw[<- hW];clear hW;have IW:w.heap.size≠w.heap.size+1:=by omega
 have lq:w.heap.size+1≠w.heap.size:=by omega
 obtain⟨x0,x1,x2,x3,x4⟩:=zA HK _ (Below.refl _ _);have m8:Below W.heap.size W W.drew:=(Below.refl _ _).drew
 go_region_held3 (λ w'=>cK0 w' w.heap.size s) (first|exact zA HK _ (by with_reducible first|exact m8|exact C8|exact y9|exact j9|exact j7)|(dsimp only[cK,cK0,nK,nK0,rK,rK0];go_keep)|go_keep)
  (first
   | (go_at_call 65;have hq:=y9;refine (kX _ _ _ _ _ _ _ _ k 4 hi n _ ((zA HS).hi.bw y9) A8 (by omega) (by omega)).mono ?_;rintro r' w4 ⟨o9,a4,n4,c4,rfl,D9,m9⟩;have C8:=zB y9 m9;replace o0:=(o0.bw k8).bw m9;obtain⟨q0,q1,q2,q3,q4,q5⟩:=R.bw C8;obtain⟨y0,y1,y2,y3,y4⟩:=zA HK _ C8)
   | (go_at_call 43;have hq:=j9;refine (zD n _ h0 h1).mono ?_;rintro r' w3 ⟨p9,a3,n3,c3,rfl,A8,k8⟩;have y9:=zB j9 k8)
   | (go_at_call 72;have hq:=j7;refine (zAD _ _ _ _ _ _ _ _ k 4 lo n _ ((zA HS).lo.bw j7) k9 (by omega) (by omega)).mono ?_;rintro r' w2 ⟨b6,a2,n2,c2,rfl,o0,b9⟩;have j9:=zB j7 b9)
   | (go_at_call 43;refine (zD n _ h0 h1).mono ?_;rintro r' w1 ⟨g9,a1,n1,c1,rfl,k9,b7⟩;have j7:=zB m8 b7))
 all_goals
  go_wp2_with fail;refine bodyPost_ret (v:=.agg #[.bool b6,.slice a2 n2 c2,.bool o9,.slice a4 n4 c4,.int .i64 s.bits]) (by simp[results,Tryz.results123,go_sem,q0,q1,q2,q3,q4]) rfl ⟨⟨b6,a2,n2,c2,o9,a4,n4,c4,s.bits⟩,rfl,rfl,?_,?_⟩
  ·exact SpAt.put5 ⟨o0.mono (by omega),D9.mono (by omega)⟩ q0 q1 q2 q3 q4 _ _ _ _ _
  ·exact kB (zB b8 C8) (Yh _) _ _ _ _ _
def zA6 (lo hi n:Int):Bool:=decide (hi<=n) && decide (-n<=lo)
theorem cmp3 (x y:Int):(zF x y = -1/\x<y)\/(zF x y=0/\x=y)\/(zF x y=1/\y<x):=by
 unfold zF;split
 ·exact Or.inl ⟨rfl,by assumption⟩
 ·split
  ·exact Or.inr (Or.inr ⟨rfl,by assumption⟩)
  ·exact Or.inr (Or.inl ⟨rfl,by omega⟩)
theorem zM2 (w:World) (s:Sp) (k:Nat) (n lo hi:Int) (hs:SpAt w s k lo hi) (h0 : -1000000000<=n) (h1:n<=1000000000) (hc:zF hi n = -1) (hh:hi<=n) :
  Calls Tryz.prog 122 #[.agg s.q,.int .i64 n] w λ r w'=>r=.returned (.bool (zA6 lo hi n))/\Below w.heap.size w w':=by
 obtain⟨W,hW⟩:∃ W,W=w.alloc (.cells s.q 36):=⟨_,rfl⟩;have b8:Below w.heap.size w W:=by rw[hW];exact bl1 _ _
 have A:SpC W w.heap.size s:=by rw[hW];exact zA0 w s _
 have HS:=zC (hs.bw b8);have HK:=zC (show ∀ w',Below W.heap.size W w'->(cK0 w' w.heap.size s) from λ w' hB=>⟨(A.bw hB).c0,(A.bw hB).c1,(A.bw hB).c2,(A.bw hB).c3,(A.bw hB).c4⟩)
 clear A hs
 have HE:=zC (show decide (0<=zF lo (-n))=zA6 lo hi n by
  unfold zA6;rw[Bool.eq_iff_iff,Bool.and_eq_true,decide_eq_true_iff,decide_eq_true_iff,decide_eq_true_iff];unfold zF;constructor
  ·intro h;refine⟨hh,?_⟩;split at h<;>omega
  ·intro h;rw[if_neg (by omega)];split<;>omega)
 have HW:=zC (show IntKind.i64.wrap (-n) = -n from jL _ (by omega) (by omega))
 have HC:=zC hc;clear hh hc
 go_enter Tryz.func122,Tryz.ntmps122
 go_wp2;rw[<- hW];clear hW;obtain⟨x0,x1,x2,x3,x4⟩:=zA HK _ (Below.refl _ _);have m8:Below W.heap.size W W.drew:=(Below.refl _ _).drew
 go_region_held3 (λ w'=>cK0 w' w.heap.size s) (first|exact zA HK _ (by with_reducible first|exact m8|exact C8|exact y9|exact j9|exact j7)|(dsimp only[cK,cK0,nK,nK0,rK,rK0];go_keep)|go_keep)
  (first
   | (go_at_call 46;have hq:=y9;refine (zU _ _ _ _ _ _ _ _ _ _ lo (-n) _ ((zA HS).lo.bw y9) A8).mono ?_;rintro r' w4 ⟨rfl,m9⟩;have C8:=zB y9 m9)
   | (go_at_call 43;have hq:=j9;rw[zA HW];refine (zD (-n) _ (by omega) (by omega)).mono ?_;rintro r' w3 ⟨p9,a3,n3,c3,rfl,A8,k8⟩;have y9:=zB j9 k8)
   | (go_at_call 46;have hq:=j7;refine (zU _ _ _ _ _ _ _ _ _ _ hi n _ ((zA HS).hi.bw j7) k9).mono ?_;rintro r' w2 ⟨rfl,b9⟩;rw[zA HC];have j9:=zB j7 b9)
   | (go_at_call 43;refine (zD n _ (by omega) (by omega)).mono ?_;rintro r' w1 ⟨g9,a1,n1,c1,rfl,k9,b7⟩;have j7:=zB m8 b7))
 all_goals
  go_wp2_with fail
  go_ret
  exact⟨by rw[<- zA HE];rfl,zB b8 C8⟩
theorem zNN (w:World) (s:Sp) (k:Nat) (n lo hi:Int) (hs:SpAt w s k lo hi) (h0 : -1000000000<=n) (h1:n<=1000000000) (hc:zF hi n=0) (hh:hi<=n) :
  Calls Tryz.prog 122 #[.agg s.q,.int .i64 n] w λ r w'=>r=.returned (.bool (zA6 lo hi n))/\Below w.heap.size w w':=by
 obtain⟨W,hW⟩:∃ W,W=w.alloc (.cells s.q 36):=⟨_,rfl⟩;have b8:Below w.heap.size w W:=by rw[hW];exact bl1 _ _
 have A:SpC W w.heap.size s:=by rw[hW];exact zA0 w s _
 have HS:=zC (hs.bw b8);have HK:=zC (show ∀ w',Below W.heap.size W w'->(cK0 w' w.heap.size s) from λ w' hB=>⟨(A.bw hB).c0,(A.bw hB).c1,(A.bw hB).c2,(A.bw hB).c3,(A.bw hB).c4⟩)
 clear A hs
 have HE:=zC (show decide (0<=zF lo (-n))=zA6 lo hi n by
  unfold zA6;rw[Bool.eq_iff_iff,Bool.and_eq_true,decide_eq_true_iff,decide_eq_true_iff,decide_eq_true_iff];unfold zF;constructor
  ·intro h;refine⟨hh,?_⟩;split at h<;>omega
  ·intro h;rw[if_neg (by omega)];split<;>omega)
 have HW:=zC (show IntKind.i64.wrap (-n) = -n from jL _ (by omega) (by omega))
 have HC:=zC hc;clear hh hc
 go_enter Tryz.func122,Tryz.ntmps122
 go_wp2;rw[<- hW];clear hW;obtain⟨x0,x1,x2,x3,x4⟩:=zA HK _ (Below.refl _ _);have m8:Below W.heap.size W W.drew:=(Below.refl _ _).drew
 go_region_held3 (λ w'=>cK0 w' w.heap.size s) (first|exact zA HK _ (by with_reducible first|exact m8|exact C8|exact y9|exact j9|exact j7)|(dsimp only[cK,cK0,nK,nK0,rK,rK0];go_keep)|go_keep)
  (first
   | (go_at_call 46;have hq:=y9;refine (zU _ _ _ _ _ _ _ _ _ _ lo (-n) _ ((zA HS).lo.bw y9) A8).mono ?_;rintro r' w4 ⟨rfl,m9⟩;have C8:=zB y9 m9)
   | (go_at_call 43;have hq:=j9;rw[zA HW];refine (zD (-n) _ (by omega) (by omega)).mono ?_;rintro r' w3 ⟨p9,a3,n3,c3,rfl,A8,k8⟩;have y9:=zB j9 k8)
   | (go_at_call 46;have hq:=j7;refine (zU _ _ _ _ _ _ _ _ _ _ hi n _ ((zA HS).hi.bw j7) k9).mono ?_;rintro r' w2 ⟨rfl,b9⟩;rw[zA HC];have j9:=zB j7 b9)
   | (go_at_call 43;refine (zD n _ (by omega) (by omega)).mono ?_;rintro r' w1 ⟨g9,a1,n1,c1,rfl,k9,b7⟩;have j7:=zB m8 b7))
 all_goals
  go_wp2_with fail
  go_ret
  exact⟨by rw[<- zA HE];rfl,zB b8 C8⟩
theorem zM3 (w:World) (s:Sp) (k:Nat) (n lo hi:Int) (hs:SpAt w s k lo hi) (h0 : -1000000000<=n) (h1:n<=1000000000) (hc:zF hi n=1) (hh:¬ hi<=n) :
  Calls Tryz.prog 122 #[.agg s.q,.int .i64 n] w λ r w'=>r=.returned (.bool (zA6 lo hi n))/\Below w.heap.size w w':=by
 obtain⟨W,hW⟩:∃ W,W=w.alloc (.cells s.q 36):=⟨_,rfl⟩;have b8:Below w.heap.size w W:=by rw[hW];exact bl1 _ _
 have A:SpC W w.heap.size s:=by rw[hW];exact zA0 w s _
 have HS:=zC (hs.bw b8);have HK:=zC (show ∀ w',Below W.heap.size W w'->(cK0 w' w.heap.size s) from λ w' hB=>⟨(A.bw hB).c0,(A.bw hB).c1,(A.bw hB).c2,(A.bw hB).c3,(A.bw hB).c4⟩)
 clear A hs;have HE:=zC (show zA6 lo hi n=false by unfold zA6;rw[decide_eq_false hh];rfl)
 have HC:=zC hc;clear hh hc
 go_enter Tryz.func122,Tryz.ntmps122
 go_wp2;rw[<- hW];clear hW;obtain⟨x0,x1,x2,x3,x4⟩:=zA HK _ (Below.refl _ _);have m8:Below W.heap.size W W.drew:=(Below.refl _ _).drew;refine wp_region_held_drew (S:=λ w'=>cK0 w' w.heap.size s) (by kernel_rfl) ⟨(zA HK _ m8).1,(zA HK _ m8).2.1,(zA HK _ m8).2.2.1,(zA HK _ m8).2.2.2.1,(zA HK _ m8).2.2.2.2⟩ (λ hHeld=>?_)
 refine wpAnyH_take (i:=0) (oi:={ dst:=some 5,op:=Go.Op.fieldAddr 36 (Go.Operand.tmp 2) 1,type:=0,pos := "func.go:26",after:=#[],guard:=none }) (v:=.pointer (some ⟨w.heap.size,2,none⟩)) rfl (by kernel_rfl) (by kernel_rfl) (by kernel_rfl) (λ _ _ _ h=>h) (Or.inl ⟨by rfl,λ w hSw=>?_⟩) hHeld ?_
 ·obtain⟨s0,s1,s2,s3,s4⟩:=hSw;go_simp
 try simp only[Act.put,XH,XI,XJ]
 refine wpAnyH_take (i:=1) (oi:={ dst:=some 6,op:=Go.Op.load 26 (Go.Operand.tmp 5),type:=26,pos := "func.go:26",after:=#[{ on:=0,ground:=Go.Ground.data }],guard:=none }) (v:=.agg #[.bool s.hn,.slice s.ha s.hN s.hc]) rfl (by kernel_rfl) (by kernel_rfl) (by kernel_rfl) (λ _ _ _ h=>h) (Or.inl ⟨by rfl,λ w hSw=>?_⟩) hHeld ?_
 ·obtain⟨s0,s1,s2,s3,s4⟩:=hSw;go_simp
 try simp only[Act.put,XH,XI,XJ]
 refine wpAnyH_take (i:=2) (oi:={ dst:=some 7,op:=Go.Op.move (Go.Operand.tmp 1),type:=3,pos := "func.go:26",after:=#[],guard:=none }) (v:=.int .i64 n) rfl (by kernel_rfl) (by kernel_rfl) (by kernel_rfl) (λ _ _ _ h=>h) (Or.inl ⟨by rfl,λ w hSw=>?_⟩) hHeld ?_
 ·obtain⟨s0,s1,s2,s3,s4⟩:=hSw;go_simp
 try simp only[Act.put,XH,XI,XJ]
 refine wpAnyH_ready (rs:=[3]) (by kernel_rfl) (by simp) ?_
 refine AllReadyH.cons (o:={ dst:=some 8,op:=Go.Op.call { callee:=Go.Callee.value (Go.Operand.func 43),args:=#[Go.Operand.tmp 7],argTypes:=#[3] },type:=26,pos := "func.go:26",after:=#[{ on:=2,ground:=Go.Ground.data }],guard:=none }) rfl (λ K hK=>?_) AllReadyH.nil
 go_simp
 refine (zD n _ (by omega) (by omega)).mono ?_
 rintro r' w1 ⟨g9,a1,n1,c1,rfl,k9,b7⟩;have j7:Below W.heap.size W w1:=zB m8 b7;go_wp2_with fail;refine hK.out _ _ ⟨(zA HK _ j7).1,(zA HK _ j7).2.1,(zA HK _ j7).2.2.1,(zA HK _ j7).2.2.2.1,(zA HK _ j7).2.2.2.2⟩ (λ hHeld=>?_)
 clear hK K
 try simp only[Act.put,XH,XI,XJ]
 refine wpAnyH_ready (rs:=[4]) (by kernel_rfl) (by simp) ?_
 refine AllReadyH.cons (o:={ dst:=some 9,op:=Go.Op.call { callee:=Go.Callee.value (Go.Operand.func 46),args:=#[Go.Operand.tmp 6,Go.Operand.tmp 8],argTypes:=#[26,26] },type:=3,pos := "func.go:26",after:=#[{ on:=1,ground:=Go.Ground.data },{ on:=3,ground:=Go.Ground.data },{ on:=3,ground:=Go.Ground.chain }],guard:=none }) rfl (λ K hK=>?_) AllReadyH.nil
 go_simp
 refine (zU _ _ _ _ _ _ _ _ _ _ hi n _ ((zA HS).hi.bw j7) k9).mono ?_;rintro r' w2 ⟨rfl,b9⟩;rw[zA HC];have j9:=zB j7 b9;go_wp2_with fail;refine hK.out _ _ ⟨(zA HK _ j9).1,(zA HK _ j9).2.1,(zA HK _ j9).2.2.1,(zA HK _ j9).2.2.2.1,(zA HK _ j9).2.2.2.2⟩ (λ hHeld=>?_)
 clear hK K
 try simp only[Act.put,XH,XI,XJ]
 refine wpAnyH_take (i:=5) (oi:={ dst:=some 10,op:=Go.Op.binOp Go.BinOp.leq 3 (Go.Operand.tmp 9) (Go.Operand.const (Go.Value.int Go.IntKind.i64 0)) 3,type:=4,pos := "func.go:26",after:=#[{ on:=4,ground:=Go.Ground.data }],guard:=none }) (v:=.bool false) rfl (by kernel_rfl) (by kernel_rfl) (by kernel_rfl) (λ _ _ _ h=>h) (Or.inl ⟨by rfl,λ w hSw=>?_⟩) hHeld ?_
 ·obtain⟨s0,s1,s2,s3,s4⟩:=hSw;go_simp
 try simp only[Act.put,XH,XI,XJ]
 refine wpAnyH_take (i:=6) (oi:={ dst:=some 11,op:=Go.Op.move (Go.Operand.tmp 10),type:=4,pos := "func.go:26",after:=#[{ on:=5,ground:=Go.Ground.data },{ on:=4,ground:=Go.Ground.chain }],guard:=none }) (v:=.bool false) rfl (by kernel_rfl) (by kernel_rfl) (by kernel_rfl) (λ _ _ _ h=>h) (Or.inl ⟨by rfl,λ w hSw=>?_⟩) hHeld ?_
 ·obtain⟨s0,s1,s2,s3,s4⟩:=hSw;go_simp
 try simp only[Act.put,XH,XI,XJ]
 refine wpAnyH_take (i:=7) (oi:={ dst:=some 12,op:=Go.Op.fieldAddr 36 (Go.Operand.tmp 2) 0,type:=0,pos := "func.go:26",after:=#[{ on:=6,ground:=Go.Ground.guard }],guard:=some (6,true) }) (v:=undef) rfl (by kernel_rfl) (by kernel_rfl) (by kernel_rfl) (λ _ _ _ h=>h) (Or.inr ⟨by rfl,rfl⟩) hHeld ?_
 try simp only[Act.put,XH,XI,XJ]
 refine wpAnyH_take (i:=8) (oi:={ dst:=some 13,op:=Go.Op.load 26 (Go.Operand.tmp 12),type:=26,pos := "func.go:26",after:=#[{ on:=7,ground:=Go.Ground.data },{ on:=6,ground:=Go.Ground.guard }],guard:=some (6,true) }) (v:=undef) rfl (by kernel_rfl) (by kernel_rfl) (by kernel_rfl) (λ _ _ _ h=>h) (Or.inr ⟨by rfl,rfl⟩) hHeld ?_
 try simp only[Act.put,XH,XI,XJ]
 refine wpAnyH_take (i:=9) (oi:={ dst:=some 14,op:=Go.Op.move (Go.Operand.tmp 1),type:=3,pos := "func.go:26",after:=#[{ on:=6,ground:=Go.Ground.guard }],guard:=some (6,true) }) (v:=undef) rfl (by kernel_rfl) (by kernel_rfl) (by kernel_rfl) (λ _ _ _ h=>h) (Or.inr ⟨by rfl,rfl⟩) hHeld ?_
 try simp only[Act.put,XH,XI,XJ]
 refine wpAnyH_take (i:=10) (oi:={ dst:=some 15,op:=Go.Op.unOp Go.UnOp.neg 3 (Go.Operand.tmp 14),type:=3,pos := "func.go:26",after:=#[{ on:=9,ground:=Go.Ground.data },{ on:=6,ground:=Go.Ground.guard }],guard:=some (6,true) }) (v:=undef) rfl (by kernel_rfl) (by kernel_rfl) (by kernel_rfl) (λ _ _ _ h=>h) (Or.inr ⟨by rfl,rfl⟩) hHeld ?_
 try simp only[Act.put,XH,XI,XJ]
 refine wpAnyH_take (i:=11) (oi:={ dst:=some 16,op:=Go.Op.call { callee:=Go.Callee.value (Go.Operand.func 43),args:=#[Go.Operand.tmp 15],argTypes:=#[3] },type:=26,pos := "func.go:26",after:=#[{ on:=10,ground:=Go.Ground.data },{ on:=6,ground:=Go.Ground.chain },{ on:=6,ground:=Go.Ground.guard }],guard:=some (6,true) }) (v:=undef) rfl (by kernel_rfl) (by kernel_rfl) (by kernel_rfl) (λ _ _ _ h=>h) (Or.inr ⟨by rfl,rfl⟩) hHeld ?_
 try simp only[Act.put,XH,XI,XJ]
 refine wpAnyH_take (i:=12) (oi:={ dst:=some 17,op:=Go.Op.call { callee:=Go.Callee.value (Go.Operand.func 46),args:=#[Go.Operand.tmp 13,Go.Operand.tmp 16],argTypes:=#[26,26] },type:=3,pos := "func.go:26",after:=#[{ on:=8,ground:=Go.Ground.data },{ on:=11,ground:=Go.Ground.data },{ on:=11,ground:=Go.Ground.chain },{ on:=6,ground:=Go.Ground.guard }],guard:=some (6,true) }) (v:=undef) rfl (by kernel_rfl) (by kernel_rfl) (by kernel_rfl) (λ _ _ _ h=>h) (Or.inr ⟨by rfl,rfl⟩) hHeld ?_
 try simp only[Act.put,XH,XI,XJ]
 refine wpAnyH_take (i:=13) (oi:={ dst:=some 18,op:=Go.Op.binOp Go.BinOp.geq 3 (Go.Operand.tmp 17) (Go.Operand.const (Go.Value.int Go.IntKind.i64 0)) 3,type:=4,pos := "func.go:26",after:=#[{ on:=12,ground:=Go.Ground.data },{ on:=6,ground:=Go.Ground.guard }],guard:=some (6,true) }) (v:=undef) rfl (by kernel_rfl) (by kernel_rfl) (by kernel_rfl) (λ _ _ _ h=>h) (Or.inr ⟨by rfl,rfl⟩) hHeld ?_
 try simp only[Act.put,XH,XI,XJ]
 refine wpAnyH_take (i:=14) (oi:={ dst:=some 19,op:=Go.Op.pick (Go.Operand.tmp 11) (Go.Operand.tmp 18) (Go.Operand.const (Go.Value.bool false)),type:=4,pos := "func.go:26",after:=#[{ on:=6,ground:=Go.Ground.data },{ on:=13,ground:=Go.Ground.data }],guard:=none }) (v:=.bool false) rfl (by kernel_rfl) (by kernel_rfl) (by kernel_rfl) (λ _ _ _ h=>h) (Or.inl ⟨by rfl,λ w hSw=>?_⟩) hHeld ?_
 ·obtain⟨s0,s1,s2,s3,s4⟩:=hSw;go_simp
 try simp only[Act.put,XH,XI,XJ]
 refine wpAnyH_take (i:=15) (oi:={ dst:=some 4,op:=Go.Op.assign (Go.Operand.tmp 19),type:=4,pos := "func.go:26",after:=#[{ on:=14,ground:=Go.Ground.data },{ on:=12,ground:=Go.Ground.chain },{ on:=0,ground:=Go.Ground.phase },{ on:=1,ground:=Go.Ground.phase },{ on:=2,ground:=Go.Ground.phase },{ on:=3,ground:=Go.Ground.phase },{ on:=4,ground:=Go.Ground.phase },{ on:=5,ground:=Go.Ground.phase },{ on:=6,ground:=Go.Ground.phase },{ on:=7,ground:=Go.Ground.phase },{ on:=8,ground:=Go.Ground.phase },{ on:=9,ground:=Go.Ground.phase },{ on:=10,ground:=Go.Ground.phase },{ on:=11,ground:=Go.Ground.phase },{ on:=12,ground:=Go.Ground.phase },{ on:=13,ground:=Go.Ground.phase },{ on:=14,ground:=Go.Ground.phase }],guard:=none }) (v:=.bool false) rfl (by kernel_rfl) (by kernel_rfl) (by kernel_rfl) (λ _ _ _ h=>h) (Or.inl ⟨by rfl,λ w hSw=>?_⟩) hHeld ?_
 ·obtain⟨s0,s1,s2,s3,s4⟩:=hSw;go_simp
 try simp only[Act.put,XH,XI,XJ]
 refine wpAnyH_done (by kernel_rfl) ?_ _
 go_wp2_with fail
 go_ret
 exact⟨by rw[zA HE];rfl,zB b8 j9⟩
theorem zDR (w:World) (s:Sp) (k:Nat) (n lo hi:Int) (hs:SpAt w s k lo hi) (h0 : -1000000000<=n) (h1:n<=1000000000) :
  Calls Tryz.prog 122 #[.agg s.q,.int .i64 n] w λ r w'=>r=.returned (.bool (zA6 lo hi n))/\Below w.heap.size w w':=by
 rcases cmp3 hi n with⟨h2,h3⟩|⟨h2,h3⟩|⟨h2,h3⟩
 ·exact zM2 w s k n lo hi hs h0 h1 h2 (by omega)
 ·exact zNN w s k n lo hi hs h0 h1 h2 (by omega)
 ·exact zM3 w s k n lo hi hs h0 h1 h2 (by omega)
def byI (a:Int × Int) (n d:Int):Int × Int:=(jB (pr (a.1*n) (a.2*n)) 1/d,-(-(jP (pr (a.1*n) (a.2*n)) 1)/d))
theorem zA7 {a:Int × Int} {n d:Int} (ha:a.1<=a.2) (hn:0<=n):byI a n d=zE a n d:=by
 have h:=XK ha hn
 have e1:jB (pr (a.1*n) (a.2*n)) 1=a.1*n:=by
  simp only[jB,pr];simp;omega
 have e2:jP (pr (a.1*n) (a.2*n)) 1=a.2*n:=by
  simp only[jP,pr];simp;omega
 unfold byI zE;rw[e1,e2]
theorem zGG (w:World) (s:Sp) (x y:Nm) (k k1 k2 b:Nat) (a:Int × Int) (n d:Int) (hs:SpAt w s k a.1 a.2) (hx:IntAt w x.neg x.a x.n x.cap k1 n) (hy:IntAt w y.neg y.a y.n y.cap k2 d) (hk:k<=100000000) (S7:k1<=100000000) (ba:k2<=100000000) (hd:0<d) (hbits:s.bits=(b:Int)) :
  Calls Tryz.prog 56 #[.agg s.q,.agg x.q,.agg y.q] w (zJ w b (k+k1+9) (byI a n d).1 (byI a n d).2):=by
 obtain⟨W,hW⟩:∃ W,W=(((w.alloc (.cells s.q 36)).alloc (.cells x.q 26)).alloc (.cells y.q 26)).alloc (.cells zCq 36):=⟨_,rfl⟩;have b8:Below w.heap.size w W:=by rw[hW];exact bl4 _ _ _ _ _
 have A:SpC W w.heap.size s:=by rw[hW];constructor<;>simp[go_sem]
 have X:NmC W (w.heap.size+1) x:=by rw[hW];constructor<;>simp[go_sem]
 have Y:NmC W (w.heap.size+1+1) y:=by rw[hW];constructor<;>simp[go_sem]
 have R:NoC W (w.heap.size+1+1+1):=by rw[hW];constructor<;>simp[go_sem]
 have HS:=zC (hs.bw b8);have HX:=zC (hx.bw b8);have HY:=zC (hy.bw b8);have HB:=zC hbits;have HK:=zC (show ∀ w',Below W.heap.size W w'->(w'.cell? ⟨w.heap.size,0,none⟩=some (.bool s.ln)/\w'.cell? ⟨w.heap.size,1,none⟩=some (.slice s.la s.lN s.lc)/\w'.cell? ⟨w.heap.size,2,none⟩=some (.bool s.hn)/\w'.cell? ⟨w.heap.size,3,none⟩=some (.slice s.ha s.hN s.hc)/\nK0 w' (w.heap.size+1) x) from λ w' hB=>⟨(A.bw hB).c0,(A.bw hB).c1,(A.bw hB).c2,(A.bw hB).c3,(X.bw hB).c0,(X.bw hB).c1⟩)
 clear hs hx hy hbits
 go_enter Tryz.func56,Tryz.ntmps56
 go_wp2;rw[<- hW];clear hW;obtain⟨x0,x1,x2,x3,x4,x5⟩:=zA HK _ (Below.refl _ _);have C4:Below W.heap.size W W.drew:=(Below.refl _ _).drew
 go_region_held3 (λ w'=>w'.cell? ⟨w.heap.size,0,none⟩=some (.bool s.ln)/\w'.cell? ⟨w.heap.size,1,none⟩=some (.slice s.la s.lN s.lc)/\w'.cell? ⟨w.heap.size,2,none⟩=some (.bool s.hn)/\w'.cell? ⟨w.heap.size,3,none⟩=some (.slice s.ha s.hN s.hc)/\nK0 w' (w.heap.size+1) x) (exact zA HK _ (by with_reducible first|exact C4|exact zL o7 _|exact o7|exact A6))
  (first
   | (go_at_call 66;have hq:=A6;refine (zW _ _ _ _ _ _ _ _ k k1 a.2 n _ ((zA HS).hi.bw A6) ((zA HX).bw A6) (by omega) (by omega)).mono ?_;rintro r w2 ⟨b6,a2,n2,c2,rfl,o0,b9⟩;have k9:=k9.bw b9;have o7:=zB A6 b9)
   | (go_at_call 66;refine (zW _ _ _ _ _ _ _ _ k k1 a.1 n _ ((zA HS).lo.bw C4) ((zA HX).bw C4) (by omega) (by omega)).mono ?_;rintro r w1 ⟨g9,a1,n1,c1,rfl,k9,b7⟩;have A6:=zB C4 b7))
 obtain⟨w5,cf⟩:∃ w5,w5=w2.alloc (.cells #[.bool g9,.slice a1 n1 c1,.bool b6,.slice a2 n2 c2] 26):=⟨_,rfl⟩;have M6:Below W.heap.size W w5:=by rw[cf];exact zL o7 _
 have hN:Nums w5 w2.heap.size 2 (k+k1) (pr ⟨g9,a1,n1,c1⟩ ⟨b6,a2,n2,c2⟩) (pr (a.1*n) (a.2*n)):=by rw[cf];exact nums2' w2 _ rfl ⟨g9,a1,n1,c1⟩ ⟨b6,a2,n2,c2⟩ _ _ _ _ k9 o0
 have R5:=R.bw M6;have O5:=R5.lt;have A5:=A.bw M6;have Y5:=Y.bw M6;have TS:=zC ((zA HY).bw M6);have lA:=A5.lt;have lY:=Y5.lt;have ah:=zC (show ∀ w',Below w5.heap.size w5 w'->(nK w' (w.heap.size+1+1) y (w'.cell? ⟨w.heap.size,4,none⟩=some (.int .i64 s.bits))) from λ w' hB=>⟨(Y5.bw hB).c0,(Y5.bw hB).c1,(A5.bw hB).c4⟩)
 have m8:Below w5.heap.size w5 w5.drew:=(Below.refl _ _).drew;clear x0 x1 x2 x3 x4 x5 b7 b9 k9 o0 A6 o7 C4 HK HS HX HY A X Y R;go_wp2;rw[<- cf];clear cf;obtain⟨x0,x1,x2⟩:=zA ah _ (Below.refl _ _);have n1:w.heap.size+1+1+1≠w.heap.size+1+1:=by omega
 have n2:w.heap.size+1+1≠w.heap.size+1+1+1:=by omega
 have n3:w.heap.size+1+1+1≠w.heap.size:=by omega
 have n4:w.heap.size≠w.heap.size+1+1+1:=by omega
 go_region_held3 (λ w'=>nK w' (w.heap.size+1+1) y (w'.cell? ⟨w.heap.size,4,none⟩=some (.int .i64 s.bits))) (first|exact zA ah _ (by with_reducible first|exact m8|exact C8|exact y9|exact j9|exact j7)|(dsimp only[cK,cK0,nK,nK0,rK,rK0];go_keep)|go_keep)
  (first
   | (go_at_call 109;have hq:=y9;refine (zCH _ _ _ _ _ _ _ _ (k+k1) k2 _ d _ vd ((zA TS).bw y9) (by omega) (by omega) hd).mono ?_;rintro r w9 ⟨eQ,a9,n9,c9,rfl,jv,cn⟩;have O1:=(O1.bw Q7).bw cn;have C8:=zB y9 cn;obtain⟨q0,q1,q2,q3,q4,q5⟩:=R5.bw C8;obtain⟨y0,y1,y2⟩:=zA ah _ C8)
   | (go_at_call 102;have hq:=j9;refine (zAU _ 1 _ (k+k1) _ _ _ (hN.bw j9) (by omega)).mono ?_;rintro r w8 ⟨CT,a8,n8,c8,rfl,vd,Q7⟩;have y9:=zB j9 Q7)
   | (go_at_call 108;have hq:=j7;refine (zDF _ _ _ _ _ _ _ _ (k+k1) k2 _ d _ L9 ((zA TS).bw j7) (by omega) (by omega) hd).mono ?_;rintro r w7 ⟨P1,a7,n7,c7,rfl,O1,I8⟩;have j9:=zB j7 I8)
   | (go_at_call 106;refine (zFH _ 1 _ (k+k1) _ _ _ (hN.bw m8) (by omega)).mono ?_;rintro r w6 ⟨D4,a6,n6,c6,rfl,L9,G3⟩;have j7:=zB m8 G3))
 all_goals
  go_wp2_with fail;refine bodyPost_ret (v:=.agg #[.bool P1,.slice a7 n7 c7,.bool eQ,.slice a9 n9 c9,.int .i64 s.bits]) (by simp[results,Tryz.results56,go_sem,q0,q1,q2,q3,q4]) rfl ⟨⟨P1,a7,n7,c7,eQ,a9,n9,c9,s.bits⟩,rfl,zA HB,?_,?_⟩
  ·exact SpAt.put5 ⟨O1.mono (by omega),jv.mono (by omega)⟩ q0 q1 q2 q3 q4 _ _ _ _ _
  ·exact kB (zB (zB b8 M6) C8) (by omega) _ _ _ _ _
open Ex
theorem Iv.le {B:Nat} {a:Int × Int} {x:Nat->Rat} (h:Iv B a x):a.1<=a.2 :=
 Int.le_of_mul_le_mul_right (h.touch h) (by have:=zG B;omega)
theorem Iv.neg {B:Nat} {a:Int × Int} {x:Nat->Rat} (h:Iv B a x):Iv B (-a.2,-a.1) (λ M => -x M):=by
 have q:=zY B
 intro e he
 obtain⟨N,hN⟩:=h e he;refine⟨N,λ M hM=>?_⟩
 obtain⟨g1,g2⟩:=hN M hM;have e1:((-a.2:Int):Rat)/(Q B:Rat) = -((a.2:Rat)/(Q B:Rat)):=by rw[Rat.intCast_neg,Yg,Yg,Rat.neg_mul]
 have e2:((-a.1:Int):Rat)/(Q B:Rat) = -((a.1:Rat)/(Q B:Rat)):=by rw[Rat.intCast_neg,Yg,Yg,Rat.neg_mul]
 simp only[];rw[e1,e2];constructor<;>grind
theorem byI_neg {a:Int × Int} {n d:Int} (ha:a.1<=a.2) (hn:n<0):byI a n d=zE (-a.2,-a.1) (-n) d:=by
 have h:=Int.mul_le_mul_of_nonpos_right ha (show n<=0 by omega)
 have e1:jB (pr (a.1*n) (a.2*n)) 1=a.2*n:=by
  simp only[jB,pr];simp;omega
 have e2:jP (pr (a.1*n) (a.2*n)) 1=a.1*n:=by
  simp only[jP,pr];simp;omega
 unfold byI zE;rw[e1,e2];simp only[];rw[show -a.2 * -n=a.2*n by grind,show -a.1 * -n=a.1*n by grind]
theorem Iv.by_ {B:Nat} {a:Int × Int} {x:Nat->Rat} (h:Iv B a x) (n:Int) {d:Int} (hd:0<d):Iv B (byI a n d) (λ M=>(n:Rat)/(d:Rat)*x M):=by
 by_cases hn:n<0
 ·rw[byI_neg h.le hn]
  refine (h.neg.scale (n := -n) (by omega) hd).congr (null_zero.of_eq λ M=>?_)
  have e:((-n:Int):Rat)/(d:Rat) = -((n:Rat)/(d:Rat)):=by rw[Rat.intCast_neg,Yg,Yg,Rat.neg_mul]
  rw[e];grind
 ·rw[zA7 h.le (by omega)]
  exact h.scale (by omega) hd
theorem zDG {a:Int × Int} {m p n d c:Int} (h:Abs a m) (hd:0<d) (h1 : -c<=n) (h2:n<=c) (hp:m*c<=p*d):Abs (byI a n d) p:=by
 obtain⟨g1,g2,g3,g4⟩:=h;obtain⟨k1,k2⟩:=yJ g1 g2 h1 h2;obtain⟨k3,k4⟩:=yJ g3 g4 h1 h2
 have f1:jB (pr (a.1*n) (a.2*n)) 1=a.1*n\/jB (pr (a.1*n) (a.2*n)) 1=a.2*n:=by
  simp only[jB,pr];simp;omega
 have f2:jP (pr (a.1*n) (a.2*n)) 1=a.1*n\/jP (pr (a.1*n) (a.2*n)) 1=a.2*n:=by
  simp only[jP,pr];simp;omega
 have r1:=jA (x:=jB (pr (a.1*n) (a.2*n)) 1) (m:=p) hd (by omega) (by omega)
 have r2:=jA (x:=jP (pr (a.1*n) (a.2*n)) 1) (m:=p) hd (by omega) (by omega)
 exact⟨r1.1,r1.2.1,r2.2.2.1,r2.2.2.2⟩
theorem zLV (p:Int) (n:Nat):2*(p/Q (n+1))<=p/Q n/\p/Q n<=2*(p/Q (n+1))+1:=by
 have q:=zG n
 have e:p/Q (n+1)=p/Q n/2:=by
  rw[show Q (n+1)=Q n*2 by show 2*Q n=_;omega,<- Int.ediv_ediv_of_nonneg (by omega)]
 rw[e];omega
theorem npT_fall {B:Nat} {z:Int × Int} {p:Int} (h:Abs z p) (hp:4*p<=Q B) (n:Nat):Abs (npT B z n) (p/Q n+2):=by
 have p0:=h.nonneg
 induction n with
 | zero =>
  have e:Q 0=1:=rfl;rw[e,Int.ediv_one];exact h.mono (by omega)
 | succ n ih =>
  obtain⟨h1,h2⟩:=zLV p n;have x0:0<=p/Q n:=Int.ediv_nonneg p0 (by have:=zG n;omega)
  refine zAC ih h ?_;have g1:=XR hp (show 0<=p/Q n+2 by omega)
  have g2:=XK (show p/Q n+2<=4*(p/Q (n+1)+2) by omega) (show 0<=Q B by have:=zG B;omega)
  have e1:(p/Q n+2)*(4*p)=4*((p/Q n+2)*p):=by grind
  have e2:4*(p/Q (n+1)+2)*Q B=4*((p/Q (n+1)+2)*Q B):=by grind
  omega
theorem Abs.sub {a b:Int × Int} {m n:Int} (h:Abs a m) (k:Abs b n):Abs (zAF a b) (m+n):=by
 obtain⟨h1,h2,h3,h4⟩:=h;obtain⟨k1,k2,k3,k4⟩:=k;exact⟨by unfold zAF;simp only[];omega,by unfold zAF;simp only[];omega,by unfold zAF;simp only[];omega,by unfold zAF;simp only[];omega⟩
theorem nsT_fall {B:Nat} {z:Int × Int} {p:Int} (h:Abs z p) (hp:4*p<=Q B) (n:Nat):Abs (nsT B z n) (2*p-p/Q n+2*n):=by
 induction n with
 | zero =>
  have e:Q 0=1:=rfl;rw[e,Int.ediv_one];exact h.mono (by omega)
 | succ n ih =>
  obtain⟨h1,h2⟩:=zLV p n;have hs:=zAH (n:=1) (d:=(n:Int)+2) (npT_fall h hp (n+1)) (by omega) (by omega) (by omega)
  unfold nsT;split
  ·exact (ih.sub hs).mono (by omega)
  ·exact (ih.add hs).mono (by omega)
theorem Q_lin (B : Nat) (h : 20 ≤ B) : 1024 * (B : Int) + 4096 ≤ Q B := by
  obtain ⟨j, rfl⟩ : ∃ j, B = 20 + j := ⟨B - 20, by omega⟩
  clear h
  induction j with
  | zero => have e : Q (20 + 0) = 1048576 := rfl
            rw [e]; omega
  | succ j ih =>
    have e : Q (20 + (j + 1)) = 2 * Q (20 + j) := rfl
    rw [e]; omega
theorem scale256 (a:Int × Int):zE a 256 1=(256*a.1,256*a.2):=by
 unfold zE;simp only[Int.ediv_one,Int.neg_neg];rw[Int.mul_comm,Int.mul_comm a.2]
theorem zKX {B N i:Nat} {l:Nat->Rat} {a:Int × Int} (hB:20<=B) (h:RInv B l i a) (q8:Q i=256) (hN:N<=B+20):Abs (zE (jJ (nsT B (a.1-Q B,a.2-Q B) N) (-2,2)) 256 1) (3*Q B):=by
 obtain⟨h1,h2,h3,h4⟩:=h
 have qB:Q B=256*Q (B-8):=by
  have:=jD (B-8) 8;rw[show B-8+8=B by omega] at this
  have e:Q 8=256:=rfl;rw[this,e,Int.mul_comm]
 have q8':4096<=Q (B-8):=by have:=zK (show 12<=B-8 by omega);have e:Q 12=4096:=rfl;omega
 rw[q8] at h4;have hz:Abs (a.1-Q B,a.2-Q B) (Q (B-8)+2):=⟨by simp only[];omega,by simp only[];omega,by simp only[];omega,by simp only[];omega⟩
 obtain⟨f1,f2,f3,f4⟩:=nsT_fall (B:=B) hz (by omega) N
 have hx:0<=(Q (B-8)+2)/Q N:=Int.ediv_nonneg (by omega) (by have:=zG N;omega)
 have hl:=Q_lin B hB;rw[scale256];unfold jJ;exact⟨by simp only[];omega,by simp only[];omega,by simp only[];omega,by simp only[];omega⟩
theorem zPV {a:Int × Int} {m p:Int} (t:Nat) (h:Abs a m) (hp:m<=p*Q t):Abs (zN a t) p:=by
 obtain⟨g1,g2,g3,g4⟩:=h;have q:=zG t;have r1:=jA (x:=a.1) (m:=p) (q:=Q t) (by omega) (by omega) (by omega)
 have r2:=jA (x:=a.2) (m:=p) (q:=Q t) (by omega) (by omega) (by omega)
 exact⟨r1.1,r1.2.1,r2.2.2.1,r2.2.2.2⟩
theorem zME {n d n' d':Int} {i j:Nat} (hn:0<n) (hd:0<d) (vw:n'=n*Q j) (Mk:d'=d*Q i) (h1:d'<=n') (h2:n'<2*d') (h0:j=0\/i=0):Bal n d n' d' ((i:Int)-(j:Int)):=by
 have qi:=zG i;have qj:=zG j;have p1:0<n':=by rw[vw];exact Int.mul_pos hn (by omega)
 have p2:0<d':=by rw[Mk];exact Int.mul_pos hd (by omega)
 have e0:Q 0=1:=rfl;refine⟨⟨p1,p2,by omega,by omega⟩,λ h=>?_,λ h=>?_⟩
 ·have hj:j=0:=by omega
  subst hj;rw[show ((i:Int)-((0:Nat):Int)).toNat=i by omega,vw,Mk,e0,Int.mul_one,Int.mul_assoc]
 ·have hi:i=0:=by omega
  subst hi;rw[show (-(((0:Nat):Int)-(j:Int))).toNat=j by omega,vw,Mk,e0,Int.mul_one];grind
theorem steps_lo {n d:Int} {j J:Nat} (hn:0<n) (h:n*Q j<d) (hJ:d<=n*Q J):j<J:=by
 refine Nat.lt_of_not_le λ vw=>?_
 have:=XR (zK vw) (show 0<=n by omega)
 omega
theorem isLog_two:Ex.IsLog (λ M=>2*Ex.Az (zR 2 1) M) (λ _=>(2:Rat)):=by
 have h:=zDX (n:=2) (d:=1) ⟨by omega,by omega,by omega,by omega⟩
 refine h.congr_r (Ex.null_zero.of_eq λ M=>?_)
 have e:((2:Int):Rat)/((1:Int):Rat)=2:=by decide +kernel
 rw[e];grind
namespace Ex
theorem zL2 {c:Rat} {x:Nat->Rat} (h:∀ e,0<e->∃ N,∀ M,N<=M->c-e<=x M):∃ z,Null z/\∀ M,c<=x M+z M:=by
 refine⟨λ M=>if c<=x M then 0 else c-x M,λ e he=>?_,λ M=>?_⟩
 ·obtain⟨N,hN⟩:=h e he
  refine⟨N,λ M hM=>?_⟩
  have:=hN M hM
  show AB (if c<=x M then 0 else c-x M) e
  split
  ·constructor<;>grind
  ·constructor<;>grind
 ·show c<=x M+(if c<=x M then 0 else c-x M)
  split<;>grind
theorem zOI {c:Rat} {x:Nat->Rat} (h:∀ e,0<e->∃ N,∀ M,N<=M->x M<=c+e):∃ z,Null z/\∀ M,x M<=c+z M:=by
 obtain⟨z,h1,h2⟩:=zL2 (c := -c) (x:=λ M => -x M) (λ e he=>by
  obtain⟨N,hN⟩:=h e he
  exact⟨N,λ M hM=>by have:=hN M hM;grind⟩)
 exact⟨z,h1,λ M=>by have:=h2 M;grind⟩
end Ex
theorem zNM {B:Nat} {s u v:Int × Int} {x:Nat->Rat} (hb:Bdd x) (h:Iv B s x) (hu:Iv B u (Ev (λ _=>(s.1:Rat)/(Q B:Rat)))) (hv:Iv B v (Ev (λ _=>(s.2:Rat)/(Q B:Rat)))):Iv B (u.1,v.2) (Ev x):=by
 obtain⟨z,hz,h1⟩:=zL2 (c:=(s.1:Rat)/(Q B:Rat)) (x:=x) (λ e he=>by
  obtain⟨N,hN⟩:=h e he
  exact⟨N,λ M hM=>(hN M hM).1⟩)
 obtain⟨z',Ix,h2⟩:=zOI (c:=(s.2:Rat)/(Q B:Rat)) (x:=x) (λ e he=>by
  obtain⟨N,hN⟩:=h e he
  exact⟨N,λ M hM=>(hN M hM).2⟩)
 obtain⟨m,hm,N,h3⟩:=zBL (Bdd.const ((s.1:Rat)/(Q B:Rat))) hb hz 0 (λ M _=>h1 M)
 obtain⟨n,hn,N',h4⟩:=zBL hb (Bdd.const ((s.2:Rat)/(Q B:Rat))) Ix 0 (λ M _=>h2 M)
 exact zK4 hu hv hm hn N h3 N' h4
open Go.RowKit
attribute [local go_sem ↓] Go.wp_at_zero Go.wp_at_succ
theorem zE4 {w:World} {B:Nat} {z:Nm} (h:NmC w B z) (x:Nm):NmC ((w.setCell ⟨B,0,none⟩ (.bool x.neg)).setCell ⟨B,1,none⟩ (.slice x.a x.n x.cap)) B x:=by
 obtain⟨q0,q1⟩:=h;constructor<;>simp[go_sem,q0,q1]
theorem zA9 {w:World} {B B':Nat} (h:∀ o,w.frozen? ⟨B,o,none⟩=false) (u0 u1:Value):∀ o,((w.setCell ⟨B',0,none⟩ u0).setCell ⟨B',1,none⟩ u1).frozen? ⟨B,o,none⟩=false:=λ o=>by rw[zO,zO];exact h o
theorem NmC.off {w:World} {B B':Nat} {x:Nm} (h:NmC w B x) (hne:B≠B') (u0 u1:Value):NmC ((w.setCell ⟨B',0,none⟩ u0).setCell ⟨B',1,none⟩ u1) B x:=by
 obtain⟨q0,q1⟩:=h;constructor<;>simp[go_sem,q0,q1,hne,Ne.symm hne]
theorem NoI.off {w:World} {B B':Nat} (h:NoI w B) (hne:B≠B') (u0 u1:Value):NoI ((w.setCell ⟨B',0,none⟩ u0).setCell ⟨B',1,none⟩ u1) B:=by
 obtain⟨q0,q1,q2⟩:=h;exact⟨by simp[go_sem,q0,hne,Ne.symm hne],by simp[go_sem,q1,hne,Ne.symm hne],zA9 q2 _ _⟩
theorem zAP {a p q:Int} (hp:0<p) (M5:p<=q) (ha:0<=a):a/q<=a/p:=by
 have hq:0<q:=by omega
 have h0:0<=a/q:=Int.ediv_nonneg ha (by omega)
 rw[Int.le_ediv_iff_mul_le hp];have h1:=Int.ediv_mul_le a (show q≠0 by omega)
 have h2:=XR M5 h0;omega
theorem zAM {a p q:Int} (hp:0<p) (M5:p<=q) (ha:a<=0):a/p<=a/q:=by
 have hq:0<q:=by omega
 have h0:a/p<=0:=by
  have:=Int.ediv_le_ediv hp ha
  simpa using this
 rw[Int.le_ediv_iff_mul_le hq];have h1:=Int.ediv_mul_le a (show p≠0 by omega)
 have h2:=XR M5 (show 0 <= -(a/p) by omega)
 rw[Int.neg_mul,Int.neg_mul] at h2;omega
theorem zGP {l h p q:Int} (Ml:l<=h) (hp:0<p) (M5:p<=q) :
  jB (pr4 (l/p) (l/q) (h/p) (h/q)) 3=if l<0 then l/p else l/q:=by
 have m1:l/p<=h/p:=Int.ediv_le_ediv hp Ml;have m2:l/q<=h/q:=Int.ediv_le_ediv (by omega) Ml
 have d1:0<=l->l/q<=l/p:=zAP hp M5;have d2:l<=0->l/p<=l/q:=zAM hp M5;have d3:0<=h->h/q<=h/p:=zAP hp M5;have d4:h<=0->h/p<=h/q:=zAM hp M5;simp only[jB,pr4];simp;generalize l/p=A at *;generalize l/q=B at *;generalize h/p=C at *;generalize h/q=D at *;split<;>split<;>split<;>split<;>omega
theorem zIH {l h p q:Int} (Ml:l<=h) (hp:0<p) (M5:p<=q) :
  jP (pr4 (-(-l/p)) (-(-l/q)) (-(-h/p)) (-(-h/q))) 3=if h<0 then -(-h/q) else -(-h/p):=by
 have m1 : -h/p <= -l/p:=Int.ediv_le_ediv hp (by omega)
 have m2 : -h/q <= -l/q:=Int.ediv_le_ediv (by omega) (by omega)
 have d1:0 <= -l -> -l/q <= -l/p:=zAP hp M5;have d2 : -l<=0 -> -l/p <= -l/q:=zAM hp M5;have d3:0 <= -h -> -h/q <= -h/p:=zAP hp M5;have d4 : -h<=0 -> -h/p <= -h/q:=zAM hp M5;simp only[jP,pr4];simp;generalize -l/p=A at *;generalize -l/q=B at *;generalize -h/p=C at *;generalize -h/q=D at *;split<;>split<;>split<;>split<;>omega
theorem kM {w:World} {B B' o:Nat} {v:Option Value} (h:w.cell? ⟨B,o,none⟩=v) (hne:B≠B') (u0 u1:Value):((w.setCell ⟨B',0,none⟩ u0).setCell ⟨B',1,none⟩ u1).cell? ⟨B,o,none⟩=v:=by
 have ne:∀ i:Nat,(⟨B',i,none⟩:Addr)≠⟨B,o,none⟩:=λ i e=>hne (by injection e with e1;exact e1.symm)
 rw[World.cell?_setCell_other _ _ _ _ (ne 1),World.cell?_setCell_other _ _ _ _ (ne 0)];exact h
theorem jG {w:World} {B B' o:Nat} {v:Option Value} (h:w.cell? ⟨B,o,none⟩=v) (hne:B≠B') (u0 u1 u2 u3 u4:Value) :
  (((((w.setCell ⟨B',0,none⟩ u0).setCell ⟨B',1,none⟩ u1).setCell ⟨B',2,none⟩ u2).setCell ⟨B',3,none⟩ u3).setCell ⟨B',4,none⟩ u4).cell? ⟨B,o,none⟩=v:=by
 have ne:∀ i:Nat,(⟨B',i,none⟩:Addr)≠⟨B,o,none⟩:=λ i e=>hne (by injection e with e1;exact e1.symm)
 rw[World.cell?_setCell_other _ _ _ _ (ne 4),World.cell?_setCell_other _ _ _ _ (ne 3),World.cell?_setCell_other _ _ _ _ (ne 2),World.cell?_setCell_other _ _ _ _ (ne 1),World.cell?_setCell_other _ _ _ _ (ne 0)];exact h
theorem SpC.put2 {w:World} {B B':Nat} {s:Sp} (h:SpC w B s) (hne:B≠B') (u0 u1:Value):SpC ((w.setCell ⟨B',0,none⟩ u0).setCell ⟨B',1,none⟩ u1) B s :=
 ⟨kM h.c0 hne _ _,kM h.c1 hne _ _,kM h.c2 hne _ _,kM h.c3 hne _ _,kM h.c4 hne _ _⟩
theorem NmC.put2 {w:World} {B B':Nat} {x:Nm} (h:NmC w B x) (hne:B≠B') (u0 u1:Value):NmC ((w.setCell ⟨B',0,none⟩ u0).setCell ⟨B',1,none⟩ u1) B x :=
 ⟨kM h.c0 hne _ _,kM h.c1 hne _ _⟩
theorem NoC.put2 {w:World} {B B':Nat} (h:NoC w B) (hne:B≠B') (u0 u1:Value):NoC ((w.setCell ⟨B',0,none⟩ u0).setCell ⟨B',1,none⟩ u1) B:=by
 obtain⟨q0,q1,q2,q3,q4,q5⟩:=h;exact⟨kM q0 hne _ _,kM q1 hne _ _,kM q2 hne _ _,kM q3 hne _ _,kM q4 hne _ _,λ o=>by rw[zO,zO];exact q5 o⟩
theorem SpAt.put2 {w:World} {s:Sp} {k:Nat} {lo hi:Int} (h:SpAt w s k lo hi) {B:Nat} {x0:Bool} {y0:Option Addr} {y1 y2:Nat} (h0:w.cell? ⟨B,0,none⟩=some (.bool x0)) (h1:w.cell? ⟨B,1,none⟩=some (.slice y0 y1 y2)) (u0 u1:Value) :
  SpAt ((w.setCell ⟨B,0,none⟩ u0).setCell ⟨B,1,none⟩ u1) s k lo hi:=⟨h.lo.put2 h0 h1 _ _,h.hi.put2 h0 h1 _ _⟩
theorem zEU (w:World) (B:Nat) (hB:w.heap.size=B) (T:TypeId):NoI (w.alloc (.cells #[.bool false,.slice none 0 0] T)) B:=by subst hB;exact jO w T
theorem hs1 (w:World) (o1:Obj):(w.alloc o1).heap.size=w.heap.size+1:=by simp
def TwoV (W wx:World) (k1 k2:Nat) (z1 z2:Int) (p q:Value):Prop :=
 VarAt wx p W.heap.size k1 z1/\VarAt wx q W.heap.size k2 z2/\p≠q/\FzP wx p/\FzP wx q/\Below W.heap.size W wx
theorem zPX {w:World} {B:Nat} (h:NoI w B) (x:Nm):NmC ((w.setCell ⟨B,0,none⟩ (.bool x.neg)).setCell ⟨B,1,none⟩ (.slice x.a x.n x.cap)) B x:=by
 obtain⟨q0,q1,q2⟩:=h;constructor<;>simp[go_sem,q0,q1]
theorem zDO {w:World} {B B':Nat} (h:∀ o,w.frozen? ⟨B,o,none⟩=false) (u0 u1:Value):∀ o,((w.setCell ⟨B',0,none⟩ u0).setCell ⟨B',1,none⟩ u1).frozen? ⟨B,o,none⟩=false:=λ o=>by rw[zO,zO];exact h o
theorem nepp {B B':Nat} (h:B≠B'):(Value.pointer (some ⟨B,0,none⟩))≠.pointer (some ⟨B',0,none⟩):=by intro e;injection e with e1;injection e1 with e2;injection e2 with e3;exact h e3
theorem zLP {W wx:World} {k1 k2:Nat} {z1 z2:Int} {B B':Nat} {x y:Nm} (hx:NmC wx B x) (hy:NmC wx B' y) (ix:IntAt wx x.neg x.a x.n x.cap k1 z1) (iy:IntAt wx y.neg y.a y.n y.cap k2 z2) (h1:W.heap.size<=B) (h2:W.heap.size<=B') (hne:B≠B') (f1:∀ o,wx.frozen? ⟨B,o,none⟩=false) (f2:∀ o,wx.frozen? ⟨B',o,none⟩=false) (hb:Below W.heap.size W wx) :
  TwoV W wx k1 k2 z1 z2 (.pointer (some ⟨B,0,none⟩)) (.pointer (some ⟨B',0,none⟩)) :=
 ⟨⟨B,x,rfl,hx.c0,hx.c1,ix,h1,hx.lt⟩,⟨B',y,rfl,hy.c0,hy.c1,iy,h2,hy.lt⟩,nepp hne,λ C hC o=>(by cases hC;exact f1 o),λ C hC o=>(by cases hC;exact f2 o),hb⟩
variable {W w2 : World} {k1 k2 : Nat} {z1 z2 : Int} {x y : Nm} {T : TypeId}
theorem two_aa (hb:Below W.heap.size W w2) (ix:IntAt w2 x.neg x.a x.n x.cap k1 z1) (iy:IntAt w2 y.neg y.a y.n y.cap k2 z2) :
  TwoV W ((w2.alloc (.cells x.q T)).alloc (.cells y.q T)) k1 k2 z1 z2 (.pointer (some ⟨w2.heap.size,0,none⟩)) (.pointer (some ⟨w2.heap.size+1,0,none⟩)) :=
 zLP (x:=x) (y:=y) ⟨by simp[go_sem],by simp[go_sem]⟩ ⟨by simp[go_sem],by simp[go_sem]⟩ (ix.bw (bl2 _ _ _)) (iy.bw (bl2 _ _ _)) hb.size (Yf hb.size) (Yj (Nat.lt_succ_self _)) (λ o=>by simp[go_sem]) (λ o=>by simp[go_sem]) (zB hb (bl2 _ _ _))
theorem zP2 (hb:Below W.heap.size W w2) (ix:IntAt w2 x.neg x.a x.n x.cap k1 z1) (iy:IntAt w2 y.neg y.a y.n y.cap k2 z2) :
  TwoV W ((w2.alloc (.cells y.q T)).alloc (.cells x.q T)) k1 k2 z1 z2 (.pointer (some ⟨w2.heap.size+1,0,none⟩)) (.pointer (some ⟨w2.heap.size,0,none⟩)) :=
 zLP (x:=x) (y:=y) ⟨by simp[go_sem],by simp[go_sem]⟩ ⟨by simp[go_sem],by simp[go_sem]⟩ (ix.bw (bl2 _ _ _)) (iy.bw (bl2 _ _ _)) (Yf hb.size) hb.size (Yi (Nat.lt_succ_self _)) (λ o=>by simp[go_sem]) (λ o=>by simp[go_sem]) (zB hb (bl2 _ _ _))
theorem zPC {B:Nat} (hb:Below W.heap.size W w2) (ix:IntAt w2 x.neg x.a x.n x.cap k1 z1) (iy:IntAt w2 y.neg y.a y.n y.cap k2 z2) (g:NoI w2 B) (h1:W.heap.size<=B) :
  TwoV W (((w2.setCell ⟨B,0,none⟩ (.bool x.neg)).setCell ⟨B,1,none⟩ (.slice x.a x.n x.cap)).alloc (.cells y.q T)) k1 k2 z1 z2 (.pointer (some ⟨B,0,none⟩)) (.pointer (some ⟨w2.heap.size,0,none⟩)):=by
 have hx:=zPX g x;have vD:=ix.put2 g.c0 g.c1 (.bool x.neg) (.slice x.a x.n x.cap);have vE:=iy.put2 g.c0 g.c1 (.bool x.neg) (.slice x.a x.n x.cap);have hl:=g.lt;have hs:w2.heap.size=((w2.setCell ⟨B,0,none⟩ (.bool x.neg)).setCell ⟨B,1,none⟩ (.slice x.a x.n x.cap)).heap.size:=by simp[World.setCell]
 have hf:=zDO (B':=B) (λ o=>g.fz o) (.bool x.neg) (.slice x.a x.n x.cap)
 have Q6:=zD5 hb h1 (.bool x.neg) (.slice x.a x.n x.cap);generalize ((w2.setCell ⟨B,0,none⟩ (.bool x.neg)).setCell ⟨B,1,none⟩ (.slice x.a x.n x.cap))=V at *;rw[hs];exact zLP (x:=x) (y:=y) (hx.bw (bl1 _ _)) ⟨by simp[go_sem],by simp[go_sem]⟩ (vD.bw (bl1 _ _)) (vE.bw (bl1 _ _)) h1 Q6.size (by omega) (λ o=>((bl1 V _).frozen (p:=⟨B,o,none⟩) (show B<V.heap.size by omega)).trans (hf o)) (λ o=>by simp[go_sem]) (zB Q6 (bl1 _ _))
theorem two_as {B:Nat} (hb:Below W.heap.size W w2) (ix:IntAt w2 x.neg x.a x.n x.cap k1 z1) (iy:IntAt w2 y.neg y.a y.n y.cap k2 z2) (g:NoI w2 B) (h1:W.heap.size<=B) :
  TwoV W (((w2.setCell ⟨B,0,none⟩ (.bool y.neg)).setCell ⟨B,1,none⟩ (.slice y.a y.n y.cap)).alloc (.cells x.q T)) k1 k2 z1 z2 (.pointer (some ⟨w2.heap.size,0,none⟩)) (.pointer (some ⟨B,0,none⟩)):=by
 obtain⟨a1,a2,a3,a4,a5,a6⟩:=zPC (T:=T) hb iy ix g h1;exact⟨a2,a1,λ e=>a3 e.symm,a5,a4,a6⟩
theorem two_ss {B B':Nat} (hb:Below W.heap.size W w2) (ix:IntAt w2 x.neg x.a x.n x.cap k1 z1) (iy:IntAt w2 y.neg y.a y.n y.cap k2 z2) (g:NoI w2 B) (g':NoI w2 B') (h1:W.heap.size<=B) (h2:W.heap.size<=B') (hne:B≠B') :
  TwoV W ((((w2.setCell ⟨B,0,none⟩ (.bool x.neg)).setCell ⟨B,1,none⟩ (.slice x.a x.n x.cap)).setCell ⟨B',0,none⟩ (.bool y.neg)).setCell ⟨B',1,none⟩ (.slice y.a y.n y.cap)) k1 k2 z1 z2 (.pointer (some ⟨B,0,none⟩)) (.pointer (some ⟨B',0,none⟩)):=by
 have hx:=zPX g x;have vD:=ix.put2 g.c0 g.c1 (.bool x.neg) (.slice x.a x.n x.cap);have vE:=iy.put2 g.c0 g.c1 (.bool x.neg) (.slice x.a x.n x.cap);have hf:=zDO (B':=B) (λ o=>g.fz o) (.bool x.neg) (.slice x.a x.n x.cap)
 have TT:=zDO (B':=B) (λ o=>g'.fz o) (.bool x.neg) (.slice x.a x.n x.cap)
 have Q6:=zD5 hb h1 (.bool x.neg) (.slice x.a x.n x.cap);have q0:=kM g'.c0 (λ e=>hne e.symm) (.bool x.neg) (.slice x.a x.n x.cap)
 have q1:=kM g'.c1 (λ e=>hne e.symm) (.bool x.neg) (.slice x.a x.n x.cap)
 generalize ((w2.setCell ⟨B,0,none⟩ (.bool x.neg)).setCell ⟨B,1,none⟩ (.slice x.a x.n x.cap))=V at *;have g2:NoI V B':=⟨q0,q1,TT⟩;exact zLP (x:=x) (y:=y) (hx.put2 hne _ _) (zPX g2 y) (vD.put2 q0 q1 _ _) (vE.put2 q0 q1 _ _) h1 h2 hne (zDO hf _ _) (zDO TT _ _) (zD5 Q6 h2 _ _)
end Go.Proofs.YtgmnknmjainababGreat
