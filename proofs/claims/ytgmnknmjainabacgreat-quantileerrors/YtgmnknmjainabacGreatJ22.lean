/-
  Its own texts.
-/
import Derived.Test.YtgmnknmjainabacGreatJ21
set_option maxRecDepth 100000
set_option maxHeartbeats 40000000
set_option linter.unnecessarySimpa false
set_option linter.unusedSimpArgs false
set_option linter.unusedVariables false
namespace Go.Proofs.YtgmnknmjainabacGreat
open Go.RowKit
attribute [local go_sem ↓] Go.wp_at_zero Go.wp_at_succ
theorem NoC.off2 {w:World} {B B':Nat} (h:NoC w B) (hne:B≠B') (u0 u1:Value):NoC ((w.setCell ⟨B',0,none⟩ u0).setCell ⟨B',1,none⟩ u1) B:=by
 obtain⟨q0,q1,q2,q3,q4,q5⟩:=h;exact⟨by simp[go_sem,q0,hne,Ne.symm hne],by simp[go_sem,q1,hne,Ne.symm hne],by simp[go_sem,q2,hne,Ne.symm hne],by simp[go_sem,q3,hne,Ne.symm hne],by simp[go_sem,q4,hne,Ne.symm hne],yY q5 _ _⟩
def zCJ (f:Nat->Int):Nat->Int
 | 0=>0
 | i+1=>zCJ f i+f i
def zD6 (p r s:Int) (n:Nat):Int:=wayF (r ^ n*(s-r) ^ (p.toNat-n)) (p-n) n
theorem zO1 (k q r s last:Int) (P M b:Nat) (w:World) (hM:(min last (P:Int)+1).toNat=M) (wJ : -1000000000<=last) (hl:last<=1000000000) (hp:P<=100) (hr:0<=r) (hs:r<=s) (hs1:1<=s) (ag:s<=1024) (hb:b<=1000000) :
  Calls Tryz.prog 136 #[.agg #[.int .i64 k,.int .i64 (P:Int),.int .i64 q,.int .i64 r,.int .i64 s],.int .i64 last,.int .i64 b] w (zL w b (b/16+5000) (zCJ (zD6 P r s) M*Q b/s ^ P) (-(-(zCJ (zD6 P r s) M*Q b)/s ^ P))):=by
 have hMp:M<=P+1:=by omega
 have Q5:0<s ^ P:=Int.pow_pos (by omega)
 go_enter Tryz.func136,Tryz.ntmps136
 go_wp2_with fail;refine (zE 0 _ (by decide) (by decide)).mono ?_
 rintro r' w1 ⟨o7,a1,n1,c1,rfl,s9,b9⟩;have L:LwC w1 w.heap.size k P q r s:=((zQH w k P q r s _).bw (bl1 _ _)).bw b9;have hR:NoC w1 (w.heap.size+1):=NoC.bw ⟨by simp[go_sem],by simp[go_sem],by simp[go_sem],by simp[go_sem],by simp[go_sem],λ o=>by simp[go_sem]⟩ b9
 have C9:Below w.heap.size w w1:=zB (bl2 _ _ _) b9;clear b9;have lL:=L.lt;have lR:=hR.lt;obtain⟨i0,i1,i2,i3,i4⟩:=L;have HM:=zC hM;go_wp2_with fail
 all_goals
  have VI:(min last (P:Int)+1).toNat=M:=zA HM
  go_loopw [16,8] (λ ii nn wr=>∃ (i:Nat) (X:Nm),ii=.int .i64 (i:Int)/\i<=M/\NmC wr w1.heap.size X/\(∀ o,wr.frozen? ⟨w1.heap.size,o,none⟩=false)/\IntAt wr X.neg X.a X.n X.cap (4+2500+i) (zCJ (zD6 P r s) i)/\LwC wr w.heap.size k P q r s/\NoC wr (w.heap.size+1)/\Below w.heap.size w wr) (λ ii _ _=>M-(intOf ii).toNat)
  case atStart=>exact⟨0,⟨o7,a1,n1,c1⟩,rfl,Nat.zero_le _,⟨by simp[go_sem],by simp[go_sem]⟩,λ o=>by simp[go_sem],(s9.bw (bl1 _ _)).mono (by omega),LwC.bw ⟨i0,i1,i2,i3,i4⟩ (bl1 _ _),hR.bw (bl1 _ _),zO C9 _⟩
  case round =>
   obtain⟨i,X,rfl,hi,hX,hF,hint,L,R,hB⟩:=hrel;have lX:=hX.lt
   by_cases I5:i<M
   ·have rS:(i:Int)<min last (P:Int)+1:=by omega
    try have Gx:(i:Int)<last+1:=by omega
    try have Gy:(i:Int)<(P:Int)+1:=by omega
    have hint:=zC hint;have HL:=zC L;have HX:=zC hX;have WE:=L.lt;obtain⟨l0,l1,l2,l3,l4⟩:=L;obtain⟨x0,x1⟩:=hX;go_wp2_with fail
    go_region_with
     (first
      | (go_at_call 32;have hq:=y9;refine (zBN _ _ _ _ _ _ _ _ (4+2500+i) 2504 (zCJ (zD6 P r s) i) (zD6 P r s i) _ ((zA hint).bw y9) (FT.mono (by omega)) (by omega) (by omega)).mono ?_;rintro r' w3 ⟨C7,a3,n3,c3,rfl,E8,m8⟩;have A6:=zB y9 m8;have Hw:=A6.size;obtain⟨z0,z1⟩:=(zA HX).bw A6;have F4:∀ o,w3.frozen? ⟨w1.heap.size,o,none⟩=false:=λ o=>(A6.frozen (p:=⟨w1.heap.size,o,none⟩) lX).trans (hF o))
      | (go_at_call 101;refine (ways_int k P q r s i _ (by omega) (by omega) hr hs ag).mono ?_;rintro r' w2 ⟨j7,a2,n2,c2,rfl,FT,j5⟩;have y9:Below wr.heap.size wr w2:=zB (by repeat' (first|with_reducible exact Below.refl _ _|with_reducible refine Below.drew ?_)) j5;obtain⟨d0,d1⟩:=(zA HX).bw y9))
    all_goals
     go_wp2_with fail
     go_roundw
     case rel =>
      exact⟨i+1,⟨C7,a3,n3,c3⟩,by go_num,by omega,zCZ (z:=X) ⟨z0,z1⟩ ⟨C7,a3,n3,c3⟩,yY F4 _ _,(E8.put2 z0 z1 _ _).mono (by omega),((zA HL).bw A6).off (by omega) _ _,(R.bw A6).off2 (by omega) _ _,zFZ (zB hB A6) (by omega) _ _⟩
     case measure=>simp[intOf];omega
   ·have rS:¬ (i:Int)<min last (P:Int)+1:=by omega
    try have Gx:¬ (i:Int)<last+1:=by omega
    try have Gy:¬ (i:Int)<(P:Int)+1:=by omega
    have fB:i=M:=by omega
    subst fB;have hint:=zC hint;have T6:=zC (show ∀ w',Below wr.heap.size wr w'->(w'.cell? ⟨w.heap.size,1,none⟩=some (.int .i64 (P:Int))/\w'.cell? ⟨w.heap.size,4,none⟩=some (.int .i64 s)/\nK0 w' w1.heap.size X) from λ w' hB=>⟨(L.bw hB).c1,(L.bw hB).c4,(hX.bw hB).c0,(hX.bw hB).c1⟩)
    have WE:=L.lt;have W5:=R.lt;obtain⟨l1,l4,x0,x1⟩:=zA T6 _ (Below.refl _ _);have D8:Below wr.heap.size wr wr.drew:=(Below.refl _ _).drew;have nE:w1.heap.size≠w.heap.size+1:=by omega
    have nE':w.heap.size+1≠w1.heap.size:=by omega
    go_wp2_with fail
    go_region_held3 (λ w'=>w'.cell? ⟨w.heap.size,1,none⟩=some (.int .i64 (P:Int))/\w'.cell? ⟨w.heap.size,4,none⟩=some (.int .i64 s)/\nK0 w' w1.heap.size X) (first|exact zA T6 _ (by with_reducible first|exact D8|exact A6|exact y9)|(dsimp only[cK,cK0,nK,nK0,rK,rK0];go_keep)|go_keep)
     (first
      | (go_at_call 88;have hq:=y9;refine (jL _ _ _ _ _ _ _ _ (4+2500+i) (4*P+4) b (zCJ (zD6 P r s) i) (s ^ P) _ ((zA hint).bw y9) A8 (by omega) hb Q5).mono ?_;rintro r' w3 ⟨u,rfl,D5,B9,m8⟩;have A6:=zB y9 m8;obtain⟨q0,q1,q2,q3,q4,q5⟩:=R.bw A6;have G3:=zC D5;clear D5;obtain⟨e0,e1,e2,e3⟩:=zA T6 _ A6)
      | (go_at_call 102;refine (zEI s P _ (by omega) (by omega) (by omega)).mono ?_;rintro r' w2 ⟨j7,a2,n2,c2,rfl,A8,j5⟩;have y9:=zB D8 j5))
    all_goals
     go_wp2_with fail;refine bodyPost_ret (v:=.agg u.q) (by simp[results,Tryz.results136,go_sem,q0,q1,q2,q3,q4]) rfl ⟨u,rfl,zA G3,?_,?_⟩
     ·exact SpAt.put5 (B9.mono (by omega)) q0 q1 q2 q3 q4 _ _ _ _ _
     ·exact kM (zB hB A6) (Nat.le_succ _) _ _ _ _ _
theorem never_iv (w:World) (b:Nat) (hb:b<=2000) :
  Calls Tryz.prog 100 #[.int .i64 b] w (zL w b 6000 (ofI 0 1 b).1 (ofI 0 1 b).2):=by
 have R:=zS w 31
 go_enter Tryz.func100,Tryz.ntmps100
 go_wp2_with fail;refine (zE 0 _ (by decide) (by decide)).mono ?_
 rintro r' w1 ⟨o7,a1,n1,c1,rfl,s9,b9⟩;replace R:=R.bw b9;have hB:Below w.heap.size w w1:=zB (bl1 _ _) b9;clear b9;go_wp2_with fail;refine (zE 1 _ (by decide) (by decide)).mono ?_
 rintro r' w2 ⟨j7,a2,n2,c2,rfl,A8,j5⟩;replace R:=R.bw j5;replace hB:=zB hB j5;replace s9:=s9.bw j5;clear j5;go_wp2_with fail;refine (jL _ _ _ _ _ _ _ _ 4 4 b 0 1 _ s9 A8 (by omega) (by omega) (by decide)).mono ?_
 rintro r' w3 ⟨v3,rfl,H7,mK,m8⟩;replace hB:=zB hB m8;obtain⟨q0,q1,q2,q3,q4,q5⟩:=R.bw m8;have kg:=zC H7;clear H7 m8 R;go_wp2_with fail;refine bodyPost_ret (v:=.agg v3.q) (by simp[results,Tryz.results100,go_sem,q0,q1,q2,q3,q4]) rfl ⟨v3,rfl,zA kg,?_,?_⟩
 ·exact SpAt.put5 (SpAt.mono mK (by omega)) q0 q1 q2 q3 q4 _ _ _ _ _
 ·exact kM hB (Yj _) _ _ _ _ _
theorem way_eq {p n:Nat} (h:n<=p) (r s:Int):wayF (r ^ n*(s-r) ^ ((p:Int).toNat-n)) ((p:Int)-(n:Int)) n=(ch p n:Int)*(r ^ n*(s-r) ^ (p-n)):=by
 rw[show (p:Int)-(n:Int)=((p-n:Nat):Int) by omega,wayF_ch,show p-n+n=p by omega,show (p:Int).toNat=p by omega,Int.mul_comm]
theorem way_le {p n:Nat} (h:n<=p) {r s:Int} (hr:0<=r) (hs:r<=s):0<=(ch p n:Int)*(r ^ n*(s-r) ^ (p-n))/\(ch p n:Int)*(r ^ n*(s-r) ^ (p-n))<=s ^ p:=by
 obtain⟨a,ha⟩:∃ a:Nat,r=(a:Int):=⟨r.toNat,by omega⟩
 obtain⟨c,hc⟩:∃ c:Nat,s-r=(c:Int):=⟨(s-r).toNat,by omega⟩
 have GX:s=((a+c:Nat):Int):=by omega
 have h1:=ch_le a c p n h;have h2:((ch p n*a ^ n*c ^ (p-n):Nat):Int)<=(((a+c) ^ p:Nat):Int):=by omega
 rw[Int.natCast_mul,Int.natCast_mul,Int.natCast_pow,Int.natCast_pow,Int.natCast_pow] at h2;rw[hc,ha,GX,<- Int.mul_assoc];refine⟨?_,h2⟩;have:0<=((ch p n*a ^ n*c ^ (p-n):Nat):Int):=by omega
 rw[Int.natCast_mul,Int.natCast_mul,Int.natCast_pow,Int.natCast_pow] at this;exact this
open Ex
def noX (R R2:Nat->Rat) (p q r s n d:Int):Nat->Rat:=nrV (zJF R (nrY ((n*q-p*d)*s) (d*q*r)) (nrR R2 ((n*q-p*d)*s) (d*q*r))) ((n*q-p*d)*s)
def waX (p q n d:Int):Nat->Rat:=if n<=0 then λ _=>0 else λ M=>1-Ev (λ _=>((-p*n:Int):Rat)/((q*d:Int):Rat)) M
def gaX (L G:Rat->Nat->Rat) (p q r s n d:Int):Nat->Rat:=if n<=0 then λ _=>0 else lwX L p q (r*n) (s*d) (gmV p q (G (gA p q)))
def clX (n d:Int):Int:=if n<=0 then 0 else if d<=n then d else n
def beX (L:Rat->Nat->Rat) (p q r s n d:Int):Nat->Rat:=bvX L p q r s (clX n d) d
def stX0 (L:Rat->Nat->Rat) (p q n d:Int) (M:Nat):Rat:=(1:Int)/((2:Int):Rat)*bvX L p (2*q) 1 2 (p*(d*d)) (p*(d*d)+q*(n*n)) M
def stX (L:Rat->Nat->Rat) (p q n d:Int):Nat->Rat:=if n<=0 then stX0 L p q n d else λ M=>1-stX0 L p q n d M
def coN (P:Nat) (n d:Int):Nat:=(min (n/d) (P:Int)+1).toNat
def coX (P:Nat) (r s n d:Int) (_:Nat):Rat:=((zCJ (zD6 P r s) (coN P n d):Int):Rat)/((s ^ P:Int):Rat)
theorem zKJ {P n:Nat} (h:n<=P) {r s:Int} (hr:0<=r) (hs:r<=s):0<=zD6 P r s n:=by
 unfold zD6;rw[way_eq h];exact (way_le h hr hs).1
theorem zIC {P:Nat} {r s:Int} (hr:0<=r) (hs:r<=s) {i j:Nat} (mF:i<=j) (hj:j<=P+1):zCJ (zD6 P r s) i<=zCJ (zD6 P r s) j:=by
 induction j with
 | zero=>rw[show i=0 by omega];exact Int.le_refl _
 | succ j ih =>
  by_cases h:i=j+1
  ·rw[h];exact Int.le_refl _
  ·have:=ih (by omega) (by omega)
   have:=zKJ (P:=P) (n:=j) (by omega) hr hs
   show _<=zCJ (zD6 P r s) j+zD6 P r s j
   omega
def raN (n d:Int):Nat:=(n/d+1).toNat
def raX (p q n d:Int) (M:Nat):Rat:=S (λ i=>rareX p q i M) (raN n d)
theorem of_lw {N D:Int} (b:Nat) (hN:0<=N) (hD:0<D) (h:N<=D):LwPr (λ _=>(N:Rat)/(D:Rat)) b (ofI N D b).1 (ofI N D b).2:=by
 obtain⟨h1,h2,h3,h4,h5⟩:=of_pr b hN hD h;have q:=zF b;have w:=yQ (n:=N) hD b;have Ip:1<=Q 89:=zF 89;exact⟨by omega,by omega,by omega,by omega,by assumption⟩
def wyF (r t:Int) (P i:Nat):Int:=(ch P i:Int)*(r ^ i*t ^ (P-i))
theorem wyF_zero (r t:Int) (P:Nat):wyF r t (P+1) 0=t*wyF r t P 0:=by
 unfold wyF;rw[zDI,zDI,show P+1-0=(P-0)+1 by omega,Int.pow_succ]
 grind
theorem wyF_succ (r t:Int) {P i:Nat} (h:i<P):wyF r t (P+1) (i+1)=r*wyF r t P i+t*wyF r t P (i+1):=by
 unfold wyF;rw[zCP,show P+1-(i+1)=P-i by omega,show P-i=(P-(i+1))+1 by omega,Int.pow_succ t,Int.pow_succ r]
 push_cast
 grind
theorem wyF_last (r t:Int) (P:Nat):wyF r t (P+1) (P+1)=r*wyF r t P P:=by
 unfold wyF;rw[zCP,zKZ (show P<P+1 by omega),show P+1-(P+1)=0 by omega,show P-P=0 by omega,Int.pow_zero,Int.pow_succ r]
 push_cast
 grind
theorem wyF_sum (r t:Int) (P j:Nat) (h:j<=P):zCJ (wyF r t (P+1)) (j+1)=r*zCJ (wyF r t P) j+t*zCJ (wyF r t P) (j+1):=by
 induction j with
 | zero =>
  show 0+wyF r t (P+1) 0=r*0+t*(0+wyF r t P 0)
  rw[wyF_zero];grind
 | succ j ih =>
  have i:=ih (by omega)
  show zCJ (wyF r t (P+1)) (j+1)+wyF r t (P+1) (j+1)=r*(zCJ (wyF r t P) j+wyF r t P j)+t*(zCJ (wyF r t P) (j+1)+wyF r t P (j+1))
  rw[i,wyF_succ r t (by omega)];grind
theorem wyF_all (r t:Int) (P:Nat):zCJ (wyF r t P) (P+1)=(r+t) ^ P:=by
 induction P with
 | zero =>
  show 0+wyF r t 0 0=(r+t) ^ 0
  unfold wyF;rw[zDI,show 0-0=0 by rfl,Int.pow_zero,Int.pow_zero,Int.pow_zero];rfl
 | succ P ih =>
  show zCJ (wyF r t (P+1)) (P+1)+wyF r t (P+1) (P+1)=(r+t) ^ (P+1)
  rw[wyF_sum r t P P (Yj _),wyF_last,Int.pow_succ,<- ih]
  show r*zCJ (wyF r t P) P+t*(zCJ (wyF r t P) P+wyF r t P P)+r*wyF r t P P=(zCJ (wyF r t P) P+wyF r t P P)*(r+t)
  grind
theorem cnt_all {P:Nat} {r s:Int}:zCJ (zD6 P r s) (P+1)=s ^ P:=by
 have e:∀ j,j<=P+1->zCJ (zD6 P r s) j=zCJ (wyF r (s-r) P) j:=λ j=>by
  induction j with
  | zero=>intro _;rfl
  | succ j ih =>
   intro hj
   show zCJ (zD6 P r s) j+zD6 P r s j=zCJ (wyF r (s-r) P) j+wyF r (s-r) P j
   rw[ih (by omega)]
   congr 1
   unfold zD6;rw[way_eq (show j<=P by omega)];rfl
 rw[e _ (Yj _),wyF_all]
 congr 1
 omega
theorem cnt_le {P:Nat} {r s:Int} (hr:0<=r) (hs:r<=s) (i:Nat) (hi:i<=P+1):0<=zCJ (zD6 P r s) i/\zCJ (zD6 P r s) i<=s ^ P:=by
 have a:=zIC (P:=P) hr hs (Nat.zero_le i) hi;have b:=zIC (P:=P) hr hs hi (Yj _);rw[cnt_all] at b;exact⟨a,b⟩
theorem sq_unit {B:Nat} {a:Int × Int} (h0:0<=a.1) (hl:a.1<=a.2) (h1:a.2<=Q B) (i:Nat):0<=(sqI B a i).1/\(sqI B a i).1<=(sqI B a i).2/\(sqI B a i).2<=Q B/\(sqI B a i).2-(sqI B a i).1+1<=Q i*(a.2-a.1+1):=by
 have q:=zF B
 induction i with
 | zero =>
  have e:Q 0=1:=rfl;rw[e];exact⟨h0,hl,h1,by show a.2-a.1+1<=_;omega⟩
 | succ i ih =>
  obtain⟨i0,i1,i2,i3⟩:=ih;have A:Abs (sqI B a i) (Q B):=⟨by omega,by omega,by omega,by omega⟩
  have ab:=zCD (B:=B) (p:=Q B) A A (Int.le_refl _);have nn:=zFV (B:=B) (a:=sqI B a i) (b:=sqI B a i) i0 (by omega) i0 (by omega)
  have w:=zAQ (B:=B) (c:=2*((sqI B a i).2-(sqI B a i).1)) A A i1 i1 (by
   have e:2*((sqI B a i).2-(sqI B a i).1)*Q B=Q B*((sqI B a i).2-(sqI B a i).1)+Q B*((sqI B a i).2-(sqI B a i).1):=by grind
   omega)
  have e:Q (i+1)=2*Q i:=rfl;have e2:Q (i+1)*(a.2-a.1+1)=2*(Q i*(a.2-a.1+1)):=by rw[e];grind
  refine⟨nn,zBO B,ab.2.2.2,?_⟩;rw[e2]
  show (yZ B (sqI B a i) (sqI B a i)).2-(yZ B (sqI B a i) (sqI B a i)).1+1<=_
  omega
structure WaIn (n d:Int):Prop where
 n0:0<n
 d0:0<d
 lo:d<=1048576*n
 hi:n<=104857600*d
theorem wa_set {n d:Int} (h:WaIn n d) {B:Nat} (hB:40<=B):∃ (l:Int) (t N:Nat),zBM (zX (ofI (-n) d B)) l/\(t:Int)=max 0 (l-B+8)/\t<=35/\Abs (zG (ofI (-n) d B) t) (Q (B-8))/\zT (zW B (zG (ofI (-n) d B) t)) N:=by
 have:=h.n0;have:=h.d0;have:=h.hi;obtain⟨l,t,N,e1,e2,e3,e4,e5⟩:=zEE (B:=B) (e:=27) (by omega) (yU h.d0 B) (zHN (p := -n) (q:=d) (n:=104857600) (b:=B) (e:=27) h.d0 (by omega) (by omega) (by decide))
 exact⟨l,t,N,e1,e2,by omega,e4,e5⟩
theorem wa_up {B:Nat} (hB:40<=B):4*((B:Int)+20)<=Q (B-21):=by
 obtain⟨j,rfl⟩:∃ j,B=40+j:=⟨B-40,by omega⟩
 rw[show 40+j-21=j+19 by omega]
 have e:Q (j+19)=524288*Q j:=by rw[jI,Int.mul_comm];rfl
 have k:(j:Int)+1<=Q j:=by
  clear hB e
  induction j with
  | zero=>decide
  | succ j ih=>have e:Q (j+1)=2*Q j:=rfl;have:=zF j;omega
 rw[e];omega
theorem wa_low {n d:Int} (h:WaIn n d) {B t:Nat} {l:Int} (hB:40<=B) (hl:zBM (zX (ofI (-n) d B)) l) (ht:(t:Int)=max 0 (l-B+8)):d*Q t<=1048576*n:=by
 by_cases t0:t=0
 ·rw[t0]
  have e:Q 0=1:=rfl;have:=h.lo;rw[e];omega
 ·have q:=zF B
  have d0:=h.d0;have n0:=h.n0;have nq:=Int.mul_pos n0 q
  have r:zX (ofI (-n) d B) = -(-(n*Q B)/d):=by
   have e:(ofI (-n) d B).1 = -(n*Q B)/d:=by show -n*Q B/d=_;rw[Int.neg_mul]
   have le:=yU (n := -n) d0 B
   have u0:(ofI (-n) d B).2<=0:=by
    show -(-(-n*Q B)/d)<=0
    have:0 <= -(-n*Q B)/d:=Int.ediv_nonneg (by rw[Int.neg_mul];omega) (by omega)
    omega
   unfold zX zHK;rw[<- e];split<;>omega
  have c:=zJT (n*Q B) d d0;obtain⟨l1,l2,l3⟩:=hl
  have rp:0<zX (ofI (-n) d B):=Int.not_le.1 λ hn=>by
   by_cases z:zX (ofI (-n) d B)=0
   ·have:=l2 z;omega
   ·have:0<=zX (ofI (-n) d B):=zAD (yU d0 B)
    omega
  obtain⟨L,e1,e2,e3⟩:=l3 rp;have eL:L+9=B+t:=by clear r c l3 l2 e2 e3 rp;omega
  rw[r] at e2;have m:=Yg e2 (show 0<=d by omega)
  have k1:Q L*d<n*Q B+d:=by omega
  have k2:Q L*512=Q B*Q t:=by
   rw[<- jI,<- eL,jI];rfl
  have qt:=zF t;have dq:d<=1048576*n:=h.lo;have qb:=zK hB;have Fa:Q 40=1099511627776:=rfl;have m2:=Yi (show 1048576<=Q B by omega) (show 0<=n by omega)
  have k3:Q L*d<2*(n*Q B):=by omega
  have k4:Q B*(Q t*d)<Q B*(1024*n):=by
   have e5:Q B*(Q t*d)=Q L*512*d:=by rw[k2];grind
   have e6:Q L*512*d=512*(Q L*d):=by grind
   have e7:Q B*(1024*n)=1024*(n*Q B):=by grind
   omega
  have k5:=Int.lt_of_mul_lt_mul_left k4 (show 0<=Q B by omega)
  rw[Int.mul_comm d];omega
theorem wa_done {n d:Int} (h:WaIn n d) {B t N:Nat} {l:Int} (hB:40<=B) (hl:zBM (zX (ofI (-n) d B)) l) (ht:(t:Int)=max 0 (l-B+8)) (hA:Abs (zG (ofI (-n) d B) t) (Q (B-8))) (hN:zT (zW B (zG (ofI (-n) d B) t)) N) :
  0<=(zM (zW B (zG (ofI (-n) d B) t)) N).1/\(zM (zW B (zG (ofI (-n) d B) t)) N).1<=(zM (zW B (zG (ofI (-n) d B) t)) N).2/\(zM (zW B (zG (ofI (-n) d B) t)) N).2<=Q B/\(zM (zW B (zG (ofI (-n) d B) t)) N).2-(zM (zW B (zG (ofI (-n) d B) t)) N).1+1<=(B:Int)+20:=by
 have q:=zF B;have qt:=zF t;have d0:=h.d0;have n0:=h.n0;have al:=yU (n := -n) d0 B;have iv:=(Iv.of B (n := -n) d0).down t;have ivE:=zC7 (N:=N) (by omega) iv hA
 have W3:(zG (ofI (-n) d B) t).1<=(zG (ofI (-n) d B) t).2:=iv.le
 have W4:(zG (ofI (-n) d B) t).2-(zG (ofI (-n) d B) t).1<=1+1:=zBE (by omega) (by
  have:=yQ (n := -n) d0 B
  omega)
 have wE:=zB7 (yX B (zG (ofI (-n) d B) t)) N;have NC:=zBW (zDT (by omega) hA W3 W4) hN
 have hNB:N<=B/8+1:=by
  obtain⟨N',n1,n2⟩:=zBQ (s:=8) (by omega) (zBG (by omega) hA)
  refine Nat.le_trans (Nat.not_lt.1 λ E2=>?_) n1
  have:=hN.2 N' E2;have:=n2.1;omega
 have w:(zM (zW B (zG (ofI (-n) d B) t)) N).2-(zM (zW B (zG (ofI (-n) d B) t)) N).1+1<=(B:Int)+20:=by omega
 have dr:(0:Rat)<(d:Rat):=by exact_mod_cast d0
 have tr:(0:Rat)<(Q t:Rat):=by exact_mod_cast qt
 have br:=jJ B;obtain⟨u,hu⟩:∃ u:Rat,u=(n:Rat)/(d:Rat)/(Q t:Rat):=⟨_,rfl⟩
 have eu:(λ M:Nat=>((-n:Int):Rat)/(d:Rat)/(Q t:Rat))=λ _ => -u:=by
  funext M
  rw[hu,Rat.intCast_neg,Yp,Yp,Yp,Yp];grind
 rw[eu] at iv ivE;have um:u*(Q t:Rat)*(d:Rat)=(n:Rat):=by rw[hu,rdm tr,rdm dr]
 have ul:(1:Rat)<=1048576*u:=by
  have c:=jG (wa_low h hB hl ht);rw[Ym,Ym] at c;have e:((1048576:Int):Rat)=1048576:=rfl;rw[e] at c;have p:=Rat.mul_pos dr tr;refine Rat.le_of_mul_le_mul_right (c:=(d:Rat)*(Q t:Rat)) ?_ p;have e2:1048576*u*((d:Rat)*(Q t:Rat))=1048576*(u*(Q t:Rat)*(d:Rat)):=by grind
  rw[e2,um];grind
 have uu:u*256<=1:=by
  obtain⟨h1,h2⟩:=Has.of_const iv;have a1:=jG hA.1
  have e8:Q B=256*Q (B-8):=by
   have e:=jI 8 (B-8);rw[show 8+(B-8)=B by omega] at e
   rw[e];rfl
  have SC:(Q B:Rat)=256*(Q (B-8):Rat):=by rw[e8,Ym];rfl
  have m:=Yf h1 (Yh br);rw[rdm br] at m;rw[Rat.intCast_neg] at a1;have p8:=jJ (B-8);refine Rat.le_of_mul_le_mul_right (c:=(Q (B-8):Rat)) ?_ p8;rw[SC] at m;grind
 have u0:0<=u:=by grind
 have up:LeN (Ev (λ _ => -u)) (λ _=>1-u/2):=LeN.of_le 2 λ M hM=>by
  have k:=(zDS u0 (by grind) hM).2
  have s:=Yd uu u0
  show ex (-u) M<=1-u/2
  grind
 have dn:LeN (λ _=>(1:Rat)/2) (Ev (λ _ => -u)):=LeN.of_le 2 λ M hM=>by
  have k:=(zGU (h := -u) (b:=1/8) ⟨by grind,by grind⟩ (by grind) (show 1<=M by omega)).1
  show 1/2<=E (-u) M
  grind
 have Io:Q B=2097152*Q (B-21):=by
  have e:=jI 21 (B-21);rw[show 21+(B-21)=B by omega] at e
  rw[e];rfl
 have BW:(Q B:Rat)=2097152*(Q (B-21):Rat):=by rw[Io,Ym];rfl
 have B9:=wa_up hB;have Xm:=jJ (B-21)
 have lo:=iv_lt (z:=Q B-Q (B-21)+1) ivE up (by
  rw[Rat.intCast_add,Rat.intCast_sub,BW];have e1:((1:Int):Rat)=1:=rfl;rw[e1];have m:=Yf ul (Yh Xm)
  grind)
 have hi:=iv_gt (z:=Q (B-21)) ivE dn (by rw[BW];grind)
 have q0:=zF (B-21);refine⟨by omega,wE,by omega,w⟩
theorem wa_ok {n d:Int} (h:WaIn n d) {B t N:Nat} {l:Int} (hB:40<=B) (A7:B<=400) (fe:t<=35) (hl:zBM (zX (ofI (-n) d B)) l) (ht:(t:Int)=max 0 (l-B+8)) (hA:Abs (zG (ofI (-n) d B) t) (Q (B-8))) (hN:zT (zW B (zG (ofI (-n) d B) t)) N) :
  (∀ i,0<=(sqI B (zM (zW B (zG (ofI (-n) d B) t)) N) i).1/\(sqI B (zM (zW B (zG (ofI (-n) d B) t)) N) i).2<=Q B)/\LwPr (λ M=>1-Ev (λ _=>((-n:Int):Rat)/(d:Rat)) M) B (zA3 B (sqI B (zM (zW B (zG (ofI (-n) d B) t)) N) t)).1 (zA3 B (sqI B (zM (zW B (zG (ofI (-n) d B) t)) N) t)).2:=by
 obtain⟨g0,g1,g2,g3⟩:=wa_done h hB hl ht hA hN;have sq:=sq_unit g0 g1 g2;refine⟨λ i=>⟨(sq i).1,(sq i).2.2.1⟩,?_⟩
 obtain⟨s0,s1,s2,s3⟩:=sq t;have iv:=zFM (N:=N) (by omega) (Iv.of B (n := -n) h.d0) hA
 have m:=Int.mul_le_mul (zK fe) (show (zM (zW B (zG (ofI (-n) d B) t)) N).2-(zM (zW B (zG (ofI (-n) d B) t)) N).1+1<=512 by omega) (by omega) (by have:=zF 35;omega)
 have e44:Q 35*512=Q 44:=by rw[show 44=35+9 by rfl,jI];rfl
 have Ip:=zK (show 44<=89 by omega)
 refine⟨?_,?_,?_,?_,(zGM B).sub iv⟩
 ·show 0<=Q B-_;omega
 ·show Q B-_<=Q B-_;omega
 ·show Q B-_<=Q B;omega
 ·show Q B-_-(Q B-_)<=Q 89;omega
def raU (p:Int) (last:Int) (k:Nat):Int:=if last<(k:Int) then 0 else p
def raD (q:Int) (last:Int) (k:Nat):Int:=if last<(k:Int) then 1 else if k=0 then 1 else q*(k:Int)
def raT (p q last:Int) (B:Nat):Nat->Int × Int:=riT (Q B,Q B) (raU p last) (raD q last)
def zBJ (p q:Int):Nat:=(2*p/q).toNat
theorem raD_pos {q last:Int} (q0:0<q) (k:Nat):0<raD q last k:=by
 unfold raD;split
 ·decide
 ·split
  ·decide
  ·exact Int.mul_pos q0 (by omega)
theorem zNK {p q last:Int} (p0:0<p) (q0:0<q) (B:Nat):zNW (Q B,Q B) (raU p last) (raD q last):=by
 have qB:=zF B;refine⟨⟨λ k=>by unfold raU;split<;>omega,λ k=>raD_pos q0 k⟩,by show 0<Q B;omega,Int.le_refl _,by show Q B-Q B<=1;omega,λ k hk=>?_⟩
 unfold raU raD at hk ⊢
 by_cases c:last<((k+2:Nat):Int)
 ·rw[if_pos c,if_pos c] at hk;omega
 ·rw[if_neg c,if_neg c,if_neg (by omega)] at hk
  rw[if_neg (by omega),if_neg (by omega),if_neg (by omega)]
  have m:=Yi (show ((k+1:Nat):Int)<=((k+2:Nat):Int) by omega) (show 0<=q by omega)
  omega
theorem ra_34 {p q last:Int} (p0:0<p) (q0:0<q) (k:Nat) (hk:zBJ p q<=k):4*raU p last (k+1)<=3*raD q last (k+1):=by
 unfold raU raD
 by_cases c:last<((k+1:Nat):Int)
 ·rw[if_pos c,if_pos c];omega
 ·rw[if_neg c,if_neg c,if_neg (by omega)]
  have a:2*p<(2*p/q+1)*q:=Int.lt_ediv_add_one_mul_self _ q0;have b:2*p/q<=(k:Int):=by unfold zBJ at hk;omega
  have m:=Yg (show 2*p/q+1<=((k+1:Nat):Int) by omega) (show 0<=q by omega)
  have e:q*((k+1:Nat):Int)=((k+1:Nat):Int)*q:=Int.mul_comm _ _;rw[e];omega
theorem ra_c {p q last:Int} (p0:0<p) (q0:0<q) (hp:p<=100*q) (k:Nat):raU p last (k+1)<=Q 7*raD q last (k+1):=by
 have e7:Q 7=128:=rfl;rw[e7];unfold raU raD
 by_cases c:last<((k+1:Nat):Int)
 ·rw[if_pos c,if_pos c];omega
 ·rw[if_neg c,if_neg c,if_neg (by omega)]
  have m:=Yi (show 1<=((k+1:Nat):Int) by omega) (show 0<=q by omega)
  omega
theorem zJ5 {p q:Int} (p0:0<p) (q0:0<q) (hp:p<=100*q):zBJ p q<=200/\((zBJ p q:Nat):Int)=2*p/q:=by
 have a:2*p/q<=200:=Int.ediv_le_of_le_mul q0 (by omega)
 have b:0<=2*p/q:=Int.ediv_nonneg (by omega) (by omega)
 unfold zBJ;exact⟨by omega,by omega⟩
theorem ra_set {p q last:Int} (p0:0<p) (q0:0<q) (hp:p<=100*q) {B:Nat} (hB:40<=B) (A7:B<=400):∃ N,N<=5700/\yG (raT p q last B) (zBJ p q) N:=by
 obtain⟨N,n1,n2⟩:=zRP (zNK (last:=last) p0 q0 B) (H:=B) (c:=7) (turn:=zBJ p q) (Int.le_refl _) (by omega) (ra_c p0 q0 hp) (λ k hk=>ra_34 p0 q0 k hk)
 have:=(zJ5 p0 q0 hp).1;exact⟨N,by omega,n2⟩
theorem zL2 {p q last:Int} (p0:0<p) (q0:0<q) (hp:p<=100*q) {B:Nat} (hB:40<=B) (A7:B<=400) (k:Nat) (hk:k<=1000000):(jH (raT p q last B) k).2+9<=Q 1900/\(raT p q last B k).2<=Q 1900:=by
 have t:=(zJ5 p0 q0 hp).1;have a:=zRN (zNK (last:=last) p0 q0 B) (H:=B) (c:=7) (turn:=zBJ p q) (Int.le_refl _) (by omega) (ra_c p0 q0 hp) (λ k hk=>ra_34 p0 q0 k hk) k hk
 have b:=zRO (zNK (last:=last) p0 q0 B) (H:=B) (c:=7) (turn:=zBJ p q) (Int.le_refl _) (by omega) (ra_c p0 q0 hp) (λ k hk=>ra_34 p0 q0 k hk) k
 exact⟨Int.le_trans a (zK (by omega)),Int.le_trans b (zK (by omega))⟩
theorem ra_val {p q last:Int} (q0:0<q) (k M:Nat):riV (λ _=>1) (raU p last) (raD q last) k M=if (k:Int)<=max last 0 then ((p ^ k:Int):Rat)/((q ^ k*zDE k:Int):Rat) else 0:=by
 induction k with
 | zero =>
  rw[if_pos (by omega)]
  show (1:Rat)=((p ^ 0:Int):Rat)/((q ^ 0*zDE 0:Int):Rat)
  have e:q ^ 0*zDE 0=1:=by rw[Int.pow_zero];rfl
  have e2:p ^ 0=1:=Int.pow_zero p;rw[e,e2];decide +kernel
 | succ k ih =>
  show (raU p last (k+1):Rat)/(raD q last (k+1):Rat)*riV (λ _=>1) (raU p last) (raD q last) k M=_
  rw[ih];unfold raU raD
  by_cases c:last<((k+1:Nat):Int)
  ·generalize (if (k:Int)<=max last 0 then ((p ^ k:Int):Rat)/((q ^ k*zDE k:Int):Rat) else 0)=Y
   rw[if_pos c,if_neg (show ¬ ((k+1:Nat):Int)<=max last 0 by omega)]
   have z:((0:Int):Rat)=0:=rfl;rw[z,Yp,Rat.zero_mul,Rat.zero_mul]
  ·rw[if_pos (show (k:Int)<=max last 0 by omega),if_pos (show ((k+1:Nat):Int)<=max last 0 by omega),if_neg c,if_neg c,if_neg (show ¬ k+1=0 by omega)]
   have a0:(0:Rat)<((q ^ k*zDE k:Int):Rat):=by exact_mod_cast Int.mul_pos (Int.pow_pos q0) (zE5 k)
   have b0:(0:Rat)<((q ^ (k+1)*zDE (k+1):Int):Rat):=by exact_mod_cast Int.mul_pos (Int.pow_pos q0) (zE5 (k+1))
   have c0:(0:Rat)<((q*((k+1:Nat):Int):Int):Rat):=by exact_mod_cast Int.mul_pos q0 (show 0<((k+1:Nat):Int) by omega)
   have ef:q ^ (k+1)*zDE (k+1)=(q*((k+1:Nat):Int))*(q ^ k*zDE k):=by
    show q ^ (k+1)*(zDE k*_)=_
    rw[Int.pow_succ]
    push_cast
    grind
   have ep:p ^ (k+1)=p*p ^ k:=by rw[Int.pow_succ,Int.mul_comm]
   rw[ef,ep,Ym p,Ym (q*((k+1:Nat):Int))];rw[ef,Ym] at b0;have r1:=rdm (a:=(p:Rat)) c0;have r2:=rdm (a:=((p ^ k:Int):Rat)) a0;have r3:=rdm (a:=(p:Rat)*((p ^ k:Int):Rat)) b0;refine Rat.le_antisymm (Rat.le_of_mul_le_mul_right ?_ b0) (Rat.le_of_mul_le_mul_right ?_ b0) <;>
   ·rw[r3]
    have e:∀ A B C D:Rat,A*B*(C*D)=(A*C)*(B*D):=λ A B C D=>by grind
    rw[e,r1,r2];exact Rat.le_refl
theorem raS_val {p q last:Int} (hl:0<=last) (q0:0<q) (M:Nat) (hM:last<(M:Int)):riS (λ _=>1) (raU p last) (raD q last) M=S (λ i=>((p ^ i:Int):Rat)/((q ^ i*zDE i:Int):Rat)) (last+1).toNat:=by
 unfold riS;obtain⟨K,hK⟩:∃ K:Nat,K=(last+1).toNat:=⟨_,rfl⟩;rw[<- hK]
 have low:∀ j,j<=K->S (λ k=>riV (λ _=>1) (raU p last) (raD q last) k M) j=S (λ i=>((p ^ i:Int):Rat)/((q ^ i*zDE i:Int):Rat)) j:=λ j=>by
  induction j with
  | zero=>intro _;rfl
  | succ j ih =>
   intro hj
   show S _ j+riV (λ _=>1) (raU p last) (raD q last) j M=S _ j+_
   rw[ih (by omega),ra_val q0,if_pos (by omega)]
 have up:∀ j,S (λ k=>riV (λ _=>1) (raU p last) (raD q last) k M) (K+j)=S (λ i=>((p ^ i:Int):Rat)/((q ^ i*zDE i:Int):Rat)) K:=λ j=>by
  induction j with
  | zero=>exact low K (Yj _)
  | succ j ih =>
   show S _ (K+j)+riV (λ _=>1) (raU p last) (raD q last) (K+j) M=_
   rw[ih,ra_val q0,if_neg (by omega)];grind
 have:=up (M-K);rw[show K+(M-K)=M by omega] at this
 exact this
theorem S_div {f:Nat->Rat} (c:Rat) (n:Nat):S (λ i=>f i/c) n=S f n/c:=by
 induction n with
 | zero=>show (0:Rat)=0/c;rw[Yp,Rat.zero_mul]
 | succ n ih=>show S (λ i=>f i/c) n+f n/c=(S f n+f n)/c;rw[ih,Yp,Yp,Yp];grind
theorem raX_one {p q n d:Int} (hp:0<=p) (hq:0<q):LeN (raX p q n d) (λ _=>1):=by
 refine LeN.of_le (raN n d+1) λ M hM=>?_
 unfold raX rareX;rw[S_div];have x0:=zC9 hp hq;have e0:0<Ev (λ _=>(p:Rat)/(q:Rat)) M:=(E_term x0 0 M (by omega)).2
 refine jX e0 ?_
 have:∀ j,j<=M->S (λ i=>((p ^ i:Int):Rat)/((q ^ i*zDE i:Int):Rat)) j<=E ((p:Rat)/(q:Rat)) M:=λ j hj=>by
  have k:S (λ i=>((p ^ i:Int):Rat)/((q ^ i*zDE i:Int):Rat)) j=S (tm ((p:Rat)/(q:Rat))) j:=by
   clear hj
   induction j with
   | zero=>rfl
   | succ j ih=>show S _ j+_=S _ j+_;rw[ih,tm_frac hq]
  rw[k]
  show _<=S (tm ((p:Rat)/(q:Rat))) M
  obtain⟨i,rfl⟩:∃ i,M=j+i:=⟨M-j,by omega⟩
  clear hM hj k e0
  induction i with
  | zero=>exact Rat.le_refl
  | succ i ih =>
   have:=zAR x0 (j+i)
   show _<=S (tm ((p:Rat)/(q:Rat))) (j+i)+tm ((p:Rat)/(q:Rat)) (j+i)
   grind
 have:=this (raN n d) (by omega)
 show _<=1*E ((p:Rat)/(q:Rat)) M
 grind
theorem ra_exD {B t:Nat} (h0:40<=B) (h1:B<=400) (ht:t<=15):0<=exD B 1 t/\2*exD B 1 t<=Q B/\exD B 1 t<=1000000000000000:=by
 have qt:=zK ht;have mh:Q 15=32768:=rfl;have q0:=zF t;have q:=zK h0;have e:Q 40=1099511627776:=rfl;have m:=Int.mul_le_mul (show (B:Int)/8+2<=52 by omega) (show 2*1+8*Q t<=262146 by omega) (by omega) (by omega)
 have m0:=Yl (show 0<=(B:Int)/8+2 by omega) (show 0<=2*1+8*Q t by omega)
 unfold exD;exact⟨by omega,by omega,by omega⟩
def raE (p q:Int) (B t N:Nat):Int × Int:=sqI B (zM (zW B (zG (ofI p q B) t)) N) t
theorem ra_lw {p q last n d:Int} (p0:0<p) (q0:0<q) (hp:p<=100*q) (hl:0<=last) (hn:n/d=last) {B t N NS:Nat} (hB:40<=B) (A7:B<=400) (fe:t<=15) (hA:Abs (zG (ofI p q B) t) (Q (B-8))) (hN:zT (zW B (zG (ofI p q B) t)) N) (hS:NS<=5700) (iA:yG (raT p q last B) (zBJ p q) NS) :
  0<(raE p q B t N).1/\(raE p q B t N).1<=(raE p q B t N).2/\0<=(kT (raT p q last B) NS).1/\(kT (raT p q last B) NS).1<=(kT (raT p q last B) NS).2/\LwPr (raX p q n d) B (zEC (kT (raT p q last B) NS).1 (kT (raT p q last B) NS).2 (raE p q B t N).1 (raE p q B t N).2 B) (zNA (kT (raT p q last B) NS) (raE p q B t N) B):=by
 have qB:=zF B;obtain⟨s1,s2,s3⟩:=se_ok (zNK (last:=last) p0 q0 B) NS;obtain⟨D0,D1,D2⟩:=ra_exD hB A7 fe;have x0:=zC9 (show 0<=p by omega) q0
 obtain⟨e1,e2,e3,e4,e5⟩:=exq_ok (t:=t) (N:=N) (by omega) (Iv.of B (n:=p) q0) (LeN.of_le 0 λ M _=>x0) (yQ q0 B) hA hN D1
 have ee:raE p q B t N=sqI B (zM (zW B (zG (ofI p q B) t)) N) t:=rfl;have es:raT p q last B=riT (Q B,Q B) (raU p last) (raD q last):=rfl;rw[<- ee] at e1 e2 e3 e4 e5;rw[<- es] at s1 s2 s3
 have s0:0<=(kT (raT p q last B) NS).1:=by
  have:Q B<=(kT (raT p q last B) NS).1:=s1;omega
 have si:=zBY (zNK (last:=last) p0 q0 B).ok (zGM B) 0 (λ M _=>by grind) (λ k hk=>ra_34 p0 q0 k hk) iA
 rw[<- es] at si;have dv:=Iv.dv si e5 s0 (by omega)
 have Ss:=Has.congr (y:=raX p q n d) dv (null_zero.of_eq_from (last+1).toNat λ M hM=>by
  rw[raS_val hl q0 M (by omega),<- S_div]
  unfold raX raN;rw[hn]
  show S (λ i=>rareX p q i M) (last+1).toNat-_=0
  unfold rareX
  grind)
 refine⟨by omega,e2,s0,s2,zJ1 (C:=(1+2*(NS:Int))*((NS:Int)+2)+9) (D:=exD B 1 t) hB s0 s2 (by omega) e2 ?_ D0 ?_ D2 (by omega) s3 e4 Ss (raX_one (by omega) q0)⟩
 ·have:=Yl (show 0<=1+2*(NS:Int) by omega) (show 0<=(NS:Int)+2 by omega)
  omega
 ·have:=Int.mul_le_mul (show 1+2*(NS:Int)<=11401 by omega) (show (NS:Int)+2<=5702 by omega) (by omega) (by omega)
  omega
theorem zG8 (x q:Int) (hq:0<q):x/q*q<=x:=Int.ediv_mul_le _ (by omega)
theorem zG7 (x q:Int) (hq:0<q):x<x/q*q+q:=by
 have h:=Int.emod_add_mul_ediv x q;have:=Int.emod_lt_of_pos x hq;rw[Int.mul_comm];omega
theorem zLB {p q z:Int} (hq:0<q) (h1:z*q<=p) (h2:p<z*q+q):p/q=z:=by
 have a:=zG8 p q hq;have b:=zG7 p q hq
 have c1:p/q<z+1:=by
  refine Int.not_le.1 λ h=>?_
  have h3:=Yg h (show 0<=q by omega)
  have h4:(z+1)*q=z*q+q:=by rw[Int.add_mul];omega
  omega
 have c2:z<p/q+1:=by
  refine Int.not_le.1 λ h=>?_
  have h3:=Yg h (show 0<=q by omega)
  have h4:(p/q+1)*q=p/q*q+q:=by rw[Int.add_mul];omega
  omega
 omega
theorem tdiv_bd {p q:Int} (hq:0<q):(p.tdiv q*q<=p/\p<p.tdiv q*q+q)\/(p<p.tdiv q*q/\p.tdiv q*q-q<p):=by
 by_cases hp:0<=p
 ·rw[Int.tdiv_eq_ediv_of_nonneg hp]
  exact Or.inl ⟨zG8 p q hq,zG7 p q hq⟩
 ·have e:p.tdiv q = -((-p)/q):=by
   have h1:((-(-p)).tdiv q) = -((-p).tdiv q):=Int.neg_tdiv _ _;rw[Int.neg_neg] at h1;rw[h1,Int.tdiv_eq_ediv_of_nonneg (by omega)]
  have a:=zG8 (-p) q hq;have b:=zG7 (-p) q hq;rw[e,Int.neg_mul]
  by_cases hz:(-p)/q*q = -p
  ·exact Or.inl ⟨by omega,by omega⟩
  ·exact Or.inr ⟨by omega,by omega⟩
theorem zLA (p q:Int) (w:World) (h:rok p q) :
  Calls Tryz.prog 137 #[.agg #[.int .i64 p,.int .i64 q]] w λ z w'=>z=.returned (.int .i64 (p/q))/\Below w.heap.size w w':=by
 obtain⟨h1,h2,h3,h4⟩:=h;have hb:=tdiv_bd (p:=p) (q:=q) (by omega)
 obtain⟨n,hn⟩:∃ n,n=p.tdiv q:=⟨_,rfl⟩;have nZ:p.tdiv q=n:=hn.symm;rw[nZ] at hb;have hz:(q == 0)=false:=by simp;omega
 have VP : -1048577<=n/\n<=1048577:=by
  rcases hb with⟨b1,b2⟩|⟨b1,b2⟩
  ·constructor
   ·refine Int.not_lt.1 λ h=>?_
    have:=Yg (show n <= -1048578 by omega) (show 0<=q by omega)
    omega
   ·refine Int.not_lt.1 λ h=>?_
    have:=Yg (show 1048578<=n by omega) (show 0<=q by omega)
    omega
  ·constructor
   ·refine Int.not_lt.1 λ h=>?_
    have:=Yg (show n <= -1048578 by omega) (show 0<=q by omega)
    omega
   ·refine Int.not_lt.1 λ h=>?_
    have:=Yg (show 1048578<=n by omega) (show 0<=q by omega)
    omega
 have VW : -2000000<=n*q/\n*q<=2000000:=by omega
 obtain⟨m1,m2⟩:=VP;obtain⟨m3,m4⟩:=VW
 rcases hb with⟨b1,b2⟩|⟨b1,b2⟩
 ·have HE:=zC (zLB (by omega) b1 b2)
  have hng:¬ p<n*q:=by omega
  clear hn b1 b2
  go_enter Tryz.func137,Tryz.ntmps137
  go_wp2
  go_ret
  exact⟨by rw[zA HE];rfl,bl1 _ _⟩
 ·have HE:=zC (show p/q=n-1 from zLB (by omega) (by rw[Int.sub_mul];omega) (by rw[Int.sub_mul];omega))
  clear hn b2
  go_enter Tryz.func137,Tryz.ntmps137
  go_wp2
  go_ret
  exact⟨by rw[zA HE];rfl,bl1 _ _⟩
theorem zJS (q r s x y:Int) (P M b:Nat) (w:World) (O9:rok x y) (hM:(min (x/y) (P:Int)+1).toNat=M) (hp:P<=100) (hr:0<=r) (hs:r<=s) (hs1:1<=s) (ag:s<=1024) (hb:b<=1000000) :
  Calls Tryz.prog 91 #[.agg #[.int .i64 6,.int .i64 (P:Int),.int .i64 q,.int .i64 r,.int .i64 s],.agg #[.int .i64 x,.int .i64 y],.int .i64 b] w (zL w b (b/16+5000) (zCJ (zD6 P r s) M*Q b/s ^ P) (-(-(zCJ (zD6 P r s) M*Q b)/s ^ P))):=by
 have mB : -1000000000<=x/y/\x/y<=1000000000:=by
  obtain⟨h1,h2,h3,h4⟩:=O9;have a:=zG8 x y (by omega)
  have b:=zG7 x y (by omega)
  constructor
  ·refine Int.not_lt.1 λ h=>?_
   have:=Yg (show x/y <= -1000000001 by omega) (show 0<=y by omega)
   omega
  ·refine Int.not_lt.1 λ h=>?_
   have:=Yg (show 1000000001<=x/y by omega) (show 0<=y by omega)
   omega
 obtain⟨W,hW⟩:∃ W,W=((w.alloc (.cells #[.int .i64 6,.int .i64 (P:Int),.int .i64 q,.int .i64 r,.int .i64 s] 25)).alloc (.cells #[.int .i64 x,.int .i64 y] 23)).alloc (.cells zCq 31):=⟨_,rfl⟩;have j6:Below w.heap.size w W:=by rw[hW];exact bl3 _ _ _ _
 have L:W.cell? ⟨w.heap.size,0,none⟩=some (.int .i64 6)/\W.cell? ⟨w.heap.size,1,none⟩=some (.int .i64 (P:Int))/\W.cell? ⟨w.heap.size,2,none⟩=some (.int .i64 q)/\W.cell? ⟨w.heap.size,3,none⟩=some (.int .i64 r)/\W.cell? ⟨w.heap.size,4,none⟩=some (.int .i64 s)/\W.cell? ⟨w.heap.size+1,0,none⟩=some (.int .i64 x)/\W.cell? ⟨w.heap.size+1,1,none⟩=some (.int .i64 y):=by rw[hW];simp[go_sem]
 have R:NoC W (w.heap.size+1+1):=by rw[hW];constructor<;>simp[go_sem]
 have lR:=R.lt
 have HK:=zC (show ∀ w',Below W.heap.size W w'->(w'.cell? ⟨w.heap.size,0,none⟩=some (.int .i64 6)/\w'.cell? ⟨w.heap.size,1,none⟩=some (.int .i64 (P:Int))/\w'.cell? ⟨w.heap.size,2,none⟩=some (.int .i64 q)/\w'.cell? ⟨w.heap.size,3,none⟩=some (.int .i64 r)/\w'.cell? ⟨w.heap.size,4,none⟩=some (.int .i64 s)/\rK0 w' (w.heap.size+1) x y) from λ w' hB=>by
  obtain⟨l0,l1,l2,l3,l4,l5,l6⟩:=L
  exact⟨(hB.cell (p:=⟨w.heap.size,0,none⟩) (by show w.heap.size<_;omega)).trans l0,(hB.cell (p:=⟨w.heap.size,1,none⟩) (by show w.heap.size<_;omega)).trans l1,(hB.cell (p:=⟨w.heap.size,2,none⟩) (by show w.heap.size<_;omega)).trans l2,(hB.cell (p:=⟨w.heap.size,3,none⟩) (by show w.heap.size<_;omega)).trans l3,(hB.cell (p:=⟨w.heap.size,4,none⟩) (by show w.heap.size<_;omega)).trans l4,(hB.cell (p:=⟨w.heap.size+1,0,none⟩) (by show w.heap.size+1<_;omega)).trans l5,(hB.cell (p:=⟨w.heap.size+1,1,none⟩) (by show w.heap.size+1<_;omega)).trans l6⟩)
 have HM:=zC hM;clear hM L
 go_enter Tryz.func91,Tryz.ntmps91
 go_wp2;rw[<- hW];clear hW;obtain⟨l0,l1,l2,l3,l4,l5,l6⟩:=zA HK _ (Below.refl _ _);have D8:Below W.heap.size W W.drew:=(Below.refl _ _).drew;have nA:w.heap.size≠w.heap.size+1+1:=by omega
 have Pj:w.heap.size+1+1≠w.heap.size:=by omega
 go_region_held3 (λ w'=>w'.cell? ⟨w.heap.size,0,none⟩=some (.int .i64 6)/\w'.cell? ⟨w.heap.size,1,none⟩=some (.int .i64 (P:Int))/\w'.cell? ⟨w.heap.size,2,none⟩=some (.int .i64 q)/\w'.cell? ⟨w.heap.size,3,none⟩=some (.int .i64 r)/\w'.cell? ⟨w.heap.size,4,none⟩=some (.int .i64 s)/\rK0 w' (w.heap.size+1) x y) (first|exact zA HK _ (by with_reducible first|exact D8|exact A6|exact y9)|(dsimp only[cK,cK0,nK,nK0,rK,rK0];go_keep)|go_keep)
  (first
   | (go_at_call 136;refine (zO1 6 q r s (x/y) P M b _ (zA HM) mB.1 mB.2 hp hr hs hs1 ag hb).mono ?_;rintro r' w2 ⟨u,rfl,D5,B9,j5⟩;have A6:=zB y9 j5;obtain⟨q0,q1,q2,q3,q4,q5⟩:=R.bw A6;have G3:=zC D5;clear D5;obtain⟨e0,e1,e2,e3,e4,e5,e6⟩:=zA HK _ A6)
   | (go_at_call 137;refine (zLA x y _ O9).mono ?_;rintro r' w1 ⟨rfl,b9⟩;have y9:=zB D8 b9))
 all_goals
  go_wp2_with fail;refine bodyPost_ret (v:=.agg u.q) (by simp[results,Tryz.results91,go_sem,q0,q1,q2,q3,q4]) rfl ⟨u,rfl,zA G3,?_,?_⟩
  ·exact SpAt.put5 B9 q0 q1 q2 q3 q4 _ _ _ _ _
  ·exact kM (zB j6 A6) (by omega) _ _ _ _ _
def BlA (x:Nat->Rat) (w:World) (b:Nat) (z:Ending) (w':World):Prop:=∃ lo hi,LwPr x b lo hi/\zL w b 30000 lo hi z w'
theorem zE8 (w:World) (b:Nat) (hb:b<=2000):Calls Tryz.prog 100 #[.int .i64 b] w (BlA (λ _=>0) w b) :=
 (never_iv w b hb).mono λ z w' ⟨u,e1,e2,e3,e4⟩=>⟨_,_,(of_lw b (Int.le_refl 0) (by decide) (by decide)).congr (null_zero.of_eq λ M=>by
  have e:((0:Int):Rat)/((1:Int):Rat)=0:=by decide +kernel
  rw[e];grind),u,e1,e2,e3.mono (by omega),e4⟩
theorem one_bl (w:World) (b:Nat) (hb:b<=400):Calls Tryz.prog 93 #[.int .i64 b] w (BlA (λ _=>1) w b) :=
 (zCX w b (by omega)).mono λ z w' ⟨u,e1,e2,e3,e4⟩=>⟨_,_,(of_lw b (show (0:Int)<=1 by decide) (show (0:Int)<1 by decide) (Int.le_refl 1)).congr (null_zero.of_eq λ M=>by
  have e:((1:Int):Rat)/((1:Int):Rat)=1:=by decide +kernel
  rw[e];grind),u,e1,e2,e3.mono (by omega),e4⟩
theorem lwait_no (w:World) (k p q r s n d:Int) (b:Nat) (hb:b<=2000) (hn:n<=0) :
  Calls Tryz.prog 132 #[.agg #[.int .i64 k,.int .i64 p,.int .i64 q,.int .i64 r,.int .i64 s],.agg #[.int .i64 n,.int .i64 d],.int .i64 b] w (BlA (λ _=>0) w b):=by
 go_enter Tryz.func132,Tryz.ntmps132
 go_wp2_with fail;refine (zE8 _ b hb).mono ?_;rintro zz w1 ⟨lo,hi,I2,u,rfl,D5,B9,b9⟩;have R:NoC w1 (w.heap.size+1+1):=NoC.bw ⟨by simp[go_sem],by simp[go_sem],by simp[go_sem],by simp[go_sem],by simp[go_sem],λ o=>by simp[go_sem]⟩ b9
 have hB:Below w.heap.size w w1:=zB (bl3 _ _ _ _ ) b9;obtain⟨q0,q1,q2,q3,q4,q5⟩:=R;have G3:=zC D5;clear D5 b9;go_wp2_with fail;refine bodyPost_ret (v:=.agg u.q) (by simp[results,Tryz.results132,go_sem,q0,q1,q2,q3,q4]) rfl ⟨lo,hi,I2,u,rfl,zA G3,?_,?_⟩
 ·exact SpAt.put5 (B9) q0 q1 q2 q3 q4 _ _ _ _ _
 ·exact kM hB (by omega) _ _ _ _ _
theorem zP4 (w:World) (k p q r s n d:Int) (b:Nat) (hb:b<=2000) (hn:n<=0) :
  Calls Tryz.prog 133 #[.agg #[.int .i64 k,.int .i64 p,.int .i64 q,.int .i64 r,.int .i64 s],.agg #[.int .i64 n,.int .i64 d],.int .i64 b] w (BlA (λ _=>0) w b):=by
 go_enter Tryz.func133,Tryz.ntmps133
 go_wp2_with fail;refine (zE8 _ b hb).mono ?_;rintro zz w1 ⟨lo,hi,I2,u,rfl,D5,B9,b9⟩;have R:NoC w1 (w.heap.size+1+1):=NoC.bw ⟨by simp[go_sem],by simp[go_sem],by simp[go_sem],by simp[go_sem],by simp[go_sem],λ o=>by simp[go_sem]⟩ b9
 have hB:Below w.heap.size w w1:=zB (bl3 _ _ _ _ ) b9;obtain⟨q0,q1,q2,q3,q4,q5⟩:=R;have G3:=zC D5;clear D5 b9;go_wp2_with fail;refine bodyPost_ret (v:=.agg u.q) (by simp[results,Tryz.results133,go_sem,q0,q1,q2,q3,q4]) rfl ⟨lo,hi,I2,u,rfl,zA G3,?_,?_⟩
 ·exact SpAt.put5 (B9) q0 q1 q2 q3 q4 _ _ _ _ _
 ·exact kM hB (by omega) _ _ _ _ _
theorem lbeta_no (w:World) (k p q r s n d:Int) (b:Nat) (hb:b<=2000) (hn:n<=0) :
  Calls Tryz.prog 134 #[.agg #[.int .i64 k,.int .i64 p,.int .i64 q,.int .i64 r,.int .i64 s],.agg #[.int .i64 n,.int .i64 d],.int .i64 b] w (BlA (λ _=>0) w b):=by
 go_enter Tryz.func134,Tryz.ntmps134
 go_wp2_with fail;refine (zE8 _ b hb).mono ?_;rintro zz w1 ⟨lo,hi,I2,u,rfl,D5,B9,b9⟩;have R:NoC w1 (w.heap.size+1+1):=NoC.bw ⟨by simp[go_sem],by simp[go_sem],by simp[go_sem],by simp[go_sem],by simp[go_sem],λ o=>by simp[go_sem]⟩ b9
 have hB:Below w.heap.size w w1:=zB (bl3 _ _ _ _ ) b9;obtain⟨q0,q1,q2,q3,q4,q5⟩:=R;have G3:=zC D5;clear D5 b9;go_wp2_with fail;refine bodyPost_ret (v:=.agg u.q) (by simp[results,Tryz.results134,go_sem,q0,q1,q2,q3,q4]) rfl ⟨lo,hi,I2,u,rfl,zA G3,?_,?_⟩
 ·exact SpAt.put5 (B9) q0 q1 q2 q3 q4 _ _ _ _ _
 ·exact kM hB (by omega) _ _ _ _ _
theorem zPU (w:World) (k p q r s n d:Int) (b:Nat) (hb:b<=400) (hn:¬ n<=0) (lf:n ≥ d) :
  Calls Tryz.prog 134 #[.agg #[.int .i64 k,.int .i64 p,.int .i64 q,.int .i64 r,.int .i64 s],.agg #[.int .i64 n,.int .i64 d],.int .i64 b] w (BlA (λ _=>1) w b):=by
 go_enter Tryz.func134,Tryz.ntmps134
 go_wp2_with fail;refine (one_bl _ b hb).mono ?_;rintro zz w1 ⟨lo,hi,I2,u,rfl,D5,B9,b9⟩;have R:NoC w1 (w.heap.size+1+1):=NoC.bw ⟨by simp[go_sem],by simp[go_sem],by simp[go_sem],by simp[go_sem],by simp[go_sem],λ o=>by simp[go_sem]⟩ b9
 have hB:Below w.heap.size w w1:=zB (bl3 _ _ _ _ ) b9;obtain⟨q0,q1,q2,q3,q4,q5⟩:=R;have G3:=zC D5;clear D5 b9;go_wp2_with fail;refine bodyPost_ret (v:=.agg u.q) (by simp[results,Tryz.results134,go_sem,q0,q1,q2,q3,q4]) rfl ⟨lo,hi,I2,u,rfl,zA G3,?_,?_⟩
 ·exact SpAt.put5 (B9) q0 q1 q2 q3 q4 _ _ _ _ _
 ·exact kM hB (by omega) _ _ _ _ _
theorem lwait_iv (w:World) (k p q r s n d:Int) (b:Nat) (E7:40<=b) (hb:b<=400) (hn:0<n) (L9:rok p q) (L4:rok n d) (hp:0<p) (J3:p<=100*q) :
  Calls Tryz.prog 132 #[.agg #[.int .i64 k,.int .i64 p,.int .i64 q,.int .i64 r,.int .i64 s],.agg #[.int .i64 n,.int .i64 d],.int .i64 b] w (BlA (λ M=>1-Ev (λ _=>((-p*n:Int):Rat)/((q*d:Int):Rat)) M) w b):=by
 obtain⟨a1,a2,a3,a4⟩:=L9;obtain⟨c1,c2,c3,c4⟩:=L4;have pn:=Int.mul_pos hp hn;have Xn:=Int.mul_le_mul a2 c2 (by omega) (by omega)
 have qd:=Int.mul_pos (show 0<q by omega) (show 0<d by omega)
 have Xt:=Int.mul_le_mul a4 c4 (by omega) (by omega)
 have e1 : -p*n = -(p*n):=Int.neg_mul _ _
 have wi:WaIn (p*n) (q*d):=⟨pn,qd,by omega,by
  have m1:=Int.mul_le_mul J3 c2 (by omega) (by omega)
  have m2:=Yi (show 1<=d by omega) (show 0<=q by omega)
  omega⟩
 obtain⟨l,t,N,g1,g2,g3,g4,g5⟩:=wa_set wi E7;obtain⟨f1,f2⟩:=wa_ok wi E7 hb g3 g1 g2 g4 g5;have HF:=zC f2;have HW:=zC (show IntKind.i64.wrap (-p) = -p from jC _ (by omega) (by omega))
 have M5:=zC (show IntKind.i64.wrap (-p*n) = -(p*n) by rw[e1];exact jC _ (by omega) (by omega))
 have S3:=zC (show IntKind.i64.wrap (q*d)=q*d from jC _ (by omega) (by omega))
 have HQ:=zC (show (-9223372036854775808 <= -(p*n) /\ -(p*n)<=9223372036854775807) /\ -9223372036854775808<=q*d/\q*d<=9223372036854775807/\0<q*d from⟨⟨by omega,by omega⟩,by omega,by omega,qd⟩)
 have HP:=zC (And.intro g1 (And.intro g2 (And.intro g4 g5)))
 have HB:=zC (show Q (b+2)<P 60/\∀ i,i<=t -> -P 60<(sqI b (zM (zW b (zG (ofI (-(p*n)) (q*d) b) t)) N) i).1/\(sqI b (zM (zW b (zG (ofI (-(p*n)) (q*d) b) t)) N) i).2<P 60 by
  have h1:=zK (show b+3<=16*60 by omega)
  rw[Q_P] at h1;have h2:Q (b+3)=2*Q (b+2):=rfl;have h3:Q (b+2)=2*(2*Q b):=rfl;have:=zF b
  exact⟨by omega,λ i _=>by have:=f1 i;omega⟩)
 have hle:=yU (n := -(p*n)) qd b;have ee:(λ M=>1-Ev (λ _=>((-p*n:Int):Rat)/((q*d:Int):Rat)) M)=λ M=>1-Ev (λ _=>((-(p*n):Int):Rat)/((q*d:Int):Rat)) M:=by rw[e1]
 rw[ee];have nZ:¬ n<=0:=by omega
 clear f1 f2 g1 g2 g4 g5 wi pn Xn qd Xt e1 ee a1 a2 a3 a4 c1 c2 c3 c4 hp J3;obtain⟨W,hW⟩:∃ W,W=((w.alloc (.cells #[.int .i64 k,.int .i64 p,.int .i64 q,.int .i64 r,.int .i64 s] 25)).alloc (.cells #[.int .i64 n,.int .i64 d] 23)).alloc (.cells zCq 31):=⟨_,rfl⟩;have j6:Below w.heap.size w W:=by rw[hW];exact bl3 _ _ _ _
 have A:LwC W w.heap.size k p q r s:=by rw[hW];constructor<;>simp[go_sem]
 have D:RaC W (w.heap.size+1) n d:=by rw[hW];constructor<;>simp[go_sem]
 have R:NoC W (w.heap.size+1+1):=by rw[hW];constructor<;>simp[go_sem]
 have lR:=R.lt;have lA:=A.lt;have lD:=D.lt;have HK:=zC (show ∀ w',Below W.heap.size W w'->(rK w' w.heap.size k p (w'.cell? ⟨w.heap.size,2,none⟩=some (.int .i64 q)/\w'.cell? ⟨w.heap.size,3,none⟩=some (.int .i64 r)/\w'.cell? ⟨w.heap.size,4,none⟩=some (.int .i64 s)/\rK0 w' (w.heap.size+1) n d)) from λ w' hB=>⟨(A.bw hB).c0,(A.bw hB).c1,(A.bw hB).c2,(A.bw hB).c3,(A.bw hB).c4,(D.bw hB).c0,(D.bw hB).c1⟩)
 clear A D
 go_enter Tryz.func132,Tryz.ntmps132
 go_wp2;rw[<- hW];clear hW;have D9:Below W.heap.size W W.drew:=(Below.refl _ _).drew;have n1:w.heap.size+1+1≠w.heap.size:=by omega
 have n2:w.heap.size+1+1≠w.heap.size+1:=by omega
 obtain⟨x0,x1,x2,x3,x4,x5,x6⟩:=zA HK _ (Below.refl _ _)
 go_region_held3 (λ w'=>rK w' w.heap.size k p (w'.cell? ⟨w.heap.size,2,none⟩=some (.int .i64 q)/\w'.cell? ⟨w.heap.size,3,none⟩=some (.int .i64 r)/\w'.cell? ⟨w.heap.size,4,none⟩=some (.int .i64 s)/\rK0 w' (w.heap.size+1) n d)) (first|exact zA HK _ (by with_reducible first|exact D9|exact W6|exact H6|exact D6|exact A7|exact C9)|(dsimp only[cK,cK0,nK,nK0,rK,rK0];go_keep)|go_keep)
  (first
   | (go_at_call 48;have K9:=H6;refine (zEJ _ v4 60 b _ wO (zA Mg) (by omega) (by omega) (by omega)).mono ?_;rintro zz w5 ⟨u,rfl,D5,B9,E4⟩;have W6:=zB H6 E4;have G3:=zC D5;clear D5;obtain⟨q0,q1,q2,q3,q4,q5⟩:=R.bw W6;obtain⟨i0,i1,i2,i3,i4,i5,i6⟩:=zA HK _ W6)
   | (go_at_call 77;have K9:=D6;refine (zF4 _ v3 60 b t N (ofI (-(p*n)) (q*d) b) l (mK.mono (by omega)) (zA kg) hle (by omega) (by omega) (zA HP).1 (zA HP).2.1 (by omega) (zA HP).2.2.1 (zA HP).2.2.2 (zA HB).1 (zA HB).2 (by omega)).mono ?_;rintro zz w4 ⟨v4,rfl,bN,wO,A5⟩;have H6:=zB D6 A5;have Mg:=zC bN;clear bN)
   | (go_at_call 88;have K9:=A7;refine (jL _ _ _ _ _ _ _ _ 4 4 b (-(p*n)) (q*d) _ (s9.bw j5) A8 (by omega) (by omega) (zA HQ).2.2.2).mono ?_;rintro zz w3 ⟨v3,rfl,H7,mK,m8⟩;have D6:=zB A7 m8;have kg:=zC H7;clear H7)
   | (go_at_call 33;have K9:=C9;(try rw[zA S3]);refine (zE (q*d) _ (zA HQ).2.1 (zA HQ).2.2.1).mono ?_;rintro zz w2 ⟨j7,a2,m2,c2,rfl,A8,j5⟩;have A7:=zB C9 j5)
   | (go_at_call 33;(first|rw[zA HW,zA M5]|rw[zA M5]);refine (zE (-(p*n)) _ (zA HQ).1.1 (zA HQ).1.2).mono ?_;rintro zz w1 ⟨o7,a1,m1,c1,rfl,s9,b9⟩;have C9:=zB D9 b9))
 all_goals
  go_wp2;refine bodyPost_ret (v:=.agg u.q) (by simp[results,Tryz.results132,go_sem,q0,q1,q2,q3,q4]) rfl ⟨_,_,zA HF,u,rfl,zA G3,?_,?_⟩
  ·exact SpAt.put5 (B9.mono (by omega)) q0 q1 q2 q3 q4 _ _ _ _ _
  ·exact kM (zB j6 W6) (by omega) _ _ _ _ _
theorem zP3 (L G:Rat->Nat->Rat) (X:Int->Int->Nat->Rat) (hE:zNU L G X) (w:World) (k p q r s n d:Int) (b:Nat) (E7:40<=b) (hb:b<=400) (hn:0<n) (L9:rok p q) (L4:rok n d) (od:rok r s) (hp:0<p) (J3:p<=100*q) (hr:0<r) :
  Calls Tryz.prog 133 #[.agg #[.int .i64 k,.int .i64 p,.int .i64 q,.int .i64 r,.int .i64 s],.agg #[.int .i64 n,.int .i64 d],.int .i64 b] w (BlA (lwX L p q (r*n) (s*d) (gmV p q (G (gA p q)))) w b):=by
 obtain⟨a1,a2,a3,a4⟩:=L9;obtain⟨c1,c2,c3,c4⟩:=L4;obtain⟨d1,d2,d3,d4⟩:=od;have rn:=Int.mul_pos hr hn;have Xw:=Int.mul_le_mul d2 c2 (by omega) (by omega)
 have sd:=Int.mul_pos (show 0<s by omega) (show 0<d by omega)
 have XD:=Int.mul_le_mul d4 c4 (by omega) (by omega)
 have AR:=zC (show LwAr p q (r*n) (s*d) b from⟨hp,by omega,J3,by omega,by omega,sd,by omega,by omega,E7,hb⟩)
 have M5:=zC (show IntKind.i64.wrap (r*n)=r*n from jC _ (by omega) (by omega))
 have S3:=zC (show IntKind.i64.wrap (s*d)=s*d from jC _ (by omega) (by omega))
 have HQ:=zC (show (-9223372036854775808<=r*n/\r*n<=9223372036854775807) /\ -9223372036854775808<=s*d/\s*d<=9223372036854775807 from⟨⟨by omega,by omega⟩,by omega,by omega⟩)
 have nZ:¬ n<=0:=by omega
 clear rn Xw sd XD a1 a2 a3 a4 c1 c2 c3 c4 d1 d2 d3 d4 hp J3 hr;obtain⟨W,hW⟩:∃ W,W=((w.alloc (.cells #[.int .i64 k,.int .i64 p,.int .i64 q,.int .i64 r,.int .i64 s] 25)).alloc (.cells #[.int .i64 n,.int .i64 d] 23)).alloc (.cells zCq 31):=⟨_,rfl⟩;have j6:Below w.heap.size w W:=by rw[hW];exact bl3 _ _ _ _
 have A:LwC W w.heap.size k p q r s:=by rw[hW];constructor<;>simp[go_sem]
 have D:RaC W (w.heap.size+1) n d:=by rw[hW];constructor<;>simp[go_sem]
 have R:NoC W (w.heap.size+1+1):=by rw[hW];constructor<;>simp[go_sem]
 have lR:=R.lt;have lA:=A.lt;have lD:=D.lt;have HK:=zC (show ∀ w',Below W.heap.size W w'->(rK w' w.heap.size k p (w'.cell? ⟨w.heap.size,2,none⟩=some (.int .i64 q)/\w'.cell? ⟨w.heap.size,3,none⟩=some (.int .i64 r)/\w'.cell? ⟨w.heap.size,4,none⟩=some (.int .i64 s)/\rK0 w' (w.heap.size+1) n d)) from λ w' hB=>⟨(A.bw hB).c0,(A.bw hB).c1,(A.bw hB).c2,(A.bw hB).c3,(A.bw hB).c4,(D.bw hB).c0,(D.bw hB).c1⟩)
 clear A D
 go_enter Tryz.func133,Tryz.ntmps133
 go_wp2;rw[<- hW];clear hW;have D9:Below W.heap.size W W.drew:=(Below.refl _ _).drew;have n1:w.heap.size+1+1≠w.heap.size:=by omega
 have n2:w.heap.size+1+1≠w.heap.size+1:=by omega
 obtain⟨x0,x1,x2,x3,x4,x5,x6⟩:=zA HK _ (Below.refl _ _)
 go_region_held3 (λ w'=>rK w' w.heap.size k p (w'.cell? ⟨w.heap.size,2,none⟩=some (.int .i64 q)/\w'.cell? ⟨w.heap.size,3,none⟩=some (.int .i64 r)/\w'.cell? ⟨w.heap.size,4,none⟩=some (.int .i64 s)/\rK0 w' (w.heap.size+1) n d)) (first|exact zA HK _ (by with_reducible first|exact D9|exact D6|exact A7|exact C9)|(dsimp only[cK,cK0,nK,nK0,rK,rK0];go_keep)|go_keep)
  (first
   | (go_at_call 159;have K9:=A7;refine (lower_iv L G X hE _ ⟨o7,a1,m1,c1⟩ ⟨j7,a2,m2,c2⟩ p q (r*n) (s*d) b (s9.bw j5) A8 (zA AR)).mono ?_;rintro zz w3 ⟨lo,hi,I2,u,rfl,D5,B9,m8⟩;have D6:=zB A7 m8;have G3:=zC D5;have R5:=zC I2;clear D5 I2;obtain⟨q0,q1,q2,q3,q4,q5⟩:=R.bw D6;obtain⟨i0,i1,i2,i3,i4,i5,i6⟩:=zA HK _ D6)
   | (go_at_call 33;have K9:=C9;(try rw[zA S3]);refine (zE (s*d) _ (zA HQ).2.1 (zA HQ).2.2).mono ?_;rintro zz w2 ⟨j7,a2,m2,c2,rfl,A8,j5⟩;have A7:=zB C9 j5)
   | (go_at_call 33;(try rw[zA M5]);refine (zE (r*n) _ (zA HQ).1.1 (zA HQ).1.2).mono ?_;rintro zz w1 ⟨o7,a1,m1,c1,rfl,s9,b9⟩;have C9:=zB D9 b9))
 all_goals
  go_wp2;refine bodyPost_ret (v:=.agg u.q) (by simp[results,Tryz.results133,go_sem,q0,q1,q2,q3,q4]) rfl ⟨lo,hi,zA R5,u,rfl,zA G3,?_,?_⟩
  ·exact SpAt.put5 (B9.mono (by omega)) q0 q1 q2 q3 q4 _ _ _ _ _
  ·exact kM (zB j6 D6) (by omega) _ _ _ _ _
theorem lbeta_iv (L G:Rat->Nat->Rat) (X:Int->Int->Nat->Rat) (hE:zNU L G X) (w:World) (k p q r s n d:Int) (b:Nat) (E7:40<=b) (hb:b<=400) (hn:0<n) (lf:n<d) (L9:rok p q) (L4:rok n d) (od:rok r s) (hp:0<p) (J3:p<=100*q) (hr:0<r) (hs:r<=100*s) :
  Calls Tryz.prog 134 #[.agg #[.int .i64 k,.int .i64 p,.int .i64 q,.int .i64 r,.int .i64 s],.agg #[.int .i64 n,.int .i64 d],.int .i64 b] w (BlA (bvX L p q r s n d) w b):=by
 obtain⟨a1,a2,a3,a4⟩:=L9;obtain⟨c1,c2,c3,c4⟩:=L4;obtain⟨d1,d2,d3,d4⟩:=od;have AR:=zC (show BpAr p q r s n d b from⟨hp,by omega,J3,by omega,hr,by omega,hs,by omega,by omega,by omega,by omega,by omega,E7,hb⟩)
 have nZ:¬ n<=0:=by omega
 have VQ:¬ n ≥ d:=by omega
 have VR:¬ d<=n:=by omega
 clear a1 a2 a3 a4 d1 d2 d3 d4 hp J3 hr hs;obtain⟨W,hW⟩:∃ W,W=((w.alloc (.cells #[.int .i64 k,.int .i64 p,.int .i64 q,.int .i64 r,.int .i64 s] 25)).alloc (.cells #[.int .i64 n,.int .i64 d] 23)).alloc (.cells zCq 31):=⟨_,rfl⟩;have j6:Below w.heap.size w W:=by rw[hW];exact bl3 _ _ _ _
 have A:LwC W w.heap.size k p q r s:=by rw[hW];constructor<;>simp[go_sem]
 have D:RaC W (w.heap.size+1) n d:=by rw[hW];constructor<;>simp[go_sem]
 have R:NoC W (w.heap.size+1+1):=by rw[hW];constructor<;>simp[go_sem]
 have lR:=R.lt;have lA:=A.lt;have lD:=D.lt;have HK:=zC (show ∀ w',Below W.heap.size W w'->(rK w' w.heap.size k p (w'.cell? ⟨w.heap.size,2,none⟩=some (.int .i64 q)/\w'.cell? ⟨w.heap.size,3,none⟩=some (.int .i64 r)/\w'.cell? ⟨w.heap.size,4,none⟩=some (.int .i64 s)/\rK0 w' (w.heap.size+1) n d)) from λ w' hB=>⟨(A.bw hB).c0,(A.bw hB).c1,(A.bw hB).c2,(A.bw hB).c3,(A.bw hB).c4,(D.bw hB).c0,(D.bw hB).c1⟩)
 clear A D
 go_enter Tryz.func134,Tryz.ntmps134
 go_wp2;rw[<- hW];clear hW;have D9:Below W.heap.size W W.drew:=(Below.refl _ _).drew;have n1:w.heap.size+1+1≠w.heap.size:=by omega
 have n2:w.heap.size+1+1≠w.heap.size+1:=by omega
 obtain⟨x0,x1,x2,x3,x4,x5,x6⟩:=zA HK _ (Below.refl _ _)
 go_region_held3 (λ w'=>rK w' w.heap.size k p (w'.cell? ⟨w.heap.size,2,none⟩=some (.int .i64 q)/\w'.cell? ⟨w.heap.size,3,none⟩=some (.int .i64 r)/\w'.cell? ⟨w.heap.size,4,none⟩=some (.int .i64 s)/\rK0 w' (w.heap.size+1) n d)) (first|exact zA HK _ (by with_reducible first|exact D9|exact D6|exact A7|exact C9)|(dsimp only[cK,cK0,nK,nK0,rK,rK0];go_keep)|go_keep)
  (first
   | (go_at_call 160;have K9:=A7;refine (zQ3 L G X hE _ ⟨o7,a1,m1,e1⟩ ⟨j7,a2,m2,e2⟩ p q r s n d b (s9.bw j5) A8 (zA AR)).mono ?_;rintro zz w3 ⟨lo,hi,I2,u,rfl,D5,B9,m8⟩;have D6:=zB A7 m8;have G3:=zC D5;have R5:=zC I2.pr;clear D5 I2;obtain⟨q0,q1,q2,q3,q4,q5⟩:=R.bw D6;obtain⟨i0,i1,i2,i3,i4,i5,i6⟩:=zA HK _ D6)
   | (go_at_call 33;have K9:=C9;refine (zE d _ (by omega) (by omega)).mono ?_;rintro zz w2 ⟨j7,a2,m2,e2,rfl,A8,j5⟩;have A7:=zB C9 j5)
   | (go_at_call 33;refine (zE n _ (by omega) (by omega)).mono ?_;rintro zz w1 ⟨o7,a1,m1,e1,rfl,s9,b9⟩;have C9:=zB D9 b9))
 all_goals
  go_wp2;refine bodyPost_ret (v:=.agg u.q) (by simp[results,Tryz.results134,go_sem,q0,q1,q2,q3,q4]) rfl ⟨lo,hi,zA R5,u,rfl,zA G3,?_,?_⟩
  ·exact SpAt.put5 (B9.mono (by omega)) q0 q1 q2 q3 q4 _ _ _ _ _
  ·exact kM (zB j6 D6) (by omega) _ _ _ _ _
end Go.Proofs.YtgmnknmjainabacGreat
