/-
  Its own texts.
-/
import Derived.Test.YtgmnknmjainabacGreatK24
set_option maxRecDepth 100000
set_option maxHeartbeats 40000000
set_option linter.unnecessarySimpa false
set_option linter.unusedSimpArgs false
set_option linter.unusedVariables false
namespace Go.Proofs.YtgmnknmjainabacGreat
open Ex
theorem of_lw {N D:Int} (b:Nat) (hN:0<=N) (hD:0<D) (h:N<=D):LwPr (λ _=>(N:Rat)/(D:Rat)) b (ofI N D b).1 (ofI N D b).2:=by
 obtain⟨h1,h2,h3,h4,h5⟩:=of_pr b hN hD h;have q:=zE b;have w:=yC (n:=N) hD b;have Lx:1<=Q 89:=zE 89;exact⟨by omega,by omega,by omega,by omega,by assumption⟩
def wyF (r t:Int) (P i:Nat):Int:=(ch P i:Int)*(r ^ i*t ^ (P-i))
theorem wyF_zero (r t:Int) (P:Nat):wyF r t (P+1) 0=t*wyF r t P 0:=by
 unfold wyF;rw[zDZ,zDZ,show P+1-0=(P-0)+1 by omega,Int.pow_succ]
 grind
theorem wyF_succ (r t:Int) {P i:Nat} (h:i<P):wyF r t (P+1) (i+1)=r*wyF r t P i+t*wyF r t P (i+1):=by
 unfold wyF;rw[zC7,show P+1-(i+1)=P-i by omega,show P-i=(P-(i+1))+1 by omega,Int.pow_succ t,Int.pow_succ r]
 push_cast
 grind
theorem wyF_last (r t:Int) (P:Nat):wyF r t (P+1) (P+1)=r*wyF r t P P:=by
 unfold wyF;rw[zC7,zM4 (show P<P+1 by omega),show P+1-(P+1)=0 by omega,show P-P=0 by omega,Int.pow_zero,Int.pow_succ r]
 push_cast
 grind
theorem wyF_sum (r t:Int) (P j:Nat) (h:j<=P):zDT (wyF r t (P+1)) (j+1)=r*zDT (wyF r t P) j+t*zDT (wyF r t P) (j+1):=by
 induction j with
 | zero =>
  show 0+wyF r t (P+1) 0=r*0+t*(0+wyF r t P 0)
  rw[wyF_zero];grind
 | succ j ih =>
  have i:=ih (by omega)
  show zDT (wyF r t (P+1)) (j+1)+wyF r t (P+1) (j+1)=r*(zDT (wyF r t P) j+wyF r t P j)+t*(zDT (wyF r t P) (j+1)+wyF r t P (j+1))
  rw[i,wyF_succ r t (by omega)];grind
theorem wyF_all (r t:Int) (P:Nat):zDT (wyF r t P) (P+1)=(r+t) ^ P:=by
 induction P with
 | zero =>
  show 0+wyF r t 0 0=(r+t) ^ 0
  unfold wyF;rw[zDZ,show 0-0=0 by rfl,Int.pow_zero,Int.pow_zero,Int.pow_zero];rfl
 | succ P ih =>
  show zDT (wyF r t (P+1)) (P+1)+wyF r t (P+1) (P+1)=(r+t) ^ (P+1)
  rw[wyF_sum r t P P (Yy _),wyF_last,Int.pow_succ,<- ih]
  show r*zDT (wyF r t P) P+t*(zDT (wyF r t P) P+wyF r t P P)+r*wyF r t P P=(zDT (wyF r t P) P+wyF r t P P)*(r+t)
  grind
theorem cnt_all {P:Nat} {r s:Int}:zDT (zEO P r s) (P+1)=s ^ P:=by
 have e:∀ j,j<=P+1->zDT (zEO P r s) j=zDT (wyF r (s-r) P) j:=λ j=>by
  induction j with
  | zero=>intro _;rfl
  | succ j ih =>
   intro hj
   show zDT (zEO P r s) j+zEO P r s j=zDT (wyF r (s-r) P) j+wyF r (s-r) P j
   rw[ih (by omega)]
   congr 1
   unfold zEO;rw[zOP (show j<=P by omega)];rfl
 rw[e _ (Yy _),wyF_all]
 congr 1
 omega
theorem cnt_le {P:Nat} {r s:Int} (hr:0<=r) (hs:r<=s) (i:Nat) (hi:i<=P+1):0<=zDT (zEO P r s) i/\zDT (zEO P r s) i<=s ^ P:=by
 have a:=zF5 (P:=P) hr hs (Nat.zero_le i) hi;have b:=zF5 (P:=P) hr hs hi (Yy _);rw[cnt_all] at b;exact⟨a,b⟩
theorem sq_unit {B:Nat} {a:Int × Int} (h0:0<=a.1) (hl:a.1<=a.2) (h1:a.2<=Q B) (i:Nat):0<=(sqI B a i).1/\(sqI B a i).1<=(sqI B a i).2/\(sqI B a i).2<=Q B/\(sqI B a i).2-(sqI B a i).1+1<=Q i*(a.2-a.1+1):=by
 have q:=zE B
 induction i with
 | zero =>
  have e:Q 0=1:=rfl;rw[e];exact⟨h0,hl,h1,by show a.2-a.1+1<=_;omega⟩
 | succ i ih =>
  obtain⟨i0,i1,i2,i3⟩:=ih;have A:Abs (sqI B a i) (Q B):=⟨by omega,by omega,by omega,by omega⟩
  have ab:=zCW (B:=B) (p:=Q B) A A (Int.le_refl _);have nn:=zGM (B:=B) (a:=sqI B a i) (b:=sqI B a i) i0 (by omega) i0 (by omega)
  have w:=zAZ (B:=B) (c:=2*((sqI B a i).2-(sqI B a i).1)) A A i1 i1 (by
   have e:2*((sqI B a i).2-(sqI B a i).1)*Q B=Q B*((sqI B a i).2-(sqI B a i).1)+Q B*((sqI B a i).2-(sqI B a i).1):=by grind
   omega)
  have e:Q (i+1)=2*Q i:=rfl;have e2:Q (i+1)*(a.2-a.1+1)=2*(Q i*(a.2-a.1+1)):=by rw[e];grind
  refine⟨nn,zB4 B,ab.2.2.2,?_⟩;rw[e2]
  show (zAJ B (sqI B a i) (sqI B a i)).2-(zAJ B (sqI B a i) (sqI B a i)).1+1<=_
  omega
structure WaIn (n d:Int):Prop where
 n0:0<n
 d0:0<d
 lo:d<=1048576*n
 hi:n<=104857600*d
theorem wa_set {n d:Int} (h:WaIn n d) {B:Nat} (hB:40<=B):∃ (l:Int) (t N:Nat),zB1 (zW (ofI (-n) d B)) l/\(t:Int)=max 0 (l-B+8)/\t<=35/\Abs (zG (ofI (-n) d B) t) (Q (B-8))/\zT (zU B (zG (ofI (-n) d B) t)) N:=by
 have:=h.n0;have:=h.d0;have:=h.hi;obtain⟨l,t,N,e1,e2,e3,e4,e5⟩:=zD1 (B:=B) (e:=27) (by omega) (yB h.d0 B) (zIX (p := -n) (q:=d) (n:=104857600) (b:=B) (e:=27) h.d0 (by omega) (by omega) (by decide))
 exact⟨l,t,N,e1,e2,by omega,e4,e5⟩
theorem wa_up {B:Nat} (hB:40<=B):4*((B:Int)+20)<=Q (B-21):=by
 obtain⟨j,rfl⟩:∃ j,B=40+j:=⟨B-40,by omega⟩
 rw[show 40+j-21=j+19 by omega]
 have e:Q (j+19)=524288*Q j:=by rw[jF,Int.mul_comm];rfl
 have k:(j:Int)+1<=Q j:=by
  clear hB e
  induction j with
  | zero=>decide
  | succ j ih=>have e:Q (j+1)=2*Q j:=rfl;have:=zE j;omega
 rw[e];omega
theorem wa_low {n d:Int} (h:WaIn n d) {B t:Nat} {l:Int} (hB:40<=B) (hl:zB1 (zW (ofI (-n) d B)) l) (ht:(t:Int)=max 0 (l-B+8)):d*Q t<=1048576*n:=by
 by_cases t0:t=0
 ·rw[t0]
  have e:Q 0=1:=rfl;have:=h.lo;rw[e];omega
 ·have q:=zE B
  have d0:=h.d0;have n0:=h.n0;have nq:=Int.mul_pos n0 q
  have r:zW (ofI (-n) d B) = -(-(n*Q B)/d):=by
   have e:(ofI (-n) d B).1 = -(n*Q B)/d:=by show -n*Q B/d=_;rw[Int.neg_mul]
   have le:=yB (n := -n) d0 B
   have u0:(ofI (-n) d B).2<=0:=by
    show -(-(-n*Q B)/d)<=0
    have:0 <= -(-n*Q B)/d:=Int.ediv_nonneg (by rw[Int.neg_mul];omega) (by omega)
    omega
   unfold zW zGY;rw[<- e];split<;>omega
  have c:=zLP (n*Q B) d d0;obtain⟨l1,l2,l3⟩:=hl
  have rp:0<zW (ofI (-n) d B):=Int.not_le.1 λ hn=>by
   by_cases z:zW (ofI (-n) d B)=0
   ·have:=l2 z;omega
   ·have:0<=zW (ofI (-n) d B):=zAN (yB d0 B)
    omega
  obtain⟨L,e1,e2,e3⟩:=l3 rp;have eL:L+9=B+t:=by clear r c l3 l2 e2 e3 rp;omega
  rw[r] at e2;have m:=Yt e2 (show 0<=d by omega)
  have k1:Q L*d<n*Q B+d:=by omega
  have k2:Q L*512=Q B*Q t:=by
   rw[<- jF,<- eL,jF];rfl
  have qt:=zE t;have dq:d<=1048576*n:=h.lo;have qb:=zJ hB;have Ik:Q 40=1099511627776:=rfl;have m2:=Yx (show 1048576<=Q B by omega) (show 0<=n by omega)
  have k3:Q L*d<2*(n*Q B):=by omega
  have k4:Q B*(Q t*d)<Q B*(1024*n):=by
   have e5:Q B*(Q t*d)=Q L*512*d:=by rw[k2];grind
   have e6:Q L*512*d=512*(Q L*d):=by grind
   have e7:Q B*(1024*n)=1024*(n*Q B):=by grind
   omega
  have k5:=Int.lt_of_mul_lt_mul_left k4 (show 0<=Q B by omega)
  rw[Int.mul_comm d];omega
theorem wa_done {n d:Int} (h:WaIn n d) {B t N:Nat} {l:Int} (hB:40<=B) (hl:zB1 (zW (ofI (-n) d B)) l) (ht:(t:Int)=max 0 (l-B+8)) (hA:Abs (zG (ofI (-n) d B) t) (Q (B-8))) (hN:zT (zU B (zG (ofI (-n) d B) t)) N) :
  0<=(zN (zU B (zG (ofI (-n) d B) t)) N).1/\(zN (zU B (zG (ofI (-n) d B) t)) N).1<=(zN (zU B (zG (ofI (-n) d B) t)) N).2/\(zN (zU B (zG (ofI (-n) d B) t)) N).2<=Q B/\(zN (zU B (zG (ofI (-n) d B) t)) N).2-(zN (zU B (zG (ofI (-n) d B) t)) N).1+1<=(B:Int)+20:=by
 have q:=zE B;have qt:=zE t;have d0:=h.d0;have n0:=h.n0;have al:=yB (n := -n) d0 B;have iv:=(Iv.of B (n := -n) d0).down t;have ivE:=zDO (N:=N) (by omega) iv hA
 have X8:(zG (ofI (-n) d B) t).1<=(zG (ofI (-n) d B) t).2:=iv.le
 have T6:(zG (ofI (-n) d B) t).2-(zG (ofI (-n) d B) t).1<=1+1:=zBT (by omega) (by
  have:=yC (n := -n) d0 B
  omega)
 have Aa:=zCP (zAG B (zG (ofI (-n) d B) t)) N;have QW:=zCB (zEA (by omega) hA X8 T6) hN
 have hNB:N<=B/8+1:=by
  obtain⟨N',n1,n2⟩:=zB6 (s:=8) (by omega) (zBV (by omega) hA)
  refine Nat.le_trans (Nat.not_lt.1 λ D9=>?_) n1
  have:=hN.2 N' D9;have:=n2.1;omega
 have w:(zN (zU B (zG (ofI (-n) d B) t)) N).2-(zN (zU B (zG (ofI (-n) d B) t)) N).1+1<=(B:Int)+20:=by omega
 have dr:(0:Rat)<(d:Rat):=by exact_mod_cast d0
 have tr:(0:Rat)<(Q t:Rat):=by exact_mod_cast qt
 have br:=jJ B;obtain⟨u,hu⟩:∃ u:Rat,u=(n:Rat)/(d:Rat)/(Q t:Rat):=⟨_,rfl⟩
 have eu:(λ M:Nat=>((-n:Int):Rat)/(d:Rat)/(Q t:Rat))=λ _ => -u:=by
  funext M
  rw[hu,Rat.intCast_neg,YE,YE,YE,YE];grind
 rw[eu] at iv ivE;have um:u*(Q t:Rat)*(d:Rat)=(n:Rat):=by rw[hu,rdm tr,rdm dr]
 have ul:(1:Rat)<=1048576*u:=by
  have c:=jA (wa_low h hB hl ht);rw[YA,YA] at c;have e:((1048576:Int):Rat)=1048576:=rfl;rw[e] at c;have p:=Rat.mul_pos dr tr;refine Rat.le_of_mul_le_mul_right (c:=(d:Rat)*(Q t:Rat)) ?_ p;have e2:1048576*u*((d:Rat)*(Q t:Rat))=1048576*(u*(Q t:Rat)*(d:Rat)):=by grind
  rw[e2,um];grind
 have uu:u*256<=1:=by
  obtain⟨h1,h2⟩:=Has.of_const iv;have a1:=jA hA.1
  have e8:Q B=256*Q (B-8):=by
   have e:=jF 8 (B-8);rw[show 8+(B-8)=B by omega] at e
   rw[e];rfl
  have WO:(Q B:Rat)=256*(Q (B-8):Rat):=by rw[e8,YA];rfl
  have m:=Yv h1 (Yw br);rw[rdm br] at m;rw[Rat.intCast_neg] at a1;have p8:=jJ (B-8);refine Rat.le_of_mul_le_mul_right (c:=(Q (B-8):Rat)) ?_ p8;rw[WO] at m;grind
 have u0:0<=u:=by grind
 have up:LeN (Ev (λ _ => -u)) (λ _=>1-u/2):=LeN.of_le 2 λ M hM=>by
  have k:=(zD9 u0 (by grind) hM).2
  have s:=Yr uu u0
  show ex (-u) M<=1-u/2
  grind
 have dn:LeN (λ _=>(1:Rat)/2) (Ev (λ _ => -u)):=LeN.of_le 2 λ M hM=>by
  have k:=(zHR (h := -u) (b:=1/8) ⟨by grind,by grind⟩ (by grind) (show 1<=M by omega)).1
  show 1/2<=E (-u) M
  grind
 have Lv:Q B=2097152*Q (B-21):=by
  have e:=jF 21 (B-21);rw[show 21+(B-21)=B by omega] at e
  rw[e];rfl
 have Eg:(Q B:Rat)=2097152*(Q (B-21):Rat):=by rw[Lv,YA];rfl
 have B7:=wa_up hB;have p21:=jJ (B-21)
 have lo:=iv_lt (z:=Q B-Q (B-21)+1) ivE up (by
  rw[Rat.intCast_add,Rat.intCast_sub,Eg];have e1:((1:Int):Rat)=1:=rfl;rw[e1];have m:=Yv ul (Yw p21)
  grind)
 have hi:=iv_gt (z:=Q (B-21)) ivE dn (by rw[Eg];grind)
 have q0:=zE (B-21);refine⟨by omega,Aa,by omega,w⟩
theorem wa_ok {n d:Int} (h:WaIn n d) {B t N:Nat} {l:Int} (hB:40<=B) (o9:B<=400) (gH:t<=35) (hl:zB1 (zW (ofI (-n) d B)) l) (ht:(t:Int)=max 0 (l-B+8)) (hA:Abs (zG (ofI (-n) d B) t) (Q (B-8))) (hN:zT (zU B (zG (ofI (-n) d B) t)) N) :
  (∀ i,0<=(sqI B (zN (zU B (zG (ofI (-n) d B) t)) N) i).1/\(sqI B (zN (zU B (zG (ofI (-n) d B) t)) N) i).2<=Q B)/\LwPr (λ M=>1-Ev (λ _=>((-n:Int):Rat)/(d:Rat)) M) B (zBE B (sqI B (zN (zU B (zG (ofI (-n) d B) t)) N) t)).1 (zBE B (sqI B (zN (zU B (zG (ofI (-n) d B) t)) N) t)).2:=by
 obtain⟨g0,g1,g2,g3⟩:=wa_done h hB hl ht hA hN;have sq:=sq_unit g0 g1 g2;refine⟨λ i=>⟨(sq i).1,(sq i).2.2.1⟩,?_⟩
 obtain⟨s0,s1,s2,s3⟩:=sq t;have iv:=zEX (N:=N) (by omega) (Iv.of B (n := -n) h.d0) hA
 have m:=Int.mul_le_mul (zJ gH) (show (zN (zU B (zG (ofI (-n) d B) t)) N).2-(zN (zU B (zG (ofI (-n) d B) t)) N).1+1<=512 by omega) (by omega) (by have:=zE 35;omega)
 have e44:Q 35*512=Q 44:=by rw[show 44=35+9 by rfl,jF];rfl
 have Lx:=zJ (show 44<=89 by omega)
 refine⟨?_,?_,?_,?_,(zHH B).sub iv⟩
 ·show 0<=Q B-_;omega
 ·show Q B-_<=Q B-_;omega
 ·show Q B-_<=Q B;omega
 ·show Q B-_-(Q B-_)<=Q 89;omega
def raU (p:Int) (last:Int) (k:Nat):Int:=if last<(k:Int) then 0 else p
def raD (q:Int) (last:Int) (k:Nat):Int:=if last<(k:Int) then 1 else if k=0 then 1 else q*(k:Int)
def raT (p q last:Int) (B:Nat):Nat->Int × Int:=riT (Q B,Q B) (raU p last) (raD q last)
def zBX (p q:Int):Nat:=(2*p/q).toNat
theorem raD_pos {q last:Int} (q0:0<q) (k:Nat):0<raD q last k:=by
 unfold raD;split
 ·decide
 ·split
  ·decide
  ·exact Int.mul_pos q0 (by omega)
theorem zPV {p q last:Int} (p0:0<p) (q0:0<q) (B:Nat):zP9 (Q B,Q B) (raU p last) (raD q last):=by
 have qB:=zE B;refine⟨⟨λ k=>by unfold raU;split<;>omega,λ k=>raD_pos q0 k⟩,by show 0<Q B;omega,Int.le_refl _,by show Q B-Q B<=1;omega,λ k hk=>?_⟩
 unfold raU raD at hk ⊢
 by_cases c:last<((k+2:Nat):Int)
 ·rw[if_pos c,if_pos c] at hk;omega
 ·rw[if_neg c,if_neg c,if_neg (by omega)] at hk
  rw[if_neg (by omega),if_neg (by omega),if_neg (by omega)]
  have m:=Yx (show ((k+1:Nat):Int)<=((k+2:Nat):Int) by omega) (show 0<=q by omega)
  omega
theorem ra_34 {p q last:Int} (p0:0<p) (q0:0<q) (k:Nat) (hk:zBX p q<=k):4*raU p last (k+1)<=3*raD q last (k+1):=by
 unfold raU raD
 by_cases c:last<((k+1:Nat):Int)
 ·rw[if_pos c,if_pos c];omega
 ·rw[if_neg c,if_neg c,if_neg (by omega)]
  have a:2*p<(2*p/q+1)*q:=Int.lt_ediv_add_one_mul_self _ q0;have b:2*p/q<=(k:Int):=by unfold zBX at hk;omega
  have m:=Yt (show 2*p/q+1<=((k+1:Nat):Int) by omega) (show 0<=q by omega)
  have e:q*((k+1:Nat):Int)=((k+1:Nat):Int)*q:=Int.mul_comm _ _;rw[e];omega
theorem ra_c {p q last:Int} (p0:0<p) (q0:0<q) (hp:p<=100*q) (k:Nat):raU p last (k+1)<=Q 7*raD q last (k+1):=by
 have e7:Q 7=128:=rfl;rw[e7];unfold raU raD
 by_cases c:last<((k+1:Nat):Int)
 ·rw[if_pos c,if_pos c];omega
 ·rw[if_neg c,if_neg c,if_neg (by omega)]
  have m:=Yx (show 1<=((k+1:Nat):Int) by omega) (show 0<=q by omega)
  omega
theorem zMA {p q:Int} (p0:0<p) (q0:0<q) (hp:p<=100*q):zBX p q<=200/\((zBX p q:Nat):Int)=2*p/q:=by
 have a:2*p/q<=200:=Int.ediv_le_of_le_mul q0 (by omega)
 have b:0<=2*p/q:=Int.ediv_nonneg (by omega) (by omega)
 unfold zBX;exact⟨by omega,by omega⟩
theorem ra_set {p q last:Int} (p0:0<p) (q0:0<q) (hp:p<=100*q) {B:Nat} (hB:40<=B) (o9:B<=400):∃ N,N<=5700/\yS (raT p q last B) (zBX p q) N:=by
 obtain⟨N,n1,n2⟩:=zUA (zPV (last:=last) p0 q0 B) (H:=B) (c:=7) (turn:=zBX p q) (Int.le_refl _) (by omega) (ra_c p0 q0 hp) (λ k hk=>ra_34 p0 q0 k hk)
 have:=(zMA p0 q0 hp).1;exact⟨N,by omega,n2⟩
theorem zN7 {p q last:Int} (p0:0<p) (q0:0<q) (hp:p<=100*q) {B:Nat} (hB:40<=B) (o9:B<=400) (k:Nat) (hk:k<=1000000):(jE (raT p q last B) k).2+9<=Q 1900/\(raT p q last B k).2<=Q 1900:=by
 have t:=(zMA p0 q0 hp).1;have a:=zT8 (zPV (last:=last) p0 q0 B) (H:=B) (c:=7) (turn:=zBX p q) (Int.le_refl _) (by omega) (ra_c p0 q0 hp) (λ k hk=>ra_34 p0 q0 k hk) k hk
 have b:=zT9 (zPV (last:=last) p0 q0 B) (H:=B) (c:=7) (turn:=zBX p q) (Int.le_refl _) (by omega) (ra_c p0 q0 hp) (λ k hk=>ra_34 p0 q0 k hk) k
 exact⟨Int.le_trans a (zJ (by omega)),Int.le_trans b (zJ (by omega))⟩
theorem ra_val {p q last:Int} (q0:0<q) (k M:Nat):riV (λ _=>1) (raU p last) (raD q last) k M=if (k:Int)<=max last 0 then ((p ^ k:Int):Rat)/((q ^ k*zBD k:Int):Rat) else 0:=by
 induction k with
 | zero =>
  rw[if_pos (by omega)]
  show (1:Rat)=((p ^ 0:Int):Rat)/((q ^ 0*zBD 0:Int):Rat)
  have e:q ^ 0*zBD 0=1:=by rw[Int.pow_zero];rfl
  have e2:p ^ 0=1:=Int.pow_zero p;rw[e,e2];decide +kernel
 | succ k ih =>
  show (raU p last (k+1):Rat)/(raD q last (k+1):Rat)*riV (λ _=>1) (raU p last) (raD q last) k M=_
  rw[ih];unfold raU raD
  by_cases c:last<((k+1:Nat):Int)
  ·generalize (if (k:Int)<=max last 0 then ((p ^ k:Int):Rat)/((q ^ k*zBD k:Int):Rat) else 0)=Y
   rw[if_pos c,if_neg (show ¬ ((k+1:Nat):Int)<=max last 0 by omega)]
   have z:((0:Int):Rat)=0:=rfl;rw[z,YE,Rat.zero_mul,Rat.zero_mul]
  ·rw[if_pos (show (k:Int)<=max last 0 by omega),if_pos (show ((k+1:Nat):Int)<=max last 0 by omega),if_neg c,if_neg c,if_neg (show ¬ k+1=0 by omega)]
   have a0:(0:Rat)<((q ^ k*zBD k:Int):Rat):=by exact_mod_cast Int.mul_pos (Int.pow_pos q0) (zCR k)
   have b0:(0:Rat)<((q ^ (k+1)*zBD (k+1):Int):Rat):=by exact_mod_cast Int.mul_pos (Int.pow_pos q0) (zCR (k+1))
   have c0:(0:Rat)<((q*((k+1:Nat):Int):Int):Rat):=by exact_mod_cast Int.mul_pos q0 (show 0<((k+1:Nat):Int) by omega)
   have ef:q ^ (k+1)*zBD (k+1)=(q*((k+1:Nat):Int))*(q ^ k*zBD k):=by
    show q ^ (k+1)*(zBD k*_)=_
    rw[Int.pow_succ]
    push_cast
    grind
   have ep:p ^ (k+1)=p*p ^ k:=by rw[Int.pow_succ,Int.mul_comm]
   rw[ef,ep,YA p,YA (q*((k+1:Nat):Int))];rw[ef,YA] at b0;have r1:=rdm (a:=(p:Rat)) c0;have r2:=rdm (a:=((p ^ k:Int):Rat)) a0;have r3:=rdm (a:=(p:Rat)*((p ^ k:Int):Rat)) b0;refine Rat.le_antisymm (Rat.le_of_mul_le_mul_right ?_ b0) (Rat.le_of_mul_le_mul_right ?_ b0) <;>
   ·rw[r3]
    have e:∀ A B C D:Rat,A*B*(C*D)=(A*C)*(B*D):=λ A B C D=>by grind
    rw[e,r1,r2];exact Rat.le_refl
theorem raS_val {p q last:Int} (hl:0<=last) (q0:0<q) (M:Nat) (hM:last<(M:Int)):riS (λ _=>1) (raU p last) (raD q last) M=S (λ i=>((p ^ i:Int):Rat)/((q ^ i*zBD i:Int):Rat)) (last+1).toNat:=by
 unfold riS;obtain⟨K,hK⟩:∃ K:Nat,K=(last+1).toNat:=⟨_,rfl⟩;rw[<- hK]
 have low:∀ j,j<=K->S (λ k=>riV (λ _=>1) (raU p last) (raD q last) k M) j=S (λ i=>((p ^ i:Int):Rat)/((q ^ i*zBD i:Int):Rat)) j:=λ j=>by
  induction j with
  | zero=>intro _;rfl
  | succ j ih =>
   intro hj
   show S _ j+riV (λ _=>1) (raU p last) (raD q last) j M=S _ j+_
   rw[ih (by omega),ra_val q0,if_pos (by omega)]
 have up:∀ j,S (λ k=>riV (λ _=>1) (raU p last) (raD q last) k M) (K+j)=S (λ i=>((p ^ i:Int):Rat)/((q ^ i*zBD i:Int):Rat)) K:=λ j=>by
  induction j with
  | zero=>exact low K (Yy _)
  | succ j ih =>
   show S _ (K+j)+riV (λ _=>1) (raU p last) (raD q last) (K+j) M=_
   rw[ih,ra_val q0,if_neg (by omega)];grind
 have:=up (M-K);rw[show K+(M-K)=M by omega] at this
 exact this
theorem S_div {f:Nat->Rat} (c:Rat) (n:Nat):S (λ i=>f i/c) n=S f n/c:=by
 induction n with
 | zero=>show (0:Rat)=0/c;rw[YE,Rat.zero_mul]
 | succ n ih=>show S (λ i=>f i/c) n+f n/c=(S f n+f n)/c;rw[ih,YE,YE,YE];grind
theorem raX_one {p q n d:Int} (hp:0<=p) (hq:0<q):LeN (raX p q n d) (λ _=>1):=by
 refine LeN.of_le (raN n d+1) λ M hM=>?_
 unfold raX zCY;rw[S_div];have x0:=zAM hp hq;have e0:0<Ev (λ _=>(p:Rat)/(q:Rat)) M:=(zQD x0 0 M (by omega)).2
 refine jR e0 ?_
 have:∀ j,j<=M->S (λ i=>((p ^ i:Int):Rat)/((q ^ i*zBD i:Int):Rat)) j<=E ((p:Rat)/(q:Rat)) M:=λ j hj=>by
  have k:S (λ i=>((p ^ i:Int):Rat)/((q ^ i*zBD i:Int):Rat)) j=S (tm ((p:Rat)/(q:Rat))) j:=by
   clear hj
   induction j with
   | zero=>rfl
   | succ j ih=>show S _ j+_=S _ j+_;rw[ih,zMI hq]
  rw[k]
  show _<=S (tm ((p:Rat)/(q:Rat))) M
  obtain⟨i,rfl⟩:∃ i,M=j+i:=⟨M-j,by omega⟩
  clear hM hj k e0
  induction i with
  | zero=>exact Rat.le_refl
  | succ i ih =>
   have:=zA1 x0 (j+i)
   show _<=S (tm ((p:Rat)/(q:Rat))) (j+i)+tm ((p:Rat)/(q:Rat)) (j+i)
   grind
 have:=this (raN n d) (by omega)
 show _<=1*E ((p:Rat)/(q:Rat)) M
 grind
theorem ra_exD {B t:Nat} (h0:40<=B) (h1:B<=400) (ht:t<=15):0<=exD B 1 t/\2*exD B 1 t<=Q B/\exD B 1 t<=1000000000000000:=by
 have qt:=zJ ht;have oI:Q 15=32768:=rfl;have q0:=zE t;have q:=zJ h0;have e:Q 40=1099511627776:=rfl;have m:=Int.mul_le_mul (show (B:Int)/8+2<=52 by omega) (show 2*1+8*Q t<=262146 by omega) (by omega) (by omega)
 have m0:=Yz (show 0<=(B:Int)/8+2 by omega) (show 0<=2*1+8*Q t by omega)
 unfold exD;exact⟨by omega,by omega,by omega⟩
def raE (p q:Int) (B t N:Nat):Int × Int:=sqI B (zN (zU B (zG (ofI p q B) t)) N) t
theorem ra_lw {p q last n d:Int} (p0:0<p) (q0:0<q) (hp:p<=100*q) (hl:0<=last) (hn:n/d=last) {B t N NS:Nat} (hB:40<=B) (o9:B<=400) (gH:t<=15) (hA:Abs (zG (ofI p q B) t) (Q (B-8))) (hN:zT (zU B (zG (ofI p q B) t)) N) (hS:NS<=5700) (lI:yS (raT p q last B) (zBX p q) NS) :
  0<(raE p q B t N).1/\(raE p q B t N).1<=(raE p q B t N).2/\0<=(kY (raT p q last B) NS).1/\(kY (raT p q last B) NS).1<=(kY (raT p q last B) NS).2/\LwPr (raX p q n d) B (zDW (kY (raT p q last B) NS).1 (kY (raT p q last B) NS).2 (raE p q B t N).1 (raE p q B t N).2 B) (zPM (kY (raT p q last B) NS) (raE p q B t N) B):=by
 have qB:=zE B;obtain⟨s1,s2,s3⟩:=se_ok (zPV (last:=last) p0 q0 B) NS;obtain⟨D0,D1,D2⟩:=ra_exD hB o9 gH;have x0:=zAM (show 0<=p by omega) q0
 obtain⟨e1,e2,e3,e4,e5⟩:=exq_ok (t:=t) (N:=N) (by omega) (Iv.of B (n:=p) q0) (LeN.of_le 0 λ M _=>x0) (yC q0 B) hA hN D1
 have ee:raE p q B t N=sqI B (zN (zU B (zG (ofI p q B) t)) N) t:=rfl;have es:raT p q last B=riT (Q B,Q B) (raU p last) (raD q last):=rfl;rw[<- ee] at e1 e2 e3 e4 e5;rw[<- es] at s1 s2 s3
 have s0:0<=(kY (raT p q last B) NS).1:=by
  have:Q B<=(kY (raT p q last B) NS).1:=s1;omega
 have si:=zCG (zPV (last:=last) p0 q0 B).ok (zHH B) 0 (λ M _=>by grind) (λ k hk=>ra_34 p0 q0 k hk) lI
 rw[<- es] at si;have dv:=Iv.dv si e5 s0 (by omega)
 have WG:=Has.congr (y:=raX p q n d) dv (null_zero.of_eq_from (last+1).toNat λ M hM=>by
  rw[raS_val hl q0 M (by omega),<- S_div]
  unfold raX raN;rw[hn]
  show S (λ i=>zCY p q i M) (last+1).toNat-_=0
  unfold zCY
  grind)
 refine⟨by omega,e2,s0,s2,zL6 (C:=(1+2*(NS:Int))*((NS:Int)+2)+9) (D:=exD B 1 t) hB s0 s2 (by omega) e2 ?_ D0 ?_ D2 (by omega) s3 e4 WG (raX_one (by omega) q0)⟩
 ·have:=Yz (show 0<=1+2*(NS:Int) by omega) (show 0<=(NS:Int)+2 by omega)
  omega
 ·have:=Int.mul_le_mul (show 1+2*(NS:Int)<=11401 by omega) (show (NS:Int)+2<=5702 by omega) (by omega) (by omega)
  omega
open Go.RowKit
attribute [local go_sem ↓] Go.wp_at_zero Go.wp_at_succ
theorem zH5 (x q:Int) (hq:0<q):x/q*q<=x:=Int.ediv_mul_le _ (by omega)
theorem zH4 (x q:Int) (hq:0<q):x<x/q*q+q:=by
 have h:=Int.emod_add_mul_ediv x q;have:=Int.emod_lt_of_pos x hq;rw[Int.mul_comm];omega
theorem zNE {p q z:Int} (hq:0<q) (h1:z*q<=p) (h2:p<z*q+q):p/q=z:=by
 have a:=zH5 p q hq;have b:=zH4 p q hq
 have c1:p/q<z+1:=by
  refine Int.not_le.1 λ h=>?_
  have h3:=Yt h (show 0<=q by omega)
  have h4:(z+1)*q=z*q+q:=by rw[Int.add_mul];omega
  omega
 have c2:z<p/q+1:=by
  refine Int.not_le.1 λ h=>?_
  have h3:=Yt h (show 0<=q by omega)
  have h4:(p/q+1)*q=p/q*q+q:=by rw[Int.add_mul];omega
  omega
 omega
theorem tdiv_bd {p q:Int} (hq:0<q):(p.tdiv q*q<=p/\p<p.tdiv q*q+q)\/(p<p.tdiv q*q/\p.tdiv q*q-q<p):=by
 by_cases hp:0<=p
 ·rw[Int.tdiv_eq_ediv_of_nonneg hp]
  exact Or.inl ⟨zH5 p q hq,zH4 p q hq⟩
 ·have e:p.tdiv q = -((-p)/q):=by
   have h1:((-(-p)).tdiv q) = -((-p).tdiv q):=Int.neg_tdiv _ _;rw[Int.neg_neg] at h1;rw[h1,Int.tdiv_eq_ediv_of_nonneg (by omega)]
  have a:=zH5 (-p) q hq;have b:=zH4 (-p) q hq;rw[e,Int.neg_mul]
  by_cases hz:(-p)/q*q = -p
  ·exact Or.inl ⟨by omega,by omega⟩
  ·exact Or.inr ⟨by omega,by omega⟩
theorem zND (p q:Int) (w:World) (h:rok p q) :
  Calls Tryz.prog 137 #[.agg #[.int .i64 p,.int .i64 q]] w λ z w'=>z=.returned (.int .i64 (p/q))/\Below w.heap.size w w':=by
 obtain⟨h1,h2,h3,h4⟩:=h;have hb:=tdiv_bd (p:=p) (q:=q) (by omega)
 obtain⟨n,hn⟩:∃ n,n=p.tdiv q:=⟨_,rfl⟩;have qN:p.tdiv q=n:=hn.symm;rw[qN] at hb;have hz:(q == 0)=false:=by simp;omega
 have hnb : -1048577<=n/\n<=1048577:=by
  rcases hb with⟨b1,b2⟩|⟨b1,b2⟩
  ·constructor
   ·refine Int.not_lt.1 λ h=>?_
    have:=Yt (show n <= -1048578 by omega) (show 0<=q by omega)
    omega
   ·refine Int.not_lt.1 λ h=>?_
    have:=Yt (show 1048578<=n by omega) (show 0<=q by omega)
    omega
  ·constructor
   ·refine Int.not_lt.1 λ h=>?_
    have:=Yt (show n <= -1048578 by omega) (show 0<=q by omega)
    omega
   ·refine Int.not_lt.1 λ h=>?_
    have:=Yt (show 1048578<=n by omega) (show 0<=q by omega)
    omega
 have hnq : -2000000<=n*q/\n*q<=2000000:=by omega
 obtain⟨m1,m2⟩:=hnb;obtain⟨m3,m4⟩:=hnq
 rcases hb with⟨b1,b2⟩|⟨b1,b2⟩
 ·have HE:=zC (zNE (by omega) b1 b2)
  have hng:¬ p<n*q:=by omega
  clear hn b1 b2
  go_enter Tryz.func137,Tryz.ntmps137
  go_wp2
  go_ret
  exact⟨by rw[zA HE];rfl,bl1 _ _⟩
 ·have HE:=zC (show p/q=n-1 from zNE (by omega) (by rw[Int.sub_mul];omega) (by rw[Int.sub_mul];omega))
  clear hn b2
  go_enter Tryz.func137,Tryz.ntmps137
  go_wp2
  go_ret
  exact⟨by rw[zA HE];rfl,bl1 _ _⟩
theorem zLO (q r s x y:Int) (P M b:Nat) (w:World) (K6:rok x y) (hM:(min (x/y) (P:Int)+1).toNat=M) (hp:P<=100) (hr:0<=r) (hs:r<=s) (hs1:1<=s) (X7:s<=1024) (hb:b<=1000000) :
  Calls Tryz.prog 91 #[.agg #[.int .i64 6,.int .i64 (P:Int),.int .i64 q,.int .i64 r,.int .i64 s],.agg #[.int .i64 x,.int .i64 y],.int .i64 b] w (zH w b (b/16+5000) (zDT (zEO P r s) M*Q b/s ^ P) (-(-(zDT (zEO P r s) M*Q b)/s ^ P))):=by
 have cB : -1000000000<=x/y/\x/y<=1000000000:=by
  obtain⟨h1,h2,h3,h4⟩:=K6;have a:=zH5 x y (by omega)
  have b:=zH4 x y (by omega)
  constructor
  ·refine Int.not_lt.1 λ h=>?_
   have:=Yt (show x/y <= -1000000001 by omega) (show 0<=y by omega)
   omega
  ·refine Int.not_lt.1 λ h=>?_
   have:=Yt (show 1000000001<=x/y by omega) (show 0<=y by omega)
   omega
 obtain⟨W,hW⟩:∃ W,W=((w.alloc (.cells #[.int .i64 6,.int .i64 (P:Int),.int .i64 q,.int .i64 r,.int .i64 s] 25)).alloc (.cells #[.int .i64 x,.int .i64 y] 23)).alloc (.cells zCq 31):=⟨_,rfl⟩;have j6:Below w.heap.size w W:=by rw[hW];exact bl3 _ _ _ _
 have L:W.cell? ⟨w.heap.size,0,none⟩=some (.int .i64 6)/\W.cell? ⟨w.heap.size,1,none⟩=some (.int .i64 (P:Int))/\W.cell? ⟨w.heap.size,2,none⟩=some (.int .i64 q)/\W.cell? ⟨w.heap.size,3,none⟩=some (.int .i64 r)/\W.cell? ⟨w.heap.size,4,none⟩=some (.int .i64 s)/\W.cell? ⟨w.heap.size+1,0,none⟩=some (.int .i64 x)/\W.cell? ⟨w.heap.size+1,1,none⟩=some (.int .i64 y):=by rw[hW];simp[go_sem]
 have R:NoC W (w.heap.size+1+1):=by rw[hW];constructor<;>simp[go_sem]
 have lR:=R.lt
 have HK:=zC (show ∀ w',Below W.heap.size W w'->(w'.cell? ⟨w.heap.size,0,none⟩=some (.int .i64 6)/\w'.cell? ⟨w.heap.size,1,none⟩=some (.int .i64 (P:Int))/\w'.cell? ⟨w.heap.size,2,none⟩=some (.int .i64 q)/\w'.cell? ⟨w.heap.size,3,none⟩=some (.int .i64 r)/\w'.cell? ⟨w.heap.size,4,none⟩=some (.int .i64 s)/\rK0 w' (w.heap.size+1) x y) from λ w' hB=>by
  obtain⟨l0,l1,l2,l3,l4,l5,l6⟩:=L
  exact⟨(hB.cell (p:=⟨w.heap.size,0,none⟩) (by show w.heap.size<_;omega)).trans l0,(hB.cell (p:=⟨w.heap.size,1,none⟩) (by show w.heap.size<_;omega)).trans l1,(hB.cell (p:=⟨w.heap.size,2,none⟩) (by show w.heap.size<_;omega)).trans l2,(hB.cell (p:=⟨w.heap.size,3,none⟩) (by show w.heap.size<_;omega)).trans l3,(hB.cell (p:=⟨w.heap.size,4,none⟩) (by show w.heap.size<_;omega)).trans l4,(hB.cell (p:=⟨w.heap.size+1,0,none⟩) (by show w.heap.size+1<_;omega)).trans l5,(hB.cell (p:=⟨w.heap.size+1,1,none⟩) (by show w.heap.size+1<_;omega)).trans l6⟩)
 have HM:=zC hM;clear hM L
 go_enter Tryz.func91,Tryz.ntmps91
 go_wp2;rw[<- hW];clear hW;obtain⟨l0,l1,l2,l3,l4,l5,l6⟩:=zA HK _ (Below.refl _ _);have D5:Below W.heap.size W W.drew:=(Below.refl _ _).drew;have nA:w.heap.size≠w.heap.size+1+1:=by omega
 have SA:w.heap.size+1+1≠w.heap.size:=by omega
 go_region_held3 (λ w'=>w'.cell? ⟨w.heap.size,0,none⟩=some (.int .i64 6)/\w'.cell? ⟨w.heap.size,1,none⟩=some (.int .i64 (P:Int))/\w'.cell? ⟨w.heap.size,2,none⟩=some (.int .i64 q)/\w'.cell? ⟨w.heap.size,3,none⟩=some (.int .i64 r)/\w'.cell? ⟨w.heap.size,4,none⟩=some (.int .i64 s)/\rK0 w' (w.heap.size+1) x y) (first|exact zA HK _ (by with_reducible first|exact D5|exact s9|exact y9)|(dsimp only[cK,cK0,nK,nK0,rK,rK0];go_keep)|go_keep)
  (first
   | (go_at_call 136;refine (zRM 6 q r s (x/y) P M b _ (zA HM) cB.1 cB.2 hp hr hs hs1 X7 hb).mono ?_;rintro r' w2 ⟨u,rfl,B8,B7,j8⟩;have s9:=zB y9 j8;obtain⟨q0,q1,q2,q3,q4,q5⟩:=R.bw s9;have G8:=zC B8;clear B8;obtain⟨e0,e1,e2,e3,e4,e5,e6⟩:=zA HK _ s9)
   | (go_at_call 137;refine (zND x y _ K6).mono ?_;rintro r' w1 ⟨rfl,b9⟩;have y9:=zB D5 b9))
 all_goals
  go_wp2_with fail;refine bodyPost_ret (v:=.agg u.q) (by simp[results,Tryz.results91,go_sem,q0,q1,q2,q3,q4]) rfl ⟨u,rfl,zA G8,?_,?_⟩
  ·exact SpAt.put5 B7 q0 q1 q2 q3 q4 _ _ _ _ _
  ·exact jV (zB j6 s9) (by omega) _ _ _ _ _
def BlA (x:Nat->Rat) (w:World) (b:Nat) (z:Ending) (w':World):Prop:=∃ lo hi,LwPr x b lo hi/\zH w b 30000 lo hi z w'
theorem zFR (w:World) (b:Nat) (hb:b<=2000):Calls Tryz.prog 100 #[.int .i64 b] w (BlA (λ _=>0) w b) :=
 (zNX w b hb).mono λ z w' ⟨u,e1,e2,e3,e4⟩=>⟨_,_,(of_lw b (Int.le_refl 0) (by decide) (by decide)).congr (null_zero.of_eq λ M=>by
  have e:((0:Int):Rat)/((1:Int):Rat)=0:=by decide +kernel
  rw[e];grind),u,e1,e2,e3.mono (by omega),e4⟩
theorem one_bl (w:World) (b:Nat) (hb:b<=400):Calls Tryz.prog 93 #[.int .i64 b] w (BlA (λ _=>1) w b) :=
 (zDE w b (by omega)).mono λ z w' ⟨u,e1,e2,e3,e4⟩=>⟨_,_,(of_lw b (show (0:Int)<=1 by decide) (show (0:Int)<1 by decide) (Int.le_refl 1)).congr (null_zero.of_eq λ M=>by
  have e:((1:Int):Rat)/((1:Int):Rat)=1:=by decide +kernel
  rw[e];grind),u,e1,e2,e3.mono (by omega),e4⟩
theorem lwait_no (w:World) (k p q r s n d:Int) (b:Nat) (hb:b<=2000) (hn:n<=0) :
  Calls Tryz.prog 132 #[.agg #[.int .i64 k,.int .i64 p,.int .i64 q,.int .i64 r,.int .i64 s],.agg #[.int .i64 n,.int .i64 d],.int .i64 b] w (BlA (λ _=>0) w b):=by
 go_enter Tryz.func132,Tryz.ntmps132
 go_wp2_with fail;refine (zFR _ b hb).mono ?_;rintro zz w1 ⟨lo,hi,I9,u,rfl,B8,B7,b9⟩;have R:NoC w1 (w.heap.size+1+1):=NoC.bw ⟨by simp[go_sem],by simp[go_sem],by simp[go_sem],by simp[go_sem],by simp[go_sem],λ o=>by simp[go_sem]⟩ b9
 have hB:Below w.heap.size w w1:=zB (bl3 _ _ _ _ ) b9;obtain⟨q0,q1,q2,q3,q4,q5⟩:=R;have G8:=zC B8;clear B8 b9;go_wp2_with fail;refine bodyPost_ret (v:=.agg u.q) (by simp[results,Tryz.results132,go_sem,q0,q1,q2,q3,q4]) rfl ⟨lo,hi,I9,u,rfl,zA G8,?_,?_⟩
 ·exact SpAt.put5 (B7) q0 q1 q2 q3 q4 _ _ _ _ _
 ·exact jV hB (by omega) _ _ _ _ _
theorem zST (w:World) (k p q r s n d:Int) (b:Nat) (hb:b<=2000) (hn:n<=0) :
  Calls Tryz.prog 133 #[.agg #[.int .i64 k,.int .i64 p,.int .i64 q,.int .i64 r,.int .i64 s],.agg #[.int .i64 n,.int .i64 d],.int .i64 b] w (BlA (λ _=>0) w b):=by
 go_enter Tryz.func133,Tryz.ntmps133
 go_wp2_with fail;refine (zFR _ b hb).mono ?_;rintro zz w1 ⟨lo,hi,I9,u,rfl,B8,B7,b9⟩;have R:NoC w1 (w.heap.size+1+1):=NoC.bw ⟨by simp[go_sem],by simp[go_sem],by simp[go_sem],by simp[go_sem],by simp[go_sem],λ o=>by simp[go_sem]⟩ b9
 have hB:Below w.heap.size w w1:=zB (bl3 _ _ _ _ ) b9;obtain⟨q0,q1,q2,q3,q4,q5⟩:=R;have G8:=zC B8;clear B8 b9;go_wp2_with fail;refine bodyPost_ret (v:=.agg u.q) (by simp[results,Tryz.results133,go_sem,q0,q1,q2,q3,q4]) rfl ⟨lo,hi,I9,u,rfl,zA G8,?_,?_⟩
 ·exact SpAt.put5 (B7) q0 q1 q2 q3 q4 _ _ _ _ _
 ·exact jV hB (by omega) _ _ _ _ _
theorem lbeta_no (w:World) (k p q r s n d:Int) (b:Nat) (hb:b<=2000) (hn:n<=0) :
  Calls Tryz.prog 134 #[.agg #[.int .i64 k,.int .i64 p,.int .i64 q,.int .i64 r,.int .i64 s],.agg #[.int .i64 n,.int .i64 d],.int .i64 b] w (BlA (λ _=>0) w b):=by
 go_enter Tryz.func134,Tryz.ntmps134
 go_wp2_with fail;refine (zFR _ b hb).mono ?_;rintro zz w1 ⟨lo,hi,I9,u,rfl,B8,B7,b9⟩;have R:NoC w1 (w.heap.size+1+1):=NoC.bw ⟨by simp[go_sem],by simp[go_sem],by simp[go_sem],by simp[go_sem],by simp[go_sem],λ o=>by simp[go_sem]⟩ b9
 have hB:Below w.heap.size w w1:=zB (bl3 _ _ _ _ ) b9;obtain⟨q0,q1,q2,q3,q4,q5⟩:=R;have G8:=zC B8;clear B8 b9;go_wp2_with fail;refine bodyPost_ret (v:=.agg u.q) (by simp[results,Tryz.results134,go_sem,q0,q1,q2,q3,q4]) rfl ⟨lo,hi,I9,u,rfl,zA G8,?_,?_⟩
 ·exact SpAt.put5 (B7) q0 q1 q2 q3 q4 _ _ _ _ _
 ·exact jV hB (by omega) _ _ _ _ _
theorem zSK (w:World) (k p q r s n d:Int) (b:Nat) (hb:b<=400) (hn:¬ n<=0) (od:n ≥ d) :
  Calls Tryz.prog 134 #[.agg #[.int .i64 k,.int .i64 p,.int .i64 q,.int .i64 r,.int .i64 s],.agg #[.int .i64 n,.int .i64 d],.int .i64 b] w (BlA (λ _=>1) w b):=by
 go_enter Tryz.func134,Tryz.ntmps134
 go_wp2_with fail;refine (one_bl _ b hb).mono ?_;rintro zz w1 ⟨lo,hi,I9,u,rfl,B8,B7,b9⟩;have R:NoC w1 (w.heap.size+1+1):=NoC.bw ⟨by simp[go_sem],by simp[go_sem],by simp[go_sem],by simp[go_sem],by simp[go_sem],λ o=>by simp[go_sem]⟩ b9
 have hB:Below w.heap.size w w1:=zB (bl3 _ _ _ _ ) b9;obtain⟨q0,q1,q2,q3,q4,q5⟩:=R;have G8:=zC B8;clear B8 b9;go_wp2_with fail;refine bodyPost_ret (v:=.agg u.q) (by simp[results,Tryz.results134,go_sem,q0,q1,q2,q3,q4]) rfl ⟨lo,hi,I9,u,rfl,zA G8,?_,?_⟩
 ·exact SpAt.put5 (B7) q0 q1 q2 q3 q4 _ _ _ _ _
 ·exact jV hB (by omega) _ _ _ _ _
theorem lwait_iv (w:World) (k p q r s n d:Int) (b:Nat) (E8:40<=b) (hb:b<=400) (hn:0<n) (S8:rok p q) (P2:rok n d) (hp:0<p) (I8:p<=100*q) :
  Calls Tryz.prog 132 #[.agg #[.int .i64 k,.int .i64 p,.int .i64 q,.int .i64 r,.int .i64 s],.agg #[.int .i64 n,.int .i64 d],.int .i64 b] w (BlA (λ M=>1-Ev (λ _=>((-p*n:Int):Rat)/((q*d:Int):Rat)) M) w b):=by
 obtain⟨a1,a2,a3,a4⟩:=S8;obtain⟨c1,c2,c3,c4⟩:=P2;have pn:=Int.mul_pos hp hn;have pn2:=Int.mul_le_mul a2 c2 (by omega) (by omega)
 have qd:=Int.mul_pos (show 0<q by omega) (show 0<d by omega)
 have qd2:=Int.mul_le_mul a4 c4 (by omega) (by omega)
 have e1 : -p*n = -(p*n):=Int.neg_mul _ _
 have wi:WaIn (p*n) (q*d):=⟨pn,qd,by omega,by
  have m1:=Int.mul_le_mul I8 c2 (by omega) (by omega)
  have m2:=Yx (show 1<=d by omega) (show 0<=q by omega)
  omega⟩
 obtain⟨l,t,N,g1,g2,g3,g4,g5⟩:=wa_set wi E8;obtain⟨f1,f2⟩:=wa_ok wi E8 hb g3 g1 g2 g4 g5;have HF:=zC f2;have HW:=zC (show IntKind.i64.wrap (-p) = -p from jH _ (by omega) (by omega))
 have T7:=zC (show IntKind.i64.wrap (-p*n) = -(p*n) by rw[e1];exact jH _ (by omega) (by omega))
 have ag:=zC (show IntKind.i64.wrap (q*d)=q*d from jH _ (by omega) (by omega))
 have HQ:=zC (show (-9223372036854775808 <= -(p*n) /\ -(p*n)<=9223372036854775807) /\ -9223372036854775808<=q*d/\q*d<=9223372036854775807/\0<q*d from⟨⟨by omega,by omega⟩,by omega,by omega,qd⟩)
 have HP:=zC (And.intro g1 (And.intro g2 (And.intro g4 g5)))
 have HB:=zC (show Q (b+2)<P 60/\∀ i,i<=t -> -P 60<(sqI b (zN (zU b (zG (ofI (-(p*n)) (q*d) b) t)) N) i).1/\(sqI b (zN (zU b (zG (ofI (-(p*n)) (q*d) b) t)) N) i).2<P 60 by
  have h1:=zJ (show b+3<=16*60 by omega)
  rw[Q_P] at h1;have h2:Q (b+3)=2*Q (b+2):=rfl;have h3:Q (b+2)=2*(2*Q b):=rfl;have:=zE b
  exact⟨by omega,λ i _=>by have:=f1 i;omega⟩)
 have hle:=yB (n := -(p*n)) qd b;have ee:(λ M=>1-Ev (λ _=>((-p*n:Int):Rat)/((q*d:Int):Rat)) M)=λ M=>1-Ev (λ _=>((-(p*n):Int):Rat)/((q*d:Int):Rat)) M:=by rw[e1]
 rw[ee];have qN:¬ n<=0:=by omega
 clear f1 f2 g1 g2 g4 g5 wi pn pn2 qd qd2 e1 ee a1 a2 a3 a4 c1 c2 c3 c4 hp I8;obtain⟨W,hW⟩:∃ W,W=((w.alloc (.cells #[.int .i64 k,.int .i64 p,.int .i64 q,.int .i64 r,.int .i64 s] 25)).alloc (.cells #[.int .i64 n,.int .i64 d] 23)).alloc (.cells zCq 31):=⟨_,rfl⟩;have j6:Below w.heap.size w W:=by rw[hW];exact bl3 _ _ _ _
 have A:LwC W w.heap.size k p q r s:=by rw[hW];constructor<;>simp[go_sem]
 have D:RaC W (w.heap.size+1) n d:=by rw[hW];constructor<;>simp[go_sem]
 have R:NoC W (w.heap.size+1+1):=by rw[hW];constructor<;>simp[go_sem]
 have lR:=R.lt;have lA:=A.lt;have lD:=D.lt;have HK:=zC (show ∀ w',Below W.heap.size W w'->(rK w' w.heap.size k p (w'.cell? ⟨w.heap.size,2,none⟩=some (.int .i64 q)/\w'.cell? ⟨w.heap.size,3,none⟩=some (.int .i64 r)/\w'.cell? ⟨w.heap.size,4,none⟩=some (.int .i64 s)/\rK0 w' (w.heap.size+1) n d)) from λ w' hB=>⟨(A.bw hB).c0,(A.bw hB).c1,(A.bw hB).c2,(A.bw hB).c3,(A.bw hB).c4,(D.bw hB).c0,(D.bw hB).c1⟩)
 clear A D
 go_enter Tryz.func132,Tryz.ntmps132
 go_wp2;rw[<- hW];clear hW;have E2:Below W.heap.size W W.drew:=(Below.refl _ _).drew;have n1:w.heap.size+1+1≠w.heap.size:=by omega
 have n2:w.heap.size+1+1≠w.heap.size+1:=by omega
 obtain⟨x0,x1,x2,x3,x4,x5,x6⟩:=zA HK _ (Below.refl _ _)
 go_region_held3 (λ w'=>rK w' w.heap.size k p (w'.cell? ⟨w.heap.size,2,none⟩=some (.int .i64 q)/\w'.cell? ⟨w.heap.size,3,none⟩=some (.int .i64 r)/\w'.cell? ⟨w.heap.size,4,none⟩=some (.int .i64 s)/\rK0 w' (w.heap.size+1) n d)) (first|exact zA HK _ (by with_reducible first|exact E2|exact M6|exact G3|exact A9|exact o9|exact A7)|(dsimp only[cK,cK0,nK,nK0,rK,rK0];go_keep)|go_keep)
  (first
   | (go_at_call 48;have O3:=G3;refine (zE0 _ v4 60 b _ qQ (zA ET) (by omega) (by omega) (by omega)).mono ?_;rintro zz w5 ⟨u,rfl,B8,B7,D8⟩;have M6:=zB G3 D8;have G8:=zC B8;clear B8;obtain⟨q0,q1,q2,q3,q4,q5⟩:=R.bw M6;obtain⟨i0,i1,i2,i3,i4,i5,i6⟩:=zA HK _ M6)
   | (go_at_call 77;have O3:=A9;refine (zGU _ v3 60 b t N (ofI (-(p*n)) (q*d) b) l (bg.mono (by omega)) (zA iI) hle (by omega) (by omega) (zA HP).1 (zA HP).2.1 (by omega) (zA HP).2.2.1 (zA HP).2.2.2 (zA HB).1 (zA HB).2 (by omega)).mono ?_;rintro zz w4 ⟨v4,rfl,aP,qQ,p9⟩;have G3:=zB A9 p9;have ET:=zC aP;clear aP)
   | (go_at_call 88;have O3:=o9;refine (jI _ _ _ _ _ _ _ _ 4 4 b (-(p*n)) (q*d) _ (o8.bw j8) A5 (by omega) (by omega) (zA HQ).2.2.2).mono ?_;rintro zz w3 ⟨v3,rfl,G7,bg,m8⟩;have A9:=zB o9 m8;have iI:=zC G7;clear G7)
   | (go_at_call 33;have O3:=A7;(try rw[zA ag]);refine (zD (q*d) _ (zA HQ).2.1 (zA HQ).2.2.1).mono ?_;rintro zz w2 ⟨j7,a2,m2,c2,rfl,A5,j8⟩;have o9:=zB A7 j8)
   | (go_at_call 33;(first|rw[zA HW,zA T7]|rw[zA T7]);refine (zD (-(p*n)) _ (zA HQ).1.1 (zA HQ).1.2).mono ?_;rintro zz w1 ⟨m7,a1,m1,c1,rfl,o8,b9⟩;have A7:=zB E2 b9))
 all_goals
  go_wp2;refine bodyPost_ret (v:=.agg u.q) (by simp[results,Tryz.results132,go_sem,q0,q1,q2,q3,q4]) rfl ⟨_,_,zA HF,u,rfl,zA G8,?_,?_⟩
  ·exact SpAt.put5 (B7.mono (by omega)) q0 q1 q2 q3 q4 _ _ _ _ _
  ·exact jV (zB j6 M6) (by omega) _ _ _ _ _
theorem zSS (L G:Rat->Nat->Rat) (X:Int->Int->Nat->Rat) (hE:zLD L G X) (w:World) (k p q r s n d:Int) (b:Nat) (E8:40<=b) (hb:b<=400) (hn:0<n) (S8:rok p q) (P2:rok n d) (qP:rok r s) (hp:0<p) (I8:p<=100*q) (hr:0<r) :
  Calls Tryz.prog 133 #[.agg #[.int .i64 k,.int .i64 p,.int .i64 q,.int .i64 r,.int .i64 s],.agg #[.int .i64 n,.int .i64 d],.int .i64 b] w (BlA (lwX L p q (r*n) (s*d) (gmV p q (G (gA p q)))) w b):=by
 obtain⟨a1,a2,a3,a4⟩:=S8;obtain⟨c1,c2,c3,c4⟩:=P2;obtain⟨d1,d2,d3,d4⟩:=qP;have rn:=Int.mul_pos hr hn;have rn2:=Int.mul_le_mul d2 c2 (by omega) (by omega)
 have sd:=Int.mul_pos (show 0<s by omega) (show 0<d by omega)
 have sd2:=Int.mul_le_mul d4 c4 (by omega) (by omega)
 have AR:=zC (show LwAr p q (r*n) (s*d) b from⟨hp,by omega,I8,by omega,by omega,sd,by omega,by omega,E8,hb⟩)
 have T7:=zC (show IntKind.i64.wrap (r*n)=r*n from jH _ (by omega) (by omega))
 have ag:=zC (show IntKind.i64.wrap (s*d)=s*d from jH _ (by omega) (by omega))
 have HQ:=zC (show (-9223372036854775808<=r*n/\r*n<=9223372036854775807) /\ -9223372036854775808<=s*d/\s*d<=9223372036854775807 from⟨⟨by omega,by omega⟩,by omega,by omega⟩)
 have qN:¬ n<=0:=by omega
 clear rn rn2 sd sd2 a1 a2 a3 a4 c1 c2 c3 c4 d1 d2 d3 d4 hp I8 hr;obtain⟨W,hW⟩:∃ W,W=((w.alloc (.cells #[.int .i64 k,.int .i64 p,.int .i64 q,.int .i64 r,.int .i64 s] 25)).alloc (.cells #[.int .i64 n,.int .i64 d] 23)).alloc (.cells zCq 31):=⟨_,rfl⟩;have j6:Below w.heap.size w W:=by rw[hW];exact bl3 _ _ _ _
 have A:LwC W w.heap.size k p q r s:=by rw[hW];constructor<;>simp[go_sem]
 have D:RaC W (w.heap.size+1) n d:=by rw[hW];constructor<;>simp[go_sem]
 have R:NoC W (w.heap.size+1+1):=by rw[hW];constructor<;>simp[go_sem]
 have lR:=R.lt;have lA:=A.lt;have lD:=D.lt;have HK:=zC (show ∀ w',Below W.heap.size W w'->(rK w' w.heap.size k p (w'.cell? ⟨w.heap.size,2,none⟩=some (.int .i64 q)/\w'.cell? ⟨w.heap.size,3,none⟩=some (.int .i64 r)/\w'.cell? ⟨w.heap.size,4,none⟩=some (.int .i64 s)/\rK0 w' (w.heap.size+1) n d)) from λ w' hB=>⟨(A.bw hB).c0,(A.bw hB).c1,(A.bw hB).c2,(A.bw hB).c3,(A.bw hB).c4,(D.bw hB).c0,(D.bw hB).c1⟩)
 clear A D
 go_enter Tryz.func133,Tryz.ntmps133
 go_wp2;rw[<- hW];clear hW;have E2:Below W.heap.size W W.drew:=(Below.refl _ _).drew;have n1:w.heap.size+1+1≠w.heap.size:=by omega
 have n2:w.heap.size+1+1≠w.heap.size+1:=by omega
 obtain⟨x0,x1,x2,x3,x4,x5,x6⟩:=zA HK _ (Below.refl _ _)
 go_region_held3 (λ w'=>rK w' w.heap.size k p (w'.cell? ⟨w.heap.size,2,none⟩=some (.int .i64 q)/\w'.cell? ⟨w.heap.size,3,none⟩=some (.int .i64 r)/\w'.cell? ⟨w.heap.size,4,none⟩=some (.int .i64 s)/\rK0 w' (w.heap.size+1) n d)) (first|exact zA HK _ (by with_reducible first|exact E2|exact A9|exact o9|exact A7)|(dsimp only[cK,cK0,nK,nK0,rK,rK0];go_keep)|go_keep)
  (first
   | (go_at_call 159;have O3:=o9;refine (lower_iv L G X hE _ ⟨m7,a1,m1,c1⟩ ⟨j7,a2,m2,c2⟩ p q (r*n) (s*d) b (o8.bw j8) A5 (zA AR)).mono ?_;rintro zz w3 ⟨lo,hi,I9,u,rfl,B8,B7,m8⟩;have A9:=zB o9 m8;have G8:=zC B8;have M9:=zC I9;clear B8 I9;obtain⟨q0,q1,q2,q3,q4,q5⟩:=R.bw A9;obtain⟨i0,i1,i2,i3,i4,i5,i6⟩:=zA HK _ A9)
   | (go_at_call 33;have O3:=A7;(try rw[zA ag]);refine (zD (s*d) _ (zA HQ).2.1 (zA HQ).2.2).mono ?_;rintro zz w2 ⟨j7,a2,m2,c2,rfl,A5,j8⟩;have o9:=zB A7 j8)
   | (go_at_call 33;(try rw[zA T7]);refine (zD (r*n) _ (zA HQ).1.1 (zA HQ).1.2).mono ?_;rintro zz w1 ⟨m7,a1,m1,c1,rfl,o8,b9⟩;have A7:=zB E2 b9))
 all_goals
  go_wp2;refine bodyPost_ret (v:=.agg u.q) (by simp[results,Tryz.results133,go_sem,q0,q1,q2,q3,q4]) rfl ⟨lo,hi,zA M9,u,rfl,zA G8,?_,?_⟩
  ·exact SpAt.put5 (B7.mono (by omega)) q0 q1 q2 q3 q4 _ _ _ _ _
  ·exact jV (zB j6 A9) (by omega) _ _ _ _ _
theorem lbeta_iv (L G:Rat->Nat->Rat) (X:Int->Int->Nat->Rat) (hE:zLD L G X) (w:World) (k p q r s n d:Int) (b:Nat) (E8:40<=b) (hb:b<=400) (hn:0<n) (od:n<d) (S8:rok p q) (P2:rok n d) (qP:rok r s) (hp:0<p) (I8:p<=100*q) (hr:0<r) (hs:r<=100*s) :
  Calls Tryz.prog 134 #[.agg #[.int .i64 k,.int .i64 p,.int .i64 q,.int .i64 r,.int .i64 s],.agg #[.int .i64 n,.int .i64 d],.int .i64 b] w (BlA (bvX L p q r s n d) w b):=by
 obtain⟨a1,a2,a3,a4⟩:=S8;obtain⟨c1,c2,c3,c4⟩:=P2;obtain⟨d1,d2,d3,d4⟩:=qP;have AR:=zC (show BpAr p q r s n d b from⟨hp,by omega,I8,by omega,hr,by omega,hs,by omega,by omega,by omega,by omega,by omega,E8,hb⟩)
 have qN:¬ n<=0:=by omega
 have hnd':¬ n ≥ d:=by omega
 have hnd2:¬ d<=n:=by omega
 clear a1 a2 a3 a4 d1 d2 d3 d4 hp I8 hr hs;obtain⟨W,hW⟩:∃ W,W=((w.alloc (.cells #[.int .i64 k,.int .i64 p,.int .i64 q,.int .i64 r,.int .i64 s] 25)).alloc (.cells #[.int .i64 n,.int .i64 d] 23)).alloc (.cells zCq 31):=⟨_,rfl⟩;have j6:Below w.heap.size w W:=by rw[hW];exact bl3 _ _ _ _
 have A:LwC W w.heap.size k p q r s:=by rw[hW];constructor<;>simp[go_sem]
 have D:RaC W (w.heap.size+1) n d:=by rw[hW];constructor<;>simp[go_sem]
 have R:NoC W (w.heap.size+1+1):=by rw[hW];constructor<;>simp[go_sem]
 have lR:=R.lt;have lA:=A.lt;have lD:=D.lt;have HK:=zC (show ∀ w',Below W.heap.size W w'->(rK w' w.heap.size k p (w'.cell? ⟨w.heap.size,2,none⟩=some (.int .i64 q)/\w'.cell? ⟨w.heap.size,3,none⟩=some (.int .i64 r)/\w'.cell? ⟨w.heap.size,4,none⟩=some (.int .i64 s)/\rK0 w' (w.heap.size+1) n d)) from λ w' hB=>⟨(A.bw hB).c0,(A.bw hB).c1,(A.bw hB).c2,(A.bw hB).c3,(A.bw hB).c4,(D.bw hB).c0,(D.bw hB).c1⟩)
 clear A D
 go_enter Tryz.func134,Tryz.ntmps134
 go_wp2;rw[<- hW];clear hW;have E2:Below W.heap.size W W.drew:=(Below.refl _ _).drew;have n1:w.heap.size+1+1≠w.heap.size:=by omega
 have n2:w.heap.size+1+1≠w.heap.size+1:=by omega
 obtain⟨x0,x1,x2,x3,x4,x5,x6⟩:=zA HK _ (Below.refl _ _)
 go_region_held3 (λ w'=>rK w' w.heap.size k p (w'.cell? ⟨w.heap.size,2,none⟩=some (.int .i64 q)/\w'.cell? ⟨w.heap.size,3,none⟩=some (.int .i64 r)/\w'.cell? ⟨w.heap.size,4,none⟩=some (.int .i64 s)/\rK0 w' (w.heap.size+1) n d)) (first|exact zA HK _ (by with_reducible first|exact E2|exact A9|exact o9|exact A7)|(dsimp only[cK,cK0,nK,nK0,rK,rK0];go_keep)|go_keep)
  (first
   | (go_at_call 160;have O3:=o9;refine (zTR L G X hE _ ⟨m7,a1,m1,e1⟩ ⟨j7,a2,m2,e2⟩ p q r s n d b (o8.bw j8) A5 (zA AR)).mono ?_;rintro zz w3 ⟨lo,hi,I9,u,rfl,B8,B7,m8⟩;have A9:=zB o9 m8;have G8:=zC B8;have M9:=zC I9.pr;clear B8 I9;obtain⟨q0,q1,q2,q3,q4,q5⟩:=R.bw A9;obtain⟨i0,i1,i2,i3,i4,i5,i6⟩:=zA HK _ A9)
   | (go_at_call 33;have O3:=A7;refine (zD d _ (by omega) (by omega)).mono ?_;rintro zz w2 ⟨j7,a2,m2,e2,rfl,A5,j8⟩;have o9:=zB A7 j8)
   | (go_at_call 33;refine (zD n _ (by omega) (by omega)).mono ?_;rintro zz w1 ⟨m7,a1,m1,e1,rfl,o8,b9⟩;have A7:=zB E2 b9))
 all_goals
  go_wp2;refine bodyPost_ret (v:=.agg u.q) (by simp[results,Tryz.results134,go_sem,q0,q1,q2,q3,q4]) rfl ⟨lo,hi,zA M9,u,rfl,zA G8,?_,?_⟩
  ·exact SpAt.put5 (B7.mono (by omega)) q0 q1 q2 q3 q4 _ _ _ _ _
  ·exact jV (zB j6 A9) (by omega) _ _ _ _ _
theorem ra1_off (w:World) (B0 B1 B2:Nat) (s:Sp) (last p q:Int) (k b:Nat) (j:Int) (a:Int × Int) (hs:SpAt w s k a.1 a.2) (X:IcC w B0 last) (D:IcC w B1 (b:Int)) (Z:RaC w B2 p q) (hj:last<j) :
  Calls Tryz.prog 189 #[.agg s.q,.int .i64 j,.pointer (some ⟨B0,0,none⟩),.pointer (some ⟨B1,0,none⟩),.pointer (some ⟨B2,0,none⟩)] w (zH w b (k+4+10) 0 0):=by
 have l0:=X.lt;have l1:=D.lt;have o0:=X.c0;have o1:=D.c0;have DQ:B0≠w.heap.size:=by omega
 have FT:B1≠w.heap.size:=by omega
 clear hs Z X D
 go_enter Tryz.func189,Tryz.ntmps189
 go_wp2_with fail;refine bodyPost_ret (v:=.agg #[.bool false,.slice none 0 0,.bool false,.slice none 0 0,.int .i64 (b:Int)]) (by simp[results,Tryz.results189,go_sem]) rfl ⟨⟨false,none,0,0,false,none,0,0,(b:Int)⟩,rfl,rfl,⟨zE6 _ _,zE6 _ _⟩,?_⟩
 first|exact bl2 _ _ _|exact jV (bl2 _ _ _) (by omega) _ _ _ _ _
theorem ra1_iv (w:World) (B0 B1 B2:Nat) (s:Sp) (last p q:Int) (k b:Nat) (j:Int) (a:Int × Int) (hs:SpAt w s k a.1 a.2) (X:IcC w B0 last) (D:IcC w B1 (b:Int)) (Z:RaC w B2 p q) (hk:k<=100000000) (hb:s.bits=(b:Int)) (hj:¬ last<j) (CR:0<j) (CS:j<=1000000000) (hr:rok p q) :
  Calls Tryz.prog 189 #[.agg s.q,.int .i64 j,.pointer (some ⟨B0,0,none⟩),.pointer (some ⟨B1,0,none⟩),.pointer (some ⟨B2,0,none⟩)] w (zH w b (k+4+10) (zK a p (q*j)).1 (zK a p (q*j)).2):=by
 obtain⟨a1,a2,a3,a4⟩:=hr;have qj:=Int.mul_pos (show 0<q by omega) CR
 have qj2:=Int.mul_le_mul a4 CS (by omega) (by omega)
 have HE:=zC (show IntKind.i64.wrap (q*j)=q*j from jH _ (by omega) (by omega))
 have HQ:=zC (show -9223372036854775808<=q*j/\q*j<=9223372036854775807/\0<q*j from⟨by omega,by omega,qj⟩)
 obtain⟨W,hW⟩:∃ W,W=(w.alloc (.cells s.q 31)).alloc (.cells zCq 31):=⟨_,rfl⟩;have j6:Below w.heap.size w W:=by rw[hW];exact bl2 _ _ _
 have A:SpC W w.heap.size s:=by rw[hW];constructor<;>simp[go_sem]
 have R:NoC W (w.heap.size+1):=by rw[hW];constructor<;>simp[go_sem]
 have l0:=X.lt;have l1:=D.lt;have l2:=Z.lt;have o0:=X.c0;have o1:=D.c0;have o2:=Z.c0;have o3:=Z.c1;replace X:=X.bw j6;replace D:=D.bw j6;replace Z:=Z.bw j6;have lR:=R.lt;have lA:=A.lt;have HS:=zC (hs.bw j6);have HB:=zC hb;have E2:Below W.heap.size W W.drew:=(Below.refl _ _).drew;have HK:=zC (show ∀ w',Below W.heap.size W w'->(cK w' w.heap.size s (w'.cell? ⟨B0,0,none⟩=some (.int .i64 last)/\w'.cell? ⟨B1,0,none⟩=some (.int .i64 (b:Int))/\rK0 w' B2 p q)) from λ w' hB=>⟨(A.bw hB).c0,(A.bw hB).c1,(A.bw hB).c2,(A.bw hB).c3,(A.bw hB).c4,(X.bw hB).c0,(D.bw hB).c0,(Z.bw hB).c0,(Z.bw hB).c1⟩)
 clear X D Z A hs hb qj qj2
 go_enter Tryz.func189,Tryz.ntmps189
 go_wp2;rw[<- hW];clear hW o0 o1 o2 o3;have DQ:w.heap.size+1≠B0:=by omega
 have FT:w.heap.size+1≠B1:=by omega
 have SB:w.heap.size+1≠B2:=by omega
 obtain⟨x0,x1,x2,x3,x4,x5,x6,x7,x8⟩:=zA HK _ (Below.refl _ _)
 go_region_held3 (λ w'=>cK w' w.heap.size s (w'.cell? ⟨B0,0,none⟩=some (.int .i64 last)/\w'.cell? ⟨B1,0,none⟩=some (.int .i64 (b:Int))/\rK0 w' B2 p q)) (first|exact zA HK _ (by with_reducible first|exact E2|exact A9|exact o9|exact A7)|(dsimp only[cK,cK0,nK,nK0,rK,rK0];go_keep)|go_keep)
  (first
   | (go_at_call 151;have O3:=o9;refine (zBF _ s ⟨m7,e1,m1,c1⟩ ⟨j7,e2,m2,c2⟩ k 4 _ b a p (q*j) ((zA HS).bw o9) (o8.bw j8) A5 (by omega) (by omega) (zA HQ).2.2 (zA HB)).mono ?_;rintro zz w3 ⟨u,rfl,B8,B7,m8⟩;have A9:=zB o9 m8;have G8:=zC B8;clear B8;obtain⟨q0,q1,q2,q3,q4,q5⟩:=R.bw A9;obtain⟨i0,i1,i2,i3,i4,i5,i6,i7,i8⟩:=zA HK _ A9)
   | (go_at_call 33;have O3:=A7;(try rw[zA HE]);refine (zD (q*j) _ (zA HQ).1 (zA HQ).2.1).mono ?_;rintro zz w2 ⟨j7,e2,m2,c2,rfl,A5,j8⟩;have o9:=zB A7 j8)
   | (go_at_call 33;refine (zD p _ (by omega) (by omega)).mono ?_;rintro zz w1 ⟨m7,e1,m1,c1,rfl,o8,b9⟩;have A7:=zB E2 b9))
 all_goals
  go_wp2;refine bodyPost_ret (v:=.agg u.q) (by simp[results,Tryz.results189,go_sem,q0,q1,q2,q3,q4]) rfl ⟨u,rfl,zA G8,?_,?_⟩
  ·exact SpAt.put5 (B7) q0 q1 q2 q3 q4 _ _ _ _ _
  ·exact jV (zB j6 A9) (by omega) _ _ _ _ _
theorem en_ra (args:Array Value) (w:World):(callFunc 189 args).run Tryz.prog w=.ok (.enter 189 args) w:=by simp[go_sem,callFunc,Tryz.func189];kernel_rfl
theorem rareW_iv (w : World) (p q last n d : Int) (b : Nat) (hr : rok p q) (hp : 0 < p) (hp2 : p ≤ 100 * q) (hl : 0 ≤ last) (hl2 : last ≤ 1000000000) (hnd : n / d = last) (hb40 : 40 ≤ b) (hb : b ≤ 400) :
    Calls Tryz.prog 161 #[.agg #[.int .i64 p, .int .i64 q], .int .i64 last, .int .i64 b] w (BlA (raX p q n d) w b) := by
  obtain ⟨a1, a2, a3, a4⟩ := hr
  have q0' : 0 < q := by omega
  obtain ⟨NS, hNS, hNS2⟩ := ra_set (last := last) hp q0' hp2 hb40 hb
  obtain ⟨l, t, N, e1, e2, e3, e4, e5⟩ := zD1 (B := b) (e := 7) (by omega) (yB q0' b) (zIX (p := p) (q := q) (n := 100) (b := b) (e := 7) q0' (by omega) (by omega) (by decide))
  obtain ⟨g1, g2, g3, g4, g5⟩ := ra_lw hp q0' hp2 hl hnd hb40 hb (show t ≤ 15 by omega) e4 e5 hNS hNS2
  obtain ⟨tn1, tn2⟩ := zMA hp q0' hp2
  have PK : ∀ j : Nat, j ≤ 1900 → Q j < P 130 := fun j hj => by
    rw [← Q_P]
    have h1 := zJ (show j + 1 ≤ 16 * 130 by omega)
    have h2 : Q (j + 1) = 2 * Q j := rfl
    have := zE j
    omega
  have HQB := zC (show -P 130 < Q b ∧ Q b < P 130 by
    have := PK b (by omega)
    have := zE b
    exact ⟨by omega, by omega⟩)
  have so := zPV (last := last) hp q0' b
  have HTF := zC (show ∀ j, j ≤ NS → -P 130 < (raT p q last b j).1 ∧ (raT p q last b j).2 < P 130 from fun j _ => by
    have e := zAB so j
    have u := (zN7 (last := last) hp q0' hp2 hb40 hb 0 (by omega))
    have v := (zN7 (last := last) hp q0' hp2 hb40 hb (min j 1000000) (by omega)).2
    have k := PK 1900 (by omega)
    have := zE 1900
    have w2 : (raT p q last b j).2 ≤ Q 1900 := (zN7 (last := last) hp q0' hp2 hb40 hb j (by omega)).2
    have l0 : 0 ≤ (raT p q last b j).1 := e.1
    exact ⟨by omega, by omega⟩)
  have HTS := zC (show ∀ j, j ≤ NS → -P 130 < (jE (raT p q last b) j).1 ∧ (jE (raT p q last b) j).2 < P 130 from fun j hj => by
    have u := (zN7 (last := last) hp q0' hp2 hb40 hb j (by omega)).1
    have l : Q b ≤ (jE (raT p q last b) j).1 := (zFW so j).2.2
    have := PK 1900 (by omega)
    have := zE b
    have := zE 1900
    exact ⟨by omega, by omega⟩)
  have HTL := zC (fun j => show (raT p q last b j).1 ≤ (raT p q last b j).2 from (zAB so j).2)
  have HT0 := zC (fun j => show 0 ≤ (raT p q last b j).1 from (zAB so j).1)
  have HM := zC hNS2
  have HE1 := zC (show IntKind.i64.wrap (2 * p) = 2 * p from jH _ (by omega) (by omega))
  have HE2 := zC (show (2 * p).tdiv q = (zBX p q : Int) by rw [tn2]; exact Int.tdiv_eq_ediv_of_nonneg (by omega))
  have HE3 := zC (show IntKind.i64.wrap (zBX p q : Int) = (zBX p q : Int) from jH _ (by omega) (by omega))
  have HPR := zC g5
  have HP := zC (And.intro e1 (And.intro e2 (And.intro e4 e5)))
  have HQE := zC (show Q (b + eb t) < P 700 by
    have m := zJ (show b + eb t ≤ 4000 by (have := zB2 (show t ≤ 15 by omega)); (have h : eb 15 = 384 := (by decide)); omega)
    have h1 := zJ (show 4000 + 1 ≤ 16 * 700 by omega)
    rw [Q_P] at h1
    have h2 : Q (4000 + 1) = 2 * Q 4000 := rfl
    have := zE 4000
    omega)
  have ht : t ≤ 15 := by omega
  have hNSl : NS ≤ 5700 := hNS
  have HG := zC (And.intro g1 (And.intro g2 (And.intro g3 g4)))
  clear so PK g1 g2 g3 g4 g5 e1 e2 e4 e5 hNS2 tn2 hNS e3
  obtain ⟨W, hW⟩ : ∃ W, W = (((w.alloc (.cells #[.int .i64 p, .int .i64 q] 23)).alloc (.cells #[.int .i64 last] 3)).alloc (.cells #[.int .i64 (b : Int)] 3)).alloc (.cells zCq 31) := ⟨_, rfl⟩
  have hBW : Below w.heap.size w W := by rw [hW]; exact bl4 _ _ _ _ _
  have A0 : RaC W (w.heap.size) p q := by rw [hW]; constructor <;> simp [go_sem]
  have L0 : IcC W (w.heap.size + 1) last := by rw [hW]; exact ⟨by simp [go_sem]⟩
  have B0 : IcC W (w.heap.size + 1 + 1) (b : Int) := by rw [hW]; exact ⟨by simp [go_sem]⟩
  have R : NoC W (w.heap.size + 1 + 1 + 1) := by rw [hW]; constructor <;> simp [go_sem]
  have lR := R.lt
  have HFN := zC (show ∀ W', Below W.heap.size W W' → ∀ (j : Nat) (u : Sp) w', j < NS → u.bits = (b : Int) → SpAt w' u 130 (raT p q last b j).1 (raT p q last b j).2 → Below W'.heap.size W' w' → Calls Tryz.prog 189 #[.agg u.q, .int .i64 ((j : Int) + 1), .pointer (some ⟨w.heap.size + 1, 0, none⟩), .pointer (some ⟨w.heap.size + 1 + 1, 0, none⟩), .pointer (some ⟨w.heap.size, 0, none⟩)] w' (zH w' b 144 (raT p q last b (j + 1)).1 (raT p q last b (j + 1)).2) from fun W' hW' j u w' hj hub hup hbw => by
    have hb' := zB hW' hbw
    have ec : ((j + 1 : Nat) : Int) = (j : Int) + 1 := by omega
    have e2 : raT p q last b (j + 1) = zK (raT p q last b j) (raU p last (j + 1)) (raD q last (j + 1)) := rfl
    rw [e2]
    unfold raU raD
    rw [ec]
    by_cases c : last < (j : Int) + 1
    · have e := ra1_off w' (w.heap.size + 1) (w.heap.size + 1 + 1) (w.heap.size) u last p q 130 b ((j : Int) + 1) (raT p q last b j) hup (L0.bw hb') (B0.bw hb') (A0.bw hb') c
      rw [if_pos c, if_pos c]
      have z : zK (raT p q last b j) 0 1 = (0, 0) := by unfold zK; simp
      rw [z]; exact e
    · have e := ra1_iv w' (w.heap.size + 1) (w.heap.size + 1 + 1) (w.heap.size) u last p q 130 b ((j : Int) + 1) (raT p q last b j) hup (L0.bw hb') (B0.bw hb') (A0.bw hb') (by omega) hub c (by omega) (by omega) ⟨a1, a2, a3, a4⟩
      rw [if_neg c, if_neg c, if_neg (by omega)]
      exact e)
  have HK := zC (show ∀ w', Below W.heap.size W w' → (rK w' w.heap.size p q (w'.cell? ⟨(w.heap.size + 1), 0, none⟩ = some (.int .i64 last) ∧ w'.cell? ⟨(w.heap.size + 1 + 1), 0, none⟩ = some (.int .i64 (b : Int)))) from fun w' hB => ⟨(A0.bw hB).c0, (A0.bw hB).c1, (L0.bw hB).c0, (B0.bw hB).c0⟩)
  have hq1 : ¬ q = 0 := by omega
  have hq2 : ¬ q = -1 := by omega
  have lA := A0.lt
  have lL := L0.lt
  have lB := B0.lt
  clear L0 B0
  go_enter Tryz.func161, Tryz.ntmps161
  go_wp2
  rw [← hW]
  clear hW
  obtain ⟨x0, x1, x2, x3⟩ := zA HK _ (Below.refl _ _)
  go_cut [7] (fun pz wx => ∃ (B : Nat) (u : Sp), pz = .pointer (some ⟨B, 0, none⟩) ∧ W.heap.size ≤ B ∧ VrC wx B u ∧ SpAt wx u 133 (kY (raT p q last b) NS).1 (kY (raT p q last b) NS).2 ∧ u.bits = (b : Int) ∧ Below W.heap.size W wx)
  case first =>
    go_region_held3 (fun w' => rK w' w.heap.size p q (w'.cell? ⟨(w.heap.size + 1), 0, none⟩ = some (.int .i64 last) ∧ w'.cell? ⟨(w.heap.size + 1 + 1), 0, none⟩ = some (.int .i64 (b : Int)))) (exact zA HK _ (by repeat' (first | with_reducible exact hBS2 | with_reducible exact hBS1 | with_reducible exact Below.refl _ _ | with_reducible refine Below.drew ?_ | with_reducible refine zL ?_ _ | with_reducible refine Below.setCell ?_ (by first | exact Nat.le_refl _ | exact hlS1 | exact hlS2) _)))
      (first
        | (go_at_call 182; (try rw [zA HE1]); (try rw [zA HE2]); (try rw [zA HE3]); have hq := hBS1; refine (zEL _ #[.pointer (some ⟨w.heap.size + 1, 0, none⟩), .pointer (some ⟨w.heap.size + 1 + 1, 0, none⟩), .pointer (some ⟨w.heap.size, 0, none⟩)] en_ra (raT p q last b) (zBX p q) NS b 130 144 vS1 _ ((zA HP9).bw (by with_reducible first | exact Below.refl _ _ | exact bl1 _ _)) (zA HVBS1) (by omega) (by omega) (by omega) (by omega) (zA HM) (by omega) (by omega) (zA HTL) (zA HT0) (zA HTF) (zA HTS) (zA HFN _ (by with_reducible first | exact hBS1 | exact zL hBS1 _))).mono ?_; rintro r wS2 ⟨vS2, rfl, hvbS2, hZS2, hbS2⟩; have HVBS2 := zC hvbS2; clear hvbS2; have hCS2 : Below wS1.heap.size wS1 wS2 := (by with_reducible first | exact hbS2 | exact zB (bl1 _ _) hbS2); have hBS2 := zB hBS1 hCS2; (try with_reducible have gS2 := (zQ wS1 31).bw hbS2); (try replace gS1 := gS1.bw hCS2); have hlS2 := hBS2.size; (try have mS1 := gS1.lt); (try have eS1 := Nat.ne_of_lt mS1); (try have eS1' := Nat.ne_of_gt mS1); (try obtain ⟨zS10, zS11, zS12, zS13, zS14, zS15⟩ := gS1); (try have mS2 := gS2.lt); (try have eS2 := Nat.ne_of_lt mS2); (try have eS2' := Nat.ne_of_gt mS2); (try obtain ⟨zS20, zS21, zS22, zS23, zS24, zS25⟩ := gS2))
        | (go_at_call 93; refine (zDE _ b (by omega)).mono ?_; rintro r' wS1 ⟨vS1, rfl, hvbS1, hZS1, hbS1⟩; rw [show 1 * Q b / 1 = Q b by rw [Int.ediv_one, Int.one_mul], show -(-(1 * Q b) / 1) = Q b by rw [Int.ediv_one, Int.one_mul, Int.neg_neg]] at hZS1; have HVBS1 := zC hvbS1; have HP9 := zC (hZS1.fits (K := 130) (Int.le_refl _) (zA HQB).1 (zA HQB).2); clear hvbS1 hZS1; have hBS1 : Below W.heap.size W wS1 := (by with_reducible first | exact zB (Below.refl _ _).drew hbS1 | exact zB (bl1 _ _).drew hbS1); (try with_reducible have gS1 := ((zQ W 31).bw (Below.refl _ _).drew).bw hbS1); have hlS1 := hBS1.size))
    all_goals
      have hfinS : SpAt wS2 vS2 133 (kY (raT p q last b) NS).1 (kY (raT p q last b) NS).2 := hZS2
      go_wp2_with fail
      go_meet
      refine ⟨_, vS2, rfl, ?_, ⟨⟨?_, ?_, ?_, ?_, ?_⟩, ?_⟩, ?_, zA HVBS2, ?_⟩
      · first | exact Nat.le_refl _ | exact hlS1 | exact hlS2
      · simp [go_sem, *]
      · simp [go_sem, *]
      · simp [go_sem, *]
      · simp [go_sem, *]
      · simp [go_sem, *]
      · intro o; simp [go_sem, *]
      · first | with_reducible exact SpAt.put5 hfinS zS20 zS21 zS22 zS23 zS24 _ _ _ _ _ | with_reducible exact SpAt.put5 hfinS zS10 zS11 zS12 zS13 zS14 _ _ _ _ _ | with_reducible exact hfinS.bw (bl1 _ _)
      · repeat' (first | with_reducible exact hBS2 | with_reducible exact hBS1 | with_reducible exact Below.refl _ _ | with_reducible refine Below.drew ?_ | with_reducible refine zL ?_ _ | with_reducible refine Below.setCell ?_ (by first | exact Nat.le_refl _ | exact hlS1 | exact hlS2) _)
  case rest =>
  obtain ⟨BS, xS, rfl, hHS, XS, hpS, hxbS, hblS⟩ := hcut
  obtain ⟨V7, hV7⟩ : ∃ V, V = wc := ⟨_, rfl⟩
  subst hV7
  have kS := Nat.lt_of_lt_of_le lR hHS
  replace A0 := A0.bw hblS
  replace R := R.bw hblS
  replace hBW := zB hBW hblS
  have HSP := zC hpS
  have HSB := zC hxbS
  have XSC := XS.c
  clear hpS hxbS XS HK HFN HTL HT0 HTF HTS HE1 HE2 HE3 x0 x1 x2 x3 hblS lA lL lB
  have lA := A0.lt
  have lS := XSC.lt
  have lR2 := R.lt
  obtain ⟨y0, y1, y2, y3, y4⟩ := XSC
  obtain ⟨z0, z1⟩ := A0
  go_wp2_with fail
  refine (zHI _ xS p q 700 b t N l (kY (raT p q last b) NS) ((zA HSP).mono (by omega)) (zA HSB) (zA HG).2.2.2 ⟨a1, a2, a3, a4⟩ (by omega) (by omega) (by omega) (zA HP).1 (zA HP).2.1 (by omega) (zA HP).2.2.1 (zA HP).2.2.2 (zA HQE) (by omega) (by omega)).mono ?_
  rintro r' w3 ⟨v3, rfl, hvb3, hs3, hb3⟩
  replace R := R.bw hb3
  replace hBW := zB hBW hb3
  have HV3 := zC hvb3
  clear hvb3 hb3 y0 y1 y2 y3 y4 z0 z1
  go_wp2_with fail
  refine (zBR _ v3 (b / 16 + 700 + 10) b _ _ hs3 (zA HV3) (by omega) (by omega) (by omega)).mono ?_
  rintro r' w4 ⟨u, rfl, hub, hup, hb4⟩
  obtain ⟨q0, q1, q2, q3, q4, q5⟩ := R.bw hb4
  replace hBW := zB hBW hb4
  have HUB := zC hub
  clear hub hb4
  rw [zEF] at hup
  go_wp2_with fail
  refine bodyPost_ret (v := .agg u.q) (by simp [results, Tryz.results161, go_sem, q0, q1, q2, q3, q4]) rfl ⟨_, _, zA HPR, u, rfl, zA HUB, ?_, ?_⟩
  · exact SpAt.put5 (SpAt.mono hup (by omega)) q0 q1 q2 q3 q4 _ _ _ _ _
  · exact jV hBW (by omega) _ _ _ _ _
theorem lrare_no (w:World) (p q last n d:Int) (b:Nat) (hb:b<=2000) (hl:last<0) :
  Calls Tryz.prog 138 #[.agg #[.int .i64 p,.int .i64 q],.int .i64 last,.int .i64 b] w (BlA (λ _=>0) w b):=by
 go_enter Tryz.func138,Tryz.ntmps138
 go_wp2_with fail;refine (zFR _ b hb).mono ?_;rintro zz w1 ⟨lo,hi,I9,u,rfl,B8,B7,b9⟩;have R:NoC w1 (w.heap.size+1):=NoC.bw ⟨by simp[go_sem],by simp[go_sem],by simp[go_sem],by simp[go_sem],by simp[go_sem],λ o=>by simp[go_sem]⟩ b9
 have hB:Below w.heap.size w w1:=zB (bl2 _ _ _ ) b9;obtain⟨q0,q1,q2,q3,q4,q5⟩:=R;have G8:=zC B8;clear B8 b9;go_wp2_with fail;refine bodyPost_ret (v:=.agg u.q) (by simp[results,Tryz.results138,go_sem,q0,q1,q2,q3,q4]) rfl ⟨lo,hi,I9,u,rfl,zA G8,?_,?_⟩
 ·exact SpAt.put5 (B7) q0 q1 q2 q3 q4 _ _ _ _ _
 ·exact jV hB (by omega) _ _ _ _ _
theorem lrare_iv (w:World) (p q last n d:Int) (b:Nat) (hr:rok p q) (hp:0<p) (I8:p<=100*q) (hl:0<=last) (M8:last<=1000000000) (od:n/d=last) (E8:40<=b) (hb:b<=400) :
  Calls Tryz.prog 138 #[.agg #[.int .i64 p,.int .i64 q],.int .i64 last,.int .i64 b] w (BlA (raX p q n d) w b):=by
 have vJ:¬ last<0:=by omega
 go_enter Tryz.func138,Tryz.ntmps138
 go_wp2_with fail;refine (rareW_iv _ p q last n d b hr hp I8 hl M8 od E8 hb).mono ?_;rintro zz w1 ⟨lo,hi,I9,u,rfl,B8,B7,b9⟩;have R:NoC w1 (w.heap.size+1):=NoC.bw ⟨by simp[go_sem],by simp[go_sem],by simp[go_sem],by simp[go_sem],by simp[go_sem],λ o=>by simp[go_sem]⟩ b9
 have hB:Below w.heap.size w w1:=zB (bl2 _ _ _ ) b9;obtain⟨q0,q1,q2,q3,q4,q5⟩:=R;have G8:=zC B8;clear B8 b9;go_wp2_with fail;refine bodyPost_ret (v:=.agg u.q) (by simp[results,Tryz.results138,go_sem,q0,q1,q2,q3,q4]) rfl ⟨lo,hi,I9,u,rfl,zA G8,?_,?_⟩
 ·exact SpAt.put5 (B7) q0 q1 q2 q3 q4 _ _ _ _ _
 ·exact jV hB (by omega) _ _ _ _ _
end Go.Proofs.YtgmnknmjainabacGreat
