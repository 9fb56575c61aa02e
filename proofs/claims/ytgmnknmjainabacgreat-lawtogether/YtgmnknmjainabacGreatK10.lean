/-
  Its own texts.
-/
import Derived.Test.YtgmnknmjainabacGreatK09
set_option maxRecDepth 100000
set_option maxHeartbeats 40000000
set_option linter.unusedVariables false
namespace Go.Proofs.YtgmnknmjainabacGreat
open Ex
def ch:Nat->Nat->Nat
 | _,0=>1
 | 0,_+1=>0
 | n+1,k+1=>ch n k+ch n (k+1)
theorem zDZ (n:Nat):ch n 0=1:=by cases n<;>rfl
theorem zC7 (n k:Nat):ch (n+1) (k+1)=ch n k+ch n (k+1):=rfl
theorem zM4 {n k : Nat} (h : n < k) : ch n k = 0 := by
  induction n generalizing k with
  | zero => obtain ⟨j, rfl⟩ : ∃ j, k = j + 1 := ⟨k - 1, by omega⟩
            rfl
  | succ n ih =>
    obtain ⟨j, rfl⟩ : ∃ j, k = j + 1 := ⟨k - 1, by omega⟩
    rw [zC7, ih (by omega), ih (by omega)]
theorem ch_up (n k:Nat):(k+1)*ch (n+1) (k+1)=(n+1)*ch n k:=by
 induction n generalizing k with
 | zero =>
  rw[zC7]
  cases k with
  | zero=>rfl
  | succ k=>rw[zM4 (show 0<k+1 by omega),zM4 (show 0<k+1+1 by omega)];omega
 | succ n ih =>
  cases k with
  | zero =>
   have h:=ih 0;rw[zDZ] at h;rw[zC7 (n+1) 0,zDZ];omega
  | succ k =>
   have h1:=ih k;have h2:=ih (k+1);have e:=zC7 n k;rw[zC7 (n+1) (k+1)];generalize ch (n+1) (k+1)=X at *;generalize ch (n+1) (k+1+1)=Y at *;generalize ch n k=u at *;generalize ch n (k+1)=v at *;subst e;grind
theorem wayF_ch (b:Int) (o i:Nat):wayF b (o:Int) i=b*(ch (o+i) i:Int):=by
 induction i with
 | zero=>rw[zDZ];show b=b*1;omega
 | succ i ih =>
  have h:=ch_up (o+i) i;have e:wayF b (o:Int) (i+1)=wayF b (o:Int) i*((o:Int)+((i:Int)+1))/((i:Int)+1):=rfl;rw[e,ih];have h2:(((i+1)*ch (o+i+1) (i+1):Nat):Int)=(((o+i+1)*ch (o+i) i:Nat):Int):=by rw[h]
  rw[Int.natCast_mul,Int.natCast_mul] at h2;rw[show o+(i+1)=o+i+1 by omega]
  have e2:b*(ch (o+i) i:Int)*((o:Int)+((i:Int)+1))=b*(ch (o+i+1) (i+1):Int)*((i:Int)+1):=by
   have c1:((i+1:Nat):Int)=(i:Int)+1:=rfl;have c2:((o+i+1:Nat):Int)=(o:Int)+(i:Int)+1:=rfl;rw[c1,c2] at h2;grind
  rw[e2,Int.mul_ediv_cancel _ (by omega)]
def zBD:Nat->Int
 | 0=>1
 | k+1=>zBD k*((k:Int)+1)
theorem zCR (k:Nat):0<zBD k:=by
 induction k with
 | zero=>show (0:Int)<1;omega
 | succ k ih=>exact Int.mul_pos ih (by omega)
theorem ch_le (p q A:Nat):∀ n,n<=A->ch A n*p ^ n*q ^ (A-n)<=(p+q) ^ A:=by
 induction A with
 | zero =>
  intro n hn
  have:n=0:=by omega
  subst this;exact Yy _
 | succ A ih =>
  intro n hn
  cases n with
  | zero =>
   rw[zDZ,Nat.one_mul,Nat.pow_zero,Nat.one_mul];exact Nat.pow_le_pow_left (by omega) _
  | succ n =>
   have i1:=ih n (by omega)
   rw[zC7,show A+1-(n+1)=A-n by omega,Nat.pow_succ (m:=A)]
   have e1:(ch A n+ch A (n+1))*p ^ (n+1)*q ^ (A-n)=ch A n*p ^ n*q ^ (A-n)*p+ch A (n+1)*p ^ (n+1)*q ^ (A-n):=by
    rw[Nat.pow_succ];grind
   rw[e1,Nat.mul_add];refine Nat.add_le_add (Nat.mul_le_mul_right p i1) ?_
   by_cases hA:n+1<=A
   ·have i2:=ih (n+1) hA
    have e2:q ^ (A-n)=q ^ (A-(n+1))*q:=by rw[<- Nat.pow_succ];congr 1;omega
    rw[e2,<- Nat.mul_assoc];exact Nat.mul_le_mul_right q i2
   ·rw[zM4 (show A<n+1 by omega),Nat.zero_mul,Nat.zero_mul];exact Nat.zero_le _
namespace Ex
theorem lin_le {L y c d a t:Rat} (h1:L*c<=a) (h2:L*d<=a) (g1:c-t<=y) (g2:y<=d+t) (k:Rat) (k1:L<=k) (k2 : -L<=k) (ht:0<=t):L*y<=a+k*t:=by
 by_cases hL:0<=L
 ·have:=Ys hL (show 0<=d+t-y by grind)
  have:=Ys (show 0<=k-L by grind) ht
  grind
 ·have:=Ys (show 0 <= -L by grind) (show 0<=y-(c-t) by grind)
  have:=Ys (show 0<=k+L by grind) ht
  grind
theorem Has.div {a b c d L U:Rat} {x y:Nat->Rat} (h:Has a b x) (k:Has c d y) (hc:0<c) (h1:L*c<=a) (h2:L*d<=a) (h3:b<=U*c) (h4:b<=U*d):Has L U (λ M=>x M/y M):=λ e he=>by
 obtain⟨m,m0,m1,m2,m3,m4⟩:∃ m:Rat,0<m/\L<=m /\ -L<=m/\U<=m /\ -U<=m:=by
  refine⟨1+(if 0<=L then L else -L)+(if 0<=U then U else -U),?_,?_,?_,?_,?_⟩<;>split<;>split<;>grind
 have m5:(0:Rat)<2*(1+m):=by grind
 have hec:0<e*c:=Rat.mul_pos he hc
 obtain⟨t,t0,t1,t2⟩:∃ t:Rat,0<t/\2*t<=c/\t*(2*(1+m))<=e*c:=by
  have f:=rdm (a:=e*c) m5;have f0:=zF hec m5
  by_cases hh:e*c/(2*(1+m))<=c/2
  ·exact⟨e*c/(2*(1+m)),f0,by grind,by grind⟩
  ·refine⟨c/2,by grind,by grind,?_⟩
   have:=Ys (show 0<=e*c/(2*(1+m))-c/2 by grind) (show 0<=2*(1+m) by grind)
   grind
 obtain⟨N1,g1⟩:=h t t0;obtain⟨N2,g2⟩:=k t t0;refine⟨N1+N2,λ M hM=>?_⟩
 obtain⟨p1,p2⟩:=g1 M (by omega)
 obtain⟨q1,q2⟩:=g2 M (by omega)
 have y0:0<y M:=by grind
 have ey:e*c<=2*(e*y M):=by
  have:=Ys (Yw he) (show 0<=2*y M-c by grind)
  grind
 constructor
 ·refine jS y0 ?_
  have:=lin_le h1 h2 q1 q2 m m1 m2 (Yw t0);grind
 ·refine jR y0 ?_
  have:=lin_le (L := -U) (a := -b) (by grind) (by grind) q1 q2 m (by grind) (by grind) (Yw t0)
  grind
end Ex
theorem Iv.div {B:Nat} {s t:Int × Int} {x y:Nat->Rat} (h:Iv B s x) (k:Iv B t y) (h0:0<t.1) {lo hi:Int} (h1:lo*t.1<=s.1*Q B) (h2:lo*t.2<=s.1*Q B) (h3:s.2*Q B<=hi*t.1) (h4:s.2*Q B<=hi*t.2):Iv B (lo,hi) (λ M=>x M/y M):=by
 have q:=jJ B;have t0:(0:Rat)<(t.1:Rat):=by exact_mod_cast h0
 have key:∀ {u v z:Int},u*v<=z*Q B->(u:Rat)/(Q B:Rat)*((v:Rat)/(Q B:Rat))<=(z:Rat)/(Q B:Rat):=λ {u v z} hh=>zKB (by have:=zE B;omega) hh
 have DE:∀ {u v z:Int},z*Q B<=u*v->(z:Rat)/(Q B:Rat)<=(u:Rat)/(Q B:Rat)*((v:Rat)/(Q B:Rat)):=λ {u v z} hh=>zKD (by have:=zE B;omega) hh
 exact Has.div h k (zF t0 q) (key h1) (key h2) (DE h3) (DE h4)
theorem zJU {lo hi lo' hi':Int} {b:Nat} (h0:0<=lo) (h1:lo<=hi) (h2:0<lo') (h3:lo'<=hi'):zDW lo hi lo' hi' b=lo*Q b/hi'/\zEV lo hi lo' hi' b = -(-(hi*Q b)/lo'):=by
 have q:=zE b;have p1:=Yz h0 (show 0<=Q b by omega)
 have p2:=Yz (show 0<=hi by omega) (show 0<=Q b by omega)
 unfold zDW zEV ovLo ovHi;rw[if_neg (by omega),if_neg (by omega),if_neg (by omega),if_neg (by omega)]
 exact⟨rfl,rfl⟩
theorem zEW (a:Int) {d:Int} (hd:0<d):a <= -(-a/d)*d:=by
 have:=Int.ediv_mul_le (-a) (show d≠0 by omega)
 rw[Int.neg_mul];omega
theorem dv_floor (a:Int) {d:Int} (hd:0<d):a/d*d<=a:=Int.ediv_mul_le a (by omega)
theorem Iv.dv {B:Nat} {s t:Int × Int} {x y:Nat->Rat} (h:Iv B s x) (k:Iv B t y) (hs:0<=s.1) (h0:0<t.1):Iv B (zDW s.1 s.2 t.1 t.2 B,zEV s.1 s.2 t.1 t.2 B) (λ M=>x M/y M):=by
 have X7:=h.le;have gH:=k.le;have q:=zE B;obtain⟨e1,e2⟩:=zJU (b:=B) hs X7 h0 gH;rw[e1,e2];have p1:=Yz hs (show 0<=Q B by omega)
 have l0:0<=s.1*Q B/t.2:=Int.ediv_nonneg p1 (by omega)
 have f1:=dv_floor (s.1*Q B) (show 0<t.2 by omega)
 have f2:=zEW (s.2*Q B) h0;have p2:=Yz (show 0<=s.2 by omega) (show 0<=Q B by omega)
 have u0:0 <= -(-(s.2*Q B)/t.1):=by
  have : -(s.2*Q B)/t.1<=0:=Int.ediv_nonpos_of_nonpos_of_neg (by omega) h0
  omega
 have g1:=Yx gH l0;have g2:=Yx gH u0;exact h.div k h0 (by omega) f1 f2 (by omega)
open Ex
theorem zGM {B:Nat} {a b:Int × Int} (ha:0<=a.1) (QQ:0<=a.2) (hb:0<=b.1) (j8:0<=b.2):0<=(zAJ B a b).1:=by
 have q:=zE B;obtain⟨_,_,_,_,h⟩:=zED (a.1*b.1) (a.1*b.2) (a.2*b.1) (a.2*b.2);have p1:=Yz ha hb;have p2:=Yz ha j8;have p3:=Yz QQ hb;have p4:=Yz QQ j8;exact Int.ediv_nonneg (by omega) (by omega)
theorem zLV {B:Nat} {sm:Int × Int} (h:0<=sm.1) (h2:sm.1<=sm.2) (n:Nat):0<=(zU B sm n).1:=by
 induction n with
 | zero=>have:=zE B;show 0<=Q B;omega
 | succ n ih =>
  have hl:=zAG B sm n;have h3:=zGM (B:=B) (a:=zU B sm n) (b:=sm) ih (by omega) h (by omega)
  show 0<=(zK (zAJ B (zU B sm n) sm) 1 ((n:Int)+1)).1
  unfold zK;exact Int.ediv_nonneg (by omega) (by omega)
theorem sumI_low {B:Nat} {sm:Int × Int} (h:0<=sm.1) (h2:sm.1<=sm.2) (n:Nat):Q B<=(jE (zU B sm) n).1:=by
 induction n with
 | zero=>exact Int.le_refl _
 | succ n ih =>
  have:=zLV (B:=B) h h2 (n+1)
  show Q B<=(zAR (jE (zU B sm) n) (zU B sm (n+1))).1
  unfold zAR;simp only[];omega
theorem zM6 {B N:Nat} {sm:Int × Int} (h:0<=sm.1) (h2:sm.1<=sm.2) (hN:zT (zU B sm) N):Q B-1<=(zN (zU B sm) N).1:=by
 have h3:=sumI_low (B:=B) h h2 N;have h4:=hN.1;unfold zN zAR;simp only[];omega
theorem zOF {B:Nat} {d:Int × Int} (hd:d.1<=d.2) (t:Nat) (hq:Q t<=Q B) (h:Q B-1<=d.1):Q B-Q t<=(sqI B d t).1/\(sqI B d t).1<=(sqI B d t).2:=by
 have q:=zE B
 induction t with
 | zero=>exact⟨h,hd⟩
 | succ t ih =>
  have e:Q (t+1)=2*Q t:=rfl;have qt:=zE t;obtain⟨i1,i2⟩:=ih (by omega)
  refine⟨?_,zB4 B⟩
  show Q B-Q (t+1)<=(zAJ B (sqI B d t) (sqI B d t)).1
  generalize sqI B d t=a at *;obtain⟨_,_,_,_,hh⟩:=zED (a.1*a.1) (a.1*a.2) (a.2*a.1) (a.2*a.2);have c0:0<=a.1:=by omega
  have m1:=Yx i2 c0;have m2:=Yt i2 c0;have m3:=Int.mul_le_mul i2 i2 c0 (by omega)
  have m4:=Int.mul_le_mul i1 i1 (by omega) c0
  have e2:(Q B-Q t)*(Q B-Q t)=(Q B-2*Q t)*Q B+Q t*Q t:=by grind
  have m5:=Yz (show 0<=Q t by omega) (show 0<=Q t by omega)
  have m6:(Q B-Q (t+1))*Q B<=kK (pr4 (a.1*a.1) (a.1*a.2) (a.2*a.1) (a.2*a.2)) 3:=by rw[e];omega
  exact Int.le_ediv_of_mul_le (by omega) m6
theorem zLW {B N t:Nat} {a:Int × Int} (ha:0<=a.1) (hl:a.1<=a.2) (ht:t<=17) (hB:40<=B) (hN:zT (zU B (zG a t)) N):Q B+1<=2*(sqI B (zN (zU B (zG a t)) N) t).1:=by
 have q:=zE t;have hs:0<=(zG a t).1:=Int.ediv_nonneg ha (by omega)
 have X8:(zG a t).1<=(zG a t).2:=by
  have:=kN (a:=a) (n:=1) (d:=Q t) hl (by omega) (by omega)
  simpa [zK,zG] using this
 have h1:=zM6 hs X8 hN;have h2:=zOF (B:=B) (zCP (zAG B (zG a t)) N) t (zJ (by omega)) h1
 have h3:=zJ (show t<=17 by omega)
 have h4:=zJ (show 40<=B by omega)
 have e1:Q 17=131072:=rfl;have e2:Q 40=1099511627776:=rfl;omega
theorem dv_wide {s1 s2 t1 t2 q W:Int} (hq:0<q) (h0:0<=s1) (h1:s2-s1<=1) (h2:s1<=t2) (h3:t1<=t2) (h4:t2-t1<=W) (h5:q+1<=2*t1) : -(-(s2*q)/t1)-s1*q/t2<=2*W+6:=by
 obtain⟨hi,ehi⟩:∃ hi,hi = -(-(s2*q)/t1):=⟨_,rfl⟩;obtain⟨lo,elo⟩:∃ lo,lo=s1*q/t2:=⟨_,rfl⟩;rw[<- ehi,<- elo];have t0:0<t1:=by omega
 have c1:(hi-1)*t1<s2*q:=by
  have:=Int.lt_ediv_add_one_mul_self (-(s2*q)) t0;have e:(hi-1)*t1 = -((-(s2*q)/t1+1)*t1):=by rw[ehi];grind
  omega
 have c2:s1*q<(lo+1)*t2:=by rw[elo];exact Int.lt_ediv_add_one_mul_self _ (by omega)
 have c3:lo<=q:=by
  rw[elo];refine Int.ediv_le_of_le_mul (by omega) ?_
  have:=Yt h2 (show 0<=q by omega)
  rw[Int.mul_comm q];omega
 have c4:0<=lo:=by rw[elo];exact Int.ediv_nonneg (Yz h0 (by omega)) (by omega)
 refine Int.not_lt.1 λ hn=>?_
 have W0:0<=W:=by omega
 have d1:=Yt (show (lo+1)+(2*W+5)<=hi-1 by omega) (show 0<=t1 by omega)
 have d2:=Yx h4 (show 0<=lo+1 by omega)
 have d3:=Yt (show lo+1<=2*t1 by omega) W0
 have d4:=Yt h1 (show 0<=q by omega)
 have e1:(lo+1+(2*W+5))*t1=(lo+1)*t2-(lo+1)*(t2-t1)+2*t1*W+5*t1:=by grind
 have e2:(s2-s1)*q=s2*q-s1*q:=by grind
 omega
theorem zHH (B:Nat):Iv B (Q B,Q B) (λ _=>1):=by
 have h:=(Iv.of B (n:=1) (d:=1) (by decide))
 have e:ofI 1 1 B=(Q B,Q B):=by unfold ofI;simp only[Int.ediv_one,Int.neg_neg,Int.one_mul]
 rw[e] at h;have e2:((1:Int):Rat)/((1:Int):Rat)=1:=by decide +kernel
 rw[e2] at h;exact h
theorem Iv.cap {B:Nat} {a:Int × Int} {x:Nat->Rat} (h:Iv B a x) (N0:Nat) (hx:∀ M,N0<=M->x M<=1):Iv B (a.1,if a.2<=Q B then a.2 else Q B) x:=by
 split
 ·exact h
 ·intro e he
  obtain⟨N,hN⟩:=h e he;refine⟨N+N0,λ M hM=>?_⟩
  have g:=(hN M (by omega)).1
  have g2:=hx M (by omega)
  have q:=jJ B;have e1:(Q B:Rat)/(Q B:Rat)=1:=by rw[YE,Rat.mul_inv_cancel _ (by grind)]
  simp only[];rw[e1];constructor<;>grind
namespace Ex
theorem zQD {x:Rat} (hx:0<=x) (n:Nat):∀ M,n<M->tm x n<=E x M/\0<E x M:=by
 intro M hM
 obtain⟨j,rfl⟩:∃ j,M=n+1+j:=⟨M-(n+1),by omega⟩
 have nn:∀ m,0<=E x m:=λ m=>by
  induction m with
  | zero=>exact Rat.le_refl
  | succ m ih =>
   have e:E x (m+1)=E x m+tm x m:=rfl;have:=zA1 hx m;rw[e];grind
 have one:∀ m,1<=E x (m+1):=λ m=>by
  induction m with
  | zero =>
   have e:E x (0+1)=E x 0+tm x 0:=rfl;have e0:E x 0=0:=rfl;have e1:tm x 0=1:=rfl;rw[e,e0,e1];decide +kernel
  | succ m ih =>
   have e:E x (m+1+1)=E x (m+1)+tm x (m+1):=rfl;have:=zA1 hx (m+1);rw[e];grind
 constructor
 ·induction j with
  | zero =>
   have e:E x (n+1+0)=E x n+tm x n:=rfl;have:=nn n;rw[e];grind
  | succ j ih =>
   have e:E x (n+1+(j+1))=E x (n+1+j)+tm x (n+1+j):=rfl;have:=zA1 hx (n+1+j);have:=ih (by omega)
   rw[e];grind
 ·have:=one (n+j)
  rw[show n+1+j=n+j+1 by omega];grind
end Ex
theorem zMI {p q:Int} (hq:0<q) (n:Nat):tm ((p:Rat)/(q:Rat)) n=((p ^ n:Int):Rat)/((q ^ n*zBD n:Int):Rat):=by
 have q0:(0:Rat)<(q:Rat):=by exact_mod_cast hq
 induction n with
 | zero =>
  have e:tm ((p:Rat)/(q:Rat)) 0=1:=rfl;have e2:zBD 0=1:=rfl;rw[e,e2,Int.pow_zero,Int.pow_zero];decide +kernel
 | succ n ih =>
  have e:tm ((p:Rat)/(q:Rat)) (n+1)=tm ((p:Rat)/(q:Rat)) n*((p:Rat)/(q:Rat))/((n:Rat)+1):=rfl;have e2:zBD (n+1)=zBD n*((n:Int)+1):=rfl;have k1:(0:Int)<q ^ n*zBD n:=Int.mul_pos (Int.pow_pos hq) (zCR n);have k2:(0:Int)<q ^ (n+1)*zBD (n+1):=Int.mul_pos (Int.pow_pos hq) (zCR (n+1));have r1:(0:Rat)<((q ^ n*zBD n:Int):Rat):=by exact_mod_cast k1
  have r2:(0:Rat)<((q ^ (n+1)*zBD (n+1):Int):Rat):=by exact_mod_cast k2
  have r3:=zA0 n;rw[e,ih];have f1:=rdm (a:=((p ^ n:Int):Rat)) r1;have f2:=rdm (a:=(p:Rat)) q0;have f3:=rdm (a:=((p ^ (n+1):Int):Rat)) r2;have c1:((p ^ (n+1):Int):Rat)=((p ^ n:Int):Rat)*(p:Rat):=by rw[Int.pow_succ,YA]
  have c2:((q ^ (n+1)*zBD (n+1):Int):Rat)=((q ^ n*zBD n:Int):Rat)*(q:Rat)*((n:Rat)+1):=by
   rw[e2,Int.pow_succ,show q ^ n*q*(zBD n*((n:Int)+1))=q ^ n*zBD n*q*((n:Int)+1) by grind,YA,YA,Rat.intCast_add]
   rfl
  generalize ((p ^ n:Int):Rat)/((q ^ n*zBD n:Int):Rat)=u at *;generalize (p:Rat)/(q:Rat)=v at *;have f4:=rdm (a:=u*v) r3;generalize u*v/((n:Rat)+1)=z at *;generalize ((p ^ (n+1):Int):Rat)/((q ^ (n+1)*zBD (n+1):Int):Rat)=y at *;rw[c2] at f3 r2;rw[c1] at f3;have:(z-y)*(((q ^ n*zBD n:Int):Rat)*(q:Rat)*((n:Rat)+1))=0:=by grind
  rcases Rat.mul_eq_zero.1 this with h|h<;>grind
def zCY (p q:Int) (n:Nat) (M:Nat):Rat:=((p ^ n:Int):Rat)/((q ^ n*zBD n:Int):Rat)/Ev (λ _=>(p:Rat)/(q:Rat)) M
theorem zAM {p q:Int} (hp:0<=p) (hq:0<q):(0:Rat)<=(p:Rat)/(q:Rat):=by
 have q0:(0:Rat)<(q:Rat):=by exact_mod_cast hq
 have p0:(0:Rat)<=(p:Rat):=by exact_mod_cast hp
 refine jS q0 ?_;grind
theorem zN8 {p q:Int} (hp:0<=p) (hq:0<q) (n M:Nat) (hM:n<M):0<=zCY p q n M/\zCY p q n M<=1:=by
 have h0:=zAM hp hq;obtain⟨h1,h2⟩:=zQD h0 n M hM;rw[zMI hq] at h1;have h3:=zAM (p:=p ^ n) (q:=q ^ n*zBD n) (Int.pow_nonneg hp) (Int.mul_pos (Int.pow_pos hq) (zCR n));unfold zCY Ev;constructor
 ·refine jS h2 ?_
  grind
 ·refine jR h2 ?_
  grind
open Ex
def riT (a:Int × Int) (u d:Nat->Int):Nat->Int × Int
 | 0=>a
 | n+1=>zK (riT a u d n) (u (n+1)) (d (n+1))
def yS (f:Nat->Int × Int) (turn N:Nat):Prop:=turn<=N/\(f N).2<=3/\∀ j,j<N->j<turn\/3<(f j).2
def kY (f:Nat->Int × Int) (N:Nat):Int × Int:=zAR (jE f N) (0,9)
structure zQM (u d:Nat->Int):Prop where
 u0:∀ n,0<=u n
 d0:∀ n,0<d n
theorem zEK {a:Int × Int} {u d:Nat->Int} (h:zQM u d) (ha:a.1<=a.2) (n:Nat):(riT a u d n).1<=(riT a u d n).2:=by
 induction n with
 | zero=>exact ha
 | succ n ih=>exact kN ih (h.d0 _) (h.u0 _)
theorem zAO {a:Int × Int} {u d:Nat->Int} (h:zQM u d) (ha:0<=a.1) (n:Nat):0<=(riT a u d n).1:=by
 induction n with
 | zero=>exact ha
 | succ n ih=>exact Int.ediv_nonneg (Yz ih (h.u0 _)) (by have:=h.d0 (n+1);omega)
theorem kW (a:Int) {d:Int} (hd:0<d):a<(a/d+1)*d:=Int.lt_ediv_add_one_mul_self _ hd
theorem zNB {x u d:Int} (hd:0<d) (hx:0<=x) (h:4*u<=3*d):4 * -(-(x*u)/d)<=3*x+3:=by
 have h1:=Yx h hx;have h2:=kW (-(x*u)) hd;refine Int.not_lt.1 λ hn=>?_
 obtain⟨c,hc⟩:∃ c,c = -(-(x*u)/d):=⟨_,rfl⟩
 have h3:(c-1)*d<x*u:=by
  have e:(-(x*u)/d+1)*d = -((c-1)*d):=by rw[hc];grind
  omega
 rw[<- hc] at hn;have h4:=Yt (show 3*x+4<=4*c by omega) (show 0<=d by omega)
 have e1:(3*x+4)*d=3*x*d+4*d:=by grind
 have e2:4*c*d=4*((c-1)*d)+4*d:=by grind
 have e3:x*(4*u)=4*(x*u):=by grind
 have e4:x*(3*d)=3*x*d:=by grind
 omega
theorem zPY {g:Nat->Int} (h:∀ j,4*g (j+1)<=3*g j+3):∀ (H j:Nat),g j-3<Q H->∃ i,i<=j+3*H/\j<=i/\g i<=3:=by
 intro H
 induction H with
 | zero =>
  intro j hj
  have e:Q 0=1:=rfl;exact⟨j,by omega,Yy _,by omega⟩
 | succ H ih =>
  intro j hj
  have e:Q (H+1)=2*Q H:=rfl;have q:=zE H;have h1:=h j;have h2:=h (j+1);have h3:=h (j+2);obtain⟨i,i1,i2,i3⟩:=ih (j+3) (by rw[show j+3=j+2+1 by omega];rw[show j+2=j+1+1 by omega] at *;omega)
  exact⟨i,by omega,by omega,i3⟩
theorem zMD {a:Int × Int} {u d:Nat->Int} {turn H:Nat} (h:zQM u d) (ha:0<=a.1) (hl:a.1<=a.2) (iM:∀ n,turn<=n->4*u (n+1)<=3*d (n+1)) (hH:(riT a u d turn).2-3<Q H):∃ N,N<=turn+3*H/\yS (riT a u d) turn N:=by
 have hg:∀ j,4*(riT a u d (turn+(j+1))).2<=3*(riT a u d (turn+j)).2+3:=λ j=>by
  have h0:=zAO h ha (turn+j);have h1:=zEK h hl (turn+j);exact zNB (x:=(riT a u d (turn+j)).2) (h.d0 (turn+j+1)) (by omega) (iM (turn+j) (by omega))
 obtain⟨i,i1,i2,i3⟩:=zPY hg H 0 hH;obtain⟨N,n1,n2,n3⟩:=zBU (p:=λ N=>turn<=N/\(riT a u d N).2<=3) (K:=turn+i) ⟨by omega,i3⟩
 refine⟨N,by omega,n2.1,n2.2,λ j hj=>?_⟩
 have:=n3 j hj
 by_cases ht:j<turn
 ·exact Or.inl ht
 ·exact Or.inr (Int.not_le.1 λ hh=>this ⟨by omega,hh⟩)
def riV (x:Nat->Rat) (u d:Nat->Int):Nat->Nat->Rat
 | 0,M=>x M
 | n+1,M=>(u (n+1):Rat)/(d (n+1):Rat)*riV x u d n M
theorem riT_has {B:Nat} {a:Int × Int} {x:Nat->Rat} {u d:Nat->Int} (h:zQM u d) (hx:Iv B a x) (n:Nat):Iv B (riT a u d n) (λ M=>riV x u d n M):=by
 induction n with
 | zero=>exact hx
 | succ n ih=>exact ih.scale (h.u0 _) (h.d0 _)
theorem zHK {x:Nat->Rat} {u d:Nat->Int} (h:zQM u d) {M:Nat} (hx:0<=x M) (n:Nat):0<=riV x u d n M:=by
 induction n with
 | zero=>exact hx
 | succ n ih =>
  have h1:=zAM (h.u0 (n+1)) (h.d0 (n+1));exact Ys h1 ih
theorem riV_fall {x:Nat->Rat} {u d:Nat->Int} (h:zQM u d) {M:Nat} (hx:0<=x M) {n:Nat} (iM:4*u (n+1)<=3*d (n+1)):4*riV x u d (n+1) M<=3*riV x u d n M:=by
 have h0:=zHK h hx n;have d0:(0:Rat)<(d (n+1):Rat):=by exact_mod_cast h.d0 (n+1)
 have h1:(u (n+1):Rat)/(d (n+1):Rat)<=3/4:=by
  refine jR d0 ?_;have:=jA iM;rw[YA,YA,show ((4:Int):Rat)=4 from rfl,show ((3:Int):Rat)=3 from rfl] at this
  grind
 have h2:=Ys (show 0<=3/4-(u (n+1):Rat)/(d (n+1):Rat) by grind) h0
 show 4*((u (n+1):Rat)/(d (n+1):Rat)*riV x u d n M)<=_
 grind
theorem rise_has {B N:Nat} {f:Nat->Int × Int} {g:Nat->Nat->Rat} (h:∀ n,Iv B (f n) (λ M=>g n M)) (hN:(f N).2<=3) (M0:Nat) (h0:∀ M,M0<=M->∀ n,0<=g n M) (hh:∀ M,M0<=M->∀ n,N<=n->4*g (n+1) M<=3*g n M):Iv B (kY f N) (λ M=>S (λ k=>g k M) M):=by
 have hs:∀ n,Iv B (jE f n) (λ M=>S (λ k=>g k M) (n+1)):=λ n=>by
  induction n with
  | zero =>
   refine (h 0).congr (null_zero.of_eq λ M=>?_)
   show S (λ k=>g k M) 1-g 0 M=0
   have e:S (λ k=>g k M) 1=0+g 0 M:=rfl
   rw[e];grind
  | succ n ih=>exact ih.add (h (n+1))
 have ht:∀ M,M0<=M->∀ i,0<=S (λ k=>g k M) (N+1+i)-S (λ k=>g k M) (N+1)/\S (λ k=>g k M) (N+1+i)-S (λ k=>g k M) (N+1)+3*g (N+i) M<=3*g N M:=λ M hM i=>by
  induction i with
  | zero=>constructor<;>(show _<=_;simp only[Nat.add_zero];grind)
  | succ i ih =>
   have e:S (λ k=>g k M) (N+1+(i+1))=S (λ k=>g k M) (N+1+i)+g (N+1+i) M:=rfl
   have h1:=h0 M hM (N+1+i);have h2:=hh M hM (N+i) (by omega)
   rw[show N+i+1=N+1+i by omega] at h2
   rw[e,show N+(i+1)=N+1+i by omega]
   constructor<;>grind
 have q:=jJ B
 intro e he
 obtain⟨N1,g1⟩:=hs N (e/4) (by grind)
 obtain⟨N2,g2⟩:=h N (e/4) (by grind)
 refine⟨M0+N1+N2+N+1,λ M hM=>?_⟩
 obtain⟨a1,a2⟩:=g1 M (by omega)
 obtain⟨b1,b2⟩:=g2 M (by omega)
 obtain⟨t1,t2⟩:=ht M (by omega) (M-(N+1))
 have t3:=h0 M (by omega) (N+(M-(N+1)))
 rw[show N+1+(M-(N+1))=M by omega] at t1 t2
 have c2:((f N).2:Rat)/(Q B:Rat)<=((3:Int):Rat)/(Q B:Rat):=jR q (by rw[rdm q];exact jA hN)
 have e1:(((kY f N).1:Int):Rat)/(Q B:Rat)=((jE f N).1:Rat)/(Q B:Rat):=by
  unfold kY zAR;simp only[];rw[Int.add_zero]
 have e2:(((kY f N).2:Int):Rat)/(Q B:Rat)=((jE f N).2:Rat)/(Q B:Rat)+3*(((3:Int):Rat)/(Q B:Rat)):=by
  unfold kY zAR;simp only[];rw[Rat.intCast_add,zBY]
  congr 1
  have e9:((9:Int):Rat)=3*((3:Int):Rat):=by decide +kernel
  rw[e9,YE,YE,Rat.mul_assoc]
 simp only[] at a1 a2 b1 b2;rw[e1,e2];constructor<;>grind
def riS (x:Nat->Rat) (u d:Nat->Int) (M:Nat):Rat:=S (λ k=>riV x u d k M) M
theorem zCG {B N turn:Nat} {a:Int × Int} {x:Nat->Rat} {u d:Nat->Int} (h:zQM u d) (hx:Iv B a x) (M0:Nat) (mR:∀ M,M0<=M->0<=x M) (iM:∀ n,turn<=n->4*u (n+1)<=3*d (n+1)) (hN:yS (riT a u d) turn N):Iv B (kY (riT a u d) N) (riS x u d) :=
 rise_has (λ n=>riT_has h hx n) hN.2.1 M0 (λ M hM n=>zHK h (mR M hM) n) (λ M hM n hn=>riV_fall h (mR M hM) (iM n (Nat.le_trans hN.1 hn)))
theorem zN9 {a:Int × Int} {u d:Nat->Int} (h:zQM u d) (ha:0<=a.1) (hl:a.1<=a.2) (h0:0<a.2) {D:Int} (hD:a.2-a.1<=D) (hmono:∀ n,d (n+1)<=u (n+1)->a.2<=(riT a u d n).2) (n:Nat) :
  ((riT a u d n).2-(riT a u d n).1)*a.2<=(D+2*n)*(if a.2<=(riT a u d n).2 then (riT a u d n).2 else a.2):=by
 have D0:0<=D:=by omega
 induction n with
 | zero =>
  show (a.2-a.1)*a.2<=(D+2*((0:Nat):Int))*(if a.2<=a.2 then a.2 else a.2)
  rw[if_pos (Int.le_refl _)];exact Yt (by omega) (by omega)
 | succ n ih =>
  have hd:=h.d0 (n+1);have hu:=h.u0 (n+1);have n1:=zAO h ha n;have n2:=zEK h hl n;have wN:=hmono n
  show ((zK (riT a u d n) (u (n+1)) (d (n+1))).2-(zK (riT a u d n) (u (n+1)) (d (n+1))).1)*a.2<=(D+2*((n+1:Nat):Int))*(if a.2<=(zK (riT a u d n) (u (n+1)) (d (n+1))).2 then (zK (riT a u d n) (u (n+1)) (d (n+1))).2 else a.2)
  generalize riT a u d n=t at *;generalize u (n+1)=U at *;generalize d (n+1)=V at *;obtain⟨hi,ehi⟩:∃ hi,hi=(zK t U V).2:=⟨_,rfl⟩;obtain⟨lo,elo⟩:∃ lo,lo=(zK t U V).1:=⟨_,rfl⟩;rw[<- ehi,<- elo];have c1:t.2*U<=hi*V:=by rw[ehi];exact zEW (t.2*U) hd
  have c2:(hi-1)*V<t.2*U:=by
   have h2:=kW (-(t.2*U)) hd;have e:(-(t.2*U)/V+1)*V = -((hi-1)*V):=by rw[ehi];unfold zK;grind
   omega
  have c3:t.1*U<(lo+1)*V:=by rw[elo];exact kW (t.1*U) hd
  have tw:(hi-lo-2)*V<=(t.2-t.1)*U:=by
   have e1:(hi-lo-2)*V=(hi-1)*V-(lo+1)*V:=by grind
   have e2:(t.2-t.1)*U=t.2*U-t.1*U:=by grind
   omega
  have m1:=Yt tw (show 0<=a.2 by omega)
  have m2:=Yt ih hu;have C0:0<=D+2*(n:Int):=by omega
  refine Int.le_of_mul_le_mul_right (a:=V) ?_ hd;have e3:(hi-lo)*a.2*V=(hi-lo-2)*V*a.2+2*a.2*V:=by grind
  have e4:(t.2-t.1)*U*a.2=(t.2-t.1)*a.2*U:=by grind
  have cN:(D+2*((n+1:Nat):Int))=(D+2*(n:Int))+2:=by omega
  rw[cN]
  by_cases ht:a.2<=t.2
  ·rw[if_pos ht] at m2
   have m3:=Yx c1 C0;have e5:(D+2*(n:Int))*t.2*U=(D+2*(n:Int))*(t.2*U):=by grind
   by_cases hh:a.2<=hi
   ·rw[if_pos hh]
    have m4:=Yt hh (show 0<=V by omega)
    have e6:(D+2*(n:Int)+2)*hi*V=(D+2*(n:Int))*(hi*V)+2*(hi*V):=by grind
    have e7:2*a.2*V=2*(a.2*V):=by grind
    omega
   ·rw[if_neg hh]
    have m4:=Yt (show hi<=a.2 by omega) (show 0<=V by omega)
    have m5:=Yx m4 C0;have e6:(D+2*(n:Int)+2)*a.2*V=(D+2*(n:Int))*(a.2*V)+2*(a.2*V):=by grind
    have e7:2*a.2*V=2*(a.2*V):=by grind
    omega
  ·rw[if_neg ht] at m2
   have hUV:U<=V:=by
    refine Int.not_lt.1 λ D9=>?_
    exact ht (wN (by omega))
   have m4:=Yx hUV (show 0<=(D+2*(n:Int))*a.2 from Yz C0 (by omega))
   have aI:a.2<=(if a.2<=hi then hi else a.2):=by split<;>omega
   have m5:=Yx aI (show 0<=D+2*(n:Int)+2 by omega)
   have m6:=Yt m5 (show 0<=V by omega)
   have e6:(D+2*(n:Int)+2)*a.2*V=(D+2*(n:Int))*a.2*V+2*a.2*V:=by grind
   omega
end Go.Proofs.YtgmnknmjainabacGreat
namespace Go.Proofs.YtgmnknmjainabacGreat.Ex
def eT (x:Rat):Nat->Rat
 | 0=>x
 | n+1=>2*(x*x)/(2*((n:Rat)+1)+1)*eT x n
def eD (x:Rat):Nat->Rat
 | 0=>1
 | n+1=>2*x*eT x n
theorem zDD (n:Nat):(0:Rat)<2*((n:Rat)+1)+1:=by have:=zA0 n;grind
theorem zD0 (x:Rat) (n:Nat):(2*((n:Rat)+1)+1)*eT x (n+1)=2*(x*x)*eT x n:=by
 have h:=zDD n
 show (2*((n:Rat)+1)+1)*(2*(x*x)/(2*((n:Rat)+1)+1)*eT x n)=_
 have e:=rdm (a:=2*(x*x)) h;have:(2*((n:Rat)+1)+1)*(2*(x*x)/(2*((n:Rat)+1)+1)*eT x n)=(2*(x*x)/(2*((n:Rat)+1)+1)*(2*((n:Rat)+1)+1))*eT x n:=by grind
 rw[this,e]
theorem zAX {x:Rat} (h:0<=x) (n:Nat):0<=eT x n:=by
 induction n with
 | zero=>exact h
 | succ n ih =>
  have h1:=zDD n;have h2:=zD0 x n;have h3:=Ys (Ys h h) ih;refine Rat.le_of_mul_le_mul_left (c:=2*((n:Rat)+1)+1) ?_ h1;grind
theorem eD_mul (x:Rat) (n:Nat):eD x n*x=(2*(n:Rat)+1)*eT x n:=by
 cases n with
 | zero=>show 1*x=(2*((0:Nat):Rat)+1)*x;grind
 | succ n =>
  have h:=zD0 x n
  show 2*x*eT x n*x=(2*((n+1:Nat):Rat)+1)*eT x (n+1)
  have e:((n+1:Nat):Rat)=(n:Rat)+1:=by push_cast;rfl
  rw[e];grind
theorem zJW {x:Rat} (h:0<=x) (n:Nat):0<=eD x n:=by
 cases n with
 | zero=>show (0:Rat)<=1;grind
 | succ n=>exact Ys (Ys (by grind) h) (zAX h n)
theorem zRR {x h:Rat} (hx:0<=x) (hh:0<=h) (n:Nat):eT x n+h*eD x n<=eT (x+h) n:=by
 induction n with
 | zero=>show x+h*1<=x+h;grind
 | succ n ih =>
  have p:=zDD n;have t0:=zAX hx n;have d0:=zJW hx n;have e1:=zD0 x n;have e2:=zD0 (x+h) n;have e3:=eD_mul x n;have s1:x*x+2*(x*h)<=(x+h)*(x+h):=by have:=Ys hh hh;grind
  have q0:=Ys hx hx;have q1:=Ys hx hh;have y0:0<=(x+h)*(x+h):=by have:=Ys hh hh;grind
  have m1:=Yr ih y0;have u0:0<=eT x n+h*eD x n:=by have:=Ys hh d0;grind
  have m2:=Yv s1 u0;refine Rat.le_of_mul_le_mul_left (c:=2*((n:Rat)+1)+1) ?_ p
  show (2*((n:Rat)+1)+1)*(eT x (n+1)+h*(2*x*eT x n))<=_
  rw[e2];have k1:=Ys q1 (Ys hh d0);have k2:x*x*(h*eD x n)=h*x*((2*(n:Rat)+1)*eT x n):=by rw[<- e3];grind
  have k3:(x*x+2*(x*h))*(eT x n+h*eD x n)=x*x*eT x n+x*x*(h*eD x n)+2*(x*h)*eT x n+2*(x*h*(h*eD x n)):=by grind
  rw[k3,k2] at m2;have k4:(2*((n:Rat)+1)+1)*(eT x (n+1)+h*(2*x*eT x n))=2*(x*x)*eT x n+(2*((n:Rat)+1)+1)*(h*(2*x*eT x n)):=by rw[<- e1];grind
  rw[k4];grind
def eS (x:Rat) (M:Nat):Rat:=S (eT x) M
theorem jQ {x:Rat} (h:0<=x) (M:Nat):0<=eS x M:=by
 induction M with
 | zero=>show (0:Rat)<=0;grind
 | succ n ih=>have:=zAX h n;show 0<=eS x n+eT x n;grind
theorem zRP {x h:Rat} (hx:0<=x) (hh:0<=h) (M:Nat):eS x (M+1)+h*(1+2*x*eS x M)<=eS (x+h) (M+1):=by
 induction M with
 | zero=>show (0+x)+h*(1+2*x*0)<=0+(x+h);grind
 | succ n ih =>
  have g:=zRR hx hh (n+1)
  show eS x (n+1)+eT x (n+1)+h*(1+2*x*(eS x n+eT x n))<=eS (x+h) (n+1)+eT (x+h) (n+1)
  have e:eD x (n+1)=2*x*eT x n:=rfl;rw[e] at g;grind
theorem zRS {x y:Rat} (hx:0<=x) (K6:x<=y) (n:Nat):eT x n<=eT y n:=by
 have h:=zRR hx (show 0<=y-x by grind) n
 have d:=Ys (show 0<=y-x by grind) (zJW hx n)
 rw[show x+(y-x)=y by grind] at h
 grind
theorem zRQ {x y:Rat} (hx:0<=x) (K6:x<=y) (M:Nat):eS x M<=eS y M:=by
 induction M with
 | zero=>show (0:Rat)<=0;grind
 | succ n ih=>have:=zRS hx K6 n;show eS x n+eT x n<=eS y n+eT y n;grind
theorem eT_tm {x:Rat} (hx:0<=x) (n:Nat):eT x n<=x*tm (x*x) n:=by
 induction n with
 | zero=>show x<=x*1;grind
 | succ n ih =>
  have p:=zDD n;have p1:=zA0 n;have e1:=zD0 x n;have e2:=kU (x*x) n;have q:=Ys hx hx;have m:=Yr ih q;have t:=zA1 q (n+1);have xt:=Ys hx t;refine Rat.le_of_mul_le_mul_left (c:=2*((n:Rat)+1)+1) ?_ p;rw[e1];have k:x*((n:Rat)+1)*tm (x*x) (n+1)=x*(x*x*tm (x*x) n):=by rw[<- e2];grind
  grind
theorem zRT {x:Rat} (hx:0<=x):Null (λ M=>eT x M):=by
 obtain⟨K,k0,hK⟩:=zP3 (x*x);refine Null.of_le (f:=λ M=>x*K*((M:Rat)*q4 M)) (zB5 (x*K) (Ys hx k0)) 1 λ M hM=>?_
 have h0:=zAX hx M;have h1:=eT_tm hx M;have h2:=(hK M).2;have h3:=Yr h2 hx;have hm:(1:Rat)<=(M:Rat):=by exact_mod_cast hM
 have h4:=Ys (Ys (Ys hx k0) (Yw (yE M))) (show 0<=(M:Rat)-1 by grind)
 constructor<;>grind
theorem zJX {x:Rat} (hx:0<=x):∃ K,0<=K/\∀ M,eS x M<=K:=by
 obtain⟨K,k0,hK⟩:=zDY (x*x);have q:=Ys hx hx;refine⟨x*K,Ys hx k0,λ M=>?_⟩
 have h1:eS x M<=x*E (x*x) M:=by
  induction M with
  | zero=>show (0:Rat)<=x*0;grind
  | succ n ih =>
   have:=eT_tm hx n
   show eS x n+eT x n<=x*(E (x*x) n+tm (x*x) n)
   grind
 have h2:=(hK M (x*x) ⟨by grind,by grind⟩).2
 have h3:=Yr h2 hx;grind
def eF (x:Rat) (M:Nat):Rat:=eS x M*Ev (λ _ => -(x*x)) M
theorem eF_key {x h Y K s t q:Rat} (hx:0<=x) (hh:0<h) (hY:x+h<=Y) (sx:0<=s) (sK:s<=K) (h1:h<=1) (ht:t=h*(2*x+h)) (t0:0<=t) (t4:t<=1/4) (h3:2*(h*(K*(1+8*((2*Y+1)*(2*Y+1)))))<=1) (q0:1-t-2*(t*t)<=q):s<=(s+h*(1+2*x*s))*q:=by
 have A0:0<=2*Y+1:=by grind
 have tt2:t*t<=1/16:=by have:=Yr t4 t0;grind
 have p0:0<=s+h*(1+2*x*s):=by
  have:=Ys (Yw hh) (show 0<=1+2*x*s by have:=Ys hx sx;grind)
  grind
 have p1:=Yr q0 p0;refine Rat.le_trans ?_ p1;obtain⟨a,ha⟩:∃ a,a=2*x+h:=⟨_,rfl⟩;have a0:0<=a:=by grind
 have aA:a<=2*Y+1:=by grind
 rw[<- ha] at ht
 have r1:(s+h*(1+2*x*s))*(1-t-2*(t*t))-s=h*((1-t-2*(t*t))-h*(s*(1+2*(a*a)+2*x*(a+2*(t*a))))):=by
  rw[ht,ha];grind
 have xa:2*x<=a:=by grind
 have b1:a*a<=(2*Y+1)*(2*Y+1):=Rat.le_trans (Yr aA a0) (Yv aA A0);have b2:2*x*a<=a*a:=Yv xa a0;have b3:2*x*a*t<=a*a*(1/4):=Rat.le_trans (Yv b2 t0) (Yr t4 (Ys a0 a0));have aa:=Ys a0 a0
 have B:1+2*(a*a)+2*x*(a+2*(t*a))<=1+8*((2*Y+1)*(2*Y+1)):=by
  have e:2*x*(a+2*(t*a))=2*x*a+2*(2*x*a*t):=by grind
  rw[e];generalize (2*Y+1)*(2*Y+1)=YY at *;generalize a*a=AA at *;generalize 2*x*a*t=u1 at *;generalize 2*x*a=u2 at *;clear r1 p1 p0 h3 ht;grind
 have b4:=Yr B sx;have b5:s*(1+8*((2*Y+1)*(2*Y+1)))<=K*(1+8*((2*Y+1)*(2*Y+1))):=Yv sK (by have:=Ys A0 A0;grind)
 have b6:=Yr (Rat.le_trans b4 b5) (Yw hh)
 have b7:0<=(1-t-2*(t*t))-h*(s*(1+2*(a*a)+2*x*(a+2*(t*a)))):=by
  generalize h*(s*(1+2*(a*a)+2*x*(a+2*(t*a))))=u1 at *;generalize h*(K*(1+8*((2*Y+1)*(2*Y+1))))=u2 at *;generalize t*t=u3 at *;clear r1 p1 p0 ht b1 b2 b3 b4 b5 B;grind
 have b8:=Ys (Yw hh) b7;rw[<- r1] at b8;grind
theorem eF_step {x h Y K:Rat} (hx:0<=x) (hh:0<h) (hY:x+h<=Y) (hK:0<=K) (hS:∀ M,eS x M<=K) (h1:h<=1) (h2:4*(h*(2*Y+1))<=1) (h3:2*(h*(K*(1+8*((2*Y+1)*(2*Y+1)))))<=1):∃ z,Null z/\∃ N,∀ M,N<=M->eF x M<=eF (x+h) M+z M:=by
 obtain⟨t,ht⟩:∃ t,t=h*(2*x+h):=⟨_,rfl⟩;have a0:0<=2*x+h:=by grind
 have t0:0<=t:=by rw[ht];exact Ys (Yw hh) a0
 have ta:t<=h*(2*Y+1):=by rw[ht];exact Yr (by grind) (Yw hh)
 have t4:t<=1/4:=by grind
 have sqe : -((x+h)*(x+h)) = -(x*x) + -t:=by rw[ht];grind
 have cY:=zAK (x:=λ _ => -(x*x)) (y:=λ _ => -t) (Bdd.const _) (Bdd.const _)
 have eb:Bdd (eS (x+h)):=by
  obtain⟨K2,k2,cn⟩:=zJX (x:=x+h) (by grind)
  exact Bdd.of_le K2 0 λ M _=>⟨by have:=jQ (x:=x+h) (by grind) M;grind,cn M⟩
 have G1:=cY.bmul eb;obtain⟨c,c0,N0,hc⟩:=zB7 (x:=λ _ => -(x*x)) (Bdd.const _)
 have evb:=zAE (x:=λ _ => -(x*x)) (Bdd.const _)
 have hT:=(zRT hx)
 have M5:Null (λ M=>eT x (M-1)):=λ e he=>by
  obtain⟨N,hN⟩:=hT e he;exact⟨N+1,λ M hM=>hN (M-1) (by omega)⟩
 have gJ:=(M5.bmul (Bdd.const (2*x*h))).bmul evb;refine⟨_,gJ.add G1,N0+2,λ M hM=>?_⟩
 have vD:=hc M (by omega)
 have e1:eF (x+h) M=eS (x+h) M*Ev (λ _ => -(x*x) + -t) M:=by unfold eF;rw[sqe]
 obtain⟨m,rfl⟩:∃ m,M=m+1:=⟨M-1,by omega⟩
 have g:=zRP hx (Yw hh) m;have e2:eS x (m+1)=eS x m+eT x m:=rfl;have sx:=jQ hx (m+1);have sK:=hS (m+1);have lit:=(zAD (h := -t) (b:=t) ⟨by grind,by grind⟩ t4 (M:=m+1) (by omega)).1
 have Li:=(zAD (h := -t) (b:=t) ⟨by grind,by grind⟩ t4 (M:=m+1) (by omega)).2
 have e3:Ev (λ _ => -t) (m+1)=E (-t) (m+1):=rfl
 have T0:=zAX hx m;simp only[Nat.add_sub_cancel] at *;rw[e1];unfold eF;generalize Ev (λ _ => -(x*x)) (m+1)=v at *
 generalize Ev (λ _ => -(x*x) + -t) (m+1)=vt at *
 rw[e3];generalize E (-t) (m+1)=q at *;generalize eS (x+h) (m+1)=s' at *;obtain⟨s,hs⟩:∃ s,s=eS x (m+1):=⟨_,rfl⟩;have e4:eS x m=s-eT x m:=by rw[hs];grind
 rw[e4,<- hs] at g;rw[<- hs] at sx sK ⊢;generalize eT x m=T at *;have q0:1-t-2*(t*t)<=q:=by grind
 have tt:t*t<=t*(h*(2*Y+1)):=Yr ta t0;have A0:0<=2*Y+1:=by grind
 have tt2:t*t<=1/16:=by
  have:=Yr t4 t0;grind
 have q1:0<=q:=by grind
 have key:s<=(s+h*(1+2*x*s))*q:=eF_key hx hh hY sx sK h1 ht t0 t4 h3 q0;have v0:0<=v:=by grind
 have k1:=Yv key v0;have g2:s+h*(1+2*x*s)<=s'+T*(2*x*h):=by grind
 have vq:=Ys v0 q1;have k2:=Yv g2 vq
 have qle:q<=1:=by
  have u:=Li;have tt3:t*t<=t*(1/4):=Yr t4 t0;grind
 have w0:=Ys (Ys (Ys hx (Yw hh)) T0) v0;have w1:=Yr qle w0;have r1:(s+h*(1+2*x*s))*q*v=(s+h*(1+2*x*s))*(v*q):=by grind
 have r2:(s'+T*(2*x*h))*(v*q)=s'*(v*q)+2*(x*h*T*v*q):=by grind
 rw[r1] at k1;rw[r2] at k2;have r3:T*(2*x*h)*v=2*(x*h*T*v*1):=by grind
 have r4:(v*q-vt)*s'=s'*(v*q)-s'*vt:=by grind
 show s*v<=s'*vt+(T*(2*x*h)*v+(v*q-vt)*s')
 rw[r3,r4];generalize s'*(v*q)=g1 at *;generalize x*h*T*v*q=g2 at *;generalize x*h*T*v*1=g3 at *;generalize (s+h*(1+2*x*s))*(v*q)=g4 at *;generalize s*v=g5 at *;generalize s'*vt=g6 at *;clear key r1 r2 r3 r4 g G1 M5 gJ cY;grind
theorem eF_mono {x y:Rat} (hx:0<=x) (K6:x<=y):∃ z,Null z/\∃ N,∀ M,N<=M->eF x M<=eF y M+z M:=by
 by_cases heq:x=y
 ·subst heq
  exact⟨_,null_zero,0,λ M _=>by grind⟩
 have D9:0<y-x:=by grind
 have hy:0<=y:=by grind
 obtain⟨K,k0,hK⟩:=zJX hy;obtain⟨C,hC⟩:∃ C,C=(y-x)*(1+4*(2*y+1)+2*(K*(1+8*((2*y+1)*(2*y+1))))):=⟨_,rfl⟩;obtain⟨n,hn⟩:=kC C;have n0:(0:Rat)<(n:Rat)+1:=zA0 n;obtain⟨h,hh⟩:∃ h,h=(y-x)/((n:Rat)+1):=⟨_,rfl⟩;have hm:h*((n:Rat)+1)=y-x:=by rw[hh];exact rdm n0
 have h0:0<h:=by rw[hh];exact zF D9 n0
 have A0:0<=2*y+1:=by grind
 have AA:=Ys A0 A0;have P0:0<=K*(1+8*((2*y+1)*(2*y+1))):=Ys k0 (by grind)
 have hc:h*(1+4*(2*y+1)+2*(K*(1+8*((2*y+1)*(2*y+1)))))<=1:=by
  have h2:=hn.2;refine Rat.le_of_mul_le_mul_left (c:=(n:Rat)+1) ?_ n0;have e:((n:Rat)+1)*(h*(1+4*(2*y+1)+2*(K*(1+8*((2*y+1)*(2*y+1))))))=C:=by rw[hC,<- hm];grind
  rw[e];grind
 have c1:=Ys (Yw h0) A0;have c2:=Ys (Yw h0) P0;have hs:h*(1+4*(2*y+1)+2*(K*(1+8*((2*y+1)*(2*y+1)))))=h+4*(h*(2*y+1))+2*(h*(K*(1+8*((2*y+1)*(2*y+1))))):=by grind
 rw[hs] at hc
 have step:∀ i:Nat,i<=n+1->∃ z,Null z/\∃ N,∀ M,N<=M->eF x M<=eF (x+(i:Rat)*h) M+z M:=by
  intro i
  induction i with
  | zero =>
   intro _
   refine⟨_,null_zero,0,λ M _=>?_⟩
   have e:x+((0:Nat):Rat)*h=x:=by grind
   rw[e];grind
  | succ i ih =>
   intro hi
   obtain⟨z1,G1,N1,h1⟩:=ih (by omega)
   have i0:(0:Rat)<=(i:Rat):=by exact_mod_cast Nat.zero_le i
   have i1:(i:Rat)+1<=(n:Rat)+1:=by exact_mod_cast hi
   have p0:=Ys i0 (Yw h0);have p1:=Yv i1 (Yw h0)
   have e1:x+(i:Rat)*h+h=x+((i+1:Nat):Rat)*h:=by
    have:((i+1:Nat):Rat)=(i:Rat)+1:=by push_cast;rfl
    rw[this];grind
   have RD:x+(i:Rat)*h+h<=y:=by grind
   obtain⟨z2,M5,N2,h2⟩:=eF_step (x:=x+(i:Rat)*h) (h:=h) (Y:=y) (K:=K) (by grind) h0 RD k0 (λ M=>Rat.le_trans (zRQ (by grind) (by grind) M) (hK M)) (by grind) (by grind) (by grind)
   rw[e1] at h2;refine⟨_,G1.add M5,N1+N2,λ M hM=>?_⟩
   have a:=h1 M (by omega)
   have b:=h2 M (by omega)
   grind
 obtain⟨z,hz,N,h9⟩:=step (n+1) (Yy _)
 have e:x+((n+1:Nat):Rat)*h=y:=by
  have:((n+1:Nat):Rat)=(n:Rat)+1:=by push_cast;rfl
  rw[this];grind
 rw[e] at h9;exact⟨z,hz,N,h9⟩
end Go.Proofs.YtgmnknmjainabacGreat.Ex
namespace Go.Proofs.YtgmnknmjainabacGreat.Ex
def LeN (f g:Nat->Rat):Prop:=∀ e:Rat,0<e->∃ N:Nat,∀ M,N<=M->f M<=g M+e
theorem LeN.refl (f:Nat->Rat):LeN f f:=λ e he=>⟨0,λ M _=>by grind⟩
theorem LeN.trans {f g h:Nat->Rat} (a:LeN f g) (b:LeN g h):LeN f h:=λ e he=>by
 obtain⟨N1,h1⟩:=a (e/2) (by grind)
 obtain⟨N2,h2⟩:=b (e/2) (by grind)
 exact⟨N1+N2,λ M hM=>by have:=h1 M (by omega);have:=h2 M (by omega);grind⟩
theorem LeN.of_le {f g:Nat->Rat} (N:Nat) (h:∀ M,N<=M->f M<=g M):LeN f g:=λ e he=>⟨N,λ M hM=>by have:=h M hM;grind⟩
theorem LeN.of_null {f g z:Nat->Rat} (hz:Null z) (N:Nat) (h:∀ M,N<=M->f M<=g M+z M):LeN f g:=λ e he=>by
 obtain⟨N1,h1⟩:=hz e he;exact⟨N+N1,λ M hM=>by have:=h M (by omega);have:=(h1 M (by omega)).2;grind⟩
theorem LeN.null {f g:Nat->Rat} (h:LeN f g):∃ z,Null z/\∀ M,f M<=g M+z M:=by
 refine⟨λ M=>if f M<=g M then 0 else f M-g M,λ e he=>?_,λ M=>?_⟩
 ·obtain⟨N,hN⟩:=h e he
  refine⟨N,λ M hM=>?_⟩
  have:=hN M hM;simp only[];split<;>constructor<;>grind
 ·simp only[];split<;>grind
theorem LeN.add {f g f' g':Nat->Rat} (a:LeN f g) (b:LeN f' g'):LeN (λ M=>f M+f' M) (λ M=>g M+g' M):=λ e he=>by
 obtain⟨N1,h1⟩:=a (e/2) (by grind)
 obtain⟨N2,h2⟩:=b (e/2) (by grind)
 exact⟨N1+N2,λ M hM=>by have:=h1 M (by omega);have:=h2 M (by omega);grind⟩
theorem LeN.eq {f g:Nat->Rat} (h:LeN f g) (k:LeN g f):Null (λ M=>f M-g M):=λ e he=>by
 obtain⟨N1,h1⟩:=h e he;obtain⟨N2,h2⟩:=k e he;exact⟨N1+N2,λ M hM=>by have:=h1 M (by omega);have:=h2 M (by omega);constructor<;>grind⟩
theorem Null.leN {f g:Nat->Rat} (h:Null (λ M=>f M-g M)):LeN f g:=λ e he=>by
 obtain⟨N,hN⟩:=h e he;exact⟨N,λ M hM=>by have:=(hN M hM).2;grind⟩
theorem Null.symm {f g:Nat->Rat} (h:Null (λ M=>f M-g M)):Null (λ M=>g M-f M):=h.neg.of_eq λ M=>by grind
theorem LeN.lim {f g:Nat->Rat} {C:Rat} (hC:0<=C) (h:∀ n:Nat,LeN f (λ M=>g M+C*(1/((n:Rat)+1)))):LeN f g:=λ e he=>by
 obtain⟨n,hn⟩:=kC (2*C/e);have k:=h n;obtain⟨N,hN⟩:=k (e/2) (by grind)
 refine⟨N,λ M hM=>?_⟩
 have h1:=hN M hM;have n0:(0:Rat)<(n:Rat)+1:=zA0 n
 have h2:C*(1/((n:Rat)+1))<=e/2:=by
  have um:1/((n:Rat)+1)*((n:Rat)+1)=1:=rdm n0;have u0:(0:Rat)<1/((n:Rat)+1):=zF (by grind) n0
  have ce:2*C/e*e=2*C:=rdm he;have h3:=Yv hn.2 (Yw he);rw[ce] at h3;have h4:=Yv (show 2*C<=((n:Rat)+1)*e by grind) (Yw u0)
  have e5:((n:Rat)+1)*e*(1/((n:Rat)+1))=(1/((n:Rat)+1)*((n:Rat)+1))*e:=by grind
  rw[e5,um] at h4;grind
 simp only[] at h1;grind
theorem zCN {f:Rat->Nat->Rat} {a b C D:Rat} (iP:a<=b) (hC:0<=C) (hD:0<D)
  (step:∀ x h,a<=x->0<h->h<=D->x+h<=b->∃ z,Null z/\∃ N:Nat,∀ M,N<=M->f (x+h) M<=f x M+C*(h*h)+z M):LeN (f b) (f a):=by
 by_cases heq:a=b
 ·subst heq;exact LeN.refl _
 have D9:0<b-a:=by grind
 refine LeN.lim (C:=C*((b-a)*(b-a))) (Ys hC (Ys (Yw D9) (Yw D9))) λ n0=>?_
 obtain⟨m,hm⟩:=kC ((b-a)/D);obtain⟨n,hn⟩:∃ n,n=n0+m:=⟨_,rfl⟩;have Ll:(0:Rat)<(n:Rat)+1:=zA0 n;obtain⟨h,hh⟩:∃ h,h=(b-a)/((n:Rat)+1):=⟨_,rfl⟩;have hmul:h*((n:Rat)+1)=b-a:=by rw[hh];exact rdm Ll
 have h0:0<h:=by rw[hh];exact zF D9 Ll
 have mn:(m:Rat)<=(n:Rat):=by exact_mod_cast (show m<=n by omega)
 have nn:(n0:Rat)<=(n:Rat):=by exact_mod_cast (show n0<=n by omega)
 have s9:h<=D:=by
  have e1:(b-a)/D*D=b-a:=rdm hD;have h1:=Yv hm.2 (Yw hD);rw[e1] at h1;refine Rat.le_of_mul_le_mul_right (c:=(n:Rat)+1) ?_ Ll;rw[hmul];have:=Yv mn (Yw hD);grind
 have go:∀ i:Nat,i<=n+1->∃ z,Null z/\∃ N:Nat,∀ M,N<=M->f (a+(i:Rat)*h) M<=f a M+(i:Rat)*(C*(h*h))+z M:=by
  intro i
  induction i with
  | zero =>
   intro _
   refine⟨_,null_zero,0,λ M _=>?_⟩
   have e:a+((0:Nat):Rat)*h=a:=by grind
   rw[e];grind
  | succ i ih =>
   intro hi
   obtain⟨z1,G1,N1,k1⟩:=ih (by omega)
   have i0:(0:Rat)<=(i:Rat):=by exact_mod_cast Nat.zero_le i
   have i1:(i:Rat)+1<=(n:Rat)+1:=by exact_mod_cast hi
   have p0:=Ys i0 (Yw h0);have p1:=Yv i1 (Yw h0);have ec:((i+1:Nat):Rat)=(i:Rat)+1:=by push_cast;rfl
   have e1:a+(i:Rat)*h+h=a+((i+1:Nat):Rat)*h:=by rw[ec];grind
   obtain⟨z2,M5,N2,k2⟩:=step (a+(i:Rat)*h) h (by grind) h0 s9 (by grind)
   rw[e1] at k2;refine⟨_,G1.add M5,N1+N2,λ M hM=>?_⟩
   have a1:=k1 M (by omega)
   have a2:=k2 M (by omega)
   rw[ec] at a2 ⊢;grind
 obtain⟨z,hz,N,k⟩:=go (n+1) (Yy _);have ec:((n+1:Nat):Rat)=(n:Rat)+1:=by push_cast;rfl
 have e:a+((n+1:Nat):Rat)*h=b:=by rw[ec];grind
 rw[e,ec] at k;refine LeN.of_null hz N λ M hM=>?_
 have k1:=k M hM;have Ln:(0:Rat)<(n0:Rat)+1:=zA0 n0;have um:1/((n0:Rat)+1)*((n0:Rat)+1)=1:=rdm Ln;have u0:(0:Rat)<1/((n0:Rat)+1):=zF (by grind) Ln
 have hb:((n:Rat)+1)*(C*(h*h))<=C*((b-a)*(b-a))*(1/((n0:Rat)+1)):=by
  have e2:((n:Rat)+1)*(C*(h*h))=C*(b-a)*h:=by rw[<- hmul];grind
  rw[e2]
  have hu:h<=(b-a)*(1/((n0:Rat)+1)):=by
   refine Rat.le_of_mul_le_mul_right (c:=(n0:Rat)+1) ?_ Ln;have e3:(b-a)*(1/((n0:Rat)+1))*((n0:Rat)+1)=(b-a)*(1/((n0:Rat)+1)*((n0:Rat)+1)):=by grind
   rw[e3,um];have:=Yr nn (Yw h0);grind
  have:=Yr hu (Ys hC (Yw D9));grind
 grind
end Go.Proofs.YtgmnknmjainabacGreat.Ex
namespace Go.Proofs.YtgmnknmjainabacGreat
open Ex
theorem Iv.opp {B:Nat} {a:Int × Int} {x:Nat->Rat} (h:Iv B a x):Iv B (-a.2,-a.1) (λ M => -x M):=by
 have q:=jJ B
 intro e he
 obtain⟨N,hN⟩:=h e he;refine⟨N,λ M hM=>?_⟩
 obtain⟨g1,g2⟩:=hN M hM;have e1:((-a.2:Int):Rat)/(Q B:Rat) = -((a.2:Rat)/(Q B:Rat)):=by rw[Rat.intCast_neg,YE,YE,Rat.neg_mul]
 have e2:((-a.1:Int):Rat)/(Q B:Rat) = -((a.1:Rat)/(Q B:Rat)):=by rw[Rat.intCast_neg,YE,YE,Rat.neg_mul]
 simp only[];rw[e1,e2];constructor<;>grind
def negI (a:Int × Int):Int × Int:=(-a.2,-a.1)
theorem negI_abs {a:Int × Int} {m:Int} (h:Abs a m):Abs (negI a) m:=by obtain⟨h1,h2,h3,h4⟩:=h;exact⟨by simp only[negI];omega,by simp only[negI];omega,by simp only[negI];omega,by simp only[negI];omega⟩
def agT (m:Int) (B:Nat):Nat->Int × Int
 | 0=>ofI 1 m B
 | n+1=>negI (zK (agT m B n) (2*(n:Int)+1) ((2*(n:Int)+3)*m*m))
theorem zJG {m:Int} (hm:2<=m) (n:Nat):0<(2*(n:Int)+3)*m*m/\4*(2*(n:Int)+1)<=(2*(n:Int)+3)*m*m:=by
 have h1:=Int.mul_le_mul hm hm (by omega) (show 0<=m by omega)
 have h2:=Yx h1 (show 0<=2*(n:Int)+3 by omega)
 have e:(2*(n:Int)+3)*m*m=(2*(n:Int)+3)*(m*m):=by grind
 rw[e];omega
theorem zMW {m:Int} (hm:2<=m) (B n:Nat):(agT m B n).1<=(agT m B n).2:=by
 induction n with
 | zero=>exact yB (by omega) B
 | succ n ih =>
  have:=kN ih (zJG hm n).1 (show 0<=2*(n:Int)+1 by omega)
  simp only[agT,negI];omega
theorem zHV {m:Int} (hm:2<=m) {B:Nat} (hB:2<=B) (n:Nat):Abs (agT m B n) (Q (B-2*n)):=by
 induction n with
 | zero =>
  have q:=zE B;have h2:=Yx hm (show 0<=Q B by omega)
  exact zGN (by omega) B (by have:=zE B;simp only[Nat.mul_zero,Nat.sub_zero];omega) (by simp only[Nat.mul_zero,Nat.sub_zero];omega)
 | succ n ih =>
  obtain⟨d0,d1⟩:=zJG hm n;have st:=zQK hB n;have q2:=zE (B-2)
  have eB:Q B=4*Q (B-2):=by
   have:=jF 2 (B-2);rw[show 2+(B-2)=B by omega] at this
   rw[this];rfl
  have hq:Q (B-2*n)<=4*Q (B-2*(n+1)):=by
   refine Int.le_of_mul_le_mul_right (a:=Q (B-2)) ?_ (by omega)
   rw[eB] at st;have e:4*Q (B-2*(n+1))*Q (B-2)=Q (B-2*(n+1))*(4*Q (B-2)):=by grind
   omega
  have q3:=zE (B-2*(n+1));obtain⟨a1,a2,a3,a4⟩:=ih
  have key:∀ x:Int,-Q (B-2*n)<=x->x<=Q (B-2*n) -> -(Q (B-2*(n+1))*((2*(n:Int)+3)*m*m))<=x*(2*(n:Int)+1)/\x*(2*(n:Int)+1)<=Q (B-2*(n+1))*((2*(n:Int)+3)*m*m):=λ x h1 h2=>by
   have k1:=Yx d1 (show 0<=Q (B-2*(n+1)) by omega)
   have k2:=Yt (show x<=4*Q (B-2*(n+1)) by omega) (show 0<=2*(n:Int)+1 by omega)
   have k3:=Yt (show -(4*Q (B-2*(n+1)))<=x by omega) (show 0<=2*(n:Int)+1 by omega)
   have e:Q (B-2*(n+1))*(4*(2*(n:Int)+1))=4*Q (B-2*(n+1))*(2*(n:Int)+1):=by grind
   have e2 : -(4*Q (B-2*(n+1)))*(2*(n:Int)+1) = -(4*Q (B-2*(n+1))*(2*(n:Int)+1)):=by grind
   constructor<;>omega
  have r1:=kD d0 (key _ a1 a2).1 (key _ a1 a2).2;have r2:=kD d0 (key _ a3 a4).1 (key _ a3 a4).2;exact negI_abs ⟨r1.1,r1.2.1,r2.2.2.1,r2.2.2.2⟩
theorem agT_wide {m:Int} (hm:2<=m) (B n:Nat):(agT m B n).2-(agT m B n).1<=2:=by
 induction n with
 | zero=>have:=yC (n:=1) (show 0<m by omega) B;simp only[agT];omega
 | succ n ih =>
  obtain⟨d0,d1⟩:=zJG hm n
  have:=kJ (a:=agT m B n) (n:=2*(n:Int)+1) (d:=(2*(n:Int)+3)*m*m) (c:=1) d0 (by
   have:=Yt ih (show 0<=2*(n:Int)+1 by omega)
   omega)
  simp only[agT,negI];omega
def agV (m:Int):Nat->Rat
 | 0=>((1:Int):Rat)/(m:Rat)
 | n+1 => -(((2*(n:Int)+1:Int):Rat)/(((2*(n:Int)+3)*m*m:Int):Rat)*agV m n)
theorem agT_has {m:Int} (hm:2<=m) (B n:Nat):Iv B (agT m B n) (λ _=>agV m n):=by
 induction n with
 | zero=>exact Iv.of B (by omega)
 | succ n ih=>exact (ih.scale (show 0<=2*(n:Int)+1 by omega) (zJG hm n).1).opp
theorem zMC {n d:Int} (hn:0<=n) (hd:0<d) (h:4*n<=d):0<=(n:Rat)/(d:Rat)/\(n:Rat)/(d:Rat)<=1/4:=by
 have d0:(0:Rat)<(d:Rat):=by exact_mod_cast hd
 have n0:(0:Rat)<=(n:Rat):=by exact_mod_cast hn
 refine⟨jS d0 (by grind),jR d0 ?_⟩
 have:=jA h;rw[YA,show ((4:Int):Rat)=4 from rfl] at this
 grind
theorem zHW {m:Int} (hm:2<=m) (n:Nat) {b:Rat} (h:AB (agV m n) b):AB (agV m (n+1)) (b/2):=by
 obtain⟨d0,d1⟩:=zJG hm n;obtain⟨q0,q1⟩:=zMC (show 0<=2*(n:Int)+1 by omega) d0 d1
 have b0:=h.nonneg;have:=(AB.mul (s:=((2*(n:Int)+1:Int):Rat)/(((2*(n:Int)+3)*m*m:Int):Rat)) (a:=1/4) ⟨by grind,q1⟩ h).neg
 exact this.mono (by grind)
def agS (m:Int) (M:Nat):Rat:=S (agV m) M
theorem zMX {m:Int} (hm:2<=m) (B N:Nat):Iv B (zN (agT m B) N) (agS m) :=
 zHZ (g:=λ n _=>agV m n) (zMW hm B) (λ k _=>agT_has hm B k) 0 (λ M _ n b _ hb=>zHW hm n hb)
theorem zHX {m:Int} (hm:2<=m) {B N:Nat} (hB:2<=B) (hN:zT (agT m B) N) :
  (zN (agT m B) N).1<=(zN (agT m B) N).2/\Abs (zN (agT m B) N) (2*Q B)/\N<=B/2+1/\(zN (agT m B) N).2-(zN (agT m B) N).1<=(B:Int)+6:=by
 have hn:N<=B/2+1:=by
  obtain⟨N',n1,n2⟩:=zB6 (s:=2) (by omega) (zHV hm hB)
  refine Nat.le_trans (Nat.not_lt.1 λ D9=>?_) n1
  have:=hN.2 N' D9;have:=n2.1;omega
 refine⟨zCP (zMW hm B) N,zF7 (s:=2) (by omega) (zMW hm B) (zHV hm hB) hN,hn,?_⟩
 have:=zCB (agT_wide hm B) hN;omega
theorem zQV {m:Int} (hm:2<=m) {B:Nat} (hB:2<=B):∃ N,zT (agT m B) N:=by
 obtain⟨N,_,h⟩:=zB6 (s:=2) (by omega) (zHV hm hB)
 exact⟨N,h⟩
def piI (B N N2:Nat):Int × Int:=zJA (kI (zN (agT 5 B) N) 16) (kI (zN (agT 239 B) N2) 4)
def piS (M:Nat):Rat:=16*agS 5 M-4*agS 239 M
theorem pi_has (B N N2:Nat):Iv B (piI B N N2) piS :=
 Has.of_eq (((zMX (m:=5) (by omega) B N).times 16).sub ((zMX (m:=239) (by omega) B N2).times 4)) λ M=>by
  show 16*agS 5 M-4*agS 239 M=((16:Nat):Rat)*agS 5 M-((4:Nat):Rat)*agS 239 M
  rfl
theorem pi_ge {M : Nat} (hM : 2 ≤ M) : 3 ≤ piS M := by
  obtain ⟨i, rfl⟩ : ∃ i, M = 2 + i := ⟨M - 2, by omega⟩
  have h5 := (zQP (g := agV 5) (N := 1) (b := 1 / 375) (by rw [show agV 5 1 = -(1 / 375) by decide +kernel]; constructor <;> grind) (fun n c _ hc => zHW (by omega) n hc) i).2
  have h9 := (zQP (g := agV 239) (N := 1) (b := 1 / 1000) (by (have e : AB (agV 239 1) (1 / 1000) := (by constructor <;> decide +kernel)); exact e) (fun n c _ hc => zHW (by omega) n hc) i).2
  have e5 : S (agV 5) (1 + 1) = 1 / 5 - 1 / 375 := by decide +kernel
  have e9 : S (agV 239) (1 + 1) ≤ 1 / 100 := by decide +kernel
  have p := yD i
  rw [e5] at h5
  obtain ⟨a1, a2⟩ := h5
  obtain ⟨b1, b2⟩ := h9
  show 3 ≤ 16 * S (agV 5) (1 + 1 + i) - 4 * S (agV 239) (1 + 1 + i)
  grind
theorem pi_bound {B N N2:Nat} (hB:32<=B) (hN:zT (agT 5 B) N) (X6:zT (agT 239 B) N2):(piI B N N2).1<=(piI B N N2).2/\Q B<=(piI B N N2).1/\(piI B N N2).2<=64*Q B/\(piI B N N2).2-(piI B N N2).1<=20*(B:Int)+120:=by
 obtain⟨a1,a2,a3,a4⟩:=zHX (m:=5) (by omega) (by omega) hN
 obtain⟨b1,b2,b3,b4⟩:=zHX (m:=239) (by omega) (by omega) X6
 have hw:(piI B N N2).2-(piI B N N2).1<=20*(B:Int)+120:=by
  simp only[piI,zJA,kI];omega
 have hl:(piI B N N2).1<=(piI B N N2).2:=by simp only[piI,zJA,kI];omega
 have hh:(piI B N N2).2<=64*Q B:=by
  obtain⟨_,_,_,c4⟩:=a2;obtain⟨d1,_⟩:=b2;simp only[piI,zJA,kI];omega
 refine⟨hl,?_,hh,hw⟩;have q:=jJ B
 have h2:2*Q B<=(piI B N N2).2:=by
  refine Int.not_lt.1 λ D9=>?_
  obtain⟨N0,hh⟩:=pi_has B N N2 (1/2) (by grind)
  have h3:=(hh (N0+2) (by omega)).2
  have h4:=pi_ge (M:=N0+2) (by omega)
  have h5:((piI B N N2).2:Rat)/(Q B:Rat)<=2:=jR q (by
   have:=jA (show (piI B N N2).2<=2*Q B by omega)
   rw[YA] at this
   exact this)
  grind
 have hQ:20*(B:Int)+120<=Q B:=by
  have Kn:∀ k:Nat,20*((32+k:Nat):Int)+120<=Q (32+k):=λ k=>by
   induction k with
   | zero=>decide
   | succ k ih =>
    have e:Q (32+(k+1))=2*Q (32+k):=rfl;omega
  have:=Kn (B-32);rw[show 32+(B-32)=B by omega] at this
  exact this
 omega
end Go.Proofs.YtgmnknmjainabacGreat
namespace Go.Proofs.YtgmnknmjainabacGreat.Ex
def uT (u:Rat):Nat->Rat
 | 0=>u
 | n+1=>(2*(n:Rat)+1)/(2*(n:Rat)+3)*(u*u)*uT u n
def uD (u:Rat):Nat->Rat
 | 0=>1
 | n+1=>u*u*uD u n
def sg:Nat->Rat
 | 0=>1
 | n+1 => -sg n
theorem sg_one (n:Nat):sg n=1\/sg n = -1:=by
 induction n with
 | zero=>exact Or.inl rfl
 | succ n ih=>rcases ih with h|h<;>(show -sg n=1 \/ -sg n = -1;rw[h];grind)
theorem zNV (n:Nat):(0:Rat)<2*(n:Rat)+3:=by
 have:(0:Rat)<=(n:Rat):=by exact_mod_cast Nat.zero_le n
 grind
theorem zGS (u:Rat) (n:Nat):(2*(n:Rat)+3)*uT u (n+1)=(2*(n:Rat)+1)*(u*u)*uT u n:=by
 have e:=rdm (a:=2*(n:Rat)+1) (zNV n)
 show (2*(n:Rat)+3)*((2*(n:Rat)+1)/(2*(n:Rat)+3)*(u*u)*uT u n)=_
 have:(2*(n:Rat)+3)*((2*(n:Rat)+1)/(2*(n:Rat)+3)*(u*u)*uT u n)=((2*(n:Rat)+1)/(2*(n:Rat)+3)*(2*(n:Rat)+3))*(u*u)*uT u n:=by grind
 rw[this,e]
theorem zUZ (u:Rat) (n:Nat):(2*(n:Rat)+1)*uT u n=u*uD u n:=by
 induction n with
 | zero=>show (2*((0:Nat):Rat)+1)*u=u*1;grind
 | succ n ih =>
  have e:((n+1:Nat):Rat)=(n:Rat)+1:=by push_cast;rfl
  have h:=zGS u n
  show (2*((n+1:Nat):Rat)+1)*uT u (n+1)=u*(u*u*uD u n)
  rw[e,show 2*((n:Rat)+1)+1=2*(n:Rat)+3 by grind,h]
  grind
theorem zCI (u:Rat) (n:Nat):0<=uD u n:=by
 induction n with
 | zero=>show (0:Rat)<=1;grind
 | succ n ih=>exact Ys (zO u) ih
theorem zK5 {u:Rat} (h:0<=u) (n:Nat):0<=uT u n:=by
 have h1:=zUZ u n;have h2:=Ys h (zCI u n);have h3:(0:Rat)<=(n:Rat):=by exact_mod_cast Nat.zero_le n
 refine Rat.le_of_mul_le_mul_left (c:=2*(n:Rat)+1) ?_ (by grind)
 grind
theorem zUY {u h:Rat} (hu:0<=u) (hh:0<=h) (n:Nat):uT u n+h*uD u n<=uT (u+h) n:=by
 induction n with
 | zero=>show u+h*1<=u+h;grind
 | succ n ih =>
  have p:=zNV n;have n0:(0:Rat)<=(n:Rat):=by exact_mod_cast Nat.zero_le n
  have e1:=zGS u n;have e2:=zGS (u+h) n;have e3:=zUZ u n;have t0:=zK5 hu n;have d0:=zCI u n;have s1:u*u+2*(u*h)<=(u+h)*(u+h):=by have:=Ys hh hh;grind
  have y0:0<=(u+h)*(u+h):=zO _;have m1:=Yr ih y0;have u0:0<=uT u n+h*uD u n:=by have:=Ys hh d0;grind
  have m2:=Yv s1 u0;have k1:=Ys (Ys hu hh) (Ys hh d0);have m3:=Rat.le_trans m2 m1;have c0:0<=2*(n:Rat)+1:=by grind
  have m4:=Yr m3 c0;refine Rat.le_of_mul_le_mul_left (c:=2*(n:Rat)+3) ?_ p
  show (2*(n:Rat)+3)*(uT u (n+1)+h*(u*u*uD u n))<=_
  rw[e2];have k4:(2*(n:Rat)+3)*(uT u (n+1)+h*(u*u*uD u n))=(2*(n:Rat)+1)*(u*u)*uT u n+(2*(n:Rat)+3)*(h*(u*u*uD u n)):=by rw[<- e1];grind
  rw[k4];have k5:(2*(n:Rat)+1)*((u*u+2*(u*h))*(uT u n+h*uD u n))=(2*(n:Rat)+1)*(u*u)*uT u n+(2*(n:Rat)+1)*(h*(u*u*uD u n))+2*(u*h)*((2*(n:Rat)+1)*uT u n)+2*((2*(n:Rat)+1)*(u*h*(h*uD u n))):=by grind
  have k6:=Ys c0 k1;rw[k5,e3] at m4;grind
theorem uT_back {x y:Rat} (hx:0<=x) (K6:x<=y) (n:Nat):uT y n<=uT x n+(y-x)*uD y n:=by
 induction n with
 | zero=>show y<=x+(y-x)*1;grind
 | succ n ih =>
  have p:=zNV n;have hy:0<=y:=by grind
  have n0:(0:Rat)<=(n:Rat):=by exact_mod_cast Nat.zero_le n
  have c0:0<=2*(n:Rat)+1:=by grind
  have e1:=zGS x n;have e2:=zGS y n;have e3:=zUZ y n;have t0:=zK5 hx n;have d0:=zCI y n;obtain⟨h,hh⟩:∃ h,h=y-x:=⟨_,rfl⟩;have h0:0<=h:=by grind
  have mono:uT x n<=uT y n:=by
   have:=zUY hx h0 n;have:=Ys h0 (zCI x n);rw[show x+h=y by grind] at *
   grind
  rw[<- hh] at ih ⊢;have m1:=Yr ih (zO y);have m2:=Yr m1 c0;refine Rat.le_of_mul_le_mul_left (c:=2*(n:Rat)+3) ?_ p
  show _<=(2*(n:Rat)+3)*(uT x (n+1)+h*(y*y*uD y n))
  have k4:(2*(n:Rat)+3)*(uT x (n+1)+h*(y*y*uD y n))=(2*(n:Rat)+1)*(x*x)*uT x n+(2*(n:Rat)+3)*(h*(y*y*uD y n)):=by rw[<- e1];grind
  rw[k4,e2]
  have k5:y*y-x*x<=2*(h*y):=by
   have:=Ys h0 h0;have:y*y-x*x=2*(h*y)-h*h:=by rw[hh];grind
   grind
  have k6:=Yv k5 t0;have k7:=Yr mono (Ys (show (0:Rat)<=2 by grind) (Ys h0 hy))
  have k8:=Yr (Rat.le_trans k6 k7) c0;have k9:(2*(n:Rat)+1)*(2*(h*y)*uT y n)=2*(h*y)*(y*uD y n):=by rw[<- e3];grind
  rw[k9] at k8;grind
theorem q4_le_q2 (n:Nat):q4 n<=q2 n:=by
 induction n with
 | zero=>show (1:Rat)<=1;grind
 | succ n ih =>
  have h1:q4 (n+1)=q4 n/4:=rfl;have h2:q2 (n+1)=q2 n/2:=rfl;have:=yD n;have:=yE n;rw[h1,h2];grind
theorem uD_q4 {u:Rat} (h0:0<=u) (h:u<=1/2) (n:Nat):uD u n<=q4 n:=by
 induction n with
 | zero=>show (1:Rat)<=1;grind
 | succ n ih =>
  have h1:q4 (n+1)=q4 n/4:=rfl;have q:=yE n
  have a1:u*u<=1/4:=by
   have:=Yr h h0;grind
  have m1:=Yr ih (zO u);have m2:=Yv a1 (Yw q)
  show u*u*uD u n<=_
  rw[h1];grind
theorem uD_near {u h:Rat} (hu:0<=u) (hh:0<=h) (hy:u+h<=1/2) (n:Nat):uD (u+h) n-uD u n<=4*h*q2 n:=by
 induction n with
 | zero=>show (1:Rat)-1<=4*h*1;grind
 | succ n ih =>
  have h2:q2 (n+1)=q2 n/2:=rfl;have q:=yD n
  have c1:(u+h)*(u+h)<=1/4:=by
   have:=Yr hy (show 0<=u+h by grind)
   grind
  have c2:(u+h)*(u+h)-u*u<=h:=by
   have e:(u+h)*(u+h)-u*u=h*(2*u+h):=by grind
   have:=Yr (show 2*u+h<=1 by grind) hh
   rw[e];grind
  have d1:=uD_q4 hu (by grind) n
  have d2:=q4_le_q2 n;have d0:=zCI u n;have m1:=Yr ih (zO (u+h));have hq:=Ys hh (Yw q);have m2:=Yv c1 (show 0<=4*h*q2 n by grind)
  have m3:=Yv c2 d0;have m4:=Yr (Rat.le_trans d1 d2) hh
  show (u+h)*(u+h)*uD (u+h) n-u*u*uD u n<=_
  rw[h2];have e:(u+h)*(u+h)*uD (u+h) n-u*u*uD u n=(u+h)*(u+h)*(uD (u+h) n-uD u n)+((u+h)*(u+h)-u*u)*uD u n:=by grind
  rw[e];grind
def aA (u:Rat) (M:Nat):Rat:=S (λ n=>sg n*uT u n) M
def aD (u:Rat) (M:Nat):Rat:=S (λ n=>sg n*uD u n) M
theorem aD_eq (u:Rat) (M:Nat):(1+u*u)*aD u M=1-sg M*uD u M:=by
 induction M with
 | zero=>show (1+u*u)*0=1-1*1;grind
 | succ n ih =>
  show (1+u*u)*(aD u n+sg n*uD u n)=1-(-sg n)*(u*u*uD u n)
  grind
theorem aA_lin {u h:Rat} (hu:0<=u) (hh:0<=h) (hy:u+h<=1/2) (M:Nat):AB (aA (u+h) M-aA u M-h*aD u M) (8*(h*h)*(1-q2 M)):=by
 induction M with
 | zero=>show AB (0-0-h*0) (8*(h*h)*(1-1));constructor<;>grind
 | succ n ih =>
  have h2:q2 (n+1)=q2 n/2:=rfl;have g1:=zUY hu hh n;have g2:=uT_back hu (show u<=u+h by grind) n
  rw[show u+h-u=h by grind] at g2
  have g3:=Yr (uD_near hu hh hy n) hh
  have k:AB (uT (u+h) n-uT u n-h*uD u n) (4*(h*h)*q2 n):=by
   have q:=yD n;have:=Ys (Ys hh hh) (Yw q);constructor<;>grind
  have k2:AB (sg n*(uT (u+h) n-uT u n-h*uD u n)) (4*(h*h)*q2 n):=by
   rcases sg_one n with e|e
   ·rw[e];exact⟨by have:=k.1;grind,by have:=k.2;grind⟩
   ·rw[e];exact⟨by have:=k.2;grind,by have:=k.1;grind⟩
  have k3:=ih.add k2
  show AB (aA (u+h) n+sg n*uT (u+h) n-(aA u n+sg n*uT u n)-h*(aD u n+sg n*uD u n)) _
  rw[h2];have e:aA (u+h) n+sg n*uT (u+h) n-(aA u n+sg n*uT u n)-h*(aD u n+sg n*uD u n)=aA (u+h) n-aA u n-h*aD u n+sg n*(uT (u+h) n-uT u n-h*uD u n):=by grind
  rw[e];exact k3.mono (by grind)
theorem zQS {u h i:Rat} (hu:0<=u) (hh:0<=h) (hy:u+h<=1/2) (hi:i*(1+u*u)=1) (M:Nat):AB (aA (u+h) M-aA u M-h*i) (8*(h*h)+h*q4 M):=by
 have k:=aA_lin hu hh hy M;have q:=yD M
 have k1:=k.mono (b:=8*(h*h)) (by
  have:=Ys (Ys hh hh) (Yw q)
  grind)
 have e:=aD_eq u M;have d:=uD_q4 hu (show u<=1/2 by grind) M
 have d0:=zCI u M;have s0:=zO u
 have i0:0<=i:=by
  refine Rat.not_lt.1 λ D9=>?_
  have:=Ys (show 0 <= -i by grind) (show 0<=1+u*u by grind)
  grind
 have i1:i<=1:=by have:=Ys i0 s0;grind
 have e2:aD u M=i-i*(sg M*uD u M):=by
  have:i*((1+u*u)*aD u M)=i*(1-sg M*uD u M):=by rw[e]
  have:i*(1+u*u)*aD u M=i*(1-sg M*uD u M):=by grind
  rw[hi] at this;grind
 have k2:AB (h*(i*(sg M*uD u M))) (h*q4 M):=by
  have m1:=Yv i1 d0;have m2:=Ys i0 d0;have m3:=Yr (show i*uD u M<=q4 M by grind) hh
  have m4:=Ys hh m2
  rcases sg_one M with s|s
  ·rw[s];constructor<;>grind
  ·rw[s];constructor<;>grind
 have k3:=k1.add k2.neg;have e3:aA (u+h) M-aA u M-h*i=aA (u+h) M-aA u M-h*aD u M + -(h*(i*(sg M*uD u M))):=by rw[e2];grind
 rw[e3];exact k3
theorem zNK (a:Rat) (h:0<a):∃ i,0<i/\i*a=1:=⟨1/a,zF (by grind) h,rdm h⟩
def tD (v x:Rat):Rat:=(x-v)/(1+x*v)
theorem zOK {v x:Rat} (hv:0<=v) (hx:0<=x):tD v x*(1+x*v)=x-v:=rdm (by have:=Ys hx hv;grind)
theorem zUN {v x h:Rat} (hv:0<=v) (wV:v<=x) (hh:0<=h):tD v x<=tD v (x+h)/\tD v (x+h)-tD v x<=(1+v*v)*h /\
  ∀ i j,i*(1+x*x)=1->j*(1+tD v x*tD v x)=1->AB ((tD v (x+h)-tD v x)*j-h*i) (v*(h*h)):=by
 have hx:0<=x:=by grind
 have e1:=zOK hv hx;have e2:=zOK hv (show 0<=x+h by grind)
 generalize tD v x=X at *;generalize tD v (x+h)=Y at *;obtain⟨al,ha⟩:∃ al,al=1+x*v:=⟨_,rfl⟩;obtain⟨be,hb⟩:∃ be,be=1+(x+h)*v:=⟨_,rfl⟩;rw[<- ha] at e1;rw[<- hb] at e2;have xv:=Ys hx hv;have dI:=Ys hh hv;have a1:1<=al:=by rw[ha];grind
 have b1:1<=be:=by rw[hb];grind
 have vv:=zO v
 have k1:(Y-X)*(al*be)=h*(1+v*v):=by
  have:(Y-X)*(al*be)=(Y*be)*al-(X*al)*be:=by grind
  rw[this,e1,e2,ha,hb];grind
 have Wk:0<al*be:=Rat.mul_pos (by grind) (by grind)
 have Wl:1<=al*be:=by have:=Yr b1 (show 0<=al by grind);grind
 have RA:0<=h*(1+v*v):=Ys hh (by grind)
 have k0:0<=Y-X:=by
  refine Rat.not_lt.1 λ D9=>?_
  have:=Rat.mul_pos (show 0 < -(Y-X) by grind) Wk
  grind
 refine⟨by grind,?_,λ i j hi hj=>?_⟩
 ·have:=Yr Wl k0
  grind
 ·have xx:=zO x
  have XX:=zO X
  have i0:0<=i:=by
   refine Rat.not_lt.1 λ D9=>?_
   have:=Ys (show 0 <= -i by grind) (show 0<=1+x*x by grind)
   grind
  have i1:i<=1:=by have:=Ys i0 xx;grind
  obtain⟨E,hE⟩:∃ E,E=(Y-X)*j*(1+x*x):=⟨_,rfl⟩
  have id1:(1+X*X)*(al*al)=(1+x*x)*(1+v*v):=by
   have:(1+X*X)*(al*al)=al*al+(X*al)*(X*al):=by grind
   rw[this,e1,ha];grind
  have k2:E*be=h*al:=by
   have m:E*be*(al*(1+v*v))=h*al*(al*(1+v*v)):=by
    have f1:E*be*(al*(1+v*v))=((Y-X)*(al*be))*j*((1+x*x)*(1+v*v)):=by rw[hE];grind
    rw[f1,k1,<- id1];have f2:h*(1+v*v)*j*((1+X*X)*(al*al))=h*(1+v*v)*(j*(1+X*X))*(al*al):=by grind
    rw[f2,hj];grind
   have c:0<al*(1+v*v):=Rat.mul_pos (by grind) (by grind)
   refine Rat.le_antisymm (Rat.le_of_mul_le_mul_right (by rw[m];exact Rat.le_refl) c) (Rat.le_of_mul_le_mul_right (by rw[m];exact Rat.le_refl) c)
  have k3:(Y-X)*j=E*i:=by
   have:E*i=(Y-X)*j*(i*(1+x*x)):=by rw[hE];grind
   rw[this,hi];grind
  have bal:be=al+h*v:=by rw[ha,hb];grind
  have d1:(h-E)*be=v*(h*h):=by
   have:(h-E)*be=h*be-E*be:=by grind
   rw[this,k2,bal];grind
  have vh:=Ys hv (Ys hh hh)
  have d2:0<=h-E:=by
   refine Rat.not_lt.1 λ D9=>?_
   have:=Rat.mul_pos (show 0 < -(h-E) by grind) (show 0<be by grind)
   grind
  have d3:h-E<=v*(h*h):=by
   have:=Yr b1 d2;grind
  rw[k3];have m1:=Ys d2 i0;have m2:=Yr i1 d2;constructor<;>grind
theorem zLH {v x h i:Rat} (hv:0<=v) (Ak:v<=1/2) (wV:v<=x) (hh:0<=h) (hy:tD v (x+h)<=1/2) (hi:i*(1+x*x)=1) (M:Nat):AB (aA (tD v (x+h)) M-aA (tD v x) M-h*i) (16*(h*h)+2*(h*q4 M)):=by
 obtain⟨s1,s2,s3⟩:=zUN hv wV hh
 have X0:0<=tD v x:=by
  have e:=zOK hv (show 0<=x by grind)
  refine Rat.not_lt.1 λ D9=>?_
  have:=Rat.mul_pos (show 0 < -tD v x by grind) (show 0<1+x*v by have:=Ys (show 0<=x by grind) hv;grind)
  grind
 obtain⟨j,j0,hj⟩:=zNK (1+tD v x*tD v x) (by have:=zO (tD v x);grind)
 have s4:=s3 i j hi hj;obtain⟨k,hk⟩:∃ k,k=tD v (x+h)-tD v x:=⟨_,rfl⟩;have k0:0<=k:=by grind
 have ey:tD v (x+h)=tD v x+k:=by grind
 rw[<- hk] at s2 s4;have s5:=zQS (u:=tD v x) (h:=k) (i:=j) X0 k0 (by grind) hj M
 rw[ey];have s6:=s5.add s4;have e:aA (tD v x+k) M-aA (tD v x) M-k*j+(k*j-h*i)=aA (tD v x+k) M-aA (tD v x) M-h*i:=by grind
 rw[e] at s6;refine s6.mono ?_;have q:=yE M;have vv:v*v<=1/4:=by have:=Yr Ak hv;grind
 have kh:k<=5/4*h:=by
  have:=Yv vv hh;grind
 have kk:k*k<=25/16*(h*h):=by
  have a:=Yr kh k0;have b:=Yv kh (show 0<=5/4*h by grind)
  grind
 have kq:=Yv kh (Yw q);have ib:=Ys hh hh;have vh:=Yv Ak ib;have hq:=Ys hh (Yw q);grind
end Go.Proofs.YtgmnknmjainabacGreat.Ex
