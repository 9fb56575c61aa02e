/-
  Its own texts.
-/
import Derived.Test.YtgmnknmjainababGreatK23
set_option maxRecDepth 100000
set_option maxHeartbeats 40000000
set_option linter.unnecessarySimpa false
set_option linter.unusedSimpArgs false
set_option linter.unusedVariables false
namespace Go.Proofs.YtgmnknmjainababGreat
open Ex
theorem zGK {B:Nat} {sm:Int × Int} {ws:Int} (hB:8<=B) (hs:Abs sm (Q (B-8))) (bN:sm.1<=sm.2) (hw:sm.2-sm.1<=ws):(zV B sm 1).2-(zV B sm 1).1<=ws+2:=by
 have q:=zG B
 have h1:=zBU (c:=ws) (zC0 hB hs 0) hs (kY B sm 0) bN (by
  have e:(zV B sm 0).2-(zV B sm 0).1=0:=by show Q B-Q B=0;omega
  rw[e];have m:=XR hw (show 0<=Q B by omega)
  have:Q (B-8*0)=Q B:=rfl
  rw[this,Int.mul_zero,Int.mul_comm ws];omega)
 have h2:=zAL (a:=kJ B (zV B sm 0) sm) (n:=1) (d:=((0:Nat):Int)+1) (c:=ws+1) (by omega) (by simp;omega)
 show (zE (kJ B (zV B sm 0) sm) 1 (((0:Nat):Int)+1)).2-(zE (kJ B (zV B sm 0) sm) 1 (((0:Nat):Int)+1)).1<=ws+2
 omega
theorem zN7 {B:Nat} {sm:Int × Int} {ws:Int} (hB:8<=B) (hs:Abs sm (Q (B-8))) (bN:sm.1<=sm.2) (hw:sm.2-sm.1<=ws) (n:Nat):(zV B sm (n+2)).2-(zV B sm (n+2)).1<=ws/64+6:=by
 have QJ:0<=ws:=by omega
 have step:∀ (m:Nat) (c:Int),(zV B sm (m+1)).2-(zV B sm (m+1)).1<=c->0<=c->(zV B sm (m+2)).2-(zV B sm (m+2)).1<=(ws+c+255)/256+2:=λ m c hc c0=>by
  have q:=zG (B-8);have e:=zKE hB;have m1:Q (B-8*(m+1))<=Q (B-8):=zK (by omega)
  have p1:=Int.mul_le_mul m1 hw (by omega) (by omega)
  have p2:=XR hc (show 0<=Q (B-8) by omega)
  have h1:=zBU (c:=(ws+c+255)/256) (zC0 hB hs (m+1)) hs (kY B sm (m+1)) bN (by
   have e2:(ws+c+255)/256*Q B=Q (B-8)*(256*((ws+c+255)/256)):=by rw[e];grind
   rw[e2];have:=XR (show ws+c<=256*((ws+c+255)/256) by omega) (show 0<=Q (B-8) by omega)
   rw[Int.mul_add] at this
   omega)
  have c1:0<=(ws+c+255)/256:=by omega
  have hp:=Yb (show 0<=(ws+c+255)/256+1 by omega) (show 0<=((m+1:Nat):Int) by omega)
  have h2:=zAL (a:=kJ B (zV B sm (m+1)) sm) (n:=1) (d:=((m+1:Nat):Int)+1) (c:=(ws+c+255)/256+1) (by omega) (by
   rw[Int.mul_one,Int.mul_add,Int.mul_one];omega)
  show (zE (kJ B (zV B sm (m+1)) sm) 1 (((m+1:Nat):Int)+1)).2-(zE (kJ B (zV B sm (m+1)) sm) 1 (((m+1:Nat):Int)+1)).1<=_
  omega
 induction n with
 | zero =>
  have:=step 0 (ws+2) (zGK hB hs bN hw) (by omega)
  omega
 | succ n ih =>
  have:=step (n+1) (ws/64+6) ih (by omega)
  omega
theorem zOX {B:Nat} {sm:Int × Int} {ws:Int} (hB:8<=B) (hs:Abs sm (Q (B-8))) (bN:sm.1<=sm.2) (hw:sm.2-sm.1<=ws) (N:Nat):(jE (zV B sm) N).2-(jE (zV B sm) N).1<=ws+2+(N:Int)*(ws/64+6):=by
 have QJ:0<=ws:=by omega
 induction N with
 | zero =>
  show Q B-Q B<=ws+2+((0:Nat):Int)*(ws/64+6)
  have:((0:Nat):Int)=0:=rfl;rw[this,Int.zero_mul];omega
 | succ n ih =>
  have e1:(jE (zV B sm) (n+1)).1=(jE (zV B sm) n).1+(zV B sm (n+1)).1:=rfl;have e2:(jE (zV B sm) (n+1)).2=(jE (zV B sm) n).2+(zV B sm (n+1)).2:=rfl
  have ec:((n+1:Nat):Int)*(ws/64+6)=(n:Int)*(ws/64+6)+(ws/64+6):=by
   have:((n+1:Nat):Int)=(n:Int)+1:=by omega
   rw[this,Int.add_mul,Int.one_mul]
  rw[e1,e2,ec]
  match n with
  | 0 =>
   have w1:=zGK hB hs bN hw;have s:(jE (zV B sm) 0).2-(jE (zV B sm) 0).1=0:=by show Q B-Q B=0;omega
   have z:((0:Nat):Int)=0:=rfl;rw[z,Int.zero_mul];have w2:(zV B sm (0+1)).2-(zV B sm (0+1)).1<=ws+2:=w1;omega
  | n+1 =>
   have w2:(zV B sm (n+1+1)).2-(zV B sm (n+1+1)).1<=ws/64+6:=zN7 hB hs bN hw n;have ih':=ih;generalize (((n+1:Nat):Int))*(ws/64+6)=z at *;omega
def zOU (ws:Int) (t:Nat):Int:=2*ws+340*Q t
theorem exq_ok2 {B t N:Nat} {a:Int × Int} {x:Nat->Rat} {ws:Int} (hB:16<=B) (o7:B<=400) (ha:Iv B a x) (hx:LeN (λ _=>0) x) (hw:a.2-a.1<=ws) (hA:Abs (zN a t) (Q (B-8))) (hN:kG (zV B (zN a t)) N) (hD:2*zOU ws t<=Q B) :
  Q B<=2*(sqI B (zT (zV B (zN a t)) N) t).1/\(sqI B (zT (zV B (zN a t)) N) t).1<=(sqI B (zT (zV B (zN a t)) N) t).2/\(sqI B (zT (zV B (zN a t)) N) t).2<=Q (B+eb t)/\((sqI B (zT (zV B (zN a t)) N) t).2-(sqI B (zT (zV B (zN a t)) N) t).1)*Q B<=zOU ws t*(sqI B (zT (zV B (zN a t)) N) t).2/\Iv B (sqI B (zT (zV B (zN a t)) N) t) (Ev x):=by
 have q:=zG t;have qB:=zG B;have al:=ha.le;have QJ:0<=ws:=by omega
 obtain⟨u,hu⟩:∃ u,u=ws/Q t+1:=⟨_,rfl⟩
 have wu:ws<=u*Q t:=by
  have:=kV ws (show 0<Q t by omega)
  rw[<- hu] at this;omega
 have uw:u*Q t<=ws+Q t:=by
  have:=Int.ediv_mul_le ws (show Q t≠0 by omega)
  have r:u*Q t=ws/Q t*Q t+Q t:=by rw[hu];grind
  omega
 have u0:0<=u:=by have:=Int.ediv_nonneg QJ (show 0<=Q t by omega);omega
 obtain⟨g1,g2,g3,g4⟩:=zI7 (ws:=u) hB hA al (by omega) hN
 have bN:(zN a t).1<=(zN a t).2:=by
  have:=kR (a:=a) (n:=1) (d:=Q t) al (by omega) (by omega)
  simpa [zE,zN] using this
 have dle:=zF5 (kY B (zN a t)) N;have wd:(zN a t).2-(zN a t).1<=u+1:=zC7 (by omega) (by omega)
 have wS:=zOX (by omega) hA bN wd N
 have qA:Bdd (λ M=>x M/(Q t:Rat)):=Has.bdd (ha.down t)
 have qr:=zY t
 have l0:LeN (λ _=>0) (λ M=>x M/(Q t:Rat)):=by
  obtain⟨z,hz,kz⟩:=hx.null;refine LeN.of_null (hz.bmul (Bdd.const (1/(Q t:Rat)))) 0 λ M _=>?_
  have k:=kz M;have ip:(0:Rat)<=1/(Q t:Rat):=jQ qr (by grind)
  have m:=Yc k ip;have e:x M/(Q t:Rat)=x M*(1/(Q t:Rat)):=by rw[Yg,Yg,Rat.one_mul]
  rw[e];grind
 have up:=zQN (zGR (N:=N) (by omega) (ha.down t) hA) (zRL qA l0)
 have kl:=hN.1
 have wD:(zT (zV B (zN a t)) N).2-(zT (zV B (zN a t)) N).1<=(u+1)+2+(N:Int)*((u+1)/64+6)+2:=by
  simp only[zT,jJ];omega
 obtain⟨D,hDD⟩:∃ D,D=zT (zV B (zN a t)) N:=⟨_,rfl⟩;rw[<- hDD] at dle wD up;obtain⟨c,hc⟩:∃ c,c=2*(u+1)+310:=⟨_,rfl⟩;have c0:0<=c:=by omega
 have wC:D.2-D.1<=c:=by
  have m:=XK (show (N:Int)<=51 by omega) (show 0<=(u+1)/64+6 by omega)
  omega
 have tc:Q t*(c+4)<=zOU ws t:=by
  unfold zOU;rw[hc];have r:Q t*(2*(u+1)+310+4)=2*(u*Q t)+316*Q t:=by grind
  omega
 have r4:Q t*(c+4)=Q t*c+4*Q t:=by grind
 have low:Q B-c<=D.1:=by omega
 have rel:(D.2-D.1)*Q B<=c*D.2:=Int.le_trans (XK wC (by omega)) (XR up c0)
 have sl:=zJQ (B:=B) dle c0 t (by omega) low
 have rs:=sqs_rel2 (B:=B) dle c0 low c0 rel t (by omega)
 have iv:=zPY (N:=N) (by omega) ha hA
 rw[<- hDD] at g1 g2 iv ⊢;refine⟨by omega,g1,g2.2.2.2,?_,iv⟩
 refine Int.le_trans rs (XK (by omega) ?_)
 omega
structure zKK (p q r s n d:Int) (B:Nat):Prop where
 p0:0<p
 q0:0<q
 pq:p<=100*q
 qq:q<=2048
 r0:0<r
 s0:0<s
 rs:r<=100*s
 ss:s<=2048
 n0:0<n
 nd:2*n<=d
 dd:d<=4503599627370496
 b0:40<=B
 b1:B<=400
def puU (p q r s n:Int) (k:Nat):Int:=n*(p*s+r*q+((k-1:Nat):Int)*(q*s))
def puD (p q s d:Int) (k:Nat):Int:=d*((p+(k:Int)*q)*s)
def puT (p q r s n d:Int) (B:Nat):Nat->Int × Int:=riT (Q B,Q B) (puU p q r s n) (puD p q s d)
def puN (r s:Int):Nat:=(2*r/s).toNat
theorem pu_n {p q r s n d:Int} {B:Nat} (h:zKK p q r s n d B):(puN r s:Int)=2*r/s/\puN r s<=200:=by
 have r0:=h.r0;have s0:=h.s0;have rs:=h.rs;have q0:0<=2*r/s:=Int.ediv_nonneg (by omega) (by omega)
 have l:2*r/s<201:=Int.ediv_lt_of_lt_mul s0 (by omega)
 unfold puN;exact⟨by omega,by omega⟩
theorem zQ9 {p q r s n d:Int} {B:Nat} (h:zKK p q r s n d B) (k:Nat):0<puD p q s d k:=by
 have:=Yb (show (0:Int)<=(k:Int) by omega) (show 0<=q by have:=h.q0;omega)
 have:=h.p0;have:=h.n0;have:=h.nd;exact Int.mul_pos (by omega) (Int.mul_pos (by omega) h.s0)
theorem zHN {p q r s n d:Int} {B:Nat} (h:zKK p q r s n d B):SeOk (Q B,Q B) (puU p q r s n) (puD p q s d):=by
 have qq:=zG B;have p0:=Int.le_of_lt h.p0;have q0:=Int.le_of_lt h.q0;have r0:=Int.le_of_lt h.r0;have s0:=Int.le_of_lt h.s0;have n0:=Int.le_of_lt h.n0;have nd:=h.nd;have qs:=Yb q0 s0;refine⟨⟨λ k=>Yb n0 ?_,λ k=>zQ9 h k⟩,by show 0<Q B;omega,Int.le_refl _,by show Q B-Q B<=1;omega,λ k hk=>?_⟩
 ·have:=Yb p0 s0
  have:=Yb r0 q0;have:=Yb (show (0:Int)<=((k-1:Nat):Int) by omega) qs
  omega
 ·have e1:puU p q r s n (k+2)=puU p q r s n (k+1)+n*(q*s):=by
   unfold puU;have a1:k+2-1=k+1:=by omega
   have a2:k+1-1=k:=by omega
   rw[a1,a2];have:((k+1:Nat):Int)=(k:Int)+1:=by omega
   rw[this];grind
  have e2:puD p q s d (k+2)=puD p q s d (k+1)+d*(q*s):=by
   unfold puD;have:((k+2:Nat):Int)=((k+1:Nat):Int)+1:=by omega
   rw[this];grind
  rw[e1,e2] at hk;have m:=XK (show n<=d by omega) qs
  omega
theorem pu_k {p q r s n:Int} (k:Nat):puU p q r s n (k+1)=n*(p*s+r*q+(k:Int)*(q*s)):=by
 unfold puU;rw[show k+1-1=k by omega]
theorem pu_34 {p q r s n d:Int} {B:Nat} (h:zKK p q r s n d B) (k:Nat) (hk:puN r s<=k):4*puU p q r s n (k+1)<=3*puD p q s d (k+1):=by
 have p0:=Int.le_of_lt h.p0;have q0:=Int.le_of_lt h.q0;have r0:=Int.le_of_lt h.r0;have s0:=h.s0;have n0:=Int.le_of_lt h.n0;have nd:=h.nd;have f:=kV (2*r) s0;rw[<- (pu_n h).1] at f;have m1:=XK (show (puN r s:Int)+1<=(k:Int)+1 by omega) (Int.le_of_lt s0)
 have m2:=XK (show 2*r<=((k:Int)+1)*s by omega) q0
 have ps:=Yb p0 (Int.le_of_lt s0);have rq:=Yb r0 q0;have qs:=Yb q0 (Int.le_of_lt s0);have kqs:=Yb (show (0:Int)<=(k:Int) by omega) qs
 rw[pu_k];unfold puD;have ec:((k+1:Nat):Int)=(k:Int)+1:=by omega
 rw[ec];generalize (k:Int)=K at *;have e1:(p+(K+1)*q)*s=p*s+(K+1)*s*q:=by grind
 have e2:(K+1)*s*q=K*(q*s)+q*s:=by grind
 have e3:2*r*q=2*(r*q):=by grind
 rw[e1,e2];rw[e2,e3] at m2;generalize p*s=u at *;generalize r*q=v at *;generalize K*(q*s)=w at *;generalize q*s=y at *;have m3:=XK nd (show 0<=u+v+w by omega)
 have m4:=XR (show 2*(u+v+w)<=3*(u+(w+y)) by omega) (show 0<=d by omega)
 have r1:4*(n*(u+v+w))=2*(2*n*(u+v+w)):=by grind
 have r2:d*(2*(u+v+w))=2*(d*(u+v+w)):=by grind
 have r3:d*(3*(u+(w+y)))=3*(d*(u+(w+y))):=by grind
 omega
theorem pu_c {p q r s n d:Int} {B:Nat} (h:zKK p q r s n d B) (k:Nat):puU p q r s n (k+1)<=Q 6*puD p q s d (k+1):=by
 have p0:=Int.le_of_lt h.p0;have q0:=Int.le_of_lt h.q0;have r0:=Int.le_of_lt h.r0;have s0:=Int.le_of_lt h.s0;have n0:=Int.le_of_lt h.n0;have nd:=h.nd;have e6:Q 6=64:=rfl;have ps:=Yb p0 s0;have rq:=Yb r0 q0;have qs:=Yb q0 s0;have kqs:=Yb (show (0:Int)<=(k:Int) by omega) qs
 have m1:=XK h.rs q0;rw[pu_k,e6];unfold puD;have ec:((k+1:Nat):Int)=(k:Int)+1:=by omega
 rw[ec];generalize (k:Int)=K at *;have e1:(p+(K+1)*q)*s=p*s+(K*(q*s)+q*s):=by grind
 have e2:100*s*q=100*(q*s):=by grind
 rw[e1];rw[e2] at m1;generalize p*s=u at *;generalize r*q=v at *;generalize K*(q*s)=w at *;generalize q*s=y at *;have m3:=XK nd (show 0<=u+v+w by omega)
 have m4:=XR (show u+v+w<=128*(u+(w+y)) by omega) (show 0<=d by omega)
 have r1:2*n*(u+v+w)=2*(n*(u+v+w)):=by grind
 have r3:d*(128*(u+(w+y)))=128*(d*(u+(w+y))):=by grind
 omega
theorem pu_set {p q r s n d:Int} {B:Nat} (h:zKK p q r s n d B):∃ N,N<=5100/\zCC (puT p q r s n d B) (puN r s) N:=by
 obtain⟨N,h1,h2⟩:=se_set (zHN h) (H:=B) (c:=6) (turn:=puN r s) (Int.le_refl _) (by have:=h.b0;omega) (pu_c h) (pu_34 h)
 have:=(pu_n h).2;have:=h.b1;exact⟨N,by omega,h2⟩
theorem pu_fit {p q r s n d:Int} {B:Nat} (h:zKK p q r s n d B) (k:Nat) (hk:k<=1000000):(jE (puT p q r s n d B) k).2+9<=Q 1621:=by
 have a:=se_fit (zHN h) (H:=B) (c:=6) (turn:=puN r s) (Int.le_refl _) (by have:=h.b0;omega) (pu_c h) (pu_34 h) k hk
 have:=(pu_n h).2;have:=h.b1;exact Int.le_trans a (zK (by omega))
theorem pu_hi {p q r s n d:Int} {B:Nat} (h:zKK p q r s n d B) (k:Nat):(puT p q r s n d B k).2<=Q 1621:=by
 have a:=se_hi (zHN h) (H:=B) (c:=6) (turn:=puN r s) (Int.le_refl _) (by have:=h.b0;omega) (pu_c h) (pu_34 h) k
 have:=(pu_n h).2;have:=h.b1;exact Int.le_trans a (zK (by omega))
theorem pu_val {p q r s n d:Int} {B:Nat} (h:zKK p q r s n d B) (k M:Nat):riV (λ _=>1) (puU p q r s n) (puD p q s d) k M=(p:Rat)/(q:Rat)*bT ((p:Rat)/(q:Rat)) ((r:Rat)/(s:Rat)) ((n:Rat)/(d:Rat)) k:=by
 have p0:(0:Rat)<(p:Rat):=by exact_mod_cast h.p0
 have q0:(0:Rat)<(q:Rat):=by exact_mod_cast h.q0
 have s0:(0:Rat)<(s:Rat):=by exact_mod_cast h.s0
 have d0:(0:Rat)<(d:Rat):=by exact_mod_cast (show 0<d by have:=h.n0;have:=h.nd;omega)
 have a0:(0:Rat)<(p:Rat)/(q:Rat):=zH p0 q0;have ea:=rdm (a:=(p:Rat)) q0;have eb:=rdm (a:=(r:Rat)) s0;have CB:=rdm (a:=(n:Rat)) d0
 induction k with
 | zero=>rw[zD0 a0];rfl
 | succ k ih =>
  have pD:(0:Rat)<(puD p q s d (k+1):Rat):=by exact_mod_cast zQ9 h (k+1)
  have us:=zA3 a0 ((r:Rat)/(s:Rat)) ((n:Rat)/(d:Rat)) k;have up:=zBI a0 k
  show (puU p q r s n (k+1):Rat)/(puD p q s d (k+1):Rat)*riV (λ _=>1) (puU p q r s n) (puD p q s d) k M=_
  rw[ih]
  have eD:(puD p q s d (k+1):Rat)=(d:Rat)*(q:Rat)*(s:Rat)*((p:Rat)/(q:Rat)+((k:Rat)+1)):=by
   unfold puD;rw[Ye,Ye,Rat.intCast_add,Ye];have:(((k+1:Nat):Int):Rat)=(k:Rat)+1:=by push_cast;rfl
   rw[this];have:(d:Rat)*(q:Rat)*(s:Rat)*((p:Rat)/(q:Rat)+((k:Rat)+1))=(d:Rat)*(s:Rat)*((p:Rat)/(q:Rat)*(q:Rat)+((k:Rat)+1)*(q:Rat)):=by grind
   rw[this,ea];grind
  have eU:(puU p q r s n (k+1):Rat)=(d:Rat)*(q:Rat)*(s:Rat)*(((n:Rat)/(d:Rat))*((p:Rat)/(q:Rat)+(r:Rat)/(s:Rat)+(k:Rat))):=by
   rw[pu_k,Ye,Rat.intCast_add,Rat.intCast_add,Ye,Ye,Ye,Ye];have ck:((k:Int):Rat)=(k:Rat):=rfl;rw[ck];have:(d:Rat)*(q:Rat)*(s:Rat)*(((n:Rat)/(d:Rat))*((p:Rat)/(q:Rat)+(r:Rat)/(s:Rat)+(k:Rat)))=((n:Rat)/(d:Rat)*(d:Rat))*(((p:Rat)/(q:Rat)*(q:Rat))*(s:Rat)+((r:Rat)/(s:Rat)*(s:Rat))*(q:Rat)+(k:Rat)*((q:Rat)*(s:Rat))):=by grind
   rw[this,CB,ea,eb]
  have dq:=Rat.mul_pos (Rat.mul_pos d0 q0) s0;have e4:=rdm (a:=(puU p q r s n (k+1):Rat)) pD;generalize bT ((p:Rat)/(q:Rat)) ((r:Rat)/(s:Rat)) ((n:Rat)/(d:Rat)) k=u at *;generalize bT ((p:Rat)/(q:Rat)) ((r:Rat)/(s:Rat)) ((n:Rat)/(d:Rat)) (k+1)=u1 at *;generalize (puU p q r s n (k+1):Rat)/(puD p q s d (k+1):Rat)=t at *;rw[eD,eU] at e4;generalize (p:Rat)/(q:Rat)=a at *;generalize (r:Rat)/(s:Rat)=b at *;generalize (n:Rat)/(d:Rat)=x at *;generalize (d:Rat)*(q:Rat)*(s:Rat)=e at *;refine zS (c:=e*(a+((k:Rat)+1))) (Rat.mul_pos dq up) ?_;have r1:e*(a+((k:Rat)+1))*(t*(a*u))=t*(e*(a+((k:Rat)+1)))*(a*u):=by grind
  have r2:e*(a+((k:Rat)+1))*(a*u1)=e*a*((a+((k:Rat)+1))*u1):=by grind
  rw[r1,r2,e4,us];grind
def zAY (p q r s n d:Int) (B N:Nat):Int × Int:=zBD (puT p q r s n d B) N
theorem pu_has {p q r s n d:Int} {B N:Nat} (h:zKK p q r s n d B) (hN:zCC (puT p q r s n d B) (puN r s) N):Iv B (zAY p q r s n d B N) (λ M=>(p:Rat)/(q:Rat)*bS ((p:Rat)/(q:Rat)) ((r:Rat)/(s:Rat)) ((n:Rat)/(d:Rat)) M):=by
 have t:=zG7 (zHN h).ok (zMZ B) 0 (λ M _=>by grind) (λ k hk=>pu_34 h k hk) hN
 refine Has.of_eq t λ M=>?_
 have:∀ m,(p:Rat)/(q:Rat)*S (bT ((p:Rat)/(q:Rat)) ((r:Rat)/(s:Rat)) ((n:Rat)/(d:Rat))) m=S (λ k=>riV (λ _=>1) (puU p q r s n) (puD p q s d) k M) m:=λ m=>by
  induction m with
  | zero=>show (p:Rat)/(q:Rat)*0=0;grind
  | succ m ih =>
   show (p:Rat)/(q:Rat)*(S (bT ((p:Rat)/(q:Rat)) ((r:Rat)/(s:Rat)) ((n:Rat)/(d:Rat))) m+bT ((p:Rat)/(q:Rat)) ((r:Rat)/(s:Rat)) ((n:Rat)/(d:Rat)) m)=S (λ k=>riV (λ _=>1) (puU p q r s n) (puD p q s d) k M) m+riV (λ _=>1) (puU p q r s n) (puD p q s d) m M
   rw[<- ih,pu_val h m M];grind
 exact this M
structure LgP3 (x:Nat->Rat) (B:Nat) (l u:Int):Prop where
 le:l<=u
 wd:u-l<=60000000*((B:Int)*(B:Int))+540000000
 ab:Abs (l,u) (360000*Q B)
 iv:Iv B (l,u) x
theorem lgP3_of {x y z:Nat->Rat} {B:Nat} {l1 u1 l2 u2 l3 u3:Int} (h1:LgP2 x B l1 u1) (h2:LgP2 y B l2 u2) (h3:LgP2 z B l3 u3):LgP3 (λ M=>x M+y M-z M) B (l1+l2-u3) (u1+u2-l3):=by
 have iv:Iv B (zAF (jJ (l1,u1) (l2,u2)) (l3,u3)) (λ M=>x M+y M-z M):=(h1.iv.add h2.iv).sub h3.iv
 have a1:=h1.wd;have a2:=h2.wd;have a3:=h3.wd;have b1:=h1.le;have b2:=h2.le;have b3:=h3.le;obtain⟨x1,x2,x3,x4⟩:=h1.ab;obtain⟨y1,y2,y3,y4⟩:=h2.ab;obtain⟨z1,z2,z3,z4⟩:=h3.ab;simp only[] at x1 x2 x3 x4 y1 y2 y3 y4 z1 z2 z3 z4;refine⟨by omega,by omega,?_,iv⟩
 exact⟨by show _<=l1+l2-u3;omega,by show l1+l2-u3<=_;omega,by show _<=u1+u2-l3;omega,by show u1+u2-l3<=_;omega⟩
def puY (p q r s:Int) (o1 o2 o3 g:Int × Int):Int × Int:=jJ (jJ (zE o1 p q) (zE o2 r s)) (jJ o3 g)
def puW (B:Nat):Int:=60000000*((B:Int)*(B:Int))+600000000
theorem zLN {L:Rat->Nat->Rat} {x:Rat} {B:Nat} {o:Int × Int} {p q:Int} (ho:zDE L x B o) (p0:0<p) (q0:0<q) (pq:p<=100*q):(zE o p q).1<=(zE o p q).2/\(zE o p q).2-(zE o p q).1<=100*(132*(2*(B:Int)+14))+1/\Abs (zE o p q) (26400*Q B):=by
 have Qp:=zG B;have sl:=kR (a:=o) (n:=p) (d:=q) ho.le q0 (by omega)
 have sw:=zAL (a:=o) (n:=p) (d:=q) (c:=100*(o.2-o.1)) q0 (by
  have m:=XR pq (show 0<=o.2-o.1 by have:=ho.le;omega)
  have r:(o.2-o.1)*(100*q)=100*(o.2-o.1)*q:=by grind
  omega)
 obtain⟨a1,a2,a3,a4⟩:=ho.ab;have wd:=ho.wd;refine⟨sl,by omega,?_⟩
 have t1:=yJ (x:=o.1) (y:=p) (m:=264*Q B) (n:=100*q) a1 a2 (by omega) pq
 have t2:=yJ (x:=o.2) (y:=p) (m:=264*Q B) (n:=100*q) a3 a4 (by omega) pq
 have r:264*Q B*(100*q)=26400*Q B*q:=by grind
 rw[r] at t1 t2;have r1:=jA q0 t1.1 t1.2;have r2:=jA q0 t2.1 t2.2;exact⟨r1.1,r1.2.1,r2.2.2.1,r2.2.2.2⟩
theorem puY_ok {L:Rat->Nat->Rat} {p q r s n d:Int} {B:Nat} {o1 o2 o3:Int × Int} {l u:Int} {X:Nat->Rat} {y z:Rat} (h:zKK p q r s n d B) (h1:zDE L y B o1) (h2:zDE L z B o2) (h3:zDE L ((p:Rat)/(q:Rat)) B o3) (hg:LgP3 X B l u):(puY p q r s o1 o2 o3 (l,u)).1<=(puY p q r s o1 o2 o3 (l,u)).2/\(puY p q r s o1 o2 o3 (l,u)).2-(puY p q r s o1 o2 o3 (l,u)).1<=puW B/\Abs (puY p q r s o1 o2 o3 (l,u)) (413064*Q B)/\Iv B (puY p q r s o1 o2 o3 (l,u)) (bY L ((p:Rat)/(q:Rat)) ((r:Rat)/(s:Rat)) y z X):=by
 have b0:=h.b0;have b1:=h.b1;have Qp:=zG B;obtain⟨x1,x2,x3,x4,x5,x6⟩:=zLN h1 h.p0 h.q0 h.pq;obtain⟨y1,y2,y3,y4,y5,y6⟩:=zLN h2 h.r0 h.s0 h.rs;have w3:=h3.wd;have l3:=h3.le;obtain⟨c1,c2,c3,c4⟩:=h3.ab;have gl:=hg.le;have gw:=hg.wd;obtain⟨z1,z2,z3,z4⟩:=hg.ab;simp only[] at z1 z2 z3 z4;have e1:(puY p q r s o1 o2 o3 (l,u)).1=(zE o1 p q).1+(zE o2 r s).1+(o3.1+l):=rfl;have e2:(puY p q r s o1 o2 o3 (l,u)).2=(zE o1 p q).2+(zE o2 r s).2+(o3.2+u):=rfl;refine⟨by omega,?_,⟨by omega,by omega,by omega,by omega⟩,?_⟩
 ·unfold puW
  omega
 ·have i1:=h1.iv.scale (n:=p) (d:=q) (by have:=h.p0;omega) h.q0
  have i2:=h2.iv.scale (n:=r) (d:=s) (by have:=h.r0;omega) h.s0
  exact Has.of_eq ((i1.add i2).add (h3.iv.add hg.iv)) λ M=>rfl
theorem pu_exD {B t:Nat} (h0:40<=B) (h1:B<=400) (ht:t<=27):2*zOU (puW B) t<=Q B/\zOU (puW B) t<=1000000000000000:=by
 have qt:=zK ht;have e27:Q 27=134217728:=rfl;have q0:=zG t
 have go:∀ b:Int,(B:Int)<=b->zOU (puW B) t<=2*(60000000*(b*b)+600000000)+45634027520:=λ b hb=>by
  have bb:=zH3 hb hb (by omega) (by omega)
  unfold zOU puW;omega
 by_cases c1:B<=47
 ·have g:=go 47 (by omega)
  have q:=zK h0;have e:Q 40=1099511627776:=rfl;omega
 ·have g:=go 400 (by omega)
  have q:=zK (show 48<=B by omega)
  have e:Q 48=281474976710656:=rfl;omega
def puE (p q r s:Int) (B:Nat) (o1 o2 o3 g:Int × Int) (t N:Nat):Int × Int:=sqI B (zT (zV B (zN (puY p q r s o1 o2 o3 g) t)) N) t
theorem bp_x {p q r s n d:Int} {B:Nat} (h:zKK p q r s n d B):(0:Rat)<(p:Rat)/(q:Rat)/\(0:Rat)<(r:Rat)/(s:Rat)/\(0:Rat)<(n:Rat)/(d:Rat)/\(n:Rat)/(d:Rat)<1/\(n:Rat)/(d:Rat)*((d:Rat)/(n:Rat))=1/\(1-(n:Rat)/(d:Rat))*((d:Rat)/((d-n:Int):Rat))=1/\(0:Rat)<(d:Rat)/(n:Rat)/\(0:Rat)<(d:Rat)/((d-n:Int):Rat):=by
 have n0:=h.n0;have nd:=h.nd;have pr:(0:Rat)<(p:Rat):=by exact_mod_cast h.p0
 have qr:(0:Rat)<(q:Rat):=by exact_mod_cast h.q0
 have rr:(0:Rat)<(r:Rat):=by exact_mod_cast h.r0
 have sr:(0:Rat)<(s:Rat):=by exact_mod_cast h.s0
 have nr:(0:Rat)<(n:Rat):=by exact_mod_cast n0
 have dr:(0:Rat)<(d:Rat):=by exact_mod_cast (show 0<d by omega)
 have lr:(0:Rat)<((d-n:Int):Rat):=by exact_mod_cast (show 0<d-n by omega)
 have le:((d-n:Int):Rat)=(d:Rat)-(n:Rat):=Rat.intCast_sub _ _;have e1:=rdm (a:=(n:Rat)) dr;have e2:=rdm (a:=(d:Rat)) nr;have e3:=rdm (a:=(d:Rat)) lr;refine⟨zH pr qr,zH rr sr,zH nr dr,?_,?_,?_,zH dr nr,zH dr lr⟩
 ·refine Rat.lt_of_mul_lt_mul_right (c:=(d:Rat)) ?_ (XV dr)
  rw[e1];have:(n:Rat)<(d:Rat):=by exact_mod_cast (show n<d by omega)
  grind
 ·generalize (n:Rat)/(d:Rat)=u at *
  generalize (d:Rat)/(n:Rat)=v at *;refine zS (c:=(n:Rat)) nr ?_;have:(n:Rat)*(u*v)=u*(v*(n:Rat)):=by grind
  rw[this,e2,e1];grind
 ·generalize (n:Rat)/(d:Rat)=u at *
  generalize (d:Rat)/((d-n:Int):Rat)=v at *;refine zS (c:=(d:Rat)) dr ?_;have:(d:Rat)*((1-u)*v)=((d:Rat)-u*(d:Rat))*v:=by grind
  rw[this,e1,<- le];grind
theorem pu_okE {L:Rat->Nat->Rat} (hL:Lns L) {p q r s n d:Int} {B t N NS:Nat} {o1 o2 o3:Int × Int} {l u:Int} {X:Nat->Rat} (h:zKK p q r s n d B) (hX:IsLog X (bJ L ((p:Rat)/(q:Rat)) ((r:Rat)/(s:Rat)))) (h1:zDE L ((d:Rat)/(n:Rat)) B o1) (h2:zDE L ((d:Rat)/((d-n:Int):Rat)) B o2) (h3:zDE L ((p:Rat)/(q:Rat)) B o3) (hg:LgP3 X B l u) (ht:t<=27) (hA:Abs (zN (puY p q r s o1 o2 o3 (l,u)) t) (Q (B-8))) (hN:kG (zV B (zN (puY p q r s o1 o2 o3 (l,u)) t)) N) (hS:NS<=5100) (Eo:zCC (puT p q r s n d B) (puN r s) NS) :
  0<(puE p q r s B o1 o2 o3 (l,u) t N).1/\(puE p q r s B o1 o2 o3 (l,u) t N).1<=(puE p q r s B o1 o2 o3 (l,u) t N).2/\0<=(zAY p q r s n d B NS).1/\(zAY p q r s n d B NS).1<=(zAY p q r s n d B NS).2/\LwPr (bv L ((p:Rat)/(q:Rat)) ((r:Rat)/(s:Rat)) ((n:Rat)/(d:Rat))) B (zEZ (zAY p q r s n d B NS).1 (zAY p q r s n d B NS).2 (puE p q r s B o1 o2 o3 (l,u) t N).1 (puE p q r s B o1 o2 o3 (l,u) t N).2 B) (luHi (zAY p q r s n d B NS) (puE p q r s B o1 o2 o3 (l,u) t N) B):=by
 have b0:=h.b0;have b1:=h.b1;have qB:=zG B;obtain⟨a0,bb0,x0,x1,xy,xz,yp,zp⟩:=bp_x h;obtain⟨s1,s2,s3⟩:=se_ok (zHN h) NS;obtain⟨y1,y2,y3,y4⟩:=puY_ok h h1 h2 h3 hg;obtain⟨D1,D2⟩:=pu_exD b0 b1 ht;obtain⟨e1,e2,e3,e4,e5⟩:=exq_ok2 (t:=t) (N:=N) (by omega) b1 y4 (zPQ hL a0 bb0 x0 x1 xy xz yp zp hX) y2 hA hN D1
 have D0:0<=zOU (puW B) t:=by
  have:=zG t;have:=Yb (show (0:Int)<=(B:Int) by omega) (show (0:Int)<=(B:Int) by omega)
  unfold zOU puW;omega
 have si:=pu_has h Eo
 have QK:0<=(zAY p q r s n d B NS).1:=by
  have:Q B<=(zAY p q r s n d B NS).1:=s1;omega
 have ee:(puE p q r s B o1 o2 o3 (l,u) t N)=sqI B (zT (zV B (zN (puY p q r s o1 o2 o3 (l,u)) t)) N) t:=rfl;have es:zAY p q r s n d B NS=zBD (riT (Q B,Q B) (puU p q r s n) (puD p q s d)) NS:=rfl;rw[<- ee] at e1 e2 e3 e4 e5;rw[<- es] at s1 s2 s3;have dv:=(Iv.dv si e5 QK (by omega)).congr (bv_quot hL a0 bb0 x0 x1 xy xz yp zp hX)
 refine⟨by omega,e2,QK,s2,part_ok (C:=(1+2*(NS:Int))*((NS:Int)+2)+9) (D:=zOU (puW B) t) b0 QK s2 (by omega) e2 ?_ D0 ?_ D2 (by omega) s3 e4 dv (zQY hL a0 bb0 x0 x1)⟩
 ·have:=Yb (show 0<=1+2*(NS:Int) by omega) (show 0<=(NS:Int)+2 by omega)
  omega
 ·have:=zH3 (show 1+2*(NS:Int)<=10201 by omega) (show (NS:Int)+2<=5102 by omega) (by omega) (by omega)
  omega
theorem pu_exp {L:Rat->Nat->Rat} {p q r s n d:Int} {B NS:Nat} {o1 o2 o3:Int × Int} {lg ug:Int} {X:Nat->Rat} (h:zKK p q r s n d B) (h1:zDE L ((d:Rat)/(n:Rat)) B o1) (h2:zDE L ((d:Rat)/((d-n:Int):Rat)) B o2) (h3:zDE L ((p:Rat)/(q:Rat)) B o3) (hg:LgP3 X B lg ug) (hL:Lns L) (hX:IsLog X (bJ L ((p:Rat)/(q:Rat)) ((r:Rat)/(s:Rat)))) (hS:NS<=5100) (Eo:zCC (puT p q r s n d B) (puN r s) NS) :
  ∃ (l:Int) (t NE:Nat),zDZ (zP (puY p q r s o1 o2 o3 (lg,ug))) l/\(t:Int)=max 0 (l-B+8)/\t<=27/\Abs (zN (puY p q r s o1 o2 o3 (lg,ug)) t) (Q (B-8))/\kG (zV B (zN (puY p q r s o1 o2 o3 (lg,ug)) t)) NE/\Q (B+eb t)<P 98400/\(puY p q r s o1 o2 o3 (lg,ug)).1<=(puY p q r s o1 o2 o3 (lg,ug)).2 /\
   (0<(puE p q r s B o1 o2 o3 (lg,ug) t NE).1/\(puE p q r s B o1 o2 o3 (lg,ug) t NE).1<=(puE p q r s B o1 o2 o3 (lg,ug) t NE).2/\0<=(zAY p q r s n d B NS).1/\(zAY p q r s n d B NS).1<=(zAY p q r s n d B NS).2/\LwPr (bv L ((p:Rat)/(q:Rat)) ((r:Rat)/(s:Rat)) ((n:Rat)/(d:Rat))) B (zEZ (zAY p q r s n d B NS).1 (zAY p q r s n d B NS).2 (puE p q r s B o1 o2 o3 (lg,ug) t NE).1 (puE p q r s B o1 o2 o3 (lg,ug) t NE).2 B) (luHi (zAY p q r s n d B NS) (puE p q r s B o1 o2 o3 (lg,ug) t NE) B)):=by
 obtain⟨y1,y2,y3,y4⟩:=puY_ok h h1 h2 h3 hg;have b0:=h.b0;have b1:=h.b1;have qB:=zG B
 have t:zP (puY p q r s o1 o2 o3 (lg,ug))<Q (B+19):=by
  have a:=zAE y3;have e:Q (B+19)=Q B*Q 19:=jD B 19;have vM:Q 19=524288:=rfl;rw[vM] at e;omega
 obtain⟨l,t,NE,e1,e2,e3,e4,e5⟩:=zRK (B:=B) (e:=19) (by omega) y1 t
 refine⟨l,t,NE,e1,e2,by omega,e4,e5,?_,y1,pu_okE hL h hX h1 h2 h3 hg (by omega) e4 e5 hS Eo⟩
 rw[<- Q_P];have ebm:=zFG (show t<=27 by omega)
 have QL:eb 27=1572864:=by decide
 rw[QL] at ebm;have h1:=zK (show B+eb t+1<=16*98400 by omega)
 have h2:∀ j,Q (j+1)=2*Q j:=λ _=>rfl
 rw[h2] at h1;have:=zG (B+eb t);generalize Q (B+eb t)=y at *;generalize Q (16*98400)=z at *;omega
open Go.RowKit
attribute [local go_sem ↓] Go.wp_at_zero Go.wp_at_succ
def zKR (n d:Int) (b:Nat) (x:Nat->Rat):Prop:=∀ w':World,Calls Tryz.prog 61 #[.int .i64 n,.int .i64 d,.int .i64 b] w' (λ r Ci=>∃ lo hi,LgP2 x b lo hi/\zJ w' b 521 lo hi r Ci)
def rok2 (p q:Int):Prop := -1048576<=p/\p<=1048576/\1<=q/\q<=2048
theorem zJO {p q:Int} (h1 : -1048576<=p) (h2:p<=1048576) (h3:0<=q) (h4:q<=2048) : -2147483648<=p*q/\p*q<=2147483648:=by
 have:=yJ (x:=p) (y:=q) (m:=1048576) (n:=2048) h1 h2 (by omega) h4
 omega
theorem zJD (w:World) (p1 q1 p2 q2:Int) (h1:rok2 p1 q1) (h2:rok2 p2 q2) :
  Calls Tryz.prog 117 #[.agg #[.int .i64 p1,.int .i64 q1],.agg #[.int .i64 p2,.int .i64 q2]] w (λ r w'=>r=.returned (.agg #[.int .i64 (p1*q2+p2*q1),.int .i64 (q1*q2)])/\Below w.heap.size w w'):=by
 obtain⟨a1,a2,a3,a4⟩:=h1;obtain⟨b1,b2,b3,b4⟩:=h2;obtain⟨c1,c2⟩:=zJO a1 a2 (show 0<=q2 by omega) b4
 obtain⟨d1,d2⟩:=zJO b1 b2 (show 0<=q1 by omega) a4
 obtain⟨e1,e2⟩:=zJO (p:=q1) (by omega) (by omega) (show 0<=q2 by omega) b4
 go_enter Tryz.func117,Tryz.ntmps117
 go_wp2_with fail;refine bodyPost_ret (v:=.agg #[.int .i64 (p1*q2+p2*q1),.int .i64 (q1*q2)]) (by simp[results,Tryz.results117,go_sem]) rfl ⟨rfl,?_⟩
 exact bl3 _ _ _ _
theorem zJX (w:World) (p1 q1 p2 q2:Int) (b:Nat) (x y z:Nat->Rat) (h1:rok2 p1 q1) (h2:rok2 p2 q2) (L1:zKR p1 q1 b x) (L2:zKR p2 q2 b y) (L3:zKR (p1*q2+p2*q1) (q1*q2) b z) :
  Calls Tryz.prog 63 #[.agg #[.int .i64 p1,.int .i64 q1],.agg #[.int .i64 p2,.int .i64 q2],.int .i64 b] w (λ r w'=>∃ lo hi,LgP3 (λ M=>x M+y M-z M) b lo hi/\zJ w b 523 lo hi r w'):=by
 obtain⟨W,hW⟩:∃ W,W=((w.alloc (.cells #[.int .i64 p1,.int .i64 q1] 23)).alloc (.cells #[.int .i64 p2,.int .i64 q2] 23)).alloc (.cells zCq 28):=⟨_,rfl⟩;have b8:Below w.heap.size w W:=by rw[hW];exact bl3 _ _ _ _
 have A:RaC W w.heap.size p1 q1:=by rw[hW];constructor<;>simp[go_sem]
 have D:RaC W (w.heap.size+1) p2 q2:=by rw[hW];constructor<;>simp[go_sem]
 have R:NoC W (w.heap.size+1+1):=by rw[hW];constructor<;>simp[go_sem]
 have H1:=zC L1;have H2:=zC L2;have H3:=zC L3;have HR:=zC (And.intro h1 h2);have lA:=A.lt;have lD:=D.lt;have dR:=A.c0;have dS:=A.c1;have jh:=D.c0;have ji:=D.c1;clear L1 L2 L3 h1 h2
 go_enter Tryz.func63,Tryz.ntmps63
 go_wp2_with fail;rw[<- hW];clear hW dR dS jh ji;refine (zJD _ p1 q1 p2 q2 (zA HR).1 (zA HR).2).mono ?_;rintro r w1 ⟨rfl,b7⟩;replace A:=A.bw b7;replace D:=D.bw b7;replace R:=R.bw b7;replace b8:=zB b8 b7;clear b7 lA lD;have lR:=R.lt;obtain⟨V,hV⟩:∃ V,V=w1.alloc (.cells #[.int .i64 (p1*q2+p2*q1),.int .i64 (q1*q2)] 23):=⟨_,rfl⟩;have bV:Below w1.heap.size w1 V:=by rw[hV];exact bl1 _ _
 have E:RaC V w1.heap.size (p1*q2+p2*q1) (q1*q2):=by rw[hV];exact zO5 w1 _ _ _
 replace A:=A.bw bV;replace D:=D.bw bV;replace R:=R.bw bV;replace b8:=zB b8 bV;have lA:=A.lt;have lD:=D.lt;have lE:=E.lt;have HK:=zC (show ∀ w',Below V.heap.size V w'->(rK w' w.heap.size p1 q1 (rK w' ((w.heap.size+1)) p2 q2 (w'.cell? ⟨w1.heap.size,0,none⟩=some (.int .i64 (p1*q2+p2*q1))/\w'.cell? ⟨w1.heap.size,1,none⟩=some (.int .i64 (q1*q2))))) from λ w' hB=>⟨(A.bw hB).c0,(A.bw hB).c1,(D.bw hB).c0,(D.bw hB).c1,(E.bw hB).c0,(E.bw hB).c1⟩)
 clear bV;go_wp2_with fail;rw[<- hV];clear hV
 go_cut [8] (λ p wx=>∃ (B:Nat) (u:Sp) (l1 u1 l2 u2:Int),p=.pointer (some ⟨B,0,none⟩)/\LgP2 x b l1 u1/\LgP2 y b l2 u2/\V.heap.size<=B/\VrC wx B u/\SpAt wx u 522 (((l1+l2,u1+u2):Int × Int)).1 (((l1+l2,u1+u2):Int × Int)).2/\u.bits=(b:Int)/\Below V.heap.size V wx)
 case first =>
  go_region_held3 (λ w'=>rK w' w.heap.size p1 q1 (rK w' ((w.heap.size+1)) p2 q2 (w'.cell? ⟨w1.heap.size,0,none⟩=some (.int .i64 (p1*q2+p2*q1))/\w'.cell? ⟨w1.heap.size,1,none⟩=some (.int .i64 (q1*q2))))) (exact zA HK _ (by repeat' (first|with_reducible exact Ah|with_reducible exact nX|with_reducible exact nY|with_reducible exact Below.refl _ _|with_reducible refine Below.drew ?_|with_reducible refine zL ?_ _|with_reducible refine Below.setCell ?_ (by first|exact XW _|exact Ai|exact Aj|exact Ak) _)))
   (first
    | (go_at_call 113;have hq:=nX;refine (zA5 _ vE1 vE2 521 b (l1,u1) (l2,u2) ((QM.bw Al).bw (by with_reducible first|exact Below.refl _ _|exact bl1 _ _)) (QN.bw (by with_reducible first|exact Below.refl _ _|exact bl1 _ _)) (by omega) (zA GP)).mono ?_;rintro r wE3 ⟨vE3,rfl,sZ,QO,Am⟩;have GQ:=zC sZ;clear sZ;have Ao:Below Ka.heap.size Ka wE3:=(by with_reducible first|exact Am|exact zB (bl1 _ _) Am);have Ah:=zB nX Ao;(try with_reducible have gE3:=(zM Ka 28).bw Am);(try replace gE1:=gE1.bw Ao);(try replace gE2:=gE2.bw Ao);have Ak:=Ah.size;(try have mE1:=gE1.lt);(try have eE1:=Yj mE1);(try have eE1':=Yi mE1);(try obtain⟨QP,QQ,QS,QT,QV,zE15⟩:=gE1);(try have mE2:=gE2.lt);(try have eE2:=Yj mE2);(try have eE2':=Yi mE2);(try obtain⟨QW,QX,QY,QZ,Ra,zE25⟩:=gE2);(try have mE3:=gE3.lt);(try have eE3:=Yj mE3);(try have eE3':=Yi mE3);(try obtain⟨Rb,Rc,Re,Rf,Rg,zE35⟩:=gE3))
    | (go_at_call 61;have hq:=nY;refine (zA H2 _).mono ?_;rintro r Ka ⟨l2,u2,Y7,vE2,rfl,td,QN,Ap⟩;have HVBE2:=zC td;have Rh:=zC Y7;clear td Y7;have Al:Below Kb.heap.size Kb Ka:=(by with_reducible first|exact Ap|exact zB (bl1 _ _) Ap);have nX:=zB nY Al;(try with_reducible have gE2:=(zM Kb 28).bw Ap);(try replace gE1:=gE1.bw Al);have Aj:=nX.size)
    | (go_at_call 61;refine (zA H1 _).mono ?_;rintro r Kb ⟨l1,u1,en,vE1,rfl,th,QM,Aq⟩;have GP:=zC th;have Ri:=zC en;clear th en;have nY:Below V.heap.size V Kb:=(by with_reducible first|exact zB (Below.refl _ _).drew Aq|exact zB (bl1 _ _).drew Aq);(try with_reducible have gE1:=((zM V 28).bw (Below.refl _ _).drew).bw Aq);have Ai:=nY.size))
  all_goals
   have hfinE:SpAt wE3 vE3 522 (((l1+l2,u1+u2):Int × Int)).1 (((l1+l2,u1+u2):Int × Int)).2:=QO;go_wp2_with fail;go_meet;refine⟨_,vE3,l1,u1,l2,u2,rfl,zA Ri,zA Rh,?_,⟨⟨?_,?_,?_,?_,?_⟩,?_⟩,?_,zA GQ,?_⟩
   ·first|exact XW _|exact Ai|exact Aj|exact Ak
   ·simp[go_sem, *]
   ·simp[go_sem, *]
   ·simp[go_sem, *]
   ·simp[go_sem, *]
   ·simp[go_sem, *]
   ·intro o;simp[go_sem, *]
   ·first|with_reducible exact SpAt.put5 hfinE Rb Rc Re Rf Rg _ _ _ _ _|with_reducible exact SpAt.put5 hfinE QW QX QY QZ Ra _ _ _ _ _|with_reducible exact SpAt.put5 hfinE QP QQ QS QT QV _ _ _ _ _|with_reducible exact hfinE.bw (bl1 _ _)
   ·repeat' (first|with_reducible exact Ah|with_reducible exact nX|with_reducible exact nY|with_reducible exact Below.refl _ _|with_reducible refine Below.drew ?_|with_reducible refine zL ?_ _|with_reducible refine Below.setCell ?_ (by first|exact XW _|exact Ai|exact Aj|exact Ak) _)
 case rest =>
 obtain⟨BE,xE,l1,u1,l2,u2,rfl,en,Y7,hHE,XE,hpE,hxbE,hblE⟩:=hcut;replace A:=A.bw hblE;replace D:=D.bw hblE;replace E:=E.bw hblE;have Y1:=R.lt;replace R:=R.bw hblE;replace b8:=zB b8 hblE;have HEB:=zC hxbE;have HEP:=zC hpE;have Qn:=zC en;have Ql:=zC Y7;have lXE:=XE.lt;have iI:=zC (show ∀ w',Below wc.heap.size wc w'->(rK w' w.heap.size p1 q1 (rK w' ((w.heap.size+1)) p2 q2 (w'.cell? ⟨w1.heap.size,0,none⟩=some (.int .i64 (p1*q2+p2*q1))/\w'.cell? ⟨w1.heap.size,1,none⟩=some (.int .i64 (q1*q2))/\cK0 w' BE xE))) from λ w' hB=>⟨(A.bw hB).c0,(A.bw hB).c1,(D.bw hB).c0,(D.bw hB).c1,(E.bw hB).c0,(E.bw hB).c1,(XE.c.bw hB).c0,(XE.c.bw hB).c1,(XE.c.bw hB).c2,(XE.c.bw hB).c3,(XE.c.bw hB).c4⟩)
 have IY:=A.lt;have Pt:=D.lt;have lE2:=E.lt;have lQ:=R.lt;have n1:w.heap.size+1+1≠w.heap.size:=by omega
 have n2:w.heap.size+1+1≠w.heap.size+1:=by omega
 have n3:w.heap.size+1+1≠w1.heap.size:=by omega
 have n4:w.heap.size+1+1≠BE:=by omega
 clear hxbE hpE en Y7 HK hblE A D E XE;have m8:Below wc.heap.size wc wc.drew:=(Below.refl _ _).drew;obtain⟨x0,x1,x2,x3,x4,x5,y0,y1,y2,y3,y4⟩:=zA iI _ (Below.refl _ _);go_wp2_with fail
 go_region_held3 (λ w'=>rK w' w.heap.size p1 q1 (rK w' ((w.heap.size+1)) p2 q2 (w'.cell? ⟨w1.heap.size,0,none⟩=some (.int .i64 (p1*q2+p2*q1))/\w'.cell? ⟨w1.heap.size,1,none⟩=some (.int .i64 (q1*q2))/\cK0 w' BE xE))) (first|exact zA iI _ (by with_reducible first|exact m8|exact j9|exact j7)|(dsimp only[cK,cK0,nK,nK0,rK,rK0];go_keep)|go_keep)
  (first
   | (go_at_call 118;have H7:=j7;refine (zMH _ xE v1 522 b (l1+l2,u1+u2) (l3,u3) ((zA HEP).bw j7) (k9.mono (by omega)) (by omega) (zA HEB)).mono ?_;rintro r' w5 ⟨t,rfl,I7,Q9,b9⟩;have HT:=zC I7;clear I7;have j9:=zB j7 b9;obtain⟨q0,nQ,gN,q3,q4,q5⟩:=R.bw j9;obtain⟨i0,i1,i2,i3,i4,i5,j0,j1,j2,j3,j4⟩:=zA iI _ j9)
   | (go_at_call 61;refine (zA H3 _).mono ?_;rintro r' w4 ⟨l3,u3,pW,v1,rfl,D6,k9,b7⟩;have Qk:=zC pW;clear D6 pW;have j7:=zB m8 b7))
 all_goals
  go_wp2_with fail;refine bodyPost_ret (v:=.agg t.q) (by simp[results,Tryz.results63,go_sem,q0,nQ,gN,q3,q4]) rfl ⟨_,_,lgP3_of (zA Qn) (zA Ql) (zA Qk),t,rfl,zA HT,?_,?_⟩
  ·exact SpAt.put5 Q9 q0 nQ gN q3 q4 _ _ _ _ _
  ·exact kB (zB b8 j9) (by omega) _ _ _ _ _
theorem pt1_iv (w:World) (B0 B1 B2 B3 B4:Nat) (v:Sp) (x y:Nm) (k b:Nat) (j:Int) (a:Int × Int) (bn bd p q r s n d:Int) (hs:SpAt w v k a.1 a.2) (hx:IntAt w x.neg x.a x.n x.cap 4 n) (hy:IntAt w y.neg y.a y.n y.cap 4 d) (Z:RaC w B0 bn bd) (A:RaC w B1 p q) (D:RaC w B2 r s) (X:NmC w B3 x) (Y:NmC w B4 y) (hk:k<=100000000) (hb:v.bits=(b:Int)) (j0:1<=j) (j1:j<=1000000) (z0:0<=(j-1)*bd) (z1:(j-1)*bd<=1152921504606846976) (bn0:0<=bn) (bn1:bn<=1152921504606846976) (y0:0<=j*q) (y1:j*q<=1152921504606846976) (p0:0<p) (p1:p<=1152921504606846976) (t0:0<(p+j*q)*s) (t1:(p+j*q)*s<=1152921504606846976) (hd:0<d) :
  Calls Tryz.prog 142 #[.agg v.q,.int .i64 j,.pointer (some ⟨B0,0,none⟩),.pointer (some ⟨B1,0,none⟩),.pointer (some ⟨B2,0,none⟩),.pointer (some ⟨B3,0,none⟩),.pointer (some ⟨B4,0,none⟩)] w (zJ w b (k+8+10) (zE a (n*(bn+(j-1)*bd)) (d*((p+j*q)*s))).1 (zE a (n*(bn+(j-1)*bd)) (d*((p+j*q)*s))).2):=by
 obtain⟨W,hW⟩:∃ W,W=(w.alloc (.cells v.q 28)).alloc (.cells zCq 28):=⟨_,rfl⟩;have b8:Below w.heap.size w W:=by rw[hW];exact bl2 _ _ _
 have V:SpC W w.heap.size v:=by rw[hW];constructor<;>simp[go_sem]
 have R:NoC W (w.heap.size+1):=by rw[hW];constructor<;>simp[go_sem]
 have HS:=zC (hs.bw b8);have HX:=zC (hx.bw b8);have HY:=zC (hy.bw b8);have l3:=X.lt;have l4:=Y.lt;replace X:=X.bw b8;replace Y:=Y.bw b8;replace Z:=Z.bw b8;replace A:=A.bw b8;replace D:=D.bw b8;have HB:=zC hb;have Nz:=zC (show 0<(d*((p+j*q)*s)) from Int.mul_pos hd t0)
 have lR0:=R.lt;clear hs hx hy hb hd;obtain⟨za,zb⟩:=Z
 go_enter Tryz.func142,Tryz.ntmps142
 go_upto_region 1 with fail
 rw[<- hW];clear hW;go_wp2_with fail;clear za zb;refine (zD (bn+(j-1)*bd) _ (by omega) (by omega)).mono ?_
 rintro r1 w1 ⟨g9,a1,n1,c1,rfl,k9,b7⟩;clear z0 z1 bn0 bn1;obtain⟨V1,M4⟩:∃ V,V=w1.alloc (.cells #[.bool g9,.slice a1 n1 c1] 26):=⟨_,rfl⟩;have aX:Below w1.heap.size w1 V1:=by rw[M4];exact bl1 _ _
 have K6:=zB b7 aX;have U1:NmC V1 w1.heap.size ⟨g9,a1,n1,c1⟩:=by rw[M4];constructor<;>simp[go_sem]
 have aW:=zC (k9.bw aX);have lw1:=b7.size;have lU0:=U1.lt;replace V:=V.bw K6;replace R:=R.bw K6;replace X:=X.bw K6;replace Y:=Y.bw K6;replace A:=A.bw K6;replace D:=D.bw K6;replace HS:=zC ((zA HS).bw K6);replace HX:=zC ((zA HX).bw K6);replace HY:=zC ((zA HY).bw K6);replace b8:=zB b8 K6;clear b7 K6 aX k9;have aa:=A.c0;have ab:=A.c1;have db:=D.c1;have lA:=A.lt;have lD:=D.lt
 go_upto_region 2 with fail
 rw[<- M4];clear M4;go_wp2_with fail;clear aa ab db A D lA lD y0 y1 p0 p1;refine (zD ((p+j*q)*s) _ (by omega) (by omega)).mono ?_
 rintro r2 w2 ⟨b6,a2,n2,c2,rfl,o0,b9⟩;obtain⟨V2,S9⟩:∃ V,V=w2.alloc (.cells #[.bool b6,.slice a2 n2 c2] 26):=⟨_,rfl⟩;have Y8:Below w2.heap.size w2 V2:=by rw[S9];exact bl1 _ _
 have Q1:=zB b9 Y8;have U2:NmC V2 w2.heap.size ⟨b6,a2,n2,c2⟩:=by rw[S9];constructor<;>simp[go_sem]
 have bO:=zC (o0.bw Y8);have lw2:=b9.size;replace V:=V.bw Q1;replace R:=R.bw Q1;replace X:=X.bw Q1;replace Y:=Y.bw Q1;replace U1:=U1.bw Q1;replace aW:=zC ((zA aW).bw Q1);replace HS:=zC ((zA HS).bw Q1);replace HX:=zC ((zA HX).bw Q1);replace HY:=zC ((zA HY).bw Q1);replace b8:=zB b8 Q1;clear b9 Q1 Y8 o0 t0 t1 j0 j1;have lR:=R.lt;have lV:=V.lt;have lX:=X.lt;have lY:=Y.lt;have lU1:=U1.lt;have lU2:=U2.lt;have HK:=zC (show ∀ w',Below V2.heap.size V2 w'->(cK w' w.heap.size v (nK w' B3 x (nK w' B4 y (nK w' w1.heap.size (⟨g9,a1,n1,c1⟩:Nm) (nK0 w' w2.heap.size (⟨b6,a2,n2,c2⟩:Nm)))))) from λ w' hB=>⟨(V.bw hB).c0,(V.bw hB).c1,(V.bw hB).c2,(V.bw hB).c3,(V.bw hB).c4,(X.bw hB).c0,(X.bw hB).c1,(Y.bw hB).c0,(Y.bw hB).c1,(U1.bw hB).c0,(U1.bw hB).c1,(U2.bw hB).c0,(U2.bw hB).c1⟩)
 have C4:Below V2.heap.size V2 V2.drew:=(Below.refl _ _).drew;clear V X Y U1 U2;have nB3:w.heap.size+1≠B3:=by omega
 have nB4:w.heap.size+1≠B4:=by omega
 have nB5:w.heap.size+1≠w1.heap.size:=by omega
 have nB6:w.heap.size+1≠w2.heap.size:=by omega
 go_wp2_with fail;rw[<- S9];clear S9;obtain⟨x0,x1,x2,x3,x4,x5,x6,x7,x8,x9,x10,x11,x12⟩:=zA HK _ (Below.refl _ _)
 go_region_held3 (λ w'=>cK w' w.heap.size v (nK w' B3 x (nK w' B4 y (nK w' w1.heap.size (⟨g9,a1,n1,c1⟩:Nm) (nK0 w' w2.heap.size (⟨b6,a2,n2,c2⟩:Nm)))))) (first|exact zA HK _ (by with_reducible first|exact C4|exact E2|exact o7|exact A6)|(dsimp only[cK,cK0,nK,nK0,rK,rK0];go_keep)|go_keep)
  (first
   | (go_at_call 143;have H7:=o7;refine (zDT _ v ⟨p9,a3,n3,c3⟩ ⟨o9,a4,n4,c4⟩ k 8 8 b a (n*(bn+(j-1)*bd)) (d*((p+j*q)*s)) ((zA HS).bw o7) (A8.bw m9) D9 (by omega) (by omega) (zA Nz) (zA HB)).mono ?_;rintro r w5 ⟨t,rfl,I7,Q9,A7⟩;have HT:=zC I7;clear I7;have E2:=zB o7 A7;obtain⟨q0,q1,q2,q3,q4,q5⟩:=R.bw E2;obtain⟨i0,i1,i2,i3,i4,i5,i6,i7,i8,i9,i10,i11,i12⟩:=zA HK _ E2)
   | (go_at_call 66;have H7:=A6;refine (zW _ _ _ _ _ _ _ _ 4 4 d ((p+j*q)*s) _ ((zA HY).bw A6) ((zA bO).bw A6) (by omega) (by omega)).mono ?_;rintro r w4 ⟨o9,a4,n4,c4,rfl,D9,m9⟩;have o7:=zB A6 m9)
   | (go_at_call 66;refine (zW _ _ _ _ _ _ _ _ 4 4 n (bn+(j-1)*bd) _ ((zA HX).bw C4) ((zA aW).bw C4) (by omega) (by omega)).mono ?_;rintro r w3 ⟨p9,a3,n3,c3,rfl,A8,k8⟩;have A6:=zB C4 k8))
 all_goals
  go_wp2;refine bodyPost_ret (v:=.agg t.q) (by simp[results,Tryz.results142,go_sem,q0,q1,q2,q3,q4]) rfl ⟨t,rfl,zA HT,?_,?_⟩
  ·exact SpAt.put5 Q9 q0 q1 q2 q3 q4 _ _ _ _ _
  ·exact kB (zB b8 E2) (Yh _) _ _ _ _ _
theorem rise_pt (p1 p2 p3 p4 p5:Value) (f:Nat->Int × Int) (turn N b K KF:Nat) (s:Sp) (W:World) (hs:SpAt W s K (f 0).1 (f 0).2) (hbits:s.bits=(b:Int)) (hb:b<=1000000) (hK:K<=100000000) (rR:4<=K) (LN:KF<=900000000) (hN:zCC f turn N) (rf:N<=1000000000) (htn:turn<=1000000000)
  (hle:∀ n,(f n).1<=(f n).2) (h0:∀ n,0<=(f n).1) (J1:∀ n,n<=N -> -P K<(f n).1/\(f n).2<P K) (hfitS:∀ n,n<=N -> -P K<(jE f n).1/\(jE f n).2<P K)
  (hF:∀ (n:Nat) (u:Sp) w',n<N->u.bits=(b:Int)->SpAt w' u K (f n).1 (f n).2->Below W.heap.size W w'->Calls Tryz.prog 142 #[.agg u.q,.int .i64 ((n:Int)+1),p1,p2,p3,p4,p5] w' (zJ w' b KF (f (n+1)).1 (f (n+1)).2)) :
  Calls Tryz.prog 141 #[.agg s.q,.int .i64 turn,.func (.func 142) #[] #[p1,p2,p3,p4,p5]] W (zJ W b (K+3) (zBD f N).1 (zBD f N).2):=by
 have HF:=zC hF;have HN:=zC hN;have L6:=zC hbits;have H0:=zC h0;clear hF hN hbits h0;obtain⟨V,hV⟩:∃ V,V=(W.alloc (.cells s.q 28)).alloc (.cells zCq 28):=⟨_,rfl⟩;have fo:Below W.heap.size W V:=by rw[hV];exact bl2 _ _ _
 have A:SpC V W.heap.size s:=by rw[hV];constructor<;>simp[go_sem]
 have R:NoC V (W.heap.size+1):=by rw[hV];constructor<;>simp[go_sem]
 have HS:=zC (hs.bw fo);have lA:=A.lt;have lR:=R.lt;clear hs
 go_enter Tryz.func141,Tryz.ntmps141
 go_wp2;rw[<- hV];clear hV
 go_cut [7,8] (λ p q wx=>TwoS V wx s s p q)
 case first =>
  obtain⟨x0,x1,x2,x3,x4⟩:=A
  go_region
  all_goals
   go_wp2_with fail;go_meet
   first
    | with_reducible exact zJE _ _ _ _
    | with_reducible exact zL7 _ _ _ _
 case rest =>
 obtain⟨B5,B6,rfl,rfl,l5,l6,hne,X,Y,hB⟩:=hcut;have n5:W.heap.size+1<B5:=by omega
 have n6:W.heap.size+1<B6:=by omega
 have N9:SumSt W wc B5 B6 b K s s s f 0:=⟨X,Y,(zA HS).bw hB,(zA HS).bw hB,zA L6,zA L6,A.bw hB,R.bw hB,zB fo hB,n5,n6,hne⟩;clear X Y hB A R HS l5 l6 n5 n6 hne fo lA lR;go_wp2_with fail
 go_loopw [9] (λ nn wr=>∃ (i:Nat) (X Y:Sp),nn=.int .i64 ((i:Int)+1)/\i<=N/\SumSt W wr B5 B6 b K s X Y f i) (λ nn _=>N+1-(intOf nn).toNat)
 case atStart=>exact⟨0,s,s,rfl,Nat.zero_le _,N9⟩
 case round =>
  obtain⟨i,X,Y,rfl,hi,st⟩:=hrel
  by_cases hit:i<turn
  ·have G4:i<N:=by have:=(zA HN).1;omega
   have wH:((i:Int)+1<=(turn:Int)):=by omega
   obtain⟨⟨y0,y1,y2,y3,y4⟩,y5⟩:=st.y;go_wp2_with fail;refine (zA HF i Y _ G4 st.yb st.yp st.be).mono ?_;rintro r w3 ⟨u,rfl,I0,E9,k8⟩;replace st:=st.bw k8;replace E9:=E9.fits (K:=K) (hle _) (J1 _ (by omega)).1 (J1 _ (by omega)).2
   have HU:=zC I0;clear k8 y0 y1 y2 y3 y4 y5 I0;obtain⟨V3,D3⟩:∃ V3,V3=zQ w3 B6 u:=⟨_,rfl⟩;have X3:VrC V3 B5 X:=by rw[D3];exact st.x.off st.ne u
   have Y3:VrC V3 B6 u:=by rw[D3];exact st.y.put u
   have P3:SpAt V3 X K (jE f i).1 (jE f i).2:=by rw[D3];exact st.xp.put st.y.c u
   have U3:SpAt V3 u K (f (i+1)).1 (f (i+1)).2:=by rw[D3];exact E9.put st.y.c u
   have F3:SpC V3 W.heap.size s:=by rw[D3];exact st.fs.off (by have:=st.l6;omega) u
   have R3:NoC V3 (W.heap.size+1):=by rw[D3];exact st.no.off (by have:=st.l6;omega) u
   have B3:Below W.heap.size W V3:=by rw[D3];exact jC st.be (by have:=st.l6;omega) u
   have xb:=zC st.xb;have l5:=st.l5;have l6:=st.l6;have hne:=st.ne;have lY:=st.y.lt;have lX:=st.x.lt;obtain⟨⟨y0,y1,y2,y3,y4⟩,y5⟩:=st.y;obtain⟨⟨x0,x1,x2,x3,x4⟩,x5⟩:=st.x;clear st E9;go_wp2_with fail;have J2:V3=zQ w3 B6 u:=D3;unfold zQ at J2;rw[<- J2];clear J2 y0 y1 y2 y3 y4 y5 x0 x1 x2 x3 x4 x5;have DP:B5<V3.heap.size:=X3.lt;refine (zA5 _ X u K b (jE f i) (f (i+1)) P3 U3 (by omega) (zA xb)).mono ?_
   rintro r w4 ⟨v,rfl,I4,H5,m9⟩;have X4:=X3.bw m9;have Y4:=Y3.bw m9;have U4:=U3.bw m9;have F4:=F3.bw m9;have R4:=R3.bw m9;have B4:=zB B3 m9;have e:jJ (jE f i) (f (i+1))=jE f (i+1):=rfl;rw[e] at H5;replace H5:=H5.fits (K:=K) (zCW hle _) (hfitS _ (by omega)).1 (hfitS _ (by omega)).2
   have HV:=zC I4;clear m9 I4 X3 Y3 P3 U3 F3 R3 B3 D3;have stn:SumSt W (zQ w4 B5 v) B5 B6 b K s v u f (i+1):=⟨X4.put v,Y4.off (Ne.symm hne) v,H5.put X4.c v,U4.put X4.c v,zA HV,zA HU,F4.off (by omega) v,R4.off (by omega) v,jC B4 (by omega) v,l5,l6,hne⟩
   unfold zQ at stn;obtain⟨⟨x0,x1,x2,x3,x4⟩,x5⟩:=X4;go_wp2_with fail
   go_roundw
   case rel=>exact⟨i+1,v,u,by go_num,by omega,stn⟩
   case measure=>simp[intOf];omega
  ·have wH:¬ ((i:Int)+1<=(turn:Int)):=by omega
   obtain⟨⟨y0,y1,y2,y3,y4⟩,y5⟩:=st.y;go_wp2_with fail;have dh:0<=(f i).2:=by have:=zA H0 i;have:=hle i;omega
   refine (zB2 _ _ _ _ _ (f i).2 _ st.yp.hi dh).mono ?_;rintro r w2 ⟨l,hlen,rfl,b9⟩;replace st:=st.bw b9;clear b9 y0 y1 y2 y3 y4 y5
   by_cases G4:i<N
   ·have hl:2<l:=by
     have h3:=(zA HN).2.2 i G4;refine Int.not_le.1 λ hl=>?_
     obtain⟨g1,g2,g3⟩:=hlen;obtain⟨L,e1,e2,e3⟩:=g3 (by omega)
     have:=zK (show L+1<=2 by omega)
     have:Q 2=4:=rfl;omega
    clear hlen dh;obtain⟨⟨y0,y1,y2,y3,y4⟩,y5⟩:=st.y;go_wp2_with fail;refine (zA HF i Y _ G4 st.yb st.yp st.be).mono ?_;rintro r w3 ⟨u,rfl,I0,E9,k8⟩;replace st:=st.bw k8;replace E9:=E9.fits (K:=K) (hle _) (J1 _ (by omega)).1 (J1 _ (by omega)).2
    have HU:=zC I0;clear k8 y0 y1 y2 y3 y4 y5 I0;obtain⟨V3,D3⟩:∃ V3,V3=zQ w3 B6 u:=⟨_,rfl⟩;have X3:VrC V3 B5 X:=by rw[D3];exact st.x.off st.ne u
    have Y3:VrC V3 B6 u:=by rw[D3];exact st.y.put u
    have P3:SpAt V3 X K (jE f i).1 (jE f i).2:=by rw[D3];exact st.xp.put st.y.c u
    have U3:SpAt V3 u K (f (i+1)).1 (f (i+1)).2:=by rw[D3];exact E9.put st.y.c u
    have F3:SpC V3 W.heap.size s:=by rw[D3];exact st.fs.off (by have:=st.l6;omega) u
    have R3:NoC V3 (W.heap.size+1):=by rw[D3];exact st.no.off (by have:=st.l6;omega) u
    have B3:Below W.heap.size W V3:=by rw[D3];exact jC st.be (by have:=st.l6;omega) u
    have xb:=zC st.xb;have l5:=st.l5;have l6:=st.l6;have hne:=st.ne;have lY:=st.y.lt;have lX:=st.x.lt;obtain⟨⟨y0,y1,y2,y3,y4⟩,y5⟩:=st.y;obtain⟨⟨x0,x1,x2,x3,x4⟩,x5⟩:=st.x;clear st E9;go_wp2_with fail;have J2:V3=zQ w3 B6 u:=D3;unfold zQ at J2;rw[<- J2];clear J2 y0 y1 y2 y3 y4 y5 x0 x1 x2 x3 x4 x5;have DP:B5<V3.heap.size:=X3.lt;refine (zA5 _ X u K b (jE f i) (f (i+1)) P3 U3 (by omega) (zA xb)).mono ?_
    rintro r w4 ⟨v,rfl,I4,H5,m9⟩;have X4:=X3.bw m9;have Y4:=Y3.bw m9;have U4:=U3.bw m9;have F4:=F3.bw m9;have R4:=R3.bw m9;have B4:=zB B3 m9;have e:jJ (jE f i) (f (i+1))=jE f (i+1):=rfl;rw[e] at H5;replace H5:=H5.fits (K:=K) (zCW hle _) (hfitS _ (by omega)).1 (hfitS _ (by omega)).2
    have HV:=zC I4;clear m9 I4 X3 Y3 P3 U3 F3 R3 B3 D3;have stn:SumSt W (zQ w4 B5 v) B5 B6 b K s v u f (i+1):=⟨X4.put v,Y4.off (Ne.symm hne) v,H5.put X4.c v,U4.put X4.c v,zA HV,zA HU,F4.off (by omega) v,R4.off (by omega) v,jC B4 (by omega) v,l5,l6,hne⟩
    unfold zQ at stn;obtain⟨⟨x0,x1,x2,x3,x4⟩,x5⟩:=X4;go_wp2_with fail
    go_roundw
    case rel=>exact⟨i+1,v,u,by go_num,by omega,stn⟩
    case measure=>simp[intOf];omega
   ·have bg:i=N:=by omega
    subst bg
    have hl:¬ 2<l:=by
     have h1:=(zA HN).2.1
     intro hl
     obtain⟨g1,g2,g3⟩:=hlen
     by_cases hp:0<(f i).2
     ·obtain⟨L,e1,e2,e3⟩:=g3 hp
      have:=zK (show 2<=L by omega)
      have:Q 2=4:=rfl;omega
     ·have:=g2 (by omega);omega
    clear hlen;have l5:=st.l5;have lX:=st.x.lt;have Q5:=zC (show ∀ w',Below w2.heap.size w2 w'->(cK w' B5 X (w'.cell? ⟨W.heap.size,4,none⟩=some (.int .i64 s.bits))) from λ w' hB=>⟨(st.x.c.bw hB).c0,(st.x.c.bw hB).c1,(st.x.c.bw hB).c2,(st.x.c.bw hB).c3,(st.x.c.bw hB).c4,(st.fs.bw hB).c4⟩)
    have R3:=st.no;have lQ:=R3.lt;have ST:=zC st;clear st;go_wp2_with fail;obtain⟨x0,x1,x2,x3,x4,x5⟩:=zA Q5 _ (Below.refl _ _);have m8:Below w2.heap.size w2 w2.drew:=(Below.refl _ _).drew;have vz:W.heap.size+1≠B5:=by omega
    have IX:W.heap.size+1≠W.heap.size:=by omega
    go_region_held3 (λ w'=>cK w' B5 X (w'.cell? ⟨W.heap.size,4,none⟩=some (.int .i64 s.bits))) (first|exact zA Q5 _ (by with_reducible first|exact m8|exact j9|exact j7)|(dsimp only[cK,cK0,nK,nK0,rK,rK0];go_keep)|go_keep)
     (first
      | (go_at_call 113;have hq:=j7;refine (zA5 _ X ⟨false,none,0,0,o9,a4,n4,c4,s.bits⟩ K b (jE f i) (0,9) ((zA ST).xp.bw j7) ⟨zE6 _ _,D9.mono rR⟩ (by omega) (zA ST).xb).mono ?_;rintro r' w5 ⟨v,rfl,I4,H5,A7⟩;have j9:=zB j7 A7;have HV:=zC I4;clear I4;obtain⟨q0,q1,q2,q3,q4,q5⟩:=R3.bw j9;obtain⟨y0,y1,y2,y3,y4,y5⟩:=zA Q5 _ j9)
      | (go_at_call 43;refine (zD 9 _ (by omega) (by omega)).mono ?_;rintro r' w4 ⟨o9,a4,n4,c4,rfl,D9,m9⟩;have j7:=zB m8 m9))
    all_goals
     go_wp2_with fail;refine bodyPost_ret (v:=.agg v.q) (by simp[results,Tryz.results141,go_sem,q0,q1,q2,q3,q4]) rfl ⟨v,rfl,zA HV,?_,?_⟩
     ·exact SpAt.put5 (H5.mono (by omega)) q0 q1 q2 q3 q4 _ _ _ _ _
     ·exact kB (zB (zA ST).be j9) (Yh _) _ _ _ _ _
theorem bl5 (w:World) (o1 o2 o3 o4 o5:Obj):Below w.heap.size w (((((w.alloc o1).alloc o2).alloc o3).alloc o4).alloc o5):=(bl4 w o1 o2 o3 o4).alloc (by simp;omega) _
theorem zD3 (L:Rat->Nat->Rat) (hL:Lns L) (w:World) (x y:Nm) (b:Nat) (n d:Int) (hx:IntAt w x.neg x.a x.n x.cap 4 n) (hy:IntAt w y.neg y.a y.n y.cap 4 d) (hn:0<n) (hd:0<d) (C9:40<=b) (hb:b<=400) :
  Calls Tryz.prog 116 #[.agg x.q,.agg y.q,.int .i64 b] w (λ r w'=>∃ lo hi,zDE L ((n:Rat)/(d:Rat)) b (lo,hi)/\zJ w b 520 lo hi r w'):=by
 refine (zBT w x y 4 b 500 n d hx hy (by omega) hn hd (by omega) (by omega) ?_ (by omega)).mono ?_
 ·rw[<- Q_P]
  have h1:=zK (show b+4+1<=16*500 by omega)
  have h2:Q (b+4+1)=2*Q (b+4):=rfl;have:=zG (b+4);omega
 ·rintro r w' ⟨n',d',cc,N1,N2,K7,F8,G8,Q3,ct,h⟩
  exact⟨_,_,lwLog_of hL hn hd (by omega) K7 (by omega) (by omega) Q3 ct,h⟩
def bvX (L:Rat->Nat->Rat) (p q r s n d:Int):Nat->Rat:=if n=0 then λ _=>0 else if n=d then λ _=>1 else bv L ((p:Rat)/(q:Rat)) ((r:Rat)/(s:Rat)) ((n:Rat)/(d:Rat))
end Go.Proofs.YtgmnknmjainababGreat
