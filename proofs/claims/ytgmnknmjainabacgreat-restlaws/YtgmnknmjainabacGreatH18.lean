/-
  Its own texts.
-/
import Derived.Test.YtgmnknmjainabacGreatH17
set_option maxRecDepth 100000
set_option maxHeartbeats 40000000
set_option linter.unusedVariables false
namespace Go.Proofs.YtgmnknmjainabacGreat.Ex
def bT (a b x:Rat):Nat->Rat
 | 0=>1/a
 | n+1=>x*(a+b+(n:Rat))/(a+((n:Rat)+1))*bT a b x n
theorem zES {a:Rat} (ha:0<a) (b x:Rat):a*bT a b x 0=1:=by
 have:=rdm (a:=1) ha
 show a*(1/a)=1
 grind
theorem zA6 {a:Rat} (ha:0<a) (b x:Rat) (n:Nat):(a+((n:Rat)+1))*bT a b x (n+1)=x*(a+b+(n:Rat))*bT a b x n:=by
 have e:=rdm (a:=x*(a+b+(n:Rat))) (zBQ ha n)
 show (a+((n:Rat)+1))*(x*(a+b+(n:Rat))/(a+((n:Rat)+1))*bT a b x n)=_
 generalize x*(a+b+(n:Rat))/(a+((n:Rat)+1))=t at *;rw[<- e];grind
theorem zOM (n:Nat):(0:Rat)<=(n:Rat):=by exact_mod_cast Nat.zero_le n
theorem zAZ {a b x:Rat} (ha:0<a) (hb:0<b) (h:0<=x) (n:Nat):0<=bT a b x n:=by
 induction n with
 | zero=>exact jR ha (by grind)
 | succ n ih =>
  have n0:=zOM n;exact YV (jR (zBQ ha n) (by have:=YV h (show 0<=a+b+(n:Rat) by grind);grind)) ih
theorem bT_pw {a:Rat} (ha:0<a) (b x:Rat) (n:Nat):bT a b x n=bT a b 1 n*pw x n:=by
 induction n with
 | zero=>show 1/a=1/a*1;grind
 | succ n ih =>
  have e1:=zA6 ha b x n;have e2:=zA6 ha b 1 n;refine zY (zBQ ha n) ?_;have e3:pw x (n+1)=x*pw x n:=rfl;rw[e1,e3,ih];have:(a+((n:Rat)+1))*(bT a b 1 (n+1)*(x*pw x n))=(a+((n:Rat)+1))*bT a b 1 (n+1)*(x*pw x n):=by grind
  rw[this,e2];grind
def bS (a b x:Rat) (M:Nat):Rat:=S (bT a b x) M
theorem zCW (a b x:Rat) (M:Nat):bS a b x (M+1)=bS a b x M+bT a b x M:=rfl
theorem bS_ps {a:Rat} (ha:0<a) (b:Rat):bS a b=psS (bT a b 1):=by
 funext x M
 exact yT M λ k _=>bT_pw ha b x k
theorem zFX {a b x:Rat} (ha:0<a) (hb:0<b) (h:0<=x) (M:Nat):0<=bS a b x M:=by
 induction M with
 | zero=>show (0:Rat)<=0;grind
 | succ n ih=>have:=zAZ ha hb h n;rw[zCW];grind
theorem zMZ {a b x:Rat} (ha:0<a) (hb:0<b) (h:0<=x) (M:Nat):1/a<=bS a b x (M+1):=by
 induction M with
 | zero=>show 1/a<=0+1/a;grind
 | succ n ih=>have:=zAZ ha hb h (n+1);rw[zCW];grind
theorem b_turn {b x:Rat} (hb:0<b) (hx:0<=x) (h1:x<1):∃ k0:Nat,∀ k:Nat,k0<=k->2*(x*b)<=(1-x)*(k:Rat):=by
 have d:0<1-x:=by grind
 obtain⟨n,hn⟩:=kQ (2*b/(1-x));refine⟨n,λ k hk=>?_⟩
 have nk:(n:Rat)<=(k:Rat):=by exact_mod_cast hk
 have e:=rdm (a:=2*b) d;have m:=YX (Rat.le_trans hn.2 nk) (YZ d);rw[e] at m;have m2:=YX (YZ h1) (YZ hb);grind
theorem zQN {a b x:Rat} (ha:0<a) (hb:0<b) (hx:0<=x) (h1:x<1):∃ k0:Nat,∀ k,k0<=k->bT a b x (k+1)<=(1+x)/2*bT a b x k/\(a+((k+1:Nat):Rat))*bT a b x (k+1)<=(1+x)/2*((a+(k:Rat))*bT a b x k):=by
 obtain⟨k0,bA⟩:=b_turn hb hx h1;refine⟨k0,λ k hk=>?_⟩
 have t:=bA k hk;have e:=zA6 ha b x k;have n0:=zOM k;have p:=zBQ ha k;have t0:=zAZ ha hb hx k;have xa:=YV (show 0<=1-x by grind) (YZ ha)
 have c:((k+1:Nat):Rat)=(k:Rat)+1:=by push_cast;rfl
 rw[c,e];constructor
 ·refine Rat.le_of_mul_le_mul_left (c:=a+((k:Rat)+1)) ?_ p
  rw[e];have m:=YX (show x*(a+b+(k:Rat))<=(1+x)/2*(a+((k:Rat)+1)) by grind) t0
  grind
 ·have m:=YX (show x*(a+b+(k:Rat))<=(1+x)/2*(a+(k:Rat)) by grind) t0
  grind
theorem zQM {a b x:Rat} (ha:0<a) (hb:0<b) (hx:0<=x) (h1:x<1):∃ K,0<=K/\∀ M,bS a b x M<=K:=by
 obtain⟨k0,h⟩:=zQN ha hb hx h1;exact geo (t:=bT a b x) (ρ:=(1+x)/2) (zAZ ha hb hx) (by grind) (by grind) k0 λ k hk=>(h k hk).1
theorem zE7 {a b x:Rat} (ha:0<a) (hb:0<b) (hx:0<=x) (h1:x<1):Bdd (bS a b x):=by
 obtain⟨K,k0,hK⟩:=zQM ha hb hx h1;exact Bdd.of_le K 0 λ M _=>⟨by have:=zFX ha hb hx M;grind,hK M⟩
theorem bS_mono {a b x y:Rat} (ha:0<a) (hb:0<b) (hx:0<=x) (P7:x<=y) (M:Nat):bS a b x M<=bS a b y M:=by
 refine S_mono (λ k=>?_) M
 rw[bT_pw ha b x,bT_pw ha b y];exact YT (zL2 hx P7 k) (zAZ ha hb (by grind) k)
theorem bT_null {a b x:Rat} (ha:0<a) (hb:0<b) (hx:0<=x) (h1:x<1):Null (bT a b x):=by
 obtain⟨k0,h⟩:=zQN ha hb hx h1;exact zIA (ρ:=(1+x)/2) (zAZ ha hb hx) (by grind) (by grind) k0 λ k hk=>(h k hk).1
theorem zQO {a b x:Rat} (ha:0<a) (hb:0<b) (hx:0<=x) (h1:x<1):Null (λ k=>(a+(k:Rat))*bT a b x k):=by
 obtain⟨k0,h⟩:=zQN ha hb hx h1;refine zIA (t:=λ k=>(a+(k:Rat))*bT a b x k) (ρ:=(1+x)/2) (λ k=>YV (by have:=zOM k;grind) (zAZ ha hb hx k)) (by grind) (by grind) k0 λ k hk=>(h k hk).2
theorem bS_ode {a:Rat} (ha:0<a) (b x:Rat) (M:Nat):(1-x)*(x*psD (bT a b 1) x M)=1+((a+b)*x-a)*bS a b x M-(a+(M:Rat))*bT a b x M:=by
 have key:∀ M:Nat,a*bS a b x M+x*psD (bT a b 1) x M-1+(a+(M:Rat))*bT a b x M=x*(a+b)*bS a b x M+x*(x*psD (bT a b 1) x M):=λ M=>by
  induction M with
  | zero =>
   have e:=zES ha b x;have c:((0:Nat):Rat)=0:=rfl;rw[c]
   show a*0+x*0-1+(a+0)*bT a b x 0=x*(a+b)*0+x*(x*0)
   grind
  | succ n ih =>
   have e1:=zA6 ha b x n;have c:((n+1:Nat):Rat)=(n:Rat)+1:=by push_cast;rfl
   have e2:psD (bT a b 1) x (n+1)=psD (bT a b 1) x n+bT a b 1 n*dw x n:=rfl
   have e3:x*(bT a b 1 n*dw x n)=(n:Rat)*bT a b x n:=by
    have d:=dw_mul x n;rw[bT_pw ha b x n];have:x*(bT a b 1 n*dw x n)=bT a b 1 n*(x*dw x n):=by grind
    rw[this,d];grind
   rw[zCW,e2,c,e1];have e4:x*(psD (bT a b 1) x n+bT a b 1 n*dw x n)=x*psD (bT a b 1) x n+(n:Rat)*bT a b x n:=by rw[<- e3];grind
   rw[e4];generalize psD (bT a b 1) x n=D at *;generalize bS a b x n=s at *;generalize bT a b x n=t at *;clear e1 e2 e3 e4;grind
 have:=key M;grind
def bP (L:Rat->Nat->Rat) (a b x:Rat) (M:Nat):Rat:=pr L a x M*pr L b (1-x) M
def bH (L:Rat->Nat->Rat) (a b x:Rat) (M:Nat):Rat:=bP L a b x M*bS a b x M
def bF (L:Rat->Nat->Rat) (a b x:Rat) (M:Nat):Rat:=1/(x*(1-x))*bP L a b x M
theorem zMY {L:Rat->Nat->Rat} (hL:Lns L) {x:Rat} (hx:0<x) (h1:x<1) (a b:Rat):Bdd (bP L a b x):=(kN hL hx a).mul (kN hL (show 0<1-x by grind) b)
theorem bP_nn {L:Rat->Nat->Rat} (hL:Lns L) {x:Rat} (hx:0<x) (h1:x<1) (a b:Rat):Nn (bP L a b x):=(zCU hL hx a).mul (zCU hL (show 0<1-x by grind) b)
theorem zQL (L:Rat->Nat->Rat) (a b x:Rat) (M:Nat):bP L b a (1-x) M=bP L a b x M:=by
 unfold bP;have:1-(1-x)=x:=by grind
 rw[this];grind
theorem zLF (L:Rat->Nat->Rat) (a b x:Rat) (M:Nat):bF L b a (1-x) M=bF L a b x M:=by
 unfold bF;rw[zQL];have:(1-x)*(1-(1-x))=x*(1-x):=by grind
 rw[this]
theorem zQF {L:Rat->Nat->Rat} (hL:Lns L) {a b x:Rat} (ha:0<a) (hb:0<b) (hx:0<x) (h1:x<1):Bdd (bH L a b x):=(zMY hL hx h1 a b).mul (zE7 ha hb (YZ hx) h1)
theorem zQG {L:Rat->Nat->Rat} (hL:Lns L) {a b x:Rat} (ha:0<a) (hb:0<b) (hx:0<x) (h1:x<1):Nn (bH L a b x):=(bP_nn hL hx h1 a b).mul ⟨0,λ M _=>zFX ha hb (YZ hx) M⟩
theorem bS_dif {a b q:Rat} (ha:0<a) (hb:0<b) (hq:0<=q) (dN:q<1):Dif (bS a b) (psD (bT a b 1)) 0 q:=by
 obtain⟨K,k0,hK⟩:=zQM ha hb (show 0<=(1+q)/2 by grind) (show (1+q)/2<1 by grind)
 rw[bS_ps ha b];refine ps_dif (A:=bT a b 1) (r:=(1+q)/2) (K:=K) (λ k=>⟨by have:=zAZ ha hb (show (0:Rat)<=1 by grind) k;grind,Rat.le_refl⟩) (λ M=>?_) hq (by grind)
 have:=hK M;rw[bS_ps ha b] at this;exact this
theorem zLY {x y:Rat} (hx:0<x) (hy:0<y):1/(x*y)=1/x*(1/y):=by
 rw[Rat.div_def,Rat.div_def,Rat.div_def,Rat.inv_mul_rev];grind
theorem zMV {L:Rat->Nat->Rat} (hL:Lns L) {a b p q:Rat} (ha:0<a) (hb:0<b) (hp:0<p) (M4:p<=q) (hq:q<1):Dif (bH L a b) (bF L a b) p q:=by
 have d1:=zS8 hL a hp M4;have d2:Dif (λ x=>pr L b (1-x)) (λ x M => -(b/(1-x)*pr L b (1-x) M)) p q:=Dif.flip (F:=pr L b) (F':=λ x M=>b/x*pr L b x M) (zS8 hL b (show 0<1-q by grind) (by grind))
 have d3:=(bS_dif ha hb (show 0<=q by grind) hq).within (p':=p) (q':=q) (by grind) Rat.le_refl
 have d:=(d1.mul M4 d2).mul M4 d3;refine d.congr λ x h1 h2=>?_
 have x0:0<x:=by grind
 have x1:0<1-x:=by grind
 have w:=(zQO ha hb (YZ x0) (show x<1 by grind)).bmul ((zMY hL x0 (by grind) a b).mul (Bdd.const (1/(x*(1-x)))))
 refine w.of_eq λ M=>?_
 have o:=bS_ode ha b x M;have e1:=rdm (a:=1) x0;have e2:=rdm (a:=1) x1;have e3:a/x=a*(1/x):=by rw[Rat.div_def,Rat.div_def,Rat.one_mul]
 have e4:b/(1-x)=b*(1/(1-x)):=by rw[Rat.div_def,Rat.div_def,Rat.one_mul]
 unfold bF bP;rw[zLY x0 x1,e3,e4];generalize 1/x=i at *;generalize 1/(1-x)=j at *;generalize pr L a x M=P at *;generalize pr L b (1-x) M=R at *;generalize bS a b x M=s at *;generalize psD (bT a b 1) x M=D at *;generalize (a+(M:Rat))*bT a b x M=W at *;clear w d d1 d2 d3
 have g:D=i*j*((1-x)*(x*D)):=by
  have:i*j*((1-x)*(x*D))=i*x*(j*(1-x))*D:=by grind
  rw[this,e1,e2];grind
 have g2:a*i-b*j=i*j*(a*(1-x)-b*x):=by
  have:i*j*(a*(1-x)-b*x)=a*i*(j*(1-x))-b*j*(i*x):=by grind
  rw[this,e1,e2];grind
 have g3:(a*i*P*R+P * -(b*j*R))*s+P*R*D=P*R*((a*i-b*j)*s+D):=by grind
 rw[g3,g2]
 have g4:i*j*(a*(1-x)-b*x)*s+D=i*j*((a*(1-x)-b*x)*s+(1-x)*(x*D)):=by
  have:i*j*(a*(1-x)-b*x)*s+D=i*j*(a*(1-x)-b*x)*s+i*j*((1-x)*(x*D)):=by rw[<- g]
  rw[this];grind
 rw[g4,o];grind
def bJ (L:Rat->Nat->Rat) (a b:Rat) (M:Nat):Rat:=bH L a b (1/2) M+bH L b a (1/2) M
theorem zQJ (L:Rat->Nat->Rat) (a b:Rat) (M:Nat):bJ L a b M=bJ L b a M:=by unfold bJ;grind
theorem bJ_at {L:Rat->Nat->Rat} (hL:Lns L) {a b x:Rat} (ha:0<a) (hb:0<b) (hx:0<x) (h1:x<1):Null (λ M=>bH L a b x M+bH L b a (1-x) M-bJ L a b M):=by
 have main:∀ p q:Rat,0<p->p<=q->q<1->Null (λ M=>(bH L a b p M+bH L b a (1-p) M)-(bH L a b q M+bH L b a (1-q) M)):=λ p q hp M4 hq=>by
  have d:=(zMV hL ha hb hp M4 hq).add (Dif.flip (F:=bH L b a) (F':=bF L b a) (zMV hL hb ha (show 0<1-q by grind) (show 1-q<=1-p by grind) (by grind)))
  refine d.eq M4 λ t h1 h2=>null_zero.of_eq λ M=>?_
  have:=zLF L a b t M;rw[this];grind
 have e:(1:Rat)-1/2=1/2:=by grind
 by_cases c:x<=1/2
 ·have m:=main x (1/2) hx c (by grind)
  rw[e] at m;exact m
 ·have m:=main (1/2) x (by grind) (by grind) h1
  rw[e] at m;exact m.neg.of_eq λ M=>by unfold bJ;grind
theorem zG4 {L:Rat->Nat->Rat} (hL:Lns L) {a b:Rat} (ha:0<a) (hb:0<b):Bdd (bJ L a b):=(zQF hL ha hb (by grind) (by grind)).add (zQF hL hb ha (by grind) (by grind))
theorem bJ_nn {L:Rat->Nat->Rat} (hL:Lns L) {a b:Rat} (ha:0<a) (hb:0<b):Nn (bJ L a b):=(zQG hL ha hb (by grind) (by grind)).add (zQG hL hb ha (by grind) (by grind))
end Go.Proofs.YtgmnknmjainabacGreat.Ex
namespace Go.Proofs.YtgmnknmjainabacGreat.Ex
theorem bT_up {a:Rat} (ha:0<a) (b x:Rat) (n:Nat):(a+b)*(x*bT (a+1) b x n)=a*bT a b x (n+1):=by
 induction n with
 | zero =>
  have e1:=zA6 ha b x 0;have e2:=zES ha b x;have e3:=zES (show 0<a+1 by grind) b x
  have c:((0:Nat):Rat)=0:=rfl;rw[c] at e1;refine zY (show 0<a+1 by grind) ?_
  have k1:(a+1)*((a+b)*(x*bT (a+1) b x 0))=(a+b)*x*((a+1)*bT (a+1) b x 0):=by grind
  have k2:(a+1)*(a*bT a b x (0+1))=a*((a+(0+1))*bT a b x (0+1)):=by grind
  rw[k1,k2,e1,e3];have k3:a*(x*(a+b+0)*bT a b x 0)=x*(a+b)*(a*bT a b x 0):=by grind
  rw[k3,e2];grind
 | succ n ih =>
  have e1:=zA6 ha b x (n+1);have e2:=zA6 (show 0<a+1 by grind) b x n
  have c:((n+1:Nat):Rat)=(n:Rat)+1:=by push_cast;rfl
  rw[c] at e1;refine zY (show 0<a+((n:Rat)+1+1) by have:=zBN n;grind) ?_
  have k1:(a+((n:Rat)+1+1))*((a+b)*(x*bT (a+1) b x (n+1)))=(a+b)*x*((a+1+((n:Rat)+1))*bT (a+1) b x (n+1)):=by grind
  have k2:(a+((n:Rat)+1+1))*(a*bT a b x (n+1+1))=a*((a+((n:Rat)+1+1))*bT a b x (n+1+1)):=by grind
  rw[k1,k2,e1,e2];have k3:(a+b)*x*(x*(a+1+b+(n:Rat))*bT (a+1) b x n)=x*(a+1+b+(n:Rat))*((a+b)*(x*bT (a+1) b x n)):=by grind
  rw[k3,ih];grind
theorem bS_up {a:Rat} (ha:0<a) (b x:Rat) (M:Nat):(a+b)*(x*bS (a+1) b x M)=a*bS a b x M-1+a*bT a b x M:=by
 induction M with
 | zero =>
  have:=zES ha b x
  show (a+b)*(x*0)=a*0-1+a*bT a b x 0
  grind
 | succ n ih =>
  have:=bT_up ha b x n;rw[zCW,zCW];grind
theorem bT_side {b:Rat} (hb:0<b) (a y:Rat) (n:Nat):(a+b)*bT b (a+1) y n=(a+b+(n:Rat))*bT b a y n:=by
 induction n with
 | zero =>
  have c:((0:Nat):Rat)=0:=rfl;rw[c]
  show (a+b)*(1/b)=(a+b+0)*(1/b)
  grind
 | succ n ih =>
  have e1:=zA6 hb (a+1) y n;have e2:=zA6 hb a y n;have c:((n+1:Nat):Rat)=(n:Rat)+1:=by push_cast;rfl
  refine zY (zBQ hb n) ?_;have k1:(b+((n:Rat)+1))*((a+b)*bT b (a+1) y (n+1))=(a+b)*((b+((n:Rat)+1))*bT b (a+1) y (n+1)):=by grind
  have k2:(b+((n:Rat)+1))*((a+b+((n+1:Nat):Rat))*bT b a y (n+1))=(a+b+((n:Rat)+1))*((b+((n:Rat)+1))*bT b a y (n+1)):=by rw[c];grind
  rw[k1,k2,e1,e2];have k3:(a+b)*(y*(b+(a+1)+(n:Rat))*bT b (a+1) y n)=y*(b+(a+1)+(n:Rat))*((a+b)*bT b (a+1) y n):=by grind
  rw[k3,ih];grind
theorem bS_side {b:Rat} (hb:0<b) (a y:Rat) (M:Nat):(a+b)*((1-y)*bS b (a+1) y M)=a*bS b a y M+1-(b+(M:Rat))*bT b a y M:=by
 induction M with
 | zero =>
  have:=zES hb a y;have c:((0:Nat):Rat)=0:=rfl;rw[c]
  show (a+b)*((1-y)*0)=a*0+1-(b+0)*bT b a y 0
  grind
 | succ n ih =>
  have e:=bT_side hb a y n;have e2:=zA6 hb a y n;have c:((n+1:Nat):Rat)=(n:Rat)+1:=by push_cast;rfl
  rw[zCW,zCW,c,e2];have k:(a+b)*((1-y)*(bS b (a+1) y n+bT b (a+1) y n))=(a+b)*((1-y)*bS b (a+1) y n)+(1-y)*((a+b)*bT b (a+1) y n):=by grind
  rw[k,ih,e];grind
theorem pr_up {L:Rat->Nat->Rat} (hL:Lns L) {x:Rat} (hx:0<x) (a:Rat):Null (λ M=>pr L (a+1) x M-x*pr L a x M):=by
 have h1:=zKM hL hx a 1;have h2:=(zFC hL hx).bmul (kN hL hx a);exact (h2.sub h1).of_eq λ M=>by grind
theorem bH_up {L:Rat->Nat->Rat} (hL:Lns L) {a b x:Rat} (ha:0<a) (hb:0<b) (hx:0<x) (h1:x<1):Null (λ M=>(a+b)*bH L (a+1) b x M-(a*bH L a b x M-bP L a b x M)):=by
 have x0:=YZ hx;have n1:=(pr_up hL hx a).bmul ((kN hL (show 0<1-x by grind) b).mul ((Bdd.const (a+b)).mul (zE7 (show 0<a+1 by grind) hb x0 h1)))
 have n2:=(bT_null ha hb x0 h1).bmul ((Bdd.const a).mul (zMY hL hx h1 a b));refine (n1.add n2).of_eq λ M=>?_
 have e:=bS_up ha b x M;unfold bH bP;generalize pr L (a+1) x M=p1 at *;generalize pr L a x M=p at *;generalize pr L b (1-x) M=r at *;generalize bS (a+1) b x M=s1 at *;generalize bS a b x M=s at *;generalize bT a b x M=t at *;clear n1 n2;have:p*r*((a+b)*(x*s1))=p*r*(a*s-1+a*t):=by rw[e]
 grind
theorem bH_side {L:Rat->Nat->Rat} (hL:Lns L) {a b y:Rat} (ha:0<a) (hb:0<b) (hy:0<y) (h1:y<1):Null (λ M=>(a+b)*bH L b (a+1) y M-(a*bH L b a y M+bP L b a y M)):=by
 have y0:=YZ hy;have y1:0<1-y:=by grind
 have n1:=(pr_up hL y1 a).bmul ((kN hL hy b).mul ((Bdd.const (a+b)).mul (zE7 hb (show 0<a+1 by grind) y0 h1)))
 have n2:=(zQO hb ha y0 h1).bmul (zMY hL hy h1 b a);refine (n1.sub n2).of_eq λ M=>?_
 have e:=bS_side hb a y M;unfold bH bP;generalize pr L (a+1) (1-y) M=p1 at *;generalize pr L a (1-y) M=p at *;generalize pr L b y M=r at *;generalize bS b (a+1) y M=s1 at *;generalize bS b a y M=s at *;generalize (b+(M:Rat))*bT b a y M=t at *;clear n1 n2;have:p*r*((a+b)*((1-y)*s1))=p*r*(a*s+1-t):=by rw[e]
 grind
theorem zLG {L:Rat->Nat->Rat} (hL:Lns L) {a b:Rat} (ha:0<a) (hb:0<b):Null (λ M=>(a+b)*bJ L (a+1) b M-a*bJ L a b M):=by
 have n1:=bH_up hL ha hb (show (0:Rat)<1/2 by grind) (by grind)
 have n2:=bH_side hL ha hb (show (0:Rat)<1/2 by grind) (by grind)
 refine (n1.add n2).of_eq λ M=>?_
 have t:=zQL L a b (1/2) M;have e:(1:Rat)-1/2=1/2:=by grind
 rw[e] at t;unfold bJ;rw[t];grind
theorem bS_11 {x:Rat} (M:Nat):(1-x)*bS 1 1 x M=1-pw x M:=by
 have t:∀ n,bT 1 1 x n=pw x n:=λ n=>by
  induction n with
  | zero=>show (1:Rat)/1=1;grind
  | succ n ih =>
   have e:=zA6 (show (0:Rat)<1 by grind) 1 x n
   refine zY (zBQ (show (0:Rat)<1 by grind) n) ?_
   rw[e,ih]
   show _=(1+((n:Rat)+1))*(x*pw x n)
   grind
 induction M with
 | zero=>show (1-x)*0=1-1;grind
 | succ n ih =>
  rw[zCW,t n]
  show _=1-x*pw x n
  grind
theorem pw_null {x:Rat} (hx:0<=x) (h1:x<1):Null (pw x):=zIA (λ k=>zBO hx k) h1 hx 0 λ k _=>Rat.le_refl
theorem bH_11 {L:Rat->Nat->Rat} (hL:Lns L) {x:Rat} (hx:0<x) (h1:x<1):Null (λ M=>bH L 1 1 x M-x):=by
 have x0:=YZ hx;have x1:0<1-x:=by grind
 have one:(0:Rat)<1:=by grind
 have n1:=(zFC hL hx).bmul ((kN hL x1 1).mul (zE7 one one x0 h1));have n2:=(zFC hL x1).bmul ((Bdd.const x).mul (zE7 one one x0 h1));have n3:=(pw_null x0 h1).bmul (Bdd.const x);refine ((n1.add n2).sub n3).of_eq λ M=>?_
 have e:=bS_11 (x:=x) M;unfold bH bP;generalize pr L 1 x M=p at *;generalize pr L 1 (1-x) M=r at *;generalize bS 1 1 x M=s at *;generalize pw x M=t at *;clear n1 n2 n3;have:x*((1-x)*s)=x*(1-t):=by rw[e]
 grind
theorem bJ_11 {L:Rat->Nat->Rat} (hL:Lns L):Null (λ M=>bJ L 1 1 M-1):=by
 have n:=bH_11 hL (show (0:Rat)<1/2 by grind) (by grind)
 exact (n.add n).of_eq λ M=>by unfold bJ;grind
theorem zN0 {L:Rat->Nat->Rat} (hL:Lns L) {a:Rat} (ha:0<a) (n:Nat):∃ p,0<p/\p<=1/4/\LeN (pr L a p) (λ _=>q2 n):=by
 obtain⟨c,c0,N,hc⟩:=zB9 (Bdd.const (-((n:Rat)/a)))
 obtain⟨p,p0,p1,p2⟩:∃ p,0<p/\p<=1/4/\p<=c:=by
  by_cases h:c<=1/4
  ·exact⟨c,c0,h,Rat.le_refl⟩
  ·exact⟨1/4,by grind,Rat.le_refl,by grind⟩
 refine⟨p,p0,p1,?_⟩
 have l:LeN (L p) (λ _ => -((n:Rat)/a)):=λ e he=>(hL p p0).le (zCP _) null_zero N (λ M hM=>by
  have:=hc M hM;have e:ex (-((n:Rat)/a)) M=Ev (λ _ => -((n:Rat)/a)) M:=rfl
  rw[e];grind) e he
 obtain⟨z,hz,kz⟩:=(l.cmul (YZ ha)).null;obtain⟨v,hv,N2,kv⟩:=zCV (kD hL p0 a) (Bdd.const (a * -((n:Rat)/a))) hz 0 (λ M _=>kz M)
 have e:a * -((n:Rat)/a) = -(n:Rat):=by have:=rdm (a:=(n:Rat)) ha;grind
 rw[e] at kv;exact (LeN.of_null hv N2 kv).trans (zF2 n)
theorem zS9 {L:Rat->Nat->Rat} (hL:Lns L) {b x:Rat} (hb:0<=b) (hx:0<x) (h1:x<=1):LeN (pr L b x) (λ _=>1):=by
 have l:LeN (L x) (λ _=>0):=λ e he=>(hL x hx).le isLog_one null_zero 0 (λ M _=>by grind) e he
 obtain⟨z,hz,kz⟩:=(l.cmul hb).null;obtain⟨v,hv,N2,kv⟩:=zCV (kD hL hx b) (Bdd.const (b*0)) hz 0 (λ M _=>kz M)
 refine LeN.of_null hv (N2+1) λ M hM=>?_
 have k:=kv M (by omega)
 obtain⟨m,rfl⟩:∃ m,M=m+1:=⟨M-1,by omega⟩
 have e:Ev (λ _=>b*0) (m+1)=1:=by
  have:b*0=0:=by grind
  rw[this];exact E_zero m
 rw[e] at k;exact k
theorem bH_small {L:Rat->Nat->Rat} (hL:Lns L) {a b:Rat} (ha:0<a) (hb:0<b) {e:Rat} (he:0<e):∃ p,0<p/\p<=1/4/\LeN (bH L a b p) (λ _=>e):=by
 obtain⟨K,k0,hK⟩:=zQM ha hb (show (0:Rat)<=1/4 by grind) (by grind)
 have Kp:0<K+1:=by grind
 obtain⟨n,hn⟩:=null_q2 (e/(K+1)) (zK he Kp);have q:=(hn n (Zb _)).2;obtain⟨p,p0,p1,ps⟩:=zN0 hL ha n;refine⟨p,p0,p1,?_⟩;have Km:0<1-p:=by grind
 have l1:=ps.mul (zS9 hL (YZ hb) Km (by grind)) (kN hL Km b) (zCU hL Km b) (Bdd.const (q2 n)) (Nn.const (YZ (yP n)))
 have l2:LeN (bS a b p) (λ _=>K+1):=LeN.of_le 0 λ M _=>by
  have:=hK M;have:=bS_mono ha hb (YZ p0) p1 M;grind
 have l:=l1.mul l2 (zE7 ha hb (YZ p0) (by grind)) ⟨0,λ M _=>zFX ha hb (YZ p0) M⟩ (Bdd.const (q2 n*1)) (Nn.const (by have:=yP n;grind))
 refine l.trans (LeN.of_le 0 λ M _=>?_)
 have m:=YX q (YZ Kp);rw[rdm Kp] at m;grind
theorem zL0 {L:Rat->Nat->Rat} (hL:Lns L) {a a' x:Rat} (h:a<=a') (hx:0<x) (h1:x<=1):LeN (pr L a' x) (pr L a x):=by
 have l:LeN (L x) (λ _=>0):=λ e he=>(hL x hx).le isLog_one null_zero 0 (λ M _=>by grind) e he
 obtain⟨z,hz,kz⟩:=(l.cmul (show 0<=a'-a by grind)).null
 obtain⟨v,hv,N2,kv⟩:=zCV (kD hL hx a') (kD hL hx a) hz 0 (λ M _=>by have:=kz M;grind)
 exact LeN.of_null hv N2 kv
theorem zQE {L:Rat->Nat->Rat} (hL:Lns L) {a a' b x:Rat} (h:a<=a') (hx:0<x) (h1:x<1):LeN (bF L a' b x) (bF L a b x):=by
 have x1:0<1-x:=by grind
 have l:=(zL0 hL h hx (YZ h1)).bmul (kN hL x1 b) (zCU hL x1 b);exact l.cmul (jR (Rat.mul_pos hx x1) (by grind))
theorem bH_cmp {L:Rat->Nat->Rat} (hL:Lns L) {a b a' b':Rat} (ha:0<a) (hb:0<b) (ha':0<a') (ay:0<b') (h:∀ x,0<x->x<1->LeN (bF L a' b' x) (bF L a b x)) {y:Rat} (hy:1/4<=y) (gF:y<1):LeN (bH L a' b' y) (bH L a b y):=by
 intro e he
 obtain⟨p,p0,p1,ps⟩:=bH_small hL ha' ay (show 0<e/2 by grind)
 have d:=(zMV hL ha hb p0 (show p<=y by grind) gF).sub (zMV hL ha' ay p0 (show p<=y by grind) gF)
 have l:=d.le (by grind) λ x h1 h2=>by
  have k:=h x (by grind) (by grind)
  obtain⟨z,hz,kz⟩:=k.null;exact LeN.of_null hz 0 λ M _=>by have:=kz M;grind
 obtain⟨N1,n1⟩:=l (e/4) (by grind)
 obtain⟨N2,n2⟩:=ps (e/4) (by grind)
 obtain⟨N3,n3⟩:=zQG hL ha hb p0 (show p<1 by grind)
 refine⟨N1+N2+N3,λ M hM=>?_⟩
 have a1:=n1 M (by omega)
 have a2:=n2 M (by omega)
 have a3:=n3 M (by omega)
 dsimp only at a1 a2
 grind
theorem zQH {L:Rat->Nat->Rat} (hL:Lns L) {a a' b:Rat} (ha:0<a) (hb:0<b) (h:a<=a'):LeN (bJ L a' b) (bJ L a b):=by
 have l1:=bH_cmp hL ha hb (show 0<a' by grind) hb (λ x h1 h2=>zQE hL h h1 h2) (show (1:Rat)/4<=1/2 by grind) (by grind)
 have l2:=bH_cmp hL hb ha hb (show 0<a' by grind) (λ x h1 h2=>by
  have:=zQE hL (b:=b) h (show 0<1-x by grind) (show 1-x<1 by grind)
  have e1:bF L a' b (1-x)=bF L b a' x:=by funext M;exact zLF L b a' x M
  have e2:bF L a b (1-x)=bF L b a x:=by funext M;exact zLF L b a x M
  rw[e1,e2] at this
  exact this) (show (1:Rat)/4<=1/2 by grind) (by grind)
 exact l1.add l2
end Go.Proofs.YtgmnknmjainabacGreat.Ex
namespace Go.Proofs.YtgmnknmjainabacGreat.Ex
theorem E_part {s y:Rat} (s0:0<=s) (s1:s<=1) (hy:0<=y) {M:Nat} (hM:1<=M):E (s*y) M<=1-s+s*E y M:=by
 obtain⟨m,rfl⟩:∃ m,M=m+1:=⟨M-1,by omega⟩
 clear hM
 have t:∀ k:Nat,tm (s*y) (k+1)<=s*tm y (k+1):=λ k=>by
  induction k with
  | zero =>
   have e1:=kV (s*y) 0;have e2:=kV y 0;have c:((0:Nat):Rat)=0:=rfl;rw[c] at e1 e2;have z1:tm (s*y) 0=1:=rfl;have z2:tm y 0=1:=rfl;rw[z1] at e1;rw[z2] at e2;grind
  | succ k ih =>
   have e1:=kV (s*y) (k+1);have e2:=kV y (k+1);have p:=zBN (k+1);have n0:=zA4 hy (k+1);have sy:=YV s0 hy;refine Rat.le_of_mul_le_mul_left (c:=((k+1:Nat):Rat)+1) ?_ p;rw[e1];have k1:(((k+1:Nat):Rat)+1)*(s*tm y (k+1+1))=s*((((k+1:Nat):Rat)+1)*tm y (k+1+1)):=by grind
   rw[k1,e2];have m1:=YT ih sy;have m2:=YV (YV sy (show 0<=1-s by grind)) n0
   grind
 induction m with
 | zero =>
  show 0+tm (s*y) 0<=1-s+s*(0+tm y 0)
  have z1:tm (s*y) 0=1:=rfl;have z2:tm y 0=1:=rfl;rw[z1,z2];grind
 | succ m ih =>
  have:=t m
  show E (s*y) (m+1)+tm (s*y) (m+1)<=1-s+s*(E y (m+1)+tm y (m+1))
  grind
theorem zP0 {s:Rat} {y:Nat->Rat} (s0:0<=s) (s1:s<=1) (hb:Bdd y) (hy:LeN (λ _=>0) y):LeN (Ev (λ M=>s*y M)) (λ M=>1-s+s*Ev y M):=by
 obtain⟨z,hz,kz⟩:=hy.null
 obtain⟨y',h1,h2⟩:∃ y':Nat->Rat,(∀ M,0<=y' M)/\Null (λ M=>y M-y' M):=by
  refine⟨λ M=>if 0<=y M then y M else 0,λ M=>?_,λ e he=>?_⟩
  ·dsimp only;split<;>grind
  ·obtain⟨N,hN⟩:=hy e he
   refine⟨N,λ M hM=>?_⟩
   have:=hN M hM
   dsimp only at this ⊢
   split<;>exact⟨by grind,by grind⟩
 have ay:Bdd y':=hb.of_null h2;have c1:=zD3 ((Bdd.const s).mul hb) ((Bdd.const s).mul ay) ((h2.bmul (Bdd.const s)).of_eq λ M=>by grind)
 have c2:=(zD3 hb ay h2).bmul (Bdd.const s);refine LeN.of_null (c1.sub c2) 1 λ M hM=>?_
 have e:=E_part s0 s1 (h1 M) hM;have e1:Ev (λ M=>s*y' M) M=E (s*y' M) M:=rfl
 have e2:Ev y' M=E (y' M) M:=rfl;rw[e1,e2];grind
theorem bern {L:Rat->Nat->Rat} (hL:Lns L) {s c t:Rat} (s0:0<=s) (s1:s<=1) (hc:0<c) (ht:0<t):LeN (pr L s t) (λ M=>(1-s+s*(t/c))*pr L s c M):=by
 have r0:=zK ht hc;have hy:=zIG hL hc r0;have et:c*(t/c)=t:=by have:=rdm (a:=t) hc;grind
 rw[et] at hy;obtain⟨y,ey⟩:∃ y:Nat->Rat,y=λ M=>L t M-L c M:=⟨_,rfl⟩
 rw[<- ey] at hy
 have key:LeN (Ev (λ M=>s*y M)) (λ _=>1-s+s*(t/c)):=by
  by_cases hle:c<=t
  ·have l:LeN (λ _=>0) y:=λ e he=>isLog_one.le hy null_zero 0 (λ M _=>by
    have:=jR (a:=1) hc (show 1*c<=t by grind)
    grind) e he
   refine (zP0 s0 s1 hy.1 l).trans ?_;refine LeN.of_null (hy.2.bmul (Bdd.const s)) 0 λ M _=>by grind
  ·-- the other way round
   have hw:=hy.neg (s:=λ _=>c/t) (Bdd.const _) 0 (λ M _=>by
    have e1:=rdm (a:=c) ht;have e2:=rdm (a:=t) hc
    have:c/t*(t/c)=c/t*t*(t/c)/t:=by
     have:c/t*t*(t/c)/t=c/t*(t/c)*(t/t):=by rw[Rat.div_def _ t,Rat.div_def t t];grind
     rw[this];have:t/t=1:=by rw[Rat.div_def,Rat.mul_inv_cancel _ (by grind)]
     rw[this];grind
    rw[this,e1];have:c*(t/c)=t:=by grind
    rw[this,Rat.div_def,Rat.mul_inv_cancel _ (by grind)])
   have l:LeN (λ _=>0) (λ M => -y M):=λ e he=>isLog_one.le hw null_zero 0 (λ M _=>by
    have:=jR (a:=1) ht (show 1*t<=c by grind)
    grind) e he
   have k:=(zP0 (show 0<=1-s by grind) (by grind) hw.1 l).bmul (zAH hy.1) (zPY hy.1)
   have a1:=zAO ((Bdd.const (1-s)).mul hw.1) hy.1;have a2:=zAO hw.1 hy.1;have e1:∀ M,Ev (λ M=>(1-s) * -y M+y M) M=Ev (λ M=>s*y M) M:=λ M=>by unfold Ev;congr 1;grind
   have e2:∀ M,Ev (λ M => -y M+y M) M=E 0 M:=λ M=>by unfold Ev;congr 1;grind
   obtain⟨z,hz,kz⟩:=k.null
   have n1:Null (λ M=>E 0 M-1):=null_zero.of_eq_from 1 λ M hM=>by
    obtain⟨m,rfl⟩:∃ m,M=m+1:=⟨M-1,by omega⟩
    rw[E_zero];grind
   refine LeN.of_null (((hz.add (a2.bmul (Bdd.const (1-s)))).add (hy.2.bmul (Bdd.const s))).add ((n1.bmul (Bdd.const (1-s))).sub a1)) 0 λ M _=>?_
   have k2:=kz M;rw[e1,e2];generalize Ev (λ M=>(1-s) * -y M) M=w1 at *
   generalize Ev (λ M=>s*y M) M=w2 at *
   generalize Ev (λ M => -y M) M=w3 at *
   generalize Ev y M=w4 at *;generalize E 0 M=w5 at *;clear k a1 a2 e1 e2 n1 hw l hz kz;have r:(1-(1-s)+(1-s)*w3)*w4=s*w4+(1-s)*(w3*w4):=by grind
   rw[r] at k2;grind
 have k:=key.bmul (kN hL hc s) (zCU hL hc s);have a:=zAO ((Bdd.const s).mul hy.1) (kD hL hc s);refine LeN.trans (LeN.of_eqN (Null.symm (a.of_eq λ M=>?_))) k
 have e:Ev (λ M=>s*y M+s*L c M) M=pr L s t M:=by rw[ey];unfold pr Ev;congr 1;grind
 rw[e];rfl
theorem upT_pw {a:Rat} (ha:0<a) (x:Rat) (n:Nat):upT a x n=upT a 1 n*pw x n:=by
 induction n with
 | zero=>show 1/a=1/a*1;grind
 | succ n ih =>
  have e1:=jW ha x n;have e2:=jW ha 1 n;refine zY (zBQ ha n) ?_;have e3:pw x (n+1)=x*pw x n:=rfl;rw[e1,e3,ih];have:(a+((n:Rat)+1))*(upT a 1 (n+1)*(x*pw x n))=(a+((n:Rat)+1))*upT a 1 (n+1)*(x*pw x n):=by grind
  rw[this,e2];grind
theorem uS_ps {a:Rat} (ha:0<a):uS a=psS (upT a 1):=by
 funext x M
 exact yT M λ k _=>upT_pw ha x k
theorem uS_dif {a q:Rat} (ha:0<a) (hq:0<=q):Dif (uS a) (psD (upT a 1)) 0 q:=by
 obtain⟨K,k0,hK⟩:=zK1 ha (show 0<=q+1 by grind)
 rw[uS_ps ha];refine ps_dif (A:=upT a 1) (r:=q+1) (K:=K) (λ k=>⟨by have:=kH ha (show (0:Rat)<=1 by grind) k;grind,Rat.le_refl⟩) (λ M=>?_) hq (by grind)
 have:=hK M;rw[uS_ps ha] at this;exact this
theorem uS_ode {a:Rat} (ha:0<a) (x:Rat) (M:Nat):x*psD (upT a 1) x M=1+(x-a)*uS a x M-(a+(M:Rat))*upT a x M:=by
 induction M with
 | zero =>
  have e:=zAD ha x;have c:((0:Nat):Rat)=0:=rfl;rw[c]
  show x*0=1+(x-a)*0-(a+0)*upT a x 0
  grind
 | succ n ih =>
  have e1:=jW ha x n;have c:((n+1:Nat):Rat)=(n:Rat)+1:=by push_cast;rfl
  have e2:psD (upT a 1) x (n+1)=psD (upT a 1) x n+upT a 1 n*dw x n:=rfl
  have e3:x*(upT a 1 n*dw x n)=(n:Rat)*upT a x n:=by
   have d:=dw_mul x n;rw[upT_pw ha x n];have:x*(upT a 1 n*dw x n)=upT a 1 n*(x*dw x n):=by grind
   rw[this,d];grind
  rw[yX,e2,c,e1];have e4:x*(psD (upT a 1) x n+upT a 1 n*dw x n)=x*psD (upT a 1) x n+(n:Rat)*upT a x n:=by rw[<- e3];grind
  rw[e4,ih];grind
theorem uW_null {a x:Rat} (ha:0<a) (hx:0<=x):Null (λ M=>(a+(M:Rat))*upT a x M):=by
 refine ((zHL (zI8 ha hx)).bmul (Bdd.const x)).of_eq_from 1 λ M hM=>?_
 obtain⟨m,rfl⟩:∃ m,M=m+1:=⟨M-1,by omega⟩
 have e:=jW ha x m;have c:((m+1:Nat):Rat)=(m:Rat)+1:=by push_cast;rfl
 rw[c,e];simp only[Nat.add_sub_cancel];grind
theorem ex_dif {p q:Rat} (hp:0<=p) (M4:p<=q):Dif (λ x=>ex (-x)) (λ x M => -ex (-x) M) p q:=by
 have bd:∀ x,p<=x->x<=q->LeA (ex (-x)) 1:=λ x h1 h2 e he=>by
  obtain⟨N1,n1⟩:=zDO (-x);obtain⟨N2,n2⟩:=(zH3 (a := -x) (b:=0) (by grind)) e he
  refine⟨N1+N2+1,λ M hM=>?_⟩
  have a1:=n1 M (by omega)
  have a2:=n2 M (by omega)
  obtain⟨m,rfl⟩:∃ m,M=m+1:=⟨M-1,by omega⟩
  have e0:ex 0 (m+1)=1:=E_zero m;rw[e0] at a2;exact⟨by grind,a2⟩
 refine Dif.of_small (D:=1/4) (C:=2) (K:=1) M4 (by grind) (by grind) (by grind) (λ x h1 h2=>⟨bd x h1 h2,(bd x h1 h2).neg⟩) (λ x h h1 h2 h3 h4 hD=>?_)
 have l:LeA (λ M=>ex (-h) M-1 - -h) (2*(-h * -h)):=LeA.of_ab 2 λ M hM=>zOK hD.neg hM
 have t:=l.mul (bd x h1 h2);have s:=zC2 (-h) (-x);have e : -h + -x = -(x+h):=by grind
 rw[e] at s;refine LeA.congr (t.mono (by grind)) (s.neg.of_eq λ M=>by grind)
def uF (L:Rat->Nat->Rat) (a x:Rat) (M:Nat):Rat:=1/x*(pr L a x M*ex (-x) M)
theorem zT4 {L:Rat->Nat->Rat} (hL:Lns L) {a p q:Rat} (ha:0<a) (hp:0<p) (M4:p<=q):Dif (uG L a) (uF L a) p q:=by
 have d1:=zS8 hL a hp M4;have d2:=ex_dif (YZ hp) M4;have d3:=(uS_dif ha (show 0<=q by grind)).within (p':=p) (q':=q) (by grind) Rat.le_refl
 have d:=(d1.mul M4 d2).mul M4 d3;refine d.congr λ x h1 h2=>?_
 have x0:0<x:=by grind
 have w:=(uW_null ha (YZ x0)).bmul (((kN hL x0 a).mul (yD (-x))).mul (Bdd.const (1/x)));refine w.of_eq λ M=>?_
 have o:=uS_ode ha x M;have e1:=rdm (a:=1) x0;have e3:a/x=a*(1/x):=by rw[Rat.div_def,Rat.div_def,Rat.one_mul]
 unfold uF;rw[e3];generalize 1/x=i at *;generalize pr L a x M=P at *;generalize ex (-x) M=R at *;generalize uS a x M=s at *;generalize psD (upT a 1) x M=D at *;generalize (a+(M:Rat))*upT a x M=W at *;clear w d d1 d2 d3
 have g:D=i*(x*D):=by
  have:i*(x*D)=i*x*D:=by grind
  rw[this,e1];grind
 have g2:a*i-1=i*(a-x):=by
  have:i*(a-x)=a*i-i*x:=by grind
  rw[this,e1]
 have g3:(a*i*P*R+P * -R)*s+P*R*D=P*R*((a*i-1)*s+D):=by grind
 rw[g3,g2]
 have g4:i*(a-x)*s+D=i*((a-x)*s+x*D):=by
  have:i*(a-x)*s+D=i*(a-x)*s+i*(x*D):=by rw[<- g]
  rw[this];grind
 rw[g4,o];grind
theorem uG_small {L:Rat->Nat->Rat} (hL:Lns L) {a:Rat} (ha:0<a) {e:Rat} (he:0<e):∃ p,0<p/\p<=1/4/\LeN (uG L a p) (λ _=>e):=by
 obtain⟨K,k0,hK⟩:=zK1 ha (show (0:Rat)<=1/4 by grind)
 have Kp:0<K+1:=by grind
 obtain⟨n,hn⟩:=null_q2 (e/(K+1)) (zK he Kp);have q:=(hn n (Zb _)).2;obtain⟨p,p0,p1,ps⟩:=zN0 hL ha n;refine⟨p,p0,p1,?_⟩
 have le:LeN (ex (-p)) (λ _=>1):=(zH3 (a := -p) (b:=0) (by grind)).trans (LeN.of_le 1 λ M hM=>by
  obtain⟨m,rfl⟩:∃ m,M=m+1:=⟨M-1,by omega⟩
  have e0:ex 0 (m+1)=1:=E_zero m
  rw[e0];exact Rat.le_refl)
 have l1:=ps.mul le (yD (-p)) (zDO (-p)) (Bdd.const (q2 n)) (Nn.const (YZ (yP n)))
 have l2:LeN (uS a p) (λ _=>K+1):=LeN.of_le 0 λ M _=>by
  have:=hK M;have:=zT7 ha (YZ p0) p1 M;grind
 have l:=l1.mul l2 (zDR ha (YZ p0)) ⟨0,λ M _=>zCF ha (YZ p0) M⟩ (Bdd.const (q2 n*1)) (Nn.const (by have:=yP n;grind))
 refine l.trans (LeN.of_le 0 λ M _=>?_)
 have m:=YX q (YZ Kp);rw[rdm Kp] at m;grind
theorem zT2 {L:Rat->Nat->Rat} (hL:Lns L) {x:Rat} (hx:0<x) (a s:Rat):Null (λ M=>uF L (a+s) x M-uF L a x M*pr L s x M):=by
 have h:=(zKM hL hx a s).bmul ((yD (-x)).mul (Bdd.const (1/x)));exact h.neg.of_eq λ M=>by unfold uF;grind
theorem zRO {L:Rat->Nat->Rat} (hL:Lns L) {a:Rat} {g:Nat->Rat} (ha:0<a) (h:IsGam L a g) {e:Rat} (he:0<e):∃ x,0<x/\LeN g (λ M=>uG L a x M+e):=by
 obtain⟨K,k0,hK⟩:∃ K,0<=K/\LeN g (λ _=>K):=by
  obtain⟨K,hK⟩:=h.bdd.leA
  exact⟨K,hK.nonneg,λ e he=>by
   obtain⟨N,n⟩:=hK e he
   exact⟨N,λ M hM=>(n M hM).2⟩⟩
 obtain⟨n,hn⟩:=kQ (2*K/e);obtain⟨m,hm⟩:=kQ a;obtain⟨x,EH⟩:∃ x:Rat,x=2*(a+1)*((n:Rat)+1)+2:=⟨_,rfl⟩;have n0:=zOM n;have an:=YV (show 0<=a+1 by grind) (show (0:Rat)<=(n:Rat)+1 by grind)
 have an2:=YV (show 0<=a by grind) n0
 have x0:0<x:=by grind
 refine⟨x,x0,?_⟩
 have us:∀ M,1<=M->2*((n:Rat)+1)<=x*uS a x M:=λ M hM=>by
  obtain⟨j,rfl⟩:∃ j,M=j+1:=⟨M-1,by omega⟩
  have f:=zFT ha (YZ x0) j;have d:=rdm (a:=1) ha;have i0:=zK (show (0:Rat)<1 by grind) ha
  have m1:=YT f (YZ x0);refine Rat.le_trans ?_ m1;refine Rat.le_of_mul_le_mul_right (c:=a) ?_ ha;have:x*(1/a)*a=x*(1/a*a):=by grind
  rw[this,d];grind
 have n1:=(zOG hL x0 a).bmul (zDR ha (YZ x0));obtain⟨N2,e2⟩:=zPP hL x0 a
 have l1:LeN (λ M=>2*((n:Rat)+1)*uE L a x M) (uG L a x):=by
  refine LeN.of_null n1 (1+N2) λ M hM=>?_
  have u0:=e2 M (by omega)
  have m:=YX (us M (by omega)) u0
  unfold uG;generalize uE L a x M=ue at *;generalize uS a x M=s at *;generalize pr L a x M=p at *;generalize ex (-x) M=y at *;grind
 have l2:=(l1.trans (h.lo x x0)).trans hK;have l3:=h.hi x (by grind) (by grind)
 have d:=rdm (a:=2*K) he
 have small:LeN (λ M=>2*uE L a x M) (λ _=>e):=by
  have ip:0<1/((n:Rat)+1):=zK (by grind) (zBN n)
  have im:=rdm (a:=1) (zBN n);refine LeN.trans (LeN.of_le 0 λ M _=>?_) ((l2.cmul (YZ ip)).trans (LeN.of_le 0 λ M _=>?_))
  ·have:1/((n:Rat)+1)*(2*((n:Rat)+1)*uE L a x M)=1/((n:Rat)+1)*((n:Rat)+1)*(2*uE L a x M):=by grind
   rw[this,im];grind
  ·have m1:=YX hn.2 (YZ he)
   rw[d] at m1;refine Rat.le_of_mul_le_mul_left (c:=(n:Rat)+1) ?_ (zBN n);have:((n:Rat)+1)*(1/((n:Rat)+1)*K)=1/((n:Rat)+1)*((n:Rat)+1)*K:=by grind
   rw[this,im];grind
 exact l3.trans ((LeN.refl (uG L a x)).add small)
theorem zND {L:Rat->Nat->Rat} (hL:Lns L) {a:Rat} {g g':Nat->Rat} (ha:0<a) (h:IsGam L a g) (h':IsGam L a g'):Null (λ M=>g M-g' M):=by
 have one:∀ g g':Nat->Rat,IsGam L a g->IsGam L a g'->LeN g g':=λ g g' h h' e he=>by
  obtain⟨x,x0,hx⟩:=zRO hL ha h (show 0<e/2 by grind)
  obtain⟨N1,n1⟩:=hx (e/4) (by grind)
  obtain⟨N2,n2⟩:=h'.lo x x0 (e/4) (by grind)
  exact⟨N1+N2,λ M hM=>by have:=n1 M (by omega);have:=n2 M (by omega);grind⟩
 exact (one g g' h h').eq (one g' g h' h)
theorem zH8 {L:Rat->Nat->Rat} (hL:Lns L) {z s c:Rat} {g k:Nat->Rat} (hz:0<z) (s0:0<=s) (s1:s<=1) (hzc:z<=c) (hg:IsGam L z g) (hk:IsGam L (z+s) k):LeN k (λ M=>pr L s c M*g M):=by
 intro e he
 have c0:0<c:=by grind
 have zs:0<z+s:=by grind
 obtain⟨x,x0,hx⟩:=zRO hL zs hk (show 0<e/8 by grind)
 obtain⟨p,p0,p1,ps⟩:=uG_small hL zs (show 0<e/8 by grind)
 have step:LeN (uG L (z+s) x) (λ M=>pr L s c M*g M+e/4):=by
  by_cases CE:p<=x
  ·obtain⟨F,hF⟩:∃ F:Rat->Nat->Rat,F=λ x M=>pr L s c M*((1-s)*uG L z x M+s/c*uG L (z+1) x M):=⟨_,rfl⟩
   have dz:=zT4 hL hz p0 CE;have GY:=zT4 hL (show 0<z+1 by grind) p0 CE
   have dzs:=zT4 hL zs p0 CE;have dc:=Dif.const (pr L s c) (kN hL c0 s) p x;have d:=(dc.mul CE ((dz.smul (1-s)).add (GY.smul (s/c)))).sub dzs
   have l:=d.le CE λ t h1 h2=>by
    have t0:0<t:=by grind
    have b:=bern hL s0 s1 c0 t0;obtain⟨N,hN⟩:Nn (uF L z t):=(Nn.const (jR t0 (by grind))).mul ((zCU hL t0 z).mul (zDO (-t)))
    have bF:Bdd (uF L z t):=(Bdd.const _).mul ((kN hL t0 z).mul (yD (-t)));have bb:=b.bmul bF ⟨N,hN⟩;have f1:=(zT2 hL t0 z 1).bmul ((Bdd.const (s/c)).mul (kN hL c0 s));have f2:=zT2 hL t0 z s;have f3:=(zFC hL t0).bmul ((bF.mul (Bdd.const (s/c))).mul (kN hL c0 s));obtain⟨y,hy,ky⟩:=bb.null;refine LeN.of_null ((hy.add f2).sub (f1.add f3)) 0 λ M _=>?_
    have k2:=ky M;have es:s*(t/c)=s/c*t:=by rw[Rat.div_def,Rat.div_def];grind
    rw[es] at k2;generalize uF L (z+s) t M=w1 at *;generalize uF L (z+1) t M=w2 at *;generalize uF L z t M=w3 at *;generalize pr L s t M=w4 at *;generalize pr L s c M=w5 at *;generalize pr L 1 t M=w6 at *;generalize s/c=w7 at *;clear b bb f1 f2 f3 hy ky hN bF d dz GY dzs dc;grind
   have l1:=hg.lo x x0;have l2:=(hg.next hL hz).lo x x0;obtain⟨NN,BQ⟩:=zCU hL c0 s;obtain⟨N6,n6⟩:=uG_nn hL hz p0;obtain⟨N7,n7⟩:=uG_nn hL (show 0<z+1 by grind) p0
   have sc:=jR (a:=0) (b:=s) c0 (by grind)
   have l3:=(((l1.cmul (show 0<=1-s by grind)).add (l2.cmul sc)).bmul (kN hL c0 s) ⟨NN,BQ⟩)
   obtain⟨gc,WQ,N8,n8⟩:=hg.pos
   intro e' PY
   obtain⟨N1,n1⟩:=l (e'/4) (by grind)
   obtain⟨N2,n2⟩:=ps (e'/4) (by grind)
   obtain⟨N3,n3⟩:=l3 (e'/4) (by grind)
   refine⟨N1+N2+N3+NN+N6+N7+N8,λ M hM=>?_⟩
   have a1:=n1 M (by omega)
   have a2:=n2 M (by omega)
   have a3:=n3 M (by omega)
   have a4:=BQ M (by omega)
   have a6:=n6 M (by omega)
   have a7:=n7 M (by omega)
   have a8:=n8 M (by omega)
   dsimp only at a1 a2 a3 ⊢
   have g0:0<=g M:=by grind
   have q1:=YV a4 (YV (show 0<=1-s by grind) a6)
   have DI:=YV a4 (YV sc a7)
   have zc:s/c*z<=s:=by
    have:=YT hzc sc;rw[rdm c0] at this;exact this
   have q3:=YV a4 (YV (show 0<=s-s/c*z by grind) g0)
   generalize pr L s c M=w1 at *;generalize uG L z p M=w2 at *;generalize uG L (z+1) p M=w3 at *;generalize uG L (z+s) p M=w4 at *;generalize uG L z x M=w5 at *;generalize uG L (z+1) x M=w6 at *;generalize uG L (z+s) x M=w7 at *;generalize s/c=w8 at *;clear l l1 l2 l3 d dz GY dzs dc n1 n2 n3 n6 n7 n8 BQ hx ps hk hg hF
   have r1:w1*((1-s)*w5+w8*w6)<=w1*g M+e'/4:=by
    have:((1-s)*g M+w8*(z*g M))*w1=w1*g M-w1*((s-w8*z)*g M):=by grind
    rw[this] at a3;grind
   have r2 : -w4<=w1*((1-s)*w2+w8*w3)-w4:=by grind
   grind
  ·-- x is bw p
   have m:=zME hL zs x0 (show x<=p by grind)
   obtain⟨NN,BQ⟩:=zCU hL c0 s;obtain⟨gc,WQ,N8,n8⟩:=hg.pos;refine (m.trans ps).trans (LeN.of_le (NN+N8) λ M hM=>?_)
   have a4:=BQ M (by omega)
   have a8:=n8 M (by omega)
   have:=YV a4 (show 0<=g M by grind)
   grind
 obtain⟨N1,n1⟩:=hx (e/4) (by grind)
 obtain⟨N2,n2⟩:=step (e/4) (by grind)
 refine⟨N1+N2,λ M hM=>?_⟩
 have a1:=n1 M (by omega)
 have a2:=n2 M (by omega)
 dsimp only at a1 a2 ⊢
 grind
end Go.Proofs.YtgmnknmjainabacGreat.Ex
namespace Go.Proofs.YtgmnknmjainabacGreat.Ex
theorem LeN.congr2 {f g f' g':Nat->Rat} (h:LeN f g) (hf:Null (λ M=>f' M-f M)) (hg:Null (λ M=>g M-g' M)):LeN f' g':=((LeN.of_eqN hf).trans h).trans (LeN.of_eqN hg)
theorem IsGam.nn {L:Rat->Nat->Rat} {a:Rat} {g:Nat->Rat} (h:IsGam L a g):Nn g:=by
 obtain⟨c,c0,N,hc⟩:=h.pos;exact⟨N,λ M hM=>by have:=hc M hM;grind⟩
theorem zMX {L:Rat->Nat->Rat} (hL:Lns L) {a b:Rat} {ga gab:Nat->Rat} (ha:0<a) (hb:0<b) (h1:IsGam L a ga) (h2:IsGam L (a+b) gab) (n:Nat):∃ R R':Rat,0<R/\0<R'/\IsGam L (a+(n:Rat)) (λ M=>R*ga M)/\IsGam L (a+b+(n:Rat)) (λ M=>R'*gab M)/\Null (λ M=>R'*bJ L (a+(n:Rat)) b M-R*bJ L a b M):=by
 induction n with
 | zero =>
  have c:((0:Nat):Rat)=0:=rfl;have e1:a+((0:Nat):Rat)=a:=by rw[c];grind
  have e2:a+b+((0:Nat):Rat)=a+b:=by rw[c];grind
  have e3:(λ M=>1*ga M)=ga:=by funext M;grind
  have e4:(λ M=>1*gab M)=gab:=by funext M;grind
  rw[e1,e2];exact⟨1,1,by grind,by grind,by rw[e3];exact h1,by rw[e4];exact h2,null_zero.of_eq λ M=>by grind⟩
 | succ n ih =>
  obtain⟨R,R',r0,Ac,i1,i2,i3⟩:=ih;have n0:=zOM n;have c:((n+1:Nat):Rat)=(n:Rat)+1:=by push_cast;rfl
  have an:0<a+(n:Rat):=by grind
  have abn:0<a+b+(n:Rat):=by grind
  have g1:=i1.next hL an;have g2:=i2.next hL abn;have e1:a+((n+1:Nat):Rat)=a+(n:Rat)+1:=by rw[c];grind
  have e2:a+b+((n+1:Nat):Rat)=a+b+(n:Rat)+1:=by rw[c];grind
  have e3:(λ M=>(a+(n:Rat))*(R*ga M))=λ M=>(a+(n:Rat))*R*ga M:=by funext M;grind
  have e4:(λ M=>(a+b+(n:Rat))*(R'*gab M))=λ M=>(a+b+(n:Rat))*R'*gab M:=by funext M;grind
  rw[e3] at g1;rw[e4] at g2;have nx:=zLG hL an hb;rw[e1,e2];refine⟨_,_,Rat.mul_pos an r0,Rat.mul_pos abn Ac,g1,g2,?_⟩;refine ((nx.bmul (Bdd.const R')).add (i3.bmul (Bdd.const (a+(n:Rat))))).of_eq λ M=>by grind
theorem zSX {L:Rat->Nat->Rat} (hL:Lns L):∃ g,IsGam L 1 g/\Null (λ M=>g M-1):=by
 obtain⟨g,hg⟩:=zH7 hL (show (0:Rat)<1 by grind) Rat.le_refl
 exact⟨g,hg.isGam hL (by grind),gam_one hL hg⟩
theorem zQI {L:Rat->Nat->Rat} (hL:Lns L) {a b:Rat} {ga gb gab:Nat->Rat} (ha:0<a) (ax:a<=1) (hb:0<b) (h1:IsGam L a ga) (h2:IsGam L b gb) (h3:IsGam L (a+b) gab) (hJ:Null (λ M=>b*bJ L 1 b M-1)) (n:Nat) :
  LeN (λ M=>((n:Rat)+1)*(bJ L a b M*gab M)) (λ M=>((n:Rat)+1+(a+b+1))*(ga M*gb M))/\LeN (λ M=>((n:Rat)+1)*(ga M*gb M)) (λ M=>((n:Rat)+1+(a+b+1))*(bJ L a b M*gab M)):=by
 have n0:=zOM n;have cN:((n+1:Nat):Rat)=(n:Rat)+1:=by push_cast;rfl
 obtain⟨g1,Fo,n1⟩:=zSX hL;obtain⟨R,R',r0,Ac,i1,i2,i3⟩:=zMX hL ha hb h1 h3 (n+1);have b9:=h2.next hL hb;have eb:b+1=1+b:=by grind
 rw[eb] at b9;obtain⟨T,T',t0,t0',j1,j2,j3⟩:=zMX hL (show (0:Rat)<1 by grind) hb Fo b9 n
 rw[cN] at i1 i2 i3;obtain⟨N,eN⟩:∃ N:Rat,N=(n:Rat)+1:=⟨_,rfl⟩;have VK:(1:Rat)+(n:Rat)=N:=by grind
 have GZ:(1:Rat)+b+(n:Rat)=N+b:=by grind
 rw[VK] at j1 j3;rw[GZ] at j2;rw[<- eN] at i1 i2 i3;have N0:0<N:=by grind
 have ea:a+N=N+a:=by grind
 have eab:a+b+N=N+b+a:=by grind
 rw[ea] at i1 i3;rw[eab] at i2;obtain⟨c,ec⟩:∃ c:Rat,c=N+(a+b+1):=⟨_,rfl⟩;have c0:0<c:=by grind
 have a0:=YZ ha;have p1:=zH8 hL (z:=N+b) (s:=a) (c:=c) (by grind) a0 ax (by grind) j2 i2
 have jn:=j1.next hL N0
 have p2:=zH8 hL (z:=N+a) (s:=1-a) (c:=c) (by grind) (by grind) (by grind) (by grind) i1 (by
  have e:N+a+(1-a)=N+1:=by grind
  rw[e];exact jn)
 have jb:=j2.next hL (show 0<N+b by grind)
 have p3:=zH8 hL (z:=N+b+a) (s:=1-a) (c:=c) (by grind) (by grind) (by grind) (by grind) i2 (by
  have e:N+b+a+(1-a)=N+b+1:=by grind
  rw[e];exact jb)
 have p4:=zH8 hL (z:=N) (s:=a) (c:=c) N0 a0 ax (by grind) j1 i1
 have q1:=zQH hL (a:=N) (a':=N+a) N0 hb (by grind)
 have DI:=zQH hL (a:=N+a) (a':=N+1) (by grind) hb (by grind)
 have q3:=zLG hL N0 hb;have w:=zKM hL c0 a (1-a);have ew:a+(1-a)=1:=by grind
 rw[ew] at w;have w1:=w.add (zFC hL c0);have bW:=kN hL c0 a;have nW:=zCU hL c0 a;have bV:=kN hL c0 (1-a);have nV:=zCU hL c0 (1-a);have bJN:=zG4 hL N0 hb;have bJa:=zG4 hL (show 0<N+a by grind) hb
 have Vq:=zG4 hL ha hb;have nJN:=bJ_nn hL N0 hb;have nJa:=bJ_nn hL (show 0<N+a by grind) hb
 have nR:Nn (λ M=>R'*gab M):=(Nn.const (YZ Ac)).mul h3.nn
 have bR:Bdd (λ M=>R'*gab M):=(Bdd.const R').mul h3.bdd
 have bga:=h1.bdd;have bgb:=h2.bdd;have bgab:=h3.bdd;have bg1:=Fo.bdd;have b1:=zG4 hL (show (0:Rat)<1 by grind) hb
 rw[<- eN,<- ec];constructor
 ·-- J(N+a) R' gab <= J(N) W T' b gb
  have l1:=q1.mul p1 bR nR bJN nJN
  have l2:LeN (λ M=>R*(bJ L a b M*gab M)) (λ M=>T*(pr L a c M*gb M)):=by
   refine l1.congr2 ((i3.bmul bgab).neg.of_eq λ M=>?_) (((j3.bmul ((bW.mul (Bdd.const b)).mul bgb)).add (hJ.bmul ((Bdd.const T).mul (bW.mul bgb)))).of_eq λ M=>?_)
   ·grind
   ·grind
  have l3:=p2.bmul (bW.mul bgb) (nW.mul h2.nn)
  have l4:LeN (λ M=>N*(T*(pr L a c M*gb M))) (λ M=>c*(R*(ga M*gb M))):=by
   refine l3.congr2 ((n1.bmul ((Bdd.const (N*T)).mul (bW.mul bgb))).neg.of_eq λ M=>?_) ((w1.bmul ((Bdd.const R).mul (bga.mul bgb))).of_eq λ M=>?_)
   ·grind
   ·grind
  have l5:=(l2.cmul (YZ N0)).trans l4;have ir:=zK (show (0:Rat)<1 by grind) r0
  have im:=rdm (a:=1) r0;refine LeN.trans (LeN.of_le 0 λ M _=>?_) ((l5.cmul (YZ ir)).trans (LeN.of_le 0 λ M _=>?_))
  ·have:1/R*(N*(R*(bJ L a b M*gab M)))=1/R*R*(N*(bJ L a b M*gab M)):=by grind
   rw[this,im];grind
  ·have:1/R*(c*(R*(ga M*gb M)))=1/R*R*(c*(ga M*gb M)):=by grind
   rw[this,im];grind
 ·-- J(N+1) (N+b) T' b gb <= J(N+a) V R' gab
  have nB:Nn (λ M=>(N+b)*(T'*(b*gb M))):=(Nn.const (show 0<=N+b by grind)).mul ((Nn.const (YZ t0')).mul ((Nn.const (YZ hb)).mul h2.nn))
  have bB:Bdd (λ M=>(N+b)*(T'*(b*gb M))):=(Bdd.const (N+b)).mul ((Bdd.const T').mul ((Bdd.const b).mul bgb))
  have l1:=DI.mul p3 bB nB bJa nJa
  have l2:LeN (λ M=>N*(T*gb M)) (λ M=>pr L (1-a) c M*(R*(bJ L a b M*gab M))):=by
   refine l1.congr2 ((((q3.bmul ((Bdd.const (T'*b)).mul bgb)).add (j3.bmul ((Bdd.const (N*b)).mul bgb))).add (hJ.bmul ((Bdd.const (N*T)).mul bgb))).neg.of_eq λ M=>?_) ((i3.bmul (bV.mul bgab)).of_eq λ M=>?_)
   ·grind
   ·grind
  have l3:=p4.bmul ((Bdd.const N).mul bgb) ((Nn.const (YZ N0)).mul h2.nn);have l4:=l2.bmul bW nW
  have l5:LeN (λ M=>N*(R*(ga M*gb M))) (λ M=>N*(T*gb M)*pr L a c M):=by
   refine l3.congr2 (null_zero.of_eq λ M=>?_) ((n1.bmul ((Bdd.const (N*T)).mul (bW.mul bgb))).of_eq λ M=>?_)
   ·grind
   ·grind
  have l6:LeN (λ M=>N*(R*(ga M*gb M))) (λ M=>c*(R*(bJ L a b M*gab M))):=by
   refine (l5.trans l4).trans (LeN.of_eqN ((w1.bmul ((Bdd.const R).mul (Vq.mul bgab))).of_eq λ M=>?_))
   grind
  have ir:=zK (show (0:Rat)<1 by grind) r0
  have im:=rdm (a:=1) r0;refine LeN.trans (LeN.of_le 0 λ M _=>?_) ((l6.cmul (YZ ir)).trans (LeN.of_le 0 λ M _=>?_))
  ·have:1/R*(N*(R*(ga M*gb M)))=1/R*R*(N*(ga M*gb M)):=by grind
   rw[this,im];grind
  ·have:1/R*(c*(R*(bJ L a b M*gab M)))=1/R*R*(c*(bJ L a b M*gab M)):=by grind
   rw[this,im];grind
theorem zNJ {P W:Nat->Rat} {C:Rat} (hC:0<=C) (bP:Bdd W) (h:∀ n:Nat,LeN (λ M=>((n:Rat)+1)*P M) (λ M=>((n:Rat)+1+C)*W M)):LeN P W:=by
 obtain⟨K,hK⟩:=bP.leA;have k0:=hK.nonneg;obtain⟨N0,BK⟩:=hK 1 (by grind)
 refine LeN.lim (C:=C*(K+1)) (YV hC (by grind)) λ n=>?_
 have ip:=zK (show (0:Rat)<1 by grind) (zBN n)
 have im:=rdm (a:=1) (zBN n);refine LeN.trans (LeN.of_le 0 λ M _=>?_) (((h n).cmul (YZ ip)).trans (LeN.of_le N0 λ M hM=>?_))
 ·have:1/((n:Rat)+1)*(((n:Rat)+1)*P M)=1/((n:Rat)+1)*((n:Rat)+1)*P M:=by grind
  rw[this,im];grind
 ·have b:=(BK M hM).2
  have m:=YT b (YV (YZ ip) hC);have:1/((n:Rat)+1)*(((n:Rat)+1+C)*W M)=1/((n:Rat)+1)*((n:Rat)+1)*W M+1/((n:Rat)+1)*C*W M:=by grind
  rw[this,im];grind
theorem zQK {L:Rat->Nat->Rat} (hL:Lns L) {a b:Rat} {ga gb gab:Nat->Rat} (ha:0<a) (ax:a<=1) (hb:0<b) (h1:IsGam L a ga) (h2:IsGam L b gb) (h3:IsGam L (a+b) gab) (hJ:Null (λ M=>b*bJ L 1 b M-1)):Null (λ M=>bJ L a b M*gab M-ga M*gb M):=by
 have c0:0<=a+b+1:=by grind
 refine (zNJ c0 (h1.bdd.mul h2.bdd) λ n=>(zQI hL ha ax hb h1 h2 h3 hJ n).1).eq (zNJ c0 ((zG4 hL ha hb).mul h3.bdd) λ n=>(zQI hL ha ax hb h1 h2 h3 hJ n).2)
theorem zRN {L:Rat->Nat->Rat} (hL:Lns L) (n:Nat):∀ a:Rat,0<a->a<=(n:Rat)+1->∃ g,IsGam L a g:=by
 induction n with
 | zero =>
  intro a ha h
  have c:((0:Nat):Rat)=0:=rfl;rw[c] at h;obtain⟨g,hg⟩:=zH7 hL ha (by grind)
  exact⟨g,hg.isGam hL ha⟩
 | succ n ih =>
  intro a ha h
  have c:((n+1:Nat):Rat)=(n:Rat)+1:=by push_cast;rfl
  rw[c] at h
  by_cases h1:a<=1
  ·obtain⟨g,hg⟩:=zH7 hL ha h1
   exact⟨g,hg.isGam hL ha⟩
  ·obtain⟨g,hg⟩:=ih (a-1) (by grind) (by grind)
   have:=hg.next hL (show 0<a-1 by grind)
   have e:a-1+1=a:=by grind
   rw[e] at this;exact⟨_,this⟩
theorem bJ_all {L:Rat->Nat->Rat} (hL:Lns L) {b:Rat} {gb:Nat->Rat} (hb:0<b) (h2:IsGam L b gb) (hJ:Null (λ M=>b*bJ L 1 b M-1)) (n:Nat):∀ (a:Rat) (ga gab:Nat->Rat),0<a->a<=(n:Rat)+1->IsGam L a ga->IsGam L (a+b) gab->Null (λ M=>bJ L a b M*gab M-ga M*gb M):=by
 induction n with
 | zero =>
  intro a ga gab ha h h1 h3
  have c:((0:Nat):Rat)=0:=rfl;rw[c] at h;exact zQK hL ha (by grind) hb h1 h2 h3 hJ
 | succ n ih =>
  intro a ga gab ha h h1 h3
  have c:((n+1:Nat):Rat)=(n:Rat)+1:=by push_cast;rfl
  rw[c] at h
  by_cases hle:a<=1
  ·exact zQK hL ha hle hb h1 h2 h3 hJ
  ·have a1:0<a-1:=by grind
   obtain⟨g,hg⟩:=zRN hL n (a-1) a1 (by grind)
   obtain⟨m,hm⟩:=kQ (a-1+b);obtain⟨k,hk⟩:=zRN hL m (a-1+b) (by grind) (by have:=hm.2;grind)
   have i:=ih (a-1) g k a1 (by grind) hg hk
   have e1:a-1+1=a:=by grind
   have e2:a-1+b+1=a+b:=by grind
   have pQ:=hg.next hL a1;have W6:=hk.next hL (show 0<a-1+b by grind)
   rw[e1] at pQ;rw[e2] at W6;have u1:=zND hL ha h1 pQ;have u2:=zND hL (show 0<a+b by grind) h3 W6
   have nx:=zLG hL a1 hb;rw[e1] at nx;refine ((((i.bmul (Bdd.const (a-1))).add (nx.bmul hk.bdd)).add (u2.bmul (zG4 hL ha hb))).sub (u1.bmul h2.bdd)).of_eq λ M=>?_
   grind
theorem bJ_one {L:Rat->Nat->Rat} (hL:Lns L) {b:Rat} (hb:0<b):Null (λ M=>b*bJ L 1 b M-1):=by
 obtain⟨g1,Fo,n1⟩:=zSX hL;obtain⟨m,hm⟩:=kQ b;obtain⟨g,hg⟩:=zRN hL m b hb (by have:=hm.2;grind)
 have j1:Null (λ M=>1*bJ L 1 1 M-1):=(bJ_11 hL).of_eq λ M=>by grind
 have k:=bJ_all hL (show (0:Rat)<1 by grind) Fo j1 m b g (λ M=>b*g M) hb (by have:=hm.2;grind) hg (hg.next hL hb)
 have h:=(k.add (n1.bmul hg.bdd))
 have p:Null (λ M=>g M*(b*bJ L 1 b M)-g M):=h.of_eq λ M=>by
  rw[zQJ L 1 b M];grind
 obtain⟨c,c0,N,hc⟩:=hg.pos
 intro e he
 obtain⟨N2,n2⟩:=p (c*e) (Rat.mul_pos c0 he);refine⟨N+N2,λ M hM=>?_⟩
 have a1:=n2 M (by omega)
 have a2:=hc M (by omega)
 dsimp only at a1
 show AB (b*bJ L 1 b M-1) e
 clear p h k j1 n1;generalize b*bJ L 1 b M=w at *;have e1:g M*w-g M=g M*(w-1):=by grind
 rw[e1] at a1;have m:=YX a2 (YZ he);have g0:0<g M:=by grind
 exact⟨Rat.le_of_mul_le_mul_left (c:=g M) (by have:=a1.1;grind) g0,Rat.le_of_mul_le_mul_left (c:=g M) (by have:=a1.2;grind) g0⟩
theorem zOL {L:Rat->Nat->Rat} (hL:Lns L) {a b:Rat} {ga gb gab:Nat->Rat} (ha:0<a) (hb:0<b) (h1:IsGam L a ga) (h2:IsGam L b gb) (h3:IsGam L (a+b) gab):Null (λ M=>bJ L a b M*gab M-ga M*gb M):=by
 obtain⟨m,hm⟩:=kQ a;exact bJ_all hL hb h2 (bJ_one hL hb) m a ga gab ha (by have:=hm.2;grind) h1 h3
end Go.Proofs.YtgmnknmjainabacGreat.Ex
namespace Go.Proofs.YtgmnknmjainabacGreat
open Ex
structure zG2 (n d:Int) (B:Nat):Prop where
 n0:0<n
 nd:n<=d
 dd:d<=2199023255552
 b0:40<=B
 b1:B<=1000
def gaU (d:Int) (B:Nat) (_:Nat):Int:=(B:Int)*d
def gaD (n d:Int) (k:Nat):Int:=n+(k:Int)*d
def gaT (n d:Int) (B:Nat):Nat->Int × Int:=riT (ofI d n B) (gaU d B) (gaD n d)
theorem zF4 {n d:Int} {B:Nat} (h:zG2 n d B) (k:Nat):0<gaD n d k:=by
 have:=Zc (show (0:Int)<=(k:Int) by omega) (show 0<=d by have:=h.n0;have:=h.nd;omega)
 have:=h.n0;unfold gaD;omega
theorem zRM {n d:Int} {B:Nat} (h:zG2 n d B):zP6 (gaU d B) (gaD n d):=⟨λ _=>Zc (by omega) (by have:=h.n0;have:=h.nd;omega),λ k=>zF4 h k⟩
theorem ga_34 {n d:Int} {B:Nat} (h:zG2 n d B) (k:Nat) (hk:2*B<=k):4*gaU d B (k+1)<=3*gaD n d (k+1):=by
 have n0:=h.n0;have nd:=h.nd;have m:=YW (show 2*(B:Int)<=((k+1:Nat):Int) by omega) (show 0<=d by omega)
 have e:2*(B:Int)*d=2*((B:Int)*d):=by grind
 have p:=Zc (show (0:Int)<=(B:Int) by omega) (show 0<=d by omega)
 unfold gaU gaD;omega
theorem ga_val {n d:Int} {B:Nat} (h:zG2 n d B) (k M:Nat):riV (λ _=>(d:Rat)/(n:Rat)) (gaU d B) (gaD n d) k M=upT ((n:Rat)/(d:Rat)) (B:Rat) k:=by
 have n0:(0:Rat)<(n:Rat):=by exact_mod_cast h.n0
 have d0:(0:Rat)<(d:Rat):=by exact_mod_cast (show (0:Int)<d by have:=h.n0;have:=h.nd;omega)
 have a0:(0:Rat)<(n:Rat)/(d:Rat):=zK n0 d0;have ed:=rdm (a:=(n:Rat)) d0
 induction k with
 | zero =>
  refine zY (c:=(n:Rat)/(d:Rat)) a0 ?_;rw[zAD a0]
  show (n:Rat)/(d:Rat)*((d:Rat)/(n:Rat))=1
  have e2:=rdm (a:=(d:Rat)) n0;refine zY (c:=(n:Rat)*(d:Rat)) (Rat.mul_pos n0 d0) ?_;have e3:(n:Rat)*(d:Rat)*((n:Rat)/(d:Rat)*((d:Rat)/(n:Rat)))=(n:Rat)/(d:Rat)*(d:Rat)*((d:Rat)/(n:Rat)*(n:Rat)):=by grind
  rw[e3,ed,e2];grind
 | succ k ih =>
  have p:(0:Rat)<(gaD n d (k+1):Rat):=by exact_mod_cast zF4 h (k+1)
  refine zY (c:=(n:Rat)/(d:Rat)+((k:Rat)+1)) (zBQ a0 k) ?_;rw[jW a0,<- ih]
  show ((n:Rat)/(d:Rat)+((k:Rat)+1))*((gaU d B (k+1):Rat)/(gaD n d (k+1):Rat)*riV (λ _=>(d:Rat)/(n:Rat)) (gaU d B) (gaD n d) k M)=_
  generalize riV (λ _=>(d:Rat)/(n:Rat)) (gaU d B) (gaD n d) k M=r
  have eD:(gaD n d (k+1):Rat)=(n:Rat)+((k:Rat)+1)*(d:Rat):=by
   unfold gaD;rw[Rat.intCast_add,Ze];have:(((k+1:Nat):Int):Rat)=(k:Rat)+1:=by push_cast;rfl
   rw[this]
  have eU:(gaU d B (k+1):Rat)=(B:Rat)*(d:Rat):=by
   unfold gaU;rw[Ze];rfl
  have e4:=rdm (a:=(gaU d B (k+1):Rat)) p
  have e5:((n:Rat)/(d:Rat)+((k:Rat)+1))*(d:Rat)=(gaD n d (k+1):Rat):=by
   rw[eD];have:((n:Rat)/(d:Rat)+((k:Rat)+1))*(d:Rat)=(n:Rat)/(d:Rat)*(d:Rat)+((k:Rat)+1)*(d:Rat):=by grind
   rw[this,ed]
  refine zY (c:=(d:Rat)) d0 ?_;have e6:(d:Rat)*(((n:Rat)/(d:Rat)+((k:Rat)+1))*((gaU d B (k+1):Rat)/(gaD n d (k+1):Rat)*r))=((n:Rat)/(d:Rat)+((k:Rat)+1))*(d:Rat)*((gaU d B (k+1):Rat)/(gaD n d (k+1):Rat))*r:=by grind
  rw[e6,e5];have e7:(gaD n d (k+1):Rat)*((gaU d B (k+1):Rat)/(gaD n d (k+1):Rat))=(gaU d B (k+1):Rat)/(gaD n d (k+1):Rat)*(gaD n d (k+1):Rat):=by grind
  rw[e7,e4,eU];grind
theorem ga_has {n d:Int} {B N:Nat} (h:zG2 n d B) (hN:yK (gaT n d B) (2*B) N):Iv B (yC (gaT n d B) N) (uS ((n:Rat)/(d:Rat)) (B:Rat)):=by
 have n0:=h.n0;have q0:(0:Rat)<=(d:Rat)/(n:Rat):=zAR (by have:=h.nd;omega) n0
 have r:=zCC (zRM h) (Iv.of B (n:=d) n0) 0 (λ M _=>q0) (λ k hk=>ga_34 h k hk) hN
 refine Has.of_eq r λ M=>?_
 show S (upT ((n:Rat)/(d:Rat)) (B:Rat)) M=S (λ k=>riV (λ _=>(d:Rat)/(n:Rat)) (gaU d B) (gaD n d) k M) M
 exact yT M λ k _=>(ga_val h k M).symm
theorem zCO {n d:Int} {B:Nat} (h:zG2 n d B):Q B<=(ofI d n B).1/\(ofI d n B).1<=(ofI d n B).2/\(ofI d n B).2<=Q (B+41)/\(ofI d n B).2-(ofI d n B).1<=1:=by
 have n0:=h.n0;have q:=zE B;have e:Q (B+41)=Q B*Q 41:=jD B 41;have VN:Q 41=2199023255552:=rfl;refine⟨?_,kO n0 B,?_,kU n0 B⟩
 ·refine Int.le_ediv_of_mul_le n0 ?_
  have:=Za h.nd (show 0<=Q B by omega)
  have:d*Q B=Q B*d:=Int.mul_comm _ _;omega
 ·have:=(jJ (x:=d*Q B) (m:=Q (B+41)) (q:=n) n0 (by
   have:=Zc (show 0<=d by have:=h.nd;omega) (show 0<=Q B by omega)
   have:=Zc (show 0<=Q (B+41) by have:=zE (B+41);omega) (show 0<=n by omega)
   omega) (by
   have m1:=YW h.dd (show 0<=Q B by omega)
   have m2:=Za (show 1<=n by omega) (show 0<=Q (B+41) by have:=zE (B+41);omega)
   rw[e,VN] at m2 ⊢;have:Q B*2199023255552=2199023255552*Q B:=Int.mul_comm _ _
   omega)).2.2.2
  exact this
theorem zCN {n d:Int} {B:Nat} (h:zG2 n d B) (k:Nat):0<=(gaT n d B k).1/\(gaT n d B k).1<=(gaT n d B k).2:=by
 obtain⟨f1,f2,f3,f4⟩:=zCO h;have q:=zE B;exact⟨zAT (zRM h) (by omega) k,zEM (zRM h) f2 k⟩
theorem zJN {x u v c:Int} (hv:0<v) (hx:0<=x) (h:u<=c*v) : -(-(x*u)/v)<=c*x:=by
 have e : -(c*x)*v <= -(x*u):=by
  have:=Za h hx;have e1 : -(c*x)*v = -(x*(c*v)):=by grind
  omega
 have:=Int.le_ediv_of_mul_le hv e;omega
theorem ga_hi1 {n d:Int} {B:Nat} (h:zG2 n d B) (k:Nat):(gaT n d B k).2<=Q (B+41+10*k):=by
 induction k with
 | zero=>exact (zCO h).2.2.1
 | succ k ih =>
  obtain⟨e1,e2⟩:=zCN h k;have p:=zF4 h (k+1);have n0:=h.n0;have nd:=h.nd;have b1:=h.b1
  have m:=zJN (x:=(gaT n d B k).2) (u:=gaU d B (k+1)) (v:=gaD n d (k+1)) (c:=1024) p (by omega) (by
   have m1:=YW (show (B:Int)<=1024 by omega) (show 0<=d by omega)
   have m2:=Zc (show (0:Int)<=(k:Int) by omega) (show 0<=d by omega)
   have e:((k+1:Nat):Int)*d=(k:Int)*d+d:=by
    have:((k+1:Nat):Int)=(k:Int)+1:=by omega
    rw[this];grind
   unfold gaU gaD
   omega)
  have Bk:Q (B+41+10*(k+1))=1024*Q (B+41+10*k):=by
   have:=jD (B+41+10*k) 10;have e:Q 10=1024:=rfl;rw[e] at this;have e2:B+41+10*k+10=B+41+10*(k+1):=by omega
   rw[e2] at this;omega
  show -(-((gaT n d B k).2*gaU d B (k+1))/gaD n d (k+1))<=_
  omega
theorem ga_hi {n d:Int} {B:Nat} (h:zG2 n d B) (k:Nat):(gaT n d B k).2<=Q (21*B+41):=by
 by_cases c:k<=2*B
 ·exact Int.le_trans (ga_hi1 h k) (zH (by omega))
 ·obtain⟨j,rfl⟩:∃ j,k=2*B+j:=⟨k-2*B,by omega⟩
  have big:3<=Q (21*B+41):=by have:=zH (show 2<=21*B+41 by omega);have:Q 2=4:=rfl;omega
  clear c
  induction j with
  | zero=>exact Int.le_trans (ga_hi1 h _) (zH (by omega))
  | succ j ih =>
   obtain⟨e1,e2⟩:=zCN h (2*B+j);have f:=zM7 (x:=(gaT n d B (2*B+j)).2) (zF4 h (2*B+j+1)) (by omega) (ga_34 h (2*B+j) (by omega))
   have e:(gaT n d B (2*B+(j+1))).2 = -(-((gaT n d B (2*B+j)).2*gaU d B (2*B+j+1))/gaD n d (2*B+j+1)):=rfl;rw[e];omega
theorem ga_set {n d:Int} {B:Nat} (h:zG2 n d B):∃ N,N<=65*B+126/\yK (gaT n d B) (2*B) N:=by
 obtain⟨f1,f2,f3,f4⟩:=zCO h;have q:=zE B
 obtain⟨N,h1,h2⟩:=zL6 (turn:=2*B) (H:=21*B+42) (zRM h) (show 0<=(ofI d n B).1 by omega) f2 (λ k hk=>ga_34 h k hk) (by
  have a:(riT (ofI d n B) (gaU d B) (gaD n d) (2*B)).2<=Q (21*B+41):=ga_hi h (2*B);have e:Q (21*B+42)=2*Q (21*B+41):=rfl;have:=zE (21*B+41)
  omega)
 exact⟨N,by omega,h2⟩
theorem ga_rise {n d:Int} {B:Nat} (h:zG2 n d B) (k:Nat) (hk:gaD n d (k+1)<=gaU d B (k+1)):(ofI d n B).2<=(gaT n d B k).2:=by
 induction k with
 | zero=>exact Int.le_refl _
 | succ k ih =>
  have n0:=h.n0;have nd:=h.nd
  have nI:gaD n d (k+1)<=gaU d B (k+1):=by
   have e:gaD n d (k+1+1)=gaD n d (k+1)+d:=by
    unfold gaD;have:((k+1+1:Nat):Int)=((k+1:Nat):Int)+1:=by omega
    rw[this];grind
   have e2:gaU d B (k+1+1)=gaU d B (k+1):=rfl;rw[e,e2] at hk;omega
  have i:=ih nI;obtain⟨e1,e2⟩:=zCN h k;have p:=zF4 h (k+1);have c:=zEY ((gaT n d B k).2*gaU d B (k+1)) p;have m:=Za nI (show 0<=(gaT n d B k).2 by omega)
  refine Int.le_trans i ?_;refine Int.le_of_mul_le_mul_right (a:=gaD n d (k+1)) ?_ p;exact Int.le_trans m c
theorem zNB {n d:Int} {B:Nat} (h:zG2 n d B) (k:Nat):((gaT n d B k).2-(gaT n d B k).1)*(ofI d n B).2<=(1+2*(k:Int))*((gaT n d B k).2+(ofI d n B).2):=by
 obtain⟨f1,f2,f3,f4⟩:=zCO h;have q:=zE B;obtain⟨e1,e2⟩:=zCN h k;have w:=zN5 (zRM h) (show 0<=(ofI d n B).1 by omega) f2 (by omega) f4 (λ k hk=>ga_rise h k hk) k
 refine Int.le_trans w (Za ?_ (by omega))
 have e:riT (ofI d n B) (gaU d B) (gaD n d) k=gaT n d B k:=rfl;rw[e];split<;>omega
theorem zNC {n d:Int} {B:Nat} (h:zG2 n d B) (k:Nat):((jE (gaT n d B) k).2-(jE (gaT n d B) k).1)*(ofI d n B).2<=(1+2*(k:Int))*((jE (gaT n d B) k).2+((k:Int)+1)*(ofI d n B).2)/\0<=(jE (gaT n d B) k).2/\(ofI d n B).2<=(jE (gaT n d B) k).2/\(ofI d n B).1<=(jE (gaT n d B) k).1:=by
 obtain⟨f1,f2,f3,f4⟩:=zCO h;have q:=zE B;have a2:0<=(ofI d n B).2:=by omega
 induction k with
 | zero =>
  have w:=zNB h 0;refine⟨?_,by show 0<=(ofI d n B).2;omega,Int.le_refl _,Int.le_refl _⟩
  show ((gaT n d B 0).2-(gaT n d B 0).1)*(ofI d n B).2<=(1+2*((0:Nat):Int))*((gaT n d B 0).2+(((0:Nat):Int)+1)*(ofI d n B).2)
  have e:((0:Nat):Int)=0:=rfl;rw[e] at w ⊢;generalize ((gaT n d B 0).2-(gaT n d B 0).1)*(ofI d n B).2=z at *;omega
 | succ k ih =>
  obtain⟨i1,i2,i3,i4⟩:=ih;have w:=zNB h (k+1);obtain⟨e1,e2⟩:=zCN h (k+1);have es:jE (gaT n d B) (k+1)=zB8 (jE (gaT n d B) k) (gaT n d B (k+1)):=rfl;have Hw:(jE (gaT n d B) (k+1)).1=(jE (gaT n d B) k).1+(gaT n d B (k+1)).1:=rfl;have Hz:(jE (gaT n d B) (k+1)).2=(jE (gaT n d B) k).2+(gaT n d B (k+1)).2:=rfl;have ec:((k+1:Nat):Int)=(k:Int)+1:=by omega
  refine⟨?_,by omega,by omega,by omega⟩
  rw[Hw,Hz];rw[ec] at w ⊢;generalize (jE (gaT n d B) k).2=S2 at *;generalize (jE (gaT n d B) k).1=S1 at *;generalize (gaT n d B (k+1)).2=T2 at *;generalize (gaT n d B (k+1)).1=T1 at *;generalize (ofI d n B).2=A at *;have k0:(0:Int)<=(k:Int):=by omega
  have m1:=Zc k0 a2;have r0:((k:Int)+1)*A=(k:Int)*A+A:=by grind
  have m2:(1+2*(k:Int))*(S2+((k:Int)+1)*A)<=(1+2*((k:Int)+1))*(S2+((k:Int)+1)*A):=YW (by omega) (by omega)
  have r1:(S2+T2-(S1+T1))*A=(S2-S1)*A+(T2-T1)*A:=by grind
  have r2:(1+2*((k:Int)+1))*(S2+T2+((k:Int)+1+1)*A)=(1+2*((k:Int)+1))*(S2+((k:Int)+1)*A)+(1+2*((k:Int)+1))*(T2+A):=by grind
  rw[r1,r2];omega
def jQ (n d:Int) (B N:Nat):Int × Int:=yC (gaT n d B) N
theorem zNA {n d:Int} {B N:Nat} (h:zG2 n d B) (hN:N<=65*B+126):Q B<=(jQ n d B N).1/\(jQ n d B N).1<=(jQ n d B N).2/\((jQ n d B N).2-(jQ n d B N).1)*Q B<=9500*((B:Int)*(B:Int))*(jQ n d B N).2:=by
 obtain⟨f1,f2,f3,f4⟩:=zCO h;obtain⟨w1,w2,w3,w4⟩:=zNC h N;have q:=zE B;have e1:(jQ n d B N).1=(jE (gaT n d B) N).1+0:=rfl;have e2:(jQ n d B N).2=(jE (gaT n d B) N).2+9:=rfl;have sl:(jE (gaT n d B) N).1<=(jE (gaT n d B) N).2:=zGK (λ k=>(zCN h k).2) N
 refine⟨by omega,by omega,?_⟩
 have b0:=h.b0;have b1:=h.b1;rw[e1,e2];generalize (jE (gaT n d B) N).2=S2 at *;generalize (jE (gaT n d B) N).1=S1 at *;generalize (ofI d n B).2=A at *;have m0:=Za (show Q B<=A by omega) (show 0<=S2+9-(S1+0) by omega)
 have m1:(1+2*(N:Int))*(S2+((N:Int)+1)*A)<=(1+2*(N:Int))*(((N:Int)+2)*(S2+9)):=Za (by
  have a:=Za (show A<=S2+9 by omega) (show 0<=(N:Int)+1 by omega)
  have e:((N:Int)+2)*(S2+9)=((N:Int)+1)*(S2+9)+(S2+9):=by grind
  omega) (by omega)
 have r:(S2+9-(S1+0))*A=(S2-S1)*A+9*A:=by grind
 have k1:(1+2*(N:Int))*((N:Int)+2)+9<=9500*((B:Int)*(B:Int)):=by
  have n1:(N:Int)+2<=69*(B:Int):=by omega
  have n2:1+2*(N:Int)<=137*(B:Int):=by omega
  have a:=Int.mul_le_mul n2 n1 (by omega) (by omega)
  have e:137*(B:Int)*(69*(B:Int))=9453*((B:Int)*(B:Int)):=by grind
  have:=Int.mul_le_mul (show (40:Int)<=(B:Int) by omega) (show (40:Int)<=(B:Int) by omega) (by omega) (by omega)
  omega
 have m2:=YW k1 (show 0<=S2+9 by omega)
 have r2:((1+2*(N:Int))*((N:Int)+2)+9)*(S2+9)=(1+2*(N:Int))*(((N:Int)+2)*(S2+9))+9*(S2+9):=by grind
 rw[r] at m0;rw[r2] at m2;omega
theorem ga_fit {n d:Int} {B:Nat} (h:zG2 n d B) (k:Nat) (hk:k<=65*B+126):(jE (gaT n d B) k).2+9<=Q (21*B+60):=by
 have b1:=h.b1
 have s:∀ j:Nat,(jE (gaT n d B) j).2<=((j:Int)+1)*Q (21*B+41):=λ j=>by
  induction j with
  | zero =>
   have:=ga_hi h 0
   show (gaT n d B 0).2<=(((0:Nat):Int)+1)*Q (21*B+41)
   have e:((0:Nat):Int)=0:=rfl;rw[e];omega
  | succ j ih =>
   have:=ga_hi h (j+1);have e:(jE (gaT n d B) (j+1)).2=(jE (gaT n d B) j).2+(gaT n d B (j+1)).2:=rfl;have ec:((j+1:Nat):Int)+1=((j:Int)+1)+1:=by omega
   have r:(((j:Int)+1)+1)*Q (21*B+41)=((j:Int)+1)*Q (21*B+41)+Q (21*B+41):=by grind
   rw[e,ec,r];omega
 have a:=s k;have q:=zE (21*B+41);have big:9<=Q (21*B+41):=by have:=zH (show 4<=21*B+41 by omega);have:Q 4=16:=rfl;omega
 have m:=YW (show (k:Int)+1<=65127 by omega) (show 0<=Q (21*B+41) by omega)
 have e:Q (21*B+60)=Q (21*B+41)*Q 19:=by have:=jD (21*B+41) 19;exact this
 have rM:Q 19=524288:=rfl;rw[rM] at e;omega
end Go.Proofs.YtgmnknmjainabacGreat
