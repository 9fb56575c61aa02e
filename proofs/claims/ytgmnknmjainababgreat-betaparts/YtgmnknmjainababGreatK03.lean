/-
  Its own texts.
-/
import Derived.Test.YtgmnknmjainababGreatK02
set_option maxRecDepth 100000
set_option maxHeartbeats 40000000
set_option linter.unusedVariables false
namespace Go.Proofs.YtgmnknmjainababGreat.Ex
def bT (a b x:Rat):Nat->Rat
 | 0=>1/a
 | n+1=>x*(a+b+(n:Rat))/(a+((n:Rat)+1))*bT a b x n
theorem zD0 {a:Rat} (ha:0<a) (b x:Rat):a*bT a b x 0=1:=by
 have:=rdm (a:=1) ha
 show a*(1/a)=1
 grind
theorem zA3 {a:Rat} (ha:0<a) (b x:Rat) (n:Nat):(a+((n:Rat)+1))*bT a b x (n+1)=x*(a+b+(n:Rat))*bT a b x n:=by
 have e:=rdm (a:=x*(a+b+(n:Rat))) (zBI ha n)
 show (a+((n:Rat)+1))*(x*(a+b+(n:Rat))/(a+((n:Rat)+1))*bT a b x n)=_
 generalize x*(a+b+(n:Rat))/(a+((n:Rat)+1))=t at *;rw[<- e];grind
theorem zGA (n:Nat):(0:Rat)<=(n:Rat):=by exact_mod_cast Nat.zero_le n
theorem zAV {a b x:Rat} (ha:0<a) (hb:0<b) (h:0<=x) (n:Nat):0<=bT a b x n:=by
 induction n with
 | zero=>exact jQ ha (by grind)
 | succ n ih =>
  have n0:=zGA n;exact XQ (jQ (zBI ha n) (by have:=XQ h (show 0<=a+b+(n:Rat) by grind);grind)) ih
theorem bT_pw {a:Rat} (ha:0<a) (b x:Rat) (n:Nat):bT a b x n=bT a b 1 n*pw x n:=by
 induction n with
 | zero=>show 1/a=1/a*1;grind
 | succ n ih =>
  have e1:=zA3 ha b x n;have e2:=zA3 ha b 1 n;refine zS (zBI ha n) ?_;have e3:pw x (n+1)=x*pw x n:=rfl;rw[e1,e3,ih];have:(a+((n:Rat)+1))*(bT a b 1 (n+1)*(x*pw x n))=(a+((n:Rat)+1))*bT a b 1 (n+1)*(x*pw x n):=by grind
  rw[this,e2];grind
def bS (a b x:Rat) (M:Nat):Rat:=S (bT a b x) M
theorem zCY (a b x:Rat) (M:Nat):bS a b x (M+1)=bS a b x M+bT a b x M:=rfl
theorem bS_ps {a:Rat} (ha:0<a) (b:Rat):bS a b=psS (bT a b 1):=by
 funext x M
 exact zA1 M λ k _=>bT_pw ha b x k
theorem zE5 {a b x:Rat} (ha:0<a) (hb:0<b) (h:0<=x) (M:Nat):0<=bS a b x M:=by
 induction M with
 | zero=>show (0:Rat)<=0;grind
 | succ n ih=>have:=zAV ha hb h n;rw[zCY];grind
theorem zMB {a b x:Rat} (ha:0<a) (hb:0<b) (h:0<=x) (M:Nat):1/a<=bS a b x (M+1):=by
 induction M with
 | zero=>show 1/a<=0+1/a;grind
 | succ n ih=>have:=zAV ha hb h (n+1);rw[zCY];grind
theorem b_turn {b x:Rat} (hb:0<b) (hx:0<=x) (h1:x<1):∃ k0:Nat,∀ k:Nat,k0<=k->2*(x*b)<=(1-x)*(k:Rat):=by
 have d:0<1-x:=by grind
 obtain⟨n,hn⟩:=yX (2*b/(1-x));refine⟨n,λ k hk=>?_⟩
 have nk:(n:Rat)<=(k:Rat):=by exact_mod_cast hk
 have e:=rdm (a:=2*b) d;have m:=Yc (Rat.le_trans hn.2 nk) (XV d);rw[e] at m;have m2:=Yc (XV h1) (XV hb);grind
theorem zQR {a b x:Rat} (ha:0<a) (hb:0<b) (hx:0<=x) (h1:x<1):∃ k0:Nat,∀ k,k0<=k->bT a b x (k+1)<=(1+x)/2*bT a b x k/\(a+((k+1:Nat):Rat))*bT a b x (k+1)<=(1+x)/2*((a+(k:Rat))*bT a b x k):=by
 obtain⟨k0,T5⟩:=b_turn hb hx h1;refine⟨k0,λ k hk=>?_⟩
 have t:=T5 k hk;have e:=zA3 ha b x k;have n0:=zGA k;have p:=zBI ha k;have t0:=zAV ha hb hx k;have xa:=XQ (show 0<=1-x by grind) (XV ha)
 have c:((k+1:Nat):Rat)=(k:Rat)+1:=by push_cast;rfl
 rw[c,e];constructor
 ·refine Rat.le_of_mul_le_mul_left (c:=a+((k:Rat)+1)) ?_ p
  rw[e];have m:=Yc (show x*(a+b+(k:Rat))<=(1+x)/2*(a+((k:Rat)+1)) by grind) t0
  grind
 ·have m:=Yc (show x*(a+b+(k:Rat))<=(1+x)/2*(a+(k:Rat)) by grind) t0
  grind
theorem zQA {a b x:Rat} (ha:0<a) (hb:0<b) (hx:0<=x) (h1:x<1):∃ K,0<=K/\∀ M,bS a b x M<=K:=by
 obtain⟨k0,h⟩:=zQR ha hb hx h1;exact geo (t:=bT a b x) (ρ:=(1+x)/2) (zAV ha hb hx) (by grind) (by grind) k0 λ k hk=>(h k hk).1
theorem zEG {a b x:Rat} (ha:0<a) (hb:0<b) (hx:0<=x) (h1:x<1):Bdd (bS a b x):=by
 obtain⟨K,k0,hK⟩:=zQA ha hb hx h1;exact Bdd.of_le K 0 λ M _=>⟨by have:=zE5 ha hb hx M;grind,hK M⟩
theorem bS_mono {a b x y:Rat} (ha:0<a) (hb:0<b) (hx:0<=x) (cY:x<=y) (M:Nat):bS a b x M<=bS a b y M:=by
 refine S_mono (λ k=>?_) M
 rw[bT_pw ha b x,bT_pw ha b y];exact Ya (zKC hx cY k) (zAV ha hb (by grind) k)
theorem bT_null {a b x:Rat} (ha:0<a) (hb:0<b) (hx:0<=x) (h1:x<1):Null (bT a b x):=by
 obtain⟨k0,h⟩:=zQR ha hb hx h1;exact zEW (ρ:=(1+x)/2) (zAV ha hb hx) (by grind) (by grind) k0 λ k hk=>(h k hk).1
theorem zKQ {a b x:Rat} (ha:0<a) (hb:0<b) (hx:0<=x) (h1:x<1):Null (λ k=>(a+(k:Rat))*bT a b x k):=by
 obtain⟨k0,h⟩:=zQR ha hb hx h1;refine zEW (t:=λ k=>(a+(k:Rat))*bT a b x k) (ρ:=(1+x)/2) (λ k=>XQ (by have:=zGA k;grind) (zAV ha hb hx k)) (by grind) (by grind) k0 λ k hk=>(h k hk).2
theorem bS_ode {a:Rat} (ha:0<a) (b x:Rat) (M:Nat):(1-x)*(x*psD (bT a b 1) x M)=1+((a+b)*x-a)*bS a b x M-(a+(M:Rat))*bT a b x M:=by
 have key:∀ M:Nat,a*bS a b x M+x*psD (bT a b 1) x M-1+(a+(M:Rat))*bT a b x M=x*(a+b)*bS a b x M+x*(x*psD (bT a b 1) x M):=λ M=>by
  induction M with
  | zero =>
   have e:=zD0 ha b x;have c:((0:Nat):Rat)=0:=rfl;rw[c]
   show a*0+x*0-1+(a+0)*bT a b x 0=x*(a+b)*0+x*(x*0)
   grind
  | succ n ih =>
   have e1:=zA3 ha b x n;have c:((n+1:Nat):Rat)=(n:Rat)+1:=by push_cast;rfl
   have e2:psD (bT a b 1) x (n+1)=psD (bT a b 1) x n+bT a b 1 n*dw x n:=rfl
   have e3:x*(bT a b 1 n*dw x n)=(n:Rat)*bT a b x n:=by
    have d:=zLI x n;rw[bT_pw ha b x n];have:x*(bT a b 1 n*dw x n)=bT a b 1 n*(x*dw x n):=by grind
    rw[this,d];grind
   rw[zCY,e2,c,e1];have e4:x*(psD (bT a b 1) x n+bT a b 1 n*dw x n)=x*psD (bT a b 1) x n+(n:Rat)*bT a b x n:=by rw[<- e3];grind
   rw[e4];generalize psD (bT a b 1) x n=D at *;generalize bS a b x n=s at *;generalize bT a b x n=t at *;clear e1 e2 e3 e4;grind
 have:=key M;grind
def bP (L:Rat->Nat->Rat) (a b x:Rat) (M:Nat):Rat:=pr L a x M*pr L b (1-x) M
def bH (L:Rat->Nat->Rat) (a b x:Rat) (M:Nat):Rat:=bP L a b x M*bS a b x M
def bF (L:Rat->Nat->Rat) (a b x:Rat) (M:Nat):Rat:=1/(x*(1-x))*bP L a b x M
theorem zML {L:Rat->Nat->Rat} (hL:Lns L) {x:Rat} (hx:0<x) (h1:x<1) (a b:Rat):Bdd (bP L a b x):=(jV hL hx a).mul (jV hL (show 0<1-x by grind) b)
theorem bP_nn {L:Rat->Nat->Rat} (hL:Lns L) {x:Rat} (hx:0<x) (h1:x<1) (a b:Rat):Nn (bP L a b x):=(zBW hL hx a).mul (zBW hL (show 0<1-x by grind) b)
theorem zPA (L:Rat->Nat->Rat) (a b x:Rat) (M:Nat):bP L b a (1-x) M=bP L a b x M:=by
 unfold bP;have:1-(1-x)=x:=by grind
 rw[this];grind
theorem zJY (L:Rat->Nat->Rat) (a b x:Rat) (M:Nat):bF L b a (1-x) M=bF L a b x M:=by
 unfold bF;rw[zPA];have:(1-x)*(1-(1-x))=x*(1-x):=by grind
 rw[this]
theorem zOE {L:Rat->Nat->Rat} (hL:Lns L) {a b x:Rat} (ha:0<a) (hb:0<b) (hx:0<x) (h1:x<1):Bdd (bH L a b x):=(zML hL hx h1 a b).mul (zEG ha hb (XV hx) h1)
theorem zRI {L:Rat->Nat->Rat} (hL:Lns L) {a b x:Rat} (ha:0<a) (hb:0<b) (hx:0<x) (h1:x<1):Nn (bH L a b x):=(bP_nn hL hx h1 a b).mul ⟨0,λ M _=>zE5 ha hb (XV hx) M⟩
theorem bS_dif {a b q:Rat} (ha:0<a) (hb:0<b) (hq:0<=q) (eG:q<1):Dif (bS a b) (psD (bT a b 1)) 0 q:=by
 obtain⟨K,k0,hK⟩:=zQA ha hb (show 0<=(1+q)/2 by grind) (show (1+q)/2<1 by grind)
 rw[bS_ps ha b];refine zMA (A:=bT a b 1) (r:=(1+q)/2) (K:=K) (λ k=>⟨by have:=zAV ha hb (show (0:Rat)<=1 by grind) k;grind,Rat.le_refl⟩) (λ M=>?_) hq (by grind)
 have:=hK M;rw[bS_ps ha b] at this;exact this
theorem zKZ {x y:Rat} (hx:0<x) (hy:0<y):1/(x*y)=1/x*(1/y):=by
 rw[Yg,Yg,Yg,Rat.inv_mul_rev];grind
theorem zIW {L:Rat->Nat->Rat} (hL:Lns L) {a b p q:Rat} (ha:0<a) (hb:0<b) (hp:0<p) (M5:p<=q) (hq:q<1):Dif (bH L a b) (bF L a b) p q:=by
 have d1:=zIL hL a hp M5;have d2:Dif (λ x=>pr L b (1-x)) (λ x M => -(b/(1-x)*pr L b (1-x) M)) p q:=Dif.flip (F:=pr L b) (F':=λ x M=>b/x*pr L b x M) (zIL hL b (show 0<1-q by grind) (by grind))
 have d3:=(bS_dif ha hb (show 0<=q by grind) hq).within (p':=p) (q':=q) (by grind) Rat.le_refl
 have d:=(d1.mul M5 d2).mul M5 d3;refine d.congr λ x h1 h2=>?_
 have x0:0<x:=by grind
 have x1:0<1-x:=by grind
 have w:=(zKQ ha hb (XV x0) (show x<1 by grind)).bmul ((zML hL x0 (by grind) a b).mul (Bdd.const (1/(x*(1-x)))))
 refine w.of_eq λ M=>?_
 have o:=bS_ode ha b x M;have e1:=rdm (a:=1) x0;have e2:=rdm (a:=1) x1;have e3:a/x=a*(1/x):=by rw[Yg,Yg,Rat.one_mul]
 have e4:b/(1-x)=b*(1/(1-x)):=by rw[Yg,Yg,Rat.one_mul]
 unfold bF bP;rw[zKZ x0 x1,e3,e4];generalize 1/x=i at *;generalize 1/(1-x)=j at *;generalize pr L a x M=P at *;generalize pr L b (1-x) M=R at *;generalize bS a b x M=s at *;generalize psD (bT a b 1) x M=D at *;generalize (a+(M:Rat))*bT a b x M=W at *;clear w d d1 d2 d3
 have g:D=i*j*((1-x)*(x*D)):=by
  have:i*j*((1-x)*(x*D))=i*x*(j*(1-x))*D:=by grind
  rw[this,e1,e2];grind
 have g2:a*i-b*j=i*j*(a*(1-x)-b*x):=by
  have:i*j*(a*(1-x)-b*x)=a*i*(j*(1-x))-b*j*(i*x):=by grind
  rw[this,e1,e2];grind
 have g3:(a*i*P*R+P * -(b*j*R))*s+P*R*D=P*R*((a*i-b*j)*s+D):=by grind
 rw[g3,g2]
 have g4:i*j*(a*(1-x)-b*x)*s+D=i*j*((a*(1-x)-b*x)*s+(1-x)*(x*D)):=by
  have:i*j*(a*(1-x)-b*x)*s+D=i*j*(a*(1-x)-b*x)*s+i*j*((1-x)*(x*D)):=by rw[<- g]
  rw[this];grind
 rw[g4,o];grind
theorem bF_nn {L:Rat->Nat->Rat} (hL:Lns L) {x:Rat} (hx:0<x) (h1:x<1) (a b:Rat):Nn (bF L a b x):=(Nn.const (jQ (Rat.mul_pos hx (show 0<1-x by grind)) (by grind))).mul (bP_nn hL hx h1 a b)
theorem Nn.leN {f:Nat->Rat} (h:Nn f):LeN (λ _=>0) f:=by
 obtain⟨N,hN⟩:=h;exact LeN.of_le N λ M hM=>hN M hM
theorem bH_mono {L:Rat->Nat->Rat} (hL:Lns L) {a b x y:Rat} (ha:0<a) (hb:0<b) (hx:0<x) (cY:x<=y) (hy:y<1):LeN (bH L a b x) (bH L a b y) :=
 (zIW hL ha hb hx cY hy).le cY λ t h1 h2=>(bF_nn hL (by grind) (by grind) a b).leN
def bJ (L:Rat->Nat->Rat) (a b:Rat) (M:Nat):Rat:=bH L a b (1/2) M+bH L b a (1/2) M
theorem zQU (L:Rat->Nat->Rat) (a b:Rat) (M:Nat):bJ L a b M=bJ L b a M:=by unfold bJ;grind
theorem bJ_at {L:Rat->Nat->Rat} (hL:Lns L) {a b x:Rat} (ha:0<a) (hb:0<b) (hx:0<x) (h1:x<1):Null (λ M=>bH L a b x M+bH L b a (1-x) M-bJ L a b M):=by
 have main:∀ p q:Rat,0<p->p<=q->q<1->Null (λ M=>(bH L a b p M+bH L b a (1-p) M)-(bH L a b q M+bH L b a (1-q) M)):=λ p q hp M5 hq=>by
  have d:=(zIW hL ha hb hp M5 hq).add (Dif.flip (F:=bH L b a) (F':=bF L b a) (zIW hL hb ha (show 0<1-q by grind) (show 1-q<=1-p by grind) (by grind)))
  refine d.eq M5 λ t h1 h2=>null_zero.of_eq λ M=>?_
  have:=zJY L a b t M;rw[this];grind
 have e:(1:Rat)-1/2=1/2:=by grind
 by_cases c:x<=1/2
 ·have m:=main x (1/2) hx c (by grind)
  rw[e] at m;exact m
 ·have m:=main (1/2) x (by grind) (by grind) h1
  rw[e] at m;exact m.neg.of_eq λ M=>by unfold bJ;grind
theorem zG2 {L:Rat->Nat->Rat} (hL:Lns L) {a b:Rat} (ha:0<a) (hb:0<b):Bdd (bJ L a b):=(zOE hL ha hb (by grind) (by grind)).add (zOE hL hb ha (by grind) (by grind))
theorem bJ_nn {L:Rat->Nat->Rat} (hL:Lns L) {a b:Rat} (ha:0<a) (hb:0<b):Nn (bJ L a b):=(zRI hL ha hb (by grind) (by grind)).add (zRI hL hb ha (by grind) (by grind))
end Go.Proofs.YtgmnknmjainababGreat.Ex
namespace Go.Proofs.YtgmnknmjainababGreat.Ex
theorem bT_up {a:Rat} (ha:0<a) (b x:Rat) (n:Nat):(a+b)*(x*bT (a+1) b x n)=a*bT a b x (n+1):=by
 induction n with
 | zero =>
  have e1:=zA3 ha b x 0;have e2:=zD0 ha b x;have e3:=zD0 (show 0<a+1 by grind) b x
  have c:((0:Nat):Rat)=0:=rfl;rw[c] at e1;refine zS (show 0<a+1 by grind) ?_
  have k1:(a+1)*((a+b)*(x*bT (a+1) b x 0))=(a+b)*x*((a+1)*bT (a+1) b x 0):=by grind
  have k2:(a+1)*(a*bT a b x (0+1))=a*((a+(0+1))*bT a b x (0+1)):=by grind
  rw[k1,k2,e1,e3];have k3:a*(x*(a+b+0)*bT a b x 0)=x*(a+b)*(a*bT a b x 0):=by grind
  rw[k3,e2];grind
 | succ n ih =>
  have e1:=zA3 ha b x (n+1);have e2:=zA3 (show 0<a+1 by grind) b x n
  have c:((n+1:Nat):Rat)=(n:Rat)+1:=by push_cast;rfl
  rw[c] at e1;refine zS (show 0<a+((n:Rat)+1+1) by have:=zBE n;grind) ?_
  have k1:(a+((n:Rat)+1+1))*((a+b)*(x*bT (a+1) b x (n+1)))=(a+b)*x*((a+1+((n:Rat)+1))*bT (a+1) b x (n+1)):=by grind
  have k2:(a+((n:Rat)+1+1))*(a*bT a b x (n+1+1))=a*((a+((n:Rat)+1+1))*bT a b x (n+1+1)):=by grind
  rw[k1,k2,e1,e2];have k3:(a+b)*x*(x*(a+1+b+(n:Rat))*bT (a+1) b x n)=x*(a+1+b+(n:Rat))*((a+b)*(x*bT (a+1) b x n)):=by grind
  rw[k3,ih];grind
theorem bS_up {a:Rat} (ha:0<a) (b x:Rat) (M:Nat):(a+b)*(x*bS (a+1) b x M)=a*bS a b x M-1+a*bT a b x M:=by
 induction M with
 | zero =>
  have:=zD0 ha b x
  show (a+b)*(x*0)=a*0-1+a*bT a b x 0
  grind
 | succ n ih =>
  have:=bT_up ha b x n;rw[zCY,zCY];grind
theorem bT_side {b:Rat} (hb:0<b) (a y:Rat) (n:Nat):(a+b)*bT b (a+1) y n=(a+b+(n:Rat))*bT b a y n:=by
 induction n with
 | zero =>
  have c:((0:Nat):Rat)=0:=rfl;rw[c]
  show (a+b)*(1/b)=(a+b+0)*(1/b)
  grind
 | succ n ih =>
  have e1:=zA3 hb (a+1) y n;have e2:=zA3 hb a y n;have c:((n+1:Nat):Rat)=(n:Rat)+1:=by push_cast;rfl
  refine zS (zBI hb n) ?_;have k1:(b+((n:Rat)+1))*((a+b)*bT b (a+1) y (n+1))=(a+b)*((b+((n:Rat)+1))*bT b (a+1) y (n+1)):=by grind
  have k2:(b+((n:Rat)+1))*((a+b+((n+1:Nat):Rat))*bT b a y (n+1))=(a+b+((n:Rat)+1))*((b+((n:Rat)+1))*bT b a y (n+1)):=by rw[c];grind
  rw[k1,k2,e1,e2];have k3:(a+b)*(y*(b+(a+1)+(n:Rat))*bT b (a+1) y n)=y*(b+(a+1)+(n:Rat))*((a+b)*bT b (a+1) y n):=by grind
  rw[k3,ih];grind
theorem bS_side {b:Rat} (hb:0<b) (a y:Rat) (M:Nat):(a+b)*((1-y)*bS b (a+1) y M)=a*bS b a y M+1-(b+(M:Rat))*bT b a y M:=by
 induction M with
 | zero =>
  have:=zD0 hb a y;have c:((0:Nat):Rat)=0:=rfl;rw[c]
  show (a+b)*((1-y)*0)=a*0+1-(b+0)*bT b a y 0
  grind
 | succ n ih =>
  have e:=bT_side hb a y n;have e2:=zA3 hb a y n;have c:((n+1:Nat):Rat)=(n:Rat)+1:=by push_cast;rfl
  rw[zCY,zCY,c,e2];have k:(a+b)*((1-y)*(bS b (a+1) y n+bT b (a+1) y n))=(a+b)*((1-y)*bS b (a+1) y n)+(1-y)*((a+b)*bT b (a+1) y n):=by grind
  rw[k,ih,e];grind
theorem pr_up {L:Rat->Nat->Rat} (hL:Lns L) {x:Rat} (hx:0<x) (a:Rat):Null (λ M=>pr L (a+1) x M-x*pr L a x M):=by
 have h1:=zGW hL hx a 1;have h2:=(zCF hL hx).bmul (jV hL hx a);exact (h2.sub h1).of_eq λ M=>by grind
theorem bH_up {L:Rat->Nat->Rat} (hL:Lns L) {a b x:Rat} (ha:0<a) (hb:0<b) (hx:0<x) (h1:x<1):Null (λ M=>(a+b)*bH L (a+1) b x M-(a*bH L a b x M-bP L a b x M)):=by
 have x0:=XV hx;have n1:=(pr_up hL hx a).bmul ((jV hL (show 0<1-x by grind) b).mul ((Bdd.const (a+b)).mul (zEG (show 0<a+1 by grind) hb x0 h1)))
 have n2:=(bT_null ha hb x0 h1).bmul ((Bdd.const a).mul (zML hL hx h1 a b));refine (n1.add n2).of_eq λ M=>?_
 have e:=bS_up ha b x M;unfold bH bP;generalize pr L (a+1) x M=p1 at *;generalize pr L a x M=p at *;generalize pr L b (1-x) M=r at *;generalize bS (a+1) b x M=s1 at *;generalize bS a b x M=s at *;generalize bT a b x M=t at *;clear n1 n2;have:p*r*((a+b)*(x*s1))=p*r*(a*s-1+a*t):=by rw[e]
 grind
theorem bH_side {L:Rat->Nat->Rat} (hL:Lns L) {a b y:Rat} (ha:0<a) (hb:0<b) (hy:0<y) (h1:y<1):Null (λ M=>(a+b)*bH L b (a+1) y M-(a*bH L b a y M+bP L b a y M)):=by
 have y0:=XV hy;have y1:0<1-y:=by grind
 have n1:=(pr_up hL y1 a).bmul ((jV hL hy b).mul ((Bdd.const (a+b)).mul (zEG hb (show 0<a+1 by grind) y0 h1)))
 have n2:=(zKQ hb ha y0 h1).bmul (zML hL hy h1 b a);refine (n1.sub n2).of_eq λ M=>?_
 have e:=bS_side hb a y M;unfold bH bP;generalize pr L (a+1) (1-y) M=p1 at *;generalize pr L a (1-y) M=p at *;generalize pr L b y M=r at *;generalize bS b (a+1) y M=s1 at *;generalize bS b a y M=s at *;generalize (b+(M:Rat))*bT b a y M=t at *;clear n1 n2;have:p*r*((a+b)*((1-y)*s1))=p*r*(a*s+1-t):=by rw[e]
 grind
theorem zHW {L:Rat->Nat->Rat} (hL:Lns L) {a b:Rat} (ha:0<a) (hb:0<b):Null (λ M=>(a+b)*bJ L (a+1) b M-a*bJ L a b M):=by
 have n1:=bH_up hL ha hb (show (0:Rat)<1/2 by grind) (by grind)
 have n2:=bH_side hL ha hb (show (0:Rat)<1/2 by grind) (by grind)
 refine (n1.add n2).of_eq λ M=>?_
 have t:=zPA L a b (1/2) M;have e:(1:Rat)-1/2=1/2:=by grind
 rw[e] at t;unfold bJ;rw[t];grind
theorem bS_11 {x:Rat} (M:Nat):(1-x)*bS 1 1 x M=1-pw x M:=by
 have t:∀ n,bT 1 1 x n=pw x n:=λ n=>by
  induction n with
  | zero=>show (1:Rat)/1=1;grind
  | succ n ih =>
   have e:=zA3 (show (0:Rat)<1 by grind) 1 x n
   refine zS (zBI (show (0:Rat)<1 by grind) n) ?_
   rw[e,ih]
   show _=(1+((n:Rat)+1))*(x*pw x n)
   grind
 induction M with
 | zero=>show (1-x)*0=1-1;grind
 | succ n ih =>
  rw[zCY,t n]
  show _=1-x*pw x n
  grind
theorem pw_null {x:Rat} (hx:0<=x) (h1:x<1):Null (pw x):=zEW (λ k=>yS hx k) h1 hx 0 λ k _=>Rat.le_refl
theorem bH_11 {L:Rat->Nat->Rat} (hL:Lns L) {x:Rat} (hx:0<x) (h1:x<1):Null (λ M=>bH L 1 1 x M-x):=by
 have x0:=XV hx;have x1:0<1-x:=by grind
 have one:(0:Rat)<1:=by grind
 have n1:=(zCF hL hx).bmul ((jV hL x1 1).mul (zEG one one x0 h1));have n2:=(zCF hL x1).bmul ((Bdd.const x).mul (zEG one one x0 h1));have n3:=(pw_null x0 h1).bmul (Bdd.const x);refine ((n1.add n2).sub n3).of_eq λ M=>?_
 have e:=bS_11 (x:=x) M;unfold bH bP;generalize pr L 1 x M=p at *;generalize pr L 1 (1-x) M=r at *;generalize bS 1 1 x M=s at *;generalize pw x M=t at *;clear n1 n2 n3;have:x*((1-x)*s)=x*(1-t):=by rw[e]
 grind
theorem bJ_11 {L:Rat->Nat->Rat} (hL:Lns L):Null (λ M=>bJ L 1 1 M-1):=by
 have n:=bH_11 hL (show (0:Rat)<1/2 by grind) (by grind)
 exact (n.add n).of_eq λ M=>by unfold bJ;grind
theorem zMD {L:Rat->Nat->Rat} (hL:Lns L) {a:Rat} (ha:0<a) (n:Nat):∃ p,0<p/\p<=1/4/\LeN (pr L a p) (λ _=>q2 n):=by
 obtain⟨c,c0,N,hc⟩:=zCV (Bdd.const (-((n:Rat)/a)))
 obtain⟨p,p0,p1,p2⟩:∃ p,0<p/\p<=1/4/\p<=c:=by
  by_cases h:c<=1/4
  ·exact⟨c,c0,h,Rat.le_refl⟩
  ·exact⟨1/4,by grind,Rat.le_refl,by grind⟩
 refine⟨p,p0,p1,?_⟩
 have l:LeN (L p) (λ _ => -((n:Rat)/a)):=λ e he=>(hL p p0).le (zA8 _) null_zero N (λ M hM=>by
  have:=hc M hM;have e:ex (-((n:Rat)/a)) M=Ev (λ _ => -((n:Rat)/a)) M:=rfl
  rw[e];grind) e he
 obtain⟨z,hz,kz⟩:=(l.cmul (XV ha)).null;obtain⟨v,hv,N2,kv⟩:=zBL (kD hL p0 a) (Bdd.const (a * -((n:Rat)/a))) hz 0 (λ M _=>kz M)
 have e:a * -((n:Rat)/a) = -(n:Rat):=by have:=rdm (a:=(n:Rat)) ha;grind
 rw[e] at kv;exact (LeN.of_null hv N2 kv).trans (zFT n)
theorem zPD {L:Rat->Nat->Rat} (hL:Lns L) {b x:Rat} (hb:0<=b) (hx:0<x) (h1:x<=1):LeN (pr L b x) (λ _=>1):=by
 have l:LeN (L x) (λ _=>0):=λ e he=>(hL x hx).le isLog_one null_zero 0 (λ M _=>by grind) e he
 obtain⟨z,hz,kz⟩:=(l.cmul hb).null;obtain⟨v,hv,N2,kv⟩:=zBL (kD hL hx b) (Bdd.const (b*0)) hz 0 (λ M _=>kz M)
 refine LeN.of_null hv (N2+1) λ M hM=>?_
 have k:=kv M (by omega)
 obtain⟨m,rfl⟩:∃ m,M=m+1:=⟨M-1,by omega⟩
 have e:Ev (λ _=>b*0) (m+1)=1:=by
  have:b*0=0:=by grind
  rw[this];exact zAB m
 rw[e] at k;exact k
theorem bH_small {L:Rat->Nat->Rat} (hL:Lns L) {a b:Rat} (ha:0<a) (hb:0<b) {e:Rat} (he:0<e):∃ p,0<p/\p<=1/4/\LeN (bH L a b p) (λ _=>e):=by
 obtain⟨K,k0,hK⟩:=zQA ha hb (show (0:Rat)<=1/4 by grind) (by grind)
 have Kp:0<K+1:=by grind
 obtain⟨n,hn⟩:=null_q2 (e/(K+1)) (zH he Kp);have q:=(hn n (XW _)).2;obtain⟨p,p0,p1,ps⟩:=zMD hL ha n;refine⟨p,p0,p1,?_⟩;have KE:0<1-p:=by grind
 have l1:=ps.mul (zPD hL (XV hb) KE (by grind)) (jV hL KE b) (zBW hL KE b) (Bdd.const (q2 n)) (Nn.const (XV (yR n)))
 have l2:LeN (bS a b p) (λ _=>K+1):=LeN.of_le 0 λ M _=>by
  have:=hK M;have:=bS_mono ha hb (XV p0) p1 M;grind
 have l:=l1.mul l2 (zEG ha hb (XV p0) (by grind)) ⟨0,λ M _=>zE5 ha hb (XV p0) M⟩ (Bdd.const (q2 n*1)) (Nn.const (by have:=yR n;grind))
 refine l.trans (LeN.of_le 0 λ M _=>?_)
 have m:=Yc q (XV Kp);rw[rdm Kp] at m;grind
theorem zJV {L:Rat->Nat->Rat} (hL:Lns L) {a a' x:Rat} (h:a<=a') (hx:0<x) (h1:x<=1):LeN (pr L a' x) (pr L a x):=by
 have l:LeN (L x) (λ _=>0):=λ e he=>(hL x hx).le isLog_one null_zero 0 (λ M _=>by grind) e he
 obtain⟨z,hz,kz⟩:=(l.cmul (show 0<=a'-a by grind)).null
 obtain⟨v,hv,N2,kv⟩:=zBL (kD hL hx a') (kD hL hx a) hz 0 (λ M _=>by have:=kz M;grind)
 exact LeN.of_null hv N2 kv
theorem zPT {L:Rat->Nat->Rat} (hL:Lns L) {a a' b x:Rat} (h:a<=a') (hx:0<x) (h1:x<1):LeN (bF L a' b x) (bF L a b x):=by
 have x1:0<1-x:=by grind
 have l:=(zJV hL h hx (XV h1)).bmul (jV hL x1 b) (zBW hL x1 b);exact l.cmul (jQ (Rat.mul_pos hx x1) (by grind))
theorem bH_cmp {L:Rat->Nat->Rat} (hL:Lns L) {a b a' b':Rat} (ha:0<a) (hb:0<b) (ha':0<a') (Q6:0<b') (h:∀ x,0<x->x<1->LeN (bF L a' b' x) (bF L a b x)) {y:Rat} (hy:1/4<=y) (gI:y<1):LeN (bH L a' b' y) (bH L a b y):=by
 intro e he
 obtain⟨p,p0,p1,ps⟩:=bH_small hL ha' Q6 (show 0<e/2 by grind)
 have d:=(zIW hL ha hb p0 (show p<=y by grind) gI).sub (zIW hL ha' Q6 p0 (show p<=y by grind) gI)
 have l:=d.le (by grind) λ x h1 h2=>by
  have k:=h x (by grind) (by grind)
  obtain⟨z,hz,kz⟩:=k.null;exact LeN.of_null hz 0 λ M _=>by have:=kz M;grind
 obtain⟨N1,n1⟩:=l (e/4) (by grind)
 obtain⟨N2,n2⟩:=ps (e/4) (by grind)
 obtain⟨N3,n3⟩:=zRI hL ha hb p0 (show p<1 by grind)
 refine⟨N1+N2+N3,λ M hM=>?_⟩
 have a1:=n1 M (by omega)
 have a2:=n2 M (by omega)
 have a3:=n3 M (by omega)
 dsimp only at a1 a2
 grind
theorem zRP {L:Rat->Nat->Rat} (hL:Lns L) {a a' b:Rat} (ha:0<a) (hb:0<b) (h:a<=a'):LeN (bJ L a' b) (bJ L a b):=by
 have l1:=bH_cmp hL ha hb (show 0<a' by grind) hb (λ x h1 h2=>zPT hL h h1 h2) (show (1:Rat)/4<=1/2 by grind) (by grind)
 have l2:=bH_cmp hL hb ha hb (show 0<a' by grind) (λ x h1 h2=>by
  have:=zPT hL (b:=b) h (show 0<1-x by grind) (show 1-x<1 by grind)
  have e1:bF L a' b (1-x)=bF L b a' x:=by funext M;exact zJY L b a' x M
  have e2:bF L a b (1-x)=bF L b a x:=by funext M;exact zJY L b a x M
  rw[e1,e2] at this
  exact this) (show (1:Rat)/4<=1/2 by grind) (by grind)
 exact l1.add l2
end Go.Proofs.YtgmnknmjainababGreat.Ex
namespace Go.Proofs.YtgmnknmjainababGreat.Ex
theorem E_part {s y:Rat} (s0:0<=s) (s1:s<=1) (hy:0<=y) {M:Nat} (hM:1<=M):E (s*y) M<=1-s+s*E y M:=by
 obtain⟨m,rfl⟩:∃ m,M=m+1:=⟨M-1,by omega⟩
 clear hM
 have t:∀ k:Nat,tm (s*y) (k+1)<=s*tm y (k+1):=λ k=>by
  induction k with
  | zero =>
   have e1:=kU (s*y) 0;have e2:=kU y 0;have c:((0:Nat):Rat)=0:=rfl;rw[c] at e1 e2;have z1:tm (s*y) 0=1:=rfl;have z2:tm y 0=1:=rfl;rw[z1] at e1;rw[z2] at e2;grind
  | succ k ih =>
   have e1:=kU (s*y) (k+1);have e2:=kU y (k+1);have p:=zBE (k+1);have n0:=zCN hy (k+1);have sy:=XQ s0 hy;refine Rat.le_of_mul_le_mul_left (c:=((k+1:Nat):Rat)+1) ?_ p;rw[e1];have k1:(((k+1:Nat):Rat)+1)*(s*tm y (k+1+1))=s*((((k+1:Nat):Rat)+1)*tm y (k+1+1)):=by grind
   rw[k1,e2];have m1:=Ya ih sy;have m2:=XQ (XQ sy (show 0<=1-s by grind)) n0
   grind
 induction m with
 | zero =>
  show 0+tm (s*y) 0<=1-s+s*(0+tm y 0)
  have z1:tm (s*y) 0=1:=rfl;have z2:tm y 0=1:=rfl;rw[z1,z2];grind
 | succ m ih =>
  have:=t m
  show E (s*y) (m+1)+tm (s*y) (m+1)<=1-s+s*(E y (m+1)+tm y (m+1))
  grind
theorem zO8 {s:Rat} {y:Nat->Rat} (s0:0<=s) (s1:s<=1) (hb:Bdd y) (hy:LeN (λ _=>0) y):LeN (Ev (λ M=>s*y M)) (λ M=>1-s+s*Ev y M):=by
 obtain⟨z,hz,kz⟩:=hy.null
 obtain⟨y',h1,h2⟩:∃ y':Nat->Rat,(∀ M,0<=y' M)/\Null (λ M=>y M-y' M):=by
  refine⟨λ M=>if 0<=y M then y M else 0,λ M=>?_,λ e he=>?_⟩
  ·dsimp only;split<;>grind
  ·obtain⟨N,hN⟩:=hy e he
   refine⟨N,λ M hM=>?_⟩
   have:=hN M hM
   dsimp only at this ⊢
   split<;>exact⟨by grind,by grind⟩
 have Q6:Bdd y':=hb.of_null h2;have c1:=zC4 ((Bdd.const s).mul hb) ((Bdd.const s).mul Q6) ((h2.bmul (Bdd.const s)).of_eq λ M=>by grind)
 have c2:=(zC4 hb Q6 h2).bmul (Bdd.const s);refine LeN.of_null (c1.sub c2) 1 λ M hM=>?_
 have e:=E_part s0 s1 (h1 M) hM;have e1:Ev (λ M=>s*y' M) M=E (s*y' M) M:=rfl
 have e2:Ev y' M=E (y' M) M:=rfl;rw[e1,e2];grind
theorem bern {L:Rat->Nat->Rat} (hL:Lns L) {s c t:Rat} (s0:0<=s) (s1:s<=1) (hc:0<c) (ht:0<t):LeN (pr L s t) (λ M=>(1-s+s*(t/c))*pr L s c M):=by
 have r0:=zH ht hc;have hy:=zHO hL hc r0;have et:c*(t/c)=t:=by have:=rdm (a:=t) hc;grind
 rw[et] at hy;obtain⟨y,ey⟩:∃ y:Nat->Rat,y=λ M=>L t M-L c M:=⟨_,rfl⟩
 rw[<- ey] at hy
 have key:LeN (Ev (λ M=>s*y M)) (λ _=>1-s+s*(t/c)):=by
  by_cases hle:c<=t
  ·have l:LeN (λ _=>0) y:=λ e he=>isLog_one.le hy null_zero 0 (λ M _=>by
    have:=jQ (a:=1) hc (show 1*c<=t by grind)
    grind) e he
   refine (zO8 s0 s1 hy.1 l).trans ?_;refine LeN.of_null (hy.2.bmul (Bdd.const s)) 0 λ M _=>by grind
  ·-- the other way round
   have hw:=hy.neg (s:=λ _=>c/t) (Bdd.const _) 0 (λ M _=>by
    have e1:=rdm (a:=c) ht;have e2:=rdm (a:=t) hc
    have:c/t*(t/c)=c/t*t*(t/c)/t:=by
     have:c/t*t*(t/c)/t=c/t*(t/c)*(t/t):=by rw[Yg _ t,Yg t t];grind
     rw[this];have:t/t=1:=by rw[Yg,Rat.mul_inv_cancel _ (by grind)]
     rw[this];grind
    rw[this,e1];have:c*(t/c)=t:=by grind
    rw[this,Yg,Rat.mul_inv_cancel _ (by grind)])
   have l:LeN (λ _=>0) (λ M => -y M):=λ e he=>isLog_one.le hw null_zero 0 (λ M _=>by
    have:=jQ (a:=1) ht (show 1*t<=c by grind)
    grind) e he
   have k:=(zO8 (show 0<=1-s by grind) (by grind) hw.1 l).bmul (zA4 hy.1) (Ev_nn hy.1)
   have a1:=yZ ((Bdd.const (1-s)).mul hw.1) hy.1;have a2:=yZ hw.1 hy.1;have e1:∀ M,Ev (λ M=>(1-s) * -y M+y M) M=Ev (λ M=>s*y M) M:=λ M=>by unfold Ev;congr 1;grind
   have e2:∀ M,Ev (λ M => -y M+y M) M=E 0 M:=λ M=>by unfold Ev;congr 1;grind
   obtain⟨z,hz,kz⟩:=k.null
   have n1:Null (λ M=>E 0 M-1):=null_zero.of_eq_from 1 λ M hM=>by
    obtain⟨m,rfl⟩:∃ m,M=m+1:=⟨M-1,by omega⟩
    rw[zAB];grind
   refine LeN.of_null (((hz.add (a2.bmul (Bdd.const (1-s)))).add (hy.2.bmul (Bdd.const s))).add ((n1.bmul (Bdd.const (1-s))).sub a1)) 0 λ M _=>?_
   have k2:=kz M;rw[e1,e2];generalize Ev (λ M=>(1-s) * -y M) M=w1 at *
   generalize Ev (λ M=>s*y M) M=w2 at *
   generalize Ev (λ M => -y M) M=w3 at *
   generalize Ev y M=w4 at *;generalize E 0 M=w5 at *;clear k a1 a2 e1 e2 n1 hw l hz kz;have r:(1-(1-s)+(1-s)*w3)*w4=s*w4+(1-s)*(w3*w4):=by grind
   rw[r] at k2;grind
 have k:=key.bmul (jV hL hc s) (zBW hL hc s);have a:=yZ ((Bdd.const s).mul hy.1) (kD hL hc s);refine LeN.trans (LeN.of_eqN (Null.symm (a.of_eq λ M=>?_))) k
 have e:Ev (λ M=>s*y M+s*L c M) M=pr L s t M:=by rw[ey];unfold pr Ev;congr 1;grind
 rw[e];rfl
theorem upT_pw {a:Rat} (ha:0<a) (x:Rat) (n:Nat):upT a x n=upT a 1 n*pw x n:=by
 induction n with
 | zero=>show 1/a=1/a*1;grind
 | succ n ih =>
  have e1:=kH ha x n;have e2:=kH ha 1 n;refine zS (zBI ha n) ?_;have e3:pw x (n+1)=x*pw x n:=rfl;rw[e1,e3,ih];have:(a+((n:Rat)+1))*(upT a 1 (n+1)*(x*pw x n))=(a+((n:Rat)+1))*upT a 1 (n+1)*(x*pw x n):=by grind
  rw[this,e2];grind
theorem uS_ps {a:Rat} (ha:0<a):uS a=psS (upT a 1):=by
 funext x M
 exact zA1 M λ k _=>upT_pw ha x k
theorem uS_dif {a q:Rat} (ha:0<a) (hq:0<=q):Dif (uS a) (psD (upT a 1)) 0 q:=by
 obtain⟨K,k0,hK⟩:=zIJ ha (show 0<=q+1 by grind)
 rw[uS_ps ha];refine zMA (A:=upT a 1) (r:=q+1) (K:=K) (λ k=>⟨by have:=kA ha (show (0:Rat)<=1 by grind) k;grind,Rat.le_refl⟩) (λ M=>?_) hq (by grind)
 have:=hK M;rw[uS_ps ha] at this;exact this
theorem uS_ode {a:Rat} (ha:0<a) (x:Rat) (M:Nat):x*psD (upT a 1) x M=1+(x-a)*uS a x M-(a+(M:Rat))*upT a x M:=by
 induction M with
 | zero =>
  have e:=zAO ha x;have c:((0:Nat):Rat)=0:=rfl;rw[c]
  show x*0=1+(x-a)*0-(a+0)*upT a x 0
  grind
 | succ n ih =>
  have e1:=kH ha x n;have c:((n+1:Nat):Rat)=(n:Rat)+1:=by push_cast;rfl
  have e2:psD (upT a 1) x (n+1)=psD (upT a 1) x n+upT a 1 n*dw x n:=rfl
  have e3:x*(upT a 1 n*dw x n)=(n:Rat)*upT a x n:=by
   have d:=zLI x n;rw[upT_pw ha x n];have:x*(upT a 1 n*dw x n)=upT a 1 n*(x*dw x n):=by grind
   rw[this,d];grind
  rw[yW,e2,c,e1];have e4:x*(psD (upT a 1) x n+upT a 1 n*dw x n)=x*psD (upT a 1) x n+(n:Rat)*upT a x n:=by rw[<- e3];grind
  rw[e4,ih];grind
theorem uW_null {a x:Rat} (ha:0<a) (hx:0<=x):Null (λ M=>(a+(M:Rat))*upT a x M):=by
 refine ((zG8 (zHL ha hx)).bmul (Bdd.const x)).of_eq_from 1 λ M hM=>?_
 obtain⟨m,rfl⟩:∃ m,M=m+1:=⟨M-1,by omega⟩
 have e:=kH ha x m;have c:((m+1:Nat):Rat)=(m:Rat)+1:=by push_cast;rfl
 rw[c,e];simp only[Nat.add_sub_cancel];grind
theorem ex_dif {p q:Rat} (hp:0<=p) (M5:p<=q):Dif (λ x=>ex (-x)) (λ x M => -ex (-x) M) p q:=by
 have bd:∀ x,p<=x->x<=q->LeA (ex (-x)) 1:=λ x h1 h2 e he=>by
  obtain⟨N1,n1⟩:=zCE (-x);obtain⟨N2,n2⟩:=(zLB (a := -x) (b:=0) (by grind)) e he
  refine⟨N1+N2+1,λ M hM=>?_⟩
  have a1:=n1 M (by omega)
  have a2:=n2 M (by omega)
  obtain⟨m,rfl⟩:∃ m,M=m+1:=⟨M-1,by omega⟩
  have e0:ex 0 (m+1)=1:=zAB m;rw[e0] at a2;exact⟨by grind,a2⟩
 refine Dif.of_small (D:=1/4) (C:=2) (K:=1) M5 (by grind) (by grind) (by grind) (λ x h1 h2=>⟨bd x h1 h2,(bd x h1 h2).neg⟩) (λ x h h1 h2 h3 h4 hD=>?_)
 have l:LeA (λ M=>ex (-h) M-1 - -h) (2*(-h * -h)):=LeA.of_ab 2 λ M hM=>zM6 hD.neg hM
 have t:=l.mul (bd x h1 h2);have s:=zFX (-h) (-x);have e : -h + -x = -(x+h):=by grind
 rw[e] at s;refine LeA.congr (t.mono (by grind)) (s.neg.of_eq λ M=>by grind)
def uF (L:Rat->Nat->Rat) (a x:Rat) (M:Nat):Rat:=1/x*(pr L a x M*ex (-x) M)
theorem zOO {L:Rat->Nat->Rat} (hL:Lns L) {a p q:Rat} (ha:0<a) (hp:0<p) (M5:p<=q):Dif (uG L a) (uF L a) p q:=by
 have d1:=zIL hL a hp M5;have d2:=ex_dif (XV hp) M5;have d3:=(uS_dif ha (show 0<=q by grind)).within (p':=p) (q':=q) (by grind) Rat.le_refl
 have d:=(d1.mul M5 d2).mul M5 d3;refine d.congr λ x h1 h2=>?_
 have x0:0<x:=by grind
 have w:=(uW_null ha (XV x0)).bmul (((jV hL x0 a).mul (yD (-x))).mul (Bdd.const (1/x)));refine w.of_eq λ M=>?_
 have o:=uS_ode ha x M;have e1:=rdm (a:=1) x0;have e3:a/x=a*(1/x):=by rw[Yg,Yg,Rat.one_mul]
 unfold uF;rw[e3];generalize 1/x=i at *;generalize pr L a x M=P at *;generalize ex (-x) M=R at *;generalize uS a x M=s at *;generalize psD (upT a 1) x M=D at *;generalize (a+(M:Rat))*upT a x M=W at *;clear w d d1 d2 d3
 have g:D=i*(x*D):=by
  have:i*(x*D)=i*x*D:=by grind
  rw[this,e1];grind
 have g2:a*i-1=i*(a-x):=by
  have:i*(a-x)=a*i-i*x:=by grind
  rw[this,e1]
 have g3:(a*i*P*R+P * -R)*s+P*R*D=P*R*((a*i-1)*s+D):=by grind
 rw[g3,g2]
 have g4:i*(a-x)*s+D=i*((a-x)*s+x*D):=by
  have:i*(a-x)*s+D=i*(a-x)*s+i*(x*D):=by rw[<- g]
  rw[this];grind
 rw[g4,o];grind
theorem uG_small {L:Rat->Nat->Rat} (hL:Lns L) {a:Rat} (ha:0<a) {e:Rat} (he:0<e):∃ p,0<p/\p<=1/4/\LeN (uG L a p) (λ _=>e):=by
 obtain⟨K,k0,hK⟩:=zIJ ha (show (0:Rat)<=1/4 by grind)
 have Kp:0<K+1:=by grind
 obtain⟨n,hn⟩:=null_q2 (e/(K+1)) (zH he Kp);have q:=(hn n (XW _)).2;obtain⟨p,p0,p1,ps⟩:=zMD hL ha n;refine⟨p,p0,p1,?_⟩
 have le:LeN (ex (-p)) (λ _=>1):=(zLB (a := -p) (b:=0) (by grind)).trans (LeN.of_le 1 λ M hM=>by
  obtain⟨m,rfl⟩:∃ m,M=m+1:=⟨M-1,by omega⟩
  have e0:ex 0 (m+1)=1:=zAB m
  rw[e0];exact Rat.le_refl)
 have l1:=ps.mul le (yD (-p)) (zCE (-p)) (Bdd.const (q2 n)) (Nn.const (XV (yR n)))
 have l2:LeN (uS a p) (λ _=>K+1):=LeN.of_le 0 λ M _=>by
  have:=hK M;have:=zPF ha (XV p0) p1 M;grind
 have l:=l1.mul l2 (zDV ha (XV p0)) ⟨0,λ M _=>zCQ ha (XV p0) M⟩ (Bdd.const (q2 n*1)) (Nn.const (by have:=yR n;grind))
 refine l.trans (LeN.of_le 0 λ M _=>?_)
 have m:=Yc q (XV Kp);rw[rdm Kp] at m;grind
theorem zOC {L:Rat->Nat->Rat} (hL:Lns L) {x:Rat} (hx:0<x) (a s:Rat):Null (λ M=>uF L (a+s) x M-uF L a x M*pr L s x M):=by
 have h:=(zGW hL hx a s).bmul ((yD (-x)).mul (Bdd.const (1/x)));exact h.neg.of_eq λ M=>by unfold uF;grind
theorem zQT {L:Rat->Nat->Rat} (hL:Lns L) {a:Rat} {g:Nat->Rat} (ha:0<a) (h:IsGam L a g) {e:Rat} (he:0<e):∃ x,0<x/\LeN g (λ M=>uG L a x M+e):=by
 obtain⟨K,k0,hK⟩:∃ K,0<=K/\LeN g (λ _=>K):=by
  obtain⟨K,hK⟩:=h.bdd.leA
  exact⟨K,hK.nonneg,λ e he=>by
   obtain⟨N,n⟩:=hK e he
   exact⟨N,λ M hM=>(n M hM).2⟩⟩
 obtain⟨n,hn⟩:=yX (2*K/e);obtain⟨m,hm⟩:=yX a;obtain⟨x,CB⟩:∃ x:Rat,x=2*(a+1)*((n:Rat)+1)+2:=⟨_,rfl⟩;have n0:=zGA n;have an:=XQ (show 0<=a+1 by grind) (show (0:Rat)<=(n:Rat)+1 by grind)
 have an2:=XQ (show 0<=a by grind) n0
 have x0:0<x:=by grind
 refine⟨x,x0,?_⟩
 have us:∀ M,1<=M->2*((n:Rat)+1)<=x*uS a x M:=λ M hM=>by
  obtain⟨j,rfl⟩:∃ j,M=j+1:=⟨M-1,by omega⟩
  have f:=zHK ha (XV x0) j;have d:=rdm (a:=1) ha;have i0:=zH (show (0:Rat)<1 by grind) ha
  have m1:=Ya f (XV x0);refine Rat.le_trans ?_ m1;refine Rat.le_of_mul_le_mul_right (c:=a) ?_ ha;have:x*(1/a)*a=x*(1/a*a):=by grind
  rw[this,d];grind
 have n1:=(zMP hL x0 a).bmul (zDV ha (XV x0));obtain⟨N2,e2⟩:=zNZ hL x0 a
 have l1:LeN (λ M=>2*((n:Rat)+1)*uE L a x M) (uG L a x):=by
  refine LeN.of_null n1 (1+N2) λ M hM=>?_
  have u0:=e2 M (by omega)
  have m:=Yc (us M (by omega)) u0
  unfold uG;generalize uE L a x M=ue at *;generalize uS a x M=s at *;generalize pr L a x M=p at *;generalize ex (-x) M=y at *;grind
 have l2:=(l1.trans (h.lo x x0)).trans hK;have l3:=h.hi x (by grind) (by grind)
 have d:=rdm (a:=2*K) he
 have small:LeN (λ M=>2*uE L a x M) (λ _=>e):=by
  have ip:0<1/((n:Rat)+1):=zH (by grind) (zBE n)
  have im:=rdm (a:=1) (zBE n);refine LeN.trans (LeN.of_le 0 λ M _=>?_) ((l2.cmul (XV ip)).trans (LeN.of_le 0 λ M _=>?_))
  ·have:1/((n:Rat)+1)*(2*((n:Rat)+1)*uE L a x M)=1/((n:Rat)+1)*((n:Rat)+1)*(2*uE L a x M):=by grind
   rw[this,im];grind
  ·have m1:=Yc hn.2 (XV he)
   rw[d] at m1;refine Rat.le_of_mul_le_mul_left (c:=(n:Rat)+1) ?_ (zBE n);have:((n:Rat)+1)*(1/((n:Rat)+1)*K)=1/((n:Rat)+1)*((n:Rat)+1)*K:=by grind
   rw[this,im];grind
 exact l3.trans ((LeN.refl (uG L a x)).add small)
theorem zLR {L:Rat->Nat->Rat} (hL:Lns L) {a:Rat} {g g':Nat->Rat} (ha:0<a) (h:IsGam L a g) (h':IsGam L a g'):Null (λ M=>g M-g' M):=by
 have one:∀ g g':Nat->Rat,IsGam L a g->IsGam L a g'->LeN g g':=λ g g' h h' e he=>by
  obtain⟨x,x0,hx⟩:=zQT hL ha h (show 0<e/2 by grind)
  obtain⟨N1,n1⟩:=hx (e/4) (by grind)
  obtain⟨N2,n2⟩:=h'.lo x x0 (e/4) (by grind)
  exact⟨N1+N2,λ M hM=>by have:=n1 M (by omega);have:=n2 M (by omega);grind⟩
 exact (one g g' h h').eq (one g' g h' h)
theorem zHR {L:Rat->Nat->Rat} (hL:Lns L) {z s c:Rat} {g k:Nat->Rat} (hz:0<z) (s0:0<=s) (s1:s<=1) (hzc:z<=c) (hg:IsGam L z g) (hk:IsGam L (z+s) k):LeN k (λ M=>pr L s c M*g M):=by
 intro e he
 have c0:0<c:=by grind
 have zs:0<z+s:=by grind
 obtain⟨x,x0,hx⟩:=zQT hL zs hk (show 0<e/8 by grind)
 obtain⟨p,p0,p1,ps⟩:=uG_small hL zs (show 0<e/8 by grind)
 have step:LeN (uG L (z+s) x) (λ M=>pr L s c M*g M+e/4):=by
  by_cases CC:p<=x
  ·obtain⟨F,hF⟩:∃ F:Rat->Nat->Rat,F=λ x M=>pr L s c M*((1-s)*uG L z x M+s/c*uG L (z+1) x M):=⟨_,rfl⟩
   have dz:=zOO hL hz p0 CC;have KG:=zOO hL (show 0<z+1 by grind) p0 CC
   have dzs:=zOO hL zs p0 CC;have dc:=Dif.const (pr L s c) (jV hL c0 s) p x;have d:=(dc.mul CC ((dz.smul (1-s)).add (KG.smul (s/c)))).sub dzs
   have l:=d.le CC λ t h1 h2=>by
    have t0:0<t:=by grind
    have b:=bern hL s0 s1 c0 t0;obtain⟨N,hN⟩:Nn (uF L z t):=(Nn.const (jQ t0 (by grind))).mul ((zBW hL t0 z).mul (zCE (-t)))
    have bF:Bdd (uF L z t):=(Bdd.const _).mul ((jV hL t0 z).mul (yD (-t)));have bb:=b.bmul bF ⟨N,hN⟩;have f1:=(zOC hL t0 z 1).bmul ((Bdd.const (s/c)).mul (jV hL c0 s));have f2:=zOC hL t0 z s;have f3:=(zCF hL t0).bmul ((bF.mul (Bdd.const (s/c))).mul (jV hL c0 s));obtain⟨y,hy,ky⟩:=bb.null;refine LeN.of_null ((hy.add f2).sub (f1.add f3)) 0 λ M _=>?_
    have k2:=ky M;have es:s*(t/c)=s/c*t:=by rw[Yg,Yg];grind
    rw[es] at k2;generalize uF L (z+s) t M=w1 at *;generalize uF L (z+1) t M=w2 at *;generalize uF L z t M=w3 at *;generalize pr L s t M=w4 at *;generalize pr L s c M=w5 at *;generalize pr L 1 t M=w6 at *;generalize s/c=w7 at *;clear b bb f1 f2 f3 hy ky hN bF d dz KG dzs dc;grind
   have l1:=hg.lo x x0;have l2:=(hg.next hL hz).lo x x0;obtain⟨NN,CD⟩:=zBW hL c0 s;obtain⟨N6,n6⟩:=uG_nn hL hz p0;obtain⟨N7,n7⟩:=uG_nn hL (show 0<z+1 by grind) p0
   have sc:=jQ (a:=0) (b:=s) c0 (by grind)
   have l3:=(((l1.cmul (show 0<=1-s by grind)).add (l2.cmul sc)).bmul (jV hL c0 s) ⟨NN,CD⟩)
   obtain⟨gc,gc0,N8,n8⟩:=hg.pos
   intro e' Ik
   obtain⟨N1,n1⟩:=l (e'/4) (by grind)
   obtain⟨N2,n2⟩:=ps (e'/4) (by grind)
   obtain⟨N3,n3⟩:=l3 (e'/4) (by grind)
   refine⟨N1+N2+N3+NN+N6+N7+N8,λ M hM=>?_⟩
   have a1:=n1 M (by omega)
   have a2:=n2 M (by omega)
   have a3:=n3 M (by omega)
   have a4:=CD M (by omega)
   have a6:=n6 M (by omega)
   have a7:=n7 M (by omega)
   have a8:=n8 M (by omega)
   dsimp only at a1 a2 a3 ⊢
   have g0:0<=g M:=by grind
   have q1:=XQ a4 (XQ (show 0<=1-s by grind) a6)
   have gN:=XQ a4 (XQ sc a7)
   have zc:s/c*z<=s:=by
    have:=Ya hzc sc;rw[rdm c0] at this;exact this
   have q3:=XQ a4 (XQ (show 0<=s-s/c*z by grind) g0)
   generalize pr L s c M=w1 at *;generalize uG L z p M=w2 at *;generalize uG L (z+1) p M=w3 at *;generalize uG L (z+s) p M=w4 at *;generalize uG L z x M=w5 at *;generalize uG L (z+1) x M=w6 at *;generalize uG L (z+s) x M=w7 at *;generalize s/c=w8 at *;clear l l1 l2 l3 d dz KG dzs dc n1 n2 n3 n6 n7 n8 CD hx ps hk hg hF
   have r1:w1*((1-s)*w5+w8*w6)<=w1*g M+e'/4:=by
    have:((1-s)*g M+w8*(z*g M))*w1=w1*g M-w1*((s-w8*z)*g M):=by grind
    rw[this] at a3;grind
   have r2 : -w4<=w1*((1-s)*w2+w8*w3)-w4:=by grind
   grind
  ·-- x is bw p
   have m:=zK6 hL zs x0 (show x<=p by grind)
   obtain⟨NN,CD⟩:=zBW hL c0 s;obtain⟨gc,gc0,N8,n8⟩:=hg.pos;refine (m.trans ps).trans (LeN.of_le (NN+N8) λ M hM=>?_)
   have a4:=CD M (by omega)
   have a8:=n8 M (by omega)
   have:=XQ a4 (show 0<=g M by grind)
   grind
 obtain⟨N1,n1⟩:=hx (e/4) (by grind)
 obtain⟨N2,n2⟩:=step (e/4) (by grind)
 refine⟨N1+N2,λ M hM=>?_⟩
 have a1:=n1 M (by omega)
 have a2:=n2 M (by omega)
 dsimp only at a1 a2 ⊢
 grind
end Go.Proofs.YtgmnknmjainababGreat.Ex
namespace Go.Proofs.YtgmnknmjainababGreat.Ex
theorem LeN.congr2 {f g f' g':Nat->Rat} (h:LeN f g) (hf:Null (λ M=>f' M-f M)) (hg:Null (λ M=>g M-g' M)):LeN f' g':=((LeN.of_eqN hf).trans h).trans (LeN.of_eqN hg)
theorem IsGam.nn {L:Rat->Nat->Rat} {a:Rat} {g:Nat->Rat} (h:IsGam L a g):Nn g:=by
 obtain⟨c,c0,N,hc⟩:=h.pos;exact⟨N,λ M hM=>by have:=hc M hM;grind⟩
theorem zMW {L:Rat->Nat->Rat} (hL:Lns L) {a b:Rat} {ga gab:Nat->Rat} (ha:0<a) (hb:0<b) (h1:IsGam L a ga) (h2:IsGam L (a+b) gab) (n:Nat):∃ R R':Rat,0<R/\0<R'/\IsGam L (a+(n:Rat)) (λ M=>R*ga M)/\IsGam L (a+b+(n:Rat)) (λ M=>R'*gab M)/\Null (λ M=>R'*bJ L (a+(n:Rat)) b M-R*bJ L a b M):=by
 induction n with
 | zero =>
  have c:((0:Nat):Rat)=0:=rfl;have e1:a+((0:Nat):Rat)=a:=by rw[c];grind
  have e2:a+b+((0:Nat):Rat)=a+b:=by rw[c];grind
  have e3:(λ M=>1*ga M)=ga:=by funext M;grind
  have e4:(λ M=>1*gab M)=gab:=by funext M;grind
  rw[e1,e2];exact⟨1,1,by grind,by grind,by rw[e3];exact h1,by rw[e4];exact h2,null_zero.of_eq λ M=>by grind⟩
 | succ n ih =>
  obtain⟨R,R',r0,AR,i1,i2,i3⟩:=ih;have n0:=zGA n;have c:((n+1:Nat):Rat)=(n:Rat)+1:=by push_cast;rfl
  have an:0<a+(n:Rat):=by grind
  have abn:0<a+b+(n:Rat):=by grind
  have g1:=i1.next hL an;have g2:=i2.next hL abn;have e1:a+((n+1:Nat):Rat)=a+(n:Rat)+1:=by rw[c];grind
  have e2:a+b+((n+1:Nat):Rat)=a+b+(n:Rat)+1:=by rw[c];grind
  have e3:(λ M=>(a+(n:Rat))*(R*ga M))=λ M=>(a+(n:Rat))*R*ga M:=by funext M;grind
  have e4:(λ M=>(a+b+(n:Rat))*(R'*gab M))=λ M=>(a+b+(n:Rat))*R'*gab M:=by funext M;grind
  rw[e3] at g1;rw[e4] at g2;have nx:=zHW hL an hb;rw[e1,e2];refine⟨_,_,Rat.mul_pos an r0,Rat.mul_pos abn AR,g1,g2,?_⟩;refine ((nx.bmul (Bdd.const R')).add (i3.bmul (Bdd.const (a+(n:Rat))))).of_eq λ M=>by grind
theorem zRQ {L:Rat->Nat->Rat} (hL:Lns L):∃ g,IsGam L 1 g/\Null (λ M=>g M-1):=by
 obtain⟨g,hg⟩:=zHP hL (show (0:Rat)<1 by grind) Rat.le_refl
 exact⟨g,hg.isGam hL (by grind),gam_one hL hg⟩
theorem zP7 {L:Rat->Nat->Rat} (hL:Lns L) {a b:Rat} {ga gb gab:Nat->Rat} (ha:0<a) (aR:a<=1) (hb:0<b) (h1:IsGam L a ga) (h2:IsGam L b gb) (h3:IsGam L (a+b) gab) (hJ:Null (λ M=>b*bJ L 1 b M-1)) (n:Nat) :
  LeN (λ M=>((n:Rat)+1)*(bJ L a b M*gab M)) (λ M=>((n:Rat)+1+(a+b+1))*(ga M*gb M))/\LeN (λ M=>((n:Rat)+1)*(ga M*gb M)) (λ M=>((n:Rat)+1+(a+b+1))*(bJ L a b M*gab M)):=by
 have n0:=zGA n;have cN:((n+1:Nat):Rat)=(n:Rat)+1:=by push_cast;rfl
 obtain⟨g1,Ip,n1⟩:=zRQ hL;obtain⟨R,R',r0,AR,i1,i2,i3⟩:=zMW hL ha hb h1 h3 (n+1);have b7:=h2.next hL hb;have eb:b+1=1+b:=by grind
 rw[eb] at b7;obtain⟨T,T',t0,t0',j1,j2,j3⟩:=zMW hL (show (0:Rat)<1 by grind) hb Ip b7 n
 rw[cN] at i1 i2 i3;obtain⟨N,eN⟩:∃ N:Rat,N=(n:Rat)+1:=⟨_,rfl⟩;have e1n:(1:Rat)+(n:Rat)=N:=by grind
 have KH:(1:Rat)+b+(n:Rat)=N+b:=by grind
 rw[e1n] at j1 j3;rw[KH] at j2;rw[<- eN] at i1 i2 i3;have N0:0<N:=by grind
 have ea:a+N=N+a:=by grind
 have eab:a+b+N=N+b+a:=by grind
 rw[ea] at i1 i3;rw[eab] at i2;obtain⟨c,ec⟩:∃ c:Rat,c=N+(a+b+1):=⟨_,rfl⟩;have c0:0<c:=by grind
 have a0:=XV ha;have p1:=zHR hL (z:=N+b) (s:=a) (c:=c) (by grind) a0 aR (by grind) j2 i2
 have jn:=j1.next hL N0
 have p2:=zHR hL (z:=N+a) (s:=1-a) (c:=c) (by grind) (by grind) (by grind) (by grind) i1 (by
  have e:N+a+(1-a)=N+1:=by grind
  rw[e];exact jn)
 have jb:=j2.next hL (show 0<N+b by grind)
 have p3:=zHR hL (z:=N+b+a) (s:=1-a) (c:=c) (by grind) (by grind) (by grind) (by grind) i2 (by
  have e:N+b+a+(1-a)=N+b+1:=by grind
  rw[e];exact jb)
 have p4:=zHR hL (z:=N) (s:=a) (c:=c) N0 a0 aR (by grind) j1 i1
 have q1:=zRP hL (a:=N) (a':=N+a) N0 hb (by grind)
 have gN:=zRP hL (a:=N+a) (a':=N+1) (by grind) hb (by grind)
 have q3:=zHW hL N0 hb;have w:=zGW hL c0 a (1-a);have ew:a+(1-a)=1:=by grind
 rw[ew] at w;have w1:=w.add (zCF hL c0);have bW:=jV hL c0 a;have nW:=zBW hL c0 a;have bV:=jV hL c0 (1-a);have nV:=zBW hL c0 (1-a);have bJN:=zG2 hL N0 hb;have bJa:=zG2 hL (show 0<N+a by grind) hb
 have bJ0:=zG2 hL ha hb;have nJN:=bJ_nn hL N0 hb;have nJa:=bJ_nn hL (show 0<N+a by grind) hb
 have nR:Nn (λ M=>R'*gab M):=(Nn.const (XV AR)).mul h3.nn
 have bR:Bdd (λ M=>R'*gab M):=(Bdd.const R').mul h3.bdd
 have bga:=h1.bdd;have bgb:=h2.bdd;have bgab:=h3.bdd;have bg1:=Ip.bdd;have b1:=zG2 hL (show (0:Rat)<1 by grind) hb
 rw[<- eN,<- ec];constructor
 ·-- J(N+a) R' gab <= J(N) W T' b gb
  have l1:=q1.mul p1 bR nR bJN nJN
  have l2:LeN (λ M=>R*(bJ L a b M*gab M)) (λ M=>T*(pr L a c M*gb M)):=by
   refine l1.congr2 ((i3.bmul bgab).neg.of_eq λ M=>?_) (((j3.bmul ((bW.mul (Bdd.const b)).mul bgb)).add (hJ.bmul ((Bdd.const T).mul (bW.mul bgb)))).of_eq λ M=>?_)
   ·grind
   ·grind
  have l3:=p2.bmul (bW.mul bgb) (nW.mul h2.nn)
  have l4:LeN (λ M=>N*(T*(pr L a c M*gb M))) (λ M=>c*(R*(ga M*gb M))):=by
   refine l3.congr2 ((n1.bmul ((Bdd.const (N*T)).mul (bW.mul bgb))).neg.of_eq λ M=>?_) ((w1.bmul ((Bdd.const R).mul (bga.mul bgb))).of_eq λ M=>?_)
   ·grind
   ·grind
  have l5:=(l2.cmul (XV N0)).trans l4;have ir:=zH (show (0:Rat)<1 by grind) r0
  have im:=rdm (a:=1) r0;refine LeN.trans (LeN.of_le 0 λ M _=>?_) ((l5.cmul (XV ir)).trans (LeN.of_le 0 λ M _=>?_))
  ·have:1/R*(N*(R*(bJ L a b M*gab M)))=1/R*R*(N*(bJ L a b M*gab M)):=by grind
   rw[this,im];grind
  ·have:1/R*(c*(R*(ga M*gb M)))=1/R*R*(c*(ga M*gb M)):=by grind
   rw[this,im];grind
 ·-- J(N+1) (N+b) T' b gb <= J(N+a) V R' gab
  have nB:Nn (λ M=>(N+b)*(T'*(b*gb M))):=(Nn.const (show 0<=N+b by grind)).mul ((Nn.const (XV t0')).mul ((Nn.const (XV hb)).mul h2.nn))
  have bB:Bdd (λ M=>(N+b)*(T'*(b*gb M))):=(Bdd.const (N+b)).mul ((Bdd.const T').mul ((Bdd.const b).mul bgb))
  have l1:=gN.mul p3 bB nB bJa nJa
  have l2:LeN (λ M=>N*(T*gb M)) (λ M=>pr L (1-a) c M*(R*(bJ L a b M*gab M))):=by
   refine l1.congr2 ((((q3.bmul ((Bdd.const (T'*b)).mul bgb)).add (j3.bmul ((Bdd.const (N*b)).mul bgb))).add (hJ.bmul ((Bdd.const (N*T)).mul bgb))).neg.of_eq λ M=>?_) ((i3.bmul (bV.mul bgab)).of_eq λ M=>?_)
   ·grind
   ·grind
  have l3:=p4.bmul ((Bdd.const N).mul bgb) ((Nn.const (XV N0)).mul h2.nn);have l4:=l2.bmul bW nW
  have l5:LeN (λ M=>N*(R*(ga M*gb M))) (λ M=>N*(T*gb M)*pr L a c M):=by
   refine l3.congr2 (null_zero.of_eq λ M=>?_) ((n1.bmul ((Bdd.const (N*T)).mul (bW.mul bgb))).of_eq λ M=>?_)
   ·grind
   ·grind
  have l6:LeN (λ M=>N*(R*(ga M*gb M))) (λ M=>c*(R*(bJ L a b M*gab M))):=by
   refine (l5.trans l4).trans (LeN.of_eqN ((w1.bmul ((Bdd.const R).mul (bJ0.mul bgab))).of_eq λ M=>?_))
   grind
  have ir:=zH (show (0:Rat)<1 by grind) r0
  have im:=rdm (a:=1) r0;refine LeN.trans (LeN.of_le 0 λ M _=>?_) ((l6.cmul (XV ir)).trans (LeN.of_le 0 λ M _=>?_))
  ·have:1/R*(N*(R*(ga M*gb M)))=1/R*R*(N*(ga M*gb M)):=by grind
   rw[this,im];grind
  ·have:1/R*(c*(R*(bJ L a b M*gab M)))=1/R*R*(c*(bJ L a b M*gab M)):=by grind
   rw[this,im];grind
theorem zLF {P W:Nat->Rat} {C:Rat} (hC:0<=C) (bP:Bdd W) (h:∀ n:Nat,LeN (λ M=>((n:Rat)+1)*P M) (λ M=>((n:Rat)+1+C)*W M)):LeN P W:=by
 obtain⟨K,hK⟩:=bP.leA;have k0:=hK.nonneg;obtain⟨N0,tL⟩:=hK 1 (by grind)
 refine LeN.lim (C:=C*(K+1)) (XQ hC (by grind)) λ n=>?_
 have ip:=zH (show (0:Rat)<1 by grind) (zBE n)
 have im:=rdm (a:=1) (zBE n);refine LeN.trans (LeN.of_le 0 λ M _=>?_) (((h n).cmul (XV ip)).trans (LeN.of_le N0 λ M hM=>?_))
 ·have:1/((n:Rat)+1)*(((n:Rat)+1)*P M)=1/((n:Rat)+1)*((n:Rat)+1)*P M:=by grind
  rw[this,im];grind
 ·have b:=(tL M hM).2
  have m:=Ya b (XQ (XV ip) hC);have:1/((n:Rat)+1)*(((n:Rat)+1+C)*W M)=1/((n:Rat)+1)*((n:Rat)+1)*W M+1/((n:Rat)+1)*C*W M:=by grind
  rw[this,im];grind
theorem zO0 {L:Rat->Nat->Rat} (hL:Lns L) {a b:Rat} {ga gb gab:Nat->Rat} (ha:0<a) (aR:a<=1) (hb:0<b) (h1:IsGam L a ga) (h2:IsGam L b gb) (h3:IsGam L (a+b) gab) (hJ:Null (λ M=>b*bJ L 1 b M-1)):Null (λ M=>bJ L a b M*gab M-ga M*gb M):=by
 have c0:0<=a+b+1:=by grind
 refine (zLF c0 (h1.bdd.mul h2.bdd) λ n=>(zP7 hL ha aR hb h1 h2 h3 hJ n).1).eq (zLF c0 ((zG2 hL ha hb).mul h3.bdd) λ n=>(zP7 hL ha aR hb h1 h2 h3 hJ n).2)
theorem zOQ {L:Rat->Nat->Rat} (hL:Lns L) (n:Nat):∀ a:Rat,0<a->a<=(n:Rat)+1->∃ g,IsGam L a g:=by
 induction n with
 | zero =>
  intro a ha h
  have c:((0:Nat):Rat)=0:=rfl;rw[c] at h;obtain⟨g,hg⟩:=zHP hL ha (by grind)
  exact⟨g,hg.isGam hL ha⟩
 | succ n ih =>
  intro a ha h
  have c:((n+1:Nat):Rat)=(n:Rat)+1:=by push_cast;rfl
  rw[c] at h
  by_cases h1:a<=1
  ·obtain⟨g,hg⟩:=zHP hL ha h1
   exact⟨g,hg.isGam hL ha⟩
  ·obtain⟨g,hg⟩:=ih (a-1) (by grind) (by grind)
   have:=hg.next hL (show 0<a-1 by grind)
   have e:a-1+1=a:=by grind
   rw[e] at this;exact⟨_,this⟩
theorem bJ_all {L:Rat->Nat->Rat} (hL:Lns L) {b:Rat} {gb:Nat->Rat} (hb:0<b) (h2:IsGam L b gb) (hJ:Null (λ M=>b*bJ L 1 b M-1)) (n:Nat):∀ (a:Rat) (ga gab:Nat->Rat),0<a->a<=(n:Rat)+1->IsGam L a ga->IsGam L (a+b) gab->Null (λ M=>bJ L a b M*gab M-ga M*gb M):=by
 induction n with
 | zero =>
  intro a ga gab ha h h1 h3
  have c:((0:Nat):Rat)=0:=rfl;rw[c] at h;exact zO0 hL ha (by grind) hb h1 h2 h3 hJ
 | succ n ih =>
  intro a ga gab ha h h1 h3
  have c:((n+1:Nat):Rat)=(n:Rat)+1:=by push_cast;rfl
  rw[c] at h
  by_cases hle:a<=1
  ·exact zO0 hL ha hle hb h1 h2 h3 hJ
  ·have a1:0<a-1:=by grind
   obtain⟨g,hg⟩:=zOQ hL n (a-1) a1 (by grind)
   obtain⟨m,hm⟩:=yX (a-1+b);obtain⟨k,hk⟩:=zOQ hL m (a-1+b) (by grind) (by have:=hm.2;grind)
   have i:=ih (a-1) g k a1 (by grind) hg hk
   have e1:a-1+1=a:=by grind
   have e2:a-1+b+1=a+b:=by grind
   have qH:=hg.next hL a1;have S7:=hk.next hL (show 0<a-1+b by grind)
   rw[e1] at qH;rw[e2] at S7;have u1:=zLR hL ha h1 qH;have u2:=zLR hL (show 0<a+b by grind) h3 S7
   have nx:=zHW hL a1 hb;rw[e1] at nx;refine ((((i.bmul (Bdd.const (a-1))).add (nx.bmul hk.bdd)).add (u2.bmul (zG2 hL ha hb))).sub (u1.bmul h2.bdd)).of_eq λ M=>?_
   grind
theorem bJ_one {L:Rat->Nat->Rat} (hL:Lns L) {b:Rat} (hb:0<b):Null (λ M=>b*bJ L 1 b M-1):=by
 obtain⟨g1,Ip,n1⟩:=zRQ hL;obtain⟨m,hm⟩:=yX b;obtain⟨g,hg⟩:=zOQ hL m b hb (by have:=hm.2;grind)
 have j1:Null (λ M=>1*bJ L 1 1 M-1):=(bJ_11 hL).of_eq λ M=>by grind
 have k:=bJ_all hL (show (0:Rat)<1 by grind) Ip j1 m b g (λ M=>b*g M) hb (by have:=hm.2;grind) hg (hg.next hL hb)
 have h:=(k.add (n1.bmul hg.bdd))
 have p:Null (λ M=>g M*(b*bJ L 1 b M)-g M):=h.of_eq λ M=>by
  rw[zQU L 1 b M];grind
 obtain⟨c,c0,N,hc⟩:=hg.pos
 intro e he
 obtain⟨N2,n2⟩:=p (c*e) (Rat.mul_pos c0 he);refine⟨N+N2,λ M hM=>?_⟩
 have a1:=n2 M (by omega)
 have a2:=hc M (by omega)
 dsimp only at a1
 show AB (b*bJ L 1 b M-1) e
 clear p h k j1 n1;generalize b*bJ L 1 b M=w at *;have e1:g M*w-g M=g M*(w-1):=by grind
 rw[e1] at a1;have m:=Yc a2 (XV he);have g0:0<g M:=by grind
 exact⟨Rat.le_of_mul_le_mul_left (c:=g M) (by have:=a1.1;grind) g0,Rat.le_of_mul_le_mul_left (c:=g M) (by have:=a1.2;grind) g0⟩
theorem zN3 {L:Rat->Nat->Rat} (hL:Lns L) {a b:Rat} {ga gb gab:Nat->Rat} (ha:0<a) (hb:0<b) (h1:IsGam L a ga) (h2:IsGam L b gb) (h3:IsGam L (a+b) gab):Null (λ M=>bJ L a b M*gab M-ga M*gb M):=by
 obtain⟨m,hm⟩:=yX a;exact bJ_all hL hb h2 (bJ_one hL hb) m a ga gab ha (by have:=hm.2;grind) h1 h3
end Go.Proofs.YtgmnknmjainababGreat.Ex
namespace Go.Proofs.YtgmnknmjainababGreat.Ex
def cP (b:Rat):Nat->Rat
 | 0=>1
 | n+1=>((n:Rat)+1-b)/((n:Rat)+1)*cP b n
def cA (b:Rat):Nat->Rat
 | 0=>1
 | n+1=>((n:Rat)+1+b)/((n:Rat)+1)*cA b n
theorem zLD (b:Rat) (n:Nat):((n:Rat)+1)*cP b (n+1)=((n:Rat)+1-b)*cP b n:=by
 have e:=rdm (a:=(n:Rat)+1-b) (zBE n)
 show ((n:Rat)+1)*(((n:Rat)+1-b)/((n:Rat)+1)*cP b n)=_
 generalize ((n:Rat)+1-b)/((n:Rat)+1)=t at *;rw[<- e];grind
theorem cA_succ (b:Rat) (n:Nat):((n:Rat)+1)*cA b (n+1)=((n:Rat)+1+b)*cA b n:=by
 have e:=rdm (a:=(n:Rat)+1+b) (zBE n)
 show ((n:Rat)+1)*(((n:Rat)+1+b)/((n:Rat)+1)*cA b n)=_
 generalize ((n:Rat)+1+b)/((n:Rat)+1)=t at *;rw[<- e];grind
theorem zFN {b:Rat} (hb:0<b) (n:Nat):0<=cA b n:=by
 induction n with
 | zero=>show (0:Rat)<=1;grind
 | succ n ih=>exact XQ (jQ (zBE n) (by have:=zGA n;grind)) ih
theorem cP_cA {b:Rat} (hb:0<b) (n:Nat):AB (cP b n) (cA b n):=by
 induction n with
 | zero=>exact⟨by show -(1:Rat)<=1;grind,by show (1:Rat)<=1;grind⟩
 | succ n ih =>
  have n0:=zGA n;refine AB.mul ?_ ih;have p:=zBE n
  have i:=jQ (a := -(((n:Rat)+1+b)/((n:Rat)+1))) (b:=(n:Rat)+1-b) p (by
   have:=rdm (a:=(n:Rat)+1+b) p
   grind)
  exact⟨i,zAJ p (by rw[rdm p];grind)⟩
theorem cA_geo {b r:Rat} (hb:0<b) (hr:0<=r) (h1:r<1):∃ k0:Nat,∀ k,k0<=k->cA b (k+1)*pw r (k+1)<=(1+r)/2*(cA b k*pw r k):=by
 obtain⟨k0,T5⟩:=b_turn hb hr h1;refine⟨k0,λ k hk=>?_⟩
 have t:=T5 k hk;have e:=cA_succ b k;have e2:pw r (k+1)=r*pw r k:=rfl;have n0:=zGA k;have q0:=XQ (zFN hb k) (yS hr k);refine Rat.le_of_mul_le_mul_left (c:=(k:Rat)+1) ?_ (zBE k);have k1:((k:Rat)+1)*(cA b (k+1)*pw r (k+1))=(((k:Rat)+1)*cA b (k+1))*(r*pw r k):=by rw[e2];grind
 rw[k1,e];have m:=Yc (show r*((k:Rat)+1+b)<=(1+r)/2*((k:Rat)+1) by grind) q0
 grind
theorem zON {b r:Rat} (hb:0<b) (hr:0<=r) (h1:r<1):∃ K,0<=K/\∀ M,S (λ k=>cA b k*pw r k) M<=K:=by
 obtain⟨k0,h⟩:=cA_geo hb hr h1;exact geo (t:=λ k=>cA b k*pw r k) (ρ:=(1+r)/2) (λ k=>XQ (zFN hb k) (yS hr k)) (by grind) (by grind) k0 h
theorem cA_null {b r:Rat} (hb:0<b) (hr:0<=r) (h1:r<1):Null (λ k=>cA b k*pw r k):=by
 obtain⟨k0,h⟩:=cA_geo hb hr h1;exact zEW (t:=λ k=>cA b k*pw r k) (ρ:=(1+r)/2) (λ k=>XQ (zFN hb k) (yS hr k)) (by grind) (by grind) k0 h
theorem cP_dif {b q:Rat} (hb:0<b) (hq:0<=q) (h1:q<1):Dif (psS (cP b)) (psD (cP b)) 0 q:=by
 obtain⟨K,k0,hK⟩:=zON hb (show 0<=(1+q)/2 by grind) (by grind)
 exact zMA (A:=cA b) (r:=(1+q)/2) (K:=K) (λ k=>cP_cA hb k) hK hq (by grind)
theorem cP_ode (b x:Rat) (M:Nat):(1-x)*psD (cP b) x M+cP b M*dw x M=(1-b)*psS (cP b) x M:=by
 induction M with
 | zero=>show (1-x)*0+1*0=(1-b)*0;grind
 | succ n ih =>
  have d:=zLI x n;have e:=zLD b n;have e1:psD (cP b) x (n+1)=psD (cP b) x n+cP b n*dw x n:=rfl;have e2:psS (cP b) x (n+1)=psS (cP b) x n+cP b n*pw x n:=rfl;have e3:dw x (n+1)=((n:Rat)+1)*pw x n:=by show x*dw x n+pw x n=_;rw[d];grind
  rw[e1,e2,e3];have e4:cP b (n+1)*(((n:Rat)+1)*pw x n)=(((n:Rat)+1)*cP b (n+1))*pw x n:=by grind
  rw[e4,e];have e5:cP b n*(x*dw x n)=cP b n*((n:Rat)*pw x n):=by rw[d]
  grind
theorem cW_null {b x:Rat} (hb:0<b) (hx:0<=x) (h1:x<1):Null (λ M=>cP b M*dw x M):=by
 have n:=(cA_null hb (show 0<=(1+x)/2 by grind) (by grind)).bmul (Bdd.const (1/((1+x)/2-x)))
 refine n.of_le 0 λ M _=>?_
 have d0:0<(1+x)/2-x:=by grind
 have ip:=zH (show (0:Rat)<1 by grind) d0
 have im:=rdm (a:=1) d0;have l:=dw_le hx (Rat.le_refl) (show x<=(1+x)/2 by grind) M
 have w0:=zFZ hx M;have m:=Ya l (XV ip);generalize 1/((1+x)/2-x)=i at *;have e:i*(((1+x)/2-x)*dw x M)=i*((1+x)/2-x)*dw x M:=by grind
 rw[e,im] at m;refine ((cP_cA hb M).mul (show AB (dw x M) (i*pw ((1+x)/2) M) from⟨by grind,by grind⟩)).mono (by grind)
theorem zPG {L:Rat->Nat->Rat} (hL:Lns L) (c:Rat):Null (λ M=>pr L c 1 M-1):=by
 have n:=(hL 1 (by grind)).uniq isLog_one
 have k:=zC4 (x:=λ M=>c*L 1 M) (y:=λ _=>0) (kD hL (by grind) c) (Bdd.const 0) ((n.bmul (Bdd.const c)).of_eq λ M=>by grind)
 have z:Null (λ M=>Ev (λ _=>(0:Rat)) M-1):=null_zero.of_eq_from 1 λ M hM=>by
  obtain⟨m,rfl⟩:∃ m,M=m+1:=⟨M-1,by omega⟩
  have e0:Ev (λ _=>(0:Rat)) (m+1)=1:=zAB m
  rw[e0];grind
 exact (k.add z).of_eq λ M=>by unfold pr;grind
theorem zKM (c:Nat->Rat) {M:Nat} (hM:1<=M):psS c 0 M=c 0:=by
 obtain⟨m,rfl⟩:∃ m,M=m+1:=⟨M-1,by omega⟩
 clear hM
 induction m with
 | zero=>show 0+c 0*1=c 0;grind
 | succ m ih =>
  show psS c 0 (m+1)+c (m+1)*pw 0 (m+1)=c 0
  rw[ih,zP3];grind
theorem psS_Bdd {b x:Rat} (hb:0<b) (hx:0<=x) (h1:x<1):Bdd (psS (cP b) x):=by
 obtain⟨K,k0,hK⟩:=zON hb hx h1;exact Bdd.of_le K 0 λ M _=>psS_bd (λ k=>cP_cA hb k) hK hx Rat.le_refl M
theorem cP_pow {L:Rat->Nat->Rat} (hL:Lns L) {b x:Rat} (hb:0<b) (hx:0<=x) (h1:x<1):Null (λ M=>(1-x)*psS (cP b) x M-pr L b (1-x) M):=by
 have x1:0<1-x:=by grind
 have d1:=cP_dif hb hx h1;have d2:Dif (λ t=>pr L (1-b) (1-t)) (λ t M => -((1-b)/(1-t)*pr L (1-b) (1-t) M)) 0 x:=Dif.flip (F:=pr L (1-b)) (F':=λ t M=>(1-b)/t*pr L (1-b) t M) (zIL hL (1-b) x1 (by grind))
 have d:=d1.mul hx d2
 have k:=d.eq hx λ t I1 KI=>by
  have t1:0<1-t:=by grind
  have w:=(cW_null hb I1 (show t<1 by grind)).bmul ((jV hL t1 (1-b)).mul (Bdd.const (1/(1-t))))
  refine w.neg.of_eq λ M=>?_
  have o:=cP_ode b t M;have im:=rdm (a:=1) t1;have ed:(1-b)/(1-t)=(1-b)*(1/(1-t)):=by rw[Yg,Yg,Rat.one_mul]
  rw[ed];generalize 1/(1-t)=i at *;generalize psD (cP b) t M=D at *;generalize psS (cP b) t M=P at *;generalize cP b M*dw t M=W at *;generalize pr L (1-b) (1-t) M=R at *;clear w d d1 d2
  have g:D=i*((1-t)*D):=by
   have:i*((1-t)*D)=i*(1-t)*D:=by grind
   rw[this,im];grind
  have g2:(1-t)*D=(1-b)*P-W:=by grind
  rw[g2] at g;rw[g];grind
 have e0:(1:Rat)-0=1:=by grind
 rw[e0] at k;have n1:=(zPG hL (1-b))
 have z:Null (λ M=>psS (cP b) 0 M*pr L (1-b) 1 M-1):=n1.of_eq_from 1 λ M hM=>by
  rw[zKM _ hM]
  show 1*pr L (1-b) 1 M-1=_
  grind
 have one:=z.sub k;have a:=zGW hL x1 (1-b) b;have ea:1-b+b=1:=by grind
 rw[ea] at a;have bb:=psS_Bdd hb hx h1;have n2:=one.bmul (jV hL x1 b);have n3:=a.bmul bb;have n4:=(zCF hL x1).bmul bb;refine ((n2.sub n3).sub n4).of_eq λ M=>?_
 generalize psS (cP b) x M=P at *;generalize pr L (1-b) (1-x) M=R at *;generalize pr L b (1-x) M=R2 at *;generalize pr L 1 (1-x) M=R3 at *;generalize psS (cP b) 0 M*pr L (1-b) 1 M=z0 at *;clear n1 n2 n3 n4 a one z k;grind
def cS (a b:Rat) (n:Nat):Rat:=cP b n/(a+(n:Rat))
theorem an_pos {a:Rat} (ha:0<a) (n:Nat):0<a+(n:Rat):=by have:=zGA n;grind
theorem zGS {a:Rat} (ha:0<a) (b:Rat) (n:Nat):(a+(n:Rat))*cS a b n=cP b n:=by
 have:=rdm (a:=cP b n) (an_pos ha n);unfold cS;grind
theorem cS_bd {a b:Rat} (ha:0<a) (hb:0<b) (n:Nat):AB (cS a b n) (1/a*cA b n):=by
 have p:=an_pos ha n;have ip:=zH (show (0:Rat)<1 by grind) p
 have i:1/(a+(n:Rat))<=1/a:=zAJ p (by
  have:=rdm (a:=1) ha;have i0:=zH (show (0:Rat)<1 by grind) ha
  have:=XQ (XV i0) (zGA n)
  grind)
 have e:cS a b n=1/(a+(n:Rat))*cP b n:=by unfold cS;rw[Yg,Yg];grind
 rw[e];exact (show AB (1/(a+(n:Rat))) (1/a) from⟨by grind,i⟩).mul (cP_cA hb n)
theorem cS_dif {a b q:Rat} (ha:0<a) (hb:0<b) (hq:0<=q) (h1:q<1):Dif (psS (cS a b)) (psD (cS a b)) 0 q:=by
 obtain⟨K,k0,hK⟩:=zON hb (show 0<=(1+q)/2 by grind) (by grind)
 have ip:=zH (show (0:Rat)<1 by grind) ha
 refine zMA (A:=λ k=>1/a*cA b k) (r:=(1+q)/2) (K:=1/a*K) (λ k=>cS_bd ha hb k) (λ M=>?_) hq (by grind)
 have e:S (λ k=>1/a*cA b k*pw ((1+q)/2) k) M=1/a*S (λ k=>cA b k*pw ((1+q)/2) k) M:=by
  rw[<- zGD];exact zA1 M λ k _=>by grind
 rw[e];exact Ya (hK M) (XV ip)
theorem cS_ode {a:Rat} (ha:0<a) (b x:Rat) (M:Nat):a*psS (cS a b) x M+x*psD (cS a b) x M=psS (cP b) x M:=by
 induction M with
 | zero=>show a*0+x*0=0;grind
 | succ n ih =>
  have d:=zLI x n;have e:=zGS ha b n;have e1:psD (cS a b) x (n+1)=psD (cS a b) x n+cS a b n*dw x n:=rfl;have e2:psS (cS a b) x (n+1)=psS (cS a b) x n+cS a b n*pw x n:=rfl;have e3:psS (cP b) x (n+1)=psS (cP b) x n+cP b n*pw x n:=rfl;rw[e1,e2,e3,<- ih,<- e];have e5:cS a b n*(x*dw x n)=cS a b n*((n:Rat)*pw x n):=by rw[d]
  grind
theorem null_sq {f:Nat->Rat} (h:Null (λ M=>f M*f M)):Null f:=λ e he=>by
 obtain⟨N,hN⟩:=h (e*e) (Rat.mul_pos he he);refine⟨N,λ M hM=>?_⟩
 have k:=(hN M hM).2;refine⟨Rat.not_lt.1 λ hn=>?_,Rat.not_lt.1 λ hn=>?_⟩
 ·have:=Rat.mul_pos (show 0 < -f M-e by grind) (show 0 < -f M+e by grind)
  grind
 ·have:=Rat.mul_pos (show 0<f M-e by grind) (show 0<f M+e by grind)
  grind
theorem cS_Bdd {a b x:Rat} (ha:0<a) (hb:0<b) (hx:0<=x) (h1:x<1):Bdd (psS (cS a b) x):=by
 obtain⟨C,K,c0,k0,bd,_⟩:=cS_dif ha hb hx h1;exact (bd x hx Rat.le_refl).1.bdd
theorem cS_bS {L:Rat->Nat->Rat} (hL:Lns L) {a b x:Rat} (ha:0<a) (hb:0<b) (hx:0<=x) (h1:x<1):Null (λ M=>pr L b (1-x) M*bS a b x M-psS (cS a b) x M):=by
 have x1:0<1-x:=by grind
 have d1:Dif (λ t=>pr L b (1-t)) (λ t M => -(b/(1-t)*pr L b (1-t) M)) 0 x:=Dif.flip (F:=pr L b) (F':=λ t M=>b/t*pr L b t M) (zIL hL b x1 (by grind))
 have dU:=(d1.mul hx (bS_dif ha hb hx h1)).sub (cS_dif ha hb hx h1);have dV:=dU.mul hx dU
 have z0:Null (λ M=>pr L b (1-0) M*bS a b 0 M-psS (cS a b) 0 M):=by
  have n:=(zPG hL b).bmul (Bdd.const (1/a));refine n.of_eq_from 1 λ M hM=>?_
  have e0:(1:Rat)-0=1:=by grind
  have e1:bS a b 0 M=1/a:=by
   rw[bS_ps ha b,zKM _ hM];rfl
  have e2:psS (cS a b) 0 M=1/a:=by
   rw[zKM _ hM]
   show (1:Rat)/(a+((0:Nat):Rat))=1/a
   have c:((0:Nat):Rat)=0:=rfl;rw[c];have:a+0=a:=by grind
   rw[this]
  rw[e0,e1,e2];grind
 obtain⟨_,_,_,_,bdU,_⟩:=dU
 have l:=(dV.smul (-1)).le hx λ t I1 KI=>by
  have t1:0<1-t:=by grind
  have tl:t<1:=by grind
  obtain⟨b1,b2⟩:=bdU t I1 KI
  by_cases ht:t=0
  ·subst ht
   have n:=z0.bmul b2.bdd;exact LeN.of_eqN ((n.add n).of_eq λ M=>by grind)
  ·have t0:0<t:=by grind
   have im:=rdm (a:=1) t1;have jm:=rdm (a:=1) t0;have jp:=zH (show (0:Rat)<1 by grind) t0
   have w:=(zKQ ha hb I1 tl).bmul ((jV hL t1 b).mul (Bdd.const (1/(1-t))));have c:=(cP_pow hL hb I1 tl).bmul (Bdd.const (1/(1-t)))
   have key:Null (λ M=>t*(-(b/(1-t)*pr L b (1-t) M)*bS a b t M+pr L b (1-t) M*psD (bT a b 1) t M-psD (cS a b) t M)+a*(pr L b (1-t) M*bS a b t M-psS (cS a b) t M)):=by
    refine (w.add c).neg.of_eq λ M=>?_
    have o1:=bS_ode ha b t M;have o2:=cS_ode ha b t M;have ed:b/(1-t)=b*(1/(1-t)):=by rw[Yg,Yg,Rat.one_mul]
    rw[ed];generalize 1/(1-t)=i at *;generalize psD (bT a b 1) t M=D at *;generalize psD (cS a b) t M=D2 at *;generalize psS (cS a b) t M=S2 at *;generalize psS (cP b) t M=P at *;generalize bS a b t M=s at *;generalize (a+(M:Rat))*bT a b t M=W at *;generalize pr L b (1-t) M=R at *;clear w c dV d1 bdU b1 b2 z0
    have g:t*D=i*((1-t)*(t*D)):=by
     have:i*((1-t)*(t*D))=i*(1-t)*(t*D):=by grind
     rw[this,im];grind
    rw[o1] at g;have g2:R*(t*D)=R*(i*(1+((a+b)*t-a)*s-W)):=by rw[<- g]
    have g3:P=i*((1-t)*P):=by
     have:i*((1-t)*P)=i*(1-t)*P:=by grind
     rw[this,im];grind
    have g4:R*s=R*s*(i*(1-t)):=by rw[im];grind
    have lhs:t*(-(b*i*R)*s+R*D-D2)+a*(R*s-S2) = -(b*i*t)*(R*s)+R*(t*D)+a*(R*s)-(a*S2+t*D2):=by grind
    rw[lhs,g2,o2];have g5:a*(R*s)=a*(R*s*(i*(1-t))):=by rw[<- g4]
    rw[g5];have g6:(W*(R*i)+((1-t)*P-R)*i)=W*R*i+i*((1-t)*P)-R*i:=by grind
    rw[g6,<- g3];grind
   have n:=(key.bmul b1.bdd).bmul (Bdd.const (1/t));refine LeN.of_null (n.add n) 0 λ M _=>?_
   dsimp only
   generalize pr L b (1-t) M*bS a b t M-psS (cS a b) t M=u at *;generalize -(b/(1-t)*pr L b (1-t) M)*bS a b t M+pr L b (1-t) M*psD (bT a b 1) t M-psD (cS a b) t M=u' at *;generalize 1/t=j at *;clear n key w c dV d1 bdU b1 b2 z0;have s0:=XQ (XQ (XV ha) (XV jp)) (jM u);have e:(t*u'+a*u)*u*j=j*t*(u'*u)+a*j*(u*u):=by grind
   rw[e,jm];grind
 have v0:=z0.bmul (bdU 0 Rat.le_refl hx).1.bdd;refine null_sq λ e he=>?_
 obtain⟨N1,n1⟩:=l (e/2) (by grind)
 obtain⟨N2,n2⟩:=v0 (e/2) (by grind)
 refine⟨N1+N2,λ M hM=>?_⟩
 have a1:=n1 M (by omega)
 have a2:=(n2 M (by omega)).2
 dsimp only at a1 a2 ⊢
 generalize pr L b (1-x) M*bS a b x M-psS (cS a b) x M=u at *;generalize pr L b (1-0) M*bS a b 0 M-psS (cS a b) 0 M=u0 at *;have:=jM u;exact⟨by grind,by grind⟩
theorem bH_ref {L:Rat->Nat->Rat} (hL:Lns L) {a b x:Rat} (ha:0<a) (hb:0<b) (hx:0<x) (h1:x<1):Null (λ M=>bH L a b x M-pr L a x M*psS (cS a b) x M):=by
 refine ((cS_bS hL ha hb (XV hx) h1).bmul (jV hL hx a)).of_eq λ M=>?_
 unfold bH bP;grind
end Go.Proofs.YtgmnknmjainababGreat.Ex
