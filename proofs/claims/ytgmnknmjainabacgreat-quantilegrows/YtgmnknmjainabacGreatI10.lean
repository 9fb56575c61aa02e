/-
  Its own texts.
-/
import Derived.Test.YtgmnknmjainabacGreatI09
set_option maxRecDepth 100000
set_option maxHeartbeats 40000000
set_option linter.unusedVariables false
namespace Go.Proofs.YtgmnknmjainabacGreat.Ex
def uT (u:Rat):Nat->Rat
 | 0=>u
 | n+1=>(2*(n:Rat)+1)/(2*(n:Rat)+3)*(u*u)*uT u n
def uD (u:Rat):Nat->Rat
 | 0=>1
 | n+1=>u*u*uD u n
def sg:Nat->Rat
 | 0=>1
 | n+1 => -sg n
theorem sg_one (n:Nat):sg n=1\/sg n = -1:=by
 induction n with
 | zero=>exact Or.inl rfl
 | succ n ih=>rcases ih with h|h<;>(show -sg n=1 \/ -sg n = -1;rw[h];grind)
theorem zNK (n:Nat):(0:Rat)<2*(n:Rat)+3:=by
 have:(0:Rat)<=(n:Rat):=by exact_mod_cast Nat.zero_le n
 grind
theorem zGM (u:Rat) (n:Nat):(2*(n:Rat)+3)*uT u (n+1)=(2*(n:Rat)+1)*(u*u)*uT u n:=by
 have e:=rdm (a:=2*(n:Rat)+1) (zNK n)
 show (2*(n:Rat)+3)*((2*(n:Rat)+1)/(2*(n:Rat)+3)*(u*u)*uT u n)=_
 have:(2*(n:Rat)+3)*((2*(n:Rat)+1)/(2*(n:Rat)+3)*(u*u)*uT u n)=((2*(n:Rat)+1)/(2*(n:Rat)+3)*(2*(n:Rat)+3))*(u*u)*uT u n:=by grind
 rw[this,e]
theorem zUC (u:Rat) (n:Nat):(2*(n:Rat)+1)*uT u n=u*uD u n:=by
 induction n with
 | zero=>show (2*((0:Nat):Rat)+1)*u=u*1;grind
 | succ n ih =>
  have e:((n+1:Nat):Rat)=(n:Rat)+1:=by push_cast;rfl
  have h:=zGM u n
  show (2*((n+1:Nat):Rat)+1)*uT u (n+1)=u*(u*u*uD u n)
  rw[e,show 2*((n:Rat)+1)+1=2*(n:Rat)+3 by grind,h]
  grind
theorem zCG (u:Rat) (n:Nat):0<=uD u n:=by
 induction n with
 | zero=>show (0:Rat)<=1;grind
 | succ n ih=>exact Yz (zO u) ih
theorem zKX {u:Rat} (h:0<=u) (n:Nat):0<=uT u n:=by
 have h1:=zUC u n;have h2:=Yz h (zCG u n);have h3:(0:Rat)<=(n:Rat):=by exact_mod_cast Nat.zero_le n
 refine Rat.le_of_mul_le_mul_left (c:=2*(n:Rat)+1) ?_ (by grind)
 grind
theorem zUB {u h:Rat} (hu:0<=u) (hh:0<=h) (n:Nat):uT u n+h*uD u n<=uT (u+h) n:=by
 induction n with
 | zero=>show u+h*1<=u+h;grind
 | succ n ih =>
  have p:=zNK n;have n0:(0:Rat)<=(n:Rat):=by exact_mod_cast Nat.zero_le n
  have e1:=zGM u n;have e2:=zGM (u+h) n;have e3:=zUC u n;have t0:=zKX hu n;have d0:=zCG u n;have s1:u*u+2*(u*h)<=(u+h)*(u+h):=by have:=Yz hh hh;grind
  have y0:0<=(u+h)*(u+h):=zO _;have m1:=Yy ih y0;have u0:0<=uT u n+h*uD u n:=by have:=Yz hh d0;grind
  have m2:=YB s1 u0;have k1:=Yz (Yz hu hh) (Yz hh d0);have m3:=Rat.le_trans m2 m1;have c0:0<=2*(n:Rat)+1:=by grind
  have m4:=Yy m3 c0;refine Rat.le_of_mul_le_mul_left (c:=2*(n:Rat)+3) ?_ p
  show (2*(n:Rat)+3)*(uT u (n+1)+h*(u*u*uD u n))<=_
  rw[e2];have k4:(2*(n:Rat)+3)*(uT u (n+1)+h*(u*u*uD u n))=(2*(n:Rat)+1)*(u*u)*uT u n+(2*(n:Rat)+3)*(h*(u*u*uD u n)):=by rw[<- e1];grind
  rw[k4];have k5:(2*(n:Rat)+1)*((u*u+2*(u*h))*(uT u n+h*uD u n))=(2*(n:Rat)+1)*(u*u)*uT u n+(2*(n:Rat)+1)*(h*(u*u*uD u n))+2*(u*h)*((2*(n:Rat)+1)*uT u n)+2*((2*(n:Rat)+1)*(u*h*(h*uD u n))):=by grind
  have k6:=Yz c0 k1;rw[k5,e3] at m4;grind
theorem uT_back {x y:Rat} (hx:0<=x) (K6:x<=y) (n:Nat):uT y n<=uT x n+(y-x)*uD y n:=by
 induction n with
 | zero=>show y<=x+(y-x)*1;grind
 | succ n ih =>
  have p:=zNK n;have hy:0<=y:=by grind
  have n0:(0:Rat)<=(n:Rat):=by exact_mod_cast Nat.zero_le n
  have c0:0<=2*(n:Rat)+1:=by grind
  have e1:=zGM x n;have e2:=zGM y n;have e3:=zUC y n;have t0:=zKX hx n;have d0:=zCG y n;obtain⟨h,hh⟩:∃ h,h=y-x:=⟨_,rfl⟩;have h0:0<=h:=by grind
  have mono:uT x n<=uT y n:=by
   have:=zUB hx h0 n;have:=Yz h0 (zCG x n);rw[show x+h=y by grind] at *
   grind
  rw[<- hh] at ih ⊢;have m1:=Yy ih (zO y);have m2:=Yy m1 c0;refine Rat.le_of_mul_le_mul_left (c:=2*(n:Rat)+3) ?_ p
  show _<=(2*(n:Rat)+3)*(uT x (n+1)+h*(y*y*uD y n))
  have k4:(2*(n:Rat)+3)*(uT x (n+1)+h*(y*y*uD y n))=(2*(n:Rat)+1)*(x*x)*uT x n+(2*(n:Rat)+3)*(h*(y*y*uD y n)):=by rw[<- e1];grind
  rw[k4,e2]
  have k5:y*y-x*x<=2*(h*y):=by
   have:=Yz h0 h0;have:y*y-x*x=2*(h*y)-h*h:=by rw[hh];grind
   grind
  have k6:=YB k5 t0;have k7:=Yy mono (Yz (show (0:Rat)<=2 by grind) (Yz h0 hy))
  have k8:=Yy (Rat.le_trans k6 k7) c0;have k9:(2*(n:Rat)+1)*(2*(h*y)*uT y n)=2*(h*y)*(y*uD y n):=by rw[<- e3];grind
  rw[k9] at k8;grind
theorem q4_le_q2 (n:Nat):q4 n<=q2 n:=by
 induction n with
 | zero=>show (1:Rat)<=1;grind
 | succ n ih =>
  have h1:q4 (n+1)=q4 n/4:=rfl;have h2:q2 (n+1)=q2 n/2:=rfl;have:=yC n;have:=yD n;rw[h1,h2];grind
theorem uD_q4 {u:Rat} (h0:0<=u) (h:u<=1/2) (n:Nat):uD u n<=q4 n:=by
 induction n with
 | zero=>show (1:Rat)<=1;grind
 | succ n ih =>
  have h1:q4 (n+1)=q4 n/4:=rfl;have q:=yD n
  have a1:u*u<=1/4:=by
   have:=Yy h h0;grind
  have m1:=Yy ih (zO u);have m2:=YB a1 (YC q)
  show u*u*uD u n<=_
  rw[h1];grind
theorem uD_near {u h:Rat} (hu:0<=u) (hh:0<=h) (hy:u+h<=1/2) (n:Nat):uD (u+h) n-uD u n<=4*h*q2 n:=by
 induction n with
 | zero=>show (1:Rat)-1<=4*h*1;grind
 | succ n ih =>
  have h2:q2 (n+1)=q2 n/2:=rfl;have q:=yC n
  have c1:(u+h)*(u+h)<=1/4:=by
   have:=Yy hy (show 0<=u+h by grind)
   grind
  have c2:(u+h)*(u+h)-u*u<=h:=by
   have e:(u+h)*(u+h)-u*u=h*(2*u+h):=by grind
   have:=Yy (show 2*u+h<=1 by grind) hh
   rw[e];grind
  have d1:=uD_q4 hu (by grind) n
  have d2:=q4_le_q2 n;have d0:=zCG u n;have m1:=Yy ih (zO (u+h));have hq:=Yz hh (YC q);have m2:=YB c1 (show 0<=4*h*q2 n by grind)
  have m3:=YB c2 d0;have m4:=Yy (Rat.le_trans d1 d2) hh
  show (u+h)*(u+h)*uD (u+h) n-u*u*uD u n<=_
  rw[h2];have e:(u+h)*(u+h)*uD (u+h) n-u*u*uD u n=(u+h)*(u+h)*(uD (u+h) n-uD u n)+((u+h)*(u+h)-u*u)*uD u n:=by grind
  rw[e];grind
def aA (u:Rat) (M:Nat):Rat:=S (λ n=>sg n*uT u n) M
def aD (u:Rat) (M:Nat):Rat:=S (λ n=>sg n*uD u n) M
theorem aD_eq (u:Rat) (M:Nat):(1+u*u)*aD u M=1-sg M*uD u M:=by
 induction M with
 | zero=>show (1+u*u)*0=1-1*1;grind
 | succ n ih =>
  show (1+u*u)*(aD u n+sg n*uD u n)=1-(-sg n)*(u*u*uD u n)
  grind
theorem aA_lin {u h:Rat} (hu:0<=u) (hh:0<=h) (hy:u+h<=1/2) (M:Nat):AB (aA (u+h) M-aA u M-h*aD u M) (8*(h*h)*(1-q2 M)):=by
 induction M with
 | zero=>show AB (0-0-h*0) (8*(h*h)*(1-1));constructor<;>grind
 | succ n ih =>
  have h2:q2 (n+1)=q2 n/2:=rfl;have g1:=zUB hu hh n;have g2:=uT_back hu (show u<=u+h by grind) n
  rw[show u+h-u=h by grind] at g2
  have g3:=Yy (uD_near hu hh hy n) hh
  have k:AB (uT (u+h) n-uT u n-h*uD u n) (4*(h*h)*q2 n):=by
   have q:=yC n;have:=Yz (Yz hh hh) (YC q);constructor<;>grind
  have k2:AB (sg n*(uT (u+h) n-uT u n-h*uD u n)) (4*(h*h)*q2 n):=by
   rcases sg_one n with e|e
   ·rw[e];exact⟨by have:=k.1;grind,by have:=k.2;grind⟩
   ·rw[e];exact⟨by have:=k.2;grind,by have:=k.1;grind⟩
  have k3:=ih.add k2
  show AB (aA (u+h) n+sg n*uT (u+h) n-(aA u n+sg n*uT u n)-h*(aD u n+sg n*uD u n)) _
  rw[h2];have e:aA (u+h) n+sg n*uT (u+h) n-(aA u n+sg n*uT u n)-h*(aD u n+sg n*uD u n)=aA (u+h) n-aA u n-h*aD u n+sg n*(uT (u+h) n-uT u n-h*uD u n):=by grind
  rw[e];exact k3.mono (by grind)
theorem zQB {u h i:Rat} (hu:0<=u) (hh:0<=h) (hy:u+h<=1/2) (hi:i*(1+u*u)=1) (M:Nat):AB (aA (u+h) M-aA u M-h*i) (8*(h*h)+h*q4 M):=by
 have k:=aA_lin hu hh hy M;have q:=yC M
 have k1:=k.mono (b:=8*(h*h)) (by
  have:=Yz (Yz hh hh) (YC q)
  grind)
 have e:=aD_eq u M;have d:=uD_q4 hu (show u<=1/2 by grind) M
 have d0:=zCG u M;have s0:=zO u
 have i0:0<=i:=by
  refine Rat.not_lt.1 λ D5=>?_
  have:=Yz (show 0 <= -i by grind) (show 0<=1+u*u by grind)
  grind
 have i1:i<=1:=by have:=Yz i0 s0;grind
 have e2:aD u M=i-i*(sg M*uD u M):=by
  have:i*((1+u*u)*aD u M)=i*(1-sg M*uD u M):=by rw[e]
  have:i*(1+u*u)*aD u M=i*(1-sg M*uD u M):=by grind
  rw[hi] at this;grind
 have k2:AB (h*(i*(sg M*uD u M))) (h*q4 M):=by
  have m1:=YB i1 d0;have m2:=Yz i0 d0;have m3:=Yy (show i*uD u M<=q4 M by grind) hh
  have m4:=Yz hh m2
  rcases sg_one M with s|s
  ·rw[s];constructor<;>grind
  ·rw[s];constructor<;>grind
 have k3:=k1.add k2.neg;have e3:aA (u+h) M-aA u M-h*i=aA (u+h) M-aA u M-h*aD u M + -(h*(i*(sg M*uD u M))):=by rw[e2];grind
 rw[e3];exact k3
theorem zNA (a:Rat) (h:0<a):∃ i,0<i/\i*a=1:=⟨1/a,zF (by grind) h,rdm h⟩
def tD (v x:Rat):Rat:=(x-v)/(1+x*v)
theorem zN9 {v x:Rat} (hv:0<=v) (hx:0<=x):tD v x*(1+x*v)=x-v:=rdm (by have:=Yz hx hv;grind)
theorem zT1 {v x h:Rat} (hv:0<=v) (wW:v<=x) (hh:0<=h):tD v x<=tD v (x+h)/\tD v (x+h)-tD v x<=(1+v*v)*h /\
  ∀ i j,i*(1+x*x)=1->j*(1+tD v x*tD v x)=1->AB ((tD v (x+h)-tD v x)*j-h*i) (v*(h*h)):=by
 have hx:0<=x:=by grind
 have e1:=zN9 hv hx;have e2:=zN9 hv (show 0<=x+h by grind)
 generalize tD v x=X at *;generalize tD v (x+h)=Y at *;obtain⟨al,ha⟩:∃ al,al=1+x*v:=⟨_,rfl⟩;obtain⟨be,hb⟩:∃ be,be=1+(x+h)*v:=⟨_,rfl⟩;rw[<- ha] at e1;rw[<- hb] at e2;have xv:=Yz hx hv;have cO:=Yz hh hv;have a1:1<=al:=by rw[ha];grind
 have b1:1<=be:=by rw[hb];grind
 have vv:=zO v
 have k1:(Y-X)*(al*be)=h*(1+v*v):=by
  have:(Y-X)*(al*be)=(Y*be)*al-(X*al)*be:=by grind
  rw[this,e1,e2,ha,hb];grind
 have Wb:0<al*be:=Rat.mul_pos (by grind) (by grind)
 have Wc:1<=al*be:=by have:=Yy b1 (show 0<=al by grind);grind
 have Rn:0<=h*(1+v*v):=Yz hh (by grind)
 have k0:0<=Y-X:=by
  refine Rat.not_lt.1 λ D5=>?_
  have:=Rat.mul_pos (show 0 < -(Y-X) by grind) Wb
  grind
 refine⟨by grind,?_,λ i j hi hj=>?_⟩
 ·have:=Yy Wc k0
  grind
 ·have xx:=zO x
  have XX:=zO X
  have i0:0<=i:=by
   refine Rat.not_lt.1 λ D5=>?_
   have:=Yz (show 0 <= -i by grind) (show 0<=1+x*x by grind)
   grind
  have i1:i<=1:=by have:=Yz i0 xx;grind
  obtain⟨E,hE⟩:∃ E,E=(Y-X)*j*(1+x*x):=⟨_,rfl⟩
  have id1:(1+X*X)*(al*al)=(1+x*x)*(1+v*v):=by
   have:(1+X*X)*(al*al)=al*al+(X*al)*(X*al):=by grind
   rw[this,e1,ha];grind
  have k2:E*be=h*al:=by
   have m:E*be*(al*(1+v*v))=h*al*(al*(1+v*v)):=by
    have f1:E*be*(al*(1+v*v))=((Y-X)*(al*be))*j*((1+x*x)*(1+v*v)):=by rw[hE];grind
    rw[f1,k1,<- id1];have f2:h*(1+v*v)*j*((1+X*X)*(al*al))=h*(1+v*v)*(j*(1+X*X))*(al*al):=by grind
    rw[f2,hj];grind
   have c:0<al*(1+v*v):=Rat.mul_pos (by grind) (by grind)
   refine Rat.le_antisymm (Rat.le_of_mul_le_mul_right (by rw[m];exact Rat.le_refl) c) (Rat.le_of_mul_le_mul_right (by rw[m];exact Rat.le_refl) c)
  have k3:(Y-X)*j=E*i:=by
   have:E*i=(Y-X)*j*(i*(1+x*x)):=by rw[hE];grind
   rw[this,hi];grind
  have bal:be=al+h*v:=by rw[ha,hb];grind
  have d1:(h-E)*be=v*(h*h):=by
   have:(h-E)*be=h*be-E*be:=by grind
   rw[this,k2,bal];grind
  have vh:=Yz hv (Yz hh hh)
  have d2:0<=h-E:=by
   refine Rat.not_lt.1 λ D5=>?_
   have:=Rat.mul_pos (show 0 < -(h-E) by grind) (show 0<be by grind)
   grind
  have d3:h-E<=v*(h*h):=by
   have:=Yy b1 d2;grind
  rw[k3];have m1:=Yz d2 i0;have m2:=Yy i1 d2;constructor<;>grind
theorem zK9 {v x h i:Rat} (hv:0<=v) (Ax:v<=1/2) (wW:v<=x) (hh:0<=h) (hy:tD v (x+h)<=1/2) (hi:i*(1+x*x)=1) (M:Nat):AB (aA (tD v (x+h)) M-aA (tD v x) M-h*i) (16*(h*h)+2*(h*q4 M)):=by
 obtain⟨s1,s2,s3⟩:=zT1 hv wW hh
 have X0:0<=tD v x:=by
  have e:=zN9 hv (show 0<=x by grind)
  refine Rat.not_lt.1 λ D5=>?_
  have:=Rat.mul_pos (show 0 < -tD v x by grind) (show 0<1+x*v by have:=Yz (show 0<=x by grind) hv;grind)
  grind
 obtain⟨j,j0,hj⟩:=zNA (1+tD v x*tD v x) (by have:=zO (tD v x);grind)
 have s4:=s3 i j hi hj;obtain⟨k,hk⟩:∃ k,k=tD v (x+h)-tD v x:=⟨_,rfl⟩;have k0:0<=k:=by grind
 have ey:tD v (x+h)=tD v x+k:=by grind
 rw[<- hk] at s2 s4;have s5:=zQB (u:=tD v x) (h:=k) (i:=j) X0 k0 (by grind) hj M
 rw[ey];have s6:=s5.add s4;have e:aA (tD v x+k) M-aA (tD v x) M-k*j+(k*j-h*i)=aA (tD v x+k) M-aA (tD v x) M-h*i:=by grind
 rw[e] at s6;refine s6.mono ?_;have q:=yD M;have vv:v*v<=1/4:=by have:=Yy Ax hv;grind
 have kh:k<=5/4*h:=by
  have:=YB vv hh;grind
 have kk:k*k<=25/16*(h*h):=by
  have a:=Yy kh k0;have b:=YB kh (show 0<=5/4*h by grind)
  grind
 have kq:=YB kh (YC q);have gF:=Yz hh hh;have vh:=YB Ax gF;have hq:=Yz hh (YC q);grind
end Go.Proofs.YtgmnknmjainabacGreat.Ex
namespace Go.Proofs.YtgmnknmjainabacGreat.Ex
theorem zFM (K:Rat) (hK:0<=K):Null (λ M=>K*q4 M) :=
 Null.of_le (zB0 K hK) 1 λ M hM=>by
  have hm:(1:Rat)<=(M:Rat):=by exact_mod_cast hM
  have q:=yD M;have h1:=YB hm (YC q);have h2:=Yy h1 hK;have h3:=Yz hK (YC q);constructor<;>grind
theorem zFW (M:Nat):aA 0 M=0:=by
 have h:∀ n,uT 0 n=0:=λ n=>by
  induction n with
  | zero=>rfl
  | succ n ih=>show _*(0*0)*uT 0 n=0;rw[ih];grind
 unfold aA
 induction M with
 | zero=>rfl
 | succ n ih=>show S (λ n=>sg n*uT 0 n) n+sg n*uT 0 n=0;rw[ih,h];grind
theorem tD_same (v:Rat):tD v v=0:=by unfold tD;rw[show v-v=0 by grind,YK];grind
theorem tD_le {v x:Rat} (hv:0<=v) (wW:v<=x):0<=tD v x/\tD v x<=x:=by
 have e:=zN9 hv (show 0<=x by grind)
 have xv:=Yz (show 0<=x by grind) hv
 have h0:0<=tD v x:=by
  refine Rat.not_lt.1 λ D5=>?_
  have:=Rat.mul_pos (show 0 < -tD v x by grind) (show 0<1+x*v by grind)
  grind
 have:=Yz h0 xv;exact⟨h0,by grind⟩
theorem zJC {v u:Rat} (hv:0<=v) (Rp:v<=u) (hu:u<=1/2):Null (λ M=>aA u M-aA (tD v u) M-aA v M):=by
 have key:∀ x h,v<=x->0<h->x+h<=u->∀ M,AB ((aA (x+h) M-aA (tD v (x+h)) M)-(aA x M-aA (tD v x) M)) (24*(h*h)+3*h*q4 M):=λ x h h1 h2 h3 M=>by
  obtain⟨i,i0,hi⟩:=zNA (1+x*x) (by have:=zO x;grind)
  have a:=zQB (u:=x) (h:=h) (i:=i) (by grind) (YC h2) (by grind) hi M
  have b:=zK9 (x:=x) (h:=h) (i:=i) hv (by grind) h1 (YC h2) (by have:=(tD_le hv (show v<=x+h by grind)).2;grind) hi M
  have c:=a.add b.neg;have e:aA (x+h) M-aA x M-h*i + -(aA (tD v (x+h)) M-aA (tD v x) M-h*i)=(aA (x+h) M-aA (tD v (x+h)) M)-(aA x M-aA (tD v x) M):=by grind
  rw[e] at c;exact c.mono (by grind)
 have d1:=zCL (f:=λ x M=>aA x M-aA (tD v x) M) (C:=24) (D:=1) Rp (by grind) (by grind) (λ x h h1 h2 _ h4=>⟨_,zFM (3*h) (by grind),0,λ M _=>by have:=(key x h h1 h2 h4 M).2;grind⟩)
 have d2:=zCL (f:=λ x M => -(aA x M-aA (tD v x) M)) (C:=24) (D:=1) Rp (by grind) (by grind) (λ x h h1 h2 _ h4=>⟨_,zFM (3*h) (by grind),0,λ M _=>by have:=(key x h h1 h2 h4 M).1;grind⟩)
 intro e he
 obtain⟨N1,k1⟩:=d1 e he;obtain⟨N2,k2⟩:=d2 e he;refine⟨N1+N2,λ M hM=>?_⟩
 have a1:=k1 M (by omega)
 have a2:=k2 M (by omega)
 simp only[tD_same,zFW] at a1 a2;constructor<;>grind
theorem machin:Null (λ M=>(aA (1/2) M+aA (1/3) M)-(4*aA (1/5) M-aA (1/239) M)):=by
 have d1:=zJC (v:=1/5) (u:=1/2) (by grind) (by grind) (by grind)
 have d2:=zJC (v:=1/5) (u:=1/3) (by grind) (by grind) (by grind)
 have d3:=zJC (v:=1/5) (u:=3/11) (by grind) (by grind) (by grind)
 have d4:=zJC (v:=1/8) (u:=1/5) (by grind) (by grind) (by grind)
 have d5:=zJC (v:=2/29) (u:=3/41) (by grind) (by grind) (by grind)
 rw[show tD (1/5) (1/2)=3/11 by decide +kernel] at d1
 rw[show tD (1/5) (1/3)=1/8 by decide +kernel] at d2
 rw[show tD (1/5) (3/11)=2/29 by decide +kernel] at d3
 rw[show tD (1/8) (1/5)=3/41 by decide +kernel] at d4
 rw[show tD (2/29) (3/41)=1/239 by decide +kernel] at d5
 exact ((((d1.add d2).add d3).sub d4).sub d5).of_eq λ M=>by grind
theorem aA_ag {m:Int} (hm:2<=m) (M:Nat):aA (1/(m:Rat)) M=agS m M:=by
 have m0:(0:Rat)<(m:Rat):=by exact_mod_cast (show 0<m by omega)
 have e:(1/(m:Rat))*(m:Rat)=1:=rdm m0
 have h:∀ n,sg n*uT (1/(m:Rat)) n=agV m n:=λ n=>by
  induction n with
  | zero=>show 1*(1/(m:Rat))=((1:Int):Rat)/(m:Rat);rw[Rat.one_mul];rfl
  | succ n ih =>
   have p:=zNK n
   show -sg n*((2*(n:Rat)+1)/(2*(n:Rat)+3)*((1/(m:Rat))*(1/(m:Rat)))*uT (1/(m:Rat)) n) = -(((2*(n:Int)+1:Int):Rat)/(((2*(n:Int)+3)*m*m:Int):Rat)*agV m n)
   rw[<- ih];have e1:((2*(n:Int)+1:Int):Rat)=2*(n:Rat)+1:=by rw[Rat.intCast_add,YG];rfl
   have e2:(((2*(n:Int)+3)*m*m:Int):Rat)=(2*(n:Rat)+3)*(m:Rat)*(m:Rat):=by rw[YG,YG,Rat.intCast_add,YG];rfl
   have key:(2*(n:Rat)+1)/(2*(n:Rat)+3)*((1/(m:Rat))*(1/(m:Rat)))=((2*(n:Int)+1:Int):Rat)/(((2*(n:Int)+3)*m*m:Int):Rat):=by
    rw[e1,e2];have q:(0:Rat)<(2*(n:Rat)+3)*(m:Rat)*(m:Rat):=Rat.mul_pos (Rat.mul_pos p m0) m0;have r1:=rdm (a:=2*(n:Rat)+1) q;have r2:=rdm (a:=2*(n:Rat)+1) p
    have lhs:(2*(n:Rat)+1)/(2*(n:Rat)+3)*((1/(m:Rat))*(1/(m:Rat)))*((2*(n:Rat)+3)*(m:Rat)*(m:Rat))=2*(n:Rat)+1:=by
     have:(2*(n:Rat)+1)/(2*(n:Rat)+3)*((1/(m:Rat))*(1/(m:Rat)))*((2*(n:Rat)+3)*(m:Rat)*(m:Rat))=((2*(n:Rat)+1)/(2*(n:Rat)+3)*(2*(n:Rat)+3))*((1/(m:Rat)*(m:Rat))*(1/(m:Rat)*(m:Rat))):=by grind
     rw[this,r2,e];grind
    refine Rat.le_antisymm (Rat.le_of_mul_le_mul_right (by rw[lhs,r1];exact Rat.le_refl) q) (Rat.le_of_mul_le_mul_right (by rw[lhs,r1];exact Rat.le_refl) q)
   rw[key];generalize ((2*(n:Int)+1:Int):Rat)/(((2*(n:Int)+3)*m*m:Int):Rat)=c;grind
 exact kQ M λ i _=>h i
theorem pi_four:Null (λ M=>4*(aA (1/2) M+aA (1/3) M)-piS M):=by
 refine (machin.bmul (Bdd.const 4)).of_eq λ M=>?_
 have a:=aA_ag (m:=5) (by omega) M
 have b:=aA_ag (m:=239) (by omega) M
 rw[show 1/((5:Int):Rat)=1/5 by decide +kernel] at a
 rw[show 1/((239:Int):Rat)=1/239 by decide +kernel] at b
 unfold piS;rw[<- a,<- b];grind
def rI (x:Rat):Rat:=1/(1+x*x)
theorem zKC (x:Rat):rI x*(1+x*x)=1:=rdm (by have:=zO x;grind)
theorem zKD (x:Rat):0<rI x:=zF (by grind) (by have:=zO x;grind)
theorem rI_le (x:Rat):rI x<=1:=by have:=zKC x;have:=Yz (YC (zKD x)) (zO x);grind
theorem zT0 {v x y:Rat} (hv:0<=v) (wW:v<=x) (K6:x<=y):tD v x<=tD v y:=by
 have:=(zT1 hv wW (show 0<=y-x by grind)).1
 rwa [show x+(y-x)=y by grind] at this
theorem zKQ {v x h:Rat} (hv:0<=v) (Ax:v<=1/2) (wW:v<=x) (hh:0<=h) (M:Nat) (j:Nat) (hj:tD v (x+(j:Rat)*h)<=1/2) :
  S (λ i=>h*rI (x+(i:Rat)*h)) j<=aA (tD v (x+(j:Rat)*h)) M-aA (tD v x) M+(j:Rat)*(16*(h*h)+2*(h*q4 M)):=by
 induction j with
 | zero =>
  have e:x+((0:Nat):Rat)*h=x:=by grind
  rw[e]
  show (0:Rat)<=_
  grind
 | succ j ih =>
  have ec:((j+1:Nat):Rat)=(j:Rat)+1:=by push_cast;rfl
  have j0:(0:Rat)<=(j:Rat):=by exact_mod_cast Nat.zero_le j
  have jh:=Yz j0 hh;have e1:x+((j+1:Nat):Rat)*h=x+(j:Rat)*h+h:=by rw[ec];grind
  rw[e1] at hj ⊢;have AF:=ih (Rat.le_trans (zT0 hv (by grind) (by grind)) hj)
  have st:=(zK9 (x:=x+(j:Rat)*h) (i:=rI (x+(j:Rat)*h)) hv Ax (by grind) hh hj (zKC _) M).1
  show S (λ i=>h*rI (x+(i:Rat)*h)) j+h*rI (x+(j:Rat)*h)<=_
  rw[ec];grind
theorem zP9 (f:Nat->Rat) (a b:Nat):S f (a+b)=S f a+S (λ i=>f (a+i)) b:=by
 induction b with
 | zero=>show S f a=S f a+0;grind
 | succ b ih=>show S f (a+b)+f (a+b)=S f a+(S (λ i=>f (a+i)) b+f (a+b));rw[ih];grind
theorem zTY (n:Nat) {h:Rat} (hh:h*(2*((n:Rat)+1))=1):LeN (λ _=>4*S (λ i=>h*rI ((i:Rat)*h)) (2*(n+1))) (λ M=>piS M+64*(1/((n:Rat)+1))):=by
 have n0:(0:Rat)<(n:Rat)+1:=zAV n
 have h0:0<h:=by
  refine Rat.not_le.1 λ hle=>?_
  have:=Yz (show 0 <= -h by grind) (show 0<=2*((n:Rat)+1) by grind)
  grind
 have ec:((n+1:Nat):Rat)=(n:Rat)+1:=by push_cast;rfl
 have hm:((n+1:Nat):Rat)*h=1/2:=by rw[ec];grind
 have a:∀ M,S (λ i=>h*rI (0+(i:Rat)*h)) (n+1)<=aA (1/2) M+((n:Rat)+1)*(16*(h*h)+2*(h*q4 M)):=λ M=>by
  have:=zKQ (v:=0) (x:=0) (by grind) (by grind) (by grind) (YC h0) M (n+1) (by rw[hm];decide +kernel)
  rw[hm,show tD 0 (0+1/2)=1/2 by decide +kernel,show tD 0 0=0 by decide +kernel,zFW,ec] at this
  grind
 have b:∀ M,S (λ i=>h*rI (1/2+(i:Rat)*h)) (n+1)<=aA (1/3) M+((n:Rat)+1)*(16*(h*h)+2*(h*q4 M)):=λ M=>by
  have:=zKQ (v:=1/2) (x:=1/2) (by grind) (by grind) (by grind) (YC h0) M (n+1) (by rw[hm];decide +kernel)
  rw[hm,show tD (1/2) (1/2+1/2)=1/3 by decide +kernel,show tD (1/2) (1/2)=0 by decide +kernel,zFW,ec] at this
  grind
 have sp:S (λ i=>h*rI ((i:Rat)*h)) (2*(n+1))=S (λ i=>h*rI (0+(i:Rat)*h)) (n+1)+S (λ i=>h*rI (1/2+(i:Rat)*h)) (n+1):=by
  rw[show 2*(n+1)=(n+1)+(n+1) by omega,zP9]
  congr 1
  ·exact kQ _ λ i _=>by rw[show 0+(i:Rat)*h=(i:Rat)*h by grind]
  ·refine kQ _ λ i _=>?_
   have e:((n+1+i:Nat):Rat)=((n+1:Nat):Rat)+(i:Rat):=by push_cast;rfl
   rw[e,show (((n+1:Nat):Rat)+(i:Rat))*h=((n+1:Nat):Rat)*h+(i:Rat)*h by grind,hm]
 rw[sp];have nh:((n:Rat)+1)*h=1/2:=by grind
 have hu:h=1/2*(1/((n:Rat)+1)):=by
  have um:1/((n:Rat)+1)*((n:Rat)+1)=1:=rdm n0;have:h*(((n:Rat)+1)*(1/((n:Rat)+1)))=1/2*(1/((n:Rat)+1)):=by rw[<- nh];grind
  rw[show ((n:Rat)+1)*(1/((n:Rat)+1))=1 by grind] at this
  grind
 refine LeN.of_null ((pi_four).add (zFM 8 (by grind))) 0 λ M _=>?_
 have a1:=a M;have b1:=b M;have e1:((n:Rat)+1)*(16*(h*h)+2*(h*q4 M))=16*(((n:Rat)+1)*h)*h+2*(((n:Rat)+1)*h)*q4 M:=by grind
 rw[e1,nh] at a1 b1;have u0:(0:Rat)<1/((n:Rat)+1):=zF (by grind) n0
 generalize 1/((n:Rat)+1)=u at *;rw[hu] at a1 b1 ⊢;generalize S (λ i=>1/2*u*rI (0+(i:Rat)*(1/2*u))) (n+1)=s1 at *
 generalize S (λ i=>1/2*u*rI (1/2+(i:Rat)*(1/2*u))) (n+1)=s2 at *
 grind
end Go.Proofs.YtgmnknmjainabacGreat.Ex
namespace Go.Proofs.YtgmnknmjainabacGreat.Ex
def ex (c:Rat) (M:Nat):Rat:=Ev (λ _=>c) M
theorem zA5 (a b:Rat):Null (λ M=>ex a M*ex b M-ex (a+b) M):=zAI (Bdd.const a) (Bdd.const b)
theorem jZ (a:Rat):Bdd (ex a):=zAC (Bdd.const a)
theorem zA6 (a:Rat):∃ N:Nat,∀ M,N<=M->0<=ex a M:=by
 obtain⟨c,c0,N,h⟩:=zB4 (x:=λ _=>a) (Bdd.const a)
 exact⟨N,λ M hM=>Rat.le_trans (YC c0) (h M hM)⟩
theorem zBX {a b:Rat} (h:a<=b):LeN (ex a) (ex b):=by
 obtain⟨v,hv,N,k⟩:=zC2 (x:=λ _=>a) (y:=λ _=>b) (Bdd.const a) (Bdd.const b) null_zero 0 (λ M _=>by grind)
 exact LeN.of_null hv N k
theorem zD9 {t:Rat} (h0:0<=t) (h4:t<=1/4) {M:Nat} (hM:2<=M):0<=ex (-t) M/\ex (-t) M<=1-t+2*(t*t):=by
 have:=zAB (h := -t) (b:=t) ⟨by grind,by grind⟩ h4 hM
 have tt:t*t<=t*(1/4):=Yy h4 h0
 show 0<=E (-t) M/\E (-t) M<=_
 obtain⟨h1,h2⟩:=this;constructor<;>grind
theorem ex_step {a t:Rat} (h0:0<=t) (h4:t<=1/4):∃ z,Null z/\∃ N:Nat,∀ M,N<=M->ex (a + -t) M<=ex a M*(1-t+2*(t*t))+z M:=by
 obtain⟨N,hN⟩:=zA6 a;refine⟨_,(zA5 a (-t)).neg,N+2,λ M hM=>?_⟩
 have h1:=hN M (by omega)
 have h2:=(zD9 h0 h4 (M:=M) (by omega)).2
 have h3:=Yy h2 h1;grind
end Go.Proofs.YtgmnknmjainabacGreat.Ex
namespace Go.Proofs.YtgmnknmjainabacGreat.Ex
theorem eT_back {x y:Rat} (hx:0<=x) (K6:x<=y) (n:Nat):eT y n<=eT x n+(y-x)*eD y n:=by
 induction n with
 | zero=>show y<=x+(y-x)*1;grind
 | succ n ih =>
  have p:=zDC n;have hy:0<=y:=by grind
  have e1:=zDZ x n;have e2:=zDZ y n;have e3:=eD_mul y n;have t0:=zAS hx n;have mono:=zQ7 hx K6 n;obtain⟨h,hh⟩:∃ h,h=y-x:=⟨_,rfl⟩;have h0:0<=h:=by grind
  rw[<- hh] at ih ⊢;have m1:=Yy ih (zO y);refine Rat.le_of_mul_le_mul_left (c:=2*((n:Rat)+1)+1) ?_ p
  show _<=(2*((n:Rat)+1)+1)*(eT x (n+1)+h*(2*y*eT y n))
  have k4:(2*((n:Rat)+1)+1)*(eT x (n+1)+h*(2*y*eT y n))=2*(x*x)*eT x n+(2*((n:Rat)+1)+1)*(h*(2*y*eT y n)):=by rw[<- e1];grind
  rw[k4,e2]
  have k5:y*y-x*x<=2*(h*y):=by
   have:=Yz h0 h0;have:y*y-x*x=2*(h*y)-h*h:=by rw[hh];grind
   grind
  have k6:=YB k5 t0;have k7:=Yy mono (Yz (show (0:Rat)<=2 by grind) (Yz h0 hy))
  have k8:=Rat.le_trans k6 k7;have k9:y*y*(h*eD y n)=h*y*((2*(n:Rat)+1)*eT y n):=by rw[<- e3];grind
  have cX:y*y*(eT x n+h*eD y n)=y*y*eT x n+y*y*(h*eD y n):=by grind
  rw[cX,k9] at m1;grind
theorem eS_up (x:Rat) (hx:0<=x) (M:Nat):eS x M<=eS x (M+1):=by have:=zAS hx M;show eS x M<=eS x M+eT x M;grind
theorem eS_back {x y:Rat} (hx:0<=x) (K6:x<=y) (M:Nat):eS y M<=eS x M+(y-x)*(1+2*y*eS y M):=by
 have hy:0<=y:=by grind
 have key:∀ m,eS y (m+1)<=eS x (m+1)+(y-x)*(1+2*y*eS y m):=λ m=>by
  induction m with
  | zero=>show 0+y<=0+x+(y-x)*(1+2*y*0);grind
  | succ n ih =>
   have g:=eT_back hx K6 (n+1);have e:eD y (n+1)=2*y*eT y n:=rfl;rw[e] at g
   show eS y (n+1)+eT y (n+1)<=eS x (n+1)+eT x (n+1)+(y-x)*(1+2*y*(eS y n+eT y n))
   grind
 cases M with
 | zero=>show (0:Rat)<=0+(y-x)*(1+2*y*0);grind
 | succ m =>
  have h1:=key m;have h2:=eS_up y hy m;have h3:=Yy h2 (Yz (show 0<=y-x by grind) (show 0<=2*y by grind))
  grind
structure Bnd (Y K V:Rat):Prop where
 y0:0<=Y
 k0:0<=K
 v1:1<=V
 s:∀ x,0<=x->x<=Y->∀ M,eS x M<=K
 v:∀ c,0<=c->c<=2*(Y*Y)->∀ M,ex (-c) M<=V
theorem bnd_ex {Y:Rat} (hY:0<=Y):∃ K V,Bnd Y K V:=by
 obtain⟨K,k0,hK⟩:=zJS hY;obtain⟨V,v0,hV⟩:=zDW (2*(Y*Y));have yy:=Yz hY hY
 exact⟨K,V+1,hY,k0,by grind,λ x h0 h1 M=>Rat.le_trans (zQ5 h0 h1 M) (hK M),λ c h0 h1 M=>by
  have:=(hV M (-c) ⟨by grind,by grind⟩).2
  show E (-c) M<=_
  grind⟩
theorem zOS (x:Rat) (M:Nat):eF x M=eS x M*ex (-(x*x)) M:=rfl
theorem up_key {s s' h x Y K L C1:Rat} (hx:0<=x) (hh:0<h) (hY:x+h<=Y) (s0:0<=s) (sK:s<=K) (sK':s'<=K) (s'0:0<=s') (hL:L=1+2*(Y*K)) (hC:C1=2*K+2*(Y*L)) (hb:s'<=s+h*(1+2*(x+h)*s')):s'<=s+h+2*(x*h)*s+C1*(h*h):=by
 have K0:0<=K:=by grind
 have Y0:0<=Y:=by grind
 have a1:(x+h)*s'<=Y*K:=Rat.le_trans (YB hY s'0) (Yy sK' Y0)
 have a2:s'<=s+h*L:=by
  have:=Yy (show 1+2*(x+h)*s'<=L by grind) (YC hh)
  grind
 have L0:0<=L:=by have:=Yz Y0 K0;grind
 have a3:=Yy a2 (show 0<=2*(x+h) by grind)
 have a4:=Yy (show 1+2*(x+h)*s'<=1+2*(x+h)*(s+h*L) by grind) (YC hh)
 have a5:=YB hY (Yz (YC hh) L0);have a6:=Yy a5 (show 0<=2*h by grind)
 have a7:=Yy sK (Yz (YC hh) (YC hh));rw[hC];grind
theorem up_key2 {s s' h x Y K C1 C2 A t q:Rat} (hx:0<=x) (hh:0<h) (h1:h<=1) (hY:x+h<=Y) (s0:0<=s) (sK:s<=K) (c1:0<=C1) (hA:A=2*Y+1) (jv:C2=2*(A*A)) (ht:t=h*(2*x+h)) (q0:0<=q) (hq:q<=1-t+2*(t*t)) (hs:s'<=s+h+2*(x*h)*s+C1*(h*h)):s'*q<=s+h+(C1+C2*(K+1+2*(Y*K)+C1))*(h*h):=by
 have K0:0<=K:=by grind
 have Y0:0<=Y:=by grind
 have h0:=YC hh;have gF:=Yz h0 h0;have a0:0<=2*x+h:=by grind
 have aA:2*x+h<=A:=by grind
 have A0:0<=A:=by grind
 have aa:(2*x+h)*(2*x+h)<=A*A:=Rat.le_trans (Yy aA a0) (YB aA A0)
 have tt:t*t<=A*A*(h*h):=by
  have:=YB aa gF;rw[ht];grind
 have O2:q<=1-2*(x*h)+C2*(h*h):=by
  have:t=2*(x*h)+h*h:=by rw[ht];grind
  rw[jv];grind
 have yx:0<=C2:=by rw[jv];have:=Yz A0 A0;grind
 obtain⟨p,hp⟩:∃ p,p=s+h+2*(x*h)*s+C1*(h*h):=⟨_,rfl⟩;have xh:=Yz hx h0;have xhs:=Yz xh s0;have p0:0<=p:=by rw[hp];have:=Yz c1 gF;grind
 have m1:=YB (show s'<=p by grind) q0
 have m2:=Yy O2 p0;refine Rat.le_trans m1 (Rat.le_trans m2 ?_)
 have b1:p*(1-2*(x*h))<=s+h+C1*(h*h):=by
  have n1:=Yz xh h0;have n2:=Yz xh xhs;have n3:=Yz xh (Yz c1 gF);rw[hp];grind
 have b2:p<=K+1+2*(Y*K)+C1:=by
  have n1:x*h<=Y:=by have:=Yy h1 hx;grind
  have n2:=YB n1 s0;have n3:=Yy sK Y0;have n4:h*h<=1:=by have:=Yy h1 h0;grind
  have n5:=Yy n4 c1;rw[hp];grind
 have b3:=YB b2 (Yz yx gF);grind
theorem eF_up {Y K V:Rat} (B:Bnd Y K V):∃ C D,0<=C/\0<D/\D<=1/\∀ x h,0<=x->0<h->h<=D->x+h<=Y->∃ z,Null z/\∃ N:Nat,∀ M,N<=M->eF (x+h) M<=eF x M+h*ex (-(x*x)) M+C*(h*h)+z M:=by
 obtain⟨L,hL⟩:∃ L,L=1+2*(Y*K):=⟨_,rfl⟩;obtain⟨C1,ib⟩:∃ C1,C1=2*K+2*(Y*L):=⟨_,rfl⟩;obtain⟨A,hA⟩:∃ A,A=2*Y+1:=⟨_,rfl⟩;obtain⟨C2,jv⟩:∃ C2,C2=2*(A*A):=⟨_,rfl⟩;obtain⟨C3,Ql⟩:∃ C3,C3=C1+C2*(K+1+2*(Y*K)+C1):=⟨_,rfl⟩;have y0:=B.y0;have k0:=B.k0;have v1:=B.v1;have yk:=Yz y0 k0;have L0:0<=L:=by grind
 have yl:=Yz y0 L0;have rJ:0<=C1:=by grind
 have A0:0<=A:=by grind
 have A1:1<=A:=by grind
 have yx:0<=C2:=by rw[jv];have:=Yz A0 A0;grind
 have OJ:0<=C3:=by rw[Ql];have:=Yz yx (show 0<=K+1+2*(Y*K)+C1 by grind);grind
 have A4:0<4*A:=by grind
 have dm:1/(4*A)*(4*A)=1:=rdm A4;have d0:0<1/(4*A):=zF (by grind) A4
 refine⟨C3*V,1/(4*A),Yz OJ (by grind),d0,jV A4 (by grind),λ x h hx hh hD hY=>?_⟩
 have h1:h<=1:=Rat.le_trans hD (jV A4 (by grind))
 have XC:h*A<=1/4:=by have:=YB hD A0;grind
 obtain⟨t,ht⟩:∃ t,t=h*(2*x+h):=⟨_,rfl⟩;have h0:=YC hh;have t0:0<=t:=by rw[ht];exact Yz h0 (by grind)
 have t4:t<=1/4:=by
  have:=Yy (show 2*x+h<=A by grind) h0
  rw[ht];grind
 have sqe : -((x+h)*(x+h)) = -(x*x) + -t:=by rw[ht];grind
 have eb:Bdd (eS (x+h)):=Bdd.of_le K 0 λ M _=>⟨by have:=jR (x:=x+h) (by grind) M;grind,B.s _ (by grind) hY M⟩
 have hz:=((zA5 (-(x*x)) (-t)).neg).bmul eb;obtain⟨N,hN⟩:=zA6 (-(x*x));refine⟨_,hz,N+2,λ M hM=>?_⟩
 have v0:=hN M (by omega)
 have vV:ex (-(x*x)) M<=V:=B.v _ (zO x) (by
  have xx:x*x<=Y*Y:=Rat.le_trans (Yy (show x<=Y by grind) hx) (YB (show x<=Y by grind) y0)
  have:=Yz y0 y0
  grind) M
 have q:=zD9 t0 t4 (M:=M) (by omega)
 have sb:=eS_back hx (show x<=x+h by grind) M
 rw[show x+h-x=h by grind] at sb
 have s1:=up_key (Y:=Y) (K:=K) (L:=L) (C1:=C1) hx hh hY (jR hx M) (B.s x hx (by grind) M) (B.s _ (by grind) hY M) (jR (by grind) M) hL ib sb
 have s2:=up_key2 (q:=ex (-t) M) (A:=A) (C2:=C2) hx hh h1 hY (jR hx M) (B.s x hx (by grind) M) rJ hA jv ht q.1 q.2 s1
 rw[<- Ql] at s2;have s3:=YB s2 v0;have gF:=Yz h0 h0;have s4:=Yy vV (Yz OJ gF);rw[zOS,zOS,sqe];generalize ex (-(x*x)) M=v at *;generalize ex (-t) M=q at *;generalize ex (-(x*x) + -t) M=vt at *;generalize eS (x+h) M=s' at *;generalize eS x M=s at *;clear hz eb sb s1;grind
end Go.Proofs.YtgmnknmjainabacGreat.Ex
namespace Go.Proofs.YtgmnknmjainabacGreat.Ex
theorem LeN.scale {f g:Nat->Rat} (h:LeN f g) {c:Rat} (hc:0<=c):LeN (λ M=>c*f M) (λ M=>c*g M):=by
 obtain⟨z,hz,k⟩:=h.null;exact LeN.of_null (hz.bmul (Bdd.const c)) 0 λ M _=>by have:=Yy (k M) hc;grind
theorem eF_chord {Y K V a b:Rat} (B:Bnd Y K V) (ha:0<=a) (ij:a<=b) (hb:b<=Y):LeN (eF b) (λ M=>eF a M+(b-a)*ex (-(a*a)) M):=by
 obtain⟨C,D,c0,d0,_,up⟩:=eF_up B
 have d:=zCL (f:=λ x M=>eF x M-(x-a)*ex (-(a*a)) M) (a:=a) (b:=b) (C:=C) (D:=D) ij c0 d0 (λ x h h1 h2 h3 h4=>by
  obtain⟨z,hz,N,k⟩:=up x h (by grind) h2 h3 (by grind)
  have xx : -(x*x) <= -(a*a):=by
   have:=Yy h1 ha;have:=YB h1 (show 0<=x by grind)
   grind
  obtain⟨z2,M6,k2⟩:=((zBX xx).scale (YC h2)).null
  exact⟨_,hz.add M6,N,λ M hM=>by have:=k M hM;have:=k2 M;grind⟩)
 intro e he
 obtain⟨N,k⟩:=d e he;exact⟨N,λ M hM=>by have:=k M hM;grind⟩
theorem zHZ (M:Nat):eF 0 M=0:=by
 have h:∀ n,eT 0 n=0:=λ n=>by
  induction n with
  | zero=>rfl
  | succ n ih=>show _*eT 0 n=0;rw[ih];grind
 have:eS 0 M=0:=by
  unfold eS
  induction M with
  | zero=>rfl
  | succ n ih=>show S (eT 0) n+eT 0 n=0;rw[ih,h];grind
 rw[zOS,this];grind
theorem eF_left {Y K V x h:Rat} (B:Bnd Y K V) (hx:0<=x) (hh:0<=h) (j:Nat) (hj:(j:Rat)*h*x<=Y):LeN (eF ((j:Rat)*h*x)) (λ M=>S (λ i=>x*h*ex (-(((i:Rat)*h*x)*((i:Rat)*h*x))) M) j):=by
 induction j with
 | zero =>
  refine LeN.of_le 0 λ M _=>?_
  rw[show ((0:Nat):Rat)*h*x=0 by grind,zHZ]
  show (0:Rat)<=0
  grind
 | succ j ih =>
  have ec:((j+1:Nat):Rat)=(j:Rat)+1:=by push_cast;rfl
  have j0:(0:Rat)<=(j:Rat):=by exact_mod_cast Nat.zero_le j
  have mC:=Yz hh hx;have jh:=Yz (Yz j0 hh) hx;rw[ec] at hj ⊢;have e:((j:Rat)+1)*h*x=(j:Rat)*h*x+h*x:=by grind
  have AF:=ih (by grind)
  have c:=eF_chord B jh (show (j:Rat)*h*x<=((j:Rat)+1)*h*x by grind) hj
  refine c.trans ?_;have:=AF.add (LeN.refl (λ M=>(((j:Rat)+1)*h*x-(j:Rat)*h*x)*ex (-(((j:Rat)*h*x)*((j:Rat)*h*x))) M))
  refine this.trans (LeN.of_le 0 λ M _=>?_)
  show _<=S (λ i=>x*h*ex (-(((i:Rat)*h*x)*((i:Rat)*h*x))) M) j+x*h*ex (-(((j:Rat)*h*x)*((j:Rat)*h*x))) M
  grind
def gG (h x:Rat) (n M:Nat):Rat:=S (λ i=>h*rI ((i:Rat)*h)*ex (-(x*x*(1+((i:Rat)*h)*((i:Rat)*h)))) M) n
def gE (h x:Rat) (n M:Nat):Rat:=S (λ i=>h*ex (-(((i:Rat)*h*x)*((i:Rat)*h*x))) M) n
theorem gG_pos {h:Rat} (hh:0<=h) (x:Rat) (n:Nat):∃ N:Nat,∀ M,N<=M->0<=gG h x n M:=by
 induction n with
 | zero=>exact⟨0,λ M _=>by show (0:Rat)<=0;grind⟩
 | succ n ih =>
  obtain⟨N1,k1⟩:=ih;obtain⟨N2,k2⟩:=zA6 (-(x*x*(1+((n:Rat)*h)*((n:Rat)*h))));refine⟨N1+N2,λ M hM=>?_⟩
  have a1:=k1 M (by omega)
  have a2:=Yz (Yz hh (YC (zKD ((n:Rat)*h)))) (k2 M (by omega))
  show 0<=gG h x n M+h*rI ((n:Rat)*h)*ex (-(x*x*(1+((n:Rat)*h)*((n:Rat)*h)))) M
  grind
theorem zS8 {Y K V x k s:Rat} (B:Bnd Y K V) (hx:0<=x) (hk:0<k) (k1:k<=1) (hY:x+k<=Y) (hs:0<=s) (hs1:s<=1) (hD:8*(k*(2*Y+1))<=1) :
  ∃ z,Null z/\∃ N:Nat,∀ M,N<=M->rI s*ex (-((x+k)*(x+k)*(1+s*s))) M<=rI s*ex (-(x*x*(1+s*s))) M-2*(x*k)*(ex (-(x*x)) M*ex (-((s*x)*(s*x))) M)+8*((2*Y+1)*(2*Y+1))*V*(k*k)+z M:=by
 obtain⟨c,hc⟩:∃ c,c=1+s*s:=⟨_,rfl⟩;have k0:=YC hk;have y0:=B.y0;have ss:s*s<=1:=by have:=Yy hs1 hs;grind
 have ss0:=zO s;have rc:rI s*c=1:=by rw[hc];exact zKC s
 have r0:=YC (zKD s);have r1:=rI_le s;obtain⟨t,ht⟩:∃ t,t=k*(2*x+k)*c:=⟨_,rfl⟩;obtain⟨A,hA⟩:∃ A,A=2*Y+1:=⟨_,rfl⟩;have A0:0<=A:=by grind
 have aA:2*x+k<=A:=by grind
 have ka:k*(2*x+k)<=k*A:=Yy aA k0;have DI:0<=k*(2*x+k):=Yz k0 (by grind)
 have t0:0<=t:=by rw[ht];exact Yz DI (by grind)
 have t2:t<=2*(k*A):=by
  have a:=Yy (show c<=2 by grind) DI
  rw[ht];grind
 have t4:t<=1/4:=by rw[<- hA] at hD;grind
 obtain⟨z,hz,N1,h1⟩:=ex_step (a := -(x*x*c)) t0 t4;have cx:=(zA5 (-(x*x)) (-((s*x)*(s*x))));obtain⟨N2,h2⟩:=zA6 (-(x*x*c));refine⟨_,hz.add (cx.bmul (Bdd.const (2*(x*k)))) |>.add hz.neg |>.add (hz.bmul (Bdd.const (rI s))),N1+N2,λ M hM=>?_⟩
 have a1:=h1 M (by omega)
 have v0:=h2 M (by omega)
 have vV:ex (-(x*x*c)) M<=V:=B.v _ (Yz (zO x) (by grind)) (by
  have xx:x*x<=Y*Y:=Rat.le_trans (Yy (show x<=Y by grind) hx) (YB (show x<=Y by grind) y0)
  have p1:=Yy (show c<=2 by grind) (zO x)
  grind) M
 have e1 : -((x+k)*(x+k)*c) = -(x*x*c) + -t:=by rw[ht];grind
 have e2 : -(x*x) + -((s*x)*(s*x)) = -(x*x*c):=by rw[hc];grind
 rw[<- hc,e1];rw[e2];have m1:=Yy a1 r0
 have tt:t*t<=4*(A*A)*(k*k):=by
  have p1:=Yy t2 t0;have p2:=YB t2 (show 0<=2*(k*A) by have:=Yz k0 A0;grind)
  grind
 have rt:2*(x*k)<=rI s*t:=by
  have:rI s*t=k*(2*x+k)*(rI s*c):=by rw[ht];grind
  rw[this,rc];have:=Yz k0 k0;grind
 have m2:=YB rt v0;have Lv:=zO t;have m3:=YB r1 Lv;have m4:=YB (show 2*(rI s*(t*t))<=8*(A*A)*(k*k) by grind) v0
 have AA:=Yz (Yz A0 A0) (Yz k0 k0);have m5:=Yy vV (show 0<=8*(A*A*(k*k)) by grind)
 rw[<- hA];generalize ex (-(x*x*c)) M=v at *;generalize ex (-(x*x*c) + -t) M=vt at *;generalize ex (-(x*x)) M*ex (-((s*x)*(s*x))) M=w at *;clear cx hz h1 h2;grind
theorem gG_step {Y K V x k h:Rat} (B:Bnd Y K V) (hx:0<=x) (hk:0<k) (k1:k<=1) (hY:x+k<=Y) (hh:0<=h) (hD:8*(k*(2*Y+1))<=1) (n:Nat) (hn:(n:Rat)*h<=1) :
  ∃ z,Null z/\∃ N:Nat,∀ M,N<=M->gG h (x+k) n M<=gG h x n M-2*(x*k)*(ex (-(x*x)) M*gE h x n M)+(n:Rat)*h*(8*((2*Y+1)*(2*Y+1))*V*(k*k))+z M:=by
 induction n with
 | zero =>
  refine⟨_,null_zero,0,λ M _=>?_⟩
  show (0:Rat)<=0-2*(x*k)*(ex (-(x*x)) M*0)+((0:Nat):Rat)*h*_+0
  grind
 | succ n ih =>
  have ec:((n+1:Nat):Rat)=(n:Rat)+1:=by push_cast;rfl
  have n0:(0:Rat)<=(n:Rat):=by exact_mod_cast Nat.zero_le n
  rw[ec] at hn;obtain⟨z1,G7,N1,h1⟩:=ih (by grind)
  obtain⟨z2,M6,N2,h2⟩:=zS8 B hx hk k1 hY (s:=(n:Rat)*h) (Yz n0 hh) (by grind) hD
  refine⟨_,G7.add (M6.bmul (Bdd.const h)),N1+N2,λ M hM=>?_⟩
  have a1:=h1 M (by omega)
  have a2:=Yy (h2 M (by omega)) hh
  show gG h (x+k) n M+h*rI ((n:Rat)*h)*ex (-((x+k)*(x+k)*(1+((n:Rat)*h)*((n:Rat)*h)))) M<=gG h x n M+h*rI ((n:Rat)*h)*ex (-(x*x*(1+((n:Rat)*h)*((n:Rat)*h)))) M-2*(x*k)*(ex (-(x*x)) M*(gE h x n M+h*ex (-(((n:Rat)*h*x)*((n:Rat)*h*x))) M))+((n+1:Nat):Rat)*h*(8*((2*Y+1)*(2*Y+1))*V*(k*k))+_
  rw[ec];grind
theorem gE_mul (h x:Rat) (n M:Nat):S (λ i=>x*h*ex (-(((i:Rat)*h*x)*((i:Rat)*h*x))) M) n=x*gE h x n M:=by
 unfold gE;rw[<- zGQ];exact kQ n λ i _=>by grind
theorem eF_sum {x h:Rat} (hx:0<=x) (hh:0<h) (n:Nat) (hn:(n:Rat)*h=1):LeN (λ M=>eF x M*eF x M) (λ _=>S (λ i=>h*rI ((i:Rat)*h)) n):=by
 obtain⟨K,V,B⟩:=bnd_ex hx;obtain⟨C,D,c0,d0,d1,up⟩:=eF_up B;have h0:=YC hh;have k0:=B.k0;have v1:=B.v1;have A1:0<8*(2*x+1):=by grind
 have dm:1/(8*(2*x+1))*(8*(2*x+1))=1:=rdm A1;have dp:0<1/(8*(2*x+1)):=zF (by grind) A1
 obtain⟨D2,s9,Tn,AX⟩:∃ D2:Rat,0<D2/\D2<=D/\D2<=1/(8*(2*x+1)):=by
  by_cases hc:D<=1/(8*(2*x+1))
  ·exact⟨D,d0,by grind,hc⟩
  ·exact⟨_,dp,by grind,by grind⟩
 obtain⟨F,hF⟩:∃ F,F=K*V:=⟨_,rfl⟩;have F0:0<=F:=by rw[hF];exact Yz k0 (by grind)
 obtain⟨C4,Cp⟩:∃ C4,C4=V*V+2*(C*(F+V))+C*C:=⟨_,rfl⟩
 have Tl:0<=C4:=by
  have a:=Yz (show 0<=V by grind) (show 0<=V by grind)
  have b:=Yz c0 (show 0<=F+V by grind)
  have c:=Yz c0 c0;grind
 obtain⟨C5,sR⟩:∃ C5,C5=8*((2*x+1)*(2*x+1))*V:=⟨_,rfl⟩;have Tm:0<=C5:=by rw[sR];exact Yz (by have:=Yz (show 0<=2*x+1 by grind) (show 0<=2*x+1 by grind);grind) (by grind)
 have d:=zCL (f:=λ y M=>eF y M*eF y M+gG h y n M) (a:=0) (b:=x) (C:=C4+C5) (D:=D2) hx (by grind) s9 (λ y k hy hk hkD rk=>by
  obtain⟨z1,G7,N1,p1⟩:=up y k hy hk (by grind) rk
  have k1:k<=1:=by grind
  have kq:=YC hk;obtain⟨z2,M6,N2,p2⟩:=gG_step B hy hk k1 rk h0 (by have:=YB (Rat.le_trans hkD AX) (YC A1);grind) n (by grind)
  have left:=eF_left (x:=y) B hy h0 n (by rw[hn];grind)
  rw[hn,show 1*y=y by grind] at left
  obtain⟨z3,fW,p3⟩:=left.null;obtain⟨N3,ev⟩:=zA6 (-(y*y));obtain⟨N4,zq⟩:=zA6 (-((y+k)*(y+k)))
  have bF:Bdd (eF y):=by
   have:Bdd (eS y):=Bdd.of_le K 0 λ M _=>⟨by have:=jR hy M;grind,B.s _ hy (by grind) M⟩
   exact this.mul (jZ _)
  have bV:=jZ (-(y*y));have bp:Bdd (λ M=>eF y M+k*ex (-(y*y)) M+C*(k*k)):=(bF.add ((Bdd.const k).mul bV)).add (Bdd.const _)
  have q1:=G7.bmul (bp.add bp);have q2:=G7.bmul G7.bdd;have q3:=(fW.bmul bV).bmul (Bdd.const (2*k));refine⟨_,((q1.add q2).add q3).add M6,N1+N2+N3+N4,λ M hM=>?_⟩
  have a1:=p1 M (by omega)
  have a2:=p2 M (by omega)
  have a3:=p3 M;rw[gE_mul] at a3;have v0:=ev M (by omega)
  have e0:0<=eF (y+k) M:=Yz (jR (by grind) M) (zq M (by omega))
  have f0:0<=eF y M:=Yz (jR hy M) v0
  have vV:ex (-(y*y)) M<=V:=B.v _ (zO y) (by
   have xx:y*y<=x*x:=Rat.le_trans (Yy (show y<=x by grind) hy) (YB (show y<=x by grind) hx)
   have:=Yz hx hx
   grind) M
  have fF:eF y M<=F:=by
   rw[hF];exact Rat.le_trans (YB (B.s y hy (by grind) M) v0) (Yy vV k0)
  rw[hn,<- sR] at a2;generalize eF (y+k) M=f' at *;generalize eF y M=f at *;generalize ex (-(y*y)) M=v at *;generalize gG h (y+k) n M=g' at *;generalize gG h y n M=g at *;generalize gE h y n M=u at *;generalize z1 M=z1 at *;generalize z2 M=z2 at *;generalize z3 M=z3 at *;clear G7 M6 fW q1 q2 q3 bp bF bV left p1 p2 p3 up ev zq;obtain⟨p,hp⟩:∃ p,p=f+k*v+C*(k*k):=⟨_,rfl⟩;have kk:=Yz kq kq;have kv:=Yz kq v0;have ckk:=Yz c0 kk;have p0:0<=p:=by grind
  have b1:f'<=p+z1:=by grind
  have b2:f'*f'<=(p+z1)*(p+z1):=Rat.le_trans (Yy b1 e0) (YB b1 (show 0<=p+z1 by grind))
  have b3:p*p<=f*f+2*(k*v*f)+C4*(k*k):=by
   have kk1:k*k<=1:=by have:=Yy k1 kq;grind
   have c1:v*v<=V*V:=Rat.le_trans (Yy vV v0) (YB vV (show 0<=V by grind))
   have c2:=YB c1 kk;have kvV:k*v<=V:=by have:=YB k1 v0;grind
   have c3:=Yy (show f+k*v<=F+V by grind) ckk
   have c4:=Yy kk1 (Yz (Yz c0 c0) kk);rw[hp,Cp];grind
  have b4:=Yy a3 kv;rw[<- hp];have r1:(p+z1)*(p+z1)=p*p+2*(z1*p)+z1*z1:=by grind
  have r2:k*v*(y*u+z3)=k*v*(y*u)+k*v*z3:=by grind
  have r3:2*(y*k)*(v*u)=2*(k*v*(y*u)):=by grind
  have r4:z1*(p+p)+z1*z1+z3*v*(2*k)+z2=2*(z1*p)+z1*z1+2*(k*v*z3)+z2:=by grind
  have r5:(C4+C5)*(k*k)=C4*(k*k)+C5*(k*k):=by grind
  rw[r1] at b2;rw[r2] at b4;rw[r3,Rat.one_mul] at a2;rw[r4,r5];generalize k*v*(y*u)=w1 at *;generalize k*v*z3=w2 at *;generalize z1*p=w3 at *;generalize z1*z1=w4 at *;generalize C4*(k*k)=w5 at *;generalize C5*(k*k)=w6 at *;generalize k*v*f=w7 at *;generalize p*p=w8 at *;generalize f'*f'=w9 at *;generalize f*f=gV at *;clear vV fF Cp hF sR dm r1 r2 r3 r4 r5 AX A1 dp hn
  grind)
 obtain⟨N2,pos⟩:=gG_pos h0 x n
 intro e he
 obtain⟨N,k⟩:=d e he;refine⟨N+N2+1,λ M hM=>?_⟩
 have a1:eF x M*eF x M+gG h x n M<=eF 0 M*eF 0 M+gG h 0 n M+e:=k M (by omega)
 have a2:=pos M (by omega)
 show eF x M*eF x M<=S (λ i=>h*rI ((i:Rat)*h)) n+e
 have a3:gG h 0 n M=S (λ i=>h*rI ((i:Rat)*h)) n:=kQ n λ i _=>by
  have e1 : -(0*0*(1+((i:Rat)*h)*((i:Rat)*h)))=(0:Rat):=by grind
  have e2:ex 0 M=1:=by
   obtain⟨m,rfl⟩:∃ m,M=m+1:=⟨M-1,by omega⟩
   exact kT m
  rw[e1,e2];grind
 rw[a3,zHZ] at a1;grind
theorem eF_pi {x:Rat} (hx:0<=x):LeN (λ M=>4*(eF x M*eF x M)) piS:=by
 refine LeN.lim (C:=64) (by grind) λ n=>?_
 have n0:(0:Rat)<2*((n:Rat)+1):=by have:=zAV n;grind
 obtain⟨h,h0,hh⟩:=zNA (2*((n:Rat)+1)) n0;have e:((2*(n+1):Nat):Rat)=2*((n:Rat)+1):=by push_cast;rfl
 have a:=(eF_sum hx h0 (2*(n+1)) (by rw[e];grind)).scale (show (0:Rat)<=4 by grind)
 exact a.trans (zTY n hh)
end Go.Proofs.YtgmnknmjainabacGreat.Ex
namespace Go.Proofs.YtgmnknmjainabacGreat
open Ex
theorem zTJ (p:Rat) (hp:1<=p) (k:Nat):∃ r:Rat,1<=r/\r*r<=p/\p<=(r+1/((k:Rat)+1))*(r+1/((k:Rat)+1)):=by
 obtain⟨n,hn⟩:=kB p;have k0:(0:Rat)<(k:Rat)+1:=zAV k;have u0:(0:Rat)<1/((k:Rat)+1):=zF (by grind) k0
 have um:1/((k:Rat)+1)*((k:Rat)+1)=1:=rdm k0;obtain⟨u,hu⟩:∃ u,u=1/((k:Rat)+1):=⟨_,rfl⟩;rw[<- hu] at u0 um ⊢
 have top:p<=(1+((n*(k+1):Nat):Rat)*u)*(1+((n*(k+1):Nat):Rat)*u):=by
  have e:((n*(k+1):Nat):Rat)*u=(n:Rat):=by
   have:((n*(k+1):Nat):Rat)=(n:Rat)*((k:Rat)+1):=by push_cast;rfl
   rw[this];grind
  rw[e];have n0:(0:Rat)<=(n:Rat):=by exact_mod_cast Nat.zero_le n
  have:=Yz n0 n0;have:=hn.2;grind
 obtain⟨j,_,j1,j2⟩:=zBN (p:=λ j=>p<=(1+(j:Rat)*u)*(1+(j:Rat)*u)) (K:=n*(k+1)) top
 cases j with
 | zero =>
  have e:(1+((0:Nat):Rat)*u)=1:=by grind
  rw[e] at j1;exact⟨1,by grind,by grind,by have:=Yz (YC u0) (YC u0);grind⟩
 | succ i =>
  have h:=j2 i (Nat.lt_succ_self i);have i0:(0:Rat)<=(i:Rat):=by exact_mod_cast Nat.zero_le i
  have iu:=Yz i0 (YC u0);refine⟨1+(i:Rat)*u,by grind,by grind,?_⟩
  have e:((i+1:Nat):Rat)=(i:Rat)+1:=by push_cast;rfl
  rw[e] at j1;have e2:1+((i:Rat)+1)*u=1+(i:Rat)*u+u:=by grind
  rw[e2] at j1;exact j1
theorem zSX (K:Rat) (hK:0<=K):Null (λ M=>K*(1/((M:Rat)+1))):=λ e he=>by
 obtain⟨n,hn⟩:=kB (K/e);refine⟨n,λ M hM=>?_⟩
 have m0:(0:Rat)<(M:Rat)+1:=zAV M;have u0:(0:Rat)<1/((M:Rat)+1):=zF (by grind) m0
 have um:1/((M:Rat)+1)*((M:Rat)+1)=1:=rdm m0;have hm:(n:Rat)<=(M:Rat):=by exact_mod_cast hM
 have ke:K/e*e=K:=rdm he;have h1:=hn.2;have h2:=YB h1 (YC he);rw[ke] at h2;have h3:=Yz hK (YC u0);refine⟨by simp only[];grind,?_⟩
 have h4:=YB (show K<=((M:Rat)+1)*e by
  have:=YB hm (YC he)
  grind) (YC u0)
 have e5:((M:Rat)+1)*e*(1/((M:Rat)+1))=(1/((M:Rat)+1)*((M:Rat)+1))*e:=by grind
 rw[e5,um] at h4;grind
structure yE (P R:Nat->Rat):Prop where
 one:∀ M,1<=R M
 sq:Null (λ M=>R M*R M-P M)
 bdd:Bdd R
theorem zN0 {P:Nat->Rat} {M0:Nat} (hP:∀ M,M0<=M->1<=P M) (hb:Bdd P):∃ R,yE P R:=by
 have h:∀ M,∃ r:Rat,1<=r/\(M0<=M->r*r<=P M/\P M<=(r+1/((M:Rat)+1))*(r+1/((M:Rat)+1))):=λ M=>by
  by_cases hM:M0<=M
  ·obtain⟨r,r1,r2,r3⟩:=zTJ (P M) (hP M hM) M
   exact⟨r,r1,λ _=>⟨r2,r3⟩⟩
  ·exact⟨1,by grind,λ h=>absurd h hM⟩
 have hR:=λ M=>Classical.choose_spec (h M)
 obtain⟨R,eR⟩:∃ R:Nat->Rat,R=λ M=>Classical.choose (h M):=⟨_,rfl⟩
 have oq:∀ M,1<=R M/\(M0<=M->R M*R M<=P M/\P M<=(R M+1/((M:Rat)+1))*(R M+1/((M:Rat)+1))):=λ M=>by rw[eR];exact hR M
 clear hR eR h;obtain⟨K,N,K0,hK⟩:=hb
 have QB:∀ M,M0+N<=M->R M<=K:=λ M hM=>by
  have h1:=(oq M).1;have h2:=((oq M).2 (by omega)).1
  have h3:=(hK M (by omega)).2
  have h4:=Yy h1 (show 0<=R M by grind)
  grind
 refine⟨R,λ M=>(oq M).1,?_,Bdd.of_le K (M0+N) λ M hM=>⟨by have:=(oq M).1;grind,QB M hM⟩⟩
 refine Null.of_le (zSX (2*K+1) (by grind)) (M0+N) λ M hM=>?_
 obtain⟨h1,h2⟩:=oq M;obtain⟨h2,h3⟩:=h2 (by omega)
 have h4:=QB M hM;have m0:(0:Rat)<(M:Rat)+1:=zAV M;have u0:(0:Rat)<1/((M:Rat)+1):=zF (by grind) m0
 have u1:1/((M:Rat)+1)<=1:=jV m0 (by (have:(0:Rat)<=(M:Rat):=(by exact_mod_cast Nat.zero_le M));grind)
 generalize 1/((M:Rat)+1)=u at *;have uu:=Yy u1 (YC u0);have ru:=YB h4 (YC u0);have e:(R M+u)*(R M+u)=R M*R M+2*(R M*u)+u*u:=by grind
 rw[e] at h3;constructor<;>grind
theorem root_iv {B:Nat} {a:Int × Int} {P R:Nat->Rat} (h:Iv B a P) (hR:yE P R) {r t:Int} (hr:r*r<=a.1*Q B) (KA:0<=t) (ht:a.2*Q B<=t*t):Iv B (r,t) R:=by
 have q:=jH B
 have key:∀ x:Int,((x:Rat)/(Q B:Rat))*((x:Rat)/(Q B:Rat))*((Q B:Rat)*(Q B:Rat))=(x:Rat)*(x:Rat):=λ x=>by
  have:=rdm (a:=(x:Rat)) q;have e:((x:Rat)/(Q B:Rat))*((x:Rat)/(Q B:Rat))*((Q B:Rat)*(Q B:Rat))=((x:Rat)/(Q B:Rat)*(Q B:Rat))*((x:Rat)/(Q B:Rat)*(Q B:Rat)):=by grind
  rw[e,this]
 have qq:(0:Rat)<(Q B:Rat)*(Q B:Rat):=Rat.mul_pos q q
 have g1:((r:Rat)/(Q B:Rat))*((r:Rat)/(Q B:Rat))<=(a.1:Rat)/(Q B:Rat):=by
  refine Rat.le_of_mul_le_mul_right (c:=(Q B:Rat)*(Q B:Rat)) ?_ qq;rw[key];have e:=rdm (a:=(a.1:Rat)) q
  have e2:(a.1:Rat)/(Q B:Rat)*((Q B:Rat)*(Q B:Rat))=(a.1:Rat)*(Q B:Rat):=by
   rw[<- Rat.mul_assoc,e]
  rw[e2];have:=zZ hr;rw[YG,YG] at this;exact this
 have g2:(a.2:Rat)/(Q B:Rat)<=((t:Rat)/(Q B:Rat))*((t:Rat)/(Q B:Rat)):=by
  refine Rat.le_of_mul_le_mul_right (c:=(Q B:Rat)*(Q B:Rat)) ?_ qq;rw[key];have e:=rdm (a:=(a.2:Rat)) q
  have e2:(a.2:Rat)/(Q B:Rat)*((Q B:Rat)*(Q B:Rat))=(a.2:Rat)*(Q B:Rat):=by
   rw[<- Rat.mul_assoc,e]
  rw[e2];have:=zZ ht;rw[YG,YG] at this;exact this
 have t0:(0:Rat)<=(t:Rat)/(Q B:Rat):=jW q (by
  have:(0:Rat)<=(t:Rat):=by exact_mod_cast KA
  grind)
 intro e0 FF
 obtain⟨e,he,hee,he4⟩:∃ e:Rat,0<e/\2*e<=e0/\e<=1/4:=by
  by_cases hc:e0<=1/2
  ·exact⟨e0/2,by grind,by grind,by grind⟩
  ·exact⟨1/4,by grind,by grind,by grind⟩
 obtain⟨N1,k1⟩:=h e he;obtain⟨N2,k2⟩:=hR.sq e he;refine⟨N1+N2,λ M hM=>?_⟩
 obtain⟨a1,a2⟩:=k1 M (by omega)
 obtain⟨b1,b2⟩:=k2 M (by omega)
 have R1:=hR.one M;simp only[] at b1 b2 ⊢;generalize (r:Rat)/(Q B:Rat)=x at *;generalize (t:Rat)/(Q B:Rat)=y at *;generalize R M=z at *;clear k1 k2 key h;constructor
 ·refine Rat.not_lt.1 λ D5=>?_
  have hx:z+e<=x:=by grind
  have m1:=Yy hx (show 0<=z+e by grind)
  have m2:=YB hx (show 0<=x by grind)
  have m3:=Yy R1 (YC he);have m4:=Rat.mul_pos he he;grind
 ·refine Rat.not_lt.1 λ D5=>?_
  have hy:y<=z-2*e:=by grind
  have m1:=Yy hy t0;have m2:=YB hy (show 0<=z-2*e by grind)
  have m3:=Yy R1 (YC he);have m4:=Yy he4 (YC he);grind
end Go.Proofs.YtgmnknmjainabacGreat
namespace Go.Proofs.YtgmnknmjainabacGreat.Ex
def zRF (R:Nat->Rat) (x:Rat) (M:Nat):Rat:=2*eS x M/(R M*ex (x*x) M)
theorem Tk:Bdd piS:=by
 obtain⟨K,k0,h⟩:=zPO 0;have h1:=(zMO (m:=5) (by omega) 0 0).bdd
 have h2:=(zMO (m:=239) (by omega) 0 0).bdd
 exact ((Bdd.const 16).mul h1).sub ((Bdd.const 4).mul h2)
theorem piR_ex:∃ R,yE piS R:=zN0 (M0:=2) (λ M hM=>by have:=pi_ge hM;grind) Tk
theorem zRJ (x:Rat) {M:Nat} (hM:1<=M):1<=ex (x*x) M:=E_one (zO x) hM
theorem zCM {a b:Rat} (ha:0<=a) (hb:1<=b):0<=a/b/\a/b<=a:=by
 have b0:0<b:=by grind
 refine⟨jW b0 (by grind),jV b0 ?_⟩
 have:=Yy hb ha;grind
theorem erf_near (x:Rat) (hx:0<=x):Null (λ M=>eS x M/ex (x*x) M-eF x M):=by
 obtain⟨K,k0,hK⟩:=zJS hx;have hn:=((zA5 (x*x) (-(x*x))));have e0:x*x + -(x*x)=0:=by grind
 rw[e0] at hn
 have hb:Bdd (λ M=>eS x M/ex (x*x) M):=Bdd.of_le K 1 λ M hM=>by
  have:=zCM (jR hx M) (zRJ x hM);have:=hK M;constructor<;>grind
 refine (hn.bmul hb).neg.of_eq_from 1 λ M hM=>?_
 have h1:=zRJ x hM;have p:0<ex (x*x) M:=by grind
 have e1:eS x M/ex (x*x) M*ex (x*x) M=eS x M:=rdm p
 have e2:ex 0 M=1:=by
  obtain⟨m,rfl⟩:∃ m,M=m+1:=⟨M-1,by omega⟩
  exact kT m
 rw[zOS,e2];generalize eS x M/ex (x*x) M=q at *;rw[<- e1];grind
theorem zH8 {R:Nat->Rat} (h:∀ M,1<=R M):Bdd (λ M=>1/R M):=Bdd.of_le 1 0 λ M _=>by
 have:=zCM (a:=1) (by grind) (h M)
 constructor<;>grind
theorem erf_eq {P R:Nat->Rat} (h:yE P R) (x:Rat) {M:Nat} (hM:1<=M):zRF R x M=eS x M/ex (x*x) M*(2*(1/R M)):=by
 have r1:=h.one M;have h1:=zRJ x hM;have p1:0<R M:=by grind
 have p2:0<ex (x*x) M:=by grind
 have p3:0<R M*ex (x*x) M:=Rat.mul_pos p1 p2;have a:=rdm (a:=2*eS x M) p3;have b:=rdm (a:=eS x M) p2;have c:=rdm (a:=1) p1;unfold zRF
 have lhs:eS x M/ex (x*x) M*(2*(1/R M))*(R M*ex (x*x) M)=2*eS x M:=by
  have:eS x M/ex (x*x) M*(2*(1/R M))*(R M*ex (x*x) M)=2*((eS x M/ex (x*x) M*ex (x*x) M)*(1/R M*R M)):=by grind
  rw[this,b,c];grind
 exact Rat.le_antisymm (Rat.le_of_mul_le_mul_right (by rw[lhs,a];exact Rat.le_refl) p3) (Rat.le_of_mul_le_mul_right (by rw[lhs,a];exact Rat.le_refl) p3)
theorem zD8 {P R:Nat->Rat} (h:yE P R) (x:Rat) (hx:0<=x):Null (λ M=>zRF R x M-eF x M*(2*(1/R M))):=by
 have hb:=(Bdd.const 2).mul (zH8 h.one);refine ((erf_near x hx).bmul hb).of_eq_from 1 λ M hM=>?_
 rw[erf_eq h x hM];grind
theorem zM0 {P R:Nat->Rat} (h:yE P R) {x y:Rat} (hx:0<=x) (K6:x<=y):LeN (zRF R x) (zRF R y):=by
 obtain⟨z,hz,N,k⟩:=eF_mono hx K6;have hb:=(Bdd.const 2).mul (zH8 h.one);have n1:=zD8 h x hx;have n2:=zD8 h y (by grind)
 refine n1.leN.trans (LeN.trans ?_ n2.symm.leN);refine LeN.of_null (hz.bmul hb) N λ M hM=>?_
 have:=k M hM;have i0:=(zCM (a:=1) (by grind) (h.one M)).1
 have:=YB this (show 0<=2*(1/R M) by grind)
 grind
theorem eF_root {R:Nat->Rat} (h:yE piS R) {x:Rat} (hx:0<=x):LeN (λ M=>2*eF x M) R:=by
 intro e he
 obtain⟨N1,k1⟩:=eF_pi hx e he;obtain⟨N2,k2⟩:=h.sq e he;refine⟨N1+N2,λ M hM=>?_⟩
 have a1:=k1 M (by omega)
 have a2:=(k2 M (by omega)).1
 have r1:=h.one M;simp only[] at *;refine Rat.not_lt.1 λ D5=>?_
 generalize eF x M=f at *;generalize R M=r at *;generalize piS M=p at *;have m1:=Rat.mul_lt_mul_of_pos_left D5 (show 0<r+e by grind)
 have m2:=Rat.mul_lt_mul_of_pos_right D5 (show 0<2*f by grind)
 have m3:=Yy r1 (YC he);have m4:=Rat.mul_pos he he;grind
theorem erf_one {R:Nat->Rat} (h:yE piS R) {x:Rat} (hx:0<=x):LeN (zRF R x) (λ _=>1):=by
 refine (zD8 h x hx).leN.trans ?_;obtain⟨z,hz,k⟩:=(eF_root h hx).null;refine LeN.of_null (hz.bmul (zH8 h.one)) 0 λ M _=>?_
 have r1:=h.one M;have p1:0<R M:=by grind
 have c:=rdm (a:=1) p1;have i0:=(zCM (a:=1) (by grind) r1).1
 have:=YB (k M) i0;grind
end Go.Proofs.YtgmnknmjainabacGreat.Ex
