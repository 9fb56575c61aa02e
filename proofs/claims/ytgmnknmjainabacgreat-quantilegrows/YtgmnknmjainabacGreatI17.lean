/-
  Its own texts.
-/
import Derived.Test.YtgmnknmjainabacGreatI16
set_option maxRecDepth 100000
set_option maxHeartbeats 40000000
set_option linter.unusedVariables false
namespace Go.Proofs.YtgmnknmjainabacGreat.Ex
theorem E_part {s y:Rat} (s0:0<=s) (s1:s<=1) (hy:0<=y) {M:Nat} (hM:1<=M):E (s*y) M<=1-s+s*E y M:=by
 obtain⟨m,rfl⟩:∃ m,M=m+1:=⟨M-1,by omega⟩
 clear hM
 have t:∀ k:Nat,tm (s*y) (k+1)<=s*tm y (k+1):=λ k=>by
  induction k with
  | zero =>
   have e1:=kR (s*y) 0;have e2:=kR y 0;have c:((0:Nat):Rat)=0:=rfl;rw[c] at e1 e2;have z1:tm (s*y) 0=1:=rfl;have z2:tm y 0=1:=rfl;rw[z1] at e1;rw[z2] at e2;grind
  | succ k ih =>
   have e1:=kR (s*y) (k+1);have e2:=kR y (k+1);have p:=zAV (k+1);have n0:=zAW hy (k+1);have sy:=Yz s0 hy;refine Rat.le_of_mul_le_mul_left (c:=((k+1:Nat):Rat)+1) ?_ p;rw[e1];have k1:(((k+1:Nat):Rat)+1)*(s*tm y (k+1+1))=s*((((k+1:Nat):Rat)+1)*tm y (k+1+1)):=by grind
   rw[k1,e2];have m1:=Yy ih sy;have m2:=Yz (Yz sy (show 0<=1-s by grind)) n0
   grind
 induction m with
 | zero =>
  show 0+tm (s*y) 0<=1-s+s*(0+tm y 0)
  have z1:tm (s*y) 0=1:=rfl;have z2:tm y 0=1:=rfl;rw[z1,z2];grind
 | succ m ih =>
  have:=t m
  show E (s*y) (m+1)+tm (s*y) (m+1)<=1-s+s*(E y (m+1)+tm y (m+1))
  grind
theorem zP0 {s:Rat} {y:Nat->Rat} (s0:0<=s) (s1:s<=1) (hb:Bdd y) (hy:LeN (λ _=>0) y):LeN (Ev (λ M=>s*y M)) (λ M=>1-s+s*Ev y M):=by
 obtain⟨z,hz,kz⟩:=hy.null
 obtain⟨y',h1,h2⟩:∃ y':Nat->Rat,(∀ M,0<=y' M)/\Null (λ M=>y M-y' M):=by
  refine⟨λ M=>if 0<=y M then y M else 0,λ M=>?_,λ e he=>?_⟩
  ·dsimp only;split<;>grind
  ·obtain⟨N,hN⟩:=hy e he
   refine⟨N,λ M hM=>?_⟩
   have:=hN M hM
   dsimp only at this ⊢
   split<;>exact⟨by grind,by grind⟩
 have M8:Bdd y':=hb.of_null h2;have c1:=zD5 ((Bdd.const s).mul hb) ((Bdd.const s).mul M8) ((h2.bmul (Bdd.const s)).of_eq λ M=>by grind)
 have c2:=(zD5 hb M8 h2).bmul (Bdd.const s);refine LeN.of_null (c1.sub c2) 1 λ M hM=>?_
 have e:=E_part s0 s1 (h1 M) hM;have e1:Ev (λ M=>s*y' M) M=E (s*y' M) M:=rfl
 have e2:Ev y' M=E (y' M) M:=rfl;rw[e1,e2];grind
theorem bern {L:Rat->Nat->Rat} (hL:Lns L) {s c t:Rat} (s0:0<=s) (s1:s<=1) (hc:0<c) (ht:0<t):LeN (pr L s t) (λ M=>(1-s+s*(t/c))*pr L s c M):=by
 have r0:=zF ht hc;have hy:=zIB hL hc r0;have et:c*(t/c)=t:=by have:=rdm (a:=t) hc;grind
 rw[et] at hy;obtain⟨y,ey⟩:∃ y:Nat->Rat,y=λ M=>L t M-L c M:=⟨_,rfl⟩
 rw[<- ey] at hy
 have key:LeN (Ev (λ M=>s*y M)) (λ _=>1-s+s*(t/c)):=by
  by_cases hle:c<=t
  ·have l:LeN (λ _=>0) y:=λ e he=>isLog_one.le hy null_zero 0 (λ M _=>by
    have:=jM (a:=1) hc (show 1*c<=t by grind)
    grind) e he
   refine (zP0 s0 s1 hy.1 l).trans ?_;refine LeN.of_null (hy.2.bmul (Bdd.const s)) 0 λ M _=>by grind
  ·-- the other way round
   have hw:=hy.neg (s:=λ _=>c/t) (Bdd.const _) 0 (λ M _=>by
    have e1:=rdm (a:=c) ht;have e2:=rdm (a:=t) hc
    have:c/t*(t/c)=c/t*t*(t/c)/t:=by
     have:c/t*t*(t/c)/t=c/t*(t/c)*(t/t):=by rw[YK _ t,YK t t];grind
     rw[this];have:t/t=1:=by rw[YK,Rat.mul_inv_cancel _ (by grind)]
     rw[this];grind
    rw[this,e1];have:c*(t/c)=t:=by grind
    rw[this,YK,Rat.mul_inv_cancel _ (by grind)])
   have l:LeN (λ _=>0) (λ M => -y M):=λ e he=>isLog_one.le hw null_zero 0 (λ M _=>by
    have:=jM (a:=1) ht (show 1*t<=c by grind)
    grind) e he
   have k:=(zP0 (show 0<=1-s by grind) (by grind) hw.1 l).bmul (zAC hy.1) (zPY hy.1)
   have a1:=zAI ((Bdd.const (1-s)).mul hw.1) hy.1;have a2:=zAI hw.1 hy.1;have e1:∀ M,Ev (λ M=>(1-s) * -y M+y M) M=Ev (λ M=>s*y M) M:=λ M=>by unfold Ev;congr 1;grind
   have e2:∀ M,Ev (λ M => -y M+y M) M=E 0 M:=λ M=>by unfold Ev;congr 1;grind
   obtain⟨z,hz,kz⟩:=k.null
   have n1:Null (λ M=>E 0 M-1):=null_zero.of_eq_from 1 λ M hM=>by
    obtain⟨m,rfl⟩:∃ m,M=m+1:=⟨M-1,by omega⟩
    rw[kT];grind
   refine LeN.of_null (((hz.add (a2.bmul (Bdd.const (1-s)))).add (hy.2.bmul (Bdd.const s))).add ((n1.bmul (Bdd.const (1-s))).sub a1)) 0 λ M _=>?_
   have k2:=kz M;rw[e1,e2];generalize Ev (λ M=>(1-s) * -y M) M=w1 at *
   generalize Ev (λ M=>s*y M) M=w2 at *
   generalize Ev (λ M => -y M) M=w3 at *
   generalize Ev y M=w4 at *;generalize E 0 M=w5 at *;clear k a1 a2 e1 e2 n1 hw l hz kz;have r:(1-(1-s)+(1-s)*w3)*w4=s*w4+(1-s)*(w3*w4):=by grind
   rw[r] at k2;grind
 have k:=key.bmul (kK hL hc s) (zC1 hL hc s);have a:=zAI ((Bdd.const s).mul hy.1) (kF hL hc s);refine LeN.trans (LeN.of_eqN (Null.symm (a.of_eq λ M=>?_))) k
 have e:Ev (λ M=>s*y M+s*L c M) M=pr L s t M:=by rw[ey];unfold pr Ev;congr 1;grind
 rw[e];rfl
theorem upT_pw {a:Rat} (ha:0<a) (x:Rat) (n:Nat):upT a x n=upT a 1 n*pw x n:=by
 induction n with
 | zero=>show 1/a=1/a*1;grind
 | succ n ih =>
  have e1:=jX ha x n;have e2:=jX ha 1 n;refine zX (zBJ ha n) ?_;have e3:pw x (n+1)=x*pw x n:=rfl;rw[e1,e3,ih];have:(a+((n:Rat)+1))*(upT a 1 (n+1)*(x*pw x n))=(a+((n:Rat)+1))*upT a 1 (n+1)*(x*pw x n):=by grind
  rw[this,e2];grind
theorem uS_ps {a:Rat} (ha:0<a):uS a=psS (upT a 1):=by
 funext x M
 exact kQ M λ k _=>upT_pw ha x k
theorem uS_dif {a q:Rat} (ha:0<a) (hq:0<=q):Dif (uS a) (psD (upT a 1)) 0 q:=by
 obtain⟨K,k0,hK⟩:=zKW ha (show 0<=q+1 by grind)
 rw[uS_ps ha];refine ps_dif (A:=upT a 1) (r:=q+1) (K:=K) (λ k=>⟨by have:=kG ha (show (0:Rat)<=1 by grind) k;grind,Rat.le_refl⟩) (λ M=>?_) hq (by grind)
 have:=hK M;rw[uS_ps ha] at this;exact this
theorem uS_ode {a:Rat} (ha:0<a) (x:Rat) (M:Nat):x*psD (upT a 1) x M=1+(x-a)*uS a x M-(a+(M:Rat))*upT a x M:=by
 induction M with
 | zero =>
  have e:=yX ha x;have c:((0:Nat):Rat)=0:=rfl;rw[c]
  show x*0=1+(x-a)*0-(a+0)*upT a x 0
  grind
 | succ n ih =>
  have e1:=jX ha x n;have c:((n+1:Nat):Rat)=(n:Rat)+1:=by push_cast;rfl
  have e2:psD (upT a 1) x (n+1)=psD (upT a 1) x n+upT a 1 n*dw x n:=rfl
  have e3:x*(upT a 1 n*dw x n)=(n:Rat)*upT a x n:=by
   have d:=dw_mul x n;rw[upT_pw ha x n];have:x*(upT a 1 n*dw x n)=upT a 1 n*(x*dw x n):=by grind
   rw[this,d];grind
  rw[yS,e2,c,e1];have e4:x*(psD (upT a 1) x n+upT a 1 n*dw x n)=x*psD (upT a 1) x n+(n:Rat)*upT a x n:=by rw[<- e3];grind
  rw[e4,ih];grind
theorem uW_null {a x:Rat} (ha:0<a) (hx:0<=x):Null (λ M=>(a+(M:Rat))*upT a x M):=by
 refine ((zHI (zI6 ha hx)).bmul (Bdd.const x)).of_eq_from 1 λ M hM=>?_
 obtain⟨m,rfl⟩:∃ m,M=m+1:=⟨M-1,by omega⟩
 have e:=jX ha x m;have c:((m+1:Nat):Rat)=(m:Rat)+1:=by push_cast;rfl
 rw[c,e];simp only[Nat.add_sub_cancel];grind
theorem ex_dif {p q:Rat} (hp:0<=p) (O1:p<=q):Dif (λ x=>ex (-x)) (λ x M => -ex (-x) M) p q:=by
 have bd:∀ x,p<=x->x<=q->LeA (ex (-x)) 1:=λ x h1 h2 e he=>by
  obtain⟨N1,n1⟩:=zDQ (-x);obtain⟨N2,n2⟩:=(zBX (a := -x) (b:=0) (by grind)) e he
  refine⟨N1+N2+1,λ M hM=>?_⟩
  have a1:=n1 M (by omega)
  have a2:=n2 M (by omega)
  obtain⟨m,rfl⟩:∃ m,M=m+1:=⟨M-1,by omega⟩
  have e0:ex 0 (m+1)=1:=kT m;rw[e0] at a2;exact⟨by grind,a2⟩
 refine Dif.of_small (D:=1/4) (C:=2) (K:=1) O1 (by grind) (by grind) (by grind) (λ x h1 h2=>⟨bd x h1 h2,(bd x h1 h2).neg⟩) (λ x h h1 h2 h3 h4 hD=>?_)
 have l:LeA (λ M=>ex (-h) M-1 - -h) (2*(-h * -h)):=LeA.of_ab 2 λ M hM=>zOG hD.neg hM
 have t:=l.mul (bd x h1 h2);have s:=zA5 (-h) (-x);have e : -h + -x = -(x+h):=by grind
 rw[e] at s;refine LeA.congr (t.mono (by grind)) (s.neg.of_eq λ M=>by grind)
def uF (L:Rat->Nat->Rat) (a x:Rat) (M:Nat):Rat:=1/x*(pr L a x M*ex (-x) M)
theorem zT7 {L:Rat->Nat->Rat} (hL:Lns L) {a p q:Rat} (ha:0<a) (hp:0<p) (O1:p<=q):Dif (uG L a) (uF L a) p q:=by
 have d1:=zTB hL a hp O1;have d2:=ex_dif (YC hp) O1;have d3:=(uS_dif ha (show 0<=q by grind)).within (p':=p) (q':=q) (by grind) Rat.le_refl
 have d:=(d1.mul O1 d2).mul O1 d3;refine d.congr λ x h1 h2=>?_
 have x0:0<x:=by grind
 have w:=(uW_null ha (YC x0)).bmul (((kK hL x0 a).mul (jZ (-x))).mul (Bdd.const (1/x)));refine w.of_eq λ M=>?_
 have o:=uS_ode ha x M;have e1:=rdm (a:=1) x0;have e3:a/x=a*(1/x):=by rw[YK,YK,Rat.one_mul]
 unfold uF;rw[e3];generalize 1/x=i at *;generalize pr L a x M=P at *;generalize ex (-x) M=R at *;generalize uS a x M=s at *;generalize psD (upT a 1) x M=D at *;generalize (a+(M:Rat))*upT a x M=W at *;clear w d d1 d2 d3
 have g:D=i*(x*D):=by
  have:i*(x*D)=i*x*D:=by grind
  rw[this,e1];grind
 have g2:a*i-1=i*(a-x):=by
  have:i*(a-x)=a*i-i*x:=by grind
  rw[this,e1]
 have g3:(a*i*P*R+P * -R)*s+P*R*D=P*R*((a*i-1)*s+D):=by grind
 rw[g3,g2]
 have g4:i*(a-x)*s+D=i*((a-x)*s+x*D):=by
  have:i*(a-x)*s+D=i*(a-x)*s+i*(x*D):=by rw[<- g]
  rw[this];grind
 rw[g4,o];grind
theorem uG_small {L:Rat->Nat->Rat} (hL:Lns L) {a:Rat} (ha:0<a) {e:Rat} (he:0<e):∃ p,0<p/\p<=1/4/\LeN (uG L a p) (λ _=>e):=by
 obtain⟨K,k0,hK⟩:=zKW ha (show (0:Rat)<=1/4 by grind)
 have Kp:0<K+1:=by grind
 obtain⟨n,hn⟩:=null_q2 (e/(K+1)) (zF he Kp);have q:=(hn n (YE _)).2;obtain⟨p,p0,p1,ps⟩:=zNU hL ha n;refine⟨p,p0,p1,?_⟩
 have le:LeN (ex (-p)) (λ _=>1):=(zBX (a := -p) (b:=0) (by grind)).trans (LeN.of_le 1 λ M hM=>by
  obtain⟨m,rfl⟩:∃ m,M=m+1:=⟨M-1,by omega⟩
  have e0:ex 0 (m+1)=1:=kT m
  rw[e0];exact Rat.le_refl)
 have l1:=ps.mul le (jZ (-p)) (zDQ (-p)) (Bdd.const (q2 n)) (Nn.const (YC (yC n)))
 have l2:LeN (uS a p) (λ _=>K+1):=LeN.of_le 0 λ M _=>by
  have:=hK M;have:=zUA ha (YC p0) p1 M;grind
 have l:=l1.mul l2 (zDV ha (YC p0)) ⟨0,λ M _=>zCH ha (YC p0) M⟩ (Bdd.const (q2 n*1)) (Nn.const (by have:=yC n;grind))
 refine l.trans (LeN.of_le 0 λ M _=>?_)
 have m:=YB q (YC Kp);rw[rdm Kp] at m;grind
theorem zT5 {L:Rat->Nat->Rat} (hL:Lns L) {x:Rat} (hx:0<x) (a s:Rat):Null (λ M=>uF L (a+s) x M-uF L a x M*pr L s x M):=by
 have h:=(zJ8 hL hx a s).bmul ((jZ (-x)).mul (Bdd.const (1/x)));exact h.neg.of_eq λ M=>by unfold uF;grind
theorem zRS {L:Rat->Nat->Rat} (hL:Lns L) {a:Rat} {g:Nat->Rat} (ha:0<a) (h:IsGam L a g) {e:Rat} (he:0<e):∃ x,0<x/\LeN g (λ M=>uG L a x M+e):=by
 obtain⟨K,k0,hK⟩:∃ K,0<=K/\LeN g (λ _=>K):=by
  obtain⟨K,hK⟩:=h.bdd.leA
  exact⟨K,hK.nonneg,λ e he=>by
   obtain⟨N,n⟩:=hK e he
   exact⟨N,λ M hM=>(n M hM).2⟩⟩
 obtain⟨n,hn⟩:=kB (2*K/e);obtain⟨m,hm⟩:=kB a;obtain⟨x,Fc⟩:∃ x:Rat,x=2*(a+1)*((n:Rat)+1)+2:=⟨_,rfl⟩;have n0:=zOM n;have an:=Yz (show 0<=a+1 by grind) (show (0:Rat)<=(n:Rat)+1 by grind)
 have an2:=Yz (show 0<=a by grind) n0
 have x0:0<x:=by grind
 refine⟨x,x0,?_⟩
 have us:∀ M,1<=M->2*((n:Rat)+1)<=x*uS a x M:=λ M hM=>by
  obtain⟨j,rfl⟩:∃ j,M=j+1:=⟨M-1,by omega⟩
  have f:=zFS ha (YC x0) j;have d:=rdm (a:=1) ha;have i0:=zF (show (0:Rat)<1 by grind) ha
  have m1:=Yy f (YC x0);refine Rat.le_trans ?_ m1;refine Rat.le_of_mul_le_mul_right (c:=a) ?_ ha;have:x*(1/a)*a=x*(1/a*a):=by grind
  rw[this,d];grind
 have n1:=(zOB hL x0 a).bmul (zDV ha (YC x0));obtain⟨N2,e2⟩:=zPQ hL x0 a
 have l1:LeN (λ M=>2*((n:Rat)+1)*uE L a x M) (uG L a x):=by
  refine LeN.of_null n1 (1+N2) λ M hM=>?_
  have u0:=e2 M (by omega)
  have m:=YB (us M (by omega)) u0
  unfold uG;generalize uE L a x M=ue at *;generalize uS a x M=s at *;generalize pr L a x M=p at *;generalize ex (-x) M=y at *;grind
 have l2:=(l1.trans (h.lo x x0)).trans hK;have l3:=h.hi x (by grind) (by grind)
 have d:=rdm (a:=2*K) he
 have small:LeN (λ M=>2*uE L a x M) (λ _=>e):=by
  have ip:0<1/((n:Rat)+1):=zF (by grind) (zAV n)
  have im:=rdm (a:=1) (zAV n);refine LeN.trans (LeN.of_le 0 λ M _=>?_) ((l2.cmul (YC ip)).trans (LeN.of_le 0 λ M _=>?_))
  ·have:1/((n:Rat)+1)*(2*((n:Rat)+1)*uE L a x M)=1/((n:Rat)+1)*((n:Rat)+1)*(2*uE L a x M):=by grind
   rw[this,im];grind
  ·have m1:=YB hn.2 (YC he)
   rw[d] at m1;refine Rat.le_of_mul_le_mul_left (c:=(n:Rat)+1) ?_ (zAV n);have:((n:Rat)+1)*(1/((n:Rat)+1)*K)=1/((n:Rat)+1)*((n:Rat)+1)*K:=by grind
   rw[this,im];grind
 exact l3.trans ((LeN.refl (uG L a x)).add small)
theorem zM8 {L:Rat->Nat->Rat} (hL:Lns L) {a:Rat} {g g':Nat->Rat} (ha:0<a) (h:IsGam L a g) (h':IsGam L a g'):Null (λ M=>g M-g' M):=by
 have one:∀ g g':Nat->Rat,IsGam L a g->IsGam L a g'->LeN g g':=λ g g' h h' e he=>by
  obtain⟨x,x0,hx⟩:=zRS hL ha h (show 0<e/2 by grind)
  obtain⟨N1,n1⟩:=hx (e/4) (by grind)
  obtain⟨N2,n2⟩:=h'.lo x x0 (e/4) (by grind)
  exact⟨N1+N2,λ M hM=>by have:=n1 M (by omega);have:=n2 M (by omega);grind⟩
 exact (one g g' h h').eq (one g' g h' h)
theorem zH5 {L:Rat->Nat->Rat} (hL:Lns L) {z s c:Rat} {g k:Nat->Rat} (hz:0<z) (s0:0<=s) (s1:s<=1) (hzc:z<=c) (hg:IsGam L z g) (hk:IsGam L (z+s) k):LeN k (λ M=>pr L s c M*g M):=by
 intro e he
 have c0:0<c:=by grind
 have zs:0<z+s:=by grind
 obtain⟨x,x0,hx⟩:=zRS hL zs hk (show 0<e/8 by grind)
 obtain⟨p,p0,p1,ps⟩:=uG_small hL zs (show 0<e/8 by grind)
 have step:LeN (uG L (z+s) x) (λ M=>pr L s c M*g M+e/4):=by
  by_cases Dj:p<=x
  ·obtain⟨F,hF⟩:∃ F:Rat->Nat->Rat,F=λ x M=>pr L s c M*((1-s)*uG L z x M+s/c*uG L (z+1) x M):=⟨_,rfl⟩
   have dz:=zT7 hL hz p0 Dj;have Ix:=zT7 hL (show 0<z+1 by grind) p0 Dj
   have dzs:=zT7 hL zs p0 Dj;have dc:=Dif.const (pr L s c) (kK hL c0 s) p x;have d:=(dc.mul Dj ((dz.smul (1-s)).add (Ix.smul (s/c)))).sub dzs
   have l:=d.le Dj λ t h1 h2=>by
    have t0:0<t:=by grind
    have b:=bern hL s0 s1 c0 t0;obtain⟨N,hN⟩:Nn (uF L z t):=(Nn.const (jM t0 (by grind))).mul ((zC1 hL t0 z).mul (zDQ (-t)))
    have bF:Bdd (uF L z t):=(Bdd.const _).mul ((kK hL t0 z).mul (jZ (-t)));have bb:=b.bmul bF ⟨N,hN⟩;have f1:=(zT5 hL t0 z 1).bmul ((Bdd.const (s/c)).mul (kK hL c0 s));have f2:=zT5 hL t0 z s;have f3:=(zE9 hL t0).bmul ((bF.mul (Bdd.const (s/c))).mul (kK hL c0 s));obtain⟨y,hy,ky⟩:=bb.null;refine LeN.of_null ((hy.add f2).sub (f1.add f3)) 0 λ M _=>?_
    have k2:=ky M;have es:s*(t/c)=s/c*t:=by rw[YK,YK];grind
    rw[es] at k2;generalize uF L (z+s) t M=w1 at *;generalize uF L (z+1) t M=w2 at *;generalize uF L z t M=w3 at *;generalize pr L s t M=w4 at *;generalize pr L s c M=w5 at *;generalize pr L 1 t M=w6 at *;generalize s/c=w7 at *;clear b bb f1 f2 f3 hy ky hN bF d dz Ix dzs dc;grind
   have l1:=hg.lo x x0;have l2:=(hg.next hL hz).lo x x0;obtain⟨NN,CB⟩:=zC1 hL c0 s;obtain⟨N6,n6⟩:=uG_nn hL hz p0;obtain⟨N7,n7⟩:=uG_nn hL (show 0<z+1 by grind) p0
   have sc:=jM (a:=0) (b:=s) c0 (by grind)
   have l3:=(((l1.cmul (show 0<=1-s by grind)).add (l2.cmul sc)).bmul (kK hL c0 s) ⟨NN,CB⟩)
   obtain⟨gc,Xy,N8,n8⟩:=hg.pos
   intro e' QK
   obtain⟨N1,n1⟩:=l (e'/4) (by grind)
   obtain⟨N2,n2⟩:=ps (e'/4) (by grind)
   obtain⟨N3,n3⟩:=l3 (e'/4) (by grind)
   refine⟨N1+N2+N3+NN+N6+N7+N8,λ M hM=>?_⟩
   have a1:=n1 M (by omega)
   have a2:=n2 M (by omega)
   have a3:=n3 M (by omega)
   have a4:=CB M (by omega)
   have a6:=n6 M (by omega)
   have a7:=n7 M (by omega)
   have a8:=n8 M (by omega)
   dsimp only at a1 a2 a3 ⊢
   have g0:0<=g M:=by grind
   have q1:=Yz a4 (Yz (show 0<=1-s by grind) a6)
   have Ej:=Yz a4 (Yz sc a7)
   have zc:s/c*z<=s:=by
    have:=Yy hzc sc;rw[rdm c0] at this;exact this
   have q3:=Yz a4 (Yz (show 0<=s-s/c*z by grind) g0)
   generalize pr L s c M=w1 at *;generalize uG L z p M=w2 at *;generalize uG L (z+1) p M=w3 at *;generalize uG L (z+s) p M=w4 at *;generalize uG L z x M=w5 at *;generalize uG L (z+1) x M=w6 at *;generalize uG L (z+s) x M=w7 at *;generalize s/c=w8 at *;clear l l1 l2 l3 d dz Ix dzs dc n1 n2 n3 n6 n7 n8 CB hx ps hk hg hF
   have r1:w1*((1-s)*w5+w8*w6)<=w1*g M+e'/4:=by
    have:((1-s)*g M+w8*(z*g M))*w1=w1*g M-w1*((s-w8*z)*g M):=by grind
    rw[this] at a3;grind
   have r2 : -w4<=w1*((1-s)*w2+w8*w3)-w4:=by grind
   grind
  ·-- x is bw p
   have m:=zI5 hL zs x0 (show x<=p by grind)
   obtain⟨NN,CB⟩:=zC1 hL c0 s;obtain⟨gc,Xy,N8,n8⟩:=hg.pos;refine (m.trans ps).trans (LeN.of_le (NN+N8) λ M hM=>?_)
   have a4:=CB M (by omega)
   have a8:=n8 M (by omega)
   have:=Yz a4 (show 0<=g M by grind)
   grind
 obtain⟨N1,n1⟩:=hx (e/4) (by grind)
 obtain⟨N2,n2⟩:=step (e/4) (by grind)
 refine⟨N1+N2,λ M hM=>?_⟩
 have a1:=n1 M (by omega)
 have a2:=n2 M (by omega)
 dsimp only at a1 a2 ⊢
 grind
end Go.Proofs.YtgmnknmjainabacGreat.Ex
namespace Go.Proofs.YtgmnknmjainabacGreat.Ex
theorem LeN.congr2 {f g f' g':Nat->Rat} (h:LeN f g) (hf:Null (λ M=>f' M-f M)) (hg:Null (λ M=>g M-g' M)):LeN f' g':=((LeN.of_eqN hf).trans h).trans (LeN.of_eqN hg)
theorem IsGam.nn {L:Rat->Nat->Rat} {a:Rat} {g:Nat->Rat} (h:IsGam L a g):Nn g:=by
 obtain⟨c,c0,N,hc⟩:=h.pos;exact⟨N,λ M hM=>by have:=hc M hM;grind⟩
theorem zMQ {L:Rat->Nat->Rat} (hL:Lns L) {a b:Rat} {ga gab:Nat->Rat} (ha:0<a) (hb:0<b) (h1:IsGam L a ga) (h2:IsGam L (a+b) gab) (n:Nat):∃ R R':Rat,0<R/\0<R'/\IsGam L (a+(n:Rat)) (λ M=>R*ga M)/\IsGam L (a+b+(n:Rat)) (λ M=>R'*gab M)/\Null (λ M=>R'*bJ L (a+(n:Rat)) b M-R*bJ L a b M):=by
 induction n with
 | zero =>
  have c:((0:Nat):Rat)=0:=rfl;have e1:a+((0:Nat):Rat)=a:=by rw[c];grind
  have e2:a+b+((0:Nat):Rat)=a+b:=by rw[c];grind
  have e3:(λ M=>1*ga M)=ga:=by funext M;grind
  have e4:(λ M=>1*gab M)=gab:=by funext M;grind
  rw[e1,e2];exact⟨1,1,by grind,by grind,by rw[e3];exact h1,by rw[e4];exact h2,null_zero.of_eq λ M=>by grind⟩
 | succ n ih =>
  obtain⟨R,R',r0,AO,i1,i2,i3⟩:=ih;have n0:=zOM n;have c:((n+1:Nat):Rat)=(n:Rat)+1:=by push_cast;rfl
  have an:0<a+(n:Rat):=by grind
  have abn:0<a+b+(n:Rat):=by grind
  have g1:=i1.next hL an;have g2:=i2.next hL abn;have e1:a+((n+1:Nat):Rat)=a+(n:Rat)+1:=by rw[c];grind
  have e2:a+b+((n+1:Nat):Rat)=a+b+(n:Rat)+1:=by rw[c];grind
  have e3:(λ M=>(a+(n:Rat))*(R*ga M))=λ M=>(a+(n:Rat))*R*ga M:=by funext M;grind
  have e4:(λ M=>(a+b+(n:Rat))*(R'*gab M))=λ M=>(a+b+(n:Rat))*R'*gab M:=by funext M;grind
  rw[e3] at g1;rw[e4] at g2;have nx:=zLC hL an hb;rw[e1,e2];refine⟨_,_,Rat.mul_pos an r0,Rat.mul_pos abn AO,g1,g2,?_⟩;refine ((nx.bmul (Bdd.const R')).add (i3.bmul (Bdd.const (a+(n:Rat))))).of_eq λ M=>by grind
theorem zS0 {L:Rat->Nat->Rat} (hL:Lns L):∃ g,IsGam L 1 g/\Null (λ M=>g M-1):=by
 obtain⟨g,hg⟩:=zH4 hL (show (0:Rat)<1 by grind) Rat.le_refl
 exact⟨g,hg.isGam hL (by grind),gam_one hL hg⟩
theorem zQH {L:Rat->Nat->Rat} (hL:Lns L) {a b:Rat} {ga gb gab:Nat->Rat} (ha:0<a) (Z8:a<=1) (hb:0<b) (h1:IsGam L a ga) (h2:IsGam L b gb) (h3:IsGam L (a+b) gab) (hJ:Null (λ M=>b*bJ L 1 b M-1)) (n:Nat) :
  LeN (λ M=>((n:Rat)+1)*(bJ L a b M*gab M)) (λ M=>((n:Rat)+1+(a+b+1))*(ga M*gb M))/\LeN (λ M=>((n:Rat)+1)*(ga M*gb M)) (λ M=>((n:Rat)+1+(a+b+1))*(bJ L a b M*gab M)):=by
 have n0:=zOM n;have cN:((n+1:Nat):Rat)=(n:Rat)+1:=by push_cast;rfl
 obtain⟨g1,FQ,n1⟩:=zS0 hL;obtain⟨R,R',r0,AO,i1,i2,i3⟩:=zMQ hL ha hb h1 h3 (n+1);have b9:=h2.next hL hb;have eb:b+1=1+b:=by grind
 rw[eb] at b9;obtain⟨T,T',t0,t0',j1,j2,j3⟩:=zMQ hL (show (0:Rat)<1 by grind) hb FQ b9 n
 rw[cN] at i1 i2 i3;obtain⟨N,eN⟩:∃ N:Rat,N=(n:Rat)+1:=⟨_,rfl⟩;have WB:(1:Rat)+(n:Rat)=N:=by grind
 have Iy:(1:Rat)+b+(n:Rat)=N+b:=by grind
 rw[WB] at j1 j3;rw[Iy] at j2;rw[<- eN] at i1 i2 i3;have N0:0<N:=by grind
 have ea:a+N=N+a:=by grind
 have eab:a+b+N=N+b+a:=by grind
 rw[ea] at i1 i3;rw[eab] at i2;obtain⟨c,ec⟩:∃ c:Rat,c=N+(a+b+1):=⟨_,rfl⟩;have c0:0<c:=by grind
 have a0:=YC ha;have p1:=zH5 hL (z:=N+b) (s:=a) (c:=c) (by grind) a0 Z8 (by grind) j2 i2
 have jn:=j1.next hL N0
 have p2:=zH5 hL (z:=N+a) (s:=1-a) (c:=c) (by grind) (by grind) (by grind) (by grind) i1 (by
  have e:N+a+(1-a)=N+1:=by grind
  rw[e];exact jn)
 have jb:=j2.next hL (show 0<N+b by grind)
 have p3:=zH5 hL (z:=N+b+a) (s:=1-a) (c:=c) (by grind) (by grind) (by grind) (by grind) i2 (by
  have e:N+b+a+(1-a)=N+b+1:=by grind
  rw[e];exact jb)
 have p4:=zH5 hL (z:=N) (s:=a) (c:=c) N0 a0 Z8 (by grind) j1 i1
 have q1:=zQG hL (a:=N) (a':=N+a) N0 hb (by grind)
 have Ej:=zQG hL (a:=N+a) (a':=N+1) (by grind) hb (by grind)
 have q3:=zLC hL N0 hb;have w:=zJ8 hL c0 a (1-a);have ew:a+(1-a)=1:=by grind
 rw[ew] at w;have w1:=w.add (zE9 hL c0);have bW:=kK hL c0 a;have nW:=zC1 hL c0 a;have bV:=kK hL c0 (1-a);have nV:=zC1 hL c0 (1-a);have bJN:=zGW hL N0 hb;have bJa:=zGW hL (show 0<N+a by grind) hb
 have Wd:=zGW hL ha hb;have nJN:=bJ_nn hL N0 hb;have nJa:=bJ_nn hL (show 0<N+a by grind) hb
 have nR:Nn (λ M=>R'*gab M):=(Nn.const (YC AO)).mul h3.nn
 have bR:Bdd (λ M=>R'*gab M):=(Bdd.const R').mul h3.bdd
 have bga:=h1.bdd;have bgb:=h2.bdd;have bgab:=h3.bdd;have bg1:=FQ.bdd;have b1:=zGW hL (show (0:Rat)<1 by grind) hb
 rw[<- eN,<- ec];constructor
 ·-- J(N+a) R' gab <= J(N) W T' b gb
  have l1:=q1.mul p1 bR nR bJN nJN
  have l2:LeN (λ M=>R*(bJ L a b M*gab M)) (λ M=>T*(pr L a c M*gb M)):=by
   refine l1.congr2 ((i3.bmul bgab).neg.of_eq λ M=>?_) (((j3.bmul ((bW.mul (Bdd.const b)).mul bgb)).add (hJ.bmul ((Bdd.const T).mul (bW.mul bgb)))).of_eq λ M=>?_)
   ·grind
   ·grind
  have l3:=p2.bmul (bW.mul bgb) (nW.mul h2.nn)
  have l4:LeN (λ M=>N*(T*(pr L a c M*gb M))) (λ M=>c*(R*(ga M*gb M))):=by
   refine l3.congr2 ((n1.bmul ((Bdd.const (N*T)).mul (bW.mul bgb))).neg.of_eq λ M=>?_) ((w1.bmul ((Bdd.const R).mul (bga.mul bgb))).of_eq λ M=>?_)
   ·grind
   ·grind
  have l5:=(l2.cmul (YC N0)).trans l4;have ir:=zF (show (0:Rat)<1 by grind) r0
  have im:=rdm (a:=1) r0;refine LeN.trans (LeN.of_le 0 λ M _=>?_) ((l5.cmul (YC ir)).trans (LeN.of_le 0 λ M _=>?_))
  ·have:1/R*(N*(R*(bJ L a b M*gab M)))=1/R*R*(N*(bJ L a b M*gab M)):=by grind
   rw[this,im];grind
  ·have:1/R*(c*(R*(ga M*gb M)))=1/R*R*(c*(ga M*gb M)):=by grind
   rw[this,im];grind
 ·-- J(N+1) (N+b) T' b gb <= J(N+a) V R' gab
  have nB:Nn (λ M=>(N+b)*(T'*(b*gb M))):=(Nn.const (show 0<=N+b by grind)).mul ((Nn.const (YC t0')).mul ((Nn.const (YC hb)).mul h2.nn))
  have bB:Bdd (λ M=>(N+b)*(T'*(b*gb M))):=(Bdd.const (N+b)).mul ((Bdd.const T').mul ((Bdd.const b).mul bgb))
  have l1:=Ej.mul p3 bB nB bJa nJa
  have l2:LeN (λ M=>N*(T*gb M)) (λ M=>pr L (1-a) c M*(R*(bJ L a b M*gab M))):=by
   refine l1.congr2 ((((q3.bmul ((Bdd.const (T'*b)).mul bgb)).add (j3.bmul ((Bdd.const (N*b)).mul bgb))).add (hJ.bmul ((Bdd.const (N*T)).mul bgb))).neg.of_eq λ M=>?_) ((i3.bmul (bV.mul bgab)).of_eq λ M=>?_)
   ·grind
   ·grind
  have l3:=p4.bmul ((Bdd.const N).mul bgb) ((Nn.const (YC N0)).mul h2.nn);have l4:=l2.bmul bW nW
  have l5:LeN (λ M=>N*(R*(ga M*gb M))) (λ M=>N*(T*gb M)*pr L a c M):=by
   refine l3.congr2 (null_zero.of_eq λ M=>?_) ((n1.bmul ((Bdd.const (N*T)).mul (bW.mul bgb))).of_eq λ M=>?_)
   ·grind
   ·grind
  have l6:LeN (λ M=>N*(R*(ga M*gb M))) (λ M=>c*(R*(bJ L a b M*gab M))):=by
   refine (l5.trans l4).trans (LeN.of_eqN ((w1.bmul ((Bdd.const R).mul (Wd.mul bgab))).of_eq λ M=>?_))
   grind
  have ir:=zF (show (0:Rat)<1 by grind) r0
  have im:=rdm (a:=1) r0;refine LeN.trans (LeN.of_le 0 λ M _=>?_) ((l6.cmul (YC ir)).trans (LeN.of_le 0 λ M _=>?_))
  ·have:1/R*(N*(R*(ga M*gb M)))=1/R*R*(N*(ga M*gb M)):=by grind
   rw[this,im];grind
  ·have:1/R*(c*(R*(bJ L a b M*gab M)))=1/R*R*(c*(bJ L a b M*gab M)):=by grind
   rw[this,im];grind
theorem zND {P W:Nat->Rat} {C:Rat} (hC:0<=C) (bP:Bdd W) (h:∀ n:Nat,LeN (λ M=>((n:Rat)+1)*P M) (λ M=>((n:Rat)+1+C)*W M)):LeN P W:=by
 obtain⟨K,hK⟩:=bP.leA;have k0:=hK.nonneg;obtain⟨N0,tq⟩:=hK 1 (by grind)
 refine LeN.lim (C:=C*(K+1)) (Yz hC (by grind)) λ n=>?_
 have ip:=zF (show (0:Rat)<1 by grind) (zAV n)
 have im:=rdm (a:=1) (zAV n);refine LeN.trans (LeN.of_le 0 λ M _=>?_) (((h n).cmul (YC ip)).trans (LeN.of_le N0 λ M hM=>?_))
 ·have:1/((n:Rat)+1)*(((n:Rat)+1)*P M)=1/((n:Rat)+1)*((n:Rat)+1)*P M:=by grind
  rw[this,im];grind
 ·have b:=(tq M hM).2
  have m:=Yy b (Yz (YC ip) hC);have:1/((n:Rat)+1)*(((n:Rat)+1+C)*W M)=1/((n:Rat)+1)*((n:Rat)+1)*W M+1/((n:Rat)+1)*C*W M:=by grind
  rw[this,im];grind
theorem zQJ {L:Rat->Nat->Rat} (hL:Lns L) {a b:Rat} {ga gb gab:Nat->Rat} (ha:0<a) (Z8:a<=1) (hb:0<b) (h1:IsGam L a ga) (h2:IsGam L b gb) (h3:IsGam L (a+b) gab) (hJ:Null (λ M=>b*bJ L 1 b M-1)):Null (λ M=>bJ L a b M*gab M-ga M*gb M):=by
 have c0:0<=a+b+1:=by grind
 refine (zND c0 (h1.bdd.mul h2.bdd) λ n=>(zQH hL ha Z8 hb h1 h2 h3 hJ n).1).eq (zND c0 ((zGW hL ha hb).mul h3.bdd) λ n=>(zQH hL ha Z8 hb h1 h2 h3 hJ n).2)
theorem zRR {L:Rat->Nat->Rat} (hL:Lns L) (n:Nat):∀ a:Rat,0<a->a<=(n:Rat)+1->∃ g,IsGam L a g:=by
 induction n with
 | zero =>
  intro a ha h
  have c:((0:Nat):Rat)=0:=rfl;rw[c] at h;obtain⟨g,hg⟩:=zH4 hL ha (by grind)
  exact⟨g,hg.isGam hL ha⟩
 | succ n ih =>
  intro a ha h
  have c:((n+1:Nat):Rat)=(n:Rat)+1:=by push_cast;rfl
  rw[c] at h
  by_cases h1:a<=1
  ·obtain⟨g,hg⟩:=zH4 hL ha h1
   exact⟨g,hg.isGam hL ha⟩
  ·obtain⟨g,hg⟩:=ih (a-1) (by grind) (by grind)
   have:=hg.next hL (show 0<a-1 by grind)
   have e:a-1+1=a:=by grind
   rw[e] at this;exact⟨_,this⟩
theorem bJ_all {L:Rat->Nat->Rat} (hL:Lns L) {b:Rat} {gb:Nat->Rat} (hb:0<b) (h2:IsGam L b gb) (hJ:Null (λ M=>b*bJ L 1 b M-1)) (n:Nat):∀ (a:Rat) (ga gab:Nat->Rat),0<a->a<=(n:Rat)+1->IsGam L a ga->IsGam L (a+b) gab->Null (λ M=>bJ L a b M*gab M-ga M*gb M):=by
 induction n with
 | zero =>
  intro a ga gab ha h h1 h3
  have c:((0:Nat):Rat)=0:=rfl;rw[c] at h;exact zQJ hL ha (by grind) hb h1 h2 h3 hJ
 | succ n ih =>
  intro a ga gab ha h h1 h3
  have c:((n+1:Nat):Rat)=(n:Rat)+1:=by push_cast;rfl
  rw[c] at h
  by_cases hle:a<=1
  ·exact zQJ hL ha hle hb h1 h2 h3 hJ
  ·have a1:0<a-1:=by grind
   obtain⟨g,hg⟩:=zRR hL n (a-1) a1 (by grind)
   obtain⟨m,hm⟩:=kB (a-1+b);obtain⟨k,hk⟩:=zRR hL m (a-1+b) (by grind) (by have:=hm.2;grind)
   have i:=ih (a-1) g k a1 (by grind) hg hk
   have e1:a-1+1=a:=by grind
   have e2:a-1+b+1=a+b:=by grind
   have pY:=hg.next hL a1;have Z9:=hk.next hL (show 0<a-1+b by grind)
   rw[e1] at pY;rw[e2] at Z9;have u1:=zM8 hL ha h1 pY;have u2:=zM8 hL (show 0<a+b by grind) h3 Z9
   have nx:=zLC hL a1 hb;rw[e1] at nx;refine ((((i.bmul (Bdd.const (a-1))).add (nx.bmul hk.bdd)).add (u2.bmul (zGW hL ha hb))).sub (u1.bmul h2.bdd)).of_eq λ M=>?_
   grind
theorem bJ_one {L:Rat->Nat->Rat} (hL:Lns L) {b:Rat} (hb:0<b):Null (λ M=>b*bJ L 1 b M-1):=by
 obtain⟨g1,FQ,n1⟩:=zS0 hL;obtain⟨m,hm⟩:=kB b;obtain⟨g,hg⟩:=zRR hL m b hb (by have:=hm.2;grind)
 have j1:Null (λ M=>1*bJ L 1 1 M-1):=(bJ_11 hL).of_eq λ M=>by grind
 have k:=bJ_all hL (show (0:Rat)<1 by grind) FQ j1 m b g (λ M=>b*g M) hb (by have:=hm.2;grind) hg (hg.next hL hb)
 have h:=(k.add (n1.bmul hg.bdd))
 have p:Null (λ M=>g M*(b*bJ L 1 b M)-g M):=h.of_eq λ M=>by
  rw[zQI L 1 b M];grind
 obtain⟨c,c0,N,hc⟩:=hg.pos
 intro e he
 obtain⟨N2,n2⟩:=p (c*e) (Rat.mul_pos c0 he);refine⟨N+N2,λ M hM=>?_⟩
 have a1:=n2 M (by omega)
 have a2:=hc M (by omega)
 dsimp only at a1
 show AB (b*bJ L 1 b M-1) e
 clear p h k j1 n1;generalize b*bJ L 1 b M=w at *;have e1:g M*w-g M=g M*(w-1):=by grind
 rw[e1] at a1;have m:=YB a2 (YC he);have g0:0<g M:=by grind
 exact⟨Rat.le_of_mul_le_mul_left (c:=g M) (by have:=a1.1;grind) g0,Rat.le_of_mul_le_mul_left (c:=g M) (by have:=a1.2;grind) g0⟩
theorem zOK {L:Rat->Nat->Rat} (hL:Lns L) {a b:Rat} {ga gb gab:Nat->Rat} (ha:0<a) (hb:0<b) (h1:IsGam L a ga) (h2:IsGam L b gb) (h3:IsGam L (a+b) gab):Null (λ M=>bJ L a b M*gab M-ga M*gb M):=by
 obtain⟨m,hm⟩:=kB a;exact bJ_all hL hb h2 (bJ_one hL hb) m a ga gab ha (by have:=hm.2;grind) h1 h3
end Go.Proofs.YtgmnknmjainabacGreat.Ex
namespace Go.Proofs.YtgmnknmjainabacGreat
open Ex
structure zGU (n d:Int) (B:Nat):Prop where
 n0:0<n
 nd:n<=d
 dd:d<=2199023255552
 b0:40<=B
 b1:B<=1000
def gaU (d:Int) (B:Nat) (_:Nat):Int:=(B:Int)*d
def gaD (n d:Int) (k:Nat):Int:=n+(k:Int)*d
def gaT (n d:Int) (B:Nat):Nat->Int × Int:=riT (ofI d n B) (gaU d B) (gaD n d)
theorem zF5 {n d:Int} {B:Nat} (h:zGU n d B) (k:Nat):0<gaD n d k:=by
 have:=YF (show (0:Int)<=(k:Int) by omega) (show 0<=d by have:=h.n0;have:=h.nd;omega)
 have:=h.n0;unfold gaD;omega
theorem zRQ {n d:Int} {B:Nat} (h:zGU n d B):zP5 (gaU d B) (gaD n d):=⟨λ _=>YF (by omega) (by have:=h.n0;have:=h.nd;omega),λ k=>zF5 h k⟩
theorem ga_34 {n d:Int} {B:Nat} (h:zGU n d B) (k:Nat) (hk:2*B<=k):4*gaU d B (k+1)<=3*gaD n d (k+1):=by
 have n0:=h.n0;have nd:=h.nd;have m:=YA (show 2*(B:Int)<=((k+1:Nat):Int) by omega) (show 0<=d by omega)
 have e:2*(B:Int)*d=2*((B:Int)*d):=by grind
 have p:=YF (show (0:Int)<=(B:Int) by omega) (show 0<=d by omega)
 unfold gaU gaD;omega
theorem ga_val {n d:Int} {B:Nat} (h:zGU n d B) (k M:Nat):riV (λ _=>(d:Rat)/(n:Rat)) (gaU d B) (gaD n d) k M=upT ((n:Rat)/(d:Rat)) (B:Rat) k:=by
 have n0:(0:Rat)<(n:Rat):=by exact_mod_cast h.n0
 have d0:(0:Rat)<(d:Rat):=by exact_mod_cast (show (0:Int)<d by have:=h.n0;have:=h.nd;omega)
 have a0:(0:Rat)<(n:Rat)/(d:Rat):=zF n0 d0;have ed:=rdm (a:=(n:Rat)) d0
 induction k with
 | zero =>
  refine zX (c:=(n:Rat)/(d:Rat)) a0 ?_;rw[yX a0]
  show (n:Rat)/(d:Rat)*((d:Rat)/(n:Rat))=1
  have e2:=rdm (a:=(d:Rat)) n0;refine zX (c:=(n:Rat)*(d:Rat)) (Rat.mul_pos n0 d0) ?_;have e3:(n:Rat)*(d:Rat)*((n:Rat)/(d:Rat)*((d:Rat)/(n:Rat)))=(n:Rat)/(d:Rat)*(d:Rat)*((d:Rat)/(n:Rat)*(n:Rat)):=by grind
  rw[e3,ed,e2];grind
 | succ k ih =>
  have p:(0:Rat)<(gaD n d (k+1):Rat):=by exact_mod_cast zF5 h (k+1)
  refine zX (c:=(n:Rat)/(d:Rat)+((k:Rat)+1)) (zBJ a0 k) ?_;rw[jX a0,<- ih]
  show ((n:Rat)/(d:Rat)+((k:Rat)+1))*((gaU d B (k+1):Rat)/(gaD n d (k+1):Rat)*riV (λ _=>(d:Rat)/(n:Rat)) (gaU d B) (gaD n d) k M)=_
  generalize riV (λ _=>(d:Rat)/(n:Rat)) (gaU d B) (gaD n d) k M=r
  have eD:(gaD n d (k+1):Rat)=(n:Rat)+((k:Rat)+1)*(d:Rat):=by
   unfold gaD;rw[Rat.intCast_add,YG];have:(((k+1:Nat):Int):Rat)=(k:Rat)+1:=by push_cast;rfl
   rw[this]
  have eU:(gaU d B (k+1):Rat)=(B:Rat)*(d:Rat):=by
   unfold gaU;rw[YG];rfl
  have e4:=rdm (a:=(gaU d B (k+1):Rat)) p
  have e5:((n:Rat)/(d:Rat)+((k:Rat)+1))*(d:Rat)=(gaD n d (k+1):Rat):=by
   rw[eD];have:((n:Rat)/(d:Rat)+((k:Rat)+1))*(d:Rat)=(n:Rat)/(d:Rat)*(d:Rat)+((k:Rat)+1)*(d:Rat):=by grind
   rw[this,ed]
  refine zX (c:=(d:Rat)) d0 ?_;have e6:(d:Rat)*(((n:Rat)/(d:Rat)+((k:Rat)+1))*((gaU d B (k+1):Rat)/(gaD n d (k+1):Rat)*r))=((n:Rat)/(d:Rat)+((k:Rat)+1))*(d:Rat)*((gaU d B (k+1):Rat)/(gaD n d (k+1):Rat))*r:=by grind
  rw[e6,e5];have e7:(gaD n d (k+1):Rat)*((gaU d B (k+1):Rat)/(gaD n d (k+1):Rat))=(gaU d B (k+1):Rat)/(gaD n d (k+1):Rat)*(gaD n d (k+1):Rat):=by grind
  rw[e7,e4,eU];grind
theorem ga_has {n d:Int} {B N:Nat} (h:zGU n d B) (hN:yO (gaT n d B) (2*B) N):Iv B (kW (gaT n d B) N) (uS ((n:Rat)/(d:Rat)) (B:Rat)):=by
 have n0:=h.n0;have q0:(0:Rat)<=(d:Rat)/(n:Rat):=zAJ (by have:=h.nd;omega) n0
 have r:=zCE (zRQ h) (Iv.of B (n:=d) n0) 0 (λ M _=>q0) (λ k hk=>ga_34 h k hk) hN
 refine Has.of_eq r λ M=>?_
 show S (upT ((n:Rat)/(d:Rat)) (B:Rat)) M=S (λ k=>riV (λ _=>(d:Rat)/(n:Rat)) (gaU d B) (gaD n d) k M) M
 exact kQ M λ k _=>(ga_val h k M).symm
theorem zCR {n d:Int} {B:Nat} (h:zGU n d B):Q B<=(ofI d n B).1/\(ofI d n B).1<=(ofI d n B).2/\(ofI d n B).2<=Q (B+41)/\(ofI d n B).2-(ofI d n B).1<=1:=by
 have n0:=h.n0;have q:=zE B;have e:Q (B+41)=Q B*Q 41:=jF B 41;have WD:Q 41=2199023255552:=rfl;refine⟨?_,yA n0 B,?_,yB n0 B⟩
 ·refine Int.le_ediv_of_mul_le n0 ?_
  have:=YD h.nd (show 0<=Q B by omega)
  have:d*Q B=Q B*d:=Int.mul_comm _ _;omega
 ·have:=(kC (x:=d*Q B) (m:=Q (B+41)) (q:=n) n0 (by
   have:=YF (show 0<=d by have:=h.nd;omega) (show 0<=Q B by omega)
   have:=YF (show 0<=Q (B+41) by have:=zE (B+41);omega) (show 0<=n by omega)
   omega) (by
   have m1:=YA h.dd (show 0<=Q B by omega)
   have m2:=YD (show 1<=n by omega) (show 0<=Q (B+41) by have:=zE (B+41);omega)
   rw[e,WD] at m2 ⊢;have:Q B*2199023255552=2199023255552*Q B:=Int.mul_comm _ _
   omega)).2.2.2
  exact this
theorem zCQ {n d:Int} {B:Nat} (h:zGU n d B) (k:Nat):0<=(gaT n d B k).1/\(gaT n d B k).1<=(gaT n d B k).2:=by
 obtain⟨f1,f2,f3,f4⟩:=zCR h;have q:=zE B;exact⟨zAL (zRQ h) (by omega) k,zEI (zRQ h) f2 k⟩
theorem zJK {x u v c:Int} (hv:0<v) (hx:0<=x) (h:u<=c*v) : -(-(x*u)/v)<=c*x:=by
 have e : -(c*x)*v <= -(x*u):=by
  have:=YD h hx;have e1 : -(c*x)*v = -(x*(c*v)):=by grind
  omega
 have:=Int.le_ediv_of_mul_le hv e;omega
theorem ga_hi1 {n d:Int} {B:Nat} (h:zGU n d B) (k:Nat):(gaT n d B k).2<=Q (B+41+10*k):=by
 induction k with
 | zero=>exact (zCR h).2.2.1
 | succ k ih =>
  obtain⟨e1,e2⟩:=zCQ h k;have p:=zF5 h (k+1);have n0:=h.n0;have nd:=h.nd;have b1:=h.b1
  have m:=zJK (x:=(gaT n d B k).2) (u:=gaU d B (k+1)) (v:=gaD n d (k+1)) (c:=1024) p (by omega) (by
   have m1:=YA (show (B:Int)<=1024 by omega) (show 0<=d by omega)
   have m2:=YF (show (0:Int)<=(k:Int) by omega) (show 0<=d by omega)
   have e:((k+1:Nat):Int)*d=(k:Int)*d+d:=by
    have:((k+1:Nat):Int)=(k:Int)+1:=by omega
    rw[this];grind
   unfold gaU gaD
   omega)
  have PQ:Q (B+41+10*(k+1))=1024*Q (B+41+10*k):=by
   have:=jF (B+41+10*k) 10;have e:Q 10=1024:=rfl;rw[e] at this;have e2:B+41+10*k+10=B+41+10*(k+1):=by omega
   rw[e2] at this;omega
  show -(-((gaT n d B k).2*gaU d B (k+1))/gaD n d (k+1))<=_
  omega
theorem ga_hi {n d:Int} {B:Nat} (h:zGU n d B) (k:Nat):(gaT n d B k).2<=Q (21*B+41):=by
 by_cases c:k<=2*B
 ·exact Int.le_trans (ga_hi1 h k) (zJ (by omega))
 ·obtain⟨j,rfl⟩:∃ j,k=2*B+j:=⟨k-2*B,by omega⟩
  have big:3<=Q (21*B+41):=by have:=zJ (show 2<=21*B+41 by omega);have:Q 2=4:=rfl;omega
  clear c
  induction j with
  | zero=>exact Int.le_trans (ga_hi1 h _) (zJ (by omega))
  | succ j ih =>
   obtain⟨e1,e2⟩:=zCQ h (2*B+j);have f:=zM1 (x:=(gaT n d B (2*B+j)).2) (zF5 h (2*B+j+1)) (by omega) (ga_34 h (2*B+j) (by omega))
   have e:(gaT n d B (2*B+(j+1))).2 = -(-((gaT n d B (2*B+j)).2*gaU d B (2*B+j+1))/gaD n d (2*B+j+1)):=rfl;rw[e];omega
theorem ga_set {n d:Int} {B:Nat} (h:zGU n d B):∃ N,N<=65*B+126/\yO (gaT n d B) (2*B) N:=by
 obtain⟨f1,f2,f3,f4⟩:=zCR h;have q:=zE B
 obtain⟨N,h1,h2⟩:=zL5 (turn:=2*B) (H:=21*B+42) (zRQ h) (show 0<=(ofI d n B).1 by omega) f2 (λ k hk=>ga_34 h k hk) (by
  have a:(riT (ofI d n B) (gaU d B) (gaD n d) (2*B)).2<=Q (21*B+41):=ga_hi h (2*B);have e:Q (21*B+42)=2*Q (21*B+41):=rfl;have:=zE (21*B+41)
  omega)
 exact⟨N,by omega,h2⟩
theorem ga_rise {n d:Int} {B:Nat} (h:zGU n d B) (k:Nat) (hk:gaD n d (k+1)<=gaU d B (k+1)):(ofI d n B).2<=(gaT n d B k).2:=by
 induction k with
 | zero=>exact Int.le_refl _
 | succ k ih =>
  have n0:=h.n0;have nd:=h.nd
  have pZ:gaD n d (k+1)<=gaU d B (k+1):=by
   have e:gaD n d (k+1+1)=gaD n d (k+1)+d:=by
    unfold gaD;have:((k+1+1:Nat):Int)=((k+1:Nat):Int)+1:=by omega
    rw[this];grind
   have e2:gaU d B (k+1+1)=gaU d B (k+1):=rfl;rw[e,e2] at hk;omega
  have i:=ih pZ;obtain⟨e1,e2⟩:=zCQ h k;have p:=zF5 h (k+1);have c:=zDY ((gaT n d B k).2*gaU d B (k+1)) p;have m:=YD pZ (show 0<=(gaT n d B k).2 by omega)
  refine Int.le_trans i ?_;refine Int.le_of_mul_le_mul_right (a:=gaD n d (k+1)) ?_ p;exact Int.le_trans m c
theorem zM6 {n d:Int} {B:Nat} (h:zGU n d B) (k:Nat):((gaT n d B k).2-(gaT n d B k).1)*(ofI d n B).2<=(1+2*(k:Int))*((gaT n d B k).2+(ofI d n B).2):=by
 obtain⟨f1,f2,f3,f4⟩:=zCR h;have q:=zE B;obtain⟨e1,e2⟩:=zCQ h k;have w:=zNY (zRQ h) (show 0<=(ofI d n B).1 by omega) f2 (by omega) f4 (λ k hk=>ga_rise h k hk) k
 refine Int.le_trans w (YD ?_ (by omega))
 have e:riT (ofI d n B) (gaU d B) (gaD n d) k=gaT n d B k:=rfl;rw[e];split<;>omega
theorem zM7 {n d:Int} {B:Nat} (h:zGU n d B) (k:Nat):((jE (gaT n d B) k).2-(jE (gaT n d B) k).1)*(ofI d n B).2<=(1+2*(k:Int))*((jE (gaT n d B) k).2+((k:Int)+1)*(ofI d n B).2)/\0<=(jE (gaT n d B) k).2/\(ofI d n B).2<=(jE (gaT n d B) k).2/\(ofI d n B).1<=(jE (gaT n d B) k).1:=by
 obtain⟨f1,f2,f3,f4⟩:=zCR h;have q:=zE B;have a2:0<=(ofI d n B).2:=by omega
 induction k with
 | zero =>
  have w:=zM6 h 0;refine⟨?_,by show 0<=(ofI d n B).2;omega,Int.le_refl _,Int.le_refl _⟩
  show ((gaT n d B 0).2-(gaT n d B 0).1)*(ofI d n B).2<=(1+2*((0:Nat):Int))*((gaT n d B 0).2+(((0:Nat):Int)+1)*(ofI d n B).2)
  have e:((0:Nat):Int)=0:=rfl;rw[e] at w ⊢;generalize ((gaT n d B 0).2-(gaT n d B 0).1)*(ofI d n B).2=z at *;omega
 | succ k ih =>
  obtain⟨i1,i2,i3,i4⟩:=ih;have w:=zM6 h (k+1);obtain⟨e1,e2⟩:=zCQ h (k+1);have es:jE (gaT n d B) (k+1)=zB5 (jE (gaT n d B) k) (gaT n d B (k+1)):=rfl;have IV:(jE (gaT n d B) (k+1)).1=(jE (gaT n d B) k).1+(gaT n d B (k+1)).1:=rfl;have IW:(jE (gaT n d B) (k+1)).2=(jE (gaT n d B) k).2+(gaT n d B (k+1)).2:=rfl;have ec:((k+1:Nat):Int)=(k:Int)+1:=by omega
  refine⟨?_,by omega,by omega,by omega⟩
  rw[IV,IW];rw[ec] at w ⊢;generalize (jE (gaT n d B) k).2=S2 at *;generalize (jE (gaT n d B) k).1=S1 at *;generalize (gaT n d B (k+1)).2=T2 at *;generalize (gaT n d B (k+1)).1=T1 at *;generalize (ofI d n B).2=A at *;have k0:(0:Int)<=(k:Int):=by omega
  have m1:=YF k0 a2;have r0:((k:Int)+1)*A=(k:Int)*A+A:=by grind
  have m2:(1+2*(k:Int))*(S2+((k:Int)+1)*A)<=(1+2*((k:Int)+1))*(S2+((k:Int)+1)*A):=YA (by omega) (by omega)
  have r1:(S2+T2-(S1+T1))*A=(S2-S1)*A+(T2-T1)*A:=by grind
  have r2:(1+2*((k:Int)+1))*(S2+T2+((k:Int)+1+1)*A)=(1+2*((k:Int)+1))*(S2+((k:Int)+1)*A)+(1+2*((k:Int)+1))*(T2+A):=by grind
  rw[r1,r2];omega
def jS (n d:Int) (B N:Nat):Int × Int:=kW (gaT n d B) N
theorem zM5 {n d:Int} {B N:Nat} (h:zGU n d B) (hN:N<=65*B+126):Q B<=(jS n d B N).1/\(jS n d B N).1<=(jS n d B N).2/\((jS n d B N).2-(jS n d B N).1)*Q B<=9500*((B:Int)*(B:Int))*(jS n d B N).2:=by
 obtain⟨f1,f2,f3,f4⟩:=zCR h;obtain⟨w1,w2,w3,w4⟩:=zM7 h N;have q:=zE B;have e1:(jS n d B N).1=(jE (gaT n d B) N).1+0:=rfl;have e2:(jS n d B N).2=(jE (gaT n d B) N).2+9:=rfl;have sl:(jE (gaT n d B) N).1<=(jE (gaT n d B) N).2:=zGL (λ k=>(zCQ h k).2) N
 refine⟨by omega,by omega,?_⟩
 have b0:=h.b0;have b1:=h.b1;rw[e1,e2];generalize (jE (gaT n d B) N).2=S2 at *;generalize (jE (gaT n d B) N).1=S1 at *;generalize (ofI d n B).2=A at *;have m0:=YD (show Q B<=A by omega) (show 0<=S2+9-(S1+0) by omega)
 have m1:(1+2*(N:Int))*(S2+((N:Int)+1)*A)<=(1+2*(N:Int))*(((N:Int)+2)*(S2+9)):=YD (by
  have a:=YD (show A<=S2+9 by omega) (show 0<=(N:Int)+1 by omega)
  have e:((N:Int)+2)*(S2+9)=((N:Int)+1)*(S2+9)+(S2+9):=by grind
  omega) (by omega)
 have r:(S2+9-(S1+0))*A=(S2-S1)*A+9*A:=by grind
 have k1:(1+2*(N:Int))*((N:Int)+2)+9<=9500*((B:Int)*(B:Int)):=by
  have n1:(N:Int)+2<=69*(B:Int):=by omega
  have n2:1+2*(N:Int)<=137*(B:Int):=by omega
  have a:=Int.mul_le_mul n2 n1 (by omega) (by omega)
  have e:137*(B:Int)*(69*(B:Int))=9453*((B:Int)*(B:Int)):=by grind
  have:=Int.mul_le_mul (show (40:Int)<=(B:Int) by omega) (show (40:Int)<=(B:Int) by omega) (by omega) (by omega)
  omega
 have m2:=YA k1 (show 0<=S2+9 by omega)
 have r2:((1+2*(N:Int))*((N:Int)+2)+9)*(S2+9)=(1+2*(N:Int))*(((N:Int)+2)*(S2+9))+9*(S2+9):=by grind
 rw[r] at m0;rw[r2] at m2;omega
theorem ga_fit {n d:Int} {B:Nat} (h:zGU n d B) (k:Nat) (hk:k<=65*B+126):(jE (gaT n d B) k).2+9<=Q (21*B+60):=by
 have b1:=h.b1
 have s:∀ j:Nat,(jE (gaT n d B) j).2<=((j:Int)+1)*Q (21*B+41):=λ j=>by
  induction j with
  | zero =>
   have:=ga_hi h 0
   show (gaT n d B 0).2<=(((0:Nat):Int)+1)*Q (21*B+41)
   have e:((0:Nat):Int)=0:=rfl;rw[e];omega
  | succ j ih =>
   have:=ga_hi h (j+1);have e:(jE (gaT n d B) (j+1)).2=(jE (gaT n d B) j).2+(gaT n d B (j+1)).2:=rfl;have ec:((j+1:Nat):Int)+1=((j:Int)+1)+1:=by omega
   have r:(((j:Int)+1)+1)*Q (21*B+41)=((j:Int)+1)*Q (21*B+41)+Q (21*B+41):=by grind
   rw[e,ec,r];omega
 have a:=s k;have q:=zE (21*B+41);have big:9<=Q (21*B+41):=by have:=zJ (show 4<=21*B+41 by omega);have:Q 4=16:=rfl;omega
 have m:=YA (show (k:Int)+1<=65127 by omega) (show 0<=Q (21*B+41) by omega)
 have e:Q (21*B+60)=Q (21*B+41)*Q 19:=by have:=jF (21*B+41) 19;exact this
 have rV:Q 19=524288:=rfl;rw[rV] at e;omega
theorem mulI_sq {B:Nat} {a:Int × Int} (h0:0<=a.1) (hl:a.1<=a.2):(zAH B a a).1=a.1*a.1/Q B/\(zAH B a a).2 = -(-(a.2*a.2)/Q B):=by
 obtain⟨l1,l2,l3,l4,lh⟩:=zEC (a.1*a.1) (a.1*a.2) (a.2*a.1) (a.2*a.2);obtain⟨g1,g2,g3,g4,gh⟩:=zDB (a.1*a.1) (a.1*a.2) (a.2*a.1) (a.2*a.2);have m1:=YD hl h0;have m2:=YA hl h0;have m3:=YD hl (show 0<=a.2 by omega)
 have m4:=YA hl (show 0<=a.2 by omega)
 unfold zAH;have e1:kJ (pr4 (a.1*a.1) (a.1*a.2) (a.2*a.1) (a.2*a.2)) 3=a.1*a.1:=by omega
 have e2:kA (pr4 (a.1*a.1) (a.1*a.2) (a.2*a.1) (a.2*a.2)) 3=a.2*a.2:=by omega
 rw[e1,e2];exact⟨rfl,rfl⟩
theorem sq_rel {B:Nat} {a:Int × Int} {C:Int} (h0:0<=a.1) (hl:a.1<=a.2) (hC:0<=C) (h:(a.2-a.1)*Q B<=C*a.2) (hq:Q B<=2*(zAH B a a).2):((zAH B a a).2-(zAH B a a).1)*Q B<=(2*C+4)*(zAH B a a).2:=by
 have q:=zE B;obtain⟨e1,e2⟩:=mulI_sq (B:=B) h0 hl;have f1:=kU (a.1*a.1) (show 0<Q B by omega)
 have f2:=kU (-(a.2*a.2)) (show 0<Q B by omega)
 have f3:=zDY (a.2*a.2) (show 0<Q B by omega)
 rw[<- e1] at f1;rw[<- e2] at f3
 have f4:((zAH B a a).2-1)*Q B<a.2*a.2:=by
  have:(-(a.2*a.2)/Q B+1)*Q B = -(((zAH B a a).2-1)*Q B):=by rw[e2];grind
  omega
 generalize (zAH B a a).1=x at *;generalize (zAH B a a).2=y at *
 have g1:(y-x)*Q B<=a.2*a.2-a.1*a.1+2*Q B:=by
  have r1:(y-1)*Q B=y*Q B-Q B:=by grind
  have r2:(x+1)*Q B=x*Q B+Q B:=by grind
  have r3:(y-x)*Q B=y*Q B-x*Q B:=by grind
  omega
 have m1:=YD h (show 0<=2*a.2 by omega)
 have m2:(a.2*a.2-a.1*a.1)*Q B<=2*a.2*((a.2-a.1)*Q B):=by
  have r:a.2*a.2-a.1*a.1=2*a.2*(a.2-a.1)-(a.2-a.1)*(a.2-a.1):=by grind
  have s:=YF (show 0<=a.2-a.1 by omega) (show 0<=a.2-a.1 by omega)
  have m:=YA (show a.2*a.2-a.1*a.1<=2*a.2*(a.2-a.1) by omega) (show 0<=Q B by omega)
  have r2:2*a.2*(a.2-a.1)*Q B=2*a.2*((a.2-a.1)*Q B):=by grind
  omega
 have m3:=YD f3 (show 0<=2*C by omega)
 have r4:2*a.2*(C*a.2)=2*C*(a.2*a.2):=by grind
 have r5:2*C*(y*Q B)=2*C*y*Q B:=by grind
 rw[r4] at m1;rw[r5] at m3;have m4:a.2*a.2-a.1*a.1<=2*C*y:=Int.le_of_mul_le_mul_right (a:=Q B) (by omega) (by omega)
 have r6:(2*C+4)*y=2*C*y+4*y:=by grind
 omega
theorem sqs_rel {B:Nat} {d:Int × Int} {C:Int} (hB:40<=B) (hd:d.1<=d.2) (hl:Q B-1<=d.1) (hC:0<=C) (h:(d.2-d.1)*Q B<=C*d.2) (i:Nat) (hi:i<=20) :
  ((sqI B d i).2-(sqI B d i).1)*Q B<=(Q i*(C+4)-4)*(sqI B d i).2:=by
 have h4:=zJ hB;have e2:Q 40=1099511627776:=rfl
 induction i with
 | zero =>
  show (d.2-d.1)*Q B<=(1*(C+4)-4)*d.2
  have:1*(C+4)-4=C:=by omega
  rw[this];exact h
 | succ i ih =>
  have i1:=ih (by omega)
  have qi:=zJ (show i+1<=20 by omega)
  have Iz:Q 20=1048576:=rfl;have es:Q (i+1)=2*Q i:=rfl;have q0:=zE i;obtain⟨l1,l2⟩:=zN4 (B:=B) hd i (by omega) hl
  obtain⟨l3,l4⟩:=zN4 (B:=B) hd (i+1) (by omega) hl
  have m:=YA q0 (show 0<=C+4 by omega)
  have r:=sq_rel (B:=B) (a:=sqI B d i) (C:=Q i*(C+4)-4) (by omega) l2 (by omega) i1 (by
   have e:(zAH B (sqI B d i) (sqI B d i)).2=(sqI B d (i+1)).2:=rfl
   rw[e];omega)
  have ec:2*(Q i*(C+4)-4)+4=Q (i+1)*(C+4)-4:=by rw[es];grind
  rw[ec] at r;exact r
theorem bal_nat {B:Nat} {n' d' c:Int} (h0:40<=B) (h1:B<=1000) (h:Bal (B:Int) 1 n' d' c):0<=c/\c<=10/\4*(c+1)<=(B:Int):=by
 obtain⟨⟨n0,d0,g1,g2⟩,h2,h3⟩:=h
 have c0:0<=c:=Int.not_lt.1 λ hc=>by
  have e:=h3 hc;have q:=zE (-c).toNat;have m:=YD q (show 0<=(B:Int)*d' from YF (by omega) (by omega))
  have m2:=YA (show (40:Int)<=(B:Int) by omega) (show 0<=d' by omega)
  omega
 have e:=h2 c0;obtain⟨k,hk⟩:∃ k:Nat,c=(k:Int):=⟨c.toNat,by omega⟩
 subst hk;have ek:((k:Int)).toNat=k:=by omega
 rw[ek] at e;have qk:=zE k
 have le:Q k<=2*(B:Int):=by
  have m:=YD (show d'<=2*n' by omega) (show 0<=(B:Int) by omega)
  refine Int.le_of_mul_le_mul_left (a:=n') ?_ n0;have r1:n'*1*Q k=n'*Q k:=by grind
  have r2:(B:Int)*(2*n')=n'*(2*(B:Int)):=by grind
  omega
 have cX:k<=10:=Nat.not_lt.1 λ hk=>by
  have:=zJ (show 11<=k by omega)
  have:Q 11=2048:=rfl;omega
 refine⟨by omega,by omega,?_⟩
 by_cases c9:k<=9
 ·omega
 ·have:k=10:=by omega
  subst this;have:Q 10=1024:=rfl;omega
def gaY (n d:Int) (B:Nat) (o:Int × Int):Int × Int:=zI7 (ofI (B:Int) 1 B) (zK o n d)
structure zP1 (L:Rat->Nat->Rat) (B:Nat) (o:Int × Int):Prop where
 le:o.1<=o.2
 ab:Abs o ((B:Int)*Q B)
 wd:o.2-o.1<=44*(B:Int)+308
 iv:Iv B o (L (B:Rat))
theorem gaLog_of {L:Rat->Nat->Rat} (hL:Lns L) {B:Nat} (h0:40<=B) (h1:B<=1000) {n' d' c:Int} {N N2:Nat} (h:Bal (B:Int) 1 n' d' c) (hN:zU (lnT n' d' B) N) (Z7:zU (lnT 2 1 B) N2):zP1 L B (zGR (zN (lnT n' d' B) N) (zN (lnT 2 1 B) N2) c):=by
 obtain⟨c0,c1,c2⟩:=bal_nat h0 h1 h;obtain⟨b1,b2,b3⟩:=zF9 (k:=c) h.1 (show 16<=B by omega) hN Z7 c (by omega) (by omega)
 obtain⟨l,il,iv⟩:=zGA (show (0:Int)<(B:Int) by omega) (by omega) h B N N2
 have q:=zE B;refine⟨b1,b2.mono ?_,?_,?_⟩
 ·have m:=YA c2 (show 0<=Q B by omega)
  have r:(c+1)*(4*Q B)=4*(c+1)*Q B:=by grind
  omega
 ·have m:=YA (show c+1<=11 by omega) (show 0<=2*(((B:Int)/3+2)*6+2) by omega)
  omega
 ·have e:(λ (_:Nat)=>((B:Int):Rat)/((1:Int):Rat))=λ _=>(B:Rat):=by
   funext _
   have e1:((1:Int):Rat)=1:=rfl;have e2:((B:Int):Rat)=(B:Rat):=rfl;rw[e1,e2,YK];have:(1:Rat)⁻¹=1:=by decide +kernel
   rw[this,Rat.mul_one]
  rw[e] at il;have b0:(0:Rat)<(B:Rat):=by exact_mod_cast (show 0<B by omega)
  exact iv.congr ((hL _ b0).uniq il)
theorem gaY_ok {L:Rat->Nat->Rat} {n d:Int} {B:Nat} {o:Int × Int} (h:zGU n d B) (ho:zP1 L B o):0<=(gaY n d B o).1/\(gaY n d B o).1<=(gaY n d B o).2/\(gaY n d B o).2-(gaY n d B o).1<=44*(B:Int)+309/\zW (gaY n d B o)<Q (B+11)/\Iv B (gaY n d B o) (λ M=>(B:Rat)-(n:Rat)/(d:Rat)*L (B:Rat) M):=by
 have n0:=h.n0;have nd:=h.nd;have b0:=h.b0;have b1:=h.b1;have d0:0<d:=by omega
 have q:=zE B;have sa:=zEX ho.ab d0 (show 0<=n by omega) nd
 have sl:=kM ho.le d0 (show 0<=n by omega)
 have sw:=kI (a:=o) (n:=n) (d:=d) (c:=o.2-o.1) d0 (YD nd (by have:=ho.le;omega))
 have e1:(ofI (B:Int) 1 B).1=(B:Int)*Q B:=Int.ediv_one _;have e2:(ofI (B:Int) 1 B).2=(B:Int)*Q B:=by show -(-((B:Int)*Q B)/1)=_;rw[Int.ediv_one];omega
 have g1:(gaY n d B o).1=(B:Int)*Q B-(zK o n d).2:=by show (ofI (B:Int) 1 B).1-_=_;rw[e1]
 have g2:(gaY n d B o).2=(B:Int)*Q B-(zK o n d).1:=by show (ofI (B:Int) 1 B).2-_=_;rw[e2]
 obtain⟨s1,s2,s3,s4⟩:=sa;have wd:=ho.wd;have lo:0<=(gaY n d B o).1:=by omega
 refine⟨lo,by omega,by omega,?_,?_⟩
 ·have r:zW (gaY n d B o)<=2*((B:Int)*Q B):=zAD ⟨by omega,by omega,by omega,by omega⟩
  have e:Q (B+11)=Q B*Q 11:=jF B 11;have Wz:Q 11=2048:=rfl;rw[Wz] at e;have m:=YA (show (B:Int)<=1000 by omega) (show 0<=Q B by omega)
  omega
 ·have i1:=Iv.of B (n:=(B:Int)) (d:=1) (by decide)
  have i2:=ho.iv.scale (n:=n) (d:=d) (by omega) d0
  refine Has.of_eq (i1.sub i2) λ M=>?_
  have e1:((1:Int):Rat)=1:=rfl;have e2:((B:Int):Rat)=(B:Rat):=rfl
  have e3:(B:Rat)/1=(B:Rat):=by
   rw[YK];have:(1:Rat)⁻¹=1:=by decide +kernel
   rw[this,Rat.mul_one]
  rw[e1,e2,e3]
def gaE (n d:Int) (B:Nat) (o:Int × Int) (t N:Nat):Int × Int:=sqI B (zN (zV B (zG (gaY n d B o) t)) N) t
theorem gaE_ok {L:Rat->Nat->Rat} {n d:Int} {B t N:Nat} {o:Int × Int} (h:zGU n d B) (ho:zP1 L B o) (ht:t<=19) (hA:Abs (zG (gaY n d B o) t) (Q (B-8))) (hN:zU (zV B (zG (gaY n d B o) t)) N) :
  Q B+1<=2*(gaE n d B o t N).1/\(gaE n d B o t N).1<=(gaE n d B o t N).2/\(gaE n d B o t N).2<=Q (B+6144)/\((gaE n d B o t N).2-(gaE n d B o t N).1)*Q B<=9900000*((B:Int)*(B:Int))*(gaE n d B o t N).2/\Iv B (gaE n d B o t N) (Ev (λ M=>(B:Rat)-(n:Rat)/(d:Rat)*L (B:Rat) M)):=by
 obtain⟨y1,y2,y3,y4,y5⟩:=gaY_ok h ho;have b0:=h.b0;have b1:=h.b1;have q:=zE t;have qB:=zE B
 obtain⟨g1,g2,g3,g4⟩:=zB9 (ws:=44*(B:Int)+309) (by omega) hA y2 (by
  have m:=YD q (show 0<=44*(B:Int)+309 by omega)
  omega) hN
 have hs:0<=(zG (gaY n d B o) t).1:=Int.ediv_nonneg y1 (by omega)
 have Y5:(zG (gaY n d B o) t).1<=(zG (gaY n d B o) t).2:=by
  have:=kM (a:=gaY n d B o) (n:=1) (d:=Q t) y2 (by omega) (by omega)
  simpa [zK,zG] using this
 have dl:=zMW hs Y5 hN;have dle:=zCN (zAF B (zG (gaY n d B o) t)) N;have sl:=zN4 (B:=B) dle t (zJ (by omega)) dl
 have h3:=zJ (show t<=19 by omega)
 have h4:=zJ b0;have rV:Q 19=524288:=rfl;have IA:Q 40=1099511627776:=rfl;have rZ:eb 19=6144:=by decide
 have ebm:=zBW (show t<=19 by omega)
 rw[rZ] at ebm;have up:=(g2.mono (zJ (show B+eb t<=B+6144 by omega))).2.2.2
 have wd:(zG (gaY n d B o) t).2-(zG (gaY n d B o) t).1<=44*(B:Int)+309+1:=zBM (by omega) (by
  have m:=YD q (show 0<=44*(B:Int)+309 by omega)
  omega)
 have wD:=zB7 (zEA (by omega) hA Y5 wd) hN
 obtain⟨D,hD⟩:∃ D,D=zN (zV B (zG (gaY n d B o) t)) N:=⟨_,rfl⟩;rw[<- hD] at dl dle wD
 have wC:D.2-D.1<=((B:Int)/8+2)*(88*(B:Int)+624)+2:=by
  have m:=YA (show (N:Int)+1<=(B:Int)/8+2 by omega) (show 0<=2*(44*(B:Int)+309+1)+4 by omega)
  have r:2*(44*(B:Int)+309+1)+4=88*(B:Int)+624:=by omega
  rw[r] at m wD;omega
 obtain⟨C,hC⟩:∃ C,C=((B:Int)/8+2)*(88*(B:Int)+624)+4:=⟨_,rfl⟩;have C0:0<=C:=by have:=YF (show 0<=(B:Int)/8+2 by omega) (show 0<=88*(B:Int)+624 by omega);omega
 have BB:=Int.mul_le_mul (show (40:Int)<=(B:Int) by omega) (show (40:Int)<=(B:Int) by omega) (by omega) (by omega)
 have Cb:40*(C+4)<=735*((B:Int)*(B:Int)):=by
  have m:=Int.mul_le_mul (show 40*((B:Int)/8+2)<=7*(B:Int) by omega) (show 88*(B:Int)+624<=104*(B:Int) by omega) (by omega) (by omega)
  have r1:40*((B:Int)/8+2)*(88*(B:Int)+624)=40*(((B:Int)/8+2)*(88*(B:Int)+624)):=by grind
  have r2:7*(B:Int)*(104*(B:Int))=728*((B:Int)*(B:Int)):=by grind
  omega
 have rel:(D.2-D.1)*Q B<=C*D.2:=by
  have m1:=YA wC (show 0<=Q B by omega)
  have m2:=YD (show Q B<=D.2+1 by omega) (show 0<=C-2 by have:=YF (show 0<=(B:Int)/8+2 by omega) (show 0<=88*(B:Int)+624 by omega);omega)
  have r1:((B:Int)/8+2)*(88*(B:Int)+624)+2=C-2:=by omega
  rw[r1] at m1;have r2:(C-2)*(D.2+1)=C*D.2+C-2*D.2-2:=by grind
  have:C<=2*D.2+2:=by
   have m3:=Int.mul_le_mul (show (B:Int)<=1000 by omega) (show (B:Int)<=1000 by omega) (by omega) (by omega)
   omega
  omega
 have rs:=sqs_rel (B:=B) b0 dle dl C0 rel t (by omega)
 refine⟨?_,g1,up,?_,zES (by omega) y5 hA⟩
 ·show Q B+1<=2*(sqI B (zN (zV B (zG (gaY n d B o) t)) N) t).1
  omega
 ·show ((sqI B (zN (zV B (zG (gaY n d B o) t)) N) t).2-(sqI B (zN (zV B (zG (gaY n d B o) t)) N) t).1)*Q B<=9900000*((B:Int)*(B:Int))*(sqI B (zN (zV B (zG (gaY n d B o) t)) N) t).2
  rw[<- hD] at sl ⊢;refine Int.le_trans rs (YA ?_ (by omega))
  have m:=YA h3 (show 0<=C+4 by omega)
  rw[rV] at m;omega
end Go.Proofs.YtgmnknmjainabacGreat
