/-
  Its own texts.
-/
import Derived.Test.YtgmnknmjainabacGreatH16
set_option maxRecDepth 100000
set_option maxHeartbeats 40000000
set_option linter.unusedVariables false
namespace Go.Proofs.YtgmnknmjainabacGreat.Ex
def Nn (f:Nat->Rat):Prop:=∃ N:Nat,∀ M,N<=M->0<=f M
theorem Nn.mul {f g:Nat->Rat} (h:Nn f) (k:Nn g):Nn (λ M=>f M*g M):=by
 obtain⟨N1,h1⟩:=h;obtain⟨N2,h2⟩:=k;exact⟨N1+N2,λ M hM=>YV (h1 M (by omega)) (h2 M (by omega))⟩
theorem Nn.add {f g:Nat->Rat} (h:Nn f) (k:Nn g):Nn (λ M=>f M+g M):=by
 obtain⟨N1,h1⟩:=h;obtain⟨N2,h2⟩:=k;exact⟨N1+N2,λ M hM=>by have:=h1 M (by omega);have:=h2 M (by omega);grind⟩
theorem Nn.const {c:Rat} (h:0<=c):Nn (λ _=>c):=⟨0,λ _ _=>h⟩
theorem zPY {x:Nat->Rat} (h:Bdd x):Nn (Ev x):=by
 obtain⟨c,c0,N,k⟩:=zB9 h;exact⟨N,λ M hM=>Rat.le_trans (YZ c0) (k M hM)⟩
theorem zDO (a:Rat):Nn (ex a):=zPY (Bdd.const a)
theorem LeN.bmul {f g k:Nat->Rat} (h:LeN f g) (hk:Bdd k) (hn:Nn k):LeN (λ M=>f M*k M) (λ M=>g M*k M):=by
 obtain⟨z,hz,kz⟩:=h.null;obtain⟨N,hN⟩:=hn;refine LeN.of_null (hz.bmul hk) N λ M hM=>?_
 have:=YX (kz M) (hN M hM);grind
theorem LeN.cmul {f g:Nat->Rat} (h:LeN f g) {c:Rat} (hc:0<=c):LeN (λ M=>c*f M) (λ M=>c*g M):=by
 obtain⟨z,hz,kz⟩:=h.null;refine LeN.of_null (hz.bmul (Bdd.const c)) 0 λ M _=>?_
 have:=YT (kz M) hc;grind
theorem LeN.of_eqN {f g:Nat->Rat} (h:Null (λ M=>f M-g M)):LeN f g:=h.leN
theorem LeN.mul {f g f' g':Nat->Rat} (h:LeN f g) (h':LeN f' g') (b:Bdd f') (n:Nn f') (b2:Bdd g) (n2:Nn g):LeN (λ M=>f M*f' M) (λ M=>g M*g' M) :=
 (h.bmul b n).trans ((LeN.of_le 0 λ M _=>by show g M*f' M<=f' M*g M;grind).trans ((h'.bmul b2 n2).trans (LeN.of_le 0 λ M _=>by show g' M*g M<=g M*g' M;grind)))
theorem jR {a b c:Rat} (hc:0<c) (h:a*c<=b):a<=b/c:=Rat.le_of_mul_le_mul_right (by rw[rdm hc];exact h) hc
theorem zBP {a b c:Rat} (hc:0<c) (h:a<=b*c):a/c<=b:=Rat.le_of_mul_le_mul_right (by rw[rdm hc];exact h) hc
theorem zY {c a b:Rat} (hc:0<c) (h:c*a=c*b):a=b:=Rat.le_antisymm (Rat.le_of_mul_le_mul_left (by rw[h];exact Rat.le_refl) hc) (Rat.le_of_mul_le_mul_left (by rw[h];exact Rat.le_refl) hc)
def upT (a x:Rat):Nat->Rat
 | 0=>1/a
 | n+1=>x/(a+((n:Rat)+1))*upT a x n
theorem zBQ {a:Rat} (ha:0<a) (n:Nat):0<a+((n:Rat)+1):=by have:=zBN n;grind
theorem zAD {a:Rat} (ha:0<a) (x:Rat):a*upT a x 0=1:=by
 have:=rdm (a:=1) ha
 show a*(1/a)=1
 grind
theorem jW {a:Rat} (ha:0<a) (x:Rat) (n:Nat):(a+((n:Rat)+1))*upT a x (n+1)=x*upT a x n:=by
 have e:=rdm (a:=x) (zBQ ha n)
 show (a+((n:Rat)+1))*(x/(a+((n:Rat)+1))*upT a x n)=_
 have:(a+((n:Rat)+1))*(x/(a+((n:Rat)+1))*upT a x n)=x/(a+((n:Rat)+1))*(a+((n:Rat)+1))*upT a x n:=by grind
 rw[this,e]
theorem kH {a x:Rat} (ha:0<a) (h:0<=x) (n:Nat):0<=upT a x n:=by
 induction n with
 | zero=>exact jR ha (by grind)
 | succ n ih=>exact YV (jR (zBQ ha n) (by grind)) ih
theorem upT_next {a:Rat} (ha:0<a) (x:Rat) (n:Nat):a*upT a x (n+1)=x*upT (a+1) x n:=by
 induction n with
 | zero =>
  have e1:=jW ha x 0;have e2:=zAD ha x;have e3:=zAD (show 0<a+1 by grind) x
  refine zY (show 0<a+1 by grind) ?_
  have c:((0:Nat):Rat)=0:=rfl;rw[c] at e1;have k1:(a+1)*(a*upT a x (0+1))=a*((a+(0+1))*upT a x (0+1)):=by grind
  have k2:(a+1)*(x*upT (a+1) x 0)=x*((a+1)*upT (a+1) x 0):=by grind
  rw[k1,k2,e1,e3];have k3:a*(x*upT a x 0)=x*(a*upT a x 0):=by grind
  rw[k3,e2]
 | succ n ih =>
  have e1:=jW ha x (n+1);have e2:=jW (show 0<a+1 by grind) x n
  have c:((n+1:Nat):Rat)=(n:Rat)+1:=by push_cast;rfl
  rw[c] at e1;refine zY (show 0<a+((n:Rat)+1+1) by have:=zBN n;grind) ?_
  have k1:(a+((n:Rat)+1+1))*(a*upT a x (n+1+1))=a*((a+((n:Rat)+1+1))*upT a x (n+1+1)):=by grind
  have k2:(a+((n:Rat)+1+1))*(x*upT (a+1) x (n+1))=x*((a+1+((n:Rat)+1))*upT (a+1) x (n+1)):=by grind
  rw[k1,k2,e1,e2,<- ih];grind
def uS (a x:Rat) (M:Nat):Rat:=S (upT a x) M
theorem yX (a x:Rat) (M:Nat):uS a x (M+1)=uS a x M+upT a x M:=rfl
theorem zCF {a x:Rat} (ha:0<a) (h:0<=x) (M:Nat):0<=uS a x M:=by
 induction M with
 | zero=>show (0:Rat)<=0;grind
 | succ n ih=>have:=kH ha h n;rw[yX];grind
theorem zFT {a x:Rat} (ha:0<a) (h:0<=x) (M:Nat):1/a<=uS a x (M+1):=by
 induction M with
 | zero=>show 1/a<=0+1/a;grind
 | succ n ih=>have:=kH ha h (n+1);rw[yX];grind
theorem uS_next {a:Rat} (ha:0<a) (x:Rat) (M:Nat):a*uS a x (M+1)=1+x*uS (a+1) x M:=by
 induction M with
 | zero =>
  have:=zAD ha x
  show a*(0+upT a x 0)=1+x*0
  grind
 | succ n ih =>
  have:=upT_next ha x n;rw[yX a x (n+1),yX (a+1) x n];grind
theorem upT_tan {a x u:Rat} (ha:0<a) (hx:0<=x) (hu : -1<=u) (n:Nat):upT a x n+(n:Rat)*u*upT a x n<=upT a (x*(1+u)) n:=by
 induction n with
 | zero =>
  have c:((0:Nat):Rat)=0:=rfl
  show 1/a+((0:Nat):Rat)*u*(1/a)<=1/a
  rw[c];grind
 | succ n ih =>
  have e1:=jW ha x n;have e2:=jW ha (x*(1+u)) n;have c:((n+1:Nat):Rat)=(n:Rat)+1:=by push_cast;rfl
  have y0:=YV hx (show 0<=1+u by grind)
  have m:=YT ih y0;have p:=zBQ ha n;refine Rat.le_of_mul_le_mul_left (c:=a+((n:Rat)+1)) ?_ p;rw[e2,c];have k:(a+((n:Rat)+1))*(upT a x (n+1)+((n:Rat)+1)*u*upT a x (n+1))=(1+((n:Rat)+1)*u)*((a+((n:Rat)+1))*upT a x (n+1)):=by grind
  rw[k,e1];have n0:(0:Rat)<=(n:Rat):=by exact_mod_cast Nat.zero_le n
  have q:=YV (YV n0 (zP u)) (YV hx (kH ha hx n));grind
theorem uS_tan {a x u:Rat} (ha:0<a) (hx:0<=x) (hu : -1<=u) (M:Nat):uS a x (M+1)+u*(1+x*uS a x M-a*uS a x (M+1))<=uS a (x*(1+u)) (M+1):=by
 induction M with
 | zero =>
  have e:=zAD ha x;have e2:upT a (x*(1+u)) 0=upT a x 0:=rfl
  show 0+upT a x 0+u*(1+x*0-a*(0+upT a x 0))<=0+upT a (x*(1+u)) 0
  rw[e2];have:a*(0+upT a x 0)=1:=by rw[<- e];grind
  rw[this];grind
 | succ n ih =>
  have t:=upT_tan ha hx hu (n+1);have e1:=jW ha x n;have c:((n+1:Nat):Rat)=(n:Rat)+1:=by push_cast;rfl
  rw[c] at t;rw[yX a x (n+1),yX a (x*(1+u)) (n+1)];have e3:uS a x (n+1)=uS a x n+upT a x n:=rfl;have k:((n:Rat)+1)*u*upT a x (n+1)=u*(x*upT a x n)-u*(a*upT a x (n+1)):=by rw[<- e1];grind
  rw[k] at t;rw[e3] at ih ⊢;grind
theorem zT7 {a x y:Rat} (ha:0<a) (hx:0<=x) (P7:x<=y) (M:Nat):uS a x M<=uS a y M:=by
 have t:∀ n,upT a x n<=upT a y n:=by
  intro n
  induction n with
  | zero=>exact Rat.le_refl
  | succ n ih =>
   have e1:=jW ha x n;have e2:=jW ha y n;refine Rat.le_of_mul_le_mul_left (c:=a+((n:Rat)+1)) ?_ (zBQ ha n);rw[e1,e2];exact Rat.le_trans (YT ih hx) (YX P7 (kH ha (by grind) n))
 induction M with
 | zero=>exact Rat.le_refl
 | succ n ih=>have:=t n;rw[yX,yX];grind
theorem zUA {a x:Rat} (ha:0<a) (hx:0<=x) (n:Nat):a*upT a x n<=tm x n:=by
 induction n with
 | zero=>rw[zAD ha];exact Rat.le_refl
 | succ n ih =>
  have e1:=jW ha x n;have e2:=kV x n;have p:=zBN n;have q:=YV (YV (YZ ha) (YZ ha)) (kH ha hx (n+1));refine Rat.le_of_mul_le_mul_left (c:=(n:Rat)+1) ?_ p;have m:=YT ih hx;have k:((n:Rat)+1)*(a*upT a x (n+1))=a*((a+((n:Rat)+1))*upT a x (n+1))-a*a*upT a x (n+1):=by grind
  rw[k,e1,e2];grind
theorem zI8 {a x:Rat} (ha:0<a) (hx:0<=x):Null (upT a x):=by
 obtain⟨K,k0,hK⟩:=zPN x;have h1:Null (λ M=>K/a*((M:Rat)*q4 M)):=zB3 (K/a) (jR ha (by grind))
 refine h1.of_le 1 λ M hM=>?_
 have a1:=zUA ha hx M;have a2:=(hK M).2;have a3:=kH ha hx M;have m1:(1:Rat)<=(M:Rat):=by exact_mod_cast hM
 have q:=yE M;have d:=rdm (a:=K) ha;have m2:=YT m1 (YV k0 (YZ q))
 have key:upT a x M<=K/a*((M:Rat)*q4 M):=by
  refine Rat.le_of_mul_le_mul_left (c:=a) ?_ ha;have k:a*(K/a*((M:Rat)*q4 M))=K/a*a*((M:Rat)*q4 M):=by grind
  rw[k,d];grind
 exact⟨by grind,key⟩
theorem zK1 {a x:Rat} (ha:0<a) (hx:0<=x):∃ K,0<=K/\∀ M,uS a x M<=K:=by
 obtain⟨K,k0,hK⟩:=zDS x;refine⟨K/a,jR ha (by grind),λ M=>?_⟩
 have h:=(hK M x ⟨by grind,Rat.le_refl⟩).2
 have s:a*uS a x M<=E x M:=by
  induction M with
  | zero=>show a*0<=0;grind
  | succ n ih =>
   have t:=zUA ha hx n;have h':=(hK n x ⟨by grind,Rat.le_refl⟩).2
   have i:=ih h';have e:E x (n+1)=E x n+tm x n:=rfl;rw[yX,e];grind
 refine Rat.le_of_mul_le_mul_left (c:=a) ?_ ha;have d:=rdm (a:=K) ha;grind
theorem zDR {a x:Rat} (ha:0<a) (hx:0<=x):Bdd (uS a x):=by
 obtain⟨K,k0,hK⟩:=zK1 ha hx;exact Bdd.of_le K 0 λ M _=>⟨by have:=zCF ha hx M;grind,hK M⟩
end Go.Proofs.YtgmnknmjainabacGreat.Ex
namespace Go.Proofs.YtgmnknmjainabacGreat.Ex
def Lns (L:Rat->Nat->Rat):Prop:=∀ x,0<x->IsLog (L x) (λ _=>x)
def pr (L:Rat->Nat->Rat) (c x:Rat) (M:Nat):Rat:=Ev (λ M=>c*L x M) M
theorem kD {L:Rat->Nat->Rat} (hL:Lns L) {x:Rat} (hx:0<x) (c:Rat):Bdd (λ M=>c*L x M):=(Bdd.const c).mul (hL x hx).1
theorem kN {L:Rat->Nat->Rat} (hL:Lns L) {x:Rat} (hx:0<x) (c:Rat):Bdd (pr L c x):=zAH (kD hL hx c)
theorem zCU {L:Rat->Nat->Rat} (hL:Lns L) {x:Rat} (hx:0<x) (c:Rat):Nn (pr L c x):=zPY (kD hL hx c)
theorem zKM {L:Rat->Nat->Rat} (hL:Lns L) {x:Rat} (hx:0<x) (c d:Rat):Null (λ M=>pr L c x M*pr L d x M-pr L (c+d) x M):=by
 have h:=zAO (kD hL hx c) (kD hL hx d);refine h.of_eq λ M=>?_
 have e:Ev (λ M=>c*L x M+d*L x M) M=pr L (c+d) x M:=by unfold pr Ev;congr 1;grind
 rw[e];rfl
theorem zFC {L:Rat->Nat->Rat} (hL:Lns L) {x:Rat} (hx:0<x):Null (λ M=>pr L 1 x M-x):=by
 refine (hL x hx).2.of_eq λ M=>?_
 show E (1*L x M) M-x=E (L x M) M-x
 rw[Rat.one_mul]
theorem zIG {L : Rat → Nat → Rat} (hL : Lns L) {x r : Rat} (hx : 0 < x) (hr : 0 < r) : IsLog (fun M => L (x * r) M - L x M) (fun _ => r) := by
  have h1 := hL (x * r) (Rat.mul_pos hx hr)
  have d := rdm (a := 1) hx
  have h2 := (hL x hx).neg (s := fun _ => 1 / x) (Bdd.const _) 0 (fun M _ => d)
  have h3 := h1.add h2
  have e : (fun (_ : Nat) => x * r * (1 / x)) = fun _ => r := by funext _; have : x * r * (1 / x) = 1 / x * x * r := by grind
                                                                 rw [this, d]; grind
  rw [e] at h3
  have e2 : (fun M => L (x * r) M + -L x M) = fun M => L (x * r) M - L x M := by funext M; grind
  rw [e2] at h3
  exact h3
theorem zOK {h:Rat} (hb:AB h (1/4)) {M:Nat} (hM:2<=M):AB (E h M-1-h) (2*(h*h)):=by
 by_cases c:0<=h
 ·exact zBI (b:=h) ⟨by grind,Rat.le_refl⟩ hb.2 hM
 ·have:=zBI (h:=h) (b := -h) ⟨by grind,by grind⟩ (by have:=hb.1;grind) hM
  have e : -h * -h=h*h:=by grind
  rw[e] at this;exact this
theorem zCP (c:Rat):IsLog (λ _=>c) (ex c):=⟨Bdd.const c,null_zero.of_eq λ M=>by unfold ex;grind⟩
theorem zM2 {d:Nat->Rat} {u:Rat} (h:IsLog d (λ _=>1+u)) (hu:AB u (1/16)):LeN (λ _=>u-4*(u*u)) d:=by
 have uu:=zP u
 have a1:u*u<=1/256:=by
  by_cases c:0<=u
  ·have:=YT hu.2 c;have:=hu.2;grind
  ·have:=YT (show -u<=1/16 by have:=hu.1;grind) (show 0 <= -u by grind);have:=hu.1;grind
 intro e he
 have hb:AB (u-4*(u*u)) (1/4):=⟨by have:=hu.1;grind,by have:=hu.2;grind⟩
 refine (zCP (u-4*(u*u))).le h null_zero 2 (λ M hM=>?_) e he
 have k:=(zOK hb (M:=M) hM).2
 show E (u-4*(u*u)) M<=1+u+0
 have q:(u-4*(u*u))*(u-4*(u*u))=u*u*((1-4*u)*(1-4*u)):=by grind
 have r:(1-4*u)*(1-4*u)<=2:=by have:=hu.1;grind
 have m:=YT r uu;grind
theorem pr_tan {L:Rat->Nat->Rat} (hL:Lns L) {a x u:Rat} (ha:0<=a) (hx:0<x) (hu:AB u (1/16)) (XC:AB (a*u) (1/8)):LeN (λ M=>(1+a*u-(4*a+4*(a*a))*(u*u))*pr L a x M) (pr L a (x*(1+u))):=by
 have r0:0<1+u:=by have:=hu.1;grind
 have hd:=zIG hL hx r0;have low:=zM2 hd hu;obtain⟨z,hz,kz⟩:=(low.cmul ha).null;have bd:Bdd (λ M=>a*(L (x*(1+u)) M-L x M)):=(Bdd.const a).mul hd.1
 obtain⟨v,hv,N,kv⟩:=zCV (x:=λ _=>a*(u-4*(u*u))) (Bdd.const _) bd hz 0 (λ M _=>kz M)
 have uu:=zP u
 have hb:AB (a*(u-4*(u*u))) (1/4):=by
  have e:a*(u-4*(u*u))=a*u*(1-4*u):=by grind
  rw[e];exact (XC.mul (show AB (1-4*u) 2 from⟨by have:=hu.2;grind,by have:=hu.1;grind⟩)).mono (by grind)
 have l1:LeN (λ _=>1+a*u-(4*a+4*(a*a))*(u*u)) (Ev (λ M=>a*(L (x*(1+u)) M-L x M))):=by
  refine LeN.of_null hv (N+2) λ M hM=>?_
  have k:=(zOK hb (M:=M) (by omega)).1
  have k2:=kv M (by omega)
  have e2:Ev (λ _=>a*(u-4*(u*u))) M=E (a*(u-4*(u*u))) M:=rfl
  rw[e2] at k2;have q:a*(u-4*(u*u))*(a*(u-4*(u*u)))=a*a*(u*u)*((1-4*u)*(1-4*u)):=by grind
  have r:(1-4*u)*(1-4*u)<=2:=by
   have a1:u*u<=1/256:=by
    by_cases c:0<=u
    ·have:=YT hu.2 c;have:=hu.2;grind
    ·have:=YT (show -u<=1/16 by have:=hu.1;grind) (show 0 <= -u by grind);have:=hu.1;grind
   have:=hu.1;grind
  have m:=YT r (YV (YV ha ha) uu);rw[q] at k;generalize a*a*(u*u)*((1-4*u)*(1-4*u))=w at *;generalize Ev (λ M=>a*(L (x*(1+u)) M-L x M)) M=w2 at *
  generalize E (a*(u-4*(u*u))) M=w3 at *;grind
 refine (l1.bmul (kN hL hx a) (zCU hL hx a)).trans ?_;have s:=zAO bd (kD hL hx a);refine LeN.of_eqN (s.of_eq λ M=>?_)
 have e:Ev (λ M=>a*(L (x*(1+u)) M-L x M)+a*L x M) M=pr L a (x*(1+u)) M:=by unfold pr Ev;congr 1;grind
 rw[e];rfl
theorem ex_tan {x u:Rat} (hu:AB (x*u) (1/4)):LeN (λ M=>(1-x*u-2*(x*x)*(u*u))*ex (-x) M) (ex (-(x*(1+u)))):=by
 have l1:LeN (λ _=>1-x*u-2*(x*x)*(u*u)) (ex (-(x*u))):=LeN.of_le 2 λ M hM=>by
  have k:=(zOK (h := -(x*u)) hu.neg hM).1
  show _<=E (-(x*u)) M
  grind
 refine (l1.bmul (yD _) (zDO _)).trans ?_;have s:=zC2 (-(x*u)) (-x);refine LeN.of_eqN (s.of_eq λ M=>?_)
 have e : -(x*u) + -x = -(x*(1+u)):=by grind
 rw[e]
def uG (L:Rat->Nat->Rat) (a x:Rat) (M:Nat):Rat:=pr L a x M*ex (-x) M*uS a x M
theorem tan_poly {a x u s c q1 q2 q3:Rat} (h1:q1=1+a*u-c*(u*u)) (h2:q2=1-x*u-2*(x*x)*(u*u)) (h3:q3=s+u*(1+x*s-a*s)):q1*q2*q3-(s+u)=u*u*((a-x)*(1+x*s-a*s)+(-(a*x)-2*(x*x)-c+u*(c*x-2*(a*(x*x)))+u*u*(2*(c*(x*x))))*q3):=by
 rw[h1,h2,h3];grind
theorem zKX {a x u s c Y K:Rat} (ha:0<=a) (hc:0<=c) (hx:AB x Y) (hs:AB s K) (hu:AB u 1):AB ((a-x)*(1+x*s-a*s)+(-(a*x)-2*(x*x)-c+u*(c*x-2*(a*(x*x)))+u*u*(2*(c*(x*x))))*(s+u*(1+x*s-a*s))) ((a+Y)*(1+Y*K+a*K)+(a*Y+2*(Y*Y)+c+1*(c*Y+2*(a*(Y*Y)))+1*1*(2*(c*(Y*Y))))*(K+1*(1+Y*K+a*K))):=by
 have A:AB a a:=⟨by grind,Rat.le_refl⟩
 have C:AB c c:=⟨by grind,Rat.le_refl⟩
 have one:AB (1:Rat) 1:=⟨by grind,Rat.le_refl⟩
 have two:AB (2:Rat) 2:=⟨by grind,Rat.le_refl⟩
 have p1:=(one.add (hx.mul hs)).sub (A.mul hs);have p2:=(((((A.mul hx).neg.sub (two.mul (hx.mul hx))).sub C).add (hu.mul ((C.mul hx).sub (two.mul (A.mul (hx.mul hx)))))).add ((hu.mul hu).mul (two.mul (C.mul (hx.mul hx)))));exact ((A.sub hx).mul p1).add (p2.mul (hs.add (hu.mul p1)))
theorem zHL {f:Nat->Rat} (h:Null f):Null (λ M=>f (M-1)):=λ e he=>by
 obtain⟨N,hN⟩:=h e he;exact⟨N+1,λ M hM=>hN (M-1) (by omega)⟩
theorem uS_tanN {a x u:Rat} (ha:0<a) (hx:0<=x) (hu : -1<=u):LeN (λ M=>uS a x M+u*(1+x*uS a x M-a*uS a x M)) (uS a (x*(1+u))):=by
 have z:=(zHL (zI8 ha hx)).bmul (Bdd.const (u*x));refine LeN.of_null z 1 λ M hM=>?_
 obtain⟨m,rfl⟩:∃ m,M=m+1:=⟨M-1,by omega⟩
 have t:=uS_tan ha hx hu m;have e:uS a x (m+1)=uS a x m+upT a x m:=rfl;simp only[Nat.add_sub_cancel];have e2:uS a x m=uS a x (m+1)-upT a x m:=by grind
 rw[e2] at t;grind
theorem uG_tan {L:Rat->Nat->Rat} (hL:Lns L) {a Y:Rat} (ha:0<a) (hY:0<Y):∃ C D,0<=C/\0<D/\D<=1/16/\∀ x u,0<x->x<=Y->AB u D->LeN (λ M=>uG L a x M+u*(pr L a x M*ex (-x) M)) (λ M=>uG L a (x*(1+u)) M+C*(u*u)):=by
 obtain⟨K,k0,hK⟩:=zK1 ha (YZ hY);obtain⟨V,N0,v0,hV⟩:=kN hL hY a;obtain⟨c,hc⟩:∃ c,c=4*a+4*(a*a):=⟨_,rfl⟩;have a0:=YZ ha;have aa:=YV a0 a0;have y0:=YZ hY;have c0:0<=c:=by grind
 obtain⟨C1,og⟩:∃ C1,C1=(a+Y)*(1+Y*K+a*K)+(a*Y+2*(Y*Y)+c+1*(c*Y+2*(a*(Y*Y)))+1*1*(2*(c*(Y*Y))))*(K+1*(1+Y*K+a*K)):=⟨_,rfl⟩;have D0:0<16*(1+a+Y):=by grind
 have dm:=rdm (a:=1) D0;have dp:0<1/(16*(1+a+Y)):=zK (by grind) D0
 obtain⟨D,hD⟩:∃ D,D=1/(16*(1+a+Y)):=⟨_,rfl⟩;rw[<- hD] at dm dp;have Da:=YV (YZ dp) a0;have Dy:=YV (YZ dp) y0
 have Er:0<=C1:=by
  have:=(zKX (x:=0) (u:=0) (s:=0) (Y:=Y) (K:=K) a0 c0 ⟨by grind,y0⟩ ⟨by grind,k0⟩ ⟨by grind,by grind⟩).nonneg
  rw[og];exact this
 refine⟨C1*((V+1)*2),D,YV Er (by grind),dp,by grind,λ x u hx hxY hu=>?_⟩
 have FW:D<=1/16:=by grind
 have u16:AB u (1/16):=hu.mono FW;have au:AB (a*u) (1/8):=((show AB a a from⟨by grind,Rat.le_refl⟩).mul hu).mono (by grind)
 have x0:=YZ hx;have xu:AB (x*u) (1/4):=((show AB x Y from⟨by grind,hxY⟩).mul hu).mono (by grind)
 have r0:0<1+u:=by have:=u16.1;grind
 have qX:0<x*(1+u):=Rat.mul_pos hx r0;have l1:=pr_tan hL a0 hx u16 au;have l2:=ex_tan xu;have l3:=uS_tanN ha x0 (show -1<=u by have:=u16.1;grind)
 obtain⟨q1,h1⟩:∃ q1,q1=1+a*u-c*(u*u):=⟨_,rfl⟩;obtain⟨q2,h2⟩:∃ q2,q2=1-x*u-2*(x*x)*(u*u):=⟨_,rfl⟩;rw[<- hc,<- h1] at l1;rw[<- h2] at l2;have uu16:u*u<=1/16*(1/16):=(u16.mul u16).2
 have wB:0<=q2:=by
  have:=(xu.mul xu).2;have:=xu.2;grind
 have QP:=l1.mul l2 ((Bdd.const q2).mul (yD (-x))) ((Nn.const wB).mul (zDO (-x))) (kN hL qX a) (zCU hL qX a);have sB:=zDR ha x0;have RT:Bdd (λ M=>uS a x M+u*(1+x*uS a x M-a*uS a x M)):=sB.add ((Bdd.const u).mul (((Bdd.const 1).add ((Bdd.const x).mul sB)).sub ((Bdd.const a).mul sB)))
 have RV:Nn (λ M=>uS a x M+u*(1+x*uS a x M-a*uS a x M)):=⟨1,λ M hM=>by
  obtain⟨m,rfl⟩:∃ m,M=m+1:=⟨M-1,by omega⟩
  have f:=zFT ha x0 m;have d:=rdm (a:=1) ha
  have s1:1<=a*uS a x (m+1):=by
   have:=YT f a0;grind
  show 0<=uS a x (m+1)+u*(1+x*uS a x (m+1)-a*uS a x (m+1))
  generalize uS a x (m+1)=s at *;have s0:0<=s:=by have:=jR (a:=0) (b:=1) ha (by grind);grind
  have t1:=YX (xu.1) s0;have t2:=YX (au.2) s0
  have t3 : -(1/2)*s<=u:=by
   have m1:=YX au.1 s0
   by_cases cu:0<=u
   ·grind
   ·have:=YT s1 (show 0 <= -u by grind)
    grind
  grind⟩
 have px:Bdd (λ M=>pr L a (x*(1+u)) M*ex (-(x*(1+u))) M):=(kN hL qX a).mul (yD _)
 have pn:Nn (λ M=>pr L a (x*(1+u)) M*ex (-(x*(1+u))) M):=(zCU hL qX a).mul (zDO _)
 have l:=QP.mul l3 RT RV px pn
 have pmono:LeN (pr L a x) (pr L a Y):=by
  have le:=λ e he=>(hL x hx).le (hL Y hY) null_zero 0 (λ M _=>by grind) e he
  have lz:LeN (λ M=>a*L x M) (λ M=>a*L Y M):=LeN.cmul le a0
  obtain⟨z,hz,kz⟩:=lz.null;obtain⟨v,hv,N,kv⟩:=zCV (kD hL hx a) (kD hL hY a) hz 0 (λ M _=>kz M)
  exact LeN.of_null hv N kv
 obtain⟨N1,n1⟩:=pmono 1 (by grind)
 obtain⟨N2,n2⟩:=(zH3 (a := -x) (b:=0) (by grind)) (1/2) (by grind)
 obtain⟨N3,n3⟩:=zCU hL hx a;obtain⟨N4,n4⟩:=zDO (-x);refine LeN.trans (LeN.of_le (N0+N1+N2+N3+N4+2) λ M hM=>?_) (l.add (LeN.refl λ _=>C1*((V+1)*2)*(u*u)))
 have a1:=n1 M (by omega)
 have a2:=n2 M (by omega)
 have a3:=n3 M (by omega)
 have a4:=n4 M (by omega)
 have a5:=(hV M (by omega)).2
 have e0:ex 0 M=1:=by
  obtain⟨m,rfl⟩:∃ m,M=m+1:=⟨M-1,by omega⟩
  exact E_zero m
 rw[e0] at a2;have sK:AB (uS a x M) K:=⟨by have:=zCF ha x0 M;grind,Rat.le_trans (zT7 ha x0 hxY M) (hK M)⟩
 have tb:=zKX (x:=x) (u:=u) (s:=uS a x M) (Y:=Y) (K:=K) a0 c0 ⟨by grind,hxY⟩ sK (hu.mono (by grind))
 rw[<- og] at tb;have tp:=tan_poly (a:=a) (x:=x) (u:=u) (s:=uS a x M) (c:=c) h1 h2 rfl;have uu:=zP u;have m1:=YT tb.1 uu;have pX:=YV a3 a4;have pV:pr L a x M*ex (-x) M<=(V+1)*2:=Rat.le_trans (YX (show pr L a x M<=V+1 by grind) a4) (YT (by grind) (by grind))
 have key:uS a x M+u<=q1*q2*(uS a x M+u*(1+x*uS a x M-a*uS a x M))+C1*(u*u):=by
  rw[<- tp] at m1;grind
 have m2:=YX key pX;have m3:=YT pV (YV Er uu)
 show uG L a x M+u*(pr L a x M*ex (-x) M)<=_
 unfold uG;generalize uS a x M+u*(1+x*uS a x M-a*uS a x M)=q3 at *;clear tb tp m1 key l l1 l2 l3 QP RT RV px pn pmono og h1 h2 hc;generalize uS a x M=s at *;generalize pr L a x M=p at *;generalize ex (-x) M=xx at *;have r1:q1*p*(q2*xx)*q3=q1*q2*q3*(p*xx):=by grind
 rw[r1];have r2:(s+u)*(p*xx)=p*xx*s+u*(p*xx):=by grind
 have r3:(q1*q2*q3+C1*(u*u))*(p*xx)=q1*q2*q3*(p*xx)+C1*(u*u)*(p*xx):=by grind
 rw[r2,r3] at m2;have r4:C1*((V+1)*2)*(u*u)=C1*(u*u)*((V+1)*2):=by grind
 rw[r4];exact Rat.le_trans m2 (Rat.add_le_add_left.2 m3)
end Go.Proofs.YtgmnknmjainabacGreat.Ex
namespace Go.Proofs.YtgmnknmjainabacGreat.Ex
theorem zOQ {h t:Rat} (ht:0<t):t*(1+h/t)=t+h:=by
 have:=rdm (a:=h) ht;have e:t*(1+h/t)=t+h/t*t:=by grind
 rw[e,this]
theorem div_bd {h t x i:Rat} (hh:0<=h) (ht:x<=t) (t0:0<t) (i0:0<=i) (ix:i*x=1):h/t<=h*i:=by
 refine zBP t0 ?_;have m:=YT ht (YV hh i0);have e:h*i*x=h*(i*x):=by grind
 rw[e,ix] at m;grind
theorem zJ7 {h x i D:Rat} (i0:0<=i) (ix:i*x=1) (h1:h<=D*x):h*i<=D:=by
 have m:=YX h1 i0;have e:D*x*i=D*(i*x):=by grind
 rw[e,ix] at m;grind
theorem zME {L:Rat->Nat->Rat} (hL:Lns L) {a x y:Rat} (ha:0<a) (hx:0<x) (P7:x<=y):LeN (uG L a x) (uG L a y):=by
 obtain⟨C,D,C0,D0,FW,tan⟩:=uG_tan hL ha (show 0<y by grind)
 have ix:=rdm (a:=1) hx;have ip:0<1/x:=zK (by grind) hx
 obtain⟨i,hi⟩:∃ i,i=1/x:=⟨_,rfl⟩;rw[<- hi] at ix ip
 have key:=zDX (f:=λ t M => -uG L a t M) (a:=x) (b:=y) (C:=C*(i*i)) (D:=D*x) P7 (YV C0 (zP i)) (Rat.mul_pos D0 hx) (λ t h ht hh hD hb=>by
  have t0:0<t:=by grind
  have um:=rdm (a:=h) t0;have u0:0<h/t:=zK hh t0;have uh:h/t<=h*i:=div_bd (YZ hh) ht t0 (YZ ip) ix;have hiD:h*i<=D:=zJ7 (YZ ip) ix hD;have l:=tan t (h/t) t0 (by grind) ⟨by grind,by grind⟩
  rw[zOQ t0] at l;obtain⟨z,hz,kz⟩:=l.null;obtain⟨N,hN⟩:=(zCU hL t0 a).mul (zDO (-t));refine⟨z,hz,N,λ M hM=>?_⟩
  have k:=kz M;have n:=YV (YZ u0) (hN M hM);have m1:=YT uh (YZ u0);have m2:=YX uh (YV (YZ hh) (YZ ip));have m3:=YT (show h/t*(h/t)<=h*i*(h*i) by grind) C0
  simp only[] at k n;have e:C*(h*i*(h*i))=C*(i*i)*(h*h):=by grind
  rw[e] at m3;generalize C*(h/t*(h/t))=w1 at *;generalize C*(i*i)*(h*h)=w2 at *;generalize h/t*(pr L a t M*ex (-t) M)=w3 at *
  grind)
 intro e he
 obtain⟨N,k⟩:=key e he;exact⟨N,λ M hM=>by have:=k M hM;simp only[] at this;grind⟩
def uE (L:Rat->Nat->Rat) (a x:Rat) (M:Nat):Rat:=pr L (a-1) x M*ex (-x) M
theorem uE_bdd {L:Rat->Nat->Rat} (hL:Lns L) {x:Rat} (hx:0<x) (a:Rat):Bdd (uE L a x):=(kN hL hx _).mul (yD _)
theorem zPP {L:Rat->Nat->Rat} (hL:Lns L) {x:Rat} (hx:0<x) (a:Rat):Nn (uE L a x):=(zCU hL hx _).mul (zDO _)
theorem zT3 {L:Rat->Nat->Rat} (hL:Lns L) {a x:Rat} (ha:0<a) (hx:0<x):Bdd (uG L a x):=((kN hL hx _).mul (yD _)).mul (zDR ha (YZ hx))
theorem uG_nn {L:Rat->Nat->Rat} (hL:Lns L) {a x:Rat} (ha:0<a) (hx:0<x):Nn (uG L a x):=((zCU hL hx _).mul (zDO _)).mul ⟨0,λ M _=>zCF ha (YZ hx) M⟩
theorem zOG {L:Rat->Nat->Rat} (hL:Lns L) {x:Rat} (hx:0<x) (a:Rat):Null (λ M=>x*uE L a x M-pr L a x M*ex (-x) M):=by
 have h1:=zKM hL hx (a-1) 1;have h2:=(zFC hL hx).bmul (kN hL hx (a-1));have e:a-1+1=a:=by grind
 rw[e] at h1;refine ((h1.sub h2).bmul (yD (-x))).of_eq λ M=>?_
 unfold uE;grind
theorem zGE {L:Rat->Nat->Rat} (hL:Lns L) {c x y:Rat} (hc:c<=0) (hx:0<x) (P7:x<=y):LeN (pr L c y) (pr L c x):=by
 have hy:0<y:=by grind
 have le:LeN (L x) (L y):=λ e he=>(hL x hx).le (hL y hy) null_zero 0 (λ M _=>by grind) e he
 obtain⟨z,hz,kz⟩:=(le.cmul (c := -c) (by grind)).null
 obtain⟨v,hv,N,kv⟩:=zCV (kD hL hy c) (kD hL hx c) hz 0 (λ M _=>by have:=kz M;grind)
 exact LeN.of_null hv N kv
theorem uE_step {L:Rat->Nat->Rat} (hL:Lns L) {a t h:Rat} (ax:a<=1) (ht:0<t) (hh:0<=h):LeN (λ M=>(1+h)*uE L a (t+h) M) (uE L a t):=by
 have l1:=zGE hL (c:=a-1) (by grind) ht (show t<=t+h by grind)
 have l2:LeN (λ M=>(1+h)*ex (-(t+h)) M) (ex (-t)):=by
  have l:LeN (λ _=>1+h) (ex h):=LeN.of_le 2 λ M hM=>zMM hh hM
  refine (l.bmul (yD (-(t+h))) (zDO _)).trans ?_;have s:=zC2 h (-(t+h));refine LeN.of_eqN (s.of_eq λ M=>?_)
  have e:h + -(t+h) = -t:=by grind
  rw[e]
 have l:=l1.mul l2 ((Bdd.const (1+h)).mul (yD _)) ((Nn.const (by grind)).mul (zDO _)) (kN hL ht _) (zCU hL ht _)
 refine LeN.trans (LeN.of_le 0 λ M _=>?_) l
 unfold uE;generalize pr L (a-1) (t+h) M=p;generalize ex (-(t+h)) M=q;grind
theorem zOH {L:Rat->Nat->Rat} (hL:Lns L) {a x y:Rat} (ha:0<a) (ax:a<=1) (hx:0<x) (P7:x<=y):LeN (λ M=>uG L a y M+uE L a y M) (λ M=>uG L a x M+uE L a x M):=by
 obtain⟨C,D,C0,D0,FW,tan⟩:=uG_tan hL ha (show 0<y by grind)
 have ix:=rdm (a:=1) hx;have ip:0<1/x:=zK (by grind) hx
 obtain⟨i,hi⟩:∃ i,i=1/x:=⟨_,rfl⟩;rw[<- hi] at ix ip;refine zDX (f:=λ t M=>uG L a t M+uE L a t M) (a:=x) (b:=y) (C:=C*(i*i)) (D:=D*x) P7 (YV C0 (zP i)) (Rat.mul_pos D0 hx) (λ t h ht hh hD hb=>?_)
 have t0:0<t:=by grind
 obtain⟨s,hs⟩:∃ s,s=t+h:=⟨_,rfl⟩;have s0:0<s:=by grind
 have vm:=rdm (a:=h) s0;have v0:0<h/s:=zK hh s0;have vh:h/s<=h*i:=div_bd (YZ hh) (show x<=s by grind) s0 (YZ ip) ix
 have hiD:h*i<=D:=zJ7 (YZ ip) ix hD;have l:=tan s (-(h/s)) s0 (by grind) ⟨by grind,by grind⟩
 have e1:s*(1 + -(h/s))=t:=by
  have:s*(1 + -(h/s))=s-h/s*s:=by grind
  rw[this,vm];grind
 rw[e1] at l;have l2:=uE_step hL ax t0 (YZ hh);rw[<- hs] at l2;obtain⟨z,hz,kz⟩:=(l.add l2).null;have n:=(zOG hL s0 a).bmul (Bdd.const (h/s));refine⟨_,hz.add n.neg,0,λ M _=>?_⟩
 have k:=kz M;rw[<- hs];have m1:=YT vh (YZ v0);have m2:=YX vh (YV (YZ hh) (YZ ip));have m3:=YT (show h/s*(h/s)<=h*i*(h*i) by grind) C0
 have e:C*(h*i*(h*i))=C*(i*i)*(h*h):=by grind
 rw[e] at m3;have e2 : -(h/s) * -(h/s)=h/s*(h/s):=by grind
 rw[e2] at k
 have e3:(s*uE L a s M-pr L a s M*ex (-s) M)*(h/s)=h*uE L a s M-h/s*(pr L a s M*ex (-s) M):=by
  have:s*uE L a s M*(h/s)=h/s*s*uE L a s M:=by grind
  have e4:(s*uE L a s M-pr L a s M*ex (-s) M)*(h/s)=s*uE L a s M*(h/s)-h/s*(pr L a s M*ex (-s) M):=by grind
  rw[e4,this,vm]
 rw[e3];generalize C*(h/s*(h/s))=w1 at *;generalize C*(i*i)*(h*h)=w2 at *;have e5 : -(h/s)*(pr L a s M*ex (-s) M) = -(h/s*(pr L a s M*ex (-s) M)):=by grind
 rw[e5] at k;generalize h/s*(pr L a s M*ex (-s) M)=w3 at *;generalize uE L a s M=w4 at *;clear e e1 e2 e3 e5 vm v0 vh hiD m1 m2 l l2 n tan;grind
theorem top_ex (P : Nat → Prop) (k : Nat) : ∃ v, (P v ∨ v = 0) ∧ ∀ n, n ≤ k → P n → n ≤ v := by
  induction k with
  | zero => exact ⟨0, Or.inr rfl, fun n hn _ => by omega⟩
  | succ k ih =>
    by_cases h : P (k + 1)
    · exact ⟨k + 1, Or.inl h, fun n hn _ => hn⟩
    · obtain ⟨v, h1, h2⟩ := ih
      exact ⟨v, h1, fun n hn hp => h2 n (by rcases Nat.lt_or_eq_of_le hn with h' | h'
                                            · omega
                                            · subst h'; exact absurd hp h) hp⟩
theorem zJK {R:Nat->Nat->Prop} (h:∀ i,∃ N,∀ M,N<=M->R i M) (k:Nat):∃ N,∀ i,i<k->∀ M,N<=M->R i M:=by
 induction k with
 | zero=>exact⟨0,λ i hi=>by omega⟩
 | succ k ih =>
  obtain⟨N1,h1⟩:=ih;obtain⟨N2,h2⟩:=h k;refine⟨N1+N2,λ i hi M hM=>?_⟩
  by_cases c:i<k
  ·exact h1 i c M (by omega)
  ·have:i=k:=by omega
   subst this;exact h2 M (by omega)
theorem complete {s t : Nat → Nat → Rat} (h1 : ∀ n m, n ≤ m → LeN (s n) (s m)) (h2 : ∀ n m, n ≤ m → LeN (s m) (fun M => s n M + t n M)) : ∃ g, ∀ n, LeN (s n) g ∧ LeN g (fun M => s n M + t n M) := by
  let P : Nat → Nat → Prop := fun M n => ∀ i, i < n + 1 → ∀ j, j < n + 1 → i ≤ j → s i M ≤ s j M + 1 / ((n : Rat) + 1) ∧ s j M ≤ s i M + t i M + 1 / ((n : Rat) + 1)
  have hP : ∀ n, ∃ N, ∀ M, N ≤ M → P M n := fun n => by
    have u0 : (0 : Rat) < 1 / ((n : Rat) + 1) := zK (by grind) (zBN n)
    have step : ∀ i, ∃ N, ∀ M, N ≤ M → ∀ j, j < n + 1 → i ≤ j → s i M ≤ s j M + 1 / ((n : Rat) + 1) ∧ s j M ≤ s i M + t i M + 1 / ((n : Rat) + 1) := fun i => by
      obtain ⟨N, hN⟩ := zJK (R := fun j M => i ≤ j → s i M ≤ s j M + 1 / ((n : Rat) + 1) ∧ s j M ≤ s i M + t i M + 1 / ((n : Rat) + 1)) (fun j => by
        by_cases c : i ≤ j
        · obtain ⟨N1, k1⟩ := h1 i j c _ u0
          obtain ⟨N2, k2⟩ := h2 i j c _ u0
          exact ⟨N1 + N2, fun M hM _ => ⟨k1 M (by omega), k2 M (by omega)⟩⟩
        · exact ⟨0, fun M _ c' => absurd c' c⟩) (n + 1)
      exact ⟨N, fun M hM j hj => hN j hj M hM⟩
    obtain ⟨N, hN⟩ := zJK step (n + 1)
    exact ⟨N, fun M hM i hi j hj hij => hN i hi M hM j hj hij⟩
  obtain ⟨v, hv⟩ := Classical.skolem.1 (fun M => top_ex (P M) M)
  have main : ∀ n (e : Rat), 0 < e → ∃ N, ∀ M, N ≤ M → s n M ≤ s (v M) M + e ∧ s (v M) M ≤ s n M + t n M + e := fun n e he => by
    obtain ⟨m, hm⟩ := kQ (1 / e)
    obtain ⟨N, hN⟩ := hP (n + m + 1)
    refine ⟨N + n + m + 1, fun M hM => ?_⟩
    obtain ⟨w1, w2⟩ := hv M
    have ge := w2 (n + m + 1) (by omega) (hN M (by omega))
    have pv : P M (v M) := by rcases w1 with h | h
                              · exact h
                              · omega
    obtain ⟨a1, a2⟩ := pv n (by omega) (v M) (by omega) (by omega)
    have small : 1 / ((v M : Rat) + 1) ≤ e := by
      refine zBP (zBN _) ?_
      have c : (m : Rat) ≤ (v M : Rat) := by exact_mod_cast (show m ≤ v M by omega)
      have d := rdm (a := 1) he
      have := Rat.mul_le_mul_of_nonneg_left (Rat.le_trans hm.2 c) (Rat.le_of_lt he)
      grind
    exact ⟨by grind, by grind⟩
  exact ⟨fun M => s (v M) M, fun n => ⟨fun e he => (main n e he).imp fun N h M hM => (h M hM).1, fun e he => (main n e he).imp fun N h M hM => (h M hM).2⟩⟩
structure Gam1 (L:Rat->Nat->Rat) (a:Rat) (g:Nat->Rat):Prop where
 lo:∀ x,0<x->LeN (uG L a x) g
 hi:∀ x,0<x->LeN g (λ M=>uG L a x M+uE L a x M)
theorem zH7 {L : Rat → Nat → Rat} (hL : Lns L) {a : Rat} (ha : 0 < a) (ha1 : a ≤ 1) : ∃ g, Gam1 L a g := by
  have cast : ∀ {n m : Nat}, n ≤ m → (n : Rat) + 1 ≤ (m : Rat) + 1 := fun {n m} h => by have : (n : Rat) ≤ (m : Rat) := by exact_mod_cast h
                                                                                        grind
  obtain ⟨g, hg⟩ := complete (s := fun n => uG L a ((n : Rat) + 1)) (t := fun n => uE L a ((n : Rat) + 1))
    (fun n m h => zME hL ha (zBN n) (cast h))
    (fun n m h => by
      refine LeN.trans ?_ (zOH hL ha ha1 (zBN n) (cast h))
      obtain ⟨N, hN⟩ := zPP hL (zBN m) a
      exact LeN.of_le N fun M hM => by have := hN M hM; grind)
  have up : ∀ x : Rat, ∃ n : Nat, x ≤ (n : Rat) + 1 := fun x => by
    obtain ⟨n, hn⟩ := kQ x
    exact ⟨n, by have := hn.2; grind⟩
  refine ⟨g, fun x hx => ?_, fun x hx => ?_⟩
  · obtain ⟨n, hn⟩ := up x
    exact (zME hL ha hx hn).trans (hg n).1
  · obtain ⟨n, hn⟩ := up x
    exact (hg n).2.trans (zOH hL ha ha1 hx hn)
end Go.Proofs.YtgmnknmjainabacGreat.Ex
namespace Go.Proofs.YtgmnknmjainabacGreat.Ex
structure IsGam (L:Rat->Nat->Rat) (a:Rat) (g:Nat->Rat):Prop where
 bdd:Bdd g
 pos:∃ c:Rat,0<c/\∃ N:Nat,∀ M,N<=M->c<=g M
 lo:∀ x,0<x->LeN (uG L a x) g
 hi:∀ x,1<=x->2*a<=x+2->LeN g (λ M=>uG L a x M+2*uE L a x M)
theorem zLJ {f g k:Nat->Rat} (h1:LeN f g) (h2:LeN g k) (bf:Bdd f) (bk:Bdd k):Bdd g:=by
 obtain⟨N1,a1⟩:=h1 1 (by grind)
 obtain⟨N2,a2⟩:=h2 1 (by grind)
 obtain⟨K1,M1,dP,b1⟩:=bf;obtain⟨K2,M2,Fp,b2⟩:=bk;refine⟨K1+K2+1,N1+N2+M1+M2,by grind,λ M hM=>?_⟩
 have:=a1 M (by omega)
 have:=a2 M (by omega)
 have:=b1 M (by omega)
 have:=b2 M (by omega)
 obtain⟨c1,c2⟩:=this;obtain⟨d1,d2⟩:=‹AB (f M) K1›;exact⟨by grind,by grind⟩
theorem uG_low {L:Rat->Nat->Rat} (hL:Lns L) {a x:Rat} (ha:0<a) (hx:0<x):∃ c:Rat,0<c/\∃ N:Nat,∀ M,N<=M->c<=uG L a x M:=by
 obtain⟨c1,p1,N1,h1⟩:=zB9 (kD hL hx a);obtain⟨c2,p2,N2,h2⟩:=zB9 (Bdd.const (-x));have ip:0<1/a:=zK (by grind) ha
 refine⟨c1*c2*(1/a),Rat.mul_pos (Rat.mul_pos p1 p2) ip,N1+N2+1,λ M hM=>?_⟩
 obtain⟨m,rfl⟩:∃ m,M=m+1:=⟨M-1,by omega⟩
 have f:=zFT ha (YZ hx) m;have a1:=h1 (m+1) (by omega)
 have a2:=h2 (m+1) (by omega)
 have b:c1*c2<=pr L a x (m+1)*ex (-x) (m+1):=Rat.le_trans (YX a1 (YZ p2)) (YT a2 (show 0<=pr L a x (m+1) by unfold pr;grind))
 have c0:=YV (YZ p1) (YZ p2);unfold uG;exact Rat.le_trans (YX b (YZ ip)) (YT f (by grind))
theorem zS6 {f g:Nat->Rat} (h:LeN f g) (k:∃ c:Rat,0<c/\∃ N:Nat,∀ M,N<=M->c<=f M):∃ c:Rat,0<c/\∃ N:Nat,∀ M,N<=M->c<=g M:=by
 obtain⟨c,c0,N,hc⟩:=k;obtain⟨N2,h2⟩:=h (c/2) (by grind)
 exact⟨c/2,by grind,N+N2,λ M hM=>by have:=hc M (by omega);have:=h2 M (by omega);grind⟩
theorem Gam1.isGam {L:Rat->Nat->Rat} (hL:Lns L) {a:Rat} {g:Nat->Rat} (ha:0<a) (h:Gam1 L a g):IsGam L a g:=by
 have one:(0:Rat)<1:=by grind
 refine⟨zLJ (h.lo 1 one) (h.hi 1 one) (zT3 hL ha one) ((zT3 hL ha one).add (uE_bdd hL one a)),zS6 (h.lo 1 one) (uG_low hL ha one),h.lo,λ x hx _=>(h.hi x (by grind)).trans ?_⟩
 obtain⟨N,hN⟩:=zPP hL (show 0<x by grind) a
 exact LeN.of_le N λ M hM=>by have:=hN M hM;grind
theorem uE_next {L:Rat->Nat->Rat} (hL:Lns L) {x:Rat} (hx:0<x) (a:Rat):Null (λ M=>x*uE L a x M-uE L (a+1) x M):=by
 refine (zOG hL hx a).of_eq λ M=>?_
 have e:a+1-1=a:=by grind
 unfold uE;rw[e]
theorem zT5 {L:Rat->Nat->Rat} (hL:Lns L) {a x:Rat} (ha:0<a) (hx:0<x):Null (λ M=>uG L (a+1) x M-(a*uG L a x M-uE L (a+1) x M)):=by
 have x0:=YZ hx;have a1:0<a+1:=by grind
 have h1:=zKM hL hx a 1;have h2:=(zFC hL hx).bmul (kN hL hx a);have b:=(yD (-x)).mul (zDR a1 x0);have h3:=(h2.sub h1).bmul b;have h4:=(zI8 ha x0).bmul (((Bdd.const a).mul (kN hL hx a)).mul (yD (-x)));refine (h4.add h3).of_eq λ M=>?_
 have e1:=uS_next ha x M;have e2:uS a x (M+1)=uS a x M+upT a x M:=rfl;have e3:a+1-1=a:=by grind
 unfold uG uE;rw[e3];have e4:x*uS (a+1) x M=a*(uS a x M+upT a x M)-1:=by rw[<- e2,e1];grind
 generalize pr L a x M=p at *;generalize pr L (a+1) x M=p1 at *;generalize ex (-x) M=y at *;generalize pr L 1 x M=p2 at *;generalize upT a x M=t at *;generalize uS a x M=s at *;generalize uS (a+1) x M=s1 at *;have k:p*y*(x*s1)=p*y*(a*(s+t)-1):=by rw[e4]
 clear e1 e2 e3 e4 h1 h2 h3 h4;grind
theorem IsGam.next {L:Rat->Nat->Rat} (hL:Lns L) {a:Rat} {g:Nat->Rat} (ha:0<a) (h:IsGam L a g):IsGam L (a+1) (λ M=>a*g M):=by
 have a0:=YZ ha;refine⟨(Bdd.const a).mul h.bdd,?_,λ x hx=>?_,λ x hx fR=>?_⟩
 ·obtain⟨c,c0,N,hc⟩:=h.pos
  exact⟨a*c,Rat.mul_pos ha c0,N,λ M hM=>YT (hc M hM) a0⟩
 ·refine (LeN.of_eqN (zT5 hL ha hx)).trans (LeN.trans ?_ ((h.lo x hx).cmul a0))
  obtain⟨N,hN⟩:=zPP hL hx (a+1);exact LeN.of_le N λ M hM=>by have:=hN M hM;grind
 ·have x0:0<x:=by grind
  refine ((h.hi x hx (by grind)).cmul a0).trans ?_
  obtain⟨z,hz,kz⟩:=(LeN.of_eqN (uE_next hL x0 a)).null;obtain⟨N,hN⟩:=zPP hL x0 a;refine LeN.of_null ((zT5 hL ha x0).neg.add hz) N λ M hM=>?_
  have k:=kz M;have n:=hN M hM;have m:=YX (show 2*a<=x by grind) n
  generalize uG L (a+1) x M=w1 at *;generalize uE L (a+1) x M=w2 at *;generalize uG L a x M=w3 at *;generalize uE L a x M=w4 at *;grind
theorem zRX {f g:Nat->Rat} (h:∀ n:Nat,LeN f (λ M=>g M+q2 n)):LeN f g:=λ e he=>by
 obtain⟨N,hN⟩:=null_q2 (e/2) (by grind)
 obtain⟨N2,h2⟩:=h N (e/2) (by grind)
 have q:=(hN N (Zb _)).2;exact⟨N2,λ M hM=>by have:=h2 M hM;grind⟩
theorem zF2 (n : Nat) : LeN (ex (-(n : Rat))) (fun _ => q2 n) := by
  induction n with
  | zero =>
    refine LeN.of_le 1 fun M hM => ?_
    obtain ⟨m, rfl⟩ : ∃ m, M = m + 1 := ⟨M - 1, by omega⟩
    have e : -((0 : Nat) : Rat) = 0 := by have : ((0 : Nat) : Rat) = 0 := rfl
                                          rw [this]; grind
    rw [e]
    have : ex 0 (m + 1) = 1 := E_zero m
    rw [this]
    show (1 : Rat) ≤ 1
    exact Rat.le_refl
  | succ n ih =>
    have c : ((n + 1 : Nat) : Rat) = (n : Rat) + 1 := by push_cast; rfl
    have l : LeN (fun _ => (2 : Rat)) (ex 1) := LeN.of_le 2 fun M hM => by have := zMM (x := 1) (by grind) hM; show 2 ≤ E 1 M; grind
    have m := l.bmul (yD (-((n : Rat) + 1))) (zDO _)
    have s := zC2 1 (-((n : Rat) + 1))
    have e : 1 + -((n : Rat) + 1) = -(n : Rat) := by grind
    rw [e] at s
    have k := (m.trans (LeN.of_eqN s)).trans ih
    rw [c]
    refine LeN.trans (LeN.of_le 0 fun M _ => ?_) ((k.cmul (c := 1 / 2) (by grind)).trans (LeN.of_le 0 fun M _ => ?_))
    · grind
    · show 1 / 2 * q2 n ≤ q2 (n + 1)
      have : q2 (n + 1) = q2 n / 2 := rfl
      rw [this]; grind
theorem uS_one {x:Rat} (M:Nat):x*uS 1 x M=E x (M+1)-1:=by
 have t:∀ n:Nat,x*upT 1 x n=tm x (n+1):=λ n=>by
  induction n with
  | zero =>
   have e:=kV x 0;have c:((0:Nat):Rat)=0:=rfl;rw[c] at e;have e2:tm x 0=1:=rfl;rw[e2] at e;have e3:=zAD (show (0:Rat)<1 by grind) x
   grind
  | succ n ih =>
   have e1:=jW (show (0:Rat)<1 by grind) x n
   have e2:=kV x (n+1);have c:((n+1:Nat):Rat)=(n:Rat)+1:=by push_cast;rfl
   rw[c] at e2;refine zY (show 0<(n:Rat)+1+1 by have:=zBN n;grind) ?_
   rw[e2,<- ih];grind
 induction M with
 | zero=>show x*0=(0+1)-1;grind
 | succ n ih =>
  have:=t n;have e:E x (n+1+1)=E x (n+1)+tm x (n+1):=rfl;rw[yX,e];grind
theorem gam_one {L:Rat->Nat->Rat} (hL:Lns L) {g:Nat->Rat} (h:Gam1 L 1 g):Null (λ M=>g M-1):=by
 have key:∀ x,0<x->Null (λ M=>uG L 1 x M-(1-ex (-x) M)):=λ x hx=>by
  have x0:=YZ hx;have s:=zC2 x (-x);have e:x + -x=0:=by grind
  rw[e] at s;have h2:=(zFC hL hx).bmul ((yD (-x)).mul (zDR (show (0:Rat)<1 by grind) x0))
  obtain⟨K,k0,hK⟩:=zPN x
  have tn:Null (tm x):=(zB3 K k0).of_le 1 λ M hM=>(hK M).mono (by
   have m1:(1:Rat)<=(M:Rat):=by exact_mod_cast hM
   have:=YT m1 (YV k0 (YZ (yE M)))
   grind)
  have h3:=tn.bmul (yD (-x));refine ((h2.add h3).add s).of_eq_from 1 λ M hM=>?_
  have e0:ex 0 M=1:=by
   obtain⟨m,rfl⟩:∃ m,M=m+1:=⟨M-1,by omega⟩
   exact E_zero m
  have e1:=uS_one (x:=x) M;have e2:E x (M+1)=ex x M+tm x M:=rfl;rw[e0];unfold uG;rw[e2] at e1;generalize pr L 1 x M=p at *;generalize ex (-x) M=y at *;generalize uS 1 x M=u at *;generalize ex x M=v at *;generalize tm x M=t at *;have k:y*(x*u)=y*(v+t-1):=by rw[e1]
  grind
 have up:LeN g (λ _=>1):=by
  refine (h.hi 1 (by grind)).trans ?_
  refine LeN.of_null (key 1 (by grind)) 1 λ M hM=>?_
  have e:pr L (1-1) 1 M=1:=by
   obtain⟨m,rfl⟩:∃ m,M=m+1:=⟨M-1,by omega⟩
   unfold pr Ev;have e:(1-1:Rat)*L 1 (m+1)=0:=by grind
   show E ((1-1)*L 1 (m+1)) (m+1)=1
   rw[e];exact E_zero m
  unfold uE;rw[e];grind
 have dn:LeN (λ _=>(1:Rat)) g:=by
  refine zRX λ n=>?_
  have n1:(0:Rat)<(n:Rat)+1:=zBN n;have a:=h.lo _ n1;obtain⟨z,hz,kz⟩:=(a.add (zF2 (n+1))).null;have c:((n+1:Nat):Rat)=(n:Rat)+1:=by push_cast;rfl
  refine LeN.of_null (hz.add (key _ n1).neg) 0 λ M _=>?_
  have k:=kz M;have e:q2 (n+1)=q2 n/2:=rfl;have q:=yP n;rw[c,e] at k;grind
 exact up.eq dn
theorem zSC {L:Rat->Nat->Rat} (hL:Lns L) {g:Nat->Rat} (hb:Bdd g) (hp:∃ c:Rat,0<c/\∃ N:Nat,∀ M,N<=M->c<=g M):∃ l,IsLog l g:=by
 obtain⟨c,c0,N1,hc⟩:=hp;obtain⟨K,N2,k0,hK⟩:=hb;have Kc:0<K+c:=by grind
 obtain⟨B1,M1,GQ,h1⟩:=(hL c c0).1;obtain⟨B2,M2,b20,h2⟩:=(hL (K+c) Kc).1
 have each:∀ M,∃ y:Rat,N1+N2<=M->AB y (B1+B2+1)/\∃ j,M<=j/\AB (E y j-g M) (q2 M):=λ M=>by
  by_cases hM:N1+N2<=M
  ·have gc:=hc M (by omega)
   have gK:=(hK M (by omega)).2
   have gp:0<g M:=by grind
   obtain⟨n1,p1⟩:=(hL c c0).le (hL _ gp) null_zero 0 (λ _ _=>by grind) 1 (by grind)
   obtain⟨n2,p2⟩:=(hL _ gp).le (hL _ Kc) null_zero 0 (λ _ _=>by grind) 1 (by grind)
   obtain⟨n3,p3⟩:=(hL _ gp).2 (q2 M) (yP M);obtain⟨j,hj⟩:∃ j,j=M+M1+M2+n1+n2+n3:=⟨_,rfl⟩;refine⟨L (g M) j,λ _=>⟨?_,j,by omega,p3 j (by omega)⟩⟩
   have r1:=p1 j (by omega)
   have r2:=p2 j (by omega)
   have r3:=(h1 j (by omega)).1
   have r4:=(h2 j (by omega)).2
   exact⟨by grind,by grind⟩
  ·exact⟨0,λ h=>absurd h hM⟩
 obtain⟨l,hl⟩:=Classical.skolem.1 each;obtain⟨T,t0,hT⟩:=zMD (B1+B2+1);refine⟨l,⟨_,N1+N2,by grind,λ M hM=>(hl M hM).1⟩,?_⟩
 have z:=(zB3 (2*T) (by grind)).add null_q2
 refine z.of_le (N1+N2+1) λ M hM=>?_
 obtain⟨a1,j,hj,a2⟩:=hl M (by omega)
 obtain⟨i,rfl⟩:∃ i,j=M+i:=⟨j-M,by omega⟩
 have s:=E_sub (l M) T (λ i=>hT _ a1 i) M i
 have m1:(1:Rat)<=(M:Rat):=by exact_mod_cast (show 1<=M by omega)
 have qm:=yE M;have qi:=yE (M+i);have mq:=YT m1 (YV t0 (YZ qm));have mi:=YV t0 (YZ qi);obtain⟨s1,s2⟩:=s;obtain⟨d1,d2⟩:=a2
 show AB (E (l M) M-g M) _
 generalize E (l M) (M+i)=w1 at *;generalize E (l M) M=w2 at *;exact⟨by grind,by grind⟩
end Go.Proofs.YtgmnknmjainabacGreat.Ex
namespace Go.Proofs.YtgmnknmjainabacGreat.Ex
def LeA (f:Nat->Rat) (K:Rat):Prop:=∀ e:Rat,0<e->∃ N:Nat,∀ M,N<=M->AB (f M) (K+e)
theorem LeA.nonneg {f:Nat->Rat} {K:Rat} (h:LeA f K):0<=K:=by
 refine Rat.not_lt.1 λ hn=>?_
 obtain⟨N,k⟩:=h (-K/2) (by grind)
 have:=(k N (Zb _)).nonneg;grind
theorem LeA.mono {f:Nat->Rat} {K K':Rat} (h:LeA f K) (k:K<=K'):LeA f K':=λ e he=>by
 obtain⟨N,h⟩:=h e he;exact⟨N,λ M hM=>(h M hM).mono (by grind)⟩
theorem LeA.of_ab {f:Nat->Rat} {K:Rat} (N:Nat) (h:∀ M,N<=M->AB (f M) K):LeA f K:=λ e he=>⟨N,λ M hM=>(h M hM).mono (by grind)⟩
theorem LeA.of_null {f:Nat->Rat} (h:Null f):LeA f 0:=λ e he=>by
 obtain⟨N,h⟩:=h e he;exact⟨N,λ M hM=>(h M hM).mono (by grind)⟩
theorem LeA.add {f g:Nat->Rat} {K L:Rat} (h:LeA f K) (k:LeA g L):LeA (λ M=>f M+g M) (K+L):=λ e he=>by
 obtain⟨N,h⟩:=h (e/2) (by grind)
 obtain⟨N',k⟩:=k (e/2) (by grind)
 exact⟨N+N',λ M hM=>((h M (by omega)).add (k M (by omega))).mono (by grind)⟩
theorem LeA.neg {f:Nat->Rat} {K:Rat} (h:LeA f K):LeA (λ M => -f M) K:=λ e he=>by
 obtain⟨N,h⟩:=h e he;exact⟨N,λ M hM=>(h M hM).neg⟩
theorem LeA.mul {f g:Nat->Rat} {K L:Rat} (h:LeA f K) (k:LeA g L):LeA (λ M=>f M*g M) (K*L):=λ e he=>by
 have k0:=h.nonneg;have l0:=k.nonneg;have hp:0<K+L+1+e:=by grind
 have d0:=zK he hp;have dm:=rdm (a:=e) hp;obtain⟨N,h⟩:=h _ d0;obtain⟨N',k⟩:=k _ d0;refine⟨N+N',λ M hM=>((h M (by omega)).mul (k M (by omega))).mono ?_⟩
 generalize e/(K+L+1+e)=d at *;have m1:=YV (YZ d0) k0;have m2:=YV (YZ d0) l0;have m3:=YV (YZ d0) (YZ he)
 have d1:d<=1:=by
  refine Rat.not_lt.1 λ hn=>?_
  have:=Rat.mul_pos (show 0<d-1 by grind) hp
  have:=Rat.mul_pos d0 he;grind
 have m4:=YV (YZ d0) (show 0<=1-d by grind)
 grind
theorem LeA.const {c K:Rat} (h:AB c K):LeA (λ _=>c) K:=LeA.of_ab 0 λ _ _=>h
theorem LeA.of_eq {f g:Nat->Rat} {K:Rat} (h:LeA f K) (e:∀ M,g M=f M):LeA g K:=by
 have:g=f:=funext e;rw[this];exact h
theorem LeA.congr {f g:Nat->Rat} {K:Rat} (h:LeA f K) (k:Null (λ M=>g M-f M)):LeA g K:=by
 have:=(h.add (LeA.of_null k)).mono (K':=K) (by grind)
 exact this.of_eq λ M=>by grind
theorem Bdd.leA {f:Nat->Rat} (h:Bdd f):∃ K,LeA f K:=by
 obtain⟨K,N,k0,h⟩:=h;exact⟨K,LeA.of_ab N h⟩
theorem LeA.scale {f:Nat->Rat} {K c d:Rat} (h:LeA f K) (hc:AB c d):LeA (λ M=>c*f M) (d*K):=(LeA.const hc).mul h
def Dif (F F':Rat->Nat->Rat) (p q:Rat):Prop:=∃ C K,0<=C/\0<=K/\(∀ x,p<=x->x<=q->LeA (F x) K/\LeA (F' x) K)/\∀ x h,p<=x->x<=q->p<=x+h->x+h<=q->LeA (λ M=>F (x+h) M-F x M-h*F' x M) (C*(h*h))
theorem ab_len {p q x h:Rat} (h1:p<=x) (h2:x<=q) (h3:p<=x+h) (h4:x+h<=q):AB h (q-p):=⟨by grind,by grind⟩
theorem Dif.of_small {F F':Rat->Nat->Rat} {p q D C K:Rat} (M4:p<=q) (hD:0<D) (hC:0<=C) (hK:0<=K) (b:∀ x,p<=x->x<=q->LeA (F x) K/\LeA (F' x) K) (s:∀ x h,p<=x->x<=q->p<=x+h->x+h<=q->AB h D->LeA (λ M=>F (x+h) M-F x M-h*F' x M) (C*(h*h))):Dif F F' p q:=by
 have DD:=Rat.mul_pos hD hD;obtain⟨i,hi⟩:∃ i,i=1/(D*D):=⟨_,rfl⟩;have ip:0<i:=by rw[hi];exact zK (by grind) DD
 have im:i*(D*D)=1:=by rw[hi];exact rdm DD
 obtain⟨W,hW⟩:∃ W,W=K+K+(q-p)*K:=⟨_,rfl⟩;have W0:0<=W:=by have:=YV (show 0<=q-p by grind) hK;grind
 have Wi:=YV W0 (YZ ip);refine⟨C+W*i,K,by grind,hK,b,λ x h h1 h2 h3 h4=>?_⟩
 have hh:=zP h
 by_cases c:AB h D
 ·refine (s x h h1 h2 h3 h4 c).mono ?_
  have:=YV Wi hh;grind
 ·have far:D*D<=h*h:=by
   by_cases c1:0<=h
   ·have:D<=h:=by
     refine Rat.not_lt.1 λ hn=>c ⟨by grind,by grind⟩
    have:=YX this (YZ hD);have:=YT (show D<=h by assumption) c1
    grind
   ·have:D <= -h:=by
     refine Rat.not_lt.1 λ hn=>c ⟨by grind,by grind⟩
    have:=YX this (YZ hD);have:=YT (show D <= -h by assumption) (show 0 <= -h by grind)
    grind
  have l:=((b (x+h) h3 h4).1.add (b x h1 h2).1.neg).add ((b x h1 h2).2.scale (ab_len h1 h2 h3 h4)).neg;refine (l.mono ?_).of_eq λ M=>by grind
  have m1:=YT far Wi
  have m2:W*i*(D*D)=W:=by
   have:W*i*(D*D)=W*(i*(D*D)):=by grind
   rw[this,im];grind
  have m3:=YV hC hh;rw[m2] at m1;rw[<- hW];grind
theorem Dif.mul {F F' G G':Rat->Nat->Rat} {p q:Rat} (M4:p<=q) (h:Dif F F' p q) (k:Dif G G' p q):Dif (λ x M=>F x M*G x M) (λ x M=>F' x M*G x M+F x M*G' x M) p q:=by
 obtain⟨C1,K1,jk,dP,b1,s1⟩:=h;obtain⟨C2,K2,GS,Fp,b2,s2⟩:=k;have W0:0<=q-p:=by grind
 have n1:=YV jk Fp;have n2:=YV dP GS;have n3:=YV W0 (YV dP GS);have n4:=YV dP Fp;refine⟨C1*K2+K1*C2+(q-p)*(K1*C2)+K1*K2,K1*K2+K1*K2,by grind,by grind,λ x h1 h2=>⟨?_,?_⟩,λ x h h1 h2 h3 h4=>?_⟩
 ·exact ((b1 x h1 h2).1.mul (b2 x h1 h2).1).mono (by grind)
 ·exact ((b1 x h1 h2).2.mul (b2 x h1 h2).1).add ((b1 x h1 h2).1.mul (b2 x h1 h2).2)
 ·have d1:=s1 x h h1 h2 h3 h4
  have d2:=s2 x h h1 h2 h3 h4;have f:=b1 x h1 h2;have g:=b2 x h1 h2;have g1:=b2 (x+h) h3 h4;have hb:=ab_len h1 h2 h3 h4;have hh:=zP h;have Yg:AB (h*h) (h*h):=⟨by grind,by grind⟩
  have t1:=d1.mul g1.1;have t2:=f.1.mul d2;have t3:=(f.2.mul d2).scale hb;have t4:=(f.2.mul g.2).scale Yg;refine (((t1.add t2).add (t3.add t4)).mono ?_).of_eq λ M=>?_
  ·clear t1 t2 t3 t4 d1 d2 f g g1 b1 b2 s1 s2
   grind
  ·clear t1 t2 t3 t4 d1 d2 f g g1 b1 b2 s1 s2
   dsimp only
   generalize F (x+h) M=f1;generalize F x M=f0;generalize F' x M=f';generalize G (x+h) M=g1;generalize G x M=g0;generalize G' x M=g';grind
theorem Dif.add {F F' G G':Rat->Nat->Rat} {p q:Rat} (h:Dif F F' p q) (k:Dif G G' p q):Dif (λ x M=>F x M+G x M) (λ x M=>F' x M+G' x M) p q:=by
 obtain⟨C1,K1,jk,dP,b1,s1⟩:=h;obtain⟨C2,K2,GS,Fp,b2,s2⟩:=k;refine⟨C1+C2,K1+K2,by grind,by grind,λ x h1 h2=>⟨(b1 x h1 h2).1.add (b2 x h1 h2).1,(b1 x h1 h2).2.add (b2 x h1 h2).2⟩,λ x h h1 h2 h3 h4=>?_⟩
 refine (((s1 x h h1 h2 h3 h4).add (s2 x h h1 h2 h3 h4)).mono (by grind)).of_eq λ M=>by grind
theorem Dif.smul {F F':Rat->Nat->Rat} {p q:Rat} (h:Dif F F' p q) (c:Rat):Dif (λ x M=>c*F x M) (λ x M=>c*F' x M) p q:=by
 obtain⟨C1,K1,jk,dP,b1,s1⟩:=h;obtain⟨d,hd⟩:=AB.self c;have d0:=hd.nonneg;refine⟨d*C1,d*K1,YV d0 jk,YV d0 dP,λ x h1 h2=>⟨(b1 x h1 h2).1.scale hd,(b1 x h1 h2).2.scale hd⟩,λ x h h1 h2 h3 h4=>?_⟩
 refine (((s1 x h h1 h2 h3 h4).scale hd).mono (by grind)).of_eq λ M=>by grind
theorem Dif.sub {F F' G G':Rat->Nat->Rat} {p q:Rat} (h:Dif F F' p q) (k:Dif G G' p q):Dif (λ x M=>F x M-G x M) (λ x M=>F' x M-G' x M) p q:=by
 have:=h.add (k.smul (-1));have e1:(λ x M=>F x M + -1*G x M)=λ x M=>F x M-G x M:=by funext x M;grind
 have e2:(λ x M=>F' x M + -1*G' x M)=λ x M=>F' x M-G' x M:=by funext x M;grind
 rw[e1,e2] at this;exact this
theorem Dif.congr {F F' G':Rat->Nat->Rat} {p q:Rat} (h:Dif F F' p q) (k:∀ x,p<=x->x<=q->Null (λ M=>G' x M-F' x M)):Dif F G' p q:=by
 obtain⟨C1,K1,jk,dP,b1,s1⟩:=h;refine⟨C1,K1,jk,dP,λ x h1 h2=>⟨(b1 x h1 h2).1,(b1 x h1 h2).2.congr (k x h1 h2)⟩,λ x h h1 h2 h3 h4=>?_⟩
 refine (s1 x h h1 h2 h3 h4).congr (((k x h1 h2).bmul (Bdd.const (-h))).of_eq λ M=>?_)
 generalize F (x+h) M=f1;generalize F x M=f0;generalize F' x M=f';generalize G' x M=g';grind
theorem Dif.within {F F':Rat->Nat->Rat} {p q p' q':Rat} (h:Dif F F' p q) (h1:p<=p') (h2:q'<=q):Dif F F' p' q':=by
 obtain⟨C1,K1,jk,dP,b1,s1⟩:=h;exact⟨C1,K1,jk,dP,λ x a b=>b1 x (by grind) (by grind),λ x h a b c d=>s1 x h (by grind) (by grind) (by grind) (by grind)⟩
theorem Dif.flip {F F':Rat->Nat->Rat} {p q:Rat} (h:Dif F F' (1-q) (1-p)):Dif (λ x=>F (1-x)) (λ x M => -F' (1-x) M) p q:=by
 obtain⟨C1,K1,jk,dP,b1,s1⟩:=h;refine⟨C1,K1,jk,dP,λ x a b=>⟨(b1 (1-x) (by grind) (by grind)).1,(b1 (1-x) (by grind) (by grind)).2.neg⟩,λ x h a b c d=>?_⟩
 have s:=s1 (1-x) (-h) (by grind) (by grind) (by grind) (by grind)
 have e:1-x + -h=1-(x+h):=by grind
 rw[e] at s;refine (s.mono (by grind)).of_eq λ M=>by grind
theorem Dif.const (c:Nat->Rat) (hc:Bdd c) (p q:Rat):Dif (λ _=>c) (λ _ _=>0) p q:=by
 obtain⟨K,hK⟩:=hc.leA;refine⟨0,K,by grind,hK.nonneg,λ x _ _=>⟨hK,(LeA.of_null null_zero).mono hK.nonneg⟩,λ x h _ _ _ _=>?_⟩
 exact (LeA.of_null null_zero).mono (by grind) |>.of_eq λ M=>by grind
theorem Dif.le {F F':Rat->Nat->Rat} {p q:Rat} (M4:p<=q) (h:Dif F F' p q) (k:∀ x,p<=x->x<=q->LeN (λ _=>0) (F' x)):LeN (F p) (F q):=by
 obtain⟨C,K,c0,k0,b,s⟩:=h
 have key:=zDX (f:=λ x M => -F x M) (a:=p) (b:=q) (C:=C) (D:=1) M4 c0 (by grind) (λ x h h1 h2 h3 h4=>by
  have a1:=s x h h1 (by grind) (by grind) h4
  have l:LeN (λ M=>F x M) (λ M=>F (x+h) M+C*(h*h)):=λ e he=>by
   have hp:0<1+h:=by grind
   have d0:=zK he hp;have dm:=rdm (a:=e) hp;obtain⟨N1,n1⟩:=a1 _ d0;obtain⟨N2,n2⟩:=k x h1 (by grind) _ d0
   refine⟨N1+N2,λ M hM=>?_⟩
   have b1:=(n1 M (by omega)).1
   have b2:=YT (n2 M (by omega)) (YZ h2)
   dsimp only at b1 b2 ⊢
   generalize e/(1+h)=d at *;grind
  obtain⟨z,hz,kz⟩:=l.null
  exact⟨z,hz,0,λ M _=>by have:F x M<=F (x+h) M+C*(h*h)+z M:=kz M;show -F (x+h) M <= -F x M+C*(h*h)+z M;grind⟩)
 intro e he
 obtain⟨N,k⟩:=key e he;exact⟨N,λ M hM=>by have : -F q M <= -F p M+e:=k M hM;grind⟩
theorem Dif.eq {F F':Rat->Nat->Rat} {p q:Rat} (M4:p<=q) (h:Dif F F' p q) (k:∀ x,p<=x->x<=q->Null (F' x)):Null (λ M=>F p M-F q M):=by
 refine (h.le M4 λ x a b=>?_).eq ?_
 ·exact LeN.of_eqN ((k x a b).neg.of_eq λ M=>by grind)
 ·have l:=(h.smul (-1)).le M4 λ x a b=>LeN.of_eqN ((k x a b).of_eq λ M=>by grind)
  intro e he
  obtain⟨N,k⟩:=l e he;exact⟨N,λ M hM=>by have : -1*F p M <= -1*F q M+e:=k M hM;grind⟩
end Go.Proofs.YtgmnknmjainabacGreat.Ex
namespace Go.Proofs.YtgmnknmjainabacGreat.Ex
theorem zBO {x:Rat} (h:0<=x) (k:Nat):0<=pw x k:=by
 induction k with
 | zero=>show (0:Rat)<=1;grind
 | succ k ih=>exact YV h ih
theorem zL2 {x y:Rat} (h:0<=x) (P7:x<=y) (k:Nat):pw x k<=pw y k:=by
 induction k with
 | zero=>exact Rat.le_refl
 | succ k ih=>exact Rat.le_trans (YT ih h) (YX P7 (zBO (by grind) k))
def dw (x:Rat):Nat->Rat
 | 0=>0
 | k+1=>x*dw x k+pw x k
theorem zJU {x:Rat} (h:0<=x) (k:Nat):0<=dw x k:=by
 induction k with
 | zero=>show (0:Rat)<=0;grind
 | succ k ih =>
  have:=YV h ih;have:=zBO h k
  show 0<=x*dw x k+pw x k
  grind
theorem dw_mul (x:Rat) (k:Nat):x*dw x k=(k:Rat)*pw x k:=by
 induction k with
 | zero=>show x*0=((0:Nat):Rat)*1;have:((0:Nat):Rat)=0:=rfl;grind
 | succ k ih =>
  have c:((k+1:Nat):Rat)=(k:Rat)+1:=by push_cast;rfl
  show x*(x*dw x k+pw x k)=_
  rw[c,ih]
  show _=((k:Rat)+1)*(x*pw x k)
  grind
theorem dw_le {x q r:Rat} (h:0<=x) (hx:x<=q) (hr:q<=r) (k:Nat):(r-q)*dw x k<=pw r k:=by
 induction k with
 | zero=>show (r-q)*0<=1;grind
 | succ k ih =>
  have m1:=YT ih h;have m2:=YX hx (zBO (show 0<=r by grind) k)
  have m3:=YT (zL2 h (show x<=r by grind) k) (show 0<=r-q by grind)
  show (r-q)*(x*dw x k+pw x k)<=r*pw r k
  grind
theorem zKN {x y q r:Rat} (nN:0<=x) (hx:x<=q) (wm:0<=y) (hy:y<=q) (hr:q<=r) (k:Nat):0<=pw y k-pw x k-(y-x)*dw x k/\(r-q)*(r-q)*(pw y k-pw x k-(y-x)*dw x k)<=(y-x)*(y-x)*pw r k:=by
 induction k with
 | zero =>
  have:=zP (y-x);refine⟨by show 0<=(1:Rat)-1-(y-x)*0;grind,?_⟩
  show (r-q)*(r-q)*(1-1-(y-x)*0)<=(y-x)*(y-x)*1
  grind
 | succ k ih =>
  obtain⟨i1,i2⟩:=ih;have d0:=zJU nN k;have d1:=dw_le nN hx hr k;have s:=zP (y-x);have p0:=zBO (show 0<=r by grind) k
  have e:pw y (k+1)-pw x (k+1)-(y-x)*dw x (k+1)=y*(pw y k-pw x k-(y-x)*dw x k)+(y-x)*(y-x)*dw x k:=by
   show y*pw y k-x*pw x k-(y-x)*(x*dw x k+pw x k)=_
   grind
  rw[e];have m1:=YV wm i1;have m2:=YV s d0;refine⟨by grind,?_⟩
  have m3:=YT i2 wm;have m4:=YT d1 (YV (show 0<=r-q by grind) s)
  have m5:=YV (YV (show 0<=q-y by grind) s) p0
  have e2:pw r (k+1)=r*pw r k:=rfl;rw[e2];generalize pw y k-pw x k-(y-x)*dw x k=t at *;generalize dw x k=d at *;generalize pw r k=p at *;generalize (y-x)*(y-x)=u at *;clear e e2 i1 i2 d1;grind
def psS (c:Nat->Rat) (x:Rat) (M:Nat):Rat:=S (λ k=>c k*pw x k) M
def psD (c:Nat->Rat) (x:Rat) (M:Nat):Rat:=S (λ k=>c k*dw x k) M
theorem S_mono {f g:Nat->Rat} (h:∀ k,f k<=g k) (M:Nat):S f M<=S g M:=by
 induction M with
 | zero=>exact Rat.le_refl
 | succ M ih=>have:=h M;show S f M+f M<=S g M+g M;grind
theorem psS_bd {c A:Nat->Rat} {x r K:Rat} (hc:∀ k,AB (c k) (A k)) (hK:∀ M,S (λ k=>A k*pw r k) M<=K) (nN:0<=x) (hx:x<=r) (M:Nat):AB (psS c x M) K:=by
 refine (S_AB (g:=λ k=>A k*pw r k) M λ k _=>?_).mono (hK M)
 have a:=(hc k).mul (show AB (pw x k) (pw x k) from⟨by have:=zBO nN k;grind,Rat.le_refl⟩)
 exact a.mono (YT (zL2 nN hx k) (hc k).nonneg)
theorem ps_dif {c A:Nat->Rat} {q r K:Rat} (hc:∀ k,AB (c k) (A k)) (hK:∀ M,S (λ k=>A k*pw r k) M<=K) (nJ:0<=q) (hr:q<r):Dif (psS c) (psD c) 0 q:=by
 have d0:0<r-q:=by grind
 have K0:0<=K:=by have:=hK 0;have e:S (λ k=>A k*pw r k) 0=0:=rfl;grind
 obtain⟨i,hi⟩:∃ i,i=1/(r-q):=⟨_,rfl⟩;have ip:0<i:=by rw[hi];exact zK (by grind) d0
 have im:i*(r-q)=1:=by rw[hi];exact rdm d0
 have iK:=YV (YZ ip) K0;refine⟨i*i*K,K+i*K,by have:=YV (YV (YZ ip) (YZ ip)) K0;grind,by grind,λ x h1 h2=>⟨?_,?_⟩,λ x h h1 h2 h3 h4=>?_⟩
 ·exact LeA.of_ab 0 λ M _=>(psS_bd hc hK h1 (by grind) M).mono (by grind)
 ·refine LeA.of_ab 0 λ M _=>?_
  have b:AB (psD c x M) (S (λ k=>i*(A k*pw r k)) M):=S_AB M λ k _=>by
   have n:=zJU h1 k;have l:=dw_le h1 h2 (YZ hr) k
   have a:=(hc k).mul (show AB (dw x k) (i*pw r k) from⟨by have:=YV (YZ ip) (zBO (show 0<=r by grind) k);grind,by
    have m:=YT l (YZ ip);have e:i*((r-q)*dw x k)=i*(r-q)*dw x k:=by grind
    rw[e,im] at m
    grind⟩)
   exact a.mono (by grind)
  rw[zGU] at b;refine b.mono ?_;have:=YT (hK M) (YZ ip);grind
 ·refine LeA.of_ab 0 λ M _=>?_
  have e:psS c (x+h) M-psS c x M-h*psD c x M=S (λ k=>c k*(pw (x+h) k-pw x k-h*dw x k)) M:=by
   unfold psS psD;rw[<- zGU,<- S_sub,<- S_sub];exact yT M λ k _=>by grind
  have b:AB (S (λ k=>c k*(pw (x+h) k-pw x k-h*dw x k)) M) (S (λ k=>h*h*(i*i)*(A k*pw r k)) M):=S_AB M λ k _=>by
   obtain⟨a1,a2⟩:=zKN h1 h2 h3 h4 (YZ hr) k;have e1:x+h-x=h:=by grind
   rw[e1] at a1 a2;have ii:=YV (YZ ip) (YZ ip);have m:=YT a2 ii;have e2:i*i*((r-q)*(r-q)*(pw (x+h) k-pw x k-h*dw x k))=i*(r-q)*(i*(r-q))*(pw (x+h) k-pw x k-h*dw x k):=by grind
   rw[e2,im] at m;have a:=(hc k).mul (show AB (pw (x+h) k-pw x k-h*dw x k) (i*i*(h*h*pw r k)) from⟨by grind,by grind⟩)
   exact a.mono (by grind)
  rw[zGU] at b;rw[e];refine b.mono ?_;have m:=YT (hK M) (YV (zP h) (YV (YZ ip) (YZ ip)));grind
theorem geo {t:Nat->Rat} {ρ:Rat} (h0:∀ k,0<=t k) (hρ:ρ<1) (QK:0<=ρ) (k0:Nat) (h:∀ k,k0<=k->t (k+1)<=ρ*t k):∃ K,0<=K/\∀ M,S t M<=K:=by
 have d0:0<1-ρ:=by grind
 obtain⟨i,hi⟩:∃ i,i=1/(1-ρ):=⟨_,rfl⟩;have ip:0<i:=by rw[hi];exact zK (by grind) d0
 have im:i*(1-ρ)=1:=by rw[hi];exact rdm d0
 have sn:∀ M,0<=S t M:=λ M=>by
  induction M with
  | zero=>show (0:Rat)<=0;grind
  | succ M ih=>have:=h0 M;show 0<=S t M+t M;grind
 have inv:∀ j,S t (k0+j)+i*t (k0+j)<=S t k0+i*t k0:=λ j=>by
  induction j with
  | zero=>exact Rat.le_refl
  | succ j ih =>
   have a:=h (k0+j) (by omega)
   have m:=YT a (YZ ip);have e:S t (k0+(j+1))=S t (k0+j)+t (k0+j):=rfl;have e2:t (k0+(j+1))=t (k0+j+1):=rfl;rw[e,e2];have r:i*(ρ*t (k0+j))=i*t (k0+j)-i*(1-ρ)*t (k0+j):=by grind
   rw[r,im] at m;grind
 have up:∀ M j,S t M<=S t (M+j):=λ M j=>by
  induction j with
  | zero=>exact Rat.le_refl
  | succ j ih=>have:=h0 (M+j);show S t M<=S t (M+j)+t (M+j);grind
 have ik:=YV (YZ ip) (h0 k0);refine⟨S t k0+i*t k0,by have:=sn k0;grind,λ M=>?_⟩
 have a:=up M k0;have b:=inv M;have c:=YV (YZ ip) (h0 (k0+M));have e:M+k0=k0+M:=Nat.add_comm _ _;rw[e] at a;grind
theorem zIA {t:Nat->Rat} {ρ:Rat} (h0:∀ k,0<=t k) (hρ:ρ<1) (QK:0<=ρ) (k0:Nat) (h:∀ k,k0<=k->t (k+1)<=ρ*t k):Null t:=by
 obtain⟨K,Io,hK⟩:=geo h0 hρ QK k0 h
 have fall:∀ k,k0<=k->t (k+1)<=t k:=λ k hk=>by
  have:=h k hk;have:=YX (YZ hρ) (h0 k);grind
 have Br:∀ j i,t (k0+(j+i))<=t (k0+j):=λ j i=>by
  induction i with
  | zero=>exact Rat.le_refl
  | succ i ih=>exact Rat.le_trans (fall (k0+(j+i)) (by omega)) ih
 have low:∀ (j m:Nat),m<=j->(m:Rat)*t (k0+j)<=S t (k0+m)-S t k0:=λ j m=>by
  induction m with
  | zero=>intro _;have:((0:Nat):Rat)=0:=rfl;rw[this];show (0:Rat)*t (k0+j)<=S t k0-S t k0;grind
  | succ m ih =>
   intro hm
   have i:=ih (by omega)
   have f:=Br m (j-m);have e:k0+(m+(j-m))=k0+j:=by omega
   rw[e] at f;have c:((m+1:Nat):Rat)=(m:Rat)+1:=by push_cast;rfl
   have es:S t (k0+(m+1))=S t (k0+m)+t (k0+m):=rfl;rw[c,es];grind
 have s0:0<=S t k0:=by
  have:∀ M,0<=S t M:=λ M=>by
   induction M with
   | zero=>show (0:Rat)<=0;grind
   | succ M ih=>have:=h0 M;show 0<=S t M+t M;grind
  exact this k0
 intro e he
 obtain⟨n,hn⟩:=kQ (K/e);refine⟨k0+n+1,λ M hM=>?_⟩
 obtain⟨j,rfl⟩:∃ j,M=k0+j:=⟨M-k0,by omega⟩
 have t0:=h0 (k0+j);refine⟨by grind,?_⟩
 have l:=low j j (Zb _);have b:=hK (k0+j);have d:=rdm (a:=K) he;have jn:(n:Rat)+1<=(j:Rat):=by exact_mod_cast (show n+1<=j by omega)
 have m1:=YX hn.2 (YZ he);rw[d] at m1;refine Rat.not_lt.1 λ E2=>?_
 have n0:(0:Rat)<=(n:Rat):=by exact_mod_cast Nat.zero_le n
 have m2:=YX jn t0;have m3:=YT (YZ E2) n0;grind
end Go.Proofs.YtgmnknmjainabacGreat.Ex
namespace Go.Proofs.YtgmnknmjainabacGreat.Ex
theorem zQ1 {d:Nat->Rat} {u:Rat} (h:IsLog d (λ _=>1+u)) (hu:AB u (1/16)):LeN d (λ _=>u+4*(u*u)):=by
 have uu:=zP u;have a1:u*u<=1/256:=by have:=(hu.mul hu).2;grind
 intro e he
 have hb:AB (u+4*(u*u)) (1/4):=⟨by have:=hu.1;grind,by have:=hu.2;grind⟩
 refine h.le (zCP (u+4*(u*u))) null_zero 2 (λ M hM=>?_) e he
 have k:=(zOK hb (M:=M) hM).1
 show 1+u<=E (u+4*(u*u)) M+0
 have q:(u+4*(u*u))*(u+4*(u*u))=u*u*((1+4*u)*(1+4*u)):=by grind
 have r:(1+4*u)*(1+4*u)<=2:=by have:=hu.2;grind
 have m:=YT r uu;grind
theorem dlog_two {d:Nat->Rat} {u:Rat} (h:IsLog d (λ _=>1+u)) (hu:AB u (1/16)):LeA (λ M=>d M-u) (4*(u*u)):=λ e he=>by
 obtain⟨N1,k1⟩:=zM2 h hu e he;obtain⟨N2,k2⟩:=zQ1 h hu e he;refine⟨N1+N2,λ M hM=>?_⟩
 have a1:=k1 M (by omega)
 have a2:=k2 M (by omega)
 dsimp only at a1 a2
 exact⟨by grind,by grind⟩
theorem LeA.of_abs {f g:Nat->Rat} {K:Rat} (h:LeA g K) (N0:Nat) (k:∀ M,N0<=M->AB (f M) (g M)):LeA f K:=λ e he=>by
 obtain⟨N,h⟩:=h e he;exact⟨N+N0,λ M hM=>(k M (by omega)).mono (h M (by omega)).2⟩
theorem abs_ex (u:Rat):∃ v,AB u v/\v*v=u*u:=by
 by_cases c:0<=u
 ·exact⟨u,⟨by grind,by grind⟩,rfl⟩
 ·exact⟨-u,⟨by grind,by grind⟩,by grind⟩
theorem pr_unit {d:Nat->Rat} {u c c1 v:Rat} (h:IsLog d (λ _=>1+u)) (hc:AB c c1) (hv:AB u v) (T9:v*v=u*u) (pE:v<=1/16) (hcv:c1*v<=1/16):LeA (λ M=>Ev (λ M=>c*d M) M-1-c*u) ((4*c1+8*(c1*c1))*(u*u)):=by
 have c0:=hc.nonneg;have v0:=hv.nonneg;have l:=dlog_two h (hv.mono pE)
 have ld:LeA d (2*v):=by
  refine ((l.add (LeA.const hv)).mono ?_).of_eq λ M=>by grind
  have:=YT pE v0;rw[<- T9];grind
 have ly:LeA (λ M=>c*d M) (c1*(2*v)):=ld.scale hc
 obtain⟨N,hN⟩:=ly (1/8) (by grind)
 have l2:LeA (λ M=>Ev (λ M=>c*d M) M-1-c*d M) (2*(c1*(2*v)*(c1*(2*v)))):=by
  refine ((ly.mul ly).scale (show AB 2 2 from⟨by grind,by grind⟩)).of_abs (N+2) λ M hM=>?_
  exact zOK ((hN M (by omega)).mono (by grind)) (by omega)
 refine ((l2.add (l.scale hc)).mono ?_).of_eq λ M=>by grind
 rw[<- T9];grind
theorem zS8 {L:Rat->Nat->Rat} (hL:Lns L) (c:Rat) {p q:Rat} (hp:0<p) (M4:p<=q):Dif (pr L c) (λ x M=>c/x*pr L c x M) p q:=by
 obtain⟨c1,hc⟩:=AB.self c;have c0:=hc.nonneg;have hq:0<q:=by grind
 obtain⟨B1,A6⟩:=(hL p hp).1.leA;obtain⟨B2,o9⟩:=(hL q hq).1.leA;have B10:=A6.nonneg;have B20:=o9.nonneg;obtain⟨K,K0,hK⟩:=zDS (c1*(B1+B2+2))
 have bd:∀ x,p<=x->x<=q->LeA (pr L c x) K:=λ x h1 h2=>by
  have x0:0<x:=by grind
  have l1:LeN (L p) (L x):=λ e he=>(hL p hp).le (hL x x0) null_zero 0 (λ M _=>by grind) e he
  have l2:LeN (L x) (L q):=λ e he=>(hL x x0).le (hL q hq) null_zero 0 (λ M _=>by grind) e he
  obtain⟨N1,n1⟩:=l1 1 (by grind)
  obtain⟨N2,n2⟩:=l2 1 (by grind)
  obtain⟨N3,n3⟩:=A6 1 (by grind)
  obtain⟨N4,n4⟩:=o9 1 (by grind)
  refine LeA.of_ab (N1+N2+N3+N4) λ M hM=>hK M _ (hc.mul ?_)
  have a1:=n1 M (by omega)
  have a2:=n2 M (by omega)
  have a3:=(n3 M (by omega)).1
  have a4:=(n4 M (by omega)).2
  exact⟨by grind,by grind⟩
 obtain⟨i,hi⟩:∃ i,i=1/p:=⟨_,rfl⟩;have ip:0<i:=by rw[hi];exact zK (by grind) hp
 have im:i*p=1:=by rw[hi];exact rdm hp
 have ic:=YV c0 (YZ ip);have icK:=YV ic K0;have Dp:0<16*((1+c1)*i):=by have:=Rat.mul_pos (show 0<1+c1 by grind) ip;grind
 have D0:=zK (show (0:Rat)<1 by grind) Dp
 have Dm:=rdm (a:=1) Dp;obtain⟨C2,dL⟩:∃ C2,C2=(4*c1+8*(c1*c1)):=⟨_,rfl⟩;have xB:0<=C2:=by have:=YV c0 c0;grind
 have inv:∀ x,p<=x->0<1/x/\1/x<=i/\1/x*x=1:=λ x h1=>by
  have x0:0<x:=by grind
  have:=rdm (a:=1) x0;refine⟨zK (by grind) x0,zBP x0 ?_,this⟩
  have:=YT h1 (YZ ip);grind
 have cdiv:∀ x,c/x=c*(1/x):=λ x=>by rw[Rat.div_def,Rat.div_def,Rat.one_mul]
 refine Dif.of_small (D:=1/(16*((1+c1)*i))) (C:=C2*K*(i*i)) (K:=K+c1*i*K) M4 D0 (YV (YV xB K0) (zP i)) (by grind) (λ x h1 h2=>⟨(bd x h1 h2).mono (by grind),?_⟩) (λ x h h1 h2 h3 h4 hD=>?_)
 ·obtain⟨e1,e2,e3⟩:=inv x h1
  rw[cdiv];refine ((bd x h1 h2).scale (hc.mul (show AB (1/x) i from⟨by grind,e2⟩))).mono (by grind)
 ·obtain⟨e1,e2,e3⟩:=inv x h1
  have x0:0<x:=by grind
  obtain⟨j,hj⟩:∃ j,j=1/x:=⟨_,rfl⟩;rw[<- hj] at e1 e2 e3;obtain⟨w,hw,hww⟩:=abs_ex h;have w0:=hw.nonneg
  have hwD:w<=1/(16*((1+c1)*i)):=by
   by_cases cs:0<=h
   ·have:w=h:=by
     have:(w-h)*(w+h)=0:=by grind
     rcases Rat.mul_eq_zero.1 this with h'|h'
     ·grind
     ·have:=hw.2;grind
    have:=hD.2;grind
   ·have:w = -h:=by
     have:(w-h)*(w+h)=0:=by grind
     rcases Rat.mul_eq_zero.1 this with h'|h'
     ·have:=hw.1;grind
     ·grind
    have:=hD.1;grind
  have uw:AB (h*j) (w*j):=hw.mul (show AB j j from⟨by grind,by grind⟩)
  have wj:w*j<=w*i:=YT e2 w0
  have b1:(1+c1)*(w*i)<=1/16:=by
   have m:=YX hwD (YZ Dp);rw[Dm] at m;grind
  have wi:=YV w0 (YZ ip);have cwi:=YV c0 wi
  have hs:x*(1+h*j)=x+h:=by
   have:x*(1+h*j)=x+h*(j*x):=by grind
   rw[this,e3];grind
  have s0:0<x+h:=by grind
  have u1:0<1+h*j:=by have:=uw.1;grind
  have hd:=zIG hL x0 u1;rw[hs] at hd;have m:=YT wj c0;have pu:=pr_unit hd hc uw (by grind) (by grind) (by grind)
  have bdd:=(Bdd.const c).mul hd.1;have s:=zAO bdd (kD hL x0 c);have es:∀ M,Ev (λ M=>c*(L (x+h) M-L x M)+c*L x M) M=pr L c (x+h) M:=λ M=>by unfold pr Ev;congr 1;grind
  have t:=pu.mul (bd x h1 h2);rw[<- dL] at t;refine (LeA.congr (t.mono ?_) (s.neg.of_eq λ M=>?_))
  ·have Yj:h*j*(h*j)=h*h*(j*j):=by grind
   have jj:j*j<=i*i:=by
    have a:=YT e2 (YZ e1);have b:=YX e2 (YZ ip);grind
   have m1:=YT jj (YV (YV xB K0) (zP h));rw[Yj];grind
  ·rw[es M,cdiv,<- hj]
   have e:Ev (λ M=>c*L x M) M=pr L c x M:=rfl
   rw[e];grind
end Go.Proofs.YtgmnknmjainabacGreat.Ex
