/-
  Its own texts.
-/
import Derived.Test.YtgmnknmjainabacGreatK10
set_option maxRecDepth 100000
set_option maxHeartbeats 40000000
set_option linter.unnecessarySimpa false
set_option linter.unusedSimpArgs false
set_option linter.unusedVariables false
namespace Go.Proofs.YtgmnknmjainabacGreat.Ex
theorem zFS (K:Rat) (hK:0<=K):Null (λ M=>K*q4 M) :=
 Null.of_le (zB5 K hK) 1 λ M hM=>by
  have hm:(1:Rat)<=(M:Rat):=by exact_mod_cast hM
  have q:=yE M;have h1:=Yv hm (Yw q);have h2:=Yr h1 hK;have h3:=Ys hK (Yw q);constructor<;>grind
theorem zF2 (M:Nat):aA 0 M=0:=by
 have h:∀ n,uT 0 n=0:=λ n=>by
  induction n with
  | zero=>rfl
  | succ n ih=>show _*(0*0)*uT 0 n=0;rw[ih];grind
 unfold aA
 induction M with
 | zero=>rfl
 | succ n ih=>show S (λ n=>sg n*uT 0 n) n+sg n*uT 0 n=0;rw[ih,h];grind
theorem tD_same (v:Rat):tD v v=0:=by unfold tD;rw[show v-v=0 by grind,YE];grind
theorem tD_le {v x:Rat} (hv:0<=v) (wV:v<=x):0<=tD v x/\tD v x<=x:=by
 have e:=zOK hv (show 0<=x by grind)
 have xv:=Ys (show 0<=x by grind) hv
 have h0:0<=tD v x:=by
  refine Rat.not_lt.1 λ D9=>?_
  have:=Rat.mul_pos (show 0 < -tD v x by grind) (show 0<1+x*v by grind)
  grind
 have:=Ys h0 xv;exact⟨h0,by grind⟩
theorem zJF {v u:Rat} (hv:0<=v) (RC:v<=u) (hu:u<=1/2):Null (λ M=>aA u M-aA (tD v u) M-aA v M):=by
 have key:∀ x h,v<=x->0<h->x+h<=u->∀ M,AB ((aA (x+h) M-aA (tD v (x+h)) M)-(aA x M-aA (tD v x) M)) (24*(h*h)+3*h*q4 M):=λ x h h1 h2 h3 M=>by
  obtain⟨i,i0,hi⟩:=zNK (1+x*x) (by have:=zO x;grind)
  have a:=zQS (u:=x) (h:=h) (i:=i) (by grind) (Yw h2) (by grind) hi M
  have b:=zLH (x:=x) (h:=h) (i:=i) hv (by grind) h1 (Yw h2) (by have:=(tD_le hv (show v<=x+h by grind)).2;grind) hi M
  have c:=a.add b.neg;have e:aA (x+h) M-aA x M-h*i + -(aA (tD v (x+h)) M-aA (tD v x) M-h*i)=(aA (x+h) M-aA (tD v (x+h)) M)-(aA x M-aA (tD v x) M):=by grind
  rw[e] at c;exact c.mono (by grind)
 have d1:=zCN (f:=λ x M=>aA x M-aA (tD v x) M) (C:=24) (D:=1) RC (by grind) (by grind) (λ x h h1 h2 _ h4=>⟨_,zFS (3*h) (by grind),0,λ M _=>by have:=(key x h h1 h2 h4 M).2;grind⟩)
 have d2:=zCN (f:=λ x M => -(aA x M-aA (tD v x) M)) (C:=24) (D:=1) RC (by grind) (by grind) (λ x h h1 h2 _ h4=>⟨_,zFS (3*h) (by grind),0,λ M _=>by have:=(key x h h1 h2 h4 M).1;grind⟩)
 intro e he
 obtain⟨N1,k1⟩:=d1 e he;obtain⟨N2,k2⟩:=d2 e he;refine⟨N1+N2,λ M hM=>?_⟩
 have a1:=k1 M (by omega)
 have a2:=k2 M (by omega)
 simp only[tD_same,zF2] at a1 a2;constructor<;>grind
theorem machin:Null (λ M=>(aA (1/2) M+aA (1/3) M)-(4*aA (1/5) M-aA (1/239) M)):=by
 have d1:=zJF (v:=1/5) (u:=1/2) (by grind) (by grind) (by grind)
 have d2:=zJF (v:=1/5) (u:=1/3) (by grind) (by grind) (by grind)
 have d3:=zJF (v:=1/5) (u:=3/11) (by grind) (by grind) (by grind)
 have d4:=zJF (v:=1/8) (u:=1/5) (by grind) (by grind) (by grind)
 have d5:=zJF (v:=2/29) (u:=3/41) (by grind) (by grind) (by grind)
 rw[show tD (1/5) (1/2)=3/11 by decide +kernel] at d1
 rw[show tD (1/5) (1/3)=1/8 by decide +kernel] at d2
 rw[show tD (1/5) (3/11)=2/29 by decide +kernel] at d3
 rw[show tD (1/8) (1/5)=3/41 by decide +kernel] at d4
 rw[show tD (2/29) (3/41)=1/239 by decide +kernel] at d5
 exact ((((d1.add d2).add d3).sub d4).sub d5).of_eq λ M=>by grind
theorem aA_ag {m:Int} (hm:2<=m) (M:Nat):aA (1/(m:Rat)) M=agS m M:=by
 have m0:(0:Rat)<(m:Rat):=by exact_mod_cast (show 0<m by omega)
 have e:(1/(m:Rat))*(m:Rat)=1:=rdm m0
 have h:∀ n,sg n*uT (1/(m:Rat)) n=agV m n:=λ n=>by
  induction n with
  | zero=>show 1*(1/(m:Rat))=((1:Int):Rat)/(m:Rat);rw[Rat.one_mul];rfl
  | succ n ih =>
   have p:=zNV n
   show -sg n*((2*(n:Rat)+1)/(2*(n:Rat)+3)*((1/(m:Rat))*(1/(m:Rat)))*uT (1/(m:Rat)) n) = -(((2*(n:Int)+1:Int):Rat)/(((2*(n:Int)+3)*m*m:Int):Rat)*agV m n)
   rw[<- ih];have e1:((2*(n:Int)+1:Int):Rat)=2*(n:Rat)+1:=by rw[Rat.intCast_add,YA];rfl
   have e2:(((2*(n:Int)+3)*m*m:Int):Rat)=(2*(n:Rat)+3)*(m:Rat)*(m:Rat):=by rw[YA,YA,Rat.intCast_add,YA];rfl
   have key:(2*(n:Rat)+1)/(2*(n:Rat)+3)*((1/(m:Rat))*(1/(m:Rat)))=((2*(n:Int)+1:Int):Rat)/(((2*(n:Int)+3)*m*m:Int):Rat):=by
    rw[e1,e2];have q:(0:Rat)<(2*(n:Rat)+3)*(m:Rat)*(m:Rat):=Rat.mul_pos (Rat.mul_pos p m0) m0;have r1:=rdm (a:=2*(n:Rat)+1) q;have r2:=rdm (a:=2*(n:Rat)+1) p
    have lhs:(2*(n:Rat)+1)/(2*(n:Rat)+3)*((1/(m:Rat))*(1/(m:Rat)))*((2*(n:Rat)+3)*(m:Rat)*(m:Rat))=2*(n:Rat)+1:=by
     have:(2*(n:Rat)+1)/(2*(n:Rat)+3)*((1/(m:Rat))*(1/(m:Rat)))*((2*(n:Rat)+3)*(m:Rat)*(m:Rat))=((2*(n:Rat)+1)/(2*(n:Rat)+3)*(2*(n:Rat)+3))*((1/(m:Rat)*(m:Rat))*(1/(m:Rat)*(m:Rat))):=by grind
     rw[this,r2,e];grind
    refine Rat.le_antisymm (Rat.le_of_mul_le_mul_right (by rw[lhs,r1];exact Rat.le_refl) q) (Rat.le_of_mul_le_mul_right (by rw[lhs,r1];exact Rat.le_refl) q)
   rw[key];generalize ((2*(n:Int)+1:Int):Rat)/(((2*(n:Int)+3)*m*m:Int):Rat)=c;grind
 exact kR M λ i _=>h i
theorem pi_four:Null (λ M=>4*(aA (1/2) M+aA (1/3) M)-piS M):=by
 refine (machin.bmul (Bdd.const 4)).of_eq λ M=>?_
 have a:=aA_ag (m:=5) (by omega) M
 have b:=aA_ag (m:=239) (by omega) M
 rw[show 1/((5:Int):Rat)=1/5 by decide +kernel] at a
 rw[show 1/((239:Int):Rat)=1/239 by decide +kernel] at b
 unfold piS;rw[<- a,<- b];grind
def rI (x:Rat):Rat:=1/(1+x*x)
theorem zKL (x:Rat):rI x*(1+x*x)=1:=rdm (by have:=zO x;grind)
theorem zKM (x:Rat):0<rI x:=zF (by grind) (by have:=zO x;grind)
theorem rI_le (x:Rat):rI x<=1:=by have:=zKL x;have:=Ys (Yw (zKM x)) (zO x);grind
theorem zUM {v x y:Rat} (hv:0<=v) (wV:v<=x) (K6:x<=y):tD v x<=tD v y:=by
 have:=(zUN hv wV (show 0<=y-x by grind)).1
 rwa [show x+(y-x)=y by grind] at this
theorem zKY {v x h:Rat} (hv:0<=v) (Ak:v<=1/2) (wV:v<=x) (hh:0<=h) (M:Nat) (j:Nat) (hj:tD v (x+(j:Rat)*h)<=1/2) :
  S (λ i=>h*rI (x+(i:Rat)*h)) j<=aA (tD v (x+(j:Rat)*h)) M-aA (tD v x) M+(j:Rat)*(16*(h*h)+2*(h*q4 M)):=by
 induction j with
 | zero =>
  have e:x+((0:Nat):Rat)*h=x:=by grind
  rw[e]
  show (0:Rat)<=_
  grind
 | succ j ih =>
  have ec:((j+1:Nat):Rat)=(j:Rat)+1:=by push_cast;rfl
  have j0:(0:Rat)<=(j:Rat):=by exact_mod_cast Nat.zero_le j
  have jh:=Ys j0 hh;have e1:x+((j+1:Nat):Rat)*h=x+(j:Rat)*h+h:=by rw[ec];grind
  rw[e1] at hj ⊢;have Ao:=ih (Rat.le_trans (zUM hv (by grind) (by grind)) hj)
  have st:=(zLH (x:=x+(j:Rat)*h) (i:=rI (x+(j:Rat)*h)) hv Ak (by grind) hh hj (zKL _) M).1
  show S (λ i=>h*rI (x+(i:Rat)*h)) j+h*rI (x+(j:Rat)*h)<=_
  rw[ec];grind
theorem zQQ (f:Nat->Rat) (a b:Nat):S f (a+b)=S f a+S (λ i=>f (a+i)) b:=by
 induction b with
 | zero=>show S f a=S f a+0;grind
 | succ b ih=>show S f (a+b)+f (a+b)=S f a+(S (λ i=>f (a+i)) b+f (a+b));rw[ih];grind
theorem zUK (n:Nat) {h:Rat} (hh:h*(2*((n:Rat)+1))=1):LeN (λ _=>4*S (λ i=>h*rI ((i:Rat)*h)) (2*(n+1))) (λ M=>piS M+64*(1/((n:Rat)+1))):=by
 have n0:(0:Rat)<(n:Rat)+1:=zA0 n
 have h0:0<h:=by
  refine Rat.not_le.1 λ hle=>?_
  have:=Ys (show 0 <= -h by grind) (show 0<=2*((n:Rat)+1) by grind)
  grind
 have ec:((n+1:Nat):Rat)=(n:Rat)+1:=by push_cast;rfl
 have hm:((n+1:Nat):Rat)*h=1/2:=by rw[ec];grind
 have a:∀ M,S (λ i=>h*rI (0+(i:Rat)*h)) (n+1)<=aA (1/2) M+((n:Rat)+1)*(16*(h*h)+2*(h*q4 M)):=λ M=>by
  have:=zKY (v:=0) (x:=0) (by grind) (by grind) (by grind) (Yw h0) M (n+1) (by rw[hm];decide +kernel)
  rw[hm,show tD 0 (0+1/2)=1/2 by decide +kernel,show tD 0 0=0 by decide +kernel,zF2,ec] at this
  grind
 have b:∀ M,S (λ i=>h*rI (1/2+(i:Rat)*h)) (n+1)<=aA (1/3) M+((n:Rat)+1)*(16*(h*h)+2*(h*q4 M)):=λ M=>by
  have:=zKY (v:=1/2) (x:=1/2) (by grind) (by grind) (by grind) (Yw h0) M (n+1) (by rw[hm];decide +kernel)
  rw[hm,show tD (1/2) (1/2+1/2)=1/3 by decide +kernel,show tD (1/2) (1/2)=0 by decide +kernel,zF2,ec] at this
  grind
 have sp:S (λ i=>h*rI ((i:Rat)*h)) (2*(n+1))=S (λ i=>h*rI (0+(i:Rat)*h)) (n+1)+S (λ i=>h*rI (1/2+(i:Rat)*h)) (n+1):=by
  rw[show 2*(n+1)=(n+1)+(n+1) by omega,zQQ]
  congr 1
  ·exact kR _ λ i _=>by rw[show 0+(i:Rat)*h=(i:Rat)*h by grind]
  ·refine kR _ λ i _=>?_
   have e:((n+1+i:Nat):Rat)=((n+1:Nat):Rat)+(i:Rat):=by push_cast;rfl
   rw[e,show (((n+1:Nat):Rat)+(i:Rat))*h=((n+1:Nat):Rat)*h+(i:Rat)*h by grind,hm]
 rw[sp];have nh:((n:Rat)+1)*h=1/2:=by grind
 have hu:h=1/2*(1/((n:Rat)+1)):=by
  have um:1/((n:Rat)+1)*((n:Rat)+1)=1:=rdm n0;have:h*(((n:Rat)+1)*(1/((n:Rat)+1)))=1/2*(1/((n:Rat)+1)):=by rw[<- nh];grind
  rw[show ((n:Rat)+1)*(1/((n:Rat)+1))=1 by grind] at this
  grind
 refine LeN.of_null ((pi_four).add (zFS 8 (by grind))) 0 λ M _=>?_
 have a1:=a M;have b1:=b M;have e1:((n:Rat)+1)*(16*(h*h)+2*(h*q4 M))=16*(((n:Rat)+1)*h)*h+2*(((n:Rat)+1)*h)*q4 M:=by grind
 rw[e1,nh] at a1 b1;have u0:(0:Rat)<1/((n:Rat)+1):=zF (by grind) n0
 generalize 1/((n:Rat)+1)=u at *;rw[hu] at a1 b1 ⊢;generalize S (λ i=>1/2*u*rI (0+(i:Rat)*(1/2*u))) (n+1)=s1 at *
 generalize S (λ i=>1/2*u*rI (1/2+(i:Rat)*(1/2*u))) (n+1)=s2 at *
 grind
end Go.Proofs.YtgmnknmjainabacGreat.Ex
namespace Go.Proofs.YtgmnknmjainabacGreat.Ex
def ex (c:Rat) (M:Nat):Rat:=Ev (λ _=>c) M
theorem zBB (a b:Rat):Null (λ M=>ex a M*ex b M-ex (a+b) M):=zAK (Bdd.const a) (Bdd.const b)
theorem jY (a:Rat):Bdd (ex a):=zAE (Bdd.const a)
theorem zBC (a:Rat):∃ N:Nat,∀ M,N<=M->0<=ex a M:=by
 obtain⟨c,c0,N,h⟩:=zB7 (x:=λ _=>a) (Bdd.const a)
 exact⟨N,λ M hM=>Rat.le_trans (Yw c0) (h M hM)⟩
theorem zB3 {a b:Rat} (h:a<=b):LeN (ex a) (ex b):=by
 obtain⟨v,hv,N,k⟩:=zC4 (x:=λ _=>a) (y:=λ _=>b) (Bdd.const a) (Bdd.const b) null_zero 0 (λ M _=>by grind)
 exact LeN.of_null hv N k
theorem zD9 {t:Rat} (h0:0<=t) (h4:t<=1/4) {M:Nat} (hM:2<=M):0<=ex (-t) M/\ex (-t) M<=1-t+2*(t*t):=by
 have:=zAD (h := -t) (b:=t) ⟨by grind,by grind⟩ h4 hM
 have tt:t*t<=t*(1/4):=Yr h4 h0
 show 0<=E (-t) M/\E (-t) M<=_
 obtain⟨h1,h2⟩:=this;constructor<;>grind
theorem ex_step {a t:Rat} (h0:0<=t) (h4:t<=1/4):∃ z,Null z/\∃ N:Nat,∀ M,N<=M->ex (a + -t) M<=ex a M*(1-t+2*(t*t))+z M:=by
 obtain⟨N,hN⟩:=zBC a;refine⟨_,(zBB a (-t)).neg,N+2,λ M hM=>?_⟩
 have h1:=hN M (by omega)
 have h2:=(zD9 h0 h4 (M:=M) (by omega)).2
 have h3:=Yr h2 h1;grind
end Go.Proofs.YtgmnknmjainabacGreat.Ex
namespace Go.Proofs.YtgmnknmjainabacGreat.Ex
theorem eT_back {x y:Rat} (hx:0<=x) (K6:x<=y) (n:Nat):eT y n<=eT x n+(y-x)*eD y n:=by
 induction n with
 | zero=>show y<=x+(y-x)*1;grind
 | succ n ih =>
  have p:=zDD n;have hy:0<=y:=by grind
  have e1:=zD0 x n;have e2:=zD0 y n;have e3:=eD_mul y n;have t0:=zAX hx n;have mono:=zRS hx K6 n;obtain⟨h,hh⟩:∃ h,h=y-x:=⟨_,rfl⟩;have h0:0<=h:=by grind
  rw[<- hh] at ih ⊢;have m1:=Yr ih (zO y);refine Rat.le_of_mul_le_mul_left (c:=2*((n:Rat)+1)+1) ?_ p
  show _<=(2*((n:Rat)+1)+1)*(eT x (n+1)+h*(2*y*eT y n))
  have k4:(2*((n:Rat)+1)+1)*(eT x (n+1)+h*(2*y*eT y n))=2*(x*x)*eT x n+(2*((n:Rat)+1)+1)*(h*(2*y*eT y n)):=by rw[<- e1];grind
  rw[k4,e2]
  have k5:y*y-x*x<=2*(h*y):=by
   have:=Ys h0 h0;have:y*y-x*x=2*(h*y)-h*h:=by rw[hh];grind
   grind
  have k6:=Yv k5 t0;have k7:=Yr mono (Ys (show (0:Rat)<=2 by grind) (Ys h0 hy))
  have k8:=Rat.le_trans k6 k7;have k9:y*y*(h*eD y n)=h*y*((2*(n:Rat)+1)*eT y n):=by rw[<- e3];grind
  have dP:y*y*(eT x n+h*eD y n)=y*y*eT x n+y*y*(h*eD y n):=by grind
  rw[dP,k9] at m1;grind
theorem eS_up (x:Rat) (hx:0<=x) (M:Nat):eS x M<=eS x (M+1):=by have:=zAX hx M;show eS x M<=eS x M+eT x M;grind
theorem eS_back {x y:Rat} (hx:0<=x) (K6:x<=y) (M:Nat):eS y M<=eS x M+(y-x)*(1+2*y*eS y M):=by
 have hy:0<=y:=by grind
 have key:∀ m,eS y (m+1)<=eS x (m+1)+(y-x)*(1+2*y*eS y m):=λ m=>by
  induction m with
  | zero=>show 0+y<=0+x+(y-x)*(1+2*y*0);grind
  | succ n ih =>
   have g:=eT_back hx K6 (n+1);have e:eD y (n+1)=2*y*eT y n:=rfl;rw[e] at g
   show eS y (n+1)+eT y (n+1)<=eS x (n+1)+eT x (n+1)+(y-x)*(1+2*y*(eS y n+eT y n))
   grind
 cases M with
 | zero=>show (0:Rat)<=0+(y-x)*(1+2*y*0);grind
 | succ m =>
  have h1:=key m;have h2:=eS_up y hy m;have h3:=Yr h2 (Ys (show 0<=y-x by grind) (show 0<=2*y by grind))
  grind
structure Bnd (Y K V:Rat):Prop where
 y0:0<=Y
 k0:0<=K
 v1:1<=V
 s:∀ x,0<=x->x<=Y->∀ M,eS x M<=K
 v:∀ c,0<=c->c<=2*(Y*Y)->∀ M,ex (-c) M<=V
theorem bnd_ex {Y:Rat} (hY:0<=Y):∃ K V,Bnd Y K V:=by
 obtain⟨K,k0,hK⟩:=zJX hY;obtain⟨V,v0,hV⟩:=zDY (2*(Y*Y));have yy:=Ys hY hY
 exact⟨K,V+1,hY,k0,by grind,λ x h0 h1 M=>Rat.le_trans (zRQ h0 h1 M) (hK M),λ c h0 h1 M=>by
  have:=(hV M (-c) ⟨by grind,by grind⟩).2
  show E (-c) M<=_
  grind⟩
theorem zO8 (x:Rat) (M:Nat):eF x M=eS x M*ex (-(x*x)) M:=rfl
theorem up_key {s s' h x Y K L C1:Rat} (hx:0<=x) (hh:0<h) (hY:x+h<=Y) (s0:0<=s) (sK:s<=K) (sK':s'<=K) (s'0:0<=s') (hL:L=1+2*(Y*K)) (hC:C1=2*K+2*(Y*L)) (hb:s'<=s+h*(1+2*(x+h)*s')):s'<=s+h+2*(x*h)*s+C1*(h*h):=by
 have K0:0<=K:=by grind
 have Y0:0<=Y:=by grind
 have a1:(x+h)*s'<=Y*K:=Rat.le_trans (Yv hY s'0) (Yr sK' Y0)
 have a2:s'<=s+h*L:=by
  have:=Yr (show 1+2*(x+h)*s'<=L by grind) (Yw hh)
  grind
 have L0:0<=L:=by have:=Ys Y0 K0;grind
 have a3:=Yr a2 (show 0<=2*(x+h) by grind)
 have a4:=Yr (show 1+2*(x+h)*s'<=1+2*(x+h)*(s+h*L) by grind) (Yw hh)
 have a5:=Yv hY (Ys (Yw hh) L0);have a6:=Yr a5 (show 0<=2*h by grind)
 have a7:=Yr sK (Ys (Yw hh) (Yw hh));rw[hC];grind
theorem up_key2 {s s' h x Y K C1 C2 A t q:Rat} (hx:0<=x) (hh:0<h) (h1:h<=1) (hY:x+h<=Y) (s0:0<=s) (sK:s<=K) (c1:0<=C1) (hA:A=2*Y+1) (kx:C2=2*(A*A)) (ht:t=h*(2*x+h)) (q0:0<=q) (hq:q<=1-t+2*(t*t)) (hs:s'<=s+h+2*(x*h)*s+C1*(h*h)):s'*q<=s+h+(C1+C2*(K+1+2*(Y*K)+C1))*(h*h):=by
 have K0:0<=K:=by grind
 have Y0:0<=Y:=by grind
 have h0:=Yw hh;have ib:=Ys h0 h0;have a0:0<=2*x+h:=by grind
 have aA:2*x+h<=A:=by grind
 have A0:0<=A:=by grind
 have aa:(2*x+h)*(2*x+h)<=A*A:=Rat.le_trans (Yr aA a0) (Yv aA A0)
 have tt:t*t<=A*A*(h*h):=by
  have:=Yv aa ib;rw[ht];grind
 have P6:q<=1-2*(x*h)+C2*(h*h):=by
  have:t=2*(x*h)+h*h:=by rw[ht];grind
  rw[kx];grind
 have yh:0<=C2:=by rw[kx];have:=Ys A0 A0;grind
 obtain⟨p,hp⟩:∃ p,p=s+h+2*(x*h)*s+C1*(h*h):=⟨_,rfl⟩;have xh:=Ys hx h0;have xhs:=Ys xh s0;have p0:0<=p:=by rw[hp];have:=Ys c1 ib;grind
 have m1:=Yv (show s'<=p by grind) q0
 have m2:=Yr P6 p0;refine Rat.le_trans m1 (Rat.le_trans m2 ?_)
 have b1:p*(1-2*(x*h))<=s+h+C1*(h*h):=by
  have n1:=Ys xh h0;have n2:=Ys xh xhs;have n3:=Ys xh (Ys c1 ib);rw[hp];grind
 have b2:p<=K+1+2*(Y*K)+C1:=by
  have n1:x*h<=Y:=by have:=Yr h1 hx;grind
  have n2:=Yv n1 s0;have n3:=Yr sK Y0;have n4:h*h<=1:=by have:=Yr h1 h0;grind
  have n5:=Yr n4 c1;rw[hp];grind
 have b3:=Yv b2 (Ys yh ib);grind
theorem eF_up {Y K V:Rat} (B:Bnd Y K V):∃ C D,0<=C/\0<D/\D<=1/\∀ x h,0<=x->0<h->h<=D->x+h<=Y->∃ z,Null z/\∃ N:Nat,∀ M,N<=M->eF (x+h) M<=eF x M+h*ex (-(x*x)) M+C*(h*h)+z M:=by
 obtain⟨L,hL⟩:∃ L,L=1+2*(Y*K):=⟨_,rfl⟩;obtain⟨C1,iO⟩:∃ C1,C1=2*K+2*(Y*L):=⟨_,rfl⟩;obtain⟨A,hA⟩:∃ A,A=2*Y+1:=⟨_,rfl⟩;obtain⟨C2,kx⟩:∃ C2,C2=2*(A*A):=⟨_,rfl⟩;obtain⟨C3,Qz⟩:∃ C3,C3=C1+C2*(K+1+2*(Y*K)+C1):=⟨_,rfl⟩;have y0:=B.y0;have k0:=B.k0;have v1:=B.v1;have yk:=Ys y0 k0;have L0:0<=L:=by grind
 have yl:=Ys y0 L0;have se:0<=C1:=by grind
 have A0:0<=A:=by grind
 have A1:1<=A:=by grind
 have yh:0<=C2:=by rw[kx];have:=Ys A0 A0;grind
 have OK:0<=C3:=by rw[Qz];have:=Ys yh (show 0<=K+1+2*(Y*K)+C1 by grind);grind
 have A4:0<4*A:=by grind
 have dm:1/(4*A)*(4*A)=1:=rdm A4;have d0:0<1/(4*A):=zF (by grind) A4
 refine⟨C3*V,1/(4*A),Ys OK (by grind),d0,jR A4 (by grind),λ x h hx hh hD hY=>?_⟩
 have h1:h<=1:=Rat.le_trans hD (jR A4 (by grind))
 have Yd:h*A<=1/4:=by have:=Yv hD A0;grind
 obtain⟨t,ht⟩:∃ t,t=h*(2*x+h):=⟨_,rfl⟩;have h0:=Yw hh;have t0:0<=t:=by rw[ht];exact Ys h0 (by grind)
 have t4:t<=1/4:=by
  have:=Yr (show 2*x+h<=A by grind) h0
  rw[ht];grind
 have sqe : -((x+h)*(x+h)) = -(x*x) + -t:=by rw[ht];grind
 have eb:Bdd (eS (x+h)):=Bdd.of_le K 0 λ M _=>⟨by have:=jQ (x:=x+h) (by grind) M;grind,B.s _ (by grind) hY M⟩
 have hz:=((zBB (-(x*x)) (-t)).neg).bmul eb;obtain⟨N,hN⟩:=zBC (-(x*x));refine⟨_,hz,N+2,λ M hM=>?_⟩
 have v0:=hN M (by omega)
 have vV:ex (-(x*x)) M<=V:=B.v _ (zO x) (by
  have xx:x*x<=Y*Y:=Rat.le_trans (Yr (show x<=Y by grind) hx) (Yv (show x<=Y by grind) y0)
  have:=Ys y0 y0
  grind) M
 have q:=zD9 t0 t4 (M:=M) (by omega)
 have sb:=eS_back hx (show x<=x+h by grind) M
 rw[show x+h-x=h by grind] at sb
 have s1:=up_key (Y:=Y) (K:=K) (L:=L) (C1:=C1) hx hh hY (jQ hx M) (B.s x hx (by grind) M) (B.s _ (by grind) hY M) (jQ (by grind) M) hL iO sb
 have s2:=up_key2 (q:=ex (-t) M) (A:=A) (C2:=C2) hx hh h1 hY (jQ hx M) (B.s x hx (by grind) M) se hA kx ht q.1 q.2 s1
 rw[<- Qz] at s2;have s3:=Yv s2 v0;have ib:=Ys h0 h0;have s4:=Yr vV (Ys OK ib);rw[zO8,zO8,sqe];generalize ex (-(x*x)) M=v at *;generalize ex (-t) M=q at *;generalize ex (-(x*x) + -t) M=vt at *;generalize eS (x+h) M=s' at *;generalize eS x M=s at *;clear hz eb sb s1;grind
end Go.Proofs.YtgmnknmjainabacGreat.Ex
namespace Go.Proofs.YtgmnknmjainabacGreat.Ex
theorem LeN.scale {f g:Nat->Rat} (h:LeN f g) {c:Rat} (hc:0<=c):LeN (λ M=>c*f M) (λ M=>c*g M):=by
 obtain⟨z,hz,k⟩:=h.null;exact LeN.of_null (hz.bmul (Bdd.const c)) 0 λ M _=>by have:=Yr (k M) hc;grind
theorem eF_chord {Y K V a b:Rat} (B:Bnd Y K V) (ha:0<=a) (iP:a<=b) (hb:b<=Y):LeN (eF b) (λ M=>eF a M+(b-a)*ex (-(a*a)) M):=by
 obtain⟨C,D,c0,d0,_,up⟩:=eF_up B
 have d:=zCN (f:=λ x M=>eF x M-(x-a)*ex (-(a*a)) M) (a:=a) (b:=b) (C:=C) (D:=D) iP c0 d0 (λ x h h1 h2 h3 h4=>by
  obtain⟨z,hz,N,k⟩:=up x h (by grind) h2 h3 (by grind)
  have xx : -(x*x) <= -(a*a):=by
   have:=Yr h1 ha;have:=Yv h1 (show 0<=x by grind)
   grind
  obtain⟨z2,M5,k2⟩:=((zB3 xx).scale (Yw h2)).null
  exact⟨_,hz.add M5,N,λ M hM=>by have:=k M hM;have:=k2 M;grind⟩)
 intro e he
 obtain⟨N,k⟩:=d e he;exact⟨N,λ M hM=>by have:=k M hM;grind⟩
theorem zH2 (M:Nat):eF 0 M=0:=by
 have h:∀ n,eT 0 n=0:=λ n=>by
  induction n with
  | zero=>rfl
  | succ n ih=>show _*eT 0 n=0;rw[ih];grind
 have:eS 0 M=0:=by
  unfold eS
  induction M with
  | zero=>rfl
  | succ n ih=>show S (eT 0) n+eT 0 n=0;rw[ih,h];grind
 rw[zO8,this];grind
theorem eF_left {Y K V x h:Rat} (B:Bnd Y K V) (hx:0<=x) (hh:0<=h) (j:Nat) (hj:(j:Rat)*h*x<=Y):LeN (eF ((j:Rat)*h*x)) (λ M=>S (λ i=>x*h*ex (-(((i:Rat)*h*x)*((i:Rat)*h*x))) M) j):=by
 induction j with
 | zero =>
  refine LeN.of_le 0 λ M _=>?_
  rw[show ((0:Nat):Rat)*h*x=0 by grind,zH2]
  show (0:Rat)<=0
  grind
 | succ j ih =>
  have ec:((j+1:Nat):Rat)=(j:Rat)+1:=by push_cast;rfl
  have j0:(0:Rat)<=(j:Rat):=by exact_mod_cast Nat.zero_le j
  have mR:=Ys hh hx;have jh:=Ys (Ys j0 hh) hx;rw[ec] at hj ⊢;have e:((j:Rat)+1)*h*x=(j:Rat)*h*x+h*x:=by grind
  have Ao:=ih (by grind)
  have c:=eF_chord B jh (show (j:Rat)*h*x<=((j:Rat)+1)*h*x by grind) hj
  refine c.trans ?_;have:=Ao.add (LeN.refl (λ M=>(((j:Rat)+1)*h*x-(j:Rat)*h*x)*ex (-(((j:Rat)*h*x)*((j:Rat)*h*x))) M))
  refine this.trans (LeN.of_le 0 λ M _=>?_)
  show _<=S (λ i=>x*h*ex (-(((i:Rat)*h*x)*((i:Rat)*h*x))) M) j+x*h*ex (-(((j:Rat)*h*x)*((j:Rat)*h*x))) M
  grind
def gG (h x:Rat) (n M:Nat):Rat:=S (λ i=>h*rI ((i:Rat)*h)*ex (-(x*x*(1+((i:Rat)*h)*((i:Rat)*h)))) M) n
def gE (h x:Rat) (n M:Nat):Rat:=S (λ i=>h*ex (-(((i:Rat)*h*x)*((i:Rat)*h*x))) M) n
theorem gG_pos {h:Rat} (hh:0<=h) (x:Rat) (n:Nat):∃ N:Nat,∀ M,N<=M->0<=gG h x n M:=by
 induction n with
 | zero=>exact⟨0,λ M _=>by show (0:Rat)<=0;grind⟩
 | succ n ih =>
  obtain⟨N1,k1⟩:=ih;obtain⟨N2,k2⟩:=zBC (-(x*x*(1+((n:Rat)*h)*((n:Rat)*h))));refine⟨N1+N2,λ M hM=>?_⟩
  have a1:=k1 M (by omega)
  have a2:=Ys (Ys hh (Yw (zKM ((n:Rat)*h)))) (k2 M (by omega))
  show 0<=gG h x n M+h*rI ((n:Rat)*h)*ex (-(x*x*(1+((n:Rat)*h)*((n:Rat)*h)))) M
  grind
theorem zTT {Y K V x k s:Rat} (B:Bnd Y K V) (hx:0<=x) (hk:0<k) (k1:k<=1) (hY:x+k<=Y) (hs:0<=s) (hs1:s<=1) (hD:8*(k*(2*Y+1))<=1) :
  ∃ z,Null z/\∃ N:Nat,∀ M,N<=M->rI s*ex (-((x+k)*(x+k)*(1+s*s))) M<=rI s*ex (-(x*x*(1+s*s))) M-2*(x*k)*(ex (-(x*x)) M*ex (-((s*x)*(s*x))) M)+8*((2*Y+1)*(2*Y+1))*V*(k*k)+z M:=by
 obtain⟨c,hc⟩:∃ c,c=1+s*s:=⟨_,rfl⟩;have k0:=Yw hk;have y0:=B.y0;have ss:s*s<=1:=by have:=Yr hs1 hs;grind
 have ss0:=zO s;have rc:rI s*c=1:=by rw[hc];exact zKL s
 have r0:=Yw (zKM s);have r1:=rI_le s;obtain⟨t,ht⟩:∃ t,t=k*(2*x+k)*c:=⟨_,rfl⟩;obtain⟨A,hA⟩:∃ A,A=2*Y+1:=⟨_,rfl⟩;have A0:0<=A:=by grind
 have aA:2*x+k<=A:=by grind
 have ka:k*(2*x+k)<=k*A:=Yr aA k0;have DC:0<=k*(2*x+k):=Ys k0 (by grind)
 have t0:0<=t:=by rw[ht];exact Ys DC (by grind)
 have t2:t<=2*(k*A):=by
  have a:=Yr (show c<=2 by grind) DC
  rw[ht];grind
 have t4:t<=1/4:=by rw[<- hA] at hD;grind
 obtain⟨z,hz,N1,h1⟩:=ex_step (a := -(x*x*c)) t0 t4;have cY:=(zBB (-(x*x)) (-((s*x)*(s*x))));obtain⟨N2,h2⟩:=zBC (-(x*x*c));refine⟨_,hz.add (cY.bmul (Bdd.const (2*(x*k)))) |>.add hz.neg |>.add (hz.bmul (Bdd.const (rI s))),N1+N2,λ M hM=>?_⟩
 have a1:=h1 M (by omega)
 have v0:=h2 M (by omega)
 have vV:ex (-(x*x*c)) M<=V:=B.v _ (Ys (zO x) (by grind)) (by
  have xx:x*x<=Y*Y:=Rat.le_trans (Yr (show x<=Y by grind) hx) (Yv (show x<=Y by grind) y0)
  have p1:=Yr (show c<=2 by grind) (zO x)
  grind) M
 have e1 : -((x+k)*(x+k)*c) = -(x*x*c) + -t:=by rw[ht];grind
 have e2 : -(x*x) + -((s*x)*(s*x)) = -(x*x*c):=by rw[hc];grind
 rw[<- hc,e1];rw[e2];have m1:=Yr a1 r0
 have tt:t*t<=4*(A*A)*(k*k):=by
  have p1:=Yr t2 t0;have p2:=Yv t2 (show 0<=2*(k*A) by have:=Ys k0 A0;grind)
  grind
 have rt:2*(x*k)<=rI s*t:=by
  have:rI s*t=k*(2*x+k)*(rI s*c):=by rw[ht];grind
  rw[this,rc];have:=Ys k0 k0;grind
 have m2:=Yv rt v0;have Lz:=zO t;have m3:=Yv r1 Lz;have m4:=Yv (show 2*(rI s*(t*t))<=8*(A*A)*(k*k) by grind) v0
 have AA:=Ys (Ys A0 A0) (Ys k0 k0);have m5:=Yr vV (show 0<=8*(A*A*(k*k)) by grind)
 rw[<- hA];generalize ex (-(x*x*c)) M=v at *;generalize ex (-(x*x*c) + -t) M=vt at *;generalize ex (-(x*x)) M*ex (-((s*x)*(s*x))) M=w at *;clear cY hz h1 h2;grind
theorem gG_step {Y K V x k h:Rat} (B:Bnd Y K V) (hx:0<=x) (hk:0<k) (k1:k<=1) (hY:x+k<=Y) (hh:0<=h) (hD:8*(k*(2*Y+1))<=1) (n:Nat) (hn:(n:Rat)*h<=1) :
  ∃ z,Null z/\∃ N:Nat,∀ M,N<=M->gG h (x+k) n M<=gG h x n M-2*(x*k)*(ex (-(x*x)) M*gE h x n M)+(n:Rat)*h*(8*((2*Y+1)*(2*Y+1))*V*(k*k))+z M:=by
 induction n with
 | zero =>
  refine⟨_,null_zero,0,λ M _=>?_⟩
  show (0:Rat)<=0-2*(x*k)*(ex (-(x*x)) M*0)+((0:Nat):Rat)*h*_+0
  grind
 | succ n ih =>
  have ec:((n+1:Nat):Rat)=(n:Rat)+1:=by push_cast;rfl
  have n0:(0:Rat)<=(n:Rat):=by exact_mod_cast Nat.zero_le n
  rw[ec] at hn;obtain⟨z1,G1,N1,h1⟩:=ih (by grind)
  obtain⟨z2,M5,N2,h2⟩:=zTT B hx hk k1 hY (s:=(n:Rat)*h) (Ys n0 hh) (by grind) hD
  refine⟨_,G1.add (M5.bmul (Bdd.const h)),N1+N2,λ M hM=>?_⟩
  have a1:=h1 M (by omega)
  have a2:=Yr (h2 M (by omega)) hh
  show gG h (x+k) n M+h*rI ((n:Rat)*h)*ex (-((x+k)*(x+k)*(1+((n:Rat)*h)*((n:Rat)*h)))) M<=gG h x n M+h*rI ((n:Rat)*h)*ex (-(x*x*(1+((n:Rat)*h)*((n:Rat)*h)))) M-2*(x*k)*(ex (-(x*x)) M*(gE h x n M+h*ex (-(((n:Rat)*h*x)*((n:Rat)*h*x))) M))+((n+1:Nat):Rat)*h*(8*((2*Y+1)*(2*Y+1))*V*(k*k))+_
  rw[ec];grind
theorem gE_mul (h x:Rat) (n M:Nat):S (λ i=>x*h*ex (-(((i:Rat)*h*x)*((i:Rat)*h*x))) M) n=x*gE h x n M:=by
 unfold gE;rw[<- zGV];exact kR n λ i _=>by grind
theorem eF_sum {x h:Rat} (hx:0<=x) (hh:0<h) (n:Nat) (hn:(n:Rat)*h=1):LeN (λ M=>eF x M*eF x M) (λ _=>S (λ i=>h*rI ((i:Rat)*h)) n):=by
 obtain⟨K,V,B⟩:=bnd_ex hx;obtain⟨C,D,c0,d0,d1,up⟩:=eF_up B;have h0:=Yw hh;have k0:=B.k0;have v1:=B.v1;have A1:0<8*(2*x+1):=by grind
 have dm:1/(8*(2*x+1))*(8*(2*x+1))=1:=rdm A1;have dp:0<1/(8*(2*x+1)):=zF (by grind) A1
 obtain⟨D2,s9,TE,AH⟩:∃ D2:Rat,0<D2/\D2<=D/\D2<=1/(8*(2*x+1)):=by
  by_cases hc:D<=1/(8*(2*x+1))
  ·exact⟨D,d0,by grind,hc⟩
  ·exact⟨_,dp,by grind,by grind⟩
 obtain⟨F,hF⟩:∃ F,F=K*V:=⟨_,rfl⟩;have F0:0<=F:=by rw[hF];exact Ys k0 (by grind)
 obtain⟨C4,Cl⟩:∃ C4,C4=V*V+2*(C*(F+V))+C*C:=⟨_,rfl⟩
 have TC:0<=C4:=by
  have a:=Ys (show 0<=V by grind) (show 0<=V by grind)
  have b:=Ys c0 (show 0<=F+V by grind)
  have c:=Ys c0 c0;grind
 obtain⟨C5,td⟩:∃ C5,C5=8*((2*x+1)*(2*x+1))*V:=⟨_,rfl⟩;have TD:0<=C5:=by rw[td];exact Ys (by have:=Ys (show 0<=2*x+1 by grind) (show 0<=2*x+1 by grind);grind) (by grind)
 have d:=zCN (f:=λ y M=>eF y M*eF y M+gG h y n M) (a:=0) (b:=x) (C:=C4+C5) (D:=D2) hx (by grind) s9 (λ y k hy hk hkD rN=>by
  obtain⟨z1,G1,N1,p1⟩:=up y k hy hk (by grind) rN
  have k1:k<=1:=by grind
  have kq:=Yw hk;obtain⟨z2,M5,N2,p2⟩:=gG_step B hy hk k1 rN h0 (by have:=Yv (Rat.le_trans hkD AH) (Yw A1);grind) n (by grind)
  have left:=eF_left (x:=y) B hy h0 n (by rw[hn];grind)
  rw[hn,show 1*y=y by grind] at left
  obtain⟨z3,gJ,p3⟩:=left.null;obtain⟨N3,ev⟩:=zBC (-(y*y));obtain⟨N4,zg⟩:=zBC (-((y+k)*(y+k)))
  have bF:Bdd (eF y):=by
   have:Bdd (eS y):=Bdd.of_le K 0 λ M _=>⟨by have:=jQ hy M;grind,B.s _ hy (by grind) M⟩
   exact this.mul (jY _)
  have bV:=jY (-(y*y));have bp:Bdd (λ M=>eF y M+k*ex (-(y*y)) M+C*(k*k)):=(bF.add ((Bdd.const k).mul bV)).add (Bdd.const _)
  have q1:=G1.bmul (bp.add bp);have q2:=G1.bmul G1.bdd;have q3:=(gJ.bmul bV).bmul (Bdd.const (2*k));refine⟨_,((q1.add q2).add q3).add M5,N1+N2+N3+N4,λ M hM=>?_⟩
  have a1:=p1 M (by omega)
  have a2:=p2 M (by omega)
  have a3:=p3 M;rw[gE_mul] at a3;have v0:=ev M (by omega)
  have e0:0<=eF (y+k) M:=Ys (jQ (by grind) M) (zg M (by omega))
  have f0:0<=eF y M:=Ys (jQ hy M) v0
  have vV:ex (-(y*y)) M<=V:=B.v _ (zO y) (by
   have xx:y*y<=x*x:=Rat.le_trans (Yr (show y<=x by grind) hy) (Yv (show y<=x by grind) hx)
   have:=Ys hx hx
   grind) M
  have fF:eF y M<=F:=by
   rw[hF];exact Rat.le_trans (Yv (B.s y hy (by grind) M) v0) (Yr vV k0)
  rw[hn,<- td] at a2;generalize eF (y+k) M=f' at *;generalize eF y M=f at *;generalize ex (-(y*y)) M=v at *;generalize gG h (y+k) n M=g' at *;generalize gG h y n M=g at *;generalize gE h y n M=u at *;generalize z1 M=z1 at *;generalize z2 M=z2 at *;generalize z3 M=z3 at *;clear G1 M5 gJ q1 q2 q3 bp bF bV left p1 p2 p3 up ev zg;obtain⟨p,hp⟩:∃ p,p=f+k*v+C*(k*k):=⟨_,rfl⟩;have kk:=Ys kq kq;have kv:=Ys kq v0;have ckk:=Ys c0 kk;have p0:0<=p:=by grind
  have b1:f'<=p+z1:=by grind
  have b2:f'*f'<=(p+z1)*(p+z1):=Rat.le_trans (Yr b1 e0) (Yv b1 (show 0<=p+z1 by grind))
  have b3:p*p<=f*f+2*(k*v*f)+C4*(k*k):=by
   have kk1:k*k<=1:=by have:=Yr k1 kq;grind
   have c1:v*v<=V*V:=Rat.le_trans (Yr vV v0) (Yv vV (show 0<=V by grind))
   have c2:=Yv c1 kk;have kvV:k*v<=V:=by have:=Yv k1 v0;grind
   have c3:=Yr (show f+k*v<=F+V by grind) ckk
   have c4:=Yr kk1 (Ys (Ys c0 c0) kk);rw[hp,Cl];grind
  have b4:=Yr a3 kv;rw[<- hp];have r1:(p+z1)*(p+z1)=p*p+2*(z1*p)+z1*z1:=by grind
  have r2:k*v*(y*u+z3)=k*v*(y*u)+k*v*z3:=by grind
  have r3:2*(y*k)*(v*u)=2*(k*v*(y*u)):=by grind
  have r4:z1*(p+p)+z1*z1+z3*v*(2*k)+z2=2*(z1*p)+z1*z1+2*(k*v*z3)+z2:=by grind
  have r5:(C4+C5)*(k*k)=C4*(k*k)+C5*(k*k):=by grind
  rw[r1] at b2;rw[r2] at b4;rw[r3,Rat.one_mul] at a2;rw[r4,r5];generalize k*v*(y*u)=w1 at *;generalize k*v*z3=w2 at *;generalize z1*p=w3 at *;generalize z1*z1=w4 at *;generalize C4*(k*k)=w5 at *;generalize C5*(k*k)=w6 at *;generalize k*v*f=w7 at *;generalize p*p=w8 at *;generalize f'*f'=w9 at *;generalize f*f=gL at *;clear vV fF Cl hF td dm r1 r2 r3 r4 r5 AH A1 dp hn
  grind)
 obtain⟨N2,pos⟩:=gG_pos h0 x n
 intro e he
 obtain⟨N,k⟩:=d e he;refine⟨N+N2+1,λ M hM=>?_⟩
 have a1:eF x M*eF x M+gG h x n M<=eF 0 M*eF 0 M+gG h 0 n M+e:=k M (by omega)
 have a2:=pos M (by omega)
 show eF x M*eF x M<=S (λ i=>h*rI ((i:Rat)*h)) n+e
 have a3:gG h 0 n M=S (λ i=>h*rI ((i:Rat)*h)) n:=kR n λ i _=>by
  have e1 : -(0*0*(1+((i:Rat)*h)*((i:Rat)*h)))=(0:Rat):=by grind
  have e2:ex 0 M=1:=by
   obtain⟨m,rfl⟩:∃ m,M=m+1:=⟨M-1,by omega⟩
   exact kV m
  rw[e1,e2];grind
 rw[a3,zH2] at a1;grind
theorem eF_pi {x:Rat} (hx:0<=x):LeN (λ M=>4*(eF x M*eF x M)) piS:=by
 refine LeN.lim (C:=64) (by grind) λ n=>?_
 have n0:(0:Rat)<2*((n:Rat)+1):=by have:=zA0 n;grind
 obtain⟨h,h0,hh⟩:=zNK (2*((n:Rat)+1)) n0;have e:((2*(n+1):Nat):Rat)=2*((n:Rat)+1):=by push_cast;rfl
 have a:=(eF_sum hx h0 (2*(n+1)) (by rw[e];grind)).scale (show (0:Rat)<=4 by grind)
 exact a.trans (zUK n hh)
end Go.Proofs.YtgmnknmjainabacGreat.Ex
namespace Go.Proofs.YtgmnknmjainabacGreat
open Ex
theorem zT4 (p:Rat) (hp:1<=p) (k:Nat):∃ r:Rat,1<=r/\r*r<=p/\p<=(r+1/((k:Rat)+1))*(r+1/((k:Rat)+1)):=by
 obtain⟨n,hn⟩:=kC p;have k0:(0:Rat)<(k:Rat)+1:=zA0 k;have u0:(0:Rat)<1/((k:Rat)+1):=zF (by grind) k0
 have um:1/((k:Rat)+1)*((k:Rat)+1)=1:=rdm k0;obtain⟨u,hu⟩:∃ u,u=1/((k:Rat)+1):=⟨_,rfl⟩;rw[<- hu] at u0 um ⊢
 have top:p<=(1+((n*(k+1):Nat):Rat)*u)*(1+((n*(k+1):Nat):Rat)*u):=by
  have e:((n*(k+1):Nat):Rat)*u=(n:Rat):=by
   have:((n*(k+1):Nat):Rat)=(n:Rat)*((k:Rat)+1):=by push_cast;rfl
   rw[this];grind
  rw[e];have n0:(0:Rat)<=(n:Rat):=by exact_mod_cast Nat.zero_le n
  have:=Ys n0 n0;have:=hn.2;grind
 obtain⟨j,_,j1,j2⟩:=zBU (p:=λ j=>p<=(1+(j:Rat)*u)*(1+(j:Rat)*u)) (K:=n*(k+1)) top
 cases j with
 | zero =>
  have e:(1+((0:Nat):Rat)*u)=1:=by grind
  rw[e] at j1;exact⟨1,by grind,by grind,by have:=Ys (Yw u0) (Yw u0);grind⟩
 | succ i =>
  have h:=j2 i (Nat.lt_succ_self i);have i0:(0:Rat)<=(i:Rat):=by exact_mod_cast Nat.zero_le i
  have iu:=Ys i0 (Yw u0);refine⟨1+(i:Rat)*u,by grind,by grind,?_⟩
  have e:((i+1:Nat):Rat)=(i:Rat)+1:=by push_cast;rfl
  rw[e] at j1;have e2:1+((i:Rat)+1)*u=1+(i:Rat)*u+u:=by grind
  rw[e2] at j1;exact j1
theorem zTH (K:Rat) (hK:0<=K):Null (λ M=>K*(1/((M:Rat)+1))):=λ e he=>by
 obtain⟨n,hn⟩:=kC (K/e);refine⟨n,λ M hM=>?_⟩
 have m0:(0:Rat)<(M:Rat)+1:=zA0 M;have u0:(0:Rat)<1/((M:Rat)+1):=zF (by grind) m0
 have um:1/((M:Rat)+1)*((M:Rat)+1)=1:=rdm m0;have hm:(n:Rat)<=(M:Rat):=by exact_mod_cast hM
 have ke:K/e*e=K:=rdm he;have h1:=hn.2;have h2:=Yv h1 (Yw he);rw[ke] at h2;have h3:=Ys hK (Yw u0);refine⟨by simp only[];grind,?_⟩
 have h4:=Yv (show K<=((M:Rat)+1)*e by
  have:=Yv hm (Yw he)
  grind) (Yw u0)
 have e5:((M:Rat)+1)*e*(1/((M:Rat)+1))=(1/((M:Rat)+1)*((M:Rat)+1))*e:=by grind
 rw[e5,um] at h4;grind
structure yG (P R:Nat->Rat):Prop where
 one:∀ M,1<=R M
 sq:Null (λ M=>R M*R M-P M)
 bdd:Bdd R
theorem zOB {P : Nat → Rat} {M0 : Nat} (hP : ∀ M, M0 ≤ M → 1 ≤ P M) (hb : Bdd P) : ∃ R, yG P R := by
  have h : ∀ M, ∃ r : Rat, 1 ≤ r ∧ (M0 ≤ M → r * r ≤ P M ∧ P M ≤ (r + 1 / ((M : Rat) + 1)) * (r + 1 / ((M : Rat) + 1))) := fun M => by
    by_cases hM : M0 ≤ M
    · obtain ⟨r, r1, r2, r3⟩ := zT4 (P M) (hP M hM) M
      exact ⟨r, r1, fun _ => ⟨r2, r3⟩⟩
    · exact ⟨1, by grind, fun h => absurd h hM⟩
  have hR := fun M => Classical.choose_spec (h M)
  obtain ⟨R, eR⟩ : ∃ R : Nat → Rat, R = fun M => Classical.choose (h M) := ⟨_, rfl⟩
  have hR' : ∀ M, 1 ≤ R M ∧ (M0 ≤ M → R M * R M ≤ P M ∧ P M ≤ (R M + 1 / ((M : Rat) + 1)) * (R M + 1 / ((M : Rat) + 1))) := fun M => by rw [eR]; exact hR M
  clear hR eR h
  obtain ⟨K, N, K0, hK⟩ := hb
  have hRK : ∀ M, M0 + N ≤ M → R M ≤ K := fun M hM => by
    have h1 := (hR' M).1
    have h2 := ((hR' M).2 (by omega)).1
    have h3 := (hK M (by omega)).2
    have h4 := Rat.mul_le_mul_of_nonneg_left h1 (show 0 ≤ R M by grind)
    grind
  refine ⟨R, fun M => (hR' M).1, ?_, Bdd.of_le K (M0 + N) fun M hM => ⟨by have := (hR' M).1; grind, hRK M hM⟩⟩
  refine Null.of_le (zTH (2 * K + 1) (by grind)) (M0 + N) fun M hM => ?_
  obtain ⟨h1, h2⟩ := hR' M
  obtain ⟨h2, h3⟩ := h2 (by omega)
  have h4 := hRK M hM
  have m0 : (0 : Rat) < (M : Rat) + 1 := zA0 M
  have u0 : (0 : Rat) < 1 / ((M : Rat) + 1) := zF (by grind) m0
  have u1 : 1 / ((M : Rat) + 1) ≤ 1 := jR m0 (by (have : (0 : Rat) ≤ (M : Rat) := (by exact_mod_cast Nat.zero_le M)); grind)
  generalize 1 / ((M : Rat) + 1) = u at *
  have uu := Rat.mul_le_mul_of_nonneg_left u1 (Rat.le_of_lt u0)
  have ru := Rat.mul_le_mul_of_nonneg_right h4 (Rat.le_of_lt u0)
  have e : (R M + u) * (R M + u) = R M * R M + 2 * (R M * u) + u * u := by grind
  rw [e] at h3
  constructor <;> grind
theorem root_iv {B:Nat} {a:Int × Int} {P R:Nat->Rat} (h:Iv B a P) (hR:yG P R) {r t:Int} (hr:r*r<=a.1*Q B) (KJ:0<=t) (ht:a.2*Q B<=t*t):Iv B (r,t) R:=by
 have q:=jJ B
 have key:∀ x:Int,((x:Rat)/(Q B:Rat))*((x:Rat)/(Q B:Rat))*((Q B:Rat)*(Q B:Rat))=(x:Rat)*(x:Rat):=λ x=>by
  have:=rdm (a:=(x:Rat)) q;have e:((x:Rat)/(Q B:Rat))*((x:Rat)/(Q B:Rat))*((Q B:Rat)*(Q B:Rat))=((x:Rat)/(Q B:Rat)*(Q B:Rat))*((x:Rat)/(Q B:Rat)*(Q B:Rat)):=by grind
  rw[e,this]
 have qq:(0:Rat)<(Q B:Rat)*(Q B:Rat):=Rat.mul_pos q q
 have g1:((r:Rat)/(Q B:Rat))*((r:Rat)/(Q B:Rat))<=(a.1:Rat)/(Q B:Rat):=by
  refine Rat.le_of_mul_le_mul_right (c:=(Q B:Rat)*(Q B:Rat)) ?_ qq;rw[key];have e:=rdm (a:=(a.1:Rat)) q
  have e2:(a.1:Rat)/(Q B:Rat)*((Q B:Rat)*(Q B:Rat))=(a.1:Rat)*(Q B:Rat):=by
   rw[<- Rat.mul_assoc,e]
  rw[e2];have:=jA hr;rw[YA,YA] at this;exact this
 have g2:(a.2:Rat)/(Q B:Rat)<=((t:Rat)/(Q B:Rat))*((t:Rat)/(Q B:Rat)):=by
  refine Rat.le_of_mul_le_mul_right (c:=(Q B:Rat)*(Q B:Rat)) ?_ qq;rw[key];have e:=rdm (a:=(a.2:Rat)) q
  have e2:(a.2:Rat)/(Q B:Rat)*((Q B:Rat)*(Q B:Rat))=(a.2:Rat)*(Q B:Rat):=by
   rw[<- Rat.mul_assoc,e]
  rw[e2];have:=jA ht;rw[YA,YA] at this;exact this
 have t0:(0:Rat)<=(t:Rat)/(Q B:Rat):=jS q (by
  have:(0:Rat)<=(t:Rat):=by exact_mod_cast KJ
  grind)
 intro e0 FB
 obtain⟨e,he,hee,he4⟩:∃ e:Rat,0<e/\2*e<=e0/\e<=1/4:=by
  by_cases hc:e0<=1/2
  ·exact⟨e0/2,by grind,by grind,by grind⟩
  ·exact⟨1/4,by grind,by grind,by grind⟩
 obtain⟨N1,k1⟩:=h e he;obtain⟨N2,k2⟩:=hR.sq e he;refine⟨N1+N2,λ M hM=>?_⟩
 obtain⟨a1,a2⟩:=k1 M (by omega)
 obtain⟨b1,b2⟩:=k2 M (by omega)
 have R1:=hR.one M;simp only[] at b1 b2 ⊢;generalize (r:Rat)/(Q B:Rat)=x at *;generalize (t:Rat)/(Q B:Rat)=y at *;generalize R M=z at *;clear k1 k2 key h;constructor
 ·refine Rat.not_lt.1 λ D9=>?_
  have hx:z+e<=x:=by grind
  have m1:=Yr hx (show 0<=z+e by grind)
  have m2:=Yv hx (show 0<=x by grind)
  have m3:=Yr R1 (Yw he);have m4:=Rat.mul_pos he he;grind
 ·refine Rat.not_lt.1 λ D9=>?_
  have hy:y<=z-2*e:=by grind
  have m1:=Yr hy t0;have m2:=Yv hy (show 0<=z-2*e by grind)
  have m3:=Yr R1 (Yw he);have m4:=Yr he4 (Yw he);grind
end Go.Proofs.YtgmnknmjainabacGreat
namespace Go.Proofs.YtgmnknmjainabacGreat.Ex
def zR0 (R:Nat->Rat) (x:Rat) (M:Nat):Rat:=2*eS x M/(R M*ex (x*x) M)
theorem zTW:Bdd piS:=by
 obtain⟨K,k0,h⟩:=zP3 0;have h1:=(zMX (m:=5) (by omega) 0 0).bdd
 have h2:=(zMX (m:=239) (by omega) 0 0).bdd
 exact ((Bdd.const 16).mul h1).sub ((Bdd.const 4).mul h2)
theorem piR_ex:∃ R,yG piS R:=zOB (M0:=2) (λ M hM=>by have:=pi_ge hM;grind) zTW
theorem zR4 (x:Rat) {M:Nat} (hM:1<=M):1<=ex (x*x) M:=E_one (zO x) hM
theorem zCO {a b:Rat} (ha:0<=a) (hb:1<=b):0<=a/b/\a/b<=a:=by
 have b0:0<b:=by grind
 refine⟨jS b0 (by grind),jR b0 ?_⟩
 have:=Yr hb ha;grind
theorem erf_near (x:Rat) (hx:0<=x):Null (λ M=>eS x M/ex (x*x) M-eF x M):=by
 obtain⟨K,k0,hK⟩:=zJX hx;have hn:=((zBB (x*x) (-(x*x))));have e0:x*x + -(x*x)=0:=by grind
 rw[e0] at hn
 have hb:Bdd (λ M=>eS x M/ex (x*x) M):=Bdd.of_le K 1 λ M hM=>by
  have:=zCO (jQ hx M) (zR4 x hM);have:=hK M;constructor<;>grind
 refine (hn.bmul hb).neg.of_eq_from 1 λ M hM=>?_
 have h1:=zR4 x hM;have p:0<ex (x*x) M:=by grind
 have e1:eS x M/ex (x*x) M*ex (x*x) M=eS x M:=rdm p
 have e2:ex 0 M=1:=by
  obtain⟨m,rfl⟩:∃ m,M=m+1:=⟨M-1,by omega⟩
  exact kV m
 rw[zO8,e2];generalize eS x M/ex (x*x) M=q at *;rw[<- e1];grind
theorem zIC {R:Nat->Rat} (h:∀ M,1<=R M):Bdd (λ M=>1/R M):=Bdd.of_le 1 0 λ M _=>by
 have:=zCO (a:=1) (by grind) (h M)
 constructor<;>grind
theorem erf_eq {P R:Nat->Rat} (h:yG P R) (x:Rat) {M:Nat} (hM:1<=M):zR0 R x M=eS x M/ex (x*x) M*(2*(1/R M)):=by
 have r1:=h.one M;have h1:=zR4 x hM;have p1:0<R M:=by grind
 have p2:0<ex (x*x) M:=by grind
 have p3:0<R M*ex (x*x) M:=Rat.mul_pos p1 p2;have a:=rdm (a:=2*eS x M) p3;have b:=rdm (a:=eS x M) p2;have c:=rdm (a:=1) p1;unfold zR0
 have lhs:eS x M/ex (x*x) M*(2*(1/R M))*(R M*ex (x*x) M)=2*eS x M:=by
  have:eS x M/ex (x*x) M*(2*(1/R M))*(R M*ex (x*x) M)=2*((eS x M/ex (x*x) M*ex (x*x) M)*(1/R M*R M)):=by grind
  rw[this,b,c];grind
 exact Rat.le_antisymm (Rat.le_of_mul_le_mul_right (by rw[lhs,a];exact Rat.le_refl) p3) (Rat.le_of_mul_le_mul_right (by rw[lhs,a];exact Rat.le_refl) p3)
theorem zD8 {P R:Nat->Rat} (h:yG P R) (x:Rat) (hx:0<=x):Null (λ M=>zR0 R x M-eF x M*(2*(1/R M))):=by
 have hb:=(Bdd.const 2).mul (zIC h.one);refine ((erf_near x hx).bmul hb).of_eq_from 1 λ M hM=>?_
 rw[erf_eq h x hM];grind
theorem zNA {P R:Nat->Rat} (h:yG P R) {x y:Rat} (hx:0<=x) (K6:x<=y):LeN (zR0 R x) (zR0 R y):=by
 obtain⟨z,hz,N,k⟩:=eF_mono hx K6;have hb:=(Bdd.const 2).mul (zIC h.one);have n1:=zD8 h x hx;have n2:=zD8 h y (by grind)
 refine n1.leN.trans (LeN.trans ?_ n2.symm.leN);refine LeN.of_null (hz.bmul hb) N λ M hM=>?_
 have:=k M hM;have i0:=(zCO (a:=1) (by grind) (h.one M)).1
 have:=Yv this (show 0<=2*(1/R M) by grind)
 grind
theorem eF_root {R:Nat->Rat} (h:yG piS R) {x:Rat} (hx:0<=x):LeN (λ M=>2*eF x M) R:=by
 intro e he
 obtain⟨N1,k1⟩:=eF_pi hx e he;obtain⟨N2,k2⟩:=h.sq e he;refine⟨N1+N2,λ M hM=>?_⟩
 have a1:=k1 M (by omega)
 have a2:=(k2 M (by omega)).1
 have r1:=h.one M;simp only[] at *;refine Rat.not_lt.1 λ D9=>?_
 generalize eF x M=f at *;generalize R M=r at *;generalize piS M=p at *;have m1:=Rat.mul_lt_mul_of_pos_left D9 (show 0<r+e by grind)
 have m2:=Rat.mul_lt_mul_of_pos_right D9 (show 0<2*f by grind)
 have m3:=Yr r1 (Yw he);have m4:=Rat.mul_pos he he;grind
theorem erf_one {R:Nat->Rat} (h:yG piS R) {x:Rat} (hx:0<=x):LeN (zR0 R x) (λ _=>1):=by
 refine (zD8 h x hx).leN.trans ?_;obtain⟨z,hz,k⟩:=(eF_root h hx).null;refine LeN.of_null (hz.bmul (zIC h.one)) 0 λ M _=>?_
 have r1:=h.one M;have p1:0<R M:=by grind
 have c:=rdm (a:=1) p1;have i0:=(zCO (a:=1) (by grind) r1).1
 have:=Yv (k M) i0;grind
end Go.Proofs.YtgmnknmjainabacGreat.Ex
namespace Go.Proofs.YtgmnknmjainabacGreat
open Go.RowKit
attribute [local go_sem ↓] Go.wp_at_zero Go.wp_at_succ
theorem zFN (neg j7:Bool) (a c:Option Addr) (n m cap j9 k k2 b B:Nat) (x y:Int) (w:World) (h1:IntAt w neg a n cap k x) (h2:IntAt w j7 c m j9 k2 y) (hk:k<=300000000) (hb:b<=1000000) (hy:0<y) (hc:w.cell? ⟨B,4,none⟩=some (.int .i64 b)) :
  Calls Tryz.prog 190 #[.agg #[.bool neg,.slice a n cap],.agg #[.bool j7,.slice c m j9],.pointer (some ⟨B,0,none⟩)] w (zDV w (b/16+k+9) (x*Q b/y)):=by
 have lB:B<w.heap.size:=World.block_lt_of_cell? w ⟨B,4,none⟩ hc;have mS:w.heap.size≠w.heap.size+1+1:=by omega
 have mV:w.heap.size+1+1≠w.heap.size:=by omega
 obtain⟨W,hW⟩:∃ W,W=((w.alloc (.cells #[.bool neg,.slice a n cap] 29)).alloc (.cells #[.bool j7,.slice c m j9] 29)).alloc (.cells #[.bool false,.slice none 0 0] 29):=⟨_,rfl⟩;have j6:Below w.heap.size w W:=by rw[hW];exact bl3 _ _ _ _
 have A:NmC W w.heap.size ⟨neg,a,n,cap⟩:=by rw[hW];constructor<;>simp[go_sem]
 have G:NmC W (w.heap.size+1) ⟨j7,c,m,j9⟩:=by rw[hW];constructor<;>simp[go_sem]
 have R:NoI W (w.heap.size+1+1):=by rw[hW];constructor<;>simp[go_sem]
 have hcW:=(j6.cell (p:=⟨B,4,none⟩) lB).trans hc;have lBW:=YB lB j6.size;have HX:=zC (h1.bw j6);have HY:=zC (h2.bw j6);have E2:Below W.heap.size W W.drew:=(Below.refl _ _).drew;have lR:=R.lt;have nB:B≠w.heap.size+1+1:=by omega
 have Lo:w.heap.size+1+1≠B:=by omega
 have HK:=zC (show ∀ w',Below W.heap.size W w'->(w'.cell? ⟨w.heap.size,0,none⟩=some (.bool neg)/\w'.cell? ⟨w.heap.size,1,none⟩=some (.slice a n cap)/\w'.cell? ⟨w.heap.size+1,0,none⟩=some (.bool j7)/\w'.cell? ⟨w.heap.size+1,1,none⟩=some (.slice c m j9)/\w'.cell? ⟨B,4,none⟩=some (.int .i64 b)) from λ w' hB=>⟨(A.bw hB).c0,(A.bw hB).c1,(G.bw hB).c0,(G.bw hB).c1,(hB.cell (p:=⟨B,4,none⟩) lBW).trans hcW⟩)
 go_enter Tryz.func190,Tryz.ntmps190
 go_wp2;rw[<- hW];clear hW;obtain⟨i0,i1,i2,i3,i4⟩:=zA HK _ (Below.refl _ _)
 go_region_held3 (λ w'=>w'.cell? ⟨w.heap.size,0,none⟩=some (.bool neg)/\w'.cell? ⟨w.heap.size,1,none⟩=some (.slice a n cap)/\w'.cell? ⟨w.heap.size+1,0,none⟩=some (.bool j7)/\w'.cell? ⟨w.heap.size+1,1,none⟩=some (.slice c m j9)/\w'.cell? ⟨B,4,none⟩=some (.int .i64 b)) (first|exact zA HK _ (by with_reducible first|exact E2|exact o9|exact A7)|go_keep)
  (first
   | (go_at_call 116;refine (zB0 _ _ _ _ b k x _ ((zA HX).bw E2) (by omega) (by omega)).mono ?_;rintro r w1 ⟨m7,a1,n1,c1,rfl,o8,b9⟩;have A7:=zB E2 b9)
   | (go_at_call 126;refine (yN _ _ _ _ _ _ _ _ (b/16+k+1) k2 (x*Q b) y _ o8 ((zA HY).bw A7) (by omega) hy).mono ?_;rintro r w2 ⟨B9,a3,n3,c3,rfl,E7,j8⟩;have o9:=zB A7 j8;obtain⟨q0,q1,q2⟩:=R.bw o9;obtain⟨d0,d1,d2,d3,d4⟩:=zA HK _ o9))
 clear i0 i1 i2 i3 i4;go_wp2;refine bodyPost_ret (v:=.agg #[.bool B9,.slice a3 n3 c3]) (by simp[results,Tryz.results190,go_sem,q0,q1]) rfl ⟨B9,a3,n3,c3,rfl,(E7.put2 q0 q1 _ _).mono (by omega),?_⟩
 exact zE2 (zB j6 o9) (by omega) _ _
theorem zFO (neg j7:Bool) (a c:Option Addr) (n m cap j9 k k2 b B:Nat) (x y:Int) (w:World) (h1:IntAt w neg a n cap k x) (h2:IntAt w j7 c m j9 k2 y) (hk:k<=300000000) (hb:b<=1000000) (hy:0<y) (hc:w.cell? ⟨B,4,none⟩=some (.int .i64 b)) :
  Calls Tryz.prog 191 #[.agg #[.bool neg,.slice a n cap],.agg #[.bool j7,.slice c m j9],.pointer (some ⟨B,0,none⟩)] w (zDV w (b/16+k+9) (-(-(x*Q b)/y))):=by
 have lB:B<w.heap.size:=World.block_lt_of_cell? w ⟨B,4,none⟩ hc;have mS:w.heap.size≠w.heap.size+1+1:=by omega
 have mV:w.heap.size+1+1≠w.heap.size:=by omega
 obtain⟨W,hW⟩:∃ W,W=((w.alloc (.cells #[.bool neg,.slice a n cap] 29)).alloc (.cells #[.bool j7,.slice c m j9] 29)).alloc (.cells #[.bool false,.slice none 0 0] 29):=⟨_,rfl⟩;have j6:Below w.heap.size w W:=by rw[hW];exact bl3 _ _ _ _
 have A:NmC W w.heap.size ⟨neg,a,n,cap⟩:=by rw[hW];constructor<;>simp[go_sem]
 have G:NmC W (w.heap.size+1) ⟨j7,c,m,j9⟩:=by rw[hW];constructor<;>simp[go_sem]
 have R:NoI W (w.heap.size+1+1):=by rw[hW];constructor<;>simp[go_sem]
 have hcW:=(j6.cell (p:=⟨B,4,none⟩) lB).trans hc;have lBW:=YB lB j6.size;have HX:=zC (h1.bw j6);have HY:=zC (h2.bw j6);have E2:Below W.heap.size W W.drew:=(Below.refl _ _).drew;have lR:=R.lt;have nB:B≠w.heap.size+1+1:=by omega
 have Lo:w.heap.size+1+1≠B:=by omega
 have HK:=zC (show ∀ w',Below W.heap.size W w'->(w'.cell? ⟨w.heap.size,0,none⟩=some (.bool neg)/\w'.cell? ⟨w.heap.size,1,none⟩=some (.slice a n cap)/\w'.cell? ⟨w.heap.size+1,0,none⟩=some (.bool j7)/\w'.cell? ⟨w.heap.size+1,1,none⟩=some (.slice c m j9)/\w'.cell? ⟨B,4,none⟩=some (.int .i64 b)) from λ w' hB=>⟨(A.bw hB).c0,(A.bw hB).c1,(G.bw hB).c0,(G.bw hB).c1,(hB.cell (p:=⟨B,4,none⟩) lBW).trans hcW⟩)
 go_enter Tryz.func191,Tryz.ntmps191
 go_wp2;rw[<- hW];clear hW;obtain⟨i0,i1,i2,i3,i4⟩:=zA HK _ (Below.refl _ _)
 go_region_held3 (λ w'=>w'.cell? ⟨w.heap.size,0,none⟩=some (.bool neg)/\w'.cell? ⟨w.heap.size,1,none⟩=some (.slice a n cap)/\w'.cell? ⟨w.heap.size+1,0,none⟩=some (.bool j7)/\w'.cell? ⟨w.heap.size+1,1,none⟩=some (.slice c m j9)/\w'.cell? ⟨B,4,none⟩=some (.int .i64 b)) (first|exact zA HK _ (by with_reducible first|exact E2|exact o9|exact A7)|go_keep)
  (first
   | (go_at_call 116;refine (zB0 _ _ _ _ b k x _ ((zA HX).bw E2) (by omega) (by omega)).mono ?_;rintro r w1 ⟨m7,a1,n1,c1,rfl,o8,b9⟩;have A7:=zB E2 b9)
   | (go_at_call 127;refine (zHY _ _ _ _ _ _ _ _ (b/16+k+1) k2 (x*Q b) y _ o8 ((zA HY).bw A7) (by omega) hy).mono ?_;rintro r w2 ⟨B9,a3,n3,c3,rfl,E7,j8⟩;have o9:=zB A7 j8;obtain⟨q0,q1,q2⟩:=R.bw o9;obtain⟨d0,d1,d2,d3,d4⟩:=zA HK _ o9))
 clear i0 i1 i2 i3 i4;go_wp2;refine bodyPost_ret (v:=.agg #[.bool B9,.slice a3 n3 c3]) (by simp[results,Tryz.results191,go_sem,q0,q1]) rfl ⟨B9,a3,n3,c3,rfl,(E7.put2 q0 q1 _ _).mono (by omega),?_⟩
 exact zE2 (zB j6 o9) (by omega) _ _
theorem zJQ (w:World) (s t:Sp) (k b B:Nat) (lo hi lo' hi':Int) (hs:SpAt w s k lo hi) (ht:SpAt w t k lo' hi') (hk:k<=300000000) (hb:b<=1000000) (hp:0<lo') (I8:0<hi') (hc:w.cell? ⟨B,4,none⟩=some (.int .i64 b)) :
  Calls Tryz.prog 152 #[.agg s.q,.agg t.q,.func (.func 190) #[] #[.pointer (some ⟨B,0,none⟩)]] w λ r w' =>
   ∃ B' f,r=.returned (.slice (some ⟨B',0,none⟩) 4 4)/\Nums w' B' 4 (b/16+k+9) f (pr4 (lo*Q b/lo') (lo*Q b/hi') (hi*Q b/lo') (hi*Q b/hi'))/\Below w.heap.size w w':=by
 have lB:B<w.heap.size:=World.block_lt_of_cell? w ⟨B,4,none⟩ hc;obtain⟨W,hW⟩:∃ W,W=(w.alloc (.cells s.q 31)).alloc (.cells t.q 31):=⟨_,rfl⟩;have j6:Below w.heap.size w W:=by rw[hW];exact bl2 _ _ _
 have a0:SpC W w.heap.size s:=by rw[hW];constructor<;>simp[go_sem]
 have g0:SpC W (w.heap.size+1) t:=by rw[hW];constructor<;>simp[go_sem]
 have hcW:=(j6.cell (p:=⟨B,4,none⟩) lB).trans hc;have lBW:=YB lB j6.size;have HS:=zC (hs.bw j6);have HT:=zC (ht.bw j6);have E2:Below W.heap.size W W.drew:=(Below.refl _ _).drew;have oC:=zC (show ∀ w',Below W.heap.size W w'->w'.cell? ⟨B,4,none⟩=some (.int .i64 b) from λ w' hB=>(hB.cell (p:=⟨B,4,none⟩) lBW).trans hcW)
 have HK:=zC (show ∀ w',Below W.heap.size W w'->(w'.cell? ⟨w.heap.size,0,none⟩=some (.bool s.ln)/\w'.cell? ⟨w.heap.size,1,none⟩=some (.slice s.la s.lN s.lc)/\w'.cell? ⟨w.heap.size,2,none⟩=some (.bool s.hn)/\w'.cell? ⟨w.heap.size,3,none⟩=some (.slice s.ha s.hN s.hc)/\w'.cell? ⟨w.heap.size+1,0,none⟩=some (.bool t.ln)/\w'.cell? ⟨w.heap.size+1,1,none⟩=some (.slice t.la t.lN t.lc)/\w'.cell? ⟨w.heap.size+1,2,none⟩=some (.bool t.hn)/\w'.cell? ⟨w.heap.size+1,3,none⟩=some (.slice t.ha t.hN t.hc)) from λ w' hB=>by
  obtain⟨x0,x1,x2,x3,x4⟩:=a0.bw hB;obtain⟨y0,y1,y2,y3,y4⟩:=g0.bw hB
  exact⟨x0,x1,x2,x3,y0,y1,y2,y3⟩)
 go_enter Tryz.func152,Tryz.ntmps152
 go_wp2;obtain⟨x0,x1,x2,x3,x4⟩:=a0;obtain⟨y0,y1,y2,y3,y4⟩:=g0;rw[<- hW];clear hW
 go_region_held3 (λ w'=>w'.cell? ⟨w.heap.size,0,none⟩=some (.bool s.ln)/\w'.cell? ⟨w.heap.size,1,none⟩=some (.slice s.la s.lN s.lc)/\w'.cell? ⟨w.heap.size,2,none⟩=some (.bool s.hn)/\w'.cell? ⟨w.heap.size,3,none⟩=some (.slice s.ha s.hN s.hc)/\w'.cell? ⟨w.heap.size+1,0,none⟩=some (.bool t.ln)/\w'.cell? ⟨w.heap.size+1,1,none⟩=some (.slice t.la t.lN t.lc)/\w'.cell? ⟨w.heap.size+1,2,none⟩=some (.bool t.hn)/\w'.cell? ⟨w.heap.size+1,3,none⟩=some (.slice t.ha t.hN t.hc)) (exact zA HK _ (by with_reducible first|exact E2|exact zL G3 _|exact G3|exact A9|exact o9|exact A7))
  (first
   | (go_at_call 190;have hq:=A9;refine (zFN _ _ _ _ _ _ _ _ k k b B hi hi' _ ((zA HS).hi.bw A9) ((zA HT).hi.bw A9) hk hb I8 (zA oC _ A9)).mono ?_;rintro r w4 ⟨E4,a4,n4,c4,rfl,H8,p9⟩;replace o8:=o8.bw p9;replace A5:=A5.bw p9;replace E7:=E7.bw p9;have G3:=zB A9 p9)
   | (go_at_call 190;have hq:=o9;refine (zFN _ _ _ _ _ _ _ _ k k b B hi lo' _ ((zA HS).hi.bw o9) ((zA HT).lo.bw o9) hk hb hp (zA oC _ o9)).mono ?_;rintro r w3 ⟨B9,a3,n3,c3,rfl,E7,m8⟩;replace o8:=o8.bw m8;replace A5:=A5.bw m8;have A9:=zB o9 m8)
   | (go_at_call 190;have hq:=A7;refine (zFN _ _ _ _ _ _ _ _ k k b B lo hi' _ ((zA HS).lo.bw A7) ((zA HT).hi.bw A7) hk hb I8 (zA oC _ A7)).mono ?_;rintro r w2 ⟨j7,a2,n2,c2,rfl,A5,j8⟩;replace o8:=o8.bw j8;have o9:=zB A7 j8)
   | (go_at_call 190;have hq:=E2;refine (zFN _ _ _ _ _ _ _ _ k k b B lo lo' _ ((zA HS).lo.bw E2) ((zA HT).lo.bw E2) hk hb hp (zA oC _ E2)).mono ?_;rintro r w1 ⟨m7,a1,n1,c1,rfl,o8,b9⟩;have A7:=zB E2 b9))
 go_wp2
 go_ret
 exact⟨w4.heap.size,pr4 ⟨m7,a1,n1,c1⟩ ⟨j7,a2,n2,c2⟩ ⟨B9,a3,n3,c3⟩ ⟨E4,a4,n4,c4⟩,rfl,zPR w4 _ rfl ⟨m7,a1,n1,c1⟩ ⟨j7,a2,n2,c2⟩ ⟨B9,a3,n3,c3⟩ ⟨E4,a4,n4,c4⟩ _ _ _ _ _ _ o8 A5 E7 H8,zB j6 (zL G3 _)⟩
theorem zJR (w:World) (s t:Sp) (k b B:Nat) (lo hi lo' hi':Int) (hs:SpAt w s k lo hi) (ht:SpAt w t k lo' hi') (hk:k<=300000000) (hb:b<=1000000) (hp:0<lo') (I8:0<hi') (hc:w.cell? ⟨B,4,none⟩=some (.int .i64 b)) :
  Calls Tryz.prog 152 #[.agg s.q,.agg t.q,.func (.func 191) #[] #[.pointer (some ⟨B,0,none⟩)]] w λ r w' =>
   ∃ B' f,r=.returned (.slice (some ⟨B',0,none⟩) 4 4)/\Nums w' B' 4 (b/16+k+9) f (pr4 (-(-(lo*Q b)/lo')) (-(-(lo*Q b)/hi')) (-(-(hi*Q b)/lo')) (-(-(hi*Q b)/hi')))/\Below w.heap.size w w':=by
 have lB:B<w.heap.size:=World.block_lt_of_cell? w ⟨B,4,none⟩ hc;obtain⟨W,hW⟩:∃ W,W=(w.alloc (.cells s.q 31)).alloc (.cells t.q 31):=⟨_,rfl⟩;have j6:Below w.heap.size w W:=by rw[hW];exact bl2 _ _ _
 have a0:SpC W w.heap.size s:=by rw[hW];constructor<;>simp[go_sem]
 have g0:SpC W (w.heap.size+1) t:=by rw[hW];constructor<;>simp[go_sem]
 have hcW:=(j6.cell (p:=⟨B,4,none⟩) lB).trans hc;have lBW:=YB lB j6.size;have HS:=zC (hs.bw j6);have HT:=zC (ht.bw j6);have E2:Below W.heap.size W W.drew:=(Below.refl _ _).drew;have oC:=zC (show ∀ w',Below W.heap.size W w'->w'.cell? ⟨B,4,none⟩=some (.int .i64 b) from λ w' hB=>(hB.cell (p:=⟨B,4,none⟩) lBW).trans hcW)
 have HK:=zC (show ∀ w',Below W.heap.size W w'->(w'.cell? ⟨w.heap.size,0,none⟩=some (.bool s.ln)/\w'.cell? ⟨w.heap.size,1,none⟩=some (.slice s.la s.lN s.lc)/\w'.cell? ⟨w.heap.size,2,none⟩=some (.bool s.hn)/\w'.cell? ⟨w.heap.size,3,none⟩=some (.slice s.ha s.hN s.hc)/\w'.cell? ⟨w.heap.size+1,0,none⟩=some (.bool t.ln)/\w'.cell? ⟨w.heap.size+1,1,none⟩=some (.slice t.la t.lN t.lc)/\w'.cell? ⟨w.heap.size+1,2,none⟩=some (.bool t.hn)/\w'.cell? ⟨w.heap.size+1,3,none⟩=some (.slice t.ha t.hN t.hc)) from λ w' hB=>by
  obtain⟨x0,x1,x2,x3,x4⟩:=a0.bw hB;obtain⟨y0,y1,y2,y3,y4⟩:=g0.bw hB
  exact⟨x0,x1,x2,x3,y0,y1,y2,y3⟩)
 go_enter Tryz.func152,Tryz.ntmps152
 go_wp2;obtain⟨x0,x1,x2,x3,x4⟩:=a0;obtain⟨y0,y1,y2,y3,y4⟩:=g0;rw[<- hW];clear hW
 go_region_held3 (λ w'=>w'.cell? ⟨w.heap.size,0,none⟩=some (.bool s.ln)/\w'.cell? ⟨w.heap.size,1,none⟩=some (.slice s.la s.lN s.lc)/\w'.cell? ⟨w.heap.size,2,none⟩=some (.bool s.hn)/\w'.cell? ⟨w.heap.size,3,none⟩=some (.slice s.ha s.hN s.hc)/\w'.cell? ⟨w.heap.size+1,0,none⟩=some (.bool t.ln)/\w'.cell? ⟨w.heap.size+1,1,none⟩=some (.slice t.la t.lN t.lc)/\w'.cell? ⟨w.heap.size+1,2,none⟩=some (.bool t.hn)/\w'.cell? ⟨w.heap.size+1,3,none⟩=some (.slice t.ha t.hN t.hc)) (exact zA HK _ (by with_reducible first|exact E2|exact zL G3 _|exact G3|exact A9|exact o9|exact A7))
  (first
   | (go_at_call 191;have hq:=A9;refine (zFO _ _ _ _ _ _ _ _ k k b B hi hi' _ ((zA HS).hi.bw A9) ((zA HT).hi.bw A9) hk hb I8 (zA oC _ A9)).mono ?_;rintro r w4 ⟨E4,a4,n4,c4,rfl,H8,p9⟩;replace o8:=o8.bw p9;replace A5:=A5.bw p9;replace E7:=E7.bw p9;have G3:=zB A9 p9)
   | (go_at_call 191;have hq:=o9;refine (zFO _ _ _ _ _ _ _ _ k k b B hi lo' _ ((zA HS).hi.bw o9) ((zA HT).lo.bw o9) hk hb hp (zA oC _ o9)).mono ?_;rintro r w3 ⟨B9,a3,n3,c3,rfl,E7,m8⟩;replace o8:=o8.bw m8;replace A5:=A5.bw m8;have A9:=zB o9 m8)
   | (go_at_call 191;have hq:=A7;refine (zFO _ _ _ _ _ _ _ _ k k b B lo hi' _ ((zA HS).lo.bw A7) ((zA HT).hi.bw A7) hk hb I8 (zA oC _ A7)).mono ?_;rintro r w2 ⟨j7,a2,n2,c2,rfl,A5,j8⟩;replace o8:=o8.bw j8;have o9:=zB A7 j8)
   | (go_at_call 191;have hq:=E2;refine (zFO _ _ _ _ _ _ _ _ k k b B lo lo' _ ((zA HS).lo.bw E2) ((zA HT).lo.bw E2) hk hb hp (zA oC _ E2)).mono ?_;rintro r w1 ⟨m7,a1,n1,c1,rfl,o8,b9⟩;have A7:=zB E2 b9))
 go_wp2
 go_ret
 exact⟨w4.heap.size,pr4 ⟨m7,a1,n1,c1⟩ ⟨j7,a2,n2,c2⟩ ⟨B9,a3,n3,c3⟩ ⟨E4,a4,n4,c4⟩,rfl,zPR w4 _ rfl ⟨m7,a1,n1,c1⟩ ⟨j7,a2,n2,c2⟩ ⟨B9,a3,n3,c3⟩ ⟨E4,a4,n4,c4⟩ _ _ _ _ _ _ o8 A5 E7 H8,zB j6 (zL G3 _)⟩
theorem zMO (w:World) (s t:Sp) (k b:Nat) (lo hi lo' hi':Int) (hs:SpAt w s k lo hi) (ht:SpAt w t k lo' hi') (hk:k<=300000000) (hb:b<=1000000) (hbits:s.bits=b) (hp:0<lo') (I8:0<hi') :
  Calls Tryz.prog 162 #[.agg s.q,.agg t.q] w (zH w b (b/16+k+10) (kK (pr4 (lo*Q b/lo') (lo*Q b/hi') (hi*Q b/lo') (hi*Q b/hi')) 3) (kA (pr4 (-(-(lo*Q b)/lo')) (-(-(lo*Q b)/hi')) (-(-(hi*Q b)/lo')) (-(-(hi*Q b)/hi'))) 3)):=by
 have gN:=zC hbits;have t1:¬ zM hi' 0<0:=by unfold zM;rw[if_neg (by omega)];split<;>omega
 clear hbits;obtain⟨W,hW⟩:∃ W,W=((w.alloc (.cells s.q 31)).alloc (.cells t.q 31)).alloc (.cells zCq 31):=⟨_,rfl⟩;have j6:Below w.heap.size w W:=by rw[hW];exact bl3 _ _ _ _
 have A:SpC W w.heap.size s:=by rw[hW];constructor<;>simp[go_sem]
 have G:SpC W (w.heap.size+1) t:=by rw[hW];constructor<;>simp[go_sem]
 have R:NoC W (w.heap.size+1+1):=by rw[hW];constructor<;>simp[go_sem]
 replace hs:=hs.bw j6;replace ht:=ht.bw j6
 go_enter Tryz.func162,Tryz.ntmps162
 go_wp2_with fail;rw[<- hW];clear hW;refine (zBG _ _ _ _ k hi' _ ht.hi).mono ?_;rintro r w0 ⟨rfl,F9⟩;replace j6:=zB j6 F9;replace A:=A.bw F9;replace G:=G.bw F9;replace R:=R.bw F9;replace hs:=hs.bw F9;replace ht:=ht.bw F9;clear F9;have lA:=A.lt;have lG:=G.lt;obtain⟨x0,x1,x2,x3,x4⟩:=A;obtain⟨y0,y1,y2,y3,y4⟩:=G;have A:SpC w0 w.heap.size s:=⟨x0,x1,x2,x3,x4⟩;have G:SpC w0 (w.heap.size+1) t:=⟨y0,y1,y2,y3,y4⟩;go_wp2_with fail;clear lA lG x0 x1 x2 x3 x4 y0 y1 y2 y3 y4;refine (zJQ _ s t k b w.heap.size lo hi lo' hi' hs ht hk hb hp I8 (by rw[<- zA gN];exact A.c4)).mono ?_
 rintro r w1 ⟨B1,f1,rfl,T8,b9⟩;replace j6:=zB j6 b9;replace A:=A.bw b9;replace G:=G.bw b9;replace R:=R.bw b9;replace hs:=hs.bw b9;replace ht:=ht.bw b9;clear b9;go_wp2_with fail;refine (zEY _ 3 _ (b/16+k+9) f1 _ _ T8 (by omega) (by omega)).mono ?_
 rintro r w2 ⟨j7,a2,n2,c2,rfl,A5,j8⟩;replace j6:=zB j6 j8;replace A:=A.bw j8;replace G:=G.bw j8;replace R:=R.bw j8;replace hs:=hs.bw j8;replace ht:=ht.bw j8;clear j8 T8;obtain⟨W2,nY⟩:∃ W',W'=w2.alloc (.cells #[.bool j7,.slice a2 n2 c2] 29):=⟨_,rfl⟩;have E9:Below w2.heap.size w2 W2:=by rw[nY];exact bl1 _ _
 have X2:NmC W2 w2.heap.size ⟨j7,a2,n2,c2⟩:=by rw[nY];exact zDC w2 ⟨j7,a2,n2,c2⟩ _
 have lA:=A.lt;have lG:=G.lt;obtain⟨x0,x1,x2,x3,x4⟩:=A;obtain⟨y0,y1,y2,y3,y4⟩:=G;have A:SpC w2 w.heap.size s:=⟨x0,x1,x2,x3,x4⟩;have G:SpC w2 (w.heap.size+1) t:=⟨y0,y1,y2,y3,y4⟩;go_wp2_with fail;rw[<- nY];clear nY;clear lA lG x0 x1 x2 x3 x4 y0 y1 y2 y3 y4;have rR:w2.heap.size≠w.heap.size+1+1:=YC R.lt;replace j6:=zB j6 E9;replace A:=A.bw E9;replace G:=G.bw E9;replace R:=R.bw E9;replace hs:=hs.bw E9;replace ht:=ht.bw E9;replace A5:=A5.bw E9;clear E9;refine (zJR _ s t k b w.heap.size lo hi lo' hi' hs ht hk hb hp I8 (by rw[<- zA gN];exact A.c4)).mono ?_
 rintro r w3 ⟨B3,f3,rfl,zo,m8⟩;replace j6:=zB j6 m8;replace A:=A.bw m8;replace R:=R.bw m8;replace A5:=A5.bw m8;replace X2:=X2.bw m8;clear m8;go_wp2_with fail;refine (zIV _ 3 _ (b/16+k+9) f3 _ _ zo (by omega) (by omega)).mono ?_
 rintro r w4 ⟨E4,a4,n4,c4,rfl,H8,p9⟩;replace j6:=zB j6 p9;replace A:=A.bw p9;replace R:=R.bw p9;replace A5:=A5.bw p9;replace X2:=X2.bw p9;clear p9 zo;have lA:=A.lt;have lX:=X2.lt;have lR:=R.lt;have DS:w.heap.size+1+1≠w2.heap.size:=λ e9=>rR e9.symm
 have SD:w4.heap.size≠w.heap.size+1+1:=YC lR;have nR4':w.heap.size+1+1≠w4.heap.size:=YD lR;have nX4:w2.heap.size≠w4.heap.size:=YD lX;obtain⟨x0,x1,x2,x3,x4⟩:=A;obtain⟨z0,z1⟩:=X2;obtain⟨q0,q1,q2,q3,q4,q5⟩:=R;go_wp2_with fail;refine bodyPost_ret (v:=.agg #[.bool j7,.slice a2 n2 c2,.bool E4,.slice a4 n4 c4,.int .i64 s.bits]) (by simp[results,Tryz.results162,go_sem,lR,q0,q1,q2,q3,q4]) rfl ⟨⟨j7,a2,n2,c2,E4,a4,n4,c4,s.bits⟩,rfl,zA gN,?_,?_⟩
 ·first|with_reducible exact SpAt.put5 ⟨(A5.bw (bl1 _ _)).mono (by omega),(H8.bw (bl1 _ _)).mono (by omega)⟩ (by simp[go_sem,lR,q0]) (by simp[go_sem,lR,q1]) (by simp[go_sem,lR,q2]) (by simp[go_sem,lR,q3]) (by simp[go_sem,lR,q4]) _ _ _ _ _|with_reducible exact SpAt.bw (SpAt.put5 ⟨A5.mono (by omega),H8.mono (by omega)⟩ q0 q1 q2 q3 q4 _ _ _ _ _) (bl1 _ _)
 ·first|with_reducible exact jV (zL j6 _) (by omega) _ _ _ _ _|with_reducible exact zL (jV j6 (by omega) _ _ _ _ _) _
theorem SpC.put5n {w:World} {B B':Nat} {s:Sp} (h:SpC w B s) (hne:B≠B') (u0 u1 u2 u3 u4:Value) :
  SpC (((((w.setCell ⟨B',0,none⟩ u0).setCell ⟨B',1,none⟩ u1).setCell ⟨B',2,none⟩ u2).setCell ⟨B',3,none⟩ u3).setCell ⟨B',4,none⟩ u4) B s :=
 ⟨jG h.c0 hne _ _ _ _ _,jG h.c1 hne _ _ _ _ _,jG h.c2 hne _ _ _ _ _,jG h.c3 hne _ _ _ _ _,jG h.c4 hne _ _ _ _ _⟩
theorem NoC.put5n {w:World} {B B':Nat} (h:NoC w B) (hne:B≠B') (u0 u1 u2 u3 u4:Value) :
  NoC (((((w.setCell ⟨B',0,none⟩ u0).setCell ⟨B',1,none⟩ u1).setCell ⟨B',2,none⟩ u2).setCell ⟨B',3,none⟩ u3).setCell ⟨B',4,none⟩ u4) B:=by
 obtain⟨q0,q1,q2,q3,q4,q5⟩:=h;exact⟨jG q0 hne _ _ _ _ _,jG q1 hne _ _ _ _ _,jG q2 hne _ _ _ _ _,jG q3 hne _ _ _ _ _,jG q4 hne _ _ _ _ _,λ o=>by rw[zS,zS,zS,zS,zS];exact q5 o⟩
theorem sp_put {w:World} {B:Nat} {t:Sp} (h:SpC w B t) (s:Sp):SpC (((((w.setCell ⟨B,0,none⟩ (.bool s.ln)).setCell ⟨B,1,none⟩ (.slice s.la s.lN s.lc)).setCell ⟨B,2,none⟩ (.bool s.hn)).setCell ⟨B,3,none⟩ (.slice s.ha s.hN s.hc)).setCell ⟨B,4,none⟩ (.int .i64 s.bits)) B s:=by
 obtain⟨q0,q1,q2,q3,q4⟩:=h;constructor<;>simp[go_sem,q0,q1,q2,q3,q4]
theorem two_sp {w:World} {B B':Nat} {s t:Sp} (hA:SpC w B s) (hG:SpC w B' t) (hne:B≠B') (u v:Sp) :
  let w1:=((((w.setCell ⟨B,0,none⟩ (.bool u.ln)).setCell ⟨B,1,none⟩ (.slice u.la u.lN u.lc)).setCell ⟨B,2,none⟩ (.bool u.hn)).setCell ⟨B,3,none⟩ (.slice u.ha u.hN u.hc)).setCell ⟨B,4,none⟩ (.int .i64 u.bits)
  let w2:=((((w1.setCell ⟨B',0,none⟩ (.bool v.ln)).setCell ⟨B',1,none⟩ (.slice v.la v.lN v.lc)).setCell ⟨B',2,none⟩ (.bool v.hn)).setCell ⟨B',3,none⟩ (.slice v.ha v.hN v.hc)).setCell ⟨B',4,none⟩ (.int .i64 v.bits)
  SpC w2 B u/\SpC w2 B' v/\(∀ {x:Sp} {k:Nat} {lo hi:Int},SpAt w x k lo hi->SpAt w2 x k lo hi)/\(∀ {C:Nat},NoC w C->C≠B->C≠B'->NoC w2 C):=by
 intro w1 w2
 have h1:SpC w1 B u:=sp_put hA u;have h2:SpC w1 B' t:=hG.put5n (λ e=>hne e.symm) _ _ _ _ _
 exact⟨h1.put5n hne _ _ _ _ _,sp_put h2 v,λ h=>SpAt.put5 (SpAt.put5 h hA.c0 hA.c1 hA.c2 hA.c3 hA.c4 _ _ _ _ _) h2.c0 h2.c1 h2.c2 h2.c3 h2.c4 _ _ _ _ _,λ h n1 n2=>(h.put5n n1 _ _ _ _ _).put5n n2 _ _ _ _ _⟩
theorem zDM (w:World) (s t:Sp) (k b:Nat) (lo hi lo' hi':Int) (hs:SpAt w s k lo hi) (ht:SpAt w t k lo' hi') (hk:k<=300000000) (hb:b<=1000000) (hbits:s.bits=b) (hl:lo<=hi) (hp:0<lo') (I8:lo'<=hi') :
  Calls Tryz.prog 162 #[.agg s.q,.agg t.q] w (zH w b (b/16+k+10) (zDW lo hi lo' hi' b) (zEV lo hi lo' hi' b)):=by
 have hq:=zE b;unfold zDW zEV;have h:¬ hi'<0:=by omega
 rw[if_neg h,if_neg h];have:=zMO w s t k b lo hi lo' hi' hs ht hk hb hbits (by omega) (by omega)
 rw[zPS (Yt hl (by omega)) (by omega) (by omega),zTQ (Yt hl (by omega)) (by omega) (by omega)] at this
 exact this
end Go.Proofs.YtgmnknmjainabacGreat
