/-
  Its own texts.
-/
import Derived.Test.YtgmnknmjainabacGreatK16
set_option maxRecDepth 100000
set_option maxHeartbeats 40000000
set_option linter.unusedVariables false
namespace Go.Proofs.YtgmnknmjainabacGreat.Ex
theorem zBN {x:Rat} (h:0<=x) (k:Nat):0<=pw x k:=by
 induction k with
 | zero=>show (0:Rat)<=1;grind
 | succ k ih=>exact Ys h ih
theorem zL9 {x y:Rat} (h:0<=x) (K6:x<=y) (k:Nat):pw x k<=pw y k:=by
 induction k with
 | zero=>exact Rat.le_refl
 | succ k ih=>exact Rat.le_trans (Yr ih h) (Yv K6 (zBN (by grind) k))
def dw (x:Rat):Nat->Rat
 | 0=>0
 | k+1=>x*dw x k+pw x k
theorem zJV {x:Rat} (h:0<=x) (k:Nat):0<=dw x k:=by
 induction k with
 | zero=>show (0:Rat)<=0;grind
 | succ k ih =>
  have:=Ys h ih;have:=zBN h k
  show 0<=x*dw x k+pw x k
  grind
theorem dw_mul (x:Rat) (k:Nat):x*dw x k=(k:Rat)*pw x k:=by
 induction k with
 | zero=>show x*0=((0:Nat):Rat)*1;have:((0:Nat):Rat)=0:=rfl;grind
 | succ k ih =>
  have c:((k+1:Nat):Rat)=(k:Rat)+1:=by push_cast;rfl
  show x*(x*dw x k+pw x k)=_
  rw[c,ih]
  show _=((k:Rat)+1)*(x*pw x k)
  grind
theorem dw_le {x q r:Rat} (h:0<=x) (hx:x<=q) (hr:q<=r) (k:Nat):(r-q)*dw x k<=pw r k:=by
 induction k with
 | zero=>show (r-q)*0<=1;grind
 | succ k ih =>
  have m1:=Yr ih h;have m2:=Yv hx (zBN (show 0<=r by grind) k)
  have m3:=Yr (zL9 h (show x<=r by grind) k) (show 0<=r-q by grind)
  show (r-q)*(x*dw x k+pw x k)<=r*pw r k
  grind
theorem zKJ {x y q r:Rat} (mR:0<=x) (hx:x<=q) (wW:0<=y) (hy:y<=q) (hr:q<=r) (k:Nat):0<=pw y k-pw x k-(y-x)*dw x k/\(r-q)*(r-q)*(pw y k-pw x k-(y-x)*dw x k)<=(y-x)*(y-x)*pw r k:=by
 induction k with
 | zero =>
  have:=zO (y-x);refine⟨by show 0<=(1:Rat)-1-(y-x)*0;grind,?_⟩
  show (r-q)*(r-q)*(1-1-(y-x)*0)<=(y-x)*(y-x)*1
  grind
 | succ k ih =>
  obtain⟨i1,i2⟩:=ih;have d0:=zJV mR k;have d1:=dw_le mR hx hr k;have s:=zO (y-x);have p0:=zBN (show 0<=r by grind) k
  have e:pw y (k+1)-pw x (k+1)-(y-x)*dw x (k+1)=y*(pw y k-pw x k-(y-x)*dw x k)+(y-x)*(y-x)*dw x k:=by
   show y*pw y k-x*pw x k-(y-x)*(x*dw x k+pw x k)=_
   grind
  rw[e];have m1:=Ys wW i1;have m2:=Ys s d0;refine⟨by grind,?_⟩
  have m3:=Yr i2 wW;have m4:=Yr d1 (Ys (show 0<=r-q by grind) s)
  have m5:=Ys (Ys (show 0<=q-y by grind) s) p0
  have e2:pw r (k+1)=r*pw r k:=rfl;rw[e2];generalize pw y k-pw x k-(y-x)*dw x k=t at *;generalize dw x k=d at *;generalize pw r k=p at *;generalize (y-x)*(y-x)=u at *;clear e e2 i1 i2 d1;grind
def psS (c:Nat->Rat) (x:Rat) (M:Nat):Rat:=S (λ k=>c k*pw x k) M
def psD (c:Nat->Rat) (x:Rat) (M:Nat):Rat:=S (λ k=>c k*dw x k) M
theorem S_mono {f g:Nat->Rat} (h:∀ k,f k<=g k) (M:Nat):S f M<=S g M:=by
 induction M with
 | zero=>exact Rat.le_refl
 | succ M ih=>have:=h M;show S f M+f M<=S g M+g M;grind
theorem psS_bd {c A:Nat->Rat} {x r K:Rat} (hc:∀ k,AB (c k) (A k)) (hK:∀ M,S (λ k=>A k*pw r k) M<=K) (mR:0<=x) (hx:x<=r) (M:Nat):AB (psS c x M) K:=by
 refine (S_AB (g:=λ k=>A k*pw r k) M λ k _=>?_).mono (hK M)
 have a:=(hc k).mul (show AB (pw x k) (pw x k) from⟨by have:=zBN mR k;grind,Rat.le_refl⟩)
 exact a.mono (Yr (zL9 mR hx k) (hc k).nonneg)
theorem ps_dif {c A:Nat->Rat} {q r K:Rat} (hc:∀ k,AB (c k) (A k)) (hK:∀ M,S (λ k=>A k*pw r k) M<=K) (oh:0<=q) (hr:q<r):Dif (psS c) (psD c) 0 q:=by
 have d0:0<r-q:=by grind
 have K0:0<=K:=by have:=hK 0;have e:S (λ k=>A k*pw r k) 0=0:=rfl;grind
 obtain⟨i,hi⟩:∃ i,i=1/(r-q):=⟨_,rfl⟩;have ip:0<i:=by rw[hi];exact zF (by grind) d0
 have im:i*(r-q)=1:=by rw[hi];exact rdm d0
 have iK:=Ys (Yw ip) K0;refine⟨i*i*K,K+i*K,by have:=Ys (Ys (Yw ip) (Yw ip)) K0;grind,by grind,λ x h1 h2=>⟨?_,?_⟩,λ x h h1 h2 h3 h4=>?_⟩
 ·exact LeA.of_ab 0 λ M _=>(psS_bd hc hK h1 (by grind) M).mono (by grind)
 ·refine LeA.of_ab 0 λ M _=>?_
  have b:AB (psD c x M) (S (λ k=>i*(A k*pw r k)) M):=S_AB M λ k _=>by
   have n:=zJV h1 k;have l:=dw_le h1 h2 (Yw hr) k
   have a:=(hc k).mul (show AB (dw x k) (i*pw r k) from⟨by have:=Ys (Yw ip) (zBN (show 0<=r by grind) k);grind,by
    have m:=Yr l (Yw ip);have e:i*((r-q)*dw x k)=i*(r-q)*dw x k:=by grind
    rw[e,im] at m
    grind⟩)
   exact a.mono (by grind)
  rw[zGV] at b;refine b.mono ?_;have:=Yr (hK M) (Yw ip);grind
 ·refine LeA.of_ab 0 λ M _=>?_
  have e:psS c (x+h) M-psS c x M-h*psD c x M=S (λ k=>c k*(pw (x+h) k-pw x k-h*dw x k)) M:=by
   unfold psS psD;rw[<- zGV,<- S_sub,<- S_sub];exact kR M λ k _=>by grind
  have b:AB (S (λ k=>c k*(pw (x+h) k-pw x k-h*dw x k)) M) (S (λ k=>h*h*(i*i)*(A k*pw r k)) M):=S_AB M λ k _=>by
   obtain⟨a1,a2⟩:=zKJ h1 h2 h3 h4 (Yw hr) k;have e1:x+h-x=h:=by grind
   rw[e1] at a1 a2;have ii:=Ys (Yw ip) (Yw ip);have m:=Yr a2 ii;have e2:i*i*((r-q)*(r-q)*(pw (x+h) k-pw x k-h*dw x k))=i*(r-q)*(i*(r-q))*(pw (x+h) k-pw x k-h*dw x k):=by grind
   rw[e2,im] at m;have a:=(hc k).mul (show AB (pw (x+h) k-pw x k-h*dw x k) (i*i*(h*h*pw r k)) from⟨by grind,by grind⟩)
   exact a.mono (by grind)
  rw[zGV] at b;rw[e];refine b.mono ?_;have m:=Yr (hK M) (Ys (zO h) (Ys (Yw ip) (Yw ip)));grind
theorem geo {t:Nat->Rat} {ρ:Rat} (h0:∀ k,0<=t k) (hρ:ρ<1) (RK:0<=ρ) (k0:Nat) (h:∀ k,k0<=k->t (k+1)<=ρ*t k):∃ K,0<=K/\∀ M,S t M<=K:=by
 have d0:0<1-ρ:=by grind
 obtain⟨i,hi⟩:∃ i,i=1/(1-ρ):=⟨_,rfl⟩;have ip:0<i:=by rw[hi];exact zF (by grind) d0
 have im:i*(1-ρ)=1:=by rw[hi];exact rdm d0
 have sn:∀ M,0<=S t M:=λ M=>by
  induction M with
  | zero=>show (0:Rat)<=0;grind
  | succ M ih=>have:=h0 M;show 0<=S t M+t M;grind
 have inv:∀ j,S t (k0+j)+i*t (k0+j)<=S t k0+i*t k0:=λ j=>by
  induction j with
  | zero=>exact Rat.le_refl
  | succ j ih =>
   have a:=h (k0+j) (by omega)
   have m:=Yr a (Yw ip);have e:S t (k0+(j+1))=S t (k0+j)+t (k0+j):=rfl;have e2:t (k0+(j+1))=t (k0+j+1):=rfl;rw[e,e2];have r:i*(ρ*t (k0+j))=i*t (k0+j)-i*(1-ρ)*t (k0+j):=by grind
   rw[r,im] at m;grind
 have up:∀ M j,S t M<=S t (M+j):=λ M j=>by
  induction j with
  | zero=>exact Rat.le_refl
  | succ j ih=>have:=h0 (M+j);show S t M<=S t (M+j)+t (M+j);grind
 have ik:=Ys (Yw ip) (h0 k0);refine⟨S t k0+i*t k0,by have:=sn k0;grind,λ M=>?_⟩
 have a:=up M k0;have b:=inv M;have c:=Ys (Yw ip) (h0 (k0+M));have e:M+k0=k0+M:=Nat.add_comm _ _;rw[e] at a;grind
theorem zIB {t:Nat->Rat} {ρ:Rat} (h0:∀ k,0<=t k) (hρ:ρ<1) (RK:0<=ρ) (k0:Nat) (h:∀ k,k0<=k->t (k+1)<=ρ*t k):Null t:=by
 obtain⟨K,Jq,hK⟩:=geo h0 hρ RK k0 h
 have fall:∀ k,k0<=k->t (k+1)<=t k:=λ k hk=>by
  have:=h k hk;have:=Yv (Yw hρ) (h0 k);grind
 have Ce:∀ j i,t (k0+(j+i))<=t (k0+j):=λ j i=>by
  induction i with
  | zero=>exact Rat.le_refl
  | succ i ih=>exact Rat.le_trans (fall (k0+(j+i)) (by omega)) ih
 have low:∀ (j m:Nat),m<=j->(m:Rat)*t (k0+j)<=S t (k0+m)-S t k0:=λ j m=>by
  induction m with
  | zero=>intro _;have:((0:Nat):Rat)=0:=rfl;rw[this];show (0:Rat)*t (k0+j)<=S t k0-S t k0;grind
  | succ m ih =>
   intro hm
   have i:=ih (by omega)
   have f:=Ce m (j-m);have e:k0+(m+(j-m))=k0+j:=by omega
   rw[e] at f;have c:((m+1:Nat):Rat)=(m:Rat)+1:=by push_cast;rfl
   have es:S t (k0+(m+1))=S t (k0+m)+t (k0+m):=rfl;rw[c,es];grind
 have s0:0<=S t k0:=by
  have:∀ M,0<=S t M:=λ M=>by
   induction M with
   | zero=>show (0:Rat)<=0;grind
   | succ M ih=>have:=h0 M;show 0<=S t M+t M;grind
  exact this k0
 intro e he
 obtain⟨n,hn⟩:=kC (K/e);refine⟨k0+n+1,λ M hM=>?_⟩
 obtain⟨j,rfl⟩:∃ j,M=k0+j:=⟨M-k0,by omega⟩
 have t0:=h0 (k0+j);refine⟨by grind,?_⟩
 have l:=low j j (Yy _);have b:=hK (k0+j);have d:=rdm (a:=K) he;have jn:(n:Rat)+1<=(j:Rat):=by exact_mod_cast (show n+1<=j by omega)
 have m1:=Yv hn.2 (Yw he);rw[d] at m1;refine Rat.not_lt.1 λ D9=>?_
 have n0:(0:Rat)<=(n:Rat):=by exact_mod_cast Nat.zero_le n
 have m2:=Yv jn t0;have m3:=Yr (Yw D9) n0;grind
end Go.Proofs.YtgmnknmjainabacGreat.Ex
namespace Go.Proofs.YtgmnknmjainabacGreat.Ex
theorem zRN {d:Nat->Rat} {u:Rat} (h:IsLog d (λ _=>1+u)) (hu:AB u (1/16)):LeN d (λ _=>u+4*(u*u)):=by
 have uu:=zO u;have a1:u*u<=1/256:=by have:=(hu.mul hu).2;grind
 intro e he
 have hb:AB (u+4*(u*u)) (1/4):=⟨by have:=hu.1;grind,by have:=hu.2;grind⟩
 refine h.le (zCU (u+4*(u*u))) null_zero 2 (λ M hM=>?_) e he
 have k:=(zOV hb (M:=M) hM).1
 show 1+u<=E (u+4*(u*u)) M+0
 have q:(u+4*(u*u))*(u+4*(u*u))=u*u*((1+4*u)*(1+4*u)):=by grind
 have r:(1+4*u)*(1+4*u)<=2:=by have:=hu.2;grind
 have m:=Yr r uu;grind
theorem dlog_two {d:Nat->Rat} {u:Rat} (h:IsLog d (λ _=>1+u)) (hu:AB u (1/16)):LeA (λ M=>d M-u) (4*(u*u)):=λ e he=>by
 obtain⟨N1,k1⟩:=zM5 h hu e he;obtain⟨N2,k2⟩:=zRN h hu e he;refine⟨N1+N2,λ M hM=>?_⟩
 have a1:=k1 M (by omega)
 have a2:=k2 M (by omega)
 dsimp only at a1 a2
 exact⟨by grind,by grind⟩
theorem LeA.of_abs {f g:Nat->Rat} {K:Rat} (h:LeA g K) (N0:Nat) (k:∀ M,N0<=M->AB (f M) (g M)):LeA f K:=λ e he=>by
 obtain⟨N,h⟩:=h e he;exact⟨N+N0,λ M hM=>(k M (by omega)).mono (h M (by omega)).2⟩
theorem abs_ex (u:Rat):∃ v,AB u v/\v*v=u*u:=by
 by_cases c:0<=u
 ·exact⟨u,⟨by grind,by grind⟩,rfl⟩
 ·exact⟨-u,⟨by grind,by grind⟩,by grind⟩
theorem pr_unit {d:Nat->Rat} {u c c1 v:Rat} (h:IsLog d (λ _=>1+u)) (hc:AB c c1) (hv:AB u v) (dI:v*v=u*u) (qw:v<=1/16) (hcv:c1*v<=1/16):LeA (λ M=>Ev (λ M=>c*d M) M-1-c*u) ((4*c1+8*(c1*c1))*(u*u)):=by
 have c0:=hc.nonneg;have v0:=hv.nonneg;have l:=dlog_two h (hv.mono qw)
 have ld:LeA d (2*v):=by
  refine ((l.add (LeA.const hv)).mono ?_).of_eq λ M=>by grind
  have:=Yr qw v0;rw[<- dI];grind
 have ly:LeA (λ M=>c*d M) (c1*(2*v)):=ld.scale hc
 obtain⟨N,hN⟩:=ly (1/8) (by grind)
 have l2:LeA (λ M=>Ev (λ M=>c*d M) M-1-c*d M) (2*(c1*(2*v)*(c1*(2*v)))):=by
  refine ((ly.mul ly).scale (show AB 2 2 from⟨by grind,by grind⟩)).of_abs (N+2) λ M hM=>?_
  exact zOV ((hN M (by omega)).mono (by grind)) (by omega)
 refine ((l2.add (l.scale hc)).mono ?_).of_eq λ M=>by grind
 rw[<- dI];grind
theorem zTY {L:Rat->Nat->Rat} (hL:Lns L) (c:Rat) {p q:Rat} (hp:0<p) (O2:p<=q):Dif (pr L c) (λ x M=>c/x*pr L c x M) p q:=by
 obtain⟨c1,hc⟩:=AB.self c;have c0:=hc.nonneg;have hq:0<q:=by grind
 obtain⟨B1,A7⟩:=(hL p hp).1.leA;obtain⟨B2,o9⟩:=(hL q hq).1.leA;have B10:=A7.nonneg;have B20:=o9.nonneg;obtain⟨K,K0,hK⟩:=zDY (c1*(B1+B2+2))
 have bd:∀ x,p<=x->x<=q->LeA (pr L c x) K:=λ x h1 h2=>by
  have x0:0<x:=by grind
  have l1:LeN (L p) (L x):=λ e he=>(hL p hp).le (hL x x0) null_zero 0 (λ M _=>by grind) e he
  have l2:LeN (L x) (L q):=λ e he=>(hL x x0).le (hL q hq) null_zero 0 (λ M _=>by grind) e he
  obtain⟨N1,n1⟩:=l1 1 (by grind)
  obtain⟨N2,n2⟩:=l2 1 (by grind)
  obtain⟨N3,n3⟩:=A7 1 (by grind)
  obtain⟨N4,n4⟩:=o9 1 (by grind)
  refine LeA.of_ab (N1+N2+N3+N4) λ M hM=>hK M _ (hc.mul ?_)
  have a1:=n1 M (by omega)
  have a2:=n2 M (by omega)
  have a3:=(n3 M (by omega)).1
  have a4:=(n4 M (by omega)).2
  exact⟨by grind,by grind⟩
 obtain⟨i,hi⟩:∃ i,i=1/p:=⟨_,rfl⟩;have ip:0<i:=by rw[hi];exact zF (by grind) hp
 have im:i*p=1:=by rw[hi];exact rdm hp
 have ic:=Ys c0 (Yw ip);have icK:=Ys ic K0;have Dp:0<16*((1+c1)*i):=by have:=Rat.mul_pos (show 0<1+c1 by grind) ip;grind
 have D0:=zF (show (0:Rat)<1 by grind) Dp
 have Dm:=rdm (a:=1) Dp;obtain⟨C2,kx⟩:∃ C2,C2=(4*c1+8*(c1*c1)):=⟨_,rfl⟩;have yh:0<=C2:=by have:=Ys c0 c0;grind
 have inv:∀ x,p<=x->0<1/x/\1/x<=i/\1/x*x=1:=λ x h1=>by
  have x0:0<x:=by grind
  have:=rdm (a:=1) x0;refine⟨zF (by grind) x0,zBO x0 ?_,this⟩
  have:=Yr h1 (Yw ip);grind
 have cdiv:∀ x,c/x=c*(1/x):=λ x=>by rw[YE,YE,Rat.one_mul]
 refine Dif.of_small (D:=1/(16*((1+c1)*i))) (C:=C2*K*(i*i)) (K:=K+c1*i*K) O2 D0 (Ys (Ys yh K0) (zO i)) (by grind) (λ x h1 h2=>⟨(bd x h1 h2).mono (by grind),?_⟩) (λ x h h1 h2 h3 h4 hD=>?_)
 ·obtain⟨e1,e2,e3⟩:=inv x h1
  rw[cdiv];refine ((bd x h1 h2).scale (hc.mul (show AB (1/x) i from⟨by grind,e2⟩))).mono (by grind)
 ·obtain⟨e1,e2,e3⟩:=inv x h1
  have x0:0<x:=by grind
  obtain⟨j,hj⟩:∃ j,j=1/x:=⟨_,rfl⟩;rw[<- hj] at e1 e2 e3;obtain⟨w,hw,hww⟩:=abs_ex h;have w0:=hw.nonneg
  have hwD:w<=1/(16*((1+c1)*i)):=by
   by_cases cs:0<=h
   ·have:w=h:=by
     have:(w-h)*(w+h)=0:=by grind
     rcases Rat.mul_eq_zero.1 this with h'|h'
     ·grind
     ·have:=hw.2;grind
    have:=hD.2;grind
   ·have:w = -h:=by
     have:(w-h)*(w+h)=0:=by grind
     rcases Rat.mul_eq_zero.1 this with h'|h'
     ·have:=hw.1;grind
     ·grind
    have:=hD.1;grind
  have uw:AB (h*j) (w*j):=hw.mul (show AB j j from⟨by grind,by grind⟩)
  have wj:w*j<=w*i:=Yr e2 w0
  have b1:(1+c1)*(w*i)<=1/16:=by
   have m:=Yv hwD (Yw Dp);rw[Dm] at m;grind
  have wi:=Ys w0 (Yw ip);have cwi:=Ys c0 wi
  have hs:x*(1+h*j)=x+h:=by
   have:x*(1+h*j)=x+h*(j*x):=by grind
   rw[this,e3];grind
  have s0:0<x+h:=by grind
  have u1:0<1+h*j:=by have:=uw.1;grind
  have hd:=zIH hL x0 u1;rw[hs] at hd;have m:=Yr wj c0;have pu:=pr_unit hd hc uw (by grind) (by grind) (by grind)
  have bdd:=(Bdd.const c).mul hd.1;have s:=zAK bdd (kG hL x0 c);have es:∀ M,Ev (λ M=>c*(L (x+h) M-L x M)+c*L x M) M=pr L c (x+h) M:=λ M=>by unfold pr Ev;congr 1;grind
  have t:=pu.mul (bd x h1 h2);rw[<- kx] at t;refine (LeA.congr (t.mono ?_) (s.neg.of_eq λ M=>?_))
  ·have hjj:h*j*(h*j)=h*h*(j*j):=by grind
   have jj:j*j<=i*i:=by
    have a:=Yr e2 (Yw e1);have b:=Yv e2 (Yw ip);grind
   have m1:=Yr jj (Ys (Ys yh K0) (zO h));rw[hjj];grind
  ·rw[es M,cdiv,<- hj]
   have e:Ev (λ M=>c*L x M) M=pr L c x M:=rfl
   rw[e];grind
end Go.Proofs.YtgmnknmjainabacGreat.Ex
namespace Go.Proofs.YtgmnknmjainabacGreat.Ex
def bT (a b x:Rat):Nat->Rat
 | 0=>1/a
 | n+1=>x*(a+b+(n:Rat))/(a+((n:Rat)+1))*bT a b x n
theorem zEQ {a:Rat} (ha:0<a) (b x:Rat):a*bT a b x 0=1:=by
 have:=rdm (a:=1) ha
 show a*(1/a)=1
 grind
theorem zA4 {a:Rat} (ha:0<a) (b x:Rat) (n:Nat):(a+((n:Rat)+1))*bT a b x (n+1)=x*(a+b+(n:Rat))*bT a b x n:=by
 have e:=rdm (a:=x*(a+b+(n:Rat))) (zBQ ha n)
 show (a+((n:Rat)+1))*(x*(a+b+(n:Rat))/(a+((n:Rat)+1))*bT a b x n)=_
 generalize x*(a+b+(n:Rat))/(a+((n:Rat)+1))=t at *;rw[<- e];grind
theorem zO0 (n:Nat):(0:Rat)<=(n:Rat):=by exact_mod_cast Nat.zero_le n
theorem zAV {a b x:Rat} (ha:0<a) (hb:0<b) (h:0<=x) (n:Nat):0<=bT a b x n:=by
 induction n with
 | zero=>exact jL ha (by grind)
 | succ n ih =>
  have n0:=zO0 n;exact Ys (jL (zBQ ha n) (by have:=Ys h (show 0<=a+b+(n:Rat) by grind);grind)) ih
theorem bT_pw {a:Rat} (ha:0<a) (b x:Rat) (n:Nat):bT a b x n=bT a b 1 n*pw x n:=by
 induction n with
 | zero=>show 1/a=1/a*1;grind
 | succ n ih =>
  have e1:=zA4 ha b x n;have e2:=zA4 ha b 1 n;refine zX (zBQ ha n) ?_;have e3:pw x (n+1)=x*pw x n:=rfl;rw[e1,e3,ih];have:(a+((n:Rat)+1))*(bT a b 1 (n+1)*(x*pw x n))=(a+((n:Rat)+1))*bT a b 1 (n+1)*(x*pw x n):=by grind
  rw[this,e2];grind
def bS (a b x:Rat) (M:Nat):Rat:=S (bT a b x) M
theorem zC5 (a b x:Rat) (M:Nat):bS a b x (M+1)=bS a b x M+bT a b x M:=rfl
theorem bS_ps {a:Rat} (ha:0<a) (b:Rat):bS a b=psS (bT a b 1):=by
 funext x M
 exact kR M λ k _=>bT_pw ha b x k
theorem zF4 {a b x:Rat} (ha:0<a) (hb:0<b) (h:0<=x) (M:Nat):0<=bS a b x M:=by
 induction M with
 | zero=>show (0:Rat)<=0;grind
 | succ n ih=>have:=zAV ha hb h n;rw[zC5];grind
theorem zM1 {a b x:Rat} (ha:0<a) (hb:0<b) (h:0<=x) (M:Nat):1/a<=bS a b x (M+1):=by
 induction M with
 | zero=>show 1/a<=0+1/a;grind
 | succ n ih=>have:=zAV ha hb h (n+1);rw[zC5];grind
theorem b_turn {b x:Rat} (hb:0<b) (hx:0<=x) (h1:x<1):∃ k0:Nat,∀ k:Nat,k0<=k->2*(x*b)<=(1-x)*(k:Rat):=by
 have d:0<1-x:=by grind
 obtain⟨n,hn⟩:=kC (2*b/(1-x));refine⟨n,λ k hk=>?_⟩
 have nk:(n:Rat)<=(k:Rat):=by exact_mod_cast hk
 have e:=rdm (a:=2*b) d;have m:=Yv (Rat.le_trans hn.2 nk) (Yw d);rw[e] at m;have m2:=Yv (Yw h1) (Yw hb);grind
theorem zQ5 {a b x:Rat} (ha:0<a) (hb:0<b) (hx:0<=x) (h1:x<1):∃ k0:Nat,∀ k,k0<=k->bT a b x (k+1)<=(1+x)/2*bT a b x k/\(a+((k+1:Nat):Rat))*bT a b x (k+1)<=(1+x)/2*((a+(k:Rat))*bT a b x k):=by
 obtain⟨k0,fw⟩:=b_turn hb hx h1;refine⟨k0,λ k hk=>?_⟩
 have t:=fw k hk;have e:=zA4 ha b x k;have n0:=zO0 k;have p:=zBQ ha k;have t0:=zAV ha hb hx k;have xa:=Ys (show 0<=1-x by grind) (Yw ha)
 have c:((k+1:Nat):Rat)=(k:Rat)+1:=by push_cast;rfl
 rw[c,e];constructor
 ·refine Rat.le_of_mul_le_mul_left (c:=a+((k:Rat)+1)) ?_ p
  rw[e];have m:=Yv (show x*(a+b+(k:Rat))<=(1+x)/2*(a+((k:Rat)+1)) by grind) t0
  grind
 ·have m:=Yv (show x*(a+b+(k:Rat))<=(1+x)/2*(a+(k:Rat)) by grind) t0
  grind
theorem zQ4 {a b x:Rat} (ha:0<a) (hb:0<b) (hx:0<=x) (h1:x<1):∃ K,0<=K/\∀ M,bS a b x M<=K:=by
 obtain⟨k0,h⟩:=zQ5 ha hb hx h1;exact geo (t:=bT a b x) (ρ:=(1+x)/2) (zAV ha hb hx) (by grind) (by grind) k0 λ k hk=>(h k hk).1
theorem zE7 {a b x:Rat} (ha:0<a) (hb:0<b) (hx:0<=x) (h1:x<1):Bdd (bS a b x):=by
 obtain⟨K,k0,hK⟩:=zQ4 ha hb hx h1;exact Bdd.of_le K 0 λ M _=>⟨by have:=zF4 ha hb hx M;grind,hK M⟩
theorem bS_mono {a b x y:Rat} (ha:0<a) (hb:0<b) (hx:0<=x) (K6:x<=y) (M:Nat):bS a b x M<=bS a b y M:=by
 refine S_mono (λ k=>?_) M
 rw[bT_pw ha b x,bT_pw ha b y];exact Yr (zL9 hx K6 k) (zAV ha hb (by grind) k)
theorem bT_null {a b x:Rat} (ha:0<a) (hb:0<b) (hx:0<=x) (h1:x<1):Null (bT a b x):=by
 obtain⟨k0,h⟩:=zQ5 ha hb hx h1;exact zIB (ρ:=(1+x)/2) (zAV ha hb hx) (by grind) (by grind) k0 λ k hk=>(h k hk).1
theorem zQ6 {a b x:Rat} (ha:0<a) (hb:0<b) (hx:0<=x) (h1:x<1):Null (λ k=>(a+(k:Rat))*bT a b x k):=by
 obtain⟨k0,h⟩:=zQ5 ha hb hx h1;refine zIB (t:=λ k=>(a+(k:Rat))*bT a b x k) (ρ:=(1+x)/2) (λ k=>Ys (by have:=zO0 k;grind) (zAV ha hb hx k)) (by grind) (by grind) k0 λ k hk=>(h k hk).2
theorem bS_ode {a:Rat} (ha:0<a) (b x:Rat) (M:Nat):(1-x)*(x*psD (bT a b 1) x M)=1+((a+b)*x-a)*bS a b x M-(a+(M:Rat))*bT a b x M:=by
 have key:∀ M:Nat,a*bS a b x M+x*psD (bT a b 1) x M-1+(a+(M:Rat))*bT a b x M=x*(a+b)*bS a b x M+x*(x*psD (bT a b 1) x M):=λ M=>by
  induction M with
  | zero =>
   have e:=zEQ ha b x;have c:((0:Nat):Rat)=0:=rfl;rw[c]
   show a*0+x*0-1+(a+0)*bT a b x 0=x*(a+b)*0+x*(x*0)
   grind
  | succ n ih =>
   have e1:=zA4 ha b x n;have c:((n+1:Nat):Rat)=(n:Rat)+1:=by push_cast;rfl
   have e2:psD (bT a b 1) x (n+1)=psD (bT a b 1) x n+bT a b 1 n*dw x n:=rfl
   have e3:x*(bT a b 1 n*dw x n)=(n:Rat)*bT a b x n:=by
    have d:=dw_mul x n;rw[bT_pw ha b x n];have:x*(bT a b 1 n*dw x n)=bT a b 1 n*(x*dw x n):=by grind
    rw[this,d];grind
   rw[zC5,e2,c,e1];have e4:x*(psD (bT a b 1) x n+bT a b 1 n*dw x n)=x*psD (bT a b 1) x n+(n:Rat)*bT a b x n:=by rw[<- e3];grind
   rw[e4];generalize psD (bT a b 1) x n=D at *;generalize bS a b x n=s at *;generalize bT a b x n=t at *;clear e1 e2 e3 e4;grind
 have:=key M;grind
def bP (L:Rat->Nat->Rat) (a b x:Rat) (M:Nat):Rat:=pr L a x M*pr L b (1-x) M
def bH (L:Rat->Nat->Rat) (a b x:Rat) (M:Nat):Rat:=bP L a b x M*bS a b x M
def bF (L:Rat->Nat->Rat) (a b x:Rat) (M:Nat):Rat:=1/(x*(1-x))*bP L a b x M
theorem zM0 {L:Rat->Nat->Rat} (hL:Lns L) {x:Rat} (hx:0<x) (h1:x<1) (a b:Rat):Bdd (bP L a b x):=(kM hL hx a).mul (kM hL (show 0<1-x by grind) b)
theorem bP_nn {L:Rat->Nat->Rat} (hL:Lns L) {x:Rat} (hx:0<x) (h1:x<1) (a b:Rat):Nn (bP L a b x):=(zC3 hL hx a).mul (zC3 hL (show 0<1-x by grind) b)
theorem zQ3 (L:Rat->Nat->Rat) (a b x:Rat) (M:Nat):bP L b a (1-x) M=bP L a b x M:=by
 unfold bP;have:1-(1-x)=x:=by grind
 rw[this];grind
theorem zLJ (L:Rat->Nat->Rat) (a b x:Rat) (M:Nat):bF L b a (1-x) M=bF L a b x M:=by
 unfold bF;rw[zQ3];have:(1-x)*(1-(1-x))=x*(1-x):=by grind
 rw[this]
theorem zQX {L:Rat->Nat->Rat} (hL:Lns L) {a b x:Rat} (ha:0<a) (hb:0<b) (hx:0<x) (h1:x<1):Bdd (bH L a b x):=(zM0 hL hx h1 a b).mul (zE7 ha hb (Yw hx) h1)
theorem zQY {L:Rat->Nat->Rat} (hL:Lns L) {a b x:Rat} (ha:0<a) (hb:0<b) (hx:0<x) (h1:x<1):Nn (bH L a b x):=(bP_nn hL hx h1 a b).mul ⟨0,λ M _=>zF4 ha hb (Yw hx) M⟩
theorem bS_dif {a b q:Rat} (ha:0<a) (hb:0<b) (hq:0<=q) (dN:q<1):Dif (bS a b) (psD (bT a b 1)) 0 q:=by
 obtain⟨K,k0,hK⟩:=zQ4 ha hb (show 0<=(1+q)/2 by grind) (show (1+q)/2<1 by grind)
 rw[bS_ps ha b];refine ps_dif (A:=bT a b 1) (r:=(1+q)/2) (K:=K) (λ k=>⟨by have:=zAV ha hb (show (0:Rat)<=1 by grind) k;grind,Rat.le_refl⟩) (λ M=>?_) hq (by grind)
 have:=hK M;rw[bS_ps ha b] at this;exact this
theorem zL5 {x y:Rat} (hx:0<x) (hy:0<y):1/(x*y)=1/x*(1/y):=by
 rw[YE,YE,YE,Rat.inv_mul_rev];grind
theorem zJH {L:Rat->Nat->Rat} (hL:Lns L) {a b p q:Rat} (ha:0<a) (hb:0<b) (hp:0<p) (O2:p<=q) (hq:q<1):Dif (bH L a b) (bF L a b) p q:=by
 have d1:=zTY hL a hp O2;have d2:Dif (λ x=>pr L b (1-x)) (λ x M => -(b/(1-x)*pr L b (1-x) M)) p q:=Dif.flip (F:=pr L b) (F':=λ x M=>b/x*pr L b x M) (zTY hL b (show 0<1-q by grind) (by grind))
 have d3:=(bS_dif ha hb (show 0<=q by grind) hq).within (p':=p) (q':=q) (by grind) Rat.le_refl
 have d:=(d1.mul O2 d2).mul O2 d3;refine d.congr λ x h1 h2=>?_
 have x0:0<x:=by grind
 have x1:0<1-x:=by grind
 have w:=(zQ6 ha hb (Yw x0) (show x<1 by grind)).bmul ((zM0 hL x0 (by grind) a b).mul (Bdd.const (1/(x*(1-x)))))
 refine w.of_eq λ M=>?_
 have o:=bS_ode ha b x M;have e1:=rdm (a:=1) x0;have e2:=rdm (a:=1) x1;have e3:a/x=a*(1/x):=by rw[YE,YE,Rat.one_mul]
 have e4:b/(1-x)=b*(1/(1-x)):=by rw[YE,YE,Rat.one_mul]
 unfold bF bP;rw[zL5 x0 x1,e3,e4];generalize 1/x=i at *;generalize 1/(1-x)=j at *;generalize pr L a x M=P at *;generalize pr L b (1-x) M=R at *;generalize bS a b x M=s at *;generalize psD (bT a b 1) x M=D at *;generalize (a+(M:Rat))*bT a b x M=W at *;clear w d d1 d2 d3
 have g:D=i*j*((1-x)*(x*D)):=by
  have:i*j*((1-x)*(x*D))=i*x*(j*(1-x))*D:=by grind
  rw[this,e1,e2];grind
 have g2:a*i-b*j=i*j*(a*(1-x)-b*x):=by
  have:i*j*(a*(1-x)-b*x)=a*i*(j*(1-x))-b*j*(i*x):=by grind
  rw[this,e1,e2];grind
 have g3:(a*i*P*R+P * -(b*j*R))*s+P*R*D=P*R*((a*i-b*j)*s+D):=by grind
 rw[g3,g2]
 have g4:i*j*(a*(1-x)-b*x)*s+D=i*j*((a*(1-x)-b*x)*s+(1-x)*(x*D)):=by
  have:i*j*(a*(1-x)-b*x)*s+D=i*j*(a*(1-x)-b*x)*s+i*j*((1-x)*(x*D)):=by rw[<- g]
  rw[this];grind
 rw[g4,o];grind
theorem bF_nn {L:Rat->Nat->Rat} (hL:Lns L) {x:Rat} (hx:0<x) (h1:x<1) (a b:Rat):Nn (bF L a b x):=(Nn.const (jL (Rat.mul_pos hx (show 0<1-x by grind)) (by grind))).mul (bP_nn hL hx h1 a b)
theorem Nn.leN {f:Nat->Rat} (h:Nn f):LeN (λ _=>0) f:=by
 obtain⟨N,hN⟩:=h;exact LeN.of_le N λ M hM=>hN M hM
theorem bH_mono {L:Rat->Nat->Rat} (hL:Lns L) {a b x y:Rat} (ha:0<a) (hb:0<b) (hx:0<x) (K6:x<=y) (hy:y<1):LeN (bH L a b x) (bH L a b y) :=
 (zJH hL ha hb hx K6 hy).le K6 λ t h1 h2=>(bF_nn hL (by grind) (by grind) a b).leN
def bJ (L:Rat->Nat->Rat) (a b:Rat) (M:Nat):Rat:=bH L a b (1/2) M+bH L b a (1/2) M
theorem zQ1 (L:Rat->Nat->Rat) (a b:Rat) (M:Nat):bJ L a b M=bJ L b a M:=by unfold bJ;grind
theorem bJ_at {L:Rat->Nat->Rat} (hL:Lns L) {a b x:Rat} (ha:0<a) (hb:0<b) (hx:0<x) (h1:x<1):Null (λ M=>bH L a b x M+bH L b a (1-x) M-bJ L a b M):=by
 have main:∀ p q:Rat,0<p->p<=q->q<1->Null (λ M=>(bH L a b p M+bH L b a (1-p) M)-(bH L a b q M+bH L b a (1-q) M)):=λ p q hp O2 hq=>by
  have d:=(zJH hL ha hb hp O2 hq).add (Dif.flip (F:=bH L b a) (F':=bF L b a) (zJH hL hb ha (show 0<1-q by grind) (show 1-q<=1-p by grind) (by grind)))
  refine d.eq O2 λ t h1 h2=>null_zero.of_eq λ M=>?_
  have:=zLJ L a b t M;rw[this];grind
 have e:(1:Rat)-1/2=1/2:=by grind
 by_cases c:x<=1/2
 ·have m:=main x (1/2) hx c (by grind)
  rw[e] at m;exact m
 ·have m:=main (1/2) x (by grind) (by grind) h1
  rw[e] at m;exact m.neg.of_eq λ M=>by unfold bJ;grind
theorem zG3 {L:Rat->Nat->Rat} (hL:Lns L) {a b:Rat} (ha:0<a) (hb:0<b):Bdd (bJ L a b):=(zQX hL ha hb (by grind) (by grind)).add (zQX hL hb ha (by grind) (by grind))
theorem bJ_nn {L:Rat->Nat->Rat} (hL:Lns L) {a b:Rat} (ha:0<a) (hb:0<b):Nn (bJ L a b):=(zQY hL ha hb (by grind) (by grind)).add (zQY hL hb ha (by grind) (by grind))
end Go.Proofs.YtgmnknmjainabacGreat.Ex
namespace Go.Proofs.YtgmnknmjainabacGreat.Ex
theorem bT_up {a:Rat} (ha:0<a) (b x:Rat) (n:Nat):(a+b)*(x*bT (a+1) b x n)=a*bT a b x (n+1):=by
 induction n with
 | zero =>
  have e1:=zA4 ha b x 0;have e2:=zEQ ha b x;have e3:=zEQ (show 0<a+1 by grind) b x
  have c:((0:Nat):Rat)=0:=rfl;rw[c] at e1;refine zX (show 0<a+1 by grind) ?_
  have k1:(a+1)*((a+b)*(x*bT (a+1) b x 0))=(a+b)*x*((a+1)*bT (a+1) b x 0):=by grind
  have k2:(a+1)*(a*bT a b x (0+1))=a*((a+(0+1))*bT a b x (0+1)):=by grind
  rw[k1,k2,e1,e3];have k3:a*(x*(a+b+0)*bT a b x 0)=x*(a+b)*(a*bT a b x 0):=by grind
  rw[k3,e2];grind
 | succ n ih =>
  have e1:=zA4 ha b x (n+1);have e2:=zA4 (show 0<a+1 by grind) b x n
  have c:((n+1:Nat):Rat)=(n:Rat)+1:=by push_cast;rfl
  rw[c] at e1;refine zX (show 0<a+((n:Rat)+1+1) by have:=zA0 n;grind) ?_
  have k1:(a+((n:Rat)+1+1))*((a+b)*(x*bT (a+1) b x (n+1)))=(a+b)*x*((a+1+((n:Rat)+1))*bT (a+1) b x (n+1)):=by grind
  have k2:(a+((n:Rat)+1+1))*(a*bT a b x (n+1+1))=a*((a+((n:Rat)+1+1))*bT a b x (n+1+1)):=by grind
  rw[k1,k2,e1,e2];have k3:(a+b)*x*(x*(a+1+b+(n:Rat))*bT (a+1) b x n)=x*(a+1+b+(n:Rat))*((a+b)*(x*bT (a+1) b x n)):=by grind
  rw[k3,ih];grind
theorem bS_up {a:Rat} (ha:0<a) (b x:Rat) (M:Nat):(a+b)*(x*bS (a+1) b x M)=a*bS a b x M-1+a*bT a b x M:=by
 induction M with
 | zero =>
  have:=zEQ ha b x
  show (a+b)*(x*0)=a*0-1+a*bT a b x 0
  grind
 | succ n ih =>
  have:=bT_up ha b x n;rw[zC5,zC5];grind
theorem bT_side {b:Rat} (hb:0<b) (a y:Rat) (n:Nat):(a+b)*bT b (a+1) y n=(a+b+(n:Rat))*bT b a y n:=by
 induction n with
 | zero =>
  have c:((0:Nat):Rat)=0:=rfl;rw[c]
  show (a+b)*(1/b)=(a+b+0)*(1/b)
  grind
 | succ n ih =>
  have e1:=zA4 hb (a+1) y n;have e2:=zA4 hb a y n;have c:((n+1:Nat):Rat)=(n:Rat)+1:=by push_cast;rfl
  refine zX (zBQ hb n) ?_;have k1:(b+((n:Rat)+1))*((a+b)*bT b (a+1) y (n+1))=(a+b)*((b+((n:Rat)+1))*bT b (a+1) y (n+1)):=by grind
  have k2:(b+((n:Rat)+1))*((a+b+((n+1:Nat):Rat))*bT b a y (n+1))=(a+b+((n:Rat)+1))*((b+((n:Rat)+1))*bT b a y (n+1)):=by rw[c];grind
  rw[k1,k2,e1,e2];have k3:(a+b)*(y*(b+(a+1)+(n:Rat))*bT b (a+1) y n)=y*(b+(a+1)+(n:Rat))*((a+b)*bT b (a+1) y n):=by grind
  rw[k3,ih];grind
theorem bS_side {b:Rat} (hb:0<b) (a y:Rat) (M:Nat):(a+b)*((1-y)*bS b (a+1) y M)=a*bS b a y M+1-(b+(M:Rat))*bT b a y M:=by
 induction M with
 | zero =>
  have:=zEQ hb a y;have c:((0:Nat):Rat)=0:=rfl;rw[c]
  show (a+b)*((1-y)*0)=a*0+1-(b+0)*bT b a y 0
  grind
 | succ n ih =>
  have e:=bT_side hb a y n;have e2:=zA4 hb a y n;have c:((n+1:Nat):Rat)=(n:Rat)+1:=by push_cast;rfl
  rw[zC5,zC5,c,e2];have k:(a+b)*((1-y)*(bS b (a+1) y n+bT b (a+1) y n))=(a+b)*((1-y)*bS b (a+1) y n)+(1-y)*((a+b)*bT b (a+1) y n):=by grind
  rw[k,ih,e];grind
theorem pr_up {L:Rat->Nat->Rat} (hL:Lns L) {x:Rat} (hx:0<x) (a:Rat):Null (λ M=>pr L (a+1) x M-x*pr L a x M):=by
 have h1:=zKI hL hx a 1;have h2:=(zFF hL hx).bmul (kM hL hx a);exact (h2.sub h1).of_eq λ M=>by grind
theorem bH_up {L:Rat->Nat->Rat} (hL:Lns L) {a b x:Rat} (ha:0<a) (hb:0<b) (hx:0<x) (h1:x<1):Null (λ M=>(a+b)*bH L (a+1) b x M-(a*bH L a b x M-bP L a b x M)):=by
 have x0:=Yw hx;have n1:=(pr_up hL hx a).bmul ((kM hL (show 0<1-x by grind) b).mul ((Bdd.const (a+b)).mul (zE7 (show 0<a+1 by grind) hb x0 h1)))
 have n2:=(bT_null ha hb x0 h1).bmul ((Bdd.const a).mul (zM0 hL hx h1 a b));refine (n1.add n2).of_eq λ M=>?_
 have e:=bS_up ha b x M;unfold bH bP;generalize pr L (a+1) x M=p1 at *;generalize pr L a x M=p at *;generalize pr L b (1-x) M=r at *;generalize bS (a+1) b x M=s1 at *;generalize bS a b x M=s at *;generalize bT a b x M=t at *;clear n1 n2;have:p*r*((a+b)*(x*s1))=p*r*(a*s-1+a*t):=by rw[e]
 grind
theorem bH_side {L:Rat->Nat->Rat} (hL:Lns L) {a b y:Rat} (ha:0<a) (hb:0<b) (hy:0<y) (h1:y<1):Null (λ M=>(a+b)*bH L b (a+1) y M-(a*bH L b a y M+bP L b a y M)):=by
 have y0:=Yw hy;have y1:0<1-y:=by grind
 have n1:=(pr_up hL y1 a).bmul ((kM hL hy b).mul ((Bdd.const (a+b)).mul (zE7 hb (show 0<a+1 by grind) y0 h1)))
 have n2:=(zQ6 hb ha y0 h1).bmul (zM0 hL hy h1 b a);refine (n1.sub n2).of_eq λ M=>?_
 have e:=bS_side hb a y M;unfold bH bP;generalize pr L (a+1) (1-y) M=p1 at *;generalize pr L a (1-y) M=p at *;generalize pr L b y M=r at *;generalize bS b (a+1) y M=s1 at *;generalize bS b a y M=s at *;generalize (b+(M:Rat))*bT b a y M=t at *;clear n1 n2;have:p*r*((a+b)*((1-y)*s1))=p*r*(a*s+1-t):=by rw[e]
 grind
theorem zLK {L:Rat->Nat->Rat} (hL:Lns L) {a b:Rat} (ha:0<a) (hb:0<b):Null (λ M=>(a+b)*bJ L (a+1) b M-a*bJ L a b M):=by
 have n1:=bH_up hL ha hb (show (0:Rat)<1/2 by grind) (by grind)
 have n2:=bH_side hL ha hb (show (0:Rat)<1/2 by grind) (by grind)
 refine (n1.add n2).of_eq λ M=>?_
 have t:=zQ3 L a b (1/2) M;have e:(1:Rat)-1/2=1/2:=by grind
 rw[e] at t;unfold bJ;rw[t];grind
theorem bS_11 {x:Rat} (M:Nat):(1-x)*bS 1 1 x M=1-pw x M:=by
 have t:∀ n,bT 1 1 x n=pw x n:=λ n=>by
  induction n with
  | zero=>show (1:Rat)/1=1;grind
  | succ n ih =>
   have e:=zA4 (show (0:Rat)<1 by grind) 1 x n
   refine zX (zBQ (show (0:Rat)<1 by grind) n) ?_
   rw[e,ih]
   show _=(1+((n:Rat)+1))*(x*pw x n)
   grind
 induction M with
 | zero=>show (1-x)*0=1-1;grind
 | succ n ih =>
  rw[zC5,t n]
  show _=1-x*pw x n
  grind
theorem pw_null {x:Rat} (hx:0<=x) (h1:x<1):Null (pw x):=zIB (λ k=>zBN hx k) h1 hx 0 λ k _=>Rat.le_refl
theorem bH_11 {L:Rat->Nat->Rat} (hL:Lns L) {x:Rat} (hx:0<x) (h1:x<1):Null (λ M=>bH L 1 1 x M-x):=by
 have x0:=Yw hx;have x1:0<1-x:=by grind
 have one:(0:Rat)<1:=by grind
 have n1:=(zFF hL hx).bmul ((kM hL x1 1).mul (zE7 one one x0 h1));have n2:=(zFF hL x1).bmul ((Bdd.const x).mul (zE7 one one x0 h1));have n3:=(pw_null x0 h1).bmul (Bdd.const x);refine ((n1.add n2).sub n3).of_eq λ M=>?_
 have e:=bS_11 (x:=x) M;unfold bH bP;generalize pr L 1 x M=p at *;generalize pr L 1 (1-x) M=r at *;generalize bS 1 1 x M=s at *;generalize pw x M=t at *;clear n1 n2 n3;have:x*((1-x)*s)=x*(1-t):=by rw[e]
 grind
theorem bJ_11 {L:Rat->Nat->Rat} (hL:Lns L):Null (λ M=>bJ L 1 1 M-1):=by
 have n:=bH_11 hL (show (0:Rat)<1/2 by grind) (by grind)
 exact (n.add n).of_eq λ M=>by unfold bJ;grind
theorem zN5 {L:Rat->Nat->Rat} (hL:Lns L) {a:Rat} (ha:0<a) (n:Nat):∃ p,0<p/\p<=1/4/\LeN (pr L a p) (λ _=>q2 n):=by
 obtain⟨c,c0,N,hc⟩:=zB7 (Bdd.const (-((n:Rat)/a)))
 obtain⟨p,p0,p1,p2⟩:∃ p,0<p/\p<=1/4/\p<=c:=by
  by_cases h:c<=1/4
  ·exact⟨c,c0,h,Rat.le_refl⟩
  ·exact⟨1/4,by grind,Rat.le_refl,by grind⟩
 refine⟨p,p0,p1,?_⟩
 have l:LeN (L p) (λ _ => -((n:Rat)/a)):=λ e he=>(hL p p0).le (zCU _) null_zero N (λ M hM=>by
  have:=hc M hM;have e:ex (-((n:Rat)/a)) M=Ev (λ _ => -((n:Rat)/a)) M:=rfl
  rw[e];grind) e he
 obtain⟨z,hz,kz⟩:=(l.cmul (Yw ha)).null;obtain⟨v,hv,N2,kv⟩:=zC4 (kG hL p0 a) (Bdd.const (a * -((n:Rat)/a))) hz 0 (λ M _=>kz M)
 have e:a * -((n:Rat)/a) = -(n:Rat):=by have:=rdm (a:=(n:Rat)) ha;grind
 rw[e] at kv;exact (LeN.of_null hv N2 kv).trans (zF9 n)
theorem zTZ {L:Rat->Nat->Rat} (hL:Lns L) {b x:Rat} (hb:0<=b) (hx:0<x) (h1:x<=1):LeN (pr L b x) (λ _=>1):=by
 have l:LeN (L x) (λ _=>0):=λ e he=>(hL x hx).le isLog_one null_zero 0 (λ M _=>by grind) e he
 obtain⟨z,hz,kz⟩:=(l.cmul hb).null;obtain⟨v,hv,N2,kv⟩:=zC4 (kG hL hx b) (Bdd.const (b*0)) hz 0 (λ M _=>kz M)
 refine LeN.of_null hv (N2+1) λ M hM=>?_
 have k:=kv M (by omega)
 obtain⟨m,rfl⟩:∃ m,M=m+1:=⟨M-1,by omega⟩
 have e:Ev (λ _=>b*0) (m+1)=1:=by
  have:b*0=0:=by grind
  rw[this];exact kV m
 rw[e] at k;exact k
theorem bH_small {L:Rat->Nat->Rat} (hL:Lns L) {a b:Rat} (ha:0<a) (hb:0<b) {e:Rat} (he:0<e):∃ p,0<p/\p<=1/4/\LeN (bH L a b p) (λ _=>e):=by
 obtain⟨K,k0,hK⟩:=zQ4 ha hb (show (0:Rat)<=1/4 by grind) (by grind)
 have Kp:0<K+1:=by grind
 obtain⟨n,hn⟩:=null_q2 (e/(K+1)) (zF he Kp);have q:=(hn n (Yy _)).2;obtain⟨p,p0,p1,ps⟩:=zN5 hL ha n;refine⟨p,p0,p1,?_⟩;have Ls:0<1-p:=by grind
 have l1:=ps.mul (zTZ hL (Yw hb) Ls (by grind)) (kM hL Ls b) (zC3 hL Ls b) (Bdd.const (q2 n)) (Nn.const (Yw (yD n)))
 have l2:LeN (bS a b p) (λ _=>K+1):=LeN.of_le 0 λ M _=>by
  have:=hK M;have:=bS_mono ha hb (Yw p0) p1 M;grind
 have l:=l1.mul l2 (zE7 ha hb (Yw p0) (by grind)) ⟨0,λ M _=>zF4 ha hb (Yw p0) M⟩ (Bdd.const (q2 n*1)) (Nn.const (by have:=yD n;grind))
 refine l.trans (LeN.of_le 0 λ M _=>?_)
 have m:=Yv q (Yw Kp);rw[rdm Kp] at m;grind
theorem zL7 {L:Rat->Nat->Rat} (hL:Lns L) {a a' x:Rat} (h:a<=a') (hx:0<x) (h1:x<=1):LeN (pr L a' x) (pr L a x):=by
 have l:LeN (L x) (λ _=>0):=λ e he=>(hL x hx).le isLog_one null_zero 0 (λ M _=>by grind) e he
 obtain⟨z,hz,kz⟩:=(l.cmul (show 0<=a'-a by grind)).null
 obtain⟨v,hv,N2,kv⟩:=zC4 (kG hL hx a') (kG hL hx a) hz 0 (λ M _=>by have:=kz M;grind)
 exact LeN.of_null hv N2 kv
theorem zQW {L:Rat->Nat->Rat} (hL:Lns L) {a a' b x:Rat} (h:a<=a') (hx:0<x) (h1:x<1):LeN (bF L a' b x) (bF L a b x):=by
 have x1:0<1-x:=by grind
 have l:=(zL7 hL h hx (Yw h1)).bmul (kM hL x1 b) (zC3 hL x1 b);exact l.cmul (jL (Rat.mul_pos hx x1) (by grind))
theorem bH_cmp {L:Rat->Nat->Rat} (hL:Lns L) {a b a' b':Rat} (ha:0<a) (hb:0<b) (ha':0<a') (Z9:0<b') (h:∀ x,0<x->x<1->LeN (bF L a' b' x) (bF L a b x)) {y:Rat} (hy:1/4<=y) (gI:y<1):LeN (bH L a' b' y) (bH L a b y):=by
 intro e he
 obtain⟨p,p0,p1,ps⟩:=bH_small hL ha' Z9 (show 0<e/2 by grind)
 have d:=(zJH hL ha hb p0 (show p<=y by grind) gI).sub (zJH hL ha' Z9 p0 (show p<=y by grind) gI)
 have l:=d.le (by grind) λ x h1 h2=>by
  have k:=h x (by grind) (by grind)
  obtain⟨z,hz,kz⟩:=k.null;exact LeN.of_null hz 0 λ M _=>by have:=kz M;grind
 obtain⟨N1,n1⟩:=l (e/4) (by grind)
 obtain⟨N2,n2⟩:=ps (e/4) (by grind)
 obtain⟨N3,n3⟩:=zQY hL ha hb p0 (show p<1 by grind)
 refine⟨N1+N2+N3,λ M hM=>?_⟩
 have a1:=n1 M (by omega)
 have a2:=n2 M (by omega)
 have a3:=n3 M (by omega)
 dsimp only at a1 a2
 grind
theorem zQZ {L:Rat->Nat->Rat} (hL:Lns L) {a a' b:Rat} (ha:0<a) (hb:0<b) (h:a<=a'):LeN (bJ L a' b) (bJ L a b):=by
 have l1:=bH_cmp hL ha hb (show 0<a' by grind) hb (λ x h1 h2=>zQW hL h h1 h2) (show (1:Rat)/4<=1/2 by grind) (by grind)
 have l2:=bH_cmp hL hb ha hb (show 0<a' by grind) (λ x h1 h2=>by
  have:=zQW hL (b:=b) h (show 0<1-x by grind) (show 1-x<1 by grind)
  have e1:bF L a' b (1-x)=bF L b a' x:=by funext M;exact zLJ L b a' x M
  have e2:bF L a b (1-x)=bF L b a x:=by funext M;exact zLJ L b a x M
  rw[e1,e2] at this
  exact this) (show (1:Rat)/4<=1/2 by grind) (by grind)
 exact l1.add l2
end Go.Proofs.YtgmnknmjainabacGreat.Ex
namespace Go.Proofs.YtgmnknmjainabacGreat.Ex
theorem E_part {s y:Rat} (s0:0<=s) (s1:s<=1) (hy:0<=y) {M:Nat} (hM:1<=M):E (s*y) M<=1-s+s*E y M:=by
 obtain⟨m,rfl⟩:∃ m,M=m+1:=⟨M-1,by omega⟩
 clear hM
 have t:∀ k:Nat,tm (s*y) (k+1)<=s*tm y (k+1):=λ k=>by
  induction k with
  | zero =>
   have e1:=kU (s*y) 0;have e2:=kU y 0;have c:((0:Nat):Rat)=0:=rfl;rw[c] at e1 e2;have z1:tm (s*y) 0=1:=rfl;have z2:tm y 0=1:=rfl;rw[z1] at e1;rw[z2] at e2;grind
  | succ k ih =>
   have e1:=kU (s*y) (k+1);have e2:=kU y (k+1);have p:=zA0 (k+1);have n0:=zA1 hy (k+1);have sy:=Ys s0 hy;refine Rat.le_of_mul_le_mul_left (c:=((k+1:Nat):Rat)+1) ?_ p;rw[e1];have k1:(((k+1:Nat):Rat)+1)*(s*tm y (k+1+1))=s*((((k+1:Nat):Rat)+1)*tm y (k+1+1)):=by grind
   rw[k1,e2];have m1:=Yr ih sy;have m2:=Ys (Ys sy (show 0<=1-s by grind)) n0
   grind
 induction m with
 | zero =>
  show 0+tm (s*y) 0<=1-s+s*(0+tm y 0)
  have z1:tm (s*y) 0=1:=rfl;have z2:tm y 0=1:=rfl;rw[z1,z2];grind
 | succ m ih =>
  have:=t m
  show E (s*y) (m+1)+tm (s*y) (m+1)<=1-s+s*(E y (m+1)+tm y (m+1))
  grind
theorem zQH {s:Rat} {y:Nat->Rat} (s0:0<=s) (s1:s<=1) (hb:Bdd y) (hy:LeN (λ _=>0) y):LeN (Ev (λ M=>s*y M)) (λ M=>1-s+s*Ev y M):=by
 obtain⟨z,hz,kz⟩:=hy.null
 obtain⟨y',h1,h2⟩:∃ y':Nat->Rat,(∀ M,0<=y' M)/\Null (λ M=>y M-y' M):=by
  refine⟨λ M=>if 0<=y M then y M else 0,λ M=>?_,λ e he=>?_⟩
  ·dsimp only;split<;>grind
  ·obtain⟨N,hN⟩:=hy e he
   refine⟨N,λ M hM=>?_⟩
   have:=hN M hM
   dsimp only at this ⊢
   split<;>exact⟨by grind,by grind⟩
 have Z9:Bdd y':=hb.of_null h2;have c1:=zD4 ((Bdd.const s).mul hb) ((Bdd.const s).mul Z9) ((h2.bmul (Bdd.const s)).of_eq λ M=>by grind)
 have c2:=(zD4 hb Z9 h2).bmul (Bdd.const s);refine LeN.of_null (c1.sub c2) 1 λ M hM=>?_
 have e:=E_part s0 s1 (h1 M) hM;have e1:Ev (λ M=>s*y' M) M=E (s*y' M) M:=rfl
 have e2:Ev y' M=E (y' M) M:=rfl;rw[e1,e2];grind
theorem bern {L:Rat->Nat->Rat} (hL:Lns L) {s c t:Rat} (s0:0<=s) (s1:s<=1) (hc:0<c) (ht:0<t):LeN (pr L s t) (λ M=>(1-s+s*(t/c))*pr L s c M):=by
 have r0:=zF ht hc;have hy:=zIH hL hc r0;have et:c*(t/c)=t:=by have:=rdm (a:=t) hc;grind
 rw[et] at hy;obtain⟨y,ey⟩:∃ y:Nat->Rat,y=λ M=>L t M-L c M:=⟨_,rfl⟩
 rw[<- ey] at hy
 have key:LeN (Ev (λ M=>s*y M)) (λ _=>1-s+s*(t/c)):=by
  by_cases hle:c<=t
  ·have l:LeN (λ _=>0) y:=λ e he=>isLog_one.le hy null_zero 0 (λ M _=>by
    have:=jL (a:=1) hc (show 1*c<=t by grind)
    grind) e he
   refine (zQH s0 s1 hy.1 l).trans ?_;refine LeN.of_null (hy.2.bmul (Bdd.const s)) 0 λ M _=>by grind
  ·-- the other way round
   have hw:=hy.neg (s:=λ _=>c/t) (Bdd.const _) 0 (λ M _=>by
    have e1:=rdm (a:=c) ht;have e2:=rdm (a:=t) hc
    have:c/t*(t/c)=c/t*t*(t/c)/t:=by
     have:c/t*t*(t/c)/t=c/t*(t/c)*(t/t):=by rw[YE _ t,YE t t];grind
     rw[this];have:t/t=1:=by rw[YE,Rat.mul_inv_cancel _ (by grind)]
     rw[this];grind
    rw[this,e1];have:c*(t/c)=t:=by grind
    rw[this,YE,Rat.mul_inv_cancel _ (by grind)])
   have l:LeN (λ _=>0) (λ M => -y M):=λ e he=>isLog_one.le hw null_zero 0 (λ M _=>by
    have:=jL (a:=1) ht (show 1*t<=c by grind)
    grind) e he
   have k:=(zQH (show 0<=1-s by grind) (by grind) hw.1 l).bmul (zAE hy.1) (zQF hy.1)
   have a1:=zAK ((Bdd.const (1-s)).mul hw.1) hy.1;have a2:=zAK hw.1 hy.1;have e1:∀ M,Ev (λ M=>(1-s) * -y M+y M) M=Ev (λ M=>s*y M) M:=λ M=>by unfold Ev;congr 1;grind
   have e2:∀ M,Ev (λ M => -y M+y M) M=E 0 M:=λ M=>by unfold Ev;congr 1;grind
   obtain⟨z,hz,kz⟩:=k.null
   have n1:Null (λ M=>E 0 M-1):=null_zero.of_eq_from 1 λ M hM=>by
    obtain⟨m,rfl⟩:∃ m,M=m+1:=⟨M-1,by omega⟩
    rw[kV];grind
   refine LeN.of_null (((hz.add (a2.bmul (Bdd.const (1-s)))).add (hy.2.bmul (Bdd.const s))).add ((n1.bmul (Bdd.const (1-s))).sub a1)) 0 λ M _=>?_
   have k2:=kz M;rw[e1,e2];generalize Ev (λ M=>(1-s) * -y M) M=w1 at *
   generalize Ev (λ M=>s*y M) M=w2 at *
   generalize Ev (λ M => -y M) M=w3 at *
   generalize Ev y M=w4 at *;generalize E 0 M=w5 at *;clear k a1 a2 e1 e2 n1 hw l hz kz;have r:(1-(1-s)+(1-s)*w3)*w4=s*w4+(1-s)*(w3*w4):=by grind
   rw[r] at k2;grind
 have k:=key.bmul (kM hL hc s) (zC3 hL hc s);have a:=zAK ((Bdd.const s).mul hy.1) (kG hL hc s);refine LeN.trans (LeN.of_eqN (Null.symm (a.of_eq λ M=>?_))) k
 have e:Ev (λ M=>s*y M+s*L c M) M=pr L s t M:=by rw[ey];unfold pr Ev;congr 1;grind
 rw[e];rfl
theorem upT_pw {a:Rat} (ha:0<a) (x:Rat) (n:Nat):upT a x n=upT a 1 n*pw x n:=by
 induction n with
 | zero=>show 1/a=1/a*1;grind
 | succ n ih =>
  have e1:=jX ha x n;have e2:=jX ha 1 n;refine zX (zBQ ha n) ?_;have e3:pw x (n+1)=x*pw x n:=rfl;rw[e1,e3,ih];have:(a+((n:Rat)+1))*(upT a 1 (n+1)*(x*pw x n))=(a+((n:Rat)+1))*upT a 1 (n+1)*(x*pw x n):=by grind
  rw[this,e2];grind
theorem uS_ps {a:Rat} (ha:0<a):uS a=psS (upT a 1):=by
 funext x M
 exact kR M λ k _=>upT_pw ha x k
theorem uS_dif {a q:Rat} (ha:0<a) (hq:0<=q):Dif (uS a) (psD (upT a 1)) 0 q:=by
 obtain⟨K,k0,hK⟩:=zK4 ha (show 0<=q+1 by grind)
 rw[uS_ps ha];refine ps_dif (A:=upT a 1) (r:=q+1) (K:=K) (λ k=>⟨by have:=kH ha (show (0:Rat)<=1 by grind) k;grind,Rat.le_refl⟩) (λ M=>?_) hq (by grind)
 have:=hK M;rw[uS_ps ha] at this;exact this
theorem uS_ode {a:Rat} (ha:0<a) (x:Rat) (M:Nat):x*psD (upT a 1) x M=1+(x-a)*uS a x M-(a+(M:Rat))*upT a x M:=by
 induction M with
 | zero =>
  have e:=yZ ha x;have c:((0:Nat):Rat)=0:=rfl;rw[c]
  show x*0=1+(x-a)*0-(a+0)*upT a x 0
  grind
 | succ n ih =>
  have e1:=jX ha x n;have c:((n+1:Nat):Rat)=(n:Rat)+1:=by push_cast;rfl
  have e2:psD (upT a 1) x (n+1)=psD (upT a 1) x n+upT a 1 n*dw x n:=rfl
  have e3:x*(upT a 1 n*dw x n)=(n:Rat)*upT a x n:=by
   have d:=dw_mul x n;rw[upT_pw ha x n];have:x*(upT a 1 n*dw x n)=upT a 1 n*(x*dw x n):=by grind
   rw[this,d];grind
  rw[yV,e2,c,e1];have e4:x*(psD (upT a 1) x n+upT a 1 n*dw x n)=x*psD (upT a 1) x n+(n:Rat)*upT a x n:=by rw[<- e3];grind
  rw[e4,ih];grind
theorem uW_null {a x:Rat} (ha:0<a) (hx:0<=x):Null (λ M=>(a+(M:Rat))*upT a x M):=by
 refine ((zHM (zI8 ha hx)).bmul (Bdd.const x)).of_eq_from 1 λ M hM=>?_
 obtain⟨m,rfl⟩:∃ m,M=m+1:=⟨M-1,by omega⟩
 have e:=jX ha x m;have c:((m+1:Nat):Rat)=(m:Rat)+1:=by push_cast;rfl
 rw[c,e];simp only[Nat.add_sub_cancel];grind
theorem ex_dif {p q:Rat} (hp:0<=p) (O2:p<=q):Dif (λ x=>ex (-x)) (λ x M => -ex (-x) M) p q:=by
 have bd:∀ x,p<=x->x<=q->LeA (ex (-x)) 1:=λ x h1 h2 e he=>by
  obtain⟨N1,n1⟩:=zDU (-x);obtain⟨N2,n2⟩:=(zB3 (a := -x) (b:=0) (by grind)) e he
  refine⟨N1+N2+1,λ M hM=>?_⟩
  have a1:=n1 M (by omega)
  have a2:=n2 M (by omega)
  obtain⟨m,rfl⟩:∃ m,M=m+1:=⟨M-1,by omega⟩
  have e0:ex 0 (m+1)=1:=kV m;rw[e0] at a2;exact⟨by grind,a2⟩
 refine Dif.of_small (D:=1/4) (C:=2) (K:=1) O2 (by grind) (by grind) (by grind) (λ x h1 h2=>⟨bd x h1 h2,(bd x h1 h2).neg⟩) (λ x h h1 h2 h3 h4 hD=>?_)
 have l:LeA (λ M=>ex (-h) M-1 - -h) (2*(-h * -h)):=LeA.of_ab 2 λ M hM=>zOV hD.neg hM
 have t:=l.mul (bd x h1 h2);have s:=zBB (-h) (-x);have e : -h + -x = -(x+h):=by grind
 rw[e] at s;refine LeA.congr (t.mono (by grind)) (s.neg.of_eq λ M=>by grind)
def uF (L:Rat->Nat->Rat) (a x:Rat) (M:Nat):Rat:=1/x*(pr L a x M*ex (-x) M)
theorem zUU {L:Rat->Nat->Rat} (hL:Lns L) {a p q:Rat} (ha:0<a) (hp:0<p) (O2:p<=q):Dif (uG L a) (uF L a) p q:=by
 have d1:=zTY hL a hp O2;have d2:=ex_dif (Yw hp) O2;have d3:=(uS_dif ha (show 0<=q by grind)).within (p':=p) (q':=q) (by grind) Rat.le_refl
 have d:=(d1.mul O2 d2).mul O2 d3;refine d.congr λ x h1 h2=>?_
 have x0:0<x:=by grind
 have w:=(uW_null ha (Yw x0)).bmul (((kM hL x0 a).mul (jY (-x))).mul (Bdd.const (1/x)));refine w.of_eq λ M=>?_
 have o:=uS_ode ha x M;have e1:=rdm (a:=1) x0;have e3:a/x=a*(1/x):=by rw[YE,YE,Rat.one_mul]
 unfold uF;rw[e3];generalize 1/x=i at *;generalize pr L a x M=P at *;generalize ex (-x) M=R at *;generalize uS a x M=s at *;generalize psD (upT a 1) x M=D at *;generalize (a+(M:Rat))*upT a x M=W at *;clear w d d1 d2 d3
 have g:D=i*(x*D):=by
  have:i*(x*D)=i*x*D:=by grind
  rw[this,e1];grind
 have g2:a*i-1=i*(a-x):=by
  have:i*(a-x)=a*i-i*x:=by grind
  rw[this,e1]
 have g3:(a*i*P*R+P * -R)*s+P*R*D=P*R*((a*i-1)*s+D):=by grind
 rw[g3,g2]
 have g4:i*(a-x)*s+D=i*((a-x)*s+x*D):=by
  have:i*(a-x)*s+D=i*(a-x)*s+i*(x*D):=by rw[<- g]
  rw[this];grind
 rw[g4,o];grind
theorem uG_small {L:Rat->Nat->Rat} (hL:Lns L) {a:Rat} (ha:0<a) {e:Rat} (he:0<e):∃ p,0<p/\p<=1/4/\LeN (uG L a p) (λ _=>e):=by
 obtain⟨K,k0,hK⟩:=zK4 ha (show (0:Rat)<=1/4 by grind)
 have Kp:0<K+1:=by grind
 obtain⟨n,hn⟩:=null_q2 (e/(K+1)) (zF he Kp);have q:=(hn n (Yy _)).2;obtain⟨p,p0,p1,ps⟩:=zN5 hL ha n;refine⟨p,p0,p1,?_⟩
 have le:LeN (ex (-p)) (λ _=>1):=(zB3 (a := -p) (b:=0) (by grind)).trans (LeN.of_le 1 λ M hM=>by
  obtain⟨m,rfl⟩:∃ m,M=m+1:=⟨M-1,by omega⟩
  have e0:ex 0 (m+1)=1:=kV m
  rw[e0];exact Rat.le_refl)
 have l1:=ps.mul le (jY (-p)) (zDU (-p)) (Bdd.const (q2 n)) (Nn.const (Yw (yD n)))
 have l2:LeN (uS a p) (λ _=>K+1):=LeN.of_le 0 λ M _=>by
  have:=hK M;have:=zUX ha (Yw p0) p1 M;grind
 have l:=l1.mul l2 (zDX ha (Yw p0)) ⟨0,λ M _=>zCJ ha (Yw p0) M⟩ (Bdd.const (q2 n*1)) (Nn.const (by have:=yD n;grind))
 refine l.trans (LeN.of_le 0 λ M _=>?_)
 have m:=Yv q (Yw Kp);rw[rdm Kp] at m;grind
theorem zUS {L:Rat->Nat->Rat} (hL:Lns L) {x:Rat} (hx:0<x) (a s:Rat):Null (λ M=>uF L (a+s) x M-uF L a x M*pr L s x M):=by
 have h:=(zKI hL hx a s).bmul ((jY (-x)).mul (Bdd.const (1/x)));exact h.neg.of_eq λ M=>by unfold uF;grind
theorem zSD {L:Rat->Nat->Rat} (hL:Lns L) {a:Rat} {g:Nat->Rat} (ha:0<a) (h:IsGam L a g) {e:Rat} (he:0<e):∃ x,0<x/\LeN g (λ M=>uG L a x M+e):=by
 obtain⟨K,k0,hK⟩:∃ K,0<=K/\LeN g (λ _=>K):=by
  obtain⟨K,hK⟩:=h.bdd.leA
  exact⟨K,hK.nonneg,λ e he=>by
   obtain⟨N,n⟩:=hK e he
   exact⟨N,λ M hM=>(n M hM).2⟩⟩
 obtain⟨n,hn⟩:=kC (2*K/e);obtain⟨m,hm⟩:=kC a;obtain⟨x,Ff⟩:∃ x:Rat,x=2*(a+1)*((n:Rat)+1)+2:=⟨_,rfl⟩;have n0:=zO0 n;have an:=Ys (show 0<=a+1 by grind) (show (0:Rat)<=(n:Rat)+1 by grind)
 have an2:=Ys (show 0<=a by grind) n0
 have x0:0<x:=by grind
 refine⟨x,x0,?_⟩
 have us:∀ M,1<=M->2*((n:Rat)+1)<=x*uS a x M:=λ M hM=>by
  obtain⟨j,rfl⟩:∃ j,M=j+1:=⟨M-1,by omega⟩
  have f:=zFY ha (Yw x0) j;have d:=rdm (a:=1) ha;have i0:=zF (show (0:Rat)<1 by grind) ha
  have m1:=Yr f (Yw x0);refine Rat.le_trans ?_ m1;refine Rat.le_of_mul_le_mul_right (c:=a) ?_ ha;have:x*(1/a)*a=x*(1/a*a):=by grind
  rw[this,d];grind
 have n1:=(zON hL x0 a).bmul (zDX ha (Yw x0));obtain⟨N2,e2⟩:=zP5 hL x0 a
 have l1:LeN (λ M=>2*((n:Rat)+1)*uE L a x M) (uG L a x):=by
  refine LeN.of_null n1 (1+N2) λ M hM=>?_
  have u0:=e2 M (by omega)
  have m:=Yv (us M (by omega)) u0
  unfold uG;generalize uE L a x M=ue at *;generalize uS a x M=s at *;generalize pr L a x M=p at *;generalize ex (-x) M=y at *;grind
 have l2:=(l1.trans (h.lo x x0)).trans hK;have l3:=h.hi x (by grind) (by grind)
 have d:=rdm (a:=2*K) he
 have small:LeN (λ M=>2*uE L a x M) (λ _=>e):=by
  have ip:0<1/((n:Rat)+1):=zF (by grind) (zA0 n)
  have im:=rdm (a:=1) (zA0 n);refine LeN.trans (LeN.of_le 0 λ M _=>?_) ((l2.cmul (Yw ip)).trans (LeN.of_le 0 λ M _=>?_))
  ·have:1/((n:Rat)+1)*(2*((n:Rat)+1)*uE L a x M)=1/((n:Rat)+1)*((n:Rat)+1)*(2*uE L a x M):=by grind
   rw[this,im];grind
  ·have m1:=Yv hn.2 (Yw he)
   rw[d] at m1;refine Rat.le_of_mul_le_mul_left (c:=(n:Rat)+1) ?_ (zA0 n);have:((n:Rat)+1)*(1/((n:Rat)+1)*K)=1/((n:Rat)+1)*((n:Rat)+1)*K:=by grind
   rw[this,im];grind
 exact l3.trans ((LeN.refl (uG L a x)).add small)
theorem zNI {L:Rat->Nat->Rat} (hL:Lns L) {a:Rat} {g g':Nat->Rat} (ha:0<a) (h:IsGam L a g) (h':IsGam L a g'):Null (λ M=>g M-g' M):=by
 have one:∀ g g':Nat->Rat,IsGam L a g->IsGam L a g'->LeN g g':=λ g g' h h' e he=>by
  obtain⟨x,x0,hx⟩:=zSD hL ha h (show 0<e/2 by grind)
  obtain⟨N1,n1⟩:=hx (e/4) (by grind)
  obtain⟨N2,n2⟩:=h'.lo x x0 (e/4) (by grind)
  exact⟨N1+N2,λ M hM=>by have:=n1 M (by omega);have:=n2 M (by omega);grind⟩
 exact (one g g' h h').eq (one g' g h' h)
theorem zH9 {L:Rat->Nat->Rat} (hL:Lns L) {z s c:Rat} {g k:Nat->Rat} (hz:0<z) (s0:0<=s) (s1:s<=1) (hzc:z<=c) (hg:IsGam L z g) (hk:IsGam L (z+s) k):LeN k (λ M=>pr L s c M*g M):=by
 intro e he
 have c0:0<c:=by grind
 have zs:0<z+s:=by grind
 obtain⟨x,x0,hx⟩:=zSD hL zs hk (show 0<e/8 by grind)
 obtain⟨p,p0,p1,ps⟩:=uG_small hL zs (show 0<e/8 by grind)
 have step:LeN (uG L (z+s) x) (λ M=>pr L s c M*g M+e/4):=by
  by_cases Dh:p<=x
  ·obtain⟨F,hF⟩:∃ F:Rat->Nat->Rat,F=λ x M=>pr L s c M*((1-s)*uG L z x M+s/c*uG L (z+1) x M):=⟨_,rfl⟩
   have dz:=zUU hL hz p0 Dh;have Ih:=zUU hL (show 0<z+1 by grind) p0 Dh
   have dzs:=zUU hL zs p0 Dh;have dc:=Dif.const (pr L s c) (kM hL c0 s) p x;have d:=(dc.mul Dh ((dz.smul (1-s)).add (Ih.smul (s/c)))).sub dzs
   have l:=d.le Dh λ t h1 h2=>by
    have t0:0<t:=by grind
    have b:=bern hL s0 s1 c0 t0;obtain⟨N,hN⟩:Nn (uF L z t):=(Nn.const (jL t0 (by grind))).mul ((zC3 hL t0 z).mul (zDU (-t)))
    have bF:Bdd (uF L z t):=(Bdd.const _).mul ((kM hL t0 z).mul (jY (-t)));have bb:=b.bmul bF ⟨N,hN⟩;have f1:=(zUS hL t0 z 1).bmul ((Bdd.const (s/c)).mul (kM hL c0 s));have f2:=zUS hL t0 z s;have f3:=(zFF hL t0).bmul ((bF.mul (Bdd.const (s/c))).mul (kM hL c0 s));obtain⟨y,hy,ky⟩:=bb.null;refine LeN.of_null ((hy.add f2).sub (f1.add f3)) 0 λ M _=>?_
    have k2:=ky M;have es:s*(t/c)=s/c*t:=by rw[YE,YE];grind
    rw[es] at k2;generalize uF L (z+s) t M=w1 at *;generalize uF L (z+1) t M=w2 at *;generalize uF L z t M=w3 at *;generalize pr L s t M=w4 at *;generalize pr L s c M=w5 at *;generalize pr L 1 t M=w6 at *;generalize s/c=w7 at *;clear b bb f1 f2 f3 hy ky hN bF d dz Ih dzs dc;grind
   have l1:=hg.lo x x0;have l2:=(hg.next hL hz).lo x x0;obtain⟨NN,Cx⟩:=zC3 hL c0 s;obtain⟨N6,n6⟩:=uG_nn hL hz p0;obtain⟨N7,n7⟩:=uG_nn hL (show 0<z+1 by grind) p0
   have sc:=jL (a:=0) (b:=s) c0 (by grind)
   have l3:=(((l1.cmul (show 0<=1-s by grind)).add (l2.cmul sc)).bmul (kM hL c0 s) ⟨NN,Cx⟩)
   obtain⟨gc,XW,N8,n8⟩:=hg.pos
   intro e' QX
   obtain⟨N1,n1⟩:=l (e'/4) (by grind)
   obtain⟨N2,n2⟩:=ps (e'/4) (by grind)
   obtain⟨N3,n3⟩:=l3 (e'/4) (by grind)
   refine⟨N1+N2+N3+NN+N6+N7+N8,λ M hM=>?_⟩
   have a1:=n1 M (by omega)
   have a2:=n2 M (by omega)
   have a3:=n3 M (by omega)
   have a4:=Cx M (by omega)
   have a6:=n6 M (by omega)
   have a7:=n7 M (by omega)
   have a8:=n8 M (by omega)
   dsimp only at a1 a2 a3 ⊢
   have g0:0<=g M:=by grind
   have q1:=Ys a4 (Ys (show 0<=1-s by grind) a6)
   have Ef:=Ys a4 (Ys sc a7)
   have zc:s/c*z<=s:=by
    have:=Yr hzc sc;rw[rdm c0] at this;exact this
   have q3:=Ys a4 (Ys (show 0<=s-s/c*z by grind) g0)
   generalize pr L s c M=w1 at *;generalize uG L z p M=w2 at *;generalize uG L (z+1) p M=w3 at *;generalize uG L (z+s) p M=w4 at *;generalize uG L z x M=w5 at *;generalize uG L (z+1) x M=w6 at *;generalize uG L (z+s) x M=w7 at *;generalize s/c=w8 at *;clear l l1 l2 l3 d dz Ih dzs dc n1 n2 n3 n6 n7 n8 Cx hx ps hk hg hF
   have r1:w1*((1-s)*w5+w8*w6)<=w1*g M+e'/4:=by
    have:((1-s)*g M+w8*(z*g M))*w1=w1*g M-w1*((s-w8*z)*g M):=by grind
    rw[this] at a3;grind
   have r2 : -w4<=w1*((1-s)*w2+w8*w3)-w4:=by grind
   grind
  ·-- x is bw p
   have m:=zI7 hL zs x0 (show x<=p by grind)
   obtain⟨NN,Cx⟩:=zC3 hL c0 s;obtain⟨gc,XW,N8,n8⟩:=hg.pos;refine (m.trans ps).trans (LeN.of_le (NN+N8) λ M hM=>?_)
   have a4:=Cx M (by omega)
   have a8:=n8 M (by omega)
   have:=Ys a4 (show 0<=g M by grind)
   grind
 obtain⟨N1,n1⟩:=hx (e/4) (by grind)
 obtain⟨N2,n2⟩:=step (e/4) (by grind)
 refine⟨N1+N2,λ M hM=>?_⟩
 have a1:=n1 M (by omega)
 have a2:=n2 M (by omega)
 dsimp only at a1 a2 ⊢
 grind
end Go.Proofs.YtgmnknmjainabacGreat.Ex
namespace Go.Proofs.YtgmnknmjainabacGreat.Ex
theorem LeN.congr2 {f g f' g':Nat->Rat} (h:LeN f g) (hf:Null (λ M=>f' M-f M)) (hg:Null (λ M=>g M-g' M)):LeN f' g':=((LeN.of_eqN hf).trans h).trans (LeN.of_eqN hg)
theorem IsGam.nn {L:Rat->Nat->Rat} {a:Rat} {g:Nat->Rat} (h:IsGam L a g):Nn g:=by
 obtain⟨c,c0,N,hc⟩:=h.pos;exact⟨N,λ M hM=>by have:=hc M hM;grind⟩
theorem zMZ {L:Rat->Nat->Rat} (hL:Lns L) {a b:Rat} {ga gab:Nat->Rat} (ha:0<a) (hb:0<b) (h1:IsGam L a ga) (h2:IsGam L (a+b) gab) (n:Nat):∃ R R':Rat,0<R/\0<R'/\IsGam L (a+(n:Rat)) (λ M=>R*ga M)/\IsGam L (a+b+(n:Rat)) (λ M=>R'*gab M)/\Null (λ M=>R'*bJ L (a+(n:Rat)) b M-R*bJ L a b M):=by
 induction n with
 | zero =>
  have c:((0:Nat):Rat)=0:=rfl;have e1:a+((0:Nat):Rat)=a:=by rw[c];grind
  have e2:a+b+((0:Nat):Rat)=a+b:=by rw[c];grind
  have e3:(λ M=>1*ga M)=ga:=by funext M;grind
  have e4:(λ M=>1*gab M)=gab:=by funext M;grind
  rw[e1,e2];exact⟨1,1,by grind,by grind,by rw[e3];exact h1,by rw[e4];exact h2,null_zero.of_eq λ M=>by grind⟩
 | succ n ih =>
  obtain⟨R,R',r0,Ay,i1,i2,i3⟩:=ih;have n0:=zO0 n;have c:((n+1:Nat):Rat)=(n:Rat)+1:=by push_cast;rfl
  have an:0<a+(n:Rat):=by grind
  have abn:0<a+b+(n:Rat):=by grind
  have g1:=i1.next hL an;have g2:=i2.next hL abn;have e1:a+((n+1:Nat):Rat)=a+(n:Rat)+1:=by rw[c];grind
  have e2:a+b+((n+1:Nat):Rat)=a+b+(n:Rat)+1:=by rw[c];grind
  have e3:(λ M=>(a+(n:Rat))*(R*ga M))=λ M=>(a+(n:Rat))*R*ga M:=by funext M;grind
  have e4:(λ M=>(a+b+(n:Rat))*(R'*gab M))=λ M=>(a+b+(n:Rat))*R'*gab M:=by funext M;grind
  rw[e3] at g1;rw[e4] at g2;have nx:=zLK hL an hb;rw[e1,e2];refine⟨_,_,Rat.mul_pos an r0,Rat.mul_pos abn Ay,g1,g2,?_⟩;refine ((nx.bmul (Bdd.const R')).add (i3.bmul (Bdd.const (a+(n:Rat))))).of_eq λ M=>by grind
theorem zTK {L:Rat->Nat->Rat} (hL:Lns L):∃ g,IsGam L 1 g/\Null (λ M=>g M-1):=by
 obtain⟨g,hg⟩:=zH8 hL (show (0:Rat)<1 by grind) Rat.le_refl
 exact⟨g,hg.isGam hL (by grind),gam_one hL hg⟩
theorem zQ0 {L:Rat->Nat->Rat} (hL:Lns L) {a b:Rat} {ga gb gab:Nat->Rat} (ha:0<a) (Z8:a<=1) (hb:0<b) (h1:IsGam L a ga) (h2:IsGam L b gb) (h3:IsGam L (a+b) gab) (hJ:Null (λ M=>b*bJ L 1 b M-1)) (n:Nat) :
  LeN (λ M=>((n:Rat)+1)*(bJ L a b M*gab M)) (λ M=>((n:Rat)+1+(a+b+1))*(ga M*gb M))/\LeN (λ M=>((n:Rat)+1)*(ga M*gb M)) (λ M=>((n:Rat)+1+(a+b+1))*(bJ L a b M*gab M)):=by
 have n0:=zO0 n;have cN:((n+1:Nat):Rat)=(n:Rat)+1:=by push_cast;rfl
 obtain⟨g1,FM,n1⟩:=zTK hL;obtain⟨R,R',r0,Ay,i1,i2,i3⟩:=zMZ hL ha hb h1 h3 (n+1);have b9:=h2.next hL hb;have eb:b+1=1+b:=by grind
 rw[eb] at b9;obtain⟨T,T',t0,t0',j1,j2,j3⟩:=zMZ hL (show (0:Rat)<1 by grind) hb FM b9 n
 rw[cN] at i1 i2 i3;obtain⟨N,eN⟩:∃ N:Rat,N=(n:Rat)+1:=⟨_,rfl⟩;have WJ:(1:Rat)+(n:Rat)=N:=by grind
 have Ii:(1:Rat)+b+(n:Rat)=N+b:=by grind
 rw[WJ] at j1 j3;rw[Ii] at j2;rw[<- eN] at i1 i2 i3;have N0:0<N:=by grind
 have ea:a+N=N+a:=by grind
 have eab:a+b+N=N+b+a:=by grind
 rw[ea] at i1 i3;rw[eab] at i2;obtain⟨c,ec⟩:∃ c:Rat,c=N+(a+b+1):=⟨_,rfl⟩;have c0:0<c:=by grind
 have a0:=Yw ha;have p1:=zH9 hL (z:=N+b) (s:=a) (c:=c) (by grind) a0 Z8 (by grind) j2 i2
 have jn:=j1.next hL N0
 have p2:=zH9 hL (z:=N+a) (s:=1-a) (c:=c) (by grind) (by grind) (by grind) (by grind) i1 (by
  have e:N+a+(1-a)=N+1:=by grind
  rw[e];exact jn)
 have jb:=j2.next hL (show 0<N+b by grind)
 have p3:=zH9 hL (z:=N+b+a) (s:=1-a) (c:=c) (by grind) (by grind) (by grind) (by grind) i2 (by
  have e:N+b+a+(1-a)=N+b+1:=by grind
  rw[e];exact jb)
 have p4:=zH9 hL (z:=N) (s:=a) (c:=c) N0 a0 Z8 (by grind) j1 i1
 have q1:=zQZ hL (a:=N) (a':=N+a) N0 hb (by grind)
 have Ef:=zQZ hL (a:=N+a) (a':=N+1) (by grind) hb (by grind)
 have q3:=zLK hL N0 hb;have w:=zKI hL c0 a (1-a);have ew:a+(1-a)=1:=by grind
 rw[ew] at w;have w1:=w.add (zFF hL c0);have bW:=kM hL c0 a;have nW:=zC3 hL c0 a;have bV:=kM hL c0 (1-a);have nV:=zC3 hL c0 (1-a);have bJN:=zG3 hL N0 hb;have bJa:=zG3 hL (show 0<N+a by grind) hb
 have Wm:=zG3 hL ha hb;have nJN:=bJ_nn hL N0 hb;have nJa:=bJ_nn hL (show 0<N+a by grind) hb
 have nR:Nn (λ M=>R'*gab M):=(Nn.const (Yw Ay)).mul h3.nn
 have bR:Bdd (λ M=>R'*gab M):=(Bdd.const R').mul h3.bdd
 have bga:=h1.bdd;have bgb:=h2.bdd;have bgab:=h3.bdd;have bg1:=FM.bdd;have b1:=zG3 hL (show (0:Rat)<1 by grind) hb
 rw[<- eN,<- ec];constructor
 ·-- J(N+a) R' gab <= J(N) W T' b gb
  have l1:=q1.mul p1 bR nR bJN nJN
  have l2:LeN (λ M=>R*(bJ L a b M*gab M)) (λ M=>T*(pr L a c M*gb M)):=by
   refine l1.congr2 ((i3.bmul bgab).neg.of_eq λ M=>?_) (((j3.bmul ((bW.mul (Bdd.const b)).mul bgb)).add (hJ.bmul ((Bdd.const T).mul (bW.mul bgb)))).of_eq λ M=>?_)
   ·grind
   ·grind
  have l3:=p2.bmul (bW.mul bgb) (nW.mul h2.nn)
  have l4:LeN (λ M=>N*(T*(pr L a c M*gb M))) (λ M=>c*(R*(ga M*gb M))):=by
   refine l3.congr2 ((n1.bmul ((Bdd.const (N*T)).mul (bW.mul bgb))).neg.of_eq λ M=>?_) ((w1.bmul ((Bdd.const R).mul (bga.mul bgb))).of_eq λ M=>?_)
   ·grind
   ·grind
  have l5:=(l2.cmul (Yw N0)).trans l4;have ir:=zF (show (0:Rat)<1 by grind) r0
  have im:=rdm (a:=1) r0;refine LeN.trans (LeN.of_le 0 λ M _=>?_) ((l5.cmul (Yw ir)).trans (LeN.of_le 0 λ M _=>?_))
  ·have:1/R*(N*(R*(bJ L a b M*gab M)))=1/R*R*(N*(bJ L a b M*gab M)):=by grind
   rw[this,im];grind
  ·have:1/R*(c*(R*(ga M*gb M)))=1/R*R*(c*(ga M*gb M)):=by grind
   rw[this,im];grind
 ·-- J(N+1) (N+b) T' b gb <= J(N+a) V R' gab
  have nB:Nn (λ M=>(N+b)*(T'*(b*gb M))):=(Nn.const (show 0<=N+b by grind)).mul ((Nn.const (Yw t0')).mul ((Nn.const (Yw hb)).mul h2.nn))
  have bB:Bdd (λ M=>(N+b)*(T'*(b*gb M))):=(Bdd.const (N+b)).mul ((Bdd.const T').mul ((Bdd.const b).mul bgb))
  have l1:=Ef.mul p3 bB nB bJa nJa
  have l2:LeN (λ M=>N*(T*gb M)) (λ M=>pr L (1-a) c M*(R*(bJ L a b M*gab M))):=by
   refine l1.congr2 ((((q3.bmul ((Bdd.const (T'*b)).mul bgb)).add (j3.bmul ((Bdd.const (N*b)).mul bgb))).add (hJ.bmul ((Bdd.const (N*T)).mul bgb))).neg.of_eq λ M=>?_) ((i3.bmul (bV.mul bgab)).of_eq λ M=>?_)
   ·grind
   ·grind
  have l3:=p4.bmul ((Bdd.const N).mul bgb) ((Nn.const (Yw N0)).mul h2.nn);have l4:=l2.bmul bW nW
  have l5:LeN (λ M=>N*(R*(ga M*gb M))) (λ M=>N*(T*gb M)*pr L a c M):=by
   refine l3.congr2 (null_zero.of_eq λ M=>?_) ((n1.bmul ((Bdd.const (N*T)).mul (bW.mul bgb))).of_eq λ M=>?_)
   ·grind
   ·grind
  have l6:LeN (λ M=>N*(R*(ga M*gb M))) (λ M=>c*(R*(bJ L a b M*gab M))):=by
   refine (l5.trans l4).trans (LeN.of_eqN ((w1.bmul ((Bdd.const R).mul (Wm.mul bgab))).of_eq λ M=>?_))
   grind
  have ir:=zF (show (0:Rat)<1 by grind) r0
  have im:=rdm (a:=1) r0;refine LeN.trans (LeN.of_le 0 λ M _=>?_) ((l6.cmul (Yw ir)).trans (LeN.of_le 0 λ M _=>?_))
  ·have:1/R*(N*(R*(ga M*gb M)))=1/R*R*(N*(ga M*gb M)):=by grind
   rw[this,im];grind
  ·have:1/R*(c*(R*(bJ L a b M*gab M)))=1/R*R*(c*(bJ L a b M*gab M)):=by grind
   rw[this,im];grind
theorem zNO {P W:Nat->Rat} {C:Rat} (hC:0<=C) (bP:Bdd W) (h:∀ n:Nat,LeN (λ M=>((n:Rat)+1)*P M) (λ M=>((n:Rat)+1+C)*W M)):LeN P W:=by
 obtain⟨K,hK⟩:=bP.leA;have k0:=hK.nonneg;obtain⟨N0,tF⟩:=hK 1 (by grind)
 refine LeN.lim (C:=C*(K+1)) (Ys hC (by grind)) λ n=>?_
 have ip:=zF (show (0:Rat)<1 by grind) (zA0 n)
 have im:=rdm (a:=1) (zA0 n);refine LeN.trans (LeN.of_le 0 λ M _=>?_) (((h n).cmul (Yw ip)).trans (LeN.of_le N0 λ M hM=>?_))
 ·have:1/((n:Rat)+1)*(((n:Rat)+1)*P M)=1/((n:Rat)+1)*((n:Rat)+1)*P M:=by grind
  rw[this,im];grind
 ·have b:=(tF M hM).2
  have m:=Yr b (Ys (Yw ip) hC);have:1/((n:Rat)+1)*(((n:Rat)+1+C)*W M)=1/((n:Rat)+1)*((n:Rat)+1)*W M+1/((n:Rat)+1)*C*W M:=by grind
  rw[this,im];grind
theorem zQ2 {L:Rat->Nat->Rat} (hL:Lns L) {a b:Rat} {ga gb gab:Nat->Rat} (ha:0<a) (Z8:a<=1) (hb:0<b) (h1:IsGam L a ga) (h2:IsGam L b gb) (h3:IsGam L (a+b) gab) (hJ:Null (λ M=>b*bJ L 1 b M-1)):Null (λ M=>bJ L a b M*gab M-ga M*gb M):=by
 have c0:0<=a+b+1:=by grind
 refine (zNO c0 (h1.bdd.mul h2.bdd) λ n=>(zQ0 hL ha Z8 hb h1 h2 h3 hJ n).1).eq (zNO c0 ((zG3 hL ha hb).mul h3.bdd) λ n=>(zQ0 hL ha Z8 hb h1 h2 h3 hJ n).2)
theorem zSC {L:Rat->Nat->Rat} (hL:Lns L) (n:Nat):∀ a:Rat,0<a->a<=(n:Rat)+1->∃ g,IsGam L a g:=by
 induction n with
 | zero =>
  intro a ha h
  have c:((0:Nat):Rat)=0:=rfl;rw[c] at h;obtain⟨g,hg⟩:=zH8 hL ha (by grind)
  exact⟨g,hg.isGam hL ha⟩
 | succ n ih =>
  intro a ha h
  have c:((n+1:Nat):Rat)=(n:Rat)+1:=by push_cast;rfl
  rw[c] at h
  by_cases h1:a<=1
  ·obtain⟨g,hg⟩:=zH8 hL ha h1
   exact⟨g,hg.isGam hL ha⟩
  ·obtain⟨g,hg⟩:=ih (a-1) (by grind) (by grind)
   have:=hg.next hL (show 0<a-1 by grind)
   have e:a-1+1=a:=by grind
   rw[e] at this;exact⟨_,this⟩
theorem bJ_all {L:Rat->Nat->Rat} (hL:Lns L) {b:Rat} {gb:Nat->Rat} (hb:0<b) (h2:IsGam L b gb) (hJ:Null (λ M=>b*bJ L 1 b M-1)) (n:Nat):∀ (a:Rat) (ga gab:Nat->Rat),0<a->a<=(n:Rat)+1->IsGam L a ga->IsGam L (a+b) gab->Null (λ M=>bJ L a b M*gab M-ga M*gb M):=by
 induction n with
 | zero =>
  intro a ga gab ha h h1 h3
  have c:((0:Nat):Rat)=0:=rfl;rw[c] at h;exact zQ2 hL ha (by grind) hb h1 h2 h3 hJ
 | succ n ih =>
  intro a ga gab ha h h1 h3
  have c:((n+1:Nat):Rat)=(n:Rat)+1:=by push_cast;rfl
  rw[c] at h
  by_cases hle:a<=1
  ·exact zQ2 hL ha hle hb h1 h2 h3 hJ
  ·have a1:0<a-1:=by grind
   obtain⟨g,hg⟩:=zSC hL n (a-1) a1 (by grind)
   obtain⟨m,hm⟩:=kC (a-1+b);obtain⟨k,hk⟩:=zSC hL m (a-1+b) (by grind) (by have:=hm.2;grind)
   have i:=ih (a-1) g k a1 (by grind) hg hk
   have e1:a-1+1=a:=by grind
   have e2:a-1+b+1=a+b:=by grind
   have qL:=hg.next hL a1;have ae:=hk.next hL (show 0<a-1+b by grind)
   rw[e1] at qL;rw[e2] at ae;have u1:=zNI hL ha h1 qL;have u2:=zNI hL (show 0<a+b by grind) h3 ae
   have nx:=zLK hL a1 hb;rw[e1] at nx;refine ((((i.bmul (Bdd.const (a-1))).add (nx.bmul hk.bdd)).add (u2.bmul (zG3 hL ha hb))).sub (u1.bmul h2.bdd)).of_eq λ M=>?_
   grind
theorem bJ_one {L:Rat->Nat->Rat} (hL:Lns L) {b:Rat} (hb:0<b):Null (λ M=>b*bJ L 1 b M-1):=by
 obtain⟨g1,FM,n1⟩:=zTK hL;obtain⟨m,hm⟩:=kC b;obtain⟨g,hg⟩:=zSC hL m b hb (by have:=hm.2;grind)
 have j1:Null (λ M=>1*bJ L 1 1 M-1):=(bJ_11 hL).of_eq λ M=>by grind
 have k:=bJ_all hL (show (0:Rat)<1 by grind) FM j1 m b g (λ M=>b*g M) hb (by have:=hm.2;grind) hg (hg.next hL hb)
 have h:=(k.add (n1.bmul hg.bdd))
 have p:Null (λ M=>g M*(b*bJ L 1 b M)-g M):=h.of_eq λ M=>by
  rw[zQ1 L 1 b M];grind
 obtain⟨c,c0,N,hc⟩:=hg.pos
 intro e he
 obtain⟨N2,n2⟩:=p (c*e) (Rat.mul_pos c0 he);refine⟨N+N2,λ M hM=>?_⟩
 have a1:=n2 M (by omega)
 have a2:=hc M (by omega)
 dsimp only at a1
 show AB (b*bJ L 1 b M-1) e
 clear p h k j1 n1;generalize b*bJ L 1 b M=w at *;have e1:g M*w-g M=g M*(w-1):=by grind
 rw[e1] at a1;have m:=Yv a2 (Yw he);have g0:0<g M:=by grind
 exact⟨Rat.le_of_mul_le_mul_left (c:=g M) (by have:=a1.1;grind) g0,Rat.le_of_mul_le_mul_left (c:=g M) (by have:=a1.2;grind) g0⟩
theorem zOY {L:Rat->Nat->Rat} (hL:Lns L) {a b:Rat} {ga gb gab:Nat->Rat} (ha:0<a) (hb:0<b) (h1:IsGam L a ga) (h2:IsGam L b gb) (h3:IsGam L (a+b) gab):Null (λ M=>bJ L a b M*gab M-ga M*gb M):=by
 obtain⟨m,hm⟩:=kC a;exact bJ_all hL hb h2 (bJ_one hL hb) m a ga gab ha (by have:=hm.2;grind) h1 h3
end Go.Proofs.YtgmnknmjainabacGreat.Ex
