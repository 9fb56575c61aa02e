/-
  Its own texts.
-/
import Derived.Test.YtgmnknmjainabacGreatK06
set_option maxRecDepth 100000
set_option maxHeartbeats 40000000
set_option linter.unusedVariables false
namespace Go.Proofs.YtgmnknmjainabacGreat.Ex
def Null (f:Nat->Rat):Prop:=∀ e:Rat,0<e->∃ N:Nat,∀ M,N<=M->AB (f M) e
def Has (a b:Rat) (x:Nat->Rat):Prop:=∀ e:Rat,0<e->∃ N:Nat,∀ M,N<=M->a-e<=x M/\x M<=b+e
def Bdd (f:Nat->Rat):Prop:=∃ K N,0<=K/\∀ M:Nat,N<=M->AB (f M) K
theorem AB.sub {s t a b:Rat} (h:AB s a) (k:AB t b):AB (s-t) (a+b):=by
 obtain⟨h1,h2⟩:=h;obtain⟨k1,k2⟩:=k;constructor<;>grind
theorem AB.zero {b:Rat} (h:0<=b):AB 0 b:=by constructor<;>grind
theorem rdm {a b:Rat} (h:0<b):a/b*b=a:=Rat.div_mul_cancel (by grind)
theorem zF {a b:Rat} (ha:0<a) (hb:0<b):0<a/b:=by
 refine Rat.not_le.1 λ hn=>?_
 have h1:=Ys (show 0 <= -(a/b) by grind) (Yw hb)
 have h2:=rdm (a:=a) hb;generalize a/b=q at *;grind
theorem null_zero:Null (λ _=>0):=λ e he=>⟨0,λ M _=>AB.zero (Yw he)⟩
theorem Null.add {f g:Nat->Rat} (h:Null f) (k:Null g):Null (λ M=>f M+g M):=λ e he=>by
 obtain⟨N1,h1⟩:=h (e/2) (by grind)
 obtain⟨N2,h2⟩:=k (e/2) (by grind)
 exact⟨N1+N2,λ M hM=>((h1 M (by omega)).add (h2 M (by omega))).mono (by grind)⟩
theorem Null.neg {f:Nat->Rat} (h:Null f):Null (λ M => -f M):=λ e he=>by
 obtain⟨N1,h1⟩:=h e he;exact⟨N1,λ M hM=>(h1 M hM).neg⟩
theorem Null.sub {f g:Nat->Rat} (h:Null f) (k:Null g):Null (λ M=>f M-g M):=λ e he=>by
 obtain⟨N1,h1⟩:=h (e/2) (by grind)
 obtain⟨N2,h2⟩:=k (e/2) (by grind)
 exact⟨N1+N2,λ M hM=>((h1 M (by omega)).sub (h2 M (by omega))).mono (by grind)⟩
theorem Null.bmul {f g:Nat->Rat} (h:Null f) (k:Bdd g):Null (λ M=>f M*g M):=λ e he=>by
 obtain⟨K,N2,k0,h2⟩:=k;have hp:0<K+1:=by grind
 have h3:=rdm (a:=e) hp;have h4:=zF he hp;obtain⟨N1,h1⟩:=h (e/(K+1)) h4;generalize e/(K+1)=q at *;refine⟨N1+N2,λ M hM=>((h1 M (by omega)).mul (h2 M (by omega))).mono ?_⟩
 grind
theorem Null.of_eq {f g:Nat->Rat} (h:Null f) (e:∀ M,g M=f M):Null g:=by
 have:g=f:=funext e;rw[this];exact h
theorem Null.of_eq_from {f g:Nat->Rat} (h:Null f) (N:Nat) (e:∀ M,N<=M->g M=f M):Null g:=λ d hd=>by
 obtain⟨N1,h1⟩:=h d hd;exact⟨N+N1,λ M hM=>by rw[e M (by omega)];exact h1 M (by omega)⟩
theorem Null.of_le {f g:Nat->Rat} (h:Null f) (N:Nat) (e:∀ M,N<=M->AB (g M) (f M)):Null g:=λ d hd=>by
 obtain⟨N1,h1⟩:=h d hd;exact⟨N+N1,λ M hM=>(e M (by omega)).mono (h1 M (by omega)).2⟩
theorem Null.bdd {f:Nat->Rat} (h:Null f):Bdd f:=by
 obtain⟨N,h1⟩:=h 1 (by grind)
 exact⟨1,N,by grind,h1⟩
theorem zB5 (K:Rat) (k0:0<=K):Null (λ M=>K*((M:Rat)*q4 M)):=λ e he=>by
 obtain⟨n,iA,aT⟩:=kC (K/e);refine⟨n+1,λ M hM=>?_⟩
 have Yn:(0:Rat)<=(M:Rat):=by exact_mod_cast Nat.zero_le M
 have hMn:(n:Rat)<=(M:Rat):=by exact_mod_cast (show n<=M by omega)
 have u:=nat_q4 M;have q:=near_bd M;have e1:K/e*e=K:=by grind
 have s1:=Ys (show 0<=(M:Rat)-K/e by grind) (Yw he)
 have s2:=Ys (show 0<=(M:Rat)*e-K by grind) q
 have s3:=Ys (Yw he) (show 0<=1-(M:Rat)*((M:Rat)+1)*q4 M by grind)
 have s4:=Ys (Yw he) q;have s5:=Ys k0 q;constructor<;>grind
theorem Bdd.add {f g:Nat->Rat} (h:Bdd f) (k:Bdd g):Bdd (λ M=>f M+g M):=by
 obtain⟨K,N,k0,h⟩:=h;obtain⟨L,N',l0,k⟩:=k;exact⟨K+L,N+N',by grind,λ M hM=>(h M (by omega)).add (k M (by omega))⟩
theorem Bdd.neg {f:Nat->Rat} (h:Bdd f):Bdd (λ M => -f M):=by
 obtain⟨K,N,k0,h⟩:=h;exact⟨K,N,k0,λ M hM=>(h M hM).neg⟩
theorem Bdd.sub {f g:Nat->Rat} (h:Bdd f) (k:Bdd g):Bdd (λ M=>f M-g M):=by
 obtain⟨K,N,k0,h⟩:=h;obtain⟨L,N',l0,k⟩:=k;exact⟨K+L,N+N',by grind,λ M hM=>(h M (by omega)).sub (k M (by omega))⟩
theorem Bdd.mul {f g:Nat->Rat} (h:Bdd f) (k:Bdd g):Bdd (λ M=>f M*g M):=by
 obtain⟨K,N,k0,h⟩:=h;obtain⟨L,N',l0,k⟩:=k;exact⟨K*L,N+N',Ys k0 l0,λ M hM=>(h M (by omega)).mul (k M (by omega))⟩
theorem Bdd.const (c:Rat):Bdd (λ _=>c):=by
 obtain⟨b,hb⟩:=AB.self c;exact⟨b,0,hb.nonneg,λ _ _=>hb⟩
theorem Bdd.of_le {f:Nat->Rat} (K:Rat) (N:Nat) (h:∀ M,N<=M->AB (f M) K):Bdd f:=⟨K,N,(h N (Yy _)).nonneg,h⟩
theorem Has.le {a b:Rat} {x:Nat->Rat} (h:Has a b x):a<=b:=by
 refine Rat.not_lt.1 λ hn=>?_
 obtain⟨N,h1⟩:=h ((a-b)/4) (by grind)
 have:=h1 N (Yy _);grind
theorem Has.touch {a b c d:Rat} {x:Nat->Rat} (h:Has a b x) (k:Has c d x):a<=d:=by
 refine Rat.not_lt.1 λ hn=>?_
 obtain⟨N,h1⟩:=h ((a-d)/4) (by grind)
 obtain⟨N',h2⟩:=k ((a-d)/4) (by grind)
 have:=h1 (N+N') (by omega)
 have:=h2 (N+N') (by omega)
 grind
theorem Has.touch_le {a b c d:Rat} {x y z:Nat->Rat} (h:Has a b x) (k:Has c d y) (hz:Null z) (N0:Nat) (K6:∀ M,N0<=M->x M<=y M+z M):a<=d:=by
 refine Rat.not_lt.1 λ hn=>?_
 obtain⟨N,h1⟩:=h ((a-d)/4) (by grind)
 obtain⟨N',h2⟩:=k ((a-d)/4) (by grind)
 obtain⟨N2,h3⟩:=hz ((a-d)/4) (by grind)
 have:=h1 (N+N'+N0+N2) (by omega)
 have:=h2 (N+N'+N0+N2) (by omega)
 have:=K6 (N+N'+N0+N2) (by omega)
 have:=(h3 (N+N'+N0+N2) (by omega)).2
 grind
theorem Has.mono {a b a' b':Rat} {x:Nat->Rat} (h:Has a b x) (h1:a'<=a) (h2:b<=b'):Has a' b' x:=λ e he=>by
 obtain⟨N,h⟩:=h e he;exact⟨N,λ M hM=>by have:=h M hM;constructor<;>grind⟩
theorem Has.congr {a b:Rat} {x y:Nat->Rat} (h:Has a b x) (k:Null (λ M=>y M-x M)):Has a b y:=λ e he=>by
 obtain⟨N,h⟩:=h (e/2) (by grind)
 obtain⟨N',k⟩:=k (e/2) (by grind)
 refine⟨N+N',λ M hM=>?_⟩
 have:=h M (by omega)
 obtain⟨k1,k2⟩:=k M (by omega)
 constructor<;>grind
theorem Has.bdd {a b:Rat} {x:Nat->Rat} (h:Has a b x):Bdd x:=by
 obtain⟨N,h1⟩:=h 1 (by grind)
 obtain⟨p,hp⟩:=AB.self a;obtain⟨q,hq⟩:=AB.self b;have:=hp.nonneg;have:=hq.nonneg;refine⟨p+q+1,N,by grind,λ M hM=>?_⟩
 have:=h1 M hM;obtain⟨_,_⟩:=hp;obtain⟨_,_⟩:=hq;constructor<;>grind
theorem Has.const {a b c:Rat} (h1:a<=c) (h2:c<=b):Has a b (λ _=>c):=λ e he=>⟨0,λ M _=>by constructor<;>grind⟩
theorem Has.of_from {a b:Rat} {x:Nat->Rat} (N:Nat) (h:∀ M,N<=M->a<=x M/\x M<=b):Has a b x:=λ e he=>⟨N,λ M hM=>by have:=h M hM;constructor<;>grind⟩
theorem Has.add {a b c d:Rat} {x y:Nat->Rat} (h:Has a b x) (k:Has c d y):Has (a+c) (b+d) (λ M=>x M+y M):=λ e he=>by
 obtain⟨N,h⟩:=h (e/2) (by grind)
 obtain⟨N',k⟩:=k (e/2) (by grind)
 refine⟨N+N',λ M hM=>?_⟩
 have:=h M (by omega)
 have:=k M (by omega)
 constructor<;>grind
theorem Has.sub {a b c d:Rat} {x y:Nat->Rat} (h:Has a b x) (k:Has c d y):Has (a-d) (b-c) (λ M=>x M-y M):=λ e he=>by
 obtain⟨N,h⟩:=h (e/2) (by grind)
 obtain⟨N',k⟩:=k (e/2) (by grind)
 refine⟨N+N',λ M hM=>?_⟩
 have:=h M (by omega)
 have:=k M (by omega)
 constructor<;>grind
theorem clamp {a b x e:Rat} (iP:a<=b) (he:0<=e) (h1:a-e<=x) (h2:x<=b+e):∃ x0,a<=x0/\x0<=b/\AB (x-x0) e:=by
 by_cases h:x<a
 ·exact⟨a,by grind,iP,by constructor<;>grind⟩
 ·by_cases h':b<x
  ·exact⟨b,iP,by grind,by constructor<;>grind⟩
  ·exact⟨x,by grind,by grind,by constructor<;>grind⟩
theorem corner {a b c d L U x y:Rat} (dO:a<=x) (bh:x<=b) (gI:c<=y) (RD:y<=d)
  (l1:L<=a*c) (l2:L<=a*d) (l3:L<=b*c) (l4:L<=b*d) (u1:a*c<=U) (u2:a*d<=U) (u3:b*c<=U) (u4:b*d<=U):L<=x*y/\x*y<=U:=by
 have p1:=Ys (show 0<=x-a by grind) (show 0<=y-c by grind)
 have p2:=Ys (show 0<=x-a by grind) (show 0<=d-y by grind)
 have p3:=Ys (show 0<=b-x by grind) (show 0<=y-c by grind)
 have p4:=Ys (show 0<=b-x by grind) (show 0<=d-y by grind)
 rcases Rat.le_total (a:=0) (b:=y) with hy|hy
 ·have g1:=Ys (show 0<=x-a by grind) hy
  have g2:=Ys (show 0<=b-x by grind) hy
  rcases Rat.le_total (a:=0) (b:=a) with ha|ha
  ·have:=Ys ha (show 0<=y-c by grind)
   rcases Rat.le_total (a:=0) (b:=b) with hb|hb
   ·have:=Ys hb (show 0<=d-y by grind);constructor<;>grind
   ·have:=Ys (show 0 <= -b by grind) (show 0<=y-c by grind);constructor<;>grind
  ·have:=Ys (show 0 <= -a by grind) (show 0<=d-y by grind)
   rcases Rat.le_total (a:=0) (b:=b) with hb|hb
   ·have:=Ys hb (show 0<=d-y by grind);constructor<;>grind
   ·have:=Ys (show 0 <= -b by grind) (show 0<=y-c by grind);constructor<;>grind
 ·have g1:=Ys (show 0<=x-a by grind) (show 0 <= -y by grind)
  have g2:=Ys (show 0<=b-x by grind) (show 0 <= -y by grind)
  rcases Rat.le_total (a:=0) (b:=a) with ha|ha
  ·have:=Ys ha (show 0<=d-y by grind)
   rcases Rat.le_total (a:=0) (b:=b) with hb|hb
   ·have:=Ys hb (show 0<=y-c by grind);constructor<;>grind
   ·have:=Ys (show 0 <= -b by grind) (show 0<=d-y by grind);constructor<;>grind
  ·have:=Ys (show 0 <= -a by grind) (show 0<=y-c by grind)
   rcases Rat.le_total (a:=0) (b:=b) with hb|hb
   ·have:=Ys hb (show 0<=y-c by grind);constructor<;>grind
   ·have:=Ys (show 0 <= -b by grind) (show 0<=d-y by grind);constructor<;>grind
theorem AB.between {c d y p q:Rat} (hp:AB c p) (hq:AB d q) (h1:c<=y) (h2:y<=d):AB y (p+q):=by
 have:=hp.nonneg;have:=hq.nonneg;obtain⟨_,_⟩:=hp;obtain⟨_,_⟩:=hq;constructor<;>grind
theorem Has.mul {a b c d L U:Rat} {x y:Nat->Rat} (h:Has a b x) (k:Has c d y)
  (l1:L<=a*c) (l2:L<=a*d) (l3:L<=b*c) (l4:L<=b*d) (u1:a*c<=U) (u2:a*d<=U) (u3:b*c<=U) (u4:b*d<=U):Has L U (λ M=>x M*y M):=λ e he=>by
 obtain⟨R,N0,r0,hR⟩:=h.bdd;obtain⟨p,og⟩:=AB.self c;obtain⟨q,dN⟩:=AB.self d;have p0:=og.nonneg;have q0:=dN.nonneg;have hp:0<R+(p+q)+1:=by grind
 have hd:=zF he hp;have iP:=h.le;have hcd:=k.le;obtain⟨N,h⟩:=h _ hd;obtain⟨N',k⟩:=k _ hd;refine⟨N+N'+N0,λ M hM=>?_⟩
 have h1:=h M (by omega)
 have k1:=k M (by omega)
 have hr:=hR M (by omega)
 have hδ:=rdm (a:=e) hp;generalize e/(R+(p+q)+1)=δ at *;obtain⟨x0,a1,a2,a3⟩:=clamp iP (Yw hd) h1.1 h1.2;obtain⟨y0,b1,b2,b3⟩:=clamp hcd (Yw hd) k1.1 k1.2;have hc:=corner a1 a2 b1 b2 l1 l2 l3 l4 u1 u2 u3 u4;have g:=(hr.mul b3).add (a3.mul (AB.between og dN b1 b2));have e1:x M*(y M-y0)+(x M-x0)*y0=x M*y M-x0*y0:=by grind
 rw[e1] at g;obtain⟨g1,g2⟩:=g
 show L-e<=x M*y M/\x M*y M<=U+e
 generalize x M*y M=X at *;generalize x0*y0=Y at *;constructor<;>grind
theorem Has.scale {a b c:Rat} {x:Nat->Rat} (h:Has a b x) (hc:0<=c):Has (c*a) (c*b) (λ M=>c*x M):=by
 have iP:=h.le;have:=Ys hc (show 0<=b-a by grind)
 exact Has.mul (Has.const (Rat.le_refl) (Rat.le_refl) (c:=c)) h (by grind) (by grind) (by grind) (by grind) (by grind) (by grind) (by grind) (by grind)
theorem Has.of_eq {a b:Rat} {x y:Nat->Rat} (h:Has a b x) (e:∀ M,y M=x M):Has a b y:=by
 have:y=x:=funext e;rw[this];exact h
end Go.Proofs.YtgmnknmjainabacGreat.Ex
namespace Go.Proofs.YtgmnknmjainabacGreat.Ex
theorem tm_AB {x R:Rat} (h:AB x R) (n:Nat):AB (tm x n) (tm R n):=by
 induction n with
 | zero=>simp only[tm];constructor<;>grind
 | succ n ih =>
  have hp:=zA0 n;have g:=ih.mul h;have e1:=kU x n;have e2:=kU R n;have e3:tm x n*x=((n:Rat)+1)*tm x (n+1):=by grind
  have e4:tm R n*R=((n:Rat)+1)*tm R (n+1):=by grind
  rw[e3,e4] at g;obtain⟨g1,g2⟩:=g;generalize (n:Rat)+1=m at *;constructor
  ·refine Rat.not_lt.1 λ hn=>?_
   have:=Rat.mul_pos hp (show 0 < -tm R (n+1)-tm x (n+1) by grind)
   grind
  ·refine Rat.not_lt.1 λ hn=>?_
   have:=Rat.mul_pos hp (show 0<tm x (n+1)-tm R (n+1) by grind)
   grind
theorem zMJ (R:Rat):∃ K,0<=K/\∀ x,AB x R->∀ i,AB (tm x i) (K*q4 i):=by
 obtain⟨K,k0,h⟩:=zP3 R;exact⟨K,k0,λ x hx i=>(tm_AB hx i).mono (h i).2⟩
theorem zMS (R:Rat):∃ K,0<=K/\∀ M x y,AB x R->AB y R->AB (E x M*E y M-E (x+y) M) (K*((M:Rat)*q4 M)):=by
 obtain⟨K,k0,h⟩:=zMJ R;refine⟨2*K*K,?_,λ M x y hx hy=>(E_mul x y K K (h x hx) (h y hy) M).mono (by grind)⟩
 have:=Ys k0 k0;grind
theorem zDY (R:Rat):∃ K,0<=K/\∀ M x,AB x R->AB (E x M) K:=by
 obtain⟨K,k0,h⟩:=zMJ R;refine⟨2*K,by grind,λ M x hx=>?_⟩
 have:=E_sub x K (h x hx) 0 M;have e:E x 0=0:=rfl;rw[Nat.zero_add,e] at this;have e1:E x M-0=E x M:=by grind
 rw[e1] at this;refine this.mono ?_;have:=yE M;have:=Ys k0 (Yw this);simp only[q4];grind
theorem tm_zero (n:Nat):tm 0 (n+1)=0:=by
 have:=kU 0 n;have hp:=zA0 n;have h5:((n:Rat)+1)*tm 0 (n+1)=0:=by grind
 rcases Rat.mul_eq_zero.1 h5 with h6|h6
 ·grind
 ·exact h6
theorem kV (M:Nat):E 0 (M+1)=1:=by
 induction M with
 | zero=>simp only[E,S,tm];grind
 | succ M ih =>
  have e:E 0 (M+1+1)=E 0 (M+1)+tm 0 (M+1):=rfl;rw[e,ih,tm_zero];grind
theorem zO (x:Rat):0<=x*x:=by
 rcases Rat.le_total (a:=0) (b:=x) with h|h
 ·exact Ys h h
 ·have:=Ys (show 0 <= -x by grind) (show 0 <= -x by grind);grind
theorem E_low (R:Rat):∃ c,0<c/\∃ N,∀ M,N<=M->∀ x,AB x R->c<=E x M:=by
 obtain⟨K,k0,hK⟩:=zMS R;obtain⟨L,l0,hL⟩:=zDY R;have hp:0<4*(L+1):=by grind
 have hc:=zF (show (0:Rat)<1 by grind) hp
 have hcL:=rdm (a:=1) hp;refine⟨_,hc,?_⟩;generalize 1/(4*(L+1))=c at *;obtain⟨N,hN⟩:=zB5 K k0 c hc;refine⟨N+1,λ M hM x hx=>?_⟩
 obtain⟨n1,n2⟩:AB (K*((M:Rat)*q4 M)) c:=hN M (by omega)
 have bh:AB (x/2) R:=by obtain⟨a,b⟩:=hx;constructor<;>grind
 have h1:=hK M (x/2) (x/2) bh bh;rw[show x/2+x/2=x by grind] at h1
 have h2:=hK M x (-x) hx hx.neg;rw[show x + -x=0 by grind] at h2
 obtain⟨m,rfl⟩:∃ m,M=m+1:=⟨M-1,by omega⟩
 rw[kV] at h2;have h3:=hL (m+1) (-x) hx.neg;have h4:=zO (E (x/2) (m+1));obtain⟨a1,a2⟩:=h1;obtain⟨b1,b2⟩:=h2;generalize K*(((m+1:Nat):Rat)*q4 (m+1))=η at *;generalize E (x/2) (m+1)*E (x/2) (m+1)=s at *;refine Rat.not_lt.1 λ hn=>?_
 have h5:AB (E x (m+1)) c:=by constructor<;>grind
 have h6:=h5.mul h3;obtain⟨c1,c2⟩:=h6;generalize E x (m+1)*E (-x) (m+1)=t at *;have:c*L<=1/4:=by grind
 have:c<=1/4:=by
  have:=Ys (Yw hc) l0;grind
 grind
theorem zK1 {h b:Rat} (hb:AB h b) (h4:b<=1/4) (k:Nat):AB (tm h (k+1)) (b*q4 k):=by
 have b0:=hb.nonneg
 induction k with
 | zero=>simp only[tm,q4];obtain⟨_,_⟩:=hb;simp;constructor<;>grind
 | succ k ih =>
  have e:=kU h (k+1);have hp:=zA0 (k+1)
  have og:(1:Rat)<=((k+1:Nat):Rat)+1:=by
   have:(0:Rat)<=((k+1:Nat):Rat):=by exact_mod_cast Nat.zero_le (k+1)
   grind
  have g:=hb.mul ih;rw[<- e] at g;have q:=yE k;have e2:q4 (k+1)=q4 k/4:=rfl;rw[e2];generalize ((k+1:Nat):Rat)+1=m at *
  have g2:AB (m*tm h (k+1+1)) (b*(q4 k/4)):=by
   refine g.mono ?_;have:=Ys (Ys b0 (Yw q)) (show 0<=1/4-b by grind)
   grind
  obtain⟨g3,g4⟩:=g2;have hn:=Ys b0 (Yw q);generalize b*(q4 k/4)=r at *;have hr:0<=r:=by grind
  constructor
  ·refine Rat.not_lt.1 λ hn=>?_
   have:=Ys (show 0<=m-1 by grind) (show 0 <= -r-tm h (k+1+1) by grind)
   have:=Ys (show 0<=m-1 by grind) hr
   grind
  ·refine Rat.not_lt.1 λ hn=>?_
   have:=Ys (show 0<=m-1 by grind) (show 0<=tm h (k+1+1)-r by grind)
   have:=Ys (show 0<=m-1 by grind) hr
   grind
theorem zQC {h b:Rat} (hb:AB h b) (h4:b<=1/4) (M:Nat):AB (E h (M+1)-1) (2*b*(1-q4 M)):=by
 have b0:=hb.nonneg
 induction M with
 | zero=>simp only[E,S,tm,q4];constructor<;>grind
 | succ M ih =>
  have e:E h (M+1+1)=E h (M+1)+tm h (M+1):=rfl;have g:=ih.add (zK1 hb h4 M);rw[e];have e2:q4 (M+1)=q4 M/4:=rfl;have q:=Ys b0 (Yw (yE M));have e3:E h (M+1)-1+tm h (M+1)=E h (M+1)+tm h (M+1)-1:=by grind
  rw[e3] at g;rw[e2];exact g.mono (by grind)
theorem zHR {h b:Rat} (hb:AB h b) (h4:b<=1/4) {M:Nat} (hM:1<=M):AB (E h M-1) (2*b):=by
 obtain⟨m,rfl⟩:∃ m,M=m+1:=⟨M-1,by omega⟩
 refine (zQC hb h4 m).mono ?_;have q:=Ys hb.nonneg (Yw (yE m));grind
theorem zOU {h b:Rat} (hb:AB h b) (h4:b<=1/4) (M:Nat):AB (E h (M+2)-1-h) (2*(b*b)*(1-q4 M)):=by
 have b0:=hb.nonneg;have bb:=Ys b0 b0
 induction M with
 | zero =>
  have:E h 2=1+h:=by simp[E,S,tm];grind
  rw[this];simp only[q4];constructor<;>grind
 | succ M ih =>
  have e:E h (M+1+2)=E h (M+2)+tm h (M+2):=rfl;have hp:=zA0 (M+1)
  have g0:AB (tm h (M+2)) (b*b*q4 M):=by
   have e:=kU h (M+1)
   have og:(1:Rat)<=((M+1:Nat):Rat)+1:=by
    have:(0:Rat)<=((M+1:Nat):Rat):=by exact_mod_cast Nat.zero_le (M+1)
    grind
   have g:=hb.mul (zK1 hb h4 M);rw[<- e] at g;have hr:=Ys bb (Yw (yE M));rw[show b*(b*q4 M)=b*b*q4 M by grind] at g
   obtain⟨g3,g4⟩:=g;generalize ((M+1:Nat):Rat)+1=m at *;generalize b*b*q4 M=r at *;rw[show M+1+1=M+2 by omega] at *
   constructor
   ·refine Rat.not_lt.1 λ hn=>?_
    have:=Ys (show 0<=m-1 by grind) (show 0 <= -r-tm h (M+2) by grind)
    have:=Ys (show 0<=m-1 by grind) hr
    grind
   ·refine Rat.not_lt.1 λ hn=>?_
    have:=Ys (show 0<=m-1 by grind) (show 0<=tm h (M+2)-r by grind)
    have:=Ys (show 0<=m-1 by grind) hr
    grind
  have g:=ih.add g0;rw[e];have e2:q4 (M+1)=q4 M/4:=rfl;have q:=Ys bb (Yw (yE M));have e3:E h (M+2)-1-h+tm h (M+2)=E h (M+2)+tm h (M+2)-1-h:=by grind
  rw[e3] at g;rw[e2];exact g.mono (by grind)
theorem zAD {h b:Rat} (hb:AB h b) (h4:b<=1/4) {M:Nat} (hM:2<=M):AB (E h M-1-h) (2*(b*b)):=by
 obtain⟨m,rfl⟩:∃ m,M=m+2:=⟨M-2,by omega⟩
 refine (zOU hb h4 m).mono ?_;have q:=Ys (Ys hb.nonneg hb.nonneg) (Yw (yE m));grind
def Ev (x:Nat->Rat) (M:Nat):Rat:=E (x M) M
theorem zAE {x:Nat->Rat} (h:Bdd x):Bdd (Ev x):=by
 obtain⟨R,N,r0,h⟩:=h;obtain⟨K,k0,hK⟩:=zDY R;exact⟨K,N,k0,λ M hM=>hK M _ (h M hM)⟩
theorem zAK {x y:Nat->Rat} (hx:Bdd x) (hy:Bdd y):Null (λ M=>Ev x M*Ev y M-Ev (λ M=>x M+y M) M):=by
 obtain⟨R,N,r0,hx⟩:=hx;obtain⟨R',N',Ay,hy⟩:=hy;obtain⟨K,k0,hK⟩:=zMS (R+R');exact (zB5 K k0).of_le (N+N') λ M hM=>hK M _ _ ((hx M (by omega)).mono (by grind)) ((hy M (by omega)).mono (by grind))
theorem zB7 {x:Nat->Rat} (hx:Bdd x):∃ c,0<c/\∃ N,∀ M,N<=M->c<=Ev x M:=by
 obtain⟨R,N,r0,hx⟩:=hx;obtain⟨c,hc,N',h⟩:=E_low R;exact⟨c,hc,N+N',λ M hM=>h M (by omega) _ (hx M (by omega))⟩
theorem zQG {h:Nat->Rat} (hn:Null h):Null (λ M=>Ev h M-1):=λ e he=>by
 obtain⟨N,h1⟩:=hn (1/4) (by grind)
 obtain⟨N',h2⟩:=hn (e/2) (by grind)
 refine⟨N+N'+1,λ M hM=>?_⟩
 rcases Rat.le_total (a:=e/2) (b:=1/4) with hc|hc
 ·exact (zHR (h2 M (by omega)) hc (by omega)).mono (by grind)
 ·exact (zHR (h1 M (by omega)) (by grind) (by omega)).mono (by grind)
theorem zD4 {x y:Nat->Rat} (hx:Bdd x) (hy:Bdd y) (h:Null (λ M=>x M-y M)):Null (λ M=>Ev x M-Ev y M):=by
 have h1:=zAK hy (hx.sub hy);have h2:=(zQG h).bmul (zAE hy);have e:(λ M=>y M+(x M-y M))=x:=funext λ M=>by grind
 rw[e] at h1;refine (h2.sub h1).of_eq λ M=>?_
 grind
theorem zQE {x:Nat->Rat} (hx:Bdd x):Null (λ M=>Ev x M*Ev (λ M => -x M) M-1):=by
 have h1:=zAK hx hx.neg;refine h1.of_eq_from 1 λ M hM=>?_
 obtain⟨m,rfl⟩:∃ m,M=m+1:=⟨M-1,by omega⟩
 have:Ev (λ M=>x M + -x M) (m+1)=1:=by
  show E (x (m+1) + -x (m+1)) (m+1)=1
  rw[show x (m+1) + -x (m+1)=0 by grind,kV]
 rw[this]
theorem zC4 {x y z:Nat->Rat} (hx:Bdd x) (hy:Bdd y) (hz:Null z) (N0:Nat) (h:∀ M,N0<=M->x M<=y M+z M):∃ v,Null v/\∃ N,∀ M,N<=M->Ev x M<=Ev y M+v M:=by
 have b1:Bdd (λ M=>y M+z M):=hy.add hz.bdd
 have n1:=zD4 b1 hy (hz.of_eq λ M=>by grind)
 have n2:=zAK hx (b1.sub hx);have e:(λ M=>x M+(y M+z M-x M))=λ M=>y M+z M:=funext λ M=>by grind
 rw[e] at n2;obtain⟨c,hc,N1,hl⟩:=zB7 hx;refine⟨_,n1.add n2,N0+N1+1,λ M hM=>?_⟩
 have h1:=E_one (show 0<=y M+z M-x M by have:=h M (by omega);grind) (show 1<=M by omega)
 have h2:=hl M (by omega)
 have h3:=Ys (show 0<=Ev x M by grind) (show 0<=Ev (λ M=>y M+z M-x M) M-1 by have:Ev (λ M=>y M+z M-x M) M=E (y M+z M-x M) M:=rfl;rw[this];grind)
 grind
theorem zJB {x:Rat} (h:0<=x) {M:Nat} (hM:2<=M):1+x<=E x M:=by
 obtain⟨m,rfl⟩:∃ m,M=m+2:=⟨M-2,by omega⟩
 clear hM
 induction m with
 | zero=>simp[E,S,tm];grind
 | succ m ih =>
  have e1:E x (m+1+2)=E x (m+2)+tm x (m+2):=rfl;have:=zA1 h (m+2);grind
theorem zLC {x y z:Nat->Rat} (hx:Bdd x) (hy:Bdd y) (hz:Null z) (N0:Nat) (h:∀ M,N0<=M->Ev x M<=Ev y M+z M) (e:Rat) (he:0<e):∃ N,∀ M,N<=M->x M<=y M+e:=by
 obtain⟨R,N1,r0,hx⟩:=hx;obtain⟨R',N2,Ay,hy⟩:=hy;obtain⟨K,k0,hK⟩:=zMS (R+R'+R+R'+e);obtain⟨c,hc,N3,hl⟩:=E_low (R+R'+R+R'+e);have hce:=Rat.mul_pos hc he;obtain⟨N4,hn⟩:=zB5 K k0 (c*e/4) (by grind)
 obtain⟨N5,hz⟩:=hz (c*e/4) (by grind)
 refine⟨N0+N1+N2+N3+N4+N5+2,λ M hM=>?_⟩
 refine Rat.not_lt.1 λ D9=>?_
 have a1:=hx M (by omega)
 have a2:=hy M (by omega)
 have a3:=h M (by omega)
 obtain⟨a4,a5⟩:AB (K*((M:Rat)*q4 M)) (c*e/4):=hn M (by omega)
 obtain⟨a6,a7⟩:=hz M (by omega)
 have RE:AB (y M+e) (R+R'+R+R'+e):=by obtain⟨_,_⟩:=a2;constructor<;>grind
 have hu:AB (x M-(y M+e)) (R+R'+R+R'+e):=by obtain⟨_,_⟩:=a2;obtain⟨_,_⟩:=a1;constructor<;>grind
 have po:AB (y M) (R+R'+R+R'+e):=a2.mono (by grind)
 have QX:AB e (R+R'+R+R'+e):=by constructor<;>grind
 obtain⟨b1,b2⟩:=hK M _ _ RE hu;obtain⟨b3,b4⟩:=hK M _ _ po QX;rw[show y M+e+(x M-(y M+e))=x M by grind] at b1 b2
 have l1:=hl M (by omega) _ RE
 have l2:=hl M (by omega) _ po
 have o1:=E_one (show 0<=x M-(y M+e) by grind) (show 1<=M by omega)
 have o2:=zJB (Yw he) (show 2<=M by omega)
 have p1:=Ys (show 0<=E (y M+e) M by grind) (show 0<=E (x M-(y M+e)) M-1 by grind)
 have p2:=Ys (show 0<=E (y M) M by grind) (show 0<=E e M-(1+e) by grind)
 have p3:=Ys (show 0<=E (y M) M-c by grind) (Yw he)
 have a3':E (x M) M<=E (y M) M+z M:=a3;generalize E (x M) M=X at *;generalize E (y M) M=Y at *;generalize K*((M:Rat)*q4 M)=η at *;grind
end Go.Proofs.YtgmnknmjainabacGreat.Ex
namespace Go.Proofs.YtgmnknmjainabacGreat.Ex
def pw (x:Rat):Nat->Rat
 | 0=>1
 | k+1=>x*pw x k
def q2:Nat->Rat
 | 0=>1
 | n+1=>q2 n/2
theorem yD (n:Nat):0<q2 n:=by
 induction n with
 | zero=>simp only[q2];grind
 | succ n ih=>simp only[q2];grind
theorem q2_le (n:Nat):q2 n<=1:=by
 induction n with
 | zero=>simp only[q2];grind
 | succ n ih=>simp only[q2];have:=yD n;grind
theorem zT2 {y:Rat} (h:AB y (1/2)) (k:Nat):AB (pw y k) (q2 k):=by
 induction k with
 | zero=>simp only[pw,q2];constructor<;>grind
 | succ k ih=>simp only[pw,q2];exact (h.mul ih).mono (by grind)
theorem pw_step {y h:Rat} (hy:AB y (1/2)) (rM:AB (y+h) (1/2)) (k:Nat) :
  AB (pw (y+h) (k+1)-pw y (k+1)-((k:Rat)+1)*(h*pw y k)) ((k:Rat)*((k:Rat)+1)*q2 k*(h*h)):=by
 induction k with
 | zero=>simp only[pw,q2];simp;constructor<;>grind
 | succ k ih =>
  have e1:pw (y+h) (k+1+1)=(y+h)*pw (y+h) (k+1):=rfl;have e2:pw y (k+1+1)=y*pw y (k+1):=rfl;have e3:pw y (k+1)=y*pw y k:=rfl;have e4:((k+1:Nat):Rat)=(k:Rat)+1:=by simp
  have e5:q2 (k+1)=q2 k/2:=rfl;have h2:=zO h;have q:=yD k;have kk:(0:Rat)<=(k:Rat):=by exact_mod_cast Nat.zero_le k
  have g1:=rM.mul ih
  have g2:AB (((k:Rat)+1)*(h*h)*pw y k) (((k:Rat)+1)*(h*h)*q2 k):=by
   have:AB (((k:Rat)+1)*(h*h)) (((k:Rat)+1)*(h*h)):=by
    have:=Ys (show 0<=(k:Rat)+1 by grind) h2
    constructor<;>grind
   exact this.mul (zT2 hy k)
  have g:=g1.add g2;rw[e1,e2,e4,e5]
  have:(y+h)*(pw (y+h) (k+1)-pw y (k+1)-((k:Rat)+1)*(h*pw y k))+((k:Rat)+1)*(h*h)*pw y k=(y+h)*pw (y+h) (k+1)-y*pw y (k+1)-((k:Rat)+1+1)*(h*pw y (k+1)):=by
   rw[e3];grind
  rw[this] at g;exact g.mono (by grind)
def Lg (y:Rat) (M:Nat):Rat:=S (λ k=>pw y (k+1)/((k:Rat)+1)) M
theorem zDH {t b m:Rat} (hm:0<m) (h:AB t (m*b)):AB (t/m) b:=by
 have e:=rdm (a:=t) hm;generalize t/m=q at *;obtain⟨h1,h2⟩:=h;constructor
 ·refine Rat.not_lt.1 λ hn=>?_
  have:=Rat.mul_pos hm (show 0 < -b-q by grind)
  grind
 ·refine Rat.not_lt.1 λ hn=>?_
  have:=Rat.mul_pos hm (show 0<q-b by grind)
  grind
theorem S_sub (f g:Nat->Rat) (n:Nat):S (λ i=>f i-g i) n=S f n-S g n:=by
 induction n with
 | zero=>simp[S];try grind
 | succ n ih=>simp only[S,ih];grind
theorem S_k2 (M:Nat):S (λ k=>(k:Rat)*q2 k) M=2-2*((M:Rat)+1)*q2 M:=by
 induction M with
 | zero=>simp only[S,q2];simp;grind
 | succ M ih =>
  simp only[S,ih,q2];have e4:((M+1:Nat):Rat)=(M:Rat)+1:=by simp
  rw[e4];grind
theorem Lg_step {y h:Rat} (hy:AB y (1/2)) (rM:AB (y+h) (1/2)) (M:Nat) :
  AB (Lg (y+h) M-Lg y M-h*S (pw y) M) (2*(h*h)):=by
 have e:Lg (y+h) M-Lg y M-h*S (pw y) M=S (λ k=>(pw (y+h) (k+1)-pw y (k+1)-((k:Rat)+1)*(h*pw y k))/((k:Rat)+1)) M:=by
  unfold Lg;rw[<- zGV,<- S_sub,<- S_sub];refine kR _ λ i hi=>?_
  have hp:=zA0 i;generalize (i:Rat)+1=m at *;grind
 rw[e];have h2:=zO h
 have g:AB (S (λ k=>(pw (y+h) (k+1)-pw y (k+1)-((k:Rat)+1)*(h*pw y k))/((k:Rat)+1)) M) (S (λ k=>(h*h)*((k:Rat)*q2 k)) M):=by
  refine S_AB _ λ i hi=>?_
  refine zDH (zA0 i) ((pw_step hy rM i).mono ?_);grind
 refine g.mono ?_;rw[zGV,S_k2];have q:=yD M;have Yn:(0:Rat)<=(M:Rat):=by exact_mod_cast Nat.zero_le M
 have:=Ys (Ys h2 (show 0<=(M:Rat)+1 by grind)) (Yw q)
 grind
theorem S_pw (y:Rat) (M:Nat):S (pw y) M*(1-y)=1-pw y M:=by
 induction M with
 | zero=>simp only[S,pw];grind
 | succ M ih=>simp only[S,pw];grind
theorem S_q2 (M:Nat):S q2 M=2-2*q2 M:=by
 induction M with
 | zero=>simp only[S,q2];grind
 | succ M ih=>simp only[S,q2,ih];grind
theorem S_pw_AB {y:Rat} (hy:AB y (1/2)) (M:Nat):AB (S (pw y) M) 2:=by
 refine (S_AB M λ i _=>zT2 hy i).mono ?_
 rw[S_q2];have:=yD M;grind
theorem Lg_AB {y:Rat} (hy:AB y (1/2)) (M:Nat):AB (Lg y M) 2:=by
 have:AB (Lg y M) (S q2 M):=by
  refine S_AB M λ i _=>zDH (zA0 i) ((zT2 hy (i+1)).mono ?_)
  have q:=yD i;have kk:(0:Rat)<=(i:Rat):=by exact_mod_cast Nat.zero_le i
  have:=Ys kk (Yw q);simp only[q2];grind
 refine this.mono ?_;rw[S_q2];have:=yD M;grind
theorem pw_zero (k:Nat):pw 0 (k+1)=0:=by simp only[pw];grind
theorem Lg_zero (M:Nat):Lg 0 M=0:=by
 unfold Lg;rw[kR M (g:=λ _=>0) (λ i _=>by rw[pw_zero];grind),zQN];grind
theorem G_step (K η:Rat) (M:Nat) (hM:2<=M) (hK:∀ x,AB x 4->AB (E x M) K) (hη:∀ x y,AB x 4->AB y 4->AB (E x M*E y M-E (x+y) M) η)
  {y h b:Rat} (hy:AB y (1/2)) (rM:AB (y+h) (1/2)) (hb:AB h b) (aB:b<=1/12) :
  AB (E (Lg (y+h) M) M*(1-(y+h))-E (Lg y M) M*(1-y)) (K*(33*(b*b)+b*q2 M)+2*η):=by
 have b0:=hb.nonneg;have g1:=Lg_step hy rM M;have g2:=S_pw y M;have g3:=S_pw_AB hy M;have g4:=zT2 hy M;have g5:=Lg_AB hy M;have g6:=Lg_AB rM M;have JR:h*h<=b*b:=by have:=(hb.mul hb).2;grind
 generalize S (pw y) M=g at *;generalize pw y M=pM at *;obtain⟨δ,hδ⟩:∃ δ,δ=Lg (y+h) M-Lg y M:=⟨_,rfl⟩;obtain⟨r,hr⟩:∃ r,r=Lg (y+h) M-Lg y M-h*g:=⟨_,rfl⟩;have Rq:AB r (2*(b*b)):=by rw[hr];exact g1.mono (by grind)
 have bb:=Ys b0 b0;have bb2:=Ys b0 (show 0<=1/12-b by grind)
 have hδb:AB δ (3*b):=by
  have:=(hb.mul g3).add Rq;have e:h*g+r=δ:=by rw[hr,hδ];grind
  rw[e] at this;exact this.mono (by grind)
 have hs:=zAD hδb (by grind) hM
 have hE:=hK _ (g5.mono (by grind))
 have hmul:=hη (Lg y M) δ (g5.mono (by grind)) (hδb.mono (by grind))
 rw[show Lg y M+δ=Lg (y+h) M by rw[hδ];grind] at hmul
 generalize E (Lg (y+h) M) M=A at *;generalize E (Lg y M) M=C at *;generalize E δ M=D at *;obtain⟨s,Ai⟩:∃ s,s=D-1-δ:=⟨_,rfl⟩;rw[<- Ai] at hs;obtain⟨t,ht⟩:∃ t,t=C*D-A:=⟨_,rfl⟩;rw[<- ht] at hmul;have Ya:AB (1-y) (3/2):=by obtain⟨_,_⟩:=hy;constructor<;>grind
 have Jm:AB (1-(y+h)) 2:=by obtain⟨_,_⟩:=rM;constructor<;>grind
 have Ch:AB (1-(y+h)) (3/2):=by obtain⟨_,_⟩:=rM;constructor<;>grind
 have key:A*(1-(y+h))-C*(1-y)=C*(-(h*pM)+r*(1-y)+(-(δ*h))+s*(1-(y+h))) + -(t*(1-(y+h))):=by
  have e1:A=C*D-t:=by grind
  have e2:D=s+1+δ:=by grind
  have e3:δ=h*g+r:=by rw[hr,hδ];grind
  have e4:pM=1-g*(1-y):=by grind
  rw[e1,e2,e4,e3];grind
 rw[key];have m1:=(hb.mul g4).neg;have m2:=Rq.mul Ya;have m3:=(hδb.mul hb).neg;have m4:=hs.mul Ch;have m5:=(hmul.mul Jm).neg;have m:=(hE.mul (((m1.add m2).add m3).add m4)).add m5;refine m.mono ?_;have:=hE.nonneg;have:b*q2 M+2*(b*b)*(3/2)+3*b*b+2*(3*b*(3*b))*(3/2)=33*(b*b)+b*q2 M:=by grind
 rw[this];grind
theorem G_steps (K η:Rat) (M:Nat) (hM:2<=M) (hK:∀ x,AB x 4->AB (E x M) K) (hη:∀ x y,AB x 4->AB y 4->AB (E x M*E y M-E (x+y) M) η)
  {h b:Rat} (n:Nat) (hn:(n:Rat)*b<=1/2) (hb:AB h b) (aB:b<=1/12) (j:Nat) (hj:j<=n) :
  AB (E (Lg ((j:Rat)*h) M) M*(1-(j:Rat)*h)-1) ((j:Rat)*(K*(33*(b*b)+b*q2 M)+2*η)):=by
 have b0:=hb.nonneg
 have I6:∀ i:Nat,i<=n->AB ((i:Rat)*h) (1/2):=λ i hi=>by
  have hi':(i:Rat)<=(n:Rat):=by exact_mod_cast hi
  have FC:(0:Rat)<=(i:Rat):=by exact_mod_cast Nat.zero_le i
  have:AB (i:Rat) (i:Rat):=by constructor<;>grind
  refine (this.mul hb).mono ?_;have:=Ys (show 0<=(n:Rat)-i by grind) b0
  grind
 induction j with
 | zero =>
  have:((0:Nat):Rat)=0:=by simp
  rw[this,Rat.zero_mul,Lg_zero];obtain⟨m,rfl⟩:∃ m,M=m+1:=⟨M-1,by omega⟩
  rw[kV,Rat.zero_mul];constructor<;>grind
 | succ j ih =>
  have ih:=ih (by omega)
  have e4:((j+1:Nat):Rat)=(j:Rat)+1:=by simp
  have h2:=I6 (j+1) hj;rw[e4] at h2 ⊢;have e5:((j:Rat)+1)*h=(j:Rat)*h+h:=by grind
  rw[e5] at h2 ⊢;have g:=G_step K η M hM hK hη (I6 j (by omega)) h2 hb aB
  have:=ih.add g;generalize E (Lg ((j:Rat)*h+h) M) M*(1-((j:Rat)*h+h))=X at *;generalize E (Lg ((j:Rat)*h) M) M*(1-(j:Rat)*h)=Y at *;have e6:Y-1+(X-Y)=X-1:=by grind
  rw[e6] at this;exact this.mono (by grind)
theorem q4_q2 (M:Nat):(M:Rat)*q2 M<=1:=by
 induction M with
 | zero=>simp only[q2];simp;grind
 | succ M ih =>
  have e4:((M+1:Nat):Rat)=(M:Rat)+1:=by simp
  rw[e4];simp only[q2];have:=q2_le M;grind
theorem null_q2:Null q2:=λ e he=>by
 obtain⟨n,iA,aT⟩:=kC (1/e);refine⟨n+1,λ M hM=>?_⟩
 have hMn:(n:Rat)<=(M:Rat):=by exact_mod_cast (show n<=M by omega)
 have u:=q4_q2 M;have q:=yD M;have e1:=rdm (a:=1) he;generalize 1/e=d at *;have s1:=Ys (show 0<=(M:Rat)-d by grind) (Yw q)
 have s2:=Ys (show 0<=1-d*q2 M by grind) (Yw he)
 have s3:(1-d*q2 M)*e=e-d*e*q2 M:=by grind
 rw[s3,e1] at s2;constructor<;>grind
theorem zPU {b n c:Rat} (hn:0<n) (hc:0<c) (h:b*n=c):0<b:=by
 refine Rat.not_le.1 λ hb=>?_
 have:=Ys (show 0 <= -b by grind) (Yw hn)
 grind
theorem Lg_exp (e:Rat) (he:0<e):∃ N,∀ M,N<=M->∀ y,AB y (1/2)->AB (E (Lg y M) M*(1-y)-1) e:=by
 obtain⟨K,k0,hK⟩:=zDY 4;obtain⟨L,l0,hL⟩:=zMS 4;obtain⟨n0,iA,aT⟩:=kC (33*K/e);obtain⟨n,hn⟩:∃ n:Nat,n=n0+6:=⟨_,rfl⟩;have De:(n0:Rat)+6=(n:Rat):=by rw[hn];simp
 have dt:(0:Rat)<=(n0:Rat):=by exact_mod_cast Nat.zero_le n0
 have npos:(0:Rat)<(n:Rat):=by grind
 have hKn:33*K<=e*(n:Rat):=by
  have e1:=rdm (a:=33*K) he;generalize 33*K/e=d at *;have:=Ys (show 0<=(n:Rat)-d by grind) (Yw he)
  grind
 have hn6:(6:Rat)<=(n:Rat):=by grind
 clear hn iA aT De dt;have d1:=zF he (show 0<4*(K+1) by grind)
 obtain⟨N1,h1⟩:=null_q2 _ d1;have d2:=zF he (show (0:Rat)<8*(n:Rat) by grind)
 obtain⟨N2,h2⟩:=zB5 L l0 _ d2;refine⟨N1+N2+2,λ M hM y hy=>?_⟩
 have g1:=(h1 M (by omega)).2
 have g2:L*((M:Rat)*q4 M)<=e/(8*(n:Rat)):=(h2 M (by omega)).2
 have e1:=rdm (a:=e) (show 0<4*(K+1) by grind)
 have e2:=rdm (a:=e) (show (0:Rat)<8*(n:Rat) by grind)
 generalize e/(4*(K+1))=c1 at *;generalize e/(8*(n:Rat))=c2 at *;obtain⟨b,zw⟩:∃ b,b*(n:Rat)=1/2:=⟨1/2/(n:Rat),rdm npos⟩;have b0:0<b:=zPU npos (by grind) zw
 have hyn:=rdm (a:=y) npos;have hh:AB (y/(n:Rat)) b:=zDH npos (hy.mono (by rw[Rat.mul_comm,zw];exact Rat.le_refl))
 have aB:b<=1/12:=by
  have h6:=Ys (Yw b0) (show 0<=(n:Rat)-6 by grind)
  have h7:b*((n:Rat)-6)=b*n-6*b:=by grind
  rw[h7,zw] at h6;grind
 have g:=G_steps K (L*((M:Rat)*q4 M)) M (by omega) (hK M) (hL M) n (by rw[Rat.mul_comm,zw];exact Rat.le_refl) hh aB n (Yy _)
 rw[show (n:Rat)*(y/(n:Rat))=y from (Rat.mul_comm _ _).trans hyn] at g
 refine g.mono ?_;generalize L*((M:Rat)*q4 M)=η at *;have q:=yD M;generalize q2 M=Q at *;have t1:(n:Rat)*(K*(33*(b*b)+b*Q)+2*η)=K*(33*b*(b*n)+(b*n)*Q)+2*(n*η):=by grind
 rw[t1,zw];have t2:=Ys (Yw npos) (show 0<=c2-η by grind)
 have t3:=Ys k0 (show 0<=c1-Q by grind)
 have t4:=Ys (Yw b0) (show 0<=e*(n:Rat)-33*K by grind)
 have t5:b*(e*(n:Rat)-33*K)=e*(b*n)-33*K*b:=by grind
 rw[t5,zw] at t4;have t6:(n:Rat)*(c2-η)=(c2*(8*n))/8-n*η:=by grind
 rw[t6,e2] at t2;have t7:K*(c1-Q)=(c1*(4*(K+1)))/4-c1-K*Q:=by grind
 rw[t7,e1] at t3;have t8:K*(33*b*(1/2)+1/2*Q)=33*K*b/2+K*Q/2:=by grind
 rw[t8];generalize K*Q=A at *;generalize 33*K*b=B at *;generalize (n:Rat)*η=C at *;grind
end Go.Proofs.YtgmnknmjainabacGreat.Ex
namespace Go.Proofs.YtgmnknmjainabacGreat.Ex
def IsLog (l r:Nat->Rat):Prop:=Bdd l/\Null (λ M=>Ev l M-r M)
theorem Bdd.of_null {f g:Nat->Rat} (h:Bdd f) (k:Null (λ M=>f M-g M)):Bdd g:=by
 obtain⟨K,N,k0,h⟩:=h.sub k.bdd;exact⟨K,N,k0,λ M hM=>by have:AB (f M-(f M-g M)) K:=h M hM;rw[show f M-(f M-g M)=g M by grind] at this;exact this⟩
theorem IsLog.bdd {l r:Nat->Rat} (h:IsLog l r):Bdd r:=(zAE h.1).of_null h.2
theorem IsLog.le {l r l' r' z:Nat->Rat} (h:IsLog l r) (h':IsLog l' r') (hz:Null z) (N0:Nat) (hr:∀ M,N0<=M->r M<=r' M+z M) (e:Rat) (he:0<e):∃ N,∀ M,N<=M->l M<=l' M+e:=by
 refine zLC h.1 h'.1 ((h.2.sub h'.2).add hz) N0 (λ M hM=>?_) e he
 have:=hr M hM;grind
theorem IsLog.uniq {l l' r:Nat->Rat} (h:IsLog l r) (h':IsLog l' r):Null (λ M=>l M-l' M):=λ e he=>by
 obtain⟨N,h1⟩:=h.le h' null_zero 0 (λ M _=>by grind) e he
 obtain⟨N',h2⟩:=h'.le h null_zero 0 (λ M _=>by grind) e he
 refine⟨N+N',λ M hM=>?_⟩
 have:=h1 M (by omega)
 have:=h2 M (by omega)
 constructor<;>grind
theorem IsLog.congr {l l' r:Nat->Rat} (h:IsLog l r) (k:Null (λ M=>l M-l' M)):IsLog l' r:=by
 have b:=h.1.of_null k;refine⟨b,?_⟩;refine (h.2.sub (zD4 h.1 b k)).of_eq λ M=>?_
 grind
theorem IsLog.congr_r {l r r':Nat->Rat} (h:IsLog l r) (k:Null (λ M=>r M-r' M)):IsLog l r' :=
 ⟨h.1,(h.2.add k).of_eq λ M=>by grind⟩
theorem IsLog.add {l l' r r':Nat->Rat} (h:IsLog l r) (h':IsLog l' r'):IsLog (λ M=>l M+l' M) (λ M=>r M*r' M):=by
 refine⟨h.1.add h'.1,?_⟩;have n1:=zAK h.1 h'.1;have n2:=h.2.bmul (zAE h'.1);have n3:=h'.2.bmul h.bdd;refine ((n2.add n3).sub n1).of_eq λ M=>?_
 grind
theorem IsLog.neg {l r s:Nat->Rat} (h:IsLog l r) (hs:Bdd s) (N:Nat) (FF:∀ M,N<=M->s M*r M=1):IsLog (λ M => -l M) s:=by
 refine⟨h.1.neg,?_⟩;have n1:=zQE h.1;have n2:=h.2.bmul (zAE h.1.neg);have n3:=(n1.sub n2).bmul hs;refine n3.of_eq_from N λ M hM=>?_
 have e:=FF M hM;have:(Ev l M*Ev (λ M => -l M) M-1-(Ev l M-r M)*Ev (λ M => -l M) M)*s M=(s M*r M)*Ev (λ M => -l M) M-s M:=by grind
 rw[this,e];grind
theorem isLog_one:IsLog (λ _=>0) (λ _=>1):=⟨Bdd.const 0,null_zero.of_eq_from 1 λ M hM=>by
 obtain⟨m,rfl⟩:∃ m,M=m+1:=⟨M-1,by omega⟩
 show E 0 (m+1)-1=0
 rw[kV];grind⟩
theorem zNL {y:Nat->Rat} (N0:Nat) (hy:∀ M,N0<=M->AB (y M) (1/2)):IsLog (λ M => -Lg (y M) M) (λ M=>1-y M):=by
 have b1:Bdd (λ M=>Lg (y M) M):=Bdd.of_le 2 N0 λ M hM=>Lg_AB (hy M hM) M
 have b2:Bdd (λ M=>1-y M):=Bdd.of_le 2 N0 λ M hM=>by obtain⟨_,_⟩:=hy M hM;constructor<;>grind
 refine⟨b1.neg,?_⟩;have n1:=(zQE b1).bmul b2
 have n2:Null (λ M=>E (Lg (y M) M) M*(1-y M)-1):=λ e he=>by
  obtain⟨N,h⟩:=Lg_exp e he;exact⟨N+N0,λ M hM=>h M (by omega) _ (hy M (by omega))⟩
 have n3:=n2.bmul (zAE b1.neg);refine (n1.sub n3).of_eq λ M=>?_
 show Ev (λ M => -Lg (y M) M) M-(1-y M)=(E (Lg (y M) M) M*Ev (λ M => -Lg (y M) M) M-1)*(1-y M)-(E (Lg (y M) M) M*(1-y M)-1)*Ev (λ M => -Lg (y M) M) M
 grind
theorem IsLog.times {l r:Nat->Rat} (h:IsLog l r) (k:Nat):IsLog (λ M=>(k:Rat)*l M) (λ M=>pw (r M) k):=by
 induction k with
 | zero =>
  have e1:(λ M=>((0:Nat):Rat)*l M)=λ _=>0:=funext λ M=>by simp;try grind
  rw[e1];exact isLog_one
 | succ k ih =>
  have e1:(λ M=>((k+1:Nat):Rat)*l M)=λ M=>l M+(k:Rat)*l M:=funext λ M=>by
   have:((k+1:Nat):Rat)=(k:Rat)+1:=by simp
   rw[this];grind
  rw[e1];exact h.add ih
theorem Lg_tail {y:Rat} (hy:AB y (1/2)) (a i:Nat):AB (Lg y (a+i)-Lg y a) (2*(q2 a-q2 (a+i))):=by
 induction i with
 | zero=>simp only[Nat.add_zero];constructor<;>grind
 | succ i ih =>
  have e:Lg y (a+(i+1))=Lg y (a+i)+pw y (a+i+1)/(((a+i:Nat):Rat)+1):=rfl;have e2:q2 (a+(i+1))=q2 (a+i)/2:=rfl
  have h:AB (pw y (a+i+1)/(((a+i:Nat):Rat)+1)) (q2 (a+i)):=by
   refine zDH (zA0 _) ((zT2 hy (a+i+1)).mono ?_);have q:=yD (a+i);have kk:(0:Rat)<=((a+i:Nat):Rat):=by exact_mod_cast Nat.zero_le (a+i)
   have:=Ys kk (Yw q);simp only[q2];grind
  have:=ih.add h;rw[e,e2];generalize pw y (a+i+1)/(((a+i:Nat):Rat)+1)=t at *;have h3:Lg y (a+i)+t-Lg y a=Lg y (a+i)-Lg y a+t:=by grind
  rw[h3];exact this.mono (by grind)
theorem zJD {y:Nat->Rat} (N0:Nat) (hy:∀ M,N0<=M->AB (y M) (1/2)):Null (λ M=>Lg (y M) (M+M)-Lg (y M) M):=by
 refine ((null_q2.add null_q2)).of_le N0 λ M hM=>?_
 refine (Lg_tail (hy M hM) M M).mono ?_;have:=yD (M+M);grind
def Az (z:Rat) (M:Nat):Rat:=S (λ k=>pw z (2*k+1)/(2*(k:Rat)+1)) M
theorem pw_neg (z:Rat) (k:Nat):pw (-z) (2*k)=pw z (2*k):=by
 induction k with
 | zero=>rfl
 | succ k ih=>rw[show 2*(k+1)=2*k+1+1 by omega];simp only[pw,ih];grind
theorem Az_Lg (z:Rat) (M:Nat):2*Az z M=Lg z (M+M)-Lg (-z) (M+M):=by
 induction M with
 | zero=>simp[Az,Lg,S];try grind
 | succ M ih =>
  have e:M+1+(M+1)=M+M+1+1:=by omega
  have e1:∀ y,Lg y (M+M+1+1)=Lg y (M+M)+pw y (M+M+1)/(((M+M:Nat):Rat)+1)+pw y (M+M+1+1)/(((M+M+1:Nat):Rat)+1):=λ y=>rfl
  have e2:Az z (M+1)=Az z M+pw z (2*M+1)/(2*(M:Rat)+1):=rfl
  have e3:((M+M:Nat):Rat)=2*(M:Rat):=by
   have:((M+M:Nat):Rat)=(M:Rat)+(M:Rat):=by simp
   rw[this];grind
  rw[e,e1,e1,e2,e3]
  have p1:pw (-z) (M+M+1) = -pw z (M+M+1):=by
   have:=pw_neg z M;rw[show M+M=2*M by omega]
   simp only[pw,this];grind
  have p2:pw (-z) (M+M+1+1)=pw z (M+M+1+1):=by
   have:=pw_neg z (M+1);rw[show 2*(M+1)=M+M+1+1 by omega] at this
   exact this
  rw[p1,p2,show 2*M+1=M+M+1 by omega]
  generalize pw z (M+M+1)=a;generalize pw z (M+M+1+1)/(((M+M+1:Nat):Rat)+1)=b;have : -a/(2*(M:Rat)+1) = -(a/(2*(M:Rat)+1)):=by rw[YE,YE,Rat.neg_mul]
  rw[this];grind
theorem isLog_Az {z r:Nat->Rat} (N0:Nat) (hz:∀ M,N0<=M->AB (z M) (1/2)) (hr:∀ M,N0<=M->r M*(1-z M)=1+z M):IsLog (λ M=>2*Az (z M) M) r:=by
 have h1:=zNL N0 (y:=λ M => -z M) (λ M hM=>(hz M hM).neg)
 have h2:=zNL N0 hz;have hinv:∀ M,N0<=M->1/(1-z M)*(1-z M)=1:=λ M hM=>rdm (by obtain⟨_,_⟩:=hz M hM;grind)
 have h3:=h2.neg (s:=λ M=>1/(1-z M)) (Bdd.of_le 2 N0 λ M hM=>by
  have hp:0<1-z M:=by obtain⟨_,_⟩:=hz M hM;grind
  refine zDH hp ?_;obtain⟨_,_⟩:=hz M hM
  constructor<;>grind) N0 hinv
 have h4:=(h1.add h3).congr_r (r':=r) (null_zero.of_eq_from N0 λ M hM=>by
  have e1:=hinv M hM;have e2:=hr M hM;have hp:0<1-z M:=by obtain⟨_,_⟩:=hz M hM;grind
  generalize 1/(1-z M)=i at *
  have:r M=(1+z M)*i:=by
   have:r M*(1-z M)*i=(1+z M)*i:=by rw[e2]
   have e3:r M*(1-z M)*i=r M*(i*(1-z M)):=by grind
   rw[e3,e1] at this;grind
  grind)
 refine h4.congr ?_;have d1:=zJD N0 hz;have d2:=zJD N0 (y:=λ M => -z M) (λ M hM=>(hz M hM).neg)
 refine (d2.sub d1).of_eq λ M=>?_
 rw[Az_Lg];grind
end Go.Proofs.YtgmnknmjainabacGreat.Ex
namespace Go.Proofs.YtgmnknmjainabacGreat
open Ex
theorem zED (a b c d:Int):kK (pr4 a b c d) 3<=a/\kK (pr4 a b c d) 3<=b/\kK (pr4 a b c d) 3<=c/\kK (pr4 a b c d) 3<=d/\(kK (pr4 a b c d) 3=a\/kK (pr4 a b c d) 3=b\/kK (pr4 a b c d) 3=c\/kK (pr4 a b c d) 3=d):=by
 simp only[kK,pr4];simp;repeat' split
 all_goals omega
theorem zDB (a b c d:Int):a<=kA (pr4 a b c d) 3/\b<=kA (pr4 a b c d) 3/\c<=kA (pr4 a b c d) 3/\d<=kA (pr4 a b c d) 3/\(kA (pr4 a b c d) 3=a\/kA (pr4 a b c d) 3=b\/kA (pr4 a b c d) 3=c\/kA (pr4 a b c d) 3=d):=by
 simp only[kA,pr4];simp;repeat' split
 all_goals omega
def zAJ (B:Nat) (a b:Int × Int):Int × Int:=(kK (pr4 (a.1*b.1) (a.1*b.2) (a.2*b.1) (a.2*b.2)) 3/Q B,-(-(kA (pr4 (a.1*b.1) (a.1*b.2) (a.2*b.1) (a.2*b.2)) 3)/Q B))
def zAR (a b:Int × Int):Int × Int:=(a.1+b.1,a.2+b.2)
def zJA (a b:Int × Int):Int × Int:=(a.1-b.2,a.2-b.1)
def zK (a:Int × Int) (n d:Int):Int × Int:=(a.1*n/d,-(-(a.2*n)/d))
def kI (a:Int × Int) (n:Int):Int × Int:=(a.1*n,a.2*n)
def zW (a:Int × Int):Int:=zGY a.2 (-a.1)
def ofI (n d:Int) (B:Nat):Int × Int:=(n*Q B/d,-(-(n*Q B)/d))
def zG (a:Int × Int) (t:Nat):Int × Int:=(a.1/Q t,-(-a.2/Q t))
def jE (f:Nat->Int × Int):Nat->Int × Int
 | 0=>f 0
 | n+1=>zAR (jE f n) (f (n+1))
def zT (f:Nat->Int × Int) (N:Nat):Prop:=zW (f N)<=1/\∀ n,n<N->1<zW (f n)
def zN (f:Nat->Int × Int) (N:Nat):Int × Int:=zAR (jE f N) (-zW (f N),zW (f N))
def sqI (B:Nat) (a:Int × Int):Nat->Int × Int
 | 0=>a
 | t+1=>zAJ B (sqI B a t) (sqI B a t)
def Abs (a:Int × Int) (m:Int):Prop := -m<=a.1/\a.1<=m /\ -m<=a.2/\a.2<=m
theorem zEI {a:Int × Int} (h:a.1<=a.2):Abs a (zW a):=by
 unfold Abs zW zGY;split<;>omega
theorem zAF {a:Int × Int} {m:Int} (h:Abs a m):zW a<=m:=by
 obtain⟨h1,h2,h3,h4⟩:=h;unfold zW zGY;split<;>omega
theorem Abs.nonneg {a:Int × Int} {m:Int} (h:Abs a m):0<=m:=by obtain⟨h1,h2,h3,h4⟩:=h;omega
theorem Abs.mono {a:Int × Int} {m n:Int} (h:Abs a m) (k:m<=n):Abs a n:=by obtain⟨h1,h2,h3,h4⟩:=h;exact⟨by omega,by omega,by omega,by omega⟩
theorem Abs.add {a b:Int × Int} {m n:Int} (h:Abs a m) (k:Abs b n):Abs (zAR a b) (m+n):=by
 obtain⟨h1,h2,h3,h4⟩:=h;obtain⟨k1,k2,k3,k4⟩:=k;refine⟨?_,?_,?_,?_⟩<;>simp only[zAR]<;>omega
theorem yI {x y m n:Int} (h1 : -m<=x) (h2:x<=m) (k1 : -n<=y) (k2:y<=n) : -(m*n)<=x*y/\x*y<=m*n:=by
 have p1:=Yz (show 0<=m-x by omega) (show 0<=n+y by omega)
 have p2:=Yz (show 0<=m+x by omega) (show 0<=n-y by omega)
 have p3:=Yz (show 0<=m-x by omega) (show 0<=n-y by omega)
 have p4:=Yz (show 0<=m+x by omega) (show 0<=n+y by omega)
 constructor<;>grind
theorem kD {x m q:Int} (hq:0<q) (h1 : -(m*q)<=x) (h2:x<=m*q) : -m<=x/q/\x/q<=m /\ -m <= -(-x/q) /\ -(-x/q)<=m:=by
 have a1 : -m<=x/q:=by rw[Int.le_ediv_iff_mul_le hq,Int.neg_mul];exact h1
 have a2 : -m <= -x/q:=by rw[Int.le_ediv_iff_mul_le hq,Int.neg_mul];omega
 have a3:=zFA x q hq;have a4:=zC6 x q hq;refine⟨a1,?_,?_,by omega⟩
 ·refine Int.not_lt.1 λ hn=>?_
  have:=Yt (show m+1<=x/q by omega) (show 0<=q by omega)
  rw[Int.add_mul] at this;omega
 ·refine Int.not_lt.1 λ hn=>?_
  have:=Yt (show -(-x/q) <= -m-1 by omega) (show 0<=q by omega)
  have e:(-m-1)*q = -(m*q)-q:=by grind
  rw[e] at this;omega
theorem zCW {B:Nat} {a b:Int × Int} {m n p:Int} (h:Abs a m) (k:Abs b n) (hp:m*n<=p*Q B):Abs (zAJ B a b) p:=by
 obtain⟨h1,h2,h3,h4⟩:=h;obtain⟨k1,k2,k3,k4⟩:=k;have q:=zE B;have c1:=yI h1 h2 k1 k2;have c2:=yI h1 h2 k3 k4;have c3:=yI h3 h4 k1 k2;have c4:=yI h3 h4 k3 k4;have l:=(zED (a.1*b.1) (a.1*b.2) (a.2*b.1) (a.2*b.2)).2.2.2.2;have g:=(zDB (a.1*b.1) (a.1*b.2) (a.2*b.1) (a.2*b.2)).2.2.2.2;have r1:=kD (x:=kK (pr4 (a.1*b.1) (a.1*b.2) (a.2*b.1) (a.2*b.2)) 3) (m:=p) (show 0<Q B by omega) (by omega) (by omega)
 have r2:=kD (x:=kA (pr4 (a.1*b.1) (a.1*b.2) (a.2*b.1) (a.2*b.2)) 3) (m:=p) (show 0<Q B by omega) (by omega) (by omega)
 exact⟨r1.1,r1.2.1,r2.2.2.1,r2.2.2.2⟩
theorem zB4 (B:Nat) {a b:Int × Int}:(zAJ B a b).1<=(zAJ B a b).2:=by
 have q:=zE B;have l:=zED (a.1*b.1) (a.1*b.2) (a.2*b.1) (a.2*b.2);have g:=zDB (a.1*b.1) (a.1*b.2) (a.2*b.1) (a.2*b.2);simp only[zAJ];have a1:=zFA (kK (pr4 (a.1*b.1) (a.1*b.2) (a.2*b.1) (a.2*b.2)) 3) (Q B) (by omega)
 have a2:=zC6 (kA (pr4 (a.1*b.1) (a.1*b.2) (a.2*b.1) (a.2*b.2)) 3) (Q B) (by omega)
 refine Int.not_lt.1 λ hn=>?_
 have:=Int.mul_lt_mul_of_pos_right hn (show 0<Q B by omega)
 omega
theorem zE1 {a:Int × Int} {m n d:Int} (h:Abs a m) (hd:0<d) (hn:0<=n) (od:n<=d):Abs (zK a n d) m:=by
 have m0:=h.nonneg;obtain⟨h1,h2,h3,h4⟩:=h;have p:=Yz m0 (show 0<=d-n by omega)
 have c1:=yI h1 h2 (show -n<=n by omega) (Int.le_refl n)
 have c2:=yI h3 h4 (show -n<=n by omega) (Int.le_refl n)
 rw[Int.mul_sub] at p;have r1:=kD (x:=a.1*n) (m:=m) hd (by omega) (by omega)
 have r2:=kD (x:=a.2*n) (m:=m) hd (by omega) (by omega)
 exact⟨r1.1,r1.2.1,r2.2.2.1,r2.2.2.2⟩
theorem kN {a:Int × Int} {n d:Int} (h:a.1<=a.2) (hd:0<d) (hn:0<=n):(zK a n d).1<=(zK a n d).2:=by
 simp only[zK];have a1:=zFA (a.1*n) d hd;have a2:=zC6 (a.2*n) d hd;have a3:=Yt h hn;refine Int.not_lt.1 λ hn=>?_
 have:=Int.mul_lt_mul_of_pos_right hn hd;omega
theorem zLS {x y x' y' a1 a2 b1 b2 m n:Int} (hx:x=a1\/x=a2) (hy:y=b1\/y=b2) (rJ:x'=a1\/x'=a2) (po:y'=b1\/y'=b2)
  (ha:a1<=a2) (hb:b1<=b2) (h1 : -m<=a1) (h2:a1<=m) (h3 : -m<=a2) (h4:a2<=m) (k1 : -n<=b1) (k2:b1<=n) (k3 : -n<=b2) (k4:b2<=n) :
  x*y-x'*y'<=m*(b2-b1)+n*(a2-a1):=by
 have e:x*y-x'*y'=x*(y-y')+(x-x')*y':=by grind
 rw[e];have c1 : -m<=x/\x<=m:=by rcases hx with h|h<;>subst h<;>exact⟨by assumption,by assumption⟩
 have c2 : -n<=y'/\y'<=n:=by rcases po with h|h<;>subst h<;>exact⟨by assumption,by assumption⟩
 have d1 : -(b2-b1)<=y-y'/\y-y'<=b2-b1:=by rcases hy with h|h<;>rcases po with h'|h'<;>omega
 have d2 : -(a2-a1)<=x-x'/\x-x'<=a2-a1:=by rcases hx with h|h<;>rcases rJ with h'|h'<;>omega
 have g1:=(yI c1.1 c1.2 d1.1 d1.2).2;have g2:=(yI d2.1 d2.2 c2.1 c2.2).2;rw[Int.mul_comm n];omega
theorem zBT {x y q c:Int} (hq:0<q) (h:x-y<=c*q) : -(-x/q)-y/q<=c+1:=by
 have a1:=zLP x q hq;have a2:=flo_gt y q hq;refine Int.not_lt.1 λ hn=>?_
 have:=Yt (show c+2 <= -(-x/q)-y/q by omega) (show 0<=q by omega)
 rw[Int.sub_mul,Int.add_mul] at this;omega
theorem zAZ {B:Nat} {a b:Int × Int} {m n c:Int} (h:Abs a m) (k:Abs b n) (ha:a.1<=a.2) (hb:b.1<=b.2) (hc:m*(b.2-b.1)+n*(a.2-a.1)<=c*Q B):(zAJ B a b).2-(zAJ B a b).1<=c+1:=by
 obtain⟨h1,h2,h3,h4⟩:=h;obtain⟨k1,k2,k3,k4⟩:=k;have q:=zE B;have l:=(zED (a.1*b.1) (a.1*b.2) (a.2*b.1) (a.2*b.2)).2.2.2.2;have g:=(zDB (a.1*b.1) (a.1*b.2) (a.2*b.1) (a.2*b.2)).2.2.2.2;refine zBT (show 0<Q B by omega) (Int.le_trans ?_ hc)
 have key:=λ x y x' y' (hx:x=a.1\/x=a.2) (hy:y=b.1\/y=b.2) (rJ:x'=a.1\/x'=a.2) (po:y'=b.1\/y'=b.2)=>zLS hx hy rJ po ha hb h1 h2 h3 h4 k1 k2 k3 k4
 rcases g with g|g|g|g<;>rcases l with l|l|l|l<;>rw[g,l]<;>exact key _ _ _ _ (by simp) (by simp) (by simp) (by simp)
theorem kJ {a:Int × Int} {n d c:Int} (hd:0<d) (h:(a.2-a.1)*n<=c*d):(zK a n d).2-(zK a n d).1<=c+1:=by
 refine zBT hd ?_;rw[<- Int.sub_mul];exact h
def Iv (B:Nat) (a:Int × Int) (x:Nat->Rat):Prop:=Has ((a.1:Rat)/(Q B:Rat)) ((a.2:Rat)/(Q B:Rat)) x
theorem jJ (B:Nat):(0:Rat)<(Q B:Rat):=by exact_mod_cast (show (0:Int)<Q B by have:=zE B;omega)
theorem jS {a b c:Rat} (hc:0<c) (h:a*c<=b):a<=b/c:=by
 have e:=rdm (a:=b) hc;generalize b/c=q at *;refine Rat.not_lt.1 λ hn=>?_
 have:=Rat.mul_pos hc (show 0<a-q by grind)
 grind
theorem jR {a b c:Rat} (hc:0<c) (h:a<=b*c):a/c<=b:=by
 have e:=rdm (a:=a) hc;generalize a/c=q at *;refine Rat.not_lt.1 λ hn=>?_
 have:=Rat.mul_pos hc (show 0<q-b by grind)
 grind
theorem jA {a b:Int} (h:a<=b):(a:Rat)<=(b:Rat):=by exact_mod_cast h
theorem zKD {L u v q:Int} (hq:0<q) (h:L*q<=u*v):(L:Rat)/(q:Rat)<=(u:Rat)/(q:Rat)*((v:Rat)/(q:Rat)):=by
 have q0:(0:Rat)<(q:Rat):=by exact_mod_cast hq
 have e1:=rdm (a:=(u:Rat)) q0;have e2:=rdm (a:=(v:Rat)) q0;have h1:=jA h;rw[YA,YA] at h1;refine jR q0 ?_;generalize (u:Rat)/(q:Rat)=U at *;generalize (v:Rat)/(q:Rat)=V at *;rw[<- e1,<- e2] at h1;refine Rat.not_lt.1 λ hn=>?_
 have:=Rat.mul_pos (show 0<(L:Rat)-U*V*(q:Rat) by grind) q0
 grind
theorem zKB {L u v q:Int} (hq:0<q) (h:u*v<=L*q):(u:Rat)/(q:Rat)*((v:Rat)/(q:Rat))<=(L:Rat)/(q:Rat):=by
 have q0:(0:Rat)<(q:Rat):=by exact_mod_cast hq
 have e1:=rdm (a:=(u:Rat)) q0;have e2:=rdm (a:=(v:Rat)) q0;have h1:=jA h;rw[YA,YA] at h1;refine jS q0 ?_;generalize (u:Rat)/(q:Rat)=U at *;generalize (v:Rat)/(q:Rat)=V at *;rw[<- e1,<- e2] at h1;refine Rat.not_lt.1 λ hn=>?_
 have:=Rat.mul_pos (show 0<U*V*(q:Rat)-(L:Rat) by grind) q0
 grind
theorem Iv.mul {B:Nat} {a b:Int × Int} {x y:Nat->Rat} (h:Iv B a x) (k:Iv B b y):Iv B (zAJ B a b) (λ M=>x M*y M):=by
 have q0:0<Q B:=by have:=zE B;omega
 have l:=zED (a.1*b.1) (a.1*b.2) (a.2*b.1) (a.2*b.2);have g:=zDB (a.1*b.1) (a.1*b.2) (a.2*b.1) (a.2*b.2);have fl:=zFA (kK (pr4 (a.1*b.1) (a.1*b.2) (a.2*b.1) (a.2*b.2)) 3) (Q B) q0;have ce:=zC6 (kA (pr4 (a.1*b.1) (a.1*b.2) (a.2*b.1) (a.2*b.2)) 3) (Q B) q0;exact Has.mul h k (zKD q0 (Int.le_trans fl l.1)) (zKD q0 (Int.le_trans fl l.2.1)) (zKD q0 (Int.le_trans fl l.2.2.1)) (zKD q0 (Int.le_trans fl l.2.2.2.1)) (zKB q0 (Int.le_trans g.1 ce)) (zKB q0 (Int.le_trans g.2.1 ce)) (zKB q0 (Int.le_trans g.2.2.1 ce)) (zKB q0 (Int.le_trans g.2.2.2.1 ce))
theorem zBY (a b c:Rat):(a+b)/c=a/c+b/c:=by rw[YE,YE,YE,Rat.add_mul]
theorem zI1 (a b c:Rat):(a-b)/c=a/c-b/c:=by rw[Rat.sub_eq_add_neg,YE,Rat.add_mul,Rat.neg_mul,YE,YE,<- Rat.sub_eq_add_neg]
theorem Iv.add {B:Nat} {a b:Int × Int} {x y:Nat->Rat} (h:Iv B a x) (k:Iv B b y):Iv B (zAR a b) (λ M=>x M+y M):=by
 have:=Has.add h k;rw[<- zBY,<- zBY,<- Rat.intCast_add,<- Rat.intCast_add] at this;exact this
theorem Iv.sub {B:Nat} {a b:Int × Int} {x y:Nat->Rat} (h:Iv B a x) (k:Iv B b y):Iv B (zJA a b) (λ M=>x M-y M):=by
 have:=Has.sub h k;rw[<- zI1,<- zI1,<- Rat.intCast_sub,<- Rat.intCast_sub] at this;exact this
theorem Iv.times {B:Nat} {a:Int × Int} {x:Nat->Rat} (h:Iv B a x) (n:Nat):Iv B (kI a n) (λ M=>(n:Rat)*x M):=by
 have:=Has.scale h (c:=(n:Rat)) (by exact_mod_cast Nat.zero_le n)
 have e:∀ z:Int,(n:Rat)*((z:Rat)/(Q B:Rat))=((z*(n:Int):Int):Rat)/(Q B:Rat):=λ z=>by
  rw[YA,YE,YE,<- Rat.mul_assoc,Rat.mul_comm (n:Rat)];rfl
 rw[e,e] at this;exact this
theorem zSA {L u n d q:Int} (hd:0<d) (hq:0<q) (h:L*d<=u*n):(L:Rat)/(q:Rat)<=(n:Rat)/(d:Rat)*((u:Rat)/(q:Rat)):=by
 have q0:(0:Rat)<(q:Rat):=by exact_mod_cast hq
 have d0:(0:Rat)<(d:Rat):=by exact_mod_cast hd
 have e1:=rdm (a:=(u:Rat)) q0;have e2:=rdm (a:=(n:Rat)) d0;have h1:=jA h;rw[YA,YA] at h1;refine jR q0 ?_;generalize (u:Rat)/(q:Rat)=U at *;generalize (n:Rat)/(d:Rat)=V at *;rw[<- e1,<- e2] at h1;refine Rat.not_lt.1 λ hn=>?_
 have:=Rat.mul_pos (show 0<(L:Rat)-V*U*(q:Rat) by grind) d0
 grind
theorem zR9 {L u n d q:Int} (hd:0<d) (hq:0<q) (h:u*n<=L*d):(n:Rat)/(d:Rat)*((u:Rat)/(q:Rat))<=(L:Rat)/(q:Rat):=by
 have q0:(0:Rat)<(q:Rat):=by exact_mod_cast hq
 have d0:(0:Rat)<(d:Rat):=by exact_mod_cast hd
 have e1:=rdm (a:=(u:Rat)) q0;have e2:=rdm (a:=(n:Rat)) d0;have h1:=jA h;rw[YA,YA] at h1;refine jS q0 ?_;generalize (u:Rat)/(q:Rat)=U at *;generalize (n:Rat)/(d:Rat)=V at *;rw[<- e1,<- e2] at h1;refine Rat.not_lt.1 λ hn=>?_
 have:=Rat.mul_pos (show 0<V*U*(q:Rat)-(L:Rat) by grind) d0
 grind
theorem Iv.scale {B:Nat} {a:Int × Int} {x:Nat->Rat} (h:Iv B a x) {n d:Int} (hn:0<=n) (hd:0<d):Iv B (zK a n d) (λ M=>(n:Rat)/(d:Rat)*x M):=by
 have q0:0<Q B:=by have:=zE B;omega
 have d0:(0:Rat)<(d:Rat):=by exact_mod_cast hd
 have n0:(0:Rat)<=(n:Rat):=by exact_mod_cast hn
 have c0:0<=(n:Rat)/(d:Rat):=jS d0 (by grind)
 exact (Has.scale h c0).mono (zSA hd q0 (zFA (a.1*n) d hd)) (zR9 hd q0 (zC6 (a.2*n) d hd))
theorem Iv.of (B:Nat) {n d:Int} (hd:0<d):Iv B (ofI n d B) (λ _=>(n:Rat)/(d:Rat)):=by
 have q0:0<Q B:=by have:=zE B;omega
 have qr:=jJ B
 have e:(n:Rat)/(d:Rat)*((Q B:Rat)/(Q B:Rat))=(n:Rat)/(d:Rat):=by
  rw[YE (Q B:Rat),Rat.mul_inv_cancel _ (by grind),Rat.mul_one]
 have l:=zSA hd q0 (L:=(ofI n d B).1) (u:=Q B) (n:=n) (by rw[Int.mul_comm (Q B)];exact zFA (n*Q B) d hd)
 have g:=zR9 hd q0 (L:=(ofI n d B).2) (u:=Q B) (n:=n) (by rw[Int.mul_comm (Q B)];exact zC6 (n*Q B) d hd)
 rw[e] at l g;exact Has.const l g
theorem Iv.to {B m:Nat} {a:Int × Int} {x:Nat->Rat} (h:Iv (B+m) a x):Iv B (zG a m) x:=by
 have q:=jJ B;have qm:=jJ m;have e:(Q (B+m):Rat)=(Q B:Rat)*(Q m:Rat):=by rw[jF,YA]
 have f1:=zFA a.1 (Q m) (by have:=zE m;omega)
 have f2:=zC6 a.2 (Q m) (by have:=zE m;omega)
 have q2:0<(Q B:Rat)*(Q m:Rat):=Rat.mul_pos q qm;unfold Iv at h;rw[e] at h;refine Has.mono h ?_ ?_
 ·have g:(((zG a m).1*Q m:Int):Rat)<=((a.1:Int):Rat):=jA f1
  rw[YA] at g;refine jS q2 ?_;have ea:=rdm (a:=((zG a m).1:Rat)) q;generalize ((zG a m).1:Rat)/(Q B:Rat)=U at *;generalize ((zG a m).1:Rat)=L at *;rw[<- ea] at g;grind
 ·have g:((a.2:Int):Rat)<=(((zG a m).2*Q m:Int):Rat):=jA f2
  rw[YA] at g;refine jR q2 ?_;have ea:=rdm (a:=((zG a m).2:Rat)) q;generalize ((zG a m).2:Rat)/(Q B:Rat)=U at *;generalize ((zG a m).2:Rat)=L at *;rw[<- ea] at g;grind
theorem Iv.down {B:Nat} {a:Int × Int} {x:Nat->Rat} (h:Iv B a x) (t:Nat):Iv B (zG a t) (λ M=>x M/(Q t:Rat)):=by
 have qt:0<Q t:=by have:=zE t;omega
 have:=h.scale (n:=1) (d:=Q t) (by omega) qt
 have e:zK a 1 (Q t)=zG a t:=by simp[zK,zG]
 rw[e] at this;refine Has.of_eq this λ M=>?_
 rw[YE,YE,Rat.mul_comm];simp
theorem Iv.touch {B C:Nat} {a b:Int × Int} {x:Nat->Rat} (h:Iv B a x) (k:Iv C b x):a.1*Q C<=b.2*Q B:=by
 have q:=jJ B;have q':=jJ C;have t:=Has.touch h k;have e1:=rdm (a:=(a.1:Rat)) q;have e2:=rdm (a:=(b.2:Rat)) q'
 have:((a.1*Q C:Int):Rat)<=((b.2*Q B:Int):Rat):=by
  rw[YA,YA];generalize (a.1:Rat)/(Q B:Rat)=U at *;generalize (b.2:Rat)/(Q C:Rat)=V at *;rw[<- e1,<- e2];have:=Ys (Ys (show 0<=V-U by grind) (Yw q)) (Yw q')
  grind
 exact_mod_cast this
theorem Iv.touch_le {B:Nat} {a b:Int × Int} {x y z:Nat->Rat} (h:Iv B a x) (k:Iv B b y) (hz:Null z) (N0:Nat) (K6:∀ M,N0<=M->x M<=y M+z M):a.1<=b.2:=by
 have q:=jJ B;have t:=Has.touch_le h k hz N0 K6;have e1:=rdm (a:=(a.1:Rat)) q;have e2:=rdm (a:=(b.2:Rat)) q
 have:((a.1:Int):Rat)<=((b.2:Int):Rat):=by
  generalize (a.1:Rat)/(Q B:Rat)=U at *;generalize (b.2:Rat)/(Q B:Rat)=V at *;rw[<- e1,<- e2];have:=Ys (show 0<=V-U by grind) (Yw q)
  grind
 exact_mod_cast this
theorem Iv.congr {B:Nat} {a:Int × Int} {x y:Nat->Rat} (h:Iv B a x) (k:Null (λ M=>y M-x M)):Iv B a y:=Has.congr h k
end Go.Proofs.YtgmnknmjainabacGreat
