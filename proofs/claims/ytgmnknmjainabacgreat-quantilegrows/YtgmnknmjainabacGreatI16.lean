/-
  Its own texts.
-/
import Derived.Test.YtgmnknmjainabacGreatI15
set_option maxRecDepth 100000
set_option maxHeartbeats 40000000
set_option linter.unusedVariables false
namespace Go.Proofs.YtgmnknmjainabacGreat.Ex
structure IsGam (L:Rat->Nat->Rat) (a:Rat) (g:Nat->Rat):Prop where
 bdd:Bdd g
 pos:∃ c:Rat,0<c/\∃ N:Nat,∀ M,N<=M->c<=g M
 lo:∀ x,0<x->LeN (uG L a x) g
 hi:∀ x,1<=x->2*a<=x+2->LeN g (λ M=>uG L a x M+2*uE L a x M)
theorem zLF {f g k:Nat->Rat} (h1:LeN f g) (h2:LeN g k) (bf:Bdd f) (bk:Bdd k):Bdd g:=by
 obtain⟨N1,a1⟩:=h1 1 (by grind)
 obtain⟨N2,a2⟩:=h2 1 (by grind)
 obtain⟨K1,M1,cX,b1⟩:=bf;obtain⟨K2,M2,FR,b2⟩:=bk;refine⟨K1+K2+1,N1+N2+M1+M2,by grind,λ M hM=>?_⟩
 have:=a1 M (by omega)
 have:=a2 M (by omega)
 have:=b1 M (by omega)
 have:=b2 M (by omega)
 obtain⟨c1,c2⟩:=this;obtain⟨d1,d2⟩:=‹AB (f M) K1›;exact⟨by grind,by grind⟩
theorem uG_low {L:Rat->Nat->Rat} (hL:Lns L) {a x:Rat} (ha:0<a) (hx:0<x):∃ c:Rat,0<c/\∃ N:Nat,∀ M,N<=M->c<=uG L a x M:=by
 obtain⟨c1,p1,N1,h1⟩:=zB4 (kF hL hx a);obtain⟨c2,p2,N2,h2⟩:=zB4 (Bdd.const (-x));have ip:0<1/a:=zF (by grind) ha
 refine⟨c1*c2*(1/a),Rat.mul_pos (Rat.mul_pos p1 p2) ip,N1+N2+1,λ M hM=>?_⟩
 obtain⟨m,rfl⟩:∃ m,M=m+1:=⟨M-1,by omega⟩
 have f:=zFS ha (YC hx) m;have a1:=h1 (m+1) (by omega)
 have a2:=h2 (m+1) (by omega)
 have b:c1*c2<=pr L a x (m+1)*ex (-x) (m+1):=Rat.le_trans (YB a1 (YC p2)) (Yy a2 (show 0<=pr L a x (m+1) by unfold pr;grind))
 have c0:=Yz (YC p1) (YC p2);unfold uG;exact Rat.le_trans (YB b (YC ip)) (Yy f (by grind))
theorem zTA {f g:Nat->Rat} (h:LeN f g) (k:∃ c:Rat,0<c/\∃ N:Nat,∀ M,N<=M->c<=f M):∃ c:Rat,0<c/\∃ N:Nat,∀ M,N<=M->c<=g M:=by
 obtain⟨c,c0,N,hc⟩:=k;obtain⟨N2,h2⟩:=h (c/2) (by grind)
 exact⟨c/2,by grind,N+N2,λ M hM=>by have:=hc M (by omega);have:=h2 M (by omega);grind⟩
theorem Gam1.isGam {L:Rat->Nat->Rat} (hL:Lns L) {a:Rat} {g:Nat->Rat} (ha:0<a) (h:Gam1 L a g):IsGam L a g:=by
 have one:(0:Rat)<1:=by grind
 refine⟨zLF (h.lo 1 one) (h.hi 1 one) (zT6 hL ha one) ((zT6 hL ha one).add (uE_bdd hL one a)),zTA (h.lo 1 one) (uG_low hL ha one),h.lo,λ x hx _=>(h.hi x (by grind)).trans ?_⟩
 obtain⟨N,hN⟩:=zPQ hL (show 0<x by grind) a
 exact LeN.of_le N λ M hM=>by have:=hN M hM;grind
theorem uE_next {L:Rat->Nat->Rat} (hL:Lns L) {x:Rat} (hx:0<x) (a:Rat):Null (λ M=>x*uE L a x M-uE L (a+1) x M):=by
 refine (zOB hL hx a).of_eq λ M=>?_
 have e:a+1-1=a:=by grind
 unfold uE;rw[e]
theorem zT8 {L:Rat->Nat->Rat} (hL:Lns L) {a x:Rat} (ha:0<a) (hx:0<x):Null (λ M=>uG L (a+1) x M-(a*uG L a x M-uE L (a+1) x M)):=by
 have x0:=YC hx;have a1:0<a+1:=by grind
 have h1:=zJ8 hL hx a 1;have h2:=(zE9 hL hx).bmul (kK hL hx a);have b:=(jZ (-x)).mul (zDV a1 x0);have h3:=(h2.sub h1).bmul b;have h4:=(zI6 ha x0).bmul (((Bdd.const a).mul (kK hL hx a)).mul (jZ (-x)));refine (h4.add h3).of_eq λ M=>?_
 have e1:=uS_next ha x M;have e2:uS a x (M+1)=uS a x M+upT a x M:=rfl;have e3:a+1-1=a:=by grind
 unfold uG uE;rw[e3];have e4:x*uS (a+1) x M=a*(uS a x M+upT a x M)-1:=by rw[<- e2,e1];grind
 generalize pr L a x M=p at *;generalize pr L (a+1) x M=p1 at *;generalize ex (-x) M=y at *;generalize pr L 1 x M=p2 at *;generalize upT a x M=t at *;generalize uS a x M=s at *;generalize uS (a+1) x M=s1 at *;have k:p*y*(x*s1)=p*y*(a*(s+t)-1):=by rw[e4]
 clear e1 e2 e3 e4 h1 h2 h3 h4;grind
theorem IsGam.next {L:Rat->Nat->Rat} (hL:Lns L) {a:Rat} {g:Nat->Rat} (ha:0<a) (h:IsGam L a g):IsGam L (a+1) (λ M=>a*g M):=by
 have a0:=YC ha;refine⟨(Bdd.const a).mul h.bdd,?_,λ x hx=>?_,λ x hx aV=>?_⟩
 ·obtain⟨c,c0,N,hc⟩:=h.pos
  exact⟨a*c,Rat.mul_pos ha c0,N,λ M hM=>Yy (hc M hM) a0⟩
 ·refine (LeN.of_eqN (zT8 hL ha hx)).trans (LeN.trans ?_ ((h.lo x hx).cmul a0))
  obtain⟨N,hN⟩:=zPQ hL hx (a+1);exact LeN.of_le N λ M hM=>by have:=hN M hM;grind
 ·have x0:0<x:=by grind
  refine ((h.hi x hx (by grind)).cmul a0).trans ?_
  obtain⟨z,hz,kz⟩:=(LeN.of_eqN (uE_next hL x0 a)).null;obtain⟨N,hN⟩:=zPQ hL x0 a;refine LeN.of_null ((zT8 hL ha x0).neg.add hz) N λ M hM=>?_
  have k:=kz M;have n:=hN M hM;have m:=YB (show 2*a<=x by grind) n
  generalize uG L (a+1) x M=w1 at *;generalize uE L (a+1) x M=w2 at *;generalize uG L a x M=w3 at *;generalize uE L a x M=w4 at *;grind
theorem zR0 {f g:Nat->Rat} (h:∀ n:Nat,LeN f (λ M=>g M+q2 n)):LeN f g:=λ e he=>by
 obtain⟨N,hN⟩:=null_q2 (e/2) (by grind)
 obtain⟨N2,h2⟩:=h N (e/2) (by grind)
 have q:=(hN N (YE _)).2;exact⟨N2,λ M hM=>by have:=h2 M hM;grind⟩
theorem zF3 (n : Nat) : LeN (ex (-(n : Rat))) (fun _ => q2 n) := by
  induction n with
  | zero =>
    refine LeN.of_le 1 fun M hM => ?_
    obtain ⟨m, rfl⟩ : ∃ m, M = m + 1 := ⟨M - 1, by omega⟩
    have e : -((0 : Nat) : Rat) = 0 := by have : ((0 : Nat) : Rat) = 0 := rfl
                                          rw [this]; grind
    rw [e]
    have : ex 0 (m + 1) = 1 := kT m
    rw [this]
    show (1 : Rat) ≤ 1
    exact Rat.le_refl
  | succ n ih =>
    have c : ((n + 1 : Nat) : Rat) = (n : Rat) + 1 := by push_cast; rfl
    have l : LeN (fun _ => (2 : Rat)) (ex 1) := LeN.of_le 2 fun M hM => by have := zI8 (x := 1) (by grind) hM; show 2 ≤ E 1 M; grind
    have m := l.bmul (jZ (-((n : Rat) + 1))) (zDQ _)
    have s := zA5 1 (-((n : Rat) + 1))
    have e : 1 + -((n : Rat) + 1) = -(n : Rat) := by grind
    rw [e] at s
    have k := (m.trans (LeN.of_eqN s)).trans ih
    rw [c]
    refine LeN.trans (LeN.of_le 0 fun M _ => ?_) ((k.cmul (c := 1 / 2) (by grind)).trans (LeN.of_le 0 fun M _ => ?_))
    · grind
    · show 1 / 2 * q2 n ≤ q2 (n + 1)
      have : q2 (n + 1) = q2 n / 2 := rfl
      rw [this]; grind
theorem uS_one {x:Rat} (M:Nat):x*uS 1 x M=E x (M+1)-1:=by
 have t:∀ n:Nat,x*upT 1 x n=tm x (n+1):=λ n=>by
  induction n with
  | zero =>
   have e:=kR x 0;have c:((0:Nat):Rat)=0:=rfl;rw[c] at e;have e2:tm x 0=1:=rfl;rw[e2] at e;have e3:=yX (show (0:Rat)<1 by grind) x
   grind
  | succ n ih =>
   have e1:=jX (show (0:Rat)<1 by grind) x n
   have e2:=kR x (n+1);have c:((n+1:Nat):Rat)=(n:Rat)+1:=by push_cast;rfl
   rw[c] at e2;refine zX (show 0<(n:Rat)+1+1 by have:=zAV n;grind) ?_
   rw[e2,<- ih];grind
 induction M with
 | zero=>show x*0=(0+1)-1;grind
 | succ n ih =>
  have:=t n;have e:E x (n+1+1)=E x (n+1)+tm x (n+1):=rfl;rw[yS,e];grind
theorem gam_one {L:Rat->Nat->Rat} (hL:Lns L) {g:Nat->Rat} (h:Gam1 L 1 g):Null (λ M=>g M-1):=by
 have key:∀ x,0<x->Null (λ M=>uG L 1 x M-(1-ex (-x) M)):=λ x hx=>by
  have x0:=YC hx;have s:=zA5 x (-x);have e:x + -x=0:=by grind
  rw[e] at s;have h2:=(zE9 hL hx).bmul ((jZ (-x)).mul (zDV (show (0:Rat)<1 by grind) x0))
  obtain⟨K,k0,hK⟩:=zPO x
  have tn:Null (tm x):=(zB0 K k0).of_le 1 λ M hM=>(hK M).mono (by
   have m1:(1:Rat)<=(M:Rat):=by exact_mod_cast hM
   have:=Yy m1 (Yz k0 (YC (yD M)))
   grind)
  have h3:=tn.bmul (jZ (-x));refine ((h2.add h3).add s).of_eq_from 1 λ M hM=>?_
  have e0:ex 0 M=1:=by
   obtain⟨m,rfl⟩:∃ m,M=m+1:=⟨M-1,by omega⟩
   exact kT m
  have e1:=uS_one (x:=x) M;have e2:E x (M+1)=ex x M+tm x M:=rfl;rw[e0];unfold uG;rw[e2] at e1;generalize pr L 1 x M=p at *;generalize ex (-x) M=y at *;generalize uS 1 x M=u at *;generalize ex x M=v at *;generalize tm x M=t at *;have k:y*(x*u)=y*(v+t-1):=by rw[e1]
  grind
 have up:LeN g (λ _=>1):=by
  refine (h.hi 1 (by grind)).trans ?_
  refine LeN.of_null (key 1 (by grind)) 1 λ M hM=>?_
  have e:pr L (1-1) 1 M=1:=by
   obtain⟨m,rfl⟩:∃ m,M=m+1:=⟨M-1,by omega⟩
   unfold pr Ev;have e:(1-1:Rat)*L 1 (m+1)=0:=by grind
   show E ((1-1)*L 1 (m+1)) (m+1)=1
   rw[e];exact kT m
  unfold uE;rw[e];grind
 have dn:LeN (λ _=>(1:Rat)) g:=by
  refine zR0 λ n=>?_
  have n1:(0:Rat)<(n:Rat)+1:=zAV n;have a:=h.lo _ n1;obtain⟨z,hz,kz⟩:=(a.add (zF3 (n+1))).null;have c:((n+1:Nat):Rat)=(n:Rat)+1:=by push_cast;rfl
  refine LeN.of_null (hz.add (key _ n1).neg) 0 λ M _=>?_
  have k:=kz M;have e:q2 (n+1)=q2 n/2:=rfl;have q:=yC n;rw[c,e] at k;grind
 exact up.eq dn
theorem zSC {L:Rat->Nat->Rat} (hL:Lns L) {g:Nat->Rat} (hb:Bdd g) (hp:∃ c:Rat,0<c/\∃ N:Nat,∀ M,N<=M->c<=g M):∃ l,IsLog l g:=by
 obtain⟨c,c0,N1,hc⟩:=hp;obtain⟨K,N2,k0,hK⟩:=hb;have Kc:0<K+c:=by grind
 obtain⟨B1,M1,b10,h1⟩:=(hL c c0).1;obtain⟨B2,M2,b20,h2⟩:=(hL (K+c) Kc).1
 have each:∀ M,∃ y:Rat,N1+N2<=M->AB y (B1+B2+1)/\∃ j,M<=j/\AB (E y j-g M) (q2 M):=λ M=>by
  by_cases hM:N1+N2<=M
  ·have gc:=hc M (by omega)
   have gK:=(hK M (by omega)).2
   have gp:0<g M:=by grind
   obtain⟨n1,p1⟩:=(hL c c0).le (hL _ gp) null_zero 0 (λ _ _=>by grind) 1 (by grind)
   obtain⟨n2,p2⟩:=(hL _ gp).le (hL _ Kc) null_zero 0 (λ _ _=>by grind) 1 (by grind)
   obtain⟨n3,p3⟩:=(hL _ gp).2 (q2 M) (yC M);obtain⟨j,hj⟩:∃ j,j=M+M1+M2+n1+n2+n3:=⟨_,rfl⟩;refine⟨L (g M) j,λ _=>⟨?_,j,by omega,p3 j (by omega)⟩⟩
   have r1:=p1 j (by omega)
   have r2:=p2 j (by omega)
   have r3:=(h1 j (by omega)).1
   have r4:=(h2 j (by omega)).2
   exact⟨by grind,by grind⟩
  ·exact⟨0,λ h=>absurd h hM⟩
 obtain⟨l,hl⟩:=Classical.skolem.1 each;obtain⟨T,t0,hT⟩:=zMB (B1+B2+1);refine⟨l,⟨_,N1+N2,by grind,λ M hM=>(hl M hM).1⟩,?_⟩
 have z:=(zB0 (2*T) (by grind)).add null_q2
 refine z.of_le (N1+N2+1) λ M hM=>?_
 obtain⟨a1,j,hj,a2⟩:=hl M (by omega)
 obtain⟨i,rfl⟩:∃ i,j=M+i:=⟨j-M,by omega⟩
 have s:=E_sub (l M) T (λ i=>hT _ a1 i) M i
 have m1:(1:Rat)<=(M:Rat):=by exact_mod_cast (show 1<=M by omega)
 have qm:=yD M;have qi:=yD (M+i);have mq:=Yy m1 (Yz t0 (YC qm));have mi:=Yz t0 (YC qi);obtain⟨s1,s2⟩:=s;obtain⟨d1,d2⟩:=a2
 show AB (E (l M) M-g M) _
 generalize E (l M) (M+i)=w1 at *;generalize E (l M) M=w2 at *;exact⟨by grind,by grind⟩
end Go.Proofs.YtgmnknmjainabacGreat.Ex
namespace Go.Proofs.YtgmnknmjainabacGreat.Ex
def LeA (f:Nat->Rat) (K:Rat):Prop:=∀ e:Rat,0<e->∃ N:Nat,∀ M,N<=M->AB (f M) (K+e)
theorem LeA.nonneg {f:Nat->Rat} {K:Rat} (h:LeA f K):0<=K:=by
 refine Rat.not_lt.1 λ hn=>?_
 obtain⟨N,k⟩:=h (-K/2) (by grind)
 have:=(k N (YE _)).nonneg;grind
theorem LeA.mono {f:Nat->Rat} {K K':Rat} (h:LeA f K) (k:K<=K'):LeA f K':=λ e he=>by
 obtain⟨N,h⟩:=h e he;exact⟨N,λ M hM=>(h M hM).mono (by grind)⟩
theorem LeA.of_ab {f:Nat->Rat} {K:Rat} (N:Nat) (h:∀ M,N<=M->AB (f M) K):LeA f K:=λ e he=>⟨N,λ M hM=>(h M hM).mono (by grind)⟩
theorem LeA.of_null {f:Nat->Rat} (h:Null f):LeA f 0:=λ e he=>by
 obtain⟨N,h⟩:=h e he;exact⟨N,λ M hM=>(h M hM).mono (by grind)⟩
theorem LeA.add {f g:Nat->Rat} {K L:Rat} (h:LeA f K) (k:LeA g L):LeA (λ M=>f M+g M) (K+L):=λ e he=>by
 obtain⟨N,h⟩:=h (e/2) (by grind)
 obtain⟨N',k⟩:=k (e/2) (by grind)
 exact⟨N+N',λ M hM=>((h M (by omega)).add (k M (by omega))).mono (by grind)⟩
theorem LeA.neg {f:Nat->Rat} {K:Rat} (h:LeA f K):LeA (λ M => -f M) K:=λ e he=>by
 obtain⟨N,h⟩:=h e he;exact⟨N,λ M hM=>(h M hM).neg⟩
theorem LeA.mul {f g:Nat->Rat} {K L:Rat} (h:LeA f K) (k:LeA g L):LeA (λ M=>f M*g M) (K*L):=λ e he=>by
 have k0:=h.nonneg;have l0:=k.nonneg;have hp:0<K+L+1+e:=by grind
 have d0:=zF he hp;have dm:=rdm (a:=e) hp;obtain⟨N,h⟩:=h _ d0;obtain⟨N',k⟩:=k _ d0;refine⟨N+N',λ M hM=>((h M (by omega)).mul (k M (by omega))).mono ?_⟩
 generalize e/(K+L+1+e)=d at *;have m1:=Yz (YC d0) k0;have m2:=Yz (YC d0) l0;have m3:=Yz (YC d0) (YC he)
 have d1:d<=1:=by
  refine Rat.not_lt.1 λ hn=>?_
  have:=Rat.mul_pos (show 0<d-1 by grind) hp
  have:=Rat.mul_pos d0 he;grind
 have m4:=Yz (YC d0) (show 0<=1-d by grind)
 grind
theorem LeA.const {c K:Rat} (h:AB c K):LeA (λ _=>c) K:=LeA.of_ab 0 λ _ _=>h
theorem LeA.of_eq {f g:Nat->Rat} {K:Rat} (h:LeA f K) (e:∀ M,g M=f M):LeA g K:=by
 have:g=f:=funext e;rw[this];exact h
theorem LeA.congr {f g:Nat->Rat} {K:Rat} (h:LeA f K) (k:Null (λ M=>g M-f M)):LeA g K:=by
 have:=(h.add (LeA.of_null k)).mono (K':=K) (by grind)
 exact this.of_eq λ M=>by grind
theorem Bdd.leA {f:Nat->Rat} (h:Bdd f):∃ K,LeA f K:=by
 obtain⟨K,N,k0,h⟩:=h;exact⟨K,LeA.of_ab N h⟩
theorem LeA.scale {f:Nat->Rat} {K c d:Rat} (h:LeA f K) (hc:AB c d):LeA (λ M=>c*f M) (d*K):=(LeA.const hc).mul h
def Dif (F F':Rat->Nat->Rat) (p q:Rat):Prop:=∃ C K,0<=C/\0<=K/\(∀ x,p<=x->x<=q->LeA (F x) K/\LeA (F' x) K)/\∀ x h,p<=x->x<=q->p<=x+h->x+h<=q->LeA (λ M=>F (x+h) M-F x M-h*F' x M) (C*(h*h))
theorem ab_len {p q x h:Rat} (h1:p<=x) (h2:x<=q) (h3:p<=x+h) (h4:x+h<=q):AB h (q-p):=⟨by grind,by grind⟩
theorem Dif.of_small {F F':Rat->Nat->Rat} {p q D C K:Rat} (O1:p<=q) (hD:0<D) (hC:0<=C) (hK:0<=K) (b:∀ x,p<=x->x<=q->LeA (F x) K/\LeA (F' x) K) (s:∀ x h,p<=x->x<=q->p<=x+h->x+h<=q->AB h D->LeA (λ M=>F (x+h) M-F x M-h*F' x M) (C*(h*h))):Dif F F' p q:=by
 have DD:=Rat.mul_pos hD hD;obtain⟨i,hi⟩:∃ i,i=1/(D*D):=⟨_,rfl⟩;have ip:0<i:=by rw[hi];exact zF (by grind) DD
 have im:i*(D*D)=1:=by rw[hi];exact rdm DD
 obtain⟨W,hW⟩:∃ W,W=K+K+(q-p)*K:=⟨_,rfl⟩;have W0:0<=W:=by have:=Yz (show 0<=q-p by grind) hK;grind
 have Wi:=Yz W0 (YC ip);refine⟨C+W*i,K,by grind,hK,b,λ x h h1 h2 h3 h4=>?_⟩
 have hh:=zO h
 by_cases c:AB h D
 ·refine (s x h h1 h2 h3 h4 c).mono ?_
  have:=Yz Wi hh;grind
 ·have far:D*D<=h*h:=by
   by_cases c1:0<=h
   ·have:D<=h:=by
     refine Rat.not_lt.1 λ hn=>c ⟨by grind,by grind⟩
    have:=YB this (YC hD);have:=Yy (show D<=h by assumption) c1
    grind
   ·have:D <= -h:=by
     refine Rat.not_lt.1 λ hn=>c ⟨by grind,by grind⟩
    have:=YB this (YC hD);have:=Yy (show D <= -h by assumption) (show 0 <= -h by grind)
    grind
  have l:=((b (x+h) h3 h4).1.add (b x h1 h2).1.neg).add ((b x h1 h2).2.scale (ab_len h1 h2 h3 h4)).neg;refine (l.mono ?_).of_eq λ M=>by grind
  have m1:=Yy far Wi
  have m2:W*i*(D*D)=W:=by
   have:W*i*(D*D)=W*(i*(D*D)):=by grind
   rw[this,im];grind
  have m3:=Yz hC hh;rw[m2] at m1;rw[<- hW];grind
theorem Dif.mul {F F' G G':Rat->Nat->Rat} {p q:Rat} (O1:p<=q) (h:Dif F F' p q) (k:Dif G G' p q):Dif (λ x M=>F x M*G x M) (λ x M=>F' x M*G x M+F x M*G' x M) p q:=by
 obtain⟨C1,K1,iJ,cX,b1,s1⟩:=h;obtain⟨C2,K2,Ip,FR,b2,s2⟩:=k;have W0:0<=q-p:=by grind
 have n1:=Yz iJ FR;have n2:=Yz cX Ip;have n3:=Yz W0 (Yz cX Ip);have n4:=Yz cX FR;refine⟨C1*K2+K1*C2+(q-p)*(K1*C2)+K1*K2,K1*K2+K1*K2,by grind,by grind,λ x h1 h2=>⟨?_,?_⟩,λ x h h1 h2 h3 h4=>?_⟩
 ·exact ((b1 x h1 h2).1.mul (b2 x h1 h2).1).mono (by grind)
 ·exact ((b1 x h1 h2).2.mul (b2 x h1 h2).1).add ((b1 x h1 h2).1.mul (b2 x h1 h2).2)
 ·have d1:=s1 x h h1 h2 h3 h4
  have d2:=s2 x h h1 h2 h3 h4;have f:=b1 x h1 h2;have g:=b2 x h1 h2;have g1:=b2 (x+h) h3 h4;have hb:=ab_len h1 h2 h3 h4;have hh:=zO h;have hhb:AB (h*h) (h*h):=⟨by grind,by grind⟩
  have t1:=d1.mul g1.1;have t2:=f.1.mul d2;have t3:=(f.2.mul d2).scale hb;have t4:=(f.2.mul g.2).scale hhb;refine (((t1.add t2).add (t3.add t4)).mono ?_).of_eq λ M=>?_
  ·clear t1 t2 t3 t4 d1 d2 f g g1 b1 b2 s1 s2
   grind
  ·clear t1 t2 t3 t4 d1 d2 f g g1 b1 b2 s1 s2
   dsimp only
   generalize F (x+h) M=f1;generalize F x M=f0;generalize F' x M=f';generalize G (x+h) M=g1;generalize G x M=g0;generalize G' x M=g';grind
theorem Dif.add {F F' G G':Rat->Nat->Rat} {p q:Rat} (h:Dif F F' p q) (k:Dif G G' p q):Dif (λ x M=>F x M+G x M) (λ x M=>F' x M+G' x M) p q:=by
 obtain⟨C1,K1,iJ,cX,b1,s1⟩:=h;obtain⟨C2,K2,Ip,FR,b2,s2⟩:=k;refine⟨C1+C2,K1+K2,by grind,by grind,λ x h1 h2=>⟨(b1 x h1 h2).1.add (b2 x h1 h2).1,(b1 x h1 h2).2.add (b2 x h1 h2).2⟩,λ x h h1 h2 h3 h4=>?_⟩
 refine (((s1 x h h1 h2 h3 h4).add (s2 x h h1 h2 h3 h4)).mono (by grind)).of_eq λ M=>by grind
theorem Dif.smul {F F':Rat->Nat->Rat} {p q:Rat} (h:Dif F F' p q) (c:Rat):Dif (λ x M=>c*F x M) (λ x M=>c*F' x M) p q:=by
 obtain⟨C1,K1,iJ,cX,b1,s1⟩:=h;obtain⟨d,hd⟩:=AB.self c;have d0:=hd.nonneg;refine⟨d*C1,d*K1,Yz d0 iJ,Yz d0 cX,λ x h1 h2=>⟨(b1 x h1 h2).1.scale hd,(b1 x h1 h2).2.scale hd⟩,λ x h h1 h2 h3 h4=>?_⟩
 refine (((s1 x h h1 h2 h3 h4).scale hd).mono (by grind)).of_eq λ M=>by grind
theorem Dif.sub {F F' G G':Rat->Nat->Rat} {p q:Rat} (h:Dif F F' p q) (k:Dif G G' p q):Dif (λ x M=>F x M-G x M) (λ x M=>F' x M-G' x M) p q:=by
 have:=h.add (k.smul (-1));have e1:(λ x M=>F x M + -1*G x M)=λ x M=>F x M-G x M:=by funext x M;grind
 have e2:(λ x M=>F' x M + -1*G' x M)=λ x M=>F' x M-G' x M:=by funext x M;grind
 rw[e1,e2] at this;exact this
theorem Dif.congr {F F' G':Rat->Nat->Rat} {p q:Rat} (h:Dif F F' p q) (k:∀ x,p<=x->x<=q->Null (λ M=>G' x M-F' x M)):Dif F G' p q:=by
 obtain⟨C1,K1,iJ,cX,b1,s1⟩:=h;refine⟨C1,K1,iJ,cX,λ x h1 h2=>⟨(b1 x h1 h2).1,(b1 x h1 h2).2.congr (k x h1 h2)⟩,λ x h h1 h2 h3 h4=>?_⟩
 refine (s1 x h h1 h2 h3 h4).congr (((k x h1 h2).bmul (Bdd.const (-h))).of_eq λ M=>?_)
 generalize F (x+h) M=f1;generalize F x M=f0;generalize F' x M=f';generalize G' x M=g';grind
theorem Dif.within {F F':Rat->Nat->Rat} {p q p' q':Rat} (h:Dif F F' p q) (h1:p<=p') (h2:q'<=q):Dif F F' p' q':=by
 obtain⟨C1,K1,iJ,cX,b1,s1⟩:=h;exact⟨C1,K1,iJ,cX,λ x a b=>b1 x (by grind) (by grind),λ x h a b c d=>s1 x h (by grind) (by grind) (by grind) (by grind)⟩
theorem Dif.flip {F F':Rat->Nat->Rat} {p q:Rat} (h:Dif F F' (1-q) (1-p)):Dif (λ x=>F (1-x)) (λ x M => -F' (1-x) M) p q:=by
 obtain⟨C1,K1,iJ,cX,b1,s1⟩:=h;refine⟨C1,K1,iJ,cX,λ x a b=>⟨(b1 (1-x) (by grind) (by grind)).1,(b1 (1-x) (by grind) (by grind)).2.neg⟩,λ x h a b c d=>?_⟩
 have s:=s1 (1-x) (-h) (by grind) (by grind) (by grind) (by grind)
 have e:1-x + -h=1-(x+h):=by grind
 rw[e] at s;refine (s.mono (by grind)).of_eq λ M=>by grind
theorem Dif.const (c:Nat->Rat) (hc:Bdd c) (p q:Rat):Dif (λ _=>c) (λ _ _=>0) p q:=by
 obtain⟨K,hK⟩:=hc.leA;refine⟨0,K,by grind,hK.nonneg,λ x _ _=>⟨hK,(LeA.of_null null_zero).mono hK.nonneg⟩,λ x h _ _ _ _=>?_⟩
 exact (LeA.of_null null_zero).mono (by grind) |>.of_eq λ M=>by grind
theorem Dif.le {F F':Rat->Nat->Rat} {p q:Rat} (O1:p<=q) (h:Dif F F' p q) (k:∀ x,p<=x->x<=q->LeN (λ _=>0) (F' x)):LeN (F p) (F q):=by
 obtain⟨C,K,c0,k0,b,s⟩:=h
 have key:=zCL (f:=λ x M => -F x M) (a:=p) (b:=q) (C:=C) (D:=1) O1 c0 (by grind) (λ x h h1 h2 h3 h4=>by
  have a1:=s x h h1 (by grind) (by grind) h4
  have l:LeN (λ M=>F x M) (λ M=>F (x+h) M+C*(h*h)):=λ e he=>by
   have hp:0<1+h:=by grind
   have d0:=zF he hp;have dm:=rdm (a:=e) hp;obtain⟨N1,n1⟩:=a1 _ d0;obtain⟨N2,n2⟩:=k x h1 (by grind) _ d0
   refine⟨N1+N2,λ M hM=>?_⟩
   have b1:=(n1 M (by omega)).1
   have b2:=Yy (n2 M (by omega)) (YC h2)
   dsimp only at b1 b2 ⊢
   generalize e/(1+h)=d at *;grind
  obtain⟨z,hz,kz⟩:=l.null
  exact⟨z,hz,0,λ M _=>by have:F x M<=F (x+h) M+C*(h*h)+z M:=kz M;show -F (x+h) M <= -F x M+C*(h*h)+z M;grind⟩)
 intro e he
 obtain⟨N,k⟩:=key e he;exact⟨N,λ M hM=>by have : -F q M <= -F p M+e:=k M hM;grind⟩
theorem Dif.eq {F F':Rat->Nat->Rat} {p q:Rat} (O1:p<=q) (h:Dif F F' p q) (k:∀ x,p<=x->x<=q->Null (F' x)):Null (λ M=>F p M-F q M):=by
 refine (h.le O1 λ x a b=>?_).eq ?_
 ·exact LeN.of_eqN ((k x a b).neg.of_eq λ M=>by grind)
 ·have l:=(h.smul (-1)).le O1 λ x a b=>LeN.of_eqN ((k x a b).of_eq λ M=>by grind)
  intro e he
  obtain⟨N,k⟩:=l e he;exact⟨N,λ M hM=>by have : -1*F p M <= -1*F q M+e:=k M hM;grind⟩
end Go.Proofs.YtgmnknmjainabacGreat.Ex
namespace Go.Proofs.YtgmnknmjainabacGreat.Ex
theorem zBG {x:Rat} (h:0<=x) (k:Nat):0<=pw x k:=by
 induction k with
 | zero=>show (0:Rat)<=1;grind
 | succ k ih=>exact Yz h ih
theorem zLZ {x y:Rat} (h:0<=x) (K6:x<=y) (k:Nat):pw x k<=pw y k:=by
 induction k with
 | zero=>exact Rat.le_refl
 | succ k ih=>exact Rat.le_trans (Yy ih h) (YB K6 (zBG (by grind) k))
def dw (x:Rat):Nat->Rat
 | 0=>0
 | k+1=>x*dw x k+pw x k
theorem zJQ {x:Rat} (h:0<=x) (k:Nat):0<=dw x k:=by
 induction k with
 | zero=>show (0:Rat)<=0;grind
 | succ k ih =>
  have:=Yz h ih;have:=zBG h k
  show 0<=x*dw x k+pw x k
  grind
theorem dw_mul (x:Rat) (k:Nat):x*dw x k=(k:Rat)*pw x k:=by
 induction k with
 | zero=>show x*0=((0:Nat):Rat)*1;have:((0:Nat):Rat)=0:=rfl;grind
 | succ k ih =>
  have c:((k+1:Nat):Rat)=(k:Rat)+1:=by push_cast;rfl
  show x*(x*dw x k+pw x k)=_
  rw[c,ih]
  show _=((k:Rat)+1)*(x*pw x k)
  grind
theorem dw_le {x q r:Rat} (h:0<=x) (hx:x<=q) (hr:q<=r) (k:Nat):(r-q)*dw x k<=pw r k:=by
 induction k with
 | zero=>show (r-q)*0<=1;grind
 | succ k ih =>
  have m1:=Yy ih h;have m2:=YB hx (zBG (show 0<=r by grind) k)
  have m3:=Yy (zLZ h (show x<=r by grind) k) (show 0<=r-q by grind)
  show (r-q)*(x*dw x k+pw x k)<=r*pw r k
  grind
theorem zJ9 {x y q r:Rat} (mC:0<=x) (hx:x<=q) (wX:0<=y) (hy:y<=q) (hr:q<=r) (k:Nat):0<=pw y k-pw x k-(y-x)*dw x k/\(r-q)*(r-q)*(pw y k-pw x k-(y-x)*dw x k)<=(y-x)*(y-x)*pw r k:=by
 induction k with
 | zero =>
  have:=zO (y-x);refine⟨by show 0<=(1:Rat)-1-(y-x)*0;grind,?_⟩
  show (r-q)*(r-q)*(1-1-(y-x)*0)<=(y-x)*(y-x)*1
  grind
 | succ k ih =>
  obtain⟨i1,i2⟩:=ih;have d0:=zJQ mC k;have d1:=dw_le mC hx hr k;have s:=zO (y-x);have p0:=zBG (show 0<=r by grind) k
  have e:pw y (k+1)-pw x (k+1)-(y-x)*dw x (k+1)=y*(pw y k-pw x k-(y-x)*dw x k)+(y-x)*(y-x)*dw x k:=by
   show y*pw y k-x*pw x k-(y-x)*(x*dw x k+pw x k)=_
   grind
  rw[e];have m1:=Yz wX i1;have m2:=Yz s d0;refine⟨by grind,?_⟩
  have m3:=Yy i2 wX;have m4:=Yy d1 (Yz (show 0<=r-q by grind) s)
  have m5:=Yz (Yz (show 0<=q-y by grind) s) p0
  have e2:pw r (k+1)=r*pw r k:=rfl;rw[e2];generalize pw y k-pw x k-(y-x)*dw x k=t at *;generalize dw x k=d at *;generalize pw r k=p at *;generalize (y-x)*(y-x)=u at *;clear e e2 i1 i2 d1;grind
def psS (c:Nat->Rat) (x:Rat) (M:Nat):Rat:=S (λ k=>c k*pw x k) M
def psD (c:Nat->Rat) (x:Rat) (M:Nat):Rat:=S (λ k=>c k*dw x k) M
theorem S_mono {f g:Nat->Rat} (h:∀ k,f k<=g k) (M:Nat):S f M<=S g M:=by
 induction M with
 | zero=>exact Rat.le_refl
 | succ M ih=>have:=h M;show S f M+f M<=S g M+g M;grind
theorem psS_bd {c A:Nat->Rat} {x r K:Rat} (hc:∀ k,AB (c k) (A k)) (hK:∀ M,S (λ k=>A k*pw r k) M<=K) (mC:0<=x) (hx:x<=r) (M:Nat):AB (psS c x M) K:=by
 refine (S_AB (g:=λ k=>A k*pw r k) M λ k _=>?_).mono (hK M)
 have a:=(hc k).mul (show AB (pw x k) (pw x k) from⟨by have:=zBG mC k;grind,Rat.le_refl⟩)
 exact a.mono (Yy (zLZ mC hx k) (hc k).nonneg)
theorem ps_dif {c A:Nat->Rat} {q r K:Rat} (hc:∀ k,AB (c k) (A k)) (hK:∀ M,S (λ k=>A k*pw r k) M<=K) (nH:0<=q) (hr:q<r):Dif (psS c) (psD c) 0 q:=by
 have d0:0<r-q:=by grind
 have K0:0<=K:=by have:=hK 0;have e:S (λ k=>A k*pw r k) 0=0:=rfl;grind
 obtain⟨i,hi⟩:∃ i,i=1/(r-q):=⟨_,rfl⟩;have ip:0<i:=by rw[hi];exact zF (by grind) d0
 have im:i*(r-q)=1:=by rw[hi];exact rdm d0
 have iK:=Yz (YC ip) K0;refine⟨i*i*K,K+i*K,by have:=Yz (Yz (YC ip) (YC ip)) K0;grind,by grind,λ x h1 h2=>⟨?_,?_⟩,λ x h h1 h2 h3 h4=>?_⟩
 ·exact LeA.of_ab 0 λ M _=>(psS_bd hc hK h1 (by grind) M).mono (by grind)
 ·refine LeA.of_ab 0 λ M _=>?_
  have b:AB (psD c x M) (S (λ k=>i*(A k*pw r k)) M):=S_AB M λ k _=>by
   have n:=zJQ h1 k;have l:=dw_le h1 h2 (YC hr) k
   have a:=(hc k).mul (show AB (dw x k) (i*pw r k) from⟨by have:=Yz (YC ip) (zBG (show 0<=r by grind) k);grind,by
    have m:=Yy l (YC ip);have e:i*((r-q)*dw x k)=i*(r-q)*dw x k:=by grind
    rw[e,im] at m
    grind⟩)
   exact a.mono (by grind)
  rw[zGQ] at b;refine b.mono ?_;have:=Yy (hK M) (YC ip);grind
 ·refine LeA.of_ab 0 λ M _=>?_
  have e:psS c (x+h) M-psS c x M-h*psD c x M=S (λ k=>c k*(pw (x+h) k-pw x k-h*dw x k)) M:=by
   unfold psS psD;rw[<- zGQ,<- S_sub,<- S_sub];exact kQ M λ k _=>by grind
  have b:AB (S (λ k=>c k*(pw (x+h) k-pw x k-h*dw x k)) M) (S (λ k=>h*h*(i*i)*(A k*pw r k)) M):=S_AB M λ k _=>by
   obtain⟨a1,a2⟩:=zJ9 h1 h2 h3 h4 (YC hr) k;have e1:x+h-x=h:=by grind
   rw[e1] at a1 a2;have ii:=Yz (YC ip) (YC ip);have m:=Yy a2 ii;have e2:i*i*((r-q)*(r-q)*(pw (x+h) k-pw x k-h*dw x k))=i*(r-q)*(i*(r-q))*(pw (x+h) k-pw x k-h*dw x k):=by grind
   rw[e2,im] at m;have a:=(hc k).mul (show AB (pw (x+h) k-pw x k-h*dw x k) (i*i*(h*h*pw r k)) from⟨by grind,by grind⟩)
   exact a.mono (by grind)
  rw[zGQ] at b;rw[e];refine b.mono ?_;have m:=Yy (hK M) (Yz (zO h) (Yz (YC ip) (YC ip)));grind
theorem geo {t:Nat->Rat} {ρ:Rat} (h0:∀ k,0<=t k) (hρ:ρ<1) (Rz:0<=ρ) (k0:Nat) (h:∀ k,k0<=k->t (k+1)<=ρ*t k):∃ K,0<=K/\∀ M,S t M<=K:=by
 have d0:0<1-ρ:=by grind
 obtain⟨i,hi⟩:∃ i,i=1/(1-ρ):=⟨_,rfl⟩;have ip:0<i:=by rw[hi];exact zF (by grind) d0
 have im:i*(1-ρ)=1:=by rw[hi];exact rdm d0
 have sn:∀ M,0<=S t M:=λ M=>by
  induction M with
  | zero=>show (0:Rat)<=0;grind
  | succ M ih=>have:=h0 M;show 0<=S t M+t M;grind
 have inv:∀ j,S t (k0+j)+i*t (k0+j)<=S t k0+i*t k0:=λ j=>by
  induction j with
  | zero=>exact Rat.le_refl
  | succ j ih =>
   have a:=h (k0+j) (by omega)
   have m:=Yy a (YC ip);have e:S t (k0+(j+1))=S t (k0+j)+t (k0+j):=rfl;have e2:t (k0+(j+1))=t (k0+j+1):=rfl;rw[e,e2];have r:i*(ρ*t (k0+j))=i*t (k0+j)-i*(1-ρ)*t (k0+j):=by grind
   rw[r,im] at m;grind
 have up:∀ M j,S t M<=S t (M+j):=λ M j=>by
  induction j with
  | zero=>exact Rat.le_refl
  | succ j ih=>have:=h0 (M+j);show S t M<=S t (M+j)+t (M+j);grind
 have ik:=Yz (YC ip) (h0 k0);refine⟨S t k0+i*t k0,by have:=sn k0;grind,λ M=>?_⟩
 have a:=up M k0;have b:=inv M;have c:=Yz (YC ip) (h0 (k0+M));have e:M+k0=k0+M:=Nat.add_comm _ _;rw[e] at a;grind
theorem zH7 {t:Nat->Rat} {ρ:Rat} (h0:∀ k,0<=t k) (hρ:ρ<1) (Rz:0<=ρ) (k0:Nat) (h:∀ k,k0<=k->t (k+1)<=ρ*t k):Null t:=by
 obtain⟨K,Jj,hK⟩:=geo h0 hρ Rz k0 h
 have fall:∀ k,k0<=k->t (k+1)<=t k:=λ k hk=>by
  have:=h k hk;have:=YB (YC hρ) (h0 k);grind
 have Ci:∀ j i,t (k0+(j+i))<=t (k0+j):=λ j i=>by
  induction i with
  | zero=>exact Rat.le_refl
  | succ i ih=>exact Rat.le_trans (fall (k0+(j+i)) (by omega)) ih
 have low:∀ (j m:Nat),m<=j->(m:Rat)*t (k0+j)<=S t (k0+m)-S t k0:=λ j m=>by
  induction m with
  | zero=>intro _;have:((0:Nat):Rat)=0:=rfl;rw[this];show (0:Rat)*t (k0+j)<=S t k0-S t k0;grind
  | succ m ih =>
   intro hm
   have i:=ih (by omega)
   have f:=Ci m (j-m);have e:k0+(m+(j-m))=k0+j:=by omega
   rw[e] at f;have c:((m+1:Nat):Rat)=(m:Rat)+1:=by push_cast;rfl
   have es:S t (k0+(m+1))=S t (k0+m)+t (k0+m):=rfl;rw[c,es];grind
 have s0:0<=S t k0:=by
  have:∀ M,0<=S t M:=λ M=>by
   induction M with
   | zero=>show (0:Rat)<=0;grind
   | succ M ih=>have:=h0 M;show 0<=S t M+t M;grind
  exact this k0
 intro e he
 obtain⟨n,hn⟩:=kB (K/e);refine⟨k0+n+1,λ M hM=>?_⟩
 obtain⟨j,rfl⟩:∃ j,M=k0+j:=⟨M-k0,by omega⟩
 have t0:=h0 (k0+j);refine⟨by grind,?_⟩
 have l:=low j j (YE _);have b:=hK (k0+j);have d:=rdm (a:=K) he;have jn:(n:Rat)+1<=(j:Rat):=by exact_mod_cast (show n+1<=j by omega)
 have m1:=YB hn.2 (YC he);rw[d] at m1;refine Rat.not_lt.1 λ D5=>?_
 have n0:(0:Rat)<=(n:Rat):=by exact_mod_cast Nat.zero_le n
 have m2:=YB jn t0;have m3:=Yy (YC D5) n0;grind
end Go.Proofs.YtgmnknmjainabacGreat.Ex
namespace Go.Proofs.YtgmnknmjainabacGreat.Ex
theorem zQ2 {d:Nat->Rat} {u:Rat} (h:IsLog d (λ _=>1+u)) (hu:AB u (1/16)):LeN d (λ _=>u+4*(u*u)):=by
 have uu:=zO u;have a1:u*u<=1/256:=by have:=(hu.mul hu).2;grind
 intro e he
 have hb:AB (u+4*(u*u)) (1/4):=⟨by have:=hu.1;grind,by have:=hu.2;grind⟩
 refine h.le (zCS (u+4*(u*u))) null_zero 2 (λ M hM=>?_) e he
 have k:=(zOG hb (M:=M) hM).1
 show 1+u<=E (u+4*(u*u)) M+0
 have q:(u+4*(u*u))*(u+4*(u*u))=u*u*((1+4*u)*(1+4*u)):=by grind
 have r:(1+4*u)*(1+4*u)<=2:=by have:=hu.2;grind
 have m:=Yy r uu;grind
theorem dlog_two {d:Nat->Rat} {u:Rat} (h:IsLog d (λ _=>1+u)) (hu:AB u (1/16)):LeA (λ M=>d M-u) (4*(u*u)):=λ e he=>by
 obtain⟨N1,k1⟩:=zMV h hu e he;obtain⟨N2,k2⟩:=zQ2 h hu e he;refine⟨N1+N2,λ M hM=>?_⟩
 have a1:=k1 M (by omega)
 have a2:=k2 M (by omega)
 dsimp only at a1 a2
 exact⟨by grind,by grind⟩
theorem LeA.of_abs {f g:Nat->Rat} {K:Rat} (h:LeA g K) (N0:Nat) (k:∀ M,N0<=M->AB (f M) (g M)):LeA f K:=λ e he=>by
 obtain⟨N,h⟩:=h e he;exact⟨N+N0,λ M hM=>(k M (by omega)).mono (h M (by omega)).2⟩
theorem abs_ex (u:Rat):∃ v,AB u v/\v*v=u*u:=by
 by_cases c:0<=u
 ·exact⟨u,⟨by grind,by grind⟩,rfl⟩
 ·exact⟨-u,⟨by grind,by grind⟩,by grind⟩
theorem pr_unit {d:Nat->Rat} {u c c1 v:Rat} (h:IsLog d (λ _=>1+u)) (hc:AB c c1) (hv:AB u v) (cO:v*v=u*u) (pG:v<=1/16) (hcv:c1*v<=1/16):LeA (λ M=>Ev (λ M=>c*d M) M-1-c*u) ((4*c1+8*(c1*c1))*(u*u)):=by
 have c0:=hc.nonneg;have v0:=hv.nonneg;have l:=dlog_two h (hv.mono pG)
 have ld:LeA d (2*v):=by
  refine ((l.add (LeA.const hv)).mono ?_).of_eq λ M=>by grind
  have:=Yy pG v0;rw[<- cO];grind
 have ly:LeA (λ M=>c*d M) (c1*(2*v)):=ld.scale hc
 obtain⟨N,hN⟩:=ly (1/8) (by grind)
 have l2:LeA (λ M=>Ev (λ M=>c*d M) M-1-c*d M) (2*(c1*(2*v)*(c1*(2*v)))):=by
  refine ((ly.mul ly).scale (show AB 2 2 from⟨by grind,by grind⟩)).of_abs (N+2) λ M hM=>?_
  exact zOG ((hN M (by omega)).mono (by grind)) (by omega)
 refine ((l2.add (l.scale hc)).mono ?_).of_eq λ M=>by grind
 rw[<- cO];grind
theorem zTB {L:Rat->Nat->Rat} (hL:Lns L) (c:Rat) {p q:Rat} (hp:0<p) (O1:p<=q):Dif (pr L c) (λ x M=>c/x*pr L c x M) p q:=by
 obtain⟨c1,hc⟩:=AB.self c;have c0:=hc.nonneg;have hq:0<q:=by grind
 obtain⟨B1,A6⟩:=(hL p hp).1.leA;obtain⟨B2,o9⟩:=(hL q hq).1.leA;have B10:=A6.nonneg;have B20:=o9.nonneg;obtain⟨K,K0,hK⟩:=zDW (c1*(B1+B2+2))
 have bd:∀ x,p<=x->x<=q->LeA (pr L c x) K:=λ x h1 h2=>by
  have x0:0<x:=by grind
  have l1:LeN (L p) (L x):=λ e he=>(hL p hp).le (hL x x0) null_zero 0 (λ M _=>by grind) e he
  have l2:LeN (L x) (L q):=λ e he=>(hL x x0).le (hL q hq) null_zero 0 (λ M _=>by grind) e he
  obtain⟨N1,n1⟩:=l1 1 (by grind)
  obtain⟨N2,n2⟩:=l2 1 (by grind)
  obtain⟨N3,n3⟩:=A6 1 (by grind)
  obtain⟨N4,n4⟩:=o9 1 (by grind)
  refine LeA.of_ab (N1+N2+N3+N4) λ M hM=>hK M _ (hc.mul ?_)
  have a1:=n1 M (by omega)
  have a2:=n2 M (by omega)
  have a3:=(n3 M (by omega)).1
  have a4:=(n4 M (by omega)).2
  exact⟨by grind,by grind⟩
 obtain⟨i,hi⟩:∃ i,i=1/p:=⟨_,rfl⟩;have ip:0<i:=by rw[hi];exact zF (by grind) hp
 have im:i*p=1:=by rw[hi];exact rdm hp
 have ic:=Yz c0 (YC ip);have icK:=Yz ic K0;have Dp:0<16*((1+c1)*i):=by have:=Rat.mul_pos (show 0<1+c1 by grind) ip;grind
 have D0:=zF (show (0:Rat)<1 by grind) Dp
 have Dm:=rdm (a:=1) Dp;obtain⟨C2,jv⟩:∃ C2,C2=(4*c1+8*(c1*c1)):=⟨_,rfl⟩;have yx:0<=C2:=by have:=Yz c0 c0;grind
 have inv:∀ x,p<=x->0<1/x/\1/x<=i/\1/x*x=1:=λ x h1=>by
  have x0:0<x:=by grind
  have:=rdm (a:=1) x0;refine⟨zF (by grind) x0,zBH x0 ?_,this⟩
  have:=Yy h1 (YC ip);grind
 have cdiv:∀ x,c/x=c*(1/x):=λ x=>by rw[YK,YK,Rat.one_mul]
 refine Dif.of_small (D:=1/(16*((1+c1)*i))) (C:=C2*K*(i*i)) (K:=K+c1*i*K) O1 D0 (Yz (Yz yx K0) (zO i)) (by grind) (λ x h1 h2=>⟨(bd x h1 h2).mono (by grind),?_⟩) (λ x h h1 h2 h3 h4 hD=>?_)
 ·obtain⟨e1,e2,e3⟩:=inv x h1
  rw[cdiv];refine ((bd x h1 h2).scale (hc.mul (show AB (1/x) i from⟨by grind,e2⟩))).mono (by grind)
 ·obtain⟨e1,e2,e3⟩:=inv x h1
  have x0:0<x:=by grind
  obtain⟨j,hj⟩:∃ j,j=1/x:=⟨_,rfl⟩;rw[<- hj] at e1 e2 e3;obtain⟨w,hw,hww⟩:=abs_ex h;have w0:=hw.nonneg
  have hwD:w<=1/(16*((1+c1)*i)):=by
   by_cases cs:0<=h
   ·have:w=h:=by
     have:(w-h)*(w+h)=0:=by grind
     rcases Rat.mul_eq_zero.1 this with h'|h'
     ·grind
     ·have:=hw.2;grind
    have:=hD.2;grind
   ·have:w = -h:=by
     have:(w-h)*(w+h)=0:=by grind
     rcases Rat.mul_eq_zero.1 this with h'|h'
     ·have:=hw.1;grind
     ·grind
    have:=hD.1;grind
  have uw:AB (h*j) (w*j):=hw.mul (show AB j j from⟨by grind,by grind⟩)
  have wj:w*j<=w*i:=Yy e2 w0
  have b1:(1+c1)*(w*i)<=1/16:=by
   have m:=YB hwD (YC Dp);rw[Dm] at m;grind
  have wi:=Yz w0 (YC ip);have cwi:=Yz c0 wi
  have hs:x*(1+h*j)=x+h:=by
   have:x*(1+h*j)=x+h*(j*x):=by grind
   rw[this,e3];grind
  have s0:0<x+h:=by grind
  have u1:0<1+h*j:=by have:=uw.1;grind
  have hd:=zIB hL x0 u1;rw[hs] at hd;have m:=Yy wj c0;have pu:=pr_unit hd hc uw (by grind) (by grind) (by grind)
  have bdd:=(Bdd.const c).mul hd.1;have s:=zAI bdd (kF hL x0 c);have es:∀ M,Ev (λ M=>c*(L (x+h) M-L x M)+c*L x M) M=pr L c (x+h) M:=λ M=>by unfold pr Ev;congr 1;grind
  have t:=pu.mul (bd x h1 h2);rw[<- jv] at t;refine (LeA.congr (t.mono ?_) (s.neg.of_eq λ M=>?_))
  ·have hjj:h*j*(h*j)=h*h*(j*j):=by grind
   have jj:j*j<=i*i:=by
    have a:=Yy e2 (YC e1);have b:=YB e2 (YC ip);grind
   have m1:=Yy jj (Yz (Yz yx K0) (zO h));rw[hjj];grind
  ·rw[es M,cdiv,<- hj]
   have e:Ev (λ M=>c*L x M) M=pr L c x M:=rfl
   rw[e];grind
end Go.Proofs.YtgmnknmjainabacGreat.Ex
namespace Go.Proofs.YtgmnknmjainabacGreat.Ex
def bT (a b x:Rat):Nat->Rat
 | 0=>1/a
 | n+1=>x*(a+b+(n:Rat))/(a+((n:Rat)+1))*bT a b x n
theorem zEM {a:Rat} (ha:0<a) (b x:Rat):a*bT a b x 0=1:=by
 have:=rdm (a:=1) ha
 show a*(1/a)=1
 grind
theorem zAY {a:Rat} (ha:0<a) (b x:Rat) (n:Nat):(a+((n:Rat)+1))*bT a b x (n+1)=x*(a+b+(n:Rat))*bT a b x n:=by
 have e:=rdm (a:=x*(a+b+(n:Rat))) (zBJ ha n)
 show (a+((n:Rat)+1))*(x*(a+b+(n:Rat))/(a+((n:Rat)+1))*bT a b x n)=_
 generalize x*(a+b+(n:Rat))/(a+((n:Rat)+1))=t at *;rw[<- e];grind
theorem zOM (n:Nat):(0:Rat)<=(n:Rat):=by exact_mod_cast Nat.zero_le n
theorem zAQ {a b x:Rat} (ha:0<a) (hb:0<b) (h:0<=x) (n:Nat):0<=bT a b x n:=by
 induction n with
 | zero=>exact jM ha (by grind)
 | succ n ih =>
  have n0:=zOM n;exact Yz (jM (zBJ ha n) (by have:=Yz h (show 0<=a+b+(n:Rat) by grind);grind)) ih
theorem bT_pw {a:Rat} (ha:0<a) (b x:Rat) (n:Nat):bT a b x n=bT a b 1 n*pw x n:=by
 induction n with
 | zero=>show 1/a=1/a*1;grind
 | succ n ih =>
  have e1:=zAY ha b x n;have e2:=zAY ha b 1 n;refine zX (zBJ ha n) ?_;have e3:pw x (n+1)=x*pw x n:=rfl;rw[e1,e3,ih];have:(a+((n:Rat)+1))*(bT a b 1 (n+1)*(x*pw x n))=(a+((n:Rat)+1))*bT a b 1 (n+1)*(x*pw x n):=by grind
  rw[this,e2];grind
def bS (a b x:Rat) (M:Nat):Rat:=S (bT a b x) M
theorem zC4 (a b x:Rat) (M:Nat):bS a b x (M+1)=bS a b x M+bT a b x M:=rfl
theorem bS_ps {a:Rat} (ha:0<a) (b:Rat):bS a b=psS (bT a b 1):=by
 funext x M
 exact kQ M λ k _=>bT_pw ha b x k
theorem zFY {a b x:Rat} (ha:0<a) (hb:0<b) (h:0<=x) (M:Nat):0<=bS a b x M:=by
 induction M with
 | zero=>show (0:Rat)<=0;grind
 | succ n ih=>have:=zAQ ha hb h n;rw[zC4];grind
theorem zMS {a b x:Rat} (ha:0<a) (hb:0<b) (h:0<=x) (M:Nat):1/a<=bS a b x (M+1):=by
 induction M with
 | zero=>show 1/a<=0+1/a;grind
 | succ n ih=>have:=zAQ ha hb h (n+1);rw[zC4];grind
theorem b_turn {b x:Rat} (hb:0<b) (hx:0<=x) (h1:x<1):∃ k0:Nat,∀ k:Nat,k0<=k->2*(x*b)<=(1-x)*(k:Rat):=by
 have d:0<1-x:=by grind
 obtain⟨n,hn⟩:=kB (2*b/(1-x));refine⟨n,λ k hk=>?_⟩
 have nk:(n:Rat)<=(k:Rat):=by exact_mod_cast hk
 have e:=rdm (a:=2*b) d;have m:=YB (Rat.le_trans hn.2 nk) (YC d);rw[e] at m;have m2:=YB (YC h1) (YC hb);grind
theorem zQM {a b x:Rat} (ha:0<a) (hb:0<b) (hx:0<=x) (h1:x<1):∃ k0:Nat,∀ k,k0<=k->bT a b x (k+1)<=(1+x)/2*bT a b x k/\(a+((k+1:Nat):Rat))*bT a b x (k+1)<=(1+x)/2*((a+(k:Rat))*bT a b x k):=by
 obtain⟨k0,eG⟩:=b_turn hb hx h1;refine⟨k0,λ k hk=>?_⟩
 have t:=eG k hk;have e:=zAY ha b x k;have n0:=zOM k;have p:=zBJ ha k;have t0:=zAQ ha hb hx k;have xa:=Yz (show 0<=1-x by grind) (YC ha)
 have c:((k+1:Nat):Rat)=(k:Rat)+1:=by push_cast;rfl
 rw[c,e];constructor
 ·refine Rat.le_of_mul_le_mul_left (c:=a+((k:Rat)+1)) ?_ p
  rw[e];have m:=YB (show x*(a+b+(k:Rat))<=(1+x)/2*(a+((k:Rat)+1)) by grind) t0
  grind
 ·have m:=YB (show x*(a+b+(k:Rat))<=(1+x)/2*(a+(k:Rat)) by grind) t0
  grind
theorem zQL {a b x:Rat} (ha:0<a) (hb:0<b) (hx:0<=x) (h1:x<1):∃ K,0<=K/\∀ M,bS a b x M<=K:=by
 obtain⟨k0,h⟩:=zQM ha hb hx h1;exact geo (t:=bT a b x) (ρ:=(1+x)/2) (zAQ ha hb hx) (by grind) (by grind) k0 λ k hk=>(h k hk).1
theorem zE1 {a b x:Rat} (ha:0<a) (hb:0<b) (hx:0<=x) (h1:x<1):Bdd (bS a b x):=by
 obtain⟨K,k0,hK⟩:=zQL ha hb hx h1;exact Bdd.of_le K 0 λ M _=>⟨by have:=zFY ha hb hx M;grind,hK M⟩
theorem bS_mono {a b x y:Rat} (ha:0<a) (hb:0<b) (hx:0<=x) (K6:x<=y) (M:Nat):bS a b x M<=bS a b y M:=by
 refine S_mono (λ k=>?_) M
 rw[bT_pw ha b x,bT_pw ha b y];exact Yy (zLZ hx K6 k) (zAQ ha hb (by grind) k)
theorem bT_null {a b x:Rat} (ha:0<a) (hb:0<b) (hx:0<=x) (h1:x<1):Null (bT a b x):=by
 obtain⟨k0,h⟩:=zQM ha hb hx h1;exact zH7 (ρ:=(1+x)/2) (zAQ ha hb hx) (by grind) (by grind) k0 λ k hk=>(h k hk).1
theorem zQN {a b x:Rat} (ha:0<a) (hb:0<b) (hx:0<=x) (h1:x<1):Null (λ k=>(a+(k:Rat))*bT a b x k):=by
 obtain⟨k0,h⟩:=zQM ha hb hx h1;refine zH7 (t:=λ k=>(a+(k:Rat))*bT a b x k) (ρ:=(1+x)/2) (λ k=>Yz (by have:=zOM k;grind) (zAQ ha hb hx k)) (by grind) (by grind) k0 λ k hk=>(h k hk).2
theorem bS_ode {a:Rat} (ha:0<a) (b x:Rat) (M:Nat):(1-x)*(x*psD (bT a b 1) x M)=1+((a+b)*x-a)*bS a b x M-(a+(M:Rat))*bT a b x M:=by
 have key:∀ M:Nat,a*bS a b x M+x*psD (bT a b 1) x M-1+(a+(M:Rat))*bT a b x M=x*(a+b)*bS a b x M+x*(x*psD (bT a b 1) x M):=λ M=>by
  induction M with
  | zero =>
   have e:=zEM ha b x;have c:((0:Nat):Rat)=0:=rfl;rw[c]
   show a*0+x*0-1+(a+0)*bT a b x 0=x*(a+b)*0+x*(x*0)
   grind
  | succ n ih =>
   have e1:=zAY ha b x n;have c:((n+1:Nat):Rat)=(n:Rat)+1:=by push_cast;rfl
   have e2:psD (bT a b 1) x (n+1)=psD (bT a b 1) x n+bT a b 1 n*dw x n:=rfl
   have e3:x*(bT a b 1 n*dw x n)=(n:Rat)*bT a b x n:=by
    have d:=dw_mul x n;rw[bT_pw ha b x n];have:x*(bT a b 1 n*dw x n)=bT a b 1 n*(x*dw x n):=by grind
    rw[this,d];grind
   rw[zC4,e2,c,e1];have e4:x*(psD (bT a b 1) x n+bT a b 1 n*dw x n)=x*psD (bT a b 1) x n+(n:Rat)*bT a b x n:=by rw[<- e3];grind
   rw[e4];generalize psD (bT a b 1) x n=D at *;generalize bS a b x n=s at *;generalize bT a b x n=t at *;clear e1 e2 e3 e4;grind
 have:=key M;grind
def bP (L:Rat->Nat->Rat) (a b x:Rat) (M:Nat):Rat:=pr L a x M*pr L b (1-x) M
def bH (L:Rat->Nat->Rat) (a b x:Rat) (M:Nat):Rat:=bP L a b x M*bS a b x M
def bF (L:Rat->Nat->Rat) (a b x:Rat) (M:Nat):Rat:=1/(x*(1-x))*bP L a b x M
theorem zMR {L:Rat->Nat->Rat} (hL:Lns L) {x:Rat} (hx:0<x) (h1:x<1) (a b:Rat):Bdd (bP L a b x):=(kK hL hx a).mul (kK hL (show 0<1-x by grind) b)
theorem bP_nn {L:Rat->Nat->Rat} (hL:Lns L) {x:Rat} (hx:0<x) (h1:x<1) (a b:Rat):Nn (bP L a b x):=(zC1 hL hx a).mul (zC1 hL (show 0<1-x by grind) b)
theorem zQK (L:Rat->Nat->Rat) (a b x:Rat) (M:Nat):bP L b a (1-x) M=bP L a b x M:=by
 unfold bP;have:1-(1-x)=x:=by grind
 rw[this];grind
theorem zLB (L:Rat->Nat->Rat) (a b x:Rat) (M:Nat):bF L b a (1-x) M=bF L a b x M:=by
 unfold bF;rw[zQK];have:(1-x)*(1-(1-x))=x*(1-x):=by grind
 rw[this]
theorem zQE {L:Rat->Nat->Rat} (hL:Lns L) {a b x:Rat} (ha:0<a) (hb:0<b) (hx:0<x) (h1:x<1):Bdd (bH L a b x):=(zMR hL hx h1 a b).mul (zE1 ha hb (YC hx) h1)
theorem zQF {L:Rat->Nat->Rat} (hL:Lns L) {a b x:Rat} (ha:0<a) (hb:0<b) (hx:0<x) (h1:x<1):Nn (bH L a b x):=(bP_nn hL hx h1 a b).mul ⟨0,λ M _=>zFY ha hb (YC hx) M⟩
theorem bS_dif {a b q:Rat} (ha:0<a) (hb:0<b) (hq:0<=q) (aX:q<1):Dif (bS a b) (psD (bT a b 1)) 0 q:=by
 obtain⟨K,k0,hK⟩:=zQL ha hb (show 0<=(1+q)/2 by grind) (show (1+q)/2<1 by grind)
 rw[bS_ps ha b];refine ps_dif (A:=bT a b 1) (r:=(1+q)/2) (K:=K) (λ k=>⟨by have:=zAQ ha hb (show (0:Rat)<=1 by grind) k;grind,Rat.le_refl⟩) (λ M=>?_) hq (by grind)
 have:=hK M;rw[bS_ps ha b] at this;exact this
theorem zLV {x y:Rat} (hx:0<x) (hy:0<y):1/(x*y)=1/x*(1/y):=by
 rw[YK,YK,YK,Rat.inv_mul_rev];grind
theorem zJE {L:Rat->Nat->Rat} (hL:Lns L) {a b p q:Rat} (ha:0<a) (hb:0<b) (hp:0<p) (O1:p<=q) (hq:q<1):Dif (bH L a b) (bF L a b) p q:=by
 have d1:=zTB hL a hp O1;have d2:Dif (λ x=>pr L b (1-x)) (λ x M => -(b/(1-x)*pr L b (1-x) M)) p q:=Dif.flip (F:=pr L b) (F':=λ x M=>b/x*pr L b x M) (zTB hL b (show 0<1-q by grind) (by grind))
 have d3:=(bS_dif ha hb (show 0<=q by grind) hq).within (p':=p) (q':=q) (by grind) Rat.le_refl
 have d:=(d1.mul O1 d2).mul O1 d3;refine d.congr λ x h1 h2=>?_
 have x0:0<x:=by grind
 have x1:0<1-x:=by grind
 have w:=(zQN ha hb (YC x0) (show x<1 by grind)).bmul ((zMR hL x0 (by grind) a b).mul (Bdd.const (1/(x*(1-x)))))
 refine w.of_eq λ M=>?_
 have o:=bS_ode ha b x M;have e1:=rdm (a:=1) x0;have e2:=rdm (a:=1) x1;have e3:a/x=a*(1/x):=by rw[YK,YK,Rat.one_mul]
 have e4:b/(1-x)=b*(1/(1-x)):=by rw[YK,YK,Rat.one_mul]
 unfold bF bP;rw[zLV x0 x1,e3,e4];generalize 1/x=i at *;generalize 1/(1-x)=j at *;generalize pr L a x M=P at *;generalize pr L b (1-x) M=R at *;generalize bS a b x M=s at *;generalize psD (bT a b 1) x M=D at *;generalize (a+(M:Rat))*bT a b x M=W at *;clear w d d1 d2 d3
 have g:D=i*j*((1-x)*(x*D)):=by
  have:i*j*((1-x)*(x*D))=i*x*(j*(1-x))*D:=by grind
  rw[this,e1,e2];grind
 have g2:a*i-b*j=i*j*(a*(1-x)-b*x):=by
  have:i*j*(a*(1-x)-b*x)=a*i*(j*(1-x))-b*j*(i*x):=by grind
  rw[this,e1,e2];grind
 have g3:(a*i*P*R+P * -(b*j*R))*s+P*R*D=P*R*((a*i-b*j)*s+D):=by grind
 rw[g3,g2]
 have g4:i*j*(a*(1-x)-b*x)*s+D=i*j*((a*(1-x)-b*x)*s+(1-x)*(x*D)):=by
  have:i*j*(a*(1-x)-b*x)*s+D=i*j*(a*(1-x)-b*x)*s+i*j*((1-x)*(x*D)):=by rw[<- g]
  rw[this];grind
 rw[g4,o];grind
theorem bF_nn {L:Rat->Nat->Rat} (hL:Lns L) {x:Rat} (hx:0<x) (h1:x<1) (a b:Rat):Nn (bF L a b x):=(Nn.const (jM (Rat.mul_pos hx (show 0<1-x by grind)) (by grind))).mul (bP_nn hL hx h1 a b)
theorem Nn.leN {f:Nat->Rat} (h:Nn f):LeN (λ _=>0) f:=by
 obtain⟨N,hN⟩:=h;exact LeN.of_le N λ M hM=>hN M hM
theorem bH_mono {L:Rat->Nat->Rat} (hL:Lns L) {a b x y:Rat} (ha:0<a) (hb:0<b) (hx:0<x) (K6:x<=y) (hy:y<1):LeN (bH L a b x) (bH L a b y) :=
 (zJE hL ha hb hx K6 hy).le K6 λ t h1 h2=>(bF_nn hL (by grind) (by grind) a b).leN
def bJ (L:Rat->Nat->Rat) (a b:Rat) (M:Nat):Rat:=bH L a b (1/2) M+bH L b a (1/2) M
theorem zQI (L:Rat->Nat->Rat) (a b:Rat) (M:Nat):bJ L a b M=bJ L b a M:=by unfold bJ;grind
theorem bJ_at {L:Rat->Nat->Rat} (hL:Lns L) {a b x:Rat} (ha:0<a) (hb:0<b) (hx:0<x) (h1:x<1):Null (λ M=>bH L a b x M+bH L b a (1-x) M-bJ L a b M):=by
 have main:∀ p q:Rat,0<p->p<=q->q<1->Null (λ M=>(bH L a b p M+bH L b a (1-p) M)-(bH L a b q M+bH L b a (1-q) M)):=λ p q hp O1 hq=>by
  have d:=(zJE hL ha hb hp O1 hq).add (Dif.flip (F:=bH L b a) (F':=bF L b a) (zJE hL hb ha (show 0<1-q by grind) (show 1-q<=1-p by grind) (by grind)))
  refine d.eq O1 λ t h1 h2=>null_zero.of_eq λ M=>?_
  have:=zLB L a b t M;rw[this];grind
 have e:(1:Rat)-1/2=1/2:=by grind
 by_cases c:x<=1/2
 ·have m:=main x (1/2) hx c (by grind)
  rw[e] at m;exact m
 ·have m:=main (1/2) x (by grind) (by grind) h1
  rw[e] at m;exact m.neg.of_eq λ M=>by unfold bJ;grind
theorem zGW {L:Rat->Nat->Rat} (hL:Lns L) {a b:Rat} (ha:0<a) (hb:0<b):Bdd (bJ L a b):=(zQE hL ha hb (by grind) (by grind)).add (zQE hL hb ha (by grind) (by grind))
theorem bJ_nn {L:Rat->Nat->Rat} (hL:Lns L) {a b:Rat} (ha:0<a) (hb:0<b):Nn (bJ L a b):=(zQF hL ha hb (by grind) (by grind)).add (zQF hL hb ha (by grind) (by grind))
end Go.Proofs.YtgmnknmjainabacGreat.Ex
namespace Go.Proofs.YtgmnknmjainabacGreat.Ex
theorem bT_up {a:Rat} (ha:0<a) (b x:Rat) (n:Nat):(a+b)*(x*bT (a+1) b x n)=a*bT a b x (n+1):=by
 induction n with
 | zero =>
  have e1:=zAY ha b x 0;have e2:=zEM ha b x;have e3:=zEM (show 0<a+1 by grind) b x
  have c:((0:Nat):Rat)=0:=rfl;rw[c] at e1;refine zX (show 0<a+1 by grind) ?_
  have k1:(a+1)*((a+b)*(x*bT (a+1) b x 0))=(a+b)*x*((a+1)*bT (a+1) b x 0):=by grind
  have k2:(a+1)*(a*bT a b x (0+1))=a*((a+(0+1))*bT a b x (0+1)):=by grind
  rw[k1,k2,e1,e3];have k3:a*(x*(a+b+0)*bT a b x 0)=x*(a+b)*(a*bT a b x 0):=by grind
  rw[k3,e2];grind
 | succ n ih =>
  have e1:=zAY ha b x (n+1);have e2:=zAY (show 0<a+1 by grind) b x n
  have c:((n+1:Nat):Rat)=(n:Rat)+1:=by push_cast;rfl
  rw[c] at e1;refine zX (show 0<a+((n:Rat)+1+1) by have:=zAV n;grind) ?_
  have k1:(a+((n:Rat)+1+1))*((a+b)*(x*bT (a+1) b x (n+1)))=(a+b)*x*((a+1+((n:Rat)+1))*bT (a+1) b x (n+1)):=by grind
  have k2:(a+((n:Rat)+1+1))*(a*bT a b x (n+1+1))=a*((a+((n:Rat)+1+1))*bT a b x (n+1+1)):=by grind
  rw[k1,k2,e1,e2];have k3:(a+b)*x*(x*(a+1+b+(n:Rat))*bT (a+1) b x n)=x*(a+1+b+(n:Rat))*((a+b)*(x*bT (a+1) b x n)):=by grind
  rw[k3,ih];grind
theorem bS_up {a:Rat} (ha:0<a) (b x:Rat) (M:Nat):(a+b)*(x*bS (a+1) b x M)=a*bS a b x M-1+a*bT a b x M:=by
 induction M with
 | zero =>
  have:=zEM ha b x
  show (a+b)*(x*0)=a*0-1+a*bT a b x 0
  grind
 | succ n ih =>
  have:=bT_up ha b x n;rw[zC4,zC4];grind
theorem bT_side {b:Rat} (hb:0<b) (a y:Rat) (n:Nat):(a+b)*bT b (a+1) y n=(a+b+(n:Rat))*bT b a y n:=by
 induction n with
 | zero =>
  have c:((0:Nat):Rat)=0:=rfl;rw[c]
  show (a+b)*(1/b)=(a+b+0)*(1/b)
  grind
 | succ n ih =>
  have e1:=zAY hb (a+1) y n;have e2:=zAY hb a y n;have c:((n+1:Nat):Rat)=(n:Rat)+1:=by push_cast;rfl
  refine zX (zBJ hb n) ?_;have k1:(b+((n:Rat)+1))*((a+b)*bT b (a+1) y (n+1))=(a+b)*((b+((n:Rat)+1))*bT b (a+1) y (n+1)):=by grind
  have k2:(b+((n:Rat)+1))*((a+b+((n+1:Nat):Rat))*bT b a y (n+1))=(a+b+((n:Rat)+1))*((b+((n:Rat)+1))*bT b a y (n+1)):=by rw[c];grind
  rw[k1,k2,e1,e2];have k3:(a+b)*(y*(b+(a+1)+(n:Rat))*bT b (a+1) y n)=y*(b+(a+1)+(n:Rat))*((a+b)*bT b (a+1) y n):=by grind
  rw[k3,ih];grind
theorem bS_side {b:Rat} (hb:0<b) (a y:Rat) (M:Nat):(a+b)*((1-y)*bS b (a+1) y M)=a*bS b a y M+1-(b+(M:Rat))*bT b a y M:=by
 induction M with
 | zero =>
  have:=zEM hb a y;have c:((0:Nat):Rat)=0:=rfl;rw[c]
  show (a+b)*((1-y)*0)=a*0+1-(b+0)*bT b a y 0
  grind
 | succ n ih =>
  have e:=bT_side hb a y n;have e2:=zAY hb a y n;have c:((n+1:Nat):Rat)=(n:Rat)+1:=by push_cast;rfl
  rw[zC4,zC4,c,e2];have k:(a+b)*((1-y)*(bS b (a+1) y n+bT b (a+1) y n))=(a+b)*((1-y)*bS b (a+1) y n)+(1-y)*((a+b)*bT b (a+1) y n):=by grind
  rw[k,ih,e];grind
theorem pr_up {L:Rat->Nat->Rat} (hL:Lns L) {x:Rat} (hx:0<x) (a:Rat):Null (λ M=>pr L (a+1) x M-x*pr L a x M):=by
 have h1:=zJ8 hL hx a 1;have h2:=(zE9 hL hx).bmul (kK hL hx a);exact (h2.sub h1).of_eq λ M=>by grind
theorem bH_up {L:Rat->Nat->Rat} (hL:Lns L) {a b x:Rat} (ha:0<a) (hb:0<b) (hx:0<x) (h1:x<1):Null (λ M=>(a+b)*bH L (a+1) b x M-(a*bH L a b x M-bP L a b x M)):=by
 have x0:=YC hx;have n1:=(pr_up hL hx a).bmul ((kK hL (show 0<1-x by grind) b).mul ((Bdd.const (a+b)).mul (zE1 (show 0<a+1 by grind) hb x0 h1)))
 have n2:=(bT_null ha hb x0 h1).bmul ((Bdd.const a).mul (zMR hL hx h1 a b));refine (n1.add n2).of_eq λ M=>?_
 have e:=bS_up ha b x M;unfold bH bP;generalize pr L (a+1) x M=p1 at *;generalize pr L a x M=p at *;generalize pr L b (1-x) M=r at *;generalize bS (a+1) b x M=s1 at *;generalize bS a b x M=s at *;generalize bT a b x M=t at *;clear n1 n2;have:p*r*((a+b)*(x*s1))=p*r*(a*s-1+a*t):=by rw[e]
 grind
theorem bH_side {L:Rat->Nat->Rat} (hL:Lns L) {a b y:Rat} (ha:0<a) (hb:0<b) (hy:0<y) (h1:y<1):Null (λ M=>(a+b)*bH L b (a+1) y M-(a*bH L b a y M+bP L b a y M)):=by
 have y0:=YC hy;have y1:0<1-y:=by grind
 have n1:=(pr_up hL y1 a).bmul ((kK hL hy b).mul ((Bdd.const (a+b)).mul (zE1 hb (show 0<a+1 by grind) y0 h1)))
 have n2:=(zQN hb ha y0 h1).bmul (zMR hL hy h1 b a);refine (n1.sub n2).of_eq λ M=>?_
 have e:=bS_side hb a y M;unfold bH bP;generalize pr L (a+1) (1-y) M=p1 at *;generalize pr L a (1-y) M=p at *;generalize pr L b y M=r at *;generalize bS b (a+1) y M=s1 at *;generalize bS b a y M=s at *;generalize (b+(M:Rat))*bT b a y M=t at *;clear n1 n2;have:p*r*((a+b)*((1-y)*s1))=p*r*(a*s+1-t):=by rw[e]
 grind
theorem zLC {L:Rat->Nat->Rat} (hL:Lns L) {a b:Rat} (ha:0<a) (hb:0<b):Null (λ M=>(a+b)*bJ L (a+1) b M-a*bJ L a b M):=by
 have n1:=bH_up hL ha hb (show (0:Rat)<1/2 by grind) (by grind)
 have n2:=bH_side hL ha hb (show (0:Rat)<1/2 by grind) (by grind)
 refine (n1.add n2).of_eq λ M=>?_
 have t:=zQK L a b (1/2) M;have e:(1:Rat)-1/2=1/2:=by grind
 rw[e] at t;unfold bJ;rw[t];grind
theorem bS_11 {x:Rat} (M:Nat):(1-x)*bS 1 1 x M=1-pw x M:=by
 have t:∀ n,bT 1 1 x n=pw x n:=λ n=>by
  induction n with
  | zero=>show (1:Rat)/1=1;grind
  | succ n ih =>
   have e:=zAY (show (0:Rat)<1 by grind) 1 x n
   refine zX (zBJ (show (0:Rat)<1 by grind) n) ?_
   rw[e,ih]
   show _=(1+((n:Rat)+1))*(x*pw x n)
   grind
 induction M with
 | zero=>show (1-x)*0=1-1;grind
 | succ n ih =>
  rw[zC4,t n]
  show _=1-x*pw x n
  grind
theorem pw_null {x:Rat} (hx:0<=x) (h1:x<1):Null (pw x):=zH7 (λ k=>zBG hx k) h1 hx 0 λ k _=>Rat.le_refl
theorem bH_11 {L:Rat->Nat->Rat} (hL:Lns L) {x:Rat} (hx:0<x) (h1:x<1):Null (λ M=>bH L 1 1 x M-x):=by
 have x0:=YC hx;have x1:0<1-x:=by grind
 have one:(0:Rat)<1:=by grind
 have n1:=(zE9 hL hx).bmul ((kK hL x1 1).mul (zE1 one one x0 h1));have n2:=(zE9 hL x1).bmul ((Bdd.const x).mul (zE1 one one x0 h1));have n3:=(pw_null x0 h1).bmul (Bdd.const x);refine ((n1.add n2).sub n3).of_eq λ M=>?_
 have e:=bS_11 (x:=x) M;unfold bH bP;generalize pr L 1 x M=p at *;generalize pr L 1 (1-x) M=r at *;generalize bS 1 1 x M=s at *;generalize pw x M=t at *;clear n1 n2 n3;have:x*((1-x)*s)=x*(1-t):=by rw[e]
 grind
theorem bJ_11 {L:Rat->Nat->Rat} (hL:Lns L):Null (λ M=>bJ L 1 1 M-1):=by
 have n:=bH_11 hL (show (0:Rat)<1/2 by grind) (by grind)
 exact (n.add n).of_eq λ M=>by unfold bJ;grind
theorem zNU {L:Rat->Nat->Rat} (hL:Lns L) {a:Rat} (ha:0<a) (n:Nat):∃ p,0<p/\p<=1/4/\LeN (pr L a p) (λ _=>q2 n):=by
 obtain⟨c,c0,N,hc⟩:=zB4 (Bdd.const (-((n:Rat)/a)))
 obtain⟨p,p0,p1,p2⟩:∃ p,0<p/\p<=1/4/\p<=c:=by
  by_cases h:c<=1/4
  ·exact⟨c,c0,h,Rat.le_refl⟩
  ·exact⟨1/4,by grind,Rat.le_refl,by grind⟩
 refine⟨p,p0,p1,?_⟩
 have l:LeN (L p) (λ _ => -((n:Rat)/a)):=λ e he=>(hL p p0).le (zCS _) null_zero N (λ M hM=>by
  have:=hc M hM;have e:ex (-((n:Rat)/a)) M=Ev (λ _ => -((n:Rat)/a)) M:=rfl
  rw[e];grind) e he
 obtain⟨z,hz,kz⟩:=(l.cmul (YC ha)).null;obtain⟨v,hv,N2,kv⟩:=zC2 (kF hL p0 a) (Bdd.const (a * -((n:Rat)/a))) hz 0 (λ M _=>kz M)
 have e:a * -((n:Rat)/a) = -(n:Rat):=by have:=rdm (a:=(n:Rat)) ha;grind
 rw[e] at kv;exact (LeN.of_null hv N2 kv).trans (zF3 n)
theorem zTC {L:Rat->Nat->Rat} (hL:Lns L) {b x:Rat} (hb:0<=b) (hx:0<x) (h1:x<=1):LeN (pr L b x) (λ _=>1):=by
 have l:LeN (L x) (λ _=>0):=λ e he=>(hL x hx).le isLog_one null_zero 0 (λ M _=>by grind) e he
 obtain⟨z,hz,kz⟩:=(l.cmul hb).null;obtain⟨v,hv,N2,kv⟩:=zC2 (kF hL hx b) (Bdd.const (b*0)) hz 0 (λ M _=>kz M)
 refine LeN.of_null hv (N2+1) λ M hM=>?_
 have k:=kv M (by omega)
 obtain⟨m,rfl⟩:∃ m,M=m+1:=⟨M-1,by omega⟩
 have e:Ev (λ _=>b*0) (m+1)=1:=by
  have:b*0=0:=by grind
  rw[this];exact kT m
 rw[e] at k;exact k
theorem bH_small {L:Rat->Nat->Rat} (hL:Lns L) {a b:Rat} (ha:0<a) (hb:0<b) {e:Rat} (he:0<e):∃ p,0<p/\p<=1/4/\LeN (bH L a b p) (λ _=>e):=by
 obtain⟨K,k0,hK⟩:=zQL ha hb (show (0:Rat)<=1/4 by grind) (by grind)
 have Kp:0<K+1:=by grind
 obtain⟨n,hn⟩:=null_q2 (e/(K+1)) (zF he Kp);have q:=(hn n (YE _)).2;obtain⟨p,p0,p1,ps⟩:=zNU hL ha n;refine⟨p,p0,p1,?_⟩;have Lq:0<1-p:=by grind
 have l1:=ps.mul (zTC hL (YC hb) Lq (by grind)) (kK hL Lq b) (zC1 hL Lq b) (Bdd.const (q2 n)) (Nn.const (YC (yC n)))
 have l2:LeN (bS a b p) (λ _=>K+1):=LeN.of_le 0 λ M _=>by
  have:=hK M;have:=bS_mono ha hb (YC p0) p1 M;grind
 have l:=l1.mul l2 (zE1 ha hb (YC p0) (by grind)) ⟨0,λ M _=>zFY ha hb (YC p0) M⟩ (Bdd.const (q2 n*1)) (Nn.const (by have:=yC n;grind))
 refine l.trans (LeN.of_le 0 λ M _=>?_)
 have m:=YB q (YC Kp);rw[rdm Kp] at m;grind
theorem zLX {L:Rat->Nat->Rat} (hL:Lns L) {a a' x:Rat} (h:a<=a') (hx:0<x) (h1:x<=1):LeN (pr L a' x) (pr L a x):=by
 have l:LeN (L x) (λ _=>0):=λ e he=>(hL x hx).le isLog_one null_zero 0 (λ M _=>by grind) e he
 obtain⟨z,hz,kz⟩:=(l.cmul (show 0<=a'-a by grind)).null
 obtain⟨v,hv,N2,kv⟩:=zC2 (kF hL hx a') (kF hL hx a) hz 0 (λ M _=>by have:=kz M;grind)
 exact LeN.of_null hv N2 kv
theorem zQD {L:Rat->Nat->Rat} (hL:Lns L) {a a' b x:Rat} (h:a<=a') (hx:0<x) (h1:x<1):LeN (bF L a' b x) (bF L a b x):=by
 have x1:0<1-x:=by grind
 have l:=(zLX hL h hx (YC h1)).bmul (kK hL x1 b) (zC1 hL x1 b);exact l.cmul (jM (Rat.mul_pos hx x1) (by grind))
theorem bH_cmp {L:Rat->Nat->Rat} (hL:Lns L) {a b a' b':Rat} (ha:0<a) (hb:0<b) (ha':0<a') (M8:0<b') (h:∀ x,0<x->x<1->LeN (bF L a' b' x) (bF L a b x)) {y:Rat} (hy:1/4<=y) (fV:y<1):LeN (bH L a' b' y) (bH L a b y):=by
 intro e he
 obtain⟨p,p0,p1,ps⟩:=bH_small hL ha' M8 (show 0<e/2 by grind)
 have d:=(zJE hL ha hb p0 (show p<=y by grind) fV).sub (zJE hL ha' M8 p0 (show p<=y by grind) fV)
 have l:=d.le (by grind) λ x h1 h2=>by
  have k:=h x (by grind) (by grind)
  obtain⟨z,hz,kz⟩:=k.null;exact LeN.of_null hz 0 λ M _=>by have:=kz M;grind
 obtain⟨N1,n1⟩:=l (e/4) (by grind)
 obtain⟨N2,n2⟩:=ps (e/4) (by grind)
 obtain⟨N3,n3⟩:=zQF hL ha hb p0 (show p<1 by grind)
 refine⟨N1+N2+N3,λ M hM=>?_⟩
 have a1:=n1 M (by omega)
 have a2:=n2 M (by omega)
 have a3:=n3 M (by omega)
 dsimp only at a1 a2
 grind
theorem zQG {L:Rat->Nat->Rat} (hL:Lns L) {a a' b:Rat} (ha:0<a) (hb:0<b) (h:a<=a'):LeN (bJ L a' b) (bJ L a b):=by
 have l1:=bH_cmp hL ha hb (show 0<a' by grind) hb (λ x h1 h2=>zQD hL h h1 h2) (show (1:Rat)/4<=1/2 by grind) (by grind)
 have l2:=bH_cmp hL hb ha hb (show 0<a' by grind) (λ x h1 h2=>by
  have:=zQD hL (b:=b) h (show 0<1-x by grind) (show 1-x<1 by grind)
  have e1:bF L a' b (1-x)=bF L b a' x:=by funext M;exact zLB L b a' x M
  have e2:bF L a b (1-x)=bF L b a x:=by funext M;exact zLB L b a x M
  rw[e1,e2] at this
  exact this) (show (1:Rat)/4<=1/2 by grind) (by grind)
 exact l1.add l2
end Go.Proofs.YtgmnknmjainabacGreat.Ex
