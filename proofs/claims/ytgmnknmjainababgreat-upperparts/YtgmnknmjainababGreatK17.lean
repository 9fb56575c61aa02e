/-
  Its own texts.
-/
import Derived.Test.YtgmnknmjainababGreatK16
set_option maxRecDepth 100000
set_option maxHeartbeats 8000000
set_option linter.unusedVariables false
namespace Go.Proofs.YtgmnknmjainababGreat
open Ex
namespace Ex
theorem zB1 {L:Rat→Nat→Rat} (hL:Lns L) (c:Rat):Null (fun M=>pr L c 1 M-1):=by
 have h:=(hL 1 (by grind)).uniq zH2
 have h2:Null (fun M=>c*L 1 M):=(h.bmul (Bdd.const c)).of_eq fun M=>by grind
 exact zMZ h2
theorem upT_anti {a x:Rat} (ha:0<a) (ha1:a≤1) (hx:0≤x) (n:Nat):upT 1 x n≤upT a x n:=by
 induction n with
 | zero =>
  have e:=yK ha x;have e1:=yK (show (0:Rat)<1 by grind) x
  have p:=jL ha hx 0;have m:=Rat.mul_le_mul_of_nonneg_right ha1 p;grind
 | succ n ih =>
  have e:=kD ha x n;have e1:=kD (show (0:Rat)<1 by grind) x n
  have p:=jL ha hx (n+1);have q:=zDG (show (0:Rat)<1 by grind) n
  have m:=Rat.mul_le_mul_of_nonneg_right (show a+((n:Rat)+1)≤1+((n:Rat)+1) by grind) p
  have m2:=Rat.mul_le_mul_of_nonneg_left ih hx;refine Rat.le_of_mul_le_mul_left (c:=1+((n:Rat)+1)) ?_ q;rw[e1];rw[e] at m;exact Rat.le_trans m2 m
theorem uS_anti {a x:Rat} (ha:0<a) (ha1:a≤1) (hx:0≤x) (M:Nat):uS 1 x M≤uS a x M:=by
 induction M with
 | zero=>exact Rat.le_refl
 | succ n ih=>have:=upT_anti ha ha1 hx n;rw[yF,yF];grind
theorem uS_E {a x:Rat} (ha:0<a) (hx:0≤x) (M:Nat):a*uS a x M≤E x M:=by
 induction M with
 | zero=>show a*0≤0;grind
 | succ n ih =>
  have t:=zOR ha hx n;have e:E x (n+1)=E x n+tm x n:=rfl;rw[yF,e];grind
theorem ex_neg_one:Null (fun M=>ex 1 M*ex (-1) M-1):=by
 have s:=zGA 1 (-1);have e:(1:Rat) + -1=0:=by grind
 rw[e] at s;refine s.of_eq_from 1 fun M hM=>?_
 obtain ⟨m,rfl⟩:∃ m,M=m+1:=⟨M-1,by omega⟩
 have:ex 0 (m+1)=1:=zA9 m;rw[this]
theorem q2_one:q2 1=1/2:=by
 have e:q2 1=q2 0/2:=rfl;have e0:q2 0=1:=rfl;rw[e,e0]
theorem gam_half {L:Rat→Nat→Rat} (hL:Lns L) {a:Rat} {g:Nat→Rat} (ha:0<a) (ha1:a≤1) (h:Gam1 L a g):LeN (fun _=>1/2) g:=by
 refine LeN.trans ?_ (h.lo 1 (by grind))
 obtain ⟨N,hN⟩:=zCQ (-1);obtain ⟨z,hz,kz⟩:=(zG3 1).null;have e1 : -((1:Nat):Rat) = -1:=rfl;rw[e1] at kz;have b:=(kS (-1)).mul (zCG ha (show (0:Rat)≤1 by grind))
 have n1:=(zB1 hL a).bmul b;obtain ⟨K,k0,hK⟩:=zMF 1
 have tn:Null (tm 1):=(zA6 K k0).of_le 1 fun M hM=>(hK M).mono (by
  have m1:(1:Rat)≤(M:Rat):=by exact_mod_cast hM
  have:=Rat.mul_le_mul_of_nonneg_left m1 (Rat.mul_nonneg k0 (Rat.le_of_lt (yI M)))
  grind)
 have n2:=tn.bmul (kS (-1));refine LeN.of_null (((n1.neg).add hz).add ((ex_neg_one.neg).add n2.neg)) (N+1) fun M hM=>?_
 have s1:=zM5 (x:=1) M;have s2:=uS_anti ha ha1 (show (0:Rat)≤1 by grind) M
 have e0:=hN M (by omega)
 have k:=kz M;have q:=q2_one;have m:=Rat.mul_le_mul_of_nonneg_left s2 e0;have e2:E 1 (M+1)=ex 1 M+tm 1 M:=rfl;rw[e2] at s1;unfold uG;generalize pr L a 1 M=p at *;generalize ex (-1) M=y at *;generalize uS 1 1 M=u1 at *;generalize uS a 1 M=ua at *;generalize ex 1 M=v at *;generalize tm 1 M=t at *;have r:y*u1=y*(v+t-1):=by rw[← s1];grind
 rw[r] at m;rw[q] at k;grind
theorem gam_top {L:Rat→Nat→Rat} (hL:Lns L) {a:Rat} {g:Nat→Rat} (ha:0<a) (h:Gam1 L a g):LeN g (fun _=>1/a+1):=by
 refine (h.hi 1 (by grind)).trans ?_
 obtain ⟨N,hN⟩:=zCQ (-1);obtain ⟨z,hz,kz⟩:=(zG3 1).null;have e1 : -((1:Nat):Rat) = -1:=rfl;rw[e1] at kz;have b:=(kS (-1)).mul (zCG ha (show (0:Rat)≤1 by grind))
 have n1:=(zB1 hL a).bmul b;have n2:=(zB1 hL (a-1)).bmul (kS (-1));have n3:=ex_neg_one.bmul (Bdd.const (1/a));refine LeN.of_null ((n1.add n2).add (hz.add n3)) N fun M hM=>?_
 have s1:=uS_E ha (show (0:Rat)≤1 by grind) M
 have e0:=hN M hM;have k:=kz M;have q:=q2_one;have m:=Rat.mul_le_mul_of_nonneg_left s1 e0;have e2:E 1 M=ex 1 M:=rfl;rw[e2] at m;have d:=rdm (a:=1) ha;have ip:0≤1/a:=kM ha (by grind)
 have m2:=Rat.mul_le_mul_of_nonneg_left m ip;unfold uG uE;generalize pr L a 1 M=p at *;generalize pr L (a-1) 1 M=p2 at *;generalize ex (-1) M=y at *;generalize uS a 1 M=ua at *;generalize ex 1 M=v at *;have r:1/a*(y*(a*ua))=1/a*a*(y*ua):=by grind
 rw[r,d] at m2;rw[q] at k;generalize 1/a=i at *;clear r d n1 n2 n3 b;grind
theorem uE_half {L:Rat→Nat→Rat} (hL:Lns L) {a:Rat} (ha1:a≤1) {n:Nat} (hn:1≤n):LeN (uE L a (n:Rat)) (fun _=>q2 n):=by
 have n1:(1:Rat)≤(n:Rat):=by exact_mod_cast hn
 have n0:(0:Rat)<(n:Rat):=by grind
 have l1:=(zEQ hL (c:=a-1) (by grind) (show (0:Rat)<1 by grind) n1).trans (LeN.of_eqN (zB1 hL (a-1)))
 have l:=l1.mul (zG3 n) (kS _) (zCQ _) (Bdd.const 1) (Nn.const (by grind))
 exact l.trans (LeN.of_le 0 fun M _=>by grind)
theorem zNO {L:Rat→Nat→Rat} (hL:Lns L) {a x:Rat} (ha:0<a) (hx:0<x):Null (fun M=>uG L a x M-uS a x M/Ev (fun M=>x-a*L x M) M):=by
 have hb:Bdd (fun M=>x-a*L x M):=(Bdd.const x).sub (zAP hL hx a)
 obtain ⟨c,c0,N,hc⟩:=zC5 hb;have i1:=zA1 (zAP hL hx a) (Bdd.const (-x));have i2:=zK0 hb
 have bq:Bdd (fun M=>uS a x M/Ev (fun M=>x-a*L x M) M):=by
  obtain ⟨K,k0,hK⟩:=zNF ha (Rat.le_of_lt hx);refine Bdd.of_le (K/c) N fun M hM=>?_
  have e:=hc M hM;have ep:0<Ev (fun M=>x-a*L x M) M:=by grind
  have s0:=zA7 ha (Rat.le_of_lt hx) M;have q0:0≤uS a x M/Ev (fun M=>x-a*L x M) M:=kM ep (by grind)
  have kc:0≤K/c:=kM c0 (by grind)
  refine ⟨by grind,zA5 ep ?_⟩
  have d:=rdm (a:=K) c0;have m:=Rat.mul_le_mul_of_nonneg_left e kc;have:=hK M;grind
 have bE:=zBG hb;have n1:=(i1.bmul (zCG ha (Rat.le_of_lt hx)));have n2:=i2.bmul bq;refine (n1.add n2).of_eq_from N fun M hM=>?_
 have e:=hc M hM;have ep:0<Ev (fun M=>x-a*L x M) M:=by grind
 have d:=rdm (a:=uS a x M) ep;have e1:Ev (fun M => -(x-a*L x M)) M=Ev (fun M=>a*L x M + -x) M:=by unfold Ev;congr 1;grind
 rw[e1];unfold uG pr ex;generalize Ev (fun M=>a*L x M + -x) M=w1 at *
 generalize Ev (fun M=>a*L x M) M=w2 at *
 have e2:Ev (fun _ => -x) M=Ev (fun M => -x) M:=rfl
 generalize Ev (fun _ => -x) M=w3 at *
 generalize Ev (fun M=>x-a*L x M) M=w4 at *
 generalize uS a x M=s at *;have r:(w4*w1-1)*(s/w4)=s/w4*w4*w1-s/w4:=by grind
 rw[r,d];grind
end Ex
theorem dv_rel {s1 s2 e1 e2 q C D lo hi:Int} (hq:0<q) (h0:0≤s1) (hC:0≤C) (hD:0≤D) (hCq:C≤q) (hDq:D≤q) (he:0<e1) (hee:e1≤e2) (hs:(s2-s1)*q≤C*s2) (hs2:s1≤s2) (he2:(e2-e1)*q≤D*e2) (hlo:lo=s1*q/e2) (hhi:hi = -(-(s2*q)/e1)):(hi-lo)*q≤(C+D)*hi+2*q:=by
 have e20:0<e2:=by omega
 have A:=kE (s1*q) e20;rw[← hlo] at A
 have Cc:(hi-1)*e1≤s2*q:=by
  have:=kE (-(s2*q)) he;have r:(-(s2*q)/e1+1)*e1 = -((hi-1)*e1):=by rw[hhi];grind
  omega
 have hi0:0≤hi:=by
  have : -(s2*q)/e1≤0:=Int.ediv_nonpos_of_nonpos_of_neg (by have:=Int.mul_nonneg (show 0≤s2 by omega) (show 0≤q by omega);omega) he
  omega
 by_cases hz:hi=0
 ·have l0:0≤lo:=by rw[hlo];exact Int.ediv_nonneg (Int.mul_nonneg h0 (by omega)) (by omega)
  have:=Int.mul_nonneg l0 (show 0≤q by omega)
  have r:(hi-lo)*q=hi*q-lo*q:=by grind
  rw[r,hz];omega
 ·have p:0≤hi-1:=by omega
  have B1:s2*(q-C)≤s1*q:=by
   have r1:s2*(q-C)=s2*q-C*s2:=by grind
   have r2:(s2-s1)*q=s2*q-s1*q:=by grind
   omega
  have B2:e2*(q-D)≤e1*q:=by
   have r1:e2*(q-D)=e2*q-D*e2:=by grind
   have r2:(e2-e1)*q=e2*q-e1*q:=by grind
   omega
  have qC:0≤q-C:=by omega
  have qD:0≤q-D:=by omega
  have k1:=Int.mul_le_mul_of_nonneg_left B2 (Int.mul_nonneg p qC);have k2:=Int.mul_le_mul_of_nonneg_right Cc (Int.mul_nonneg qC (show 0≤q by omega))
  have k3:=Int.mul_le_mul_of_nonneg_left B1 (Int.mul_nonneg (show 0≤q by omega) (show 0≤q by omega))
  have k4:=Int.mul_le_mul_of_nonneg_left (show s1*q≤(lo+1)*e2 by omega) (Int.mul_nonneg (show 0≤q by omega) (show 0≤q by omega))
  have r1:(hi-1)*(q-C)*(e1*q)=(hi-1)*e1*((q-C)*q):=by grind
  have r2:s2*q*((q-C)*q)=q*q*(s2*(q-C)):=by grind
  have r3:(hi-1)*(q-C)*(e2*(q-D))=(hi-1)*((q-C)*(q-D))*e2:=by grind
  have r4:q*q*((lo+1)*e2)=(lo+1)*(q*q)*e2:=by grind
  have k5:(hi-1)*((q-C)*(q-D))≤(lo+1)*(q*q):=Int.le_of_mul_le_mul_right (a:=e2) (by omega) e20
  have r5:(q-C)*(q-D)=q*(q-(C+D))+C*D:=by grind
  have cd:=Int.mul_nonneg hC hD;have k6:=Int.mul_le_mul_of_nonneg_left (show q*(q-(C+D))≤(q-C)*(q-D) by omega) p
  have r6:(hi-1)*(q*(q-(C+D)))=(hi-1)*(q-(C+D))*q:=by grind
  have r7:(lo+1)*(q*q)=(lo+1)*q*q:=by grind
  have k7:(hi-1)*(q-(C+D))≤(lo+1)*q:=Int.le_of_mul_le_mul_right (a:=q) (by omega) hq
  have r8:(hi-1)*(q-(C+D))=hi*q-q-(C+D)*hi+(C+D):=by grind
  have r9:(lo+1)*q=lo*q+q:=by grind
  have r10:(hi-lo)*q=hi*q-lo*q:=by grind
  omega
theorem zMW {B:Nat} (h0:40≤B) (h1:B≤1000):16*(10000000*((B:Int)*(B:Int)))≤Q B:=by
 by_cases c:B≤80
 ·have m:=Int.mul_le_mul (show (B:Int)≤80 by omega) (show (B:Int)≤80 by omega) (by omega) (by omega)
  have q:=zJ h0;have e:Q 40=1099511627776:=rfl;omega
 ·have m:=Int.mul_le_mul (show (B:Int)≤1000 by omega) (show (B:Int)≤1000 by omega) (by omega) (by omega)
  have q:=zJ (show 60≤B by omega)
  have e:Q 60=1152921504606846976:=rfl;omega
def gaG (n d:Int) (B:Nat) (o:Int × Int) (t N NS:Nat):Int × Int:=(zEB (jR n d B NS).1 (jR n d B NS).2 (gaE n d B o t N).1 (gaE n d B o t N).2 B,zE1 (jR n d B NS).1 (jR n d B NS).2 (gaE n d B o t N).1 (gaE n d B o t N).2 B+1)
structure GaV (g:Nat→Rat) (B:Nat) (a:Int × Int):Prop where
 lo:Q B≤4*a.1
 le:a.1≤a.2
 rel:(a.2-a.1)*Q B≤10000000*((B:Int)*(B:Int))*a.2
 hi:a.2≤Q (B+43)
 iv:Iv B a g
theorem zKS {B:Nat} {a:Int × Int} {x y:Nat→Rat} (h:Iv B a x) (k:LeN x y) {z:Int} (hz:LeN y (fun _=>(z:Rat)/(Q B:Rat))):a.1≤z:=by
 have q:=zV B;refine Int.not_lt.1 fun hlt=>?_
 have d:(0:Rat)<1/(Q B:Rat):=zL (by grind) q
 obtain ⟨e,he⟩:∃ e,e=1/(Q B:Rat)/4:=⟨_,rfl⟩;have e0:0<e:=by grind
 obtain ⟨N1,k1⟩:=h e e0;obtain ⟨N2,k2⟩:=k e e0;obtain ⟨N3,k3⟩:=hz e e0;have a1:=(k1 (N1+N2+N3) (by omega)).1
 have a2:=k2 (N1+N2+N3) (by omega)
 have a3:=k3 (N1+N2+N3) (by omega)
 simp only[] at a3;have c:=zW (show z+1≤a.1 by omega)
 rw[Rat.intCast_add] at c;have c1:((1:Int):Rat)=1:=rfl;rw[c1] at c;have m:((z:Rat)+1)/(Q B:Rat)≤(a.1:Rat)/(Q B:Rat):=jS q (by rw[rdm q];exact c)
 rw[yC] at m;generalize 1/(Q B:Rat)=i at *;grind
theorem gaG_ok {L:Rat→Nat→Rat} (hL:Lns L) {n d:Int} {B t N NS:Nat} {o:Int × Int} {g:Nat→Rat} (h:zGI n d B) (hg:Gam1 L ((n:Rat)/(d:Rat)) g) (ho:zO2 L B o) (ht:t≤19) (hA:Abs (zN (gaY n d B o) t) (Q (B-8))) (hN:jX (zY B (zN (gaY n d B o) t)) N) (hS:NS≤65*B+126) (hS2:zBV (gaT n d B) (2*B) NS):GaV g B (gaG n d B o t N NS):=by
 obtain ⟨s1,s2,s3⟩:=zKG h hS;obtain ⟨e1,e2,e3,e4,e5⟩:=gaE_ok h ho ht hA hN;have si:=ga_has h hS2;have n0:=h.n0;have nd:=h.nd;have b0:=h.b0;have b1:=h.b1;have q:=zG B;have qr:=zV B;have big:=zMW b0 b1;have BB:=Int.mul_le_mul (show (40:Int)≤(B:Int) by omega) (show (40:Int)≤(B:Int) by omega) (by omega) (by omega)
 have nr:(0:Rat)<(n:Rat):=by exact_mod_cast n0
 have dr:(0:Rat)<(d:Rat):=by exact_mod_cast (show 0<d by omega)
 have a0:(0:Rat)<(n:Rat)/(d:Rat):=zL nr dr;have a1:(n:Rat)/(d:Rat)≤1:=zA5 dr (by have:=zW nd;grind)
 have bb:(0:Rat)<(B:Rat):=by exact_mod_cast (show 0<B by omega)
 have dv:Iv B (zEB (jR n d B NS).1 (jR n d B NS).2 (gaE n d B o t N).1 (gaE n d B o t N).2 B,zE1 (jR n d B NS).1 (jR n d B NS).2 (gaE n d B o t N).1 (gaE n d B o t N).2 B) (uG L ((n:Rat)/(d:Rat)) (B:Rat)):=(Iv.dv si e5 (show 0≤(jR n d B NS).1 by omega) (show 0<(gaE n d B o t N).1 by omega)).congr (zNO hL a0 bb)
 obtain ⟨l1,l2⟩:=zNM (b:=B) (lo:=(jR n d B NS).1) (hi:=(jR n d B NS).2) (lo':=(gaE n d B o t N).1) (hi':=(gaE n d B o t N).2) (by omega) s2 (by omega) e2
 have iv:Iv B (gaG n d B o t N NS) g:=by
  have low:=hg.lo _ bb;have up:=(hg.hi _ bb).trans ((LeN.refl _).add (uE_half hL a1 (show 1≤B by omega)))
  have qq:q2 B=1/(Q B:Rat):=by
   have:∀ k:Nat,q2 k*(Q k:Rat)=1:=fun k=>by
    induction k with
    | zero =>
     show (1:Rat)*((1:Int):Rat)=1
     have c1:((1:Int):Rat)=1:=rfl;rw[c1];grind
    | succ k ih =>
     have e:q2 (k+1)=q2 k/2:=rfl;have e2:Q (k+1)=2*Q k:=rfl;rw[e,e2,Rat.intCast_mul];have:((2:Int):Rat)=2:=rfl;rw[this];grind
   have k:=this B;refine Rat.le_antisymm (kM qr (by rw[k];exact Rat.le_refl)) (zA5 qr (by rw[k];exact Rat.le_refl))
  intro e he
  obtain ⟨N1,k1⟩:=dv (e/2) (by grind)
  obtain ⟨N2,k2⟩:=low (e/2) (by grind)
  obtain ⟨N3,k3⟩:=up (e/2) (by grind)
  refine ⟨N1+N2+N3,fun M hM=>?_⟩
  obtain ⟨x1,x2⟩:=k1 M (by omega)
  have x3:=k2 M (by omega)
  have x4:=k3 M (by omega)
  simp only[] at x4;unfold gaG;simp only[] at x1 x2 ⊢;rw[Rat.intCast_add,yC];have c1:((1:Int):Rat)=1:=rfl;rw[c1,← qq];generalize ((zEB (jR n d B NS).1 (jR n d B NS).2 (gaE n d B o t N).1 (gaE n d B o t N).2 B:Int):Rat)/(Q B:Rat)=z1 at *;generalize ((zE1 (jR n d B NS).1 (jR n d B NS).2 (gaE n d B o t N).1 (gaE n d B o t N).2 B:Int):Rat)/(Q B:Rat)=z2 at *;generalize uG L ((n:Rat)/(d:Rat)) (B:Rat) M=z3 at *;generalize g M=z4 at *;generalize q2 B=z5 at *;clear dv low up k1 k2 k3 si e5 l1 l2 s3 e4;exact ⟨by grind,by grind⟩
 have rel0:=dv_rel (q:=Q B) (C:=9500*((B:Int)*(B:Int))) (D:=9900000*((B:Int)*(B:Int))) (show 0<Q B by omega) (show 0≤(jR n d B NS).1 by omega) (by omega) (by omega) (by omega) (by omega) (show 0<(gaE n d B o t N).1 by omega) e2 s3 s2 e4 l1 l2
 have gl:(gaG n d B o t N NS).1=zEB (jR n d B NS).1 (jR n d B NS).2 (gaE n d B o t N).1 (gaE n d B o t N).2 B:=rfl;have gh:(gaG n d B o t N NS).2=zE1 (jR n d B NS).1 (jR n d B NS).2 (gaE n d B o t N).1 (gaE n d B o t N).2 B+1:=rfl;rw[← gl] at rel0;have gh':zE1 (jR n d B NS).1 (jR n d B NS).2 (gaE n d B o t N).1 (gaE n d B o t N).2 B=(gaG n d B o t N NS).2-1:=by rw[gh];omega
 rw[gh'] at rel0;have le:(gaG n d B o t N NS).1≤(gaG n d B o t N NS).2:=iv.le;have half:=gam_half hL a0 a1 hg
 have hi2:Q B≤2*(gaG n d B o t N NS).2:=by
  refine Int.not_lt.1 fun hlt=>?_
  have hi:=zKS (B:=B+1) (a:=(Q B,Q B)) (x:=fun _=>1/2) (y:=g) (z:=2*(gaG n d B o t N NS).2) ?_ half ?_
  ·omega
  ·have e:Q (B+1)=2*Q B:=rfl
   refine Has.of_from 0 fun M _=>?_
   have:(Q B:Rat)/(Q (B+1):Rat)=1/2:=by
    rw[e,Rat.intCast_mul];have c2:((2:Int):Rat)=2:=rfl;rw[c2];have p:(0:Rat)<2*(Q B:Rat):=by grind
    exact Rat.le_antisymm (zA5 p (by grind)) (kM p (by grind))
   simp only[this];exact ⟨Rat.le_refl,Rat.le_refl⟩
  ·intro e he
   obtain ⟨N1,k1⟩:=iv e he;refine ⟨N1,fun M hM=>?_⟩
   have:=(k1 M hM).2
   have e2:((2*(gaG n d B o t N NS).2:Int):Rat)/(Q (B+1):Rat)=((gaG n d B o t N NS).2:Rat)/(Q B:Rat):=by
    have e:Q (B+1)=2*Q B:=rfl;rw[e,Rat.intCast_mul,Rat.intCast_mul];have c2:((2:Int):Rat)=2:=rfl;rw[c2];have p:(0:Rat)<2*(Q B:Rat):=by grind
    have dq:=rdm (a:=((gaG n d B o t N NS).2:Rat)) qr;refine Rat.le_antisymm (zA5 p ?_) (kM p ?_)
    ·have:((gaG n d B o t N NS).2:Rat)/(Q B:Rat)*(2*(Q B:Rat))=2*(((gaG n d B o t N NS).2:Rat)/(Q B:Rat)*(Q B:Rat)):=by grind
     rw[this,dq];exact Rat.le_refl
    ·have:((gaG n d B o t N NS).2:Rat)/(Q B:Rat)*(2*(Q B:Rat))=2*(((gaG n d B o t N NS).2:Rat)/(Q B:Rat)*(Q B:Rat)):=by grind
     rw[this,dq];exact Rat.le_refl
   simp only[];rw[e2];exact this
 have rel:((gaG n d B o t N NS).2-(gaG n d B o t N NS).1)*Q B≤10000000*((B:Int)*(B:Int))*(gaG n d B o t N NS).2:=by
  clear gl gh gh' l1 l2 dv e3 e4 e1 e2 s1 s2 s3;generalize (gaG n d B o t N NS).2=H at *;generalize (gaG n d B o t N NS).1=L0 at *;generalize (B:Int)*(B:Int)=b2 at *;have r1:(H-1-L0)*Q B=(H-L0)*Q B-Q B:=by grind
  have r2:(9500*b2+9900000*b2)*(H-1)=9909500*b2*H-9909500*b2:=by grind
  rw[r1,r2] at rel0;have m:=Int.mul_le_mul_of_nonneg_right (show 6≤90500*b2 by omega) (show 0≤H by omega)
  have r3:10000000*b2*H=9909500*b2*H+90500*b2*H:=by grind
  rw[r3];omega
 have sm:16*((gaG n d B o t N NS).2-(gaG n d B o t N NS).1)≤(gaG n d B o t N NS).2:=by
  have m:=Int.mul_le_mul_of_nonneg_right big (show 0≤(gaG n d B o t N NS).2 by omega)
  refine Int.le_of_mul_le_mul_right (a:=Q B) ?_ (by omega)
  have r:16*((gaG n d B o t N NS).2-(gaG n d B o t N NS).1)*Q B=16*(((gaG n d B o t N NS).2-(gaG n d B o t N NS).1)*Q B):=by grind
  have r2:16*(10000000*((B:Int)*(B:Int)))*(gaG n d B o t N NS).2=16*(10000000*((B:Int)*(B:Int))*(gaG n d B o t N NS).2):=by grind
  have r3:Q B*(gaG n d B o t N NS).2=(gaG n d B o t N NS).2*Q B:=Int.mul_comm _ _;omega
 have top:=gam_top hL a0 hg
 have lo42:(gaG n d B o t N NS).1≤Q (B+42):=by
  refine zKS iv top (LeN.of_le 0 fun M _=>?_)
  refine kR qr ?_;have e:Q (B+42)=Q B*Q 42:=jC B 42;have e42:Q 42=4398046511104:=rfl;rw[e,e42,Rat.intCast_mul];have c42:((4398046511104:Int):Rat)=4398046511104:=rfl;rw[c42]
  have i:1/((n:Rat)/(d:Rat))≤2199023255552:=by
   refine zA5 a0 ?_;have dd:=zW h.dd;have cdd:((2199023255552:Int):Rat)=2199023255552:=rfl;rw[cdd] at dd;have n1:=zW (show 1≤n by omega)
   have c1:((1:Int):Rat)=1:=rfl;rw[c1] at n1;have r:2199023255552*((n:Rat)/(d:Rat))=2199023255552*(n:Rat)/(d:Rat):=by rw[Rat.div_def,Rat.div_def];grind
   rw[r];exact kM dr (by grind)
  have m:=Rat.mul_le_mul_of_nonneg_right (show 1/((n:Rat)/(d:Rat))+1≤4398046511104 by grind) (Rat.le_of_lt qr)
  grind
 refine ⟨by omega,le,rel,?_,iv⟩
 have e:Q (B+43)=2*Q (B+42):=rfl;have:=zG (B+42);omega
open Ex
def stN (n d:Int):Nat:=((n-1)/d).toNat
def stP (n d:Int):Nat→Int
 | 0=>1
 | k+1=>stP n d k*(n-((k:Int)+1)*d)
def stQ (d:Int):Nat→Int
 | 0=>1
 | k+1=>stQ d k*d
structure StIn (n d:Int):Prop where
 n0:0<n
 d0:0<d
 dd:d≤2199023255552
 up:n≤201*d
theorem StIn.rest {n d:Int} (h:StIn n d):0<n-(stN n d:Int)*d∧n-(stN n d:Int)*d≤d∧stN n d≤200:=by
 have d0:=h.d0;have n0:=h.n0;have q0:0≤(n-1)/d:=Int.ediv_nonneg (by omega) (by omega)
 have e:((stN n d:Nat):Int)=(n-1)/d:=by unfold stN;omega
 have f1:=Int.ediv_mul_le (n-1) (show d≠0 by omega)
 have f2:=Int.lt_ediv_add_one_mul_self (n-1) d0;have r:((n-1)/d+1)*d=(n-1)/d*d+d:=by grind
 refine ⟨by rw[e];omega,by rw[e];omega,?_⟩
 have:(n-1)/d<201:=Int.ediv_lt_of_lt_mul d0 (by have:=h.up;omega)
 omega
theorem StIn.in_ {n d:Int} (h:StIn n d) {B:Nat} (h0:40≤B) (h1:B≤1000):zGI (n-(stN n d:Int)*d) d B:=⟨h.rest.1,h.rest.2.1,h.dd,h0,h1⟩
theorem st_at {n d:Int} (h:StIn n d) {k:Nat} (hk:k≤stN n d):0<n-(k:Int)*d∧(k<stN n d→d<n-(k:Int)*d):=by
 obtain ⟨r1,r2,r3⟩:=h.rest;have d0:=h.d0;have m:=Int.mul_le_mul_of_nonneg_right (show (k:Int)≤(stN n d:Int) by omega) (show 0≤d by omega)
 refine ⟨by omega,fun hlt=>?_⟩
 have m2:=Int.mul_le_mul_of_nonneg_right (show (k:Int)+1≤(stN n d:Int) by omega) (show 0≤d by omega)
 have r:((k:Int)+1)*d=(k:Int)*d+d:=by grind
 omega
theorem zIU {d:Int} (h:0<d) (k:Nat):0<stQ d k:=by
 induction k with
 | zero=>show (0:Int)<1;decide
 | succ k ih=>exact Int.mul_pos ih h
theorem zNI {n d:Int} (h:StIn n d) {k:Nat} (hk:k≤stN n d):0<stP n d k:=by
 induction k with
 | zero=>show (0:Int)<1;decide
 | succ k ih =>
  have:=(st_at h (k:=k+1) hk).1;have e:((k+1:Nat):Int)=(k:Int)+1:=by omega
  rw[e] at this;exact Int.mul_pos (ih (by omega)) this
theorem stP_next (n d:Int) (k:Nat):stP (n+d) d (k+1)=n*stP n d k:=by
 induction k with
 | zero =>
  show 1*(n+d-(((0:Nat):Int)+1)*d)=n*1
  have e:((0:Nat):Int)=0:=rfl;rw[e];omega
 | succ k ih =>
  show stP (n+d) d (k+1)*(n+d-(((k+1:Nat):Int)+1)*d)=n*(stP n d k*(n-((k:Int)+1)*d))
  have e:((k+1:Nat):Int)=(k:Int)+1:=by omega
  rw[ih,e];have r:n+d-((k:Int)+1+1)*d=n-((k:Int)+1)*d:=by grind
  rw[r];grind
theorem zLG {n d:Int} (h:0<d) (h0:0<n):stN (n+d) d=stN n d+1:=by
 unfold stN;have q0:0≤(n-1)/d:=Int.ediv_nonneg (by omega) (by omega)
 have e:(n+d-1)/d=(n-1)/d+1:=by
  have r:n+d-1=(n-1)+1*d:=by omega
  rw[r,Int.add_mul_ediv_right _ _ (by omega)]
 rw[e];omega
def gmV (n d:Int) (g:Nat→Rat) (M:Nat):Rat:=(stP n d (stN n d):Rat)/(stQ d (stN n d):Rat)*g M
structure LsIn (a:Int × Int) (B:Nat) (o1 o2:Int × Int) (l1 l2:Nat→Rat):Prop where
 a0:0<a.1
 al:a.1≤a.2
 g1:IsLog l1 (fun _=>(a.1:Rat)/(Q B:Rat))
 g2:IsLog l2 (fun _=>(a.2:Rat)/(Q B:Rat))
 i1:Iv B o1 l1
 i2:Iv B o2 l2
theorem ls_has {a:Int × Int} {B:Nat} {o1 o2:Int × Int} {l1 l2 g lg:Nat→Rat} (h:LsIn a B o1 o2 l1 l2) (hg:Iv B a g) (hl:IsLog lg g):Iv B (o1.1,o2.2) lg:=by
 have low:LeN l1 lg:=fun e he=>by
  obtain ⟨z,hz,kz⟩:=(show LeN (fun _=>(a.1:Rat)/(Q B:Rat)) g from fun e he=>by
   obtain ⟨N,k⟩:=hg e he
   exact ⟨N,fun M hM=>by have:=(k M hM).1;grind⟩).null
  exact h.g1.le hl hz 0 (fun M _=>kz M) e he
 have up:LeN lg l2:=fun e he=>by
  obtain ⟨z,hz,kz⟩:=(show LeN g (fun _=>(a.2:Rat)/(Q B:Rat)) from fun e he=>by
   obtain ⟨N,k⟩:=hg e he
   exact ⟨N,fun M hM=>(k M hM).2⟩).null
  exact hl.le h.g2 hz 0 (fun M _=>kz M) e he
 intro e he
 obtain ⟨N1,k1⟩:=low (e/2) (by grind)
 obtain ⟨N2,k2⟩:=up (e/2) (by grind)
 obtain ⟨N3,k3⟩:=h.i1 (e/2) (by grind)
 obtain ⟨N4,k4⟩:=h.i2 (e/2) (by grind)
 refine ⟨N1+N2+N3+N4,fun M hM=>?_⟩
 have x1:=k1 M (by omega)
 have x2:=k2 M (by omega)
 have x3:=(k3 M (by omega)).1
 have x4:=(k4 M (by omega)).2
 exact ⟨by grind,by grind⟩
theorem zPF {a:Int × Int} {B:Nat} {o1 o2:Int × Int} {l1 l2:Nat→Rat} (h:LsIn a B o1 o2 l1 l2) {C:Int} (hr:(a.2-a.1)*Q B≤C*a.1):o2.1-o1.2≤C:=by
 have q:=zV B;have a0:(0:Rat)<(a.1:Rat):=by exact_mod_cast h.a0
 have a1q:(0:Rat)<(a.1:Rat)/(Q B:Rat):=zL a0 q;obtain ⟨δ,hδ⟩:∃ δ:Rat,δ=((a.2-a.1:Int):Rat)/(a.1:Rat):=⟨_,rfl⟩;have dm:δ*(a.1:Rat)=((a.2-a.1:Int):Rat):=by rw[hδ];exact rdm a0
 have d0:0≤δ:=by rw[hδ];exact kR a0 (by have:=zW (show 0≤a.2-a.1 by have:=h.al;omega);have e:((0:Int):Rat)=0:=rfl;rw[e] at this;grind)
 have lg:IsLog (fun M=>l1 M+δ) (fun M=>(a.1:Rat)/(Q B:Rat)*ex δ M):=h.g1.add (zC3 δ)
 have le:LeN l2 (fun M=>l1 M+δ):=fun e he=>h.g2.le lg null_zero 2 (fun M hM=>by
  have k:1+δ≤ex δ M:=zKK d0 hM;have m:=Rat.mul_le_mul_of_nonneg_left k (Rat.le_of_lt a1q)
  have e1:(a.1:Rat)/(Q B:Rat)*(1+δ)=(a.2:Rat)/(Q B:Rat):=by
   have r:(a.1:Rat)/(Q B:Rat)*(1+δ)=((a.1:Rat)+δ*(a.1:Rat))/(Q B:Rat):=by rw[Rat.div_def,Rat.div_def];grind
   rw[r,dm,Rat.intCast_sub]
   congr 1;grind
  grind) e he
 have dC:δ≤(C:Rat)/(Q B:Rat):=by
  refine kR q ?_;rw[hδ];have c:=zW hr;rw[Rat.intCast_mul,Rat.intCast_mul] at c;have r:((a.2-a.1:Int):Rat)/(a.1:Rat)*(Q B:Rat)=((a.2-a.1:Int):Rat)*(Q B:Rat)/(a.1:Rat):=by rw[Rat.div_def,Rat.div_def];grind
  rw[r];exact jS a0 c
 have k:=zKS (B:=B) (a:=o2) (x:=l2) (y:=fun M=>l1 M+δ) (z:=o1.2+C) h.i2 le (fun e he=>by
  obtain ⟨N,kk⟩:=h.i1 e he;refine ⟨N,fun M hM=>?_⟩
  have:=(kk M hM).2;rw[Rat.intCast_add,yC]
  grind)
 omega
structure LgPr (x:Nat→Rat) (B W:Nat) (l u:Int):Prop where
 le:l≤u
 wd:u-l≤Q W
 ab:Abs (l,u) (Q (B+W))
 iv:Iv B (l,u) x
structure LbOk (B:Nat) (o:Int × Int):Prop where
 le:o.1≤o.2
 ab:Abs o (60000*Q B)
 wd:o.2-o.1≤60000000
theorem lb_of {B N N2:Nat} {n' d' c:Int} (hB:16≤B) (hB2:B≤1000) (h:yG n' d') (hN:jX (lnT n' d' B) N) (hN2:jX (lnT 2 1 B) N2) (k:Nat) (hk:k≤900) (h1 : -(16*(k:Int)+1)≤c) (h2:c≤16*(k:Int)+1):LbOk B (zFS (zQ (lnT n' d' B) N) (zQ (lnT 2 1 B) N2) c):=by
 obtain ⟨b1,b2,b3⟩:=zFF (k:=c) h hB hN hN2 (16*(k:Int)+1) h1 h2;have q:=zG B;refine ⟨b1,b2.mono ?_,?_⟩
 ·have m:=Int.mul_le_mul_of_nonneg_right (show 16*(k:Int)+1+1≤15000 by omega) (show 0≤4*Q B by omega)
  omega
 ·have m:=Int.mul_le_mul (show 16*(k:Int)+1+1≤14402 by omega) (show 2*(((B:Int)/3+2)*6+2)≤4030 by omega) (by omega) (by omega)
  omega
theorem lgam_ok {n d:Int} {g lp x l1 l2:Nat→Rat} {B:Nat} {a o1 o2 o:Int × Int} (h:StIn n d) (hB0:40≤B) (hB:B≤1000) (ha:GaV g B a) (ls:LsIn a B o1 o2 l1 l2) (hp:IsLog lp (fun _=>(stP n d (stN n d):Rat)/(stQ d (stN n d):Rat))) (io:Iv B o lp) (k1:LbOk B o1) (k2:LbOk B o2) (k3:LbOk B o) (hx:IsLog x (gmV n d g)) (hgp:∃ c:Rat,0<c∧∃ N:Nat,∀ M,N≤M→c≤g M) {L:Rat→Nat→Rat} (hL:Lns L):LgPr x B 46 (o1.1+o.1) (o2.2+o.2):=by
 obtain ⟨lg,hlg⟩:=zN5 hL ha.iv.bdd hgp;have i1:=ls_has ls ha.iv hlg;have both:=hp.add hlg;have i2:Iv B (jJ (o1.1,o2.2) o) (fun M=>lg M+lp M):=i1.add io
 have iv:Iv B (o1.1+o.1,o2.2+o.2) x:=by
  have n:=hx.uniq (both.congr_r (r':=gmV n d g) (null_zero.of_eq fun M=>by unfold gmV;grind))
  exact i2.congr (n.of_eq fun M=>by grind)
 have q:=zG B;have big:=zMW hB0 hB;have BB:=Int.mul_nonneg (show (0:Int)≤(B:Int) by omega) (show (0:Int)≤(B:Int) by omega)
 have B2:=Int.mul_le_mul (show (B:Int)≤1000 by omega) (show (B:Int)≤1000 by omega) (by omega) (by omega)
 have a0:0<a.1:=by have:=ha.lo;omega
 have al:=ha.le
 have twice:a.2≤2*a.1:=by
  have m:=Int.mul_le_mul_of_nonneg_right big (show 0≤a.2 by omega)
  have r:=ha.rel
  have s:16*(a.2-a.1)≤a.2:=by
   refine Int.le_of_mul_le_mul_right (a:=Q B) ?_ (by omega)
   have r1:16*(a.2-a.1)*Q B=16*((a.2-a.1)*Q B):=by grind
   have r2:16*(10000000*((B:Int)*(B:Int)))*a.2=16*(10000000*((B:Int)*(B:Int))*a.2):=by grind
   have r3:Q B*a.2=a.2*Q B:=Int.mul_comm _ _;omega
  omega
 have w:=zPF ls (C:=20000000000000) (by
  have m1:=Int.mul_le_mul_of_nonneg_left twice (show 0≤10000000*((B:Int)*(B:Int)) by omega)
  have m2:=Int.mul_le_mul_of_nonneg_right (show 10000000*((B:Int)*(B:Int))≤10000000000000 by omega) (show 0≤2*a.1 by omega)
  have:=ha.rel
  omega)
 have e46:Q 46=70368744177664:=rfl;have w1:=k1.wd;have w2:=k2.wd;have w3:=k3.wd;have l3:=k3.le;have le:o1.1+o.1≤o2.2+o.2:=iv.le;refine ⟨le,by omega,?_,iv⟩
 have eB:Q (B+46)=Q B*Q 46:=jC B 46;rw[e46] at eB;obtain ⟨x1,x2,x3,x4⟩:=k1.ab;obtain ⟨y1,y2,y3,y4⟩:=k2.ab;obtain ⟨z1,z2,z3,z4⟩:=k3.ab;exact ⟨by show _≤o1.1+o.1;omega,by show o1.1+o.1≤_;omega,by show _≤o2.2+o.2;omega,by show o2.2+o.2≤_;omega⟩
open Go
section
variable {Pg : Program} {ops : Array Oper} {Q : Exit → Act → World → Prop} {md : Region.Mode} {S : Nat → World → Prop}
def AnyS (Pg:Program) (md:Region.Mode) (ops:Array Oper) (Q:Exit→Act→World→Prop) (S:Nat→World→Prop):Nat→Array Bool→Act→World→Prop
 | 0,listed,a,w=>Region.ready md ops listed=[]∧Q .normal a w
 | fuel+1,listed,a,w =>
  (Region.ready md ops listed=[]→Q .normal a w) ∧
  ∀ i ∈ Region.ready md ops listed,wpOp Pg ops Q i (fun a' w'=>S i w'∧AnyS Pg md ops Q S fuel (listed.setIfInBounds i true) a' w') a w
theorem AnyS.any:∀ (fuel:Nat) (listed:Array Bool) (a:Act) (w:World),AnyS Pg md ops Q S fuel listed a w→wpAny Pg md ops Q fuel listed a w
 | 0,_,_,_,h=>h
 | fuel+1,_,_,_,h=>⟨h.1,fun i hi=>wpOp_mono (fun a' w' h'=>AnyS.any fuel _ a' w' h'.2) (h.2 i hi)⟩
theorem AnyS.first {i:Nat} {oi:Oper} {v:Value} {T:World→Prop} (hi:ops[i]?=some oi) (hsel:∀ (j:Nat) (o:Oper) cs b,ops[j]?=some o→o.op≠.select cs b)
  (hQ:∀ c a w,Q (.panic c) (a.put oi.dst v) w→Q (.panic c) a w) (hi':∀ w,T w→S i w) :
  ∀ (fuel:Nat) (listed:Array Bool) (a:Act) (w:World),(∀ j,listed.getD j true=false→zIW md ops j i=true∨∀ w,S j w→T w) →
   (∀ j oj,ops[j]?=some oj→j≠i→listed.getD j true=false→(∀ e ∈ oj.after,Region.binds md e=true→e.on≠i)→oi.apart ops oj=true) →
   i ∈ Region.ready md ops listed→YieldsIf Pg ops T oi v a→T w→S i w →
   AnyS Pg md ops Q S fuel (listed.setIfInBounds i true) (a.put oi.dst v) w→AnyS Pg md ops Q S (fuel+1) listed a w:=by
 intro fuel
 induction fuel with
 | zero =>
  intro listed a w hT _ hr hy hT' hS H
  refine ⟨fun h=>(by rw[h] at hr;cases hr),fun j hj=>?_⟩
  by_cases hji:j=i
  ·subst hji;exact hy.wpOp hi hT' ⟨hS,H⟩
  ·have:=ready_mono hj hji
   rw[H.1] at this
   cases this
 | succ fuel ih =>
  intro listed a w hT hfree hr hy hT' hS H
  refine ⟨fun h=>(by rw[h] at hr;cases hr),fun j hj=>?_⟩
  by_cases hji:j=i
  ·subst hji;exact hy.wpOp hi hT' ⟨hS,H⟩
  ·have hjT:∀ w,S j w→T w:=by
    rcases hT j (mem_ready.1 hj).1 with h|h
    ·exact absurd hj (fun hj=>zHS h hr hj)
    ·exact h
   have h1:=H.2 j (ready_mono hj hji);obtain ⟨hjun,oj,hoj,hall⟩:=mem_ready.1 hj
   have hnot:∀ e ∈ oj.after,Region.binds md e=true→e.on≠i:=fun e he hb heq=>by
    have h1:=hall e he hb;have h0:=(mem_ready.1 hr).1;rw[heq] at h1
    rcases Nat.lt_or_ge i listed.size with h'|h'
    ·simp[h'] at h0 h1;rw[h0] at h1;cases h1
    ·simp[Array.getElem?_eq_none h'] at h1
   have h2:=wpOp_putIf hoj (hfree j oj hoj hji hjun hnot) (fun cs b=>hsel i oi cs b hi) (fun cs b=>hsel j oj cs b hoj) hQ hy h1
   have hfree':∀ k ok,ops[k]?=some ok→k≠i→(listed.setIfInBounds j true).getD k true=false →
     (∀ e ∈ ok.after,Region.binds md e=true→e.on≠i)→oi.apart ops ok=true:=fun k ok hk hki hun hno=>by
    refine hfree k ok hk hki ?_ hno
    by_cases hjk:j=k
    ·subst hjk;exact hjun
    ·rw[getD_set_ne true hjk] at hun;exact hun
   have hT2:∀ k,(listed.setIfInBounds j true).getD k true=false→zIW md ops k i=true∨∀ w,S k w→T w:=fun k hk=>by
    refine hT k ?_
    by_cases hjk:j=k
    ·subst hjk;exact hjun
    ·rw[getD_set_ne true hjk] at hk;exact hk
   refine wpOp_mono (fun a' w' h3=>⟨h3.2.1,ih (listed.setIfInBounds j true) a' w' hT2 hfree' (ready_mono hr (Ne.symm hji)) h3.1 (hjT w' h3.2.1) (hi' _ (hjT w' h3.2.1)) ?_⟩) h2
   rw[Array.setIfInBounds_comm _ _ hji];exact h3.2.2
theorem AnyS.take {i:Nat} {oi:Oper} {v:Value} {T:World→Prop} {fuel:Nat} {listed:Array Bool} {a:Act} {w:World} (hi:ops[i]?=some oi)
  (hs:Region.noSelect ops=true) (hf:Region.free md ops listed i=true) (hr:(Region.ready md ops listed).contains i=true)
  (hQ:∀ c a w,Q (.panic c) (a.put oi.dst v) w→Q (.panic c) a w) (k m:Nat) (hk:∀ j,listed.getD j true=false→j<k∨k+m≤j→∀ w,S j w→T w) (hlate:(List.range m).all (fun j=>zIW md ops (k+j) i)=true)
  (hi':∀ w,T w→S i w) (hy:YieldsIf Pg ops T oi v a) (hTw:T w)
  (h:AnyS Pg md ops Q S fuel (listed.setIfInBounds i true) (a.put oi.dst v) w):AnyS Pg md ops Q S (fuel+1) listed a w :=
 AnyS.first hi (Region.noSelect_spec hs) hQ hi' fuel listed a w (fun j hj=>by
  by_cases h1:j<k∨k+m≤j
  ·exact Or.inr (hk j hj h1)
  ·refine Or.inl ?_
   have:=(List.all_eq_true.1 hlate) (j-k) (List.mem_range.2 (by omega))
   have e:k+(j-k)=j:=by omega
   rw[e] at this
   exact this) (Region.free_spec hi hf) (by simpa using hr) hy hTw (hi' _ hTw) h
theorem AnyS.one {i:Nat} {o:Oper} {fuel:Nat} {listed:Array Bool} {a:Act} {w:World} (hr:Region.ready md ops listed=[i]) (ho:ops[i]?=some o)
  (h:∀ K':Act→World→Prop,Shut (∀ a w,S i w→(S i w→AnyS Pg md ops Q S fuel (listed.setIfInBounds i true) a w)→K' a w)→if Region.wanted o (yielded ops a.tmps)=true then Oper.wp Pg o a w K' Q else K' (a.put o.dst undef) w) :
  AnyS Pg md ops Q S (fuel+1) listed a w :=
 ⟨fun h0=>absurd (hr ▸ h0) (by simp),fun j hj=>by
  rw[hr] at hj;have hj':j=i:=by simpa using hj
  subst hj'
  exact wpOp_step ho (fun K' hK=>h K' (fun a w hS hW=>hK a w ⟨hS,hW hS⟩))⟩
theorem AnyS.last {l:Nat} {o:Oper} {fuel:Nat} {listed:Array Bool} {a:Act} {w:World} (hr:Region.ready md ops listed=[l]) (ho:ops[l]?=some o)
  (hd:Region.ready md ops (listed.setIfInBounds l true)=[]) (hSl:∀ w,S l w)
  (h:∀ K':Act→World→Prop,Shut (∀ a w,Q .normal a w→K' a w)→if Region.wanted o (yielded ops a.tmps)=true then Oper.wp Pg o a w K' Q else K' (a.put o.dst undef) w) :
  AnyS Pg md ops Q S (fuel+1) listed a w :=
 ⟨fun h0=>absurd (hr ▸ h0) (by simp),fun j hj=>by
  rw[hr] at hj;have hj':j=l:=by simpa using hj
  subst hj';refine wpOp_step ho (fun K' hK=>h K' (fun a w hW=>hK a w ⟨hSl w,?_⟩))
  cases fuel with
  | zero=>exact ⟨hd,hW⟩
  | succ fuel=>exact ⟨fun _=>hW,by rw[hd];simp⟩⟩
theorem AnyS.start {id:Nat} {a:Act} {w:World} (hm:Pg.follows .mixedOrders=true)
  (h:AnyS Pg .any ops Q S ops.size (Array.replicate ops.size false) a w.drew):(Code.region id ops true).wp Pg Q a w :=
 wp_region_any hm (AnyS.any _ _ _ _ h)
end
end Go.Proofs.YtgmnknmjainababGreat
