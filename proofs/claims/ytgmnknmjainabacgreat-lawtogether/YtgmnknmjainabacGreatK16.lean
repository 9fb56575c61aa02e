/-
  Its own texts.
-/
import Derived.Test.YtgmnknmjainabacGreatK15
set_option maxRecDepth 100000
set_option maxHeartbeats 40000000
set_option linter.unusedVariables false
namespace Go.Proofs.YtgmnknmjainabacGreat
open Ex
def ErfN (n d:Int) (B:Nat) (s e:Int):Prop:=∀ (w':World) (x y:Nm),IntAt w' x.neg x.a x.n x.cap 8 n->IntAt w' y.neg y.a y.n y.cap 8 d ->
 Calls Tryz.prog 178 #[.agg x.q,.agg y.q,.int .i64 B] w' (zH w' B 3000 s e)
def nrY (p q:Int):Rat:=((p*p:Int):Rat)/((q*q*2:Int):Rat)
def nrR (R2:Nat->Rat) (p q:Int) (M:Nat):Rat:=zG2 p q*(R2 M/2)
theorem zKG {p q:Int} (hq:0<q):nrY p q=zG2 p q*zG2 p q/2:=by
 have q0:(0:Rat)<((q*q:Int):Rat):=by exact_mod_cast Int.mul_pos hq hq
 have q2:(0:Rat)<((q*q*2:Int):Rat):=by exact_mod_cast (show 0<q*q*2 by have:=Int.mul_pos hq hq;omega)
 have e:=(zLI (p:=p) hq).2;have r:=rdm (a:=((p*p:Int):Rat)) q2;unfold nrY;have e2:((q*q*2:Int):Rat)=((q*q:Int):Rat)*2:=by rw[YA (q*q) 2];rfl
 have k:zG2 p q*zG2 p q/2*((q*q*2:Int):Rat)=((p*p:Int):Rat):=by rw[e2,<- e];grind
 exact Rat.le_antisymm (Rat.le_of_mul_le_mul_right (by rw[r,k];exact Rat.le_refl) q2) (Rat.le_of_mul_le_mul_right (by rw[r,k];exact Rat.le_refl) q2)
theorem zPQ {R2:Nat->Rat} (h2:yG (λ _=>(2:Rat)) R2) {p q:Int} (hq:0<q):RtOf (nrY p q) (nrR R2 p q):=by
 rw[zKG hq];exact half_rt h2 (zLI (p:=p) hq).1
theorem sq_pos {p:Int} (hp:p≠0):1<=p*p:=by
 rcases Int.lt_or_gt_of_ne hp with h|h
 ·have:=Int.mul_pos (show 0 < -p by omega) (show 0 < -p by omega)
  have e : -p * -p=p*p:=by grind
  omega
 ·have:=Int.mul_pos h h;omega
def wrok (p q:Int):Prop := -35184372088832<=p/\p<=35184372088832/\1<=q/\q<=137438953472
theorem sq_bw {p K:Int} (h1 : -K<=p) (h2:p<=K):0<=p*p/\p*p<=K*K:=by
 have e : -p * -p=p*p:=by grind
 rcases Int.le_total 0 p with h|h
 ·exact⟨Yz h h,Int.mul_le_mul h2 h2 h (by omega)⟩
 ·rw[<- e];exact⟨Yz (by omega) (by omega),Int.mul_le_mul (by omega) (by omega) (by omega) (by omega)⟩
theorem nor_in {R2:Nat->Rat} (h2:yG (λ _=>(2:Rat)) R2) {p q:Int} (hr:wrok p q) (h:p*p<152*(q*q*2)):ErIn (p*p) (q*q*2) (nrR R2 p q):=by
 obtain⟨r1,r2,r3,r4⟩:=hr;have q0:0<q*q:=Int.mul_pos (by omega) (by omega)
 have p0:=(sq_bw r1 r2).1;refine⟨p0,by omega,zPQ h2 (by omega),h,?_⟩
 by_cases hp:p=0
 ·exact Or.inl (by rw[hp];rfl)
 ·refine Or.inr ?_
  have h1:=sq_pos hp;have h2:=(sq_bw (p:=q) (K:=137438953472) (by omega) r4).2
  have e:Q 76=75557863725914323419136:=rfl;rw[e];omega
def NoCore (E:Nat->Rat) (B:Nat) (s e:Int):Prop:=Iv B (s,e) E/\0<=s/\s<=e/\e<=Q B/\e-s<=Q 4500
theorem nor_near {R R2:Nat->Rat} (hR:yG piS R) (h2:yG (λ _=>(2:Rat)) R2) {p q:Int} (hr:wrok p q) (h:p*p<152*(q*q*2)) {B:Nat} (hB:40<=B) (o9:B<=10000) (D9:p*p<q*q*2*(B:Int)):∃ s e,ErfN (p*p) (q*q*2) B s e/\NoCore (zC9 R (nrY p q) (nrR R2 p q)) B s e:=by
 have I6:=nor_in h2 hr h;obtain⟨M,hM,qA⟩:=erT_set I6 B;obtain⟨l,t,N,e1,e2,e3,e4,e5⟩:=erX_set I6 hB;obtain⟨N5,h5⟩:=zQV (m:=5) (by omega) (show 2<=B by omega)
 obtain⟨N9,h9⟩:=zQV (m:=239) (by omega) (show 2<=B by omega)
 refine⟨_,_,λ w' x y hx hy=>erf_iv w' x y (p*p) (q*q*2) B hx hy hB o9 (nrR R2 p q) M t N N5 N9 l I6 D9 hM qA e1 e2 e3 e4 e5 h5 h9,?_⟩
 exact erf_ok hR I6 hB o9 hM qA e3 e4 e5 h5 h9
theorem nor_farN {p q:Int} {B:Nat} (hB:40<=B) (o9:B<=10000) (h:q*q*2*(B:Int)<=p*p):ErfN (p*p) (q*q*2) B (Q B-1) (Q B):=λ w' x y hx hy =>
 (erf_far w' x y (p*p) (q*q*2) B hx hy hB o9 h).mono λ r T4 ⟨s,e1,e2,e3,e4⟩=>⟨s,e1,e2,e3.mono (by omega),e4⟩
def oppP (p:Int) (a:Int × Int):Int × Int:=if 0<p then (-a.2,-a.1) else a
def zFI (B:Nat) (p:Int) (a:Int × Int):Int × Int:=zK (zBE B (oppP p a)) 1 2
theorem zKF (B:Nat) (p s e:Int):(zFI B p (s,e)).1=(if 0<p then (Q B+s)/2 else (Q B-e)/2)/\(zFI B p (s,e)).2=(if 0<p then -(-(Q B+e)/2) else -(-(Q B-s)/2)):=by
 unfold zFI zK zBE oppP
 by_cases hp:0<p
 ·rw[if_pos hp,if_pos hp,if_pos hp]
  simp only[Int.mul_one,Int.sub_neg,and_self]
 ·rw[if_neg hp,if_neg hp,if_neg hp]
  simp only[Int.mul_one,and_self]
theorem norI_ok {B:Nat} {p s e:Int} (h0:0<=s) (h1:s<=e) (h2:e<=Q B) (h3:e-s<=Q 4500):(zFI B p (s,e)).1<=(zFI B p (s,e)).2/\0<=(zFI B p (s,e)).1/\(zFI B p (s,e)).2<=Q B/\(zFI B p (s,e)).2-(zFI B p (s,e)).1<=Q 4500:=by
 obtain⟨e1,e2⟩:=zKF B p s e;have q:=zE B;have q4:4<=Q 4500:=by have:=zJ (show 2<=4500 by omega);have:Q 2=4:=rfl;omega
 rw[e1,e2];clear e1 e2;generalize Q 4500=z at *
 by_cases hp:0<p
 ·rw[if_pos hp,if_pos hp];omega
 ·rw[if_neg hp,if_neg hp];omega
theorem norI_iv {B:Nat} {p:Int} {a:Int × Int} {E:Nat->Rat} (h:Iv B a E):Iv B (zFI B p a) (nrV E p):=by
 unfold zFI
 have k:Iv B (zBE B (oppP p a)) (λ M=>1+nrE E p M):=by
  unfold oppP nrE
  by_cases hp:0<p
  ·rw[if_pos hp]
   exact Has.of_eq (zFU h.opp) λ M=>by rw[if_pos hp];grind
  ·rw[if_neg hp]
   exact Has.of_eq (zFU h) λ M=>by rw[if_neg hp];grind
 exact k.scale (n:=1) (d:=2) (by decide) (by decide)
structure NoV (V:Nat->Rat) (b:Nat) (L H:Int):Prop where
 le:L<=H
 lo:0<=L
 hi:H<=Q b
 nar:zL4 L H (Q b) 4=true
 val:Iv b (L,H) V
def zNC (p:Int) (b:Nat):Int × Int:=if 0<p then (Q b-1,Q b) else (0,1)
theorem far_no (p : Int) (b : Nat) : (zNC p b).1 = (zFI (b + 32) p (Q (b + 32) - 1, Q (b + 32))).1 / Q 32 ∧ (zNC p b).2 = -(-(zFI (b + 32) p (Q (b + 32) - 1, Q (b + 32))).2 / Q 32) := by
  have q := zE 32
  have e : Q (b + 32) = Q b * Q 32 := jF b 32
  obtain ⟨e1, e2⟩ := zKF (b + 32) p (Q (b + 32) - 1) (Q (b + 32))
  rw [e1, e2]
  unfold zNC
  by_cases hp : 0 < p
  · rw [if_pos hp, if_pos hp, if_pos hp]
    have g1 : (Q (b + 32) + (Q (b + 32) - 1)) / 2 = Q (b + 32) - 1 := by omega
    have g2 : -(-(Q (b + 32) + Q (b + 32)) / 2) = Q (b + 32) := by omega
    rw [g1, g2, e]
    have q1 : 1 ≤ Q 32 := q
    refine ⟨?_, ?_⟩
    · show Q b - 1 = (Q b * Q 32 - 1) / Q 32
      have a := Int.le_ediv_of_mul_le q (show (Q b - 1) * Q 32 ≤ Q b * Q 32 - 1 by have : (Q b - 1) * Q 32 = Q b * Q 32 - Q 32 := by grind
                                                                                   omega)
      have c := Int.ediv_lt_of_lt_mul q (show Q b * Q 32 - 1 < Q b * Q 32 by omega)
      omega
    · show Q b = -(-(Q b * Q 32) / Q 32)
      rw [← Int.neg_mul, Int.mul_ediv_cancel _ (by omega)]; omega
  · rw [if_neg hp, if_neg hp, if_neg hp]
    have g1 : (Q (b + 32) - Q (b + 32)) / 2 = 0 := by omega
    have g2 : -(-(Q (b + 32) - (Q (b + 32) - 1)) / 2) = 1 := by omega
    rw [g1, g2]
    refine ⟨by show (0 : Int) = 0 / Q 32; simp, ?_⟩
    show (1 : Int) = -(-1 / Q 32)
    have a := Int.le_ediv_of_mul_le q (show -1 * Q 32 ≤ -1 by omega)
    have c := Int.ediv_lt_of_lt_mul q (show -1 < 0 * Q 32 by omega)
    omega
theorem low_one {R:Nat->Rat} (hR:yG piS R) {y:Rat} {r:Nat->Rat} (h:RtOf y r) {b:Nat} (hy:(b:Rat)+32<=y):LeN (λ _=>1-q2 b) (zC9 R y r):=by
 have y0:=h.y0;obtain⟨k,hk⟩:=kC (2*y+3);obtain⟨s,s0,s1,s2⟩:=root0 y y0 k;have k0:(0:Rat)<(k:Rat)+1:=zA0 k;have um:=rdm (a:=1) k0;have u0:(0:Rat)<=1/((k:Rat)+1):=jS k0 (by grind)
 have kk:(0:Rat)<=(k:Rat):=by exact_mod_cast Nat.zero_le k
 obtain⟨u,hu⟩:∃ u,u=1/((k:Rat)+1):=⟨_,rfl⟩;rw[<- hu] at s2 um u0;have u1:u<=1:=by have:=Ys u0 kk;grind
 have st:=zI4 s0 s1 u0 u1;have m:=Yv hk.2 u0;have sb:(b:Rat)<=s*s:=by grind
 have low:=erf_low hR s0;have ml:=(zB3 (a := -(s*s)) (b := -(b:Rat)) (by grind)).trans (zR3 b)
 refine LeN.trans ?_ (low.trans (zRX hR h s0 s1));obtain⟨z,hz,kz⟩:=ml.null;refine LeN.of_null hz 0 λ M _=>?_
 have:=kz M;grind
theorem far_noV {R R2:Nat->Rat} (hR:yG piS R) (h2:yG (λ _=>(2:Rat)) R2) {p q:Int} (hq:0<q) {b:Nat} (h:q*q*2*((b:Int)+32)<=p*p):NoV (nrV (zC9 R (nrY p q) (nrR R2 p q)) p) b (zNC p b).1 (zNC p b).2:=by
 have q0:0<q*q:=Int.mul_pos hq hq
 have yb:(b:Rat)+32<=nrY p q:=by
  have q2:(0:Rat)<((q*q*2:Int):Rat):=by exact_mod_cast (show 0<q*q*2 by omega)
  refine jS q2 ?_;have c:=jA h;rw[YA,Rat.intCast_add] at c;have e1:((b:Int):Rat)=(b:Rat):=rfl;have e2:((32:Int):Rat)=32:=rfl;rw[e1,e2] at c;grind
 have rt:=zPQ h2 (p:=p) hq;have lo:=low_one hR rt yb;have one:=zM9 hR rt;have qb:=zE b;have qr:=jJ b
 have f:(zNC p b).2-(zNC p b).1=1/\0<=(zNC p b).1/\(zNC p b).2<=Q b:=by
  unfold zNC
  by_cases hp:0<p
  ·rw[if_pos hp];exact⟨by simp only[];omega,by simp only[];omega,by simp only[];omega⟩
  ·rw[if_neg hp];exact⟨by simp only[];omega,by simp only[];omega,by simp only[];omega⟩
 refine⟨by omega,f.2.1,f.2.2,zDP (by omega) (by omega),?_⟩
 have qp:=yD b
 intro e he
 obtain⟨N1,k1⟩:=lo e he;obtain⟨N2,k2⟩:=one e he;refine⟨N1+N2,λ M hM=>?_⟩
 have a1:=k1 M (by omega)
 have a2:=k2 M (by omega)
 simp only[] at a1 a2;have o1:=one_QB b;have o2:=one_q2 b;have e2:((2:Int):Rat)=2:=rfl;have e1:((1:Int):Rat)=1:=rfl;unfold zNC nrV nrE
 by_cases hp:0<p
 ·rw[if_pos hp,if_pos hp]
  simp only[];rw[Rat.intCast_sub,zI1,o1,o2,e1,e2];exact⟨by grind,by grind⟩
 ·rw[if_neg hp,if_neg hp]
  simp only[];have z:((0:Int):Rat)/(Q b:Rat)=0:=by rw[YE];exact Rat.zero_mul _
  rw[z,o2,e1,e2];exact⟨by grind,by grind⟩
end Go.Proofs.YtgmnknmjainabacGreat
namespace Go.Proofs.YtgmnknmjainabacGreat.Ex
def Nn (f:Nat->Rat):Prop:=∃ N:Nat,∀ M,N<=M->0<=f M
theorem Nn.mul {f g:Nat->Rat} (h:Nn f) (k:Nn g):Nn (λ M=>f M*g M):=by
 obtain⟨N1,h1⟩:=h;obtain⟨N2,h2⟩:=k;exact⟨N1+N2,λ M hM=>Ys (h1 M (by omega)) (h2 M (by omega))⟩
theorem Nn.add {f g:Nat->Rat} (h:Nn f) (k:Nn g):Nn (λ M=>f M+g M):=by
 obtain⟨N1,h1⟩:=h;obtain⟨N2,h2⟩:=k;exact⟨N1+N2,λ M hM=>by have:=h1 M (by omega);have:=h2 M (by omega);grind⟩
theorem Nn.const {c:Rat} (h:0<=c):Nn (λ _=>c):=⟨0,λ _ _=>h⟩
theorem zQF {x:Nat->Rat} (h:Bdd x):Nn (Ev x):=by
 obtain⟨c,c0,N,k⟩:=zB7 h;exact⟨N,λ M hM=>Rat.le_trans (Yw c0) (k M hM)⟩
theorem zDU (a:Rat):Nn (ex a):=zQF (Bdd.const a)
theorem LeN.bmul {f g k:Nat->Rat} (h:LeN f g) (hk:Bdd k) (hn:Nn k):LeN (λ M=>f M*k M) (λ M=>g M*k M):=by
 obtain⟨z,hz,kz⟩:=h.null;obtain⟨N,hN⟩:=hn;refine LeN.of_null (hz.bmul hk) N λ M hM=>?_
 have:=Yv (kz M) (hN M hM);grind
theorem LeN.cmul {f g:Nat->Rat} (h:LeN f g) {c:Rat} (hc:0<=c):LeN (λ M=>c*f M) (λ M=>c*g M):=by
 obtain⟨z,hz,kz⟩:=h.null;refine LeN.of_null (hz.bmul (Bdd.const c)) 0 λ M _=>?_
 have:=Yr (kz M) hc;grind
theorem LeN.of_eqN {f g:Nat->Rat} (h:Null (λ M=>f M-g M)):LeN f g:=h.leN
theorem LeN.mul {f g f' g':Nat->Rat} (h:LeN f g) (h':LeN f' g') (b:Bdd f') (n:Nn f') (b2:Bdd g) (n2:Nn g):LeN (λ M=>f M*f' M) (λ M=>g M*g' M) :=
 (h.bmul b n).trans ((LeN.of_le 0 λ M _=>by show g M*f' M<=f' M*g M;grind).trans ((h'.bmul b2 n2).trans (LeN.of_le 0 λ M _=>by show g' M*g M<=g M*g' M;grind)))
theorem jL {a b c:Rat} (hc:0<c) (h:a*c<=b):a<=b/c:=Rat.le_of_mul_le_mul_right (by rw[rdm hc];exact h) hc
theorem zBO {a b c:Rat} (hc:0<c) (h:a<=b*c):a/c<=b:=Rat.le_of_mul_le_mul_right (by rw[rdm hc];exact h) hc
theorem zX {c a b:Rat} (hc:0<c) (h:c*a=c*b):a=b:=Rat.le_antisymm (Rat.le_of_mul_le_mul_left (by rw[h];exact Rat.le_refl) hc) (Rat.le_of_mul_le_mul_left (by rw[h];exact Rat.le_refl) hc)
def upT (a x:Rat):Nat->Rat
 | 0=>1/a
 | n+1=>x/(a+((n:Rat)+1))*upT a x n
theorem zBQ {a:Rat} (ha:0<a) (n:Nat):0<a+((n:Rat)+1):=by have:=zA0 n;grind
theorem yZ {a:Rat} (ha:0<a) (x:Rat):a*upT a x 0=1:=by
 have:=rdm (a:=1) ha
 show a*(1/a)=1
 grind
theorem jX {a:Rat} (ha:0<a) (x:Rat) (n:Nat):(a+((n:Rat)+1))*upT a x (n+1)=x*upT a x n:=by
 have e:=rdm (a:=x) (zBQ ha n)
 show (a+((n:Rat)+1))*(x/(a+((n:Rat)+1))*upT a x n)=_
 have:(a+((n:Rat)+1))*(x/(a+((n:Rat)+1))*upT a x n)=x/(a+((n:Rat)+1))*(a+((n:Rat)+1))*upT a x n:=by grind
 rw[this,e]
theorem kH {a x:Rat} (ha:0<a) (h:0<=x) (n:Nat):0<=upT a x n:=by
 induction n with
 | zero=>exact jL ha (by grind)
 | succ n ih=>exact Ys (jL (zBQ ha n) (by grind)) ih
theorem upT_next {a:Rat} (ha:0<a) (x:Rat) (n:Nat):a*upT a x (n+1)=x*upT (a+1) x n:=by
 induction n with
 | zero =>
  have e1:=jX ha x 0;have e2:=yZ ha x;have e3:=yZ (show 0<a+1 by grind) x
  refine zX (show 0<a+1 by grind) ?_
  have c:((0:Nat):Rat)=0:=rfl;rw[c] at e1;have k1:(a+1)*(a*upT a x (0+1))=a*((a+(0+1))*upT a x (0+1)):=by grind
  have k2:(a+1)*(x*upT (a+1) x 0)=x*((a+1)*upT (a+1) x 0):=by grind
  rw[k1,k2,e1,e3];have k3:a*(x*upT a x 0)=x*(a*upT a x 0):=by grind
  rw[k3,e2]
 | succ n ih =>
  have e1:=jX ha x (n+1);have e2:=jX (show 0<a+1 by grind) x n
  have c:((n+1:Nat):Rat)=(n:Rat)+1:=by push_cast;rfl
  rw[c] at e1;refine zX (show 0<a+((n:Rat)+1+1) by have:=zA0 n;grind) ?_
  have k1:(a+((n:Rat)+1+1))*(a*upT a x (n+1+1))=a*((a+((n:Rat)+1+1))*upT a x (n+1+1)):=by grind
  have k2:(a+((n:Rat)+1+1))*(x*upT (a+1) x (n+1))=x*((a+1+((n:Rat)+1))*upT (a+1) x (n+1)):=by grind
  rw[k1,k2,e1,e2,<- ih];grind
def uS (a x:Rat) (M:Nat):Rat:=S (upT a x) M
theorem yV (a x:Rat) (M:Nat):uS a x (M+1)=uS a x M+upT a x M:=rfl
theorem zCJ {a x:Rat} (ha:0<a) (h:0<=x) (M:Nat):0<=uS a x M:=by
 induction M with
 | zero=>show (0:Rat)<=0;grind
 | succ n ih=>have:=kH ha h n;rw[yV];grind
theorem zFY {a x:Rat} (ha:0<a) (h:0<=x) (M:Nat):1/a<=uS a x (M+1):=by
 induction M with
 | zero=>show 1/a<=0+1/a;grind
 | succ n ih=>have:=kH ha h (n+1);rw[yV];grind
theorem uS_next {a:Rat} (ha:0<a) (x:Rat) (M:Nat):a*uS a x (M+1)=1+x*uS (a+1) x M:=by
 induction M with
 | zero =>
  have:=yZ ha x
  show a*(0+upT a x 0)=1+x*0
  grind
 | succ n ih =>
  have:=upT_next ha x n;rw[yV a x (n+1),yV (a+1) x n];grind
theorem upT_tan {a x u:Rat} (ha:0<a) (hx:0<=x) (hu : -1<=u) (n:Nat):upT a x n+(n:Rat)*u*upT a x n<=upT a (x*(1+u)) n:=by
 induction n with
 | zero =>
  have c:((0:Nat):Rat)=0:=rfl
  show 1/a+((0:Nat):Rat)*u*(1/a)<=1/a
  rw[c];grind
 | succ n ih =>
  have e1:=jX ha x n;have e2:=jX ha (x*(1+u)) n;have c:((n+1:Nat):Rat)=(n:Rat)+1:=by push_cast;rfl
  have y0:=Ys hx (show 0<=1+u by grind)
  have m:=Yr ih y0;have p:=zBQ ha n;refine Rat.le_of_mul_le_mul_left (c:=a+((n:Rat)+1)) ?_ p;rw[e2,c];have k:(a+((n:Rat)+1))*(upT a x (n+1)+((n:Rat)+1)*u*upT a x (n+1))=(1+((n:Rat)+1)*u)*((a+((n:Rat)+1))*upT a x (n+1)):=by grind
  rw[k,e1];have n0:(0:Rat)<=(n:Rat):=by exact_mod_cast Nat.zero_le n
  have q:=Ys (Ys n0 (zO u)) (Ys hx (kH ha hx n));grind
theorem uS_tan {a x u:Rat} (ha:0<a) (hx:0<=x) (hu : -1<=u) (M:Nat):uS a x (M+1)+u*(1+x*uS a x M-a*uS a x (M+1))<=uS a (x*(1+u)) (M+1):=by
 induction M with
 | zero =>
  have e:=yZ ha x;have e2:upT a (x*(1+u)) 0=upT a x 0:=rfl
  show 0+upT a x 0+u*(1+x*0-a*(0+upT a x 0))<=0+upT a (x*(1+u)) 0
  rw[e2];have:a*(0+upT a x 0)=1:=by rw[<- e];grind
  rw[this];grind
 | succ n ih =>
  have t:=upT_tan ha hx hu (n+1);have e1:=jX ha x n;have c:((n+1:Nat):Rat)=(n:Rat)+1:=by push_cast;rfl
  rw[c] at t;rw[yV a x (n+1),yV a (x*(1+u)) (n+1)];have e3:uS a x (n+1)=uS a x n+upT a x n:=rfl;have k:((n:Rat)+1)*u*upT a x (n+1)=u*(x*upT a x n)-u*(a*upT a x (n+1)):=by rw[<- e1];grind
  rw[k] at t;rw[e3] at ih ⊢;grind
theorem zUX {a x y:Rat} (ha:0<a) (hx:0<=x) (K6:x<=y) (M:Nat):uS a x M<=uS a y M:=by
 have t:∀ n,upT a x n<=upT a y n:=by
  intro n
  induction n with
  | zero=>exact Rat.le_refl
  | succ n ih =>
   have e1:=jX ha x n;have e2:=jX ha y n;refine Rat.le_of_mul_le_mul_left (c:=a+((n:Rat)+1)) ?_ (zBQ ha n);rw[e1,e2];exact Rat.le_trans (Yr ih hx) (Yv K6 (kH ha (by grind) n))
 induction M with
 | zero=>exact Rat.le_refl
 | succ n ih=>have:=t n;rw[yV,yV];grind
theorem zU0 {a x:Rat} (ha:0<a) (hx:0<=x) (n:Nat):a*upT a x n<=tm x n:=by
 induction n with
 | zero=>rw[yZ ha];exact Rat.le_refl
 | succ n ih =>
  have e1:=jX ha x n;have e2:=kU x n;have p:=zA0 n;have q:=Ys (Ys (Yw ha) (Yw ha)) (kH ha hx (n+1));refine Rat.le_of_mul_le_mul_left (c:=(n:Rat)+1) ?_ p;have m:=Yr ih hx;have k:((n:Rat)+1)*(a*upT a x (n+1))=a*((a+((n:Rat)+1))*upT a x (n+1))-a*a*upT a x (n+1):=by grind
  rw[k,e1,e2];grind
theorem zI8 {a x:Rat} (ha:0<a) (hx:0<=x):Null (upT a x):=by
 obtain⟨K,k0,hK⟩:=zP3 x;have h1:Null (λ M=>K/a*((M:Rat)*q4 M)):=zB5 (K/a) (jL ha (by grind))
 refine h1.of_le 1 λ M hM=>?_
 have a1:=zU0 ha hx M;have a2:=(hK M).2;have a3:=kH ha hx M;have m1:(1:Rat)<=(M:Rat):=by exact_mod_cast hM
 have q:=yE M;have d:=rdm (a:=K) ha;have m2:=Yr m1 (Ys k0 (Yw q))
 have key:upT a x M<=K/a*((M:Rat)*q4 M):=by
  refine Rat.le_of_mul_le_mul_left (c:=a) ?_ ha;have k:a*(K/a*((M:Rat)*q4 M))=K/a*a*((M:Rat)*q4 M):=by grind
  rw[k,d];grind
 exact⟨by grind,key⟩
theorem zK4 {a x:Rat} (ha:0<a) (hx:0<=x):∃ K,0<=K/\∀ M,uS a x M<=K:=by
 obtain⟨K,k0,hK⟩:=zDY x;refine⟨K/a,jL ha (by grind),λ M=>?_⟩
 have h:=(hK M x ⟨by grind,Rat.le_refl⟩).2
 have s:a*uS a x M<=E x M:=by
  induction M with
  | zero=>show a*0<=0;grind
  | succ n ih =>
   have t:=zU0 ha hx n;have h':=(hK n x ⟨by grind,Rat.le_refl⟩).2
   have i:=ih h';have e:E x (n+1)=E x n+tm x n:=rfl;rw[yV,e];grind
 refine Rat.le_of_mul_le_mul_left (c:=a) ?_ ha;have d:=rdm (a:=K) ha;grind
theorem zDX {a x:Rat} (ha:0<a) (hx:0<=x):Bdd (uS a x):=by
 obtain⟨K,k0,hK⟩:=zK4 ha hx;exact Bdd.of_le K 0 λ M _=>⟨by have:=zCJ ha hx M;grind,hK M⟩
end Go.Proofs.YtgmnknmjainabacGreat.Ex
namespace Go.Proofs.YtgmnknmjainabacGreat.Ex
def Lns (L:Rat->Nat->Rat):Prop:=∀ x,0<x->IsLog (L x) (λ _=>x)
def pr (L:Rat->Nat->Rat) (c x:Rat) (M:Nat):Rat:=Ev (λ M=>c*L x M) M
theorem kG {L:Rat->Nat->Rat} (hL:Lns L) {x:Rat} (hx:0<x) (c:Rat):Bdd (λ M=>c*L x M):=(Bdd.const c).mul (hL x hx).1
theorem kM {L:Rat->Nat->Rat} (hL:Lns L) {x:Rat} (hx:0<x) (c:Rat):Bdd (pr L c x):=zAE (kG hL hx c)
theorem zC3 {L:Rat->Nat->Rat} (hL:Lns L) {x:Rat} (hx:0<x) (c:Rat):Nn (pr L c x):=zQF (kG hL hx c)
theorem zKI {L:Rat->Nat->Rat} (hL:Lns L) {x:Rat} (hx:0<x) (c d:Rat):Null (λ M=>pr L c x M*pr L d x M-pr L (c+d) x M):=by
 have h:=zAK (kG hL hx c) (kG hL hx d);refine h.of_eq λ M=>?_
 have e:Ev (λ M=>c*L x M+d*L x M) M=pr L (c+d) x M:=by unfold pr Ev;congr 1;grind
 rw[e];rfl
theorem zFF {L:Rat->Nat->Rat} (hL:Lns L) {x:Rat} (hx:0<x):Null (λ M=>pr L 1 x M-x):=by
 refine (hL x hx).2.of_eq λ M=>?_
 show E (1*L x M) M-x=E (L x M) M-x
 rw[Rat.one_mul]
theorem zIH {L : Rat → Nat → Rat} (hL : Lns L) {x r : Rat} (hx : 0 < x) (hr : 0 < r) : IsLog (fun M => L (x * r) M - L x M) (fun _ => r) := by
  have h1 := hL (x * r) (Rat.mul_pos hx hr)
  have d := rdm (a := 1) hx
  have h2 := (hL x hx).neg (s := fun _ => 1 / x) (Bdd.const _) 0 (fun M _ => d)
  have h3 := h1.add h2
  have e : (fun (_ : Nat) => x * r * (1 / x)) = fun _ => r := by funext _; have : x * r * (1 / x) = 1 / x * x * r := by grind
                                                                 rw [this, d]; grind
  rw [e] at h3
  have e2 : (fun M => L (x * r) M + -L x M) = fun M => L (x * r) M - L x M := by funext M; grind
  rw [e2] at h3
  exact h3
theorem zOV {h:Rat} (hb:AB h (1/4)) {M:Nat} (hM:2<=M):AB (E h M-1-h) (2*(h*h)):=by
 by_cases c:0<=h
 ·exact zAD (b:=h) ⟨by grind,Rat.le_refl⟩ hb.2 hM
 ·have:=zAD (h:=h) (b := -h) ⟨by grind,by grind⟩ (by have:=hb.1;grind) hM
  have e : -h * -h=h*h:=by grind
  rw[e] at this;exact this
theorem zCU (c:Rat):IsLog (λ _=>c) (ex c):=⟨Bdd.const c,null_zero.of_eq λ M=>by unfold ex;grind⟩
theorem zM5 {d:Nat->Rat} {u:Rat} (h:IsLog d (λ _=>1+u)) (hu:AB u (1/16)):LeN (λ _=>u-4*(u*u)) d:=by
 have uu:=zO u
 have a1:u*u<=1/256:=by
  by_cases c:0<=u
  ·have:=Yr hu.2 c;have:=hu.2;grind
  ·have:=Yr (show -u<=1/16 by have:=hu.1;grind) (show 0 <= -u by grind);have:=hu.1;grind
 intro e he
 have hb:AB (u-4*(u*u)) (1/4):=⟨by have:=hu.1;grind,by have:=hu.2;grind⟩
 refine (zCU (u-4*(u*u))).le h null_zero 2 (λ M hM=>?_) e he
 have k:=(zOV hb (M:=M) hM).2
 show E (u-4*(u*u)) M<=1+u+0
 have q:(u-4*(u*u))*(u-4*(u*u))=u*u*((1-4*u)*(1-4*u)):=by grind
 have r:(1-4*u)*(1-4*u)<=2:=by have:=hu.1;grind
 have m:=Yr r uu;grind
theorem pr_tan {L:Rat->Nat->Rat} (hL:Lns L) {a x u:Rat} (ha:0<=a) (hx:0<x) (hu:AB u (1/16)) (hau:AB (a*u) (1/8)):LeN (λ M=>(1+a*u-(4*a+4*(a*a))*(u*u))*pr L a x M) (pr L a (x*(1+u))):=by
 have r0:0<1+u:=by have:=hu.1;grind
 have hd:=zIH hL hx r0;have low:=zM5 hd hu;obtain⟨z,hz,kz⟩:=(low.cmul ha).null;have bd:Bdd (λ M=>a*(L (x*(1+u)) M-L x M)):=(Bdd.const a).mul hd.1
 obtain⟨v,hv,N,kv⟩:=zC4 (x:=λ _=>a*(u-4*(u*u))) (Bdd.const _) bd hz 0 (λ M _=>kz M)
 have uu:=zO u
 have hb:AB (a*(u-4*(u*u))) (1/4):=by
  have e:a*(u-4*(u*u))=a*u*(1-4*u):=by grind
  rw[e];exact (hau.mul (show AB (1-4*u) 2 from⟨by have:=hu.2;grind,by have:=hu.1;grind⟩)).mono (by grind)
 have l1:LeN (λ _=>1+a*u-(4*a+4*(a*a))*(u*u)) (Ev (λ M=>a*(L (x*(1+u)) M-L x M))):=by
  refine LeN.of_null hv (N+2) λ M hM=>?_
  have k:=(zOV hb (M:=M) (by omega)).1
  have k2:=kv M (by omega)
  have e2:Ev (λ _=>a*(u-4*(u*u))) M=E (a*(u-4*(u*u))) M:=rfl
  rw[e2] at k2;have q:a*(u-4*(u*u))*(a*(u-4*(u*u)))=a*a*(u*u)*((1-4*u)*(1-4*u)):=by grind
  have r:(1-4*u)*(1-4*u)<=2:=by
   have a1:u*u<=1/256:=by
    by_cases c:0<=u
    ·have:=Yr hu.2 c;have:=hu.2;grind
    ·have:=Yr (show -u<=1/16 by have:=hu.1;grind) (show 0 <= -u by grind);have:=hu.1;grind
   have:=hu.1;grind
  have m:=Yr r (Ys (Ys ha ha) uu);rw[q] at k;generalize a*a*(u*u)*((1-4*u)*(1-4*u))=w at *;generalize Ev (λ M=>a*(L (x*(1+u)) M-L x M)) M=w2 at *
  generalize E (a*(u-4*(u*u))) M=w3 at *;grind
 refine (l1.bmul (kM hL hx a) (zC3 hL hx a)).trans ?_;have s:=zAK bd (kG hL hx a);refine LeN.of_eqN (s.of_eq λ M=>?_)
 have e:Ev (λ M=>a*(L (x*(1+u)) M-L x M)+a*L x M) M=pr L a (x*(1+u)) M:=by unfold pr Ev;congr 1;grind
 rw[e];rfl
theorem ex_tan {x u:Rat} (hu:AB (x*u) (1/4)):LeN (λ M=>(1-x*u-2*(x*x)*(u*u))*ex (-x) M) (ex (-(x*(1+u)))):=by
 have l1:LeN (λ _=>1-x*u-2*(x*x)*(u*u)) (ex (-(x*u))):=LeN.of_le 2 λ M hM=>by
  have k:=(zOV (h := -(x*u)) hu.neg hM).1
  show _<=E (-(x*u)) M
  grind
 refine (l1.bmul (jY _) (zDU _)).trans ?_;have s:=zBB (-(x*u)) (-x);refine LeN.of_eqN (s.of_eq λ M=>?_)
 have e : -(x*u) + -x = -(x*(1+u)):=by grind
 rw[e]
def uG (L:Rat->Nat->Rat) (a x:Rat) (M:Nat):Rat:=pr L a x M*ex (-x) M*uS a x M
theorem tan_poly {a x u s c q1 q2 q3:Rat} (h1:q1=1+a*u-c*(u*u)) (h2:q2=1-x*u-2*(x*x)*(u*u)) (h3:q3=s+u*(1+x*s-a*s)):q1*q2*q3-(s+u)=u*u*((a-x)*(1+x*s-a*s)+(-(a*x)-2*(x*x)-c+u*(c*x-2*(a*(x*x)))+u*u*(2*(c*(x*x))))*q3):=by
 rw[h1,h2,h3];grind
theorem zKZ {a x u s c Y K:Rat} (ha:0<=a) (hc:0<=c) (hx:AB x Y) (hs:AB s K) (hu:AB u 1):AB ((a-x)*(1+x*s-a*s)+(-(a*x)-2*(x*x)-c+u*(c*x-2*(a*(x*x)))+u*u*(2*(c*(x*x))))*(s+u*(1+x*s-a*s))) ((a+Y)*(1+Y*K+a*K)+(a*Y+2*(Y*Y)+c+1*(c*Y+2*(a*(Y*Y)))+1*1*(2*(c*(Y*Y))))*(K+1*(1+Y*K+a*K))):=by
 have A:AB a a:=⟨by grind,Rat.le_refl⟩
 have C:AB c c:=⟨by grind,Rat.le_refl⟩
 have one:AB (1:Rat) 1:=⟨by grind,Rat.le_refl⟩
 have two:AB (2:Rat) 2:=⟨by grind,Rat.le_refl⟩
 have p1:=(one.add (hx.mul hs)).sub (A.mul hs);have p2:=(((((A.mul hx).neg.sub (two.mul (hx.mul hx))).sub C).add (hu.mul ((C.mul hx).sub (two.mul (A.mul (hx.mul hx)))))).add ((hu.mul hu).mul (two.mul (C.mul (hx.mul hx)))));exact ((A.sub hx).mul p1).add (p2.mul (hs.add (hu.mul p1)))
theorem zHM {f:Nat->Rat} (h:Null f):Null (λ M=>f (M-1)):=λ e he=>by
 obtain⟨N,hN⟩:=h e he;exact⟨N+1,λ M hM=>hN (M-1) (by omega)⟩
theorem uS_tanN {a x u:Rat} (ha:0<a) (hx:0<=x) (hu : -1<=u):LeN (λ M=>uS a x M+u*(1+x*uS a x M-a*uS a x M)) (uS a (x*(1+u))):=by
 have z:=(zHM (zI8 ha hx)).bmul (Bdd.const (u*x));refine LeN.of_null z 1 λ M hM=>?_
 obtain⟨m,rfl⟩:∃ m,M=m+1:=⟨M-1,by omega⟩
 have t:=uS_tan ha hx hu m;have e:uS a x (m+1)=uS a x m+upT a x m:=rfl;simp only[Nat.add_sub_cancel];have e2:uS a x m=uS a x (m+1)-upT a x m:=by grind
 rw[e2] at t;grind
theorem uG_tan {L:Rat->Nat->Rat} (hL:Lns L) {a Y:Rat} (ha:0<a) (hY:0<Y):∃ C D,0<=C/\0<D/\D<=1/16/\∀ x u,0<x->x<=Y->AB u D->LeN (λ M=>uG L a x M+u*(pr L a x M*ex (-x) M)) (λ M=>uG L a (x*(1+u)) M+C*(u*u)):=by
 obtain⟨K,k0,hK⟩:=zK4 ha (Yw hY);obtain⟨V,N0,v0,hV⟩:=kM hL hY a;obtain⟨c,hc⟩:∃ c,c=4*a+4*(a*a):=⟨_,rfl⟩;have a0:=Yw ha;have aa:=Ys a0 a0;have y0:=Yw hY;have c0:0<=c:=by grind
 obtain⟨C1,iO⟩:∃ C1,C1=(a+Y)*(1+Y*K+a*K)+(a*Y+2*(Y*Y)+c+1*(c*Y+2*(a*(Y*Y)))+1*1*(2*(c*(Y*Y))))*(K+1*(1+Y*K+a*K)):=⟨_,rfl⟩;have D0:0<16*(1+a+Y):=by grind
 have dm:=rdm (a:=1) D0;have dp:0<1/(16*(1+a+Y)):=zF (by grind) D0
 obtain⟨D,hD⟩:∃ D,D=1/(16*(1+a+Y)):=⟨_,rfl⟩;rw[<- hD] at dm dp;have Da:=Ys (Yw dp) a0;have Dy:=Ys (Yw dp) y0
 have se:0<=C1:=by
  have:=(zKZ (x:=0) (u:=0) (s:=0) (Y:=Y) (K:=K) a0 c0 ⟨by grind,y0⟩ ⟨by grind,k0⟩ ⟨by grind,by grind⟩).nonneg
  rw[iO];exact this
 refine⟨C1*((V+1)*2),D,Ys se (by grind),dp,by grind,λ x u hx hxY hu=>?_⟩
 have Gt:D<=1/16:=by grind
 have u16:AB u (1/16):=hu.mono Gt;have au:AB (a*u) (1/8):=((show AB a a from⟨by grind,Rat.le_refl⟩).mul hu).mono (by grind)
 have x0:=Yw hx;have xu:AB (x*u) (1/4):=((show AB x Y from⟨by grind,hxY⟩).mul hu).mono (by grind)
 have r0:0<1+u:=by have:=u16.1;grind
 have rJ:0<x*(1+u):=Rat.mul_pos hx r0;have l1:=pr_tan hL a0 hx u16 au;have l2:=ex_tan xu;have l3:=uS_tanN ha x0 (show -1<=u by have:=u16.1;grind)
 obtain⟨q1,h1⟩:∃ q1,q1=1+a*u-c*(u*u):=⟨_,rfl⟩;obtain⟨q2,h2⟩:∃ q2,q2=1-x*u-2*(x*x)*(u*u):=⟨_,rfl⟩;rw[<- hc,<- h1] at l1;rw[<- h2] at l2;have uu16:u*u<=1/16*(1/16):=(u16.mul u16).2
 have Lt:0<=q2:=by
  have:=(xu.mul xu).2;have:=xu.2;grind
 have RO:=l1.mul l2 ((Bdd.const q2).mul (jY (-x))) ((Nn.const Lt).mul (zDU (-x))) (kM hL rJ a) (zC3 hL rJ a);have sB:=zDX ha x0;have SR:Bdd (λ M=>uS a x M+u*(1+x*uS a x M-a*uS a x M)):=sB.add ((Bdd.const u).mul (((Bdd.const 1).add ((Bdd.const x).mul sB)).sub ((Bdd.const a).mul sB)))
 have SS:Nn (λ M=>uS a x M+u*(1+x*uS a x M-a*uS a x M)):=⟨1,λ M hM=>by
  obtain⟨m,rfl⟩:∃ m,M=m+1:=⟨M-1,by omega⟩
  have f:=zFY ha x0 m;have d:=rdm (a:=1) ha
  have s1:1<=a*uS a x (m+1):=by
   have:=Yr f a0;grind
  show 0<=uS a x (m+1)+u*(1+x*uS a x (m+1)-a*uS a x (m+1))
  generalize uS a x (m+1)=s at *;have s0:0<=s:=by have:=jL (a:=0) (b:=1) ha (by grind);grind
  have t1:=Yv (xu.1) s0;have t2:=Yv (au.2) s0
  have t3 : -(1/2)*s<=u:=by
   have m1:=Yv au.1 s0
   by_cases cu:0<=u
   ·grind
   ·have:=Yr s1 (show 0 <= -u by grind)
    grind
  grind⟩
 have px:Bdd (λ M=>pr L a (x*(1+u)) M*ex (-(x*(1+u))) M):=(kM hL rJ a).mul (jY _)
 have pn:Nn (λ M=>pr L a (x*(1+u)) M*ex (-(x*(1+u))) M):=(zC3 hL rJ a).mul (zDU _)
 have l:=RO.mul l3 SR SS px pn
 have pmono:LeN (pr L a x) (pr L a Y):=by
  have le:=λ e he=>(hL x hx).le (hL Y hY) null_zero 0 (λ M _=>by grind) e he
  have lz:LeN (λ M=>a*L x M) (λ M=>a*L Y M):=LeN.cmul le a0
  obtain⟨z,hz,kz⟩:=lz.null;obtain⟨v,hv,N,kv⟩:=zC4 (kG hL hx a) (kG hL hY a) hz 0 (λ M _=>kz M)
  exact LeN.of_null hv N kv
 obtain⟨N1,n1⟩:=pmono 1 (by grind)
 obtain⟨N2,n2⟩:=(zB3 (a := -x) (b:=0) (by grind)) (1/2) (by grind)
 obtain⟨N3,n3⟩:=zC3 hL hx a;obtain⟨N4,n4⟩:=zDU (-x);refine LeN.trans (LeN.of_le (N0+N1+N2+N3+N4+2) λ M hM=>?_) (l.add (LeN.refl λ _=>C1*((V+1)*2)*(u*u)))
 have a1:=n1 M (by omega)
 have a2:=n2 M (by omega)
 have a3:=n3 M (by omega)
 have a4:=n4 M (by omega)
 have a5:=(hV M (by omega)).2
 have e0:ex 0 M=1:=by
  obtain⟨m,rfl⟩:∃ m,M=m+1:=⟨M-1,by omega⟩
  exact kV m
 rw[e0] at a2;have sK:AB (uS a x M) K:=⟨by have:=zCJ ha x0 M;grind,Rat.le_trans (zUX ha x0 hxY M) (hK M)⟩
 have tb:=zKZ (x:=x) (u:=u) (s:=uS a x M) (Y:=Y) (K:=K) a0 c0 ⟨by grind,hxY⟩ sK (hu.mono (by grind))
 rw[<- iO] at tb;have tp:=tan_poly (a:=a) (x:=x) (u:=u) (s:=uS a x M) (c:=c) h1 h2 rfl;have uu:=zO u;have m1:=Yr tb.1 uu;have pX:=Ys a3 a4;have pV:pr L a x M*ex (-x) M<=(V+1)*2:=Rat.le_trans (Yv (show pr L a x M<=V+1 by grind) a4) (Yr (by grind) (by grind))
 have key:uS a x M+u<=q1*q2*(uS a x M+u*(1+x*uS a x M-a*uS a x M))+C1*(u*u):=by
  rw[<- tp] at m1;grind
 have m2:=Yv key pX;have m3:=Yr pV (Ys se uu)
 show uG L a x M+u*(pr L a x M*ex (-x) M)<=_
 unfold uG;generalize uS a x M+u*(1+x*uS a x M-a*uS a x M)=q3 at *;clear tb tp m1 key l l1 l2 l3 RO SR SS px pn pmono iO h1 h2 hc;generalize uS a x M=s at *;generalize pr L a x M=p at *;generalize ex (-x) M=xx at *;have r1:q1*p*(q2*xx)*q3=q1*q2*q3*(p*xx):=by grind
 rw[r1];have r2:(s+u)*(p*xx)=p*xx*s+u*(p*xx):=by grind
 have r3:(q1*q2*q3+C1*(u*u))*(p*xx)=q1*q2*q3*(p*xx)+C1*(u*u)*(p*xx):=by grind
 rw[r2,r3] at m2;have r4:C1*((V+1)*2)*(u*u)=C1*(u*u)*((V+1)*2):=by grind
 rw[r4];exact Rat.le_trans m2 (Rat.add_le_add_left.2 m3)
end Go.Proofs.YtgmnknmjainabacGreat.Ex
namespace Go.Proofs.YtgmnknmjainabacGreat.Ex
theorem zO6 {h t:Rat} (ht:0<t):t*(1+h/t)=t+h:=by
 have:=rdm (a:=h) ht;have e:t*(1+h/t)=t+h/t*t:=by grind
 rw[e,this]
theorem div_bd {h t x i:Rat} (hh:0<=h) (ht:x<=t) (t0:0<t) (i0:0<=i) (ix:i*x=1):h/t<=h*i:=by
 refine zBO t0 ?_;have m:=Yr ht (Ys hh i0);have e:h*i*x=h*(i*x):=by grind
 rw[e,ix] at m;grind
theorem zJ9 {h x i D:Rat} (i0:0<=i) (ix:i*x=1) (h1:h<=D*x):h*i<=D:=by
 have m:=Yv h1 i0;have e:D*x*i=D*(i*x):=by grind
 rw[e,ix] at m;grind
theorem zI7 {L:Rat->Nat->Rat} (hL:Lns L) {a x y:Rat} (ha:0<a) (hx:0<x) (K6:x<=y):LeN (uG L a x) (uG L a y):=by
 obtain⟨C,D,C0,D0,Gt,tan⟩:=uG_tan hL ha (show 0<y by grind)
 have ix:=rdm (a:=1) hx;have ip:0<1/x:=zF (by grind) hx
 obtain⟨i,hi⟩:∃ i,i=1/x:=⟨_,rfl⟩;rw[<- hi] at ix ip
 have key:=zCN (f:=λ t M => -uG L a t M) (a:=x) (b:=y) (C:=C*(i*i)) (D:=D*x) K6 (Ys C0 (zO i)) (Rat.mul_pos D0 hx) (λ t h ht hh hD hb=>by
  have t0:0<t:=by grind
  have um:=rdm (a:=h) t0;have u0:0<h/t:=zF hh t0;have uh:h/t<=h*i:=div_bd (Yw hh) ht t0 (Yw ip) ix;have hiD:h*i<=D:=zJ9 (Yw ip) ix hD;have l:=tan t (h/t) t0 (by grind) ⟨by grind,by grind⟩
  rw[zO6 t0] at l;obtain⟨z,hz,kz⟩:=l.null;obtain⟨N,hN⟩:=(zC3 hL t0 a).mul (zDU (-t));refine⟨z,hz,N,λ M hM=>?_⟩
  have k:=kz M;have n:=Ys (Yw u0) (hN M hM);have m1:=Yr uh (Yw u0);have m2:=Yv uh (Ys (Yw hh) (Yw ip));have m3:=Yr (show h/t*(h/t)<=h*i*(h*i) by grind) C0
  simp only[] at k n;have e:C*(h*i*(h*i))=C*(i*i)*(h*h):=by grind
  rw[e] at m3;generalize C*(h/t*(h/t))=w1 at *;generalize C*(i*i)*(h*h)=w2 at *;generalize h/t*(pr L a t M*ex (-t) M)=w3 at *
  grind)
 intro e he
 obtain⟨N,k⟩:=key e he;exact⟨N,λ M hM=>by have:=k M hM;simp only[] at this;grind⟩
def uE (L:Rat->Nat->Rat) (a x:Rat) (M:Nat):Rat:=pr L (a-1) x M*ex (-x) M
theorem uE_bdd {L:Rat->Nat->Rat} (hL:Lns L) {x:Rat} (hx:0<x) (a:Rat):Bdd (uE L a x):=(kM hL hx _).mul (jY _)
theorem zP5 {L:Rat->Nat->Rat} (hL:Lns L) {x:Rat} (hx:0<x) (a:Rat):Nn (uE L a x):=(zC3 hL hx _).mul (zDU _)
theorem zUT {L:Rat->Nat->Rat} (hL:Lns L) {a x:Rat} (ha:0<a) (hx:0<x):Bdd (uG L a x):=((kM hL hx _).mul (jY _)).mul (zDX ha (Yw hx))
theorem uG_nn {L:Rat->Nat->Rat} (hL:Lns L) {a x:Rat} (ha:0<a) (hx:0<x):Nn (uG L a x):=((zC3 hL hx _).mul (zDU _)).mul ⟨0,λ M _=>zCJ ha (Yw hx) M⟩
theorem zON {L:Rat->Nat->Rat} (hL:Lns L) {x:Rat} (hx:0<x) (a:Rat):Null (λ M=>x*uE L a x M-pr L a x M*ex (-x) M):=by
 have h1:=zKI hL hx (a-1) 1;have h2:=(zFF hL hx).bmul (kM hL hx (a-1));have e:a-1+1=a:=by grind
 rw[e] at h1;refine ((h1.sub h2).bmul (jY (-x))).of_eq λ M=>?_
 unfold uE;grind
theorem zGO {L:Rat->Nat->Rat} (hL:Lns L) {c x y:Rat} (hc:c<=0) (hx:0<x) (K6:x<=y):LeN (pr L c y) (pr L c x):=by
 have hy:0<y:=by grind
 have le:LeN (L x) (L y):=λ e he=>(hL x hx).le (hL y hy) null_zero 0 (λ M _=>by grind) e he
 obtain⟨z,hz,kz⟩:=(le.cmul (c := -c) (by grind)).null
 obtain⟨v,hv,N,kv⟩:=zC4 (kG hL hy c) (kG hL hx c) hz 0 (λ M _=>by have:=kz M;grind)
 exact LeN.of_null hv N kv
theorem uE_step {L:Rat->Nat->Rat} (hL:Lns L) {a t h:Rat} (Z8:a<=1) (ht:0<t) (hh:0<=h):LeN (λ M=>(1+h)*uE L a (t+h) M) (uE L a t):=by
 have l1:=zGO hL (c:=a-1) (by grind) ht (show t<=t+h by grind)
 have l2:LeN (λ M=>(1+h)*ex (-(t+h)) M) (ex (-t)):=by
  have l:LeN (λ _=>1+h) (ex h):=LeN.of_le 2 λ M hM=>zJB hh hM
  refine (l.bmul (jY (-(t+h))) (zDU _)).trans ?_;have s:=zBB h (-(t+h));refine LeN.of_eqN (s.of_eq λ M=>?_)
  have e:h + -(t+h) = -t:=by grind
  rw[e]
 have l:=l1.mul l2 ((Bdd.const (1+h)).mul (jY _)) ((Nn.const (by grind)).mul (zDU _)) (kM hL ht _) (zC3 hL ht _)
 refine LeN.trans (LeN.of_le 0 λ M _=>?_) l
 unfold uE;generalize pr L (a-1) (t+h) M=p;generalize ex (-(t+h)) M=q;grind
theorem zOO {L:Rat->Nat->Rat} (hL:Lns L) {a x y:Rat} (ha:0<a) (Z8:a<=1) (hx:0<x) (K6:x<=y):LeN (λ M=>uG L a y M+uE L a y M) (λ M=>uG L a x M+uE L a x M):=by
 obtain⟨C,D,C0,D0,Gt,tan⟩:=uG_tan hL ha (show 0<y by grind)
 have ix:=rdm (a:=1) hx;have ip:0<1/x:=zF (by grind) hx
 obtain⟨i,hi⟩:∃ i,i=1/x:=⟨_,rfl⟩;rw[<- hi] at ix ip;refine zCN (f:=λ t M=>uG L a t M+uE L a t M) (a:=x) (b:=y) (C:=C*(i*i)) (D:=D*x) K6 (Ys C0 (zO i)) (Rat.mul_pos D0 hx) (λ t h ht hh hD hb=>?_)
 have t0:0<t:=by grind
 obtain⟨s,hs⟩:∃ s,s=t+h:=⟨_,rfl⟩;have s0:0<s:=by grind
 have vm:=rdm (a:=h) s0;have v0:0<h/s:=zF hh s0;have vh:h/s<=h*i:=div_bd (Yw hh) (show x<=s by grind) s0 (Yw ip) ix
 have hiD:h*i<=D:=zJ9 (Yw ip) ix hD;have l:=tan s (-(h/s)) s0 (by grind) ⟨by grind,by grind⟩
 have e1:s*(1 + -(h/s))=t:=by
  have:s*(1 + -(h/s))=s-h/s*s:=by grind
  rw[this,vm];grind
 rw[e1] at l;have l2:=uE_step hL Z8 t0 (Yw hh);rw[<- hs] at l2;obtain⟨z,hz,kz⟩:=(l.add l2).null;have n:=(zON hL s0 a).bmul (Bdd.const (h/s));refine⟨_,hz.add n.neg,0,λ M _=>?_⟩
 have k:=kz M;rw[<- hs];have m1:=Yr vh (Yw v0);have m2:=Yv vh (Ys (Yw hh) (Yw ip));have m3:=Yr (show h/s*(h/s)<=h*i*(h*i) by grind) C0
 have e:C*(h*i*(h*i))=C*(i*i)*(h*h):=by grind
 rw[e] at m3;have e2 : -(h/s) * -(h/s)=h/s*(h/s):=by grind
 rw[e2] at k
 have e3:(s*uE L a s M-pr L a s M*ex (-s) M)*(h/s)=h*uE L a s M-h/s*(pr L a s M*ex (-s) M):=by
  have:s*uE L a s M*(h/s)=h/s*s*uE L a s M:=by grind
  have e4:(s*uE L a s M-pr L a s M*ex (-s) M)*(h/s)=s*uE L a s M*(h/s)-h/s*(pr L a s M*ex (-s) M):=by grind
  rw[e4,this,vm]
 rw[e3];generalize C*(h/s*(h/s))=w1 at *;generalize C*(i*i)*(h*h)=w2 at *;have e5 : -(h/s)*(pr L a s M*ex (-s) M) = -(h/s*(pr L a s M*ex (-s) M)):=by grind
 rw[e5] at k;generalize h/s*(pr L a s M*ex (-s) M)=w3 at *;generalize uE L a s M=w4 at *;clear e e1 e2 e3 e5 vm v0 vh hiD m1 m2 l l2 n tan;grind
theorem top_ex (P : Nat → Prop) (k : Nat) : ∃ v, (P v ∨ v = 0) ∧ ∀ n, n ≤ k → P n → n ≤ v := by
  induction k with
  | zero => exact ⟨0, Or.inr rfl, fun n hn _ => by omega⟩
  | succ k ih =>
    by_cases h : P (k + 1)
    · exact ⟨k + 1, Or.inl h, fun n hn _ => hn⟩
    · obtain ⟨v, h1, h2⟩ := ih
      exact ⟨v, h1, fun n hn hp => h2 n (by rcases Nat.lt_or_eq_of_le hn with h' | h'
                                            · omega
                                            · subst h'; exact absurd hp h) hp⟩
theorem zJJ {R:Nat->Nat->Prop} (h:∀ i,∃ N,∀ M,N<=M->R i M) (k:Nat):∃ N,∀ i,i<k->∀ M,N<=M->R i M:=by
 induction k with
 | zero=>exact⟨0,λ i hi=>by omega⟩
 | succ k ih =>
  obtain⟨N1,h1⟩:=ih;obtain⟨N2,h2⟩:=h k;refine⟨N1+N2,λ i hi M hM=>?_⟩
  by_cases c:i<k
  ·exact h1 i c M (by omega)
  ·have:i=k:=by omega
   subst this;exact h2 M (by omega)
theorem complete {s t : Nat → Nat → Rat} (h1 : ∀ n m, n ≤ m → LeN (s n) (s m)) (h2 : ∀ n m, n ≤ m → LeN (s m) (fun M => s n M + t n M)) : ∃ g, ∀ n, LeN (s n) g ∧ LeN g (fun M => s n M + t n M) := by
  let P : Nat → Nat → Prop := fun M n => ∀ i, i < n + 1 → ∀ j, j < n + 1 → i ≤ j → s i M ≤ s j M + 1 / ((n : Rat) + 1) ∧ s j M ≤ s i M + t i M + 1 / ((n : Rat) + 1)
  have hP : ∀ n, ∃ N, ∀ M, N ≤ M → P M n := fun n => by
    have u0 : (0 : Rat) < 1 / ((n : Rat) + 1) := zF (by grind) (zA0 n)
    have step : ∀ i, ∃ N, ∀ M, N ≤ M → ∀ j, j < n + 1 → i ≤ j → s i M ≤ s j M + 1 / ((n : Rat) + 1) ∧ s j M ≤ s i M + t i M + 1 / ((n : Rat) + 1) := fun i => by
      obtain ⟨N, hN⟩ := zJJ (R := fun j M => i ≤ j → s i M ≤ s j M + 1 / ((n : Rat) + 1) ∧ s j M ≤ s i M + t i M + 1 / ((n : Rat) + 1)) (fun j => by
        by_cases c : i ≤ j
        · obtain ⟨N1, k1⟩ := h1 i j c _ u0
          obtain ⟨N2, k2⟩ := h2 i j c _ u0
          exact ⟨N1 + N2, fun M hM _ => ⟨k1 M (by omega), k2 M (by omega)⟩⟩
        · exact ⟨0, fun M _ c' => absurd c' c⟩) (n + 1)
      exact ⟨N, fun M hM j hj => hN j hj M hM⟩
    obtain ⟨N, hN⟩ := zJJ step (n + 1)
    exact ⟨N, fun M hM i hi j hj hij => hN i hi M hM j hj hij⟩
  obtain ⟨v, hv⟩ := Classical.skolem.1 (fun M => top_ex (P M) M)
  have main : ∀ n (e : Rat), 0 < e → ∃ N, ∀ M, N ≤ M → s n M ≤ s (v M) M + e ∧ s (v M) M ≤ s n M + t n M + e := fun n e he => by
    obtain ⟨m, hm⟩ := kC (1 / e)
    obtain ⟨N, hN⟩ := hP (n + m + 1)
    refine ⟨N + n + m + 1, fun M hM => ?_⟩
    obtain ⟨w1, w2⟩ := hv M
    have ge := w2 (n + m + 1) (by omega) (hN M (by omega))
    have pv : P M (v M) := by rcases w1 with h | h
                              · exact h
                              · omega
    obtain ⟨a1, a2⟩ := pv n (by omega) (v M) (by omega) (by omega)
    have small : 1 / ((v M : Rat) + 1) ≤ e := by
      refine zBO (zA0 _) ?_
      have c : (m : Rat) ≤ (v M : Rat) := by exact_mod_cast (show m ≤ v M by omega)
      have d := rdm (a := 1) he
      have := Rat.mul_le_mul_of_nonneg_left (Rat.le_trans hm.2 c) (Rat.le_of_lt he)
      grind
    exact ⟨by grind, by grind⟩
  exact ⟨fun M => s (v M) M, fun n => ⟨fun e he => (main n e he).imp fun N h M hM => (h M hM).1, fun e he => (main n e he).imp fun N h M hM => (h M hM).2⟩⟩
structure Gam1 (L:Rat->Nat->Rat) (a:Rat) (g:Nat->Rat):Prop where
 lo:∀ x,0<x->LeN (uG L a x) g
 hi:∀ x,0<x->LeN g (λ M=>uG L a x M+uE L a x M)
theorem zH8 {L : Rat → Nat → Rat} (hL : Lns L) {a : Rat} (ha : 0 < a) (ha1 : a ≤ 1) : ∃ g, Gam1 L a g := by
  have cast : ∀ {n m : Nat}, n ≤ m → (n : Rat) + 1 ≤ (m : Rat) + 1 := fun {n m} h => by have : (n : Rat) ≤ (m : Rat) := by exact_mod_cast h
                                                                                        grind
  obtain ⟨g, hg⟩ := complete (s := fun n => uG L a ((n : Rat) + 1)) (t := fun n => uE L a ((n : Rat) + 1))
    (fun n m h => zI7 hL ha (zA0 n) (cast h))
    (fun n m h => by
      refine LeN.trans ?_ (zOO hL ha ha1 (zA0 n) (cast h))
      obtain ⟨N, hN⟩ := zP5 hL (zA0 m) a
      exact LeN.of_le N fun M hM => by have := hN M hM; grind)
  have up : ∀ x : Rat, ∃ n : Nat, x ≤ (n : Rat) + 1 := fun x => by
    obtain ⟨n, hn⟩ := kC x
    exact ⟨n, by have := hn.2; grind⟩
  refine ⟨g, fun x hx => ?_, fun x hx => ?_⟩
  · obtain ⟨n, hn⟩ := up x
    exact (zI7 hL ha hx hn).trans (hg n).1
  · obtain ⟨n, hn⟩ := up x
    exact (hg n).2.trans (zOO hL ha ha1 hx hn)
end Go.Proofs.YtgmnknmjainabacGreat.Ex
namespace Go.Proofs.YtgmnknmjainabacGreat.Ex
structure IsGam (L:Rat->Nat->Rat) (a:Rat) (g:Nat->Rat):Prop where
 bdd:Bdd g
 pos:∃ c:Rat,0<c/\∃ N:Nat,∀ M,N<=M->c<=g M
 lo:∀ x,0<x->LeN (uG L a x) g
 hi:∀ x,1<=x->2*a<=x+2->LeN g (λ M=>uG L a x M+2*uE L a x M)
theorem zLN {f g k:Nat->Rat} (h1:LeN f g) (h2:LeN g k) (bf:Bdd f) (bk:Bdd k):Bdd g:=by
 obtain⟨N1,a1⟩:=h1 1 (by grind)
 obtain⟨N2,a2⟩:=h2 1 (by grind)
 obtain⟨K1,M1,dP,b1⟩:=bf;obtain⟨K2,M2,FN,b2⟩:=bk;refine⟨K1+K2+1,N1+N2+M1+M2,by grind,λ M hM=>?_⟩
 have:=a1 M (by omega)
 have:=a2 M (by omega)
 have:=b1 M (by omega)
 have:=b2 M (by omega)
 obtain⟨c1,c2⟩:=this;obtain⟨d1,d2⟩:=‹AB (f M) K1›;exact⟨by grind,by grind⟩
theorem uG_low {L:Rat->Nat->Rat} (hL:Lns L) {a x:Rat} (ha:0<a) (hx:0<x):∃ c:Rat,0<c/\∃ N:Nat,∀ M,N<=M->c<=uG L a x M:=by
 obtain⟨c1,p1,N1,h1⟩:=zB7 (kG hL hx a);obtain⟨c2,p2,N2,h2⟩:=zB7 (Bdd.const (-x));have ip:0<1/a:=zF (by grind) ha
 refine⟨c1*c2*(1/a),Rat.mul_pos (Rat.mul_pos p1 p2) ip,N1+N2+1,λ M hM=>?_⟩
 obtain⟨m,rfl⟩:∃ m,M=m+1:=⟨M-1,by omega⟩
 have f:=zFY ha (Yw hx) m;have a1:=h1 (m+1) (by omega)
 have a2:=h2 (m+1) (by omega)
 have b:c1*c2<=pr L a x (m+1)*ex (-x) (m+1):=Rat.le_trans (Yv a1 (Yw p2)) (Yr a2 (show 0<=pr L a x (m+1) by unfold pr;grind))
 have c0:=Ys (Yw p1) (Yw p2);unfold uG;exact Rat.le_trans (Yv b (Yw ip)) (Yr f (by grind))
theorem zTX {f g:Nat->Rat} (h:LeN f g) (k:∃ c:Rat,0<c/\∃ N:Nat,∀ M,N<=M->c<=f M):∃ c:Rat,0<c/\∃ N:Nat,∀ M,N<=M->c<=g M:=by
 obtain⟨c,c0,N,hc⟩:=k;obtain⟨N2,h2⟩:=h (c/2) (by grind)
 exact⟨c/2,by grind,N+N2,λ M hM=>by have:=hc M (by omega);have:=h2 M (by omega);grind⟩
theorem Gam1.isGam {L:Rat->Nat->Rat} (hL:Lns L) {a:Rat} {g:Nat->Rat} (ha:0<a) (h:Gam1 L a g):IsGam L a g:=by
 have one:(0:Rat)<1:=by grind
 refine⟨zLN (h.lo 1 one) (h.hi 1 one) (zUT hL ha one) ((zUT hL ha one).add (uE_bdd hL one a)),zTX (h.lo 1 one) (uG_low hL ha one),h.lo,λ x hx _=>(h.hi x (by grind)).trans ?_⟩
 obtain⟨N,hN⟩:=zP5 hL (show 0<x by grind) a
 exact LeN.of_le N λ M hM=>by have:=hN M hM;grind
theorem uE_next {L:Rat->Nat->Rat} (hL:Lns L) {x:Rat} (hx:0<x) (a:Rat):Null (λ M=>x*uE L a x M-uE L (a+1) x M):=by
 refine (zON hL hx a).of_eq λ M=>?_
 have e:a+1-1=a:=by grind
 unfold uE;rw[e]
theorem zUV {L:Rat->Nat->Rat} (hL:Lns L) {a x:Rat} (ha:0<a) (hx:0<x):Null (λ M=>uG L (a+1) x M-(a*uG L a x M-uE L (a+1) x M)):=by
 have x0:=Yw hx;have a1:0<a+1:=by grind
 have h1:=zKI hL hx a 1;have h2:=(zFF hL hx).bmul (kM hL hx a);have b:=(jY (-x)).mul (zDX a1 x0);have h3:=(h2.sub h1).bmul b;have h4:=(zI8 ha x0).bmul (((Bdd.const a).mul (kM hL hx a)).mul (jY (-x)));refine (h4.add h3).of_eq λ M=>?_
 have e1:=uS_next ha x M;have e2:uS a x (M+1)=uS a x M+upT a x M:=rfl;have e3:a+1-1=a:=by grind
 unfold uG uE;rw[e3];have e4:x*uS (a+1) x M=a*(uS a x M+upT a x M)-1:=by rw[<- e2,e1];grind
 generalize pr L a x M=p at *;generalize pr L (a+1) x M=p1 at *;generalize ex (-x) M=y at *;generalize pr L 1 x M=p2 at *;generalize upT a x M=t at *;generalize uS a x M=s at *;generalize uS (a+1) x M=s1 at *;have k:p*y*(x*s1)=p*y*(a*(s+t)-1):=by rw[e4]
 clear e1 e2 e3 e4 h1 h2 h3 h4;grind
theorem IsGam.next {L:Rat->Nat->Rat} (hL:Lns L) {a:Rat} {g:Nat->Rat} (ha:0<a) (h:IsGam L a g):IsGam L (a+1) (λ M=>a*g M):=by
 have a0:=Yw ha;refine⟨(Bdd.const a).mul h.bdd,?_,λ x hx=>?_,λ x hx bh=>?_⟩
 ·obtain⟨c,c0,N,hc⟩:=h.pos
  exact⟨a*c,Rat.mul_pos ha c0,N,λ M hM=>Yr (hc M hM) a0⟩
 ·refine (LeN.of_eqN (zUV hL ha hx)).trans (LeN.trans ?_ ((h.lo x hx).cmul a0))
  obtain⟨N,hN⟩:=zP5 hL hx (a+1);exact LeN.of_le N λ M hM=>by have:=hN M hM;grind
 ·have x0:0<x:=by grind
  refine ((h.hi x hx (by grind)).cmul a0).trans ?_
  obtain⟨z,hz,kz⟩:=(LeN.of_eqN (uE_next hL x0 a)).null;obtain⟨N,hN⟩:=zP5 hL x0 a;refine LeN.of_null ((zUV hL ha x0).neg.add hz) N λ M hM=>?_
  have k:=kz M;have n:=hN M hM;have m:=Yv (show 2*a<=x by grind) n
  generalize uG L (a+1) x M=w1 at *;generalize uE L (a+1) x M=w2 at *;generalize uG L a x M=w3 at *;generalize uE L a x M=w4 at *;grind
theorem zSL {f g:Nat->Rat} (h:∀ n:Nat,LeN f (λ M=>g M+q2 n)):LeN f g:=λ e he=>by
 obtain⟨N,hN⟩:=null_q2 (e/2) (by grind)
 obtain⟨N2,h2⟩:=h N (e/2) (by grind)
 have q:=(hN N (Yy _)).2;exact⟨N2,λ M hM=>by have:=h2 M hM;grind⟩
theorem zF9 (n : Nat) : LeN (ex (-(n : Rat))) (fun _ => q2 n) := by
  induction n with
  | zero =>
    refine LeN.of_le 1 fun M hM => ?_
    obtain ⟨m, rfl⟩ : ∃ m, M = m + 1 := ⟨M - 1, by omega⟩
    have e : -((0 : Nat) : Rat) = 0 := by have : ((0 : Nat) : Rat) = 0 := rfl
                                          rw [this]; grind
    rw [e]
    have : ex 0 (m + 1) = 1 := kV m
    rw [this]
    show (1 : Rat) ≤ 1
    exact Rat.le_refl
  | succ n ih =>
    have c : ((n + 1 : Nat) : Rat) = (n : Rat) + 1 := by push_cast; rfl
    have l : LeN (fun _ => (2 : Rat)) (ex 1) := LeN.of_le 2 fun M hM => by have := zJB (x := 1) (by grind) hM; show 2 ≤ E 1 M; grind
    have m := l.bmul (jY (-((n : Rat) + 1))) (zDU _)
    have s := zBB 1 (-((n : Rat) + 1))
    have e : 1 + -((n : Rat) + 1) = -(n : Rat) := by grind
    rw [e] at s
    have k := (m.trans (LeN.of_eqN s)).trans ih
    rw [c]
    refine LeN.trans (LeN.of_le 0 fun M _ => ?_) ((k.cmul (c := 1 / 2) (by grind)).trans (LeN.of_le 0 fun M _ => ?_))
    · grind
    · show 1 / 2 * q2 n ≤ q2 (n + 1)
      have : q2 (n + 1) = q2 n / 2 := rfl
      rw [this]; grind
theorem uS_one {x:Rat} (M:Nat):x*uS 1 x M=E x (M+1)-1:=by
 have t:∀ n:Nat,x*upT 1 x n=tm x (n+1):=λ n=>by
  induction n with
  | zero =>
   have e:=kU x 0;have c:((0:Nat):Rat)=0:=rfl;rw[c] at e;have e2:tm x 0=1:=rfl;rw[e2] at e;have e3:=yZ (show (0:Rat)<1 by grind) x
   grind
  | succ n ih =>
   have e1:=jX (show (0:Rat)<1 by grind) x n
   have e2:=kU x (n+1);have c:((n+1:Nat):Rat)=(n:Rat)+1:=by push_cast;rfl
   rw[c] at e2;refine zX (show 0<(n:Rat)+1+1 by have:=zA0 n;grind) ?_
   rw[e2,<- ih];grind
 induction M with
 | zero=>show x*0=(0+1)-1;grind
 | succ n ih =>
  have:=t n;have e:E x (n+1+1)=E x (n+1)+tm x (n+1):=rfl;rw[yV,e];grind
theorem gam_one {L:Rat->Nat->Rat} (hL:Lns L) {g:Nat->Rat} (h:Gam1 L 1 g):Null (λ M=>g M-1):=by
 have key:∀ x,0<x->Null (λ M=>uG L 1 x M-(1-ex (-x) M)):=λ x hx=>by
  have x0:=Yw hx;have s:=zBB x (-x);have e:x + -x=0:=by grind
  rw[e] at s;have h2:=(zFF hL hx).bmul ((jY (-x)).mul (zDX (show (0:Rat)<1 by grind) x0))
  obtain⟨K,k0,hK⟩:=zP3 x
  have tn:Null (tm x):=(zB5 K k0).of_le 1 λ M hM=>(hK M).mono (by
   have m1:(1:Rat)<=(M:Rat):=by exact_mod_cast hM
   have:=Yr m1 (Ys k0 (Yw (yE M)))
   grind)
  have h3:=tn.bmul (jY (-x));refine ((h2.add h3).add s).of_eq_from 1 λ M hM=>?_
  have e0:ex 0 M=1:=by
   obtain⟨m,rfl⟩:∃ m,M=m+1:=⟨M-1,by omega⟩
   exact kV m
  have e1:=uS_one (x:=x) M;have e2:E x (M+1)=ex x M+tm x M:=rfl;rw[e0];unfold uG;rw[e2] at e1;generalize pr L 1 x M=p at *;generalize ex (-x) M=y at *;generalize uS 1 x M=u at *;generalize ex x M=v at *;generalize tm x M=t at *;have k:y*(x*u)=y*(v+t-1):=by rw[e1]
  grind
 have up:LeN g (λ _=>1):=by
  refine (h.hi 1 (by grind)).trans ?_
  refine LeN.of_null (key 1 (by grind)) 1 λ M hM=>?_
  have e:pr L (1-1) 1 M=1:=by
   obtain⟨m,rfl⟩:∃ m,M=m+1:=⟨M-1,by omega⟩
   unfold pr Ev;have e:(1-1:Rat)*L 1 (m+1)=0:=by grind
   show E ((1-1)*L 1 (m+1)) (m+1)=1
   rw[e];exact kV m
  unfold uE;rw[e];grind
 have dn:LeN (λ _=>(1:Rat)) g:=by
  refine zSL λ n=>?_
  have n1:(0:Rat)<(n:Rat)+1:=zA0 n;have a:=h.lo _ n1;obtain⟨z,hz,kz⟩:=(a.add (zF9 (n+1))).null;have c:((n+1:Nat):Rat)=(n:Rat)+1:=by push_cast;rfl
  refine LeN.of_null (hz.add (key _ n1).neg) 0 λ M _=>?_
  have k:=kz M;have e:q2 (n+1)=q2 n/2:=rfl;have q:=yD n;rw[c,e] at k;grind
 exact up.eq dn
theorem zSX {L:Rat->Nat->Rat} (hL:Lns L) {g:Nat->Rat} (hb:Bdd g) (hp:∃ c:Rat,0<c/\∃ N:Nat,∀ M,N<=M->c<=g M):∃ l,IsLog l g:=by
 obtain⟨c,c0,N1,hc⟩:=hp;obtain⟨K,N2,k0,hK⟩:=hb;have Kc:0<K+c:=by grind
 obtain⟨B1,M1,b10,h1⟩:=(hL c c0).1;obtain⟨B2,M2,b20,h2⟩:=(hL (K+c) Kc).1
 have each:∀ M,∃ y:Rat,N1+N2<=M->AB y (B1+B2+1)/\∃ j,M<=j/\AB (E y j-g M) (q2 M):=λ M=>by
  by_cases hM:N1+N2<=M
  ·have gc:=hc M (by omega)
   have gK:=(hK M (by omega)).2
   have gp:0<g M:=by grind
   obtain⟨n1,p1⟩:=(hL c c0).le (hL _ gp) null_zero 0 (λ _ _=>by grind) 1 (by grind)
   obtain⟨n2,p2⟩:=(hL _ gp).le (hL _ Kc) null_zero 0 (λ _ _=>by grind) 1 (by grind)
   obtain⟨n3,p3⟩:=(hL _ gp).2 (q2 M) (yD M);obtain⟨j,hj⟩:∃ j,j=M+M1+M2+n1+n2+n3:=⟨_,rfl⟩;refine⟨L (g M) j,λ _=>⟨?_,j,by omega,p3 j (by omega)⟩⟩
   have r1:=p1 j (by omega)
   have r2:=p2 j (by omega)
   have r3:=(h1 j (by omega)).1
   have r4:=(h2 j (by omega)).2
   exact⟨by grind,by grind⟩
  ·exact⟨0,λ h=>absurd h hM⟩
 obtain⟨l,hl⟩:=Classical.skolem.1 each;obtain⟨T,t0,hT⟩:=zMJ (B1+B2+1);refine⟨l,⟨_,N1+N2,by grind,λ M hM=>(hl M hM).1⟩,?_⟩
 have z:=(zB5 (2*T) (by grind)).add null_q2
 refine z.of_le (N1+N2+1) λ M hM=>?_
 obtain⟨a1,j,hj,a2⟩:=hl M (by omega)
 obtain⟨i,rfl⟩:∃ i,j=M+i:=⟨j-M,by omega⟩
 have s:=E_sub (l M) T (λ i=>hT _ a1 i) M i
 have m1:(1:Rat)<=(M:Rat):=by exact_mod_cast (show 1<=M by omega)
 have qm:=yE M;have qi:=yE (M+i);have mq:=Yr m1 (Ys t0 (Yw qm));have mi:=Ys t0 (Yw qi);obtain⟨s1,s2⟩:=s;obtain⟨d1,d2⟩:=a2
 show AB (E (l M) M-g M) _
 generalize E (l M) (M+i)=w1 at *;generalize E (l M) M=w2 at *;exact⟨by grind,by grind⟩
end Go.Proofs.YtgmnknmjainabacGreat.Ex
namespace Go.Proofs.YtgmnknmjainabacGreat.Ex
def LeA (f:Nat->Rat) (K:Rat):Prop:=∀ e:Rat,0<e->∃ N:Nat,∀ M,N<=M->AB (f M) (K+e)
theorem LeA.nonneg {f:Nat->Rat} {K:Rat} (h:LeA f K):0<=K:=by
 refine Rat.not_lt.1 λ hn=>?_
 obtain⟨N,k⟩:=h (-K/2) (by grind)
 have:=(k N (Yy _)).nonneg;grind
theorem LeA.mono {f:Nat->Rat} {K K':Rat} (h:LeA f K) (k:K<=K'):LeA f K':=λ e he=>by
 obtain⟨N,h⟩:=h e he;exact⟨N,λ M hM=>(h M hM).mono (by grind)⟩
theorem LeA.of_ab {f:Nat->Rat} {K:Rat} (N:Nat) (h:∀ M,N<=M->AB (f M) K):LeA f K:=λ e he=>⟨N,λ M hM=>(h M hM).mono (by grind)⟩
theorem LeA.of_null {f:Nat->Rat} (h:Null f):LeA f 0:=λ e he=>by
 obtain⟨N,h⟩:=h e he;exact⟨N,λ M hM=>(h M hM).mono (by grind)⟩
theorem LeA.add {f g:Nat->Rat} {K L:Rat} (h:LeA f K) (k:LeA g L):LeA (λ M=>f M+g M) (K+L):=λ e he=>by
 obtain⟨N,h⟩:=h (e/2) (by grind)
 obtain⟨N',k⟩:=k (e/2) (by grind)
 exact⟨N+N',λ M hM=>((h M (by omega)).add (k M (by omega))).mono (by grind)⟩
theorem LeA.neg {f:Nat->Rat} {K:Rat} (h:LeA f K):LeA (λ M => -f M) K:=λ e he=>by
 obtain⟨N,h⟩:=h e he;exact⟨N,λ M hM=>(h M hM).neg⟩
theorem LeA.mul {f g:Nat->Rat} {K L:Rat} (h:LeA f K) (k:LeA g L):LeA (λ M=>f M*g M) (K*L):=λ e he=>by
 have k0:=h.nonneg;have l0:=k.nonneg;have hp:0<K+L+1+e:=by grind
 have d0:=zF he hp;have dm:=rdm (a:=e) hp;obtain⟨N,h⟩:=h _ d0;obtain⟨N',k⟩:=k _ d0;refine⟨N+N',λ M hM=>((h M (by omega)).mul (k M (by omega))).mono ?_⟩
 generalize e/(K+L+1+e)=d at *;have m1:=Ys (Yw d0) k0;have m2:=Ys (Yw d0) l0;have m3:=Ys (Yw d0) (Yw he)
 have d1:d<=1:=by
  refine Rat.not_lt.1 λ hn=>?_
  have:=Rat.mul_pos (show 0<d-1 by grind) hp
  have:=Rat.mul_pos d0 he;grind
 have m4:=Ys (Yw d0) (show 0<=1-d by grind)
 grind
theorem LeA.const {c K:Rat} (h:AB c K):LeA (λ _=>c) K:=LeA.of_ab 0 λ _ _=>h
theorem LeA.of_eq {f g:Nat->Rat} {K:Rat} (h:LeA f K) (e:∀ M,g M=f M):LeA g K:=by
 have:g=f:=funext e;rw[this];exact h
theorem LeA.congr {f g:Nat->Rat} {K:Rat} (h:LeA f K) (k:Null (λ M=>g M-f M)):LeA g K:=by
 have:=(h.add (LeA.of_null k)).mono (K':=K) (by grind)
 exact this.of_eq λ M=>by grind
theorem Bdd.leA {f:Nat->Rat} (h:Bdd f):∃ K,LeA f K:=by
 obtain⟨K,N,k0,h⟩:=h;exact⟨K,LeA.of_ab N h⟩
theorem LeA.scale {f:Nat->Rat} {K c d:Rat} (h:LeA f K) (hc:AB c d):LeA (λ M=>c*f M) (d*K):=(LeA.const hc).mul h
def Dif (F F':Rat->Nat->Rat) (p q:Rat):Prop:=∃ C K,0<=C/\0<=K/\(∀ x,p<=x->x<=q->LeA (F x) K/\LeA (F' x) K)/\∀ x h,p<=x->x<=q->p<=x+h->x+h<=q->LeA (λ M=>F (x+h) M-F x M-h*F' x M) (C*(h*h))
theorem ab_len {p q x h:Rat} (h1:p<=x) (h2:x<=q) (h3:p<=x+h) (h4:x+h<=q):AB h (q-p):=⟨by grind,by grind⟩
theorem Dif.of_small {F F':Rat->Nat->Rat} {p q D C K:Rat} (O2:p<=q) (hD:0<D) (hC:0<=C) (hK:0<=K) (b:∀ x,p<=x->x<=q->LeA (F x) K/\LeA (F' x) K) (s:∀ x h,p<=x->x<=q->p<=x+h->x+h<=q->AB h D->LeA (λ M=>F (x+h) M-F x M-h*F' x M) (C*(h*h))):Dif F F' p q:=by
 have DD:=Rat.mul_pos hD hD;obtain⟨i,hi⟩:∃ i,i=1/(D*D):=⟨_,rfl⟩;have ip:0<i:=by rw[hi];exact zF (by grind) DD
 have im:i*(D*D)=1:=by rw[hi];exact rdm DD
 obtain⟨W,hW⟩:∃ W,W=K+K+(q-p)*K:=⟨_,rfl⟩;have W0:0<=W:=by have:=Ys (show 0<=q-p by grind) hK;grind
 have Wi:=Ys W0 (Yw ip);refine⟨C+W*i,K,by grind,hK,b,λ x h h1 h2 h3 h4=>?_⟩
 have hh:=zO h
 by_cases c:AB h D
 ·refine (s x h h1 h2 h3 h4 c).mono ?_
  have:=Ys Wi hh;grind
 ·have far:D*D<=h*h:=by
   by_cases c1:0<=h
   ·have:D<=h:=by
     refine Rat.not_lt.1 λ hn=>c ⟨by grind,by grind⟩
    have:=Yv this (Yw hD);have:=Yr (show D<=h by assumption) c1
    grind
   ·have:D <= -h:=by
     refine Rat.not_lt.1 λ hn=>c ⟨by grind,by grind⟩
    have:=Yv this (Yw hD);have:=Yr (show D <= -h by assumption) (show 0 <= -h by grind)
    grind
  have l:=((b (x+h) h3 h4).1.add (b x h1 h2).1.neg).add ((b x h1 h2).2.scale (ab_len h1 h2 h3 h4)).neg;refine (l.mono ?_).of_eq λ M=>by grind
  have m1:=Yr far Wi
  have m2:W*i*(D*D)=W:=by
   have:W*i*(D*D)=W*(i*(D*D)):=by grind
   rw[this,im];grind
  have m3:=Ys hC hh;rw[m2] at m1;rw[<- hW];grind
theorem Dif.mul {F F' G G':Rat->Nat->Rat} {p q:Rat} (O2:p<=q) (h:Dif F F' p q) (k:Dif G G' p q):Dif (λ x M=>F x M*G x M) (λ x M=>F' x M*G x M+F x M*G' x M) p q:=by
 obtain⟨C1,K1,jm,dP,b1,s1⟩:=h;obtain⟨C2,K2,Ic,FN,b2,s2⟩:=k;have W0:0<=q-p:=by grind
 have n1:=Ys jm FN;have n2:=Ys dP Ic;have n3:=Ys W0 (Ys dP Ic);have n4:=Ys dP FN;refine⟨C1*K2+K1*C2+(q-p)*(K1*C2)+K1*K2,K1*K2+K1*K2,by grind,by grind,λ x h1 h2=>⟨?_,?_⟩,λ x h h1 h2 h3 h4=>?_⟩
 ·exact ((b1 x h1 h2).1.mul (b2 x h1 h2).1).mono (by grind)
 ·exact ((b1 x h1 h2).2.mul (b2 x h1 h2).1).add ((b1 x h1 h2).1.mul (b2 x h1 h2).2)
 ·have d1:=s1 x h h1 h2 h3 h4
  have d2:=s2 x h h1 h2 h3 h4;have f:=b1 x h1 h2;have g:=b2 x h1 h2;have g1:=b2 (x+h) h3 h4;have hb:=ab_len h1 h2 h3 h4;have hh:=zO h;have hhb:AB (h*h) (h*h):=⟨by grind,by grind⟩
  have t1:=d1.mul g1.1;have t2:=f.1.mul d2;have t3:=(f.2.mul d2).scale hb;have t4:=(f.2.mul g.2).scale hhb;refine (((t1.add t2).add (t3.add t4)).mono ?_).of_eq λ M=>?_
  ·clear t1 t2 t3 t4 d1 d2 f g g1 b1 b2 s1 s2
   grind
  ·clear t1 t2 t3 t4 d1 d2 f g g1 b1 b2 s1 s2
   dsimp only
   generalize F (x+h) M=f1;generalize F x M=f0;generalize F' x M=f';generalize G (x+h) M=g1;generalize G x M=g0;generalize G' x M=g';grind
theorem Dif.add {F F' G G':Rat->Nat->Rat} {p q:Rat} (h:Dif F F' p q) (k:Dif G G' p q):Dif (λ x M=>F x M+G x M) (λ x M=>F' x M+G' x M) p q:=by
 obtain⟨C1,K1,jm,dP,b1,s1⟩:=h;obtain⟨C2,K2,Ic,FN,b2,s2⟩:=k;refine⟨C1+C2,K1+K2,by grind,by grind,λ x h1 h2=>⟨(b1 x h1 h2).1.add (b2 x h1 h2).1,(b1 x h1 h2).2.add (b2 x h1 h2).2⟩,λ x h h1 h2 h3 h4=>?_⟩
 refine (((s1 x h h1 h2 h3 h4).add (s2 x h h1 h2 h3 h4)).mono (by grind)).of_eq λ M=>by grind
theorem Dif.smul {F F':Rat->Nat->Rat} {p q:Rat} (h:Dif F F' p q) (c:Rat):Dif (λ x M=>c*F x M) (λ x M=>c*F' x M) p q:=by
 obtain⟨C1,K1,jm,dP,b1,s1⟩:=h;obtain⟨d,hd⟩:=AB.self c;have d0:=hd.nonneg;refine⟨d*C1,d*K1,Ys d0 jm,Ys d0 dP,λ x h1 h2=>⟨(b1 x h1 h2).1.scale hd,(b1 x h1 h2).2.scale hd⟩,λ x h h1 h2 h3 h4=>?_⟩
 refine (((s1 x h h1 h2 h3 h4).scale hd).mono (by grind)).of_eq λ M=>by grind
theorem Dif.sub {F F' G G':Rat->Nat->Rat} {p q:Rat} (h:Dif F F' p q) (k:Dif G G' p q):Dif (λ x M=>F x M-G x M) (λ x M=>F' x M-G' x M) p q:=by
 have:=h.add (k.smul (-1));have e1:(λ x M=>F x M + -1*G x M)=λ x M=>F x M-G x M:=by funext x M;grind
 have e2:(λ x M=>F' x M + -1*G' x M)=λ x M=>F' x M-G' x M:=by funext x M;grind
 rw[e1,e2] at this;exact this
theorem Dif.congr {F F' G':Rat->Nat->Rat} {p q:Rat} (h:Dif F F' p q) (k:∀ x,p<=x->x<=q->Null (λ M=>G' x M-F' x M)):Dif F G' p q:=by
 obtain⟨C1,K1,jm,dP,b1,s1⟩:=h;refine⟨C1,K1,jm,dP,λ x h1 h2=>⟨(b1 x h1 h2).1,(b1 x h1 h2).2.congr (k x h1 h2)⟩,λ x h h1 h2 h3 h4=>?_⟩
 refine (s1 x h h1 h2 h3 h4).congr (((k x h1 h2).bmul (Bdd.const (-h))).of_eq λ M=>?_)
 generalize F (x+h) M=f1;generalize F x M=f0;generalize F' x M=f';generalize G' x M=g';grind
theorem Dif.within {F F':Rat->Nat->Rat} {p q p' q':Rat} (h:Dif F F' p q) (h1:p<=p') (h2:q'<=q):Dif F F' p' q':=by
 obtain⟨C1,K1,jm,dP,b1,s1⟩:=h;exact⟨C1,K1,jm,dP,λ x a b=>b1 x (by grind) (by grind),λ x h a b c d=>s1 x h (by grind) (by grind) (by grind) (by grind)⟩
theorem Dif.flip {F F':Rat->Nat->Rat} {p q:Rat} (h:Dif F F' (1-q) (1-p)):Dif (λ x=>F (1-x)) (λ x M => -F' (1-x) M) p q:=by
 obtain⟨C1,K1,jm,dP,b1,s1⟩:=h;refine⟨C1,K1,jm,dP,λ x a b=>⟨(b1 (1-x) (by grind) (by grind)).1,(b1 (1-x) (by grind) (by grind)).2.neg⟩,λ x h a b c d=>?_⟩
 have s:=s1 (1-x) (-h) (by grind) (by grind) (by grind) (by grind)
 have e:1-x + -h=1-(x+h):=by grind
 rw[e] at s;refine (s.mono (by grind)).of_eq λ M=>by grind
theorem Dif.const (c:Nat->Rat) (hc:Bdd c) (p q:Rat):Dif (λ _=>c) (λ _ _=>0) p q:=by
 obtain⟨K,hK⟩:=hc.leA;refine⟨0,K,by grind,hK.nonneg,λ x _ _=>⟨hK,(LeA.of_null null_zero).mono hK.nonneg⟩,λ x h _ _ _ _=>?_⟩
 exact (LeA.of_null null_zero).mono (by grind) |>.of_eq λ M=>by grind
theorem Dif.le {F F':Rat->Nat->Rat} {p q:Rat} (O2:p<=q) (h:Dif F F' p q) (k:∀ x,p<=x->x<=q->LeN (λ _=>0) (F' x)):LeN (F p) (F q):=by
 obtain⟨C,K,c0,k0,b,s⟩:=h
 have key:=zCN (f:=λ x M => -F x M) (a:=p) (b:=q) (C:=C) (D:=1) O2 c0 (by grind) (λ x h h1 h2 h3 h4=>by
  have a1:=s x h h1 (by grind) (by grind) h4
  have l:LeN (λ M=>F x M) (λ M=>F (x+h) M+C*(h*h)):=λ e he=>by
   have hp:0<1+h:=by grind
   have d0:=zF he hp;have dm:=rdm (a:=e) hp;obtain⟨N1,n1⟩:=a1 _ d0;obtain⟨N2,n2⟩:=k x h1 (by grind) _ d0
   refine⟨N1+N2,λ M hM=>?_⟩
   have b1:=(n1 M (by omega)).1
   have b2:=Yr (n2 M (by omega)) (Yw h2)
   dsimp only at b1 b2 ⊢
   generalize e/(1+h)=d at *;grind
  obtain⟨z,hz,kz⟩:=l.null
  exact⟨z,hz,0,λ M _=>by have:F x M<=F (x+h) M+C*(h*h)+z M:=kz M;show -F (x+h) M <= -F x M+C*(h*h)+z M;grind⟩)
 intro e he
 obtain⟨N,k⟩:=key e he;exact⟨N,λ M hM=>by have : -F q M <= -F p M+e:=k M hM;grind⟩
theorem Dif.eq {F F':Rat->Nat->Rat} {p q:Rat} (O2:p<=q) (h:Dif F F' p q) (k:∀ x,p<=x->x<=q->Null (F' x)):Null (λ M=>F p M-F q M):=by
 refine (h.le O2 λ x a b=>?_).eq ?_
 ·exact LeN.of_eqN ((k x a b).neg.of_eq λ M=>by grind)
 ·have l:=(h.smul (-1)).le O2 λ x a b=>LeN.of_eqN ((k x a b).of_eq λ M=>by grind)
  intro e he
  obtain⟨N,k⟩:=l e he;exact⟨N,λ M hM=>by have : -1*F p M <= -1*F q M+e:=k M hM;grind⟩
end Go.Proofs.YtgmnknmjainabacGreat.Ex
