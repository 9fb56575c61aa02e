/-
  Its own texts.
-/
import Derived.Test.YtgmnknmjainabacGreatI06
set_option maxRecDepth 100000
set_option maxHeartbeats 40000000
set_option linter.unnecessarySimpa false
set_option linter.unusedSimpArgs false
set_option linter.unusedVariables false
namespace Go.Proofs.YtgmnknmjainabacGreat
open Ex
theorem zEC (a b c d:Int):kJ (pr4 a b c d) 3<=a/\kJ (pr4 a b c d) 3<=b/\kJ (pr4 a b c d) 3<=c/\kJ (pr4 a b c d) 3<=d/\(kJ (pr4 a b c d) 3=a\/kJ (pr4 a b c d) 3=b\/kJ (pr4 a b c d) 3=c\/kJ (pr4 a b c d) 3=d):=by
 simp only[kJ,pr4];simp;repeat' split
 all_goals omega
theorem zDB (a b c d:Int):a<=kA (pr4 a b c d) 3/\b<=kA (pr4 a b c d) 3/\c<=kA (pr4 a b c d) 3/\d<=kA (pr4 a b c d) 3/\(kA (pr4 a b c d) 3=a\/kA (pr4 a b c d) 3=b\/kA (pr4 a b c d) 3=c\/kA (pr4 a b c d) 3=d):=by
 simp only[kA,pr4];simp;repeat' split
 all_goals omega
def zAH (B:Nat) (a b:Int × Int):Int × Int:=(kJ (pr4 (a.1*b.1) (a.1*b.2) (a.2*b.1) (a.2*b.2)) 3/Q B,-(-(kA (pr4 (a.1*b.1) (a.1*b.2) (a.2*b.1) (a.2*b.2)) 3)/Q B))
def zB5 (a b:Int × Int):Int × Int:=(a.1+b.1,a.2+b.2)
def zI7 (a b:Int × Int):Int × Int:=(a.1-b.2,a.2-b.1)
def zK (a:Int × Int) (n d:Int):Int × Int:=(a.1*n/d,-(-(a.2*n)/d))
def kH (a:Int × Int) (n:Int):Int × Int:=(a.1*n,a.2*n)
def zW (a:Int × Int):Int:=zFK a.2 (-a.1)
def ofI (n d:Int) (B:Nat):Int × Int:=(n*Q B/d,-(-(n*Q B)/d))
def zG (a:Int × Int) (t:Nat):Int × Int:=(a.1/Q t,-(-a.2/Q t))
def jE (f:Nat->Int × Int):Nat->Int × Int
 | 0=>f 0
 | n+1=>zB5 (jE f n) (f (n+1))
def zU (f:Nat->Int × Int) (N:Nat):Prop:=zW (f N)<=1/\∀ n,n<N->1<zW (f n)
def zN (f:Nat->Int × Int) (N:Nat):Int × Int:=zB5 (jE f N) (-zW (f N),zW (f N))
def sqI (B:Nat) (a:Int × Int):Nat->Int × Int
 | 0=>a
 | t+1=>zAH B (sqI B a t) (sqI B a t)
def Abs (a:Int × Int) (m:Int):Prop := -m<=a.1/\a.1<=m /\ -m<=a.2/\a.2<=m
theorem zEG {a:Int × Int} (h:a.1<=a.2):Abs a (zW a):=by
 unfold Abs zW zFK;split<;>omega
theorem zAD {a:Int × Int} {m:Int} (h:Abs a m):zW a<=m:=by
 obtain⟨h1,h2,h3,h4⟩:=h;unfold zW zFK;split<;>omega
theorem Abs.nonneg {a:Int × Int} {m:Int} (h:Abs a m):0<=m:=by obtain⟨h1,h2,h3,h4⟩:=h;omega
theorem Abs.mono {a:Int × Int} {m n:Int} (h:Abs a m) (k:m<=n):Abs a n:=by obtain⟨h1,h2,h3,h4⟩:=h;exact⟨by omega,by omega,by omega,by omega⟩
theorem Abs.add {a b:Int × Int} {m n:Int} (h:Abs a m) (k:Abs b n):Abs (zB5 a b) (m+n):=by
 obtain⟨h1,h2,h3,h4⟩:=h;obtain⟨k1,k2,k3,k4⟩:=k;refine⟨?_,?_,?_,?_⟩<;>simp only[zB5]<;>omega
theorem yR {x y m n:Int} (h1 : -m<=x) (h2:x<=m) (k1 : -n<=y) (k2:y<=n) : -(m*n)<=x*y/\x*y<=m*n:=by
 have p1:=YF (show 0<=m-x by omega) (show 0<=n+y by omega)
 have p2:=YF (show 0<=m+x by omega) (show 0<=n-y by omega)
 have p3:=YF (show 0<=m-x by omega) (show 0<=n-y by omega)
 have p4:=YF (show 0<=m+x by omega) (show 0<=n+y by omega)
 constructor<;>grind
theorem kC {x m q:Int} (hq:0<q) (h1 : -(m*q)<=x) (h2:x<=m*q) : -m<=x/q/\x/q<=m /\ -m <= -(-x/q) /\ -(-x/q)<=m:=by
 have a1 : -m<=x/q:=by rw[Int.le_ediv_iff_mul_le hq,Int.neg_mul];exact h1
 have a2 : -m <= -x/q:=by rw[Int.le_ediv_iff_mul_le hq,Int.neg_mul];omega
 have a3:=zE4 x q hq;have a4:=zC6 x q hq;refine⟨a1,?_,?_,by omega⟩
 ·refine Int.not_lt.1 λ hn=>?_
  have:=YA (show m+1<=x/q by omega) (show 0<=q by omega)
  rw[Int.add_mul] at this;omega
 ·refine Int.not_lt.1 λ hn=>?_
  have:=YA (show -(-x/q) <= -m-1 by omega) (show 0<=q by omega)
  have e:(-m-1)*q = -(m*q)-q:=by grind
  rw[e] at this;omega
theorem zCT {B:Nat} {a b:Int × Int} {m n p:Int} (h:Abs a m) (k:Abs b n) (hp:m*n<=p*Q B):Abs (zAH B a b) p:=by
 obtain⟨h1,h2,h3,h4⟩:=h;obtain⟨k1,k2,k3,k4⟩:=k;have q:=zE B;have c1:=yR h1 h2 k1 k2;have c2:=yR h1 h2 k3 k4;have c3:=yR h3 h4 k1 k2;have c4:=yR h3 h4 k3 k4;have l:=(zEC (a.1*b.1) (a.1*b.2) (a.2*b.1) (a.2*b.2)).2.2.2.2;have g:=(zDB (a.1*b.1) (a.1*b.2) (a.2*b.1) (a.2*b.2)).2.2.2.2;have r1:=kC (x:=kJ (pr4 (a.1*b.1) (a.1*b.2) (a.2*b.1) (a.2*b.2)) 3) (m:=p) (show 0<Q B by omega) (by omega) (by omega)
 have r2:=kC (x:=kA (pr4 (a.1*b.1) (a.1*b.2) (a.2*b.1) (a.2*b.2)) 3) (m:=p) (show 0<Q B by omega) (by omega) (by omega)
 exact⟨r1.1,r1.2.1,r2.2.2.1,r2.2.2.2⟩
theorem zBY (B:Nat) {a b:Int × Int}:(zAH B a b).1<=(zAH B a b).2:=by
 have q:=zE B;have l:=zEC (a.1*b.1) (a.1*b.2) (a.2*b.1) (a.2*b.2);have g:=zDB (a.1*b.1) (a.1*b.2) (a.2*b.1) (a.2*b.2);simp only[zAH];have a1:=zE4 (kJ (pr4 (a.1*b.1) (a.1*b.2) (a.2*b.1) (a.2*b.2)) 3) (Q B) (by omega)
 have a2:=zC6 (kA (pr4 (a.1*b.1) (a.1*b.2) (a.2*b.1) (a.2*b.2)) 3) (Q B) (by omega)
 refine Int.not_lt.1 λ hn=>?_
 have:=Int.mul_lt_mul_of_pos_right hn (show 0<Q B by omega)
 omega
theorem zEX {a:Int × Int} {m n d:Int} (h:Abs a m) (hd:0<d) (hn:0<=n) (fQ:n<=d):Abs (zK a n d) m:=by
 have m0:=h.nonneg;obtain⟨h1,h2,h3,h4⟩:=h;have p:=YF m0 (show 0<=d-n by omega)
 have c1:=yR h1 h2 (show -n<=n by omega) (Int.le_refl n)
 have c2:=yR h3 h4 (show -n<=n by omega) (Int.le_refl n)
 rw[Int.mul_sub] at p;have r1:=kC (x:=a.1*n) (m:=m) hd (by omega) (by omega)
 have r2:=kC (x:=a.2*n) (m:=m) hd (by omega) (by omega)
 exact⟨r1.1,r1.2.1,r2.2.2.1,r2.2.2.2⟩
theorem kM {a:Int × Int} {n d:Int} (h:a.1<=a.2) (hd:0<d) (hn:0<=n):(zK a n d).1<=(zK a n d).2:=by
 simp only[zK];have a1:=zE4 (a.1*n) d hd;have a2:=zC6 (a.2*n) d hd;have a3:=YA h hn;refine Int.not_lt.1 λ hn=>?_
 have:=Int.mul_lt_mul_of_pos_right hn hd;omega
theorem zLJ {x y x' y' a1 a2 b1 b2 m n:Int} (hx:x=a1\/x=a2) (hy:y=b1\/y=b2) (ri:x'=a1\/x'=a2) (oM:y'=b1\/y'=b2)
  (ha:a1<=a2) (hb:b1<=b2) (h1 : -m<=a1) (h2:a1<=m) (h3 : -m<=a2) (h4:a2<=m) (k1 : -n<=b1) (k2:b1<=n) (k3 : -n<=b2) (k4:b2<=n) :
  x*y-x'*y'<=m*(b2-b1)+n*(a2-a1):=by
 have e:x*y-x'*y'=x*(y-y')+(x-x')*y':=by grind
 rw[e];have c1 : -m<=x/\x<=m:=by rcases hx with h|h<;>subst h<;>exact⟨by assumption,by assumption⟩
 have c2 : -n<=y'/\y'<=n:=by rcases oM with h|h<;>subst h<;>exact⟨by assumption,by assumption⟩
 have d1 : -(b2-b1)<=y-y'/\y-y'<=b2-b1:=by rcases hy with h|h<;>rcases oM with h'|h'<;>omega
 have d2 : -(a2-a1)<=x-x'/\x-x'<=a2-a1:=by rcases hx with h|h<;>rcases ri with h'|h'<;>omega
 have g1:=(yR c1.1 c1.2 d1.1 d1.2).2;have g2:=(yR d2.1 d2.2 c2.1 c2.2).2;rw[Int.mul_comm n];omega
theorem zBM {x y q c:Int} (hq:0<q) (h:x-y<=c*q) : -(-x/q)-y/q<=c+1:=by
 have a1:=zLH x q hq;have a2:=flo_gt y q hq;refine Int.not_lt.1 λ hn=>?_
 have:=YA (show c+2 <= -(-x/q)-y/q by omega) (show 0<=q by omega)
 rw[Int.sub_mul,Int.add_mul] at this;omega
theorem zAU {B:Nat} {a b:Int × Int} {m n c:Int} (h:Abs a m) (k:Abs b n) (ha:a.1<=a.2) (hb:b.1<=b.2) (hc:m*(b.2-b.1)+n*(a.2-a.1)<=c*Q B):(zAH B a b).2-(zAH B a b).1<=c+1:=by
 obtain⟨h1,h2,h3,h4⟩:=h;obtain⟨k1,k2,k3,k4⟩:=k;have q:=zE B;have l:=(zEC (a.1*b.1) (a.1*b.2) (a.2*b.1) (a.2*b.2)).2.2.2.2;have g:=(zDB (a.1*b.1) (a.1*b.2) (a.2*b.1) (a.2*b.2)).2.2.2.2;refine zBM (show 0<Q B by omega) (Int.le_trans ?_ hc)
 have key:=λ x y x' y' (hx:x=a.1\/x=a.2) (hy:y=b.1\/y=b.2) (ri:x'=a.1\/x'=a.2) (oM:y'=b.1\/y'=b.2)=>zLJ hx hy ri oM ha hb h1 h2 h3 h4 k1 k2 k3 k4
 rcases g with g|g|g|g<;>rcases l with l|l|l|l<;>rw[g,l]<;>exact key _ _ _ _ (by simp) (by simp) (by simp) (by simp)
theorem kI {a:Int × Int} {n d c:Int} (hd:0<d) (h:(a.2-a.1)*n<=c*d):(zK a n d).2-(zK a n d).1<=c+1:=by
 refine zBM hd ?_;rw[<- Int.sub_mul];exact h
def Iv (B:Nat) (a:Int × Int) (x:Nat->Rat):Prop:=Has ((a.1:Rat)/(Q B:Rat)) ((a.2:Rat)/(Q B:Rat)) x
theorem jH (B:Nat):(0:Rat)<(Q B:Rat):=by exact_mod_cast (show (0:Int)<Q B by have:=zE B;omega)
theorem jW {a b c:Rat} (hc:0<c) (h:a*c<=b):a<=b/c:=by
 have e:=rdm (a:=b) hc;generalize b/c=q at *;refine Rat.not_lt.1 λ hn=>?_
 have:=Rat.mul_pos hc (show 0<a-q by grind)
 grind
theorem jV {a b c:Rat} (hc:0<c) (h:a<=b*c):a/c<=b:=by
 have e:=rdm (a:=a) hc;generalize a/c=q at *;refine Rat.not_lt.1 λ hn=>?_
 have:=Rat.mul_pos hc (show 0<q-b by grind)
 grind
theorem zZ {a b:Int} (h:a<=b):(a:Rat)<=(b:Rat):=by exact_mod_cast h
theorem zJ2 {L u v q:Int} (hq:0<q) (h:L*q<=u*v):(L:Rat)/(q:Rat)<=(u:Rat)/(q:Rat)*((v:Rat)/(q:Rat)):=by
 have q0:(0:Rat)<(q:Rat):=by exact_mod_cast hq
 have e1:=rdm (a:=(u:Rat)) q0;have e2:=rdm (a:=(v:Rat)) q0;have h1:=zZ h;rw[YG,YG] at h1;refine jV q0 ?_;generalize (u:Rat)/(q:Rat)=U at *;generalize (v:Rat)/(q:Rat)=V at *;rw[<- e1,<- e2] at h1;refine Rat.not_lt.1 λ hn=>?_
 have:=Rat.mul_pos (show 0<(L:Rat)-U*V*(q:Rat) by grind) q0
 grind
theorem zJ0 {L u v q:Int} (hq:0<q) (h:u*v<=L*q):(u:Rat)/(q:Rat)*((v:Rat)/(q:Rat))<=(L:Rat)/(q:Rat):=by
 have q0:(0:Rat)<(q:Rat):=by exact_mod_cast hq
 have e1:=rdm (a:=(u:Rat)) q0;have e2:=rdm (a:=(v:Rat)) q0;have h1:=zZ h;rw[YG,YG] at h1;refine jW q0 ?_;generalize (u:Rat)/(q:Rat)=U at *;generalize (v:Rat)/(q:Rat)=V at *;rw[<- e1,<- e2] at h1;refine Rat.not_lt.1 λ hn=>?_
 have:=Rat.mul_pos (show 0<U*V*(q:Rat)-(L:Rat) by grind) q0
 grind
theorem Iv.mul {B:Nat} {a b:Int × Int} {x y:Nat->Rat} (h:Iv B a x) (k:Iv B b y):Iv B (zAH B a b) (λ M=>x M*y M):=by
 have q0:0<Q B:=by have:=zE B;omega
 have l:=zEC (a.1*b.1) (a.1*b.2) (a.2*b.1) (a.2*b.2);have g:=zDB (a.1*b.1) (a.1*b.2) (a.2*b.1) (a.2*b.2);have fl:=zE4 (kJ (pr4 (a.1*b.1) (a.1*b.2) (a.2*b.1) (a.2*b.2)) 3) (Q B) q0;have ce:=zC6 (kA (pr4 (a.1*b.1) (a.1*b.2) (a.2*b.1) (a.2*b.2)) 3) (Q B) q0;exact Has.mul h k (zJ2 q0 (Int.le_trans fl l.1)) (zJ2 q0 (Int.le_trans fl l.2.1)) (zJ2 q0 (Int.le_trans fl l.2.2.1)) (zJ2 q0 (Int.le_trans fl l.2.2.2.1)) (zJ0 q0 (Int.le_trans g.1 ce)) (zJ0 q0 (Int.le_trans g.2.1 ce)) (zJ0 q0 (Int.le_trans g.2.2.1 ce)) (zJ0 q0 (Int.le_trans g.2.2.2.1 ce))
theorem zBR (a b c:Rat):(a+b)/c=a/c+b/c:=by rw[YK,YK,YK,Rat.add_mul]
theorem zIY (a b c:Rat):(a-b)/c=a/c-b/c:=by rw[Rat.sub_eq_add_neg,YK,Rat.add_mul,Rat.neg_mul,YK,YK,<- Rat.sub_eq_add_neg]
theorem Iv.add {B:Nat} {a b:Int × Int} {x y:Nat->Rat} (h:Iv B a x) (k:Iv B b y):Iv B (zB5 a b) (λ M=>x M+y M):=by
 have:=Has.add h k;rw[<- zBR,<- zBR,<- Rat.intCast_add,<- Rat.intCast_add] at this;exact this
theorem Iv.sub {B:Nat} {a b:Int × Int} {x y:Nat->Rat} (h:Iv B a x) (k:Iv B b y):Iv B (zI7 a b) (λ M=>x M-y M):=by
 have:=Has.sub h k;rw[<- zIY,<- zIY,<- Rat.intCast_sub,<- Rat.intCast_sub] at this;exact this
theorem Iv.times {B:Nat} {a:Int × Int} {x:Nat->Rat} (h:Iv B a x) (n:Nat):Iv B (kH a n) (λ M=>(n:Rat)*x M):=by
 have:=Has.scale h (c:=(n:Rat)) (by exact_mod_cast Nat.zero_le n)
 have e:∀ z:Int,(n:Rat)*((z:Rat)/(Q B:Rat))=((z*(n:Int):Int):Rat)/(Q B:Rat):=λ z=>by
  rw[YG,YK,YK,<- Rat.mul_assoc,Rat.mul_comm (n:Rat)];rfl
 rw[e,e] at this;exact this
theorem zRP {L u n d q:Int} (hd:0<d) (hq:0<q) (h:L*d<=u*n):(L:Rat)/(q:Rat)<=(n:Rat)/(d:Rat)*((u:Rat)/(q:Rat)):=by
 have q0:(0:Rat)<(q:Rat):=by exact_mod_cast hq
 have d0:(0:Rat)<(d:Rat):=by exact_mod_cast hd
 have e1:=rdm (a:=(u:Rat)) q0;have e2:=rdm (a:=(n:Rat)) d0;have h1:=zZ h;rw[YG,YG] at h1;refine jV q0 ?_;generalize (u:Rat)/(q:Rat)=U at *;generalize (n:Rat)/(d:Rat)=V at *;rw[<- e1,<- e2] at h1;refine Rat.not_lt.1 λ hn=>?_
 have:=Rat.mul_pos (show 0<(L:Rat)-V*U*(q:Rat) by grind) d0
 grind
theorem zRO {L u n d q:Int} (hd:0<d) (hq:0<q) (h:u*n<=L*d):(n:Rat)/(d:Rat)*((u:Rat)/(q:Rat))<=(L:Rat)/(q:Rat):=by
 have q0:(0:Rat)<(q:Rat):=by exact_mod_cast hq
 have d0:(0:Rat)<(d:Rat):=by exact_mod_cast hd
 have e1:=rdm (a:=(u:Rat)) q0;have e2:=rdm (a:=(n:Rat)) d0;have h1:=zZ h;rw[YG,YG] at h1;refine jW q0 ?_;generalize (u:Rat)/(q:Rat)=U at *;generalize (n:Rat)/(d:Rat)=V at *;rw[<- e1,<- e2] at h1;refine Rat.not_lt.1 λ hn=>?_
 have:=Rat.mul_pos (show 0<V*U*(q:Rat)-(L:Rat) by grind) d0
 grind
theorem Iv.scale {B:Nat} {a:Int × Int} {x:Nat->Rat} (h:Iv B a x) {n d:Int} (hn:0<=n) (hd:0<d):Iv B (zK a n d) (λ M=>(n:Rat)/(d:Rat)*x M):=by
 have q0:0<Q B:=by have:=zE B;omega
 have d0:(0:Rat)<(d:Rat):=by exact_mod_cast hd
 have n0:(0:Rat)<=(n:Rat):=by exact_mod_cast hn
 have c0:0<=(n:Rat)/(d:Rat):=jW d0 (by grind)
 exact (Has.scale h c0).mono (zRP hd q0 (zE4 (a.1*n) d hd)) (zRO hd q0 (zC6 (a.2*n) d hd))
theorem Iv.of (B:Nat) {n d:Int} (hd:0<d):Iv B (ofI n d B) (λ _=>(n:Rat)/(d:Rat)):=by
 have q0:0<Q B:=by have:=zE B;omega
 have qr:=jH B
 have e:(n:Rat)/(d:Rat)*((Q B:Rat)/(Q B:Rat))=(n:Rat)/(d:Rat):=by
  rw[YK (Q B:Rat),Rat.mul_inv_cancel _ (by grind),Rat.mul_one]
 have l:=zRP hd q0 (L:=(ofI n d B).1) (u:=Q B) (n:=n) (by rw[Int.mul_comm (Q B)];exact zE4 (n*Q B) d hd)
 have g:=zRO hd q0 (L:=(ofI n d B).2) (u:=Q B) (n:=n) (by rw[Int.mul_comm (Q B)];exact zC6 (n*Q B) d hd)
 rw[e] at l g;exact Has.const l g
theorem Iv.to {B m:Nat} {a:Int × Int} {x:Nat->Rat} (h:Iv (B+m) a x):Iv B (zG a m) x:=by
 have q:=jH B;have qm:=jH m;have e:(Q (B+m):Rat)=(Q B:Rat)*(Q m:Rat):=by rw[jF,YG]
 have f1:=zE4 a.1 (Q m) (by have:=zE m;omega)
 have f2:=zC6 a.2 (Q m) (by have:=zE m;omega)
 have q2:0<(Q B:Rat)*(Q m:Rat):=Rat.mul_pos q qm;unfold Iv at h;rw[e] at h;refine Has.mono h ?_ ?_
 ·have g:(((zG a m).1*Q m:Int):Rat)<=((a.1:Int):Rat):=zZ f1
  rw[YG] at g;refine jW q2 ?_;have ea:=rdm (a:=((zG a m).1:Rat)) q;generalize ((zG a m).1:Rat)/(Q B:Rat)=U at *;generalize ((zG a m).1:Rat)=L at *;rw[<- ea] at g;grind
 ·have g:((a.2:Int):Rat)<=(((zG a m).2*Q m:Int):Rat):=zZ f2
  rw[YG] at g;refine jV q2 ?_;have ea:=rdm (a:=((zG a m).2:Rat)) q;generalize ((zG a m).2:Rat)/(Q B:Rat)=U at *;generalize ((zG a m).2:Rat)=L at *;rw[<- ea] at g;grind
theorem Iv.down {B:Nat} {a:Int × Int} {x:Nat->Rat} (h:Iv B a x) (t:Nat):Iv B (zG a t) (λ M=>x M/(Q t:Rat)):=by
 have qt:0<Q t:=by have:=zE t;omega
 have:=h.scale (n:=1) (d:=Q t) (by omega) qt
 have e:zK a 1 (Q t)=zG a t:=by simp[zK,zG]
 rw[e] at this;refine Has.of_eq this λ M=>?_
 rw[YK,YK,Rat.mul_comm];simp
theorem Iv.touch {B C:Nat} {a b:Int × Int} {x:Nat->Rat} (h:Iv B a x) (k:Iv C b x):a.1*Q C<=b.2*Q B:=by
 have q:=jH B;have q':=jH C;have t:=Has.touch h k;have e1:=rdm (a:=(a.1:Rat)) q;have e2:=rdm (a:=(b.2:Rat)) q'
 have:((a.1*Q C:Int):Rat)<=((b.2*Q B:Int):Rat):=by
  rw[YG,YG];generalize (a.1:Rat)/(Q B:Rat)=U at *;generalize (b.2:Rat)/(Q C:Rat)=V at *;rw[<- e1,<- e2];have:=Yz (Yz (show 0<=V-U by grind) (YC q)) (YC q')
  grind
 exact_mod_cast this
theorem Iv.touch_le {B:Nat} {a b:Int × Int} {x y z:Nat->Rat} (h:Iv B a x) (k:Iv B b y) (hz:Null z) (N0:Nat) (K6:∀ M,N0<=M->x M<=y M+z M):a.1<=b.2:=by
 have q:=jH B;have t:=Has.touch_le h k hz N0 K6;have e1:=rdm (a:=(a.1:Rat)) q;have e2:=rdm (a:=(b.2:Rat)) q
 have:((a.1:Int):Rat)<=((b.2:Int):Rat):=by
  generalize (a.1:Rat)/(Q B:Rat)=U at *;generalize (b.2:Rat)/(Q B:Rat)=V at *;rw[<- e1,<- e2];have:=Yz (show 0<=V-U by grind) (YC q)
  grind
 exact_mod_cast this
theorem Iv.congr {B:Nat} {a:Int × Int} {x y:Nat->Rat} (h:Iv B a x) (k:Null (λ M=>y M-x M)):Iv B a y:=Has.congr h k
theorem zP3 {B s:Nat} (hs:s<=B) (n:Nat):Q (B-s*n)*Q (B-s)<=Q (B-s*(n+1))*Q B:=by
 rw[<- jF,<- jF];refine zJ ?_;rw[Nat.mul_add,Nat.mul_one];generalize s*n=k;omega
theorem zBN {p:Nat->Prop} {K:Nat} (h:p K):∃ N,N<=K/\p N/\∀ n,n<N->¬ p n:=by
 induction K using Nat.strongRecOn with
 | ind K ih =>
  by_cases hk:∃ m,m<K/\p m
  ·obtain⟨m,hm,hp⟩:=hk
   obtain⟨N,h1,h2⟩:=ih m hm hp;exact⟨N,by omega,h2⟩
  ·exact⟨K,YE _,h,λ n hn hp=>hk ⟨n,hn,hp⟩⟩
theorem zB3 {B s:Nat} {f:Nat->Int × Int} (hs:1<=s) (h:∀ n,Abs (f n) (Q (B-s*n))):∃ N,N<=B/s+1/\zU f N:=by
 have h1:zW (f (B/s+1))<=1:=by
  have:=zAD (h (B/s+1))
  have e:B-s*(B/s+1)=0:=by
   have:=Nat.lt_mul_div_succ B (show 0<s by omega)
   omega
  rw[e] at this;simp[Q] at this;exact this
 obtain⟨N,n1,n2,n3⟩:=zBN (p:=λ n=>zW (f n)<=1) h1
 exact⟨N,n1,n2,λ n hn=>by have:=n3 n hn;simp at this;omega⟩
theorem zJU {B s N n:Nat} {f:Nat->Int × Int} (hs:1<=s) (h:∀ n,Abs (f n) (Q (B-s*n))) (hN:zU f N) (hn:n<N):2*Q (B-s*(n+1))<=Q (B-s*n):=by
 have h1:=hN.2 n hn;have h2:=zAD (h n)
 have h3:1<=B-s*n:=by
  refine Nat.pos_of_ne_zero λ e=>?_
  rw[e] at h2;simp[Q] at h2;omega
 have e:2*Q (B-s*(n+1))=Q (B-s*(n+1)+1):=rfl;rw[e];refine zJ ?_;rw[Nat.mul_add,Nat.mul_one];generalize s*n=k at *;omega
theorem zFR {B s N:Nat} {f:Nat->Int × Int} (hs:1<=s) (h:∀ n,Abs (f n) (Q (B-s*n))) (hN:zU f N) (n:Nat) (hn:n<=N):Abs (jE f n) (2*Q B-Q (B-s*n)):=by
 induction n with
 | zero=>simp only[jE];exact (h 0).mono (by simp;omega)
 | succ n ih =>
  have h1:=(ih (by omega)).add (h (n+1))
  have h2:=zJU hs h hN (show n<N by omega)
  simp only[jE];exact h1.mono (by omega)
theorem sum_abs1 {B s N:Nat} {f:Nat->Int × Int} (hs:1<=s) (h:∀ n,Abs (f n) (Q (B-s*n))) (hN:zU f N) (n:Nat) (hn:n+1<=N):Abs (jE f (n+1)) (Q B+2*Q (B-s)-Q (B-s*(n+1))):=by
 induction n with
 | zero =>
  simp only[jE];have:=(h 0).add (h 1);refine this.mono ?_;simp;omega
 | succ n ih =>
  have h1:=(ih (by omega)).add (h (n+1+1))
  have h2:=zJU hs h hN (show n+1<N by omega)
  have e:jE f (n+1+1)=zB5 (jE f (n+1)) (f (n+1+1)):=rfl;rw[e];exact h1.mono (by omega)
theorem zAK {a:Int × Int} (h:a.1<=a.2):0<=zW a:=(zEG h).nonneg
theorem zF1 {B s N:Nat} {f:Nat->Int × Int} (hs:1<=s) (hle:∀ n,(f n).1<=(f n).2) (h:∀ n,Abs (f n) (Q (B-s*n))) (hN:zU f N):Abs (zN f N) (2*Q B):=by
 have h1:=zFR hs h hN N (YE _)
 have h2:Abs (-zW (f N),zW (f N)) (Q (B-s*N)):=by
  have:=zAD (h N);have:=zAK (hle N);exact⟨by simp;omega,by simp;omega,by simp;omega,by simp;omega⟩
 exact (h1.add h2).mono (by omega)
theorem zJN {B s N:Nat} {f:Nat->Int × Int} (hs:1<=s) (hle:∀ n,(f n).1<=(f n).2) (h:∀ n,Abs (f n) (Q (B-s*n))) (hN:zU f N) (Fk:1<=N):Abs (zN f N) (Q B+2*Q (B-s)):=by
 obtain⟨n,rfl⟩:∃ n,N=n+1:=⟨N-1,by omega⟩
 have h1:=sum_abs1 hs h hN n (YE _)
 have h2:Abs (-zW (f (n+1)),zW (f (n+1))) (Q (B-s*(n+1))):=by
  have:=zAD (h (n+1));have:=zAK (hle (n+1));exact⟨by simp;omega,by simp;omega,by simp;omega,by simp;omega⟩
 exact (h1.add h2).mono (by omega)
theorem zGL {f:Nat->Int × Int} (hle:∀ n,(f n).1<=(f n).2) (n:Nat):(jE f n).1<=(jE f n).2:=by
 induction n with
 | zero=>exact hle 0
 | succ n ih=>simp only[jE,zB5];have:=hle (n+1);omega
theorem zCN {f:Nat->Int × Int} (hle:∀ n,(f n).1<=(f n).2) (n:Nat):(zN f n).1<=(zN f n).2:=by
 have h1:=zGL hle n;have h2:=zAK (hle n);simp only[zN,zB5];omega
theorem zN7 {f:Nat->Int × Int} {W:Int} (hw:∀ n,(f n).2-(f n).1<=W) (n:Nat):(jE f n).2-(jE f n).1<=((n:Int)+1)*W:=by
 induction n with
 | zero=>simp only[jE];have:=hw 0;simp;omega
 | succ n ih =>
  simp only[jE,zB5];have:=hw (n+1)
  have e:(((n+1:Nat):Int)+1)*W=((n:Int)+1)*W+W:=by
   have:(((n+1:Nat):Int)+1)=((n:Int)+1)+1:=by omega
   rw[this,Int.add_mul,Int.one_mul]
  omega
theorem zB7 {f:Nat->Int × Int} {W:Int} {N:Nat} (hw:∀ n,(f n).2-(f n).1<=W) (hN:zU f N):(zN f N).2-(zN f N).1<=((N:Int)+1)*W+2:=by
 have h1:=zN7 hw N;have h2:=hN.1;simp only[zN,zB5];omega
theorem zP8 {g:Nat->Rat} {N:Nat} {b:Rat} (hb:AB (g N) b) (hh:∀ n c,N<=n->AB (g n) c->AB (g (n+1)) (c/2)) (i:Nat):AB (g (N+i)) (b*q2 i)/\AB (S g (N+1+i)-S g (N+1)) (b*(1-q2 i)):=by
 induction i with
 | zero=>simp only[Nat.add_zero,q2];exact⟨hb.mono (by grind),by constructor<;>grind⟩
 | succ i ih =>
  obtain⟨h1,h2⟩:=ih;have h3:=hh (N+i) _ (by omega) h1
  have e1:q2 (i+1)=q2 i/2:=rfl;have e2:S g (N+1+(i+1))=S g (N+1+i)+g (N+1+i):=rfl;have e3:N+1+i=N+(i+1):=by omega
  refine⟨h3.mono (by rw[e1];grind),?_⟩
  rw[e2,e1];have h4:=h2.add h3;rw[show N+i+1=N+1+i by omega] at h4
  have e4:S g (N+1+i)-S g (N+1)+g (N+1+i)=S g (N+1+i)+g (N+1+i)-S g (N+1):=by grind
  rw[e4] at h4;exact h4.mono (by grind)
theorem zHW {B N:Nat} {f:Nat->Int × Int} {g:Nat->Nat->Rat} (hle:∀ n,(f n).1<=(f n).2) (h:∀ n,n<=N->Iv B (f n) (λ M=>g n M)) (M0:Nat) (hh:∀ M,M0<=M->∀ n b,N<=n->AB (g n M) b->AB (g (n+1) M) (b/2)):Iv B (zN f N) (λ M=>S (λ k=>g k M) M):=by
 have h1:∀ n,n<=N->Iv B (jE f n) (λ M=>S (λ k=>g k M) (n+1)):=λ n hn=>by
  induction n with
  | zero=>exact Has.of_eq (h 0 (by omega)) λ M=>by simp only[S];grind
  | succ n ih=>exact Has.of_eq ((ih (by omega)).add (h (n+1) hn)) λ M=>by simp only[S]
 have h2:=h1 N (YE _)
 have h3:Iv B (-zW (f N),zW (f N)) (λ M=>S (λ k=>g k M) M-S (λ k=>g k M) (N+1)):=by
  have hr:=zEG (hle N);have q:=jH B;have k1:=h N (YE _)
  intro e he
  obtain⟨N1,k2⟩:=k1 e he;refine⟨N1+M0+N+1,λ M hM=>?_⟩
  obtain⟨a1,a2⟩:=k2 M (by omega)
  have l1:((-zW (f N):Int):Rat)/(Q B:Rat)<=((f N).1:Rat)/(Q B:Rat):=jV q (by rw[rdm q];exact zZ hr.1)
  have l2:((f N).2:Rat)/(Q B:Rat)<=((zW (f N):Int):Rat)/(Q B:Rat):=jV q (by rw[rdm q];exact zZ hr.2.2.2)
  have l3:((-zW (f N):Int):Rat)/(Q B:Rat) = -(((zW (f N):Int):Rat)/(Q B:Rat)):=by
   rw[Rat.intCast_neg,YK,YK,Rat.neg_mul]
  have hb:AB (g N M) (((zW (f N):Int):Rat)/(Q B:Rat)+e):=by constructor<;>grind
  obtain⟨i,rfl⟩:∃ i,M=N+1+i:=⟨M-(N+1),by omega⟩
  have s:=(zP8 (g:=λ k=>g k (N+1+i)) hb (λ n c hn hc=>hh _ (by omega) n c hn hc) i).2
  have p:=yC i;have nn:=hb.nonneg
  have s':=s.mono (b:=((zW (f N):Int):Rat)/(Q B:Rat)+e) (by
   have:=Yz nn (YC p)
   grind)
  obtain⟨s1,s2⟩:=s';simp only[];rw[l3];constructor<;>grind
 exact Has.of_eq (h2.add h3) λ M=>by grind
def zV (B:Nat) (sm:Int × Int):Nat->Int × Int
 | 0=>(Q B,Q B)
 | n+1=>zK (zAH B (zV B sm n) sm) 1 ((n:Int)+1)
theorem zAF (B:Nat) (sm:Int × Int) (n:Nat):(zV B sm n).1<=(zV B sm n).2:=by
 cases n with
 | zero=>exact Int.le_refl _
 | succ n=>exact kM (zBY B) (by omega) (by omega)
theorem zBO {B:Nat} {sm:Int × Int} (hB:8<=B) (hs:Abs sm (Q (B-8))) (n:Nat):Abs (zV B sm n) (Q (B-8*n)):=by
 induction n with
 | zero=>have:=zE B;exact⟨by simp[zV];omega,by simp[zV],by simp[zV];omega,by simp[zV]⟩
 | succ n ih=>exact zEX (zCT ih hs (zP3 hB n)) (by omega) (by omega) (by omega)
theorem zK7 {B:Nat} (hB:8<=B):Q B=256*Q (B-8):=by
 have:=jF 8 (B-8);rw[show 8+(B-8)=B by omega] at this
 rw[this];rfl
theorem zEA {B:Nat} {sm:Int × Int} {ws:Int} (hB:8<=B) (hs:Abs sm (Q (B-8))) (Y5:sm.1<=sm.2) (hw:sm.2-sm.1<=ws) (n:Nat):(zV B sm n).2-(zV B sm n).1<=2*ws+4:=by
 induction n with
 | zero=>simp only[zV];omega
 | succ n ih =>
  have q:=zE (B-8);have e:=zK7 hB;have m1:Q (B-8*n)<=Q B:=zJ (by omega)
  have p1:=Int.mul_le_mul m1 hw (by omega) (by omega)
  have p2:=YD ih (show 0<=Q (B-8) by omega)
  have hc:Q (B-8*n)*(sm.2-sm.1)+Q (B-8)*((zV B sm n).2-(zV B sm n).1)<=(ws+(2*ws+4+255)/256)*Q B:=by
   have e2:(ws+(2*ws+4+255)/256)*Q B=Q B*ws+Q (B-8)*(256*((2*ws+4+255)/256)):=by
    rw[Int.add_mul,Int.mul_comm ws];congr 1;rw[e];grind
   rw[e2];have:=YD (show 2*ws+4<=256*((2*ws+4+255)/256) by omega) (show 0<=Q (B-8) by omega)
   omega
  have h1:=zAU (zBO hB hs n) hs (zAF B sm n) Y5 hc;have hn:(0:Int)<(n:Int)+1:=by omega
  have hp:=YF (show 0<=ws+(2*ws+4+255)/256+1 by omega) (show 0<=(n:Int) by omega)
  have h2:=kI (a:=zAH B (zV B sm n) sm) (n:=1) (d:=(n:Int)+1) (c:=ws+(2*ws+4+255)/256+1) hn (by
   rw[Int.mul_one,Int.mul_add,Int.mul_one];omega)
  simp only[zV];omega
theorem expT_has {B:Nat} {sm:Int × Int} {x:Nat->Rat} (h:Iv B sm x) (n:Nat):Iv B (zV B sm n) (λ M=>tm (x M) n):=by
 induction n with
 | zero =>
  have q:=jH B;have e:(Q B:Rat)/(Q B:Rat)=1:=by rw[YK,Rat.mul_inv_cancel _ (by grind)]
  show Has ((Q B:Rat)/(Q B:Rat)) ((Q B:Rat)/(Q B:Rat)) _
  rw[e];exact Has.const (c:=1) Rat.le_refl Rat.le_refl
 | succ n ih =>
  have:=(ih.mul h).scale (n:=1) (d:=(n:Int)+1) (by omega) (by omega)
  refine Has.of_eq this λ M=>?_
  have e:(((n:Int)+1:Int):Rat)=(n:Rat)+1:=by rw[Rat.intCast_add];rfl
  rw[e];simp only[tm];have hp:=zAV n;rw[YK,YK];simp;grind
theorem tm_half {x b:Rat} (hx:AB x (1/2)) (n:Nat) (h:AB (tm x n) b):AB (tm x (n+1)) (b/2):=by
 have e:=kR x n;have hp:=zAV n;have g:=hx.mul h;rw[<- e] at g;have e3:tm x (n+1)=((n:Rat)+1)*tm x (n+1)/((n:Rat)+1):=by grind
 rw[e3];refine zDG hp (g.mono ?_);have hn:(0:Rat)<=(n:Rat):=by exact_mod_cast Nat.zero_le n
 have:=Yz hn h.nonneg;grind
theorem Iv.little {B:Nat} {a:Int × Int} {x:Nat->Rat} (h:Iv B a x) {m:Int} (ha:Abs a m) (hm:4*m<=Q B):∃ N,∀ M,N<=M->AB (x M) (1/2):=by
 have q:=jH B;obtain⟨N,h1⟩:=h (1/4) (by grind)
 refine⟨N,λ M hM=>?_⟩
 have:=h1 M hM
 have l1 : -(1/4:Rat)<=(a.1:Rat)/(Q B:Rat):=jW q (by
  have:((-(Q B):Int):Rat)<=((4*a.1:Int):Rat):=zZ (by have:=ha.1;omega)
  rw[Rat.intCast_neg,YG] at this;have e4:((4:Int):Rat)=4:=rfl;rw[e4] at this
  grind)
 have l2:(a.2:Rat)/(Q B:Rat)<=(1/4:Rat):=jV q (by
  have:((4*a.2:Int):Rat)<=((Q B:Int):Rat):=zZ (by have:=ha.2.2.2;omega)
  rw[YG] at this;have e4:((4:Int):Rat)=4:=rfl;rw[e4] at this
  grind)
 constructor<;>grind
theorem zDM {B N:Nat} {sm:Int × Int} {x:Nat->Rat} (hB:8<=B) (h:Iv B sm x) (hs:Abs sm (Q (B-8))):Iv B (zN (zV B sm) N) (Ev x):=by
 obtain⟨M0,h0⟩:=h.little hs (by have:=zK7 hB;have:=zE (B-8);omega)
 exact zHW (zAF B sm) (λ n _=>expT_has h n) M0 (λ M hM n b _ hb=>tm_half (h0 M hM) n hb)
def sqv (y:Nat->Rat):Nat->Nat->Rat
 | 0=>y
 | t+1=>λ M=>sqv y t M*sqv y t M
theorem sqI_has {B:Nat} {a:Int × Int} {y:Nat->Rat} (h:Iv B a y) (t:Nat):Iv B (sqI B a t) (sqv y t):=by
 induction t with
 | zero=>exact h
 | succ t ih=>exact ih.mul ih
theorem sqv_null {x:Nat->Rat} (h:Bdd x) (t:Nat):Null (λ M=>sqv (Ev x) t M-Ev (λ M=>(Q t:Rat)*x M) M):=by
 have hb:∀ t,Bdd (λ M=>(Q t:Rat)*x M):=λ t=>(Bdd.const _).mul h
 induction t with
 | zero =>
  have e:(λ M=>(Q 0:Rat)*x M)=x:=funext λ M=>by simp[Q]
  rw[e];exact null_zero.of_eq λ M=>by simp only[sqv];grind
 | succ t ih =>
  have b1:=zAC (hb t);have b2:Bdd (sqv (Ev x) t):=b1.of_null (ih.neg.of_eq λ M=>by grind)
  have n1:=ih.bmul (b1.add b2);have n2:=zAI (hb t) (hb t)
  have e:(λ M=>(Q t:Rat)*x M+(Q t:Rat)*x M)=λ M=>(Q (t+1):Rat)*x M:=funext λ M=>by
   have:(Q (t+1):Rat)=2*(Q t:Rat):=by
    have:Q (t+1)=2*Q t:=rfl;rw[this,YG];rfl
   rw[this];grind
  rw[e] at n2;refine (n1.add n2).of_eq λ M=>?_
  simp only[sqv];grind
theorem zES {B N t:Nat} {a:Int × Int} {x:Nat->Rat} (hB:8<=B) (h:Iv B a x) (hs:Abs (zG a t) (Q (B-8))):Iv B (sqI B (zN (zV B (zG a t)) N) t) (Ev x):=by
 have hx:=Has.bdd h;have h1:=sqI_has (zDM (N:=N) hB (h.down t) hs) t;have hb:Bdd (λ M=>x M/(Q t:Rat)):=Has.bdd (h.down t)
 have n1:=sqv_null hb t;have q:=jH t
 have e:(λ M=>(Q t:Rat)*(x M/(Q t:Rat)))=x:=funext λ M=>by
  rw[Rat.mul_comm];exact rdm q
 rw[e] at n1;exact h1.congr (n1.neg.of_eq λ M=>by grind)
def eb (i:Nat):Nat:=if i<=10 then 12 else 12*2 ^ (i-10)
def cI:Nat->Int
 | 0=>66048
 | i+1=>cI i*cI i/65536+1
theorem Q_16 {B:Nat} (hB:16<=B):Q B=65536*Q (B-16)/\Q (B-8)=256*Q (B-16):=by
 have h1:=jF 16 (B-16);have h2:=jF 8 (B-16);rw[show 16+(B-16)=B by omega] at h1
 rw[show 8+(B-16)=B-8 by omega] at h2
 exact⟨by rw[h1];rfl,by rw[h2];rfl⟩
theorem zTT {B:Nat} {d:Int × Int} (hB:16<=B) (h:Abs d (Q B+2*Q (B-8))) (i:Nat):Abs (sqI B d i) (cI i*Q (B-16)):=by
 obtain⟨e1,e2⟩:=Q_16 hB
 induction i with
 | zero=>exact h.mono (by simp only[cI];omega)
 | succ i ih =>
  refine zCT ih ih ?_;rw[e1];have q:=zE (B-16);have h1:cI i*cI i<=cI (i+1)*65536:=by simp only[cI];omega
  have h2:=YF (show 0<=Q (B-16) by omega) (show 0<=Q (B-16) by omega)
  have h3:=YA h1 h2;generalize Q (B-16)=r at *;have e3:cI i*r*(cI i*r)=cI i*cI i*(r*r):=by grind
  have e4:cI (i+1)*r*(65536*r)=cI (i+1)*65536*(r*r):=by grind
  rw[e3,e4];exact h3
theorem cI_le:∀ i,i<11->cI i<=268435456:=by decide
theorem zTS {B:Nat} {d:Int × Int} (hB:16<=B) (h:Abs d (Q B+2*Q (B-8))) (i:Nat):Abs (sqI B d i) (Q (B+eb i)):=by
 by_cases hi:i<=10
 ·refine (zTT hB h i).mono ?_
  have e:eb i=12:=by simp[eb,hi]
  have e2:Q (B+12)=268435456*Q (B-16):=by
   have:=jF 28 (B-16);rw[show 28+(B-16)=B+12 by omega] at this
   rw[this];rfl
  rw[e,e2];exact YA (cI_le i (by omega)) (by have:=zE (B-16);omega)
 ·obtain⟨j,rfl⟩:∃ j,i=10+j:=⟨i-10,by omega⟩
  clear hi
  have key:Abs (sqI B d (10+j)) (Q (B+12*2 ^ j)):=by
   induction j with
   | zero =>
    refine (zTT hB h 10).mono ?_
    have e2:Q (B+12*2 ^ 0)=268435456*Q (B-16):=by
     have:=jF 28 (B-16);rw[show 28+(B-16)=B+12*2 ^ 0 by omega] at this
     rw[this];rfl
    rw[e2];exact YA (cI_le 10 (by omega)) (by have:=zE (B-16);omega)
   | succ j ih =>
    refine zCT ih ih ?_;rw[<- jF,<- jF];refine zJ ?_;rw[Nat.pow_succ];omega
  by_cases hj:j=0
  ·subst hj;exact key
  ·have:eb (10+j)=12*2 ^ j:=by
    unfold eb;rw[if_neg (by omega)];congr 2;omega
   rw[this];exact key
def wb:Nat->Nat
 | 0=>0
 | i+1=>wb i+eb i+2
theorem sq_wide {B:Nat} {d:Int × Int} (hB:16<=B) (h:Abs d (Q B+2*Q (B-8))) (hd:d.1<=d.2) (i:Nat):(sqI B d i).1<=(sqI B d i).2/\(sqI B d i).2-(sqI B d i).1+1<=(d.2-d.1+1)*Q (wb i):=by
 induction i with
 | zero=>simp only[sqI,wb,Q];omega
 | succ i ih =>
  obtain⟨h1,h2⟩:=ih;refine⟨zBY B,?_⟩;have ha:=zTS hB h i;obtain⟨W,hW⟩:∃ W,W=(sqI B d i).2-(sqI B d i).1:=⟨_,rfl⟩;rw[<- hW] at h2
  have h3:=zAU (B:=B) (c:=2*Q (eb i)*W) ha ha h1 h1 (by
   rw[<- hW,jF];generalize Q B=q;generalize Q (eb i)=r;have:q*r*W+q*r*W=2*r*W*q:=by grind
   omega)
  have e:Q (wb (i+1))=Q (wb i)*(4*Q (eb i)):=by
   have:wb (i+1)=wb i+(eb i+2):=by simp only[wb];omega
   rw[this,jF]
   congr 1
   have:=jF (eb i) 2;rw[this,Int.mul_comm];rfl
  rw[e];have q1:=zE (eb i);have p:=YA h2 (show 0<=4*Q (eb i) by omega)
  rw[<- Int.mul_assoc];refine Int.le_trans ?_ p;have w0:0<=W:=by omega
  have p2:=YF w0 (show 0<=Q (eb i) by omega)
  show (zAH B (sqI B d i) (sqI B d i)).2-(zAH B (sqI B d i) (sqI B d i)).1+1<=_
  have e5:(W+1)*(4*Q (eb i))=4*(W*Q (eb i))+4*Q (eb i):=by grind
  have e6:2*Q (eb i)*W=2*(W*Q (eb i)):=by grind
  rw[e5];rw[e6] at h3;omega
theorem zBW {i j:Nat} (h:i<=j):eb i<=eb j:=by
 unfold eb;split
 ·split
  ·omega
  ·have:=Nat.pow_le_pow_right (show 0<2 by omega) (show 0<=j-10 by omega);simp at this;omega
 ·split
  ·omega
  ·have:=Nat.pow_le_pow_right (show 0<2 by omega) (show i-10<=j-10 by omega);omega
theorem zUH {i j:Nat} (h:i<=j):wb i<=wb j:=by
 obtain⟨d,rfl⟩:∃ d,j=i+d:=⟨j-i,by omega⟩
 clear h
 induction d with
 | zero=>exact YE _
 | succ d ih=>show wb i<=wb (i+d)+eb (i+d)+2;omega
theorem zB9 {B N t:Nat} {a:Int × Int} {ws:Int} (hB:16<=B) (hs:Abs (zG a t) (Q (B-8))) (ha:a.1<=a.2) (hw:a.2-a.1<=ws*Q t) (hN:zU (zV B (zG a t)) N) :
  (sqI B (zN (zV B (zG a t)) N) t).1<=(sqI B (zN (zV B (zG a t)) N) t).2/\Abs (sqI B (zN (zV B (zG a t)) N) t) (Q (B+eb t))/\N<=B/8+1 /\
  (sqI B (zN (zV B (zG a t)) N) t).2-(sqI B (zN (zV B (zG a t)) N) t).1<=(((N:Int)+1)*(2*ws+6)+3)*Q (wb t):=by
 have q:=zE t
 have Y5:(zG a t).1<=(zG a t).2:=by
  have:=kM (a:=a) (n:=1) (d:=Q t) ha (by omega) (by omega)
  simpa [zK,zG] using this
 have T8:(zG a t).2-(zG a t).1<=ws+1:=zBM (by omega) hw
 have hT:=zBO (by omega) hs
 have Fk:1<=N:=by
  refine Nat.pos_of_ne_zero λ e=>?_
  have:=hN.1;rw[e] at this
  have h2:zW (zV B (zG a t) 0)=Q B:=by
   show zFK (Q B) (-Q B)=Q B
   have:=zE B;unfold zFK;rw[if_neg (by omega)]
  rw[h2] at this;have:=zJ hB;have:Q 16=65536:=rfl;omega
 have hd:=zJN (s:=8) (by omega) (zAF B (zG a t)) hT hN Fk
 have Al:=zCN (zAF B (zG a t)) N;have QJ:=zB7 (zEA (by omega) hs Y5 T8) hN
 obtain⟨g1,g2⟩:=sq_wide hB hd Al t
 have hle:N<=B/8+1:=by
  obtain⟨N',n1,n2⟩:=zB3 (s:=8) (by omega) hT
  refine Nat.le_trans (Nat.not_lt.1 λ D5=>?_) n1
  have:=hN.2 N' D5;have:=n2.1;omega
 refine⟨g1,zTS hB hd t,hle,?_⟩;have q2:=zE (wb t);have e:2*(ws+1)+4=2*ws+6:=by omega
 rw[e] at QJ;have:=YA (show (zN (zV B (zG a t)) N).2-(zN (zV B (zG a t)) N).1+1<=((N:Int)+1)*(2*ws+6)+3 by omega) (show 0<=Q (wb t) by omega)
 omega
open Go.RowKit
attribute [local go_sem ↓] Go.wp_at_zero Go.wp_at_succ
theorem zD7 (x:Int) (b:Nat):zAZ x (b:Int)=x/Q b:=by unfold zAZ;rw[if_pos (by omega)];simp
theorem zJ1 (w:World) (s t:Sp) (k b:Nat) (a c:Int × Int) (hs:SpAt w s k a.1 a.2) (ht:SpAt w t k c.1 c.2) (hk:k<=300000000) (hb:s.bits=(b:Int)) (pR:b<=1000000) :
  Calls Tryz.prog 124 #[.agg s.q,.agg t.q] w (zH w b (k+k+8) (zAH b a c).1 (zAH b a c).2) :=
 (zMH w s t k a.1 a.2 c.1 c.2 hs ht hk (by omega) (by omega)).mono λ r w' h=>by
  rw[hb,zD7,zD7] at h;exact h
theorem zCZ (w:World) (s t:Sp) (k b:Nat) (a c:Int × Int) (hs:SpAt w s k a.1 a.2) (ht:SpAt w t k c.1 c.2) (hk:k<=700000000) (hb:s.bits=(b:Int)) :
  Calls Tryz.prog 51 #[.agg s.q,.agg t.q] w (zH w b (k+1) (zB5 a c).1 (zB5 a c).2) :=
 (zGO w s t k a.1 a.2 c.1 c.2 hs ht hk).mono λ r w' h=>by rw[hb] at h;exact h
theorem zHJ (w:World) (s t:Sp) (k b:Nat) (a c:Int × Int) (hs:SpAt w s k a.1 a.2) (ht:SpAt w t k c.1 c.2) (hk:k<=600000000) (hb:s.bits=(b:Int)) :
  Calls Tryz.prog 92 #[.agg s.q,.agg t.q] w (zH w b (k+1) (zI7 a c).1 (zI7 a c).2) :=
 (zMI w s t k a.1 a.2 c.1 c.2 hs ht hk).mono λ r w' h=>by rw[hb] at h;exact h
theorem zIT (w:World) (s:Sp) (k b:Nat) (d:Int) (a:Int × Int) (hs:SpAt w s k a.1 a.2) (hk:k<=300000000) (hb:s.bits=(b:Int)) (hd:0<d) (oz:d<=9223372036854775807) :
  Calls Tryz.prog 123 #[.agg s.q,.int .i64 d] w (zH w b (k+14) (zK a 1 d).1 (zK a 1 d).2) :=
 (zS3 w s k d a.1 a.2 hs hk hd oz).mono λ r w' h=>by rw[hb] at h;exact h
theorem zDO (w:World) (s:Sp) (k b:Nat) (d:Int) (a:Int × Int) (hs:SpAt w s k a.1 a.2) (hk:k<=300000000) (hb:s.bits=(b:Int)) (hd : -9223372036854775808<=d) (oz:d<=9223372036854775807) :
  Calls Tryz.prog 156 #[.agg s.q,.int .i64 d] w (zH w b (k+4) (kH a d).1 (kH a d).2) :=
 (zT3 w s k d a.1 a.2 hs hk hd oz).mono λ r w' h=>by rw[hb] at h;exact h
theorem exp1_iv (w:World) (B0:Nat) (s u:Sp) (k b:Nat) (n:Int) (a c:Int × Int) (hs:SpAt w s k a.1 a.2) (hu:SpAt w u k c.1 c.2) (hU:SpC w B0 u) (hk:k<=100000000) (hb:s.bits=(b:Int)) (pR:b<=1000000) (hn:0<n) (aR:n<=9223372036854775807) :
  Calls Tryz.prog 122 #[.agg s.q,.int .i64 n,.pointer (some ⟨B0,0,none⟩)] w (zH w b (k+k+22) (zK (zAH b a c) 1 n).1 (zK (zAH b a c) 1 n).2):=by
 obtain⟨W,hW⟩:∃ W,W=(w.alloc (.cells s.q 31)).alloc (.cells zCq 31):=⟨_,rfl⟩;have j7:Below w.heap.size w W:=by rw[hW];exact bl2 _ _ _
 have A:SpC W w.heap.size s:=by rw[hW];constructor<;>simp[go_sem]
 have R:NoC W (w.heap.size+1):=by rw[hW];constructor<;>simp[go_sem]
 have HS:=zC (hs.bw j7);have HU:=zC (hu.bw j7);have l0:=hU.lt;obtain⟨y0,y1,y2,y3,y4⟩:=hU;have HB:=zC hb;clear hs hu hb A
 go_enter Tryz.func122,Tryz.ntmps122
 go_wp2_with fail;rw[<- hW];clear hW;refine (zJ1 _ s u k b a c (zA HS) (zA HU) (by omega) (zA HB) pR).mono ?_
 rintro r' w1 ⟨v,rfl,K3,J7,b9⟩;have HV:=zC K3;clear K3 y0 y1 y2 y3 y4;replace R:=R.bw b9;replace j7:=zB j7 b9;go_wp2_with fail;refine (zIT _ v _ b n _ J7 (by omega) (zA HV) hn aR).mono ?_
 rintro r' w2 ⟨t,rfl,I8,P1,j8⟩;obtain⟨q0,q1,q2,q3,q4,q5⟩:=R.bw j8;replace j7:=zB j7 j8;have HT:=zC I8;clear I8;go_wp2_with fail;refine bodyPost_ret (v:=.agg t.q) (by simp[results,Tryz.results122,go_sem,q0,q1,q2,q3,q4]) rfl ⟨t,rfl,zA HT,?_,?_⟩
 ·exact SpAt.put5 (P1.mono (by omega)) q0 q1 q2 q3 q4 _ _ _ _ _
 ·exact jY j7 (Nat.le_succ _) _ _ _ _ _
structure VrC (w:World) (B:Nat) (s:Sp):Prop where
 c:SpC w B s
 fz:∀ o,w.frozen? ⟨B,o,none⟩=false
theorem VrC.lt {w:World} {B:Nat} {s:Sp} (h:VrC w B s):B<w.heap.size:=h.c.lt
theorem VrC.bw {w w':World} {B:Nat} {s:Sp} (h:VrC w B s) (hb:Below w.heap.size w w'):VrC w' B s :=
 ⟨h.c.bw hb,λ o=>(hb.frozen (p:=⟨B,o,none⟩) h.lt).trans (h.fz o)⟩
abbrev yW (w:World) (B:Nat) (u:Sp):World:=((((w.setCell ⟨B,0,none⟩ (.bool u.ln)).setCell ⟨B,1,none⟩ (.slice u.la u.lN u.lc)).setCell ⟨B,2,none⟩ (.bool u.hn)).setCell ⟨B,3,none⟩ (.slice u.ha u.hN u.hc)).setCell ⟨B,4,none⟩ (.int .i64 u.bits)
theorem zLQ {w:World} {B B':Nat} (h:∀ o,w.frozen? ⟨B,o,none⟩=false) (u:Sp):∀ o,(yW w B' u).frozen? ⟨B,o,none⟩=false:=λ o=>by
 show (yW w B' u).frozen? ⟨B,o,none⟩=false
 unfold yW;rw[zS,zS,zS,zS,zS];exact h o
theorem VrC.put {w:World} {B:Nat} {s:Sp} (h:VrC w B s) (u:Sp):VrC (yW w B u) B u:=by
 refine⟨?_,zLQ h.fz u⟩;obtain⟨⟨q0,q1,q2,q3,q4⟩,q5⟩:=h;constructor<;>simp[go_sem,q0,q1,q2,q3,q4]
theorem SpC.off {w:World} {B B':Nat} {s:Sp} (h:SpC w B s) (hne:B≠B') (u:Sp):SpC (yW w B' u) B s:=h.put hne _ _ _ _ _
theorem VrC.off {w:World} {B B':Nat} {s:Sp} (h:VrC w B s) (hne:B≠B') (u:Sp):VrC (yW w B' u) B s:=⟨h.c.off hne u,zLQ h.fz u⟩
theorem NoC.off {w:World} {B B':Nat} (h:NoC w B) (hne:B≠B') (u:Sp):NoC (yW w B' u) B:=by
 obtain⟨q0,q1,q2,q3,q4,q5⟩:=h;exact⟨yV q0 hne _ _ _ _ _,yV q1 hne _ _ _ _ _,yV q2 hne _ _ _ _ _,yV q3 hne _ _ _ _ _,yV q4 hne _ _ _ _ _,zLQ q5 u⟩
theorem SpAt.put {w:World} {s:Sp} {k:Nat} {lo hi:Int} (h:SpAt w s k lo hi) {B:Nat} {z:Sp} (hB:SpC w B z) (u:Sp):SpAt (yW w B u) s k lo hi:=SpAt.put5 h hB.c0 hB.c1 hB.c2 hB.c3 hB.c4 _ _ _ _ _
theorem zAR {B B':Nat} {a w:World} (h:Below B a w) (hB:B<=B') (u:Sp):Below B a (yW w B' u):=jY h hB _ _ _ _ _
def TwoS (W wx:World) (s t:Sp) (p q:Value):Prop :=
 ∃ B B',p=.pointer (some ⟨B,0,none⟩)/\q=.pointer (some ⟨B',0,none⟩)/\W.heap.size<=B/\W.heap.size<=B'/\B≠B'/\VrC wx B s/\VrC wx B' t/\Below W.heap.size W wx
theorem zT4 (V:World) (s t:Sp) (T:TypeId):TwoS V ((V.alloc (.cells s.q T)).alloc (.cells t.q T)).drew s t (.pointer (some ⟨V.heap.size,0,none⟩)) (.pointer (some ⟨V.heap.size+1,0,none⟩)):=by
 refine⟨_,_,rfl,rfl,YE _,Nat.le_succ _,YJ (Nat.lt_succ_self _),VrC.bw (w:=(V.alloc (.cells s.q T)).alloc (.cells t.q T)) ⟨⟨by simp[go_sem],by simp[go_sem],by simp[go_sem],by simp[go_sem],by simp[go_sem]⟩,λ o=>by simp[go_sem]⟩ (Below.refl _ _).drew,VrC.bw (w:=(V.alloc (.cells s.q T)).alloc (.cells t.q T)) ⟨⟨by simp[go_sem],by simp[go_sem],by simp[go_sem],by simp[go_sem],by simp[go_sem]⟩,λ o=>by simp[go_sem]⟩ (Below.refl _ _).drew,(bl2 _ _ _).drew⟩
theorem twoS_b (V:World) (s t:Sp) (T:TypeId):TwoS V ((V.alloc (.cells t.q T)).alloc (.cells s.q T)).drew s t (.pointer (some ⟨V.heap.size+1,0,none⟩)) (.pointer (some ⟨V.heap.size,0,none⟩)):=by
 obtain⟨B,B',h1,h2,h3,h4,h5,h6,h7,h8⟩:=zT4 V t s T;exact⟨B',B,h2,h1,h4,h3,λ e=>h5 e.symm,h7,h6,h8⟩
structure SumSt (W wr:World) (B5 B6 b K:Nat) (s X Y:Sp) (f:Nat->Int × Int) (i:Nat):Prop where
 x:VrC wr B5 X
 y:VrC wr B6 Y
 xp:SpAt wr X K (jE f i).1 (jE f i).2
 yp:SpAt wr Y K (f i).1 (f i).2
 xb:X.bits=(b:Int)
 yb:Y.bits=(b:Int)
 fs:SpC wr W.heap.size s
 no:NoC wr (W.heap.size+1)
 be:Below W.heap.size W wr
 l5:W.heap.size+1<B5
 l6:W.heap.size+1<B6
 ne:B5≠B6
theorem SumSt.bw {W wr wr':World} {B5 B6 b K:Nat} {s X Y:Sp} {f:Nat->Int × Int} {i:Nat} (h:SumSt W wr B5 B6 b K s X Y f i) (hb:Below wr.heap.size wr wr'):SumSt W wr' B5 B6 b K s X Y f i :=
 ⟨h.x.bw hb,h.y.bw hb,h.xp.bw hb,h.yp.bw hb,h.xb,h.yb,h.fs.bw hb,h.no.bw hb,zB h.be hb,h.l5,h.l6,h.ne⟩
theorem zL9 (ff:Nat) (cs:Array Value) (JM:∀ (args:Array Value) (w:World),(callFunc ff args).run Tryz.prog w=.ok (.enter ff args) w) (f:Nat->Int × Int) (N b K KF:Nat) (s:Sp) (W:World) (hs:SpAt W s K (f 0).1 (f 0).2) (hbits:s.bits=(b:Int)) (hb:b<=1000000) (hK:K<=100000000) (XR:KF<=900000000) (hN:zU f N) (Af:N<=1000000000)
  (hle:∀ n,(f n).1<=(f n).2) (Z3:∀ n,n<=N -> -P K<(f n).1/\(f n).2<P K) (hfitS:∀ n,n<=N -> -P K<(jE f n).1/\(jE f n).2<P K)
  (hF:∀ (n:Nat) (u:Sp) w',n<N->u.bits=(b:Int)->SpAt w' u K (f n).1 (f n).2->Below W.heap.size W w'->Calls Tryz.prog ff (#[.agg u.q,.int .i64 ((n:Int)+1)] ++ cs) w' (zH w' b KF (f (n+1)).1 (f (n+1)).2)) :
  Calls Tryz.prog 121 #[.agg s.q,.func (.func ff) #[] cs] W (zH W b (K+3) (zN f N).1 (zN f N).2):=by
 have HF:=zC hF;have HN:=zC hN;have fY:=zC hbits;clear hF hN hbits;obtain⟨V,hV⟩:∃ V,V=(W.alloc (.cells s.q 31)).alloc (.cells zCq 31):=⟨_,rfl⟩;have nb:Below W.heap.size W V:=by rw[hV];exact bl2 _ _ _
 have A:SpC V W.heap.size s:=by rw[hV];constructor<;>simp[go_sem]
 have R:NoC V (W.heap.size+1):=by rw[hV];constructor<;>simp[go_sem]
 have HS:=zC (hs.bw nb);have lA:=A.lt;have lR:=R.lt;clear hs
 go_enter Tryz.func121,Tryz.ntmps121
 go_wp2;rw[<- hV];clear hV
 go_cut [5,6] (λ p q wx=>TwoS V wx s s p q)
 case first =>
  obtain⟨x0,x1,x2,x3,x4⟩:=A
  go_region
  all_goals
   go_wp2_with fail;go_meet
   first
    | with_reducible exact zT4 _ _ _ _
    | with_reducible exact twoS_b _ _ _ _
 case rest =>
 obtain⟨B5,B6,rfl,rfl,l5,l6,hne,X,Y,hB⟩:=hcut;have n5:W.heap.size+1<B5:=by omega
 have n6:W.heap.size+1<B6:=by omega
 have mJ:SumSt W wc B5 B6 b K s s s f 0:=⟨X,Y,(zA HS).bw hB,(zA HS).bw hB,zA fY,zA fY,A.bw hB,R.bw hB,zB nb hB,n5,n6,hne⟩;clear X Y hB A R HS l5 l6 n5 n6 hne nb lA lR;go_wp2_with fail
 go_loopw [7] (λ nn wr=>∃ (i:Nat) (X Y:Sp),nn=.int .i64 ((i:Int)+1)/\i<=N/\SumSt W wr B5 B6 b K s X Y f i) (λ nn _=>N+1-(intOf nn).toNat)
 case atStart=>exact⟨0,s,s,rfl,Nat.zero_le _,mJ⟩
 case round =>
  obtain⟨i,X,Y,rfl,hi,st⟩:=hrel;have iw:=zAK (hle i);obtain⟨⟨y0,y1,y2,y3,y4⟩,y5⟩:=st.y;go_wp2_with fail;refine (zEH _ Y K _ _ st.yp (by omega)).mono ?_
  rintro r w1 ⟨m7,a1,n1,c1,rfl,o8,b9⟩;replace st:=st.bw b9;clear b9 y0 y1 y2 y3 y4 y5;go_wp2_with fail;refine (zD1 _ _ _ _ _ (zW (f i)) _ o8 iw).mono ?_;rintro r w2 ⟨l,hlen,rfl,j8⟩;replace st:=st.bw j8;clear j8 o8
  by_cases I7:i<N
  ·have hl:1<l:=by
    refine Int.not_le.1 λ hl=>?_
    have:=zR4 hlen hl iw;have:=(zA HN).2 i I7;omega
   clear hlen;obtain⟨⟨y0,y1,y2,y3,y4⟩,y5⟩:=st.y;go_wp2_with fail;refine (zA HF i Y _ I7 st.yb st.yp st.be).mono ?_;rintro r w3 ⟨u,rfl,B8,B7,m9⟩;replace st:=st.bw m9;replace B7:=B7.fits (K:=K) (hle _) (Z3 _ (by omega)).1 (Z3 _ (by omega)).2
   have HU:=zC B8;clear m9 y0 y1 y2 y3 y4 y5 B8;obtain⟨V3,I6⟩:∃ V3,V3=yW w3 B6 u:=⟨_,rfl⟩;have X3:VrC V3 B5 X:=by rw[I6];exact st.x.off st.ne u
   have Y3:VrC V3 B6 u:=by rw[I6];exact st.y.put u
   have P3:SpAt V3 X K (jE f i).1 (jE f i).2:=by rw[I6];exact st.xp.put st.y.c u
   have U3:SpAt V3 u K (f (i+1)).1 (f (i+1)).2:=by rw[I6];exact B7.put st.y.c u
   have F3:SpC V3 W.heap.size s:=by rw[I6];exact st.fs.off (by have:=st.l6;omega) u
   have R3:NoC V3 (W.heap.size+1):=by rw[I6];exact st.no.off (by have:=st.l6;omega) u
   have B3:Below W.heap.size W V3:=by rw[I6];exact zAR st.be (by have:=st.l6;omega) u
   have xb:=zC st.xb;have l5:=st.l5;have l6:=st.l6;have hne:=st.ne;have lY:=st.y.lt;have lX:=st.x.lt;obtain⟨⟨y0,y1,y2,y3,y4⟩,y5⟩:=st.y;obtain⟨⟨x0,x1,x2,x3,x4⟩,x5⟩:=st.x;clear st B7;go_wp2_with fail;have Q3:V3=yW w3 B6 u:=I6;unfold yW at Q3;rw[<- Q3];clear Q3 y0 y1 y2 y3 y4 y5 x0 x1 x2 x3 x4 x5;have FW:B5<V3.heap.size:=X3.lt;refine (zCZ _ X u K b (jE f i) (f (i+1)) P3 U3 (by omega) (zA xb)).mono ?_
   rintro r w4 ⟨v,rfl,K3,J7,y9⟩;have X4:=X3.bw y9;have Y4:=Y3.bw y9;have U4:=U3.bw y9;have F4:=F3.bw y9;have R4:=R3.bw y9;have B4:=zB B3 y9;have e:zB5 (jE f i) (f (i+1))=jE f (i+1):=rfl;rw[e] at J7;replace J7:=J7.fits (K:=K) (zGL hle _) (hfitS _ (by omega)).1 (hfitS _ (by omega)).2
   have HV:=zC K3;clear y9 K3 X3 Y3 P3 U3 F3 R3 B3 I6;have stn:SumSt W (yW w4 B5 v) B5 B6 b K s v u f (i+1):=⟨X4.put v,Y4.off (Ne.symm hne) v,J7.put X4.c v,U4.put X4.c v,zA HV,zA HU,F4.off (by omega) v,R4.off (by omega) v,zAR B4 (by omega) v,l5,l6,hne⟩
   unfold yW at stn;obtain⟨⟨x0,x1,x2,x3,x4⟩,x5⟩:=X4;go_wp2_with fail
   go_roundw
   case rel=>exact⟨i+1,v,u,by go_num,by omega,stn⟩
   case measure=>simp[intOf];omega
  ·have gH:i=N:=by omega
   subst gH
   have hl:¬ 1<l:=by
    have h1:=(zA HN).1
    intro hl
    obtain⟨g1,g2,g3⟩:=hlen
    by_cases hp:0<zW (f i)
    ·obtain⟨L,e1,e2,e3⟩:=g3 hp
     have:1<=L:=by omega
     have:=zJ this;have:Q 1=2:=rfl;omega
    ·have:=g2 (by omega);omega
   clear hlen;obtain⟨⟨y0,y1,y2,y3,y4⟩,y5⟩:=st.y;go_wp2_with fail;refine (zEH _ Y K _ _ st.yp (by omega)).mono ?_
   rintro r w3 ⟨A7,a3,n3,c3,rfl,E5,m9⟩;replace st:=st.bw m9;clear m9 y0 y1 y2 y3 y4 y5;obtain⟨V3,I6⟩:∃ V3,V3=w3.alloc (.cells #[.bool A7,.slice a3 n3 c3] 29):=⟨_,rfl⟩;have bV:Below w3.heap.size w3 V3:=by rw[I6];exact bl1 _ _
   have L3:NmC V3 w3.heap.size ⟨A7,a3,n3,c3⟩:=by rw[I6];exact zBZ w3 ⟨A7,a3,n3,c3⟩ _
   have W3:=st.bw bV;have HI:=zC (E5.bw bV);have l5:=st.l5;have lX:=st.x.lt;have Z6:=zC (show ∀ w',Below V3.heap.size V3 w'->(cK w' B5 X (w'.cell? ⟨w3.heap.size,0,none⟩=some (.bool A7)/\w'.cell? ⟨w3.heap.size,1,none⟩=some (.slice a3 n3 c3)/\w'.cell? ⟨W.heap.size,4,none⟩=some (.int .i64 s.bits))) from λ w' hB=>⟨(W3.x.c.bw hB).c0,(W3.x.c.bw hB).c1,(W3.x.c.bw hB).c2,(W3.x.c.bw hB).c3,(W3.x.c.bw hB).c4,(L3.bw hB).c0,(L3.bw hB).c1,(W3.fs.bw hB).c4⟩)
   have lL:=L3.lt;have R3:=W3.no;have gQ:=R3.lt;clear st L3 E5;go_wp2_with fail;rw[<- I6];clear I6;obtain⟨x0,x1,x2,x3,x4,x5,x6,x7⟩:=zA Z6 _ (Below.refl _ _);have A9:Below V3.heap.size V3 V3.drew:=(Below.refl _ _).drew;have DW:W.heap.size+1≠B5:=by omega
   have rA:W.heap.size+1≠w3.heap.size:=by omega
   have Gc:W.heap.size+1≠W.heap.size:=by omega
   go_region_held3 (λ w'=>cK w' B5 X (w'.cell? ⟨w3.heap.size,0,none⟩=some (.bool A7)/\w'.cell? ⟨w3.heap.size,1,none⟩=some (.slice a3 n3 c3)/\w'.cell? ⟨W.heap.size,4,none⟩=some (.int .i64 s.bits))) (first|exact zA Z6 _ (by with_reducible first|exact A9|exact s9|exact p9)|(dsimp only[cK,cK0,nK,nK0,rK,rK0];go_keep)|go_keep)
    (first
     | (go_at_call 51;have hq:=p9;refine (zCZ _ X ⟨D8,a4,n4,c4,A7,a3,n3,c3,s.bits⟩ (K+1) b (jE f i) (-zW (f i),zW (f i)) ((W3.xp.bw p9).mono (by omega)) ⟨G6,(zA HI).bw p9⟩ (by omega) W3.xb).mono ?_;rintro r' w5 ⟨v,rfl,K3,J7,D6⟩;have s9:=zB p9 D6;have HV:=zC K3;clear K3;obtain⟨q0,q1,q2,q3,q4,q5⟩:=R3.bw s9;obtain⟨y0,y1,y2,y3,y4,y5,y6,y7⟩:=zA Z6 _ s9)
     | (go_at_call 87;refine (zA2 _ _ _ _ (K+1) (zW (f i)) _ ((zA HI).bw A9) (by omega)).mono ?_;rintro r' w4 ⟨D8,a4,n4,c4,rfl,G6,y9⟩;have p9:=zB A9 y9))
   all_goals
    go_wp2_with fail;refine bodyPost_ret (v:=.agg v.q) (by simp[results,Tryz.results121,go_sem,q0,q1,q2,q3,q4]) rfl ⟨v,rfl,zA HV,?_,?_⟩
    ·exact SpAt.put5 (J7.mono (by omega)) q0 q1 q2 q3 q4 _ _ _ _ _
    ·exact jY (zB W3.be s9) (Nat.le_succ _) _ _ _ _ _
theorem en_exp (args:Array Value) (w:World):(callFunc 122 args).run Tryz.prog w=.ok (.enter 122 args) w:=by simp[go_sem,callFunc,Tryz.func122];kernel_rfl
theorem len_uniq {z l l':Int} (h:zBV z l) (h':zBV z l') (hz:0<=z):l=l':=by
 obtain⟨a1,a2,a3⟩:=h;obtain⟨b1,b2,b3⟩:=h'
 by_cases hp:0<z
 ·obtain⟨L,e1,e2,e3⟩:=a3 hp
  obtain⟨L',f1,f2,f3⟩:=b3 hp
  have:L=L':=by
   rcases Nat.lt_trichotomy L L' with h|h|h
   ·have:=zJ (show L+1<=L' by omega);omega
   ·exact h
   ·have:=zJ (show L'+1<=L by omega);omega
  omega
 ·have:=a2 (by omega);have:=b2 (by omega);omega
theorem exp_one {b N:Nat} {sm:Int × Int} (hb:16<=b) (hN:zU (zV b sm) N):1<=N:=by
 refine Nat.pos_of_ne_zero λ e=>?_
 have:=hN.1;rw[e] at this
 have h2:zW (zV b sm 0)=Q b:=by
  show zFK (Q b) (-Q b)=Q b
  have:=zE b;unfold zFK;rw[if_neg (by omega)]
 rw[h2] at this;have:=zJ hb;have:Q 16=65536:=rfl;omega
theorem zRL {z l l' bt:Int} {b t:Nat} (h':zBV z l') (h:zBV z l) (ht:(t:Int)=max 0 (l-b+8)) (hb:bt=(b:Int)) (pR:b<=1000000) (fT:t<=1000000) (hz:0<=z) :
  (if 0<IntKind.i64.wrap (IntKind.i64.wrap (l'-bt)+8) then IntKind.i64.wrap (IntKind.i64.wrap (l'-bt)+8) else 0)=(t:Int):=by
 have e:=len_uniq h' h hz;have l0:=h.1;have l1:l<=3000000:=by omega
 subst e;rw[hb,jB (l'-b) (by omega) (by omega),jB (l'-b+8) (by omega) (by omega)]
 split<;>omega
theorem zGP (w:World) (s:Sp) (K b t N:Nat) (a:Int × Int) (l:Int) (hs:SpAt w s K a.1 a.2) (hbits:s.bits=(b:Int)) (hle:a.1<=a.2) (O6:16<=b) (hb:b<=1000000) (hl:zBV (zW a) l) (ht:(t:Int)=max 0 (l-b+8)) (fT:t<=1000000)
  (mz:Abs (zG a t) (Q (b-8))) (hN:zU (zV b (zG a t)) N) (hK:Q (b+2)<P K) (hU:∀ i,i<=t -> -P K<(sqI b (zN (zV b (zG a t)) N) i).1/\(sqI b (zN (zV b (zG a t)) N) i).2<P K) (nj:K<=10000000) :
  Calls Tryz.prog 77 #[.agg s.q] w (zH w b K (sqI b (zN (zV b (zG a t)) N) t).1 (sqI b (zN (zV b (zG a t)) N) t).2):=by
 obtain⟨W,hW⟩:∃ W,W=(w.alloc (.cells s.q 31)).alloc (.cells zCq 31):=⟨_,rfl⟩;have j7:Below w.heap.size w W:=by rw[hW];exact bl2 _ _ _
 have A:SpC W w.heap.size s:=by rw[hW];constructor<;>simp[go_sem]
 have R:NoC W (w.heap.size+1):=by rw[hW];constructor<;>simp[go_sem]
 have HS:=zC (hs.bw j7);have lA:=A.lt;have lR:=R.lt;have HB:=zC hbits;have HT:=zC ht;have iw:=zAK hle;have HK:=zC (show ∀ w',Below W.heap.size W w'->(cK0 w' w.heap.size s) from λ w' hB=>⟨(A.bw hB).c0,(A.bw hB).c1,(A.bw hB).c2,(A.bw hB).c3,(A.bw hB).c4⟩)
 clear hs hbits ht
 go_enter Tryz.func77,Tryz.ntmps77
 go_wp2;rw[<- hW];clear hW;obtain⟨x0,x1,x2,x3,x4⟩:=zA HK _ (Below.refl _ _);have A9:Below W.heap.size W W.drew:=(Below.refl _ _).drew
 go_cut [3] (λ p wx=>p=.int .i64 (t:Int)/\Below W.heap.size W wx)
 case first =>
  go_region_held3 (λ w'=>cK0 w' w.heap.size s) (first|exact zA HK _ (by with_reducible first|exact A9|exact s9|exact p9)|(dsimp only[cK,cK0,nK,nK0,rK,rK0];go_keep)|go_keep)
   (first
    | (go_at_call 98;have hq:=p9;refine (zD1 _ _ _ _ _ (zW a) _ o8 iw).mono ?_;rintro r' w2 ⟨l',hlen,rfl,j8⟩;have s9:=zB p9 j8)
    | (go_at_call 119;refine (zEH _ s K _ _ ((zA HS).bw A9) (by omega)).mono ?_;rintro r' w1 ⟨m7,a1,n1,c1,rfl,o8,b9⟩;have p9:=zB A9 b9))
  all_goals go_wp2_with fail
  all_goals
   go_meet;refine⟨congrArg _ ?_,s9⟩;have e:=zRL hlen hl (zA HT) (zA HB) hb fT iw;split at e<;>omega
 case rest =>
 obtain⟨rfl,E8⟩:=hcut;replace A:=A.bw E8;replace R:=R.bw E8;replace j7:=zB j7 E8;replace HS:=zC ((zA HS).bw E8);have lA:=A.lt;have lR:=R.lt;have HK:=zC (show ∀ w',Below wc.heap.size wc w'->(cK0 w' w.heap.size s) from λ w' hB=>⟨(A.bw hB).c0,(A.bw hB).c1,(A.bw hB).c2,(A.bw hB).c3,(A.bw hB).c4⟩)
 clear x0 x1 x2 x3 x4 A9 E8;obtain⟨x0,x1,x2,x3,x4⟩:=zA HK _ (Below.refl _ _);go_wp2_with fail
 go_cut [4] (λ p wx=>∃ (B:Nat) (u:Sp),p=.pointer (some ⟨B,0,none⟩)/\wc.heap.size<=B/\VrC wx B u/\SpAt wx u (K+5) (zG a t).1 (zG a t).2/\u.bits=(b:Int)/\Below wc.heap.size wc wx)
 case first =>
  go_region_held3 (λ w'=>cK0 w' w.heap.size s) (exact zA HK _ (by repeat' (first|with_reducible exact K9|with_reducible exact G1|with_reducible exact Below.refl _ _|with_reducible refine Below.drew ?_|with_reducible refine zL ?_ _|with_reducible refine Below.setCell ?_ (by first|exact YE _|exact R9|exact S3) _)))
   (first
    | (go_at_call 120;have hq:=G1;refine (zEO _ _ _ _ K (t:Int) a.2 _ ((zA HS).hi.bw (by with_reducible first|exact G1|exact zL G1 _)) (by omega) (by omega) (by omega)).mono ?_;rintro r ft ⟨aH,rS,wY,rT,rfl,T6,Q8⟩;have Q0:Below bQ.heap.size bQ ft:=(by with_reducible first|exact Q8|exact zB (bl1 _ _) Q8);have K9:=zB G1 Q0;(try with_reducible have cw:=(zQ bQ 31).bw Q8);replace J8:=J8.bw Q0;(try replace Y9:=Y9.bw Q0);have S3:=K9.size;(try have oO:=Y9.lt);(try have PT:=YJ oO);(try have Cg:=YI oO);(try obtain⟨mN,mO,ye,yg,yh,Eo⟩:=Y9);(try have oP:=cw.lt);(try have PV:=YJ oP);(try have Ch:=YI oP);(try obtain⟨mP,mQ,yi,yj,ym,Ep⟩:=cw))
    | (go_at_call 96;refine (zG5 _ _ _ _ K (t:Int) a.1 _ ((zA HS).lo.bw (by with_reducible first|exact (Below.refl _ _).drew|exact (bl1 _ _).drew)) (by omega) (by omega) (by omega)).mono ?_;rintro r bQ ⟨aY,zm,AM,zo,rfl,J8,Q7⟩;have G1:Below wc.heap.size wc bQ:=(by with_reducible first|exact zB (Below.refl _ _).drew Q7|exact zB (bl1 _ _).drew Q7);(try with_reducible have Y9:=((zQ wc 31).bw (Below.refl _ _).drew).bw Q7);have R9:=G1.size))
  all_goals
   have hfinU:SpAt ft ⟨aY,zm,AM,zo,aH,rS,wY,rT,s.bits⟩ (K+5) (zG a t).1 (zG a t).2:=⟨by rw[zD7] at J8;exact J8.mono (by omega),by rw[zD7] at T6;exact T6.mono (by omega)⟩
   go_wp2_with fail;go_meet;refine⟨_,⟨aY,zm,AM,zo,aH,rS,wY,rT,s.bits⟩,rfl,?_,⟨⟨?_,?_,?_,?_,?_⟩,?_⟩,?_,zA HB,?_⟩
   ·first|exact YE _|exact R9|exact S3
   ·simp[go_sem, *]
   ·simp[go_sem, *]
   ·simp[go_sem, *]
   ·simp[go_sem, *]
   ·simp[go_sem, *]
   ·intro o;simp[go_sem, *]
   ·first|with_reducible exact hfinU.bw (bl1 _ _)|with_reducible exact SpAt.put5 hfinU (by assumption) (by assumption) (by assumption) (by assumption) (by assumption) _ _ _ _ _
   ·repeat' (first|with_reducible exact K9|with_reducible exact G1|with_reducible exact Below.refl _ _|with_reducible refine Below.drew ?_|with_reducible refine zL ?_ _|with_reducible refine Below.setCell ?_ (by first|exact YE _|exact R9|exact S3) _)
 case rest =>
 obtain⟨BU,xU,rfl,Ct,XU,hpU,hxbU,hblU⟩:=hcut;replace A:=A.bw hblU;replace R:=R.bw hblU;replace j7:=zB j7 hblU;have lU:=XU.lt;have nRU:w.heap.size+1<BU:=by omega
 have FT:=A.lt;have ae:=R.lt;have nZ:=zC hxbU;have cm:=zC hpU;clear hxbU hpU HS HK x0 x1 x2 x3 x4 hblU;have x4:=A.c4;rw[zA HB] at x4;go_wp2_with fail;refine (zDD _ b hb).mono ?_;rintro r w1 ⟨v1,rfl,J6,S7,b9⟩;have Qz:=zE b
 have KL:(zV b (zG a t) 0).1=1*Q b/1/\(zV b (zG a t) 0).2 = -(-(1*Q b)/1):=by
  constructor
  ·show Q b=_;omega
  ·show Q b=_;omega
 rw[<- KL.1,<- KL.2] at S7
 have gB:Q b*2<P K/\2*Q b+Q b<P K:=by
  have e:Q (b+2)=2*(2*Q b):=rfl;omega
 have HU:=zC hU;clear hU;have hT:=zBO (by omega) mz
 have hlT:=zAF b (zG a t)
 have Z3:∀ n,n<=N -> -P K<(zV b (zG a t) n).1/\(zV b (zG a t) n).2<P K:=λ n _=>by
  obtain⟨g1,g2,g3,g4⟩:=hT n;have:=zJ (show b-8*n<=b by omega)
  omega
 have hfitS:∀ n,n<=N -> -P K<(jE (zV b (zG a t)) n).1/\(jE (zV b (zG a t)) n).2<P K:=λ n hn=>by
  obtain⟨g1,g2,g3,g4⟩:=zFR (s:=8) (by omega) hT hN n hn
  have:=zE (b-8*n);omega
 have Af:N<=1000000000:=by
  obtain⟨N',n1,n2⟩:=zB3 (s:=8) (by omega) hT
  have:N<=N':=Nat.not_lt.1 λ D5=>by have:=hN.2 N' D5;have:=n2.1;omega
  omega
 replace S7:=S7.fits (K:=K) (hlT 0) (Z3 0 (by omega)).1 (Z3 0 (by omega)).2
 have Y8:=zC hT;have rM:=zC hlT;have fZ:=zC Z3;have cl:=zC hfitS;have nY:=zC S7;have rQ:=zC J6;have Hj:=zC gB;clear hT hlT Z3 hfitS KL S7 J6 gB;replace XU:=XU.bw b9;replace cm:=zC ((zA cm).bw b9);replace R:=R.bw b9;replace j7:=zB j7 b9;have lU3:=XU.lt;have gQ:=R.lt;clear b9 x4 A FT;go_wp2_with fail;refine (zL9 _ _ en_exp (zV b (zG a t)) N b K (K+5+(K+5)+22) v1 _ (zA nY) (zA rQ) hb (by omega) (by omega) hN Af (zA rM) (zA fZ) (zA cl) (λ n u w' hn B8 B7 O7=>?_)).mono ?_
 ·exact exp1_iv w' BU u xU (K+5) b ((n:Int)+1) (zV b (zG a t) n) (zG a t) (B7.mono (by omega)) ((zA cm).bw O7) (XU.c.bw O7) (by omega) B8 hb (by omega) (by omega)
 rintro r w2 ⟨v2,rfl,P2,X8,j8⟩;replace XU:=XU.bw j8;replace R:=R.bw j8;replace j7:=zB j7 j8;have Al:=zCN (zA rM) N;have JL:=zF1 (s:=8) (by omega) (zA rM) (zA Y8) hN
 replace X8:=X8.fits (K:=K) Al (by have:=JL.1;have:=zA Hj;omega) (by have:=JL.2.2.2;have:=zA Hj;omega)
 have mW:=zC P2;clear P2 j8 nY rQ Al JL;have lR4:=R.lt;go_wp2_with fail
 go_loopw [31] (λ ii wr=>∃ (i:Nat) (X:Sp),ii=.int .i64 (i:Int)/\i<=t/\VrC wr w2.heap.size X/\SpAt wr X K (sqI b (zN (zV b (zG a t)) N) i).1 (sqI b (zN (zV b (zG a t)) N) i).2/\X.bits=(b:Int)/\NoC wr (w.heap.size+1)/\Below w.heap.size w wr) (λ ii _=>t-(intOf ii).toNat)
 case atStart =>
  refine⟨0,v2,rfl,Nat.zero_le _,⟨⟨by simp[go_sem],by simp[go_sem],by simp[go_sem],by simp[go_sem],by simp[go_sem]⟩,λ o=>by simp[go_sem]⟩,X8.bw (bl1 _ _),zA mW,R.bw (bl1 _ _),zL j7 _⟩
 case round =>
  obtain⟨i,X,rfl,hi,hX,hp,FO,hR,hB⟩:=hrel;have nZ:=zC FO;clear FO;have lX:=hX.lt
  by_cases I7:i<t
  ·have gI:(i:Int)<(t:Int):=by omega
   obtain⟨⟨x0,x1,x2,x3,x4⟩,x5⟩:=hX;go_wp2_with fail;refine (zJ1 _ X X K b _ _ hp hp (by omega) (zA nZ) hb).mono ?_
   rintro r w3 ⟨v,rfl,K3,J7,m9⟩;have X3:=VrC.bw ⟨⟨x0,x1,x2,x3,x4⟩,x5⟩ m9;have R3:=hR.bw m9;have B3:=zB hB m9;have e:zAH b (sqI b (zN (zV b (zG a t)) N) i) (sqI b (zN (zV b (zG a t)) N) i)=sqI b (zN (zV b (zG a t)) N) (i+1):=rfl;rw[e] at J7;replace J7:=J7.fits (K:=K) (zBY b) (zA HU (i+1) (by omega)).1 (zA HU (i+1) (by omega)).2
   have HV:=zC K3;have nB:w.heap.size+1≠w2.heap.size:=by omega
   have stn:VrC (yW w3 w2.heap.size v) w2.heap.size v/\SpAt (yW w3 w2.heap.size v) v K (sqI b (zN (zV b (zG a t)) N) (i+1)).1 (sqI b (zN (zV b (zG a t)) N) (i+1)).2/\NoC (yW w3 w2.heap.size v) (w.heap.size+1)/\Below w.heap.size w (yW w3 w2.heap.size v):=⟨X3.put v,J7.put X3.c v,R3.off nB v,zAR B3 (by omega) v⟩
   unfold yW at stn;clear K3 m9 x0 x1 x2 x3 x4 x5 J7;obtain⟨⟨x0,x1,x2,x3,x4⟩,x5⟩:=X3;go_wp2_with fail
   go_roundw
   case rel=>exact⟨i+1,v,by go_num,by omega,stn.1,stn.2.1,zA HV,stn.2.2.1,stn.2.2.2⟩
   case measure=>simp[intOf];omega
  ·have gH:i=t:=by omega
   subst gH;have gI:¬ (i:Int)<(i:Int):=by omega
   obtain⟨⟨x0,x1,x2,x3,x4⟩,x5⟩:=hX;obtain⟨q0,q1,q2,q3,q4,q5⟩:=hR;go_wp2_with fail;refine bodyPost_ret (v:=.agg X.q) (by simp[results,Tryz.results77,go_sem,q0,q1,q2,q3,q4]) rfl ⟨X,rfl,zA nZ,?_,?_⟩
   ·exact SpAt.put5 hp q0 q1 q2 q3 q4 _ _ _ _ _
   ·exact jY hB (Nat.le_succ _) _ _ _ _ _
theorem zCI (w:World) (s:Sp) (K b t N:Nat) (a:Int × Int) (l:Int) (hs:SpAt w s K a.1 a.2) (hbits:s.bits=(b:Int)) (hle:a.1<=a.2) (O6:16<=b) (hb:b<=1000000) (hl:zBV (zW a) l) (ht:(t:Int)=max 0 (l-b+8)) (fT:t<=1000000)
  (mz:Abs (zG a t) (Q (b-8))) (hN:zU (zV b (zG a t)) N) (hK:Q (b+eb t)<P K) (nj:K<=10000000) :
  Calls Tryz.prog 77 #[.agg s.q] w (zH w b K (sqI b (zN (zV b (zG a t)) N) t).1 (sqI b (zN (zV b (zG a t)) N) t).2):=by
 have h12:12<=eb t:=by have:=zBW (show 0<=t by omega);simpa [eb] using this
 have K5:=zJ (show b+2<=b+eb t by omega)
 refine zGP w s K b t N a l hs hbits hle O6 hb hl ht fT mz hN (by omega) (λ i hi=>?_) nj
 have Fk:1<=N:=exp_one O6 hN;have ha:=zTS O6 (zJN (s:=8) (by omega) (zAF b (zG a t)) (zBO (by omega) mz) hN Fk) i
 have hm:=zJ (show b+eb i<=b+eb t by have:=zBW hi;omega)
 exact⟨by have:=ha.1;omega,by have:=ha.2.2.2;omega⟩
end Go.Proofs.YtgmnknmjainabacGreat
