/-
  Its own texts.
-/
import Derived.Test.YtgmnknmjainabacGreatJ05
set_option maxRecDepth 100000
set_option maxHeartbeats 40000000
set_option linter.unnecessarySimpa false
set_option linter.unusedSimpArgs false
set_option linter.unusedVariables false
namespace Go.Proofs.YtgmnknmjainabacGreat
open Ex
theorem zDX (a b c d:Int):kI (pr4 a b c d) 3<=a/\kI (pr4 a b c d) 3<=b/\kI (pr4 a b c d) 3<=c/\kI (pr4 a b c d) 3<=d/\(kI (pr4 a b c d) 3=a\/kI (pr4 a b c d) 3=b\/kI (pr4 a b c d) 3=c\/kI (pr4 a b c d) 3=d):=by
 simp only[kI,pr4];simp;repeat' split
 all_goals omega
theorem zCU (a b c d:Int):a<=zAP (pr4 a b c d) 3/\b<=zAP (pr4 a b c d) 3/\c<=zAP (pr4 a b c d) 3/\d<=zAP (pr4 a b c d) 3/\(zAP (pr4 a b c d) 3=a\/zAP (pr4 a b c d) 3=b\/zAP (pr4 a b c d) 3=c\/zAP (pr4 a b c d) 3=d):=by
 simp only[zAP,pr4];simp;repeat' split
 all_goals omega
def yZ (B:Nat) (a b:Int × Int):Int × Int:=(kI (pr4 (a.1*b.1) (a.1*b.2) (a.2*b.1) (a.2*b.2)) 3/Q B,-(-(zAP (pr4 (a.1*b.1) (a.1*b.2) (a.2*b.1) (a.2*b.2)) 3)/Q B))
def zBT (a b:Int × Int):Int × Int:=(a.1+b.1,a.2+b.2)
def zHY (a b:Int × Int):Int × Int:=(a.1-b.2,a.2-b.1)
def zJ (a:Int × Int) (n d:Int):Int × Int:=(a.1*n/d,-(-(a.2*n)/d))
def kF (a:Int × Int) (n:Int):Int × Int:=(a.1*n,a.2*n)
def zX (a:Int × Int):Int:=zHK a.2 (-a.1)
def ofI (n d:Int) (B:Nat):Int × Int:=(n*Q B/d,-(-(n*Q B)/d))
def zG (a:Int × Int) (t:Nat):Int × Int:=(a.1/Q t,-(-a.2/Q t))
def jH (f:Nat->Int × Int):Nat->Int × Int
 | 0=>f 0
 | n+1=>zBT (jH f n) (f (n+1))
def zT (f:Nat->Int × Int) (N:Nat):Prop:=zX (f N)<=1/\∀ n,n<N->1<zX (f n)
def zM (f:Nat->Int × Int) (N:Nat):Int × Int:=zBT (jH f N) (-zX (f N),zX (f N))
def sqI (B:Nat) (a:Int × Int):Nat->Int × Int
 | 0=>a
 | t+1=>yZ B (sqI B a t) (sqI B a t)
def Abs (a:Int × Int) (m:Int):Prop := -m<=a.1/\a.1<=m /\ -m<=a.2/\a.2<=m
theorem zD1 {a:Int × Int} (h:a.1<=a.2):Abs a (zX a):=by
 unfold Abs zX zHK;split<;>omega
theorem zAJ {a:Int × Int} {m:Int} (h:Abs a m):zX a<=m:=by
 obtain⟨h1,h2,h3,h4⟩:=h;unfold zX zHK;split<;>omega
theorem Abs.nonneg {a:Int × Int} {m:Int} (h:Abs a m):0<=m:=by obtain⟨h1,h2,h3,h4⟩:=h;omega
theorem Abs.mono {a:Int × Int} {m n:Int} (h:Abs a m) (k:m<=n):Abs a n:=by obtain⟨h1,h2,h3,h4⟩:=h;exact⟨by omega,by omega,by omega,by omega⟩
theorem Abs.add {a b:Int × Int} {m n:Int} (h:Abs a m) (k:Abs b n):Abs (zBT a b) (m+n):=by
 obtain⟨h1,h2,h3,h4⟩:=h;obtain⟨k1,k2,k3,k4⟩:=k;refine⟨?_,?_,?_,?_⟩<;>simp only[zBT]<;>omega
theorem yJ {x y m n:Int} (h1 : -m<=x) (h2:x<=m) (k1 : -n<=y) (k2:y<=n) : -(m*n)<=x*y/\x*y<=m*n:=by
 have p1:=Yl (show 0<=m-x by omega) (show 0<=n+y by omega)
 have p2:=Yl (show 0<=m+x by omega) (show 0<=n-y by omega)
 have p3:=Yl (show 0<=m-x by omega) (show 0<=n-y by omega)
 have p4:=Yl (show 0<=m+x by omega) (show 0<=n+y by omega)
 constructor<;>grind
theorem jZ {x m q:Int} (hq:0<q) (h1 : -(m*q)<=x) (h2:x<=m*q) : -m<=x/q/\x/q<=m /\ -m <= -(-x/q) /\ -(-x/q)<=m:=by
 have a1 : -m<=x/q:=by rw[Int.le_ediv_iff_mul_le hq,Int.neg_mul];exact h1
 have a2 : -m <= -x/q:=by rw[Int.le_ediv_iff_mul_le hq,Int.neg_mul];omega
 have a3:=zES x q hq;have a4:=zCO x q hq;refine⟨a1,?_,?_,by omega⟩
 ·refine Int.not_lt.1 λ hn=>?_
  have:=Yg (show m+1<=x/q by omega) (show 0<=q by omega)
  rw[Int.add_mul] at this;omega
 ·refine Int.not_lt.1 λ hn=>?_
  have:=Yg (show -(-x/q) <= -m-1 by omega) (show 0<=q by omega)
  have e:(-m-1)*q = -(m*q)-q:=by grind
  rw[e] at this;omega
theorem zCD {B:Nat} {a b:Int × Int} {m n p:Int} (h:Abs a m) (k:Abs b n) (hp:m*n<=p*Q B):Abs (yZ B a b) p:=by
 obtain⟨h1,h2,h3,h4⟩:=h;obtain⟨k1,k2,k3,k4⟩:=k;have q:=zF B;have c1:=yJ h1 h2 k1 k2;have c2:=yJ h1 h2 k3 k4;have c3:=yJ h3 h4 k1 k2;have c4:=yJ h3 h4 k3 k4;have l:=(zDX (a.1*b.1) (a.1*b.2) (a.2*b.1) (a.2*b.2)).2.2.2.2;have g:=(zCU (a.1*b.1) (a.1*b.2) (a.2*b.1) (a.2*b.2)).2.2.2.2;have r1:=jZ (x:=kI (pr4 (a.1*b.1) (a.1*b.2) (a.2*b.1) (a.2*b.2)) 3) (m:=p) (show 0<Q B by omega) (by omega) (by omega)
 have r2:=jZ (x:=zAP (pr4 (a.1*b.1) (a.1*b.2) (a.2*b.1) (a.2*b.2)) 3) (m:=p) (show 0<Q B by omega) (by omega) (by omega)
 exact⟨r1.1,r1.2.1,r2.2.2.1,r2.2.2.2⟩
theorem zBO (B:Nat) {a b:Int × Int}:(yZ B a b).1<=(yZ B a b).2:=by
 have q:=zF B;have l:=zDX (a.1*b.1) (a.1*b.2) (a.2*b.1) (a.2*b.2);have g:=zCU (a.1*b.1) (a.1*b.2) (a.2*b.1) (a.2*b.2);simp only[yZ];have a1:=zES (kI (pr4 (a.1*b.1) (a.1*b.2) (a.2*b.1) (a.2*b.2)) 3) (Q B) (by omega)
 have a2:=zCO (zAP (pr4 (a.1*b.1) (a.1*b.2) (a.2*b.1) (a.2*b.2)) 3) (Q B) (by omega)
 refine Int.not_lt.1 λ hn=>?_
 have:=Int.mul_lt_mul_of_pos_right hn (show 0<Q B by omega)
 omega
theorem zEK {a:Int × Int} {m n d:Int} (h:Abs a m) (hd:0<d) (hn:0<=n) (lf:n<=d):Abs (zJ a n d) m:=by
 have m0:=h.nonneg;obtain⟨h1,h2,h3,h4⟩:=h;have p:=Yl m0 (show 0<=d-n by omega)
 have c1:=yJ h1 h2 (show -n<=n by omega) (Int.le_refl n)
 have c2:=yJ h3 h4 (show -n<=n by omega) (Int.le_refl n)
 rw[Int.mul_sub] at p;have r1:=jZ (x:=a.1*n) (m:=m) hd (by omega) (by omega)
 have r2:=jZ (x:=a.2*n) (m:=m) hd (by omega) (by omega)
 exact⟨r1.1,r1.2.1,r2.2.2.1,r2.2.2.2⟩
theorem kK {a:Int × Int} {n d:Int} (h:a.1<=a.2) (hd:0<d) (hn:0<=n):(zJ a n d).1<=(zJ a n d).2:=by
 simp only[zJ];have a1:=zES (a.1*n) d hd;have a2:=zCO (a.2*n) d hd;have a3:=Yg h hn;refine Int.not_lt.1 λ hn=>?_
 have:=Int.mul_lt_mul_of_pos_right hn hd;omega
theorem zJU {x y x' y' a1 a2 b1 b2 m n:Int} (hx:x=a1\/x=a2) (hy:y=b1\/y=b2) (oQ:x'=a1\/x'=a2) (mM:y'=b1\/y'=b2)
  (ha:a1<=a2) (hb:b1<=b2) (h1 : -m<=a1) (h2:a1<=m) (h3 : -m<=a2) (h4:a2<=m) (k1 : -n<=b1) (k2:b1<=n) (k3 : -n<=b2) (k4:b2<=n) :
  x*y-x'*y'<=m*(b2-b1)+n*(a2-a1):=by
 have e:x*y-x'*y'=x*(y-y')+(x-x')*y':=by grind
 rw[e];have c1 : -m<=x/\x<=m:=by rcases hx with h|h<;>subst h<;>exact⟨by assumption,by assumption⟩
 have c2 : -n<=y'/\y'<=n:=by rcases mM with h|h<;>subst h<;>exact⟨by assumption,by assumption⟩
 have d1 : -(b2-b1)<=y-y'/\y-y'<=b2-b1:=by rcases hy with h|h<;>rcases mM with h'|h'<;>omega
 have d2 : -(a2-a1)<=x-x'/\x-x'<=a2-a1:=by rcases hx with h|h<;>rcases oQ with h'|h'<;>omega
 have g1:=(yJ c1.1 c1.2 d1.1 d1.2).2;have g2:=(yJ d2.1 d2.2 c2.1 c2.2).2;rw[Int.mul_comm n];omega
theorem zBE {x y q c:Int} (hq:0<q) (h:x-y<=c*q) : -(-x/q)-y/q<=c+1:=by
 have a1:=zJT x q hq;have a2:=flo_gt y q hq;refine Int.not_lt.1 λ hn=>?_
 have:=Yg (show c+2 <= -(-x/q)-y/q by omega) (show 0<=q by omega)
 rw[Int.sub_mul,Int.add_mul] at this;omega
theorem zAQ {B:Nat} {a b:Int × Int} {m n c:Int} (h:Abs a m) (k:Abs b n) (ha:a.1<=a.2) (hb:b.1<=b.2) (hc:m*(b.2-b.1)+n*(a.2-a.1)<=c*Q B):(yZ B a b).2-(yZ B a b).1<=c+1:=by
 obtain⟨h1,h2,h3,h4⟩:=h;obtain⟨k1,k2,k3,k4⟩:=k;have q:=zF B;have l:=(zDX (a.1*b.1) (a.1*b.2) (a.2*b.1) (a.2*b.2)).2.2.2.2;have g:=(zCU (a.1*b.1) (a.1*b.2) (a.2*b.1) (a.2*b.2)).2.2.2.2;refine zBE (show 0<Q B by omega) (Int.le_trans ?_ hc)
 have key:=λ x y x' y' (hx:x=a.1\/x=a.2) (hy:y=b.1\/y=b.2) (oQ:x'=a.1\/x'=a.2) (mM:y'=b.1\/y'=b.2)=>zJU hx hy oQ mM ha hb h1 h2 h3 h4 k1 k2 k3 k4
 rcases g with g|g|g|g<;>rcases l with l|l|l|l<;>rw[g,l]<;>exact key _ _ _ _ (by simp) (by simp) (by simp) (by simp)
theorem kH {a:Int × Int} {n d c:Int} (hd:0<d) (h:(a.2-a.1)*n<=c*d):(zJ a n d).2-(zJ a n d).1<=c+1:=by
 refine zBE hd ?_;rw[<- Int.sub_mul];exact h
def Iv (B:Nat) (a:Int × Int) (x:Nat->Rat):Prop:=Has ((a.1:Rat)/(Q B:Rat)) ((a.2:Rat)/(Q B:Rat)) x
theorem jJ (B:Nat):(0:Rat)<(Q B:Rat):=by exact_mod_cast (show (0:Int)<Q B by have:=zF B;omega)
theorem jY {a b c:Rat} (hc:0<c) (h:a*c<=b):a<=b/c:=by
 have e:=rdm (a:=b) hc;generalize b/c=q at *;refine Rat.not_lt.1 λ hn=>?_
 have:=Rat.mul_pos hc (show 0<a-q by grind)
 grind
theorem jX {a b c:Rat} (hc:0<c) (h:a<=b*c):a/c<=b:=by
 have e:=rdm (a:=a) hc;generalize a/c=q at *;refine Rat.not_lt.1 λ hn=>?_
 have:=Rat.mul_pos hc (show 0<q-b by grind)
 grind
theorem jG {a b:Int} (h:a<=b):(a:Rat)<=(b:Rat):=by exact_mod_cast h
theorem zIR {L u v q:Int} (hq:0<q) (h:L*q<=u*v):(L:Rat)/(q:Rat)<=(u:Rat)/(q:Rat)*((v:Rat)/(q:Rat)):=by
 have q0:(0:Rat)<(q:Rat):=by exact_mod_cast hq
 have e1:=rdm (a:=(u:Rat)) q0;have e2:=rdm (a:=(v:Rat)) q0;have h1:=jG h;rw[Ym,Ym] at h1;refine jX q0 ?_;generalize (u:Rat)/(q:Rat)=U at *;generalize (v:Rat)/(q:Rat)=V at *;rw[<- e1,<- e2] at h1;refine Rat.not_lt.1 λ hn=>?_
 have:=Rat.mul_pos (show 0<(L:Rat)-U*V*(q:Rat) by grind) q0
 grind
theorem zIP {L u v q:Int} (hq:0<q) (h:u*v<=L*q):(u:Rat)/(q:Rat)*((v:Rat)/(q:Rat))<=(L:Rat)/(q:Rat):=by
 have q0:(0:Rat)<(q:Rat):=by exact_mod_cast hq
 have e1:=rdm (a:=(u:Rat)) q0;have e2:=rdm (a:=(v:Rat)) q0;have h1:=jG h;rw[Ym,Ym] at h1;refine jY q0 ?_;generalize (u:Rat)/(q:Rat)=U at *;generalize (v:Rat)/(q:Rat)=V at *;rw[<- e1,<- e2] at h1;refine Rat.not_lt.1 λ hn=>?_
 have:=Rat.mul_pos (show 0<U*V*(q:Rat)-(L:Rat) by grind) q0
 grind
theorem Iv.mul {B:Nat} {a b:Int × Int} {x y:Nat->Rat} (h:Iv B a x) (k:Iv B b y):Iv B (yZ B a b) (λ M=>x M*y M):=by
 have q0:0<Q B:=by have:=zF B;omega
 have l:=zDX (a.1*b.1) (a.1*b.2) (a.2*b.1) (a.2*b.2);have g:=zCU (a.1*b.1) (a.1*b.2) (a.2*b.1) (a.2*b.2);have fl:=zES (kI (pr4 (a.1*b.1) (a.1*b.2) (a.2*b.1) (a.2*b.2)) 3) (Q B) q0;have ce:=zCO (zAP (pr4 (a.1*b.1) (a.1*b.2) (a.2*b.1) (a.2*b.2)) 3) (Q B) q0;exact Has.mul h k (zIR q0 (Int.le_trans fl l.1)) (zIR q0 (Int.le_trans fl l.2.1)) (zIR q0 (Int.le_trans fl l.2.2.1)) (zIR q0 (Int.le_trans fl l.2.2.2.1)) (zIP q0 (Int.le_trans g.1 ce)) (zIP q0 (Int.le_trans g.2.1 ce)) (zIP q0 (Int.le_trans g.2.2.1 ce)) (zIP q0 (Int.le_trans g.2.2.2.1 ce))
theorem zBK (a b c:Rat):(a+b)/c=a/c+b/c:=by rw[Yp,Yp,Yp,Rat.add_mul]
theorem zHQ (a b c:Rat):(a-b)/c=a/c-b/c:=by rw[Rat.sub_eq_add_neg,Yp,Rat.add_mul,Rat.neg_mul,Yp,Yp,<- Rat.sub_eq_add_neg]
theorem Iv.add {B:Nat} {a b:Int × Int} {x y:Nat->Rat} (h:Iv B a x) (k:Iv B b y):Iv B (zBT a b) (λ M=>x M+y M):=by
 have:=Has.add h k;rw[<- zBK,<- zBK,<- Rat.intCast_add,<- Rat.intCast_add] at this;exact this
theorem Iv.sub {B:Nat} {a b:Int × Int} {x y:Nat->Rat} (h:Iv B a x) (k:Iv B b y):Iv B (zHY a b) (λ M=>x M-y M):=by
 have:=Has.sub h k;rw[<- zHQ,<- zHQ,<- Rat.intCast_sub,<- Rat.intCast_sub] at this;exact this
theorem Iv.times {B:Nat} {a:Int × Int} {x:Nat->Rat} (h:Iv B a x) (n:Nat):Iv B (kF a n) (λ M=>(n:Rat)*x M):=by
 have:=Has.scale h (c:=(n:Rat)) (by exact_mod_cast Nat.zero_le n)
 have e:∀ z:Int,(n:Rat)*((z:Rat)/(Q B:Rat))=((z*(n:Int):Int):Rat)/(Q B:Rat):=λ z=>by
  rw[Ym,Yp,Yp,<- Rat.mul_assoc,Rat.mul_comm (n:Rat)];rfl
 rw[e,e] at this;exact this
theorem zPM {L u n d q:Int} (hd:0<d) (hq:0<q) (h:L*d<=u*n):(L:Rat)/(q:Rat)<=(n:Rat)/(d:Rat)*((u:Rat)/(q:Rat)):=by
 have q0:(0:Rat)<(q:Rat):=by exact_mod_cast hq
 have d0:(0:Rat)<(d:Rat):=by exact_mod_cast hd
 have e1:=rdm (a:=(u:Rat)) q0;have e2:=rdm (a:=(n:Rat)) d0;have h1:=jG h;rw[Ym,Ym] at h1;refine jX q0 ?_;generalize (u:Rat)/(q:Rat)=U at *;generalize (n:Rat)/(d:Rat)=V at *;rw[<- e1,<- e2] at h1;refine Rat.not_lt.1 λ hn=>?_
 have:=Rat.mul_pos (show 0<(L:Rat)-V*U*(q:Rat) by grind) d0
 grind
theorem zPL {L u n d q:Int} (hd:0<d) (hq:0<q) (h:u*n<=L*d):(n:Rat)/(d:Rat)*((u:Rat)/(q:Rat))<=(L:Rat)/(q:Rat):=by
 have q0:(0:Rat)<(q:Rat):=by exact_mod_cast hq
 have d0:(0:Rat)<(d:Rat):=by exact_mod_cast hd
 have e1:=rdm (a:=(u:Rat)) q0;have e2:=rdm (a:=(n:Rat)) d0;have h1:=jG h;rw[Ym,Ym] at h1;refine jY q0 ?_;generalize (u:Rat)/(q:Rat)=U at *;generalize (n:Rat)/(d:Rat)=V at *;rw[<- e1,<- e2] at h1;refine Rat.not_lt.1 λ hn=>?_
 have:=Rat.mul_pos (show 0<V*U*(q:Rat)-(L:Rat) by grind) d0
 grind
theorem Iv.scale {B:Nat} {a:Int × Int} {x:Nat->Rat} (h:Iv B a x) {n d:Int} (hn:0<=n) (hd:0<d):Iv B (zJ a n d) (λ M=>(n:Rat)/(d:Rat)*x M):=by
 have q0:0<Q B:=by have:=zF B;omega
 have d0:(0:Rat)<(d:Rat):=by exact_mod_cast hd
 have n0:(0:Rat)<=(n:Rat):=by exact_mod_cast hn
 have c0:0<=(n:Rat)/(d:Rat):=jY d0 (by grind)
 exact (Has.scale h c0).mono (zPM hd q0 (zES (a.1*n) d hd)) (zPL hd q0 (zCO (a.2*n) d hd))
theorem Iv.of (B:Nat) {n d:Int} (hd:0<d):Iv B (ofI n d B) (λ _=>(n:Rat)/(d:Rat)):=by
 have q0:0<Q B:=by have:=zF B;omega
 have qr:=jJ B
 have e:(n:Rat)/(d:Rat)*((Q B:Rat)/(Q B:Rat))=(n:Rat)/(d:Rat):=by
  rw[Yp (Q B:Rat),Rat.mul_inv_cancel _ (by grind),Rat.mul_one]
 have l:=zPM hd q0 (L:=(ofI n d B).1) (u:=Q B) (n:=n) (by rw[Int.mul_comm (Q B)];exact zES (n*Q B) d hd)
 have g:=zPL hd q0 (L:=(ofI n d B).2) (u:=Q B) (n:=n) (by rw[Int.mul_comm (Q B)];exact zCO (n*Q B) d hd)
 rw[e] at l g;exact Has.const l g
theorem Iv.to {B m:Nat} {a:Int × Int} {x:Nat->Rat} (h:Iv (B+m) a x):Iv B (zG a m) x:=by
 have q:=jJ B;have qm:=jJ m;have e:(Q (B+m):Rat)=(Q B:Rat)*(Q m:Rat):=by rw[jI,Ym]
 have f1:=zES a.1 (Q m) (by have:=zF m;omega)
 have f2:=zCO a.2 (Q m) (by have:=zF m;omega)
 have q2:0<(Q B:Rat)*(Q m:Rat):=Rat.mul_pos q qm;unfold Iv at h;rw[e] at h;refine Has.mono h ?_ ?_
 ·have g:(((zG a m).1*Q m:Int):Rat)<=((a.1:Int):Rat):=jG f1
  rw[Ym] at g;refine jY q2 ?_;have ea:=rdm (a:=((zG a m).1:Rat)) q;generalize ((zG a m).1:Rat)/(Q B:Rat)=U at *;generalize ((zG a m).1:Rat)=L at *;rw[<- ea] at g;grind
 ·have g:((a.2:Int):Rat)<=(((zG a m).2*Q m:Int):Rat):=jG f2
  rw[Ym] at g;refine jX q2 ?_;have ea:=rdm (a:=((zG a m).2:Rat)) q;generalize ((zG a m).2:Rat)/(Q B:Rat)=U at *;generalize ((zG a m).2:Rat)=L at *;rw[<- ea] at g;grind
theorem Iv.down {B:Nat} {a:Int × Int} {x:Nat->Rat} (h:Iv B a x) (t:Nat):Iv B (zG a t) (λ M=>x M/(Q t:Rat)):=by
 have qt:0<Q t:=by have:=zF t;omega
 have:=h.scale (n:=1) (d:=Q t) (by omega) qt
 have e:zJ a 1 (Q t)=zG a t:=by simp[zJ,zG]
 rw[e] at this;refine Has.of_eq this λ M=>?_
 rw[Yp,Yp,Rat.mul_comm];simp
theorem Iv.touch {B C:Nat} {a b:Int × Int} {x:Nat->Rat} (h:Iv B a x) (k:Iv C b x):a.1*Q C<=b.2*Q B:=by
 have q:=jJ B;have q':=jJ C;have t:=Has.touch h k;have e1:=rdm (a:=(a.1:Rat)) q;have e2:=rdm (a:=(b.2:Rat)) q'
 have:((a.1*Q C:Int):Rat)<=((b.2*Q B:Int):Rat):=by
  rw[Ym,Ym];generalize (a.1:Rat)/(Q B:Rat)=U at *;generalize (b.2:Rat)/(Q C:Rat)=V at *;rw[<- e1,<- e2];have:=Ye (Ye (show 0<=V-U by grind) (Yh q)) (Yh q')
  grind
 exact_mod_cast this
theorem Iv.congr {B:Nat} {a:Int × Int} {x y:Nat->Rat} (h:Iv B a x) (k:Null (λ M=>y M-x M)):Iv B a y:=Has.congr h k
theorem zN4 {B s:Nat} (hs:s<=B) (n:Nat):Q (B-s*n)*Q (B-s)<=Q (B-s*(n+1))*Q B:=by
 rw[<- jI,<- jI];refine zK ?_;rw[Nat.mul_add,Nat.mul_one];generalize s*n=k;omega
theorem zBF {p:Nat->Prop} {K:Nat} (h:p K):∃ N,N<=K/\p N/\∀ n,n<N->¬ p n:=by
 induction K using Nat.strongRecOn with
 | ind K ih =>
  by_cases hk:∃ m,m<K/\p m
  ·obtain⟨m,hm,hp⟩:=hk
   obtain⟨N,h1,h2⟩:=ih m hm hp;exact⟨N,by omega,h2⟩
  ·exact⟨K,Yj _,h,λ n hn hp=>hk ⟨n,hn,hp⟩⟩
theorem zBQ {B s:Nat} {f:Nat->Int × Int} (hs:1<=s) (h:∀ n,Abs (f n) (Q (B-s*n))):∃ N,N<=B/s+1/\zT f N:=by
 have h1:zX (f (B/s+1))<=1:=by
  have:=zAJ (h (B/s+1))
  have e:B-s*(B/s+1)=0:=by
   have:=Nat.lt_mul_div_succ B (show 0<s by omega)
   omega
  rw[e] at this;simp[Q] at this;exact this
 obtain⟨N,n1,n2,n3⟩:=zBF (p:=λ n=>zX (f n)<=1) h1
 exact⟨N,n1,n2,λ n hn=>by have:=n3 n hn;simp at this;omega⟩
theorem zIK {B s N n:Nat} {f:Nat->Int × Int} (hs:1<=s) (h:∀ n,Abs (f n) (Q (B-s*n))) (hN:zT f N) (hn:n<N):2*Q (B-s*(n+1))<=Q (B-s*n):=by
 have h1:=hN.2 n hn;have h2:=zAJ (h n)
 have h3:1<=B-s*n:=by
  refine Nat.pos_of_ne_zero λ e=>?_
  rw[e] at h2;simp[Q] at h2;omega
 have e:2*Q (B-s*(n+1))=Q (B-s*(n+1)+1):=rfl;rw[e];refine zK ?_;rw[Nat.mul_add,Nat.mul_one];generalize s*n=k at *;omega
theorem zFC {B s N:Nat} {f:Nat->Int × Int} (hs:1<=s) (h:∀ n,Abs (f n) (Q (B-s*n))) (hN:zT f N) (n:Nat) (hn:n<=N):Abs (jH f n) (2*Q B-Q (B-s*n)):=by
 induction n with
 | zero=>simp only[jH];exact (h 0).mono (by simp;omega)
 | succ n ih =>
  have h1:=(ih (by omega)).add (h (n+1))
  have h2:=zIK hs h hN (show n<N by omega)
  simp only[jH];exact h1.mono (by omega)
theorem sum_abs1 {B s N:Nat} {f:Nat->Int × Int} (hs:1<=s) (h:∀ n,Abs (f n) (Q (B-s*n))) (hN:zT f N) (n:Nat) (hn:n+1<=N):Abs (jH f (n+1)) (Q B+2*Q (B-s)-Q (B-s*(n+1))):=by
 induction n with
 | zero =>
  simp only[jH];have:=(h 0).add (h 1);refine this.mono ?_;simp;omega
 | succ n ih =>
  have h1:=(ih (by omega)).add (h (n+1+1))
  have h2:=zIK hs h hN (show n+1<N by omega)
  have e:jH f (n+1+1)=zBT (jH f (n+1)) (f (n+1+1)):=rfl;rw[e];exact h1.mono (by omega)
theorem zAD {a:Int × Int} (h:a.1<=a.2):0<=zX a:=(zD1 h).nonneg
theorem zFK {B s N:Nat} {f:Nat->Int × Int} (hs:1<=s) (hle:∀ n,(f n).1<=(f n).2) (h:∀ n,Abs (f n) (Q (B-s*n))) (hN:zT f N):Abs (zM f N) (2*Q B):=by
 have h1:=zFC hs h hN N (Yj _)
 have h2:Abs (-zX (f N),zX (f N)) (Q (B-s*N)):=by
  have:=zAJ (h N);have:=zAD (hle N);exact⟨by simp;omega,by simp;omega,by simp;omega,by simp;omega⟩
 exact (h1.add h2).mono (by omega)
theorem zIF {B s N:Nat} {f:Nat->Int × Int} (hs:1<=s) (hle:∀ n,(f n).1<=(f n).2) (h:∀ n,Abs (f n) (Q (B-s*n))) (hN:zT f N) (CO:1<=N):Abs (zM f N) (Q B+2*Q (B-s)):=by
 obtain⟨n,rfl⟩:∃ n,N=n+1:=⟨N-1,by omega⟩
 have h1:=sum_abs1 hs h hN n (Yj _)
 have h2:Abs (-zX (f (n+1)),zX (f (n+1))) (Q (B-s*(n+1))):=by
  have:=zAJ (h (n+1));have:=zAD (hle (n+1));exact⟨by simp;omega,by simp;omega,by simp;omega,by simp;omega⟩
 exact (h1.add h2).mono (by omega)
theorem zF0 {f:Nat->Int × Int} (hle:∀ n,(f n).1<=(f n).2) (n:Nat):(jH f n).1<=(jH f n).2:=by
 induction n with
 | zero=>exact hle 0
 | succ n ih=>simp only[jH,zBT];have:=hle (n+1);omega
theorem zB7 {f:Nat->Int × Int} (hle:∀ n,(f n).1<=(f n).2) (n:Nat):(zM f n).1<=(zM f n).2:=by
 have h1:=zF0 hle n;have h2:=zAD (hle n);simp only[zM,zBT];omega
theorem zMC {f:Nat->Int × Int} {W:Int} (hw:∀ n,(f n).2-(f n).1<=W) (n:Nat):(jH f n).2-(jH f n).1<=((n:Int)+1)*W:=by
 induction n with
 | zero=>simp only[jH];have:=hw 0;simp;omega
 | succ n ih =>
  simp only[jH,zBT];have:=hw (n+1)
  have e:(((n+1:Nat):Int)+1)*W=((n:Int)+1)*W+W:=by
   have:(((n+1:Nat):Int)+1)=((n:Int)+1)+1:=by omega
   rw[this,Int.add_mul,Int.one_mul]
  omega
theorem zBW {f:Nat->Int × Int} {W:Int} {N:Nat} (hw:∀ n,(f n).2-(f n).1<=W) (hN:zT f N):(zM f N).2-(zM f N).1<=((N:Int)+1)*W+2:=by
 have h1:=zMC hw N;have h2:=hN.1;simp only[zM,zBT];omega
theorem zN9 {g:Nat->Rat} {N:Nat} {b:Rat} (hb:AB (g N) b) (hh:∀ n c,N<=n->AB (g n) c->AB (g (n+1)) (c/2)) (i:Nat):AB (g (N+i)) (b*q2 i)/\AB (S g (N+1+i)-S g (N+1)) (b*(1-q2 i)):=by
 induction i with
 | zero=>simp only[Nat.add_zero,q2];exact⟨hb.mono (by grind),by constructor<;>grind⟩
 | succ i ih =>
  obtain⟨h1,h2⟩:=ih;have h3:=hh (N+i) _ (by omega) h1
  have e1:q2 (i+1)=q2 i/2:=rfl;have e2:S g (N+1+(i+1))=S g (N+1+i)+g (N+1+i):=rfl;have e3:N+1+i=N+(i+1):=by omega
  refine⟨h3.mono (by rw[e1];grind),?_⟩
  rw[e2,e1];have h4:=h2.add h3;rw[show N+i+1=N+1+i by omega] at h4
  have e4:S g (N+1+i)-S g (N+1)+g (N+1+i)=S g (N+1+i)+g (N+1+i)-S g (N+1):=by grind
  rw[e4] at h4;exact h4.mono (by grind)
theorem zG3 {B N:Nat} {f:Nat->Int × Int} {g:Nat->Nat->Rat} (hle:∀ n,(f n).1<=(f n).2) (h:∀ n,n<=N->Iv B (f n) (λ M=>g n M)) (M0:Nat) (hh:∀ M,M0<=M->∀ n b,N<=n->AB (g n M) b->AB (g (n+1) M) (b/2)):Iv B (zM f N) (λ M=>S (λ k=>g k M) M):=by
 have h1:∀ n,n<=N->Iv B (jH f n) (λ M=>S (λ k=>g k M) (n+1)):=λ n hn=>by
  induction n with
  | zero=>exact Has.of_eq (h 0 (by omega)) λ M=>by simp only[S];grind
  | succ n ih=>exact Has.of_eq ((ih (by omega)).add (h (n+1) hn)) λ M=>by simp only[S]
 have h2:=h1 N (Yj _)
 have h3:Iv B (-zX (f N),zX (f N)) (λ M=>S (λ k=>g k M) M-S (λ k=>g k M) (N+1)):=by
  have hr:=zD1 (hle N);have q:=jJ B;have k1:=h N (Yj _)
  intro e he
  obtain⟨N1,k2⟩:=k1 e he;refine⟨N1+M0+N+1,λ M hM=>?_⟩
  obtain⟨a1,a2⟩:=k2 M (by omega)
  have l1:((-zX (f N):Int):Rat)/(Q B:Rat)<=((f N).1:Rat)/(Q B:Rat):=jX q (by rw[rdm q];exact jG hr.1)
  have l2:((f N).2:Rat)/(Q B:Rat)<=((zX (f N):Int):Rat)/(Q B:Rat):=jX q (by rw[rdm q];exact jG hr.2.2.2)
  have l3:((-zX (f N):Int):Rat)/(Q B:Rat) = -(((zX (f N):Int):Rat)/(Q B:Rat)):=by
   rw[Rat.intCast_neg,Yp,Yp,Rat.neg_mul]
  have hb:AB (g N M) (((zX (f N):Int):Rat)/(Q B:Rat)+e):=by constructor<;>grind
  obtain⟨i,rfl⟩:∃ i,M=N+1+i:=⟨M-(N+1),by omega⟩
  have s:=(zN9 (g:=λ k=>g k (N+1+i)) hb (λ n c hn hc=>hh _ (by omega) n c hn hc) i).2
  have p:=kW i;have nn:=hb.nonneg
  have s':=s.mono (b:=((zX (f N):Int):Rat)/(Q B:Rat)+e) (by
   have:=Ye nn (Yh p)
   grind)
  obtain⟨s1,s2⟩:=s';simp only[];rw[l3];constructor<;>grind
 exact Has.of_eq (h2.add h3) λ M=>by grind
def zW (B:Nat) (sm:Int × Int):Nat->Int × Int
 | 0=>(Q B,Q B)
 | n+1=>zJ (yZ B (zW B sm n) sm) 1 ((n:Int)+1)
theorem yX (B:Nat) (sm:Int × Int) (n:Nat):(zW B sm n).1<=(zW B sm n).2:=by
 cases n with
 | zero=>exact Int.le_refl _
 | succ n=>exact kK (zBO B) (by omega) (by omega)
theorem zBG {B:Nat} {sm:Int × Int} (hB:8<=B) (hs:Abs sm (Q (B-8))) (n:Nat):Abs (zW B sm n) (Q (B-8*n)):=by
 induction n with
 | zero=>have:=zF B;exact⟨by simp[zW];omega,by simp[zW],by simp[zW];omega,by simp[zW]⟩
 | succ n ih=>exact zEK (zCD ih hs (zN4 hB n)) (by omega) (by omega) (by omega)
theorem zJK {B:Nat} (hB:8<=B):Q B=256*Q (B-8):=by
 have:=jI 8 (B-8);rw[show 8+(B-8)=B by omega] at this
 rw[this];rfl
theorem zDT {B:Nat} {sm:Int × Int} {ws:Int} (hB:8<=B) (hs:Abs sm (Q (B-8))) (W3:sm.1<=sm.2) (hw:sm.2-sm.1<=ws) (n:Nat):(zW B sm n).2-(zW B sm n).1<=2*ws+4:=by
 induction n with
 | zero=>simp only[zW];omega
 | succ n ih =>
  have q:=zF (B-8);have e:=zJK hB;have m1:Q (B-8*n)<=Q B:=zK (by omega)
  have p1:=Int.mul_le_mul m1 hw (by omega) (by omega)
  have p2:=Yi ih (show 0<=Q (B-8) by omega)
  have hc:Q (B-8*n)*(sm.2-sm.1)+Q (B-8)*((zW B sm n).2-(zW B sm n).1)<=(ws+(2*ws+4+255)/256)*Q B:=by
   have e2:(ws+(2*ws+4+255)/256)*Q B=Q B*ws+Q (B-8)*(256*((2*ws+4+255)/256)):=by
    rw[Int.add_mul,Int.mul_comm ws];congr 1;rw[e];grind
   rw[e2];have:=Yi (show 2*ws+4<=256*((2*ws+4+255)/256) by omega) (show 0<=Q (B-8) by omega)
   omega
  have h1:=zAQ (zBG hB hs n) hs (yX B sm n) W3 hc;have hn:(0:Int)<(n:Int)+1:=by omega
  have hp:=Yl (show 0<=ws+(2*ws+4+255)/256+1 by omega) (show 0<=(n:Int) by omega)
  have h2:=kH (a:=yZ B (zW B sm n) sm) (n:=1) (d:=(n:Int)+1) (c:=ws+(2*ws+4+255)/256+1) hn (by
   rw[Int.mul_one,Int.mul_add,Int.mul_one];omega)
  simp only[zW];omega
theorem expT_has {B:Nat} {sm:Int × Int} {x:Nat->Rat} (h:Iv B sm x) (n:Nat):Iv B (zW B sm n) (λ M=>tm (x M) n):=by
 induction n with
 | zero =>
  have q:=jJ B;have e:(Q B:Rat)/(Q B:Rat)=1:=by rw[Yp,Rat.mul_inv_cancel _ (by grind)]
  show Has ((Q B:Rat)/(Q B:Rat)) ((Q B:Rat)/(Q B:Rat)) _
  rw[e];exact Has.const (c:=1) Rat.le_refl Rat.le_refl
 | succ n ih =>
  have:=(ih.mul h).scale (n:=1) (d:=(n:Int)+1) (by omega) (by omega)
  refine Has.of_eq this λ M=>?_
  have e:(((n:Int)+1:Int):Rat)=(n:Rat)+1:=by rw[Rat.intCast_add];rfl
  rw[e];simp only[tm];have hp:=zAT n;rw[Yp,Yp];simp;grind
theorem tm_half {x b:Rat} (hx:AB x (1/2)) (n:Nat) (h:AB (tm x n) b):AB (tm x (n+1)) (b/2):=by
 have e:=kQ x n;have hp:=zAT n;have g:=hx.mul h;rw[<- e] at g;have e3:tm x (n+1)=((n:Rat)+1)*tm x (n+1)/((n:Rat)+1):=by grind
 rw[e3];refine zC1 hp (g.mono ?_);have hn:(0:Rat)<=(n:Rat):=by exact_mod_cast Nat.zero_le n
 have:=Ye hn h.nonneg;grind
theorem Iv.little {B:Nat} {a:Int × Int} {x:Nat->Rat} (h:Iv B a x) {m:Int} (ha:Abs a m) (hm:4*m<=Q B):∃ N,∀ M,N<=M->AB (x M) (1/2):=by
 have q:=jJ B;obtain⟨N,h1⟩:=h (1/4) (by grind)
 refine⟨N,λ M hM=>?_⟩
 have:=h1 M hM
 have l1 : -(1/4:Rat)<=(a.1:Rat)/(Q B:Rat):=jY q (by
  have:((-(Q B):Int):Rat)<=((4*a.1:Int):Rat):=jG (by have:=ha.1;omega)
  rw[Rat.intCast_neg,Ym] at this;have e4:((4:Int):Rat)=4:=rfl;rw[e4] at this
  grind)
 have l2:(a.2:Rat)/(Q B:Rat)<=(1/4:Rat):=jX q (by
  have:((4*a.2:Int):Rat)<=((Q B:Int):Rat):=jG (by have:=ha.2.2.2;omega)
  rw[Ym] at this;have e4:((4:Int):Rat)=4:=rfl;rw[e4] at this
  grind)
 constructor<;>grind
theorem zC7 {B N:Nat} {sm:Int × Int} {x:Nat->Rat} (hB:8<=B) (h:Iv B sm x) (hs:Abs sm (Q (B-8))):Iv B (zM (zW B sm) N) (Ev x):=by
 obtain⟨M0,h0⟩:=h.little hs (by have:=zJK hB;have:=zF (B-8);omega)
 exact zG3 (yX B sm) (λ n _=>expT_has h n) M0 (λ M hM n b _ hb=>tm_half (h0 M hM) n hb)
def sqv (y:Nat->Rat):Nat->Nat->Rat
 | 0=>y
 | t+1=>λ M=>sqv y t M*sqv y t M
theorem sqI_has {B:Nat} {a:Int × Int} {y:Nat->Rat} (h:Iv B a y) (t:Nat):Iv B (sqI B a t) (sqv y t):=by
 induction t with
 | zero=>exact h
 | succ t ih=>exact ih.mul ih
theorem sqv_null {x:Nat->Rat} (h:Bdd x) (t:Nat):Null (λ M=>sqv (Ev x) t M-Ev (λ M=>(Q t:Rat)*x M) M):=by
 have hb:∀ t,Bdd (λ M=>(Q t:Rat)*x M):=λ t=>(Bdd.const _).mul h
 induction t with
 | zero =>
  have e:(λ M=>(Q 0:Rat)*x M)=x:=funext λ M=>by simp[Q]
  rw[e];exact null_zero.of_eq λ M=>by simp only[sqv];grind
 | succ t ih =>
  have b1:=yW (hb t);have b2:Bdd (sqv (Ev x) t):=b1.of_null (ih.neg.of_eq λ M=>by grind)
  have n1:=ih.bmul (b1.add b2);have n2:=zAB (hb t) (hb t)
  have e:(λ M=>(Q t:Rat)*x M+(Q t:Rat)*x M)=λ M=>(Q (t+1):Rat)*x M:=funext λ M=>by
   have:(Q (t+1):Rat)=2*(Q t:Rat):=by
    have:Q (t+1)=2*Q t:=rfl;rw[this,Ym];rfl
   rw[this];grind
  rw[e] at n2;refine (n1.add n2).of_eq λ M=>?_
  simp only[sqv];grind
theorem zFM {B N t:Nat} {a:Int × Int} {x:Nat->Rat} (hB:8<=B) (h:Iv B a x) (hs:Abs (zG a t) (Q (B-8))):Iv B (sqI B (zM (zW B (zG a t)) N) t) (Ev x):=by
 have hx:=Has.bdd h;have h1:=sqI_has (zC7 (N:=N) hB (h.down t) hs) t;have hb:Bdd (λ M=>x M/(Q t:Rat)):=Has.bdd (h.down t)
 have n1:=sqv_null hb t;have q:=jJ t
 have e:(λ M=>(Q t:Rat)*(x M/(Q t:Rat)))=x:=funext λ M=>by
  rw[Rat.mul_comm];exact rdm q
 rw[e] at n1;exact h1.congr (n1.neg.of_eq λ M=>by grind)
def eb (i:Nat):Nat:=if i<=10 then 12 else 12*2 ^ (i-10)
def cI:Nat->Int
 | 0=>66048
 | i+1=>cI i*cI i/65536+1
theorem Q_16 {B:Nat} (hB:16<=B):Q B=65536*Q (B-16)/\Q (B-8)=256*Q (B-16):=by
 have h1:=jI 16 (B-16);have h2:=jI 8 (B-16);rw[show 16+(B-16)=B by omega] at h1
 rw[show 8+(B-16)=B-8 by omega] at h2
 exact⟨by rw[h1];rfl,by rw[h2];rfl⟩
theorem zRT {B:Nat} {d:Int × Int} (hB:16<=B) (h:Abs d (Q B+2*Q (B-8))) (i:Nat):Abs (sqI B d i) (cI i*Q (B-16)):=by
 obtain⟨e1,e2⟩:=Q_16 hB
 induction i with
 | zero=>exact h.mono (by simp only[cI];omega)
 | succ i ih =>
  refine zCD ih ih ?_;rw[e1];have q:=zF (B-16);have h1:cI i*cI i<=cI (i+1)*65536:=by simp only[cI];omega
  have h2:=Yl (show 0<=Q (B-16) by omega) (show 0<=Q (B-16) by omega)
  have h3:=Yg h1 h2;generalize Q (B-16)=r at *;have e3:cI i*r*(cI i*r)=cI i*cI i*(r*r):=by grind
  have e4:cI (i+1)*r*(65536*r)=cI (i+1)*65536*(r*r):=by grind
  rw[e3,e4];exact h3
theorem cI_le:∀ i,i<11->cI i<=268435456:=by decide
theorem zRS {B:Nat} {d:Int × Int} (hB:16<=B) (h:Abs d (Q B+2*Q (B-8))) (i:Nat):Abs (sqI B d i) (Q (B+eb i)):=by
 by_cases hi:i<=10
 ·refine (zRT hB h i).mono ?_
  have e:eb i=12:=by simp[eb,hi]
  have e2:Q (B+12)=268435456*Q (B-16):=by
   have:=jI 28 (B-16);rw[show 28+(B-16)=B+12 by omega] at this
   rw[this];rfl
  rw[e,e2];exact Yg (cI_le i (by omega)) (by have:=zF (B-16);omega)
 ·obtain⟨j,rfl⟩:∃ j,i=10+j:=⟨i-10,by omega⟩
  clear hi
  have key:Abs (sqI B d (10+j)) (Q (B+12*2 ^ j)):=by
   induction j with
   | zero =>
    refine (zRT hB h 10).mono ?_
    have e2:Q (B+12*2 ^ 0)=268435456*Q (B-16):=by
     have:=jI 28 (B-16);rw[show 28+(B-16)=B+12*2 ^ 0 by omega] at this
     rw[this];rfl
    rw[e2];exact Yg (cI_le 10 (by omega)) (by have:=zF (B-16);omega)
   | succ j ih =>
    refine zCD ih ih ?_;rw[<- jI,<- jI];refine zK ?_;rw[Nat.pow_succ];omega
  by_cases hj:j=0
  ·subst hj;exact key
  ·have:eb (10+j)=12*2 ^ j:=by
    unfold eb;rw[if_neg (by omega)];congr 2;omega
   rw[this];exact key
def wb:Nat->Nat
 | 0=>0
 | i+1=>wb i+eb i+2
theorem sq_wide {B:Nat} {d:Int × Int} (hB:16<=B) (h:Abs d (Q B+2*Q (B-8))) (hd:d.1<=d.2) (i:Nat):(sqI B d i).1<=(sqI B d i).2/\(sqI B d i).2-(sqI B d i).1+1<=(d.2-d.1+1)*Q (wb i):=by
 induction i with
 | zero=>simp only[sqI,wb,Q];omega
 | succ i ih =>
  obtain⟨h1,h2⟩:=ih;refine⟨zBO B,?_⟩;have ha:=zRS hB h i;obtain⟨W,hW⟩:∃ W,W=(sqI B d i).2-(sqI B d i).1:=⟨_,rfl⟩;rw[<- hW] at h2
  have h3:=zAQ (B:=B) (c:=2*Q (eb i)*W) ha ha h1 h1 (by
   rw[<- hW,jI];generalize Q B=q;generalize Q (eb i)=r;have:q*r*W+q*r*W=2*r*W*q:=by grind
   omega)
  have e:Q (wb (i+1))=Q (wb i)*(4*Q (eb i)):=by
   have:wb (i+1)=wb i+(eb i+2):=by simp only[wb];omega
   rw[this,jI]
   congr 1
   have:=jI (eb i) 2;rw[this,Int.mul_comm];rfl
  rw[e];have q1:=zF (eb i);have p:=Yg h2 (show 0<=4*Q (eb i) by omega)
  rw[<- Int.mul_assoc];refine Int.le_trans ?_ p;have w0:0<=W:=by omega
  have p2:=Yl w0 (show 0<=Q (eb i) by omega)
  show (yZ B (sqI B d i) (sqI B d i)).2-(yZ B (sqI B d i) (sqI B d i)).1+1<=_
  have e5:(W+1)*(4*Q (eb i))=4*(W*Q (eb i))+4*Q (eb i):=by grind
  have e6:2*Q (eb i)*W=2*(W*Q (eb i)):=by grind
  rw[e5];rw[e6] at h3;omega
theorem zB8 {i j:Nat} (h:i<=j):eb i<=eb j:=by
 unfold eb;split
 ·split
  ·omega
  ·have:=Nat.pow_le_pow_right (show 0<2 by omega) (show 0<=j-10 by omega);simp at this;omega
 ·split
  ·omega
  ·have:=Nat.pow_le_pow_right (show 0<2 by omega) (show i-10<=j-10 by omega);omega
theorem wb_mono {i j:Nat} (h:i<=j):wb i<=wb j:=by
 obtain⟨d,rfl⟩:∃ d,j=i+d:=⟨j-i,by omega⟩
 clear h
 induction d with
 | zero=>exact Yj _
 | succ d ih=>show wb i<=wb (i+d)+eb (i+d)+2;omega
theorem zCT {B N t:Nat} {a:Int × Int} {ws:Int} (hB:16<=B) (hs:Abs (zG a t) (Q (B-8))) (ha:a.1<=a.2) (hw:a.2-a.1<=ws*Q t) (hN:zT (zW B (zG a t)) N) :
  (sqI B (zM (zW B (zG a t)) N) t).1<=(sqI B (zM (zW B (zG a t)) N) t).2/\Abs (sqI B (zM (zW B (zG a t)) N) t) (Q (B+eb t))/\N<=B/8+1 /\
  (sqI B (zM (zW B (zG a t)) N) t).2-(sqI B (zM (zW B (zG a t)) N) t).1<=(((N:Int)+1)*(2*ws+6)+3)*Q (wb t):=by
 have q:=zF t
 have W3:(zG a t).1<=(zG a t).2:=by
  have:=kK (a:=a) (n:=1) (d:=Q t) ha (by omega) (by omega)
  simpa [zJ,zG] using this
 have W4:(zG a t).2-(zG a t).1<=ws+1:=zBE (by omega) hw
 have hT:=zBG (by omega) hs
 have CO:1<=N:=by
  refine Nat.pos_of_ne_zero λ e=>?_
  have:=hN.1;rw[e] at this
  have h2:zX (zW B (zG a t) 0)=Q B:=by
   show zHK (Q B) (-Q B)=Q B
   have:=zF B;unfold zHK;rw[if_neg (by omega)]
  rw[h2] at this;have:=zK hB;have:Q 16=65536:=rfl;omega
 have hd:=zIF (s:=8) (by omega) (yX B (zG a t)) hT hN CO
 have wE:=zB7 (yX B (zG a t)) N;have NC:=zBW (zDT (by omega) hs W3 W4) hN
 obtain⟨g1,g2⟩:=sq_wide hB hd wE t
 have hle:N<=B/8+1:=by
  obtain⟨N',n1,n2⟩:=zBQ (s:=8) (by omega) hT
  refine Nat.le_trans (Nat.not_lt.1 λ E2=>?_) n1
  have:=hN.2 N' E2;have:=n2.1;omega
 refine⟨g1,zRS hB hd t,hle,?_⟩;have q2:=zF (wb t);have e:2*(ws+1)+4=2*ws+6:=by omega
 rw[e] at NC;have:=Yg (show (zM (zW B (zG a t)) N).2-(zM (zW B (zG a t)) N).1+1<=((N:Int)+1)*(2*ws+6)+3 by omega) (show 0<=Q (wb t) by omega)
 omega
open Go.RowKit
attribute [local go_sem ↓] Go.wp_at_zero Go.wp_at_succ
theorem zDQ (x:Int) (b:Nat):zCR x (b:Int)=x/Q b:=by unfold zCR;rw[if_pos (by omega)];simp
theorem zIQ (w:World) (s t:Sp) (k b:Nat) (a c:Int × Int) (hs:SpAt w s k a.1 a.2) (ht:SpAt w t k c.1 c.2) (hk:k<=300000000) (hb:s.bits=(b:Int)) (rN:b<=1000000) :
  Calls Tryz.prog 124 #[.agg s.q,.agg t.q] w (zL w b (k+k+8) (yZ b a c).1 (yZ b a c).2) :=
 (zKL w s t k a.1 a.2 c.1 c.2 hs ht hk (by omega) (by omega)).mono λ r w' h=>by
  rw[hb,zDQ,zDQ] at h;exact h
theorem zCI (w:World) (s t:Sp) (k b:Nat) (a c:Int × Int) (hs:SpAt w s k a.1 a.2) (ht:SpAt w t k c.1 c.2) (hk:k<=700000000) (hb:s.bits=(b:Int)) :
  Calls Tryz.prog 51 #[.agg s.q,.agg t.q] w (zL w b (k+1) (zBT a c).1 (zBT a c).2) :=
 (zF3 w s t k a.1 a.2 c.1 c.2 hs ht hk).mono λ r w' h=>by rw[hb] at h;exact h
theorem zGR (w:World) (s t:Sp) (k b:Nat) (a c:Int × Int) (hs:SpAt w s k a.1 a.2) (ht:SpAt w t k c.1 c.2) (hk:k<=600000000) (hb:s.bits=(b:Int)) :
  Calls Tryz.prog 92 #[.agg s.q,.agg t.q] w (zL w b (k+1) (zHY a c).1 (zHY a c).2) :=
 (zKM w s t k a.1 a.2 c.1 c.2 hs ht hk).mono λ r w' h=>by rw[hb] at h;exact h
theorem zHO (w:World) (s:Sp) (k b:Nat) (d:Int) (a:Int × Int) (hs:SpAt w s k a.1 a.2) (hk:k<=300000000) (hb:s.bits=(b:Int)) (hd:0<d) (mz:d<=9223372036854775807) :
  Calls Tryz.prog 123 #[.agg s.q,.int .i64 d] w (zL w b (k+14) (zJ a 1 d).1 (zJ a 1 d).2) :=
 (zQZ w s k d a.1 a.2 hs hk hd mz).mono λ r w' h=>by rw[hb] at h;exact h
theorem zDA (w:World) (s:Sp) (k b:Nat) (d:Int) (a:Int × Int) (hs:SpAt w s k a.1 a.2) (hk:k<=300000000) (hb:s.bits=(b:Int)) (hd : -9223372036854775808<=d) (mz:d<=9223372036854775807) :
  Calls Tryz.prog 156 #[.agg s.q,.int .i64 d] w (zL w b (k+4) (kF a d).1 (kF a d).2) :=
 (zR2 w s k d a.1 a.2 hs hk hd mz).mono λ r w' h=>by rw[hb] at h;exact h
theorem exp1_iv (w:World) (B0:Nat) (s u:Sp) (k b:Nat) (n:Int) (a c:Int × Int) (hs:SpAt w s k a.1 a.2) (hu:SpAt w u k c.1 c.2) (hU:SpC w B0 u) (hk:k<=100000000) (hb:s.bits=(b:Int)) (rN:b<=1000000) (hn:0<n) (bL:n<=9223372036854775807) :
  Calls Tryz.prog 122 #[.agg s.q,.int .i64 n,.pointer (some ⟨B0,0,none⟩)] w (zL w b (k+k+22) (zJ (yZ b a c) 1 n).1 (zJ (yZ b a c) 1 n).2):=by
 obtain⟨W,hW⟩:∃ W,W=(w.alloc (.cells s.q 31)).alloc (.cells zCq 31):=⟨_,rfl⟩;have j6:Below w.heap.size w W:=by rw[hW];exact bl2 _ _ _
 have A:SpC W w.heap.size s:=by rw[hW];constructor<;>simp[go_sem]
 have R:NoC W (w.heap.size+1):=by rw[hW];constructor<;>simp[go_sem]
 have HS:=zC (hs.bw j6);have HU:=zC (hu.bw j6);have l0:=hU.lt;obtain⟨y0,y1,y2,y3,y4⟩:=hU;have HB:=zC hb;clear hs hu hb A
 go_enter Tryz.func122,Tryz.ntmps122
 go_wp2_with fail;rw[<- hW];clear hW;refine (zIQ _ s u k b a c (zA HS) (zA HU) (by omega) (zA HB) rN).mono ?_
 rintro r' w1 ⟨v,rfl,J1,I6,b9⟩;have HV:=zC J1;clear J1 y0 y1 y2 y3 y4;replace R:=R.bw b9;replace j6:=zB j6 b9;go_wp2_with fail;refine (zHO _ v _ b n _ I6 (by omega) (zA HV) hn bL).mono ?_
 rintro r' w2 ⟨t,rfl,G8,K4,j5⟩;obtain⟨q0,q1,q2,q3,q4,q5⟩:=R.bw j5;replace j6:=zB j6 j5;have HT:=zC G8;clear G8;go_wp2_with fail;refine bodyPost_ret (v:=.agg t.q) (by simp[results,Tryz.results122,go_sem,q0,q1,q2,q3,q4]) rfl ⟨t,rfl,zA HT,?_,?_⟩
 ·exact SpAt.put5 (K4.mono (by omega)) q0 q1 q2 q3 q4 _ _ _ _ _
 ·exact kM j6 (Nat.le_succ _) _ _ _ _ _
structure VrC (w:World) (B:Nat) (s:Sp):Prop where
 c:SpC w B s
 fz:∀ o,w.frozen? ⟨B,o,none⟩=false
theorem VrC.lt {w:World} {B:Nat} {s:Sp} (h:VrC w B s):B<w.heap.size:=h.c.lt
theorem VrC.bw {w w':World} {B:Nat} {s:Sp} (h:VrC w B s) (hb:Below w.heap.size w w'):VrC w' B s :=
 ⟨h.c.bw hb,λ o=>(hb.frozen (p:=⟨B,o,none⟩) h.lt).trans (h.fz o)⟩
abbrev yP (w:World) (B:Nat) (u:Sp):World:=((((w.setCell ⟨B,0,none⟩ (.bool u.ln)).setCell ⟨B,1,none⟩ (.slice u.la u.lN u.lc)).setCell ⟨B,2,none⟩ (.bool u.hn)).setCell ⟨B,3,none⟩ (.slice u.ha u.hN u.hc)).setCell ⟨B,4,none⟩ (.int .i64 u.bits)
theorem zJY {w:World} {B B':Nat} (h:∀ o,w.frozen? ⟨B,o,none⟩=false) (u:Sp):∀ o,(yP w B' u).frozen? ⟨B,o,none⟩=false:=λ o=>by
 show (yP w B' u).frozen? ⟨B,o,none⟩=false
 unfold yP;rw[zV,zV,zV,zV,zV];exact h o
theorem VrC.put {w:World} {B:Nat} {s:Sp} (h:VrC w B s) (u:Sp):VrC (yP w B u) B u:=by
 refine⟨?_,zJY h.fz u⟩;obtain⟨⟨q0,q1,q2,q3,q4⟩,q5⟩:=h;constructor<;>simp[go_sem,q0,q1,q2,q3,q4]
theorem SpC.off {w:World} {B B':Nat} {s:Sp} (h:SpC w B s) (hne:B≠B') (u:Sp):SpC (yP w B' u) B s:=h.put hne _ _ _ _ _
theorem VrC.off {w:World} {B B':Nat} {s:Sp} (h:VrC w B s) (hne:B≠B') (u:Sp):VrC (yP w B' u) B s:=⟨h.c.off hne u,zJY h.fz u⟩
theorem NoC.off {w:World} {B B':Nat} (h:NoC w B) (hne:B≠B') (u:Sp):NoC (yP w B' u) B:=by
 obtain⟨q0,q1,q2,q3,q4,q5⟩:=h;exact⟨yO q0 hne _ _ _ _ _,yO q1 hne _ _ _ _ _,yO q2 hne _ _ _ _ _,yO q3 hne _ _ _ _ _,yO q4 hne _ _ _ _ _,zJY q5 u⟩
theorem SpAt.put {w:World} {s:Sp} {k:Nat} {lo hi:Int} (h:SpAt w s k lo hi) {B:Nat} {z:Sp} (hB:SpC w B z) (u:Sp):SpAt (yP w B u) s k lo hi:=SpAt.put5 h hB.c0 hB.c1 hB.c2 hB.c3 hB.c4 _ _ _ _ _
theorem zAL {B B':Nat} {a w:World} (h:Below B a w) (hB:B<=B') (u:Sp):Below B a (yP w B' u):=kM h hB _ _ _ _ _
def TwoS (W wx:World) (s t:Sp) (p q:Value):Prop :=
 ∃ B B',p=.pointer (some ⟨B,0,none⟩)/\q=.pointer (some ⟨B',0,none⟩)/\W.heap.size<=B/\W.heap.size<=B'/\B≠B'/\VrC wx B s/\VrC wx B' t/\Below W.heap.size W wx
theorem zR3 (V:World) (s t:Sp) (T:TypeId):TwoS V ((V.alloc (.cells s.q T)).alloc (.cells t.q T)).drew s t (.pointer (some ⟨V.heap.size,0,none⟩)) (.pointer (some ⟨V.heap.size+1,0,none⟩)):=by
 refine⟨_,_,rfl,rfl,Yj _,Nat.le_succ _,Yo (Nat.lt_succ_self _),VrC.bw (w:=(V.alloc (.cells s.q T)).alloc (.cells t.q T)) ⟨⟨by simp[go_sem],by simp[go_sem],by simp[go_sem],by simp[go_sem],by simp[go_sem]⟩,λ o=>by simp[go_sem]⟩ (Below.refl _ _).drew,VrC.bw (w:=(V.alloc (.cells s.q T)).alloc (.cells t.q T)) ⟨⟨by simp[go_sem],by simp[go_sem],by simp[go_sem],by simp[go_sem],by simp[go_sem]⟩,λ o=>by simp[go_sem]⟩ (Below.refl _ _).drew,(bl2 _ _ _).drew⟩
theorem twoS_b (V:World) (s t:Sp) (T:TypeId):TwoS V ((V.alloc (.cells t.q T)).alloc (.cells s.q T)).drew s t (.pointer (some ⟨V.heap.size+1,0,none⟩)) (.pointer (some ⟨V.heap.size,0,none⟩)):=by
 obtain⟨B,B',h1,h2,h3,h4,h5,h6,h7,h8⟩:=zR3 V t s T;exact⟨B',B,h2,h1,h4,h3,λ e=>h5 e.symm,h7,h6,h8⟩
structure SumSt (W wr:World) (B5 B6 b K:Nat) (s X Y:Sp) (f:Nat->Int × Int) (i:Nat):Prop where
 x:VrC wr B5 X
 y:VrC wr B6 Y
 xp:SpAt wr X K (jH f i).1 (jH f i).2
 yp:SpAt wr Y K (f i).1 (f i).2
 xb:X.bits=(b:Int)
 yb:Y.bits=(b:Int)
 fs:SpC wr W.heap.size s
 no:NoC wr (W.heap.size+1)
 be:Below W.heap.size W wr
 l5:W.heap.size+1<B5
 l6:W.heap.size+1<B6
 ne:B5≠B6
theorem SumSt.bw {W wr wr':World} {B5 B6 b K:Nat} {s X Y:Sp} {f:Nat->Int × Int} {i:Nat} (h:SumSt W wr B5 B6 b K s X Y f i) (hb:Below wr.heap.size wr wr'):SumSt W wr' B5 B6 b K s X Y f i :=
 ⟨h.x.bw hb,h.y.bw hb,h.xp.bw hb,h.yp.bw hb,h.xb,h.yb,h.fs.bw hb,h.no.bw hb,zB h.be hb,h.l5,h.l6,h.ne⟩
theorem zKE (ff:Nat) (cs:Array Value) (Gp:∀ (args:Array Value) (w:World),(callFunc ff args).run Tryz.prog w=.ok (.enter ff args) w) (f:Nat->Int × Int) (N b K KF:Nat) (s:Sp) (W:World) (hs:SpAt W s K (f 0).1 (f 0).2) (hbits:s.bits=(b:Int)) (hb:b<=1000000) (hK:K<=100000000) (TI:KF<=900000000) (hN:zT f N) (wk:N<=1000000000)
  (hle:∀ n,(f n).1<=(f n).2) (T3:∀ n,n<=N -> -P K<(f n).1/\(f n).2<P K) (hfitS:∀ n,n<=N -> -P K<(jH f n).1/\(jH f n).2<P K)
  (hF:∀ (n:Nat) (u:Sp) w',n<N->u.bits=(b:Int)->SpAt w' u K (f n).1 (f n).2->Below W.heap.size W w'->Calls Tryz.prog ff (#[.agg u.q,.int .i64 ((n:Int)+1)] ++ cs) w' (zL w' b KF (f (n+1)).1 (f (n+1)).2)) :
  Calls Tryz.prog 121 #[.agg s.q,.func (.func ff) #[] cs] W (zL W b (K+3) (zM f N).1 (zM f N).2):=by
 have HF:=zC hF;have HN:=zC hN;have aY:=zC hbits;clear hF hN hbits;obtain⟨V,hV⟩:∃ V,V=(W.alloc (.cells s.q 31)).alloc (.cells zCq 31):=⟨_,rfl⟩;have qf:Below W.heap.size W V:=by rw[hV];exact bl2 _ _ _
 have A:SpC V W.heap.size s:=by rw[hV];constructor<;>simp[go_sem]
 have R:NoC V (W.heap.size+1):=by rw[hV];constructor<;>simp[go_sem]
 have HS:=zC (hs.bw qf);have lA:=A.lt;have lR:=R.lt;clear hs
 go_enter Tryz.func121,Tryz.ntmps121
 go_wp2;rw[<- hV];clear hV
 go_cut [5,6] (λ p q wx=>TwoS V wx s s p q)
 case first =>
  obtain⟨x0,x1,x2,x3,x4⟩:=A
  go_region
  all_goals
   go_wp2_with fail;go_meet
   first
    | with_reducible exact zR3 _ _ _ _
    | with_reducible exact twoS_b _ _ _ _
 case rest =>
 obtain⟨B5,B6,rfl,rfl,l5,l6,hne,X,Y,hB⟩:=hcut;have n5:W.heap.size+1<B5:=by omega
 have n6:W.heap.size+1<B6:=by omega
 have tF:SumSt W wc B5 B6 b K s s s f 0:=⟨X,Y,(zA HS).bw hB,(zA HS).bw hB,zA aY,zA aY,A.bw hB,R.bw hB,zB qf hB,n5,n6,hne⟩;clear X Y hB A R HS l5 l6 n5 n6 hne qf lA lR;go_wp2_with fail
 go_loopw [7] (λ nn wr=>∃ (i:Nat) (X Y:Sp),nn=.int .i64 ((i:Int)+1)/\i<=N/\SumSt W wr B5 B6 b K s X Y f i) (λ nn _=>N+1-(intOf nn).toNat)
 case atStart=>exact⟨0,s,s,rfl,Nat.zero_le _,tF⟩
 case round =>
  obtain⟨i,X,Y,rfl,hi,st⟩:=hrel;have fX:=zAD (hle i);obtain⟨⟨y0,y1,y2,y3,y4⟩,y5⟩:=st.y;go_wp2_with fail;refine (zD2 _ Y K _ _ st.yp (by omega)).mono ?_
  rintro r w1 ⟨o7,a1,n1,c1,rfl,s9,b9⟩;replace st:=st.bw b9;clear b9 y0 y1 y2 y3 y4 y5;go_wp2_with fail;refine (zDL _ _ _ _ _ (zX (f i)) _ s9 fX).mono ?_;rintro r w2 ⟨l,hlen,rfl,j5⟩;replace st:=st.bw j5;clear j5 s9
  by_cases I5:i<N
  ·have hl:1<l:=by
    refine Int.not_le.1 λ hl=>?_
    have:=zPZ hlen hl fX;have:=(zA HN).2 i I5;omega
   clear hlen;obtain⟨⟨y0,y1,y2,y3,y4⟩,y5⟩:=st.y;go_wp2_with fail;refine (zA HF i Y _ I5 st.yb st.yp st.be).mono ?_;rintro r w3 ⟨u,rfl,D5,B9,m8⟩;replace st:=st.bw m8;replace B9:=B9.fits (K:=K) (hle _) (T3 _ (by omega)).1 (T3 _ (by omega)).2
   have HU:=zC D5;clear m8 y0 y1 y2 y3 y4 y5 D5;obtain⟨V3,G9⟩:∃ V3,V3=yP w3 B6 u:=⟨_,rfl⟩;have X3:VrC V3 B5 X:=by rw[G9];exact st.x.off st.ne u
   have Y3:VrC V3 B6 u:=by rw[G9];exact st.y.put u
   have P3:SpAt V3 X K (jH f i).1 (jH f i).2:=by rw[G9];exact st.xp.put st.y.c u
   have U3:SpAt V3 u K (f (i+1)).1 (f (i+1)).2:=by rw[G9];exact B9.put st.y.c u
   have F3:SpC V3 W.heap.size s:=by rw[G9];exact st.fs.off (by have:=st.l6;omega) u
   have R3:NoC V3 (W.heap.size+1):=by rw[G9];exact st.no.off (by have:=st.l6;omega) u
   have B3:Below W.heap.size W V3:=by rw[G9];exact zAL st.be (by have:=st.l6;omega) u
   have xb:=zC st.xb;have l5:=st.l5;have l6:=st.l6;have hne:=st.ne;have lY:=st.y.lt;have lX:=st.x.lt;obtain⟨⟨y0,y1,y2,y3,y4⟩,y5⟩:=st.y;obtain⟨⟨x0,x1,x2,x3,x4⟩,x5⟩:=st.x;clear st B9;go_wp2_with fail;have O0:V3=yP w3 B6 u:=G9;unfold yP at O0;rw[<- O0];clear O0 y0 y1 y2 y3 y4 y5 x0 x1 x2 x3 x4 x5;have DB:B5<V3.heap.size:=X3.lt;refine (zCI _ X u K b (jH f i) (f (i+1)) P3 U3 (by omega) (zA xb)).mono ?_
   rintro r w4 ⟨v,rfl,J1,I6,A5⟩;have X4:=X3.bw A5;have Y4:=Y3.bw A5;have U4:=U3.bw A5;have F4:=F3.bw A5;have R4:=R3.bw A5;have B4:=zB B3 A5;have e:zBT (jH f i) (f (i+1))=jH f (i+1):=rfl;rw[e] at I6;replace I6:=I6.fits (K:=K) (zF0 hle _) (hfitS _ (by omega)).1 (hfitS _ (by omega)).2
   have HV:=zC J1;clear A5 J1 X3 Y3 P3 U3 F3 R3 B3 G9;have stn:SumSt W (yP w4 B5 v) B5 B6 b K s v u f (i+1):=⟨X4.put v,Y4.off (Ne.symm hne) v,I6.put X4.c v,U4.put X4.c v,zA HV,zA HU,F4.off (by omega) v,R4.off (by omega) v,zAL B4 (by omega) v,l5,l6,hne⟩
   unfold yP at stn;obtain⟨⟨x0,x1,x2,x3,x4⟩,x5⟩:=X4;go_wp2_with fail
   go_roundw
   case rel=>exact⟨i+1,v,u,by go_num,by omega,stn⟩
   case measure=>simp[intOf];omega
  ·have fB:i=N:=by omega
   subst fB
   have hl:¬ 1<l:=by
    have h1:=(zA HN).1
    intro hl
    obtain⟨g1,g2,g3⟩:=hlen
    by_cases hp:0<zX (f i)
    ·obtain⟨L,e1,e2,e3⟩:=g3 hp
     have:1<=L:=by omega
     have:=zK this;have:Q 1=2:=rfl;omega
    ·have:=g2 (by omega);omega
   clear hlen;obtain⟨⟨y0,y1,y2,y3,y4⟩,y5⟩:=st.y;go_wp2_with fail;refine (zD2 _ Y K _ _ st.yp (by omega)).mono ?_
   rintro r w3 ⟨C7,a3,n3,c3,rfl,E8,m8⟩;replace st:=st.bw m8;clear m8 y0 y1 y2 y3 y4 y5;obtain⟨V3,G9⟩:∃ V3,V3=w3.alloc (.cells #[.bool C7,.slice a3 n3 c3] 29):=⟨_,rfl⟩;have bV:Below w3.heap.size w3 V3:=by rw[G9];exact bl1 _ _
   have L3:NmC V3 w3.heap.size ⟨C7,a3,n3,c3⟩:=by rw[G9];exact zFW w3 ⟨C7,a3,n3,c3⟩ _
   have P7:=st.bw bV;have HI:=zC (E8.bw bV);have l5:=st.l5;have lX:=st.x.lt;have T6:=zC (show ∀ w',Below V3.heap.size V3 w'->(cK w' B5 X (w'.cell? ⟨w3.heap.size,0,none⟩=some (.bool C7)/\w'.cell? ⟨w3.heap.size,1,none⟩=some (.slice a3 n3 c3)/\w'.cell? ⟨W.heap.size,4,none⟩=some (.int .i64 s.bits))) from λ w' hB=>⟨(P7.x.c.bw hB).c0,(P7.x.c.bw hB).c1,(P7.x.c.bw hB).c2,(P7.x.c.bw hB).c3,(P7.x.c.bw hB).c4,(L3.bw hB).c0,(L3.bw hB).c1,(P7.fs.bw hB).c4⟩)
   have lL:=L3.lt;have R3:=P7.no;have fJ:=R3.lt;clear st L3 E8;go_wp2_with fail;rw[<- G9];clear G9;obtain⟨x0,x1,x2,x3,x4,x5,x6,x7⟩:=zA T6 _ (Below.refl _ _);have D8:Below V3.heap.size V3 V3.drew:=(Below.refl _ _).drew;have Bw:W.heap.size+1≠B5:=by omega
   have oV:W.heap.size+1≠w3.heap.size:=by omega
   have DE:W.heap.size+1≠W.heap.size:=by omega
   go_region_held3 (λ w'=>cK w' B5 X (w'.cell? ⟨w3.heap.size,0,none⟩=some (.bool C7)/\w'.cell? ⟨w3.heap.size,1,none⟩=some (.slice a3 n3 c3)/\w'.cell? ⟨W.heap.size,4,none⟩=some (.int .i64 s.bits))) (first|exact zA T6 _ (by with_reducible first|exact D8|exact A6|exact y9)|(dsimp only[cK,cK0,nK,nK0,rK,rK0];go_keep)|go_keep)
    (first
     | (go_at_call 51;have hq:=y9;refine (zCI _ X ⟨E5,a4,n4,c4,C7,a3,n3,c3,s.bits⟩ (K+1) b (jH f i) (-zX (f i),zX (f i)) ((P7.xp.bw y9).mono (by omega)) ⟨H8,(zA HI).bw y9⟩ (by omega) P7.xb).mono ?_;rintro r' w5 ⟨v,rfl,J1,I6,E4⟩;have A6:=zB y9 E4;have HV:=zC J1;clear J1;obtain⟨q0,q1,q2,q3,q4,q5⟩:=R3.bw A6;obtain⟨y0,y1,y2,y3,y4,y5,y6,y7⟩:=zA T6 _ A6)
     | (go_at_call 87;refine (zCV _ _ _ _ (K+1) (zX (f i)) _ ((zA HI).bw D8) (by omega)).mono ?_;rintro r' w4 ⟨E5,a4,n4,c4,rfl,H8,A5⟩;have y9:=zB D8 A5))
   all_goals
    go_wp2_with fail;refine bodyPost_ret (v:=.agg v.q) (by simp[results,Tryz.results121,go_sem,q0,q1,q2,q3,q4]) rfl ⟨v,rfl,zA HV,?_,?_⟩
    ·exact SpAt.put5 (I6.mono (by omega)) q0 q1 q2 q3 q4 _ _ _ _ _
    ·exact kM (zB P7.be A6) (Nat.le_succ _) _ _ _ _ _
theorem en_exp (args:Array Value) (w:World):(callFunc 122 args).run Tryz.prog w=.ok (.enter 122 args) w:=by simp[go_sem,callFunc,Tryz.func122];kernel_rfl
theorem len_uniq {z l l':Int} (h:zBM z l) (h':zBM z l') (hz:0<=z):l=l':=by
 obtain⟨a1,a2,a3⟩:=h;obtain⟨b1,b2,b3⟩:=h'
 by_cases hp:0<z
 ·obtain⟨L,e1,e2,e3⟩:=a3 hp
  obtain⟨L',f1,f2,f3⟩:=b3 hp
  have:L=L':=by
   rcases Nat.lt_trichotomy L L' with h|h|h
   ·have:=zK (show L+1<=L' by omega);omega
   ·exact h
   ·have:=zK (show L'+1<=L by omega);omega
  omega
 ·have:=a2 (by omega);have:=b2 (by omega);omega
theorem exp_one {b N:Nat} {sm:Int × Int} (hb:16<=b) (hN:zT (zW b sm) N):1<=N:=by
 refine Nat.pos_of_ne_zero λ e=>?_
 have:=hN.1;rw[e] at this
 have h2:zX (zW b sm 0)=Q b:=by
  show zHK (Q b) (-Q b)=Q b
  have:=zF b;unfold zHK;rw[if_neg (by omega)]
 rw[h2] at this;have:=zK hb;have:Q 16=65536:=rfl;omega
theorem zPJ {z l l' bt:Int} {b t:Nat} (h':zBM z l') (h:zBM z l) (ht:(t:Int)=max 0 (l-b+8)) (hb:bt=(b:Int)) (rN:b<=1000000) (fe:t<=1000000) (hz:0<=z) :
  (if 0<IntKind.i64.wrap (IntKind.i64.wrap (l'-bt)+8) then IntKind.i64.wrap (IntKind.i64.wrap (l'-bt)+8) else 0)=(t:Int):=by
 have e:=len_uniq h' h hz;have l0:=h.1;have l1:l<=3000000:=by omega
 subst e;rw[hb,jC (l'-b) (by omega) (by omega),jC (l'-b+8) (by omega) (by omega)]
 split<;>omega
theorem zF4 (w:World) (s:Sp) (K b t N:Nat) (a:Int × Int) (l:Int) (hs:SpAt w s K a.1 a.2) (hbits:s.bits=(b:Int)) (hle:a.1<=a.2) (M3:16<=b) (hb:b<=1000000) (hl:zBM (zX a) l) (ht:(t:Int)=max 0 (l-b+8)) (fe:t<=1000000)
  (og:Abs (zG a t) (Q (b-8))) (hN:zT (zW b (zG a t)) N) (hK:Q (b+2)<P K) (hU:∀ i,i<=t -> -P K<(sqI b (zM (zW b (zG a t)) N) i).1/\(sqI b (zM (zW b (zG a t)) N) i).2<P K) (kr:K<=10000000) :
  Calls Tryz.prog 77 #[.agg s.q] w (zL w b K (sqI b (zM (zW b (zG a t)) N) t).1 (sqI b (zM (zW b (zG a t)) N) t).2):=by
 obtain⟨W,hW⟩:∃ W,W=(w.alloc (.cells s.q 31)).alloc (.cells zCq 31):=⟨_,rfl⟩;have j6:Below w.heap.size w W:=by rw[hW];exact bl2 _ _ _
 have A:SpC W w.heap.size s:=by rw[hW];constructor<;>simp[go_sem]
 have R:NoC W (w.heap.size+1):=by rw[hW];constructor<;>simp[go_sem]
 have HS:=zC (hs.bw j6);have lA:=A.lt;have lR:=R.lt;have HB:=zC hbits;have HT:=zC ht;have fX:=zAD hle;have HK:=zC (show ∀ w',Below W.heap.size W w'->(cK0 w' w.heap.size s) from λ w' hB=>⟨(A.bw hB).c0,(A.bw hB).c1,(A.bw hB).c2,(A.bw hB).c3,(A.bw hB).c4⟩)
 clear hs hbits ht
 go_enter Tryz.func77,Tryz.ntmps77
 go_wp2;rw[<- hW];clear hW;obtain⟨x0,x1,x2,x3,x4⟩:=zA HK _ (Below.refl _ _);have D8:Below W.heap.size W W.drew:=(Below.refl _ _).drew
 go_cut [3] (λ p wx=>p=.int .i64 (t:Int)/\Below W.heap.size W wx)
 case first =>
  go_region_held3 (λ w'=>cK0 w' w.heap.size s) (first|exact zA HK _ (by with_reducible first|exact D8|exact A6|exact y9)|(dsimp only[cK,cK0,nK,nK0,rK,rK0];go_keep)|go_keep)
   (first
    | (go_at_call 98;have hq:=y9;refine (zDL _ _ _ _ _ (zX a) _ s9 fX).mono ?_;rintro r' w2 ⟨l',hlen,rfl,j5⟩;have A6:=zB y9 j5)
    | (go_at_call 119;refine (zD2 _ s K _ _ ((zA HS).bw D8) (by omega)).mono ?_;rintro r' w1 ⟨o7,a1,n1,c1,rfl,s9,b9⟩;have y9:=zB D8 b9))
  all_goals go_wp2_with fail
  all_goals
   go_meet;refine⟨congrArg _ ?_,A6⟩;have e:=zPJ hlen hl (zA HT) (zA HB) hb fe fX;split at e<;>omega
 case rest =>
 obtain⟨rfl,E6⟩:=hcut;replace A:=A.bw E6;replace R:=R.bw E6;replace j6:=zB j6 E6;replace HS:=zC ((zA HS).bw E6);have lA:=A.lt;have lR:=R.lt;have HK:=zC (show ∀ w',Below wc.heap.size wc w'->(cK0 w' w.heap.size s) from λ w' hB=>⟨(A.bw hB).c0,(A.bw hB).c1,(A.bw hB).c2,(A.bw hB).c3,(A.bw hB).c4⟩)
 clear x0 x1 x2 x3 x4 D8 E6;obtain⟨x0,x1,x2,x3,x4⟩:=zA HK _ (Below.refl _ _);go_wp2_with fail
 go_cut [4] (λ p wx=>∃ (B:Nat) (u:Sp),p=.pointer (some ⟨B,0,none⟩)/\wc.heap.size<=B/\VrC wx B u/\SpAt wx u (K+5) (zG a t).1 (zG a t).2/\u.bits=(b:Int)/\Below wc.heap.size wc wx)
 case first =>
  go_region_held3 (λ w'=>cK0 w' w.heap.size s) (exact zA HK _ (by repeat' (first|with_reducible exact J6|with_reducible exact E9|with_reducible exact Below.refl _ _|with_reducible refine Below.drew ?_|with_reducible refine zO ?_ _|with_reducible refine Below.setCell ?_ (by first|exact Yj _|exact O6|exact O7) _)))
   (first
    | (go_at_call 120;have hq:=E9;refine (zEA _ _ _ _ K (t:Int) a.2 _ ((zA HS).hi.bw (by with_reducible first|exact E9|exact zO E9 _)) (by omega) (by omega) (by omega)).mono ?_;rintro r eA ⟨Y8,pG,tx,pH,rfl,P2,O4⟩;have M9:Below aQ.heap.size aQ eA:=(by with_reducible first|exact O4|exact zB (bl1 _ _) O4);have J6:=zB E9 M9;(try with_reducible have bo:=(zS aQ 31).bw O4);replace I8:=I8.bw M9;(try replace S6:=S6.bw M9);have O7:=J6.size;(try have mO:=S6.lt);(try have MJ:=Yo mO);(try have zg:=Nat.ne_of_gt mO);(try obtain⟨jv,jw,vy,vz,vA,Cf⟩:=S6);(try have mP:=bo.lt);(try have MK:=Yo mP);(try have zh:=Nat.ne_of_gt mP);(try obtain⟨jx,jy,vB,vC,vD,Cg⟩:=bo))
    | (go_at_call 96;refine (zK2 _ _ _ _ K (t:Int) a.1 _ ((zA HS).lo.bw (by with_reducible first|exact (Below.refl _ _).drew|exact (bl1 _ _).drew)) (by omega) (by omega) (by omega)).mono ?_;rintro r aQ ⟨aq,vN,wZ,vP,rfl,I8,O3⟩;have E9:Below wc.heap.size wc aQ:=(by with_reducible first|exact zB (Below.refl _ _).drew O3|exact zB (bl1 _ _).drew O3);(try with_reducible have S6:=((zS wc 31).bw (Below.refl _ _).drew).bw O3);have O6:=E9.size))
  all_goals
   have hfinU:SpAt eA ⟨aq,vN,wZ,vP,Y8,pG,tx,pH,s.bits⟩ (K+5) (zG a t).1 (zG a t).2:=⟨by rw[zDQ] at I8;exact I8.mono (by omega),by rw[zDQ] at P2;exact P2.mono (by omega)⟩
   go_wp2_with fail;go_meet;refine⟨_,⟨aq,vN,wZ,vP,Y8,pG,tx,pH,s.bits⟩,rfl,?_,⟨⟨?_,?_,?_,?_,?_⟩,?_⟩,?_,zA HB,?_⟩
   ·first|exact Yj _|exact O6|exact O7
   ·simp[go_sem, *]
   ·simp[go_sem, *]
   ·simp[go_sem, *]
   ·simp[go_sem, *]
   ·simp[go_sem, *]
   ·intro o;simp[go_sem, *]
   ·first|with_reducible exact hfinU.bw (bl1 _ _)|with_reducible exact SpAt.put5 hfinU (by assumption) (by assumption) (by assumption) (by assumption) (by assumption) _ _ _ _ _
   ·repeat' (first|with_reducible exact J6|with_reducible exact E9|with_reducible exact Below.refl _ _|with_reducible refine Below.drew ?_|with_reducible refine zO ?_ _|with_reducible refine Below.setCell ?_ (by first|exact Yj _|exact O6|exact O7) _)
 case rest =>
 obtain⟨BU,xU,rfl,Ac,XU,hpU,hxbU,hblU⟩:=hcut;replace A:=A.bw hblU;replace R:=R.bw hblU;replace j6:=zB j6 hblU;have lU:=XU.lt;have nRU:w.heap.size+1<BU:=by omega
 have Dz:=A.lt;have W5:=R.lt;have mg:=zC hxbU;have ba:=zC hpU;clear hxbU hpU HS HK x0 x1 x2 x3 x4 hblU;have x4:=A.c4;rw[zA HB] at x4;go_wp2_with fail;refine (zCX _ b hb).mono ?_;rintro r w1 ⟨v1,rfl,I3,O8,b9⟩;have Nr:=zF b
 have He:(zW b (zG a t) 0).1=1*Q b/1/\(zW b (zG a t) 0).2 = -(-(1*Q b)/1):=by
  constructor
  ·show Q b=_;omega
  ·show Q b=_;omega
 rw[<- He.1,<- He.2] at O8
 have ft:Q b*2<P K/\2*Q b+Q b<P K:=by
  have e:Q (b+2)=2*(2*Q b):=rfl;omega
 have HU:=zC hU;clear hU;have hT:=zBG (by omega) og
 have hlT:=yX b (zG a t)
 have T3:∀ n,n<=N -> -P K<(zW b (zG a t) n).1/\(zW b (zG a t) n).2<P K:=λ n _=>by
  obtain⟨g1,g2,g3,g4⟩:=hT n;have:=zK (show b-8*n<=b by omega)
  omega
 have hfitS:∀ n,n<=N -> -P K<(jH (zW b (zG a t)) n).1/\(jH (zW b (zG a t)) n).2<P K:=λ n hn=>by
  obtain⟨g1,g2,g3,g4⟩:=zFC (s:=8) (by omega) hT hN n hn
  have:=zF (b-8*n);omega
 have wk:N<=1000000000:=by
  obtain⟨N',n1,n2⟩:=zBQ (s:=8) (by omega) hT
  have:N<=N':=Nat.not_lt.1 λ E2=>by have:=hN.2 N' E2;have:=n2.1;omega
  omega
 replace O8:=O8.fits (K:=K) (hlT 0) (T3 0 (by omega)).1 (T3 0 (by omega)).2
 have S5:=zC hT;have pj:=zC hlT;have fj:=zC T3;have aZ:=zC hfitS;have mf:=zC O8;have pE:=zC I3;have EF:=zC ft;clear hT hlT T3 hfitS He O8 I3 ft;replace XU:=XU.bw b9;replace ba:=zC ((zA ba).bw b9);replace R:=R.bw b9;replace j6:=zB j6 b9;have WK:=XU.lt;have fJ:=R.lt;clear b9 x4 A Dz;go_wp2_with fail;refine (zKE _ _ en_exp (zW b (zG a t)) N b K (K+5+(K+5)+22) v1 _ (zA mf) (zA pE) hb (by omega) (by omega) hN wk (zA pj) (zA fj) (zA aZ) (λ n u w' hn D5 B9 M4=>?_)).mono ?_
 ·exact exp1_iv w' BU u xU (K+5) b ((n:Int)+1) (zW b (zG a t) n) (zG a t) (B9.mono (by omega)) ((zA ba).bw M4) (XU.c.bw M4) (by omega) D5 hb (by omega) (by omega)
 rintro r w2 ⟨v2,rfl,Q8,Q9,j5⟩;replace XU:=XU.bw j5;replace R:=R.bw j5;replace j6:=zB j6 j5;have wE:=zB7 (zA pj) N;have Gn:=zFK (s:=8) (by omega) (zA pj) (zA S5) hN
 replace Q9:=Q9.fits (K:=K) wE (by have:=Gn.1;have:=zA EF;omega) (by have:=Gn.2.2.2;have:=zA EF;omega)
 have ni:=zC Q8;clear Q8 j5 mf pE wE Gn;have WI:=R.lt;go_wp2_with fail
 go_loopw [31] (λ ii wr=>∃ (i:Nat) (X:Sp),ii=.int .i64 (i:Int)/\i<=t/\VrC wr w2.heap.size X/\SpAt wr X K (sqI b (zM (zW b (zG a t)) N) i).1 (sqI b (zM (zW b (zG a t)) N) i).2/\X.bits=(b:Int)/\NoC wr (w.heap.size+1)/\Below w.heap.size w wr) (λ ii _=>t-(intOf ii).toNat)
 case atStart =>
  refine⟨0,v2,rfl,Nat.zero_le _,⟨⟨by simp[go_sem],by simp[go_sem],by simp[go_sem],by simp[go_sem],by simp[go_sem]⟩,λ o=>by simp[go_sem]⟩,Q9.bw (bl1 _ _),zA ni,R.bw (bl1 _ _),zO j6 _⟩
 case round =>
  obtain⟨i,X,rfl,hi,hX,hp,Oh,hR,hB⟩:=hrel;have mg:=zC Oh;clear Oh;have lX:=hX.lt
  by_cases I5:i<t
  ·have AF:(i:Int)<(t:Int):=by omega
   obtain⟨⟨x0,x1,x2,x3,x4⟩,x5⟩:=hX;go_wp2_with fail;refine (zIQ _ X X K b _ _ hp hp (by omega) (zA mg) hb).mono ?_
   rintro r w3 ⟨v,rfl,J1,I6,m8⟩;have X3:=VrC.bw ⟨⟨x0,x1,x2,x3,x4⟩,x5⟩ m8;have R3:=hR.bw m8;have B3:=zB hB m8;have e:yZ b (sqI b (zM (zW b (zG a t)) N) i) (sqI b (zM (zW b (zG a t)) N) i)=sqI b (zM (zW b (zG a t)) N) (i+1):=rfl;rw[e] at I6;replace I6:=I6.fits (K:=K) (zBO b) (zA HU (i+1) (by omega)).1 (zA HU (i+1) (by omega)).2
   have HV:=zC J1;have nB:w.heap.size+1≠w2.heap.size:=by omega
   have stn:VrC (yP w3 w2.heap.size v) w2.heap.size v/\SpAt (yP w3 w2.heap.size v) v K (sqI b (zM (zW b (zG a t)) N) (i+1)).1 (sqI b (zM (zW b (zG a t)) N) (i+1)).2/\NoC (yP w3 w2.heap.size v) (w.heap.size+1)/\Below w.heap.size w (yP w3 w2.heap.size v):=⟨X3.put v,I6.put X3.c v,R3.off nB v,zAL B3 (by omega) v⟩
   unfold yP at stn;clear J1 m8 x0 x1 x2 x3 x4 x5 I6;obtain⟨⟨x0,x1,x2,x3,x4⟩,x5⟩:=X3;go_wp2_with fail
   go_roundw
   case rel=>exact⟨i+1,v,by go_num,by omega,stn.1,stn.2.1,zA HV,stn.2.2.1,stn.2.2.2⟩
   case measure=>simp[intOf];omega
  ·have fB:i=t:=by omega
   subst fB;have AF:¬ (i:Int)<(i:Int):=by omega
   obtain⟨⟨x0,x1,x2,x3,x4⟩,x5⟩:=hX;obtain⟨q0,q1,q2,q3,q4,q5⟩:=hR;go_wp2_with fail;refine bodyPost_ret (v:=.agg X.q) (by simp[results,Tryz.results77,go_sem,q0,q1,q2,q3,q4]) rfl ⟨X,rfl,zA mg,?_,?_⟩
   ·exact SpAt.put5 hp q0 q1 q2 q3 q4 _ _ _ _ _
   ·exact kM hB (Nat.le_succ _) _ _ _ _ _
theorem zB3 (w:World) (s:Sp) (K b t N:Nat) (a:Int × Int) (l:Int) (hs:SpAt w s K a.1 a.2) (hbits:s.bits=(b:Int)) (hle:a.1<=a.2) (M3:16<=b) (hb:b<=1000000) (hl:zBM (zX a) l) (ht:(t:Int)=max 0 (l-b+8)) (fe:t<=1000000)
  (og:Abs (zG a t) (Q (b-8))) (hN:zT (zW b (zG a t)) N) (hK:Q (b+eb t)<P K) (kr:K<=10000000) :
  Calls Tryz.prog 77 #[.agg s.q] w (zL w b K (sqI b (zM (zW b (zG a t)) N) t).1 (sqI b (zM (zW b (zG a t)) N) t).2):=by
 have h12:12<=eb t:=by have:=zB8 (show 0<=t by omega);simpa [eb] using this
 have P6:=zK (show b+2<=b+eb t by omega)
 refine zF4 w s K b t N a l hs hbits hle M3 hb hl ht fe og hN (by omega) (λ i hi=>?_) kr
 have CO:1<=N:=exp_one M3 hN;have ha:=zRS M3 (zIF (s:=8) (by omega) (yX b (zG a t)) (zBG (by omega) og) hN CO) i
 have hm:=zK (show b+eb i<=b+eb t by have:=zB8 hi;omega)
 exact⟨by have:=ha.1;omega,by have:=ha.2.2.2;omega⟩
end Go.Proofs.YtgmnknmjainabacGreat
