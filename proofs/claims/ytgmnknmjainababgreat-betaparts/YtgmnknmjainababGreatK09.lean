/-
  Its own texts.
-/
import Derived.Test.YtgmnknmjainababGreatK08
set_option maxRecDepth 100000
set_option maxHeartbeats 40000000
set_option linter.unnecessarySimpa false
set_option linter.unusedSimpArgs false
set_option linter.unusedVariables false
namespace Go.Proofs.YtgmnknmjainababGreat
open Go.RowKit
attribute [local go_sem ↓] Go.wp_at_zero Go.wp_at_succ
theorem IntAt.fits {w:World} {neg:Bool} {a:Option Addr} {n cap k K:Nat} {z:Int} (h:IntAt w neg a n cap k z) (h0 : -P K<z) (hz:z<P K):IntAt w neg a n cap K z:=by
 obtain⟨d,h1,h2,h3,h4,h5⟩:=h;refine⟨d,h1,h2,h3,?_,h5⟩;refine zF1 h1.dgs h2 ?_;have:=zZ h1.dgs n
 cases neg
 ·simp[sgn] at h5;omega
 ·simp[sgn] at h5;omega
theorem SpAt.fits {w:World} {s:Sp} {k K:Nat} {lo hi:Int} (h:SpAt w s k lo hi) (hle:lo<=hi) (h0 : -P K<lo) (hz:hi<P K):SpAt w s K lo hi:=⟨h.lo.fits h0 (by omega),h.hi.fits (by omega) hz⟩
def zDZ (z l:Int):Prop:=0<=l/\(z=0->l=0)/\(0<z->∃ L:Nat,l=(L:Int)+1/\Q L<=z/\z<Q (L+1))
theorem zB2 (neg:Bool) (a:Option Addr) (n cap k:Nat) (z:Int) (w:World) (h:IntAt w neg a n cap k z) (hz:0<=z) :
  Calls Tryz.prog 120 #[.agg #[.bool neg,.slice a n cap]] w λ r w'=>∃ l,zDZ z l/\r=.returned (.int .i64 l)/\Below w.heap.size w w':=by
 obtain⟨d,h1,h2,h3,h4,h5⟩:=h;refine (zB7 neg a n cap d w h1).mono λ r w' ⟨e1,e2⟩=>⟨zIX n d,?_,e1,e2⟩
 have hV:=zZ h1.dgs n
 have hv:V d n=z:=by
  cases neg
  ·simp[sgn] at h5;exact h5.symm
  ·simp[sgn] at h5;omega
 rcases Nat.eq_zero_or_pos n with h0|h0
 ·subst h0
  have:z=0:=by simp[V] at hv;omega
  subst this;exact⟨by simp[zIX],λ _=>by simp[zIX],λ h=>by omega⟩
 ·obtain⟨L,l1,l2,l3⟩:=zQX h1.dgs h0 (by rcases h2 with h2|h2;omega;exact h2)
  have:=zG L;exact⟨by omega,λ h=>by omega,λ _=>⟨L,l1,by omega,by omega⟩⟩
def zLM (bits:Nat) (Pr:Nat->Int->Int->Prop) (L H:Int):Prop :=
 ∃ (m:Nat) (lo hi:Int),Pr (bits+m) lo hi/\32<=m/\L=lo/Q m/\H = -(-hi/Q m)/\(H-L<=1\/zJJ L H (Q bits) 4=true)
def zMQ (bits Kw:Nat) (Pr:Nat->Int->Int->Prop):Prop :=
 ∀ (m:Nat) (lo hi:Int),Pr (bits+m) lo hi->lo<=hi/\hi-lo<=Q Kw /\ -(P 200*Q m)<=lo/\hi<=P 200*Q m
theorem zB9 (x q:Int) (hq:0<q):x <= -(-x/q)*q:=by
 have h:=Int.emod_add_mul_ediv (-x) q;have:=Int.emod_nonneg (-x) (show q≠0 by omega)
 have e : -(-x/q)*q = -(q*(-x/q)):=by rw[Int.neg_mul,Int.mul_comm]
 rw[e];omega
theorem zO2 (x q:Int) (hq:0<q) : -(-x/q)*q<x+q:=by
 have h:=Int.emod_add_mul_ediv (-x) q;have:=Int.emod_lt_of_pos (-x) hq;have e : -(-x/q)*q = -(q*(-x/q)):=by rw[Int.neg_mul,Int.mul_comm]
 rw[e];omega
theorem zDJ (x q:Int) (hq:0<q):x/q*q<=x:=Int.ediv_mul_le _ (by omega)
theorem flo_gt (x q:Int) (hq:0<q):x<x/q*q+q:=by
 have h:=Int.emod_add_mul_ediv x q;have:=Int.emod_lt_of_pos x hq;rw[Int.mul_comm];omega
theorem zLT {lo hi:Int} {m Kw:Nat} (hle:lo<=hi) (hw:hi-lo<=Q Kw):0 <= -(-hi/Q m)-lo/Q m/\(Kw<=m -> -(-hi/Q m)-lo/Q m<=2)/\(m<=Kw -> -(-hi/Q m)-lo/Q m<=Q (Kw-m)+1):=by
 have hq:=zG m;have a1:=zB9 hi (Q m) (by omega)
 have a2:=zO2 hi (Q m) (by omega)
 have a3:=zDJ lo (Q m) (by omega)
 have a4:=flo_gt lo (Q m) (by omega)
 have hs:(-(-hi/Q m)-lo/Q m)*Q m = -(-hi/Q m)*Q m-lo/Q m*Q m:=Int.sub_mul _ _ _;refine⟨?_,λ h=>?_,λ h=>?_⟩
 ·refine Int.not_lt.1 λ hn=>?_
  have:=XK (show -(-hi/Q m)-lo/Q m <= -1 by omega) (show 0<=Q m by omega)
  omega
 ·have hk:=zK h
  refine Int.not_lt.1 λ hn=>?_
  have:=XK (show 3 <= -(-hi/Q m)-lo/Q m by omega) (show 0<=Q m by omega)
  omega
 ·have hk:Q Kw=Q (Kw-m)*Q m:=by rw[<- jD];congr 1;omega
  refine Int.not_lt.1 λ hn=>?_
  have h5:=XK (show Q (Kw-m)+2 <= -(-hi/Q m)-lo/Q m by omega) (show 0<=Q m by omega)
  have h6:(Q (Kw-m)+2)*Q m=Q (Kw-m)*Q m+2*Q m:=Int.add_mul _ _ _;omega
theorem zG1 {L H:Int} {b:Nat} (hle:L<=H) (h:H-L<=4):zJJ L H (Q b) 4=true:=by
 unfold zJJ;rw[decide_eq_true_iff];have hq:=zG b;have h1:(H-L)*Q b<=4*Q b:=XK h (by omega)
 have h2:0<=zF7 H (-L):=by unfold zF7;split<;>omega
 have:4*(Q b+zF7 H (-L))=4*Q b+4*zF7 H (-L):=Int.mul_add _ _ _;omega
theorem to_fit {lo hi:Int} {m:Nat} (h1 : -(P 200*Q m)<=lo) (h2:hi<=P 200*Q m) : -P 250<lo/Q m /\ -(-hi/Q m)<P 250:=by
 have hq:=zG m
 have hp:P 200<P 250:=by
  have e:P 250=P 200*P 50:=P_add 200 50;have h3:=yB 200;have h4:P 200*65536<=P 200*P 50:=XR (zBH (show 1<=50 by omega)) (by omega)
  omega
 have a1 : -P 200<=lo/Q m:=by rw[Int.le_ediv_iff_mul_le (by omega),Int.neg_mul];exact h1
 have a2 : -P 200 <= -hi/Q m:=by rw[Int.le_ediv_iff_mul_le (by omega),Int.neg_mul];omega
 omega
def SureInv (Kw m t:Nat):Prop:=32<=m/\1<=t/\t<=m/\((t<=3/\m<=Kw+40*t)\/m<=Kw+40)
theorem zQ1 {z l:Int} {K:Nat} (h:zDZ z l) (hz:z<=Q K+1) (h0:0<=z):l<=K+2:=by
 obtain⟨h1,h2,h3⟩:=h
 by_cases hp:0<z
 ·obtain⟨L,e1,e2,e3⟩:=h3 hp
  by_cases hL:L<=K+1
  ·omega
  ·have:=zK (show K+2<=L by omega)
   have e:Q (K+2)=2*(2*Q K):=rfl;have:=zG K;omega
 ·have:=h2 (by omega);omega
theorem zOZ {z l:Int} (h:zDZ z l) (hz:z<=2) (h0:0<=z):l<=2:=by
 have:=zQ1 (K:=0) h (by simp[Q];omega) h0
 omega
theorem zKL {z l:Int} (h:zDZ z l) (hl:l<=1) (h0:0<=z):z<=1:=by
 obtain⟨h1,h2,h3⟩:=h
 by_cases hp:0<z
 ·obtain⟨L,e1,e2,e3⟩:=h3 hp
  have:L=0:=by omega
  subst this;simp[Q] at e3;omega
 ·omega
open Ex
theorem zC8 (a b c d:Int):jB (pr4 a b c d) 3<=a/\jB (pr4 a b c d) 3<=b/\jB (pr4 a b c d) 3<=c/\jB (pr4 a b c d) 3<=d/\(jB (pr4 a b c d) 3=a\/jB (pr4 a b c d) 3=b\/jB (pr4 a b c d) 3=c\/jB (pr4 a b c d) 3=d):=by
 simp only[jB,pr4];simp;repeat' split
 all_goals omega
theorem zCZ (a b c d:Int):a<=jP (pr4 a b c d) 3/\b<=jP (pr4 a b c d) 3/\c<=jP (pr4 a b c d) 3/\d<=jP (pr4 a b c d) 3/\(jP (pr4 a b c d) 3=a\/jP (pr4 a b c d) 3=b\/jP (pr4 a b c d) 3=c\/jP (pr4 a b c d) 3=d):=by
 simp only[jP,pr4];simp;repeat' split
 all_goals omega
def kJ (B:Nat) (a b:Int × Int):Int × Int:=(jB (pr4 (a.1*b.1) (a.1*b.2) (a.2*b.1) (a.2*b.2)) 3/Q B,-(-(jP (pr4 (a.1*b.1) (a.1*b.2) (a.2*b.1) (a.2*b.2)) 3)/Q B))
def jJ (a b:Int × Int):Int × Int:=(a.1+b.1,a.2+b.2)
def zAF (a b:Int × Int):Int × Int:=(a.1-b.2,a.2-b.1)
def zE (a:Int × Int) (n d:Int):Int × Int:=(a.1*n/d,-(-(a.2*n)/d))
def yT (a:Int × Int) (n:Int):Int × Int:=(a.1*n,a.2*n)
def zP (a:Int × Int):Int:=zF7 a.2 (-a.1)
def ofI (n d:Int) (B:Nat):Int × Int:=(n*Q B/d,-(-(n*Q B)/d))
def zN (a:Int × Int) (t:Nat):Int × Int:=(a.1/Q t,-(-a.2/Q t))
def jE (f:Nat->Int × Int):Nat->Int × Int
 | 0=>f 0
 | n+1=>jJ (jE f n) (f (n+1))
def kG (f:Nat->Int × Int) (N:Nat):Prop:=zP (f N)<=1/\∀ n,n<N->1<zP (f n)
def zT (f:Nat->Int × Int) (N:Nat):Int × Int:=jJ (jE f N) (-zP (f N),zP (f N))
def sqI (B:Nat) (a:Int × Int):Nat->Int × Int
 | 0=>a
 | t+1=>kJ B (sqI B a t) (sqI B a t)
def Abs (a:Int × Int) (m:Int):Prop := -m<=a.1/\a.1<=m /\ -m<=a.2/\a.2<=m
theorem zCU {a:Int × Int} (h:a.1<=a.2):Abs a (zP a):=by
 unfold Abs zP zF7;split<;>omega
theorem zAE {a:Int × Int} {m:Int} (h:Abs a m):zP a<=m:=by
 obtain⟨h1,h2,h3,h4⟩:=h;unfold zP zF7;split<;>omega
theorem Abs.nonneg {a:Int × Int} {m:Int} (h:Abs a m):0<=m:=by obtain⟨h1,h2,h3,h4⟩:=h;omega
theorem Abs.mono {a:Int × Int} {m n:Int} (h:Abs a m) (k:m<=n):Abs a n:=by obtain⟨h1,h2,h3,h4⟩:=h;exact⟨by omega,by omega,by omega,by omega⟩
theorem Abs.add {a b:Int × Int} {m n:Int} (h:Abs a m) (k:Abs b n):Abs (jJ a b) (m+n):=by
 obtain⟨h1,h2,h3,h4⟩:=h;obtain⟨k1,k2,k3,k4⟩:=k;refine⟨?_,?_,?_,?_⟩<;>simp only[jJ]<;>omega
theorem yJ {x y m n:Int} (h1 : -m<=x) (h2:x<=m) (k1 : -n<=y) (k2:y<=n) : -(m*n)<=x*y/\x*y<=m*n:=by
 have p1:=Yb (show 0<=m-x by omega) (show 0<=n+y by omega)
 have p2:=Yb (show 0<=m+x by omega) (show 0<=n-y by omega)
 have p3:=Yb (show 0<=m-x by omega) (show 0<=n-y by omega)
 have p4:=Yb (show 0<=m+x by omega) (show 0<=n+y by omega)
 constructor<;>grind
theorem jA {x m q:Int} (hq:0<q) (h1 : -(m*q)<=x) (h2:x<=m*q) : -m<=x/q/\x/q<=m /\ -m <= -(-x/q) /\ -(-x/q)<=m:=by
 have a1 : -m<=x/q:=by rw[Int.le_ediv_iff_mul_le hq,Int.neg_mul];exact h1
 have a2 : -m <= -x/q:=by rw[Int.le_ediv_iff_mul_le hq,Int.neg_mul];omega
 have a3:=zDJ x q hq;have a4:=zB9 x q hq;refine⟨a1,?_,?_,by omega⟩
 ·refine Int.not_lt.1 λ hn=>?_
  have:=XK (show m+1<=x/q by omega) (show 0<=q by omega)
  rw[Int.add_mul] at this;omega
 ·refine Int.not_lt.1 λ hn=>?_
  have:=XK (show -(-x/q) <= -m-1 by omega) (show 0<=q by omega)
  have e:(-m-1)*q = -(m*q)-q:=by grind
  rw[e] at this;omega
theorem zAC {B:Nat} {a b:Int × Int} {m n p:Int} (h:Abs a m) (k:Abs b n) (hp:m*n<=p*Q B):Abs (kJ B a b) p:=by
 obtain⟨h1,h2,h3,h4⟩:=h;obtain⟨k1,k2,k3,k4⟩:=k;have q:=zG B;have c1:=yJ h1 h2 k1 k2;have c2:=yJ h1 h2 k3 k4;have c3:=yJ h3 h4 k1 k2;have c4:=yJ h3 h4 k3 k4;have l:=(zC8 (a.1*b.1) (a.1*b.2) (a.2*b.1) (a.2*b.2)).2.2.2.2;have g:=(zCZ (a.1*b.1) (a.1*b.2) (a.2*b.1) (a.2*b.2)).2.2.2.2;have r1:=jA (x:=jB (pr4 (a.1*b.1) (a.1*b.2) (a.2*b.1) (a.2*b.2)) 3) (m:=p) (show 0<Q B by omega) (by omega) (by omega)
 have r2:=jA (x:=jP (pr4 (a.1*b.1) (a.1*b.2) (a.2*b.1) (a.2*b.2)) 3) (m:=p) (show 0<Q B by omega) (by omega) (by omega)
 exact⟨r1.1,r1.2.1,r2.2.2.1,r2.2.2.2⟩
theorem yK (B:Nat) {a b:Int × Int}:(kJ B a b).1<=(kJ B a b).2:=by
 have q:=zG B;have l:=zC8 (a.1*b.1) (a.1*b.2) (a.2*b.1) (a.2*b.2);have g:=zCZ (a.1*b.1) (a.1*b.2) (a.2*b.1) (a.2*b.2);simp only[kJ];have a1:=zDJ (jB (pr4 (a.1*b.1) (a.1*b.2) (a.2*b.1) (a.2*b.2)) 3) (Q B) (by omega)
 have a2:=zB9 (jP (pr4 (a.1*b.1) (a.1*b.2) (a.2*b.1) (a.2*b.2)) 3) (Q B) (by omega)
 refine Int.not_lt.1 λ hn=>?_
 have:=Int.mul_lt_mul_of_pos_right hn (show 0<Q B by omega)
 omega
theorem zAH {a:Int × Int} {m n d:Int} (h:Abs a m) (hd:0<d) (hn:0<=n) (Cw:n<=d):Abs (zE a n d) m:=by
 have m0:=h.nonneg;obtain⟨h1,h2,h3,h4⟩:=h;have p:=Yb m0 (show 0<=d-n by omega)
 have c1:=yJ h1 h2 (show -n<=n by omega) (Int.le_refl n)
 have c2:=yJ h3 h4 (show -n<=n by omega) (Int.le_refl n)
 rw[Int.mul_sub] at p;have r1:=jA (x:=a.1*n) (m:=m) hd (by omega) (by omega)
 have r2:=jA (x:=a.2*n) (m:=m) hd (by omega) (by omega)
 exact⟨r1.1,r1.2.1,r2.2.2.1,r2.2.2.2⟩
theorem kR {a:Int × Int} {n d:Int} (h:a.1<=a.2) (hd:0<d) (hn:0<=n):(zE a n d).1<=(zE a n d).2:=by
 simp only[zE];have a1:=zDJ (a.1*n) d hd;have a2:=zB9 (a.2*n) d hd;have a3:=XK h hn;refine Int.not_lt.1 λ hn=>?_
 have:=Int.mul_lt_mul_of_pos_right hn hd;omega
theorem zKT {x y x' y' a1 a2 b1 b2 m n:Int} (hx:x=a1\/x=a2) (hy:y=b1\/y=b2) (qF:x'=a1\/x'=a2) (tH:y'=b1\/y'=b2)
  (ha:a1<=a2) (hb:b1<=b2) (h1 : -m<=a1) (h2:a1<=m) (h3 : -m<=a2) (h4:a2<=m) (k1 : -n<=b1) (k2:b1<=n) (k3 : -n<=b2) (k4:b2<=n) :
  x*y-x'*y'<=m*(b2-b1)+n*(a2-a1):=by
 have e:x*y-x'*y'=x*(y-y')+(x-x')*y':=by grind
 rw[e];have c1 : -m<=x/\x<=m:=by rcases hx with h|h<;>subst h<;>exact⟨by assumption,by assumption⟩
 have c2 : -n<=y'/\y'<=n:=by rcases tH with h|h<;>subst h<;>exact⟨by assumption,by assumption⟩
 have d1 : -(b2-b1)<=y-y'/\y-y'<=b2-b1:=by rcases hy with h|h<;>rcases tH with h'|h'<;>omega
 have d2 : -(a2-a1)<=x-x'/\x-x'<=a2-a1:=by rcases hx with h|h<;>rcases qF with h'|h'<;>omega
 have g1:=(yJ c1.1 c1.2 d1.1 d1.2).2;have g2:=(yJ d2.1 d2.2 c2.1 c2.2).2;rw[Int.mul_comm n];omega
theorem zC7 {x y q c:Int} (hq:0<q) (h:x-y<=c*q) : -(-x/q)-y/q<=c+1:=by
 have a1:=zO2 x q hq;have a2:=flo_gt y q hq;refine Int.not_lt.1 λ hn=>?_
 have:=XK (show c+2 <= -(-x/q)-y/q by omega) (show 0<=q by omega)
 rw[Int.sub_mul,Int.add_mul] at this;omega
theorem zBU {B:Nat} {a b:Int × Int} {m n c:Int} (h:Abs a m) (k:Abs b n) (ha:a.1<=a.2) (hb:b.1<=b.2) (hc:m*(b.2-b.1)+n*(a.2-a.1)<=c*Q B):(kJ B a b).2-(kJ B a b).1<=c+1:=by
 obtain⟨h1,h2,h3,h4⟩:=h;obtain⟨k1,k2,k3,k4⟩:=k;have q:=zG B;have l:=(zC8 (a.1*b.1) (a.1*b.2) (a.2*b.1) (a.2*b.2)).2.2.2.2;have g:=(zCZ (a.1*b.1) (a.1*b.2) (a.2*b.1) (a.2*b.2)).2.2.2.2;refine zC7 (show 0<Q B by omega) (Int.le_trans ?_ hc)
 have key:=λ x y x' y' (hx:x=a.1\/x=a.2) (hy:y=b.1\/y=b.2) (qF:x'=a.1\/x'=a.2) (tH:y'=b.1\/y'=b.2)=>zKT hx hy qF tH ha hb h1 h2 h3 h4 k1 k2 k3 k4
 rcases g with g|g|g|g<;>rcases l with l|l|l|l<;>rw[g,l]<;>exact key _ _ _ _ (by simp) (by simp) (by simp) (by simp)
theorem zAL {a:Int × Int} {n d c:Int} (hd:0<d) (h:(a.2-a.1)*n<=c*d):(zE a n d).2-(zE a n d).1<=c+1:=by
 refine zC7 hd ?_;rw[<- Int.sub_mul];exact h
def Iv (B:Nat) (a:Int × Int) (x:Nat->Rat):Prop:=Has ((a.1:Rat)/(Q B:Rat)) ((a.2:Rat)/(Q B:Rat)) x
theorem zY (B:Nat):(0:Rat)<(Q B:Rat):=by exact_mod_cast (show (0:Int)<Q B by have:=zG B;omega)
theorem yF {a b c:Rat} (hc:0<c) (h:a*c<=b):a<=b/c:=by
 have e:=rdm (a:=b) hc;generalize b/c=q at *;refine Rat.not_lt.1 λ hn=>?_
 have:=Rat.mul_pos hc (show 0<a-q by grind)
 grind
theorem jZ {a b c:Rat} (hc:0<c) (h:a<=b*c):a/c<=b:=by
 have e:=rdm (a:=a) hc;generalize a/c=q at *;refine Rat.not_lt.1 λ hn=>?_
 have:=Rat.mul_pos hc (show 0<q-b by grind)
 grind
theorem zX {a b:Int} (h:a<=b):(a:Rat)<=(b:Rat):=by exact_mod_cast h
theorem zIY {L u v q:Int} (hq:0<q) (h:L*q<=u*v):(L:Rat)/(q:Rat)<=(u:Rat)/(q:Rat)*((v:Rat)/(q:Rat)):=by
 have q0:(0:Rat)<(q:Rat):=by exact_mod_cast hq
 have e1:=rdm (a:=(u:Rat)) q0;have e2:=rdm (a:=(v:Rat)) q0;have h1:=zX h;rw[Ye,Ye] at h1;refine jZ q0 ?_;generalize (u:Rat)/(q:Rat)=U at *;generalize (v:Rat)/(q:Rat)=V at *;rw[<- e1,<- e2] at h1;refine Rat.not_lt.1 λ hn=>?_
 have:=Rat.mul_pos (show 0<(L:Rat)-U*V*(q:Rat) by grind) q0
 grind
theorem zIC {L u v q:Int} (hq:0<q) (h:u*v<=L*q):(u:Rat)/(q:Rat)*((v:Rat)/(q:Rat))<=(L:Rat)/(q:Rat):=by
 have q0:(0:Rat)<(q:Rat):=by exact_mod_cast hq
 have e1:=rdm (a:=(u:Rat)) q0;have e2:=rdm (a:=(v:Rat)) q0;have h1:=zX h;rw[Ye,Ye] at h1;refine yF q0 ?_;generalize (u:Rat)/(q:Rat)=U at *;generalize (v:Rat)/(q:Rat)=V at *;rw[<- e1,<- e2] at h1;refine Rat.not_lt.1 λ hn=>?_
 have:=Rat.mul_pos (show 0<U*V*(q:Rat)-(L:Rat) by grind) q0
 grind
theorem Iv.mul {B:Nat} {a b:Int × Int} {x y:Nat->Rat} (h:Iv B a x) (k:Iv B b y):Iv B (kJ B a b) (λ M=>x M*y M):=by
 have q0:0<Q B:=by have:=zG B;omega
 have l:=zC8 (a.1*b.1) (a.1*b.2) (a.2*b.1) (a.2*b.2);have g:=zCZ (a.1*b.1) (a.1*b.2) (a.2*b.1) (a.2*b.2);have fl:=zDJ (jB (pr4 (a.1*b.1) (a.1*b.2) (a.2*b.1) (a.2*b.2)) 3) (Q B) q0;have ce:=zB9 (jP (pr4 (a.1*b.1) (a.1*b.2) (a.2*b.1) (a.2*b.2)) 3) (Q B) q0;exact Has.mul h k (zIY q0 (Int.le_trans fl l.1)) (zIY q0 (Int.le_trans fl l.2.1)) (zIY q0 (Int.le_trans fl l.2.2.1)) (zIY q0 (Int.le_trans fl l.2.2.2.1)) (zIC q0 (Int.le_trans g.1 ce)) (zIC q0 (Int.le_trans g.2.1 ce)) (zIC q0 (Int.le_trans g.2.2.1 ce)) (zIC q0 (Int.le_trans g.2.2.2.1 ce))
theorem yO (a b c:Rat):(a+b)/c=a/c+b/c:=by rw[Yg,Yg,Yg,Rat.add_mul]
theorem zEX (a b c:Rat):(a-b)/c=a/c-b/c:=by rw[Rat.sub_eq_add_neg,Yg,Rat.add_mul,Rat.neg_mul,Yg,Yg,<- Rat.sub_eq_add_neg]
theorem Iv.add {B:Nat} {a b:Int × Int} {x y:Nat->Rat} (h:Iv B a x) (k:Iv B b y):Iv B (jJ a b) (λ M=>x M+y M):=by
 have:=Has.add h k;rw[<- yO,<- yO,<- Rat.intCast_add,<- Rat.intCast_add] at this;exact this
theorem Iv.sub {B:Nat} {a b:Int × Int} {x y:Nat->Rat} (h:Iv B a x) (k:Iv B b y):Iv B (zAF a b) (λ M=>x M-y M):=by
 have:=Has.sub h k;rw[<- zEX,<- zEX,<- Rat.intCast_sub,<- Rat.intCast_sub] at this;exact this
theorem Iv.times {B:Nat} {a:Int × Int} {x:Nat->Rat} (h:Iv B a x) (n:Nat):Iv B (yT a n) (λ M=>(n:Rat)*x M):=by
 have:=Has.scale h (c:=(n:Rat)) (by exact_mod_cast Nat.zero_le n)
 have e:∀ z:Int,(n:Rat)*((z:Rat)/(Q B:Rat))=((z*(n:Int):Int):Rat)/(Q B:Rat):=λ z=>by
  rw[Ye,Yg,Yg,<- Rat.mul_assoc,Rat.mul_comm (n:Rat)];rfl
 rw[e,e] at this;exact this
theorem zOR {L u n d q:Int} (hd:0<d) (hq:0<q) (h:L*d<=u*n):(L:Rat)/(q:Rat)<=(n:Rat)/(d:Rat)*((u:Rat)/(q:Rat)):=by
 have q0:(0:Rat)<(q:Rat):=by exact_mod_cast hq
 have d0:(0:Rat)<(d:Rat):=by exact_mod_cast hd
 have e1:=rdm (a:=(u:Rat)) q0;have e2:=rdm (a:=(n:Rat)) d0;have h1:=zX h;rw[Ye,Ye] at h1;refine jZ q0 ?_;generalize (u:Rat)/(q:Rat)=U at *;generalize (n:Rat)/(d:Rat)=V at *;rw[<- e1,<- e2] at h1;refine Rat.not_lt.1 λ hn=>?_
 have:=Rat.mul_pos (show 0<(L:Rat)-V*U*(q:Rat) by grind) d0
 grind
theorem zRE {L u n d q:Int} (hd:0<d) (hq:0<q) (h:u*n<=L*d):(n:Rat)/(d:Rat)*((u:Rat)/(q:Rat))<=(L:Rat)/(q:Rat):=by
 have q0:(0:Rat)<(q:Rat):=by exact_mod_cast hq
 have d0:(0:Rat)<(d:Rat):=by exact_mod_cast hd
 have e1:=rdm (a:=(u:Rat)) q0;have e2:=rdm (a:=(n:Rat)) d0;have h1:=zX h;rw[Ye,Ye] at h1;refine yF q0 ?_;generalize (u:Rat)/(q:Rat)=U at *;generalize (n:Rat)/(d:Rat)=V at *;rw[<- e1,<- e2] at h1;refine Rat.not_lt.1 λ hn=>?_
 have:=Rat.mul_pos (show 0<V*U*(q:Rat)-(L:Rat) by grind) d0
 grind
theorem Iv.scale {B:Nat} {a:Int × Int} {x:Nat->Rat} (h:Iv B a x) {n d:Int} (hn:0<=n) (hd:0<d):Iv B (zE a n d) (λ M=>(n:Rat)/(d:Rat)*x M):=by
 have q0:0<Q B:=by have:=zG B;omega
 have d0:(0:Rat)<(d:Rat):=by exact_mod_cast hd
 have n0:(0:Rat)<=(n:Rat):=by exact_mod_cast hn
 have c0:0<=(n:Rat)/(d:Rat):=yF d0 (by grind)
 exact (Has.scale h c0).mono (zOR hd q0 (zDJ (a.1*n) d hd)) (zRE hd q0 (zB9 (a.2*n) d hd))
theorem Iv.of (B:Nat) {n d:Int} (hd:0<d):Iv B (ofI n d B) (λ _=>(n:Rat)/(d:Rat)):=by
 have q0:0<Q B:=by have:=zG B;omega
 have qr:=zY B
 have e:(n:Rat)/(d:Rat)*((Q B:Rat)/(Q B:Rat))=(n:Rat)/(d:Rat):=by
  rw[Yg (Q B:Rat),Rat.mul_inv_cancel _ (by grind),Rat.mul_one]
 have l:=zOR hd q0 (L:=(ofI n d B).1) (u:=Q B) (n:=n) (by rw[Int.mul_comm (Q B)];exact zDJ (n*Q B) d hd)
 have g:=zRE hd q0 (L:=(ofI n d B).2) (u:=Q B) (n:=n) (by rw[Int.mul_comm (Q B)];exact zB9 (n*Q B) d hd)
 rw[e] at l g;exact Has.const l g
theorem Iv.to {B m:Nat} {a:Int × Int} {x:Nat->Rat} (h:Iv (B+m) a x):Iv B (zN a m) x:=by
 have q:=zY B;have qm:=zY m;have e:(Q (B+m):Rat)=(Q B:Rat)*(Q m:Rat):=by rw[jD,Ye]
 have f1:=zDJ a.1 (Q m) (by have:=zG m;omega)
 have f2:=zB9 a.2 (Q m) (by have:=zG m;omega)
 have q2:0<(Q B:Rat)*(Q m:Rat):=Rat.mul_pos q qm;unfold Iv at h;rw[e] at h;refine Has.mono h ?_ ?_
 ·have g:(((zN a m).1*Q m:Int):Rat)<=((a.1:Int):Rat):=zX f1
  rw[Ye] at g;refine yF q2 ?_;have ea:=rdm (a:=((zN a m).1:Rat)) q;generalize ((zN a m).1:Rat)/(Q B:Rat)=U at *;generalize ((zN a m).1:Rat)=L at *;rw[<- ea] at g;grind
 ·have g:((a.2:Int):Rat)<=(((zN a m).2*Q m:Int):Rat):=zX f2
  rw[Ye] at g;refine jZ q2 ?_;have ea:=rdm (a:=((zN a m).2:Rat)) q;generalize ((zN a m).2:Rat)/(Q B:Rat)=U at *;generalize ((zN a m).2:Rat)=L at *;rw[<- ea] at g;grind
theorem Iv.down {B:Nat} {a:Int × Int} {x:Nat->Rat} (h:Iv B a x) (t:Nat):Iv B (zN a t) (λ M=>x M/(Q t:Rat)):=by
 have qt:0<Q t:=by have:=zG t;omega
 have:=h.scale (n:=1) (d:=Q t) (by omega) qt
 have e:zE a 1 (Q t)=zN a t:=by simp[zE,zN]
 rw[e] at this;refine Has.of_eq this λ M=>?_
 rw[Yg,Yg,Rat.mul_comm];simp
theorem Iv.touch {B C:Nat} {a b:Int × Int} {x:Nat->Rat} (h:Iv B a x) (k:Iv C b x):a.1*Q C<=b.2*Q B:=by
 have q:=zY B;have q':=zY C;have t:=Has.touch h k;have e1:=rdm (a:=(a.1:Rat)) q;have e2:=rdm (a:=(b.2:Rat)) q'
 have:((a.1*Q C:Int):Rat)<=((b.2*Q B:Int):Rat):=by
  rw[Ye,Ye];generalize (a.1:Rat)/(Q B:Rat)=U at *;generalize (b.2:Rat)/(Q C:Rat)=V at *;rw[<- e1,<- e2];have:=XQ (XQ (show 0<=V-U by grind) (XV q)) (XV q')
  grind
 exact_mod_cast this
theorem Iv.congr {B:Nat} {a:Int × Int} {x y:Nat->Rat} (h:Iv B a x) (k:Null (λ M=>y M-x M)):Iv B a y:=Has.congr h k
theorem Q_step {B s:Nat} (hs:s<=B) (n:Nat):Q (B-s*n)*Q (B-s)<=Q (B-s*(n+1))*Q B:=by
 rw[<- jD,<- jD];refine zK ?_;rw[Nat.mul_add,Nat.mul_one];generalize s*n=k;omega
theorem zAW {p:Nat->Prop} {K:Nat} (h:p K):∃ N,N<=K/\p N/\∀ n,n<N->¬ p n:=by
 induction K using Nat.strongRecOn with
 | ind K ih =>
  by_cases hk:∃ m,m<K/\p m
  ·obtain⟨m,hm,hp⟩:=hk
   obtain⟨N,h1,h2⟩:=ih m hm hp;exact⟨N,by omega,h2⟩
  ·exact⟨K,XW _,h,λ n hn hp=>hk ⟨n,hn,hp⟩⟩
theorem zDD {B s:Nat} {f:Nat->Int × Int} (hs:1<=s) (h:∀ n,Abs (f n) (Q (B-s*n))):∃ N,N<=B/s+1/\kG f N:=by
 have h1:zP (f (B/s+1))<=1:=by
  have:=zAE (h (B/s+1))
  have e:B-s*(B/s+1)=0:=by
   have:=Nat.lt_mul_div_succ B (show 0<s by omega)
   omega
  rw[e] at this;simp[Q] at this;exact this
 obtain⟨N,n1,n2,n3⟩:=zAW (p:=λ n=>zP (f n)<=1) h1
 exact⟨N,n1,n2,λ n hn=>by have:=n3 n hn;simp at this;omega⟩
theorem zII {B s N n:Nat} {f:Nat->Int × Int} (hs:1<=s) (h:∀ n,Abs (f n) (Q (B-s*n))) (hN:kG f N) (hn:n<N):2*Q (B-s*(n+1))<=Q (B-s*n):=by
 have h1:=hN.2 n hn;have h2:=zAE (h n)
 have h3:1<=B-s*n:=by
  refine Nat.pos_of_ne_zero λ e=>?_
  rw[e] at h2;simp[Q] at h2;omega
 have e:2*Q (B-s*(n+1))=Q (B-s*(n+1)+1):=rfl;rw[e];refine zK ?_;rw[Nat.mul_add,Nat.mul_one];generalize s*n=k at *;omega
theorem zHI {B s N:Nat} {f:Nat->Int × Int} (hs:1<=s) (h:∀ n,Abs (f n) (Q (B-s*n))) (hN:kG f N) (n:Nat) (hn:n<=N):Abs (jE f n) (2*Q B-Q (B-s*n)):=by
 induction n with
 | zero=>simp only[jE];exact (h 0).mono (by simp;omega)
 | succ n ih =>
  have h1:=(ih (by omega)).add (h (n+1))
  have h2:=zII hs h hN (show n<N by omega)
  simp only[jE];exact h1.mono (by omega)
theorem sum_abs1 {B s N:Nat} {f:Nat->Int × Int} (hs:1<=s) (h:∀ n,Abs (f n) (Q (B-s*n))) (hN:kG f N) (n:Nat) (hn:n+1<=N):Abs (jE f (n+1)) (Q B+2*Q (B-s)-Q (B-s*(n+1))):=by
 induction n with
 | zero =>
  simp only[jE];have:=(h 0).add (h 1);refine this.mono ?_;simp;omega
 | succ n ih =>
  have h1:=(ih (by omega)).add (h (n+1+1))
  have h2:=zII hs h hN (show n+1<N by omega)
  have e:jE f (n+1+1)=jJ (jE f (n+1)) (f (n+1+1)):=rfl;rw[e];exact h1.mono (by omega)
theorem zAI {a:Int × Int} (h:a.1<=a.2):0<=zP a:=(zCU h).nonneg
theorem zH8 {B s N:Nat} {f:Nat->Int × Int} (hs:1<=s) (hle:∀ n,(f n).1<=(f n).2) (h:∀ n,Abs (f n) (Q (B-s*n))) (hN:kG f N):Abs (zT f N) (2*Q B):=by
 have h1:=zHI hs h hN N (XW _)
 have h2:Abs (-zP (f N),zP (f N)) (Q (B-s*N)):=by
  have:=zAE (h N);have:=zAI (hle N);exact⟨by simp;omega,by simp;omega,by simp;omega,by simp;omega⟩
 exact (h1.add h2).mono (by omega)
theorem zIQ {B s N:Nat} {f:Nat->Int × Int} (hs:1<=s) (hle:∀ n,(f n).1<=(f n).2) (h:∀ n,Abs (f n) (Q (B-s*n))) (hN:kG f N) (IP:1<=N):Abs (zT f N) (Q B+2*Q (B-s)):=by
 obtain⟨n,rfl⟩:∃ n,N=n+1:=⟨N-1,by omega⟩
 have h1:=sum_abs1 hs h hN n (XW _)
 have h2:Abs (-zP (f (n+1)),zP (f (n+1))) (Q (B-s*(n+1))):=by
  have:=zAE (h (n+1));have:=zAI (hle (n+1));exact⟨by simp;omega,by simp;omega,by simp;omega,by simp;omega⟩
 exact (h1.add h2).mono (by omega)
theorem zCW {f:Nat->Int × Int} (hle:∀ n,(f n).1<=(f n).2) (n:Nat):(jE f n).1<=(jE f n).2:=by
 induction n with
 | zero=>exact hle 0
 | succ n ih=>simp only[jE,jJ];have:=hle (n+1);omega
theorem zF5 {f:Nat->Int × Int} (hle:∀ n,(f n).1<=(f n).2) (n:Nat):(zT f n).1<=(zT f n).2:=by
 have h1:=zCW hle n;have h2:=zAI (hle n);simp only[zT,jJ];omega
theorem sum_wide {f:Nat->Int × Int} {W:Int} (hw:∀ n,(f n).2-(f n).1<=W) (n:Nat):(jE f n).2-(jE f n).1<=((n:Int)+1)*W:=by
 induction n with
 | zero=>simp only[jE];have:=hw 0;simp;omega
 | succ n ih =>
  simp only[jE,jJ];have:=hw (n+1)
  have e:(((n+1:Nat):Int)+1)*W=((n:Int)+1)*W+W:=by
   have:(((n+1:Nat):Int)+1)=((n:Int)+1)+1:=by omega
   rw[this,Int.add_mul,Int.one_mul]
  omega
theorem zFP {f:Nat->Int × Int} {W:Int} {N:Nat} (hw:∀ n,(f n).2-(f n).1<=W) (hN:kG f N):(zT f N).2-(zT f N).1<=((N:Int)+1)*W+2:=by
 have h1:=sum_wide hw N;have h2:=hN.1;simp only[zT,jJ];omega
theorem S_rest {g:Nat->Rat} {N:Nat} {b:Rat} (hb:AB (g N) b) (hh:∀ n c,N<=n->AB (g n) c->AB (g (n+1)) (c/2)) (i:Nat):AB (g (N+i)) (b*q2 i)/\AB (S g (N+1+i)-S g (N+1)) (b*(1-q2 i)):=by
 induction i with
 | zero=>simp only[Nat.add_zero,q2];exact⟨hb.mono (by grind),by constructor<;>grind⟩
 | succ i ih =>
  obtain⟨h1,h2⟩:=ih;have h3:=hh (N+i) _ (by omega) h1
  have e1:q2 (i+1)=q2 i/2:=rfl;have e2:S g (N+1+(i+1))=S g (N+1+i)+g (N+1+i):=rfl;have e3:N+1+i=N+(i+1):=by omega
  refine⟨h3.mono (by rw[e1];grind),?_⟩
  rw[e2,e1];have h4:=h2.add h3;rw[show N+i+1=N+1+i by omega] at h4
  have e4:S g (N+1+i)-S g (N+1)+g (N+1+i)=S g (N+1+i)+g (N+1+i)-S g (N+1):=by grind
  rw[e4] at h4;exact h4.mono (by grind)
theorem zHM {B N:Nat} {f:Nat->Int × Int} {g:Nat->Nat->Rat} (hle:∀ n,(f n).1<=(f n).2) (h:∀ n,n<=N->Iv B (f n) (λ M=>g n M)) (M0:Nat) (hh:∀ M,M0<=M->∀ n b,N<=n->AB (g n M) b->AB (g (n+1) M) (b/2)):Iv B (zT f N) (λ M=>S (λ k=>g k M) M):=by
 have h1:∀ n,n<=N->Iv B (jE f n) (λ M=>S (λ k=>g k M) (n+1)):=λ n hn=>by
  induction n with
  | zero=>exact Has.of_eq (h 0 (by omega)) λ M=>by simp only[S];grind
  | succ n ih=>exact Has.of_eq ((ih (by omega)).add (h (n+1) hn)) λ M=>by simp only[S]
 have h2:=h1 N (XW _)
 have h3:Iv B (-zP (f N),zP (f N)) (λ M=>S (λ k=>g k M) M-S (λ k=>g k M) (N+1)):=by
  have hr:=zCU (hle N);have q:=zY B;have k1:=h N (XW _)
  intro e he
  obtain⟨N1,k2⟩:=k1 e he;refine⟨N1+M0+N+1,λ M hM=>?_⟩
  obtain⟨a1,a2⟩:=k2 M (by omega)
  have l1:((-zP (f N):Int):Rat)/(Q B:Rat)<=((f N).1:Rat)/(Q B:Rat):=jZ q (by rw[rdm q];exact zX hr.1)
  have l2:((f N).2:Rat)/(Q B:Rat)<=((zP (f N):Int):Rat)/(Q B:Rat):=jZ q (by rw[rdm q];exact zX hr.2.2.2)
  have l3:((-zP (f N):Int):Rat)/(Q B:Rat) = -(((zP (f N):Int):Rat)/(Q B:Rat)):=by
   rw[Rat.intCast_neg,Yg,Yg,Rat.neg_mul]
  have hb:AB (g N M) (((zP (f N):Int):Rat)/(Q B:Rat)+e):=by constructor<;>grind
  obtain⟨i,rfl⟩:∃ i,M=N+1+i:=⟨M-(N+1),by omega⟩
  have s:=(S_rest (g:=λ k=>g k (N+1+i)) hb (λ n c hn hc=>hh _ (by omega) n c hn hc) i).2
  have p:=yR i;have nn:=hb.nonneg
  have s':=s.mono (b:=((zP (f N):Int):Rat)/(Q B:Rat)+e) (by
   have:=XQ nn (XV p)
   grind)
  obtain⟨s1,s2⟩:=s';simp only[];rw[l3];constructor<;>grind
 exact Has.of_eq (h2.add h3) λ M=>by grind
def zV (B:Nat) (sm:Int × Int):Nat->Int × Int
 | 0=>(Q B,Q B)
 | n+1=>zE (kJ B (zV B sm n) sm) 1 ((n:Int)+1)
theorem kY (B:Nat) (sm:Int × Int) (n:Nat):(zV B sm n).1<=(zV B sm n).2:=by
 cases n with
 | zero=>exact Int.le_refl _
 | succ n=>exact kR (yK B) (by omega) (by omega)
theorem zC0 {B:Nat} {sm:Int × Int} (hB:8<=B) (hs:Abs sm (Q (B-8))) (n:Nat):Abs (zV B sm n) (Q (B-8*n)):=by
 induction n with
 | zero=>have:=zG B;exact⟨by simp[zV];omega,by simp[zV],by simp[zV];omega,by simp[zV]⟩
 | succ n ih=>exact zAH (zAC ih hs (Q_step hB n)) (by omega) (by omega) (by omega)
theorem zKE {B:Nat} (hB:8<=B):Q B=256*Q (B-8):=by
 have:=jD 8 (B-8);rw[show 8+(B-8)=B by omega] at this
 rw[this];rfl
theorem zJB {B:Nat} {sm:Int × Int} {ws:Int} (hB:8<=B) (hs:Abs sm (Q (B-8))) (bN:sm.1<=sm.2) (hw:sm.2-sm.1<=ws) (n:Nat):(zV B sm n).2-(zV B sm n).1<=2*ws+4:=by
 induction n with
 | zero=>simp only[zV];omega
 | succ n ih =>
  have q:=zG (B-8);have e:=zKE hB;have m1:Q (B-8*n)<=Q B:=zK (by omega)
  have p1:=Int.mul_le_mul m1 hw (by omega) (by omega)
  have p2:=XR ih (show 0<=Q (B-8) by omega)
  have hc:Q (B-8*n)*(sm.2-sm.1)+Q (B-8)*((zV B sm n).2-(zV B sm n).1)<=(ws+(2*ws+4+255)/256)*Q B:=by
   have e2:(ws+(2*ws+4+255)/256)*Q B=Q B*ws+Q (B-8)*(256*((2*ws+4+255)/256)):=by
    rw[Int.add_mul,Int.mul_comm ws];congr 1;rw[e];grind
   rw[e2];have:=XR (show 2*ws+4<=256*((2*ws+4+255)/256) by omega) (show 0<=Q (B-8) by omega)
   omega
  have h1:=zBU (zC0 hB hs n) hs (kY B sm n) bN hc;have hn:(0:Int)<(n:Int)+1:=by omega
  have hp:=Yb (show 0<=ws+(2*ws+4+255)/256+1 by omega) (show 0<=(n:Int) by omega)
  have h2:=zAL (a:=kJ B (zV B sm n) sm) (n:=1) (d:=(n:Int)+1) (c:=ws+(2*ws+4+255)/256+1) hn (by
   rw[Int.mul_one,Int.mul_add,Int.mul_one];omega)
  simp only[zV];omega
theorem zL4 {B:Nat} {sm:Int × Int} {x:Nat->Rat} (h:Iv B sm x) (n:Nat):Iv B (zV B sm n) (λ M=>tm (x M) n):=by
 induction n with
 | zero =>
  have q:=zY B;have e:(Q B:Rat)/(Q B:Rat)=1:=by rw[Yg,Rat.mul_inv_cancel _ (by grind)]
  show Has ((Q B:Rat)/(Q B:Rat)) ((Q B:Rat)/(Q B:Rat)) _
  rw[e];exact Has.const (c:=1) Rat.le_refl Rat.le_refl
 | succ n ih =>
  have:=(ih.mul h).scale (n:=1) (d:=(n:Int)+1) (by omega) (by omega)
  refine Has.of_eq this λ M=>?_
  have e:(((n:Int)+1:Int):Rat)=(n:Rat)+1:=by rw[Rat.intCast_add];rfl
  rw[e];simp only[tm];have hp:=zBE n;rw[Yg,Yg];simp;grind
theorem tm_half {x b:Rat} (hx:AB x (1/2)) (n:Nat) (h:AB (tm x n) b):AB (tm x (n+1)) (b/2):=by
 have e:=kU x n;have hp:=zBE n;have g:=hx.mul h;rw[<- e] at g;have e3:tm x (n+1)=((n:Rat)+1)*tm x (n+1)/((n:Rat)+1):=by grind
 rw[e3];refine zA2 hp (g.mono ?_);have hn:(0:Rat)<=(n:Rat):=by exact_mod_cast Nat.zero_le n
 have:=XQ hn h.nonneg;grind
theorem Iv.little {B:Nat} {a:Int × Int} {x:Nat->Rat} (h:Iv B a x) {m:Int} (ha:Abs a m) (hm:4*m<=Q B):∃ N,∀ M,N<=M->AB (x M) (1/2):=by
 have q:=zY B;obtain⟨N,h1⟩:=h (1/4) (by grind)
 refine⟨N,λ M hM=>?_⟩
 have:=h1 M hM
 have l1 : -(1/4:Rat)<=(a.1:Rat)/(Q B:Rat):=yF q (by
  have:((-(Q B):Int):Rat)<=((4*a.1:Int):Rat):=zX (by have:=ha.1;omega)
  rw[Rat.intCast_neg,Ye] at this;have e4:((4:Int):Rat)=4:=rfl;rw[e4] at this
  grind)
 have l2:(a.2:Rat)/(Q B:Rat)<=(1/4:Rat):=jZ q (by
  have:((4*a.2:Int):Rat)<=((Q B:Int):Rat):=zX (by have:=ha.2.2.2;omega)
  rw[Ye] at this;have e4:((4:Int):Rat)=4:=rfl;rw[e4] at this
  grind)
 constructor<;>grind
theorem zGR {B N:Nat} {sm:Int × Int} {x:Nat->Rat} (hB:8<=B) (h:Iv B sm x) (hs:Abs sm (Q (B-8))):Iv B (zT (zV B sm) N) (Ev x):=by
 obtain⟨M0,h0⟩:=h.little hs (by have:=zKE hB;have:=zG (B-8);omega)
 exact zHM (kY B sm) (λ n _=>zL4 h n) M0 (λ M hM n b _ hb=>tm_half (h0 M hM) n hb)
def sqv (y:Nat->Rat):Nat->Nat->Rat
 | 0=>y
 | t+1=>λ M=>sqv y t M*sqv y t M
theorem sqI_has {B:Nat} {a:Int × Int} {y:Nat->Rat} (h:Iv B a y) (t:Nat):Iv B (sqI B a t) (sqv y t):=by
 induction t with
 | zero=>exact h
 | succ t ih=>exact ih.mul ih
theorem sqv_null {x:Nat->Rat} (h:Bdd x) (t:Nat):Null (λ M=>sqv (Ev x) t M-Ev (λ M=>(Q t:Rat)*x M) M):=by
 have hb:∀ t,Bdd (λ M=>(Q t:Rat)*x M):=λ t=>(Bdd.const _).mul h
 induction t with
 | zero =>
  have e:(λ M=>(Q 0:Rat)*x M)=x:=funext λ M=>by simp[Q]
  rw[e];exact null_zero.of_eq λ M=>by simp only[sqv];grind
 | succ t ih =>
  have b1:=zA4 (hb t);have b2:Bdd (sqv (Ev x) t):=b1.of_null (ih.neg.of_eq λ M=>by grind)
  have n1:=ih.bmul (b1.add b2);have n2:=yZ (hb t) (hb t)
  have e:(λ M=>(Q t:Rat)*x M+(Q t:Rat)*x M)=λ M=>(Q (t+1):Rat)*x M:=funext λ M=>by
   have:(Q (t+1):Rat)=2*(Q t:Rat):=by
    have:Q (t+1)=2*Q t:=rfl;rw[this,Ye];rfl
   rw[this];grind
  rw[e] at n2;refine (n1.add n2).of_eq λ M=>?_
  simp only[sqv];grind
theorem zPY {B N t:Nat} {a:Int × Int} {x:Nat->Rat} (hB:8<=B) (h:Iv B a x) (hs:Abs (zN a t) (Q (B-8))):Iv B (sqI B (zT (zV B (zN a t)) N) t) (Ev x):=by
 have hx:=Has.bdd h;have h1:=sqI_has (zGR (N:=N) hB (h.down t) hs) t;have hb:Bdd (λ M=>x M/(Q t:Rat)):=Has.bdd (h.down t)
 have n1:=sqv_null hb t;have q:=zY t
 have e:(λ M=>(Q t:Rat)*(x M/(Q t:Rat)))=x:=funext λ M=>by
  rw[Rat.mul_comm];exact rdm q
 rw[e] at n1;exact h1.congr (n1.neg.of_eq λ M=>by grind)
def eb (i:Nat):Nat:=if i<=10 then 12 else 12*2 ^ (i-10)
def cI:Nat->Int
 | 0=>66048
 | i+1=>cI i*cI i/65536+1
theorem Q_16 {B:Nat} (hB:16<=B):Q B=65536*Q (B-16)/\Q (B-8)=256*Q (B-16):=by
 have h1:=jD 16 (B-16);have h2:=jD 8 (B-16);rw[show 16+(B-16)=B by omega] at h1
 rw[show 8+(B-16)=B-8 by omega] at h2
 exact⟨by rw[h1];rfl,by rw[h2];rfl⟩
theorem zQW {B:Nat} {d:Int × Int} (hB:16<=B) (h:Abs d (Q B+2*Q (B-8))) (i:Nat):Abs (sqI B d i) (cI i*Q (B-16)):=by
 obtain⟨e1,e2⟩:=Q_16 hB
 induction i with
 | zero=>exact h.mono (by simp only[cI];omega)
 | succ i ih =>
  refine zAC ih ih ?_;rw[e1];have q:=zG (B-16);have h1:cI i*cI i<=cI (i+1)*65536:=by simp only[cI];omega
  have h2:=Yb (show 0<=Q (B-16) by omega) (show 0<=Q (B-16) by omega)
  have h3:=XK h1 h2;generalize Q (B-16)=r at *;have e3:cI i*r*(cI i*r)=cI i*cI i*(r*r):=by grind
  have e4:cI (i+1)*r*(65536*r)=cI (i+1)*65536*(r*r):=by grind
  rw[e3,e4];exact h3
theorem cI_le:∀ i,i<11->cI i<=268435456:=by decide
theorem zOA {B:Nat} {d:Int × Int} (hB:16<=B) (h:Abs d (Q B+2*Q (B-8))) (i:Nat):Abs (sqI B d i) (Q (B+eb i)):=by
 by_cases hi:i<=10
 ·refine (zQW hB h i).mono ?_
  have e:eb i=12:=by simp[eb,hi]
  have e2:Q (B+12)=268435456*Q (B-16):=by
   have:=jD 28 (B-16);rw[show 28+(B-16)=B+12 by omega] at this
   rw[this];rfl
  rw[e,e2];exact XK (cI_le i (by omega)) (by have:=zG (B-16);omega)
 ·obtain⟨j,rfl⟩:∃ j,i=10+j:=⟨i-10,by omega⟩
  clear hi
  have key:Abs (sqI B d (10+j)) (Q (B+12*2 ^ j)):=by
   induction j with
   | zero =>
    refine (zQW hB h 10).mono ?_
    have e2:Q (B+12*2 ^ 0)=268435456*Q (B-16):=by
     have:=jD 28 (B-16);rw[show 28+(B-16)=B+12*2 ^ 0 by omega] at this
     rw[this];rfl
    rw[e2];exact XK (cI_le 10 (by omega)) (by have:=zG (B-16);omega)
   | succ j ih =>
    refine zAC ih ih ?_;rw[<- jD,<- jD];refine zK ?_;rw[Nat.pow_succ];omega
  by_cases hj:j=0
  ·subst hj;exact key
  ·have:eb (10+j)=12*2 ^ j:=by
    unfold eb;rw[if_neg (by omega)];congr 2;omega
   rw[this];exact key
def wb:Nat->Nat
 | 0=>0
 | i+1=>wb i+eb i+2
theorem sq_wide {B:Nat} {d:Int × Int} (hB:16<=B) (h:Abs d (Q B+2*Q (B-8))) (hd:d.1<=d.2) (i:Nat):(sqI B d i).1<=(sqI B d i).2/\(sqI B d i).2-(sqI B d i).1+1<=(d.2-d.1+1)*Q (wb i):=by
 induction i with
 | zero=>simp only[sqI,wb,Q];omega
 | succ i ih =>
  obtain⟨h1,h2⟩:=ih;refine⟨yK B,?_⟩;have ha:=zOA hB h i;obtain⟨W,hW⟩:∃ W,W=(sqI B d i).2-(sqI B d i).1:=⟨_,rfl⟩;rw[<- hW] at h2
  have h3:=zBU (B:=B) (c:=2*Q (eb i)*W) ha ha h1 h1 (by
   rw[<- hW,jD];generalize Q B=q;generalize Q (eb i)=r;have:q*r*W+q*r*W=2*r*W*q:=by grind
   omega)
  have e:Q (wb (i+1))=Q (wb i)*(4*Q (eb i)):=by
   have:wb (i+1)=wb i+(eb i+2):=by simp only[wb];omega
   rw[this,jD]
   congr 1
   have:=jD (eb i) 2;rw[this,Int.mul_comm];rfl
  rw[e];have q1:=zG (eb i);have p:=XK h2 (show 0<=4*Q (eb i) by omega)
  rw[<- Int.mul_assoc];refine Int.le_trans ?_ p;have w0:0<=W:=by omega
  have p2:=Yb w0 (show 0<=Q (eb i) by omega)
  show (kJ B (sqI B d i) (sqI B d i)).2-(kJ B (sqI B d i) (sqI B d i)).1+1<=_
  have e5:(W+1)*(4*Q (eb i))=4*(W*Q (eb i))+4*Q (eb i):=by grind
  have e6:2*Q (eb i)*W=2*(W*Q (eb i)):=by grind
  rw[e5];rw[e6] at h3;omega
theorem zFG {i j:Nat} (h:i<=j):eb i<=eb j:=by
 unfold eb;split
 ·split
  ·omega
  ·have:=Nat.pow_le_pow_right (show 0<2 by omega) (show 0<=j-10 by omega);simp at this;omega
 ·split
  ·omega
  ·have:=Nat.pow_le_pow_right (show 0<2 by omega) (show i-10<=j-10 by omega);omega
theorem zI7 {B N t:Nat} {a:Int × Int} {ws:Int} (hB:16<=B) (hs:Abs (zN a t) (Q (B-8))) (ha:a.1<=a.2) (hw:a.2-a.1<=ws*Q t) (hN:kG (zV B (zN a t)) N) :
  (sqI B (zT (zV B (zN a t)) N) t).1<=(sqI B (zT (zV B (zN a t)) N) t).2/\Abs (sqI B (zT (zV B (zN a t)) N) t) (Q (B+eb t))/\N<=B/8+1 /\
  (sqI B (zT (zV B (zN a t)) N) t).2-(sqI B (zT (zV B (zN a t)) N) t).1<=(((N:Int)+1)*(2*ws+6)+3)*Q (wb t):=by
 have q:=zG t
 have bN:(zN a t).1<=(zN a t).2:=by
  have:=kR (a:=a) (n:=1) (d:=Q t) ha (by omega) (by omega)
  simpa [zE,zN] using this
 have S8:(zN a t).2-(zN a t).1<=ws+1:=zC7 (by omega) hw
 have hT:=zC0 (by omega) hs
 have IP:1<=N:=by
  refine Nat.pos_of_ne_zero λ e=>?_
  have:=hN.1;rw[e] at this
  have h2:zP (zV B (zN a t) 0)=Q B:=by
   show zF7 (Q B) (-Q B)=Q B
   have:=zG B;unfold zF7;rw[if_neg (by omega)]
  rw[h2] at this;have:=zK hB;have:Q 16=65536:=rfl;omega
 have hd:=zIQ (s:=8) (by omega) (kY B (zN a t)) hT hN IP
 have Bo:=zF5 (kY B (zN a t)) N;have hdw:=zFP (zJB (by omega) hs bN S8) hN
 obtain⟨g1,g2⟩:=sq_wide hB hd Bo t
 have hle:N<=B/8+1:=by
  obtain⟨N',n1,n2⟩:=zDD (s:=8) (by omega) hT
  refine Nat.le_trans (Nat.not_lt.1 λ E4=>?_) n1
  have:=hN.2 N' E4;have:=n2.1;omega
 refine⟨g1,zOA hB hd t,hle,?_⟩;have q2:=zG (wb t);have e:2*(ws+1)+4=2*ws+6:=by omega
 rw[e] at hdw;have:=XK (show (zT (zV B (zN a t)) N).2-(zT (zV B (zN a t)) N).1+1<=((N:Int)+1)*(2*ws+6)+3 by omega) (show 0<=Q (wb t) by omega)
 omega
def zN0 (B:Nat) (z sq:Int × Int):Nat->Int × Int
 | 0=>z
 | n+1=>zE (kJ B (zN0 B z sq n) sq) (2*(n:Int)+1) (2*(n:Int)+3)
theorem zGB {n d:Int} (hd:0<d) (B:Nat):(ofI n d B).1<=(ofI n d B).2:=by
 have:=kR (a:=(n*Q B,n*Q B)) (n:=1) (Int.le_refl _) hd (by omega)
 simpa [zE,ofI] using this
theorem zE1 {n d:Int} (hd:0<d) (B:Nat):(ofI n d B).2-(ofI n d B).1<=1:=by
 have:=zC7 (x:=n*Q B) (y:=n*Q B) (c:=0) hd (by omega)
 simpa [ofI] using this
theorem zOS {n d m:Int} (hd:0<d) (B:Nat) (h1 : -(m*d)<=n*Q B) (h2:n*Q B<=m*d):Abs (ofI n d B) m:=by
 have:=jA hd h1 h2;exact⟨this.1,this.2.1,this.2.2.1,this.2.2.2⟩
theorem zPB {B:Nat} {z sq:Int × Int} (hz:z.1<=z.2) (n:Nat):(zN0 B z sq n).1<=(zN0 B z sq n).2:=by
 cases n with
 | zero=>exact hz
 | succ n=>exact kR (yK B) (by omega) (by omega)
theorem zL0 {B:Nat} {z sq:Int × Int} (hB:3<=B) (hz:Abs z (Q B)) (hs:Abs sq (Q (B-3))) (n:Nat):Abs (zN0 B z sq n) (Q (B-3*n)):=by
 induction n with
 | zero=>exact hz
 | succ n ih=>exact zAH (zAC ih hs (Q_step hB n)) (by omega) (by omega) (by omega)
theorem zOL {B:Nat} (hB:3<=B):Q B=8*Q (B-3):=by
 have:=jD 3 (B-3);rw[show 3+(B-3)=B by omega] at this
 rw[this];rfl
theorem zQO {B:Nat} {z sq:Int × Int} (hB:3<=B) (hz:Abs z (Q B)) (hs:Abs sq (Q (B-3))) (IQ:z.1<=z.2) (bN:sq.1<=sq.2) (hzw:z.2-z.1<=1) (S8:sq.2-sq.1<=2) (n:Nat):(zN0 B z sq n).2-(zN0 B z sq n).1<=6:=by
 induction n with
 | zero=>simp only[zN0];omega
 | succ n ih =>
  have q:=zG (B-3);have e:=zOL hB;have m1:Q (B-3*n)<=Q B:=zK (by omega)
  have p1:=Int.mul_le_mul m1 S8 (by omega) (by omega)
  have p2:=XR ih (show 0<=Q (B-3) by omega)
  have h1:=zBU (B:=B) (c:=3) (zL0 hB hz hs n) hs (zPB IQ n) bN (by omega)
  have h2:=zAL (a:=kJ B (zN0 B z sq n) sq) (n:=2*(n:Int)+1) (d:=2*(n:Int)+3) (c:=4) (by omega) (by
   have:=XK (show (kJ B (zN0 B z sq n) sq).2-(kJ B (zN0 B z sq n) sq).1<=4 by omega) (show 0<=2*(n:Int)+1 by omega)
   omega)
  simp only[zN0];omega
theorem logT_has {B:Nat} {a sq:Int × Int} {z:Rat} (h:Iv B a (λ _=>z)) (hs:Iv B sq (λ _=>z*z)) (n:Nat):Iv B (zN0 B a sq n) (λ _=>pw z (2*n+1)/(2*(n:Rat)+1)):=by
 induction n with
 | zero =>
  refine Has.of_eq h λ M=>?_
  simp[pw];grind
 | succ n ih =>
  have:=(ih.mul hs).scale (n:=2*(n:Int)+1) (d:=2*(n:Int)+3) (by omega) (by omega)
  refine Has.of_eq this λ M=>?_
  have e1:((2*(n:Int)+1:Int):Rat)=2*(n:Rat)+1:=by rw[Rat.intCast_add,Ye];rfl
  have e2:((2*(n:Int)+3:Int):Rat)=2*(n:Rat)+3:=by rw[Rat.intCast_add,Ye];rfl
  have e3:((n+1:Nat):Rat)=(n:Rat)+1:=by simp
  have e4:pw z (2*(n+1)+1)=z*(z*pw z (2*n+1)):=rfl;rw[e1,e2,e3,e4];have hn:(0:Rat)<=(n:Rat):=by exact_mod_cast Nat.zero_le n
  generalize pw z (2*n+1)=p;have d1:(2*(n:Rat)+1)≠0:=by grind
  have d2:(2*(n:Rat)+3)≠0:=by grind
  have d3:2*((n:Rat)+1)+1=2*(n:Rat)+3:=by grind
  rw[d3];generalize 2*(n:Rat)+1=u at *;generalize 2*(n:Rat)+3=v at *;grind
theorem odd_half {z b:Rat} (hz:AB z (1/2)) (n:Nat) (h:AB (pw z (2*n+1)/(2*(n:Rat)+1)) b):AB (pw z (2*(n+1)+1)/(2*((n+1:Nat):Rat)+1)) (b/2):=by
 have hn:(0:Rat)<=(n:Rat):=by exact_mod_cast Nat.zero_le n
 have e3:((n+1:Nat):Rat)=(n:Rat)+1:=by simp
 have e4:pw z (2*(n+1)+1)=z*(z*pw z (2*n+1)):=rfl;have e5:=rdm (a:=pw z (2*n+1)) (show (0:Rat)<2*(n:Rat)+1 by grind)
 rw[e3,e4];refine zA2 (by grind) ?_
 generalize pw z (2*n+1)/(2*(n:Rat)+1)=t at *;rw[<- e5];have h1:AB (2*(n:Rat)+1) (2*(n:Rat)+1):=by constructor<;>grind
 have g:=(hz.mul (hz.mul (h.mul h1)));refine g.mono ?_;have:=XQ hn h.nonneg;have:=h.nonneg;grind
structure yQ (n d:Int):Prop where
 hn:0<n
 hd:0<d
 h1:3*(n-d)<=n+d
 h2:3*(d-n)<=n+d
def zI (n d:Int) (B:Nat):Int × Int:=ofI (n-d) (n+d) B
def lnT (n d:Int) (B:Nat):Nat->Int × Int:=zN0 B (zI n d B) (kJ B (zI n d B) (zI n d B))
def zR (n d:Int):Rat:=((n-d:Int):Rat)/((n+d:Int):Rat)
theorem zI1 {n d:Int} (h:yQ n d) (B:Nat):Abs (zI n d B) (Q B/3+1):=by
 obtain⟨h0,LJ,h1,h2⟩:=h;have q:=zG B;have g1:=XK h1 (show 0<=Q B by omega)
 have g2:=XK h2 (show 0<=Q B by omega)
 have g3:=XK (show Q B<=3*(Q B/3+1) by omega) (show 0<=n+d by omega)
 have e1:3*(Q B/3+1)*(n+d)=3*((Q B/3+1)*(n+d)):=Int.mul_assoc _ _ _;have e2:3*(n-d)*Q B=3*((n-d)*Q B):=Int.mul_assoc _ _ _;have e3:3*(d-n)*Q B = -(3*((n-d)*Q B)):=by grind
 have e4:(n+d)*Q B=Q B*(n+d):=Int.mul_comm _ _;exact zOS (by omega) B (by omega) (by omega)
theorem sq_small {q:Int} (hq:65536<=q):(q/3+1)*(q/3+1)*8<=q*q:=by
 have h1:3*(q/3+1)<=q+3:=by omega
 have h2:=Int.mul_le_mul h1 h1 (by omega) (by omega)
 have h3:=XK hq (show 0<=q by omega)
 grind
theorem zKV {n d:Int} (h:yQ n d) {B:Nat} (hB:16<=B):Abs (kJ B (zI n d B) (zI n d B)) (Q (B-3)):=by
 refine zAC (zI1 h B) (zI1 h B) ?_;have e:=zOL (show 3<=B by omega)
 have h1:=zK hB;have h2:Q 16=65536:=rfl;have h3:=sq_small (q:=Q B) (by omega)
 have e2:Q B*Q B=8*(Q (B-3)*Q B):=by rw[e];grind
 omega
theorem zKU {n d:Int} (h:yQ n d) {B:Nat} (hB:16<=B):Abs (zI n d B) (Q B):=(zI1 h B).mono (by
 have h1:=zK hB;have h2:Q 16=65536:=rfl
 omega)
theorem sqI_wide {n d:Int} (h:yQ n d) {B:Nat} (hB:16<=B):(kJ B (zI n d B) (zI n d B)).2-(kJ B (zI n d B) (zI n d B)).1<=2:=by
 have hd:0<n+d:=by have:=h.hn;have:=h.hd;omega
 have l:=zGB (n:=n-d) hd B;have w:=zE1 (n:=n-d) hd B;have h1:=zK hB;have h2:Q 16=65536:=rfl;have p:=XR w (show 0<=Q B/3+1 by omega)
 exact zBU (c:=1) (zI1 h B) (zI1 h B) l l (by
  show (Q B/3+1)*((ofI (n-d) (n+d) B).2-(ofI (n-d) (n+d) B).1)+(Q B/3+1)*((ofI (n-d) (n+d) B).2-(ofI (n-d) (n+d) B).1)<=1*Q B
  omega)
theorem zF2 {n d:Int} (h:yQ n d) {B:Nat} (hB:16<=B) (k:Nat):Abs (lnT n d B k) (Q (B-3*k)):=zL0 (by omega) (zKU h hB) (zKV h hB) k
theorem zMY {n d:Int} (h:yQ n d) (B k:Nat):(lnT n d B k).1<=(lnT n d B k).2:=zPB (zGB (by have:=h.hn;have:=h.hd;omega) B) k
theorem lnT_wide {n d:Int} (h:yQ n d) {B:Nat} (hB:16<=B) (k:Nat):(lnT n d B k).2-(lnT n d B k).1<=6 :=
 zQO (by omega) (zKU h hB) (zKV h hB) (zGB (by have:=h.hn;have:=h.hd;omega) B) (yK B) (zE1 (by have:=h.hn;have:=h.hd;omega) B) (sqI_wide h hB) k
theorem zMR {n d:Int} (h:yQ n d) {B N:Nat} (hB:16<=B) (hN:kG (lnT n d B) N) :
  (zT (lnT n d B) N).1<=(zT (lnT n d B) N).2/\Abs (zT (lnT n d B) N) (2*Q B)/\N<=B/3+1/\(zT (lnT n d B) N).2-(zT (lnT n d B) N).1<=((N:Int)+1)*6+2:=by
 refine⟨zF5 (zMY h B) N,zH8 (s:=3) (by omega) (zMY h B) (zF2 h hB) hN,?_,zFP (lnT_wide h hB) hN⟩
 obtain⟨N',n1,n2⟩:=zDD (s:=3) (by omega) (zF2 h hB)
 refine Nat.le_trans (Nat.not_lt.1 λ E4=>?_) n1
 have:=hN.2 N' E4;have:=n2.1;omega
theorem zR_AB {n d:Int} (h:yQ n d):AB (zR n d) (1/2):=by
 obtain⟨h0,LJ,h1,h2⟩:=h;have hp:(0:Rat)<((n+d:Int):Rat):=by exact_mod_cast (show 0<n+d by omega)
 refine zA2 hp ?_;have g1:((3*(n-d):Int):Rat)<=((n+d:Int):Rat):=zX h1;have g2:((-(3*(n-d)):Int):Rat)<=((n+d:Int):Rat):=zX (by omega)
 rw[Rat.intCast_neg] at g2;rw[Ye] at g1 g2;have e:((3:Int):Rat)=3:=rfl;rw[e] at g1 g2;constructor<;>grind
theorem ln_has {n d:Int} (h:yQ n d) (B N:Nat):Iv B (zT (lnT n d B) N) (λ M=>Az (zR n d) M):=by
 have hz:Iv B (zI n d B) (λ _=>zR n d):=Iv.of B (by have:=h.hn;have:=h.hd;omega)
 exact zHM (zMY h B) (λ k _=>logT_has hz (hz.mul hz) k) 0 (λ M _ k b _ hb=>odd_half (zR_AB h) k hb)
theorem zDX {n d:Int} (h:yQ n d):IsLog (λ M=>2*Az (zR n d) M) (λ _=>(n:Rat)/(d:Rat)):=by
 refine isLog_Az (z:=λ _=>zR n d) 0 (λ _ _=>zR_AB h) (λ M _=>?_)
 obtain⟨h0,LJ,h1,h2⟩:=h;have hp:(0:Rat)<((n+d:Int):Rat):=by exact_mod_cast (show 0<n+d by omega)
 have hd:(0:Rat)<(d:Rat):=by exact_mod_cast LJ
 have e1:=rdm (a:=((n-d:Int):Rat)) hp;have e2:=rdm (a:=(n:Rat)) hd
 show (n:Rat)/(d:Rat)*(1-zR n d)=1+zR n d
 unfold zR;generalize ((n-d:Int):Rat)/((n+d:Int):Rat)=z at *;generalize (n:Rat)/(d:Rat)=r at *;rw[Rat.intCast_sub,Rat.intCast_add] at e1;rw[Rat.intCast_add] at hp;have e3:z*(r*d+d)=r*d-d:=by rw[e2];exact e1
 have e4:(d:Rat)*(r*(1-z)-(1+z))=0:=by grind
 rcases Rat.mul_eq_zero.1 e4 with h|h
 ·grind
 ·grind
theorem pw_Q (k:Nat):pw 2 k=(Q k:Rat):=by
 induction k with
 | zero=>rfl
 | succ k ih =>
  have e:Q (k+1)=2*Q k:=rfl;rw[e,Ye];simp only[pw,ih];rfl
def zIN (a b:Int × Int) (k:Int):Int × Int:=if k<0 then zAF (yT a 2) (yT (yT b 2) (-k)) else jJ (yT a 2) (yT (yT b 2) k)
def Bal (n d n' d' k:Int):Prop:=yQ n' d'/\(0<=k->n*d'=n'*d*Q k.toNat)/\(k<0->n*d'*Q (-k).toNat=n'*d)
theorem zQJ:yQ 2 1:=⟨by omega,by omega,by omega,by omega⟩
theorem zE9 {n d n' d' k:Int} (hn:0<n) (hd:0<d) (h:Bal n d n' d' k) (B N N2:Nat) :
  ∃ l,IsLog l (λ _=>(n:Rat)/(d:Rat))/\Iv B (zIN (zT (lnT n' d' B) N) (zT (lnT 2 1 B) N2) k) l:=by
 obtain⟨h1,h2,h3⟩:=h;have d0:(0:Rat)<(d:Rat):=by exact_mod_cast hd
 have jw:(0:Rat)<(d':Rat):=by exact_mod_cast h1.hd
 have a1:=(ln_has h1 B N).times 2;have a2:=(ln_has zQJ B N2).times 2;have l1:=zDX h1;have l2:=zDX zQJ;have e2:((2:Nat):Rat)=2:=rfl
 have e21:(λ _:Nat=>((2:Int):Rat)/((1:Int):Rat))=λ _=>(2:Rat):=funext λ _=>by
  have:((2:Int):Rat)/((1:Int):Rat)=2:=by
   have e:=rdm (a:=((2:Int):Rat)) (show (0:Rat)<((1:Int):Rat) by decide)
   have e1:((1:Int):Rat)=1:=rfl;have e3:((2:Int):Rat)=2:=rfl;rw[e1,e3] at e ⊢;grind
  exact this
 rw[e21] at l2;rw[e2] at a1 a2
 by_cases hk:k<0
 ·obtain⟨j,rfl⟩:∃ j:Nat,k = -(j:Int):=⟨(-k).toNat,by omega⟩
  have hq:=h3 hk;have ej:(-(-(j:Int))).toNat=j:=by omega
  rw[ej] at hq;have qj:=zY j;have l3:=(l2.times j).neg (s:=λ _=>1/(Q j:Rat)) (Bdd.const _) 0 (λ M _=>by rw[pw_Q];exact rdm qj)
  refine⟨_,(l1.add l3).congr_r (null_zero.of_eq λ M=>?_),?_⟩
  ·show (n':Rat)/(d':Rat)*(1/(Q j:Rat))-(n:Rat)/(d:Rat)=0
   have ag:((n*d'*Q j:Int):Rat)=((n'*d:Int):Rat):=by rw[hq]
   rw[Ye,Ye,Ye] at ag;have f1:=rdm (a:=(n':Rat)) jw;have f2:=rdm (a:=(n:Rat)) d0;have f3:=rdm (a:=(1:Rat)) qj;generalize (n':Rat)/(d':Rat)=r' at *;generalize (n:Rat)/(d:Rat)=r at *;generalize 1/(Q j:Rat)=i at *;rw[<- f1,<- f2] at ag;have f4:(d:Rat)*((d':Rat)*(r*(Q j:Rat)-r'))=0:=by grind
   have f5:r*(Q j:Rat)=r':=by
    rcases Rat.mul_eq_zero.1 f4 with h|h
    ·grind
    ·rcases Rat.mul_eq_zero.1 h with h|h
     ·grind
     ·grind
   rw[<- f5];have:r*(Q j:Rat)*i-r=r*(i*(Q j:Rat))-r:=by grind
   rw[this,f3];grind
  ·unfold zIN
   rw[if_pos hk];have:=a1.sub (a2.times j);rw[show -(-(j:Int))=(j:Int) by omega]
   refine Has.of_eq this λ M=>?_
   grind
 ·obtain⟨j,rfl⟩:∃ j:Nat,k=(j:Int):=⟨k.toNat,by omega⟩
  have hq:=h2 (by omega)
  have ej:((j:Int)).toNat=j:=by omega
  rw[ej] at hq;have l3:=l2.times j;refine⟨_,(l1.add l3).congr_r (null_zero.of_eq λ M=>?_),?_⟩
  ·show (n':Rat)/(d':Rat)*pw 2 j-(n:Rat)/(d:Rat)=0
   rw[pw_Q];have ag:((n*d':Int):Rat)=((n'*d*Q j:Int):Rat):=by rw[hq]
   rw[Ye,Ye,Ye] at ag;have f1:=rdm (a:=(n':Rat)) jw;have f2:=rdm (a:=(n:Rat)) d0;generalize (n':Rat)/(d':Rat)=r' at *;generalize (n:Rat)/(d:Rat)=r at *;rw[<- f1,<- f2] at ag;have f4:(d:Rat)*((d':Rat)*(r'*(Q j:Rat)-r))=0:=by grind
   rcases Rat.mul_eq_zero.1 f4 with h|h
   ·grind
   ·rcases Rat.mul_eq_zero.1 h with h|h
    ·grind
    ·exact h
  ·unfold zIN
   rw[if_neg hk];exact a1.add (a2.times j)
theorem zF3 {n' d' k:Int} (h:yQ n' d') {B N N2:Nat} (hB:16<=B) (hN:kG (lnT n' d' B) N) (ct:kG (lnT 2 1 B) N2) (K:Int) (S7 : -K<=k) (ba:k<=K) :
  let o:=zIN (zT (lnT n' d' B) N) (zT (lnT 2 1 B) N2) k
  o.1<=o.2/\Abs o ((K+1)*(4*Q B))/\o.2-o.1<=(K+1)*(2*(((B:Int)/3+2)*6+2)):=by
 obtain⟨a1,a2,a3,a4⟩:=zMR h hB hN;obtain⟨b1,b2,b3,b4⟩:=zMR zQJ hB ct
 intro o
 have q:=zG B;obtain⟨W,hW⟩:∃ W:Int,W=((B:Int)/3+2)*6+2:=⟨_,rfl⟩;have a5:(zT (lnT n' d' B) N).2-(zT (lnT n' d' B) N).1<=W:=by omega
 have b5:(zT (lnT 2 1 B) N2).2-(zT (lnT 2 1 B) N2).1<=W:=by omega
 rw[<- hW];have ho:o=zIN (zT (lnT n' d' B) N) (zT (lnT 2 1 B) N2) k:=rfl
 clear_value o
 subst ho;generalize zT (lnT n' d' B) N=x at *;generalize zT (lnT 2 1 B) N2=y at *;obtain⟨x1,x2,x3,x4⟩:=a2;obtain⟨y1,y2,y3,y4⟩:=b2;clear a3 a4 b3 b4;have hK:0<=K:=by omega
 have eK:(K+1)*(4*Q B)=K*(4*Q B)+4*Q B:=by rw[Int.add_mul,Int.one_mul]
 have eW:(K+1)*(2*W)=K*(2*W)+2*W:=by rw[Int.add_mul,Int.one_mul]
 rw[eK,eW]
 have hj:∀ j:Int,0<=j->j<=K->y.1*2*j<=y.2*2*j /\ -(K*(4*Q B))<=y.1*2*j/\y.1*2*j<=K*(4*Q B) /\ -(K*(4*Q B))<=y.2*2*j/\y.2*2*j<=K*(4*Q B)/\y.2*2*j-y.1*2*j<=K*(2*W):=λ j j0 jK=>by
  have c1:=yJ (x:=y.1*2) (m:=4*Q B) (by omega) (by omega) (show -K<=j by omega) jK
  have c2:=yJ (x:=y.2*2) (m:=4*Q B) (by omega) (by omega) (show -K<=j by omega) jK
  have c3:=XK (show y.1*2<=y.2*2 by omega) j0
  have c4:=Int.mul_le_mul (show y.2*2-y.1*2<=2*W by omega) jK j0 (by omega)
  rw[Int.sub_mul] at c4;have e1:4*Q B*K=K*(4*Q B):=Int.mul_comm _ _;have e2:2*W*K=K*(2*W):=Int.mul_comm _ _;omega
 unfold zIN;split
 ·obtain⟨c1,c2,c3,c4,c5,c6⟩:=hj (-k) (by omega) (by omega)
  simp only[zAF,yT,Abs];omega
 ·obtain⟨c1,c2,c3,c4,c5,c6⟩:=hj k (by omega) (by omega)
  simp only[jJ,yT,Abs];omega
def zBZ (f:Nat->Int × Int) (N:Nat):Int × Int:=jJ (jE f N) (-1,1)
theorem Iv.mono {B:Nat} {a b:Int × Int} {x:Nat->Rat} (h:Iv B a x) (h1:b.1<=a.1) (h2:a.2<=b.2):Iv B b x:=by
 have q:=zY B;exact Has.mono h (jZ q (by rw[rdm q];exact zX h1)) (jZ q (by rw[rdm q];exact zX h2))
theorem zQ5 {B N:Nat} {f:Nat->Int × Int} {x:Nat->Rat} (h:Iv B (zT f N) x) (hr:zP (f N)<=1):Iv B (zBZ f N) x:=by
 refine h.mono ?_ ?_<;>simp only[zBZ,zT,jJ]<;>omega
theorem zF9 {b:Nat} {X:Int} (h0:0<=X) (h1:X<=Q b) (n:Nat):Abs (zV b (X,X) (n+1)) (Q (b-n)):=by
 have hX:Abs (X,X) (Q b):=⟨by simp only[];omega,by simp only[];omega,by simp only[];omega,by simp only[];omega⟩
 induction n with
 | zero =>
  have h2:Abs (zV b (X,X) 0) (Q b):=by have:=zG b;exact⟨by simp[zV];omega,by simp[zV],by simp[zV];omega,by simp[zV]⟩
  exact zAH (zAC h2 hX (Int.le_refl _)) (by omega) (by omega) (by omega)
 | succ n ih =>
  have h2:Abs (kJ b (zV b (X,X) (n+1)) (X,X)) (Q (b-n)):=zAC ih hX (Int.le_refl _);obtain⟨g1,g2,g3,g4⟩:=h2;have q:=zG (b-(n+1))
  have hq:Q (b-n)<=Q (b-(n+1))*((n+1:Nat)+1:Int):=by
   by_cases hb:b-n=0
   ·have e:b-(n+1)=0:=by omega
    rw[hb,e];simp[Q];omega
   ·have e:b-n=b-(n+1)+1:=by omega
    rw[e];have e2:Q (b-(n+1)+1)=2*Q (b-(n+1)):=rfl;rw[e2];have:=XR (show (2:Int)<=((n+1:Nat)+1:Int) by omega) (show 0<=Q (b-(n+1)) by omega)
    omega
  have d0:(0:Int)<((n+1:Nat)+1:Int):=by omega
  have r1:=jA (x:=(kJ b (zV b (X,X) (n+1)) (X,X)).1*1) (m:=Q (b-(n+1))) d0 (by omega) (by omega)
  have r2:=jA (x:=(kJ b (zV b (X,X) (n+1)) (X,X)).2*1) (m:=Q (b-(n+1))) d0 (by omega) (by omega)
  exact⟨r1.1,r1.2.1,r2.2.2.1,r2.2.2.2⟩
theorem zET {b:Nat} {X:Int} (h0:0<=X) (h1:X<=Q b) (n:Nat):Abs (zV b (X,X) n) (Q b):=by
 cases n with
 | zero=>have:=zG b;exact⟨by simp[zV];omega,by simp[zV],by simp[zV];omega,by simp[zV]⟩
 | succ n=>exact (zF9 h0 h1 n).mono (zK (by omega))
def zDC (f:Nat->Int × Int) (N:Nat):Prop:=3<=N/\zP (f N)<=1/\∀ n,3<=n->n<N->1<zP (f n)
theorem zMO {b:Nat} {X:Int} (h0:0<=X) (h1:X<=Q b):∃ N,N<=b+4/\zDC (zV b (X,X)) N:=by
 have h2:3<=b+4/\zP (zV b (X,X) (b+4))<=1:=by
  refine⟨by omega,?_⟩
  have:=zAE (zF9 h0 h1 (b+3));have e:b-(b+3)=0:=by omega
  rw[e] at this;exact this
 obtain⟨N,n1,n2,n3⟩:=zAW (p:=λ n=>3<=n/\zP (zV b (X,X) n)<=1) h2
 exact⟨N,n1,n2.1,n2.2,λ n h3 hn=>by have:=n3 n hn;simp at this;have:=this h3;omega⟩
theorem zNE {b:Nat} {X:Int} (h0:0<=X) (n:Nat):0<=(zV b (X,X) n).1:=by
 induction n with
 | zero=>have:=zG b;simp only[zV];omega
 | succ n ih =>
  have hle:=kY b (X,X) n;have q:=zG b;have l:=(zC8 ((zV b (X,X) n).1*X) ((zV b (X,X) n).1*X) ((zV b (X,X) n).2*X) ((zV b (X,X) n).2*X)).2.2.2.2;have p1:=Yb ih h0;have p2:=Yb (show 0<=(zV b (X,X) n).2 by omega) h0
  have h3:0<=(kJ b (zV b (X,X) n) (X,X)).1:=by
   simp only[kJ];refine Int.ediv_nonneg ?_ (by omega)
   rcases l with l|l|l|l<;>rw[l]<;>assumption
  simp only[zV,zE];exact Int.ediv_nonneg (by omega) (by omega)
theorem low_sum {b:Nat} {X:Int} (h0:0<=X) (n:Nat):Q b<=(jE (zV b (X,X)) n).1:=by
 induction n with
 | zero=>simp[jE,zV]
 | succ n ih=>simp only[jE,jJ];have:=zNE (b:=b) h0 (n+1);omega
theorem zNK {b:Nat} {X:Int} (h0:0<=X) (h1:X<=Q b) (n:Nat):Abs (jE (zV b (X,X)) n) (((n:Int)+1)*Q b):=by
 induction n with
 | zero=>simp only[jE];exact (zET h0 h1 0).mono (by simp)
 | succ n ih =>
  simp only[jE];refine (ih.add (zET h0 h1 (n+1))).mono ?_
  have:(((n+1:Nat):Int)+1)*Q b=((n:Int)+1)*Q b+Q b:=by
   have e:(((n+1:Nat):Int)+1)=((n:Int)+1)+1:=by omega
   rw[e,Int.add_mul,Int.one_mul]
  omega
theorem tm_half1 {x b:Rat} (hx:AB x 1) {n:Nat} (hn:1<=n) (h:AB (tm x n) b):AB (tm x (n+1)) (b/2):=by
 have e:=kU x n;have hp:=zBE n;have g:=hx.mul h;rw[<- e] at g;have e3:tm x (n+1)=((n:Rat)+1)*tm x (n+1)/((n:Rat)+1):=by grind
 rw[e3];refine zA2 hp (g.mono ?_);have vw:(1:Rat)<=(n:Rat):=by exact_mod_cast hn
 have:=XQ (show 0<=(n:Rat)-1 by grind) h.nonneg
 grind
theorem zOF {b N:Nat} {X:Int} (h0:0<=X) (h1:X<=Q b) (hN:zDC (zV b (X,X)) N):Iv b (zBZ (zV b (X,X)) N) (Ev (λ _=>(X:Rat)/(Q b:Rat))):=by
 have q:=zY b;have hX:Iv b (X,X) (λ _=>(X:Rat)/(Q b:Rat)):=Has.const Rat.le_refl Rat.le_refl
 have hx:AB ((X:Rat)/(Q b:Rat)) 1:=by
  refine zA2 q ?_;have c1:((0:Int):Rat)<=(X:Rat):=zX h0;have c2:=zX h1;have c0:((0:Int):Rat)=0:=rfl;rw[c0] at c1;constructor<;>grind
 refine zQ5 ?_ hN.2.1;exact zHM (kY b (X,X)) (λ n _=>zL4 hX n) 0 (λ M _ n c hn hc=>tm_half1 hx (by have:=hN.1;omega) hc)
theorem zDP {f:Nat->Int × Int} (hle:∀ n,(f n).1<=(f n).2) (n:Nat):(zBZ f n).1<=(zBZ f n).2:=by
 have:=zCW hle n;simp only[zBZ,jJ];omega
theorem zK3 {b:Nat} {X:Int} (h0:0<=X) (N:Nat):Q b-1<=(zBZ (zV b (X,X)) N).1:=by
 have:=low_sum (b:=b) h0 N;simp only[zBZ,jJ];omega
theorem low_up {b N:Nat} {X:Int} (h0:0<=X) (h1:X<=Q b) (hN:zDC (zV b (X,X)) N):(jE (zV b (X,X)) N).2+Q (b-(N-1))<=3*Q b+3:=by
 have key:∀ n,n+1<=N->(jE (zV b (X,X)) (n+1)).2+Q (b-n)<=3*Q b+(if n ≥ 3 then 3 else n):=λ n=>by
  induction n with
  | zero =>
   intro _
   have g0:=(zET h0 h1 0).2.2.2;have g1:(zV b (X,X) 1).2<=Q b:=(zF9 h0 h1 0).2.2.2;simp only[jE,jJ,Nat.sub_zero];simp;omega
  | succ n ih =>
   intro hn
   have ih:=ih (by omega)
   have g:=(zF9 h0 h1 (n+1)).2.2.2;have e:(jE (zV b (X,X)) (n+1+1)).2=(jE (zV b (X,X)) (n+1)).2+(zV b (X,X) (n+1+1)).2:=rfl;rw[e]
   by_cases hb:1<=b-n
   ·have e2:Q (b-n)=2*Q (b-(n+1)):=by
     have:b-n=b-(n+1)+1:=by omega
     rw[this];rfl
    split at ih<;>split<;>omega
   ·-- then what came last was within 1 already
    have e3:b-n=0:=by omega
    have e4:b-(n+1)=0:=by omega
    rw[e3] at ih;rw[e4] at g ⊢;have h2:Q 0=1:=rfl
    by_cases h3:3<=n+1
    ·exfalso
     have:=hN.2.2 (n+1) h3 (by omega)
     have h4:=zAE (zF9 h0 h1 n);rw[e3] at h4;omega
    ·split at ih<;>split<;>omega
 obtain⟨n,rfl⟩:∃ n,N=n+1:=⟨N-1,by have:=hN.1;omega⟩
 have:=key n (XW _);simp only[Nat.add_sub_cancel];split at this<;>omega
theorem zHU {b N:Nat} {X:Int} (hb:4<=b) (h0:0<=X) (h1:X<=Q b) (hN:zDC (zV b (X,X)) N):Abs (zBZ (zV b (X,X)) N) (Q (b+2)):=by
 have g1:=zK3 (b:=b) h0 N;have g2:=low_up h0 h1 hN;have g3:=zDP (kY b (X,X)) N;have q:=zG (b-(N-1));have q2:=zK hb;have e:Q 4=16:=rfl;have e2:Q (b+2)=2*(2*Q b):=rfl;have g4:(zBZ (zV b (X,X)) N).2=(jE (zV b (X,X)) N).2+1:=rfl;exact⟨by omega,by omega,by omega,by omega⟩
theorem zK5 {B:Nat} {a c:Int × Int} {α β:Int} (ha:Q B-α<=a.1) (hc:Q B-β<=c.1) (la:a.1<=a.2) (lc:c.1<=c.2) (a0:0<=Q B-α) (c0:0<=Q B-β) (hα:0<=α) (hβ:0<=β):Q B-α-β<=(kJ B a c).1:=by
 have q:=zG B;have l:=(zC8 (a.1*c.1) (a.1*c.2) (a.2*c.1) (a.2*c.2)).2.2.2.2;have p1:=Int.mul_le_mul ha hc c0 (by omega)
 have p2:=Int.mul_le_mul ha (show Q B-β<=c.2 by omega) c0 (by omega)
 have p3:=Int.mul_le_mul (show Q B-α<=a.2 by omega) hc c0 (by omega)
 have p4:=Int.mul_le_mul (show Q B-α<=a.2 by omega) (show Q B-β<=c.2 by omega) c0 (by omega)
 have e:(Q B-α)*(Q B-β)=(Q B-α-β)*Q B+α*β:=by grind
 have ab:=Yb hα hβ;simp only[kJ];rw[Int.le_ediv_iff_mul_le (by omega)]
 omega
def EInv (B n:Nat) (m:Nat) (o c:Int × Int):Prop :=
 ∃ j e:Nat,j+e*m=n/\1<=e/\e<=2*n+1/\Iv B o (Ev (λ _=>(j:Rat)))/\Iv B c (Ev (λ _=>(e:Rat)))/\Abs o (Q (B+2*j))/\Abs c (Q (B+2*e))/\o.1<=o.2/\c.1<=c.2/\Q B-2*(j:Int)<=o.1/\Q B-(2*(e:Int)-1)<=c.1
theorem ev_nat (i j:Nat):Null (λ M=>Ev (λ _=>(i:Rat)) M*Ev (λ _=>(j:Rat)) M-Ev (λ _=>((i+j:Nat):Rat)) M):=by
 have n:=yZ (Bdd.const (i:Rat)) (Bdd.const (j:Rat));have e:(λ _:Nat=>(i:Rat)+(j:Rat))=λ _=>((i+j:Nat):Rat):=funext λ _=>by simp
 rw[e] at n;exact n
theorem zRA {B n m:Nat} {o c:Int × Int} (hB:20<=B) (hn:n<=100000) (hm:0<m) (h:EInv B n m o c) :
  EInv B n (m/2) (if m % 2=1 then kJ B o c else o) (kJ B c c)/\Abs (kJ B c c) (Q (B+4*(2*n+1)))/\(m % 2=1->Abs (kJ B o c) (Q (B+2*n))):=by
 obtain⟨j,e,h1,h2,h3,h4,h5,h6,h7,h8,h9,qY,qZ⟩:=h
 have hem:e<=n:=by
  have:=Nat.mul_le_mul_left e hm;omega
 have hQ:1048576<=Q B:=by have:=zK hB;have e:Q 20=1048576:=rfl;omega
 have vx:∀ p q r:Nat,∀ u v:Int × Int,p+q=r->Abs u (Q (B+2*p))->Abs v (Q (B+2*q))->Abs (kJ B u v) (Q (B+2*r)):=λ p q r u v hr hu hv=>by
  refine zAC hu hv ?_;rw[<- jD,<- jD];exact zK (by omega)
 have LK:=vx e e (2*e) c c (by omega) h7 h7
 have IL:Iv B (kJ B c c) (Ev (λ _=>((2*e:Nat):Rat))):=by
  have:Iv B (kJ B c c) (Ev (λ _=>((e+e:Nat):Rat))):=(h5.mul h5).congr ((ev_nat e e).neg.of_eq λ M=>by grind)
  rw[show e+e=2*e by omega] at this
  exact this
 have O7:Q B-(2*((2*e:Nat):Int)-1)<=(kJ B c c).1:=by
  have:=zK5 (B:=B) qZ qZ h9 h9 (by omega) (by omega) (by omega) (by omega)
  omega
 refine⟨?_,LK.mono (zK (by omega)),λ ax=>?_⟩
 ·by_cases ax:m % 2=1
  ·rw[if_pos ax]
   have hme:e*m=2*e*(m/2)+e:=by
    have:m=2*(m/2)+1:=by omega
    have e1:e*m=e*(2*(m/2)+1):=by rw[<- this]
    rw[e1,Nat.mul_add,Nat.mul_one,<- Nat.mul_assoc,Nat.mul_comm e 2]
   refine⟨j+e,2*e,by omega,by omega,by omega,?_,IL,vx j e (j+e) o c rfl h6 h7,LK,yK B,yK B,?_,O7⟩
   ·exact (h4.mul h5).congr ((ev_nat j e).neg.of_eq λ M=>by grind)
   ·have hj:j<=n:=by omega
    have:=zK5 (B:=B) qY qZ h8 h9 (by omega) (by omega) (by omega) (by omega)
    omega
  ·rw[if_neg ax]
   have hme:e*m=2*e*(m/2):=by
    have:m=2*(m/2):=by omega
    have e1:e*m=e*(2*(m/2)):=by rw[<- this]
    rw[e1,<- Nat.mul_assoc,Nat.mul_comm e 2]
   exact⟨j,2*e,by omega,by omega,by omega,h4,IL,h6,LK,h8,yK B,qY,O7⟩
 ·have hje:j+e<=n:=by
   have:=Nat.mul_le_mul_left e (show 1<=m by omega)
   omega
  exact (vx j e (j+e) o c rfl h6 h7).mono (zK (by omega))
theorem zM7 {B N n:Nat} (hB:20<=B) (hN:zDC (zV B (Q B,Q B)) N):EInv B n n (Q B,Q B) (zBZ (zV B (Q B,Q B)) N):=by
 have q:=zG B;have qr:=zY B;have e1:(Q B:Rat)/(Q B:Rat)=1:=by rw[Yg,Rat.mul_inv_cancel _ (by grind)]
 refine⟨0,1,by omega,by omega,by omega,?_,?_,?_,zHU (by omega) (by omega) (Int.le_refl _) hN,Int.le_refl _,zDP (kY _ _) N,by simp,?_⟩
 ·have h:Iv B (Q B,Q B) (λ _=>(1:Rat)):=by
   have:=Has.const (a:=(Q B:Rat)/(Q B:Rat)) (b:=(Q B:Rat)/(Q B:Rat)) (c:=1) (by rw[e1];exact Rat.le_refl) (by rw[e1];exact Rat.le_refl)
   exact this
  refine h.congr (null_zero.of_eq_from 1 λ M hM=>?_)
  obtain⟨m,rfl⟩:∃ m,M=m+1:=⟨M-1,by omega⟩
  show E ((0:Nat):Rat) (m+1)-1=0
  have:((0:Nat):Rat)=0:=by simp
  rw[this,zAB];grind
 ·have:=zOF (b:=B) (X:=Q B) (by omega) (Int.le_refl _) hN
  rw[e1] at this;have e2:((1:Nat):Rat)=1:=rfl;rw[e2];exact this
 ·exact⟨by simp;omega,by simp,by simp;omega,by simp⟩
 ·have:=zK3 (b:=B) (X:=Q B) (by omega) N
  simp;omega
theorem einv_end {B n:Nat} {o c:Int × Int} (h:EInv B n 0 o c):Iv B o (Ev (λ _=>(n:Rat)))/\Abs o (Q (B+2*n))/\o.1<=o.2/\Q B-2*(n:Int)<=o.1:=by
 obtain⟨j,e,h1,h2,h3,h4,h5,h6,h7,h8,h9,qY,qZ⟩:=h;have:j=n:=by omega
 subst this;exact⟨h4,h6,h8,qY⟩
theorem expR_has {B n N:Nat} {X:Int} {o:Int × Int} (hB:20<=B) (hX:X/Q B=(n:Int)) (h0:0<=X) (hn:n<=100000) (ho:Iv (B+40) o (Ev (λ _=>(n:Rat)))) (ha:Abs o (Q (B+40+2*n))) (hle:o.1<=o.2) (IV:Q (B+40)-2*(n:Int)<=o.1)
  (hN:zDC (zV (B+40) ((X-n*Q B)*Q 40,(X-n*Q B)*Q 40)) N) (oF:0<=(X-n*Q B)*Q 40) (pj:(X-n*Q B)*Q 40<=Q (B+40)) :
  let p:=kJ (B+40) o (zBZ (zV (B+40) ((X-n*Q B)*Q 40,(X-n*Q B)*Q 40)) N)
  Iv B (zN p 40) (Ev (λ _=>(X:Rat)/(Q B:Rat)))/\Abs p (Q (B+40+2*(n+1)))/\p.1<=p.2/\Q B-1<=(zN p 40).1:=by
 intro p
 have qB:=zY B;have TR:=zY 40;have hl:=zOF oF pj hN;have hm:=ho.mul hl;have n1:=yZ (Bdd.const (n:Rat)) (Bdd.const (((X-n*Q B)*Q 40:Int)/(Q (B+40):Rat)))
 have e:(λ _:Nat=>(n:Rat)+(((X-n*Q B)*Q 40:Int):Rat)/(Q (B+40):Rat))=λ _=>(X:Rat)/(Q B:Rat):=funext λ _=>by
  have e1:(Q (B+40):Rat)=(Q B:Rat)*(Q 40:Rat):=by rw[jD,Ye]
  have e2:(((X-n*Q B)*Q 40:Int):Rat)=((X:Rat)-(n:Rat)*(Q B:Rat))*(Q 40:Rat):=by
   rw[Ye,Rat.intCast_sub,Ye];rfl
  have f1:=rdm (a:=(X:Rat)) qB;have f2:=rdm (a:=(((X-n*Q B)*Q 40:Int):Rat)) (show (0:Rat)<(Q (B+40):Rat) from zY _)
  rw[e1,e2] at f2 ⊢;generalize (X:Rat)/(Q B:Rat)=x at *;generalize ((X:Rat)-(n:Rat)*(Q B:Rat))*(Q 40:Rat)/((Q B:Rat)*(Q 40:Rat))=y at *;have f3:(Q 40:Rat)*((Q B:Rat)*(y-(x-n)))=0:=by rw[<- f1] at f2;grind
  rcases Rat.mul_eq_zero.1 f3 with h|h
  ·grind
  ·rcases Rat.mul_eq_zero.1 h with h|h
   ·grind
   ·grind
 rw[e] at n1;have hp:Iv (B+40) p (Ev (λ _=>(X:Rat)/(Q B:Rat))):=hm.congr (n1.neg.of_eq λ M=>by grind)
 have hd:=zK3 (b:=B+40) oF N;have Bo:=zDP (kY (B+40) ((X-n*Q B)*Q 40,(X-n*Q B)*Q 40)) N;have hq:1048576<=Q (B+40):=by have:=zK (show 20<=B+40 by omega);have e:Q 20=1048576:=rfl;omega
 have O7:Q (B+40)-2*(n:Int)-1<=p.1:=zK5 IV hd hle Bo (by omega) (by omega) (by omega) (by omega)
 refine⟨hp.to,?_,yK _,?_⟩
 ·refine zAC ha (zHU (by omega) oF pj hN) ?_
  rw[<- jD,<- jD];exact zK (by omega)
 ·show Q B-1<=p.1/Q 40
  have DM:Q 40=1099511627776:=rfl;have eB:Q (B+40)=Q B*Q 40:=jD B 40;rw[Int.le_ediv_iff_mul_le (by rw[DM];omega),Int.sub_mul,<- eB]
  omega
end Go.Proofs.YtgmnknmjainababGreat
