/-
  Its own texts.
-/
import Derived.Deep.RegionHeld3
import Derived.Test.YtgmnknmjainabacGreatK11
set_option maxRecDepth 100000
set_option maxHeartbeats 40000000
set_option linter.unnecessarySimpa false
set_option linter.unusedSimpArgs false
set_option linter.unusedVariables false
namespace Go.Proofs.YtgmnknmjainabacGreat
open Ex
theorem Has.of_const {a b c:Rat} (h:Has a b (λ _=>c)):a<=c/\c<=b:=by
 constructor
 ·refine Rat.not_lt.1 λ D9=>?_
  obtain⟨N,k⟩:=h ((a-c)/2) (by grind)
  have:=(k N (Yy _)).1;grind
 ·refine Rat.not_lt.1 λ D9=>?_
  obtain⟨N,k⟩:=h ((c-b)/2) (by grind)
  have:=(k N (Yy _)).2;grind
theorem zT6 (B:Nat) (x:Int):((x:Rat)/(Q B:Rat))*((x:Rat)/(Q B:Rat))*((Q B:Rat)*(Q B:Rat))=(x:Rat)*(x:Rat):=by
 have q:=jJ B;have:=rdm (a:=(x:Rat)) q;have e:((x:Rat)/(Q B:Rat))*((x:Rat)/(Q B:Rat))*((Q B:Rat)*(Q B:Rat))=((x:Rat)/(Q B:Rat)*(Q B:Rat))*((x:Rat)/(Q B:Rat)*(Q B:Rat)):=by grind
 rw[e,this]
def yH (B:Nat) (a:Int × Int):Int × Int:=(rtZ (a.1*Q B),rtU (a.2*Q B))
theorem sqI_le {a b:Int} (ha:0<=a) (hb:0<=b) (h:a*a<=b*b):a<=b:=by
 refine Int.not_lt.1 λ D9=>?_
 have m1:=Int.mul_lt_mul_of_pos_left D9 (show 0<a by omega)
 have m2:=Yt (show b<=a by omega) hb
 omega
theorem rtU_lt {x:Int} (h:0<=x) (h0:0<rtU x):(rtU x-1)*(rtU x-1)<x:=by
 obtain⟨h3,h4⟩:=zEM h;have:=zAP x;unfold rtU at *;split
 ·rename_i hh;rw[Int.add_sub_cancel];exact hh
 ·rename_i hh
  rw[if_neg hh] at h0;have e:(rtZ x-1)*(rtZ x-1)=rtZ x*rtZ x-2*rtZ x+1:=by grind
  omega
theorem zDJ {B:Nat} {a:Int × Int} (ha:0<=a.1) (hl:a.1<=a.2):0<=(yH B a).1/\(yH B a).1<=(yH B a).2/\(yH B a).1*(yH B a).1<=a.1*Q B/\a.2*Q B<=(yH B a).2*(yH B a).2:=by
 have q:=zE B;have p1:=Yz ha (show 0<=Q B by omega)
 have p2:=Yt hl (show 0<=Q B by omega)
 exact⟨zAP _,zPZ p2 p1,(zEM p1).1,rtU_sq (by omega)⟩
theorem zHL {B:Nat} {a:Int × Int} {W g:Int} (ha:0<=a.1) (hl:a.1<=a.2) (hw:a.2-a.1<=W) (hg:0<g) (hr:Q B<=g*(yH B a).2):(yH B a).2-(yH B a).1<=g*W+2:=by
 obtain⟨r0,r1,r2,r3⟩:=zDJ (B:=B) ha hl;have q:=zE B;have p1:=Yz ha (show 0<=Q B by omega)
 have p2:=Yt hl (show 0<=Q B by omega)
 have z:=(zEM p1).2
 have t0:0<(yH B a).2:=by
  refine Int.not_le.1 λ h=>?_
  have:=Yx h (show 0<=g by omega)
  omega
 have u:=rtU_lt (show 0<=a.2*Q B by omega) t0
 have e1:rtZ (a.1*Q B)=(yH B a).1:=rfl;have e2:rtU (a.2*Q B)=(yH B a).2:=rfl;rw[e1] at z;rw[e2] at u;generalize (yH B a).1=r at *;generalize (yH B a).2=t at *
 have k1:(t-r-2)*(t+r)<W*Q B:=by
  have m:=Yt hw (show 0<=Q B by omega)
  have e:(t-r-2)*(t+r)=(t-1)*(t-1)-(r+1)*(r+1):=by grind
  have e3:(a.2-a.1)*Q B=a.2*Q B-a.1*Q B:=by grind
  omega
 refine Int.not_lt.1 λ hn=>?_
 have W0:0<=W:=by omega
 have m1:=Yt (show g*W<=t-r-2 by omega) (show 0<=t+r by omega)
 have m2:=Yx hr W0;have m3:=Yz (Yz (show 0<=g by omega) W0) r0
 have e4:g*W*(t+r)=W*(g*t)+g*W*r:=by grind
 omega
theorem zOA {B:Nat} {a:Int × Int} {c:Int} (ha:0<=a.2) (hc:0<=c) (h:a.2<=c*c*Q B):(yH B a).2<=c*Q B+1:=by
 have q:=zE B;have p:=Yz ha (show 0<=Q B by omega)
 have z:=(zEM p).1;have m:=Yt h (show 0<=Q B by omega)
 have h1:rtZ (a.2*Q B)<=c*Q B:=sqI_le (zAP _) (Yz hc (by omega)) (by
  have e:c*Q B*(c*Q B)=c*c*Q B*Q B:=by grind
  omega)
 show rtU (a.2*Q B)<=_
 unfold rtU;split<;>omega
def erU (n:Int) (_:Nat):Int:=2*n
def erD (d:Int) (k:Nat):Int:=d*(2*(k:Int)+1)
theorem zPA {n d:Int} (hn:0<=n) (hd:0<d):zQM (erU n) (erD d):=⟨λ _=>by unfold erU;omega,λ k=>Int.mul_pos hd (by omega)⟩
def zBA (n d:Int):Nat:=(2*n/d).toNat
theorem er_34 {n d:Int} (hn:0<=n) (hd:0<d) (k:Nat) (h:zBA n d<=k):4*erU n (k+1)<=3*erD d (k+1):=by
 have h1:2*n/d<=(k:Int):=by unfold zBA at h;omega
 have h2:=Int.lt_ediv_add_one_mul_self (2*n) hd;have h3:=Yt (show 2*n/d+1<=(k:Int)+1 by omega) (show 0<=d by omega)
 have k0:=Yz (show 0<=d by omega) (show 0<=(k:Int) by omega)
 unfold erU erD;have e1:((k:Int)+1)*d=d*(k:Int)+d:=by grind
 have e2:3*(d*(2*((k+1:Nat):Int)+1))=6*(d*(k:Int))+9*d:=by push_cast;grind
 omega
theorem zH3 {n d:Int} (hn:0<=n) (hd:0<d) (h:n<152*d):zBA n d<=303:=by
 have:2*n/d<304:=Int.ediv_lt_of_lt_mul hd (by omega)
 unfold zBA;omega
theorem ceil_mul {x u v c:Int} (hv:0<v) (hx:0<=x) (h:u<=c*v) : -(-(x*u)/v)<=c*x:=by
 have h1:=Yx h hx
 have h2 : -(c*x) <= -(x*u)/v:=Int.le_ediv_of_mul_le hv (by
  have e : -(c*x)*v = -(x*(c*v)):=by grind
  omega)
 omega
theorem zRW {n d:Int} (hn:0<=n) (hd:0<d) (h:n<152*d) (k:Nat):erU n (k+1)<=512*erD d (k+1):=by
 have k0:=Yz (show 0<=d by omega) (show 0<=(k:Int) by omega)
 unfold erU erD;have e:512*(d*(2*((k+1:Nat):Int)+1))=1024*(d*(k:Int))+1536*d:=by push_cast;grind
 omega
theorem er_hi {B:Nat} {a:Int × Int} {n d:Int} (hn:0<=n) (hd:0<d) (h:n<152*d) (ha:0<=a.1) (hl:a.1<=a.2) (hb:a.2<=Q (B+4)) (k:Nat):(riT a (erU n) (erD d) k).2<=Q (B+2740):=by
 have ok:=zPA hn hd
 have low:∀ j,j<=304->(riT a (erU n) (erD d) j).2<=Q (B+4+9*j):=λ j=>by
  induction j with
  | zero=>intro _;exact hb
  | succ j ih =>
   intro hj
   have i1:=ih (by omega)
   have n1:=zAO ok ha j;have n2:=zEK ok hl j;have c:=ceil_mul (ok.d0 (j+1)) (show 0<=(riT a (erU n) (erD d) j).2 by omega) (zRW hn hd h j)
   have e:Q (B+4+9*(j+1))=512*Q (B+4+9*j):=by
    rw[show B+4+9*(j+1)=(B+4+9*j)+9 by omega,jF]
    have:Q 9=512:=rfl;rw[this];omega
   show -(-((riT a (erU n) (erD d) j).2*erU n (j+1))/erD d (j+1))<=_
   omega
 have hturn:=zH3 hn hd h
 have up:∀ j,(riT a (erU n) (erD d) (303+j)).2<=Q (B+2740):=λ j=>by
  induction j with
  | zero =>
   have:=low 303 (by omega)
   have:=zJ (show B+4+9*303<=B+2740 by omega)
   simp only[Nat.add_zero];omega
  | succ j ih =>
   have n1:=zAO ok ha (303+j);have n2:=zEK ok hl (303+j);have f:=zNB (x:=(riT a (erU n) (erD d) (303+j)).2) (ok.d0 (303+j+1)) (by omega) (er_34 hn hd (303+j) (by omega))
   have q:=zJ (show 2<=B+2740 by omega)
   have q2:Q 2=4:=rfl
   show -(-((riT a (erU n) (erD d) (303+j)).2*erU n (303+j+1))/erD d (303+j+1))<=_
   omega
 by_cases hk:k<=303
 ·have:=low k (by omega)
  have:=zJ (show B+4+9*k<=B+2740 by omega)
  omega
 ·have:=up (k-303)
  rwa [show 303+(k-303)=k by omega] at this
theorem er_wide {a:Int × Int} {n d:Int} (hn:0<=n) (hd:0<d) (h:n<152*d) (hl:a.1<=a.2) (hw:a.2-a.1+1<=Q 42) (k:Nat):(riT a (erU n) (erD d) k).2-(riT a (erU n) (erD d) k).1<=Q 2780:=by
 have ok:=zPA hn hd
 have low:∀ j,j<=304->(riT a (erU n) (erD d) j).2-(riT a (erU n) (erD d) j).1+1<=Q (42+9*j):=λ j=>by
  induction j with
  | zero=>intro _;exact hw
  | succ j ih =>
   intro hj
   have i1:=ih (by omega)
   have n2:=zEK ok hl j
   have c:=kJ (a:=riT a (erU n) (erD d) j) (n:=erU n (j+1)) (d:=erD d (j+1)) (c:=512*((riT a (erU n) (erD d) j).2-(riT a (erU n) (erD d) j).1)) (ok.d0 (j+1)) (by
    have:=Yx (zRW hn hd h j) (show 0<=(riT a (erU n) (erD d) j).2-(riT a (erU n) (erD d) j).1 by omega)
    have e:((riT a (erU n) (erD d) j).2-(riT a (erU n) (erD d) j).1)*(512*erD d (j+1))=512*((riT a (erU n) (erD d) j).2-(riT a (erU n) (erD d) j).1)*erD d (j+1):=by grind
    omega)
   have e:Q (42+9*(j+1))=512*Q (42+9*j):=by
    rw[show 42+9*(j+1)=(42+9*j)+9 by omega,jF]
    have:Q 9=512:=rfl;rw[this];omega
   show (zK (riT a (erU n) (erD d) j) (erU n (j+1)) (erD d (j+1))).2-(zK (riT a (erU n) (erD d) j) (erU n (j+1)) (erD d (j+1))).1+1<=_
   omega
 have hturn:=zH3 hn hd h
 have q9:9<=Q 2780:=by
  have:=zJ (show 4<=2780 by omega)
  have:Q 4=16:=rfl;omega
 have up:∀ j,(riT a (erU n) (erD d) (303+j)).2-(riT a (erU n) (erD d) (303+j)).1<=Q 2780:=λ j=>by
  induction j with
  | zero =>
   have:=low 303 (by omega)
   have:=zJ (show 42+9*303<=2780 by omega)
   simp only[Nat.add_zero];omega
  | succ j ih =>
   have n2:=zEK ok hl (303+j);obtain⟨D,hD⟩:∃ D,D=(riT a (erU n) (erD d) (303+j)).2-(riT a (erU n) (erD d) (303+j)).1:=⟨_,rfl⟩
   have c:=kJ (a:=riT a (erU n) (erD d) (303+j)) (n:=erU n (303+j+1)) (d:=erD d (303+j+1)) (c:=Q 2780-1) (ok.d0 (303+j+1)) (by
    rw[<- hD] at ih ⊢;have f:=er_34 hn hd (303+j) (by omega)
    have d0:=ok.d0 (303+j+1);have u0:=ok.u0 (303+j+1);generalize erU n (303+j+1)=u at *;generalize erD d (303+j+1)=v at *;generalize Q 2780=q at *;have m1:=Yt ih u0;have m2:=Yx f (show 0<=q by omega)
    have m3:=Yt (show 4<=q by omega) (show 0<=v by omega)
    have e1:q*(4*u)=4*(q*u):=by grind
    have e2:q*(3*v)=3*(q*v):=by grind
    have e3:(q-1)*v=q*v-v:=by grind
    omega)
   show (zK (riT a (erU n) (erD d) (303+j)) (erU n (303+j+1)) (erD d (303+j+1))).2-(zK (riT a (erU n) (erD d) (303+j)) (erU n (303+j+1)) (erD d (303+j+1))).1<=_
   omega
 by_cases hk:k<=303
 ·have:=low k (by omega)
  have:=zJ (show 42+9*k<=2780 by omega)
  omega
 ·have:=up (k-303)
  rwa [show 303+(k-303)=k by omega] at this
end Go.Proofs.YtgmnknmjainabacGreat
namespace Go.Proofs.YtgmnknmjainabacGreat.Ex
def gT (y:Rat):Nat->Rat
 | 0=>1
 | n+1=>2*y/(2*((n:Rat)+1)+1)*gT y n
def gS (y:Rat) (M:Nat):Rat:=S (gT y) M
theorem eT_gT (x:Rat) (n:Nat):eT x n=x*gT (x*x) n:=by
 induction n with
 | zero=>show x=x*1;grind
 | succ n ih =>
  show 2*(x*x)/(2*((n:Rat)+1)+1)*eT x n=x*(2*(x*x)/(2*((n:Rat)+1)+1)*gT (x*x) n)
  rw[ih];generalize 2*(x*x)/(2*((n:Rat)+1)+1)=c;grind
theorem eS_gS (x:Rat) (M:Nat):eS x M=x*gS (x*x) M:=by
 induction M with
 | zero=>show (0:Rat)=x*0;grind
 | succ n ih =>
  show eS x n+eT x n=x*(gS (x*x) n+gT (x*x) n)
  rw[ih,eT_gT];grind
theorem zJ0 {y:Rat} (h:0<=y) (n:Nat):0<=gT y n:=by
 induction n with
 | zero=>show (0:Rat)<=1;grind
 | succ n ih=>exact Ys (jS (zDD n) (by grind)) ih
theorem gT_mono {y y':Rat} (h:0<=y) (hy:y<=y') (n:Nat):gT y n<=gT y' n:=by
 induction n with
 | zero=>exact Rat.le_refl
 | succ n ih =>
  have p:=zDD n;have c:2*y/(2*((n:Rat)+1)+1)<=2*y'/(2*((n:Rat)+1)+1):=jR p (by rw[rdm p];grind)
  have c0:0<=2*y/(2*((n:Rat)+1)+1):=jS p (by grind)
  have g0:=zJ0 (show 0<=y' by grind) n
  exact Rat.le_trans (Yr ih c0) (Yv c g0)
theorem zDA {y:Rat} (h:0<=y) (M:Nat):0<=gS y M:=by
 induction M with
 | zero=>show (0:Rat)<=0;grind
 | succ n ih=>have:=zJ0 h n;show 0<=gS y n+gT y n;grind
theorem zH7 {y y':Rat} (h:0<=y) (hy:y<=y') (M:Nat):gS y M<=gS y' M:=by
 induction M with
 | zero=>show (0:Rat)<=0;grind
 | succ n ih=>have:=gT_mono h hy n;show gS y n+gT y n<=gS y' n+gT y' n;grind
theorem gS_bdd {y:Rat} (h:0<=y):∃ K,0<=K/\∀ M,gS y M<=K:=by
 obtain⟨K,k0,hK⟩:=zJX (x:=y+1) (by grind)
 refine⟨K,k0,λ M=>?_⟩
 have q:=Ys h h;have m:=zH7 (y':=(y+1)*(y+1)) h (by grind) M
 have e:=eS_gS (y+1) M;have g0:=zDA (y:=(y+1)*(y+1)) (by grind) M
 have m2:=Ys h g0;have:=hK M;grind
def qS (f:Nat->Rat) (y:Rat) (M:Nat):Rat:=f M*gS y M/ex y M
theorem zR2 {y:Rat} (h:0<=y) {M:Nat} (hM:1<=M):1<=ex y M:=E_one h hM
theorem qS_ok {f:Nat->Rat} {y F K:Rat} (h:0<=y) {M:Nat} (hM:1<=M) (f0:0<=f M) (fF:f M<=F) (hK:gS y M<=K):0<=qS f y M/\qS f y M<=F*K/\qS f y M*ex y M=f M*gS y M:=by
 have e1:=zR2 h hM;have g0:=zDA h M;have p:=Ys f0 g0;obtain⟨d1,d2⟩:=zCO p e1;refine⟨d1,?_,rdm (by grind)⟩
 have m1:=Yv fF g0;have m2:=Yr hK (show 0<=F by grind)
 unfold qS;grind
theorem cmp_key {a c E E' f f' g g' t e:Rat} (a0:0<=a) (c0:0<=c) (e0:0<e) (t0:0<=t) (t4:t<=1/4) (E1:1<=E) (Gv:1<=E') (hE:E'<=E*(1+2*t)+e) (ha:a*E=f*g) (hc:c*E'=f'*g') (CH:0<=f) (hf:f<=f'+e) (g0:0<=g) (gg:g<=g'):a<=c*(1+2*t)+e*(2*g'+a):=by
 have h1:a*E'<=f*g*(1+2*t)+a*e:=by
  have:=Yr hE a0;have e1:a*(E*(1+2*t)+e)=a*E*(1+2*t)+a*e:=by grind
  rw[e1,ha] at this;exact this
 have h2:f*g<=f'*g'+e*g':=by
  have m1:=Yr gg CH;have m2:=Yv hf (show 0<=g' by grind)
  grind
 have h3:=Yv h2 (show 0<=1+2*t by grind)
 have eg:=Ys (Yw e0) (show 0<=g' by grind)
 have h4:e*g'*(1+2*t)<=e*g'*2:=Yr (by grind) eg
 have h5:a*E'<=c*E'*(1+2*t)+e*(2*g'+a):=by rw[hc];grind
 have r0:0<=e*(2*g'+a):=Ys (Yw e0) (by grind)
 have h6:=Yr Gv r0;refine Rat.le_of_mul_le_mul_right (c:=E') ?_ (by grind)
 have e2:(c*(1+2*t)+e*(2*g'+a))*E'=c*E'*(1+2*t)+e*(2*g'+a)*E':=by grind
 rw[e2];grind
theorem cmpG {y y':Rat} (hy:0<=y) (RF:y<=y') (h4:y'-y<=1/4) {f f':Nat->Rat} {F:Rat} {N0:Nat} (f0:∀ M,0<=f M) (XA:∀ M,0<=f' M) (fF:∀ M,N0<=M->f M<=F) (IE:∀ M,N0<=M->f' M<=F) (hf:LeN f f') {K:Rat} (hK:∀ M,gS y' M<=K):LeN (qS f y) (λ M=>qS f' y' M+2*(F*K)*(y'-y)):=by
 have F0:0<=F:=Rat.le_trans (f0 N0) (fF N0 (Yy _));have K0:0<=K:=Rat.le_trans (zDA (show 0<=y' by grind) 0) (hK 0)
 have FK:=Ys F0 K0;obtain⟨t,ht⟩:∃ t,t=y'-y:=⟨_,rfl⟩;have t0:0<=t:=by grind
 intro e0 FB
 obtain⟨D,hD⟩:∃ D,D=2*K+F*K+1:=⟨_,rfl⟩;have D0:0<D:=by grind
 obtain⟨e,he⟩:∃ e,e=e0/D:=⟨_,rfl⟩;have eD:e*D=e0:=by rw[he];exact rdm D0
 have ep:0<e:=by rw[he];exact zF FB D0
 obtain⟨N1,k1⟩:=hf e ep;obtain⟨N2,k2⟩:=zBB y t e ep;refine⟨N0+N1+N2+2,λ M hM=>?_⟩
 obtain⟨a1,a2,a3⟩:=qS_ok (f:=f) hy (show 1<=M by omega) (f0 M) (fF M (by omega)) (Rat.le_trans (zH7 hy RF M) (hK M))
 obtain⟨c1,c2,c3⟩:=qS_ok (f:=f') (show 0<=y' by grind) (show 1<=M by omega) (XA M) (IE M (by omega)) (hK M)
 have E1:=zR2 hy (show 1<=M by omega)
 have Gv:=zR2 (show 0<=y' by grind) (show 1<=M by omega)
 have lit:=(zAD (h:=t) (b:=t) ⟨by grind,by grind⟩ (by grind) (M:=M) (by omega)).2
 have et:ex t M=E t M:=rfl;have ey:y+t=y':=by grind
 have kk:=(k2 M (by omega)).1
 simp only[] at kk;rw[ey] at kk;have tt:t*t<=t*(1/4):=Yr (by grind) t0
 have hE:ex y' M<=ex y M*(1+2*t)+e:=by
  have l2:ex t M<=1+2*t:=by rw[et];grind
  have:=Yr l2 (show 0<=ex y M by grind)
  grind
 have key:=cmp_key a1 c1 ep t0 (by grind) E1 Gv hE a3 c3 (f0 M) (k1 M (by omega)) (zDA hy M) (zH7 hy RF M)
 have b1:=Yr (show 2*gS y' M+qS f y M<=D by have:=hK M;grind) (Yw ep)
 have b2:=Yv c2 t0;rw[eD] at b1;simp only[];rw[<- ht];grind
def zC9 (R:Nat->Rat) (y:Rat) (f:Nat->Rat) (M:Nat):Rat:=2*(f M*gS y M)/(R M*ex y M)
theorem zHB (R:Nat->Rat) (x:Rat):zC9 R (x*x) (λ _=>x)=zR0 R x:=by
 funext M
 unfold zC9 zR0;rw[eS_gS]
theorem zLU {P R:Nat->Rat} (h:yG P R) {y:Rat} (hy:0<=y) (f:Nat->Rat) {M:Nat} (hM:1<=M):zC9 R y f M=qS f y M*(2*(1/R M)):=by
 have r1:=h.one M;have h1:=zR2 hy hM;have p1:0<R M:=by grind
 have p2:0<ex y M:=by grind
 have p3:0<R M*ex y M:=Rat.mul_pos p1 p2;have a:=rdm (a:=2*(f M*gS y M)) p3;have b:=rdm (a:=f M*gS y M) p2;have c:=rdm (a:=1) p1;unfold zC9 qS
 have lhs:f M*gS y M/ex y M*(2*(1/R M))*(R M*ex y M)=2*(f M*gS y M):=by
  have:f M*gS y M/ex y M*(2*(1/R M))*(R M*ex y M)=2*((f M*gS y M/ex y M*ex y M)*(1/R M*R M)):=by grind
  rw[this,b,c];grind
 exact Rat.le_antisymm (Rat.le_of_mul_le_mul_right (by rw[lhs,a];exact Rat.le_refl) p3) (Rat.le_of_mul_le_mul_right (by rw[lhs,a];exact Rat.le_refl) p3)
theorem cmpE {P R:Nat->Rat} (h:yG P R) {y y' C:Rat} (hy:0<=y) (po:0<=y') (C0:0<=C) {f f':Nat->Rat} (hq:LeN (qS f y) (λ M=>qS f' y' M+C)):LeN (zC9 R y f) (λ M=>zC9 R y' f' M+2*C):=by
 obtain⟨z,hz,k⟩:=hq.null;refine LeN.of_null (hz.bmul ((Bdd.const 2).mul (zIC h.one))) 1 λ M hM=>?_
 rw[zLU h hy f hM,zLU h po f' hM];obtain⟨i0,i1⟩:=zCO (a:=1) (by grind) (h.one M)
 have m:=Yv (k M) (show 0<=2*(1/R M) by grind)
 have m2:=Yr i1 C0;grind
theorem root0 (p:Rat) (hp:0<=p) (k:Nat):∃ r:Rat,0<=r/\r*r<=p/\p<=(r+1/((k:Rat)+1))*(r+1/((k:Rat)+1)):=by
 obtain⟨n,hn⟩:=kC p;have k0:(0:Rat)<(k:Rat)+1:=zA0 k;have u0:(0:Rat)<1/((k:Rat)+1):=zF (by grind) k0
 have um:1/((k:Rat)+1)*((k:Rat)+1)=1:=rdm k0;obtain⟨u,hu⟩:∃ u,u=1/((k:Rat)+1):=⟨_,rfl⟩;rw[<- hu] at u0 um ⊢
 have top:p<=((((n+1)*(k+1):Nat):Rat)*u)*((((n+1)*(k+1):Nat):Rat)*u):=by
  have e:(((n+1)*(k+1):Nat):Rat)*u=(n:Rat)+1:=by
   have:(((n+1)*(k+1):Nat):Rat)=((n:Rat)+1)*((k:Rat)+1):=by push_cast;rfl
   rw[this];grind
  rw[e];have n0:(0:Rat)<=(n:Rat):=by exact_mod_cast Nat.zero_le n
  have:=Ys n0 n0;have:=hn.2;grind
 obtain⟨j,_,j1,j2⟩:=zBU (p:=λ j=>p<=((j:Rat)*u)*((j:Rat)*u)) (K:=(n+1)*(k+1)) top
 cases j with
 | zero =>
  have e:(((0:Nat):Rat)*u)=0:=by grind
  rw[e] at j1;exact⟨0,by grind,by grind,by have:=Ys (Yw u0) (Yw u0);grind⟩
 | succ i =>
  have h:=j2 i (Nat.lt_succ_self i);have i0:(0:Rat)<=(i:Rat):=by exact_mod_cast Nat.zero_le i
  have iu:=Ys i0 (Yw u0);refine⟨(i:Rat)*u,by grind,by grind,?_⟩
  have e:((i+1:Nat):Rat)=(i:Rat)+1:=by push_cast;rfl
  rw[e] at j1;have e2:((i:Rat)+1)*u=(i:Rat)*u+u:=by grind
  rw[e2] at j1;exact j1
structure RtOf (y:Rat) (r:Nat->Rat):Prop where
 nn:∀ M,0<=r M
 sq:Null (λ M=>r M*r M-y)
theorem zKT {a b:Rat} (ha:0<=a) (h:a*a<=b*b) (hb:0<=b):a<=b:=by
 refine Rat.not_lt.1 λ D9=>?_
 have m1:=Rat.mul_lt_mul_of_pos_left D9 (show 0<a by grind)
 have m2:=Yv (Yw D9) hb;grind
theorem RtOf.ge {y:Rat} {r:Nat->Rat} (h:RtOf y r) {x:Rat} (hx:0<=x) (K6:x*x<=y):LeN (λ _=>x) r:=λ e he=>by
 obtain⟨N,k⟩:=h.sq (e*e) (Rat.mul_pos he he);refine⟨N,λ M hM=>?_⟩
 have a:=(k M hM).1;have n:=h.nn M;simp only[] at a ⊢;have re:=Ys n (Yw he);exact zKT hx (by grind) (by grind)
theorem RtOf.le {y:Rat} {r:Nat->Rat} (h:RtOf y r) {x:Rat} (hx:0<=x) (K6:y<=x*x):LeN r (λ _=>x):=λ e he=>by
 obtain⟨N,k⟩:=h.sq (e*e) (Rat.mul_pos he he);refine⟨N,λ M hM=>?_⟩
 have a:=(k M hM).2;have n:=h.nn M;simp only[] at a ⊢;have re:=Ys hx (Yw he);exact zKT n (by grind) (by grind)
theorem RtOf.y0 {y:Rat} {r:Nat->Rat} (h:RtOf y r):0<=y:=by
 refine Rat.not_lt.1 λ D9=>?_
 obtain⟨N,k⟩:=h.sq (-y/2) (by grind)
 have a:=(k N (Yy _)).2;have n:=Ys (h.nn N) (h.nn N);simp only[] at a;grind
theorem RtOf.bd {y:Rat} {r:Nat->Rat} (h:RtOf y r):∃ N:Nat,∀ M,N<=M->r M<=y+2:=by
 have y0:=h.y0;have q:=Ys y0 y0;obtain⟨N,k⟩:=h.le (x:=y+1) (by grind) (by grind) 1 (by grind)
 exact⟨N,λ M hM=>by have:=k M hM;simp only[] at this;grind⟩
theorem zI4 {r y u:Rat} (hr:0<=r) (h1:r*r<=y) (hu:0<=u) (u1:u<=1):(r+u)*(r+u)-r*r<=(2*y+3)*u:=by
 have y0:=Ys hr hr;have r1:r<=y+1:=zKT hr (by have:=Ys (show 0<=y by grind) (show 0<=y by grind);grind) (by grind)
 have m1:=Yv r1 hu;have m2:=Yv u1 hu;grind
theorem zNW {a C:Rat} {n K:Nat} (h:4*C<=(K:Rat)) (C0:0<=C):1/(((n+K:Nat):Rat)+1)<=1/((n:Rat)+1)/\C*(1/(((n+K:Nat):Rat)+1))<=1/4/\0<=1/(((n+K:Nat):Rat)+1)/\1/(((n+K:Nat):Rat)+1)<=1:=by
 have p1:(0:Rat)<((n+K:Nat):Rat)+1:=zA0 (n+K);have p2:(0:Rat)<(n:Rat)+1:=zA0 n;have e:((n+K:Nat):Rat)=(n:Rat)+(K:Rat):=by push_cast;rfl
 have n0:(0:Rat)<=(n:Rat):=by exact_mod_cast Nat.zero_le n
 have K0:(0:Rat)<=(K:Rat):=by exact_mod_cast Nat.zero_le K
 have a:=rdm (a:=1) p1;have b:=rdm (a:=1) p2;obtain⟨u,hu⟩:∃ u,u=1/(((n+K:Nat):Rat)+1):=⟨_,rfl⟩;have u0:0<=u:=by rw[hu];exact jS p1 (by grind)
 rw[<- hu] at a ⊢;rw[e] at a;have nu:=Ys u0 n0;have Ku:=Ys u0 K0;refine⟨jS p2 (by grind),?_,u0,by grind⟩
 have:=Yr h u0;grind
theorem zRX {P R:Nat->Rat} (h:yG P R) {y:Rat} {r:Nat->Rat} (hr:RtOf y r) {x:Rat} (hx:0<=x) (K6:x*x<=y):LeN (zR0 R x) (zC9 R y r):=by
 have y0:=hr.y0;obtain⟨N0,tF⟩:=hr.bd;obtain⟨K,K0,hK⟩:=gS_bdd y0;obtain⟨k,hk⟩:=kC (4*(2*y+3));have FK:=Ys (show 0<=y+2 by grind) K0
 refine LeN.lim (C:=2*(2*((y+2)*K)*(2*y+3))) (by have:=Ys FK (show 0<=2*y+3 by grind);grind) λ n=>?_
 obtain⟨w1,w2,w3,w4⟩:=zNW (a:=0) (n:=n) hk.2 (show 0<=2*y+3 by grind)
 obtain⟨s,s0,s1,s2⟩:=root0 y y0 (n+k);obtain⟨u,hu⟩:∃ u,u=1/(((n+k:Nat):Rat)+1):=⟨_,rfl⟩;rw[<- hu] at w1 w2 w3 w4 s2;have st:=zI4 s0 s1 w3 w4
 obtain⟨x',dO,bh,DB⟩:∃ x',x<=x'/\s<=x'/\x'*x'<=y:=by
  by_cases c:x<=s
  ·exact⟨s,c,Rat.le_refl,s1⟩
  ·exact⟨x,Rat.le_refl,by grind,K6⟩
 have x0:0<=x':=by grind
 have ss:s*s<=x'*x':=Rat.le_trans (Yr bh s0) (Yv bh x0);have d:y-x'*x'<=(2*y+3)*u:=by grind
 have xx:=Ys x0 x0
 have x2:x'<=y+2:=by
  have:=zKT (b:=y+1) x0 (by have:=Ys y0 y0;grind) (by grind)
  grind
 have c:=cmpG (f:=λ _=>x') (f':=r) (F:=y+2) (N0:=N0) xx DB (by grind) (λ _=>x0) hr.nn (λ _ _=>x2) tF (hr.ge x0 DB) hK
 have c2:=cmpE h xx y0 (Ys (by grind) (by grind)) c
 rw[zHB] at c2;refine (zNA h hx dO).trans (c2.trans (LeN.of_le 0 λ M _=>?_))
 have m1:=Yr (Rat.le_trans d (Yr w1 (show 0<=2*y+3 by grind))) (show 0<=2*((y+2)*K) by grind)
 grind
theorem zRY {P R:Nat->Rat} (h:yG P R) {y:Rat} {r:Nat->Rat} (hr:RtOf y r) {x:Rat} (hx:0<=x) (K6:y<=x*x):LeN (zC9 R y r) (zR0 R x):=by
 have y0:=hr.y0;obtain⟨N0,tF⟩:=hr.bd;obtain⟨K,K0,hK⟩:=gS_bdd (y:=y+1) (by grind)
 obtain⟨k,hk⟩:=kC (4*(2*y+3));have FK:=Ys (show 0<=y+2 by grind) K0
 refine LeN.lim (C:=2*(2*((y+2)*K)*(2*y+3))) (by have:=Ys FK (show 0<=2*y+3 by grind);grind) λ n=>?_
 obtain⟨w1,w2,w3,w4⟩:=zNW (a:=0) (n:=n) hk.2 (show 0<=2*y+3 by grind)
 obtain⟨s,s0,s1,s2⟩:=root0 y y0 (n+k);obtain⟨u,hu⟩:∃ u,u=1/(((n+k:Nat):Rat)+1):=⟨_,rfl⟩;rw[<- hu] at w1 w2 w3 w4 s2;have st:=zI4 s0 s1 w3 w4
 obtain⟨x',dO,bh,DB,x0⟩:∃ x',x'<=x/\x'<=s+u/\y<=x'*x'/\0<=x':=by
  by_cases c:x<=s+u
  ·exact⟨x,Rat.le_refl,c,K6,hx⟩
  ·exact⟨s+u,by grind,Rat.le_refl,s2,by grind⟩
 have ss:x'*x'<=(s+u)*(s+u):=Rat.le_trans (Yr bh x0) (Yv bh (by grind))
 have d:x'*x'-y<=(2*y+3)*u:=by grind
 have x2:x'<=y+2:=by
  have:=zKT (a:=x') (b:=y+1) x0 (by have:=Ys y0 y0;grind) (by grind)
  grind
 have K':∀ M,gS (x'*x') M<=K:=λ M=>Rat.le_trans (zH7 (by grind) (by grind) M) (hK M)
 have c:=cmpG (f:=r) (f':=λ _=>x') (F:=y+2) (N0:=N0) y0 DB (by grind) hr.nn (λ _=>x0) tF (λ _ _=>x2) (hr.le x0 DB) K'
 have c2:=cmpE h y0 (by grind) (Ys (by grind) (by grind)) c
 rw[zHB] at c2;refine c2.trans (LeN.trans (LeN.of_le 0 λ M _=>?_) ((zNA h x0 dO).add (LeN.refl (λ _=>2*(2*((y+2)*K)*(2*y+3))*(1/((n:Rat)+1))))))
 have m1:=Yr (Rat.le_trans d (Yr w1 (show 0<=2*y+3 by grind))) (show 0<=2*((y+2)*K) by grind)
 grind
theorem zM9 {R:Nat->Rat} (h:yG piS R) {y:Rat} {r:Nat->Rat} (hr:RtOf y r):LeN (zC9 R y r) (λ _=>1):=by
 have y0:=hr.y0;have q:=Ys y0 y0;exact (zRY h hr (x:=y+1) (by grind) (by grind)).trans (erf_one h (by grind))
theorem zF8 {P R:Nat->Rat} (h:yG P R) {y:Rat} {r:Nat->Rat} (hr:RtOf y r) {M:Nat} (hM:1<=M):0<=zC9 R y r M:=by
 rw[zLU h hr.y0 r hM];have a:=(zCO (Ys (hr.nn M) (zDA hr.y0 M)) (zR2 hr.y0 hM)).1;have b:=(zCO (a:=1) (by grind) (h.one M)).1
 exact Ys a (by grind)
end Go.Proofs.YtgmnknmjainabacGreat.Ex
namespace Go.Proofs.YtgmnknmjainabacGreat
open Ex
structure ErIn (n d:Int) (x:Nat->Rat):Prop where
 n0:0<=n
 d0:0<d
 rt:RtOf ((n:Rat)/(d:Rat)) x
 up:n<152*d
 low:n=0\/d<=Q 76*n
def erF (n d:Int) (B:Nat):Int × Int:=yH B (ofI n d B)
theorem root_rtS {B:Nat} {a:Int × Int} {y:Rat} {x:Nat->Rat} (hx:RtOf y x) (h:Iv B a (λ _=>y)) {r t:Int} (iV:0<=r) (hr:r*r<=a.1*Q B) (KJ:0<=t) (ht:a.2*Q B<=t*t):Iv B (r,t) x:=by
 have q:=jJ B;obtain⟨h1,h2⟩:=Has.of_const h;have qq:(0:Rat)<(Q B:Rat)*(Q B:Rat):=Rat.mul_pos q q
 have pos:∀ y:Int,0<=y->(0:Rat)<=(y:Rat)/(Q B:Rat):=λ y hy=>jS q (by
  have:(0:Rat)<=(y:Rat):=by exact_mod_cast hy
  grind)
 have mid:∀ y:Int,(y:Rat)/(Q B:Rat)*((Q B:Rat)*(Q B:Rat))=(y:Rat)*(Q B:Rat):=λ y=>by
  rw[<- Rat.mul_assoc,rdm (a:=(y:Rat)) q]
 have l1:((r:Rat)/(Q B:Rat))*((r:Rat)/(Q B:Rat))<=y:=by
  refine Rat.le_trans (Rat.le_of_mul_le_mul_right (c:=(Q B:Rat)*(Q B:Rat)) ?_ qq) h1;rw[zT6,mid];have:=jA hr;rw[YA,YA] at this;exact this
 have l2:y<=((t:Rat)/(Q B:Rat))*((t:Rat)/(Q B:Rat)):=by
  refine Rat.le_trans h2 (Rat.le_of_mul_le_mul_right (c:=(Q B:Rat)*(Q B:Rat)) ?_ qq);rw[zT6,mid];have:=jA ht;rw[YA,YA] at this;exact this
 intro e he
 obtain⟨N1,k1⟩:=hx.ge (pos r iV) l1 e he;obtain⟨N2,k2⟩:=hx.le (pos t KJ) l2 e he;exact⟨N1+N2,λ M hM=>⟨by have:=k1 M (by omega);simp only[] at this ⊢;grind,k2 M (by omega)⟩⟩
theorem ErIn.of_lo {n d:Int} {x:Nat->Rat} (h:ErIn n d x) (B:Nat):0<=(ofI n d B).1:=by
 have:=zE B;exact Int.ediv_nonneg (Yz h.n0 (by omega)) (by have:=h.d0;omega)
theorem rtZ_zero:rtZ 0=0:=rfl
theorem rtU_zero:rtU 0=0:=rfl
theorem zM7 {n d:Int} {x:Nat->Rat} (h:ErIn n d x) (B:Nat):0<=(erF n d B).1/\(erF n d B).1<=(erF n d B).2/\(erF n d B).2<=Q (B+4)/\(erF n d B).2-(erF n d B).1+1<=Q 42/\Iv B (erF n d B) x:=by
 have q:=zE B;have a0:=h.of_lo B;have al:=yB (n:=n) h.d0 B;obtain⟨r0,r1,r2,r3⟩:=zDJ (B:=B) a0 al
 have up:(ofI n d B).2<=152*Q B:=by
  have m:=Yt (show n<=152*d by have:=h.up;omega) (show 0<=Q B by omega)
  have : -(152*Q B) <= -(n*Q B)/d:=Int.le_ediv_of_mul_le h.d0 (by
   have e : -(152*Q B)*d = -(152*d*Q B):=by grind
   omega)
  show -(-(n*Q B)/d)<=_
  omega
 have hi:=zOA (B:=B) (a:=ofI n d B) (c:=13) (by omega) (by omega) (by omega)
 refine⟨r0,r1,?_,?_,root_rtS h.rt (Iv.of B (n:=n) h.d0) r0 r2 (by have:=r0;show 0<=(yH B (ofI n d B)).2;omega) r3⟩
 ·have e:Q (B+4)=16*Q B:=by rw[jF];have:Q 4=16:=rfl;rw[this];omega
  show (yH B (ofI n d B)).2<=_
  omega
 ·have q38:0<Q 38:=zE 38
  have SV:Q 42=16*Q 38:=by rw[show 42=4+38 by rfl,jF];rfl
  have q76:Q 76=Q 38*Q 38:=by rw[<- jF]
  rcases h.low with hz|hz
  ·have e:ofI n d B=(0,0):=by unfold ofI;rw[hz];simp
   show (yH B (ofI n d B)).2-(yH B (ofI n d B)).1+1<=_
   rw[e];unfold yH;simp only[Int.zero_mul,rtZ_zero,rtU_zero];rw[SV];omega
  ·have c1:n*Q B<=(ofI n d B).2*d:=by
    have:=zEW (n*Q B) h.d0;exact this
   have c2:Q B<=Q 76*(ofI n d B).2:=by
    refine Int.le_of_mul_le_mul_right (a:=d) ?_ h.d0;have m1:=Yt hz (show 0<=Q B by omega)
    have m2:=Yx c1 (show 0<=Q 76 by have:=zE 76;omega)
    have e1:Q B*d=d*Q B:=Int.mul_comm _ _;have e2:Q 76*(ofI n d B).2*d=Q 76*((ofI n d B).2*d):=Int.mul_assoc _ _ _;have e3:Q 76*n*Q B=Q 76*(n*Q B):=Int.mul_assoc _ _ _;rw[e1,e2];rw[e3] at m1;exact Int.le_trans m1 m2
   have c3:Q B<=Q 38*(yH B (ofI n d B)).2:=sqI_le (by omega) (Yz (by omega) (by show 0<=(yH B (ofI n d B)).2;omega)) (by
    have m1:=Yt c2 (show 0<=Q B by omega)
    have m2:=Yx r3 (show 0<=Q 76 by have:=zE 76;omega)
    have e1:Q 38*(yH B (ofI n d B)).2*(Q 38*(yH B (ofI n d B)).2)=Q 76*((yH B (ofI n d B)).2*(yH B (ofI n d B)).2):=by rw[q76];grind
    have e2:Q 76*(ofI n d B).2*Q B=Q 76*((ofI n d B).2*Q B):=Int.mul_assoc _ _ _;rw[e1];rw[e2] at m1
    exact Int.le_trans m1 m2)
   have:=zHL (B:=B) (W:=1) (g:=Q 38) a0 al (yC h.d0 B) (by omega) c3
   show (yH B (ofI n d B)).2-(yH B (ofI n d B)).1+1<=_
   have q3:4<=Q 38:=by have:=zJ (show 2<=38 by omega);have:Q 2=4:=rfl;omega
   rw[SV];omega
def erT (n d:Int) (B:Nat):Nat->Int × Int:=riT (erF n d B) (erU n) (erD d)
theorem sum_hi {f:Nat->Int × Int} {U:Int} (h:∀ n,(f n).2<=U) (n:Nat):(jE f n).2<=((n:Int)+1)*U:=by
 induction n with
 | zero=>have:=h 0;show (f 0).2<=_;omega
 | succ n ih =>
  have:=h (n+1)
  show (jE f n).2+(f (n+1)).2<=_
  have e:(((n+1:Nat):Int)+1)*U=((n:Int)+1)*U+U:=by push_cast;grind
  omega
theorem sum_lo {f:Nat->Int × Int} (h:∀ n,0<=(f n).1) (n:Nat):0<=(jE f n).1:=by
 induction n with
 | zero=>exact h 0
 | succ n ih=>have:=h (n+1);show 0<=(jE f n).1+(f (n+1)).1;omega
theorem erT_set {n d:Int} {x:Nat->Rat} (h:ErIn n d x) (B:Nat):∃ N,N<=3*B+8523/\yS (erT n d B) (zBA n d) N:=by
 obtain⟨f1,f2,f3,f4,f5⟩:=zM7 h B;have hh:=er_hi (B:=B) h.n0 h.d0 h.up f1 f2 f3 (zBA n d);have ht:=zH3 h.n0 h.d0 h.up;obtain⟨N,n1,n2⟩:=zMD (turn:=zBA n d) (H:=B+2740) (zPA h.n0 h.d0) f1 f2 (λ k hk=>er_34 h.n0 h.d0 k hk) (by omega)
 have e:3*(B+2740)=3*B+8220:=Nat.mul_add 3 B 2740;rw[e] at n1;refine⟨N,Nat.le_trans n1 (Nat.le_trans (Nat.add_le_add_right ht _) (Nat.le_of_eq ?_)),n2⟩;rw[Nat.add_comm 303,Nat.add_assoc]
theorem zCQ {n d:Int} {x:Nat->Rat} (h:ErIn n d x) (B k:Nat):0<=(erT n d B k).1/\(erT n d B k).1<=(erT n d B k).2/\(erT n d B k).2<=Q (B+2740)/\(erT n d B k).2-(erT n d B k).1<=Q 2780:=by
 obtain⟨f1,f2,f3,f4,f5⟩:=zM7 h B;exact⟨zAO (zPA h.n0 h.d0) f1 k,zEK (zPA h.n0 h.d0) f2 k,er_hi h.n0 h.d0 h.up f1 f2 f3 k,er_wide h.n0 h.d0 h.up f2 f4 k⟩
theorem Q_s (k:Nat):Q (k+1)=2*Q k:=rfl
theorem zTC {N:Nat} (hN:N<=50000) (U:Nat) (hU:4<=U):((N:Int)+1)*Q U+9<=Q (U+20):=by
 have q:=zE U;have q4:=zJ hU;have e4:Q 4=16:=rfl;have e:Q (U+20)=1048576*Q U:=by rw[jF];have:Q 20=1048576:=rfl;rw[this];omega
 have m:=Yt (show (N:Int)+1<=50001 by omega) (show 0<=Q U by omega)
 omega
theorem zRV {n d:Int} {x:Nat->Rat} (h:ErIn n d x) (B:Nat) (hB:B<=10000) (k:Nat) (hk:k<=50000):0<=(jE (erT n d B) k).1/\(jE (erT n d B) k).1<=(jE (erT n d B) k).2/\(jE (erT n d B) k).2+9<=Q (B+2760)/\(jE (erT n d B) k).2-(jE (erT n d B) k).1+9<=Q 2800:=by
 have h1:=sum_lo (f:=erT n d B) (λ j=>(zCQ h B j).1) k
 have h2:=zGR (f:=erT n d B) (λ j=>(zCQ h B j).2.1) k
 have h3:=sum_hi (f:=erT n d B) (λ j=>(zCQ h B j).2.2.1) k
 have h4:=zOI (f:=erT n d B) (λ j=>(zCQ h B j).2.2.2) k
 have m1:=zTC hk (B+2740) (by omega)
 have m2:=zTC hk 2780 (by omega)
 rw[show B+2740+20=B+2760 by omega] at m1
 rw[show 2780+20=2800 by rfl] at m2
 exact⟨h1,h2,by omega,by omega⟩
theorem er_valG {n d:Int} {x:Nat->Rat} (hd:0<d) (k M:Nat):riV x (erU n) (erD d) k M=x M*gT ((n:Rat)/(d:Rat)) k:=by
 induction k with
 | zero=>show x M=x M*1;grind
 | succ k ih =>
  show ((erU n (k+1):Int):Rat)/((erD d (k+1):Int):Rat)*riV x (erU n) (erD d) k M=x M*(2*((n:Rat)/(d:Rat))/(2*((k:Rat)+1)+1)*gT ((n:Rat)/(d:Rat)) k)
  rw[ih];have d0:(0:Rat)<(d:Rat):=by exact_mod_cast hd
  have p:=zDD k;have e1:((erU n (k+1):Int):Rat)=2*(n:Rat):=by unfold erU;rw[YA];rfl
  have e2:((erD d (k+1):Int):Rat)=(d:Rat)*(2*((k:Rat)+1)+1):=by
   unfold erD;rw[YA]
   congr 1
   rw[Rat.intCast_add,YA]
   push_cast
   rfl
  have q:(0:Rat)<(d:Rat)*(2*((k:Rat)+1)+1):=Rat.mul_pos d0 p;have r0:=rdm (a:=(n:Rat)) d0;have r1:=rdm (a:=2*(n:Rat)) q;have r2:=rdm (a:=2*((n:Rat)/(d:Rat))) p
  have e3:2*(n:Rat)/((d:Rat)*(2*((k:Rat)+1)+1))=2*((n:Rat)/(d:Rat))/(2*((k:Rat)+1)+1):=by
   have lhs:2*((n:Rat)/(d:Rat))/(2*((k:Rat)+1)+1)*((d:Rat)*(2*((k:Rat)+1)+1))=2*(n:Rat):=by
    have:2*((n:Rat)/(d:Rat))/(2*((k:Rat)+1)+1)*((d:Rat)*(2*((k:Rat)+1)+1))=(2*((n:Rat)/(d:Rat))/(2*((k:Rat)+1)+1)*(2*((k:Rat)+1)+1))*(d:Rat):=by grind
    rw[this,r2,Rat.mul_assoc,r0]
   exact Rat.le_antisymm (Rat.le_of_mul_le_mul_right (by rw[lhs,r1];exact Rat.le_refl) q) (Rat.le_of_mul_le_mul_right (by rw[lhs,r1];exact Rat.le_refl) q)
  rw[e1,e2,e3];generalize 2*((n:Rat)/(d:Rat))/(2*((k:Rat)+1)+1)=c;grind
theorem er_hasG {B N:Nat} {a:Int × Int} {n d:Int} {x:Nat->Rat} (hn:0<=n) (hd:0<d) (hx:RtOf ((n:Rat)/(d:Rat)) x) (ha:Iv B a x) (hN:yS (riT a (erU n) (erD d)) (zBA n d) N):Iv B (kY (riT a (erU n) (erD d)) N) (λ M=>x M*gS ((n:Rat)/(d:Rat)) M):=by
 have h:=zCG (zPA hn hd) ha 0 (λ M _=>hx.nn M) (λ k hk=>er_34 hn hd k hk) hN
 refine Has.of_eq h λ M=>?_
 have:∀ j,S (λ k=>riV x (erU n) (erD d) k M) j=x M*S (gT ((n:Rat)/(d:Rat))) j:=λ j=>by
  induction j with
  | zero=>show (0:Rat)=x M*0;grind
  | succ j ih =>
   show S (λ k=>riV x (erU n) (erD d) k M) j+riV x (erU n) (erD d) j M=x M*(S (gT ((n:Rat)/(d:Rat))) j+gT ((n:Rat)/(d:Rat)) j)
   rw[ih,er_valG hd];grind
 exact (this M).symm
def zA6 (n d:Int) (B N:Nat):Int × Int:=kY (erT n d B) N
theorem zM8 {n d:Int} {x:Nat->Rat} (h:ErIn n d x) {B N:Nat} (hB:B<=10000) (hN:N<=3*B+8523) (hR:yS (erT n d B) (zBA n d) N):0<=(zA6 n d B N).1/\(zA6 n d B N).1<=(zA6 n d B N).2/\(zA6 n d B N).2<=Q (B+2760)/\(zA6 n d B N).2-(zA6 n d B N).1<=Q 2800/\Iv B (zA6 n d B N) (λ M=>x M*gS ((n:Rat)/(d:Rat)) M):=by
 have hN5:N<=50000:=by omega
 obtain⟨s1,s2,s3,s4⟩:=zRV h B hB N hN5;obtain⟨f1,f2,f3,f4,f5⟩:=zM7 h B;have e1:(zA6 n d B N).1=(jE (erT n d B) N).1:=by show (jE (erT n d B) N).1+0=_;omega
 have e2:(zA6 n d B N).2=(jE (erT n d B) N).2+9:=rfl;refine⟨by omega,by omega,by omega,by omega,er_hasG h.n0 h.d0 h.rt f5 hR⟩
def erX (n d:Int) (B t N:Nat):Int × Int:=sqI B (zN (zU B (zG (ofI n d B) t)) N) t
theorem erX_set {n d:Int} {x:Nat->Rat} (h:ErIn n d x) {B:Nat} (hB:40<=B):∃ (l:Int) (t N:Nat),zB1 (zW (ofI n d B)) l/\(t:Int)=max 0 (l-B+8)/\t<=16/\Abs (zG (ofI n d B) t) (Q (B-8))/\zT (zU B (zG (ofI n d B) t)) N:=by
 have:=h.n0;have:=h.d0;have:=h.up;obtain⟨l,t,N,e1,e2,e3,e4,e5⟩:=zD1 (B:=B) (e:=8) (by omega) (yB h.d0 B) (zIX (p:=n) (q:=d) (n:=152) (b:=B) (e:=8) h.d0 (by omega) (by omega) (by decide))
 exact⟨l,t,N,e1,e2,by omega,e4,e5⟩
theorem erX_ok {n d:Int} {x:Nat->Rat} (h:ErIn n d x) {B t N:Nat} (hB:40<=B) (o9:B<=10000) (ht:t<=16) (hA:Abs (zG (ofI n d B) t) (Q (B-8))) (hN:zT (zU B (zG (ofI n d B) t)) N) :
  Q B+1<=2*(erX n d B t N).1/\(erX n d B t N).1<=(erX n d B t N).2/\Abs (erX n d B t N) (Q (B+1536))/\(erX n d B t N).2-(erX n d B t N).1<=Q 1700/\Iv B (erX n d B t N) (ex ((n:Rat)/(d:Rat))):=by
 have q:=zE t;have al:=yB (n:=n) h.d0 B;obtain⟨g1,g2,g3,g4⟩:=zCD (ws:=1) (by omega) hA al (by have:=yC (n:=n) h.d0 B;omega) hN
 have Dz:=zJ (zU3 (show t<=17 by omega))
 rw[wb_17] at Dz;have CG:=zJ (show B+eb t<=B+1536 by have:=zB2 (show t<=17 by omega);rw[eb_17] at this;omega)
 have hiv:=Iv.of B (n:=n) h.d0;refine⟨zLW (h.of_lo B) al (by omega) hB hN,g1,g2.mono CG,?_,zEX (by omega) hiv hA⟩
 have m:=Int.mul_le_mul (show ((N:Int)+1)*(2*1+6)+3<=1048576 by omega) Dz (by have:=zE (wb t);omega) (by omega)
 have e:Q 1700=4*(1048576*Q 1678):=by
  rw[show 1700=1678+22 by rfl,jF];have:Q 22=4194304:=rfl;rw[this];omega
 have q2:=zE 1678
 show (sqI B (zN (zU B (zG (ofI n d B) t)) N) t).2-(sqI B (zN (zU B (zG (ofI n d B) t)) N) t).1<=_
 omega
def erP (B N5 N9:Nat):Int × Int:=yH B (piI B N5 N9)
theorem erP_ok {B N5 N9:Nat} {R:Nat->Rat} (hR:yG piS R) (hB:32<=B) (o9:B<=10000) (h5:zT (agT 5 B) N5) (h9:zT (agT 239 B) N9) :
  Q B<=(erP B N5 N9).1/\(erP B N5 N9).1<=(erP B N5 N9).2/\(erP B N5 N9).2<=8*Q B+1/\(erP B N5 N9).2-(erP B N5 N9).1<=1048576/\Iv B (erP B N5 N9) R:=by
 obtain⟨p1,p2,p3,p4⟩:=pi_bound hB h5 h9;have q:=zE B;obtain⟨r0,r1,r2,r3⟩:=zDJ (B:=B) (a:=piI B N5 N9) (by omega) p1
 have lo:Q B<=(yH B (piI B N5 N9)).1:=by
  have m:=Yt p2 (show 0<=Q B by omega)
  have z:=(zEM (show 0<=(piI B N5 N9).1*Q B by have:=Yz (show 0<=Q B by omega) (show 0<=Q B by omega);omega)).2
  have n0:=zAP ((piI B N5 N9).1*Q B)
  show Q B<=rtZ ((piI B N5 N9).1*Q B)
  refine Int.not_lt.1 λ D9=>?_
  have m2:=Int.mul_le_mul (show rtZ ((piI B N5 N9).1*Q B)+1<=Q B by omega) (show rtZ ((piI B N5 N9).1*Q B)+1<=Q B by omega) (by omega) (by omega)
  omega
 have hi:=zOA (B:=B) (a:=piI B N5 N9) (c:=8) (by omega) (by omega) (by omega)
 have w:=zHL (B:=B) (a:=piI B N5 N9) (W:=20*(B:Int)+120) (g:=1) (by omega) p1 p4 (by omega) (by omega)
 refine⟨lo,r1,hi,?_,root_iv (r:=(yH B (piI B N5 N9)).1) (t:=(yH B (piI B N5 N9)).2) (pi_has B N5 N9) hR r2 (by omega) r3⟩
 show (yH B (piI B N5 N9)).2-(yH B (piI B N5 N9)).1<=_
 omega
def zFP (n d:Int) (B t N N5 N9:Nat):Int × Int:=zAJ B (erP B N5 N9) (erX n d B t N)
theorem zRU {n d:Int} {x:Nat->Rat} {R:Nat->Rat} (hR:yG piS R) (h:ErIn n d x) {B t N N5 N9:Nat} (hB:40<=B) (o9:B<=10000) (ht:t<=16) (hA:Abs (zG (ofI n d B) t) (Q (B-8))) (hN:zT (zU B (zG (ofI n d B) t)) N) (h5:zT (agT 5 B) N5) (h9:zT (agT 239 B) N9) :
  Q B+1<=2*(zFP n d B t N N5 N9).1/\(zFP n d B t N N5 N9).1<=(zFP n d B t N N5 N9).2/\(zFP n d B t N N5 N9).2<=Q (B+1540)/\(zFP n d B t N N5 N9).2-(zFP n d B t N N5 N9).1<=Q 1710/\Iv B (zFP n d B t N N5 N9) (λ M=>R M*ex ((n:Rat)/(d:Rat)) M):=by
 obtain⟨x1,x2,x3,x4,x5⟩:=erX_ok h hB o9 ht hA hN;obtain⟨p1,p2,p3,p4,p5⟩:=erP_ok hR (by omega) o9 h5 h9
 have q:=zE B;have PA:Abs (erP B N5 N9) (16*Q B):=⟨by omega,by omega,by omega,by omega⟩
 have Ik:Q (B+1540)*Q B=16*Q B*Q (B+1536):=by
  rw[show B+1540=(B+1536)+4 by omega,jF (B+1536) 4]
  have:Q 4=16:=rfl;rw[this];grind
 have ab:=zCW (B:=B) (p:=Q (B+1540)) PA x3 (by omega)
 refine⟨?_,zB4 B,ab.2.2.2,?_,p5.mul x5⟩
 ·obtain⟨_,_,_,_,hh⟩:=zED ((erP B N5 N9).1*(erX n d B t N).1) ((erP B N5 N9).1*(erX n d B t N).2) ((erP B N5 N9).2*(erX n d B t N).1) ((erP B N5 N9).2*(erX n d B t N).2)
  have y0:0<=(erX n d B t N).1:=by omega
  have m0:=Yt p1 y0;have m1:=Yx x2 (show 0<=(erP B N5 N9).1 by omega)
  have m2:=Yt p2 y0;have m3:=Yx x2 (show 0<=(erP B N5 N9).2 by omega)
  have k:(erX n d B t N).1<=(zFP n d B t N N5 N9).1:=by
   refine Int.le_ediv_of_mul_le (by omega) ?_
   rw[Int.mul_comm];omega
  omega
 ·have w:=zAZ (B:=B) (c:=16*Q 1700+Q 1536*1048576) PA x3 p2 x2 (by
   have m1:=Yx x4 (show 0<=16*Q B by omega)
   have m2:=Yx p4 (show 0<=Q (B+1536) by have:=zE (B+1536);omega)
   have e:Q (B+1536)=Q B*Q 1536:=jF B 1536;have e2:(16*Q 1700+Q 1536*1048576)*Q B=16*Q B*Q 1700+Q B*Q 1536*1048576:=by grind
   rw[e] at m2 ⊢
   omega)
  have e1:Q 1710=1024*Q 1700:=by rw[show 1710=1700+10 by rfl,jF];have:Q 10=1024:=rfl;rw[this];omega
  have e3:Q 1556=Q 1536*1048576:=by rw[show 1556=1536+20 by rfl,jF];rfl
  have e4:=zJ (show 1556<=1700 by omega)
  have q2:=zE 1700
  show (zAJ B (erP B N5 N9) (erX n d B t N)).2-(zAJ B (erP B N5 N9) (erX n d B t N)).1<=_
  omega
theorem dv_wide2 {s1 s2 t1 t2 q V W C:Int} (hq:0<q) (h0:0<=s1) (hV:0<=V) (h1:s2-s1<=V) (hC:1<=C) (h2:s1<=C*t2) (h3:t1<=t2) (h4:t2-t1<=W) (h5:q+1<=2*t1) : -(-(s2*q)/t1)-s1*q/t2<=2*V+2*(C*W)+4:=by
 obtain⟨hi,ehi⟩:∃ hi,hi = -(-(s2*q)/t1):=⟨_,rfl⟩;obtain⟨lo,elo⟩:∃ lo,lo=s1*q/t2:=⟨_,rfl⟩;rw[<- ehi,<- elo];have t0:0<t1:=by omega
 have c1:(hi-1)*t1<s2*q:=by
  have:=Int.lt_ediv_add_one_mul_self (-(s2*q)) t0;have e:(hi-1)*t1 = -((-(s2*q)/t1+1)*t1):=by rw[ehi];grind
  omega
 have c2:s1*q<(lo+1)*t2:=by rw[elo];exact Int.lt_ediv_add_one_mul_self _ (by omega)
 have c3:lo<=C*q:=by
  rw[elo];refine Int.ediv_le_of_le_mul (by omega) ?_
  have:=Yt h2 (show 0<=q by omega)
  have e:C*t2*q=C*q*t2:=by grind
  omega
 have c4:0<=lo:=by rw[elo];exact Int.ediv_nonneg (Yz h0 (by omega)) (by omega)
 refine Int.not_lt.1 λ hn=>?_
 have W0:0<=W:=by omega
 have CW:W<=C*W:=by have:=Yt hC W0;omega
 obtain⟨X,hX⟩:∃ X,X=C*W:=⟨_,rfl⟩;rw[<- hX] at hn CW;have d1:=Yt (show (lo+1)+(2*V+2*X+3)<=hi-1 by omega) (show 0<=t1 by omega)
 have d2:=Yx h4 (show 0<=lo+1 by omega)
 have d3:=Yt (show lo+1<=C*q+1 by omega) W0
 have d4:=Yt h1 (show 0<=q by omega)
 have d5:=Yx h5 (show 0<=V+X by omega)
 have e1:(lo+1+(2*V+2*X+3))*t1=(lo+1)*t2-(lo+1)*(t2-t1)+(V+X)*(2*t1)+3*t1:=by grind
 have e2:(s2-s1)*q=s2*q-s1*q:=by grind
 have e3:(C*q+1)*W=X*q+W:=by rw[hX];grind
 have e4:(V+X)*(q+1)=V*q+X*q+V+X:=by grind
 omega
theorem w_fin {x v y z:Int} (h:x<=2*(2*v)+2*y+4) (hv:v<=y) (hy:0<y) (hz:z=134217728*y):x<=z:=by omega
def zK9 (B:Nat) (a:Int × Int):Int × Int:=(a.1,if a.2<=Q B then a.2 else Q B)
def erQ (n d:Int) (B M t N N5 N9:Nat):Int × Int:=(zDW ((zA6 n d B M).1*2) ((zA6 n d B M).2*2) (zFP n d B t N N5 N9).1 (zFP n d B t N N5 N9).2 B,zEV ((zA6 n d B M).1*2) ((zA6 n d B M).2*2) (zFP n d B t N N5 N9).1 (zFP n d B t N N5 N9).2 B)
theorem zRJ {B:Nat} {a:Int × Int} {w:Int} (h:a.2-a.1<=w) (h2:a.1<=Q B):(zK9 B a).2-(zK9 B a).1<=w:=by
 unfold zK9;simp only[];split<;>omega
theorem Iv.capN {B:Nat} {a:Int × Int} {x:Nat->Rat} (h:Iv B a x) (hx:LeN x (λ _=>1)):Iv B (zK9 B a) x:=by
 unfold zK9;split
 ·exact h
 ·intro e he
  obtain⟨N,hN⟩:=h e he;obtain⟨N0,tF⟩:=hx e he;refine⟨N+N0,λ M hM=>?_⟩
  have g:=(hN M (by omega)).1
  have g2:=tF M (by omega)
  have q:=jJ B;have e1:(Q B:Rat)/(Q B:Rat)=1:=by rw[YE,Rat.mul_inv_cancel _ (by grind)]
  simp only[];rw[e1];constructor<;>grind
theorem Iv.lo_one {B:Nat} {a:Int × Int} {x:Nat->Rat} (h:Iv B a x) (hx:LeN x (λ _=>1)):a.1<=Q B:=by
 refine Int.not_lt.1 λ D9=>?_
 have q:=jJ B;have h1:((Q B+1:Int):Rat)<=(a.1:Rat):=jA (by omega)
 have h2:1+1/(Q B:Rat)<=(a.1:Rat)/(Q B:Rat):=by
  refine jS q ?_;have e:(1+1/(Q B:Rat))*(Q B:Rat)=(Q B:Rat)+1/(Q B:Rat)*(Q B:Rat):=by grind
  rw[e,rdm q];rw[Rat.intCast_add] at h1;exact h1
 have u0:(0:Rat)<1/(Q B:Rat):=zF (by grind) q
 obtain⟨N1,k1⟩:=h (1/(Q B:Rat)/4) (by grind)
 obtain⟨N2,k2⟩:=hx (1/(Q B:Rat)/4) (by grind)
 have a1:=(k1 (N1+N2) (by omega)).1
 have a2:=k2 (N1+N2) (by omega)
 grind
theorem erf_ok {n d:Int} {x:Nat->Rat} {R:Nat->Rat} (hR:yG piS R) (h:ErIn n d x) {B M t N N5 N9:Nat} (hB:40<=B) (o9:B<=10000) (hM:M<=3*B+8523) (qA:yS (erT n d B) (zBA n d) M) (ht:t<=16) (hA:Abs (zG (ofI n d B) t) (Q (B-8))) (hN:zT (zU B (zG (ofI n d B) t)) N) (h5:zT (agT 5 B) N5) (h9:zT (agT 239 B) N9) :
  Iv B (zK9 B (erQ n d B M t N N5 N9)) (zC9 R ((n:Rat)/(d:Rat)) x)/\0<=(zK9 B (erQ n d B M t N N5 N9)).1/\(zK9 B (erQ n d B M t N N5 N9)).1<=(zK9 B (erQ n d B M t N N5 N9)).2/\(zK9 B (erQ n d B M t N N5 N9)).2<=Q B/\(zK9 B (erQ n d B M t N N5 N9)).2-(zK9 B (erQ n d B M t N N5 N9)).1<=Q 4500:=by
 obtain⟨s1,s2,s3,s4,s5⟩:=zM8 h o9 hM qA;obtain⟨d1,d2,d3,d4,d5⟩:=zRU hR h hB o9 ht hA hN h5 h9;have q:=zE B;have one:=zM9 hR h.rt
 have iv:Iv B (erQ n d B M t N N5 N9) (zC9 R ((n:Rat)/(d:Rat)) x):=by
  have:=Iv.dv (s:=kI (zA6 n d B M) 2) (s5.times 2) d5 (show 0<=(zA6 n d B M).1*2 by omega) (by omega)
  exact this
 obtain⟨e1,e2⟩:=zJU (b:=B) (lo:=(zA6 n d B M).1*2) (hi:=(zA6 n d B M).2*2) (lo':=(zFP n d B t N N5 N9).1) (hi':=(zFP n d B t N N5 N9).2) (by omega) (by omega) (by omega) d2
 have lo1:=iv.lo_one one;have Qc:(erQ n d B M t N N5 N9).1=(zA6 n d B M).1*2*Q B/(zFP n d B t N N5 N9).2:=e1;have Xz:(erQ n d B M t N N5 N9).2 = -(-((zA6 n d B M).2*2*Q B)/(zFP n d B t N N5 N9).1):=e2
 have l0:0<=(erQ n d B M t N N5 N9).1:=by
  rw[Qc];exact Int.ediv_nonneg (Yz (by omega) (by omega)) (by omega)
 have le:=iv.le
 have w:(erQ n d B M t N N5 N9).2-(erQ n d B M t N N5 N9).1<=Q 4500:=by
  rw[Qc,Xz];have C0:=zE 2763
  have:=dv_wide2 (s1:=(zA6 n d B M).1*2) (s2:=(zA6 n d B M).2*2) (t1:=(zFP n d B t N N5 N9).1) (t2:=(zFP n d B t N N5 N9).2) (q:=Q B) (V:=2*Q 2800) (W:=Q 1710) (C:=Q 2763) (by omega) (by omega) (by have:=zE 2800;omega) (by omega) (by omega) (by
   have m:=Yx (show Q B<=2*(zFP n d B t N N5 N9).2 by omega) (show 0<=Q 2761 by have:=zE 2761;omega)
   have e:Q (B+2760)=Q B*Q 2760:=jF B 2760;have e6:Q 2761=2*Q 2760:=Q_s 2760;have e7:Q 2763=2*(2*Q 2761):=by rw[<- Q_s 2761];exact Q_s 2762
   have e8:Q 2761*Q B=2*(Q B*Q 2760):=by rw[e6];grind
   have e9:Q 2763*(zFP n d B t N N5 N9).2=2*(Q 2761*(2*(zFP n d B t N N5 N9).2)):=by rw[e7];grind
   have q9:=Yz (show 0<=Q B by omega) (show 0<=Q 2760 by have:=zE 2760;omega)
   omega) d2 d4 d1
  have e3:Q 4473=Q 2763*Q 1710:=by rw[<- jF]
  have e4:=zJ (show 2800<=4473 by omega)
  have e5:Q 4500=134217728*Q 4473:=by
   rw[show 4500=27+4473 by rfl,jF]
   rfl
  rw[e3] at e4 e5;exact w_fin this e4 (by rw[<- e3];exact zE 4473) e5
 refine⟨iv.capN one,l0,?_,?_,zRJ w lo1⟩
 ·clear w;unfold zK9;simp only[];split<;>omega
 ·clear w;unfold zK9;simp only[];split<;>omega
open Go
section
variable {Pg : Program} {ops : Array Oper} {Q : Exit -> Act -> World -> Prop} {md : Region.Mode} {S : World -> Prop} {l : Nat}
def AnyL (Pg:Program) (md:Region.Mode) (ops:Array Oper) (Q:Exit->Act->World->Prop) (S:World->Prop) (l:Nat):Nat->Array Bool->Act->World->Prop
 | 0,listed,a,w=>Region.ready md ops listed=[]/\Q .normal a w
 | fuel+1,listed,a,w =>
  (Region.ready md ops listed=[]->Q .normal a w) /\
  ∀ i ∈ Region.ready md ops listed,wpOp Pg ops Q i (λ a' w'=>(i≠l->S w')/\AnyL Pg md ops Q S l fuel (listed.setIfInBounds i true) a' w') a w
theorem AnyL.any:∀ (fuel:Nat) (listed:Array Bool) (a:Act) (w:World),AnyL Pg md ops Q S l fuel listed a w->wpAny Pg md ops Q fuel listed a w
 | 0,_,_,_,h=>h
 | fuel+1,_,_,_,h=>⟨h.1,λ i hi=>wpOp_mono (λ a' w' h'=>AnyL.any fuel _ a' w' h'.2) (h.2 i hi)⟩
def zMM (md:Region.Mode) (ops:Array Oper) (l i:Nat):Bool :=
 match ops[l]? with
 | some o=>o.after.any (λ e=>Region.binds md e && e.on == i)
 | none=>false
theorem zK6 {i:Nat} {listed:Array Bool} (hw:zMM md ops l i=true) (hi:i ∈ Region.ready md ops listed) (hl:l ∈ Region.ready md ops listed):False:=by
 obtain⟨_,ol,hol,mr⟩:=mem_ready.1 hl;obtain⟨h0,oi,KA,_⟩:=mem_ready.1 hi;unfold zMM at hw;rw[hol] at hw;simp only[Array.any_eq_true'] at hw;obtain⟨e,he,h2⟩:=hw;simp only[Bool.and_eq_true,beq_iff_eq] at h2;have h1:=mr e he h2.1;rw[h2.2] at h1
 rcases Nat.lt_or_ge i listed.size with h'|h'
 ·simp[h'] at h0 h1;rw[h0] at h1;cases h1
 ·simp[Array.getElem?_eq_none h'] at h1
theorem AnyL.first {i:Nat} {oi:Oper} {v:Value} (hi:ops[i]?=some oi) (mN:∀ (j:Nat) (o:Oper) cs b,ops[j]?=some o->o.op≠.select cs b)
  (hQ:∀ c a w,Q (.panic c) (a.put oi.dst v) w->Q (.panic c) a w) (KZ:zMM md ops l i=true) :
  ∀ (fuel:Nat) (listed:Array Bool) (a:Act) (w:World),
   (∀ j oj,ops[j]?=some oj->j≠i->listed.getD j true=false->(∀ e ∈ oj.after,Region.binds md e=true->e.on≠i)->oi.apart ops oj=true) ->
   i ∈ Region.ready md ops listed->YieldsIf Pg ops S oi v a->S w ->
   AnyL Pg md ops Q S l fuel (listed.setIfInBounds i true) (a.put oi.dst v) w->AnyL Pg md ops Q S l (fuel+1) listed a w:=by
 intro fuel
 induction fuel with
 | zero =>
  intro listed a w _ hr hy hS H
  refine⟨λ h=>(by rw[h] at hr;cases hr),λ j hj=>?_⟩
  by_cases aJ:j=i
  ·subst aJ;exact hy.wpOp hi hS ⟨λ _=>hS,H⟩
  ·have:=ready_mono hj aJ
   rw[H.1] at this
   cases this
 | succ fuel ih =>
  intro listed a w hfree hr hy hS H
  refine⟨λ h=>(by rw[h] at hr;cases hr),λ j hj=>?_⟩
  by_cases aJ:j=i
  ·subst aJ;exact hy.wpOp hi hS ⟨λ _=>hS,H⟩
  ·have Rg:j≠l:=λ h=>zK6 KZ hr (h ▸ hj)
   have h1:=H.2 j (ready_mono hj aJ);obtain⟨ij,oj,wP,mr⟩:=mem_ready.1 hj
   have wO:∀ e ∈ oj.after,Region.binds md e=true->e.on≠i:=λ e he hb heq=>by
    have h1:=mr e he hb;have h0:=(mem_ready.1 hr).1;rw[heq] at h1
    rcases Nat.lt_or_ge i listed.size with h'|h'
    ·simp[h'] at h0 h1;rw[h0] at h1;cases h1
    ·simp[Array.getElem?_eq_none h'] at h1
   have h2:=wpOp_putIf wP (hfree j oj wP aJ ij wO) (λ cs b=>mN i oi cs b hi) (λ cs b=>mN j oj cs b wP) hQ hy h1
   have ft:∀ k ok,ops[k]?=some ok->k≠i->(listed.setIfInBounds j true).getD k true=false ->
     (∀ e ∈ ok.after,Region.binds md e=true->e.on≠i)->oi.apart ops ok=true:=λ k ok hk Kk Dr Kz=>by
    refine hfree k ok hk Kk ?_ Kz
    by_cases pg:j=k
    ·subst pg;exact ij
    ·rw[getD_set_ne true pg] at Dr;exact Dr
   refine wpOp_mono (λ a' w' h3=>⟨λ _=>h3.2.1 Rg,ih (listed.setIfInBounds j true) a' w' ft (ready_mono hr (Ne.symm aJ)) h3.1 (h3.2.1 Rg) ?_⟩) h2
   rw[Array.setIfInBounds_comm _ _ aJ];exact h3.2.2
theorem AnyL.take {i:Nat} {oi:Oper} {v:Value} {fuel:Nat} {listed:Array Bool} {a:Act} {w:World} (hi:ops[i]?=some oi)
  (hs:Region.noSelect ops=true) (hf:Region.free md ops listed i=true) (hr:(Region.ready md ops listed).contains i=true) (KZ:zMM md ops l i=true)
  (hQ:∀ c a w,Q (.panic c) (a.put oi.dst v) w->Q (.panic c) a w) (hy:YieldsIf Pg ops S oi v a) (hS:S w)
  (h:AnyL Pg md ops Q S l fuel (listed.setIfInBounds i true) (a.put oi.dst v) w):AnyL Pg md ops Q S l (fuel+1) listed a w :=
 AnyL.first hi (Region.noSelect_spec hs) hQ KZ fuel listed a w (Region.free_spec hi hf) (by simpa using hr) hy hS h
theorem AnyL.one {i:Nat} {o:Oper} {fuel:Nat} {listed:Array Bool} {a:Act} {w:World} (hr:Region.ready md ops listed=[i]) (ho:ops[i]?=some o)
  (h:∀ K':Act->World->Prop,Shut (∀ a w,S w->(S w->AnyL Pg md ops Q S l fuel (listed.setIfInBounds i true) a w)->K' a w)->if Region.wanted o (yielded ops a.tmps)=true then Oper.wp Pg o a w K' Q else K' (a.put o.dst undef) w) :
  AnyL Pg md ops Q S l (fuel+1) listed a w :=
 ⟨λ h0=>absurd (hr ▸ h0) (by simp),λ j hj=>by
  rw[hr] at hj;have pd:j=i:=by simpa using hj
  subst pd
  exact wpOp_step ho (λ K' hK=>h K' (λ a w hS hW=>hK a w ⟨λ _=>hS,hW hS⟩))⟩
theorem AnyL.last {o:Oper} {fuel:Nat} {listed:Array Bool} {a:Act} {w:World} (hr:Region.ready md ops listed=[l]) (ho:ops[l]?=some o)
  (hd:Region.ready md ops (listed.setIfInBounds l true)=[])
  (h:∀ K':Act->World->Prop,Shut (∀ a w,Q .normal a w->K' a w)->if Region.wanted o (yielded ops a.tmps)=true then Oper.wp Pg o a w K' Q else K' (a.put o.dst undef) w) :
  AnyL Pg md ops Q S l (fuel+1) listed a w :=
 ⟨λ h0=>absurd (hr ▸ h0) (by simp),λ j hj=>by
  rw[hr] at hj;have pd:j=l:=by simpa using hj
  subst pd;refine wpOp_step ho (λ K' hK=>h K' (λ a w hW=>hK a w ⟨λ h=>absurd rfl h,?_⟩))
  cases fuel with
  | zero=>exact⟨hd,hW⟩
  | succ fuel=>exact⟨λ _=>hW,by rw[hd];simp⟩⟩
theorem AnyL.start {id:Nat} {a:Act} {w:World} (hm:Pg.follows .mixedOrders=true) (hS:S w.drew)
  (h:S w.drew->AnyL Pg .any ops Q S l ops.size (Array.replicate ops.size false) a w.drew):(Code.region id ops true).wp Pg Q a w :=
 wp_region_any hm (AnyL.any _ _ _ _ (h hS))
end
open Go.RowKit
attribute [local go_sem ↓] Go.wp_at_zero Go.wp_at_succ
theorem zEF (x q:Int):zQB x q=if x<=q then x else q:=by unfold zQB;split<;>split<;>omega
theorem wideOf_z {b:Nat} (z:Int) (hz:z=(b:Int)) (neg j7:Bool) (a c:Option Addr) (n m cap j9 k k2:Nat) (x y:Int) (w:World) (h1:IntAt w neg a n cap k x) (h2:IntAt w j7 c m j9 k2 y) (hk:k<=700000000) (hb:b<=1000000) (hy:0<y) :
  Calls Tryz.prog 88 #[.agg #[.bool neg,.slice a n cap],.agg #[.bool j7,.slice c m j9],.int .i64 z] w (zH w b (k+b/16+20) (ofI x y b).1 (ofI x y b).2):=by
 subst hz;exact jI _ _ _ _ _ _ _ _ k k2 b x y w h1 h2 hk hb hy
theorem fieldP1 (x y:Bool) (a a':Option Addr) (n c n' c':Nat) (b:Int) (w:World):(Instr.field 31 (.agg #[.bool x,.slice a n c,.bool y,.slice a' n' c',.int .i64 b]) 1).run Tryz.prog w=.ok (.agg #[.bool y,.slice a' n' c']) w:=by kernel_rfl
theorem zOD {w:World} {B:Nat} {s:Sp} (h:VrC w B s) (x:Nm):VrC ((w.setCell ⟨B,2,none⟩ (.bool x.neg)).setCell ⟨B,3,none⟩ (.slice x.a x.n x.cap)) B ⟨s.ln,s.la,s.lN,s.lc,x.neg,x.a,x.n,x.cap,s.bits⟩:=by
 obtain⟨⟨q0,q1,q2,q3,q4⟩,q5⟩:=h;exact⟨⟨by simp[go_sem,q0],by simp[go_sem,q1],by simp[go_sem,q2],by simp[go_sem,q3],by simp[go_sem,q4]⟩,λ o=>by rw[zS,zS];exact q5 o⟩
theorem NoC.offH {w:World} {B B':Nat} (h:NoC w B) (hne:B≠B') (u0 u1:Value):NoC ((w.setCell ⟨B',2,none⟩ u0).setCell ⟨B',3,none⟩ u1) B:=by
 obtain⟨q0,q1,q2,q3,q4,q5⟩:=h;exact⟨by simp[go_sem,q0,hne,Ne.symm hne],by simp[go_sem,q1,hne,Ne.symm hne],by simp[go_sem,q2,hne,Ne.symm hne],by simp[go_sem,q3,hne,Ne.symm hne],by simp[go_sem,q4,hne,Ne.symm hne],λ o=>by rw[zS,zS];exact q5 o⟩
theorem IntAt.putH {w:World} {neg:Bool} {a:Option Addr} {n cap k:Nat} {z:Int} (h:IntAt w neg a n cap k z) {B:Nat} {x0:Bool} {y0:Option Addr} {y1 y2:Nat} (h0:w.cell? ⟨B,2,none⟩=some (.bool x0))
  (h1:w.cell? ⟨B,3,none⟩=some (.slice y0 y1 y2)) (u0 u1:Value):IntAt ((w.setCell ⟨B,2,none⟩ u0).setCell ⟨B,3,none⟩ u1) neg a n cap k z:=by
 have hne:(⟨B,2,none⟩:Addr)≠⟨B,3,none⟩:=by simp
 have h2:(w.setCell ⟨B,2,none⟩ u0).cell? ⟨B,3,none⟩=some (.slice y0 y1 y2):=(World.cell?_setCell_other _ _ _ _ hne).trans h1;exact (h.store h0 (λ _ e=>by cases e) u0).store h2 (λ _ e=>by cases e) u1
theorem zBR (w:World) (s:Sp) (k b:Nat) (lo hi:Int) (hs:SpAt w s k lo hi) (hbits:s.bits=(b:Int)) (hb:b<=100000) (fw:b/16+24<=k) (hk:k<=100000000) :
  Calls Tryz.prog 141 #[.agg s.q] w (zH w b (k+1) lo (zQB hi (Q b))):=by
 obtain⟨W,hW⟩:∃ W,W=(w.alloc (.cells s.q 31)).alloc (.cells zCq 31):=⟨_,rfl⟩;have j6:Below w.heap.size w W:=by rw[hW];exact bl2 _ _ _
 have A:VrC W w.heap.size s:=by rw[hW];exact⟨⟨by simp[go_sem],by simp[go_sem],by simp[go_sem],by simp[go_sem],by simp[go_sem]⟩,λ o=>by simp[go_sem]⟩
 have R:NoC W (w.heap.size+1):=by rw[hW];constructor<;>simp[go_sem]
 have Gz:=zC j6;have HS:=zC (hs.bw j6);have HB:=zC hbits;have HA:=zC A;have HR:=zC R;have HO:=zC (show -(-(1*Q b)/1)=Q b by rw[Int.ediv_one];omega)
 have HK:=zC (show ∀ w',Below W.heap.size W w'->(w'.cell? ⟨w.heap.size,2,none⟩=some (.bool s.hn)/\w'.cell? ⟨w.heap.size,3,none⟩=some (.slice s.ha s.hN s.hc)/\w'.cell? ⟨w.heap.size,4,none⟩=some (.int .i64 s.bits)) from λ w' hB=>⟨(A.bw hB).c.c2,(A.bw hB).c.c3,(A.bw hB).c.c4⟩)
 have D5:Below W.heap.size W W.drew:=(Below.refl _ _).drew;clear hs hbits j6 A R
 go_enter Tryz.func141,Tryz.ntmps141
 go_wp2;rw[<- hW];clear hW;refine AnyL.start (S:=λ w'=>w'.cell? ⟨w.heap.size,2,none⟩=some (.bool s.hn)/\w'.cell? ⟨w.heap.size,3,none⟩=some (.slice s.ha s.hN s.hc)/\w'.cell? ⟨w.heap.size,4,none⟩=some (.int .i64 s.bits)) (l:=9) (by kernel_rfl) (zA HK _ D5) (λ hHeld=>?_)
 refine AnyL.take (i:=0) (oi:={ dst:=some 3,op:=Go.Op.fieldAddr 31 (Go.Operand.tmp 1) 1,type:=0,pos := "part.go:53",after:=#[],guard:=none }) (v:=.pointer (some ⟨w.heap.size,2,none⟩)) rfl (by kernel_rfl) (by kernel_rfl) (by kernel_rfl) (by kernel_rfl) (λ _ _ _ h=>h) (Or.inl ⟨by rfl,λ w hSw=>?_⟩) hHeld ?_
 ·obtain⟨s0,s1,s2⟩:=hSw;go_simp
 try simp only[Act.put,Yo,Yp,Yq]
 refine AnyL.take (i:=1) (oi:={ dst:=some 4,op:=Go.Op.load 29 (Go.Operand.tmp 3),type:=29,pos := "part.go:53",after:=#[{ on:=0,ground:=Go.Ground.data }],guard:=none }) (v:=.agg #[.bool s.hn,.slice s.ha s.hN s.hc]) rfl (by kernel_rfl) (by kernel_rfl) (by kernel_rfl) (by kernel_rfl) (λ _ _ _ h=>h) (Or.inl ⟨by rfl,λ w hSw=>?_⟩) hHeld ?_
 ·obtain⟨s0,s1,s2⟩:=hSw;go_simp
 try simp only[Act.put,Yo,Yp,Yq]
 refine AnyL.take (i:=2) (oi:={ dst:=some 5,op:=Go.Op.fieldAddr 31 (Go.Operand.tmp 1) 2,type:=0,pos := "part.go:53",after:=#[],guard:=none }) (v:=.pointer (some ⟨w.heap.size,4,none⟩)) rfl (by kernel_rfl) (by kernel_rfl) (by kernel_rfl) (by kernel_rfl) (λ _ _ _ h=>h) (Or.inl ⟨by rfl,λ w hSw=>?_⟩) hHeld ?_
 ·obtain⟨s0,s1,s2⟩:=hSw;go_simp
 try simp only[Act.put,Yo,Yp,Yq]
 refine AnyL.take (i:=3) (oi:={ dst:=some 6,op:=Go.Op.load 3 (Go.Operand.tmp 5),type:=3,pos := "part.go:53",after:=#[{ on:=2,ground:=Go.Ground.data }],guard:=none }) (v:=.int .i64 s.bits) rfl (by kernel_rfl) (by kernel_rfl) (by kernel_rfl) (by kernel_rfl) (λ _ _ _ h=>h) (Or.inl ⟨by rfl,λ w hSw=>?_⟩) hHeld ?_
 ·obtain⟨s0,s1,s2⟩:=hSw;go_simp
 try simp only[Act.put,Yo,Yp,Yq]
 refine AnyL.one (i:=4) (o:={ dst:=some 7,op:=Go.Op.call { callee:=Go.Callee.value (Go.Operand.func 93),args:=#[Go.Operand.tmp 6],argTypes:=#[3] },type:=31,pos := "part.go:53",after:=#[{ on:=3,ground:=Go.Ground.data }],guard:=none }) (by kernel_rfl) rfl (λ Kc I3=>?_)
 go_simp
 rw[zA HB];refine (zDE _ b (by omega)).mono ?_
 rintro r' w1 ⟨v1,rfl,J2,hs1,hb⟩;have y9:=zB D5 hb;clear hb J2;go_wp2_with fail;refine I3.out _ _ (zA HK _ y9) (λ hHeld=>?_)
 clear I3 Kc
 try simp only[Act.put,Yo,Yp,Yq]
 refine AnyL.take (i:=5) (oi:={ dst:=some 8,op:=Go.Op.field 31 (Go.Operand.tmp 7) 1,type:=29,pos := "part.go:53",after:=#[{ on:=4,ground:=Go.Ground.data }],guard:=none }) (v:=.agg #[.bool v1.hn,.slice v1.ha v1.hN v1.hc]) rfl (by kernel_rfl) (by kernel_rfl) (by kernel_rfl) (by kernel_rfl) (λ _ _ _ h=>h) (Or.inl ⟨by rfl,λ w hSw=>?_⟩) hHeld ?_
 ·obtain⟨s0,s1,s2⟩:=hSw;(have hf1:=fieldP1;go_simp)
 try simp only[Act.put,Yo,Yp,Yq]
 refine AnyL.one (i:=6) (o:={ dst:=some 9,op:=Go.Op.buildSlice 101 2 #[(0,Go.Operand.tmp 4),(1,Go.Operand.tmp 8)],type:=101,pos := "part.go:53",after:=#[{ on:=1,ground:=Go.Ground.data },{ on:=5,ground:=Go.Ground.data }],guard:=none }) (by kernel_rfl) rfl (λ Kc I3=>?_)
 go_simp
 refine I3.out _ _ (zA HK _ (zL y9 _)) (λ hHeld=>?_)
 clear I3 Kc
 try simp only[Act.put,Yo,Yp,Yq]
 refine AnyL.one (i:=7) (o:={ dst:=some 10,op:=Go.Op.call { callee:=Go.Callee.value (Go.Operand.func 153),args:=#[Go.Operand.tmp 9],argTypes:=#[101] },type:=29,pos := "part.go:53",after:=#[{ on:=6,ground:=Go.Ground.data },{ on:=4,ground:=Go.Ground.chain }],guard:=none }) (by kernel_rfl) rfl (λ Kc I3=>?_)
 go_simp
 refine (least2 w1 _ rfl ⟨s.hn,s.ha,s.hN,s.hc⟩ ⟨v1.hn,v1.ha,v1.hN,v1.hc⟩ k hi (Q b) _ _ ((zA HS).hi.bw y9) ((zA HO ▸ hs1.hi).mono fw) (by omega)).mono ?_
 rintro r' w2 ⟨j7,a2,n2,c2,rfl,A5,j8⟩;have s9:=zB y9 j8;clear j8;go_wp2_with fail;refine I3.out _ _ (zA HK _ s9) (λ hHeld=>?_)
 clear I3 Kc
 try simp only[Act.put,Yo,Yp,Yq]
 refine AnyL.take (i:=8) (oi:={ dst:=some 11,op:=Go.Op.fieldAddr 31 (Go.Operand.tmp 1) 1,type:=0,pos := "part.go:53",after:=#[{ on:=0,ground:=Go.Ground.phase },{ on:=1,ground:=Go.Ground.phase },{ on:=2,ground:=Go.Ground.phase },{ on:=3,ground:=Go.Ground.phase },{ on:=4,ground:=Go.Ground.phase },{ on:=5,ground:=Go.Ground.phase },{ on:=6,ground:=Go.Ground.phase },{ on:=7,ground:=Go.Ground.phase }],guard:=none }) (v:=.pointer (some ⟨w.heap.size,2,none⟩)) rfl (by kernel_rfl) (by kernel_rfl) (by kernel_rfl) (by kernel_rfl) (λ _ _ _ h=>h) (Or.inl ⟨by rfl,λ w hSw=>?_⟩) hHeld ?_
 ·obtain⟨s0,s1,s2⟩:=hSw;go_simp
 try simp only[Act.put,Yo,Yp,Yq]
 have V2:=(zA HA).bw s9;have lA:=V2.lt;obtain⟨⟨y0,y1,y2,y3,y4⟩,y5⟩:=V2;refine AnyL.last (o:={ dst:=none,op:=Go.Op.store 29 (Go.Operand.tmp 11) (Go.Operand.tmp 10),type:=0,pos := "part.go:53",after:=#[{ on:=8,ground:=Go.Ground.data },{ on:=7,ground:=Go.Ground.data },{ on:=7,ground:=Go.Ground.chain },{ on:=0,ground:=Go.Ground.phase },{ on:=1,ground:=Go.Ground.phase },{ on:=2,ground:=Go.Ground.phase },{ on:=3,ground:=Go.Ground.phase },{ on:=4,ground:=Go.Ground.phase },{ on:=5,ground:=Go.Ground.phase },{ on:=6,ground:=Go.Ground.phase },{ on:=7,ground:=Go.Ground.phase }],guard:=none }) (by kernel_rfl) rfl (by kernel_rfl) (λ Kc I3=>?_)
 go_simp
 refine I3.out _ _ ?_;clear I3 Kc;have R2:=(zA HR).bw s9;obtain⟨V,hV⟩:∃ V,V=((w2.setCell ⟨w.heap.size,2,none⟩ (.bool j7)).setCell ⟨w.heap.size,3,none⟩ (.slice a2 n2 c2)):=⟨_,rfl⟩;have R3:NoC V (w.heap.size+1):=by rw[hV];exact R2.offH (by omega) _ _
 have A3:VrC V w.heap.size ⟨s.ln,s.la,s.lN,s.lc,j7,a2,n2,c2,s.bits⟩:=by rw[hV];exact zOD ((zA HA).bw s9) ⟨j7,a2,n2,c2⟩
 have i1:IntAt V s.ln s.la s.lN s.lc k lo:=by rw[hV];exact ((zA HS).lo.bw s9).putH y2 y3 _ _
 have i2:IntAt V j7 a2 n2 c2 (k+1) (zQB hi (Q b)):=by rw[hV];exact A5.putH y2 y3 _ _
 have A9:Below w.heap.size w V:=by rw[hV];exact ((zB (zA Gz) s9).setCell (p:=⟨w.heap.size,2,none⟩) (Yy _) _).setCell (p:=⟨w.heap.size,3,none⟩) (Yy _) _
 rw[<- hV];clear hV y0 y1 y2 y3 y4 y5 lA;have lA:=A3.lt;have lR:=R3.lt;obtain⟨⟨y0,y1,y2,y3,y4⟩,y5⟩:=A3;obtain⟨q0,q1,q2,q3,q4,q5⟩:=R3;go_wp2_with fail;refine bodyPost_ret (v:=.agg #[.bool s.ln,.slice s.la s.lN s.lc,.bool j7,.slice a2 n2 c2,.int .i64 s.bits]) (by simp[results,Tryz.results141,go_sem,q0,q1,q2,q3,q4]) rfl ⟨⟨s.ln,s.la,s.lN,s.lc,j7,a2,n2,c2,s.bits⟩,rfl,zA HB,?_,?_⟩
 ·exact SpAt.put5 (show SpAt V ⟨s.ln,s.la,s.lN,s.lc,j7,a2,n2,c2,s.bits⟩ (k+1) lo (zQB hi (Q b)) from⟨i1.mono (by omega),i2⟩) q0 q1 q2 q3 q4 _ _ _ _ _
 ·exact jV A9 (Nat.le_succ _) _ _ _ _ _
theorem zHI (w:World) (s:Sp) (p q:Int) (k b t N:Nat) (l:Int) (a:Int × Int) (hs:SpAt w s k a.1 a.2) (hbits:s.bits=(b:Int)) (CA:a.1<=a.2) (hr:rok p q) (O9:40<=b) (hb:b<=3000) (hp:0<=p)
  (hl:zB1 (zW (ofI p q b)) l) (ht:(t:Int)=max 0 (l-b+8)) (gH:t<=17) (mO:Abs (zG (ofI p q b) t) (Q (b-8))) (hN:zT (zU b (zG (ofI p q b) t)) N) (hK:Q (b+eb t)<P k) (cn:k<=1000000) (Ki:4+b/16+20<=k) :
  Calls Tryz.prog 142 #[.agg s.q,.agg #[.int .i64 p,.int .i64 q]] w (zH w b (b/16+k+10) (zDW a.1 a.2 (sqI b (zN (zU b (zG (ofI p q b) t)) N) t).1 (sqI b (zN (zU b (zG (ofI p q b) t)) N) t).2 b) (zEV a.1 a.2 (sqI b (zN (zU b (zG (ofI p q b) t)) N) t).1 (sqI b (zN (zU b (zG (ofI p q b) t)) N) t).2 b)):=by
 obtain⟨W,hW⟩:∃ W,W=((w.alloc (.cells s.q 31)).alloc (.cells #[.int .i64 p,.int .i64 q] 23)).alloc (.cells zCq 31):=⟨_,rfl⟩;have j6:Below w.heap.size w W:=by rw[hW];exact bl3 _ _ _ _
 have A:SpC W w.heap.size s:=by rw[hW];constructor<;>simp[go_sem]
 have C:RaC W (w.heap.size+1) p q:=by rw[hW];constructor<;>simp[go_sem]
 have R:NoC W (w.heap.size+1+1):=by rw[hW];constructor<;>simp[go_sem]
 obtain⟨r1,r2,r3,r4⟩:=hr;have hq:0<q:=by omega
 have hle:=yB (n:=p) hq b;have Dg:0<=(ofI p q b).1:=Int.ediv_nonneg (Yz hp (by have:=zE b;omega)) (by omega)
 have iR:=zLW Dg hle gH O9 hN;have CG:=(zCD (ws:=1) (by omega) mO hle (by have:=zE t;have:=yC (n:=p) hq b;omega) hN).1
 obtain⟨E,hE⟩:∃ E:Int × Int,E=sqI b (zN (zU b (zG (ofI p q b) t)) N) t:=⟨_,rfl⟩;rw[<- hE] at iR CG ⊢;have TR:=zC hE;have nQ:0<E.1:=by have:=zE b;omega
 have OS:=zC (And.intro nQ CG);clear iR CG hE nQ;have yr:=zC (And.intro hl (And.intro ht (And.intro mO hN)));have Ve:=zC hle;have HS:=zC (hs.bw j6);have HB:=zC hbits;have Vd:=zC hK;have TI:=zC CA;have HK:=zC (show ∀ w',Below W.heap.size W w'->(cK w' w.heap.size s (rK0 w' (w.heap.size+1) p q)) from λ w' hB=>⟨(A.bw hB).c0,(A.bw hB).c1,(A.bw hB).c2,(A.bw hB).c3,(A.bw hB).c4,(C.bw hB).c0,(C.bw hB).c1⟩)
 have D5:Below W.heap.size W W.drew:=(Below.refl _ _).drew;have lA:=A.lt;have lC:=C.lt;have lR:=R.lt;have m1:w.heap.size≠w.heap.size+1+1:=by omega
 have m2:w.heap.size+1+1≠w.heap.size:=by omega
 have m3:w.heap.size+1≠w.heap.size+1+1:=by omega
 have m4:w.heap.size+1+1≠w.heap.size+1:=by omega
 clear hs hbits A C hl ht mO hN hle Dg hK CA
 go_enter Tryz.func142,Tryz.ntmps142
 go_wp2;rw[<- hW];clear hW;obtain⟨x0,x1,x2,x3,x4,x5,x6⟩:=zA HK _ (Below.refl _ _)
 go_region_held3 (λ w'=>cK w' w.heap.size s (rK0 w' (w.heap.size+1) p q)) (first|exact zA HK _ (by with_reducible first|exact D5|exact gX|exact J1|exact G0|exact s9|exact y9)|(dsimp only[cK,cK0,nK,nK0,rK,rK0];go_keep)|go_keep)
  (first
   | (go_at_call 162;have O3:=J1;refine (zDM _ s v4 k b a.1 a.2 E.1 E.2 ((zA HS).bw J1) qQ (by omega) (by omega) (zA HB) (zA TI) (zA OS).1 (zA OS).2).mono ?_;rintro r' w5 ⟨v5,rfl,mP,Rt,D8⟩;have Vx:=zC mP;clear mP;have gX:=zB J1 D8;obtain⟨q0,q1,q2,q3,q4,q5⟩:=R.bw gX;obtain⟨y0,y1,y2,y3,y4,y5,y6⟩:=zA HK _ gX)
   | (go_at_call 77;have O3:=G0;refine (zCK _ v3 k b t N (ofI p q b) l (bg.mono Ki) (zA iI) (zA Ve) (by omega) (by omega) (zA yr).1 (zA yr).2.1 (by omega) (zA yr).2.2.1 (zA yr).2.2.2 (zA Vd) (by omega)).mono ?_;rintro r' w4 ⟨v4,rfl,aP,qQ,p9⟩;rw[<- zA TR] at qQ;have ET:=zC aP;clear aP;have J1:=zB G0 p9)
   | (go_at_call 88;have O3:=s9;refine (wideOf_z s.bits (zA HB) _ _ _ _ _ _ _ _ 4 4 p q _ o8 A5 (by omega) (by omega) hq).mono ?_;rintro r' w3 ⟨v3,rfl,G7,bg,m8⟩;have iI:=zC G7;clear G7;have G0:=zB s9 m8)
   | (go_at_call 33;have O3:=y9;refine (zD q _ (by omega) (by omega)).mono ?_;rintro r' w2 ⟨j7,a2,n2,c2,rfl,A5,j8⟩;have s9:=zB y9 j8;replace o8:=o8.bw j8)
   | (go_at_call 33;refine (zD p _ (by omega) (by omega)).mono ?_;rintro r' w1 ⟨m7,a1,n1,c1,rfl,o8,b9⟩;have y9:=zB D5 b9))
 all_goals
  go_wp2_with fail;refine bodyPost_ret (v:=.agg v5.q) (by simp[results,Tryz.results142,go_sem,q0,q1,q2,q3,q4]) rfl ⟨v5,rfl,zA Vx,?_,?_⟩
  ·exact SpAt.put5 Rt q0 q1 q2 q3 q4 _ _ _ _ _
  ·exact jV (zB j6 gX) (by omega) _ _ _ _ _
end Go.Proofs.YtgmnknmjainabacGreat
