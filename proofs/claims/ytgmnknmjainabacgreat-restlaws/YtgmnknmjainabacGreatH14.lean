/-
  Its own texts.
-/
import Derived.Test.YtgmnknmjainabacGreatH13
set_option maxRecDepth 100000
set_option maxHeartbeats 40000000
set_option linter.unusedVariables false
namespace Go.Proofs.YtgmnknmjainabacGreat
open Ex
theorem Has.of_const {a b c:Rat} (h:Has a b (λ _=>c)):a<=c/\c<=b:=by
 constructor
 ·refine Rat.not_lt.1 λ E2=>?_
  obtain⟨N,k⟩:=h ((a-c)/2) (by grind)
  have:=(k N (Zb _)).1;grind
 ·refine Rat.not_lt.1 λ E2=>?_
  obtain⟨N,k⟩:=h ((c-b)/2) (by grind)
  have:=(k N (Zb _)).2;grind
theorem zTJ (B:Nat) (x:Int):((x:Rat)/(Q B:Rat))*((x:Rat)/(Q B:Rat))*((Q B:Rat)*(Q B:Rat))=(x:Rat)*(x:Rat):=by
 have q:=jM B;have:=rdm (a:=(x:Rat)) q;have e:((x:Rat)/(Q B:Rat))*((x:Rat)/(Q B:Rat))*((Q B:Rat)*(Q B:Rat))=((x:Rat)/(Q B:Rat)*(Q B:Rat))*((x:Rat)/(Q B:Rat)*(Q B:Rat)):=by grind
 rw[e,this]
def yF (B:Nat) (a:Int × Int):Int × Int:=(rtZ (a.1*Q B),rtU (a.2*Q B))
theorem sqI_le {a b:Int} (ha:0<=a) (hb:0<=b) (h:a*a<=b*b):a<=b:=by
 refine Int.not_lt.1 λ E2=>?_
 have m1:=Int.mul_lt_mul_of_pos_left E2 (show 0<a by omega)
 have m2:=YW (show b<=a by omega) hb
 omega
theorem rtU_lt {x:Int} (h:0<=x) (h0:0<rtU x):(rtU x-1)*(rtU x-1)<x:=by
 obtain⟨h3,h4⟩:=zEO h;have:=zAU x;unfold rtU at *;split
 ·rename_i hh;rw[Int.add_sub_cancel];exact hh
 ·rename_i hh
  rw[if_neg hh] at h0;have e:(rtZ x-1)*(rtZ x-1)=rtZ x*rtZ x-2*rtZ x+1:=by grind
  omega
theorem zDC {B:Nat} {a:Int × Int} (ha:0<=a.1) (hl:a.1<=a.2):0<=(yF B a).1/\(yF B a).1<=(yF B a).2/\(yF B a).1*(yF B a).1<=a.1*Q B/\a.2*Q B<=(yF B a).2*(yF B a).2:=by
 have q:=zE B;have p1:=Zc ha (show 0<=Q B by omega)
 have p2:=YW hl (show 0<=Q B by omega)
 exact⟨zAU _,zPL p2 p1,(zEO p1).1,rtU_sq (by omega)⟩
theorem zHK {B:Nat} {a:Int × Int} {W g:Int} (ha:0<=a.1) (hl:a.1<=a.2) (hw:a.2-a.1<=W) (hg:0<g) (hr:Q B<=g*(yF B a).2):(yF B a).2-(yF B a).1<=g*W+2:=by
 obtain⟨r0,r1,r2,r3⟩:=zDC (B:=B) ha hl;have q:=zE B;have p1:=Zc ha (show 0<=Q B by omega)
 have p2:=YW hl (show 0<=Q B by omega)
 have z:=(zEO p1).2
 have t0:0<(yF B a).2:=by
  refine Int.not_le.1 λ h=>?_
  have:=Za h (show 0<=g by omega)
  omega
 have u:=rtU_lt (show 0<=a.2*Q B by omega) t0
 have e1:rtZ (a.1*Q B)=(yF B a).1:=rfl;have e2:rtU (a.2*Q B)=(yF B a).2:=rfl;rw[e1] at z;rw[e2] at u;generalize (yF B a).1=r at *;generalize (yF B a).2=t at *
 have k1:(t-r-2)*(t+r)<W*Q B:=by
  have m:=YW hw (show 0<=Q B by omega)
  have e:(t-r-2)*(t+r)=(t-1)*(t-1)-(r+1)*(r+1):=by grind
  have e3:(a.2-a.1)*Q B=a.2*Q B-a.1*Q B:=by grind
  omega
 refine Int.not_lt.1 λ hn=>?_
 have W0:0<=W:=by omega
 have m1:=YW (show g*W<=t-r-2 by omega) (show 0<=t+r by omega)
 have m2:=Za hr W0;have m3:=Zc (Zc (show 0<=g by omega) W0) r0
 have e4:g*W*(t+r)=W*(g*t)+g*W*r:=by grind
 omega
theorem zN6 {B:Nat} {a:Int × Int} {c:Int} (ha:0<=a.2) (hc:0<=c) (h:a.2<=c*c*Q B):(yF B a).2<=c*Q B+1:=by
 have q:=zE B;have p:=Zc ha (show 0<=Q B by omega)
 have z:=(zEO p).1;have m:=YW h (show 0<=Q B by omega)
 have h1:rtZ (a.2*Q B)<=c*Q B:=sqI_le (zAU _) (Zc hc (by omega)) (by
  have e:c*Q B*(c*Q B)=c*c*Q B*Q B:=by grind
  omega)
 show rtU (a.2*Q B)<=_
 unfold rtU;split<;>omega
def erU (n:Int) (_:Nat):Int:=2*n
def erD (d:Int) (k:Nat):Int:=d*(2*(k:Int)+1)
theorem zOU {n d:Int} (hn:0<=n) (hd:0<d):zP6 (erU n) (erD d):=⟨λ _=>by unfold erU;omega,λ k=>Int.mul_pos hd (by omega)⟩
def zA8 (n d:Int):Nat:=(2*n/d).toNat
theorem er_34 {n d:Int} (hn:0<=n) (hd:0<d) (k:Nat) (h:zA8 n d<=k):4*erU n (k+1)<=3*erD d (k+1):=by
 have h1:2*n/d<=(k:Int):=by unfold zA8 at h;omega
 have h2:=Int.lt_ediv_add_one_mul_self (2*n) hd;have h3:=YW (show 2*n/d+1<=(k:Int)+1 by omega) (show 0<=d by omega)
 have k0:=Zc (show 0<=d by omega) (show 0<=(k:Int) by omega)
 unfold erU erD;have e1:((k:Int)+1)*d=d*(k:Int)+d:=by grind
 have e2:3*(d*(2*((k+1:Nat):Int)+1))=6*(d*(k:Int))+9*d:=by push_cast;grind
 omega
theorem zH2 {n d:Int} (hn:0<=n) (hd:0<d) (h:n<152*d):zA8 n d<=303:=by
 have:2*n/d<304:=Int.ediv_lt_of_lt_mul hd (by omega)
 unfold zA8;omega
theorem ceil_mul {x u v c:Int} (hv:0<v) (hx:0<=x) (h:u<=c*v) : -(-(x*u)/v)<=c*x:=by
 have h1:=Za h hx
 have h2 : -(c*x) <= -(x*u)/v:=Int.le_ediv_of_mul_le hv (by
  have e : -(c*x)*v = -(x*(c*v)):=by grind
  omega)
 omega
theorem zRA {n d:Int} (hn:0<=n) (hd:0<d) (h:n<152*d) (k:Nat):erU n (k+1)<=512*erD d (k+1):=by
 have k0:=Zc (show 0<=d by omega) (show 0<=(k:Int) by omega)
 unfold erU erD;have e:512*(d*(2*((k+1:Nat):Int)+1))=1024*(d*(k:Int))+1536*d:=by push_cast;grind
 omega
theorem er_hi {B:Nat} {a:Int × Int} {n d:Int} (hn:0<=n) (hd:0<d) (h:n<152*d) (ha:0<=a.1) (hl:a.1<=a.2) (hb:a.2<=Q (B+4)) (k:Nat):(riT a (erU n) (erD d) k).2<=Q (B+2740):=by
 have ok:=zOU hn hd
 have low:∀ j,j<=304->(riT a (erU n) (erD d) j).2<=Q (B+4+9*j):=λ j=>by
  induction j with
  | zero=>intro _;exact hb
  | succ j ih =>
   intro hj
   have i1:=ih (by omega)
   have n1:=zAT ok ha j;have n2:=zEM ok hl j;have c:=ceil_mul (ok.d0 (j+1)) (show 0<=(riT a (erU n) (erD d) j).2 by omega) (zRA hn hd h j)
   have e:Q (B+4+9*(j+1))=512*Q (B+4+9*j):=by
    rw[show B+4+9*(j+1)=(B+4+9*j)+9 by omega,jD]
    have:Q 9=512:=rfl;rw[this];omega
   show -(-((riT a (erU n) (erD d) j).2*erU n (j+1))/erD d (j+1))<=_
   omega
 have hturn:=zH2 hn hd h
 have up:∀ j,(riT a (erU n) (erD d) (303+j)).2<=Q (B+2740):=λ j=>by
  induction j with
  | zero =>
   have:=low 303 (by omega)
   have:=zH (show B+4+9*303<=B+2740 by omega)
   simp only[Nat.add_zero];omega
  | succ j ih =>
   have n1:=zAT ok ha (303+j);have n2:=zEM ok hl (303+j);have f:=zM7 (x:=(riT a (erU n) (erD d) (303+j)).2) (ok.d0 (303+j+1)) (by omega) (er_34 hn hd (303+j) (by omega))
   have q:=zH (show 2<=B+2740 by omega)
   have q2:Q 2=4:=rfl
   show -(-((riT a (erU n) (erD d) (303+j)).2*erU n (303+j+1))/erD d (303+j+1))<=_
   omega
 by_cases hk:k<=303
 ·have:=low k (by omega)
  have:=zH (show B+4+9*k<=B+2740 by omega)
  omega
 ·have:=up (k-303)
  rwa [show 303+(k-303)=k by omega] at this
theorem er_wide {a:Int × Int} {n d:Int} (hn:0<=n) (hd:0<d) (h:n<152*d) (hl:a.1<=a.2) (hw:a.2-a.1+1<=Q 42) (k:Nat):(riT a (erU n) (erD d) k).2-(riT a (erU n) (erD d) k).1<=Q 2780:=by
 have ok:=zOU hn hd
 have low:∀ j,j<=304->(riT a (erU n) (erD d) j).2-(riT a (erU n) (erD d) j).1+1<=Q (42+9*j):=λ j=>by
  induction j with
  | zero=>intro _;exact hw
  | succ j ih =>
   intro hj
   have i1:=ih (by omega)
   have n2:=zEM ok hl j
   have c:=kK (a:=riT a (erU n) (erD d) j) (n:=erU n (j+1)) (d:=erD d (j+1)) (c:=512*((riT a (erU n) (erD d) j).2-(riT a (erU n) (erD d) j).1)) (ok.d0 (j+1)) (by
    have:=Za (zRA hn hd h j) (show 0<=(riT a (erU n) (erD d) j).2-(riT a (erU n) (erD d) j).1 by omega)
    have e:((riT a (erU n) (erD d) j).2-(riT a (erU n) (erD d) j).1)*(512*erD d (j+1))=512*((riT a (erU n) (erD d) j).2-(riT a (erU n) (erD d) j).1)*erD d (j+1):=by grind
    omega)
   have e:Q (42+9*(j+1))=512*Q (42+9*j):=by
    rw[show 42+9*(j+1)=(42+9*j)+9 by omega,jD]
    have:Q 9=512:=rfl;rw[this];omega
   show (zJ (riT a (erU n) (erD d) j) (erU n (j+1)) (erD d (j+1))).2-(zJ (riT a (erU n) (erD d) j) (erU n (j+1)) (erD d (j+1))).1+1<=_
   omega
 have hturn:=zH2 hn hd h
 have q9:9<=Q 2780:=by
  have:=zH (show 4<=2780 by omega)
  have:Q 4=16:=rfl;omega
 have up:∀ j,(riT a (erU n) (erD d) (303+j)).2-(riT a (erU n) (erD d) (303+j)).1<=Q 2780:=λ j=>by
  induction j with
  | zero =>
   have:=low 303 (by omega)
   have:=zH (show 42+9*303<=2780 by omega)
   simp only[Nat.add_zero];omega
  | succ j ih =>
   have n2:=zEM ok hl (303+j);obtain⟨D,hD⟩:∃ D,D=(riT a (erU n) (erD d) (303+j)).2-(riT a (erU n) (erD d) (303+j)).1:=⟨_,rfl⟩
   have c:=kK (a:=riT a (erU n) (erD d) (303+j)) (n:=erU n (303+j+1)) (d:=erD d (303+j+1)) (c:=Q 2780-1) (ok.d0 (303+j+1)) (by
    rw[<- hD] at ih ⊢;have f:=er_34 hn hd (303+j) (by omega)
    have d0:=ok.d0 (303+j+1);have u0:=ok.u0 (303+j+1);generalize erU n (303+j+1)=u at *;generalize erD d (303+j+1)=v at *;generalize Q 2780=q at *;have m1:=YW ih u0;have m2:=Za f (show 0<=q by omega)
    have m3:=YW (show 4<=q by omega) (show 0<=v by omega)
    have e1:q*(4*u)=4*(q*u):=by grind
    have e2:q*(3*v)=3*(q*v):=by grind
    have e3:(q-1)*v=q*v-v:=by grind
    omega)
   show (zJ (riT a (erU n) (erD d) (303+j)) (erU n (303+j+1)) (erD d (303+j+1))).2-(zJ (riT a (erU n) (erD d) (303+j)) (erU n (303+j+1)) (erD d (303+j+1))).1<=_
   omega
 by_cases hk:k<=303
 ·have:=low k (by omega)
  have:=zH (show 42+9*k<=2780 by omega)
  omega
 ·have:=up (k-303)
  rwa [show 303+(k-303)=k by omega] at this
end Go.Proofs.YtgmnknmjainabacGreat
namespace Go.Proofs.YtgmnknmjainabacGreat.Ex
def gT (y:Rat):Nat->Rat
 | 0=>1
 | n+1=>2*y/(2*((n:Rat)+1)+1)*gT y n
def gS (y:Rat) (M:Nat):Rat:=S (gT y) M
theorem eT_gT (x:Rat) (n:Nat):eT x n=x*gT (x*x) n:=by
 induction n with
 | zero=>show x=x*1;grind
 | succ n ih =>
  show 2*(x*x)/(2*((n:Rat)+1)+1)*eT x n=x*(2*(x*x)/(2*((n:Rat)+1)+1)*gT (x*x) n)
  rw[ih];generalize 2*(x*x)/(2*((n:Rat)+1)+1)=c;grind
theorem eS_gS (x:Rat) (M:Nat):eS x M=x*gS (x*x) M:=by
 induction M with
 | zero=>show (0:Rat)=x*0;grind
 | succ n ih =>
  show eS x n+eT x n=x*(gS (x*x) n+gT (x*x) n)
  rw[ih,eT_gT];grind
theorem zJY {y:Rat} (h:0<=y) (n:Nat):0<=gT y n:=by
 induction n with
 | zero=>show (0:Rat)<=1;grind
 | succ n ih=>exact YV (kG (zC7 n) (by grind)) ih
theorem gT_mono {y y':Rat} (h:0<=y) (hy:y<=y') (n:Nat):gT y n<=gT y' n:=by
 induction n with
 | zero=>exact Rat.le_refl
 | succ n ih =>
  have p:=zC7 n;have c:2*y/(2*((n:Rat)+1)+1)<=2*y'/(2*((n:Rat)+1)+1):=kF p (by rw[rdm p];grind)
  have c0:0<=2*y/(2*((n:Rat)+1)+1):=kG p (by grind)
  have g0:=zJY (show 0<=y' by grind) n
  exact Rat.le_trans (YT ih c0) (YX c g0)
theorem zD8 {y:Rat} (h:0<=y) (M:Nat):0<=gS y M:=by
 induction M with
 | zero=>show (0:Rat)<=0;grind
 | succ n ih=>have:=zJY h n;show 0<=gS y n+gT y n;grind
theorem zH6 {y y':Rat} (h:0<=y) (hy:y<=y') (M:Nat):gS y M<=gS y' M:=by
 induction M with
 | zero=>show (0:Rat)<=0;grind
 | succ n ih=>have:=gT_mono h hy n;show gS y n+gT y n<=gS y' n+gT y' n;grind
theorem gS_bdd {y:Rat} (h:0<=y):∃ K,0<=K/\∀ M,gS y M<=K:=by
 obtain⟨K,k0,hK⟩:=zJW (x:=y+1) (by grind)
 refine⟨K,k0,λ M=>?_⟩
 have q:=YV h h;have m:=zH6 (y':=(y+1)*(y+1)) h (by grind) M
 have e:=eS_gS (y+1) M;have g0:=zD8 (y:=(y+1)*(y+1)) (by grind) M
 have m2:=YV h g0;have:=hK M;grind
def qS (f:Nat->Rat) (y:Rat) (M:Nat):Rat:=f M*gS y M/ex y M
theorem ex_ge {y:Rat} (h:0<=y) {M:Nat} (hM:1<=M):1<=ex y M:=E_one h hM
theorem qS_ok {f:Nat->Rat} {y F K:Rat} (h:0<=y) {M:Nat} (hM:1<=M) (f0:0<=f M) (fF:f M<=F) (hK:gS y M<=K):0<=qS f y M/\qS f y M<=F*K/\qS f y M*ex y M=f M*gS y M:=by
 have e1:=ex_ge h hM;have g0:=zD8 h M;have p:=YV f0 g0;obtain⟨d1,d2⟩:=zEW p e1;refine⟨d1,?_,rdm (by grind)⟩
 have m1:=YX fF g0;have m2:=YT hK (show 0<=F by grind)
 unfold qS;grind
theorem cmp_key {a c E E' f f' g g' t e:Rat} (a0:0<=a) (c0:0<=c) (e0:0<e) (t0:0<=t) (t4:t<=1/4) (E1:1<=E) (FZ:1<=E') (hE:E'<=E*(1+2*t)+e) (ha:a*E=f*g) (hc:c*E'=f'*g') (Cg:0<=f) (hf:f<=f'+e) (g0:0<=g) (gg:g<=g'):a<=c*(1+2*t)+e*(2*g'+a):=by
 have h1:a*E'<=f*g*(1+2*t)+a*e:=by
  have:=YT hE a0;have e1:a*(E*(1+2*t)+e)=a*E*(1+2*t)+a*e:=by grind
  rw[e1,ha] at this;exact this
 have h2:f*g<=f'*g'+e*g':=by
  have m1:=YT gg Cg;have m2:=YX hf (show 0<=g' by grind)
  grind
 have h3:=YX h2 (show 0<=1+2*t by grind)
 have eg:=YV (YZ e0) (show 0<=g' by grind)
 have h4:e*g'*(1+2*t)<=e*g'*2:=YT (by grind) eg
 have h5:a*E'<=c*E'*(1+2*t)+e*(2*g'+a):=by rw[hc];grind
 have r0:0<=e*(2*g'+a):=YV (YZ e0) (by grind)
 have h6:=YT FZ r0;refine Rat.le_of_mul_le_mul_right (c:=E') ?_ (by grind)
 have e2:(c*(1+2*t)+e*(2*g'+a))*E'=c*E'*(1+2*t)+e*(2*g'+a)*E':=by grind
 rw[e2];grind
theorem cmpG {y y':Rat} (hy:0<=y) (QH:y<=y') (h4:y'-y<=1/4) {f f':Nat->Rat} {F:Rat} {N0:Nat} (f0:∀ M,0<=f M) (WH:∀ M,0<=f' M) (fF:∀ M,N0<=M->f M<=F) (WM:∀ M,N0<=M->f' M<=F) (hf:LeN f f') {K:Rat} (hK:∀ M,gS y' M<=K):LeN (qS f y) (λ M=>qS f' y' M+2*(F*K)*(y'-y)):=by
 have F0:0<=F:=Rat.le_trans (f0 N0) (fF N0 (Zb _));have K0:0<=K:=Rat.le_trans (zD8 (show 0<=y' by grind) 0) (hK 0)
 have FK:=YV F0 K0;obtain⟨t,ht⟩:∃ t,t=y'-y:=⟨_,rfl⟩;have t0:0<=t:=by grind
 intro e0 Fe
 obtain⟨D,hD⟩:∃ D,D=2*K+F*K+1:=⟨_,rfl⟩;have D0:0<D:=by grind
 obtain⟨e,he⟩:∃ e,e=e0/D:=⟨_,rfl⟩;have eD:e*D=e0:=by rw[he];exact rdm D0
 have ep:0<e:=by rw[he];exact zK Fe D0
 obtain⟨N1,k1⟩:=hf e ep;obtain⟨N2,k2⟩:=zC2 y t e ep;refine⟨N0+N1+N2+2,λ M hM=>?_⟩
 obtain⟨a1,a2,a3⟩:=qS_ok (f:=f) hy (show 1<=M by omega) (f0 M) (fF M (by omega)) (Rat.le_trans (zH6 hy QH M) (hK M))
 obtain⟨c1,c2,c3⟩:=qS_ok (f:=f') (show 0<=y' by grind) (show 1<=M by omega) (WH M) (WM M (by omega)) (hK M)
 have E1:=ex_ge hy (show 1<=M by omega)
 have FZ:=ex_ge (show 0<=y' by grind) (show 1<=M by omega)
 have lit:=(zBI (h:=t) (b:=t) ⟨by grind,by grind⟩ (by grind) (M:=M) (by omega)).2
 have et:ex t M=E t M:=rfl;have ey:y+t=y':=by grind
 have kk:=(k2 M (by omega)).1
 simp only[] at kk;rw[ey] at kk;have tt:t*t<=t*(1/4):=YT (by grind) t0
 have hE:ex y' M<=ex y M*(1+2*t)+e:=by
  have l2:ex t M<=1+2*t:=by rw[et];grind
  have:=YT l2 (show 0<=ex y M by grind)
  grind
 have key:=cmp_key a1 c1 ep t0 (by grind) E1 FZ hE a3 c3 (f0 M) (k1 M (by omega)) (zD8 hy M) (zH6 hy QH M)
 have b1:=YT (show 2*gS y' M+qS f y M<=D by have:=hK M;grind) (YZ ep)
 have b2:=YX c2 t0;rw[eD] at b1;simp only[];rw[<- ht];grind
def zOV (R:Nat->Rat) (y:Rat) (f:Nat->Rat) (M:Nat):Rat:=2*(f M*gS y M)/(R M*ex y M)
theorem zOW (R:Nat->Rat) (x:Rat):zOV R (x*x) (λ _=>x)=erfS R x:=by
 funext M
 unfold zOV erfS;rw[eS_gS]
theorem zRB {P R:Nat->Rat} (h:zBJ P R) {y:Rat} (hy:0<=y) (f:Nat->Rat) {M:Nat} (hM:1<=M):zOV R y f M=qS f y M*(2*(1/R M)):=by
 have r1:=h.one M;have h1:=ex_ge hy hM;have p1:0<R M:=by grind
 have p2:0<ex y M:=by grind
 have p3:0<R M*ex y M:=Rat.mul_pos p1 p2;have a:=rdm (a:=2*(f M*gS y M)) p3;have b:=rdm (a:=f M*gS y M) p2;have c:=rdm (a:=1) p1;unfold zOV qS
 have lhs:f M*gS y M/ex y M*(2*(1/R M))*(R M*ex y M)=2*(f M*gS y M):=by
  have:f M*gS y M/ex y M*(2*(1/R M))*(R M*ex y M)=2*((f M*gS y M/ex y M*ex y M)*(1/R M*R M)):=by grind
  rw[this,b,c];grind
 exact Rat.le_antisymm (Rat.le_of_mul_le_mul_right (by rw[lhs,a];exact Rat.le_refl) p3) (Rat.le_of_mul_le_mul_right (by rw[lhs,a];exact Rat.le_refl) p3)
theorem cmpE {P R:Nat->Rat} (h:zBJ P R) {y y' C:Rat} (hy:0<=y) (oJ:0<=y') (C0:0<=C) {f f':Nat->Rat} (hq:LeN (qS f y) (λ M=>qS f' y' M+C)):LeN (zOV R y f) (λ M=>zOV R y' f' M+2*C):=by
 obtain⟨z,hz,k⟩:=hq.null;refine LeN.of_null (hz.bmul ((Bdd.const 2).mul (zIB h.one))) 1 λ M hM=>?_
 rw[zRB h hy f hM,zRB h oJ f' hM];obtain⟨i0,i1⟩:=zEW (a:=1) (by grind) (h.one M)
 have m:=YX (k M) (show 0<=2*(1/R M) by grind)
 have m2:=YT i1 C0;grind
theorem root0 (p:Rat) (hp:0<=p) (k:Nat):∃ r:Rat,0<=r/\r*r<=p/\p<=(r+1/((k:Rat)+1))*(r+1/((k:Rat)+1)):=by
 obtain⟨n,hn⟩:=kQ p;have k0:(0:Rat)<(k:Rat)+1:=zBN k;have u0:(0:Rat)<1/((k:Rat)+1):=zK (by grind) k0
 have um:1/((k:Rat)+1)*((k:Rat)+1)=1:=rdm k0;obtain⟨u,hu⟩:∃ u,u=1/((k:Rat)+1):=⟨_,rfl⟩;rw[<- hu] at u0 um ⊢
 have top:p<=((((n+1)*(k+1):Nat):Rat)*u)*((((n+1)*(k+1):Nat):Rat)*u):=by
  have e:(((n+1)*(k+1):Nat):Rat)*u=(n:Rat)+1:=by
   have:(((n+1)*(k+1):Nat):Rat)=((n:Rat)+1)*((k:Rat)+1):=by push_cast;rfl
   rw[this];grind
  rw[e];have n0:(0:Rat)<=(n:Rat):=by exact_mod_cast Nat.zero_le n
  have:=YV n0 n0;have:=hn.2;grind
 obtain⟨j,_,j1,j2⟩:=zBW (p:=λ j=>p<=((j:Rat)*u)*((j:Rat)*u)) (K:=(n+1)*(k+1)) top
 cases j with
 | zero =>
  have e:(((0:Nat):Rat)*u)=0:=by grind
  rw[e] at j1;exact⟨0,by grind,by grind,by have:=YV (YZ u0) (YZ u0);grind⟩
 | succ i =>
  have h:=j2 i (Nat.lt_succ_self i);have i0:(0:Rat)<=(i:Rat):=by exact_mod_cast Nat.zero_le i
  have iu:=YV i0 (YZ u0);refine⟨(i:Rat)*u,by grind,by grind,?_⟩
  have e:((i+1:Nat):Rat)=(i:Rat)+1:=by push_cast;rfl
  rw[e] at j1;have e2:((i:Rat)+1)*u=(i:Rat)*u+u:=by grind
  rw[e2] at j1;exact j1
structure RtOf (y:Rat) (r:Nat->Rat):Prop where
 nn:∀ M,0<=r M
 sq:Null (λ M=>r M*r M-y)
theorem zL9 {a b:Rat} (ha:0<=a) (h:a*a<=b*b) (hb:0<=b):a<=b:=by
 refine Rat.not_lt.1 λ E2=>?_
 have m1:=Rat.mul_lt_mul_of_pos_left E2 (show 0<a by grind)
 have m2:=YX (YZ E2) hb;grind
theorem RtOf.ge {y:Rat} {r:Nat->Rat} (h:RtOf y r) {x:Rat} (hx:0<=x) (P7:x*x<=y):LeN (λ _=>x) r:=λ e he=>by
 obtain⟨N,k⟩:=h.sq (e*e) (Rat.mul_pos he he);refine⟨N,λ M hM=>?_⟩
 have a:=(k M hM).1;have n:=h.nn M;simp only[] at a ⊢;have re:=YV n (YZ he);exact zL9 hx (by grind) (by grind)
theorem RtOf.le {y:Rat} {r:Nat->Rat} (h:RtOf y r) {x:Rat} (hx:0<=x) (P7:y<=x*x):LeN r (λ _=>x):=λ e he=>by
 obtain⟨N,k⟩:=h.sq (e*e) (Rat.mul_pos he he);refine⟨N,λ M hM=>?_⟩
 have a:=(k M hM).2;have n:=h.nn M;simp only[] at a ⊢;have re:=YV hx (YZ he);exact zL9 n (by grind) (by grind)
theorem RtOf.y0 {y:Rat} {r:Nat->Rat} (h:RtOf y r):0<=y:=by
 refine Rat.not_lt.1 λ E2=>?_
 obtain⟨N,k⟩:=h.sq (-y/2) (by grind)
 have a:=(k N (Zb _)).2;have n:=YV (h.nn N) (h.nn N);simp only[] at a;grind
theorem RtOf.bd {y:Rat} {r:Nat->Rat} (h:RtOf y r):∃ N:Nat,∀ M,N<=M->r M<=y+2:=by
 have y0:=h.y0;have q:=YV y0 y0;obtain⟨N,k⟩:=h.le (x:=y+1) (by grind) (by grind) 1 (by grind)
 exact⟨N,λ M hM=>by have:=k M hM;simp only[] at this;grind⟩
theorem sq_step {r y u:Rat} (hr:0<=r) (h1:r*r<=y) (hu:0<=u) (u1:u<=1):(r+u)*(r+u)-r*r<=(2*y+3)*u:=by
 have y0:=YV hr hr;have r1:r<=y+1:=zL9 hr (by have:=YV (show 0<=y by grind) (show 0<=y by grind);grind) (by grind)
 have m1:=YX r1 hu;have m2:=YX u1 hu;grind
theorem nat_over {a C:Rat} {n K:Nat} (h:4*C<=(K:Rat)) (C0:0<=C):1/(((n+K:Nat):Rat)+1)<=1/((n:Rat)+1)/\C*(1/(((n+K:Nat):Rat)+1))<=1/4/\0<=1/(((n+K:Nat):Rat)+1)/\1/(((n+K:Nat):Rat)+1)<=1:=by
 have p1:(0:Rat)<((n+K:Nat):Rat)+1:=zBN (n+K);have p2:(0:Rat)<(n:Rat)+1:=zBN n;have e:((n+K:Nat):Rat)=(n:Rat)+(K:Rat):=by push_cast;rfl
 have n0:(0:Rat)<=(n:Rat):=by exact_mod_cast Nat.zero_le n
 have K0:(0:Rat)<=(K:Rat):=by exact_mod_cast Nat.zero_le K
 have a:=rdm (a:=1) p1;have b:=rdm (a:=1) p2;obtain⟨u,hu⟩:∃ u,u=1/(((n+K:Nat):Rat)+1):=⟨_,rfl⟩;have u0:0<=u:=by rw[hu];exact kG p1 (by grind)
 rw[<- hu] at a ⊢;rw[e] at a;have nu:=YV u0 n0;have Ku:=YV u0 K0;refine⟨kG p2 (by grind),?_,u0,by grind⟩
 have:=YT h u0;grind
theorem erfG_le {P R:Nat->Rat} (h:zBJ P R) {y:Rat} {r:Nat->Rat} (hr:RtOf y r) {x:Rat} (hx:0<=x) (P7:y<=x*x):LeN (zOV R y r) (erfS R x):=by
 have y0:=hr.y0;obtain⟨N0,BK⟩:=hr.bd;obtain⟨K,K0,hK⟩:=gS_bdd (y:=y+1) (by grind)
 obtain⟨k,hk⟩:=kQ (4*(2*y+3));have FK:=YV (show 0<=y+2 by grind) K0
 refine LeN.lim (C:=2*(2*((y+2)*K)*(2*y+3))) (by have:=YV FK (show 0<=2*y+3 by grind);grind) λ n=>?_
 obtain⟨w1,w2,w3,w4⟩:=nat_over (a:=0) (n:=n) hk.2 (show 0<=2*y+3 by grind)
 obtain⟨s,s0,s1,s2⟩:=root0 y y0 (n+k);obtain⟨u,hu⟩:∃ u,u=1/(((n+k:Nat):Rat)+1):=⟨_,rfl⟩;rw[<- hu] at w1 w2 w3 w4 s2;have st:=sq_step s0 s1 w3 w4
 obtain⟨x',gD,fR,QC,x0⟩:∃ x',x'<=x/\x'<=s+u/\y<=x'*x'/\0<=x':=by
  by_cases c:x<=s+u
  ·exact⟨x,Rat.le_refl,c,P7,hx⟩
  ·exact⟨s+u,by grind,Rat.le_refl,s2,by grind⟩
 have ss:x'*x'<=(s+u)*(s+u):=Rat.le_trans (YT fR x0) (YX fR (by grind))
 have d:x'*x'-y<=(2*y+3)*u:=by grind
 have x2:x'<=y+2:=by
  have:=zL9 (a:=x') (b:=y+1) x0 (by have:=YV y0 y0;grind) (by grind)
  grind
 have K':∀ M,gS (x'*x') M<=K:=λ M=>Rat.le_trans (zH6 (by grind) (by grind) M) (hK M)
 have c:=cmpG (f:=r) (f':=λ _=>x') (F:=y+2) (N0:=N0) y0 QC (by grind) hr.nn (λ _=>x0) BK (λ _ _=>x2) (hr.le x0 QC) K'
 have c2:=cmpE h y0 (by grind) (YV (by grind) (by grind)) c
 rw[zOW] at c2;refine c2.trans (LeN.trans (LeN.of_le 0 λ M _=>?_) ((erf_mono h x0 gD).add (LeN.refl (λ _=>2*(2*((y+2)*K)*(2*y+3))*(1/((n:Rat)+1))))))
 have m1:=YT (Rat.le_trans d (YT w1 (show 0<=2*y+3 by grind))) (show 0<=2*((y+2)*K) by grind)
 grind
theorem erfG_one {R:Nat->Rat} (h:zBJ piS R) {y:Rat} {r:Nat->Rat} (hr:RtOf y r):LeN (zOV R y r) (λ _=>1):=by
 have y0:=hr.y0;have q:=YV y0 y0;exact (erfG_le h hr (x:=y+1) (by grind) (by grind)).trans (erf_one h (by grind))
end Go.Proofs.YtgmnknmjainabacGreat.Ex
namespace Go.Proofs.YtgmnknmjainabacGreat
open Ex
structure ErIn (n d:Int) (x:Nat->Rat):Prop where
 n0:0<=n
 d0:0<d
 rt:RtOf ((n:Rat)/(d:Rat)) x
 up:n<152*d
 low:n=0\/d<=Q 76*n
def erF (n d:Int) (B:Nat):Int × Int:=yF B (ofI n d B)
theorem root_rtS {B:Nat} {a:Int × Int} {y:Rat} {x:Nat->Rat} (hx:RtOf y x) (h:Iv B a (λ _=>y)) {r t:Int} (iQ:0<=r) (hr:r*r<=a.1*Q B) (JG:0<=t) (ht:a.2*Q B<=t*t):Iv B (r,t) x:=by
 have q:=jM B;obtain⟨h1,h2⟩:=Has.of_const h;have qq:(0:Rat)<(Q B:Rat)*(Q B:Rat):=Rat.mul_pos q q
 have pos:∀ y:Int,0<=y->(0:Rat)<=(y:Rat)/(Q B:Rat):=λ y hy=>kG q (by
  have:(0:Rat)<=(y:Rat):=by exact_mod_cast hy
  grind)
 have mid:∀ y:Int,(y:Rat)/(Q B:Rat)*((Q B:Rat)*(Q B:Rat))=(y:Rat)*(Q B:Rat):=λ y=>by
  rw[<- Rat.mul_assoc,rdm (a:=(y:Rat)) q]
 have l1:((r:Rat)/(Q B:Rat))*((r:Rat)/(Q B:Rat))<=y:=by
  refine Rat.le_trans (Rat.le_of_mul_le_mul_right (c:=(Q B:Rat)*(Q B:Rat)) ?_ qq) h1;rw[zTJ,mid];have:=jF hr;rw[Ze,Ze] at this;exact this
 have l2:y<=((t:Rat)/(Q B:Rat))*((t:Rat)/(Q B:Rat)):=by
  refine Rat.le_trans h2 (Rat.le_of_mul_le_mul_right (c:=(Q B:Rat)*(Q B:Rat)) ?_ qq);rw[zTJ,mid];have:=jF ht;rw[Ze,Ze] at this;exact this
 intro e he
 obtain⟨N1,k1⟩:=hx.ge (pos r iQ) l1 e he;obtain⟨N2,k2⟩:=hx.le (pos t JG) l2 e he;exact⟨N1+N2,λ M hM=>⟨by have:=k1 M (by omega);simp only[] at this ⊢;grind,k2 M (by omega)⟩⟩
theorem ErIn.of_lo {n d:Int} {x:Nat->Rat} (h:ErIn n d x) (B:Nat):0<=(ofI n d B).1:=by
 have:=zE B;exact Int.ediv_nonneg (Zc h.n0 (by omega)) (by have:=h.d0;omega)
theorem rtZ_zero:rtZ 0=0:=rfl
theorem rtU_zero:rtU 0=0:=rfl
theorem zM5 {n d:Int} {x:Nat->Rat} (h:ErIn n d x) (B:Nat):0<=(erF n d B).1/\(erF n d B).1<=(erF n d B).2/\(erF n d B).2<=Q (B+4)/\(erF n d B).2-(erF n d B).1+1<=Q 42/\Iv B (erF n d B) x:=by
 have q:=zE B;have a0:=h.of_lo B;have al:=kO (n:=n) h.d0 B;obtain⟨r0,r1,r2,r3⟩:=zDC (B:=B) a0 al
 have up:(ofI n d B).2<=152*Q B:=by
  have m:=YW (show n<=152*d by have:=h.up;omega) (show 0<=Q B by omega)
  have : -(152*Q B) <= -(n*Q B)/d:=Int.le_ediv_of_mul_le h.d0 (by
   have e : -(152*Q B)*d = -(152*d*Q B):=by grind
   omega)
  show -(-(n*Q B)/d)<=_
  omega
 have hi:=zN6 (B:=B) (a:=ofI n d B) (c:=13) (by omega) (by omega) (by omega)
 refine⟨r0,r1,?_,?_,root_rtS h.rt (Iv.of B (n:=n) h.d0) r0 r2 (by have:=r0;show 0<=(yF B (ofI n d B)).2;omega) r3⟩
 ·have e:Q (B+4)=16*Q B:=by rw[jD];have:Q 4=16:=rfl;rw[this];omega
  show (yF B (ofI n d B)).2<=_
  omega
 ·have q38:0<Q 38:=zE 38
  have RW:Q 42=16*Q 38:=by rw[show 42=4+38 by rfl,jD];rfl
  have q76:Q 76=Q 38*Q 38:=by rw[<- jD]
  rcases h.low with hz|hz
  ·have e:ofI n d B=(0,0):=by unfold ofI;rw[hz];simp
   show (yF B (ofI n d B)).2-(yF B (ofI n d B)).1+1<=_
   rw[e];unfold yF;simp only[Int.zero_mul,rtZ_zero,rtU_zero];rw[RW];omega
  ·have c1:n*Q B<=(ofI n d B).2*d:=by
    have:=zEY (n*Q B) h.d0;exact this
   have c2:Q B<=Q 76*(ofI n d B).2:=by
    refine Int.le_of_mul_le_mul_right (a:=d) ?_ h.d0;have m1:=YW hz (show 0<=Q B by omega)
    have m2:=Za c1 (show 0<=Q 76 by have:=zE 76;omega)
    have e1:Q B*d=d*Q B:=Int.mul_comm _ _;have e2:Q 76*(ofI n d B).2*d=Q 76*((ofI n d B).2*d):=Int.mul_assoc _ _ _;have e3:Q 76*n*Q B=Q 76*(n*Q B):=Int.mul_assoc _ _ _;rw[e1,e2];rw[e3] at m1;exact Int.le_trans m1 m2
   have c3:Q B<=Q 38*(yF B (ofI n d B)).2:=sqI_le (by omega) (Zc (by omega) (by show 0<=(yF B (ofI n d B)).2;omega)) (by
    have m1:=YW c2 (show 0<=Q B by omega)
    have m2:=Za r3 (show 0<=Q 76 by have:=zE 76;omega)
    have e1:Q 38*(yF B (ofI n d B)).2*(Q 38*(yF B (ofI n d B)).2)=Q 76*((yF B (ofI n d B)).2*(yF B (ofI n d B)).2):=by rw[q76];grind
    have e2:Q 76*(ofI n d B).2*Q B=Q 76*((ofI n d B).2*Q B):=Int.mul_assoc _ _ _;rw[e1];rw[e2] at m1
    exact Int.le_trans m1 m2)
   have:=zHK (B:=B) (W:=1) (g:=Q 38) a0 al (kU h.d0 B) (by omega) c3
   show (yF B (ofI n d B)).2-(yF B (ofI n d B)).1+1<=_
   have q3:4<=Q 38:=by have:=zH (show 2<=38 by omega);have:Q 2=4:=rfl;omega
   rw[RW];omega
def erT (n d:Int) (B:Nat):Nat->Int × Int:=riT (erF n d B) (erU n) (erD d)
theorem sum_hi {f:Nat->Int × Int} {U:Int} (h:∀ n,(f n).2<=U) (n:Nat):(jE f n).2<=((n:Int)+1)*U:=by
 induction n with
 | zero=>have:=h 0;show (f 0).2<=_;omega
 | succ n ih =>
  have:=h (n+1)
  show (jE f n).2+(f (n+1)).2<=_
  have e:(((n+1:Nat):Int)+1)*U=((n:Int)+1)*U+U:=by push_cast;grind
  omega
theorem sum_lo {f:Nat->Int × Int} (h:∀ n,0<=(f n).1) (n:Nat):0<=(jE f n).1:=by
 induction n with
 | zero=>exact h 0
 | succ n ih=>have:=h (n+1);show 0<=(jE f n).1+(f (n+1)).1;omega
theorem erT_set {n d:Int} {x:Nat->Rat} (h:ErIn n d x) (B:Nat):∃ N,N<=3*B+8523/\yK (erT n d B) (zA8 n d) N:=by
 obtain⟨f1,f2,f3,f4,f5⟩:=zM5 h B;have hh:=er_hi (B:=B) h.n0 h.d0 h.up f1 f2 f3 (zA8 n d);have ht:=zH2 h.n0 h.d0 h.up;obtain⟨N,n1,n2⟩:=zL6 (turn:=zA8 n d) (H:=B+2740) (zOU h.n0 h.d0) f1 f2 (λ k hk=>er_34 h.n0 h.d0 k hk) (by omega)
 have e:3*(B+2740)=3*B+8220:=Nat.mul_add 3 B 2740;rw[e] at n1;refine⟨N,Nat.le_trans n1 (Nat.le_trans (Nat.add_le_add_right ht _) (Nat.le_of_eq ?_)),n2⟩;rw[Nat.add_comm 303,Nat.add_assoc]
theorem zCL {n d:Int} {x:Nat->Rat} (h:ErIn n d x) (B k:Nat):0<=(erT n d B k).1/\(erT n d B k).1<=(erT n d B k).2/\(erT n d B k).2<=Q (B+2740)/\(erT n d B k).2-(erT n d B k).1<=Q 2780:=by
 obtain⟨f1,f2,f3,f4,f5⟩:=zM5 h B;exact⟨zAT (zOU h.n0 h.d0) f1 k,zEM (zOU h.n0 h.d0) f2 k,er_hi h.n0 h.d0 h.up f1 f2 f3 k,er_wide h.n0 h.d0 h.up f2 f4 k⟩
theorem Q_s (k:Nat):Q (k+1)=2*Q k:=rfl
theorem zSO {N:Nat} (hN:N<=50000) (U:Nat) (hU:4<=U):((N:Int)+1)*Q U+9<=Q (U+20):=by
 have q:=zE U;have q4:=zH hU;have e4:Q 4=16:=rfl;have e:Q (U+20)=1048576*Q U:=by rw[jD];have:Q 20=1048576:=rfl;rw[this];omega
 have m:=YW (show (N:Int)+1<=50001 by omega) (show 0<=Q U by omega)
 omega
theorem zQ9 {n d:Int} {x:Nat->Rat} (h:ErIn n d x) (B:Nat) (hB:B<=10000) (k:Nat) (hk:k<=50000):0<=(jE (erT n d B) k).1/\(jE (erT n d B) k).1<=(jE (erT n d B) k).2/\(jE (erT n d B) k).2+9<=Q (B+2760)/\(jE (erT n d B) k).2-(jE (erT n d B) k).1+9<=Q 2800:=by
 have h1:=sum_lo (f:=erT n d B) (λ j=>(zCL h B j).1) k
 have h2:=zGK (f:=erT n d B) (λ j=>(zCL h B j).2.1) k
 have h3:=sum_hi (f:=erT n d B) (λ j=>(zCL h B j).2.2.1) k
 have h4:=zOD (f:=erT n d B) (λ j=>(zCL h B j).2.2.2) k
 have m1:=zSO hk (B+2740) (by omega)
 have m2:=zSO hk 2780 (by omega)
 rw[show B+2740+20=B+2760 by omega] at m1
 rw[show 2780+20=2800 by rfl] at m2
 exact⟨h1,h2,by omega,by omega⟩
theorem er_valG {n d:Int} {x:Nat->Rat} (hd:0<d) (k M:Nat):riV x (erU n) (erD d) k M=x M*gT ((n:Rat)/(d:Rat)) k:=by
 induction k with
 | zero=>show x M=x M*1;grind
 | succ k ih =>
  show ((erU n (k+1):Int):Rat)/((erD d (k+1):Int):Rat)*riV x (erU n) (erD d) k M=x M*(2*((n:Rat)/(d:Rat))/(2*((k:Rat)+1)+1)*gT ((n:Rat)/(d:Rat)) k)
  rw[ih];have d0:(0:Rat)<(d:Rat):=by exact_mod_cast hd
  have p:=zC7 k;have e1:((erU n (k+1):Int):Rat)=2*(n:Rat):=by unfold erU;rw[Ze];rfl
  have e2:((erD d (k+1):Int):Rat)=(d:Rat)*(2*((k:Rat)+1)+1):=by
   unfold erD;rw[Ze]
   congr 1
   rw[Rat.intCast_add,Ze]
   push_cast
   rfl
  have q:(0:Rat)<(d:Rat)*(2*((k:Rat)+1)+1):=Rat.mul_pos d0 p;have r0:=rdm (a:=(n:Rat)) d0;have r1:=rdm (a:=2*(n:Rat)) q;have r2:=rdm (a:=2*((n:Rat)/(d:Rat))) p
  have e3:2*(n:Rat)/((d:Rat)*(2*((k:Rat)+1)+1))=2*((n:Rat)/(d:Rat))/(2*((k:Rat)+1)+1):=by
   have lhs:2*((n:Rat)/(d:Rat))/(2*((k:Rat)+1)+1)*((d:Rat)*(2*((k:Rat)+1)+1))=2*(n:Rat):=by
    have:2*((n:Rat)/(d:Rat))/(2*((k:Rat)+1)+1)*((d:Rat)*(2*((k:Rat)+1)+1))=(2*((n:Rat)/(d:Rat))/(2*((k:Rat)+1)+1)*(2*((k:Rat)+1)+1))*(d:Rat):=by grind
    rw[this,r2,Rat.mul_assoc,r0]
   exact Rat.le_antisymm (Rat.le_of_mul_le_mul_right (by rw[lhs,r1];exact Rat.le_refl) q) (Rat.le_of_mul_le_mul_right (by rw[lhs,r1];exact Rat.le_refl) q)
  rw[e1,e2,e3];generalize 2*((n:Rat)/(d:Rat))/(2*((k:Rat)+1)+1)=c;grind
theorem er_hasG {B N:Nat} {a:Int × Int} {n d:Int} {x:Nat->Rat} (hn:0<=n) (hd:0<d) (hx:RtOf ((n:Rat)/(d:Rat)) x) (ha:Iv B a x) (hN:yK (riT a (erU n) (erD d)) (zA8 n d) N):Iv B (yC (riT a (erU n) (erD d)) N) (λ M=>x M*gS ((n:Rat)/(d:Rat)) M):=by
 have h:=zCC (zOU hn hd) ha 0 (λ M _=>hx.nn M) (λ k hk=>er_34 hn hd k hk) hN
 refine Has.of_eq h λ M=>?_
 have:∀ j,S (λ k=>riV x (erU n) (erD d) k M) j=x M*S (gT ((n:Rat)/(d:Rat))) j:=λ j=>by
  induction j with
  | zero=>show (0:Rat)=x M*0;grind
  | succ j ih =>
   show S (λ k=>riV x (erU n) (erD d) k M) j+riV x (erU n) (erD d) j M=x M*(S (gT ((n:Rat)/(d:Rat))) j+gT ((n:Rat)/(d:Rat)) j)
   rw[ih,er_valG hd];grind
 exact (this M).symm
def zA7 (n d:Int) (B N:Nat):Int × Int:=yC (erT n d B) N
theorem zM6 {n d:Int} {x:Nat->Rat} (h:ErIn n d x) {B N:Nat} (hB:B<=10000) (hN:N<=3*B+8523) (hR:yK (erT n d B) (zA8 n d) N):0<=(zA7 n d B N).1/\(zA7 n d B N).1<=(zA7 n d B N).2/\(zA7 n d B N).2<=Q (B+2760)/\(zA7 n d B N).2-(zA7 n d B N).1<=Q 2800/\Iv B (zA7 n d B N) (λ M=>x M*gS ((n:Rat)/(d:Rat)) M):=by
 have Xh:N<=50000:=by omega
 obtain⟨s1,s2,s3,s4⟩:=zQ9 h B hB N Xh;obtain⟨f1,f2,f3,f4,f5⟩:=zM5 h B;have e1:(zA7 n d B N).1=(jE (erT n d B) N).1:=by show (jE (erT n d B) N).1+0=_;omega
 have e2:(zA7 n d B N).2=(jE (erT n d B) N).2+9:=rfl;refine⟨by omega,by omega,by omega,by omega,er_hasG h.n0 h.d0 h.rt f5 hR⟩
def erX (n d:Int) (B t N:Nat):Int × Int:=sqI B (zM (zV B (zF (ofI n d B) t)) N) t
theorem erX_set {n d:Int} {x:Nat->Rat} (h:ErIn n d x) {B:Nat} (hB:40<=B):∃ (l:Int) (t N:Nat),yR (zW (ofI n d B)) l/\(t:Int)=max 0 (l-B+8)/\t<=16/\Abs (zF (ofI n d B) t) (Q (B-8))/\zU (zV B (zF (ofI n d B) t)) N:=by
 have:=h.n0;have:=h.d0;have:=h.up;obtain⟨l,t,N,e1,e2,e3,e4,e5⟩:=zC3 (B:=B) (e:=8) (by omega) (kO h.d0 B) (zFM (p:=n) (q:=d) (n:=152) (b:=B) (e:=8) h.d0 (by omega) (by omega) (by decide))
 exact⟨l,t,N,e1,e2,by omega,e4,e5⟩
theorem erX_ok {n d:Int} {x:Nat->Rat} (h:ErIn n d x) {B t N:Nat} (hB:40<=B) (o9:B<=10000) (ht:t<=16) (hA:Abs (zF (ofI n d B) t) (Q (B-8))) (hN:zU (zV B (zF (ofI n d B) t)) N) :
  Q B+1<=2*(erX n d B t N).1/\(erX n d B t N).1<=(erX n d B t N).2/\Abs (erX n d B t N) (Q (B+1536))/\(erX n d B t N).2-(erX n d B t N).1<=Q 1700/\Iv B (erX n d B t N) (ex ((n:Rat)/(d:Rat))):=by
 have q:=zE t;have al:=kO (n:=n) h.d0 B;obtain⟨g1,g2,g3,g4⟩:=zBL (ws:=1) (by omega) hA al (by have:=kU (n:=n) h.d0 B;omega) hN
 have qW:=zH (zMH (show t<=17 by omega))
 rw[wb_17] at qW;have yw:=zH (show B+eb t<=B+1536 by have:=zAP (show t<=17 by omega);rw[DQ] at this;omega)
 have Yi:=Iv.of B (n:=n) h.d0;refine⟨zLS (h.of_lo B) al (by omega) hB hN,g1,g2.mono yw,?_,zDZ (by omega) Yi hA⟩
 have m:=Int.mul_le_mul (show ((N:Int)+1)*(2*1+6)+3<=1048576 by omega) qW (by have:=zE (wb t);omega) (by omega)
 have e:Q 1700=4*(1048576*Q 1678):=by
  rw[show 1700=1678+22 by rfl,jD];have:Q 22=4194304:=rfl;rw[this];omega
 have q2:=zE 1678
 show (sqI B (zM (zV B (zF (ofI n d B) t)) N) t).2-(sqI B (zM (zV B (zF (ofI n d B) t)) N) t).1<=_
 omega
def erP (B N5 N9:Nat):Int × Int:=yF B (piI B N5 N9)
theorem erP_ok {B N5 N9:Nat} {R:Nat->Rat} (hR:zBJ piS R) (hB:32<=B) (o9:B<=10000) (h5:zU (agT 5 B) N5) (h9:zU (agT 239 B) N9) :
  Q B<=(erP B N5 N9).1/\(erP B N5 N9).1<=(erP B N5 N9).2/\(erP B N5 N9).2<=8*Q B+1/\(erP B N5 N9).2-(erP B N5 N9).1<=1048576/\Iv B (erP B N5 N9) R:=by
 obtain⟨p1,p2,p3,p4⟩:=pi_bound hB h5 h9;have q:=zE B;obtain⟨r0,r1,r2,r3⟩:=zDC (B:=B) (a:=piI B N5 N9) (by omega) p1
 have lo:Q B<=(yF B (piI B N5 N9)).1:=by
  have m:=YW p2 (show 0<=Q B by omega)
  have z:=(zEO (show 0<=(piI B N5 N9).1*Q B by have:=Zc (show 0<=Q B by omega) (show 0<=Q B by omega);omega)).2
  have n0:=zAU ((piI B N5 N9).1*Q B)
  show Q B<=rtZ ((piI B N5 N9).1*Q B)
  refine Int.not_lt.1 λ E2=>?_
  have m2:=Int.mul_le_mul (show rtZ ((piI B N5 N9).1*Q B)+1<=Q B by omega) (show rtZ ((piI B N5 N9).1*Q B)+1<=Q B by omega) (by omega) (by omega)
  omega
 have hi:=zN6 (B:=B) (a:=piI B N5 N9) (c:=8) (by omega) (by omega) (by omega)
 have w:=zHK (B:=B) (a:=piI B N5 N9) (W:=20*(B:Int)+120) (g:=1) (by omega) p1 p4 (by omega) (by omega)
 refine⟨lo,r1,hi,?_,root_iv (r:=(yF B (piI B N5 N9)).1) (t:=(yF B (piI B N5 N9)).2) (pi_has B N5 N9) hR r2 (by omega) r3⟩
 show (yF B (piI B N5 N9)).2-(yF B (piI B N5 N9)).1<=_
 omega
def zFI (n d:Int) (B t N N5 N9:Nat):Int × Int:=zAL B (erP B N5 N9) (erX n d B t N)
theorem zQ8 {n d:Int} {x:Nat->Rat} {R:Nat->Rat} (hR:zBJ piS R) (h:ErIn n d x) {B t N N5 N9:Nat} (hB:40<=B) (o9:B<=10000) (ht:t<=16) (hA:Abs (zF (ofI n d B) t) (Q (B-8))) (hN:zU (zV B (zF (ofI n d B) t)) N) (h5:zU (agT 5 B) N5) (h9:zU (agT 239 B) N9) :
  Q B+1<=2*(zFI n d B t N N5 N9).1/\(zFI n d B t N N5 N9).1<=(zFI n d B t N N5 N9).2/\(zFI n d B t N N5 N9).2<=Q (B+1540)/\(zFI n d B t N N5 N9).2-(zFI n d B t N N5 N9).1<=Q 1710/\Iv B (zFI n d B t N N5 N9) (λ M=>R M*ex ((n:Rat)/(d:Rat)) M):=by
 obtain⟨x1,x2,x3,x4,x5⟩:=erX_ok h hB o9 ht hA hN;obtain⟨p1,p2,p3,p4,p5⟩:=erP_ok hR (by omega) o9 h5 h9
 have q:=zE B;have PA:Abs (erP B N5 N9) (16*Q B):=⟨by omega,by omega,by omega,by omega⟩
 have Hb:Q (B+1540)*Q B=16*Q B*Q (B+1536):=by
  rw[show B+1540=(B+1536)+4 by omega,jD (B+1536) 4]
  have:Q 4=16:=rfl;rw[this];grind
 have ab:=zCQ (B:=B) (p:=Q (B+1540)) PA x3 (by omega)
 refine⟨?_,zB2 B,ab.2.2.2,?_,p5.mul x5⟩
 ·obtain⟨_,_,_,_,hh⟩:=zEA ((erP B N5 N9).1*(erX n d B t N).1) ((erP B N5 N9).1*(erX n d B t N).2) ((erP B N5 N9).2*(erX n d B t N).1) ((erP B N5 N9).2*(erX n d B t N).2)
  have y0:0<=(erX n d B t N).1:=by omega
  have m0:=YW p1 y0;have m1:=Za x2 (show 0<=(erP B N5 N9).1 by omega)
  have m2:=YW p2 y0;have m3:=Za x2 (show 0<=(erP B N5 N9).2 by omega)
  have k:(erX n d B t N).1<=(zFI n d B t N N5 N9).1:=by
   refine Int.le_ediv_of_mul_le (by omega) ?_
   rw[Int.mul_comm];omega
  omega
 ·have w:=zA3 (B:=B) (c:=16*Q 1700+Q 1536*1048576) PA x3 p2 x2 (by
   have m1:=Za x4 (show 0<=16*Q B by omega)
   have m2:=Za p4 (show 0<=Q (B+1536) by have:=zE (B+1536);omega)
   have e:Q (B+1536)=Q B*Q 1536:=jD B 1536;have e2:(16*Q 1700+Q 1536*1048576)*Q B=16*Q B*Q 1700+Q B*Q 1536*1048576:=by grind
   rw[e] at m2 ⊢
   omega)
  have e1:Q 1710=1024*Q 1700:=by rw[show 1710=1700+10 by rfl,jD];have:Q 10=1024:=rfl;rw[this];omega
  have e3:Q 1556=Q 1536*1048576:=by rw[show 1556=1536+20 by rfl,jD];rfl
  have e4:=zH (show 1556<=1700 by omega)
  have q2:=zE 1700
  show (zAL B (erP B N5 N9) (erX n d B t N)).2-(zAL B (erP B N5 N9) (erX n d B t N)).1<=_
  omega
theorem dv_wide2 {s1 s2 t1 t2 q V W C:Int} (hq:0<q) (h0:0<=s1) (hV:0<=V) (h1:s2-s1<=V) (hC:1<=C) (h2:s1<=C*t2) (h3:t1<=t2) (h4:t2-t1<=W) (h5:q+1<=2*t1) : -(-(s2*q)/t1)-s1*q/t2<=2*V+2*(C*W)+4:=by
 obtain⟨hi,ehi⟩:∃ hi,hi = -(-(s2*q)/t1):=⟨_,rfl⟩;obtain⟨lo,elo⟩:∃ lo,lo=s1*q/t2:=⟨_,rfl⟩;rw[<- ehi,<- elo];have t0:0<t1:=by omega
 have c1:(hi-1)*t1<s2*q:=by
  have:=Int.lt_ediv_add_one_mul_self (-(s2*q)) t0;have e:(hi-1)*t1 = -((-(s2*q)/t1+1)*t1):=by rw[ehi];grind
  omega
 have c2:s1*q<(lo+1)*t2:=by rw[elo];exact Int.lt_ediv_add_one_mul_self _ (by omega)
 have c3:lo<=C*q:=by
  rw[elo];refine Int.ediv_le_of_le_mul (by omega) ?_
  have:=YW h2 (show 0<=q by omega)
  have e:C*t2*q=C*q*t2:=by grind
  omega
 have c4:0<=lo:=by rw[elo];exact Int.ediv_nonneg (Zc h0 (by omega)) (by omega)
 refine Int.not_lt.1 λ hn=>?_
 have W0:0<=W:=by omega
 have CW:W<=C*W:=by have:=YW hC W0;omega
 obtain⟨X,hX⟩:∃ X,X=C*W:=⟨_,rfl⟩;rw[<- hX] at hn CW;have d1:=YW (show (lo+1)+(2*V+2*X+3)<=hi-1 by omega) (show 0<=t1 by omega)
 have d2:=Za h4 (show 0<=lo+1 by omega)
 have d3:=YW (show lo+1<=C*q+1 by omega) W0
 have d4:=YW h1 (show 0<=q by omega)
 have d5:=Za h5 (show 0<=V+X by omega)
 have e1:(lo+1+(2*V+2*X+3))*t1=(lo+1)*t2-(lo+1)*(t2-t1)+(V+X)*(2*t1)+3*t1:=by grind
 have e2:(s2-s1)*q=s2*q-s1*q:=by grind
 have e3:(C*q+1)*W=X*q+W:=by rw[hX];grind
 have e4:(V+X)*(q+1)=V*q+X*q+V+X:=by grind
 omega
theorem w_fin {x v y z:Int} (h:x<=2*(2*v)+2*y+4) (hv:v<=y) (hy:0<y) (hz:z=134217728*y):x<=z:=by omega
def zK6 (B:Nat) (a:Int × Int):Int × Int:=(a.1,if a.2<=Q B then a.2 else Q B)
def erQ (n d:Int) (B M t N N5 N9:Nat):Int × Int:=(zDN ((zA7 n d B M).1*2) ((zA7 n d B M).2*2) (zFI n d B t N N5 N9).1 (zFI n d B t N N5 N9).2 B,zEX ((zA7 n d B M).1*2) ((zA7 n d B M).2*2) (zFI n d B t N N5 N9).1 (zFI n d B t N N5 N9).2 B)
theorem zQX {B:Nat} {a:Int × Int} {w:Int} (h:a.2-a.1<=w) (h2:a.1<=Q B):(zK6 B a).2-(zK6 B a).1<=w:=by
 unfold zK6;simp only[];split<;>omega
theorem Iv.capN {B:Nat} {a:Int × Int} {x:Nat->Rat} (h:Iv B a x) (hx:LeN x (λ _=>1)):Iv B (zK6 B a) x:=by
 unfold zK6;split
 ·exact h
 ·intro e he
  obtain⟨N,hN⟩:=h e he;obtain⟨N0,BK⟩:=hx e he;refine⟨N+N0,λ M hM=>?_⟩
  have g:=(hN M (by omega)).1
  have g2:=BK M (by omega)
  have q:=jM B;have e1:(Q B:Rat)/(Q B:Rat)=1:=by rw[Rat.div_def,Rat.mul_inv_cancel _ (by grind)]
  simp only[];rw[e1];constructor<;>grind
theorem Iv.lo_one {B:Nat} {a:Int × Int} {x:Nat->Rat} (h:Iv B a x) (hx:LeN x (λ _=>1)):a.1<=Q B:=by
 refine Int.not_lt.1 λ E2=>?_
 have q:=jM B;have h1:((Q B+1:Int):Rat)<=(a.1:Rat):=jF (by omega)
 have h2:1+1/(Q B:Rat)<=(a.1:Rat)/(Q B:Rat):=by
  refine kG q ?_;have e:(1+1/(Q B:Rat))*(Q B:Rat)=(Q B:Rat)+1/(Q B:Rat)*(Q B:Rat):=by grind
  rw[e,rdm q];rw[Rat.intCast_add] at h1;exact h1
 have u0:(0:Rat)<1/(Q B:Rat):=zK (by grind) q
 obtain⟨N1,k1⟩:=h (1/(Q B:Rat)/4) (by grind)
 obtain⟨N2,k2⟩:=hx (1/(Q B:Rat)/4) (by grind)
 have a1:=(k1 (N1+N2) (by omega)).1
 have a2:=k2 (N1+N2) (by omega)
 grind
theorem erf_ok {n d:Int} {x:Nat->Rat} {R:Nat->Rat} (hR:zBJ piS R) (h:ErIn n d x) {B M t N N5 N9:Nat} (hB:40<=B) (o9:B<=10000) (hM:M<=3*B+8523) (pJ:yK (erT n d B) (zA8 n d) M) (ht:t<=16) (hA:Abs (zF (ofI n d B) t) (Q (B-8))) (hN:zU (zV B (zF (ofI n d B) t)) N) (h5:zU (agT 5 B) N5) (h9:zU (agT 239 B) N9) :
  Iv B (zK6 B (erQ n d B M t N N5 N9)) (zOV R ((n:Rat)/(d:Rat)) x)/\0<=(zK6 B (erQ n d B M t N N5 N9)).1/\(zK6 B (erQ n d B M t N N5 N9)).1<=(zK6 B (erQ n d B M t N N5 N9)).2/\(zK6 B (erQ n d B M t N N5 N9)).2<=Q B/\(zK6 B (erQ n d B M t N N5 N9)).2-(zK6 B (erQ n d B M t N N5 N9)).1<=Q 4500:=by
 obtain⟨s1,s2,s3,s4,s5⟩:=zM6 h o9 hM pJ;obtain⟨d1,d2,d3,d4,d5⟩:=zQ8 hR h hB o9 ht hA hN h5 h9;have q:=zE B;have one:=erfG_one hR h.rt
 have iv:Iv B (erQ n d B M t N N5 N9) (zOV R ((n:Rat)/(d:Rat)) x):=by
  have:=Iv.dv (s:=kI (zA7 n d B M) 2) (s5.times 2) d5 (show 0<=(zA7 n d B M).1*2 by omega) (by omega)
  exact this
 obtain⟨e1,e2⟩:=zJT (b:=B) (lo:=(zA7 n d B M).1*2) (hi:=(zA7 n d B M).2*2) (lo':=(zFI n d B t N N5 N9).1) (hi':=(zFI n d B t N N5 N9).2) (by omega) (by omega) (by omega) d2
 have lo1:=iv.lo_one one;have Pe:(erQ n d B M t N N5 N9).1=(zA7 n d B M).1*2*Q B/(zFI n d B t N N5 N9).2:=e1;have WG:(erQ n d B M t N N5 N9).2 = -(-((zA7 n d B M).2*2*Q B)/(zFI n d B t N N5 N9).1):=e2
 have l0:0<=(erQ n d B M t N N5 N9).1:=by
  rw[Pe];exact Int.ediv_nonneg (Zc (by omega) (by omega)) (by omega)
 have le:=iv.le
 have w:(erQ n d B M t N N5 N9).2-(erQ n d B M t N N5 N9).1<=Q 4500:=by
  rw[Pe,WG];have C0:=zE 2763
  have:=dv_wide2 (s1:=(zA7 n d B M).1*2) (s2:=(zA7 n d B M).2*2) (t1:=(zFI n d B t N N5 N9).1) (t2:=(zFI n d B t N N5 N9).2) (q:=Q B) (V:=2*Q 2800) (W:=Q 1710) (C:=Q 2763) (by omega) (by omega) (by have:=zE 2800;omega) (by omega) (by omega) (by
   have m:=Za (show Q B<=2*(zFI n d B t N N5 N9).2 by omega) (show 0<=Q 2761 by have:=zE 2761;omega)
   have e:Q (B+2760)=Q B*Q 2760:=jD B 2760;have e6:Q 2761=2*Q 2760:=Q_s 2760;have e7:Q 2763=2*(2*Q 2761):=by rw[<- Q_s 2761];exact Q_s 2762
   have e8:Q 2761*Q B=2*(Q B*Q 2760):=by rw[e6];grind
   have e9:Q 2763*(zFI n d B t N N5 N9).2=2*(Q 2761*(2*(zFI n d B t N N5 N9).2)):=by rw[e7];grind
   have q9:=Zc (show 0<=Q B by omega) (show 0<=Q 2760 by have:=zE 2760;omega)
   omega) d2 d4 d1
  have e3:Q 4473=Q 2763*Q 1710:=by rw[<- jD]
  have e4:=zH (show 2800<=4473 by omega)
  have e5:Q 4500=134217728*Q 4473:=by
   rw[show 4500=27+4473 by rfl,jD]
   rfl
  rw[e3] at e4 e5;exact w_fin this e4 (by rw[<- e3];exact zE 4473) e5
 refine⟨iv.capN one,l0,?_,?_,zQX w lo1⟩
 ·clear w;unfold zK6;simp only[];split<;>omega
 ·clear w;unfold zK6;simp only[];split<;>omega
end Go.Proofs.YtgmnknmjainabacGreat
