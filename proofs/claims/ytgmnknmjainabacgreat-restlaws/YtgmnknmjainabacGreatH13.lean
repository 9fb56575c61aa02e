/-
  Its own texts.
-/
import Derived.Test.YtgmnknmjainabacGreatH12
set_option maxRecDepth 100000
set_option maxHeartbeats 40000000
set_option linter.unusedVariables false
namespace Go.Proofs.YtgmnknmjainabacGreat
open Ex
theorem Iv.opp {B:Nat} {a:Int × Int} {x:Nat->Rat} (h:Iv B a x):Iv B (-a.2,-a.1) (λ M => -x M):=by
 have q:=jM B
 intro e he
 obtain⟨N,hN⟩:=h e he;refine⟨N,λ M hM=>?_⟩
 obtain⟨g1,g2⟩:=hN M hM;have e1:((-a.2:Int):Rat)/(Q B:Rat) = -((a.2:Rat)/(Q B:Rat)):=by rw[Rat.intCast_neg,Rat.div_def,Rat.div_def,Rat.neg_mul]
 have e2:((-a.1:Int):Rat)/(Q B:Rat) = -((a.1:Rat)/(Q B:Rat)):=by rw[Rat.intCast_neg,Rat.div_def,Rat.div_def,Rat.neg_mul]
 simp only[];rw[e1,e2];constructor<;>grind
def negI (a:Int × Int):Int × Int:=(-a.2,-a.1)
theorem negI_abs {a:Int × Int} {m:Int} (h:Abs a m):Abs (negI a) m:=by obtain⟨h1,h2,h3,h4⟩:=h;exact⟨by simp only[negI];omega,by simp only[negI];omega,by simp only[negI];omega,by simp only[negI];omega⟩
def agT (m:Int) (B:Nat):Nat->Int × Int
 | 0=>ofI 1 m B
 | n+1=>negI (zJ (agT m B n) (2*(n:Int)+1) ((2*(n:Int)+3)*m*m))
theorem zJG {m:Int} (hm:2<=m) (n:Nat):0<(2*(n:Int)+3)*m*m/\4*(2*(n:Int)+1)<=(2*(n:Int)+3)*m*m:=by
 have h1:=Int.mul_le_mul hm hm (by omega) (show 0<=m by omega)
 have h2:=Za h1 (show 0<=2*(n:Int)+3 by omega)
 have e:(2*(n:Int)+3)*m*m=(2*(n:Int)+3)*(m*m):=by grind
 rw[e];omega
theorem zMR {m:Int} (hm:2<=m) (B n:Nat):(agT m B n).1<=(agT m B n).2:=by
 induction n with
 | zero=>exact kO (by omega) B
 | succ n ih =>
  have:=kR ih (zJG hm n).1 (show 0<=2*(n:Int)+1 by omega)
  simp only[agT,negI];omega
theorem zHV {m:Int} (hm:2<=m) {B:Nat} (hB:2<=B) (n:Nat):Abs (agT m B n) (Q (B-2*n)):=by
 induction n with
 | zero =>
  have q:=zE B;have h2:=Za hm (show 0<=Q B by omega)
  exact zGC (by omega) B (by have:=zE B;simp only[Nat.mul_zero,Nat.sub_zero];omega) (by simp only[Nat.mul_zero,Nat.sub_zero];omega)
 | succ n ih =>
  obtain⟨d0,d1⟩:=zJG hm n;have st:=zP4 hB n;have q2:=zE (B-2)
  have eB:Q B=4*Q (B-2):=by
   have:=jD 2 (B-2);rw[show 2+(B-2)=B by omega] at this
   rw[this];rfl
  have hq:Q (B-2*n)<=4*Q (B-2*(n+1)):=by
   refine Int.le_of_mul_le_mul_right (a:=Q (B-2)) ?_ (by omega)
   rw[eB] at st;have e:4*Q (B-2*(n+1))*Q (B-2)=Q (B-2*(n+1))*(4*Q (B-2)):=by grind
   omega
  have q3:=zE (B-2*(n+1));obtain⟨a1,a2,a3,a4⟩:=ih
  have key:∀ x:Int,-Q (B-2*n)<=x->x<=Q (B-2*n) -> -(Q (B-2*(n+1))*((2*(n:Int)+3)*m*m))<=x*(2*(n:Int)+1)/\x*(2*(n:Int)+1)<=Q (B-2*(n+1))*((2*(n:Int)+3)*m*m):=λ x h1 h2=>by
   have k1:=Za d1 (show 0<=Q (B-2*(n+1)) by omega)
   have k2:=YW (show x<=4*Q (B-2*(n+1)) by omega) (show 0<=2*(n:Int)+1 by omega)
   have k3:=YW (show -(4*Q (B-2*(n+1)))<=x by omega) (show 0<=2*(n:Int)+1 by omega)
   have e:Q (B-2*(n+1))*(4*(2*(n:Int)+1))=4*Q (B-2*(n+1))*(2*(n:Int)+1):=by grind
   have e2 : -(4*Q (B-2*(n+1)))*(2*(n:Int)+1) = -(4*Q (B-2*(n+1))*(2*(n:Int)+1)):=by grind
   constructor<;>omega
  have r1:=jJ d0 (key _ a1 a2).1 (key _ a1 a2).2;have r2:=jJ d0 (key _ a3 a4).1 (key _ a3 a4).2;exact negI_abs ⟨r1.1,r1.2.1,r2.2.2.1,r2.2.2.2⟩
theorem agT_wide {m:Int} (hm:2<=m) (B n:Nat):(agT m B n).2-(agT m B n).1<=2:=by
 induction n with
 | zero=>have:=kU (n:=1) (show 0<m by omega) B;simp only[agT];omega
 | succ n ih =>
  obtain⟨d0,d1⟩:=zJG hm n
  have:=kK (a:=agT m B n) (n:=2*(n:Int)+1) (d:=(2*(n:Int)+3)*m*m) (c:=1) d0 (by
   have:=YW ih (show 0<=2*(n:Int)+1 by omega)
   omega)
  simp only[agT,negI];omega
def agV (m:Int):Nat->Rat
 | 0=>((1:Int):Rat)/(m:Rat)
 | n+1 => -(((2*(n:Int)+1:Int):Rat)/(((2*(n:Int)+3)*m*m:Int):Rat)*agV m n)
theorem agT_has {m:Int} (hm:2<=m) (B n:Nat):Iv B (agT m B n) (λ _=>agV m n):=by
 induction n with
 | zero=>exact Iv.of B (by omega)
 | succ n ih=>exact (ih.scale (show 0<=2*(n:Int)+1 by omega) (zJG hm n).1).opp
theorem zL5 {n d:Int} (hn:0<=n) (hd:0<d) (h:4*n<=d):0<=(n:Rat)/(d:Rat)/\(n:Rat)/(d:Rat)<=1/4:=by
 have d0:(0:Rat)<(d:Rat):=by exact_mod_cast hd
 have n0:(0:Rat)<=(n:Rat):=by exact_mod_cast hn
 refine⟨kG d0 (by grind),kF d0 ?_⟩
 have:=jF h;rw[Ze,show ((4:Int):Rat)=4 from rfl] at this
 grind
theorem zHW {m:Int} (hm:2<=m) (n:Nat) {b:Rat} (h:AB (agV m n) b):AB (agV m (n+1)) (b/2):=by
 obtain⟨d0,d1⟩:=zJG hm n;obtain⟨q0,q1⟩:=zL5 (show 0<=2*(n:Int)+1 by omega) d0 d1
 have b0:=h.nonneg;have:=(AB.mul (s:=((2*(n:Int)+1:Int):Rat)/(((2*(n:Int)+3)*m*m:Int):Rat)) (a:=1/4) ⟨by grind,q1⟩ h).neg
 exact this.mono (by grind)
def agS (m:Int) (M:Nat):Rat:=S (agV m) M
theorem zMS {m:Int} (hm:2<=m) (B N:Nat):Iv B (zM (agT m B) N) (agS m) :=
 zHZ (g:=λ n _=>agV m n) (zMR hm B) (λ k _=>agT_has hm B k) 0 (λ M _ n b _ hb=>zHW hm n hb)
theorem zHX {m:Int} (hm:2<=m) {B N:Nat} (hB:2<=B) (hN:zU (agT m B) N) :
  (zM (agT m B) N).1<=(zM (agT m B) N).2/\Abs (zM (agT m B) N) (2*Q B)/\N<=B/2+1/\(zM (agT m B) N).2-(zM (agT m B) N).1<=(B:Int)+6:=by
 have hn:N<=B/2+1:=by
  obtain⟨N',n1,n2⟩:=zB7 (s:=2) (by omega) (zHV hm hB)
  refine Nat.le_trans (Nat.not_lt.1 λ E2=>?_) n1
  have:=hN.2 N' E2;have:=n2.1;omega
 refine⟨zCK (zMR hm B) N,zF0 (s:=2) (by omega) (zMR hm B) (zHV hm hB) hN,hn,?_⟩
 have:=zCA (agT_wide hm B) hN;omega
theorem zQD {m:Int} (hm:2<=m) {B:Nat} (hB:2<=B):∃ N,zU (agT m B) N:=by
 obtain⟨N,_,h⟩:=zB7 (s:=2) (by omega) (zHV hm hB)
 exact⟨N,h⟩
def piI (B N N2:Nat):Int × Int:=zJB (kI (zM (agT 5 B) N) 16) (kI (zM (agT 239 B) N2) 4)
def piS (M:Nat):Rat:=16*agS 5 M-4*agS 239 M
theorem pi_has (B N N2:Nat):Iv B (piI B N N2) piS :=
 Has.of_eq (((zMS (m:=5) (by omega) B N).times 16).sub ((zMS (m:=239) (by omega) B N2).times 4)) λ M=>by
  show 16*agS 5 M-4*agS 239 M=((16:Nat):Rat)*agS 5 M-((4:Nat):Rat)*agS 239 M
  rfl
theorem pi_ge {M:Nat} (hM:2<=M):3<=piS M:=by
 obtain⟨i,rfl⟩:∃ i,M=2+i:=⟨M-2,by omega⟩
 have h5:=(zP8 (g:=agV 5) (N:=1) (b:=1/375) (by rw[show agV 5 1 = -(1/375) by decide +kernel];constructor<;>grind) (λ n c _ hc=>zHW (by omega) n hc) i).2
 have h9:=(zP8 (g:=agV 239) (N:=1) (b:=1/1000) (by (have e:AB (agV 239 1) (1/1000):=(by constructor<;>decide +kernel));exact e) (λ n c _ hc=>zHW (by omega) n hc) i).2
 have e5:S (agV 5) (1+1)=1/5-1/375:=by decide +kernel
 have e9:S (agV 239) (1+1)<=1/100:=by decide +kernel
 have p:=yP i;rw[e5] at h5;obtain⟨a1,a2⟩:=h5;obtain⟨b1,b2⟩:=h9
 show 3<=16*S (agV 5) (1+1+i)-4*S (agV 239) (1+1+i)
 grind
theorem pi_bound {B N N2:Nat} (hB:32<=B) (hN:zU (agT 5 B) N) (bj:zU (agT 239 B) N2):(piI B N N2).1<=(piI B N N2).2/\Q B<=(piI B N N2).1/\(piI B N N2).2<=64*Q B/\(piI B N N2).2-(piI B N N2).1<=20*(B:Int)+120:=by
 obtain⟨a1,a2,a3,a4⟩:=zHX (m:=5) (by omega) (by omega) hN
 obtain⟨b1,b2,b3,b4⟩:=zHX (m:=239) (by omega) (by omega) bj
 have hw:(piI B N N2).2-(piI B N N2).1<=20*(B:Int)+120:=by
  simp only[piI,zJB,kI];omega
 have hl:(piI B N N2).1<=(piI B N N2).2:=by simp only[piI,zJB,kI];omega
 have hh:(piI B N N2).2<=64*Q B:=by
  obtain⟨_,_,_,c4⟩:=a2;obtain⟨d1,_⟩:=b2;simp only[piI,zJB,kI];omega
 refine⟨hl,?_,hh,hw⟩;have q:=jM B
 have h2:2*Q B<=(piI B N N2).2:=by
  refine Int.not_lt.1 λ E2=>?_
  obtain⟨N0,hh⟩:=pi_has B N N2 (1/2) (by grind)
  have h3:=(hh (N0+2) (by omega)).2
  have h4:=pi_ge (M:=N0+2) (by omega)
  have h5:((piI B N N2).2:Rat)/(Q B:Rat)<=2:=kF q (by
   have:=jF (show (piI B N N2).2<=2*Q B by omega)
   rw[Ze] at this
   exact this)
  grind
 have hQ:20*(B:Int)+120<=Q B:=by
  have Js:∀ k:Nat,20*((32+k:Nat):Int)+120<=Q (32+k):=λ k=>by
   induction k with
   | zero=>decide
   | succ k ih =>
    have e:Q (32+(k+1))=2*Q (32+k):=rfl;omega
  have:=Js (B-32);rw[show 32+(B-32)=B by omega] at this
  exact this
 omega
end Go.Proofs.YtgmnknmjainabacGreat
namespace Go.Proofs.YtgmnknmjainabacGreat.Ex
def uT (u:Rat):Nat->Rat
 | 0=>u
 | n+1=>(2*(n:Rat)+1)/(2*(n:Rat)+3)*(u*u)*uT u n
def uD (u:Rat):Nat->Rat
 | 0=>1
 | n+1=>u*u*uD u n
def sg:Nat->Rat
 | 0=>1
 | n+1 => -sg n
theorem sg_one (n:Nat):sg n=1\/sg n = -1:=by
 induction n with
 | zero=>exact Or.inl rfl
 | succ n ih=>rcases ih with h|h<;>(show -sg n=1 \/ -sg n = -1;rw[h];grind)
theorem zNR (n:Nat):(0:Rat)<2*(n:Rat)+3:=by
 have:(0:Rat)<=(n:Rat):=by exact_mod_cast Nat.zero_le n
 grind
theorem zGM (u:Rat) (n:Nat):(2*(n:Rat)+3)*uT u (n+1)=(2*(n:Rat)+1)*(u*u)*uT u n:=by
 have e:=rdm (a:=2*(n:Rat)+1) (zNR n)
 show (2*(n:Rat)+3)*((2*(n:Rat)+1)/(2*(n:Rat)+3)*(u*u)*uT u n)=_
 have:(2*(n:Rat)+3)*((2*(n:Rat)+1)/(2*(n:Rat)+3)*(u*u)*uT u n)=((2*(n:Rat)+1)/(2*(n:Rat)+3)*(2*(n:Rat)+3))*(u*u)*uT u n:=by grind
 rw[this,e]
theorem zT9 (u:Rat) (n:Nat):(2*(n:Rat)+1)*uT u n=u*uD u n:=by
 induction n with
 | zero=>show (2*((0:Nat):Rat)+1)*u=u*1;grind
 | succ n ih =>
  have e:((n+1:Nat):Rat)=(n:Rat)+1:=by push_cast;rfl
  have h:=zGM u n
  show (2*((n+1:Nat):Rat)+1)*uT u (n+1)=u*(u*u*uD u n)
  rw[e,show 2*((n:Rat)+1)+1=2*(n:Rat)+3 by grind,h]
  grind
theorem zCE (u:Rat) (n:Nat):0<=uD u n:=by
 induction n with
 | zero=>show (0:Rat)<=1;grind
 | succ n ih=>exact YV (zP u) ih
theorem zK2 {u:Rat} (h:0<=u) (n:Nat):0<=uT u n:=by
 have h1:=zT9 u n;have h2:=YV h (zCE u n);have h3:(0:Rat)<=(n:Rat):=by exact_mod_cast Nat.zero_le n
 refine Rat.le_of_mul_le_mul_left (c:=2*(n:Rat)+1) ?_ (by grind)
 grind
theorem zT8 {u h:Rat} (hu:0<=u) (hh:0<=h) (n:Nat):uT u n+h*uD u n<=uT (u+h) n:=by
 induction n with
 | zero=>show u+h*1<=u+h;grind
 | succ n ih =>
  have p:=zNR n;have n0:(0:Rat)<=(n:Rat):=by exact_mod_cast Nat.zero_le n
  have e1:=zGM u n;have e2:=zGM (u+h) n;have e3:=zT9 u n;have t0:=zK2 hu n;have d0:=zCE u n;have s1:u*u+2*(u*h)<=(u+h)*(u+h):=by have:=YV hh hh;grind
  have y0:0<=(u+h)*(u+h):=zP _;have m1:=YT ih y0;have u0:0<=uT u n+h*uD u n:=by have:=YV hh d0;grind
  have m2:=YX s1 u0;have k1:=YV (YV hu hh) (YV hh d0);have m3:=Rat.le_trans m2 m1;have c0:0<=2*(n:Rat)+1:=by grind
  have m4:=YT m3 c0;refine Rat.le_of_mul_le_mul_left (c:=2*(n:Rat)+3) ?_ p
  show (2*(n:Rat)+3)*(uT u (n+1)+h*(u*u*uD u n))<=_
  rw[e2];have k4:(2*(n:Rat)+3)*(uT u (n+1)+h*(u*u*uD u n))=(2*(n:Rat)+1)*(u*u)*uT u n+(2*(n:Rat)+3)*(h*(u*u*uD u n)):=by rw[<- e1];grind
  rw[k4];have k5:(2*(n:Rat)+1)*((u*u+2*(u*h))*(uT u n+h*uD u n))=(2*(n:Rat)+1)*(u*u)*uT u n+(2*(n:Rat)+1)*(h*(u*u*uD u n))+2*(u*h)*((2*(n:Rat)+1)*uT u n)+2*((2*(n:Rat)+1)*(u*h*(h*uD u n))):=by grind
  have k6:=YV c0 k1;rw[k5,e3] at m4;grind
theorem uT_back {x y:Rat} (hx:0<=x) (P7:x<=y) (n:Nat):uT y n<=uT x n+(y-x)*uD y n:=by
 induction n with
 | zero=>show y<=x+(y-x)*1;grind
 | succ n ih =>
  have p:=zNR n;have hy:0<=y:=by grind
  have n0:(0:Rat)<=(n:Rat):=by exact_mod_cast Nat.zero_le n
  have c0:0<=2*(n:Rat)+1:=by grind
  have e1:=zGM x n;have e2:=zGM y n;have e3:=zT9 y n;have t0:=zK2 hx n;have d0:=zCE y n;obtain⟨h,hh⟩:∃ h,h=y-x:=⟨_,rfl⟩;have h0:0<=h:=by grind
  have mono:uT x n<=uT y n:=by
   have:=zT8 hx h0 n;have:=YV h0 (zCE x n);rw[show x+h=y by grind] at *
   grind
  rw[<- hh] at ih ⊢;have m1:=YT ih (zP y);have m2:=YT m1 c0;refine Rat.le_of_mul_le_mul_left (c:=2*(n:Rat)+3) ?_ p
  show _<=(2*(n:Rat)+3)*(uT x (n+1)+h*(y*y*uD y n))
  have k4:(2*(n:Rat)+3)*(uT x (n+1)+h*(y*y*uD y n))=(2*(n:Rat)+1)*(x*x)*uT x n+(2*(n:Rat)+3)*(h*(y*y*uD y n)):=by rw[<- e1];grind
  rw[k4,e2]
  have k5:y*y-x*x<=2*(h*y):=by
   have:=YV h0 h0;have:y*y-x*x=2*(h*y)-h*h:=by rw[hh];grind
   grind
  have k6:=YX k5 t0;have k7:=YT mono (YV (show (0:Rat)<=2 by grind) (YV h0 hy))
  have k8:=YT (Rat.le_trans k6 k7) c0;have k9:(2*(n:Rat)+1)*(2*(h*y)*uT y n)=2*(h*y)*(y*uD y n):=by rw[<- e3];grind
  rw[k9] at k8;grind
theorem q4_le_q2 (n:Nat):q4 n<=q2 n:=by
 induction n with
 | zero=>show (1:Rat)<=1;grind
 | succ n ih =>
  have h1:q4 (n+1)=q4 n/4:=rfl;have h2:q2 (n+1)=q2 n/2:=rfl;have:=yP n;have:=yE n;rw[h1,h2];grind
theorem uD_q4 {u:Rat} (h0:0<=u) (h:u<=1/2) (n:Nat):uD u n<=q4 n:=by
 induction n with
 | zero=>show (1:Rat)<=1;grind
 | succ n ih =>
  have h1:q4 (n+1)=q4 n/4:=rfl;have q:=yE n
  have a1:u*u<=1/4:=by
   have:=YT h h0;grind
  have m1:=YT ih (zP u);have m2:=YX a1 (YZ q)
  show u*u*uD u n<=_
  rw[h1];grind
theorem uD_near {u h:Rat} (hu:0<=u) (hh:0<=h) (hy:u+h<=1/2) (n:Nat):uD (u+h) n-uD u n<=4*h*q2 n:=by
 induction n with
 | zero=>show (1:Rat)-1<=4*h*1;grind
 | succ n ih =>
  have h2:q2 (n+1)=q2 n/2:=rfl;have q:=yP n
  have c1:(u+h)*(u+h)<=1/4:=by
   have:=YT hy (show 0<=u+h by grind)
   grind
  have c2:(u+h)*(u+h)-u*u<=h:=by
   have e:(u+h)*(u+h)-u*u=h*(2*u+h):=by grind
   have:=YT (show 2*u+h<=1 by grind) hh
   rw[e];grind
  have d1:=uD_q4 hu (by grind) n
  have d2:=q4_le_q2 n;have d0:=zCE u n;have m1:=YT ih (zP (u+h));have hq:=YV hh (YZ q);have m2:=YX c1 (show 0<=4*h*q2 n by grind)
  have m3:=YX c2 d0;have m4:=YT (Rat.le_trans d1 d2) hh
  show (u+h)*(u+h)*uD (u+h) n-u*u*uD u n<=_
  rw[h2];have e:(u+h)*(u+h)*uD (u+h) n-u*u*uD u n=(u+h)*(u+h)*(uD (u+h) n-uD u n)+((u+h)*(u+h)-u*u)*uD u n:=by grind
  rw[e];grind
def aA (u:Rat) (M:Nat):Rat:=S (λ n=>sg n*uT u n) M
def aD (u:Rat) (M:Nat):Rat:=S (λ n=>sg n*uD u n) M
theorem aD_eq (u:Rat) (M:Nat):(1+u*u)*aD u M=1-sg M*uD u M:=by
 induction M with
 | zero=>show (1+u*u)*0=1-1*1;grind
 | succ n ih =>
  show (1+u*u)*(aD u n+sg n*uD u n)=1-(-sg n)*(u*u*uD u n)
  grind
theorem aA_lin {u h:Rat} (hu:0<=u) (hh:0<=h) (hy:u+h<=1/2) (M:Nat):AB (aA (u+h) M-aA u M-h*aD u M) (8*(h*h)*(1-q2 M)):=by
 induction M with
 | zero=>show AB (0-0-h*0) (8*(h*h)*(1-1));constructor<;>grind
 | succ n ih =>
  have h2:q2 (n+1)=q2 n/2:=rfl;have g1:=zT8 hu hh n;have g2:=uT_back hu (show u<=u+h by grind) n
  rw[show u+h-u=h by grind] at g2
  have g3:=YT (uD_near hu hh hy n) hh
  have k:AB (uT (u+h) n-uT u n-h*uD u n) (4*(h*h)*q2 n):=by
   have q:=yP n;have:=YV (YV hh hh) (YZ q);constructor<;>grind
  have k2:AB (sg n*(uT (u+h) n-uT u n-h*uD u n)) (4*(h*h)*q2 n):=by
   rcases sg_one n with e|e
   ·rw[e];exact⟨by have:=k.1;grind,by have:=k.2;grind⟩
   ·rw[e];exact⟨by have:=k.2;grind,by have:=k.1;grind⟩
  have k3:=ih.add k2
  show AB (aA (u+h) n+sg n*uT (u+h) n-(aA u n+sg n*uT u n)-h*(aD u n+sg n*uD u n)) _
  rw[h2];have e:aA (u+h) n+sg n*uT (u+h) n-(aA u n+sg n*uT u n)-h*(aD u n+sg n*uD u n)=aA (u+h) n-aA u n-h*aD u n+sg n*(uT (u+h) n-uT u n-h*uD u n):=by grind
  rw[e];exact k3.mono (by grind)
theorem zQA {u h i:Rat} (hu:0<=u) (hh:0<=h) (hy:u+h<=1/2) (hi:i*(1+u*u)=1) (M:Nat):AB (aA (u+h) M-aA u M-h*i) (8*(h*h)+h*q4 M):=by
 have k:=aA_lin hu hh hy M;have q:=yP M
 have k1:=k.mono (b:=8*(h*h)) (by
  have:=YV (YV hh hh) (YZ q)
  grind)
 have e:=aD_eq u M;have d:=uD_q4 hu (show u<=1/2 by grind) M
 have d0:=zCE u M;have s0:=zP u
 have i0:0<=i:=by
  refine Rat.not_lt.1 λ E2=>?_
  have:=YV (show 0 <= -i by grind) (show 0<=1+u*u by grind)
  grind
 have i1:i<=1:=by have:=YV i0 s0;grind
 have e2:aD u M=i-i*(sg M*uD u M):=by
  have:i*((1+u*u)*aD u M)=i*(1-sg M*uD u M):=by rw[e]
  have:i*(1+u*u)*aD u M=i*(1-sg M*uD u M):=by grind
  rw[hi] at this;grind
 have k2:AB (h*(i*(sg M*uD u M))) (h*q4 M):=by
  have m1:=YX i1 d0;have m2:=YV i0 d0;have m3:=YT (show i*uD u M<=q4 M by grind) hh
  have m4:=YV hh m2
  rcases sg_one M with s|s
  ·rw[s];constructor<;>grind
  ·rw[s];constructor<;>grind
 have k3:=k1.add k2.neg;have e3:aA (u+h) M-aA u M-h*i=aA (u+h) M-aA u M-h*aD u M + -(h*(i*(sg M*uD u M))):=by rw[e2];grind
 rw[e3];exact k3
theorem zRS (a:Rat) (h:0<a):∃ i,0<i/\i*a=1:=⟨1/a,zK (by grind) h,rdm h⟩
def tD (v x:Rat):Rat:=(x-v)/(1+x*v)
theorem zOF {v x:Rat} (hv:0<=v) (hx:0<=x):tD v x*(1+x*v)=x-v:=rdm (by have:=YV hx hv;grind)
theorem zTY {v x h:Rat} (hv:0<=v) (zl:v<=x) (hh:0<=h):tD v x<=tD v (x+h)/\tD v (x+h)-tD v x<=(1+v*v)*h /\
  ∀ i j,i*(1+x*x)=1->j*(1+tD v x*tD v x)=1->AB ((tD v (x+h)-tD v x)*j-h*i) (v*(h*h)):=by
 have hx:0<=x:=by grind
 have e1:=zOF hv hx;have e2:=zOF hv (show 0<=x+h by grind)
 generalize tD v x=X at *;generalize tD v (x+h)=Y at *;obtain⟨al,ha⟩:∃ al,al=1+x*v:=⟨_,rfl⟩;obtain⟨be,hb⟩:∃ be,be=1+(x+h)*v:=⟨_,rfl⟩;rw[<- ha] at e1;rw[<- hb] at e2;have xv:=YV hx hv;have T9:=YV hh hv;have a1:1<=al:=by rw[ha];grind
 have b1:1<=be:=by rw[hb];grind
 have vv:=zP v
 have k1:(Y-X)*(al*be)=h*(1+v*v):=by
  have:(Y-X)*(al*be)=(Y*be)*al-(X*al)*be:=by grind
  rw[this,e1,e2,ha,hb];grind
 have Vm:0<al*be:=Rat.mul_pos (by grind) (by grind)
 have Vn:1<=al*be:=by have:=YT b1 (show 0<=al by grind);grind
 have Qz:0<=h*(1+v*v):=YV hh (by grind)
 have k0:0<=Y-X:=by
  refine Rat.not_lt.1 λ E2=>?_
  have:=Rat.mul_pos (show 0 < -(Y-X) by grind) Vm
  grind
 refine⟨by grind,?_,λ i j hi hj=>?_⟩
 ·have:=YT Vn k0
  grind
 ·have xx:=zP x
  have XX:=zP X
  have i0:0<=i:=by
   refine Rat.not_lt.1 λ E2=>?_
   have:=YV (show 0 <= -i by grind) (show 0<=1+x*x by grind)
   grind
  have i1:i<=1:=by have:=YV i0 xx;grind
  obtain⟨E,hE⟩:∃ E,E=(Y-X)*j*(1+x*x):=⟨_,rfl⟩
  have id1:(1+X*X)*(al*al)=(1+x*x)*(1+v*v):=by
   have:(1+X*X)*(al*al)=al*al+(X*al)*(X*al):=by grind
   rw[this,e1,ha];grind
  have k2:E*be=h*al:=by
   have m:E*be*(al*(1+v*v))=h*al*(al*(1+v*v)):=by
    have f1:E*be*(al*(1+v*v))=((Y-X)*(al*be))*j*((1+x*x)*(1+v*v)):=by rw[hE];grind
    rw[f1,k1,<- id1];have f2:h*(1+v*v)*j*((1+X*X)*(al*al))=h*(1+v*v)*(j*(1+X*X))*(al*al):=by grind
    rw[f2,hj];grind
   have c:0<al*(1+v*v):=Rat.mul_pos (by grind) (by grind)
   refine Rat.le_antisymm (Rat.le_of_mul_le_mul_right (by rw[m];exact Rat.le_refl) c) (Rat.le_of_mul_le_mul_right (by rw[m];exact Rat.le_refl) c)
  have k3:(Y-X)*j=E*i:=by
   have:E*i=(Y-X)*j*(i*(1+x*x)):=by rw[hE];grind
   rw[this,hi];grind
  have bal:be=al+h*v:=by rw[ha,hb];grind
  have d1:(h-E)*be=v*(h*h):=by
   have:(h-E)*be=h*be-E*be:=by grind
   rw[this,k2,bal];grind
  have vh:=YV hv (YV hh hh)
  have d2:0<=h-E:=by
   refine Rat.not_lt.1 λ E2=>?_
   have:=Rat.mul_pos (show 0 < -(h-E) by grind) (show 0<be by grind)
   grind
  have d3:h-E<=v*(h*h):=by
   have:=YT b1 d2;grind
  rw[k3];have m1:=YV d2 i0;have m2:=YT i1 d2;constructor<;>grind
theorem zP9 {v x h i:Rat} (hv:0<=v) (Fk:v<=1/2) (zl:v<=x) (hh:0<=h) (hy:tD v (x+h)<=1/2) (hi:i*(1+x*x)=1) (M:Nat):AB (aA (tD v (x+h)) M-aA (tD v x) M-h*i) (16*(h*h)+2*(h*q4 M)):=by
 obtain⟨s1,s2,s3⟩:=zTY hv zl hh
 have X0:0<=tD v x:=by
  have e:=zOF hv (show 0<=x by grind)
  refine Rat.not_lt.1 λ E2=>?_
  have:=Rat.mul_pos (show 0 < -tD v x by grind) (show 0<1+x*v by have:=YV (show 0<=x by grind) hv;grind)
  grind
 obtain⟨j,j0,hj⟩:=zRS (1+tD v x*tD v x) (by have:=zP (tD v x);grind)
 have s4:=s3 i j hi hj;obtain⟨k,hk⟩:∃ k,k=tD v (x+h)-tD v x:=⟨_,rfl⟩;have k0:0<=k:=by grind
 have ey:tD v (x+h)=tD v x+k:=by grind
 rw[<- hk] at s2 s4;have s5:=zQA (u:=tD v x) (h:=k) (i:=j) X0 k0 (by grind) hj M
 rw[ey];have s6:=s5.add s4;have e:aA (tD v x+k) M-aA (tD v x) M-k*j+(k*j-h*i)=aA (tD v x+k) M-aA (tD v x) M-h*i:=by grind
 rw[e] at s6;refine s6.mono ?_;have q:=yE M;have vv:v*v<=1/4:=by have:=YT Fk hv;grind
 have kh:k<=5/4*h:=by
  have:=YX vv hh;grind
 have kk:k*k<=25/16*(h*h):=by
  have a:=YT kh k0;have b:=YX kh (show 0<=5/4*h by grind)
  grind
 have kq:=YX kh (YZ q);have pR:=YV hh hh;have vh:=YX Fk pR;have hq:=YV hh (YZ q);grind
end Go.Proofs.YtgmnknmjainabacGreat.Ex
namespace Go.Proofs.YtgmnknmjainabacGreat.Ex
theorem zIY (K:Rat) (hK:0<=K):Null (λ M=>K*q4 M) :=
 Null.of_le (zB3 K hK) 1 λ M hM=>by
  have hm:(1:Rat)<=(M:Rat):=by exact_mod_cast hM
  have q:=yE M;have h1:=YX hm (YZ q);have h2:=YT h1 hK;have h3:=YV hK (YZ q);constructor<;>grind
theorem zLE (M:Nat):aA 0 M=0:=by
 have h:∀ n,uT 0 n=0:=λ n=>by
  induction n with
  | zero=>rfl
  | succ n ih=>show _*(0*0)*uT 0 n=0;rw[ih];grind
 unfold aA
 induction M with
 | zero=>rfl
 | succ n ih=>show S (λ n=>sg n*uT 0 n) n+sg n*uT 0 n=0;rw[ih,h];grind
theorem tD_same (v:Rat):tD v v=0:=by unfold tD;rw[show v-v=0 by grind,Rat.div_def];grind
theorem tD_le {v x:Rat} (hv:0<=v) (zl:v<=x):0<=tD v x/\tD v x<=x:=by
 have e:=zOF hv (show 0<=x by grind)
 have xv:=YV (show 0<=x by grind) hv
 have h0:0<=tD v x:=by
  refine Rat.not_lt.1 λ E2=>?_
  have:=Rat.mul_pos (show 0 < -tD v x by grind) (show 0<1+x*v by grind)
  grind
 have:=YV h0 xv;exact⟨h0,by grind⟩
theorem zJF {v u:Rat} (hv:0<=v) (QB:v<=u) (hu:u<=1/2):Null (λ M=>aA u M-aA (tD v u) M-aA v M):=by
 have key:∀ x h,v<=x->0<h->x+h<=u->∀ M,AB ((aA (x+h) M-aA (tD v (x+h)) M)-(aA x M-aA (tD v x) M)) (24*(h*h)+3*h*q4 M):=λ x h h1 h2 h3 M=>by
  obtain⟨i,i0,hi⟩:=zRS (1+x*x) (by have:=zP x;grind)
  have a:=zQA (u:=x) (h:=h) (i:=i) (by grind) (YZ h2) (by grind) hi M
  have b:=zP9 (x:=x) (h:=h) (i:=i) hv (by grind) h1 (YZ h2) (by have:=(tD_le hv (show v<=x+h by grind)).2;grind) hi M
  have c:=a.add b.neg;have e:aA (x+h) M-aA x M-h*i + -(aA (tD v (x+h)) M-aA (tD v x) M-h*i)=(aA (x+h) M-aA (tD v (x+h)) M)-(aA x M-aA (tD v x) M):=by grind
  rw[e] at c;exact c.mono (by grind)
 have d1:=zDX (f:=λ x M=>aA x M-aA (tD v x) M) (C:=24) (D:=1) QB (by grind) (by grind) (λ x h h1 h2 _ h4=>⟨_,zIY (3*h) (by grind),0,λ M _=>by have:=(key x h h1 h2 h4 M).2;grind⟩)
 have d2:=zDX (f:=λ x M => -(aA x M-aA (tD v x) M)) (C:=24) (D:=1) QB (by grind) (by grind) (λ x h h1 h2 _ h4=>⟨_,zIY (3*h) (by grind),0,λ M _=>by have:=(key x h h1 h2 h4 M).1;grind⟩)
 intro e he
 obtain⟨N1,k1⟩:=d1 e he;obtain⟨N2,k2⟩:=d2 e he;refine⟨N1+N2,λ M hM=>?_⟩
 have a1:=k1 M (by omega)
 have a2:=k2 M (by omega)
 simp only[tD_same,zLE] at a1 a2;constructor<;>grind
theorem machin:Null (λ M=>(aA (1/2) M+aA (1/3) M)-(4*aA (1/5) M-aA (1/239) M)):=by
 have d1:=zJF (v:=1/5) (u:=1/2) (by grind) (by grind) (by grind)
 have d2:=zJF (v:=1/5) (u:=1/3) (by grind) (by grind) (by grind)
 have d3:=zJF (v:=1/5) (u:=3/11) (by grind) (by grind) (by grind)
 have d4:=zJF (v:=1/8) (u:=1/5) (by grind) (by grind) (by grind)
 have d5:=zJF (v:=2/29) (u:=3/41) (by grind) (by grind) (by grind)
 rw[show tD (1/5) (1/2)=3/11 by decide +kernel] at d1
 rw[show tD (1/5) (1/3)=1/8 by decide +kernel] at d2
 rw[show tD (1/5) (3/11)=2/29 by decide +kernel] at d3
 rw[show tD (1/8) (1/5)=3/41 by decide +kernel] at d4
 rw[show tD (2/29) (3/41)=1/239 by decide +kernel] at d5
 exact ((((d1.add d2).add d3).sub d4).sub d5).of_eq λ M=>by grind
theorem aA_ag {m:Int} (hm:2<=m) (M:Nat):aA (1/(m:Rat)) M=agS m M:=by
 have m0:(0:Rat)<(m:Rat):=by exact_mod_cast (show 0<m by omega)
 have e:(1/(m:Rat))*(m:Rat)=1:=rdm m0
 have h:∀ n,sg n*uT (1/(m:Rat)) n=agV m n:=λ n=>by
  induction n with
  | zero=>show 1*(1/(m:Rat))=((1:Int):Rat)/(m:Rat);rw[Rat.one_mul];rfl
  | succ n ih =>
   have p:=zNR n
   show -sg n*((2*(n:Rat)+1)/(2*(n:Rat)+3)*((1/(m:Rat))*(1/(m:Rat)))*uT (1/(m:Rat)) n) = -(((2*(n:Int)+1:Int):Rat)/(((2*(n:Int)+3)*m*m:Int):Rat)*agV m n)
   rw[<- ih];have e1:((2*(n:Int)+1:Int):Rat)=2*(n:Rat)+1:=by rw[Rat.intCast_add,Ze];rfl
   have e2:(((2*(n:Int)+3)*m*m:Int):Rat)=(2*(n:Rat)+3)*(m:Rat)*(m:Rat):=by rw[Ze,Ze,Rat.intCast_add,Ze];rfl
   have key:(2*(n:Rat)+1)/(2*(n:Rat)+3)*((1/(m:Rat))*(1/(m:Rat)))=((2*(n:Int)+1:Int):Rat)/(((2*(n:Int)+3)*m*m:Int):Rat):=by
    rw[e1,e2];have q:(0:Rat)<(2*(n:Rat)+3)*(m:Rat)*(m:Rat):=Rat.mul_pos (Rat.mul_pos p m0) m0;have r1:=rdm (a:=2*(n:Rat)+1) q;have r2:=rdm (a:=2*(n:Rat)+1) p
    have lhs:(2*(n:Rat)+1)/(2*(n:Rat)+3)*((1/(m:Rat))*(1/(m:Rat)))*((2*(n:Rat)+3)*(m:Rat)*(m:Rat))=2*(n:Rat)+1:=by
     have:(2*(n:Rat)+1)/(2*(n:Rat)+3)*((1/(m:Rat))*(1/(m:Rat)))*((2*(n:Rat)+3)*(m:Rat)*(m:Rat))=((2*(n:Rat)+1)/(2*(n:Rat)+3)*(2*(n:Rat)+3))*((1/(m:Rat)*(m:Rat))*(1/(m:Rat)*(m:Rat))):=by grind
     rw[this,r2,e];grind
    refine Rat.le_antisymm (Rat.le_of_mul_le_mul_right (by rw[lhs,r1];exact Rat.le_refl) q) (Rat.le_of_mul_le_mul_right (by rw[lhs,r1];exact Rat.le_refl) q)
   rw[key];generalize ((2*(n:Int)+1:Int):Rat)/(((2*(n:Int)+3)*m*m:Int):Rat)=c;grind
 exact yT M λ i _=>h i
theorem pi_four:Null (λ M=>4*(aA (1/2) M+aA (1/3) M)-piS M):=by
 refine (machin.bmul (Bdd.const 4)).of_eq λ M=>?_
 have a:=aA_ag (m:=5) (by omega) M
 have b:=aA_ag (m:=239) (by omega) M
 rw[show 1/((5:Int):Rat)=1/5 by decide +kernel] at a
 rw[show 1/((239:Int):Rat)=1/239 by decide +kernel] at b
 unfold piS;rw[<- a,<- b];grind
def rI (x:Rat):Rat:=1/(1+x*x)
theorem zTD (x:Rat):rI x*(1+x*x)=1:=rdm (by have:=zP x;grind)
theorem zTE (x:Rat):0<rI x:=zK (by grind) (by have:=zP x;grind)
theorem rI_le (x:Rat):rI x<=1:=by have:=zTD x;have:=YV (YZ (zTE x)) (zP x);grind
theorem tD_mono {v x y:Rat} (hv:0<=v) (zl:v<=x) (P7:x<=y):tD v x<=tD v y:=by
 have:=(zTY hv zl (show 0<=y-x by grind)).1
 rwa [show x+(y-x)=y by grind] at this
theorem zKW {v x h:Rat} (hv:0<=v) (Fk:v<=1/2) (zl:v<=x) (hh:0<=h) (M:Nat) (j:Nat) (hj:tD v (x+(j:Rat)*h)<=1/2) :
  S (λ i=>h*rI (x+(i:Rat)*h)) j<=aA (tD v (x+(j:Rat)*h)) M-aA (tD v x) M+(j:Rat)*(16*(h*h)+2*(h*q4 M)):=by
 induction j with
 | zero =>
  have e:x+((0:Nat):Rat)*h=x:=by grind
  rw[e]
  show (0:Rat)<=_
  grind
 | succ j ih =>
  have ec:((j+1:Nat):Rat)=(j:Rat)+1:=by push_cast;rfl
  have j0:(0:Rat)<=(j:Rat):=by exact_mod_cast Nat.zero_le j
  have jh:=YV j0 hh;have e1:x+((j+1:Nat):Rat)*h=x+(j:Rat)*h+h:=by rw[ec];grind
  rw[e1] at hj ⊢;have JY:=ih (Rat.le_trans (tD_mono hv (by grind) (by grind)) hj)
  have st:=(zP9 (x:=x+(j:Rat)*h) (i:=rI (x+(j:Rat)*h)) hv Fk (by grind) hh hj (zTD _) M).1
  show S (λ i=>h*rI (x+(i:Rat)*h)) j+h*rI (x+(j:Rat)*h)<=_
  rw[ec];grind
theorem S_split (f:Nat->Rat) (a b:Nat):S f (a+b)=S f a+S (λ i=>f (a+i)) b:=by
 induction b with
 | zero=>show S f a=S f a+0;grind
 | succ b ih=>show S f (a+b)+f (a+b)=S f a+(S (λ i=>f (a+i)) b+f (a+b));rw[ih];grind
theorem zTX (n:Nat) {h:Rat} (hh:h*(2*((n:Rat)+1))=1):LeN (λ _=>4*S (λ i=>h*rI ((i:Rat)*h)) (2*(n+1))) (λ M=>piS M+64*(1/((n:Rat)+1))):=by
 have n0:(0:Rat)<(n:Rat)+1:=zBN n
 have h0:0<h:=by
  refine Rat.not_le.1 λ hle=>?_
  have:=YV (show 0 <= -h by grind) (show 0<=2*((n:Rat)+1) by grind)
  grind
 have ec:((n+1:Nat):Rat)=(n:Rat)+1:=by push_cast;rfl
 have hm:((n+1:Nat):Rat)*h=1/2:=by rw[ec];grind
 have a:∀ M,S (λ i=>h*rI (0+(i:Rat)*h)) (n+1)<=aA (1/2) M+((n:Rat)+1)*(16*(h*h)+2*(h*q4 M)):=λ M=>by
  have:=zKW (v:=0) (x:=0) (by grind) (by grind) (by grind) (YZ h0) M (n+1) (by rw[hm];decide +kernel)
  rw[hm,show tD 0 (0+1/2)=1/2 by decide +kernel,show tD 0 0=0 by decide +kernel,zLE,ec] at this
  grind
 have b:∀ M,S (λ i=>h*rI (1/2+(i:Rat)*h)) (n+1)<=aA (1/3) M+((n:Rat)+1)*(16*(h*h)+2*(h*q4 M)):=λ M=>by
  have:=zKW (v:=1/2) (x:=1/2) (by grind) (by grind) (by grind) (YZ h0) M (n+1) (by rw[hm];decide +kernel)
  rw[hm,show tD (1/2) (1/2+1/2)=1/3 by decide +kernel,show tD (1/2) (1/2)=0 by decide +kernel,zLE,ec] at this
  grind
 have sp:S (λ i=>h*rI ((i:Rat)*h)) (2*(n+1))=S (λ i=>h*rI (0+(i:Rat)*h)) (n+1)+S (λ i=>h*rI (1/2+(i:Rat)*h)) (n+1):=by
  rw[show 2*(n+1)=(n+1)+(n+1) by omega,S_split]
  congr 1
  ·exact yT _ λ i _=>by rw[show 0+(i:Rat)*h=(i:Rat)*h by grind]
  ·refine yT _ λ i _=>?_
   have e:((n+1+i:Nat):Rat)=((n+1:Nat):Rat)+(i:Rat):=by push_cast;rfl
   rw[e,show (((n+1:Nat):Rat)+(i:Rat))*h=((n+1:Nat):Rat)*h+(i:Rat)*h by grind,hm]
 rw[sp];have nh:((n:Rat)+1)*h=1/2:=by grind
 have hu:h=1/2*(1/((n:Rat)+1)):=by
  have um:1/((n:Rat)+1)*((n:Rat)+1)=1:=rdm n0;have:h*(((n:Rat)+1)*(1/((n:Rat)+1)))=1/2*(1/((n:Rat)+1)):=by rw[<- nh];grind
  rw[show ((n:Rat)+1)*(1/((n:Rat)+1))=1 by grind] at this
  grind
 refine LeN.of_null ((pi_four).add (zIY 8 (by grind))) 0 λ M _=>?_
 have a1:=a M;have b1:=b M;have e1:((n:Rat)+1)*(16*(h*h)+2*(h*q4 M))=16*(((n:Rat)+1)*h)*h+2*(((n:Rat)+1)*h)*q4 M:=by grind
 rw[e1,nh] at a1 b1;have u0:(0:Rat)<1/((n:Rat)+1):=zK (by grind) n0
 generalize 1/((n:Rat)+1)=u at *;rw[hu] at a1 b1 ⊢;generalize S (λ i=>1/2*u*rI (0+(i:Rat)*(1/2*u))) (n+1)=s1 at *
 generalize S (λ i=>1/2*u*rI (1/2+(i:Rat)*(1/2*u))) (n+1)=s2 at *
 grind
end Go.Proofs.YtgmnknmjainabacGreat.Ex
namespace Go.Proofs.YtgmnknmjainabacGreat.Ex
def ex (c:Rat) (M:Nat):Rat:=Ev (λ _=>c) M
theorem zC2 (a b:Rat):Null (λ M=>ex a M*ex b M-ex (a+b) M):=zAO (Bdd.const a) (Bdd.const b)
theorem yD (a:Rat):Bdd (ex a):=zAH (Bdd.const a)
theorem zHA (a:Rat):∃ N:Nat,∀ M,N<=M->0<=ex a M:=by
 obtain⟨c,c0,N,h⟩:=zB9 (x:=λ _=>a) (Bdd.const a)
 exact⟨N,λ M hM=>Rat.le_trans (YZ c0) (h M hM)⟩
theorem zH3 {a b:Rat} (h:a<=b):LeN (ex a) (ex b):=by
 obtain⟨v,hv,N,k⟩:=zCV (x:=λ _=>a) (y:=λ _=>b) (Bdd.const a) (Bdd.const b) null_zero 0 (λ M _=>by grind)
 exact LeN.of_null hv N k
theorem zF3 {t:Rat} (h0:0<=t) (h4:t<=1/4) {M:Nat} (hM:2<=M):0<=ex (-t) M/\ex (-t) M<=1-t+2*(t*t):=by
 have:=zBI (h := -t) (b:=t) ⟨by grind,by grind⟩ h4 hM
 have tt:t*t<=t*(1/4):=YT h4 h0
 show 0<=E (-t) M/\E (-t) M<=_
 obtain⟨h1,h2⟩:=this;constructor<;>grind
theorem ex_step {a t:Rat} (h0:0<=t) (h4:t<=1/4):∃ z,Null z/\∃ N:Nat,∀ M,N<=M->ex (a + -t) M<=ex a M*(1-t+2*(t*t))+z M:=by
 obtain⟨N,hN⟩:=zHA a;refine⟨_,(zC2 a (-t)).neg,N+2,λ M hM=>?_⟩
 have h1:=hN M (by omega)
 have h2:=(zF3 h0 h4 (M:=M) (by omega)).2
 have h3:=YT h2 h1;grind
end Go.Proofs.YtgmnknmjainabacGreat.Ex
namespace Go.Proofs.YtgmnknmjainabacGreat.Ex
theorem eT_back {x y:Rat} (hx:0<=x) (P7:x<=y) (n:Nat):eT y n<=eT x n+(y-x)*eD y n:=by
 induction n with
 | zero=>show y<=x+(y-x)*1;grind
 | succ n ih =>
  have p:=zC7 n;have hy:0<=y:=by grind
  have e1:=zDY x n;have e2:=zDY y n;have e3:=eD_mul y n;have t0:=zBK hx n;have mono:=zQ6 hx P7 n;obtain⟨h,hh⟩:∃ h,h=y-x:=⟨_,rfl⟩;have h0:0<=h:=by grind
  rw[<- hh] at ih ⊢;have m1:=YT ih (zP y);refine Rat.le_of_mul_le_mul_left (c:=2*((n:Rat)+1)+1) ?_ p
  show _<=(2*((n:Rat)+1)+1)*(eT x (n+1)+h*(2*y*eT y n))
  have k4:(2*((n:Rat)+1)+1)*(eT x (n+1)+h*(2*y*eT y n))=2*(x*x)*eT x n+(2*((n:Rat)+1)+1)*(h*(2*y*eT y n)):=by rw[<- e1];grind
  rw[k4,e2]
  have k5:y*y-x*x<=2*(h*y):=by
   have:=YV h0 h0;have:y*y-x*x=2*(h*y)-h*h:=by rw[hh];grind
   grind
  have k6:=YX k5 t0;have k7:=YT mono (YV (show (0:Rat)<=2 by grind) (YV h0 hy))
  have k8:=Rat.le_trans k6 k7;have k9:y*y*(h*eD y n)=h*y*((2*(n:Rat)+1)*eT y n):=by rw[<- e3];grind
  have dP:y*y*(eT x n+h*eD y n)=y*y*eT x n+y*y*(h*eD y n):=by grind
  rw[dP,k9] at m1;grind
theorem eS_up (x:Rat) (hx:0<=x) (M:Nat):eS x M<=eS x (M+1):=by have:=zBK hx M;show eS x M<=eS x M+eT x M;grind
theorem eS_back {x y:Rat} (hx:0<=x) (P7:x<=y) (M:Nat):eS y M<=eS x M+(y-x)*(1+2*y*eS y M):=by
 have hy:0<=y:=by grind
 have key:∀ m,eS y (m+1)<=eS x (m+1)+(y-x)*(1+2*y*eS y m):=λ m=>by
  induction m with
  | zero=>show 0+y<=0+x+(y-x)*(1+2*y*0);grind
  | succ n ih =>
   have g:=eT_back hx P7 (n+1);have e:eD y (n+1)=2*y*eT y n:=rfl;rw[e] at g
   show eS y (n+1)+eT y (n+1)<=eS x (n+1)+eT x (n+1)+(y-x)*(1+2*y*(eS y n+eT y n))
   grind
 cases M with
 | zero=>show (0:Rat)<=0+(y-x)*(1+2*y*0);grind
 | succ m =>
  have h1:=key m;have h2:=eS_up y hy m;have h3:=YT h2 (YV (show 0<=y-x by grind) (show 0<=2*y by grind))
  grind
structure Bnd (Y K V:Rat):Prop where
 y0:0<=Y
 k0:0<=K
 v1:1<=V
 s:∀ x,0<=x->x<=Y->∀ M,eS x M<=K
 v:∀ c,0<=c->c<=2*(Y*Y)->∀ M,ex (-c) M<=V
theorem bnd_ex {Y:Rat} (hY:0<=Y):∃ K V,Bnd Y K V:=by
 obtain⟨K,k0,hK⟩:=zJW hY;obtain⟨V,v0,hV⟩:=zDS (2*(Y*Y));have yy:=YV hY hY
 exact⟨K,V+1,hY,k0,by grind,λ x h0 h1 M=>Rat.le_trans (zQ4 h0 h1 M) (hK M),λ c h0 h1 M=>by
  have:=(hV M (-c) ⟨by grind,by grind⟩).2
  show E (-c) M<=_
  grind⟩
theorem eF_ex (x:Rat) (M:Nat):eF x M=eS x M*ex (-(x*x)) M:=rfl
theorem up_key {s s' h x Y K L C1:Rat} (hx:0<=x) (hh:0<h) (hY:x+h<=Y) (s0:0<=s) (sK:s<=K) (sK':s'<=K) (s'0:0<=s') (hL:L=1+2*(Y*K)) (hC:C1=2*K+2*(Y*L)) (hb:s'<=s+h*(1+2*(x+h)*s')):s'<=s+h+2*(x*h)*s+C1*(h*h):=by
 have K0:0<=K:=by grind
 have Y0:0<=Y:=by grind
 have a1:(x+h)*s'<=Y*K:=Rat.le_trans (YX hY s'0) (YT sK' Y0)
 have a2:s'<=s+h*L:=by
  have:=YT (show 1+2*(x+h)*s'<=L by grind) (YZ hh)
  grind
 have L0:0<=L:=by have:=YV Y0 K0;grind
 have a3:=YT a2 (show 0<=2*(x+h) by grind)
 have a4:=YT (show 1+2*(x+h)*s'<=1+2*(x+h)*(s+h*L) by grind) (YZ hh)
 have a5:=YX hY (YV (YZ hh) L0);have a6:=YT a5 (show 0<=2*h by grind)
 have a7:=YT sK (YV (YZ hh) (YZ hh));rw[hC];grind
theorem up_key2 {s s' h x Y K C1 C2 A t q:Rat} (hx:0<=x) (hh:0<h) (h1:h<=1) (hY:x+h<=Y) (s0:0<=s) (sK:s<=K) (c1:0<=C1) (hA:A=2*Y+1) (dL:C2=2*(A*A)) (ht:t=h*(2*x+h)) (q0:0<=q) (hq:q<=1-t+2*(t*t)) (hs:s'<=s+h+2*(x*h)*s+C1*(h*h)):s'*q<=s+h+(C1+C2*(K+1+2*(Y*K)+C1))*(h*h):=by
 have K0:0<=K:=by grind
 have Y0:0<=Y:=by grind
 have h0:=YZ hh;have pR:=YV h0 h0;have a0:0<=2*x+h:=by grind
 have aA:2*x+h<=A:=by grind
 have A0:0<=A:=by grind
 have aa:(2*x+h)*(2*x+h)<=A*A:=Rat.le_trans (YT aA a0) (YX aA A0)
 have tt:t*t<=A*A*(h*h):=by
  have:=YX aa pR;rw[ht];grind
 have bl:q<=1-2*(x*h)+C2*(h*h):=by
  have:t=2*(x*h)+h*h:=by rw[ht];grind
  rw[dL];grind
 have xB:0<=C2:=by rw[dL];have:=YV A0 A0;grind
 obtain⟨p,hp⟩:∃ p,p=s+h+2*(x*h)*s+C1*(h*h):=⟨_,rfl⟩;have xh:=YV hx h0;have xhs:=YV xh s0;have p0:0<=p:=by rw[hp];have:=YV c1 pR;grind
 have m1:=YX (show s'<=p by grind) q0
 have m2:=YT bl p0;refine Rat.le_trans m1 (Rat.le_trans m2 ?_)
 have b1:p*(1-2*(x*h))<=s+h+C1*(h*h):=by
  have n1:=YV xh h0;have n2:=YV xh xhs;have n3:=YV xh (YV c1 pR);rw[hp];grind
 have b2:p<=K+1+2*(Y*K)+C1:=by
  have n1:x*h<=Y:=by have:=YT h1 hx;grind
  have n2:=YX n1 s0;have n3:=YT sK Y0;have n4:h*h<=1:=by have:=YT h1 h0;grind
  have n5:=YT n4 c1;rw[hp];grind
 have b3:=YX b2 (YV xB pR);grind
theorem eF_up {Y K V:Rat} (B:Bnd Y K V):∃ C D,0<=C/\0<D/\D<=1/\∀ x h,0<=x->0<h->h<=D->x+h<=Y->∃ z,Null z/\∃ N:Nat,∀ M,N<=M->eF (x+h) M<=eF x M+h*ex (-(x*x)) M+C*(h*h)+z M:=by
 obtain⟨L,hL⟩:∃ L,L=1+2*(Y*K):=⟨_,rfl⟩;obtain⟨C1,og⟩:∃ C1,C1=2*K+2*(Y*L):=⟨_,rfl⟩;obtain⟨A,hA⟩:∃ A,A=2*Y+1:=⟨_,rfl⟩;obtain⟨C2,dL⟩:∃ C2,C2=2*(A*A):=⟨_,rfl⟩;obtain⟨C3,sI⟩:∃ C3,C3=C1+C2*(K+1+2*(Y*K)+C1):=⟨_,rfl⟩;have y0:=B.y0;have k0:=B.k0;have v1:=B.v1;have yk:=YV y0 k0;have L0:0<=L:=by grind
 have yl:=YV y0 L0;have Er:0<=C1:=by grind
 have A0:0<=A:=by grind
 have A1:1<=A:=by grind
 have xB:0<=C2:=by rw[dL];have:=YV A0 A0;grind
 have NM:0<=C3:=by rw[sI];have:=YV xB (show 0<=K+1+2*(Y*K)+C1 by grind);grind
 have A4:0<4*A:=by grind
 have dm:1/(4*A)*(4*A)=1:=rdm A4;have d0:0<1/(4*A):=zK (by grind) A4
 refine⟨C3*V,1/(4*A),YV NM (by grind),d0,kF A4 (by grind),λ x h hx hh hD hY=>?_⟩
 have h1:h<=1:=Rat.le_trans hD (kF A4 (by grind))
 have hA4:h*A<=1/4:=by have:=YX hD A0;grind
 obtain⟨t,ht⟩:∃ t,t=h*(2*x+h):=⟨_,rfl⟩;have h0:=YZ hh;have t0:0<=t:=by rw[ht];exact YV h0 (by grind)
 have t4:t<=1/4:=by
  have:=YT (show 2*x+h<=A by grind) h0
  rw[ht];grind
 have sqe : -((x+h)*(x+h)) = -(x*x) + -t:=by rw[ht];grind
 have eb:Bdd (eS (x+h)):=Bdd.of_le K 0 λ M _=>⟨by have:=zAA (x:=x+h) (by grind) M;grind,B.s _ (by grind) hY M⟩
 have hz:=((zC2 (-(x*x)) (-t)).neg).bmul eb;obtain⟨N,hN⟩:=zHA (-(x*x));refine⟨_,hz,N+2,λ M hM=>?_⟩
 have v0:=hN M (by omega)
 have vV:ex (-(x*x)) M<=V:=B.v _ (zP x) (by
  have xx:x*x<=Y*Y:=Rat.le_trans (YT (show x<=Y by grind) hx) (YX (show x<=Y by grind) y0)
  have:=YV y0 y0
  grind) M
 have q:=zF3 t0 t4 (M:=M) (by omega)
 have sb:=eS_back hx (show x<=x+h by grind) M
 rw[show x+h-x=h by grind] at sb
 have s1:=up_key (Y:=Y) (K:=K) (L:=L) (C1:=C1) hx hh hY (zAA hx M) (B.s x hx (by grind) M) (B.s _ (by grind) hY M) (zAA (by grind) M) hL og sb
 have s2:=up_key2 (q:=ex (-t) M) (A:=A) (C2:=C2) hx hh h1 hY (zAA hx M) (B.s x hx (by grind) M) Er hA dL ht q.1 q.2 s1
 rw[<- sI] at s2;have s3:=YX s2 v0;have pR:=YV h0 h0;have s4:=YT vV (YV NM pR);rw[eF_ex,eF_ex,sqe];generalize ex (-(x*x)) M=v at *;generalize ex (-t) M=q at *;generalize ex (-(x*x) + -t) M=vt at *;generalize eS (x+h) M=s' at *;generalize eS x M=s at *;clear hz eb sb s1;grind
end Go.Proofs.YtgmnknmjainabacGreat.Ex
namespace Go.Proofs.YtgmnknmjainabacGreat.Ex
theorem LeN.scale {f g:Nat->Rat} (h:LeN f g) {c:Rat} (hc:0<=c):LeN (λ M=>c*f M) (λ M=>c*g M):=by
 obtain⟨z,hz,k⟩:=h.null;exact LeN.of_null (hz.bmul (Bdd.const c)) 0 λ M _=>by have:=YT (k M) hc;grind
theorem eF_chord {Y K V a b:Rat} (B:Bnd Y K V) (ha:0<=a) (ny:a<=b) (hb:b<=Y):LeN (eF b) (λ M=>eF a M+(b-a)*ex (-(a*a)) M):=by
 obtain⟨C,D,c0,d0,_,up⟩:=eF_up B
 have d:=zDX (f:=λ x M=>eF x M-(x-a)*ex (-(a*a)) M) (a:=a) (b:=b) (C:=C) (D:=D) ny c0 d0 (λ x h h1 h2 h3 h4=>by
  obtain⟨z,hz,N,k⟩:=up x h (by grind) h2 h3 (by grind)
  have xx : -(x*x) <= -(a*a):=by
   have:=YT h1 ha;have:=YX h1 (show 0<=x by grind)
   grind
  obtain⟨z2,ao,k2⟩:=((zH3 xx).scale (YZ h2)).null
  exact⟨_,hz.add ao,N,λ M hM=>by have:=k M hM;have:=k2 M;grind⟩)
 intro e he
 obtain⟨N,k⟩:=d e he;exact⟨N,λ M hM=>by have:=k M hM;grind⟩
theorem zQ3 (M:Nat):eF 0 M=0:=by
 have h:∀ n,eT 0 n=0:=λ n=>by
  induction n with
  | zero=>rfl
  | succ n ih=>show _*eT 0 n=0;rw[ih];grind
 have:eS 0 M=0:=by
  unfold eS
  induction M with
  | zero=>rfl
  | succ n ih=>show S (eT 0) n+eT 0 n=0;rw[ih,h];grind
 rw[eF_ex,this];grind
theorem eF_left {Y K V x h:Rat} (B:Bnd Y K V) (hx:0<=x) (hh:0<=h) (j:Nat) (hj:(j:Rat)*h*x<=Y):LeN (eF ((j:Rat)*h*x)) (λ M=>S (λ i=>x*h*ex (-(((i:Rat)*h*x)*((i:Rat)*h*x))) M) j):=by
 induction j with
 | zero =>
  refine LeN.of_le 0 λ M _=>?_
  rw[show ((0:Nat):Rat)*h*x=0 by grind,zQ3]
  show (0:Rat)<=0
  grind
 | succ j ih =>
  have ec:((j+1:Nat):Rat)=(j:Rat)+1:=by push_cast;rfl
  have j0:(0:Rat)<=(j:Rat):=by exact_mod_cast Nat.zero_le j
  have nN:=YV hh hx;have jh:=YV (YV j0 hh) hx;rw[ec] at hj ⊢;have e:((j:Rat)+1)*h*x=(j:Rat)*h*x+h*x:=by grind
  have JY:=ih (by grind)
  have c:=eF_chord B jh (show (j:Rat)*h*x<=((j:Rat)+1)*h*x by grind) hj
  refine c.trans ?_;have:=JY.add (LeN.refl (λ M=>(((j:Rat)+1)*h*x-(j:Rat)*h*x)*ex (-(((j:Rat)*h*x)*((j:Rat)*h*x))) M))
  refine this.trans (LeN.of_le 0 λ M _=>?_)
  show _<=S (λ i=>x*h*ex (-(((i:Rat)*h*x)*((i:Rat)*h*x))) M) j+x*h*ex (-(((j:Rat)*h*x)*((j:Rat)*h*x))) M
  grind
def gG (h x:Rat) (n M:Nat):Rat:=S (λ i=>h*rI ((i:Rat)*h)*ex (-(x*x*(1+((i:Rat)*h)*((i:Rat)*h)))) M) n
def gE (h x:Rat) (n M:Nat):Rat:=S (λ i=>h*ex (-(((i:Rat)*h*x)*((i:Rat)*h*x))) M) n
theorem gG_pos {h:Rat} (hh:0<=h) (x:Rat) (n:Nat):∃ N:Nat,∀ M,N<=M->0<=gG h x n M:=by
 induction n with
 | zero=>exact⟨0,λ M _=>by show (0:Rat)<=0;grind⟩
 | succ n ih =>
  obtain⟨N1,k1⟩:=ih;obtain⟨N2,k2⟩:=zHA (-(x*x*(1+((n:Rat)*h)*((n:Rat)*h))));refine⟨N1+N2,λ M hM=>?_⟩
  have a1:=k1 M (by omega)
  have a2:=YV (YV hh (YZ (zTE ((n:Rat)*h)))) (k2 M (by omega))
  show 0<=gG h x n M+h*rI ((n:Rat)*h)*ex (-(x*x*(1+((n:Rat)*h)*((n:Rat)*h)))) M
  grind
theorem zS5 {Y K V x k s:Rat} (B:Bnd Y K V) (hx:0<=x) (hk:0<k) (k1:k<=1) (hY:x+k<=Y) (hs:0<=s) (hs1:s<=1) (hD:8*(k*(2*Y+1))<=1) :
  ∃ z,Null z/\∃ N:Nat,∀ M,N<=M->rI s*ex (-((x+k)*(x+k)*(1+s*s))) M<=rI s*ex (-(x*x*(1+s*s))) M-2*(x*k)*(ex (-(x*x)) M*ex (-((s*x)*(s*x))) M)+8*((2*Y+1)*(2*Y+1))*V*(k*k)+z M:=by
 obtain⟨c,hc⟩:∃ c,c=1+s*s:=⟨_,rfl⟩;have k0:=YZ hk;have y0:=B.y0;have ss:s*s<=1:=by have:=YT hs1 hs;grind
 have ss0:=zP s;have rc:rI s*c=1:=by rw[hc];exact zTD s
 have r0:=YZ (zTE s);have r1:=rI_le s;obtain⟨t,ht⟩:∃ t,t=k*(2*x+k)*c:=⟨_,rfl⟩;obtain⟨A,hA⟩:∃ A,A=2*Y+1:=⟨_,rfl⟩;have A0:0<=A:=by grind
 have aA:2*x+k<=A:=by grind
 have ka:k*(2*x+k)<=k*A:=YT aA k0;have QO:0<=k*(2*x+k):=YV k0 (by grind)
 have t0:0<=t:=by rw[ht];exact YV QO (by grind)
 have t2:t<=2*(k*A):=by
  have a:=YT (show c<=2 by grind) QO
  rw[ht];grind
 have t4:t<=1/4:=by rw[<- hA] at hD;grind
 obtain⟨z,hz,N1,h1⟩:=ex_step (a := -(x*x*c)) t0 t4;have mh:=(zC2 (-(x*x)) (-((s*x)*(s*x))));obtain⟨N2,h2⟩:=zHA (-(x*x*c));refine⟨_,hz.add (mh.bmul (Bdd.const (2*(x*k)))) |>.add hz.neg |>.add (hz.bmul (Bdd.const (rI s))),N1+N2,λ M hM=>?_⟩
 have a1:=h1 M (by omega)
 have v0:=h2 M (by omega)
 have vV:ex (-(x*x*c)) M<=V:=B.v _ (YV (zP x) (by grind)) (by
  have xx:x*x<=Y*Y:=Rat.le_trans (YT (show x<=Y by grind) hx) (YX (show x<=Y by grind) y0)
  have p1:=YT (show c<=2 by grind) (zP x)
  grind) M
 have e1 : -((x+k)*(x+k)*c) = -(x*x*c) + -t:=by rw[ht];grind
 have e2 : -(x*x) + -((s*x)*(s*x)) = -(x*x*c):=by rw[hc];grind
 rw[<- hc,e1];rw[e2];have m1:=YT a1 r0
 have tt:t*t<=4*(A*A)*(k*k):=by
  have p1:=YT t2 t0;have p2:=YX t2 (show 0<=2*(k*A) by have:=YV k0 A0;grind)
  grind
 have rt:2*(x*k)<=rI s*t:=by
  have:rI s*t=k*(2*x+k)*(rI s*c):=by rw[ht];grind
  rw[this,rc];have:=YV k0 k0;grind
 have m2:=YX rt v0;have tt0:=zP t;have m3:=YX r1 tt0;have m4:=YX (show 2*(rI s*(t*t))<=8*(A*A)*(k*k) by grind) v0
 have AA:=YV (YV A0 A0) (YV k0 k0);have m5:=YT vV (show 0<=8*(A*A*(k*k)) by grind)
 rw[<- hA];generalize ex (-(x*x*c)) M=v at *;generalize ex (-(x*x*c) + -t) M=vt at *;generalize ex (-(x*x)) M*ex (-((s*x)*(s*x))) M=w at *;clear mh hz h1 h2;grind
theorem gG_step {Y K V x k h:Rat} (B:Bnd Y K V) (hx:0<=x) (hk:0<k) (k1:k<=1) (hY:x+k<=Y) (hh:0<=h) (hD:8*(k*(2*Y+1))<=1) (n:Nat) (hn:(n:Rat)*h<=1) :
  ∃ z,Null z/\∃ N:Nat,∀ M,N<=M->gG h (x+k) n M<=gG h x n M-2*(x*k)*(ex (-(x*x)) M*gE h x n M)+(n:Rat)*h*(8*((2*Y+1)*(2*Y+1))*V*(k*k))+z M:=by
 induction n with
 | zero =>
  refine⟨_,null_zero,0,λ M _=>?_⟩
  show (0:Rat)<=0-2*(x*k)*(ex (-(x*x)) M*0)+((0:Nat):Rat)*h*_+0
  grind
 | succ n ih =>
  have ec:((n+1:Nat):Rat)=(n:Rat)+1:=by push_cast;rfl
  have n0:(0:Rat)<=(n:Rat):=by exact_mod_cast Nat.zero_le n
  rw[ec] at hn;obtain⟨z1,H6,N1,h1⟩:=ih (by grind)
  obtain⟨z2,ao,N2,h2⟩:=zS5 B hx hk k1 hY (s:=(n:Rat)*h) (YV n0 hh) (by grind) hD
  refine⟨_,H6.add (ao.bmul (Bdd.const h)),N1+N2,λ M hM=>?_⟩
  have a1:=h1 M (by omega)
  have a2:=YT (h2 M (by omega)) hh
  show gG h (x+k) n M+h*rI ((n:Rat)*h)*ex (-((x+k)*(x+k)*(1+((n:Rat)*h)*((n:Rat)*h)))) M<=gG h x n M+h*rI ((n:Rat)*h)*ex (-(x*x*(1+((n:Rat)*h)*((n:Rat)*h)))) M-2*(x*k)*(ex (-(x*x)) M*(gE h x n M+h*ex (-(((n:Rat)*h*x)*((n:Rat)*h*x))) M))+((n+1:Nat):Rat)*h*(8*((2*Y+1)*(2*Y+1))*V*(k*k))+_
  rw[ec];grind
theorem gE_mul (h x:Rat) (n M:Nat):S (λ i=>x*h*ex (-(((i:Rat)*h*x)*((i:Rat)*h*x))) M) n=x*gE h x n M:=by
 unfold gE;rw[<- zGU];exact yT n λ i _=>by grind
theorem eF_sum {x h:Rat} (hx:0<=x) (hh:0<h) (n:Nat) (hn:(n:Rat)*h=1):LeN (λ M=>eF x M*eF x M) (λ _=>S (λ i=>h*rI ((i:Rat)*h)) n):=by
 obtain⟨K,V,B⟩:=bnd_ex hx;obtain⟨C,D,c0,d0,d1,up⟩:=eF_up B;have h0:=YZ hh;have k0:=B.k0;have v1:=B.v1;have A1:0<8*(2*x+1):=by grind
 have dm:1/(8*(2*x+1))*(8*(2*x+1))=1:=rdm A1;have dp:0<1/(8*(2*x+1)):=zK (by grind) A1
 obtain⟨D2,p9,D2a,NP⟩:∃ D2:Rat,0<D2/\D2<=D/\D2<=1/(8*(2*x+1)):=by
  by_cases hc:D<=1/(8*(2*x+1))
  ·exact⟨D,d0,by grind,hc⟩
  ·exact⟨_,dp,by grind,by grind⟩
 obtain⟨F,hF⟩:∃ F,F=K*V:=⟨_,rfl⟩;have F0:0<=F:=by rw[hF];exact YV k0 (by grind)
 obtain⟨C4,sJ⟩:∃ C4,C4=V*V+2*(C*(F+V))+C*C:=⟨_,rfl⟩
 have C40:0<=C4:=by
  have a:=YV (show 0<=V by grind) (show 0<=V by grind)
  have b:=YV c0 (show 0<=F+V by grind)
  have c:=YV c0 c0;grind
 obtain⟨C5,Ij⟩:∃ C5,C5=8*((2*x+1)*(2*x+1))*V:=⟨_,rfl⟩;have C50:0<=C5:=by rw[Ij];exact YV (by have:=YV (show 0<=2*x+1 by grind) (show 0<=2*x+1 by grind);grind) (by grind)
 have d:=zDX (f:=λ y M=>eF y M*eF y M+gG h y n M) (a:=0) (b:=x) (C:=C4+C5) (D:=D2) hx (by grind) p9 (λ y k hy hk hkD QG=>by
  obtain⟨z1,H6,N1,p1⟩:=up y k hy hk (by grind) QG
  have k1:k<=1:=by grind
  have kq:=YZ hk;obtain⟨z2,ao,N2,p2⟩:=gG_step B hy hk k1 QG h0 (by have:=YX (Rat.le_trans hkD NP) (YZ A1);grind) n (by grind)
  have left:=eF_left (x:=y) B hy h0 n (by rw[hn];grind)
  rw[hn,show 1*y=y by grind] at left
  obtain⟨z3,CT,p3⟩:=left.null;obtain⟨N3,ev⟩:=zHA (-(y*y));obtain⟨N4,Pf⟩:=zHA (-((y+k)*(y+k)))
  have bF:Bdd (eF y):=by
   have:Bdd (eS y):=Bdd.of_le K 0 λ M _=>⟨by have:=zAA hy M;grind,B.s _ hy (by grind) M⟩
   exact this.mul (yD _)
  have bV:=yD (-(y*y));have bp:Bdd (λ M=>eF y M+k*ex (-(y*y)) M+C*(k*k)):=(bF.add ((Bdd.const k).mul bV)).add (Bdd.const _)
  have q1:=H6.bmul (bp.add bp);have q2:=H6.bmul H6.bdd;have q3:=(CT.bmul bV).bmul (Bdd.const (2*k));refine⟨_,((q1.add q2).add q3).add ao,N1+N2+N3+N4,λ M hM=>?_⟩
  have a1:=p1 M (by omega)
  have a2:=p2 M (by omega)
  have a3:=p3 M;rw[gE_mul] at a3;have v0:=ev M (by omega)
  have e0:0<=eF (y+k) M:=YV (zAA (by grind) M) (Pf M (by omega))
  have f0:0<=eF y M:=YV (zAA hy M) v0
  have vV:ex (-(y*y)) M<=V:=B.v _ (zP y) (by
   have xx:y*y<=x*x:=Rat.le_trans (YT (show y<=x by grind) hy) (YX (show y<=x by grind) hx)
   have:=YV hx hx
   grind) M
  have fF:eF y M<=F:=by
   rw[hF];exact Rat.le_trans (YX (B.s y hy (by grind) M) v0) (YT vV k0)
  rw[hn,<- Ij] at a2;generalize eF (y+k) M=f' at *;generalize eF y M=f at *;generalize ex (-(y*y)) M=v at *;generalize gG h (y+k) n M=g' at *;generalize gG h y n M=g at *;generalize gE h y n M=u at *;generalize z1 M=z1 at *;generalize z2 M=z2 at *;generalize z3 M=z3 at *;clear H6 ao CT q1 q2 q3 bp bF bV left p1 p2 p3 up ev Pf;obtain⟨p,hp⟩:∃ p,p=f+k*v+C*(k*k):=⟨_,rfl⟩;have kk:=YV kq kq;have kv:=YV kq v0;have ckk:=YV c0 kk;have p0:0<=p:=by grind
  have b1:f'<=p+z1:=by grind
  have b2:f'*f'<=(p+z1)*(p+z1):=Rat.le_trans (YT b1 e0) (YX b1 (show 0<=p+z1 by grind))
  have b3:p*p<=f*f+2*(k*v*f)+C4*(k*k):=by
   have kk1:k*k<=1:=by have:=YT k1 kq;grind
   have c1:v*v<=V*V:=Rat.le_trans (YT vV v0) (YX vV (show 0<=V by grind))
   have c2:=YX c1 kk;have kvV:k*v<=V:=by have:=YX k1 v0;grind
   have c3:=YT (show f+k*v<=F+V by grind) ckk
   have c4:=YT kk1 (YV (YV c0 c0) kk);rw[hp,sJ];grind
  have b4:=YT a3 kv;rw[<- hp];have r1:(p+z1)*(p+z1)=p*p+2*(z1*p)+z1*z1:=by grind
  have r2:k*v*(y*u+z3)=k*v*(y*u)+k*v*z3:=by grind
  have r3:2*(y*k)*(v*u)=2*(k*v*(y*u)):=by grind
  have r4:z1*(p+p)+z1*z1+z3*v*(2*k)+z2=2*(z1*p)+z1*z1+2*(k*v*z3)+z2:=by grind
  have r5:(C4+C5)*(k*k)=C4*(k*k)+C5*(k*k):=by grind
  rw[r1] at b2;rw[r2] at b4;rw[r3,Rat.one_mul] at a2;rw[r4,r5];generalize k*v*(y*u)=w1 at *;generalize k*v*z3=w2 at *;generalize z1*p=w3 at *;generalize z1*z1=w4 at *;generalize C4*(k*k)=w5 at *;generalize C5*(k*k)=w6 at *;generalize k*v*f=w7 at *;generalize p*p=w8 at *;generalize f'*f'=w9 at *;generalize f*f=iE at *;clear vV fF sJ hF Ij dm r1 r2 r3 r4 r5 NP A1 dp hn
  grind)
 obtain⟨N2,pos⟩:=gG_pos h0 x n
 intro e he
 obtain⟨N,k⟩:=d e he;refine⟨N+N2+1,λ M hM=>?_⟩
 have a1:eF x M*eF x M+gG h x n M<=eF 0 M*eF 0 M+gG h 0 n M+e:=k M (by omega)
 have a2:=pos M (by omega)
 show eF x M*eF x M<=S (λ i=>h*rI ((i:Rat)*h)) n+e
 have a3:gG h 0 n M=S (λ i=>h*rI ((i:Rat)*h)) n:=yT n λ i _=>by
  have e1 : -(0*0*(1+((i:Rat)*h)*((i:Rat)*h)))=(0:Rat):=by grind
  have e2:ex 0 M=1:=by
   obtain⟨m,rfl⟩:∃ m,M=m+1:=⟨M-1,by omega⟩
   exact E_zero m
  rw[e1,e2];grind
 rw[a3,zQ3] at a1;grind
theorem eF_pi {x:Rat} (hx:0<=x):LeN (λ M=>4*(eF x M*eF x M)) piS:=by
 refine LeN.lim (C:=64) (by grind) λ n=>?_
 have n0:(0:Rat)<2*((n:Rat)+1):=by have:=zBN n;grind
 obtain⟨h,h0,hh⟩:=zRS (2*((n:Rat)+1)) n0;have e:((2*(n+1):Nat):Rat)=2*((n:Rat)+1):=by push_cast;rfl
 have a:=(eF_sum hx h0 (2*(n+1)) (by rw[e];grind)).scale (show (0:Rat)<=4 by grind)
 exact a.trans (zTX n hh)
end Go.Proofs.YtgmnknmjainabacGreat.Ex
namespace Go.Proofs.YtgmnknmjainabacGreat
open Ex
theorem zTH (p:Rat) (hp:1<=p) (k:Nat):∃ r:Rat,1<=r/\r*r<=p/\p<=(r+1/((k:Rat)+1))*(r+1/((k:Rat)+1)):=by
 obtain⟨n,hn⟩:=kQ p;have k0:(0:Rat)<(k:Rat)+1:=zBN k;have u0:(0:Rat)<1/((k:Rat)+1):=zK (by grind) k0
 have um:1/((k:Rat)+1)*((k:Rat)+1)=1:=rdm k0;obtain⟨u,hu⟩:∃ u,u=1/((k:Rat)+1):=⟨_,rfl⟩;rw[<- hu] at u0 um ⊢
 have top:p<=(1+((n*(k+1):Nat):Rat)*u)*(1+((n*(k+1):Nat):Rat)*u):=by
  have e:((n*(k+1):Nat):Rat)*u=(n:Rat):=by
   have:((n*(k+1):Nat):Rat)=(n:Rat)*((k:Rat)+1):=by push_cast;rfl
   rw[this];grind
  rw[e];have n0:(0:Rat)<=(n:Rat):=by exact_mod_cast Nat.zero_le n
  have:=YV n0 n0;have:=hn.2;grind
 obtain⟨j,_,j1,j2⟩:=zBW (p:=λ j=>p<=(1+(j:Rat)*u)*(1+(j:Rat)*u)) (K:=n*(k+1)) top
 cases j with
 | zero =>
  have e:(1+((0:Nat):Rat)*u)=1:=by grind
  rw[e] at j1;exact⟨1,by grind,by grind,by have:=YV (YZ u0) (YZ u0);grind⟩
 | succ i =>
  have h:=j2 i (Nat.lt_succ_self i);have i0:(0:Rat)<=(i:Rat):=by exact_mod_cast Nat.zero_le i
  have iu:=YV i0 (YZ u0);refine⟨1+(i:Rat)*u,by grind,by grind,?_⟩
  have e:((i+1:Nat):Rat)=(i:Rat)+1:=by push_cast;rfl
  rw[e] at j1;have e2:1+((i:Rat)+1)*u=1+(i:Rat)*u+u:=by grind
  rw[e2] at j1;exact j1
theorem zST (K:Rat) (hK:0<=K):Null (λ M=>K*(1/((M:Rat)+1))):=λ e he=>by
 obtain⟨n,hn⟩:=kQ (K/e);refine⟨n,λ M hM=>?_⟩
 have m0:(0:Rat)<(M:Rat)+1:=zBN M;have u0:(0:Rat)<1/((M:Rat)+1):=zK (by grind) m0
 have um:1/((M:Rat)+1)*((M:Rat)+1)=1:=rdm m0;have hm:(n:Rat)<=(M:Rat):=by exact_mod_cast hM
 have ke:K/e*e=K:=rdm he;have h1:=hn.2;have h2:=YX h1 (YZ he);rw[ke] at h2;have h3:=YV hK (YZ u0);refine⟨by simp only[];grind,?_⟩
 have h4:=YX (show K<=((M:Rat)+1)*e by
  have:=YX hm (YZ he)
  grind) (YZ u0)
 have e5:((M:Rat)+1)*e*(1/((M:Rat)+1))=(1/((M:Rat)+1)*((M:Rat)+1))*e:=by grind
 rw[e5,um] at h4;grind
structure zBJ (P R:Nat->Rat):Prop where
 one:∀ M,1<=R M
 sq:Null (λ M=>R M*R M-P M)
 bdd:Bdd R
theorem zN7 {P:Nat->Rat} {M0:Nat} (hP:∀ M,M0<=M->1<=P M) (hb:Bdd P):∃ R,zBJ P R:=by
 have h:∀ M,∃ r:Rat,1<=r/\(M0<=M->r*r<=P M/\P M<=(r+1/((M:Rat)+1))*(r+1/((M:Rat)+1))):=λ M=>by
  by_cases hM:M0<=M
  ·obtain⟨r,r1,r2,r3⟩:=zTH (P M) (hP M hM) M
   exact⟨r,r1,λ _=>⟨r2,r3⟩⟩
  ·exact⟨1,by grind,λ h=>absurd h hM⟩
 have hR:=λ M=>Classical.choose_spec (h M)
 obtain⟨R,eR⟩:∃ R:Nat->Rat,R=λ M=>Classical.choose (h M):=⟨_,rfl⟩
 have oq:∀ M,1<=R M/\(M0<=M->R M*R M<=P M/\P M<=(R M+1/((M:Rat)+1))*(R M+1/((M:Rat)+1))):=λ M=>by rw[eR];exact hR M
 clear hR eR h;obtain⟨K,N,K0,hK⟩:=hb
 have PM:∀ M,M0+N<=M->R M<=K:=λ M hM=>by
  have h1:=(oq M).1;have h2:=((oq M).2 (by omega)).1
  have h3:=(hK M (by omega)).2
  have h4:=YT h1 (show 0<=R M by grind)
  grind
 refine⟨R,λ M=>(oq M).1,?_,Bdd.of_le K (M0+N) λ M hM=>⟨by have:=(oq M).1;grind,PM M hM⟩⟩
 refine Null.of_le (zST (2*K+1) (by grind)) (M0+N) λ M hM=>?_
 obtain⟨h1,h2⟩:=oq M;obtain⟨h2,h3⟩:=h2 (by omega)
 have h4:=PM M hM;have m0:(0:Rat)<(M:Rat)+1:=zBN M;have u0:(0:Rat)<1/((M:Rat)+1):=zK (by grind) m0
 have u1:1/((M:Rat)+1)<=1:=kF m0 (by (have:(0:Rat)<=(M:Rat):=(by exact_mod_cast Nat.zero_le M));grind)
 generalize 1/((M:Rat)+1)=u at *;have uu:=YT u1 (YZ u0);have ru:=YX h4 (YZ u0);have e:(R M+u)*(R M+u)=R M*R M+2*(R M*u)+u*u:=by grind
 rw[e] at h3;constructor<;>grind
theorem root_iv {B:Nat} {a:Int × Int} {P R:Nat->Rat} (h:Iv B a P) (hR:zBJ P R) {r t:Int} (hr:r*r<=a.1*Q B) (JG:0<=t) (ht:a.2*Q B<=t*t):Iv B (r,t) R:=by
 have q:=jM B
 have key:∀ x:Int,((x:Rat)/(Q B:Rat))*((x:Rat)/(Q B:Rat))*((Q B:Rat)*(Q B:Rat))=(x:Rat)*(x:Rat):=λ x=>by
  have:=rdm (a:=(x:Rat)) q;have e:((x:Rat)/(Q B:Rat))*((x:Rat)/(Q B:Rat))*((Q B:Rat)*(Q B:Rat))=((x:Rat)/(Q B:Rat)*(Q B:Rat))*((x:Rat)/(Q B:Rat)*(Q B:Rat)):=by grind
  rw[e,this]
 have qq:(0:Rat)<(Q B:Rat)*(Q B:Rat):=Rat.mul_pos q q
 have g1:((r:Rat)/(Q B:Rat))*((r:Rat)/(Q B:Rat))<=(a.1:Rat)/(Q B:Rat):=by
  refine Rat.le_of_mul_le_mul_right (c:=(Q B:Rat)*(Q B:Rat)) ?_ qq;rw[key];have e:=rdm (a:=(a.1:Rat)) q
  have e2:(a.1:Rat)/(Q B:Rat)*((Q B:Rat)*(Q B:Rat))=(a.1:Rat)*(Q B:Rat):=by
   rw[<- Rat.mul_assoc,e]
  rw[e2];have:=jF hr;rw[Ze,Ze] at this;exact this
 have g2:(a.2:Rat)/(Q B:Rat)<=((t:Rat)/(Q B:Rat))*((t:Rat)/(Q B:Rat)):=by
  refine Rat.le_of_mul_le_mul_right (c:=(Q B:Rat)*(Q B:Rat)) ?_ qq;rw[key];have e:=rdm (a:=(a.2:Rat)) q
  have e2:(a.2:Rat)/(Q B:Rat)*((Q B:Rat)*(Q B:Rat))=(a.2:Rat)*(Q B:Rat):=by
   rw[<- Rat.mul_assoc,e]
  rw[e2];have:=jF ht;rw[Ze,Ze] at this;exact this
 have t0:(0:Rat)<=(t:Rat)/(Q B:Rat):=kG q (by
  have:(0:Rat)<=(t:Rat):=by exact_mod_cast JG
  grind)
 intro e0 Fe
 obtain⟨e,he,Yb,XW⟩:∃ e:Rat,0<e/\2*e<=e0/\e<=1/4:=by
  by_cases hc:e0<=1/2
  ·exact⟨e0/2,by grind,by grind,by grind⟩
  ·exact⟨1/4,by grind,by grind,by grind⟩
 obtain⟨N1,k1⟩:=h e he;obtain⟨N2,k2⟩:=hR.sq e he;refine⟨N1+N2,λ M hM=>?_⟩
 obtain⟨a1,a2⟩:=k1 M (by omega)
 obtain⟨b1,b2⟩:=k2 M (by omega)
 have R1:=hR.one M;simp only[] at b1 b2 ⊢;generalize (r:Rat)/(Q B:Rat)=x at *;generalize (t:Rat)/(Q B:Rat)=y at *;generalize R M=z at *;clear k1 k2 key h;constructor
 ·refine Rat.not_lt.1 λ E2=>?_
  have hx:z+e<=x:=by grind
  have m1:=YT hx (show 0<=z+e by grind)
  have m2:=YX hx (show 0<=x by grind)
  have m3:=YT R1 (YZ he);have m4:=Rat.mul_pos he he;grind
 ·refine Rat.not_lt.1 λ E2=>?_
  have hy:y<=z-2*e:=by grind
  have m1:=YT hy t0;have m2:=YX hy (show 0<=z-2*e by grind)
  have m3:=YT R1 (YZ he);have m4:=YT XW (YZ he);grind
end Go.Proofs.YtgmnknmjainabacGreat
namespace Go.Proofs.YtgmnknmjainabacGreat.Ex
def erfS (R:Nat->Rat) (x:Rat) (M:Nat):Rat:=2*eS x M/(R M*ex (x*x) M)
theorem piS_bdd:Bdd piS:=by
 obtain⟨K,k0,h⟩:=zPN 0;have h1:=(zMS (m:=5) (by omega) 0 0).bdd
 have h2:=(zMS (m:=239) (by omega) 0 0).bdd
 exact ((Bdd.const 16).mul h1).sub ((Bdd.const 4).mul h2)
theorem piR_ex:∃ R,zBJ piS R:=zN7 (M0:=2) (λ M hM=>by have:=pi_ge hM;grind) piS_bdd
theorem zRD (x:Rat) {M:Nat} (hM:1<=M):1<=ex (x*x) M:=E_one (zP x) hM
theorem zEW {a b:Rat} (ha:0<=a) (hb:1<=b):0<=a/b/\a/b<=a:=by
 have b0:0<b:=by grind
 refine⟨kG b0 (by grind),kF b0 ?_⟩
 have:=YT hb ha;grind
theorem erf_near (x:Rat) (hx:0<=x):Null (λ M=>eS x M/ex (x*x) M-eF x M):=by
 obtain⟨K,k0,hK⟩:=zJW hx;have hn:=((zC2 (x*x) (-(x*x))));have e0:x*x + -(x*x)=0:=by grind
 rw[e0] at hn
 have hb:Bdd (λ M=>eS x M/ex (x*x) M):=Bdd.of_le K 1 λ M hM=>by
  have:=zEW (zAA hx M) (zRD x hM);have:=hK M;constructor<;>grind
 refine (hn.bmul hb).neg.of_eq_from 1 λ M hM=>?_
 have h1:=zRD x hM;have p:0<ex (x*x) M:=by grind
 have e1:eS x M/ex (x*x) M*ex (x*x) M=eS x M:=rdm p
 have e2:ex 0 M=1:=by
  obtain⟨m,rfl⟩:∃ m,M=m+1:=⟨M-1,by omega⟩
  exact E_zero m
 rw[eF_ex,e2];generalize eS x M/ex (x*x) M=q at *;rw[<- e1];grind
theorem zIB {R:Nat->Rat} (h:∀ M,1<=R M):Bdd (λ M=>1/R M):=Bdd.of_le 1 0 λ M _=>by
 have:=zEW (a:=1) (by grind) (h M)
 constructor<;>grind
theorem erf_eq {P R:Nat->Rat} (h:zBJ P R) (x:Rat) {M:Nat} (hM:1<=M):erfS R x M=eS x M/ex (x*x) M*(2*(1/R M)):=by
 have r1:=h.one M;have h1:=zRD x hM;have p1:0<R M:=by grind
 have p2:0<ex (x*x) M:=by grind
 have p3:0<R M*ex (x*x) M:=Rat.mul_pos p1 p2;have a:=rdm (a:=2*eS x M) p3;have b:=rdm (a:=eS x M) p2;have c:=rdm (a:=1) p1;unfold erfS
 have lhs:eS x M/ex (x*x) M*(2*(1/R M))*(R M*ex (x*x) M)=2*eS x M:=by
  have:eS x M/ex (x*x) M*(2*(1/R M))*(R M*ex (x*x) M)=2*((eS x M/ex (x*x) M*ex (x*x) M)*(1/R M*R M)):=by grind
  rw[this,b,c];grind
 exact Rat.le_antisymm (Rat.le_of_mul_le_mul_right (by rw[lhs,a];exact Rat.le_refl) p3) (Rat.le_of_mul_le_mul_right (by rw[lhs,a];exact Rat.le_refl) p3)
theorem zF1 {P R:Nat->Rat} (h:zBJ P R) (x:Rat) (hx:0<=x):Null (λ M=>erfS R x M-eF x M*(2*(1/R M))):=by
 have hb:=(Bdd.const 2).mul (zIB h.one);refine ((erf_near x hx).bmul hb).of_eq_from 1 λ M hM=>?_
 rw[erf_eq h x hM];grind
theorem erf_mono {P R:Nat->Rat} (h:zBJ P R) {x y:Rat} (hx:0<=x) (P7:x<=y):LeN (erfS R x) (erfS R y):=by
 obtain⟨z,hz,N,k⟩:=eF_mono hx P7;have hb:=(Bdd.const 2).mul (zIB h.one);have n1:=zF1 h x hx;have n2:=zF1 h y (by grind)
 refine n1.leN.trans (LeN.trans ?_ n2.symm.leN);refine LeN.of_null (hz.bmul hb) N λ M hM=>?_
 have:=k M hM;have i0:=(zEW (a:=1) (by grind) (h.one M)).1
 have:=YX this (show 0<=2*(1/R M) by grind)
 grind
theorem eF_root {R:Nat->Rat} (h:zBJ piS R) {x:Rat} (hx:0<=x):LeN (λ M=>2*eF x M) R:=by
 intro e he
 obtain⟨N1,k1⟩:=eF_pi hx e he;obtain⟨N2,k2⟩:=h.sq e he;refine⟨N1+N2,λ M hM=>?_⟩
 have a1:=k1 M (by omega)
 have a2:=(k2 M (by omega)).1
 have r1:=h.one M;simp only[] at *;refine Rat.not_lt.1 λ E2=>?_
 generalize eF x M=f at *;generalize R M=r at *;generalize piS M=p at *;have m1:=Rat.mul_lt_mul_of_pos_left E2 (show 0<r+e by grind)
 have m2:=Rat.mul_lt_mul_of_pos_right E2 (show 0<2*f by grind)
 have m3:=YT r1 (YZ he);have m4:=Rat.mul_pos he he;grind
theorem erf_one {R:Nat->Rat} (h:zBJ piS R) {x:Rat} (hx:0<=x):LeN (erfS R x) (λ _=>1):=by
 refine (zF1 h x hx).leN.trans ?_;obtain⟨z,hz,k⟩:=(eF_root h hx).null;refine LeN.of_null (hz.bmul (zIB h.one)) 0 λ M _=>?_
 have r1:=h.one M;have p1:0<R M:=by grind
 have c:=rdm (a:=1) p1;have i0:=(zEW (a:=1) (by grind) r1).1
 have:=YX (k M) i0;grind
end Go.Proofs.YtgmnknmjainabacGreat.Ex
