/-
  Its own texts.
-/
import Derived.Test.YtgmnknmjainababGreatK13
set_option maxRecDepth 100000
set_option maxHeartbeats 40000000
set_option linter.unnecessarySimpa false
set_option linter.unusedSimpArgs false
set_option linter.unusedVariables false
namespace Go.Proofs.YtgmnknmjainababGreat
open Ex
def mx (F h:Int):Int:=if F<=h then h else F
theorem mx_ge (F h:Int):h<=mx F h/\F<=mx F h:=by unfold mx;split<;>omega
theorem mx_le {F h:Int} (hF:0<=F) (hh:0<=h):mx F h<=h+F:=by unfold mx;split<;>omega
theorem zCB {a:Int × Int} {u v:Int} (hv:0<v) (hu:0<=u) (h0:0<=a.1) (hl:a.1<=a.2):0<=(zE a u v).1/\(zE a u v).1<=(zE a u v).2/\a.2*u<=(zE a u v).2*v/\((zE a u v).2-1)*v<a.2*u/\((zE a u v).2-(zE a u v).1-2)*v<=(a.2-a.1)*u/\(zE a u v).1*v<=a.1*u:=by
 have f1:=kV (a.1*u) hv;have f2:=kV (-(a.2*u)) hv;have f3:=zCP (a.2*u) hv;have f4:=zLK (a.1*u) hv;have e1:(zE a u v).1=a.1*u/v:=rfl;have e2:(zE a u v).2 = -(-(a.2*u)/v):=rfl;rw[<- e1] at f1 f4;rw[<- e2] at f3
 have c2:((zE a u v).2-1)*v<a.2*u:=by
  have:(-(a.2*u)/v+1)*v = -(((zE a u v).2-1)*v):=by rw[e2];grind
  omega
 refine⟨by rw[e1];exact Int.ediv_nonneg (Yb h0 hu) (by omega),kR hl hv hu,f3,c2,?_,f4⟩
 have r1:((zE a u v).2-(zE a u v).1-2)*v=((zE a u v).2-1)*v-((zE a u v).1+1)*v:=by grind
 have r2:(a.2-a.1)*u=a.2*u-a.1*u:=by grind
 omega
theorem sc_w {a:Int × Int} {u v F c:Int} (hv:0<v) (hu:0<=u) (h0:0<=a.1) (hl:a.1<=a.2) (hF:0<F) (hc:0<=c) (hw:(a.2-a.1)*F<=c*mx F a.2) (hr:F<=a.2\/u<=v):((zE a u v).2-(zE a u v).1)*F<=(c+2)*mx F (zE a u v).2:=by
 obtain⟨s0,s1,s2,s3,s4,s5⟩:=zCB hv hu h0 hl;obtain⟨m1,m2⟩:=mx_ge F (zE a u v).2;generalize (zE a u v).2=h1 at *;generalize (zE a u v).1=l1 at *;generalize mx F h1=M at *
 have key:(h1-l1-2)*F<=c*M:=by
  have k1:=XK s4 (show 0<=F by omega)
  have k2:=XK hw hu;refine Int.le_of_mul_le_mul_right (a:=v) ?_ hv;have r1:(h1-l1-2)*F*v=(h1-l1-2)*v*F:=by grind
  have r2:(a.2-a.1)*u*F=(a.2-a.1)*F*u:=by grind
  have k3:mx F a.2*u<=M*v:=by
   unfold mx;split
   ·exact Int.le_trans s2 (XK m1 (by omega))
   ·rcases hr with h|h
    ·omega
    ·exact Int.le_trans (XR h (by omega)) (XK m2 (by omega))
  have k4:=XR k3 hc;have r3:c*mx F a.2*u=c*(mx F a.2*u):=by grind
  have r4:c*M*v=c*(M*v):=by grind
  omega
 have r5:(h1-l1-2)*F=(h1-l1)*F-2*F:=by grind
 have r6:(c+2)*M=c*M+2*M:=by grind
 omega
structure zJ6 (n d:Int) (b x:Nat):Prop where
 n0:0<n
 d0:0<d
 dd:d<=2199023255552
 up:n<=201*d
 b0:8<=b
 b1:b<=400
 x2:2*n<=(x:Int)*d
 xb:2*b+64<=x
 x1:x<=1300
structure LmSt where
 T:Int × Int
 U:Int × Int
 e:Nat
def lmT (n d:Int) (x k:Nat) (T:Int × Int):Int × Int:=zE T ((x:Int)*d) (n+((k:Int)+1)*d)
def zBQ (n d:Int) (x m k:Nat) (s:LmSt):LmSt :=
 if Q (m+128)<=(jJ s.U (lmT n d x k s.T)).2 then ⟨zE (lmT n d x k s.T) 1 (Q 64),zE (jJ s.U (lmT n d x k s.T)) 1 (Q 64),s.e+1⟩ else ⟨lmT n d x k s.T,jJ s.U (lmT n d x k s.T),s.e⟩
def lmS (n d:Int) (x m:Nat):Nat->LmSt
 | 0=>⟨ofI d n m,ofI d n m,0⟩
 | k+1=>zBQ n d x m k (lmS n d x m k)
structure LmOk (n d:Int) (x m k:Nat) (s:LmSt):Prop where
 t0:0<=s.T.1
 tl:s.T.1<=s.T.2
 u1:1048576<=s.U.1
 ul:s.U.1<=s.U.2
 tu:s.T.2<=s.U.2
 us:s.U.2<Q (m+128)
 rs:n+(k:Int)*d<=(x:Int)*d->Q (m-9)<=s.T.2/\s.U.2<=(2*(k:Int)+2)*s.T.2
 tw:(s.T.2-s.T.1)*Q (m-9)<=(4*(k:Int)+1)*mx (Q (m-9)) s.T.2
 uw:(s.U.2-s.U.1)*Q (m-9)<=(4*(k:Int)+1)*(s.U.2+((k:Int)+1)*Q (m-9))
theorem lm_zero {n d:Int} {b x m:Nat} (h:zJ6 n d b x) (hm:m=b+128):LmOk n d x m 0 (lmS n d x m 0):=by
 have n0:=h.n0;have d0:=h.d0;have up:=h.up;have F:=zG (m-9)
 have e8:Q m=256*Q (m-8):=by
  have e:Q (m-8+8)=Q (m-8)*Q 8:=jD _ _;have e2:m-8+8=m:=by omega
  have e3:Q 8=256:=rfl;rw[e2,e3] at e;omega
 have e9:Q (m-8)=2*Q (m-9):=by
  have:m-8=(m-9)+1:=by omega
  rw[this];rfl
 have lo:Q (m-8)<=(ofI d n m).1:=by
  refine Int.le_ediv_of_mul_le n0 ?_;have a:=XR up (show 0<=Q (m-8) by omega)
  have b':=Yb (show 0<=Q (m-8) by omega) (show 0<=d by omega)
  have r1:Q (m-8)*(201*d)=201*(Q (m-8)*d):=by grind
  have r2:d*(256*Q (m-8))=256*(Q (m-8)*d):=by grind
  rw[e8,r2];omega
 have le:=zGB (n:=d) n0 m;have wd:=zE1 (n:=d) n0 m
 have hi:(ofI d n m).2<=Q (m+41):=by
  have Mx:Q (m+41)=Q m*Q 41:=jD m 41;have c41:Q 41=2199023255552:=rfl;have qm:=zG m
  have r:=(jA (x:=d*Q m) (m:=Q (m+41)) (q:=n) n0 (by
   have:=Yb (show 0<=d by omega) (show 0<=Q m by omega)
   have:=Yb (show 0<=Q (m+41) by have:=zG (m+41);omega) (show 0<=n by omega)
   omega) (by
   have m1:=XK h.dd (show 0<=Q m by omega)
   have m2:=XR (show 1<=n by omega) (show 0<=Q (m+41) by have:=zG (m+41);omega)
   rw[Mx,c41] at m2 ⊢;have:Q m*2199023255552=2199023255552*Q m:=Int.mul_comm _ _
   omega)).2.2.2
  exact r
 have up2:=zK (show m+42<=m+128 by omega)
 have VS:Q (m+42)=2*Q (m+41):=rfl;have q41:=zG (m+41);have mxe:mx (Q (m-9)) (ofI d n m).2=(ofI d n m).2:=by unfold mx;rw[if_pos (by omega)]
 have c0:((0:Nat):Int)=0:=rfl;have w1:((ofI d n m).2-(ofI d n m).1)*Q (m-9)<=1*Q (m-9):=XK wd (by omega)
 refine⟨?_,le,?_,le,Int.le_refl _,?_,λ _=>⟨?_,?_⟩,?_,?_⟩
 ·show 0<=(ofI d n m).1;omega
 ·show 1048576<=(ofI d n m).1
  have Bt:Q 20=1048576:=rfl;have:=zK (show 20<=m-8 by omega)
  omega
 ·show (ofI d n m).2<_;omega
 ·show _<=(ofI d n m).2;omega
 ·show (ofI d n m).2<=(2*((0:Nat):Int)+2)*(ofI d n m).2;rw[c0];omega
 ·show ((ofI d n m).2-(ofI d n m).1)*Q (m-9)<=(4*((0:Nat):Int)+1)*mx (Q (m-9)) (ofI d n m).2;rw[mxe,c0];omega
 ·show ((ofI d n m).2-(ofI d n m).1)*Q (m-9)<=(4*((0:Nat):Int)+1)*((ofI d n m).2+(((0:Nat):Int)+1)*Q (m-9));rw[c0];omega
structure LmMid (n d:Int) (x m k:Nat) (T U:Int × Int):Prop where
 t0:0<=T.1
 tl:T.1<=T.2
 u1:1048576<=U.1
 ul:U.1<=U.2
 tu:T.2<=U.2
 us:U.2<=Q (m+140)
 rs:n+((k:Int)+1)*d<=(x:Int)*d->Q (m-9)<=T.2/\U.2<=(2*(k:Int)+3)*T.2
 tw:(T.2-T.1)*Q (m-9)<=(4*(k:Int)+3)*mx (Q (m-9)) T.2
 uw:(U.2-U.1)*Q (m-9)<=(4*(k:Int)+3)*(U.2+((k:Int)+2)*Q (m-9))
theorem lm_mid {n d:Int} {b x m k:Nat} {s:LmSt} (h:zJ6 n d b x) (hm:m=b+128) (o:LmOk n d x m k s):LmMid n d x m k (lmT n d x k s.T) (jJ s.U (lmT n d x k s.T)):=by
 have n0:=h.n0;have d0:=h.d0;have F:=zG (m-9);have kd:=Yb (show (0:Int)<=(k:Int) by omega) (show 0<=d by omega)
 have ed:((k:Int)+1)*d=(k:Int)*d+d:=by grind
 have v0:0<n+((k:Int)+1)*d:=by omega
 have u0:0<=(x:Int)*d:=Yb (by omega) (by omega)
 obtain⟨s0,s1,s2,s3,s4,s5⟩:=zCB v0 u0 o.t0 o.tl
 have tw:=sc_w (F:=Q (m-9)) (c:=4*(k:Int)+1) v0 u0 o.t0 o.tl (by omega) (by omega) o.tw (by
  by_cases c:n+(k:Int)*d<=(x:Int)*d
  ·exact Or.inl (o.rs c).1
  ·exact Or.inr (by omega))
 have uw:=o.uw;have u1:=o.u1;have ul:=o.ul;have tu:=o.tu;have us:=o.us;have t0:=o.t0;have tl:=o.tl;have rs0:=o.rs
 have hi:(lmT n d x k s.T).2<=2048*s.T.2+1:=by
  have a:=Int.mul_le_mul (show (x:Int)<=2048 by have:=h.x1;omega) (show d<=n+((k:Int)+1)*d by omega) (by omega) (by omega)
  have b':=XR a (show 0<=s.T.2 by omega)
  have r1:s.T.2*(2048*(n+((k:Int)+1)*d))=2048*s.T.2*(n+((k:Int)+1)*d):=by grind
  have lt:((zE s.T ((x:Int)*d) (n+((k:Int)+1)*d)).2-1)*(n+((k:Int)+1)*d)<(2048*s.T.2)*(n+((k:Int)+1)*d):=by omega
  have:=Int.lt_of_mul_lt_mul_right lt (by omega)
  show (zE s.T ((x:Int)*d) (n+((k:Int)+1)*d)).2<=_
  omega
 have eT:zE s.T ((x:Int)*d) (n+((k:Int)+1)*d)=lmT n d x k s.T:=rfl;rw[eT] at s0 s1 s2 s3 s4 s5 tw;have ea1:(jJ s.U (lmT n d x k s.T)).1=s.U.1+(lmT n d x k s.T).1:=rfl;have MB:(jJ s.U (lmT n d x k s.T)).2=s.U.2+(lmT n d x k s.T).2:=rfl
 have MC:Q (m+140)=4096*Q (m+128):=by
  have e:Q (m+128+12)=Q (m+128)*Q 12:=jD _ _;have e12:Q 12=4096:=rfl;have e3:m+128+12=m+140:=by omega
  rw[e3,e12] at e;omega
 generalize lmT n d x k s.T=T at *;refine⟨s0,s1,by omega,by omega,by omega,?_,λ c=>?_,?_,?_⟩
 ·have:=zG (m+128)
  rw[MB,MC];omega
 ·have c':n+(k:Int)*d<=(x:Int)*d:=by omega
  obtain⟨g1,g2⟩:=rs0 c'
  have g3:s.T.2<=T.2:=by
   have a:=XR c (show 0<=s.T.2 by omega)
   exact Int.le_of_mul_le_mul_right (Int.le_trans a s2) v0
  refine⟨by omega,?_⟩
  have a:=XR g3 (show 0<=2*(k:Int)+2 by omega)
  have r:(2*(k:Int)+3)*T.2=(2*(k:Int)+2)*T.2+T.2:=by grind
  rw[MB,r];omega
 ·have r:(4*(k:Int)+1+2)=4*(k:Int)+3:=by omega
  rw[r] at tw;exact tw
 ·have r:(4*(k:Int)+1+2)=4*(k:Int)+3:=by omega
  rw[r] at tw;have ml:=mx_le (F:=Q (m-9)) (h:=T.2) (by omega) (by omega)
  have a1:=XR ml (show 0<=4*(k:Int)+3 by omega)
  have kF:=Yb (show (0:Int)<=(k:Int) by omega) (show 0<=Q (m-9) by omega)
  have rk:((k:Int)+1)*Q (m-9)=(k:Int)*Q (m-9)+Q (m-9):=by grind
  have a2:=XK (show 4*(k:Int)+1<=4*(k:Int)+3 by omega) (show 0<=s.U.2+((k:Int)+1)*Q (m-9) by omega)
  rw[ea1,MB];have r1:(s.U.2+T.2-(s.U.1+T.1))*Q (m-9)=(s.U.2-s.U.1)*Q (m-9)+(T.2-T.1)*Q (m-9):=by grind
  have r2:(4*(k:Int)+3)*(s.U.2+T.2+((k:Int)+2)*Q (m-9))=(4*(k:Int)+3)*(s.U.2+((k:Int)+1)*Q (m-9))+(4*(k:Int)+3)*(T.2+Q (m-9)):=by grind
  rw[r1,r2];omega
theorem su_w {U:Int × Int} {q F c j:Int} (hq:0<q) (h0:0<=U.1) (hl:U.1<=U.2) (hF:0<F) (hc:0<=c) (hj:1<=j) (hw:(U.2-U.1)*F<=c*(U.2+j*F)):((zE U 1 q).2-(zE U 1 q).1)*F<=(c+2)*((zE U 1 q).2+j*F):=by
 obtain⟨s0,s1,s2,s3,s4,s5⟩:=zCB hq (show (0:Int)<=1 by decide) h0 hl
 generalize (zE U 1 q).2=h1 at *;generalize (zE U 1 q).1=l1 at *;rw[Int.mul_one] at s2 s4;have jF:=Yb (show 0<=j by omega) (show 0<=F by omega)
 have jq:=XR (show 1<=q by omega) jF
 have key:(h1-l1-2)*F<=c*(h1+j*F):=by
  have k1:=XK s4 (show 0<=F by omega)
  have k2:=XR (show U.2+j*F<=h1*q+j*F*q by omega) hc
  refine Int.le_of_mul_le_mul_right (a:=q) ?_ hq;have r1:(h1-l1-2)*F*q=(h1-l1-2)*q*F:=by grind
  have r2:c*(h1+j*F)*q=c*(h1*q+j*F*q):=by grind
  omega
 have Fj:=XK hj (show 0<=F by omega)
 have r5:(h1-l1-2)*F=(h1-l1)*F-2*F:=by grind
 have r6:(c+2)*(h1+j*F)=c*(h1+j*F)+2*h1+2*(j*F):=by grind
 omega
theorem lm_half {n d:Int} {b x m k:Nat} {T U:Int × Int} (hm:m=b+128) (hk:k<=25000) (o:LmMid n d x m k T U) (hg:Q (m+128)<=U.2):U.2<=2*U.1:=by
 have F:=zG (m-9);have F1:Q 119<=Q (m-9):=zK (by omega)
 have MD:Q 119=664613997892457936451903530140172288:=by decide +kernel
 have G1:Q 128<=Q (m+128):=zK (by omega)
 have ME:Q 128=340282366920938463463374607431768211456:=by decide +kernel
 have uw:=o.uw;have ul:=o.ul;have u1:=o.u1;rw[MD] at F1;rw[ME] at G1;generalize Q (m-9)=f at *;generalize Q (m+128)=gq at *;have a1:=XK (show 4*(4*(k:Int)+3)<=f by omega) (show 0<=U.2 by omega)
 have cj:=Int.mul_le_mul (show 4*(k:Int)+3<=100003 by omega) (show (k:Int)+2<=25002 by omega) (by omega) (by omega)
 have a2:=XK (show 4*((4*(k:Int)+3)*((k:Int)+2))<=U.2 by omega) (show 0<=f by omega)
 have key:2*(U.2-U.1)<=U.2:=by
  refine Int.le_of_mul_le_mul_right (a:=f) ?_ (by omega)
  have r1:(4*(k:Int)+3)*(U.2+((k:Int)+2)*f)=(4*(k:Int)+3)*U.2+(4*(k:Int)+3)*((k:Int)+2)*f:=by grind
  have r2:4*(4*(k:Int)+3)*U.2=4*((4*(k:Int)+3)*U.2):=by grind
  have r3:4*((4*(k:Int)+3)*((k:Int)+2))*f=4*((4*(k:Int)+3)*((k:Int)+2)*f):=by grind
  have r4:2*(U.2-U.1)*f=2*((U.2-U.1)*f):=by grind
  have r5:f*U.2=U.2*f:=Int.mul_comm _ _;rw[r1] at uw;rw[r2,r5] at a1;rw[r3] at a2;omega
 omega
theorem lm_step {n d:Int} {b x m k:Nat} {s:LmSt} (h:zJ6 n d b x) (hm:m=b+128) (hk:k<=25000) (o:LmOk n d x m k s):LmOk n d x m (k+1) (zBQ n d x m k s):=by
 have md:=lm_mid h hm o;have F:=zG (m-9);have ec:((k+1:Nat):Int)=(k:Int)+1:=by omega
 unfold zBQ;generalize lmT n d x k s.T=T at *;generalize jJ s.U T=U at *
 by_cases hg:Q (m+128)<=U.2
 ·rw[if_pos hg]
  have hf:=lm_half hm hk md hg;have oJ:(0:Int)<Q 64:=by have:=zG 64;omega
  have e64:Q 64=18446744073709551616:=by decide +kernel
  obtain⟨a0,a1,a2,a3,a4,a5⟩:=zCB (a:=T) oJ (show (0:Int)<=1 by decide) md.t0 md.tl
  obtain⟨b0,b1,b2,b3,b4,b5⟩:=zCB (a:=U) oJ (show (0:Int)<=1 by decide) (by have:=md.u1;omega) md.ul
  have tw:=sc_w (F:=Q (m-9)) (c:=4*(k:Int)+3) oJ (show (0:Int)<=1 by decide) md.t0 md.tl (by omega) (by omega) md.tw (Or.inr (by omega))
  have uw:=su_w (F:=Q (m-9)) (c:=4*(k:Int)+3) (j:=(k:Int)+2) oJ (by have:=md.u1;omega) md.ul (by omega) (by omega) (by omega) md.uw
  have us:=md.us;have tu:=md.tu;have rs:=md.rs
  have lo:Q (m+127)<=U.1:=by
   have e:Q (m+127+1)=2*Q (m+127):=rfl;have e2:m+127+1=m+128:=by omega
   rw[e2] at e;omega
  have gX:1048576<=(zE U 1 (Q 64)).1:=by
   refine Int.le_ediv_of_mul_le oJ ?_;have e84:Q 84=Q 20*Q 64:=jD 20 64;have Bt:Q 20=1048576:=rfl;rw[Bt] at e84;have:=zK (show 84<=m+127 by omega)
   omega
  have e76:Q (m+140)=Q (m+76)*Q 64:=by rw[<- jD]
  have hi:(zE U 1 (Q 64)).2<=Q (m+76):=by
   have lt:((zE U 1 (Q 64)).2-1)*Q 64<Q (m+76)*Q 64:=by rw[<- e76];omega
   have:=Int.lt_of_mul_lt_mul_right lt (by omega)
   omega
  have e128:=zK (show m+77<=m+128 by omega)
  have e77:Q (m+77)=2*Q (m+76):=rfl;have q76:=zG (m+76)
  have tu2:(zE T 1 (Q 64)).2<=(zE U 1 (Q 64)).2:=by
   have lt:((zE T 1 (Q 64)).2-1)*Q 64<(zE U 1 (Q 64)).2*Q 64:=by omega
   have:=Int.lt_of_mul_lt_mul_right lt (by omega)
   omega
  refine⟨a0,a1,gX,b1,tu2,by show (zE U 1 (Q 64)).2<_;omega,λ c=>?_,?_,?_⟩
  ·rw[ec] at c
   obtain⟨g1,g2⟩:=rs c;have T0:0<=T.2:=by have:=md.t0;have:=md.tl;omega
   have big:Q (m+112)<=T.2:=by
    refine Int.not_lt.1 λ E4=>?_
    have e:Q (m+112+16)=Q (m+112)*Q 16:=jD _ _;have e16:Q 16=65536:=rfl;have e4:m+112+16=m+128:=by omega
    rw[e4,e16] at e;have a:=XK (show 2*(k:Int)+3<=65536 by omega) T0
    omega
   have e48:Q (m+112)=Q (m+48)*Q 64:=by rw[<- jD]
   rw[Int.mul_one] at a2 b3;have h48:Q (m+48)<=(zE T 1 (Q 64)).2:=Int.le_of_mul_le_mul_right (a:=Q 64) (by omega) oJ
   have F48:=zK (show m-9<=m+48 by omega)
   refine⟨by show Q (m-9)<=(zE T 1 (Q 64)).2;omega,?_⟩
   rw[ec]
   show (zE U 1 (Q 64)).2<=(2*((k:Int)+1)+2)*(zE T 1 (Q 64)).2
   have q48:=zG (m+48);have a6:=XR a2 (show 0<=2*(k:Int)+3 by omega)
   have r1:(2*(k:Int)+3)*((zE T 1 (Q 64)).2*Q 64)=(2*(k:Int)+3)*(zE T 1 (Q 64)).2*Q 64:=by grind
   have lt:((zE U 1 (Q 64)).2-1)*Q 64<(2*(k:Int)+3)*(zE T 1 (Q 64)).2*Q 64:=by omega
   have Ij:=Int.lt_of_mul_lt_mul_right lt (by omega)
   have r2:(2*((k:Int)+1)+2)*(zE T 1 (Q 64)).2=(2*(k:Int)+3)*(zE T 1 (Q 64)).2+(zE T 1 (Q 64)).2:=by grind
   omega
  ·have r:((4*(k:Int)+3)+2)=4*((k:Int)+1)+1:=by omega
   rw[r] at tw;rw[ec];exact tw
  ·have r:((4*(k:Int)+3)+2)=4*((k:Int)+1)+1:=by omega
   rw[r] at uw;rw[ec];have r2:((k:Int)+1+1)=(k:Int)+2:=by omega
   rw[r2];exact uw
 ·rw[if_neg hg]
  refine⟨md.t0,md.tl,md.u1,md.ul,md.tu,by show U.2<_;omega,λ c=>?_,?_,?_⟩
  ·rw[ec] at c
   obtain⟨g1,g2⟩:=md.rs c;refine⟨g1,?_⟩;have t0:=md.t0;have tl:=md.tl;rw[ec]
   show U.2<=(2*((k:Int)+1)+2)*T.2
   have r:(2*((k:Int)+1)+2)*T.2=(2*(k:Int)+3)*T.2+T.2:=by grind
   omega
  ·have tw:=md.tw
   obtain⟨m1,m2⟩:=mx_ge (Q (m-9)) T.2;have a:=XK (show 4*(k:Int)+3<=4*((k:Int)+1)+1 by omega) (show 0<=mx (Q (m-9)) T.2 by omega)
   rw[ec];exact Int.le_trans tw a
  ·have uw:=md.uw
   have ul:=md.ul;have u1:=md.u1;have kF:=Yb (show (0:Int)<=(k:Int)+2 by omega) (show 0<=Q (m-9) by omega)
   have a:=XK (show 4*(k:Int)+3<=4*((k:Int)+1)+1 by omega) (show 0<=U.2+((k:Int)+2)*Q (m-9) by omega)
   rw[ec];have r2:((k:Int)+1+1)=(k:Int)+2:=by omega
   rw[r2];exact Int.le_trans uw a
theorem zEM {n d:Int} {b x m:Nat} (h:zJ6 n d b x) (hm:m=b+128) (k:Nat) (hk:k<=25000):LmOk n d x m k (lmS n d x m k):=by
 induction k with
 | zero=>exact lm_zero h hm
 | succ k ih=>exact lm_step h hm (by omega) (ih (by omega))
theorem zPZ {n d:Int} {b x m k:Nat} (h:zJ6 n d b x) (hm:m=b+128) (hk:k<=24000) (hx:2*x<=k):2*(lmS n d x m (k+1)).T.2<=(lmS n d x m k).T.2+1:=by
 have o:=zEM h hm k (by omega)
 have n0:=h.n0;have d0:=h.d0;obtain⟨s,hs⟩:∃ s,s=lmS n d x m k:=⟨_,rfl⟩;rw[<- hs] at o;have kd:=Yb (show (0:Int)<=(k:Int) by omega) (show 0<=d by omega)
 have ed:((k:Int)+1)*d=(k:Int)*d+d:=by grind
 have v0:0<n+((k:Int)+1)*d:=by omega
 have u0:0<=(x:Int)*d:=Yb (by omega) (by omega)
 obtain⟨s0,s1,s2,s3,s4,s5⟩:=zCB v0 u0 o.t0 o.tl;have T0:0<=s.T.2:=by have:=o.t0;have:=o.tl;omega
 have half:2*(lmT n d x k s.T).2<=s.T.2+1:=by
  show 2*(zE s.T ((x:Int)*d) (n+((k:Int)+1)*d)).2<=_
  generalize (zE s.T ((x:Int)*d) (n+((k:Int)+1)*d)).2=y at *;have a:=XK (show 2*(x:Int)<=(k:Int) by omega) (show 0<=d by omega)
  have r1:2*(x:Int)*d=2*((x:Int)*d):=by grind
  have le:2*((x:Int)*d)<=n+((k:Int)+1)*d:=by omega
  have b':=XR le T0;have r2:s.T.2*(2*((x:Int)*d))=2*(s.T.2*((x:Int)*d)):=by grind
  have lt:(2*(y-1))*(n+((k:Int)+1)*d)<s.T.2*(n+((k:Int)+1)*d):=by
   have r3:(2*(y-1))*(n+((k:Int)+1)*d)=2*((y-1)*(n+((k:Int)+1)*d)):=by grind
   omega
  have:=Int.lt_of_mul_lt_mul_right lt (by omega)
  omega
 show 2*(zBQ n d x m k (lmS n d x m k)).T.2<=(lmS n d x m k).T.2+1
 rw[<- hs];unfold zBQ;have t1:0<=(lmT n d x k s.T).1:=s0;have t2:(lmT n d x k s.T).1<=(lmT n d x k s.T).2:=s1;split
 ·have oJ:(0:Int)<Q 64:=by have:=zG 64;omega
  obtain⟨a0,a1,a2,a3,a4,a5⟩:=zCB (a:=lmT n d x k s.T) oJ (show (0:Int)<=1 by decide) t1 t2
  show 2*(zE (lmT n d x k s.T) 1 (Q 64)).2<=_
  have le:(zE (lmT n d x k s.T) 1 (Q 64)).2<=(lmT n d x k s.T).2:=by
   generalize (zE (lmT n d x k s.T) 1 (Q 64)).2=y at *;generalize (lmT n d x k s.T).2=z at *
   by_cases c:y<=1
   ·by_cases c2:y<=0
    ·omega
    ·have m:=XR (show (1:Int)<=Q 64 by omega) (show 0<=y-1 by omega)
     omega
   ·have m:=XR (show (2:Int)<=Q 64 by have:=zK (show 1<=64 by omega);have:Q 1=2:=rfl;omega) (show 0<=y-1 by omega)
    omega
  omega
 ·exact half
theorem lm_ends {n d:Int} {b x m:Nat} (h:zJ6 n d b x) (hm:m=b+128):∃ K,2*x<K/\K<16*x/\(lmS n d x m K).T.2<=1/\∀ k,2*x<k->k<K->1<(lmS n d x m k).T.2:=by
 have x1:=h.x1;have xb:=h.xb;have b1:=h.b1
 have fall:∀ j:Nat,j<=m+130->(lmS n d x m (2*x+1+j)).T.2<=1\/(lmS n d x m (2*x+1+j)).T.2<=Q (m+129-j)+1:=λ j=>by
  induction j with
  | zero =>
   intro _
   have o:=zEM h hm (2*x+1+0) (by omega)
   have:=o.tu;have:=o.us;have e:Q (m+129-0)=2*Q (m+128):=rfl;have qq:=zG (m+128);refine Or.inr ?_;rw[e];omega
  | succ j ih =>
   intro hj
   have f:=zPZ h hm (k:=2*x+1+j) (by omega) (by omega)
   have e0:2*x+1+(j+1)=2*x+1+j+1:=by omega
   rw[e0]
   rcases ih (by omega) with c|c
   ·exact Or.inl (by omega)
   ·by_cases hz:j<=m+128
    ·have e:Q (m+129-j)=2*Q (m+129-(j+1)):=by
      have:m+129-j=(m+129-(j+1))+1:=by omega
      rw[this];rfl
     exact Or.inr (by omega)
    ·have e:m+129-j=0:=by omega
     rw[e] at c;have:Q 0=1:=rfl;exact Or.inl (by omega)
 have last:(lmS n d x m (2*x+1+(m+130))).T.2<=1:=by
  rcases fall (m+130) (XW _) with c|c
  ·exact c
  ·have c9:=fall (m+129) (by omega)
   have f:=zPZ h hm (k:=2*x+1+(m+129)) (by omega) (by omega)
   have e0:2*x+1+(m+130)=2*x+1+(m+129)+1:=by omega
   rw[e0]
   rcases c9 with c9|c9
   ·omega
   ·have e:m+129-(m+129)=0:=by omega
    rw[e] at c9;have:Q 0=1:=rfl;omega
 obtain⟨K,k1,k2,k3⟩:=zAW (p:=λ k=>2*x<k/\(lmS n d x m k).T.2<=1) (K:=2*x+1+(m+130)) ⟨by omega,last⟩
 refine⟨K,k2.1,by omega,k2.2,λ k hk hK=>?_⟩
 have:=k3 k hK;exact Int.not_le.1 λ c=>this ⟨hk,c⟩
theorem Has.of_constL {a b c:Rat} (h:Has a b (λ _=>c)):a<=c/\c<=b:=by
 refine⟨Rat.not_lt.1 λ E4=>?_,Rat.not_lt.1 λ E4=>?_⟩
 ·obtain⟨N,k⟩:=h ((a-c)/2) (by grind)
  have:=(k N (XW _)).1;grind
 ·obtain⟨N,k⟩:=h ((c-b)/2) (by grind)
  have:=(k N (XW _)).2;grind
theorem rat_frac {n d:Int} {x k:Nat} (hn:0<n) (hd:0<d):(((x:Int)*d:Int):Rat)/((n+((k:Int)+1)*d:Int):Rat)=(x:Rat)/((n:Rat)/(d:Rat)+((k:Rat)+1)):=by
 have d0:(0:Rat)<(d:Rat):=by exact_mod_cast hd
 have n0:(0:Rat)<(n:Rat):=by exact_mod_cast hn
 have k0:(0:Rat)<(k:Rat)+1:=zBE k;have kd:=Rat.mul_pos k0 d0
 have e1:((n+((k:Int)+1)*d:Int):Rat)=(n:Rat)+((k:Rat)+1)*(d:Rat):=by
  rw[Rat.intCast_add,Ye,Rat.intCast_add];rfl
 have e2:(((x:Int)*d:Int):Rat)=(x:Rat)*(d:Rat):=by rw[Ye];rfl
 have p:0<(n:Rat)+((k:Rat)+1)*(d:Rat):=by grind
 have q:0<(n:Rat)/(d:Rat)+((k:Rat)+1):=by have:=zH n0 d0;grind
 rw[e1,e2];have m1:=rdm (a:=(x:Rat)*(d:Rat)) p;have m2:=rdm (a:=(x:Rat)) q;have m3:=rdm (a:=(n:Rat)) d0;refine zS (Rat.mul_pos p q) ?_;generalize (x:Rat)*(d:Rat)/((n:Rat)+((k:Rat)+1)*(d:Rat))=y at *;generalize (x:Rat)/((n:Rat)/(d:Rat)+((k:Rat)+1))=z at *;have r1:((n:Rat)+((k:Rat)+1)*(d:Rat))*((n:Rat)/(d:Rat)+((k:Rat)+1))*y=y*((n:Rat)+((k:Rat)+1)*(d:Rat))*((n:Rat)/(d:Rat)+((k:Rat)+1)):=by grind
 have r2:((n:Rat)+((k:Rat)+1)*(d:Rat))*((n:Rat)/(d:Rat)+((k:Rat)+1))*z=z*((n:Rat)/(d:Rat)+((k:Rat)+1))*((n:Rat)+((k:Rat)+1)*(d:Rat)):=by grind
 rw[r1,r2,m1,m2]
 have r3:(n:Rat)+((k:Rat)+1)*(d:Rat)=((n:Rat)/(d:Rat)+((k:Rat)+1))*(d:Rat):=by
  have:((n:Rat)/(d:Rat)+((k:Rat)+1))*(d:Rat)=(n:Rat)/(d:Rat)*(d:Rat)+((k:Rat)+1)*(d:Rat):=by grind
  rw[this,m3]
 rw[r3];grind
def h64 (e:Nat):Rat:=1/(Q (64*e):Rat)
theorem zL6 (e:Nat):(1:Int)/((Q 64:Int):Rat)*h64 e=h64 (e+1):=by
 unfold h64;have e1:Q (64*(e+1))=Q 64*Q (64*e):=by rw[<- jD];congr 1;omega
 rw[e1,Ye];have p:=zY 64;have q:=zY (64*e);have c1:((1:Int):Rat)=1:=rfl;rw[c1];generalize (Q 64:Rat)=y at *;generalize (Q (64*e):Rat)=z at *;have a:=rdm (a:=1) p;have b:=rdm (a:=1) q;have c:=rdm (a:=1) (Rat.mul_pos p q);refine zS (Rat.mul_pos p q) ?_;have r1:y*z*(1/y*(1/z))=1/y*y*(1/z*z):=by grind
 have r2:y*z*(1/(y*z))=1/(y*z)*(y*z):=by grind
 rw[r1,r2,a,b,c];grind
theorem lm_has {n d:Int} {b x m:Nat} (h:zJ6 n d b x) (k:Nat):Iv m (lmS n d x m k).T (λ _=>h64 (lmS n d x m k).e*upT ((n:Rat)/(d:Rat)) (x:Rat) k)/\Iv m (lmS n d x m k).U (λ _=>h64 (lmS n d x m k).e*uS ((n:Rat)/(d:Rat)) (x:Rat) (k+1)):=by
 have n0:=h.n0;have d0:=h.d0;have nr:(0:Rat)<(n:Rat):=by exact_mod_cast n0
 have dr:(0:Rat)<(d:Rat):=by exact_mod_cast d0
 have a0:(0:Rat)<(n:Rat)/(d:Rat):=zH nr dr
 induction k with
 | zero =>
  have i:=Iv.of m (n:=d) (d:=n) n0
  have e:(d:Rat)/(n:Rat)=1/((n:Rat)/(d:Rat)):=by
   have m1:=rdm (a:=(d:Rat)) nr;have m2:=rdm (a:=1) a0;have m3:=rdm (a:=(n:Rat)) dr;refine zS (Rat.mul_pos nr a0) ?_;generalize 1/((n:Rat)/(d:Rat))=z at *;generalize (n:Rat)/(d:Rat)=y at *;generalize (d:Rat)/(n:Rat)=u at *;have r1:(n:Rat)*y*u=u*(n:Rat)*y:=by grind
   have r2:(n:Rat)*y*z=(n:Rat)*(z*y):=by grind
   rw[r1,r2,m1,m2];grind
  have e1:h64 0=1:=by
   unfold h64
   show (1:Rat)/((1:Int):Rat)=1
   decide +kernel
  refine⟨Has.of_eq i λ M=>?_,Has.of_eq i λ M=>?_⟩
  ·show h64 0*(1/((n:Rat)/(d:Rat)))=_
   rw[e1,e];grind
  ·show h64 0*(0+1/((n:Rat)/(d:Rat)))=_
   rw[e1,e];grind
 | succ k ih =>
  obtain⟨i1,i2⟩:=ih;obtain⟨s,hs⟩:∃ s,s=lmS n d x m k:=⟨_,rfl⟩;rw[<- hs] at i1 i2;have kd:=Yb (show (0:Int)<=(k:Int) by omega) (show 0<=d by omega)
  have ed:((k:Int)+1)*d=(k:Int)*d+d:=by grind
  have t1:Iv m (lmT n d x k s.T) (λ _=>h64 s.e*upT ((n:Rat)/(d:Rat)) (x:Rat) (k+1)):=by
   refine Has.of_eq (i1.scale (n:=(x:Int)*d) (d:=n+((k:Int)+1)*d) (Yb (by omega) (by omega)) (by omega)) λ M=>?_
   rw[rat_frac n0 d0]
   show h64 s.e*((x:Rat)/((n:Rat)/(d:Rat)+((k:Rat)+1))*upT ((n:Rat)/(d:Rat)) (x:Rat) k)=_
   generalize (x:Rat)/((n:Rat)/(d:Rat)+((k:Rat)+1))=y;grind
  have t2:Iv m (jJ s.U (lmT n d x k s.T)) (λ _=>h64 s.e*uS ((n:Rat)/(d:Rat)) (x:Rat) (k+1+1)):=by
   refine Has.of_eq (i2.add t1) λ M=>?_
   rw[yW _ _ (k+1)];grind
  have e:lmS n d x m (k+1)=zBQ n d x m k s:=by rw[hs];rfl
  rw[e];unfold zBQ;have oJ:=zG 64;split
  ·refine⟨Has.of_eq (t1.scale (n:=1) (d:=Q 64) (by decide) (by omega)) λ M=>?_,Has.of_eq (t2.scale (n:=1) (d:=Q 64) (by decide) (by omega)) λ M=>?_⟩
   ·show h64 (s.e+1)*_=_
    rw[<- zL6];grind
   ·show h64 (s.e+1)*_=_
    rw[<- zL6];grind
  ·exact⟨t1,t2⟩
theorem upT_half {a x:Rat} {K:Nat} (ha:0<a) (hx:0<=x) (hK:2*x<=(K:Rat)) (i:Nat):2*upT a x (K+i+1)<=upT a x (K+i):=by
 have e:=kH ha x (K+i);have t0:=kA ha hx (K+i);have t1:=kA ha hx (K+i+1);have ik:(K:Rat)<=((K+i:Nat):Rat):=by exact_mod_cast (show K<=K+i by omega)
 by_cases hz:x=0
 ·have:upT a x (K+i+1)=0:=by
   show x/(a+(((K+i:Nat):Rat)+1))*upT a x (K+i)=0
   rw[hz,Yg];grind
  rw[this];grind
 ·have xp:0<x:=by grind
  have m:=Yc (show 2*x<=a+(((K+i:Nat):Rat)+1) by grind) t1
  rw[e] at m;refine Rat.le_of_mul_le_mul_left (c:=x) ?_ xp;grind
theorem uS_rest {a x:Rat} {K:Nat} (ha:0<a) (hx:0<=x) (hK:2*x<=(K:Rat)) (i:Nat):uS a x (K+1+i)+upT a x (K+i)<=uS a x (K+1)+upT a x K:=by
 induction i with
 | zero=>exact Rat.le_refl
 | succ i ih =>
  have e:uS a x (K+1+(i+1))=uS a x (K+1+i)+upT a x (K+1+i):=rfl;have e2:K+1+i=K+i+1:=by omega
  have e3:K+(i+1)=K+i+1:=by omega
  have hh:=upT_half ha hx hK i;rw[e,e3];rw[e2] at ih ⊢;grind
def lmL (U:Int × Int):Int:=U.1-2
def lmH (m e:Nat) (U:Int × Int):Int:=U.2+2 + -(-(Q (m+1))/Q (64*e))
theorem zPW {n d:Int} {b x m K:Nat} (h:zJ6 n d b x) (hK:2*x<K) (hT:(lmS n d x m K).T.2<=1):LeN (λ _=>(lmL (lmS n d x m K).U:Rat)/(Q m:Rat)) (λ M=>h64 (lmS n d x m K).e*uS ((n:Rat)/(d:Rat)) (x:Rat) M)/\LeN (λ M=>h64 (lmS n d x m K).e*(uS ((n:Rat)/(d:Rat)) (x:Rat) M+2)) (λ _=>(lmH m (lmS n d x m K).e (lmS n d x m K).U:Rat)/(Q m:Rat)):=by
 have n0:=h.n0;have d0:=h.d0;have nr:(0:Rat)<(n:Rat):=by exact_mod_cast n0
 have dr:(0:Rat)<(d:Rat):=by exact_mod_cast d0
 have a0:(0:Rat)<(n:Rat)/(d:Rat):=zH nr dr;have x0:(0:Rat)<=(x:Rat):=by exact_mod_cast Nat.zero_le x
 have xK:2*(x:Rat)<=(K:Rat):=by exact_mod_cast (show 2*x<=K by omega)
 obtain⟨i1,i2⟩:=lm_has (m:=m) h K;obtain⟨s,hs⟩:∃ s,s=lmS n d x m K:=⟨_,rfl⟩;rw[<- hs] at i1 i2 hT ⊢;have q:=zY m;have he:0<h64 s.e:=zH (by grind) (zY _)
 obtain⟨l1,u1⟩:=Has.of_constL i2;obtain⟨l2,u2⟩:=Has.of_constL i1;have T1:(s.T.2:Rat)/(Q m:Rat)<=1/(Q m:Rat):=jZ q (by rw[rdm q];exact_mod_cast zX hT)
 obtain⟨j,hj⟩:∃ j,j=1/(Q m:Rat):=⟨_,rfl⟩;have jm:j*(Q m:Rat)=1:=by rw[hj];exact rdm q
 rw[<- hj] at T1;have j0:0<j:=by rw[hj];exact zH (by grind) q
 have eL:(lmL s.U:Rat)/(Q m:Rat)=(s.U.1:Rat)/(Q m:Rat)-2*j:=by
  unfold lmL;rw[Rat.intCast_sub,zEX]
  have:((2:Int):Rat)/(Q m:Rat)=2*j:=by
   rw[hj,Yg,Yg];have c2:((2:Int):Rat)=2:=rfl;rw[c2];grind
  rw[this]
 refine⟨LeN.of_le (K+1) λ M hM=>?_,LeN.of_le (K+1) λ M hM=>?_⟩
 ·obtain⟨i,rfl⟩:∃ i,M=K+1+i:=⟨M-(K+1),by omega⟩
  have mono:∀ i,uS ((n:Rat)/(d:Rat)) (x:Rat) (K+1)<=uS ((n:Rat)/(d:Rat)) (x:Rat) (K+1+i):=λ i=>by
   induction i with
   | zero=>exact Rat.le_refl
   | succ i ih=>have:=kA a0 x0 (K+1+i);have e:uS ((n:Rat)/(d:Rat)) (x:Rat) (K+1+(i+1))=uS ((n:Rat)/(d:Rat)) (x:Rat) (K+1+i)+upT ((n:Rat)/(d:Rat)) (x:Rat) (K+1+i):=rfl;rw[e];grind
  have m1:=Ya (mono i) (XV he);rw[eL];grind
 ·obtain⟨i,rfl⟩:∃ i,M=K+1+i:=⟨M-(K+1),by omega⟩
  have r:=uS_rest a0 x0 xK i;have t0:=kA a0 x0 (K+i);have m1:=Ya (show uS ((n:Rat)/(d:Rat)) (x:Rat) (K+1+i)<=uS ((n:Rat)/(d:Rat)) (x:Rat) (K+1)+upT ((n:Rat)/(d:Rat)) (x:Rat) K by grind) (XV he)
  have MF:0<Q (64*s.e):=by have:=zG (64*s.e);omega
  have cl:=zCP (Q (m+1)) MF
  have beyond:2*h64 s.e<=((-(-(Q (m+1))/Q (64*s.e)):Int):Rat)/(Q m:Rat):=by
   refine yF q ?_;have c:=zX cl;have e1:Q (m+1)=2*Q m:=rfl;rw[Ye,e1,Ye] at c;have c2:((2:Int):Rat)=2:=rfl;rw[c2] at c;rw[e1];generalize ((-(-(2*Q m)/Q (64*s.e)):Int):Rat)=z at *;unfold h64;have p:=zY (64*s.e);have dm:=rdm (a:=1) p;refine Rat.le_of_mul_le_mul_right (c:=(Q (64*s.e):Rat)) ?_ p;have r1:2*(1/(Q (64*s.e):Rat))*(Q m:Rat)*(Q (64*s.e):Rat)=2*(Q m:Rat)*(1/(Q (64*s.e):Rat)*(Q (64*s.e):Rat)):=by grind
   rw[r1,dm];grind
  have eH:(lmH m s.e s.U:Rat)/(Q m:Rat)=(s.U.2:Rat)/(Q m:Rat)+2*j+((-(-(Q (m+1))/Q (64*s.e)):Int):Rat)/(Q m:Rat):=by
   unfold lmH;rw[Rat.intCast_add,yO,Rat.intCast_add,yO]
   have:((2:Int):Rat)/(Q m:Rat)=2*j:=by
    rw[hj,Yg,Yg];have c2:((2:Int):Rat)=2:=rfl;rw[c2];grind
   rw[this]
  rw[eH];grind
structure LgPr (x:Nat->Rat) (B W:Nat) (l u:Int):Prop where
 le:l<=u
 wd:u-l<=Q W
 ab:Abs (l,u) (Q (B+W))
 iv:Iv B (l,u) x
structure LbOk (B:Nat) (o:Int × Int):Prop where
 le:o.1<=o.2
 ab:Abs o (60000*Q B)
 wd:o.2-o.1<=60000000
theorem lb_of {B N N2:Nat} {n' d' c:Int} (hB:16<=B) (o7:B<=1000) (h:yQ n' d') (hN:kG (lnT n' d' B) N) (ct:kG (lnT 2 1 B) N2) (k:Nat) (hk:k<=900) (h1 : -(16*(k:Int)+1)<=c) (h2:c<=16*(k:Int)+1):LbOk B (zIN (zT (lnT n' d' B) N) (zT (lnT 2 1 B) N2) c):=by
 obtain⟨b1,b2,b3⟩:=zF3 (k:=c) h hB hN ct (16*(k:Int)+1) h1 h2;have q:=zG B;refine⟨b1,b2.mono ?_,?_⟩
 ·have m:=XK (show 16*(k:Int)+1+1<=15000 by omega) (show 0<=4*Q B by omega)
  omega
 ·have m:=Int.mul_le_mul (show 16*(k:Int)+1+1<=14402 by omega) (show 2*(((B:Int)/3+2)*6+2)<=4030 by omega) (by omega) (by omega)
  omega
theorem lgam_ok {n d:Int} {g lp x l1 l2:Nat->Rat} {B:Nat} {a o1 o2 o:Int × Int} (h:StIn n d) (C4:40<=B) (hB:B<=1000) (ha:GaV g B a) (ls:LsIn a B o1 o2 l1 l2) (hp:IsLog lp (λ _=>(stP n d (stN n d):Rat)/(stQ d (stN n d):Rat))) (io:Iv B o lp) (k1:LbOk B o1) (k2:LbOk B o2) (k3:LbOk B o) (hx:IsLog x (gmV n d g)) (Bv:∃ c:Rat,0<c/\∃ N:Nat,∀ M,N<=M->c<=g M) {L:Rat->Nat->Rat} (hL:Lns L):LgPr x B 46 (o1.1+o.1) (o2.2+o.2):=by
 obtain⟨lg,ri⟩:=zPS hL ha.iv.bdd Bv;have i1:=ls_has ls ha.iv ri;have both:=hp.add ri;have i2:Iv B (jJ (o1.1,o2.2) o) (λ M=>lg M+lp M):=i1.add io
 have iv:Iv B (o1.1+o.1,o2.2+o.2) x:=by
  have n:=hx.uniq (both.congr_r (r':=gmV n d g) (null_zero.of_eq λ M=>by unfold gmV;grind))
  exact i2.congr (n.of_eq λ M=>by grind)
 have q:=zG B;have big:=zO6 C4 hB;have BB:=Yb (show (0:Int)<=(B:Int) by omega) (show (0:Int)<=(B:Int) by omega)
 have B2:=Int.mul_le_mul (show (B:Int)<=1000 by omega) (show (B:Int)<=1000 by omega) (by omega) (by omega)
 have a0:0<a.1:=by have:=ha.lo;omega
 have al:=ha.le
 have twice:a.2<=2*a.1:=by
  have m:=XK big (show 0<=a.2 by omega)
  have r:=ha.rel
  have s:16*(a.2-a.1)<=a.2:=by
   refine Int.le_of_mul_le_mul_right (a:=Q B) ?_ (by omega)
   have r1:16*(a.2-a.1)*Q B=16*((a.2-a.1)*Q B):=by grind
   have r2:16*(10000000*((B:Int)*(B:Int)))*a.2=16*(10000000*((B:Int)*(B:Int))*a.2):=by grind
   have r3:Q B*a.2=a.2*Q B:=Int.mul_comm _ _;omega
  omega
 have w:=zPU ls (C:=20000000000000) (by
  have m1:=XR twice (show 0<=10000000*((B:Int)*(B:Int)) by omega)
  have m2:=XK (show 10000000*((B:Int)*(B:Int))<=10000000000000 by omega) (show 0<=2*a.1 by omega)
  have:=ha.rel
  omega)
 have e46:Q 46=70368744177664:=rfl;have w1:=k1.wd;have w2:=k2.wd;have w3:=k3.wd;have l3:=k3.le;have le:o1.1+o.1<=o2.2+o.2:=iv.le;refine⟨le,by omega,?_,iv⟩
 have eB:Q (B+46)=Q B*Q 46:=jD B 46;rw[e46] at eB;obtain⟨x1,x2,x3,x4⟩:=k1.ab;obtain⟨y1,y2,y3,y4⟩:=k2.ab;obtain⟨z1,z2,z3,z4⟩:=k3.ab;exact⟨by show _<=o1.1+o.1;omega,by show o1.1+o.1<=_;omega,by show _<=o2.2+o.2;omega,by show o2.2+o.2<=_;omega⟩
theorem dbl {b:Int} (m:Nat):∀ {a:Int},0<a->a<=b->b-a<=(m:Int)->∃ i,a*Q i<=b/\b<2*(a*Q i):=by
 have e0:Q 0=1:=rfl
 induction m with
 | zero =>
  intro a h1 h2 h3
  exact⟨0,by rw[e0];omega,by rw[e0];omega⟩
 | succ m ih =>
  intro a h1 h2 h3
  by_cases h:b<2*a
  ·exact⟨0,by rw[e0];omega,by rw[e0];omega⟩
  ·obtain⟨i,g1,g2⟩:=ih (a:=2*a) (by omega) (by omega) (by omega)
   have e:a*Q (i+1)=2*a*Q i:=by show a*(2*Q i)=_;grind
   exact⟨i+1,by rw[e];exact g1,by rw[e];exact g2⟩
theorem bal_ex {n d:Int} (hn:0<n) (hd:0<d):∃ n' d' k,Bal n d n' d' k:=by
 have e0:Q 0=1:=rfl
 by_cases h:d<=n
 ·obtain⟨i,h1,h2⟩:=dbl (n-d).toNat hd h (by omega)
  exact⟨n,_,_,zME (j:=0) (i:=i) hn hd (by rw[e0];omega) rfl h1 h2 (Or.inl rfl)⟩
 ·obtain⟨i,h1,h2⟩:=dbl (d-n).toNat hn (Int.le_of_lt (Int.not_le.1 h)) (by omega)
  by_cases h3:n*Q i=d
  ·exact⟨_,d,_,zME (j:=i) (i:=0) hn hd rfl (by rw[e0];omega) (by omega) (by omega) (Or.inr rfl)⟩
  ·have e:n*Q (i+1)=2*(n*Q i):=by show n*(2*Q i)=_;grind
   exact⟨_,d,_,zME (j:=i+1) (i:=0) hn hd rfl (by rw[e0];omega) (by omega) (by omega) (Or.inr rfl)⟩
theorem log_ex {n d:Int} (hn:0<n) (hd:0<d):∃ l,IsLog l (λ _=>(n:Rat)/(d:Rat)):=by
 obtain⟨n',d',k,h⟩:=bal_ex hn hd;exact⟨_,zIO hd h (zDX h.1) isLog_two⟩
open Go.RowKit
attribute [local go_sem ↓] Go.wp_at_zero Go.wp_at_succ
def BalAns (w:World) (k:Nat) (n d:Int) (r:Ending) (w':World):Prop :=
 ∃ (X Y:Nm) (n' d' c:Int),r=.returned (.tuple #[.agg X.q,.agg Y.q,.int .i64 c])/\Bal n d n' d' c /\ -(16*k+1)<=c/\c<=16*k+1/\IntAt w' X.neg X.a X.n X.cap (k+k+20) n'/\IntAt w' Y.neg Y.a Y.n Y.cap (k+k+20) d'/\Below w.heap.size w w'
theorem bal_near {n d:Int} {L L':Nat} (h1:Q L<=n) (h2:n<Q (L+1)) (h3:Q L'<=d) (h4:d<Q (L'+1)) (a b:Nat) (js:L+a=L'+b):n*Q a<2*(d*Q b)/\d*Q b<2*(n*Q a):=by
 have qa:=zG a;have qb:=zG b;have e1:Q L*Q a=Q L'*Q b:=by rw[<- jD,<- jD,js]
 have e2:Q (L+1)=2*Q L:=rfl;have e3:Q (L'+1)=2*Q L':=rfl;have g1:=XK h1 (show 0<=Q a by omega)
 have g2:=Int.mul_lt_mul_of_pos_right h2 (show 0<Q a by omega)
 have g3:=XK h3 (show 0<=Q b by omega)
 have g4:=Int.mul_lt_mul_of_pos_right h4 (show 0<Q b by omega)
 rw[e2,Int.mul_assoc] at g2;rw[e3,Int.mul_assoc] at g4;omega
theorem bal_a {n d n1 d1 c:Int} (hn:0<n1) (hd:0<d1) (h1:0<=c->n*d1=n1*d*Q c.toNat) (h2:c<0->n*d1*Q (-c).toNat=n1*d) (g1:n1<2*d1) (g2:d1<2*n1) (hc:d1*3<n1*2):Bal n d n1 (d1*2) (c+1):=by
 refine⟨⟨hn,by omega,by omega,by omega⟩,λ h=>?_,λ h=>?_⟩
 ·by_cases h0:0<=c
  ·have e:=h1 h0
   have:(c+1).toNat=c.toNat+1:=by omega
   rw[this];have e2:Q (c.toNat+1)=2*Q c.toNat:=rfl;rw[e2];have:n*(d1*2)=2*(n*d1):=by grind
   rw[this,e];grind
  ·have hc:c = -1:=by omega
   have e:=h2 (by omega)
   subst hc;have e3:Q (-(-1:Int)).toNat=2:=rfl;rw[e3] at e;have e4:Q ((-1:Int)+1).toNat=1:=rfl;rw[e4];have:n*(d1*2)=n*d1*2:=by grind
   rw[this,e];grind
 ·have e:=h2 (by omega)
  have:(-c).toNat=(-(c+1)).toNat+1:=by omega
  rw[this] at e;have e2:Q ((-(c+1)).toNat+1)=2*Q (-(c+1)).toNat:=rfl;rw[e2] at e;rw[<- e];grind
theorem bal_b {n d n1 d1 c:Int} (hn:0<n1) (hd:0<d1) (h1:0<=c->n*d1=n1*d*Q c.toNat) (h2:c<0->n*d1*Q (-c).toNat=n1*d) (g1:n1<2*d1) (g2:d1<2*n1) (hc:n1*4<d1*3):Bal n d (n1*2) d1 (c-1):=by
 refine⟨⟨by omega,hd,by omega,by omega⟩,λ h=>?_,λ h=>?_⟩
 ·have e:=h1 (by omega)
  have:c.toNat=(c-1).toNat+1:=by omega
  rw[this] at e;have e2:Q ((c-1).toNat+1)=2*Q (c-1).toNat:=rfl;rw[e2] at e;rw[e];grind
 ·by_cases h0:0<=c
  ·have hc:c=0:=by omega
   have e:=h1 h0;subst hc;have e3:Q ((0:Int)).toNat=1:=rfl;rw[e3] at e;have e4:Q (-((0:Int)-1)).toNat=2:=rfl;rw[e4,e];grind
  ·have e:=h2 (by omega)
   have:(-(c-1)).toNat=(-c).toNat+1:=by omega
   rw[this];have e2:Q ((-c).toNat+1)=2*Q (-c).toNat:=rfl;rw[e2];have:n*d1*(2*Q (-c).toNat)=2*(n*d1*Q (-c).toNat):=by grind
   rw[this,e];grind
theorem bal_c {n d n1 d1 c:Int} (hn:0<n1) (hd:0<d1) (h1:0<=c->n*d1=n1*d*Q c.toNat) (h2:c<0->n*d1*Q (-c).toNat=n1*d) (hc:¬ d1*3<n1*2) (G8:¬ n1*4<d1*3):Bal n d n1 d1 c :=
 ⟨⟨hn,hd,by omega,by omega⟩,h1,h2⟩
theorem zQC {w:World} {neg:Bool} {a:Option Addr} {n cap k:Nat} {z:Int} {L:Nat} (h:IntAt w neg a n cap k z) (hL:Q L<=z) (hz:0<=z):L<16*k+1:=by
 obtain⟨d,h1,h2,h3,h4,h5⟩:=h;have hV:=zHY h1.dgs n;have hV0:=zZ h1.dgs n;have hP:=zBH h4;have eP:=Q_P k
 have iz:z<Q (16*k):=by
  cases neg
  ·simp[sgn] at h5;omega
  ·simp[sgn] at h5;have:=zG (16*k);omega
 refine Nat.lt_of_not_le λ h=>?_
 have:=zK (show 16*k<=L by omega)
 omega
theorem zFM (neg:Bool) (a:Option Addr) (n cap:Nat) (κ:Int) (A k1:Nat) (x:Int) (w:World) (hκ:κ=(A:Int)) (h1:IntAt w neg a n cap k1 x) (S7:k1<=1000000000) (hk:A<=1000000000) :
  Calls Tryz.prog 95 #[.agg #[.bool neg,.slice a n cap],.int .i64 κ] w (zDQ w (A/16+k1+1) (x*Q A)):=by
 subst hκ;exact zBF neg a n cap A k1 x w h1 S7 hk
theorem zJ7 {w wc w2:World} {x y:Nm} {K:Nat} {z1 z2:Int} (hD:Below wc.heap.size wc w2) (hx:NmC w2 w.heap.size x) (hy:NmC w2 (w.heap.size+1) y) (X Y:Nm) (iX:IntAt w2 X.neg X.a X.n X.cap K z1) (iY:IntAt w2 Y.neg Y.a Y.n Y.cap K z2) (R:NoI wc (w.heap.size+1+1)) (R2:NoI wc (w.heap.size+1+1+1)) (hB:Below w.heap.size w wc) :
  ∃ X' Y':Nm,NmC ((((w2.setCell ⟨w.heap.size,0,none⟩ (.bool X.neg)).setCell ⟨w.heap.size,1,none⟩ (.slice X.a X.n X.cap)).setCell ⟨w.heap.size+1,0,none⟩ (.bool Y.neg)).setCell ⟨w.heap.size+1,1,none⟩ (.slice Y.a Y.n Y.cap)) w.heap.size X'/\NmC ((((w2.setCell ⟨w.heap.size,0,none⟩ (.bool X.neg)).setCell ⟨w.heap.size,1,none⟩ (.slice X.a X.n X.cap)).setCell ⟨w.heap.size+1,0,none⟩ (.bool Y.neg)).setCell ⟨w.heap.size+1,1,none⟩ (.slice Y.a Y.n Y.cap)) (w.heap.size+1) Y'/\IntAt ((((w2.setCell ⟨w.heap.size,0,none⟩ (.bool X.neg)).setCell ⟨w.heap.size,1,none⟩ (.slice X.a X.n X.cap)).setCell ⟨w.heap.size+1,0,none⟩ (.bool Y.neg)).setCell ⟨w.heap.size+1,1,none⟩ (.slice Y.a Y.n Y.cap)) X'.neg X'.a X'.n X'.cap K z1/\IntAt ((((w2.setCell ⟨w.heap.size,0,none⟩ (.bool X.neg)).setCell ⟨w.heap.size,1,none⟩ (.slice X.a X.n X.cap)).setCell ⟨w.heap.size+1,0,none⟩ (.bool Y.neg)).setCell ⟨w.heap.size+1,1,none⟩ (.slice Y.a Y.n Y.cap)) Y'.neg Y'.a Y'.n Y'.cap K z2/\NoI ((((w2.setCell ⟨w.heap.size,0,none⟩ (.bool X.neg)).setCell ⟨w.heap.size,1,none⟩ (.slice X.a X.n X.cap)).setCell ⟨w.heap.size+1,0,none⟩ (.bool Y.neg)).setCell ⟨w.heap.size+1,1,none⟩ (.slice Y.a Y.n Y.cap)) (w.heap.size+1+1)/\NoI ((((w2.setCell ⟨w.heap.size,0,none⟩ (.bool X.neg)).setCell ⟨w.heap.size,1,none⟩ (.slice X.a X.n X.cap)).setCell ⟨w.heap.size+1,0,none⟩ (.bool Y.neg)).setCell ⟨w.heap.size+1,1,none⟩ (.slice Y.a Y.n Y.cap)) (w.heap.size+1+1+1)/\Below w.heap.size w ((((w2.setCell ⟨w.heap.size,0,none⟩ (.bool X.neg)).setCell ⟨w.heap.size,1,none⟩ (.slice X.a X.n X.cap)).setCell ⟨w.heap.size+1,0,none⟩ (.bool Y.neg)).setCell ⟨w.heap.size+1,1,none⟩ (.slice Y.a Y.n Y.cap)):=by
 have gI:=hy.off (B':=w.heap.size) (by omega) (.bool X.neg) (.slice X.a X.n X.cap)
 have qz:=zE4 hx X;have i1:=iX.put2 hx.c0 hx.c1 (.bool X.neg) (.slice X.a X.n X.cap);have i2:=iY.put2 hx.c0 hx.c1 (.bool X.neg) (.slice X.a X.n X.cap);have r1:=(R.bw hD).off (B':=w.heap.size) (by omega) (.bool X.neg) (.slice X.a X.n X.cap)
 have r2:=(R2.bw hD).off (B':=w.heap.size) (by omega) (.bool X.neg) (.slice X.a X.n X.cap)
 have b1:=zD5 (zB hB hD) (XW _) (.bool X.neg) (.slice X.a X.n X.cap);generalize (w2.setCell ⟨w.heap.size,0,none⟩ (.bool X.neg)).setCell ⟨w.heap.size,1,none⟩ (.slice X.a X.n X.cap)=V at *;exact⟨X,Y,qz.off (by omega) _ _,zE4 gI Y,i1.put2 gI.c0 gI.c1 _ _,i2.put2 gI.c0 gI.c1 _ _,r1.off (by omega) _ _,r2.off (by omega) _ _,zD5 b1 (Yh _) _ _⟩
theorem cmp_gtB (x y:Int):decide (0<zF x y)=decide (y<x):=by
 unfold zF
 by_cases h1:x<y
 ·have:¬ y<x:=by omega
  simp[h1,this]
 ·by_cases h2:y<x
  ·simp[h1,h2]
  ·simp[h1,h2]
theorem cmp_ltB (x y:Int):decide (zF x y<0)=decide (x<y):=by
 unfold zF
 by_cases h1:x<y
 ·simp[h1]
 ·by_cases h2:y<x
  ·simp[h1,h2]
  ·simp[h1,h2]
theorem zKP {w w1:World} {X Y:Nm} {K:Nat} {z1 z2:Int} (R:NoI w1 (w.heap.size+1+1)) (R2:NoI w1 (w.heap.size+1+1+1)) (iX:IntAt w1 X.neg X.a X.n X.cap K z1) (iY:IntAt w1 Y.neg Y.a Y.n Y.cap K z2) (hB:Below w.heap.size w w1) :
  IntAt ((((w1.setCell ⟨w.heap.size+1+1,0,none⟩ (.bool X.neg)).setCell ⟨w.heap.size+1+1,1,none⟩ (.slice X.a X.n X.cap)).setCell ⟨w.heap.size+1+1+1,0,none⟩ (.bool Y.neg)).setCell ⟨w.heap.size+1+1+1,1,none⟩ (.slice Y.a Y.n Y.cap)) X.neg X.a X.n X.cap K z1/\IntAt ((((w1.setCell ⟨w.heap.size+1+1,0,none⟩ (.bool X.neg)).setCell ⟨w.heap.size+1+1,1,none⟩ (.slice X.a X.n X.cap)).setCell ⟨w.heap.size+1+1+1,0,none⟩ (.bool Y.neg)).setCell ⟨w.heap.size+1+1+1,1,none⟩ (.slice Y.a Y.n Y.cap)) Y.neg Y.a Y.n Y.cap K z2/\Below w.heap.size w ((((w1.setCell ⟨w.heap.size+1+1,0,none⟩ (.bool X.neg)).setCell ⟨w.heap.size+1+1,1,none⟩ (.slice X.a X.n X.cap)).setCell ⟨w.heap.size+1+1+1,0,none⟩ (.bool Y.neg)).setCell ⟨w.heap.size+1+1+1,1,none⟩ (.slice Y.a Y.n Y.cap)):=by
 have r2:=R2.off (B':=w.heap.size+1+1) (by omega) (.bool X.neg) (.slice X.a X.n X.cap)
 have i1:=iX.put2 R.c0 R.c1 (.bool X.neg) (.slice X.a X.n X.cap);have i2:=iY.put2 R.c0 R.c1 (.bool X.neg) (.slice X.a X.n X.cap);have b1:=zD5 hB (show w.heap.size<=w.heap.size+1+1 by omega) (.bool X.neg) (.slice X.a X.n X.cap)
 generalize (w1.setCell ⟨w.heap.size+1+1,0,none⟩ (.bool X.neg)).setCell ⟨w.heap.size+1+1,1,none⟩ (.slice X.a X.n X.cap)=V at *;exact⟨i1.put2 r2.c0 r2.c1 _ _,i2.put2 r2.c0 r2.c1 _ _,zD5 b1 (by omega) _ _⟩
theorem zH6 (w:World) (x y:Nm) (k:Nat) (n d:Int) (hx:IntAt w x.neg x.a x.n x.cap k n) (hy:IntAt w y.neg y.a y.n y.cap k d) (hn:0<n) (hd:0<d) (hk:k<=1000000) :
  Calls Tryz.prog 166 #[.agg x.q,.agg y.q] w (BalAns w k n d):=by
 obtain⟨W,hW⟩:∃ W,W=(((w.alloc (.cells x.q 26)).alloc (.cells y.q 26)).alloc (.cells #[.bool false,.slice none 0 0] 26)).alloc (.cells #[.bool false,.slice none 0 0] 26):=⟨_,rfl⟩;have b8:Below w.heap.size w W:=by rw[hW];exact bl4 _ _ _ _ _
 have X:NmC W w.heap.size x:=by rw[hW];constructor<;>simp[go_sem]
 have FX:∀ o,W.frozen? ⟨w.heap.size,o,none⟩=false:=by rw[hW];intro o;simp[go_sem]
 have Y:NmC W (w.heap.size+1) y:=by rw[hW];constructor<;>simp[go_sem]
 have FY:∀ o,W.frozen? ⟨w.heap.size+1,o,none⟩=false:=by rw[hW];intro o;simp[go_sem]
 have R:NoI W (w.heap.size+1+1):=by rw[hW];constructor<;>simp[go_sem]
 have R2:NoI W (w.heap.size+1+1+1):=by rw[hW];constructor<;>simp[go_sem]
 have HX:=zC (hx.bw b8);have HY:=zC (hy.bw b8);have lX:=X.lt;have lY:=Y.lt;have lR:=R.lt;have Y1:=R2.lt;have HK:=zC (show ∀ w',Below W.heap.size W w'->(nK w' w.heap.size x (nK0 w' (w.heap.size+1) y)) from λ w' hB=>⟨(X.bw hB).c0,(X.bw hB).c1,(Y.bw hB).c0,(Y.bw hB).c1⟩)
 go_enter Tryz.func166,Tryz.ntmps166
 go_wp2;rw[<- hW];clear hW hx hy;obtain⟨x0,x1,x2,x3⟩:=zA HK _ (Below.refl _ _);have m8:Below W.heap.size W W.drew:=(Below.refl _ _).drew
 go_cut [7] (λ p wx=>∃ (L L':Nat) (D:Int),p=.int .i64 D/\D=(L:Int)-(L':Int)/\Q L<=n/\n<Q (L+1)/\Q L'<=d/\d<Q (L'+1)/\L<16*k+1/\L'<16*k+1/\Below W.heap.size W wx)
 case first =>
  go_region_held3 (λ w'=>nK w' w.heap.size x (nK0 w' (w.heap.size+1) y)) (first|exact zA HK _ (by with_reducible first|exact m8|exact j9|exact j7)|(dsimp only[cK,cK0,nK,nK0,rK,rK0];go_keep)|go_keep)
   (first
    | (go_at_call 120;have hq:=j7;refine (zB2 _ _ _ _ _ d _ ((zA HY).bw j7) (by omega)).mono ?_;rintro r' w2 ⟨l2,Ep,rfl,b9⟩;have j9:=zB j7 b9)
    | (go_at_call 120;refine (zB2 _ _ _ _ _ n _ ((zA HX).bw m8) (by omega)).mono ?_;rintro r' w1 ⟨l1,Er,rfl,b7⟩;have j7:=zB m8 b7))
  all_goals
   obtain⟨L,e1,e2,e3⟩:=Er.2.2 hn;obtain⟨L',f1,f2,f3⟩:=Ep.2.2 hd;have hL:=zQC (zA HX) e2 (by omega)
   have MG:=zQC (zA HY) f2 (by omega)
   have HE:=zC e1;have HF:=zC f1;clear e1 f1;go_wp2_with fail;go_meet;exact⟨L,L',_,rfl,(by rw[jL _ (by have:=zA HE;have:=zA HF;omega) (by have:=zA HE;have:=zA HF;omega)];have:=zA HE;have:=zA HF;omega),e2,e3,f2,f3,hL,MG,j9⟩
 case rest =>
 obtain⟨L,L',D,rfl,hD,e2,e3,f2,f3,hL,MG,C9⟩:=hcut;have K7:=bal_near e2 e3 f2 f3;have pJ:=zC K7;clear K7 e2 e3 f2 f3 x0 x1 x2 x3 m8;replace X:=X.bw C9;replace Y:=Y.bw C9;replace R:=R.bw C9;replace R2:=R2.bw C9;have MH:∀ o,wc.frozen? ⟨w.heap.size,o,none⟩=false:=λ o=>(C9.frozen (p:=⟨w.heap.size,o,none⟩) lX).trans (FX o)
 have MI:∀ o,wc.frozen? ⟨w.heap.size+1,o,none⟩=false:=λ o=>(C9.frozen (p:=⟨w.heap.size+1,o,none⟩) lY).trans (FY o)
 replace HX:=zC ((zA HX).bw C9);replace HY:=zC ((zA HY).bw C9);replace b8:=zB b8 C9;clear HK lX lY lR Y1 FX FY C9;have lX:=X.lt;have lY:=Y.lt;have lR:=R.lt;have Y1:=R2.lt;obtain⟨A,hA⟩:∃ A:Nat,(A:Int)=max 0 (-D):=⟨(max 0 (-D)).toNat,by omega⟩
 obtain⟨C,hC⟩:∃ C:Nat,(C:Int)=max 0 D:=⟨(max 0 D).toNat,by omega⟩
 have hwD:IntKind.i64.wrap (-D) = -D:=jL _ (by omega) (by omega)
 have VV:D<=16*k /\ -(16*k)<=D:=by omega
 have K7:=zA pJ A C (by omega)
 have HA:=zC hA;have HC:=zC hC;have HD:=zC hD;have HW:=zC hwD;have Bw:=zC VV;have hAk:A<=16*k:=by omega
 have hCk:C<=16*k:=by omega
 have Bx:=zC K7;clear hA hC hD hwD VV pJ hL MG K7;go_wp2_with fail
 go_cut [7] (λ p wx=>p=.int .i64 D/\∃ X Y:Nm,NmC wx w.heap.size X/\NmC wx (w.heap.size+1) Y/\IntAt wx X.neg X.a X.n X.cap (k+k+10) (n*Q A)/\IntAt wx Y.neg Y.a Y.n Y.cap (k+k+10) (d*Q C)/\NoI wx (w.heap.size+1+1)/\NoI wx (w.heap.size+1+1+1)/\Below w.heap.size w wx)
 case first =>
  have dK:=zC X;have dL:=zC Y;obtain⟨x0,x1⟩:=X;obtain⟨y0,y1⟩:=Y;have MJ:=zC (show (if 0<IntKind.i64.wrap (-D) then IntKind.i64.wrap (-D) else 0)=(A:Int) by rw[zA HW];have:=zA HA;split<;>omega)
  have MK:=zC (show (if 0<D then D else 0)=(C:Int) by have:=zA HC;split<;>omega)
  by_cases d1:0<D
  ·have d2:IntKind.i64.wrap (-D)<=0:=by rw[zA HW];omega
   have mz:=zC (show (0:Int)=(A:Int) by have:=zA HA;omega)
   have mA:=zC (show D=(C:Int) by have:=zA HC;omega)
   go_region_with
    (first
     | (go_at_call 95;have hq:=j7;(with_reducible refine (zFM _ _ _ _ _ C k d _ (by with_reducible first|exact zA mA|exact zA MK) ((zA HY).bw j7) (by omega) (by omega)).mono ?_);rintro r' w2 ⟨b6,a2,n2,c2,rfl,o0,b9⟩;have j9:=zB j7 b9;have VW:=Yd lX j9.size;have VZ:=Yd lY j9.size;replace k9:=k9.bw b9;obtain⟨x4,x5⟩:=(zA dK).bw j9;obtain⟨y4,y5⟩:=(zA dL).bw j9;have F2:∀ o,w2.frozen? ⟨w.heap.size,o,none⟩=false:=(λ o=>(j9.frozen (p:=⟨w.heap.size,o,none⟩) lX).trans (MH o));have G2:∀ o,w2.frozen? ⟨w.heap.size+1,o,none⟩=false:=(λ o=>(j9.frozen (p:=⟨w.heap.size+1,o,none⟩) lY).trans (MI o)))
     | (go_at_call 95;(with_reducible refine (zFM _ _ _ _ _ A k n _ (by with_reducible first|exact zA mz|exact zA MJ) ((zA HX).bw (Below.refl _ _).drew) (by omega) (by omega)).mono ?_);rintro r' w1 ⟨g9,a1,n1,c1,rfl,k9,b7⟩;have j7:Below wc.heap.size wc w1:=zB (Below.refl _ _).drew b7;obtain⟨y2,y3⟩:=(zA dL).bw j7;obtain⟨x2,x3⟩:=(zA dK).bw j7;have Wa:=Yd lX j7.size;have Wb:=Yd lY j7.size))
   all_goals
    go_wp2_with fail;go_meet;exact⟨rfl,zJ7 j9 (NmC.mk x4 x5) (NmC.mk y4 y5) ⟨g9,a1,n1,c1⟩ ⟨b6,a2,n2,c2⟩ (k9.mono (by omega)) (o0.mono (by omega)) R R2 b8⟩
  ·by_cases d3:D<0
   ·have d2:0<IntKind.i64.wrap (-D):=by rw[zA HW];omega
    have d4:D<=0:=by omega
    have mz:=zC (show IntKind.i64.wrap (-D)=(A:Int) by rw[zA HW];have:=zA HA;omega)
    have mA:=zC (show (0:Int)=(C:Int) by have:=zA HC;omega)
    go_region_with
     (first
      | (go_at_call 95;have hq:=j7;(with_reducible refine (zFM _ _ _ _ _ C k d _ (by with_reducible first|exact zA mA|exact zA MK) ((zA HY).bw j7) (by omega) (by omega)).mono ?_);rintro r' w2 ⟨b6,a2,n2,c2,rfl,o0,b9⟩;have j9:=zB j7 b9;have VW:=Yd lX j9.size;have VZ:=Yd lY j9.size;replace k9:=k9.bw b9;obtain⟨x4,x5⟩:=(zA dK).bw j9;obtain⟨y4,y5⟩:=(zA dL).bw j9;have F2:∀ o,w2.frozen? ⟨w.heap.size,o,none⟩=false:=(λ o=>(j9.frozen (p:=⟨w.heap.size,o,none⟩) lX).trans (MH o));have G2:∀ o,w2.frozen? ⟨w.heap.size+1,o,none⟩=false:=(λ o=>(j9.frozen (p:=⟨w.heap.size+1,o,none⟩) lY).trans (MI o)))
      | (go_at_call 95;(with_reducible refine (zFM _ _ _ _ _ A k n _ (by with_reducible first|exact zA mz|exact zA MJ) ((zA HX).bw (Below.refl _ _).drew) (by omega) (by omega)).mono ?_);rintro r' w1 ⟨g9,a1,n1,c1,rfl,k9,b7⟩;have j7:Below wc.heap.size wc w1:=zB (Below.refl _ _).drew b7;obtain⟨y2,y3⟩:=(zA dL).bw j7;obtain⟨x2,x3⟩:=(zA dK).bw j7;have Wa:=Yd lX j7.size;have Wb:=Yd lY j7.size))
    all_goals
     go_wp2_with fail;go_meet;exact⟨rfl,zJ7 j9 (NmC.mk x4 x5) (NmC.mk y4 y5) ⟨g9,a1,n1,c1⟩ ⟨b6,a2,n2,c2⟩ (k9.mono (by omega)) (o0.mono (by omega)) R R2 b8⟩
   ·have d2:IntKind.i64.wrap (-D)<=0:=by rw[zA HW];omega
    have d4:D<=0:=by omega
    have mz:=zC (show (0:Int)=(A:Int) by have:=zA HA;omega)
    have mA:=zC (show (0:Int)=(C:Int) by have:=zA HC;omega)
    go_region_with
     (first
      | (go_at_call 95;have hq:=j7;(with_reducible refine (zFM _ _ _ _ _ C k d _ (by with_reducible first|exact zA mA|exact zA MK) ((zA HY).bw j7) (by omega) (by omega)).mono ?_);rintro r' w2 ⟨b6,a2,n2,c2,rfl,o0,b9⟩;have j9:=zB j7 b9;have VW:=Yd lX j9.size;have VZ:=Yd lY j9.size;replace k9:=k9.bw b9;obtain⟨x4,x5⟩:=(zA dK).bw j9;obtain⟨y4,y5⟩:=(zA dL).bw j9;have F2:∀ o,w2.frozen? ⟨w.heap.size,o,none⟩=false:=(λ o=>(j9.frozen (p:=⟨w.heap.size,o,none⟩) lX).trans (MH o));have G2:∀ o,w2.frozen? ⟨w.heap.size+1,o,none⟩=false:=(λ o=>(j9.frozen (p:=⟨w.heap.size+1,o,none⟩) lY).trans (MI o)))
      | (go_at_call 95;(with_reducible refine (zFM _ _ _ _ _ A k n _ (by with_reducible first|exact zA mz|exact zA MJ) ((zA HX).bw (Below.refl _ _).drew) (by omega) (by omega)).mono ?_);rintro r' w1 ⟨g9,a1,n1,c1,rfl,k9,b7⟩;have j7:Below wc.heap.size wc w1:=zB (Below.refl _ _).drew b7;obtain⟨y2,y3⟩:=(zA dL).bw j7;obtain⟨x2,x3⟩:=(zA dK).bw j7;have Wa:=Yd lX j7.size;have Wb:=Yd lY j7.size))
    all_goals
     go_wp2_with fail;go_meet;exact⟨rfl,zJ7 j9 (NmC.mk x4 x5) (NmC.mk y4 y5) ⟨g9,a1,n1,c1⟩ ⟨b6,a2,n2,c2⟩ (k9.mono (by omega)) (o0.mono (by omega)) R R2 b8⟩
 case rest =>
 obtain⟨rfl,X,Y,hX,hY,iX,iY,R,R2,b8⟩:=hcut;have hQA:=zG A;have hQC:=zG C;have hnA:0<n*Q A:=Int.mul_pos hn (by omega)
 have hdC:0<d*Q C:=Int.mul_pos hd (by omega)
 obtain⟨N1,Q3⟩:∃ N1,N1=n*Q A:=⟨_,rfl⟩;obtain⟨D1,j7⟩:∃ D1,D1=d*Q C:=⟨_,rfl⟩
 have X9:0<=D->n*D1=N1*d*Q D.toNat:=λ h=>by
  have e1:A=0:=by have:=zA HA;omega
  have e2:D.toNat=C:=by have:=zA HC;omega
  rw[Q3,j7,e1,e2];simp only[Q];grind
 have T7:D<0->n*D1*Q (-D).toNat=N1*d:=λ h=>by
  have e1:C=0:=by have:=zA HC;omega
  have e2:(-D).toNat=A:=by have:=zA HA;omega
  rw[Q3,j7,e1,e2];simp only[Q];grind
 have ML:=zC X9;have MM:=zC T7;have HDA2:=zA Bw;have BC:Hid (N1<2*D1/\D1<2*N1):=zC (by rw[Q3,j7];exact zA Bx)
 rw[<- Q3] at iX hnA;rw[<- j7] at iY hdC;clear X9 T7 HA HC HD HW Bw hQA hQC Q3 j7 Bx;have pO:=zC iX;have pP:=zC iY;have dK:=zC hX;have dL:=zC hY;have lX:=hX.lt;have lY:=hY.lt;have lR:=R.lt;have Y1:=R2.lt;have HK:=zC (show ∀ w',Below wc.heap.size wc w'->(nK w' w.heap.size X (nK0 w' (w.heap.size+1) Y)) from λ w' hB=>⟨(hX.bw hB).c0,(hX.bw hB).c1,(hY.bw hB).c0,(hY.bw hB).c1⟩)
 clear iX iY hX hY;obtain⟨x0,x1,y0,y1⟩:=zA HK _ (Below.refl _ _);have m8:Below wc.heap.size wc wc.drew:=(Below.refl _ _).drew;go_wp2_with fail
 go_cut [22] (λ p wx=>p=.bool (decide (D1*3<N1*2))/\Below wc.heap.size wc wx)
 case first =>
  go_region_held3 (λ w'=>nK w' w.heap.size X (nK0 w' (w.heap.size+1) Y)) (first|exact zA HK _ (by with_reducible first|exact m8|exact C8|exact y9|exact j9|exact j7)|(dsimp only[cK,cK0,nK,nK0,rK,rK0];go_keep)|go_keep)
   (first
    | (go_at_call 46;have hq:=y9;refine (zU _ _ _ _ _ _ _ _ _ _ (N1*2) (D1*3) _ ((k9.bw b9).bw k8) A8).mono ?_;rintro r' w4 ⟨rfl,m9⟩;have C8:=zB y9 m9)
    | (go_at_call 66;have hq:=j9;refine (zW _ _ _ _ _ _ _ _ (k+k+10) 4 D1 3 _ ((zA pP).bw j9) o0 (by omega) (by omega)).mono ?_;rintro r' w3 ⟨p9,a3,n3,c3,rfl,A8,k8⟩;have y9:=zB j9 k8)
    | (go_at_call 43;have hq:=j7;refine (zD 3 _ (by decide) (by decide)).mono ?_;rintro r' w2 ⟨b6,a2,n2,c2,rfl,o0,b9⟩;have j9:=zB j7 b9)
    | (go_at_call 95;refine (zFM _ _ _ _ _ 1 (k+k+10) N1 _ rfl ((zA pO).bw m8) (by omega) (by omega)).mono ?_;rintro r' w1 ⟨g9,a1,n1,c1,rfl,k9,b7⟩;have j7:=zB m8 b7))
  all_goals
   go_wp2_with fail;go_meet;exact⟨congrArg _ (cmp_gtB _ _),C8⟩
 case rest =>
 obtain⟨rfl,b7⟩:=hcut;have dK:=zC ((zA dK).bw b7);have dL:=zC ((zA dL).bw b7);have pO:=zC ((zA pO).bw b7);have pP:=zC ((zA pP).bw b7);replace R:=R.bw b7;replace R2:=R2.bw b7;replace b8:=zB b8 b7;have lX:=(zA dK).lt;have lY:=(zA dL).lt;have lR:=R.lt;have Y1:=R2.lt;have HK:=zC (show ∀ w',Below wc.heap.size wc w'->(nK w' w.heap.size X (nK0 w' (w.heap.size+1) Y)) from λ w' hB=>⟨((zA dK).bw hB).c0,((zA dK).bw hB).c1,((zA dL).bw hB).c0,((zA dL).bw hB).c1⟩)
 clear x0 x1 y0 y1 m8;obtain⟨x0,x1,y0,y1⟩:=zA HK _ (Below.refl _ _);have m8:Below wc.heap.size wc wc.drew:=(Below.refl _ _).drew;have n1:w.heap.size≠w.heap.size+1+1:=by omega
 have n2:w.heap.size≠w.heap.size+1+1+1:=by omega
 have n3:w.heap.size+1≠w.heap.size+1+1:=by omega
 have n4:w.heap.size+1≠w.heap.size+1+1+1:=by omega
 have n5:w.heap.size+1+1≠w.heap.size+1+1+1:=by omega
 have n6:w.heap.size+1+1+1≠w.heap.size+1+1:=by omega
 have n7:w.heap.size+1+1≠w.heap.size:=by omega
 have n8:w.heap.size+1+1+1≠w.heap.size:=by omega
 have n9:w.heap.size+1+1≠w.heap.size+1:=by omega
 have lq:w.heap.size+1+1+1≠w.heap.size+1:=by omega
 by_cases hc:D1*3<N1*2
 ·have HR:Hid (Bal n d N1 (D1*2) (D+1)):=zC (by
   exact bal_a hnA hdC (zA ML) (zA MM) (zA BC).1 (zA BC).2 hc)
  have oH:=zC (show IntKind.i64.wrap (D+1)=D+1 from jL _ (by omega) (by omega))
  have Hc:=zC hc;go_wp2_with fail
  go_region_held3 (λ w'=>nK w' w.heap.size X (nK0 w' (w.heap.size+1) Y)) (first|exact zA HK _ (by with_reducible first|exact m8|exact j7)|(dsimp only[cK,cK0,nK,nK0,rK,rK0];go_keep)|go_keep)
   (first
    | (go_at_call 95;refine (zFM _ _ _ _ _ 1 (k+k+10) D1 _ rfl ((zA pP).bw m8) (by omega) (by omega)).mono ?_;rintro r' w1 ⟨g9,a1,mB,c1,rfl,k9,b7⟩;have j7:=zB m8 b7;obtain⟨q0,q1,q2⟩:=R.bw j7;obtain⟨p0,p1,p2⟩:=R2.bw j7;obtain⟨z0,z1,z2,z3⟩:=zA HK _ j7))
  all_goals
   have HE:=zKP (w:=w) (K:=k+k+20) (R.bw j7) (R2.bw j7) (X:=X) (Y:=⟨g9,a1,mB,c1⟩) (((zA pO).bw j7).mono (by omega)) (k9.mono (by omega)) (zB b8 j7)
   go_wp2_with fail;refine bodyPost_ret (v:=.tuple #[.agg X.q,.agg #[.bool g9,.slice a1 mB c1],.int .i64 (IntKind.i64.wrap (D+1))]) (by simp[results,Tryz.results166,go_sem,q0,q1,p0,p1,n5,n6]) rfl ⟨X,⟨g9,a1,mB,c1⟩,N1,(D1*2),_,rfl,by rw[zA oH];exact zA HR,by rw[zA oH];omega,by rw[zA oH];omega,HE.1,HE.2.1,HE.2.2⟩
 ·have Hc:=zC hc
  go_wp2_with fail
  go_cut [35] (λ p wx=>p=.bool (decide (N1*4<D1*3))/\Below wc.heap.size wc wx)
  case first =>
   go_region_held3 (λ w'=>nK w' w.heap.size X (nK0 w' (w.heap.size+1) Y)) (first|exact zA HK _ (by with_reducible first|exact m8|exact C8|exact y9|exact j9|exact j7)|(dsimp only[cK,cK0,nK,nK0,rK,rK0];go_keep)|go_keep)
    (first
     | (go_at_call 46;have hq:=y9;refine (zU _ _ _ _ _ _ _ _ _ _ (N1*4) (D1*3) _ ((k9.bw b9).bw k8) A8).mono ?_;rintro r' w4 ⟨rfl,m9⟩;have C8:=zB y9 m9)
     | (go_at_call 66;have hq:=j9;refine (zW _ _ _ _ _ _ _ _ (k+k+10) 4 D1 3 _ ((zA pP).bw j9) o0 (by omega) (by omega)).mono ?_;rintro r' w3 ⟨p9,a3,n3,c3,rfl,A8,k8⟩;have y9:=zB j9 k8)
     | (go_at_call 43;have hq:=j7;refine (zD 3 _ (by decide) (by decide)).mono ?_;rintro r' w2 ⟨b6,a2,n2,c2,rfl,o0,b9⟩;have j9:=zB j7 b9)
     | (go_at_call 95;refine (zFM _ _ _ _ _ 2 (k+k+10) N1 _ rfl ((zA pO).bw m8) (by omega) (by omega)).mono ?_;rintro r' w1 ⟨g9,a1,n1,c1,rfl,k9,b7⟩;have j7:=zB m8 b7))
   all_goals
    go_wp2_with fail;go_meet;exact⟨congrArg _ (cmp_ltB _ _),C8⟩
  case rest =>
  obtain⟨rfl,b7⟩:=hcut;have dK:=zC ((zA dK).bw b7);have dL:=zC ((zA dL).bw b7);have pO:=zC ((zA pO).bw b7);have pP:=zC ((zA pP).bw b7);replace R:=R.bw b7;replace R2:=R2.bw b7;replace b8:=zB b8 b7;have lX:=(zA dK).lt;have lY:=(zA dL).lt;have lR:=R.lt;have Y1:=R2.lt;have HK:=zC (show ∀ w',Below wc.heap.size wc w'->(nK w' w.heap.size X (nK0 w' (w.heap.size+1) Y)) from λ w' hB=>⟨((zA dK).bw hB).c0,((zA dK).bw hB).c1,((zA dL).bw hB).c0,((zA dL).bw hB).c1⟩)
  clear x0 x1 y0 y1 m8;obtain⟨x0,x1,y0,y1⟩:=zA HK _ (Below.refl _ _);have m8:Below wc.heap.size wc wc.drew:=(Below.refl _ _).drew
  by_cases G8:N1*4<D1*3
  ·have HR:Hid (Bal n d (N1*2) D1 (D-1)):=zC (by
     exact bal_b hnA hdC (zA ML) (zA MM) (zA BC).1 (zA BC).2 G8)
   have oH:=zC (show IntKind.i64.wrap (D-1)=D-1 from jL _ (by omega) (by omega))
   have Hc2:=zC G8;go_wp2_with fail
   go_region_held3 (λ w'=>nK w' w.heap.size X (nK0 w' (w.heap.size+1) Y)) (first|exact zA HK _ (by with_reducible first|exact m8|exact j7)|(dsimp only[cK,cK0,nK,nK0,rK,rK0];go_keep)|go_keep)
    (first
     | (go_at_call 95;refine (zFM _ _ _ _ _ 1 (k+k+10) N1 _ rfl ((zA pO).bw m8) (by omega) (by omega)).mono ?_;rintro r' w1 ⟨g9,a1,mB,c1,rfl,k9,b7⟩;have j7:=zB m8 b7;obtain⟨q0,q1,q2⟩:=R.bw j7;obtain⟨p0,p1,p2⟩:=R2.bw j7;obtain⟨z0,z1,z2,z3⟩:=zA HK _ j7))
   all_goals
    have HE:=zKP (w:=w) (K:=k+k+20) (R.bw j7) (R2.bw j7) (X:=⟨g9,a1,mB,c1⟩) (Y:=Y) (k9.mono (by omega)) (((zA pP).bw j7).mono (by omega)) (zB b8 j7)
    go_wp2_with fail;refine bodyPost_ret (v:=.tuple #[.agg #[.bool g9,.slice a1 mB c1],.agg Y.q,.int .i64 (IntKind.i64.wrap (D-1))]) (by simp[results,Tryz.results166,go_sem,q0,q1,p0,p1,n5,n6]) rfl ⟨⟨g9,a1,mB,c1⟩,Y,(N1*2),D1,_,rfl,by rw[zA oH];exact zA HR,by rw[zA oH];omega,by rw[zA oH];omega,HE.1,HE.2.1,HE.2.2⟩
  ·have HR:Hid (Bal n d N1 D1 D):=zC (by
     exact bal_c hnA hdC (zA ML) (zA MM) (by have:=zA Hc;omega) G8)
   have Hc2:=zC G8;go_wp2_with fail;have HR1:=R;have Ja:=R2;obtain⟨q0,q1,q2⟩:=R;obtain⟨p0,p1,p2⟩:=R2
   go_region
   all_goals
    have HE:=zKP (w:=w) (K:=k+k+20) (HR1.bw (Below.refl _ _).drew) (Ja.bw (Below.refl _ _).drew) (X:=X) (Y:=Y) (((zA pO).bw (Below.refl _ _).drew).mono (by omega)) (((zA pP).bw (Below.refl _ _).drew).mono (by omega)) (zB b8 (Below.refl _ _).drew)
    go_wp2_with fail;refine bodyPost_ret (v:=.tuple #[.agg X.q,.agg Y.q,.int .i64 (D)]) (by simp[results,Tryz.results166,go_sem,q0,q1,p0,p1,n5,n6]) rfl ⟨X,Y,N1,D1,_,rfl,by exact zA HR,by omega,by omega,HE.1,HE.2.1,HE.2.2⟩
end Go.Proofs.YtgmnknmjainababGreat
