/-
  Its own texts.
-/
import Derived.Test.YtgmnknmjainabacGreatK19
set_option maxRecDepth 100000
set_option maxHeartbeats 40000000
set_option linter.unnecessarySimpa false
set_option linter.unusedSimpArgs false
set_option linter.unusedVariables false
namespace Go.Proofs.YtgmnknmjainabacGreat
open Ex
structure zLB (p q r s n d:Int) (B:Nat):Prop where
 p0:0<p
 q0:0<q
 pq:p<=100*q
 qq:q<=2048
 r0:0<r
 s0:0<s
 rs:r<=100*s
 ss:s<=2048
 n0:0<n
 nd:2*n<=d
 dd:d<=4503599627370496
 b0:40<=B
 b1:B<=400
def puU (p q r s n:Int) (k:Nat):Int:=n*(p*s+r*q+((k-1:Nat):Int)*(q*s))
def puD (p q s d:Int) (k:Nat):Int:=d*((p+(k:Int)*q)*s)
def puT (p q r s n d:Int) (B:Nat):Nat->Int × Int:=riT (Q B,Q B) (puU p q r s n) (puD p q s d)
def puN (r s:Int):Nat:=(2*r/s).toNat
theorem pu_n {p q r s n d:Int} {B:Nat} (h:zLB p q r s n d B):(puN r s:Int)=2*r/s/\puN r s<=200:=by
 have r0:=h.r0;have s0:=h.s0;have rs:=h.rs;have q0:0<=2*r/s:=Int.ediv_nonneg (by omega) (by omega)
 have l:2*r/s<201:=Int.ediv_lt_of_lt_mul s0 (by omega)
 unfold puN;exact⟨by omega,by omega⟩
theorem zT1 {p q r s n d:Int} {B:Nat} (h:zLB p q r s n d B) (k:Nat):0<puD p q s d k:=by
 have:=Yz (show (0:Int)<=(k:Int) by omega) (show 0<=q by have:=h.q0;omega)
 have:=h.p0;have:=h.n0;have:=h.nd;exact Int.mul_pos (by omega) (Int.mul_pos (by omega) h.s0)
theorem zIZ {p q r s n d:Int} {B:Nat} (h:zLB p q r s n d B):zP9 (Q B,Q B) (puU p q r s n) (puD p q s d):=by
 have qq:=zE B;have p0:=Int.le_of_lt h.p0;have q0:=Int.le_of_lt h.q0;have r0:=Int.le_of_lt h.r0;have s0:=Int.le_of_lt h.s0;have n0:=Int.le_of_lt h.n0;have nd:=h.nd;have qs:=Yz q0 s0;refine⟨⟨λ k=>Yz n0 ?_,λ k=>zT1 h k⟩,by show 0<Q B;omega,Int.le_refl _,by show Q B-Q B<=1;omega,λ k hk=>?_⟩
 ·have:=Yz p0 s0
  have:=Yz r0 q0;have:=Yz (show (0:Int)<=((k-1:Nat):Int) by omega) qs
  omega
 ·have e1:puU p q r s n (k+2)=puU p q r s n (k+1)+n*(q*s):=by
   unfold puU;have a1:k+2-1=k+1:=by omega
   have a2:k+1-1=k:=by omega
   rw[a1,a2];have:((k+1:Nat):Int)=(k:Int)+1:=by omega
   rw[this];grind
  have e2:puD p q s d (k+2)=puD p q s d (k+1)+d*(q*s):=by
   unfold puD;have:((k+2:Nat):Int)=((k+1:Nat):Int)+1:=by omega
   rw[this];grind
  rw[e1,e2] at hk;have m:=Yt (show n<=d by omega) qs
  omega
theorem pu_k {p q r s n:Int} (k:Nat):puU p q r s n (k+1)=n*(p*s+r*q+(k:Int)*(q*s)):=by
 unfold puU;rw[show k+1-1=k by omega]
theorem pu_34 {p q r s n d:Int} {B:Nat} (h:zLB p q r s n d B) (k:Nat) (hk:puN r s<=k):4*puU p q r s n (k+1)<=3*puD p q s d (k+1):=by
 have p0:=Int.le_of_lt h.p0;have q0:=Int.le_of_lt h.q0;have r0:=Int.le_of_lt h.r0;have s0:=h.s0;have n0:=Int.le_of_lt h.n0;have nd:=h.nd;have f:=kW (2*r) s0;rw[<- (pu_n h).1] at f;have m1:=Yt (show (puN r s:Int)+1<=(k:Int)+1 by omega) (Int.le_of_lt s0)
 have m2:=Yt (show 2*r<=((k:Int)+1)*s by omega) q0
 have ps:=Yz p0 (Int.le_of_lt s0);have rq:=Yz r0 q0;have qs:=Yz q0 (Int.le_of_lt s0);have kqs:=Yz (show (0:Int)<=(k:Int) by omega) qs
 rw[pu_k];unfold puD;have ec:((k+1:Nat):Int)=(k:Int)+1:=by omega
 rw[ec];generalize (k:Int)=K at *;have e1:(p+(K+1)*q)*s=p*s+(K+1)*s*q:=by grind
 have e2:(K+1)*s*q=K*(q*s)+q*s:=by grind
 have e3:2*r*q=2*(r*q):=by grind
 rw[e1,e2];rw[e2,e3] at m2;generalize p*s=u at *;generalize r*q=v at *;generalize K*(q*s)=w at *;generalize q*s=y at *;have m3:=Yt nd (show 0<=u+v+w by omega)
 have m4:=Yx (show 2*(u+v+w)<=3*(u+(w+y)) by omega) (show 0<=d by omega)
 have r1:4*(n*(u+v+w))=2*(2*n*(u+v+w)):=by grind
 have r2:d*(2*(u+v+w))=2*(d*(u+v+w)):=by grind
 have r3:d*(3*(u+(w+y)))=3*(d*(u+(w+y))):=by grind
 omega
theorem pu_c {p q r s n d:Int} {B:Nat} (h:zLB p q r s n d B) (k:Nat):puU p q r s n (k+1)<=Q 6*puD p q s d (k+1):=by
 have p0:=Int.le_of_lt h.p0;have q0:=Int.le_of_lt h.q0;have r0:=Int.le_of_lt h.r0;have s0:=Int.le_of_lt h.s0;have n0:=Int.le_of_lt h.n0;have nd:=h.nd;have e6:Q 6=64:=rfl;have ps:=Yz p0 s0;have rq:=Yz r0 q0;have qs:=Yz q0 s0;have kqs:=Yz (show (0:Int)<=(k:Int) by omega) qs
 have m1:=Yt h.rs q0;rw[pu_k,e6];unfold puD;have ec:((k+1:Nat):Int)=(k:Int)+1:=by omega
 rw[ec];generalize (k:Int)=K at *;have e1:(p+(K+1)*q)*s=p*s+(K*(q*s)+q*s):=by grind
 have e2:100*s*q=100*(q*s):=by grind
 rw[e1];rw[e2] at m1;generalize p*s=u at *;generalize r*q=v at *;generalize K*(q*s)=w at *;generalize q*s=y at *;have m3:=Yt nd (show 0<=u+v+w by omega)
 have m4:=Yx (show u+v+w<=128*(u+(w+y)) by omega) (show 0<=d by omega)
 have r1:2*n*(u+v+w)=2*(n*(u+v+w)):=by grind
 have r3:d*(128*(u+(w+y)))=128*(d*(u+(w+y))):=by grind
 omega
theorem pu_set {p q r s n d:Int} {B:Nat} (h:zLB p q r s n d B):∃ N,N<=5100/\yS (puT p q r s n d B) (puN r s) N:=by
 obtain⟨N,h1,h2⟩:=zUA (zIZ h) (H:=B) (c:=6) (turn:=puN r s) (Int.le_refl _) (by have:=h.b0;omega) (pu_c h) (pu_34 h)
 have:=(pu_n h).2;have:=h.b1;exact⟨N,by omega,h2⟩
theorem pu_fit {p q r s n d:Int} {B:Nat} (h:zLB p q r s n d B) (k:Nat) (hk:k<=1000000):(jE (puT p q r s n d B) k).2+9<=Q 1621:=by
 have a:=zT8 (zIZ h) (H:=B) (c:=6) (turn:=puN r s) (Int.le_refl _) (by have:=h.b0;omega) (pu_c h) (pu_34 h) k hk
 have:=(pu_n h).2;have:=h.b1;exact Int.le_trans a (zJ (by omega))
theorem pu_hi {p q r s n d:Int} {B:Nat} (h:zLB p q r s n d B) (k:Nat):(puT p q r s n d B k).2<=Q 1621:=by
 have a:=zT9 (zIZ h) (H:=B) (c:=6) (turn:=puN r s) (Int.le_refl _) (by have:=h.b0;omega) (pu_c h) (pu_34 h) k
 have:=(pu_n h).2;have:=h.b1;exact Int.le_trans a (zJ (by omega))
theorem pu_val {p q r s n d:Int} {B:Nat} (h:zLB p q r s n d B) (k M:Nat):riV (λ _=>1) (puU p q r s n) (puD p q s d) k M=(p:Rat)/(q:Rat)*bT ((p:Rat)/(q:Rat)) ((r:Rat)/(s:Rat)) ((n:Rat)/(d:Rat)) k:=by
 have p0:(0:Rat)<(p:Rat):=by exact_mod_cast h.p0
 have q0:(0:Rat)<(q:Rat):=by exact_mod_cast h.q0
 have s0:(0:Rat)<(s:Rat):=by exact_mod_cast h.s0
 have d0:(0:Rat)<(d:Rat):=by exact_mod_cast (show 0<d by have:=h.n0;have:=h.nd;omega)
 have a0:(0:Rat)<(p:Rat)/(q:Rat):=zF p0 q0;have ea:=rdm (a:=(p:Rat)) q0;have eb:=rdm (a:=(r:Rat)) s0;have Ff:=rdm (a:=(n:Rat)) d0
 induction k with
 | zero=>rw[zEQ a0];rfl
 | succ k ih =>
  have pD:(0:Rat)<(puD p q s d (k+1):Rat):=by exact_mod_cast zT1 h (k+1)
  have us:=zA4 a0 ((r:Rat)/(s:Rat)) ((n:Rat)/(d:Rat)) k;have up:=zBQ a0 k
  show (puU p q r s n (k+1):Rat)/(puD p q s d (k+1):Rat)*riV (λ _=>1) (puU p q r s n) (puD p q s d) k M=_
  rw[ih]
  have eD:(puD p q s d (k+1):Rat)=(d:Rat)*(q:Rat)*(s:Rat)*((p:Rat)/(q:Rat)+((k:Rat)+1)):=by
   unfold puD;rw[YA,YA,Rat.intCast_add,YA];have:(((k+1:Nat):Int):Rat)=(k:Rat)+1:=by push_cast;rfl
   rw[this];have:(d:Rat)*(q:Rat)*(s:Rat)*((p:Rat)/(q:Rat)+((k:Rat)+1))=(d:Rat)*(s:Rat)*((p:Rat)/(q:Rat)*(q:Rat)+((k:Rat)+1)*(q:Rat)):=by grind
   rw[this,ea];grind
  have eU:(puU p q r s n (k+1):Rat)=(d:Rat)*(q:Rat)*(s:Rat)*(((n:Rat)/(d:Rat))*((p:Rat)/(q:Rat)+(r:Rat)/(s:Rat)+(k:Rat))):=by
   rw[pu_k,YA,Rat.intCast_add,Rat.intCast_add,YA,YA,YA,YA];have ck:((k:Int):Rat)=(k:Rat):=rfl;rw[ck];have:(d:Rat)*(q:Rat)*(s:Rat)*(((n:Rat)/(d:Rat))*((p:Rat)/(q:Rat)+(r:Rat)/(s:Rat)+(k:Rat)))=((n:Rat)/(d:Rat)*(d:Rat))*(((p:Rat)/(q:Rat)*(q:Rat))*(s:Rat)+((r:Rat)/(s:Rat)*(s:Rat))*(q:Rat)+(k:Rat)*((q:Rat)*(s:Rat))):=by grind
   rw[this,Ff,ea,eb]
  have dq:=Rat.mul_pos (Rat.mul_pos d0 q0) s0;have e4:=rdm (a:=(puU p q r s n (k+1):Rat)) pD;generalize bT ((p:Rat)/(q:Rat)) ((r:Rat)/(s:Rat)) ((n:Rat)/(d:Rat)) k=u at *;generalize bT ((p:Rat)/(q:Rat)) ((r:Rat)/(s:Rat)) ((n:Rat)/(d:Rat)) (k+1)=u1 at *;generalize (puU p q r s n (k+1):Rat)/(puD p q s d (k+1):Rat)=t at *;rw[eD,eU] at e4;generalize (p:Rat)/(q:Rat)=a at *;generalize (r:Rat)/(s:Rat)=b at *;generalize (n:Rat)/(d:Rat)=x at *;generalize (d:Rat)*(q:Rat)*(s:Rat)=e at *;refine zX (c:=e*(a+((k:Rat)+1))) (Rat.mul_pos dq up) ?_;have r1:e*(a+((k:Rat)+1))*(t*(a*u))=t*(e*(a+((k:Rat)+1)))*(a*u):=by grind
  have r2:e*(a+((k:Rat)+1))*(a*u1)=e*a*((a+((k:Rat)+1))*u1):=by grind
  rw[r1,r2,e4,us];grind
def zA9 (p q r s n d:Int) (B N:Nat):Int × Int:=kY (puT p q r s n d B) N
theorem pu_has {p q r s n d:Int} {B N:Nat} (h:zLB p q r s n d B) (hN:yS (puT p q r s n d B) (puN r s) N):Iv B (zA9 p q r s n d B N) (λ M=>(p:Rat)/(q:Rat)*bS ((p:Rat)/(q:Rat)) ((r:Rat)/(s:Rat)) ((n:Rat)/(d:Rat)) M):=by
 have t:=zCG (zIZ h).ok (zHH B) 0 (λ M _=>by grind) (λ k hk=>pu_34 h k hk) hN
 refine Has.of_eq t λ M=>?_
 have:∀ m,(p:Rat)/(q:Rat)*S (bT ((p:Rat)/(q:Rat)) ((r:Rat)/(s:Rat)) ((n:Rat)/(d:Rat))) m=S (λ k=>riV (λ _=>1) (puU p q r s n) (puD p q s d) k M) m:=λ m=>by
  induction m with
  | zero=>show (p:Rat)/(q:Rat)*0=0;grind
  | succ m ih =>
   show (p:Rat)/(q:Rat)*(S (bT ((p:Rat)/(q:Rat)) ((r:Rat)/(s:Rat)) ((n:Rat)/(d:Rat))) m+bT ((p:Rat)/(q:Rat)) ((r:Rat)/(s:Rat)) ((n:Rat)/(d:Rat)) m)=S (λ k=>riV (λ _=>1) (puU p q r s n) (puD p q s d) k M) m+riV (λ _=>1) (puU p q r s n) (puD p q s d) m M
   rw[<- ih,pu_val h m M];grind
 exact this M
structure LgP3 (x:Nat->Rat) (B:Nat) (l u:Int):Prop where
 le:l<=u
 wd:u-l<=60000000*((B:Int)*(B:Int))+540000000
 ab:Abs (l,u) (360000*Q B)
 iv:Iv B (l,u) x
theorem lgP3_of {x y z:Nat->Rat} {B:Nat} {l1 u1 l2 u2 l3 u3:Int} (h1:zP8 x B l1 u1) (h2:zP8 y B l2 u2) (h3:zP8 z B l3 u3):LgP3 (λ M=>x M+y M-z M) B (l1+l2-u3) (u1+u2-l3):=by
 have iv:Iv B (zJA (zAR (l1,u1) (l2,u2)) (l3,u3)) (λ M=>x M+y M-z M):=(h1.iv.add h2.iv).sub h3.iv
 have a1:=h1.wd;have a2:=h2.wd;have a3:=h3.wd;have b1:=h1.le;have b2:=h2.le;have b3:=h3.le;obtain⟨x1,x2,x3,x4⟩:=h1.ab;obtain⟨y1,y2,y3,y4⟩:=h2.ab;obtain⟨z1,z2,z3,z4⟩:=h3.ab;simp only[] at x1 x2 x3 x4 y1 y2 y3 y4 z1 z2 z3 z4;refine⟨by omega,by omega,?_,iv⟩
 exact⟨by show _<=l1+l2-u3;omega,by show l1+l2-u3<=_;omega,by show _<=u1+u2-l3;omega,by show u1+u2-l3<=_;omega⟩
def puY (p q r s:Int) (o1 o2 o3 g:Int × Int):Int × Int:=zAR (zAR (zK o1 p q) (zK o2 r s)) (zAR o3 g)
def puW (B:Nat):Int:=60000000*((B:Int)*(B:Int))+600000000
theorem zN6 {L:Rat->Nat->Rat} {x:Rat} {B:Nat} {o:Int × Int} {p q:Int} (ho:zCL L x B o) (p0:0<p) (q0:0<q) (pq:p<=100*q):(zK o p q).1<=(zK o p q).2/\(zK o p q).2-(zK o p q).1<=100*(132*(2*(B:Int)+14))+1/\Abs (zK o p q) (26400*Q B):=by
 have Qp:=zE B;have sl:=kN (a:=o) (n:=p) (d:=q) ho.le q0 (by omega)
 have sw:=kJ (a:=o) (n:=p) (d:=q) (c:=100*(o.2-o.1)) q0 (by
  have m:=Yx pq (show 0<=o.2-o.1 by have:=ho.le;omega)
  have r:(o.2-o.1)*(100*q)=100*(o.2-o.1)*q:=by grind
  omega)
 obtain⟨a1,a2,a3,a4⟩:=ho.ab;have wd:=ho.wd;refine⟨sl,by omega,?_⟩
 have t1:=yI (x:=o.1) (y:=p) (m:=264*Q B) (n:=100*q) a1 a2 (by omega) pq
 have t2:=yI (x:=o.2) (y:=p) (m:=264*Q B) (n:=100*q) a3 a4 (by omega) pq
 have r:264*Q B*(100*q)=26400*Q B*q:=by grind
 rw[r] at t1 t2;have r1:=kD q0 t1.1 t1.2;have r2:=kD q0 t2.1 t2.2;exact⟨r1.1,r1.2.1,r2.2.2.1,r2.2.2.2⟩
theorem puY_ok {L:Rat->Nat->Rat} {p q r s n d:Int} {B:Nat} {o1 o2 o3:Int × Int} {l u:Int} {X:Nat->Rat} {y z:Rat} (h:zLB p q r s n d B) (h1:zCL L y B o1) (h2:zCL L z B o2) (h3:zCL L ((p:Rat)/(q:Rat)) B o3) (hg:LgP3 X B l u):(puY p q r s o1 o2 o3 (l,u)).1<=(puY p q r s o1 o2 o3 (l,u)).2/\(puY p q r s o1 o2 o3 (l,u)).2-(puY p q r s o1 o2 o3 (l,u)).1<=puW B/\Abs (puY p q r s o1 o2 o3 (l,u)) (413064*Q B)/\Iv B (puY p q r s o1 o2 o3 (l,u)) (bY L ((p:Rat)/(q:Rat)) ((r:Rat)/(s:Rat)) y z X):=by
 have b0:=h.b0;have b1:=h.b1;have Qp:=zE B;obtain⟨x1,x2,x3,x4,x5,x6⟩:=zN6 h1 h.p0 h.q0 h.pq;obtain⟨y1,y2,y3,y4,y5,y6⟩:=zN6 h2 h.r0 h.s0 h.rs;have w3:=h3.wd;have l3:=h3.le;obtain⟨c1,c2,c3,c4⟩:=h3.ab;have gl:=hg.le;have gw:=hg.wd;obtain⟨z1,z2,z3,z4⟩:=hg.ab;simp only[] at z1 z2 z3 z4;have e1:(puY p q r s o1 o2 o3 (l,u)).1=(zK o1 p q).1+(zK o2 r s).1+(o3.1+l):=rfl;have e2:(puY p q r s o1 o2 o3 (l,u)).2=(zK o1 p q).2+(zK o2 r s).2+(o3.2+u):=rfl;refine⟨by omega,?_,⟨by omega,by omega,by omega,by omega⟩,?_⟩
 ·unfold puW
  omega
 ·have i1:=h1.iv.scale (n:=p) (d:=q) (by have:=h.p0;omega) h.q0
  have i2:=h2.iv.scale (n:=r) (d:=s) (by have:=h.r0;omega) h.s0
  exact Has.of_eq ((i1.add i2).add (h3.iv.add hg.iv)) λ M=>rfl
theorem pu_exD {B t:Nat} (h0:40<=B) (h1:B<=400) (ht:t<=27):2*zR1 (puW B) t<=Q B/\zR1 (puW B) t<=1000000000000000:=by
 have qt:=zJ ht;have e27:Q 27=134217728:=rfl;have q0:=zE t
 have go:∀ b:Int,(B:Int)<=b->zR1 (puW B) t<=2*(60000000*(b*b)+600000000)+45634027520:=λ b hb=>by
  have bb:=zEZ hb hb (by omega) (by omega)
  unfold zR1 puW;omega
 by_cases c1:B<=47
 ·have g:=go 47 (by omega)
  have q:=zJ h0;have e:Q 40=1099511627776:=rfl;omega
 ·have g:=go 400 (by omega)
  have q:=zJ (show 48<=B by omega)
  have e:Q 48=281474976710656:=rfl;omega
def puE (p q r s:Int) (B:Nat) (o1 o2 o3 g:Int × Int) (t N:Nat):Int × Int:=sqI B (zN (zU B (zG (puY p q r s o1 o2 o3 g) t)) N) t
theorem bp_x {p q r s n d:Int} {B:Nat} (h:zLB p q r s n d B):(0:Rat)<(p:Rat)/(q:Rat)/\(0:Rat)<(r:Rat)/(s:Rat)/\(0:Rat)<(n:Rat)/(d:Rat)/\(n:Rat)/(d:Rat)<1/\(n:Rat)/(d:Rat)*((d:Rat)/(n:Rat))=1/\(1-(n:Rat)/(d:Rat))*((d:Rat)/((d-n:Int):Rat))=1/\(0:Rat)<(d:Rat)/(n:Rat)/\(0:Rat)<(d:Rat)/((d-n:Int):Rat):=by
 have n0:=h.n0;have nd:=h.nd;have pr:(0:Rat)<(p:Rat):=by exact_mod_cast h.p0
 have qr:(0:Rat)<(q:Rat):=by exact_mod_cast h.q0
 have rr:(0:Rat)<(r:Rat):=by exact_mod_cast h.r0
 have sr:(0:Rat)<(s:Rat):=by exact_mod_cast h.s0
 have nr:(0:Rat)<(n:Rat):=by exact_mod_cast n0
 have dr:(0:Rat)<(d:Rat):=by exact_mod_cast (show 0<d by omega)
 have lr:(0:Rat)<((d-n:Int):Rat):=by exact_mod_cast (show 0<d-n by omega)
 have le:((d-n:Int):Rat)=(d:Rat)-(n:Rat):=Rat.intCast_sub _ _;have e1:=rdm (a:=(n:Rat)) dr;have e2:=rdm (a:=(d:Rat)) nr;have e3:=rdm (a:=(d:Rat)) lr;refine⟨zF pr qr,zF rr sr,zF nr dr,?_,?_,?_,zF dr nr,zF dr lr⟩
 ·refine Rat.lt_of_mul_lt_mul_right (c:=(d:Rat)) ?_ (Yw dr)
  rw[e1];have:(n:Rat)<(d:Rat):=by exact_mod_cast (show n<d by omega)
  grind
 ·generalize (n:Rat)/(d:Rat)=u at *
  generalize (d:Rat)/(n:Rat)=v at *;refine zX (c:=(n:Rat)) nr ?_;have:(n:Rat)*(u*v)=u*(v*(n:Rat)):=by grind
  rw[this,e2,e1];grind
 ·generalize (n:Rat)/(d:Rat)=u at *
  generalize (d:Rat)/((d-n:Int):Rat)=v at *;refine zX (c:=(d:Rat)) dr ?_;have:(d:Rat)*((1-u)*v)=((d:Rat)-u*(d:Rat))*v:=by grind
  rw[this,e1,<- le];grind
theorem pu_okE {L:Rat->Nat->Rat} (hL:Lns L) {p q r s n d:Int} {B t N NS:Nat} {o1 o2 o3:Int × Int} {l u:Int} {X:Nat->Rat} (h:zLB p q r s n d B) (hX:IsLog X (bJ L ((p:Rat)/(q:Rat)) ((r:Rat)/(s:Rat)))) (h1:zCL L ((d:Rat)/(n:Rat)) B o1) (h2:zCL L ((d:Rat)/((d-n:Int):Rat)) B o2) (h3:zCL L ((p:Rat)/(q:Rat)) B o3) (hg:LgP3 X B l u) (ht:t<=27) (hA:Abs (zG (puY p q r s o1 o2 o3 (l,u)) t) (Q (B-8))) (hN:zT (zU B (zG (puY p q r s o1 o2 o3 (l,u)) t)) N) (hS:NS<=5100) (lI:yS (puT p q r s n d B) (puN r s) NS) :
  0<(puE p q r s B o1 o2 o3 (l,u) t N).1/\(puE p q r s B o1 o2 o3 (l,u) t N).1<=(puE p q r s B o1 o2 o3 (l,u) t N).2/\0<=(zA9 p q r s n d B NS).1/\(zA9 p q r s n d B NS).1<=(zA9 p q r s n d B NS).2/\LwPr (bv L ((p:Rat)/(q:Rat)) ((r:Rat)/(s:Rat)) ((n:Rat)/(d:Rat))) B (zDW (zA9 p q r s n d B NS).1 (zA9 p q r s n d B NS).2 (puE p q r s B o1 o2 o3 (l,u) t N).1 (puE p q r s B o1 o2 o3 (l,u) t N).2 B) (zPM (zA9 p q r s n d B NS) (puE p q r s B o1 o2 o3 (l,u) t N) B):=by
 have b0:=h.b0;have b1:=h.b1;have qB:=zE B;obtain⟨a0,bb0,x0,x1,xy,xz,yp,zp⟩:=bp_x h;obtain⟨s1,s2,s3⟩:=se_ok (zIZ h) NS;obtain⟨y1,y2,y3,y4⟩:=puY_ok h h1 h2 h3 hg;obtain⟨D1,D2⟩:=pu_exD b0 b1 ht;obtain⟨e1,e2,e3,e4,e5⟩:=exq_ok2 (t:=t) (N:=N) (by omega) b1 y4 (zQ7 hL a0 bb0 x0 x1 xy xz yp zp hX) y2 hA hN D1
 have D0:0<=zR1 (puW B) t:=by
  have:=zE t;have:=Yz (show (0:Int)<=(B:Int) by omega) (show (0:Int)<=(B:Int) by omega)
  unfold zR1 puW;omega
 have si:=pu_has h lI
 have xc:0<=(zA9 p q r s n d B NS).1:=by
  have:Q B<=(zA9 p q r s n d B NS).1:=s1;omega
 have ee:(puE p q r s B o1 o2 o3 (l,u) t N)=sqI B (zN (zU B (zG (puY p q r s o1 o2 o3 (l,u)) t)) N) t:=rfl;have es:zA9 p q r s n d B NS=kY (riT (Q B,Q B) (puU p q r s n) (puD p q s d)) NS:=rfl;rw[<- ee] at e1 e2 e3 e4 e5;rw[<- es] at s1 s2 s3;have dv:=(Iv.dv si e5 xc (by omega)).congr (bv_quot hL a0 bb0 x0 x1 xy xz yp zp hX)
 refine⟨by omega,e2,xc,s2,zL6 (C:=(1+2*(NS:Int))*((NS:Int)+2)+9) (D:=zR1 (puW B) t) b0 xc s2 (by omega) e2 ?_ D0 ?_ D2 (by omega) s3 e4 dv (zRG hL a0 bb0 x0 x1)⟩
 ·have:=Yz (show 0<=1+2*(NS:Int) by omega) (show 0<=(NS:Int)+2 by omega)
  omega
 ·have:=zEZ (show 1+2*(NS:Int)<=10201 by omega) (show (NS:Int)+2<=5102 by omega) (by omega) (by omega)
  omega
theorem pu_exp {L:Rat->Nat->Rat} {p q r s n d:Int} {B NS:Nat} {o1 o2 o3:Int × Int} {lg ug:Int} {X:Nat->Rat} (h:zLB p q r s n d B) (h1:zCL L ((d:Rat)/(n:Rat)) B o1) (h2:zCL L ((d:Rat)/((d-n:Int):Rat)) B o2) (h3:zCL L ((p:Rat)/(q:Rat)) B o3) (hg:LgP3 X B lg ug) (hL:Lns L) (hX:IsLog X (bJ L ((p:Rat)/(q:Rat)) ((r:Rat)/(s:Rat)))) (hS:NS<=5100) (lI:yS (puT p q r s n d B) (puN r s) NS) :
  ∃ (l:Int) (t NE:Nat),zB1 (zW (puY p q r s o1 o2 o3 (lg,ug))) l/\(t:Int)=max 0 (l-B+8)/\t<=27/\Abs (zG (puY p q r s o1 o2 o3 (lg,ug)) t) (Q (B-8))/\zT (zU B (zG (puY p q r s o1 o2 o3 (lg,ug)) t)) NE/\Q (B+eb t)<P 98400/\(puY p q r s o1 o2 o3 (lg,ug)).1<=(puY p q r s o1 o2 o3 (lg,ug)).2 /\
   (0<(puE p q r s B o1 o2 o3 (lg,ug) t NE).1/\(puE p q r s B o1 o2 o3 (lg,ug) t NE).1<=(puE p q r s B o1 o2 o3 (lg,ug) t NE).2/\0<=(zA9 p q r s n d B NS).1/\(zA9 p q r s n d B NS).1<=(zA9 p q r s n d B NS).2/\LwPr (bv L ((p:Rat)/(q:Rat)) ((r:Rat)/(s:Rat)) ((n:Rat)/(d:Rat))) B (zDW (zA9 p q r s n d B NS).1 (zA9 p q r s n d B NS).2 (puE p q r s B o1 o2 o3 (lg,ug) t NE).1 (puE p q r s B o1 o2 o3 (lg,ug) t NE).2 B) (zPM (zA9 p q r s n d B NS) (puE p q r s B o1 o2 o3 (lg,ug) t NE) B)):=by
 obtain⟨y1,y2,y3,y4⟩:=puY_ok h h1 h2 h3 hg;have b0:=h.b0;have b1:=h.b1;have qB:=zE B
 have t:zW (puY p q r s o1 o2 o3 (lg,ug))<Q (B+19):=by
  have a:=zAF y3;have e:Q (B+19)=Q B*Q 19:=jF B 19;have sI:Q 19=524288:=rfl;rw[sI] at e;omega
 obtain⟨l,t,NE,e1,e2,e3,e4,e5⟩:=zD1 (B:=B) (e:=19) (by omega) y1 t
 refine⟨l,t,NE,e1,e2,by omega,e4,e5,?_,y1,pu_okE hL h hX h1 h2 h3 hg (by omega) e4 e5 hS lI⟩
 rw[<- Q_P];have ebm:=zB2 (show t<=27 by omega)
 have IA:eb 27=1572864:=by decide
 rw[IA] at ebm;have h1:=zJ (show B+eb t+1<=16*98400 by omega)
 have h2:∀ j,Q (j+1)=2*Q j:=λ _=>rfl
 rw[h2] at h1;have:=zE (B+eb t);generalize Q (B+eb t)=y at *;generalize Q (16*98400)=z at *;omega
open Go
section
variable {Pg : Program} {ops : Array Oper} {Q : Exit -> Act -> World -> Prop} {md : Region.Mode} {S : Nat -> World -> Prop}
def AnyS (Pg:Program) (md:Region.Mode) (ops:Array Oper) (Q:Exit->Act->World->Prop) (S:Nat->World->Prop):Nat->Array Bool->Act->World->Prop
 | 0,listed,a,w=>Region.ready md ops listed=[]/\Q .normal a w
 | fuel+1,listed,a,w =>
  (Region.ready md ops listed=[]->Q .normal a w) /\
  ∀ i ∈ Region.ready md ops listed,wpOp Pg ops Q i (λ a' w'=>S i w'/\AnyS Pg md ops Q S fuel (listed.setIfInBounds i true) a' w') a w
theorem AnyS.any:∀ (fuel:Nat) (listed:Array Bool) (a:Act) (w:World),AnyS Pg md ops Q S fuel listed a w->wpAny Pg md ops Q fuel listed a w
 | 0,_,_,_,h=>h
 | fuel+1,_,_,_,h=>⟨h.1,λ i hi=>wpOp_mono (λ a' w' h'=>AnyS.any fuel _ a' w' h'.2) (h.2 i hi)⟩
theorem AnyS.first {i:Nat} {oi:Oper} {v:Value} {T:World->Prop} (hi:ops[i]?=some oi) (mN:∀ (j:Nat) (o:Oper) cs b,ops[j]?=some o->o.op≠.select cs b)
  (hQ:∀ c a w,Q (.panic c) (a.put oi.dst v) w->Q (.panic c) a w) (hi':∀ w,T w->S i w) :
  ∀ (fuel:Nat) (listed:Array Bool) (a:Act) (w:World),(∀ j,listed.getD j true=false->zMM md ops j i=true\/∀ w,S j w->T w) ->
   (∀ j oj,ops[j]?=some oj->j≠i->listed.getD j true=false->(∀ e ∈ oj.after,Region.binds md e=true->e.on≠i)->oi.apart ops oj=true) ->
   i ∈ Region.ready md ops listed->YieldsIf Pg ops T oi v a->T w->S i w ->
   AnyS Pg md ops Q S fuel (listed.setIfInBounds i true) (a.put oi.dst v) w->AnyS Pg md ops Q S (fuel+1) listed a w:=by
 intro fuel
 induction fuel with
 | zero =>
  intro listed a w hT _ hr hy Jw hS H
  refine⟨λ h=>(by rw[h] at hr;cases hr),λ j hj=>?_⟩
  by_cases aJ:j=i
  ·subst aJ;exact hy.wpOp hi Jw ⟨hS,H⟩
  ·have:=ready_mono hj aJ
   rw[H.1] at this
   cases this
 | succ fuel ih =>
  intro listed a w hT hfree hr hy Jw hS H
  refine⟨λ h=>(by rw[h] at hr;cases hr),λ j hj=>?_⟩
  by_cases aJ:j=i
  ·subst aJ;exact hy.wpOp hi Jw ⟨hS,H⟩
  ·have hjT:∀ w,S j w->T w:=by
    rcases hT j (mem_ready.1 hj).1 with h|h
    ·exact absurd hj (λ hj=>zK6 h hr hj)
    ·exact h
   have h1:=H.2 j (ready_mono hj aJ);obtain⟨ij,oj,wP,mr⟩:=mem_ready.1 hj
   have wO:∀ e ∈ oj.after,Region.binds md e=true->e.on≠i:=λ e he hb heq=>by
    have h1:=mr e he hb;have h0:=(mem_ready.1 hr).1;rw[heq] at h1
    rcases Nat.lt_or_ge i listed.size with h'|h'
    ·simp[h'] at h0 h1;rw[h0] at h1;cases h1
    ·simp[Array.getElem?_eq_none h'] at h1
   have h2:=wpOp_putIf wP (hfree j oj wP aJ ij wO) (λ cs b=>mN i oi cs b hi) (λ cs b=>mN j oj cs b wP) hQ hy h1
   have ft:∀ k ok,ops[k]?=some ok->k≠i->(listed.setIfInBounds j true).getD k true=false ->
     (∀ e ∈ ok.after,Region.binds md e=true->e.on≠i)->oi.apart ops ok=true:=λ k ok hk Kk Dr Kz=>by
    refine hfree k ok hk Kk ?_ Kz
    by_cases pg:j=k
    ·subst pg;exact ij
    ·rw[getD_set_ne true pg] at Dr;exact Dr
   have hT2:∀ k,(listed.setIfInBounds j true).getD k true=false->zMM md ops k i=true\/∀ w,S k w->T w:=λ k hk=>by
    refine hT k ?_
    by_cases pg:j=k
    ·subst pg;exact ij
    ·rw[getD_set_ne true pg] at hk;exact hk
   refine wpOp_mono (λ a' w' h3=>⟨h3.2.1,ih (listed.setIfInBounds j true) a' w' hT2 ft (ready_mono hr (Ne.symm aJ)) h3.1 (hjT w' h3.2.1) (hi' _ (hjT w' h3.2.1)) ?_⟩) h2
   rw[Array.setIfInBounds_comm _ _ aJ];exact h3.2.2
theorem AnyS.take {i:Nat} {oi:Oper} {v:Value} {T:World->Prop} {fuel:Nat} {listed:Array Bool} {a:Act} {w:World} (hi:ops[i]?=some oi)
  (hs:Region.noSelect ops=true) (hf:Region.free md ops listed i=true) (hr:(Region.ready md ops listed).contains i=true)
  (hQ:∀ c a w,Q (.panic c) (a.put oi.dst v) w->Q (.panic c) a w) (k m:Nat) (hk:∀ j,listed.getD j true=false->j<k\/k+m<=j->∀ w,S j w->T w) (hlate:(List.range m).all (λ j=>zMM md ops (k+j) i)=true)
  (hi':∀ w,T w->S i w) (hy:YieldsIf Pg ops T oi v a) (QN:T w)
  (h:AnyS Pg md ops Q S fuel (listed.setIfInBounds i true) (a.put oi.dst v) w):AnyS Pg md ops Q S (fuel+1) listed a w :=
 AnyS.first hi (Region.noSelect_spec hs) hQ hi' fuel listed a w (λ j hj=>by
  by_cases h1:j<k\/k+m<=j
  ·exact Or.inr (hk j hj h1)
  ·refine Or.inl ?_
   have:=(List.all_eq_true.1 hlate) (j-k) (List.mem_range.2 (by omega))
   have e:k+(j-k)=j:=by omega
   rw[e] at this
   exact this) (Region.free_spec hi hf) (by simpa using hr) hy QN (hi' _ QN) h
theorem AnyS.one {i:Nat} {o:Oper} {fuel:Nat} {listed:Array Bool} {a:Act} {w:World} (hr:Region.ready md ops listed=[i]) (ho:ops[i]?=some o)
  (h:∀ K':Act->World->Prop,Shut (∀ a w,S i w->(S i w->AnyS Pg md ops Q S fuel (listed.setIfInBounds i true) a w)->K' a w)->if Region.wanted o (yielded ops a.tmps)=true then Oper.wp Pg o a w K' Q else K' (a.put o.dst undef) w) :
  AnyS Pg md ops Q S (fuel+1) listed a w :=
 ⟨λ h0=>absurd (hr ▸ h0) (by simp),λ j hj=>by
  rw[hr] at hj;have pd:j=i:=by simpa using hj
  subst pd
  exact wpOp_step ho (λ K' hK=>h K' (λ a w hS hW=>hK a w ⟨hS,hW hS⟩))⟩
theorem AnyS.last {l:Nat} {o:Oper} {fuel:Nat} {listed:Array Bool} {a:Act} {w:World} (hr:Region.ready md ops listed=[l]) (ho:ops[l]?=some o)
  (hd:Region.ready md ops (listed.setIfInBounds l true)=[]) (hSl:∀ w,S l w)
  (h:∀ K':Act->World->Prop,Shut (∀ a w,Q .normal a w->K' a w)->if Region.wanted o (yielded ops a.tmps)=true then Oper.wp Pg o a w K' Q else K' (a.put o.dst undef) w) :
  AnyS Pg md ops Q S (fuel+1) listed a w :=
 ⟨λ h0=>absurd (hr ▸ h0) (by simp),λ j hj=>by
  rw[hr] at hj;have pd:j=l:=by simpa using hj
  subst pd;refine wpOp_step ho (λ K' hK=>h K' (λ a w hW=>hK a w ⟨hSl w,?_⟩))
  cases fuel with
  | zero=>exact⟨hd,hW⟩
  | succ fuel=>exact⟨λ _=>hW,by rw[hd];simp⟩⟩
theorem AnyS.start {id:Nat} {a:Act} {w:World} (hm:Pg.follows .mixedOrders=true)
  (h:AnyS Pg .any ops Q S ops.size (Array.replicate ops.size false) a w.drew):(Code.region id ops true).wp Pg Q a w :=
 wp_region_any hm (AnyS.any _ _ _ _ h)
end
open Go.RowKit
attribute [local go_sem ↓] Go.wp_at_zero Go.wp_at_succ
structure StSt (w wr:World) (BX BY:Nat) (X Y:Nm) (k:Nat) (p q:Int):Prop where
 x:VnC wr BX X
 y:VnC wr BY Y
 ix:IntAt wr X.neg X.a X.n X.cap k p
 iy:IntAt wr Y.neg Y.a Y.n Y.cap k q
 n1:NoI wr w.heap.size
 n2:NoI wr (w.heap.size+1)
 be:Below w.heap.size w wr
 l1:w.heap.size+1<BX
 l2:w.heap.size+1<BY
 ne:BX≠BY
theorem StSt.bw {w wr wr':World} {BX BY:Nat} {X Y:Nm} {k:Nat} {p q:Int} (h:StSt w wr BX BY X Y k p q) (hb:Below wr.heap.size wr wr'):StSt w wr' BX BY X Y k p q :=
 ⟨h.x.bw hb,h.y.bw hb,h.ix.bw hb,h.iy.bw hb,h.n1.bw hb,h.n2.bw hb,zB h.be hb,h.l1,h.l2,h.ne⟩
theorem NoI.offs {w:World} {B B':Nat} (h:NoI w B) (hne:B≠B') (y:Nm):NoI (zCF w B' y) B:=by
 obtain⟨q0,q1,q2⟩:=h;exact⟨by simp[go_sem,q0,hne,Ne.symm hne],by simp[go_sem,q1,hne,Ne.symm hne],zAA q2 _ _⟩
theorem StSt.put {w wr:World} {BX BY:Nat} {X Y X' Y':Nm} {k k':Nat} {p q p' q':Int} (h:StSt w wr BX BY X Y k p q) (hx:IntAt wr X'.neg X'.a X'.n X'.cap k' p') (hy:IntAt wr Y'.neg Y'.a Y'.n Y'.cap k' q'):StSt w (zCF (zCF wr BX X') BY Y') BX BY X' Y' k' p' q' :=
 have x1:=h.x.put X';have y1:=h.y.off (Ne.symm h.ne) X'
 ⟨x1.off h.ne Y',y1.put Y',(hx.putv h.x X').putv y1 Y',(hy.putv h.x X').putv y1 Y',(h.n1.offs (by have:=h.l1;omega) X').offs (by have:=h.l2;omega) Y',(h.n2.offs (by have:=h.l1;omega) X').offs (by have:=h.l2;omega) Y',zE2 (zE2 h.be (by have:=h.l1;omega) _ _) (by have:=h.l2;omega) _ _,h.l1,h.l2,h.ne⟩
theorem st_end {w wr:World} {BX BY:Nat} {X Y:Nm} {k:Nat} {p q:Int} (h:StSt w wr BX BY X Y k p q):IntAt (zCF (zCF wr w.heap.size X) (w.heap.size+1) Y) X.neg X.a X.n X.cap k p/\IntAt (zCF (zCF wr w.heap.size X) (w.heap.size+1) Y) Y.neg Y.a Y.n Y.cap k q/\Below w.heap.size w (zCF (zCF wr w.heap.size X) (w.heap.size+1) Y):=by
 have n2:=h.n2.offs (B':=w.heap.size) (by omega) X
 obtain⟨a0,a1,af⟩:=h.n1;obtain⟨b0,b1,bf⟩:=n2;exact⟨(h.ix.put2 a0 a1 _ _).put2 b0 b1 _ _,(h.iy.put2 a0 a1 _ _).put2 b0 b1 _ _,zE2 (zE2 h.be (Yy _) _ _) (Nat.le_succ _) _ _⟩
theorem zUJ (w:World) (n d:Int) (h:StIn n d) (hn:n<=4611686018427387904) :
  Calls Tryz.prog 200 #[.int .i64 n,.int .i64 d] w (λ r w'=>∃ X Y:Nm,r=.returned (.tuple #[.int .i64 (n-(stN n d:Int)*d),.agg X.q,.agg Y.q])/\IntAt w' X.neg X.a X.n X.cap (4*stN n d+4) (stP n d (stN n d))/\IntAt w' Y.neg Y.a Y.n Y.cap (4*stN n d+4) (stQ d (stN n d))/\Below w.heap.size w w'):=by
 obtain⟨W,hW⟩:∃ W,W=(w.alloc (.cells #[.bool false,.slice none 0 0] 29)).alloc (.cells #[.bool false,.slice none 0 0] 29):=⟨_,rfl⟩;have j6:Below w.heap.size w W:=by rw[hW];exact bl2 _ _ _
 have R1:NoI W w.heap.size:=by rw[hW];exact (kB w _).bw (bl1 _ _)
 have R2:NoI W (w.heap.size+1):=by rw[hW];constructor<;>simp[go_sem]
 have d0:=h.d0;have dd:=h.dd;have Lc:=h.rest.2.2;have H:=zC h;clear h
 go_enter Tryz.func200,Tryz.ntmps200
 go_wp2_with fail;rw[<- hW];clear hW;refine (zD 1 _ (by decide) (by decide)).mono ?_
 rintro r' w1 ⟨m7,a1,n1,c1,rfl,o8,b9⟩;replace R1:=R1.bw b9;replace R2:=R2.bw b9;replace j6:=zB j6 b9;clear b9;go_wp2_with fail;refine (zD 1 _ (by decide) (by decide)).mono ?_
 rintro r' w2 ⟨j7,a2,n2,c2,rfl,A5,j8⟩;replace R1:=R1.bw j8;replace R2:=R2.bw j8;replace j6:=zB j6 j8;replace o8:=o8.bw j8;clear j8;have lR:=R2.lt;obtain⟨V1,Q3⟩:∃ V1,V1=(w2.alloc (.cells #[.bool m7,.slice a1 n1 c1] 29)).alloc (.cells #[.bool j7,.slice a2 n2 c2] 29):=⟨_,rfl⟩;have ah:Below w2.heap.size w2 V1:=by rw[Q3];exact bl2 _ _ _
 have mY:StSt w V1 w2.heap.size (w2.heap.size+1) ⟨m7,a1,n1,c1⟩ ⟨j7,a2,n2,c2⟩ (4*0+4) (stP n d 0) (stQ d 0):=⟨by rw[Q3];exact (zU2 w2 ⟨m7,a1,n1,c1⟩ _).bw (bl1 _ _),by rw[Q3];exact⟨⟨by simp[go_sem],by simp[go_sem]⟩,λ o=>by simp[go_sem]⟩,o8.bw ah,A5.bw ah,R1.bw ah,R2.bw ah,zB j6 ah,lR,by omega,by omega⟩
 go_wp2_with fail;rw[<- Q3];clear Q3 ah o8 A5 R1 R2 j6;obtain⟨BX,Ci⟩:∃ B,B=w2.heap.size:=⟨_,rfl⟩;obtain⟨BY,Qy⟩:∃ B',B'=w2.heap.size+1:=⟨_,rfl⟩;rw[<- Qy,<- Ci] at mY ⊢;clear Ci Qy lR
 go_loopw [0] (λ nn wr=>∃ (i:Nat) (X Y:Nm),nn=.int .i64 (n-(i:Int)*d)/\i<=stN n d/\StSt w wr BX BY X Y (4*i+4) (stP n d i) (stQ d i)) (λ nn _=>(intOf nn).toNat)
 case atStart=>exact⟨0,_,_,by simp,Nat.zero_le _,mY⟩
 case round =>
  obtain⟨i,X,Y,rfl,hi,st⟩:=hrel;clear mY;have p0:=(st_at (zA H) hi).1;have id0:=Yz (show (0:Int)<=(i:Int) by omega) (show 0<=d by omega)
  by_cases I6:i<stN n d
  ·have mB:d<n-(i:Int)*d:=(st_at (zA H) hi).2 I6
   have HX:=zC st.x;have HY:=zC st.y;have HI:=zC st.ix;have HJ:=zC st.iy;have gm:=zC st;have T7:=zC (show IntKind.i64.wrap (n-(i:Int)*d-d)=n-(i:Int)*d-d from jH _ (by omega) (by omega))
   have HR:=zC (show -9223372036854775808<=n-(i:Int)*d-d/\n-(i:Int)*d-d<=9223372036854775807 from⟨by omega,by omega⟩)
   clear st;go_wp2_with fail;have D5:Below wr.heap.size wr wr.drew:=(Below.refl _ _).drew;have iG:=zC (show ∀ w',Below wr.heap.size wr w'->(nK0 w' BX X) from λ w' hB=>⟨((zA HX).bw hB).c.c0,((zA HX).bw hB).c.c1⟩)
   have gi:=zC (show ∀ w',Below wr.heap.size wr w'->(nK0 w' BY Y) from λ w' hB=>⟨((zA HY).bw hB).c.c0,((zA HY).bw hB).c.c1⟩)
   refine AnyS.start (S:=λ j w'=>(j=6\/j=7\/j=10\/j=11\/(w'.cell? ⟨BX,0,none⟩=some (.bool X.neg)/\w'.cell? ⟨BX,1,none⟩=some (.slice X.a X.n X.cap)))/\(j=11\/(w'.cell? ⟨BY,0,none⟩=some (.bool Y.neg)/\w'.cell? ⟨BY,1,none⟩=some (.slice Y.a Y.n Y.cap)))) (by kernel_rfl) ?_
   refine AnyS.take (i:=6) (oi:={ dst:=some 23,op:=Go.Op.load 29 (Go.Operand.tmp 8),type:=29,pos := "gamma.go:37",after:=#[],guard:=none }) (v:=.agg Y.q) (T:=λ w'=>nK0 w' BY Y) rfl (by kernel_rfl) (by kernel_rfl) (by kernel_rfl) (λ _ _ _ h=>h) 11 1 (λ j hl hj w h=>h.2.elim (λ e=>absurd e (by omega)) id) (by kernel_rfl) (λ w h=>⟨Or.inl rfl,Or.inr h⟩) (Or.inl ⟨by rfl,λ w hSw=>?_⟩) (zA gi _ D5) ?_
   ·obtain⟨s0,s1⟩:=hSw;go_simp
   try simp only[Act.put,Yo,Yp,Yq]
   refine AnyS.take (i:=7) (oi:={ dst:=some 24,op:=Go.Op.move (Go.Operand.tmp 1),type:=3,pos := "gamma.go:37",after:=#[],guard:=none }) (v:=.int .i64 d) (T:=λ w'=>nK0 w' BY Y) rfl (by kernel_rfl) (by kernel_rfl) (by kernel_rfl) (λ _ _ _ h=>h) 11 1 (λ j hl hj w h=>h.2.elim (λ e=>absurd e (by omega)) id) (by kernel_rfl) (λ w h=>⟨Or.inr (Or.inl rfl),Or.inr h⟩) (Or.inl ⟨by rfl,λ w hSw=>?_⟩) (zA gi _ D5) ?_
   ·go_simp
   try simp only[Act.put,Yo,Yp,Yq]
   refine AnyS.take (i:=0) (oi:={ dst:=some 17,op:=Go.Op.load 29 (Go.Operand.tmp 7),type:=29,pos := "gamma.go:37",after:=#[],guard:=none }) (v:=.agg X.q) (T:=λ w'=>(nK0 w' BX X)/\(nK0 w' BY Y)) rfl (by kernel_rfl) (by kernel_rfl) (by kernel_rfl) (λ _ _ _ h=>h) 10 2 (λ j hl hj w h=>⟨h.1.elim (λ e=>absurd hl (by rw[e];decide)) (λ h=>h.elim (λ e=>absurd hl (by rw[e];decide)) (λ h=>h.elim (λ e=>absurd e (by omega)) (λ h=>h.elim (λ e=>absurd e (by omega)) id))),h.2.elim (λ e=>absurd e (by omega)) id⟩) (by kernel_rfl) (λ w h=>⟨Or.inr (Or.inr (Or.inr (Or.inr h.1))),Or.inr h.2⟩) (Or.inl ⟨by rfl,λ w hSw=>?_⟩) ⟨zA iG _ D5,zA gi _ D5⟩ ?_
   ·obtain⟨⟨s0,s1⟩,_⟩:=hSw;go_simp
   try simp only[Act.put,Yo,Yp,Yq]
   refine AnyS.take (i:=1) (oi:={ dst:=some 18,op:=Go.Op.move (Go.Operand.tmp 0),type:=3,pos := "gamma.go:37",after:=#[],guard:=none }) (v:=.int .i64 (n-(i:Int)*d)) (T:=λ w'=>(nK0 w' BX X)/\(nK0 w' BY Y)) rfl (by kernel_rfl) (by kernel_rfl) (by kernel_rfl) (λ _ _ _ h=>h) 10 2 (λ j hl hj w h=>⟨h.1.elim (λ e=>absurd hl (by rw[e];decide)) (λ h=>h.elim (λ e=>absurd hl (by rw[e];decide)) (λ h=>h.elim (λ e=>absurd e (by omega)) (λ h=>h.elim (λ e=>absurd e (by omega)) id))),h.2.elim (λ e=>absurd e (by omega)) id⟩) (by kernel_rfl) (λ w h=>⟨Or.inr (Or.inr (Or.inr (Or.inr h.1))),Or.inr h.2⟩) (Or.inl ⟨by rfl,λ w hSw=>?_⟩) ⟨zA iG _ D5,zA gi _ D5⟩ ?_
   ·go_simp
   try simp only[Act.put,Yo,Yp,Yq]
   refine AnyS.take (i:=2) (oi:={ dst:=some 19,op:=Go.Op.move (Go.Operand.tmp 1),type:=3,pos := "gamma.go:37",after:=#[],guard:=none }) (v:=.int .i64 d) (T:=λ w'=>(nK0 w' BX X)/\(nK0 w' BY Y)) rfl (by kernel_rfl) (by kernel_rfl) (by kernel_rfl) (λ _ _ _ h=>h) 10 2 (λ j hl hj w h=>⟨h.1.elim (λ e=>absurd hl (by rw[e];decide)) (λ h=>h.elim (λ e=>absurd hl (by rw[e];decide)) (λ h=>h.elim (λ e=>absurd e (by omega)) (λ h=>h.elim (λ e=>absurd e (by omega)) id))),h.2.elim (λ e=>absurd e (by omega)) id⟩) (by kernel_rfl) (λ w h=>⟨Or.inr (Or.inr (Or.inr (Or.inr h.1))),Or.inr h.2⟩) (Or.inl ⟨by rfl,λ w hSw=>?_⟩) ⟨zA iG _ D5,zA gi _ D5⟩ ?_
   ·go_simp
   try simp only[Act.put,Yo,Yp,Yq]
   refine AnyS.take (i:=3) (oi:={ dst:=some 20,op:=Go.Op.binOp Go.BinOp.sub 3 (Go.Operand.tmp 18) (Go.Operand.tmp 19) 3,type:=3,pos := "gamma.go:37",after:=#[{ on:=1,ground:=Go.Ground.data },{ on:=2,ground:=Go.Ground.data }],guard:=none }) (v:=.int .i64 (n-(i:Int)*d-d)) (T:=λ w'=>(nK0 w' BX X)/\(nK0 w' BY Y)) rfl (by kernel_rfl) (by kernel_rfl) (by kernel_rfl) (λ _ _ _ h=>h) 10 2 (λ j hl hj w h=>⟨h.1.elim (λ e=>absurd hl (by rw[e];decide)) (λ h=>h.elim (λ e=>absurd hl (by rw[e];decide)) (λ h=>h.elim (λ e=>absurd e (by omega)) (λ h=>h.elim (λ e=>absurd e (by omega)) id))),h.2.elim (λ e=>absurd e (by omega)) id⟩) (by kernel_rfl) (λ w h=>⟨Or.inr (Or.inr (Or.inr (Or.inr h.1))),Or.inr h.2⟩) (Or.inl ⟨by rfl,λ w hSw=>?_⟩) ⟨zA iG _ D5,zA gi _ D5⟩ ?_
   ·go_simp;rw[zA T7]
   try simp only[Act.put,Yo,Yp,Yq]
   refine AnyS.one (i:=4) (o:={ dst:=some 21,op:=Go.Op.call { callee:=Go.Callee.value (Go.Operand.func 33),args:=#[Go.Operand.tmp 20],argTypes:=#[3] },type:=29,pos := "gamma.go:37",after:=#[{ on:=3,ground:=Go.Ground.data }],guard:=none }) (by kernel_rfl) rfl (λ Kc I3=>?_)
   go_simp
   refine (zD (n-(i:Int)*d-d) _ (zA HR).1 (zA HR).2).mono ?_;rintro r' w1 ⟨m7,a1,n1,c1,rfl,o8,b9⟩;have y9:=zB D5 b9;clear b9;go_wp2_with fail;refine I3.out _ _ ⟨Or.inr (Or.inr (Or.inr (Or.inr (zA iG _ y9)))),Or.inr (zA gi _ y9)⟩ (λ _=>?_)
   clear I3 Kc
   try simp only[Act.put,Yo,Yp,Yq]
   refine AnyS.one (i:=5) (o:={ dst:=some 22,op:=Go.Op.call { callee:=Go.Callee.value (Go.Operand.func 83),args:=#[Go.Operand.tmp 17,Go.Operand.tmp 21],argTypes:=#[29,29] },type:=29,pos := "gamma.go:37",after:=#[{ on:=0,ground:=Go.Ground.data },{ on:=4,ground:=Go.Ground.data },{ on:=4,ground:=Go.Ground.chain }],guard:=none }) (by kernel_rfl) rfl (λ Kc I3=>?_)
   go_simp
   refine (zV _ _ _ _ _ _ _ _ (4*i+4) 4 (stP n d i) (n-(i:Int)*d-d) _ ((zA HI).bw y9) o8 (by omega) (by omega)).mono ?_
   rintro r' w2 ⟨j7,a2,n2,c2,rfl,A5,j8⟩;have s9:=zB y9 j8;clear j8 o8;go_wp2_with fail;refine I3.out _ _ ⟨Or.inr (Or.inr (Or.inr (Or.inr (zA iG _ s9)))),Or.inr (zA gi _ s9)⟩ (λ _=>?_)
   clear I3 Kc
   try simp only[Act.put,Yo,Yp,Yq]
   refine AnyS.one (i:=8) (o:={ dst:=some 25,op:=Go.Op.call { callee:=Go.Callee.value (Go.Operand.func 33),args:=#[Go.Operand.tmp 24],argTypes:=#[3] },type:=29,pos := "gamma.go:37",after:=#[{ on:=7,ground:=Go.Ground.data },{ on:=5,ground:=Go.Ground.chain }],guard:=none }) (by kernel_rfl) rfl (λ Kc I3=>?_)
   go_simp
   refine (zD d _ (by omega) (by omega)).mono ?_
   rintro r' w3 ⟨B9,a3,n3,c3,rfl,E7,m8⟩;have G0:=zB s9 m8;replace A5:=A5.bw m8;clear m8;go_wp2_with fail;refine I3.out _ _ ⟨Or.inr (Or.inr (Or.inr (Or.inr (zA iG _ G0)))),Or.inr (zA gi _ G0)⟩ (λ _=>?_)
   clear I3 Kc
   try simp only[Act.put,Yo,Yp,Yq]
   refine AnyS.one (i:=9) (o:={ dst:=some 26,op:=Go.Op.call { callee:=Go.Callee.value (Go.Operand.func 83),args:=#[Go.Operand.tmp 23,Go.Operand.tmp 25],argTypes:=#[29,29] },type:=29,pos := "gamma.go:37",after:=#[{ on:=6,ground:=Go.Ground.data },{ on:=8,ground:=Go.Ground.data },{ on:=8,ground:=Go.Ground.chain }],guard:=none }) (by kernel_rfl) rfl (λ Kc I3=>?_)
   go_simp
   refine (zV _ _ _ _ _ _ _ _ (4*i+4) 4 (stQ d i) d _ ((zA HJ).bw G0) E7 (by omega) (by omega)).mono ?_
   rintro r' w4 ⟨E4,a4,n4,c4,rfl,H8,p9⟩;have J1:=zB G0 p9;replace A5:=A5.bw p9;clear p9 E7;go_wp2_with fail;refine I3.out _ _ ⟨Or.inr (Or.inr (Or.inr (Or.inr (zA iG _ J1)))),Or.inr (zA gi _ J1)⟩ (λ _=>?_)
   clear I3 Kc
   try simp only[Act.put,Yo,Yp,Yq]
   have VX:=(zA HX).bw J1;have VY:=(zA HY).bw J1;have lX:=VX.lt;have lY:=VY.lt;have BC:VnC (zCF w4 BX ⟨j7,a2,n2,c2⟩) BY Y:=VY.off (Ne.symm (zA gm).ne) ⟨j7,a2,n2,c2⟩;unfold zCF at BC;obtain⟨⟨z0,z1⟩,zf⟩:=VX;refine AnyS.one (i:=10) (o:={ dst:=none,op:=Go.Op.store 29 (Go.Operand.tmp 7) (Go.Operand.tmp 22),type:=0,pos := "gamma.go:37",after:=#[{ on:=5,ground:=Go.Ground.data },{ on:=9,ground:=Go.Ground.chain },{ on:=0,ground:=Go.Ground.phase },{ on:=1,ground:=Go.Ground.phase },{ on:=2,ground:=Go.Ground.phase },{ on:=3,ground:=Go.Ground.phase },{ on:=4,ground:=Go.Ground.phase },{ on:=5,ground:=Go.Ground.phase },{ on:=6,ground:=Go.Ground.textOnly Go.Departure.lateStores },{ on:=7,ground:=Go.Ground.textOnly Go.Departure.lateStores },{ on:=8,ground:=Go.Ground.textOnly Go.Departure.lateStoresUnsure },{ on:=9,ground:=Go.Ground.textOnly Go.Departure.lateStoresUnsure }],guard:=none }) (by kernel_rfl) rfl (λ Kc I3=>?_)
   go_simp
   refine I3.out _ _ ⟨Or.inr (Or.inr (Or.inl rfl)),Or.inr ⟨BC.c.c0,BC.c.c1⟩⟩ (λ _=>?_)
   clear I3 Kc z0 z1 zf
   try simp only[Act.put,Yo,Yp,Yq]
   have lY2:=BC.lt;obtain⟨⟨z0,z1⟩,zf⟩:=BC;refine AnyS.last (o:={ dst:=none,op:=Go.Op.store 29 (Go.Operand.tmp 8) (Go.Operand.tmp 26),type:=0,pos := "gamma.go:37",after:=#[{ on:=9,ground:=Go.Ground.data },{ on:=10,ground:=Go.Ground.chain },{ on:=0,ground:=Go.Ground.phase },{ on:=1,ground:=Go.Ground.phase },{ on:=2,ground:=Go.Ground.phase },{ on:=3,ground:=Go.Ground.phase },{ on:=4,ground:=Go.Ground.phase },{ on:=5,ground:=Go.Ground.phase },{ on:=6,ground:=Go.Ground.phase },{ on:=7,ground:=Go.Ground.phase },{ on:=8,ground:=Go.Ground.phase },{ on:=9,ground:=Go.Ground.phase },{ on:=10,ground:=Go.Ground.phase }],guard:=none }) (by kernel_rfl) rfl (by kernel_rfl) (λ _=>⟨Or.inr (Or.inr (Or.inr (Or.inl rfl))),Or.inl rfl⟩) (λ Kc I3=>?_)
   go_simp
   refine I3.out _ _ ?_;clear I3 Kc z0 z1 zf iG gi;have stn:=((zA gm).bw J1).put (X':=⟨j7,a2,n2,c2⟩) (Y':=⟨E4,a4,n4,c4⟩) A5 H8;unfold zCF at stn
   have e1:stP n d i*(n-(i:Int)*d-d)=stP n d (i+1):=by
    show _=stP n d i*(n-((i:Int)+1)*d)
    congr 1;grind
   have e2:stQ d i*d=stQ d (i+1):=rfl
   have e3:n-(i:Int)*d-d=n-((i+1:Nat):Int)*d:=by
    have:((i+1:Nat):Int)=(i:Int)+1:=by omega
    rw[this];grind
   rw[e1,e2,show 4*i+4+4=4*(i+1)+4 by omega] at stn
   have E3:=zC e3;clear e1 e2 e3;go_wp2_with fail
   go_roundw
   case rel=>exact⟨i+1,_,_,congrArg _ (zA E3),by omega,stn⟩
   case measure=>simp[intOf];omega
  ·have mB:¬ d<n-(i:Int)*d:=by
    have:=(zA H).rest.2.1;have e:i=stN n d:=by omega
    rw[e];omega
   have hik:i=stN n d:=by omega
   subst hik;have lX:=st.x.lt;have lY:=st.y.lt;have q1:=st.n1;have q2:=st.n2;have l1:=st.l1;have l2:=st.l2;have lq1:=q1.lt;have lq2:=q2.lt;have gm:=zC st;obtain⟨⟨x0,x1⟩,xf⟩:=st.x;obtain⟨⟨y0,y1⟩,yf⟩:=st.y;obtain⟨q10,q11,q1f⟩:=q1;obtain⟨Lt,Lv,q2f⟩:=q2;clear st;have m1:w.heap.size≠BX:=by omega
   have m2:w.heap.size≠BY:=by omega
   have m3:w.heap.size+1≠BX:=by omega
   have m4:w.heap.size+1≠BY:=by omega
   go_wp2_with fail;have HE:=st_end (zA gm);unfold zCF at HE
   go_region
   all_goals
    go_wp2_with fail;refine bodyPost_ret (v:=.tuple #[.int .i64 (n-(stN n d:Int)*d),.agg X.q,.agg Y.q]) (by simp[results,Tryz.results200,go_sem,q10,q11,Lt,Lv]) rfl ⟨X,Y,rfl,?_,?_,?_⟩
    ·exact HE.1.bw (Below.refl _ _).drew
    ·exact HE.2.1.bw (Below.refl _ _).drew
    ·exact HE.2.2.drew
open Ex
structure IcC (w:World) (B:Nat) (v:Int):Prop where
 c0:w.cell? ⟨B,0,none⟩=some (.int .i64 v)
theorem IcC.lt {w:World} {B:Nat} {v:Int} (h:IcC w B v):B<w.heap.size:=World.block_lt_of_cell? w ⟨B,0,none⟩ h.c0
theorem IcC.bw {w w':World} {B:Nat} {v:Int} (h:IcC w B v) (hb:Below w.heap.size w w'):IcC w' B v:=⟨(hb.cell (p:=⟨B,0,none⟩) h.lt).trans h.c0⟩
theorem ga1_iv (w:World) (B0 B1 B2:Nat) (s:Sp) (x d n:Int) (k b:Nat) (j:Int) (a:Int × Int) (hs:SpAt w s k a.1 a.2) (X:IcC w B0 x) (D:IcC w B1 d) (Z:IcC w B2 n) (hk:k<=100000000) (hb:s.bits=(b:Int)) (hx:0<=x*d) (bh:x*d<=9223372036854775807) (hj:0<=j*d) (CS:j*d<=4611686018427387904) (hn:0<n) (aT:n<=4611686018427387903) :
  Calls Tryz.prog 208 #[.agg s.q,.int .i64 j,.pointer (some ⟨B0,0,none⟩),.pointer (some ⟨B1,0,none⟩),.pointer (some ⟨B2,0,none⟩)] w (zH w b (k+4+10) (zK a (x*d) (n+j*d)).1 (zK a (x*d) (n+j*d)).2):=by
 obtain⟨W,hW⟩:∃ W,W=(w.alloc (.cells s.q 31)).alloc (.cells zCq 31):=⟨_,rfl⟩;have j6:Below w.heap.size w W:=by rw[hW];exact bl2 _ _ _
 have A:SpC W w.heap.size s:=by rw[hW];constructor<;>simp[go_sem]
 have R:NoC W (w.heap.size+1):=by rw[hW];constructor<;>simp[go_sem]
 have HS:=zC (hs.bw j6);have l0:=X.lt;have l1:=D.lt;have l2:=Z.lt;replace X:=X.bw j6;replace D:=D.bw j6;replace Z:=Z.bw j6;have HB:=zC hb;have lR:=R.lt;have lA:=A.lt;have T7:=zC (show IntKind.i64.wrap (x*d)=x*d from jH _ (by omega) (by omega))
 have ag:=zC (show IntKind.i64.wrap (j*d)=j*d from jH _ (by omega) (by omega))
 have dK:=zC (show IntKind.i64.wrap (n+j*d)=n+j*d from jH _ (by omega) (by omega))
 have gR:=zC (show -9223372036854775808<=x*d/\x*d<=9223372036854775807 from⟨by omega,by omega⟩)
 have pS:=zC (show -9223372036854775808<=n+j*d/\n+j*d<=9223372036854775807 from⟨by omega,by omega⟩)
 have sz:=zC (show 0<n+j*d by omega)
 clear hs hb hx bh hj CS hn aT;have E2:Below W.heap.size W W.drew:=(Below.refl _ _).drew;have HK:=zC (show ∀ w',Below W.heap.size W w'->(cK w' w.heap.size s (w'.cell? ⟨B0,0,none⟩=some (.int .i64 x)/\w'.cell? ⟨B1,0,none⟩=some (.int .i64 d)/\w'.cell? ⟨B2,0,none⟩=some (.int .i64 n))) from λ w' hB=>⟨(A.bw hB).c0,(A.bw hB).c1,(A.bw hB).c2,(A.bw hB).c3,(A.bw hB).c4,(X.bw hB).c0,(D.bw hB).c0,(Z.bw hB).c0⟩)
 clear X D Z
 go_enter Tryz.func208,Tryz.ntmps208
 go_wp2;rw[<- hW];clear hW;have DQ:w.heap.size+1≠B0:=by omega
 have FT:w.heap.size+1≠B1:=by omega
 have SB:w.heap.size+1≠B2:=by omega
 obtain⟨x0,x1,x2,x3,x4,x5,x6,x7⟩:=zA HK _ (Below.refl _ _)
 go_region_held3 (λ w'=>cK w' w.heap.size s (w'.cell? ⟨B0,0,none⟩=some (.int .i64 x)/\w'.cell? ⟨B1,0,none⟩=some (.int .i64 d)/\w'.cell? ⟨B2,0,none⟩=some (.int .i64 n))) (first|exact zA HK _ (by with_reducible first|exact E2|exact A9|exact o9|exact A7)|(dsimp only[cK,cK0,nK,nK0,rK,rK0];go_keep)|go_keep)
  (first
   | (go_at_call 151;have hq:=o9;refine (zBF _ s ⟨m7,a1,n1,c1⟩ ⟨j7,a2,n2,c2⟩ k 4 _ b a (x*d) (n+j*d) ((zA HS).bw o9) (o8.bw j8) A5 (by omega) (by omega) (zA sz) (zA HB)).mono ?_;rintro r w3 ⟨t,rfl,I2,K5,m8⟩;have HT:=zC I2;clear I2;have A9:=zB o9 m8;obtain⟨q0,q1,q2,q3,q4,q5⟩:=R.bw A9;obtain⟨i0,i1,i2,i3,i4,i5,i6,i7⟩:=zA HK _ A9)
   | (go_at_call 33;have hq:=A7;(first|rw[zA ag,zA dK]|rw[zA dK]);refine (zD (n+j*d) _ (zA pS).1 (zA pS).2).mono ?_;rintro r w2 ⟨j7,a2,n2,c2,rfl,A5,j8⟩;have o9:=zB A7 j8)
   | (go_at_call 33;rw[zA T7];refine (zD (x*d) _ (zA gR).1 (zA gR).2).mono ?_;rintro r w1 ⟨m7,a1,n1,c1,rfl,o8,b9⟩;have A7:=zB E2 b9))
 all_goals
  go_wp2;refine bodyPost_ret (v:=.agg t.q) (by simp[results,Tryz.results208,go_sem,q0,q1,q2,q3,q4]) rfl ⟨t,rfl,zA HT,?_,?_⟩
  ·exact SpAt.put5 K5 q0 q1 q2 q3 q4 _ _ _ _ _
  ·exact jV (zB j6 A9) (Nat.le_succ _) _ _ _ _ _
theorem en_ga (args:Array Value) (w:World):(callFunc 208 args).run Tryz.prog w=.ok (.enter 208 args) w:=by simp[go_sem,callFunc,Tryz.func208];kernel_rfl
end Go.Proofs.YtgmnknmjainabacGreat
