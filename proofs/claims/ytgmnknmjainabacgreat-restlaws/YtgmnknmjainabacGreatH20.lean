/-
  Its own texts.
-/
import Derived.Test.YtgmnknmjainabacGreatH19
set_option maxRecDepth 100000
set_option maxHeartbeats 40000000
set_option linter.unusedVariables false
namespace Go.Proofs.YtgmnknmjainabacGreat
open Ex
theorem zI6 {B:Nat} {d:Int × Int} {c:Int} (hd:d.1<=d.2) (hc:0<=c) (t:Nat) (hq:Q t*c<=Q B) (h:Q B-c<=d.1):Q B-Q t*c<=(sqI B d t).1/\(sqI B d t).1<=(sqI B d t).2:=by
 have q:=zE B
 induction t with
 | zero=>exact⟨by show Q B-1*c<=d.1;omega,hd⟩
 | succ t ih =>
  have e:Q (t+1)=2*Q t:=rfl;have qt:=zE t;have ec:Q (t+1)*c=2*(Q t*c):=by rw[e];grind
  have tc:=Zc (show 0<=Q t by omega) hc
  obtain⟨i1,i2⟩:=ih (by omega)
  refine⟨?_,zB2 B⟩
  show Q B-Q (t+1)*c<=(zAL B (sqI B d t) (sqI B d t)).1
  rw[ec];generalize sqI B d t=a at *;generalize Q t*c=y at *;obtain⟨_,_,_,_,hh⟩:=zEA (a.1*a.1) (a.1*a.2) (a.2*a.1) (a.2*a.2);have c0:0<=a.1:=by omega
  have m1:=Za i2 c0;have m2:=YW i2 c0;have m3:=Int.mul_le_mul i2 i2 c0 (by omega)
  have m4:=Int.mul_le_mul i1 i1 (by omega) c0
  have e2:(Q B-y)*(Q B-y)=(Q B-2*y)*Q B+y*y:=by grind
  have m5:=Zc tc tc;have m6:(Q B-2*y)*Q B<=kM (pr4 (a.1*a.1) (a.1*a.2) (a.2*a.1) (a.2*a.2)) 3:=by omega
  exact Int.le_ediv_of_mul_le (by omega) m6
theorem zOB {B:Nat} {d:Int × Int} {C c:Int} (hd:d.1<=d.2) (hc:0<=c) (hl:Q B-c<=d.1) (hC:0<=C) (h:(d.2-d.1)*Q B<=C*d.2) (i:Nat) (hi:2*(Q i*c)<=Q B) :
  ((sqI B d i).2-(sqI B d i).1)*Q B<=(Q i*(C+4)-4)*(sqI B d i).2:=by
 induction i with
 | zero =>
  show (d.2-d.1)*Q B<=(1*(C+4)-4)*d.2
  have:1*(C+4)-4=C:=by omega
  rw[this];exact h
 | succ i ih =>
  have es:Q (i+1)=2*Q i:=rfl;have q0:=zE i;have ec:Q (i+1)*c=2*(Q i*c):=by rw[es];grind
  have tc:=Zc (show 0<=Q i by omega) hc
  have i1:=ih (by omega)
  obtain⟨l1,l2⟩:=zI6 (B:=B) hd hc i (by omega) hl
  obtain⟨l3,l4⟩:=zI6 (B:=B) hd hc (i+1) (by omega) hl
  have m:=YW q0 (show 0<=C+4 by omega)
  have r:=sq_rel (B:=B) (a:=sqI B d i) (C:=Q i*(C+4)-4) (by omega) l2 (by omega) i1 (by
   have e:(zAL B (sqI B d i) (sqI B d i)).2=(sqI B d (i+1)).2:=rfl
   rw[e];omega)
  have ec:2*(Q i*(C+4)-4)+4=Q (i+1)*(C+4)-4:=by rw[es];grind
  rw[ec] at r;exact r
theorem zJ0 {B:Nat} {a:Int × Int} {x:Nat->Rat} (h:Iv B a x) (k:LeN (λ _=>1) x):Q B<=a.2:=by
 have q:=jM B;refine Int.not_lt.1 λ E2=>?_
 have d:(0:Rat)<1/(Q B:Rat):=zK (by grind) q
 obtain⟨e,he⟩:∃ e,e=1/(Q B:Rat)/4:=⟨_,rfl⟩;have e0:0<e:=by grind
 obtain⟨N1,k1⟩:=h e e0;obtain⟨N2,k2⟩:=k e e0;have a1:=(k1 (N1+N2) (by omega)).2
 have a2:=k2 (N1+N2) (by omega)
 simp only[] at a2;have c:=jF (show a.2+1<=Q B by omega)
 rw[Rat.intCast_add] at c;have c1:((1:Int):Rat)=1:=rfl;rw[c1] at c;have m:((a.2:Rat)+1)/(Q B:Rat)<=1:=zBP q (by grind)
 rw[zB0] at m;generalize 1/(Q B:Rat)=i at *;grind
theorem zJC {x:Nat->Rat} (hb:Bdd x) (h:LeN (λ _=>0) x):LeN (λ _=>1) (Ev x):=by
 obtain⟨z,hz,kz⟩:=h.null;obtain⟨v,hv,N,k⟩:=zCV (Bdd.const 0) hb hz 0 (λ M _=>kz M)
 refine LeN.of_null hv (N+1) λ M hM=>?_
 obtain⟨m,rfl⟩:∃ m,M=m+1:=⟨M-1,by omega⟩
 have e0:Ev (λ _=>(0:Rat)) (m+1)=1:=E_zero m
 have:=k (m+1) (by omega)
 rw[e0] at this;exact this
def exD (B:Nat) (ws:Int) (t:Nat):Int:=((B:Int)/8+2)*(2*ws+8*Q t)+6*Q t
theorem exq_ok {B t N:Nat} {a:Int × Int} {x:Nat->Rat} {ws:Int} (hB:16<=B) (ha:Iv B a x) (hx:LeN (λ _=>0) x) (hw:a.2-a.1<=ws) (hA:Abs (zF a t) (Q (B-8))) (hN:zU (zV B (zF a t)) N) (hD:2*exD B ws t<=Q B) :
  Q B<=2*(sqI B (zM (zV B (zF a t)) N) t).1/\(sqI B (zM (zV B (zF a t)) N) t).1<=(sqI B (zM (zV B (zF a t)) N) t).2/\(sqI B (zM (zV B (zF a t)) N) t).2<=Q (B+eb t)/\((sqI B (zM (zV B (zF a t)) N) t).2-(sqI B (zM (zV B (zF a t)) N) t).1)*Q B<=exD B ws t*(sqI B (zM (zV B (zF a t)) N) t).2/\Iv B (sqI B (zM (zV B (zF a t)) N) t) (Ev x):=by
 have q:=zE t;have qB:=zE B;have al:=ha.le;have DP:0<=ws:=by omega
 obtain⟨u,hu⟩:∃ u,u=ws/Q t+1:=⟨_,rfl⟩
 have wu:ws<=u*Q t:=by
  have:=kY ws (show 0<Q t by omega)
  rw[<- hu] at this;omega
 have uw:u*Q t<=ws+Q t:=by
  have:=Int.ediv_mul_le ws (show Q t≠0 by omega)
  have r:u*Q t=ws/Q t*Q t+Q t:=by rw[hu];grind
  omega
 have u0:0<=u:=by have:=Int.ediv_nonneg DP (show 0<=Q t by omega);omega
 obtain⟨g1,g2,g3,g4⟩:=zBL (ws:=u) hB hA al (by omega) hN
 have Z9:(zF a t).1<=(zF a t).2:=by
  have:=kR (a:=a) (n:=1) (d:=Q t) al (by omega) (by omega)
  simpa [zJ,zF] using this
 have dle:=zCK (zAK B (zF a t)) N;have wd:(zF a t).2-(zF a t).1<=u+1:=zBV (by omega) (by omega)
 have wD:=zCA (zD6 (by omega) hA Z9 wd) hN
 have fR:Bdd (λ M=>x M/(Q t:Rat)):=Has.bdd (ha.down t)
 have qr:=jM t
 have l0:LeN (λ _=>0) (λ M=>x M/(Q t:Rat)):=by
  obtain⟨z,hz,kz⟩:=hx.null;refine LeN.of_null (hz.bmul (Bdd.const (1/(Q t:Rat)))) 0 λ M _=>?_
  have k:=kz M;have ip:(0:Rat)<=1/(Q t:Rat):=jR qr (by grind)
  have m:=YX k ip;have e:x M/(Q t:Rat)=x M*(1/(Q t:Rat)):=by rw[Rat.div_def,Rat.div_def,Rat.one_mul]
  rw[e];grind
 have up:=zJ0 (zDH (N:=N) (by omega) (ha.down t) hA) (zJC fR l0)
 obtain⟨D,Bz⟩:∃ D,D=zM (zV B (zF a t)) N:=⟨_,rfl⟩;rw[<- Bz] at dle wD up;obtain⟨c,hc⟩:∃ c,c=((B:Int)/8+2)*(2*(u+1)+4)+2:=⟨_,rfl⟩;have c0:0<=c:=by have:=Zc (show 0<=(B:Int)/8+2 by omega) (show 0<=2*(u+1)+4 by omega);omega
 have wC:D.2-D.1<=c:=by
  have m:=YW (show (N:Int)+1<=(B:Int)/8+2 by omega) (show 0<=2*(u+1)+4 by omega)
  omega
 have tc:Q t*(c+4)<=exD B ws t:=by
  have m:=Za uw (show 0<=2*((B:Int)/8+2) by omega)
  unfold exD;rw[hc];generalize (B:Int)/8+2=β at *;have r:Q t*(β*(2*(u+1)+4)+2+4)=2*β*(u*Q t)+6*(Q t*β)+6*Q t:=by grind
  have r2:2*β*(ws+Q t)=2*(β*ws)+2*(Q t*β):=by grind
  have r3:β*(2*ws+8*Q t)+6*Q t=2*(β*ws)+8*(Q t*β)+6*Q t:=by grind
  omega
 have r4:Q t*(c+4)=Q t*c+4*Q t:=by grind
 have low:Q B-c<=D.1:=by omega
 have rel:(D.2-D.1)*Q B<=c*D.2:=Int.le_trans (YW wC (by omega)) (Za up c0)
 have sl:=zI6 (B:=B) dle c0 t (by omega) low
 have rs:=zOB (B:=B) dle c0 low c0 rel t (by omega)
 have iv:=zDZ (N:=N) (by omega) ha hA
 rw[<- Bz] at g1 g2 iv ⊢;refine⟨by omega,g1,g2.2.2.2,?_,iv⟩
 refine Int.le_trans rs (YW (by omega) ?_)
 omega
structure zMO (p q n d:Int) (B:Nat):Prop where
 p0:0<p
 q0:0<q
 pq:p<=100*q
 qq:q<=1048576
 n0:0<n
 d0:0<d
 nn:n<=1099511627776
 dd:d<=1048576
 nx:n<d*(2*((B:Int)+p/q+1))
 b0:40<=B
 b1:B<=400
def luU (q n:Int) (_:Nat):Int:=n*q
def luD (p q d:Int) (k:Nat):Int:=d*(p+(k:Int)*q)
def luT (p q n d:Int) (B:Nat):Nat->Int × Int:=riT (Q B,Q B) (luU q n) (luD p q d)
def luN (n d:Int):Nat:=(2*n/d).toNat
theorem lu_x {p q n d:Int} {B:Nat} (h:zMO p q n d B):n<1002*d/\(luN n d:Int)=2*n/d/\luN n d<=2004:=by
 have e:p/q<=100:=Int.ediv_le_of_le_mul h.q0 h.pq;have b1:=h.b1;have d0:=h.d0;have n0:=h.n0;have m:=Za (show 2*((B:Int)+p/q+1)<=1002 by omega) (show 0<=d by omega)
 have nx:=h.nx;have q0:0<=2*n/d:=Int.ediv_nonneg (by omega) (by omega)
 have l:2*n/d<2005:=Int.ediv_lt_of_lt_mul d0 (by omega)
 unfold luN;exact⟨by omega,by omega,by omega⟩
theorem zSF {p q n d:Int} {B:Nat} (h:zMO p q n d B) (k:Nat):0<luD p q d k:=by
 have:=Zc (show (0:Int)<=(k:Int) by omega) (show 0<=q by have:=h.q0;omega)
 have:=h.p0;exact Int.mul_pos h.d0 (by omega)
theorem zII {p q n d:Int} {B:Nat} (h:zMO p q n d B):zPR (Q B,Q B) (luU q n) (luD p q d):=by
 have q:=zE B;refine⟨⟨λ _=>Zc (by have:=h.n0;omega) (by have:=h.q0;omega),λ k=>zSF h k⟩,by show 0<Q B;omega,Int.le_refl _,by show Q B-Q B<=1;omega,λ k hk=>?_⟩
 refine Int.le_trans ?_ hk;refine Za ?_ (by have:=h.d0;omega)
 have m:=YW (show ((k+1:Nat):Int)<=((k+2:Nat):Int) by omega) (show 0<=_ from Int.le_of_lt h.q0)
 omega
theorem lu_34 {p q n d:Int} {B:Nat} (h:zMO p q n d B) (k:Nat) (hk:luN n d<=k):4*luU q n (k+1)<=3*luD p q d (k+1):=by
 have d0:=h.d0;have f:=kY (2*n) d0;have e:=(lu_x h).2.1;rw[<- e] at f;have m:=YW (show (luN n d:Int)+1<=((k+1:Nat):Int) by omega) (show 0<=d by omega)
 have m2:=YW (show 2*n<=((k+1:Nat):Int)*d by omega) (show 0<=q from Int.le_of_lt h.q0)
 have m3:=Zc (show 0<=d by omega) (show 0<=p from Int.le_of_lt h.p0)
 have m4:=Zc (show 0<=n from Int.le_of_lt h.n0) (show 0<=q from Int.le_of_lt h.q0)
 unfold luU luD;generalize ((k+1:Nat):Int)=K at *;have r:d*(p+K*q)=d*p+K*d*q:=by grind
 have r2:2*n*q=2*(n*q):=by grind
 rw[r];omega
theorem lu_c {p q n d:Int} {B:Nat} (h:zMO p q n d B) (k:Nat):luU q n (k+1)<=Q 10*luD p q d (k+1):=by
 have x:=(lu_x h).1;have Bk:Q 10=1024:=rfl;have q0:=h.q0;have d0:=h.d0;have p0:=h.p0;have m1:=YW (show n<=1024*d by omega) (show 0<=q by omega)
 have kq:=YW (show (1:Int)<=((k+1:Nat):Int) by omega) (show 0<=q by omega)
 have m2:=Za (show q<=p+((k+1:Nat):Int)*q by omega) (show 0<=d by omega)
 unfold luU luD;rw[Bk];have r:1024*d*q=1024*(d*q):=by grind
 omega
theorem lu_set {p q n d:Int} {B:Nat} (h:zMO p q n d B):∃ N,N<=70000/\yK (luT p q n d B) (luN n d) N:=by
 obtain⟨N,h1,h2⟩:=zTO (zII h) (H:=B) (c:=10) (turn:=luN n d) (Int.le_refl _) (by have:=h.b0;omega) (lu_c h) (lu_34 h)
 have:=(lu_x h).2.2;have:=h.b1;exact⟨N,by omega,h2⟩
theorem lu_fit {p q n d:Int} {B:Nat} (h:zMO p q n d B) (k:Nat) (hk:k<=1000000):(jE (luT p q n d B) k).2+9<=Q 20461:=by
 have a:=zTM (zII h) (H:=B) (c:=10) (turn:=luN n d) (Int.le_refl _) (by have:=h.b0;omega) (lu_c h) (lu_34 h) k hk
 have:=(lu_x h).2.2;have:=h.b1;exact Int.le_trans a (zH (by omega))
theorem lu_hi {p q n d:Int} {B:Nat} (h:zMO p q n d B) (k:Nat):(luT p q n d B k).2<=Q 20461:=by
 have a:=zTN (zII h) (H:=B) (c:=10) (turn:=luN n d) (Int.le_refl _) (by have:=h.b0;omega) (lu_c h) (lu_34 h) k
 have:=(lu_x h).2.2;have:=h.b1;exact Int.le_trans a (zH (by omega))
theorem lu_val {p q n d:Int} {B:Nat} (h:zMO p q n d B) (k M:Nat):riV (λ _=>1) (luU q n) (luD p q d) k M=(p:Rat)/(q:Rat)*upT ((p:Rat)/(q:Rat)) ((n:Rat)/(d:Rat)) k:=by
 have p0:(0:Rat)<(p:Rat):=by exact_mod_cast h.p0
 have q0:(0:Rat)<(q:Rat):=by exact_mod_cast h.q0
 have d0:(0:Rat)<(d:Rat):=by exact_mod_cast h.d0
 have a0:(0:Rat)<(p:Rat)/(q:Rat):=zK p0 q0;have ea:=rdm (a:=(p:Rat)) q0;have EH:=rdm (a:=(n:Rat)) d0
 induction k with
 | zero=>rw[zAD a0];rfl
 | succ k ih =>
  have pD:(0:Rat)<(luD p q d (k+1):Rat):=by exact_mod_cast zSF h (k+1)
  have us:=jW a0 ((n:Rat)/(d:Rat)) k;have up:=zBQ a0 k
  show (luU q n (k+1):Rat)/(luD p q d (k+1):Rat)*riV (λ _=>1) (luU q n) (luD p q d) k M=_
  rw[ih]
  have eD:(luD p q d (k+1):Rat)=(d:Rat)*(q:Rat)*((p:Rat)/(q:Rat)+((k:Rat)+1)):=by
   unfold luD;rw[Ze,Rat.intCast_add,Ze];have:(((k+1:Nat):Int):Rat)=(k:Rat)+1:=by push_cast;rfl
   rw[this];have:(d:Rat)*(q:Rat)*((p:Rat)/(q:Rat)+((k:Rat)+1))=(d:Rat)*((p:Rat)/(q:Rat)*(q:Rat)+((k:Rat)+1)*(q:Rat)):=by grind
   rw[this,ea]
  have eU:(luU q n (k+1):Rat)=(d:Rat)*(q:Rat)*((n:Rat)/(d:Rat)):=by
   unfold luU;rw[Ze];have:(d:Rat)*(q:Rat)*((n:Rat)/(d:Rat))=(n:Rat)/(d:Rat)*(d:Rat)*(q:Rat):=by grind
   rw[this,EH]
  have dq:=Rat.mul_pos d0 q0;have e4:=rdm (a:=(luU q n (k+1):Rat)) pD;generalize upT ((p:Rat)/(q:Rat)) ((n:Rat)/(d:Rat)) k=u at *;generalize upT ((p:Rat)/(q:Rat)) ((n:Rat)/(d:Rat)) (k+1)=u1 at *;generalize (luU q n (k+1):Rat)/(luD p q d (k+1):Rat)=r at *;rw[eD,eU] at e4;generalize (p:Rat)/(q:Rat)=a at *;generalize (n:Rat)/(d:Rat)=x at *;generalize (d:Rat)*(q:Rat)=e at *;refine zY (c:=e*(a+((k:Rat)+1))) (Rat.mul_pos dq up) ?_;have r1:e*(a+((k:Rat)+1))*(r*(a*u))=r*(e*(a+((k:Rat)+1)))*(a*u):=by grind
  have r2:e*(a+((k:Rat)+1))*(a*u1)=e*a*((a+((k:Rat)+1))*u1):=by grind
  rw[r1,r2,e4,us];grind
def zA2 (p q n d:Int) (B N:Nat):Int × Int:=yC (luT p q n d B) N
theorem lu_has {p q n d:Int} {B N:Nat} (h:zMO p q n d B) (hN:yK (luT p q n d B) (luN n d) N):Iv B (zA2 p q n d B N) (λ M=>(p:Rat)/(q:Rat)*uS ((p:Rat)/(q:Rat)) ((n:Rat)/(d:Rat)) M):=by
 have r:=zCC (zII h).ok (zHG B) 0 (λ M _=>by grind) (λ k hk=>lu_34 h k hk) hN
 refine Has.of_eq r λ M=>?_
 show (p:Rat)/(q:Rat)*S (upT ((p:Rat)/(q:Rat)) ((n:Rat)/(d:Rat))) M=S (λ k=>riV (λ _=>1) (luU q n) (luD p q d) k M) M
 have:∀ m,(p:Rat)/(q:Rat)*S (upT ((p:Rat)/(q:Rat)) ((n:Rat)/(d:Rat))) m=S (λ k=>riV (λ _=>1) (luU q n) (luD p q d) k M) m:=λ m=>by
  induction m with
  | zero=>show (p:Rat)/(q:Rat)*0=0;grind
  | succ m ih =>
   show (p:Rat)/(q:Rat)*(S (upT ((p:Rat)/(q:Rat)) ((n:Rat)/(d:Rat))) m+upT ((p:Rat)/(q:Rat)) ((n:Rat)/(d:Rat)) m)=S (λ k=>riV (λ _=>1) (luU q n) (luD p q d) k M) m+riV (λ _=>1) (luU q n) (luD p q d) m M
   rw[<- ih,lu_val h m M];grind
 exact this M
structure zDT (L:Rat->Nat->Rat) (x:Rat) (B:Nat) (o:Int × Int):Prop where
 le:o.1<=o.2
 ab:Abs o (264*Q B)
 wd:o.2-o.1<=132*(2*(B:Int)+14)
 iv:Iv B o (L x)
theorem lwLog_of {L:Rat->Nat->Rat} (hL:Lns L) {n d:Int} {B:Nat} (hn:0<n) (hd:0<d) (hB:16<=B) {n' d' c:Int} {N N2:Nat} (h:Bal n d n' d' c) (c1 : -65<=c) (c2:c<=65) (hN:zU (lnT n' d' B) N) (bj:zU (lnT 2 1 B) N2):zDT L ((n:Rat)/(d:Rat)) B (zIF (zM (lnT n' d' B) N) (zM (lnT 2 1 B) N2) c):=by
 obtain⟨b1,b2,b3⟩:=zEC (k:=c) h.1 hB hN bj 65 c1 c2;obtain⟨l,il,iv⟩:=zE1 hn hd h B N N2;have q:=zE B;refine⟨b1,b2.mono (by omega),by omega,?_⟩
 have nr:(0:Rat)<(n:Rat):=by exact_mod_cast hn
 have dr:(0:Rat)<(d:Rat):=by exact_mod_cast hd
 exact iv.congr ((hL _ (zK nr dr)).uniq il)
structure LgP2 (x:Nat->Rat) (B:Nat) (l u:Int):Prop where
 le:l<=u
 wd:u-l<=20000000*((B:Int)*(B:Int))+180000000
 ab:Abs (l,u) (120000*Q B)
 iv:Iv B (l,u) x
theorem lgam_ok2 {n d:Int} {g lp x l1 l2:Nat->Rat} {B:Nat} {a o1 o2 o:Int × Int} (h:StIn n d) (D7:40<=B) (hB:B<=1000) (ha:GaV g B a) (ls:LsIn a B o1 o2 l1 l2) (hp:IsLog lp (λ _=>(stP n d (stN n d):Rat)/(stQ d (stN n d):Rat))) (io:Iv B o lp) (k1:LbOk B o1) (k2:LbOk B o2) (k3:LbOk B o) (hx:IsLog x (gmV n d g)) (yz:∃ c:Rat,0<c/\∃ N:Nat,∀ M,N<=M->c<=g M) {L:Rat->Nat->Rat} (hL:Lns L):LgP2 x B (o1.1+o.1) (o2.2+o.2):=by
 have pr:=lgam_ok h D7 hB ha ls hp io k1 k2 k3 hx yz hL;have q:=zE B;have big:=zP3 D7 hB;have BB:=Zc (show (0:Int)<=(B:Int) by omega) (show (0:Int)<=(B:Int) by omega)
 have a0:0<a.1:=by have:=ha.lo;omega
 have al:=ha.le
 have twice:a.2<=2*a.1:=by
  have m:=YW big (show 0<=a.2 by omega)
  have r:=ha.rel
  have s:16*(a.2-a.1)<=a.2:=by
   refine Int.le_of_mul_le_mul_right (a:=Q B) ?_ (by omega)
   have r1:16*(a.2-a.1)*Q B=16*((a.2-a.1)*Q B):=by grind
   have r2:16*(10000000*((B:Int)*(B:Int)))*a.2=16*(10000000*((B:Int)*(B:Int))*a.2):=by grind
   have r3:Q B*a.2=a.2*Q B:=Int.mul_comm _ _;omega
  omega
 have w:=zSE ls (C:=20000000*((B:Int)*(B:Int))) (by
  have m1:=Za twice (show 0<=10000000*((B:Int)*(B:Int)) by omega)
  have r:=ha.rel;have r2:10000000*((B:Int)*(B:Int))*(2*a.1)=20000000*((B:Int)*(B:Int))*a.1:=by grind
  omega)
 have w1:=k1.wd;have w2:=k2.wd;have w3:=k3.wd;obtain⟨x1,x2,x3,x4⟩:=k1.ab;obtain⟨y1,y2,y3,y4⟩:=k2.ab;obtain⟨z1,z2,z3,z4⟩:=k3.ab;exact⟨pr.le,by omega,⟨by show _<=o1.1+o.1;omega,by show o1.1+o.1<=_;omega,by show _<=o2.2+o.2;omega,by show o2.2+o.2<=_;omega⟩,pr.iv⟩
def luY (p q n d:Int) (B:Nat) (o g:Int × Int):Int × Int:=zB8 (zJB (ofI n d B) (zJ o p q)) g
def luW (B:Nat):Int:=20000000*((B:Int)*(B:Int))+200000000
theorem luY_ok {L:Rat->Nat->Rat} {p q n d:Int} {B:Nat} {o:Int × Int} {l u:Int} {X:Nat->Rat} (h:zMO p q n d B) (ho:zDT L ((n:Rat)/(d:Rat)) B o) (hg:LgP2 X B l u):(luY p q n d B o (l,u)).1<=(luY p q n d B o (l,u)).2/\(luY p q n d B o (l,u)).2-(luY p q n d B o (l,u)).1<=luW B/\Abs (luY p q n d B o (l,u)) (147500*Q B)/\Iv B (luY p q n d B o (l,u)) (lwY L ((p:Rat)/(q:Rat)) ((n:Rat)/(d:Rat)) X):=by
 have q0:=h.q0;have p0:=h.p0;have d0:=h.d0;have b0:=h.b0;have b1:=h.b1;have Qp:=zE B;have ol:=kO (n:=n) d0 B;have ow:=kU (n:=n) d0 B
 have oa:Abs (ofI n d B) (1002*Q B):=zGC d0 B (by
   have:=Zc (show 0<=n from Int.le_of_lt h.n0) (show 0<=Q B by omega)
   have:=Zc (show 0<=1002*Q B by omega) (show 0<=d by omega)
   omega) (by
   have m:=YW (show n<=1002*d from Int.le_of_lt (lu_x h).1) (show 0<=Q B by omega)
   have r:1002*d*Q B=1002*Q B*d:=by grind
   omega)
 have sl:=kR (a:=o) (n:=p) (d:=q) ho.le q0 (by omega)
 have sw:=kK (a:=o) (n:=p) (d:=q) (c:=100*(o.2-o.1)) q0 (by
  have m:=Za h.pq (show 0<=o.2-o.1 by have:=ho.le;omega)
  have r:(o.2-o.1)*(100*q)=100*(o.2-o.1)*q:=by grind
  omega)
 obtain⟨a1,a2,a3,a4⟩:=ho.ab
 have sa:Abs (zJ o p q) (26400*Q B):=by
  have pq:=h.pq;have t1:=yU (x:=o.1) (y:=p) (m:=264*Q B) (n:=100*q) a1 a2 (by omega) pq
  have t2:=yU (x:=o.2) (y:=p) (m:=264*Q B) (n:=100*q) a3 a4 (by omega) pq
  have r:264*Q B*(100*q)=26400*Q B*q:=by grind
  rw[r] at t1 t2;have r1:=jJ q0 t1.1 t1.2;have r2:=jJ q0 t2.1 t2.2;exact⟨r1.1,r1.2.1,r2.2.2.1,r2.2.2.2⟩
 have gl:=hg.le;have gw:=hg.wd;have wd:=ho.wd;obtain⟨x1,x2,x3,x4⟩:=oa;obtain⟨y1,y2,y3,y4⟩:=sa;obtain⟨z1,z2,z3,z4⟩:=hg.ab;simp only[] at z1 z2 z3 z4;have e1:(luY p q n d B o (l,u)).1=(ofI n d B).1-(zJ o p q).2+l:=rfl;have e2:(luY p q n d B o (l,u)).2=(ofI n d B).2-(zJ o p q).1+u:=rfl;refine⟨by omega,?_,⟨by omega,by omega,by omega,by omega⟩,?_⟩
 ·unfold luW
  omega
 ·have i1:=Iv.of B (n:=n) (d:=d) d0
  have i2:=ho.iv.scale (n:=p) (d:=q) (by omega) q0
  exact Has.of_eq ((i1.sub i2).add hg.iv) λ M=>rfl
theorem zE2 {a b c d:Int} (h1:a<=b) (h2:c<=d) (h3:0<=c) (h4:0<=b):a*c<=b*d:=Int.mul_le_mul h1 h2 h3 h4
theorem lu_exD {B t:Nat} (h0:40<=B) (h1:B<=400) (ht:t<=26):2*exD B (luW B) t<=Q B/\exD B (luW B) t<=1000000000000000:=by
 have qt:=zH ht;have e26:Q 26=67108864:=rfl;have q0:=zE t
 have go:∀ (b β k:Int),(B:Int)<=b->(B:Int)/8+2<=β->0<=β->exD B (luW B) t<=β*(2*(20000000*(b*b)+200000000)+536870912)+402653184:=λ b β k hb hβ hβ0=>by
  have bb:=zE2 hb hb (by omega) (by omega)
  have m:=zE2 hβ (show 2*luW B+8*Q t<=2*(20000000*(b*b)+200000000)+536870912 by unfold luW;omega) (by
   have:=Zc (show (0:Int)<=(B:Int) by omega) (show (0:Int)<=(B:Int) by omega)
   unfold luW;omega) hβ0
  unfold exD;omega
 by_cases c1:B<=40
 ·have g:=go 40 7 0 (by omega) (by omega) (by omega)
  have q:=zH h0;have e:Q 40=1099511627776:=rfl;omega
 ·by_cases c2:B<=47
  ·have g:=go 47 7 0 (by omega) (by omega) (by omega)
   have q:=zH (show 41<=B by omega)
   have e:Q 41=2199023255552:=rfl;omega
  ·by_cases c3:B<=63
   ·have g:=go 63 9 0 (by omega) (by omega) (by omega)
    have q:=zH (show 48<=B by omega)
    have e:Q 48=281474976710656:=rfl;omega
   ·have g:=go 400 52 0 (by omega) (by omega) (by omega)
    have q:=zH (show 60<=B by omega)
    have e:Q 60=1152921504606846976:=rfl;omega
def luE (p q n d:Int) (B:Nat) (o g:Int × Int) (t N:Nat):Int × Int:=sqI B (zM (zV B (zF (luY p q n d B o g) t)) N) t
def zNO (s e:Int × Int) (B:Nat):Int:=if zEX s.1 s.2 e.1 e.2 B<=Q B then zEX s.1 s.2 e.1 e.2 B else Q B
structure LwPr (x:Nat->Rat) (B:Nat) (l u:Int):Prop where
 lo:0<=l
 le:l<=u
 hi:u<=Q B
 wd:u-l<=Q 89
 iv:Iv B (l,u) x
theorem zRU {B:Nat} {a:Int × Int} {x:Nat->Rat} (h:Iv B a x) (k:LeN x (λ _=>1)):a.1<=Q B:=zNH h k (LeN.of_le 0 λ M _=>by
 have q:=jM B;have:(Q B:Rat)/(Q B:Rat)=1:=by rw[Rat.div_def,Rat.mul_inv_cancel _ (by grind)]
 rw[this];exact Rat.le_refl)
theorem Iv.capL {B:Nat} {a:Int × Int} {x:Nat->Rat} (h:Iv B a x) (k:LeN x (λ _=>1)):Iv B (a.1,if a.2<=Q B then a.2 else Q B) x:=by
 split
 ·exact h
 ·intro e he
  obtain⟨N,hN⟩:=h e he;obtain⟨N0,hx⟩:=k e he;refine⟨N+N0,λ M hM=>?_⟩
  have g:=(hN M (by omega)).1
  have g2:=hx M (by omega)
  have q:=jM B;have e1:(Q B:Rat)/(Q B:Rat)=1:=by rw[Rat.div_def,Rat.mul_inv_cancel _ (by grind)]
  simp only[];rw[e1];constructor<;>grind
theorem zLZ {B:Nat} {s e:Int × Int} {x:Nat->Rat} {C D:Int} (hB:40<=B) (s0:0<=s.1) (sl:s.1<=s.2) (e0:0<e.1) (el:e.1<=e.2) (hC:0<=C) (hD:0<=D) (dL:C<=100000000000) (p9:D<=1000000000000000) (PC:D<=Q B) (hs:(s.2-s.1)*Q B<=C*s.2) (he:(e.2-e.1)*Q B<=D*e.2) (iv:Iv B (zDN s.1 s.2 e.1 e.2 B,zEX s.1 s.2 e.1 e.2 B) x) (h1:LeN x (λ _=>1)):LwPr x B (zDN s.1 s.2 e.1 e.2 B) (zNO s e B):=by
 have q:=zE B;have q40:=zH hB;have Hb:Q 40=1099511627776:=rfl;obtain⟨d1,d2⟩:=zJT (b:=B) s0 sl e0 el;have cap:=iv.capL h1;have le:=cap.le;have l1:=zRU iv h1;have l0:0<=zDN s.1 s.2 e.1 e.2 B:=by rw[d1];exact Int.ediv_nonneg (Zc s0 (by omega)) (by omega)
 have hi:zNO s e B<=Q B:=by unfold zNO;split<;>omega
 refine⟨l0,le,hi,?_,cap⟩
 by_cases c:B<=89
 ·have:=zH c
  omega
 ·have r:=dv_rel (q:=Q B) (C:=C) (D:=D) (by omega) s0 hC hD (by omega) PC e0 el hs sl he d1 d2
  have hh:zNO s e B<=zEX s.1 s.2 e.1 e.2 B:=by unfold zNO;split<;>omega
  simp only[] at l1 le;generalize zDN s.1 s.2 e.1 e.2 B=lo at *;generalize zEX s.1 s.2 e.1 e.2 B=up at *;have q90:=zH (show 60<=B by omega)
  have e60:Q 60=1152921504606846976:=rfl;have e89:Q 89=618970019642690137449562112:=by decide +kernel
  by_cases u0:up<=0
  ·omega
  ·have m:=YW (show 2*(C+D)<=Q B by omega) (show 0<=up by omega)
   have r1:(up-lo)*Q B=up*Q B-lo*Q B:=by grind
   have r2:2*(C+D)*up=2*((C+D)*up):=by grind
   have r3:Q B*up=up*Q B:=Int.mul_comm _ _
   have k1:up<=2*lo+4:=by
    refine Int.le_of_mul_le_mul_right (a:=Q B) ?_ (by omega)
    have r4:(2*lo+4)*Q B=2*(lo*Q B)+4*Q B:=by grind
    omega
   have k2:=Za (show up<=3*Q B by omega) (show 0<=C+D by omega)
   have k3:up-lo<=3*(C+D)+2:=by
    refine Int.le_of_mul_le_mul_right (a:=Q B) ?_ (by omega)
    have r4:(3*(C+D)+2)*Q B=(C+D)*(3*Q B)+2*Q B:=by grind
    omega
   omega
theorem lw_ok {L:Rat->Nat->Rat} (hL:Lns L) {p q n d:Int} {B t N NS:Nat} {o:Int × Int} {l u:Int} {X g:Nat->Rat} (h:zMO p q n d B) (ig:IsGam L ((p:Rat)/(q:Rat)) g) (hX:IsLog X (λ M=>(p:Rat)/(q:Rat)*g M)) (ho:zDT L ((n:Rat)/(d:Rat)) B o) (hg:LgP2 X B l u) (ht:t<=26) (hA:Abs (zF (luY p q n d B o (l,u)) t) (Q (B-8))) (hN:zU (zV B (zF (luY p q n d B o (l,u)) t)) N) (hS:NS<=70000) (lv:yK (luT p q n d B) (luN n d) NS) :
  0<(luE p q n d B o (l,u) t N).1/\(luE p q n d B o (l,u) t N).1<=(luE p q n d B o (l,u) t N).2/\0<=(zA2 p q n d B NS).1/\(zA2 p q n d B NS).1<=(zA2 p q n d B NS).2/\LwPr (lw L ((p:Rat)/(q:Rat)) ((n:Rat)/(d:Rat)) g) B (zDN (zA2 p q n d B NS).1 (zA2 p q n d B NS).2 (luE p q n d B o (l,u) t N).1 (luE p q n d B o (l,u) t N).2 B) (zNO (zA2 p q n d B NS) (luE p q n d B o (l,u) t N) B):=by
 have b0:=h.b0;have b1:=h.b1;have qB:=zE B;have pr:(0:Rat)<(p:Rat):=by exact_mod_cast h.p0
 have qr:(0:Rat)<(q:Rat):=by exact_mod_cast h.q0
 have nr:(0:Rat)<(n:Rat):=by exact_mod_cast h.n0
 have dr:(0:Rat)<(d:Rat):=by exact_mod_cast h.d0
 have a0:=zK pr qr;have x0:=zK nr dr;obtain⟨s1,s2,s3⟩:=se_ok (zII h) NS;obtain⟨y1,y2,y3,y4⟩:=luY_ok h ho hg;obtain⟨D1,D2⟩:=lu_exD b0 b1 ht;obtain⟨e1,e2,e3,e4,e5⟩:=exq_ok (t:=t) (N:=N) (by omega) y4 (zO8 hL a0 x0 ig hX) y2 hA hN D1
 have D0:0<=exD B (luW B) t:=by
  have:=zE t;have:=Zc (show (0:Int)<=(B:Int) by omega) (show (0:Int)<=(B:Int) by omega)
  unfold exD luW;have:=Zc (show 0<=(B:Int)/8+2 by omega) (show 0<=2*(20000000*((B:Int)*(B:Int))+200000000)+8*Q t by omega)
  omega
 have si:=lu_has h lv
 have wE:0<=(zA2 p q n d B NS).1:=by
  have:Q B<=(zA2 p q n d B NS).1:=s1;omega
 have ee:(luE p q n d B o (l,u) t N)=sqI B (zM (zV B (zF (luY p q n d B o (l,u)) t)) N) t:=rfl;have es:zA2 p q n d B NS=yC (riT (Q B,Q B) (luU q n) (luD p q d)) NS:=rfl;rw[<- ee] at e1 e2 e3 e4 e5;rw[<- es] at s1 s2 s3;have dv:=(Iv.dv si e5 wE (by omega)).congr (lw_quot hL a0 x0 ig hX)
 refine⟨by omega,e2,wE,s2,zLZ (C:=(1+2*(NS:Int))*((NS:Int)+2)+9) (D:=exD B (luW B) t) b0 wE s2 (by omega) e2 ?_ D0 ?_ D2 (by omega) s3 e4 dv (zSH x0 ig)⟩
 ·have:=Zc (show 0<=1+2*(NS:Int) by omega) (show 0<=(NS:Int)+2 by omega)
  omega
 ·have:=zE2 (show 1+2*(NS:Int)<=140001 by omega) (show (NS:Int)+2<=70002 by omega) (by omega) (by omega)
  omega
theorem lw_farI {L:Rat->Nat->Rat} (hL:Lns L) {p q n d:Int} {B:Nat} {g:Nat->Rat} (p0:0<p) (q0:0<q) (d0:0<d) (hf:d*(2*((B:Int)+p/q+1))<=n) (hB:1<=B) (ig:IsGam L ((p:Rat)/(q:Rat)) g):LwPr (lw L ((p:Rat)/(q:Rat)) ((n:Rat)/(d:Rat)) g) B (Q B-1) (Q B):=by
 have pr:(0:Rat)<(p:Rat):=by exact_mod_cast p0
 have qr:(0:Rat)<(q:Rat):=by exact_mod_cast q0
 have dr:(0:Rat)<(d:Rat):=by exact_mod_cast d0
 have a0:=zK pr qr;have Qp:=zE B;have QR:=jM B;obtain⟨f,Cg⟩:∃ f:Nat,p/q=(f:Int):=⟨(p/q).toNat,by have:=Int.ediv_nonneg (Int.le_of_lt p0) (Int.le_of_lt q0);omega⟩
 have af:(p:Rat)/(q:Rat)<(f:Rat)+1:=by
  have k:=kY p q0;rw[Cg] at k;have c:(p:Rat)<(((f:Int)+1)*q:Int):=by exact_mod_cast k
  rw[Ze,Rat.intCast_add] at c;have c1:((1:Int):Rat)=1:=rfl;have c2:((f:Int):Rat)=(f:Rat):=rfl;rw[c1,c2] at c;refine Rat.lt_of_mul_lt_mul_right (c:=(q:Rat)) ?_ (YZ qr);rw[rdm qr];exact c
 have xf:2*((B:Rat)+(f:Rat)+1)<=(n:Rat)/(d:Rat):=by
  refine jR dr ?_;have c:=jF hf;rw[Cg,Ze,Ze,Rat.intCast_add,Rat.intCast_add] at c;have c1:((1:Int):Rat)=1:=rfl;have c2:((f:Int):Rat)=(f:Rat):=rfl;have c3:((B:Int):Rat)=(B:Rat):=rfl;have c4:((2:Int):Rat)=2:=rfl;rw[c1,c2,c3,c4] at c;grind
 obtain⟨a,ha⟩:∃ a,a=(p:Rat)/(q:Rat):=⟨_,rfl⟩;obtain⟨x,hx⟩:∃ x,x=(n:Rat)/(d:Rat):=⟨_,rfl⟩;rw[<- ha] at a0 af ig ⊢;rw[<- hx] at xf ⊢;have f0:(0:Rat)<=(f:Rat):=by exact_mod_cast Nat.zero_le f
 have B0:(1:Rat)<=(B:Rat):=by exact_mod_cast hB
 have x1:1<=x:=by grind
 have x0:0<x:=by grind
 have each:∀ k:Nat,k<=B->2*(Q k:Rat)<=x*upT a x k:=λ k=>by
  induction k with
  | zero =>
   intro _
   have e:=zAD a0 x;have u0:=kH a0 (YZ x0) 0;have m:=YX (show 2*a<=x by grind) u0
   have q00:((Q 0:Int):Rat)=1:=rfl;rw[q00];grind
  | succ k ih =>
   intro hk
   have i:=ih (by omega)
   have e:=jW a0 x k;have u0:=kH a0 (YZ x0) (k+1);have kb:(k:Rat)+1<=(B:Rat):=by exact_mod_cast hk
   have m:=YX (show 2*(a+((k:Rat)+1))<=x by grind) u0
   have e2:((Q (k+1):Int):Rat)=2*(Q k:Rat):=by
    have:Q (k+1)=2*Q k:=rfl;rw[this,Ze];rfl
   rw[e2];have r:2*(a+((k:Rat)+1))*upT a x (k+1)=2*((a+((k:Rat)+1))*upT a x (k+1)):=by grind
   rw[r,e] at m;grind
 have low:=lw_far hL (k:=(Q B:Rat)) a0 x1 (by grind) QR (B+1) (λ M hM=>by
  have s:∀ j:Nat,upT a x B<=uS a x (B+1+j):=λ j=>by
   induction j with
   | zero =>
    have:=zCF a0 (YZ x0) B
    show upT a x B<=uS a x (B+1)
    rw[yX];grind
   | succ j ih =>
    have:=kH a0 (YZ x0) (B+1+j)
    show upT a x B<=uS a x (B+1+j+1)
    rw[yX];grind
  obtain⟨j,rfl⟩:∃ j,M=B+1+j:=⟨M-(B+1),by omega⟩
  have m:=YT (s j) (YZ x0)
  exact Rat.le_trans (each B (Zb _)) m) ig
 have up:=zSH x0 ig;have q1:=zH hB;have e1:Q 1=2:=rfl;have Ko:=zE 89;refine⟨by omega,by omega,by omega,by omega,?_⟩
 intro e he
 obtain⟨N1,k1⟩:=low e he;obtain⟨N2,k2⟩:=up e he;refine⟨N1+N2,λ M hM=>?_⟩
 have c1:=k1 M (by omega)
 have c2:=k2 M (by omega)
 simp only[] at c1 c2 ⊢
 have s:((Q B-1:Int):Rat)/(Q B:Rat)=1-1/(Q B:Rat):=by
  rw[Rat.intCast_sub];have c1:((1:Int):Rat)=1:=rfl;rw[c1,Rat.div_def,Rat.div_def];have:=Rat.mul_inv_cancel (Q B:Rat) (by grind)
  grind
 have s2:(Q B:Rat)/(Q B:Rat)=1:=by rw[Rat.div_def,Rat.mul_inv_cancel _ (by grind)]
 rw[s,s2];constructor<;>grind
theorem zHB {B:Nat} {sm:Int × Int} {ws:Int} (hB:8<=B) (hs:Abs sm (Q (B-8))) (Z9:sm.1<=sm.2) (hw:sm.2-sm.1<=ws):(zV B sm 1).2-(zV B sm 1).1<=ws+2:=by
 have q:=zE B
 have h1:=zA3 (c:=ws) (zBX hB hs 0) hs (zAK B sm 0) Z9 (by
  have e:(zV B sm 0).2-(zV B sm 0).1=0:=by show Q B-Q B=0;omega
  rw[e];have m:=Za hw (show 0<=Q B by omega)
  have:Q (B-8*0)=Q B:=rfl
  rw[this,Int.mul_zero,Int.mul_comm ws];omega)
 have h2:=kK (a:=zAL B (zV B sm 0) sm) (n:=1) (d:=((0:Nat):Int)+1) (c:=ws+1) (by omega) (by simp;omega)
 show (zJ (zAL B (zV B sm 0) sm) 1 (((0:Nat):Int)+1)).2-(zJ (zAL B (zV B sm 0) sm) 1 (((0:Nat):Int)+1)).1<=ws+2
 omega
theorem zOX {B:Nat} {sm:Int × Int} {ws:Int} (hB:8<=B) (hs:Abs sm (Q (B-8))) (Z9:sm.1<=sm.2) (hw:sm.2-sm.1<=ws) (n:Nat):(zV B sm (n+2)).2-(zV B sm (n+2)).1<=ws/64+6:=by
 have DP:0<=ws:=by omega
 have step:∀ (m:Nat) (c:Int),(zV B sm (m+1)).2-(zV B sm (m+1)).1<=c->0<=c->(zV B sm (m+2)).2-(zV B sm (m+2)).1<=(ws+c+255)/256+2:=λ m c hc c0=>by
  have q:=zE (B-8);have e:=zLD hB;have m1:Q (B-8*(m+1))<=Q (B-8):=zH (by omega)
  have p1:=Int.mul_le_mul m1 hw (by omega) (by omega)
  have p2:=Za hc (show 0<=Q (B-8) by omega)
  have h1:=zA3 (c:=(ws+c+255)/256) (zBX hB hs (m+1)) hs (zAK B sm (m+1)) Z9 (by
   have e2:(ws+c+255)/256*Q B=Q (B-8)*(256*((ws+c+255)/256)):=by rw[e];grind
   rw[e2];have:=Za (show ws+c<=256*((ws+c+255)/256) by omega) (show 0<=Q (B-8) by omega)
   rw[Int.mul_add] at this
   omega)
  have c1:0<=(ws+c+255)/256:=by omega
  have hp:=Zc (show 0<=(ws+c+255)/256+1 by omega) (show 0<=((m+1:Nat):Int) by omega)
  have h2:=kK (a:=zAL B (zV B sm (m+1)) sm) (n:=1) (d:=((m+1:Nat):Int)+1) (c:=(ws+c+255)/256+1) (by omega) (by
   rw[Int.mul_one,Int.mul_add,Int.mul_one];omega)
  show (zJ (zAL B (zV B sm (m+1)) sm) 1 (((m+1:Nat):Int)+1)).2-(zJ (zAL B (zV B sm (m+1)) sm) 1 (((m+1:Nat):Int)+1)).1<=_
  omega
 induction n with
 | zero =>
  have:=step 0 (ws+2) (zHB hB hs Z9 hw) (by omega)
  omega
 | succ n ih =>
  have:=step (n+1) (ws/64+6) ih (by omega)
  omega
theorem zRE {B:Nat} {sm:Int × Int} {ws:Int} (hB:8<=B) (hs:Abs sm (Q (B-8))) (Z9:sm.1<=sm.2) (hw:sm.2-sm.1<=ws) (N:Nat):(jE (zV B sm) N).2-(jE (zV B sm) N).1<=ws+2+(N:Int)*(ws/64+6):=by
 have DP:0<=ws:=by omega
 induction N with
 | zero =>
  show Q B-Q B<=ws+2+((0:Nat):Int)*(ws/64+6)
  have:((0:Nat):Int)=0:=rfl;rw[this,Int.zero_mul];omega
 | succ n ih =>
  have e1:(jE (zV B sm) (n+1)).1=(jE (zV B sm) n).1+(zV B sm (n+1)).1:=rfl;have e2:(jE (zV B sm) (n+1)).2=(jE (zV B sm) n).2+(zV B sm (n+1)).2:=rfl
  have ec:((n+1:Nat):Int)*(ws/64+6)=(n:Int)*(ws/64+6)+(ws/64+6):=by
   have:((n+1:Nat):Int)=(n:Int)+1:=by omega
   rw[this,Int.add_mul,Int.one_mul]
  rw[e1,e2,ec]
  match n with
  | 0 =>
   have w1:=zHB hB hs Z9 hw;have s:(jE (zV B sm) 0).2-(jE (zV B sm) 0).1=0:=by show Q B-Q B=0;omega
   have z:((0:Nat):Int)=0:=rfl;rw[z,Int.zero_mul];have w2:(zV B sm (0+1)).2-(zV B sm (0+1)).1<=ws+2:=w1;omega
  | n+1 =>
   have w2:(zV B sm (n+1+1)).2-(zV B sm (n+1+1)).1<=ws/64+6:=zOX hB hs Z9 hw n;have JY:=ih;generalize (((n+1:Nat):Int))*(ws/64+6)=z at *;omega
def zRC (ws:Int) (t:Nat):Int:=2*ws+340*Q t
theorem exq_ok2 {B t N:Nat} {a:Int × Int} {x:Nat->Rat} {ws:Int} (hB:16<=B) (o9:B<=400) (ha:Iv B a x) (hx:LeN (λ _=>0) x) (hw:a.2-a.1<=ws) (hA:Abs (zF a t) (Q (B-8))) (hN:zU (zV B (zF a t)) N) (hD:2*zRC ws t<=Q B) :
  Q B<=2*(sqI B (zM (zV B (zF a t)) N) t).1/\(sqI B (zM (zV B (zF a t)) N) t).1<=(sqI B (zM (zV B (zF a t)) N) t).2/\(sqI B (zM (zV B (zF a t)) N) t).2<=Q (B+eb t)/\((sqI B (zM (zV B (zF a t)) N) t).2-(sqI B (zM (zV B (zF a t)) N) t).1)*Q B<=zRC ws t*(sqI B (zM (zV B (zF a t)) N) t).2/\Iv B (sqI B (zM (zV B (zF a t)) N) t) (Ev x):=by
 have q:=zE t;have qB:=zE B;have al:=ha.le;have DP:0<=ws:=by omega
 obtain⟨u,hu⟩:∃ u,u=ws/Q t+1:=⟨_,rfl⟩
 have wu:ws<=u*Q t:=by
  have:=kY ws (show 0<Q t by omega)
  rw[<- hu] at this;omega
 have uw:u*Q t<=ws+Q t:=by
  have:=Int.ediv_mul_le ws (show Q t≠0 by omega)
  have r:u*Q t=ws/Q t*Q t+Q t:=by rw[hu];grind
  omega
 have u0:0<=u:=by have:=Int.ediv_nonneg DP (show 0<=Q t by omega);omega
 obtain⟨g1,g2,g3,g4⟩:=zBL (ws:=u) hB hA al (by omega) hN
 have Z9:(zF a t).1<=(zF a t).2:=by
  have:=kR (a:=a) (n:=1) (d:=Q t) al (by omega) (by omega)
  simpa [zJ,zF] using this
 have dle:=zCK (zAK B (zF a t)) N;have wd:(zF a t).2-(zF a t).1<=u+1:=zBV (by omega) (by omega)
 have wS:=zRE (by omega) hA Z9 wd N
 have fR:Bdd (λ M=>x M/(Q t:Rat)):=Has.bdd (ha.down t)
 have qr:=jM t
 have l0:LeN (λ _=>0) (λ M=>x M/(Q t:Rat)):=by
  obtain⟨z,hz,kz⟩:=hx.null;refine LeN.of_null (hz.bmul (Bdd.const (1/(Q t:Rat)))) 0 λ M _=>?_
  have k:=kz M;have ip:(0:Rat)<=1/(Q t:Rat):=jR qr (by grind)
  have m:=YX k ip;have e:x M/(Q t:Rat)=x M*(1/(Q t:Rat)):=by rw[Rat.div_def,Rat.div_def,Rat.one_mul]
  rw[e];grind
 have up:=zJ0 (zDH (N:=N) (by omega) (ha.down t) hA) (zJC fR l0)
 have ij:=hN.1
 have wD:(zM (zV B (zF a t)) N).2-(zM (zV B (zF a t)) N).1<=(u+1)+2+(N:Int)*((u+1)/64+6)+2:=by
  simp only[zM,zB8];omega
 obtain⟨D,Bz⟩:∃ D,D=zM (zV B (zF a t)) N:=⟨_,rfl⟩;rw[<- Bz] at dle wD up;obtain⟨c,hc⟩:∃ c,c=2*(u+1)+310:=⟨_,rfl⟩;have c0:0<=c:=by omega
 have wC:D.2-D.1<=c:=by
  have m:=YW (show (N:Int)<=51 by omega) (show 0<=(u+1)/64+6 by omega)
  omega
 have tc:Q t*(c+4)<=zRC ws t:=by
  unfold zRC;rw[hc];have r:Q t*(2*(u+1)+310+4)=2*(u*Q t)+316*Q t:=by grind
  omega
 have r4:Q t*(c+4)=Q t*c+4*Q t:=by grind
 have low:Q B-c<=D.1:=by omega
 have rel:(D.2-D.1)*Q B<=c*D.2:=Int.le_trans (YW wC (by omega)) (Za up c0)
 have sl:=zI6 (B:=B) dle c0 t (by omega) low
 have rs:=zOB (B:=B) dle c0 low c0 rel t (by omega)
 have iv:=zDZ (N:=N) (by omega) ha hA
 rw[<- Bz] at g1 g2 iv ⊢;refine⟨by omega,g1,g2.2.2.2,?_,iv⟩
 refine Int.le_trans rs (YW (by omega) ?_)
 omega
structure zK8 (p q r s n d:Int) (B:Nat):Prop where
 p0:0<p
 q0:0<q
 pq:p<=100*q
 qq:q<=2048
 r0:0<r
 s0:0<s
 rs:r<=100*s
 ss:s<=2048
 n0:0<n
 nd:2*n<=d
 dd:d<=4503599627370496
 b0:40<=B
 b1:B<=400
def puU (p q r s n:Int) (k:Nat):Int:=n*(p*s+r*q+((k-1:Nat):Int)*(q*s))
def puD (p q s d:Int) (k:Nat):Int:=d*((p+(k:Int)*q)*s)
def puT (p q r s n d:Int) (B:Nat):Nat->Int × Int:=riT (Q B,Q B) (puU p q r s n) (puD p q s d)
def puN (r s:Int):Nat:=(2*r/s).toNat
theorem pu_n {p q r s n d:Int} {B:Nat} (h:zK8 p q r s n d B):(puN r s:Int)=2*r/s/\puN r s<=200:=by
 have r0:=h.r0;have s0:=h.s0;have rs:=h.rs;have q0:0<=2*r/s:=Int.ediv_nonneg (by omega) (by omega)
 have l:2*r/s<201:=Int.ediv_lt_of_lt_mul s0 (by omega)
 unfold puN;exact⟨by omega,by omega⟩
theorem zTB {p q r s n d:Int} {B:Nat} (h:zK8 p q r s n d B) (k:Nat):0<puD p q s d k:=by
 have:=Zc (show (0:Int)<=(k:Int) by omega) (show 0<=q by have:=h.q0;omega)
 have:=h.p0;have:=h.n0;have:=h.nd;exact Int.mul_pos (by omega) (Int.mul_pos (by omega) h.s0)
theorem zI3 {p q r s n d:Int} {B:Nat} (h:zK8 p q r s n d B):zPR (Q B,Q B) (puU p q r s n) (puD p q s d):=by
 have qq:=zE B;have p0:=Int.le_of_lt h.p0;have q0:=Int.le_of_lt h.q0;have r0:=Int.le_of_lt h.r0;have s0:=Int.le_of_lt h.s0;have n0:=Int.le_of_lt h.n0;have nd:=h.nd;have qs:=Zc q0 s0;refine⟨⟨λ k=>Zc n0 ?_,λ k=>zTB h k⟩,by show 0<Q B;omega,Int.le_refl _,by show Q B-Q B<=1;omega,λ k hk=>?_⟩
 ·have:=Zc p0 s0
  have:=Zc r0 q0;have:=Zc (show (0:Int)<=((k-1:Nat):Int) by omega) qs
  omega
 ·have e1:puU p q r s n (k+2)=puU p q r s n (k+1)+n*(q*s):=by
   unfold puU;have a1:k+2-1=k+1:=by omega
   have a2:k+1-1=k:=by omega
   rw[a1,a2];have:((k+1:Nat):Int)=(k:Int)+1:=by omega
   rw[this];grind
  have e2:puD p q s d (k+2)=puD p q s d (k+1)+d*(q*s):=by
   unfold puD;have:((k+2:Nat):Int)=((k+1:Nat):Int)+1:=by omega
   rw[this];grind
  rw[e1,e2] at hk;have m:=YW (show n<=d by omega) qs
  omega
theorem pu_k {p q r s n:Int} (k:Nat):puU p q r s n (k+1)=n*(p*s+r*q+(k:Int)*(q*s)):=by
 unfold puU;rw[show k+1-1=k by omega]
theorem pu_34 {p q r s n d:Int} {B:Nat} (h:zK8 p q r s n d B) (k:Nat) (hk:puN r s<=k):4*puU p q r s n (k+1)<=3*puD p q s d (k+1):=by
 have p0:=Int.le_of_lt h.p0;have q0:=Int.le_of_lt h.q0;have r0:=Int.le_of_lt h.r0;have s0:=h.s0;have n0:=Int.le_of_lt h.n0;have nd:=h.nd;have f:=kY (2*r) s0;rw[<- (pu_n h).1] at f;have m1:=YW (show (puN r s:Int)+1<=(k:Int)+1 by omega) (Int.le_of_lt s0)
 have m2:=YW (show 2*r<=((k:Int)+1)*s by omega) q0
 have ps:=Zc p0 (Int.le_of_lt s0);have rq:=Zc r0 q0;have qs:=Zc q0 (Int.le_of_lt s0);have kqs:=Zc (show (0:Int)<=(k:Int) by omega) qs
 rw[pu_k];unfold puD;have ec:((k+1:Nat):Int)=(k:Int)+1:=by omega
 rw[ec];generalize (k:Int)=K at *;have e1:(p+(K+1)*q)*s=p*s+(K+1)*s*q:=by grind
 have e2:(K+1)*s*q=K*(q*s)+q*s:=by grind
 have e3:2*r*q=2*(r*q):=by grind
 rw[e1,e2];rw[e2,e3] at m2;generalize p*s=u at *;generalize r*q=v at *;generalize K*(q*s)=w at *;generalize q*s=y at *;have m3:=YW nd (show 0<=u+v+w by omega)
 have m4:=Za (show 2*(u+v+w)<=3*(u+(w+y)) by omega) (show 0<=d by omega)
 have r1:4*(n*(u+v+w))=2*(2*n*(u+v+w)):=by grind
 have r2:d*(2*(u+v+w))=2*(d*(u+v+w)):=by grind
 have r3:d*(3*(u+(w+y)))=3*(d*(u+(w+y))):=by grind
 omega
theorem pu_c {p q r s n d:Int} {B:Nat} (h:zK8 p q r s n d B) (k:Nat):puU p q r s n (k+1)<=Q 6*puD p q s d (k+1):=by
 have p0:=Int.le_of_lt h.p0;have q0:=Int.le_of_lt h.q0;have r0:=Int.le_of_lt h.r0;have s0:=Int.le_of_lt h.s0;have n0:=Int.le_of_lt h.n0;have nd:=h.nd;have e6:Q 6=64:=rfl;have ps:=Zc p0 s0;have rq:=Zc r0 q0;have qs:=Zc q0 s0;have kqs:=Zc (show (0:Int)<=(k:Int) by omega) qs
 have m1:=YW h.rs q0;rw[pu_k,e6];unfold puD;have ec:((k+1:Nat):Int)=(k:Int)+1:=by omega
 rw[ec];generalize (k:Int)=K at *;have e1:(p+(K+1)*q)*s=p*s+(K*(q*s)+q*s):=by grind
 have e2:100*s*q=100*(q*s):=by grind
 rw[e1];rw[e2] at m1;generalize p*s=u at *;generalize r*q=v at *;generalize K*(q*s)=w at *;generalize q*s=y at *;have m3:=YW nd (show 0<=u+v+w by omega)
 have m4:=Za (show u+v+w<=128*(u+(w+y)) by omega) (show 0<=d by omega)
 have r1:2*n*(u+v+w)=2*(n*(u+v+w)):=by grind
 have r3:d*(128*(u+(w+y)))=128*(d*(u+(w+y))):=by grind
 omega
theorem pu_set {p q r s n d:Int} {B:Nat} (h:zK8 p q r s n d B):∃ N,N<=5100/\yK (puT p q r s n d B) (puN r s) N:=by
 obtain⟨N,h1,h2⟩:=zTO (zI3 h) (H:=B) (c:=6) (turn:=puN r s) (Int.le_refl _) (by have:=h.b0;omega) (pu_c h) (pu_34 h)
 have:=(pu_n h).2;have:=h.b1;exact⟨N,by omega,h2⟩
theorem pu_fit {p q r s n d:Int} {B:Nat} (h:zK8 p q r s n d B) (k:Nat) (hk:k<=1000000):(jE (puT p q r s n d B) k).2+9<=Q 1621:=by
 have a:=zTM (zI3 h) (H:=B) (c:=6) (turn:=puN r s) (Int.le_refl _) (by have:=h.b0;omega) (pu_c h) (pu_34 h) k hk
 have:=(pu_n h).2;have:=h.b1;exact Int.le_trans a (zH (by omega))
theorem pu_hi {p q r s n d:Int} {B:Nat} (h:zK8 p q r s n d B) (k:Nat):(puT p q r s n d B k).2<=Q 1621:=by
 have a:=zTN (zI3 h) (H:=B) (c:=6) (turn:=puN r s) (Int.le_refl _) (by have:=h.b0;omega) (pu_c h) (pu_34 h) k
 have:=(pu_n h).2;have:=h.b1;exact Int.le_trans a (zH (by omega))
theorem pu_val {p q r s n d:Int} {B:Nat} (h:zK8 p q r s n d B) (k M:Nat):riV (λ _=>1) (puU p q r s n) (puD p q s d) k M=(p:Rat)/(q:Rat)*bT ((p:Rat)/(q:Rat)) ((r:Rat)/(s:Rat)) ((n:Rat)/(d:Rat)) k:=by
 have p0:(0:Rat)<(p:Rat):=by exact_mod_cast h.p0
 have q0:(0:Rat)<(q:Rat):=by exact_mod_cast h.q0
 have s0:(0:Rat)<(s:Rat):=by exact_mod_cast h.s0
 have d0:(0:Rat)<(d:Rat):=by exact_mod_cast (show 0<d by have:=h.n0;have:=h.nd;omega)
 have a0:(0:Rat)<(p:Rat)/(q:Rat):=zK p0 q0;have ea:=rdm (a:=(p:Rat)) q0;have eb:=rdm (a:=(r:Rat)) s0;have EH:=rdm (a:=(n:Rat)) d0
 induction k with
 | zero=>rw[zES a0];rfl
 | succ k ih =>
  have pD:(0:Rat)<(puD p q s d (k+1):Rat):=by exact_mod_cast zTB h (k+1)
  have us:=zA6 a0 ((r:Rat)/(s:Rat)) ((n:Rat)/(d:Rat)) k;have up:=zBQ a0 k
  show (puU p q r s n (k+1):Rat)/(puD p q s d (k+1):Rat)*riV (λ _=>1) (puU p q r s n) (puD p q s d) k M=_
  rw[ih]
  have eD:(puD p q s d (k+1):Rat)=(d:Rat)*(q:Rat)*(s:Rat)*((p:Rat)/(q:Rat)+((k:Rat)+1)):=by
   unfold puD;rw[Ze,Ze,Rat.intCast_add,Ze];have:(((k+1:Nat):Int):Rat)=(k:Rat)+1:=by push_cast;rfl
   rw[this];have:(d:Rat)*(q:Rat)*(s:Rat)*((p:Rat)/(q:Rat)+((k:Rat)+1))=(d:Rat)*(s:Rat)*((p:Rat)/(q:Rat)*(q:Rat)+((k:Rat)+1)*(q:Rat)):=by grind
   rw[this,ea];grind
  have eU:(puU p q r s n (k+1):Rat)=(d:Rat)*(q:Rat)*(s:Rat)*(((n:Rat)/(d:Rat))*((p:Rat)/(q:Rat)+(r:Rat)/(s:Rat)+(k:Rat))):=by
   rw[pu_k,Ze,Rat.intCast_add,Rat.intCast_add,Ze,Ze,Ze,Ze];have ck:((k:Int):Rat)=(k:Rat):=rfl;rw[ck];have:(d:Rat)*(q:Rat)*(s:Rat)*(((n:Rat)/(d:Rat))*((p:Rat)/(q:Rat)+(r:Rat)/(s:Rat)+(k:Rat)))=((n:Rat)/(d:Rat)*(d:Rat))*(((p:Rat)/(q:Rat)*(q:Rat))*(s:Rat)+((r:Rat)/(s:Rat)*(s:Rat))*(q:Rat)+(k:Rat)*((q:Rat)*(s:Rat))):=by grind
   rw[this,EH,ea,eb]
  have dq:=Rat.mul_pos (Rat.mul_pos d0 q0) s0;have e4:=rdm (a:=(puU p q r s n (k+1):Rat)) pD;generalize bT ((p:Rat)/(q:Rat)) ((r:Rat)/(s:Rat)) ((n:Rat)/(d:Rat)) k=u at *;generalize bT ((p:Rat)/(q:Rat)) ((r:Rat)/(s:Rat)) ((n:Rat)/(d:Rat)) (k+1)=u1 at *;generalize (puU p q r s n (k+1):Rat)/(puD p q s d (k+1):Rat)=t at *;rw[eD,eU] at e4;generalize (p:Rat)/(q:Rat)=a at *;generalize (r:Rat)/(s:Rat)=b at *;generalize (n:Rat)/(d:Rat)=x at *;generalize (d:Rat)*(q:Rat)*(s:Rat)=e at *;refine zY (c:=e*(a+((k:Rat)+1))) (Rat.mul_pos dq up) ?_;have r1:e*(a+((k:Rat)+1))*(t*(a*u))=t*(e*(a+((k:Rat)+1)))*(a*u):=by grind
  have r2:e*(a+((k:Rat)+1))*(a*u1)=e*a*((a+((k:Rat)+1))*u1):=by grind
  rw[r1,r2,e4,us];grind
def zAN (p q r s n d:Int) (B N:Nat):Int × Int:=yC (puT p q r s n d B) N
theorem pu_has {p q r s n d:Int} {B N:Nat} (h:zK8 p q r s n d B) (hN:yK (puT p q r s n d B) (puN r s) N):Iv B (zAN p q r s n d B N) (λ M=>(p:Rat)/(q:Rat)*bS ((p:Rat)/(q:Rat)) ((r:Rat)/(s:Rat)) ((n:Rat)/(d:Rat)) M):=by
 have t:=zCC (zI3 h).ok (zHG B) 0 (λ M _=>by grind) (λ k hk=>pu_34 h k hk) hN
 refine Has.of_eq t λ M=>?_
 have:∀ m,(p:Rat)/(q:Rat)*S (bT ((p:Rat)/(q:Rat)) ((r:Rat)/(s:Rat)) ((n:Rat)/(d:Rat))) m=S (λ k=>riV (λ _=>1) (puU p q r s n) (puD p q s d) k M) m:=λ m=>by
  induction m with
  | zero=>show (p:Rat)/(q:Rat)*0=0;grind
  | succ m ih =>
   show (p:Rat)/(q:Rat)*(S (bT ((p:Rat)/(q:Rat)) ((r:Rat)/(s:Rat)) ((n:Rat)/(d:Rat))) m+bT ((p:Rat)/(q:Rat)) ((r:Rat)/(s:Rat)) ((n:Rat)/(d:Rat)) m)=S (λ k=>riV (λ _=>1) (puU p q r s n) (puD p q s d) k M) m+riV (λ _=>1) (puU p q r s n) (puD p q s d) m M
   rw[<- ih,pu_val h m M];grind
 exact this M
structure LgP3 (x:Nat->Rat) (B:Nat) (l u:Int):Prop where
 le:l<=u
 wd:u-l<=60000000*((B:Int)*(B:Int))+540000000
 ab:Abs (l,u) (360000*Q B)
 iv:Iv B (l,u) x
theorem lgP3_of {x y z:Nat->Rat} {B:Nat} {l1 u1 l2 u2 l3 u3:Int} (h1:LgP2 x B l1 u1) (h2:LgP2 y B l2 u2) (h3:LgP2 z B l3 u3):LgP3 (λ M=>x M+y M-z M) B (l1+l2-u3) (u1+u2-l3):=by
 have iv:Iv B (zJB (zB8 (l1,u1) (l2,u2)) (l3,u3)) (λ M=>x M+y M-z M):=(h1.iv.add h2.iv).sub h3.iv
 have a1:=h1.wd;have a2:=h2.wd;have a3:=h3.wd;have b1:=h1.le;have b2:=h2.le;have b3:=h3.le;obtain⟨x1,x2,x3,x4⟩:=h1.ab;obtain⟨y1,y2,y3,y4⟩:=h2.ab;obtain⟨z1,z2,z3,z4⟩:=h3.ab;simp only[] at x1 x2 x3 x4 y1 y2 y3 y4 z1 z2 z3 z4;refine⟨by omega,by omega,?_,iv⟩
 exact⟨by show _<=l1+l2-u3;omega,by show l1+l2-u3<=_;omega,by show _<=u1+u2-l3;omega,by show u1+u2-l3<=_;omega⟩
def puY (p q r s:Int) (o1 o2 o3 g:Int × Int):Int × Int:=zB8 (zB8 (zJ o1 p q) (zJ o2 r s)) (zB8 o3 g)
def puW (B:Nat):Int:=60000000*((B:Int)*(B:Int))+600000000
theorem zN1 {L:Rat->Nat->Rat} {x:Rat} {B:Nat} {o:Int × Int} {p q:Int} (ho:zDT L x B o) (p0:0<p) (q0:0<q) (pq:p<=100*q):(zJ o p q).1<=(zJ o p q).2/\(zJ o p q).2-(zJ o p q).1<=100*(132*(2*(B:Int)+14))+1/\Abs (zJ o p q) (26400*Q B):=by
 have Qp:=zE B;have sl:=kR (a:=o) (n:=p) (d:=q) ho.le q0 (by omega)
 have sw:=kK (a:=o) (n:=p) (d:=q) (c:=100*(o.2-o.1)) q0 (by
  have m:=Za pq (show 0<=o.2-o.1 by have:=ho.le;omega)
  have r:(o.2-o.1)*(100*q)=100*(o.2-o.1)*q:=by grind
  omega)
 obtain⟨a1,a2,a3,a4⟩:=ho.ab;have wd:=ho.wd;refine⟨sl,by omega,?_⟩
 have t1:=yU (x:=o.1) (y:=p) (m:=264*Q B) (n:=100*q) a1 a2 (by omega) pq
 have t2:=yU (x:=o.2) (y:=p) (m:=264*Q B) (n:=100*q) a3 a4 (by omega) pq
 have r:264*Q B*(100*q)=26400*Q B*q:=by grind
 rw[r] at t1 t2;have r1:=jJ q0 t1.1 t1.2;have r2:=jJ q0 t2.1 t2.2;exact⟨r1.1,r1.2.1,r2.2.2.1,r2.2.2.2⟩
theorem puY_ok {L:Rat->Nat->Rat} {p q r s n d:Int} {B:Nat} {o1 o2 o3:Int × Int} {l u:Int} {X:Nat->Rat} {y z:Rat} (h:zK8 p q r s n d B) (h1:zDT L y B o1) (h2:zDT L z B o2) (h3:zDT L ((p:Rat)/(q:Rat)) B o3) (hg:LgP3 X B l u):(puY p q r s o1 o2 o3 (l,u)).1<=(puY p q r s o1 o2 o3 (l,u)).2/\(puY p q r s o1 o2 o3 (l,u)).2-(puY p q r s o1 o2 o3 (l,u)).1<=puW B/\Abs (puY p q r s o1 o2 o3 (l,u)) (413064*Q B)/\Iv B (puY p q r s o1 o2 o3 (l,u)) (bY L ((p:Rat)/(q:Rat)) ((r:Rat)/(s:Rat)) y z X):=by
 have b0:=h.b0;have b1:=h.b1;have Qp:=zE B;obtain⟨x1,x2,x3,x4,x5,x6⟩:=zN1 h1 h.p0 h.q0 h.pq;obtain⟨y1,y2,y3,y4,y5,y6⟩:=zN1 h2 h.r0 h.s0 h.rs;have w3:=h3.wd;have l3:=h3.le;obtain⟨c1,c2,c3,c4⟩:=h3.ab;have gl:=hg.le;have gw:=hg.wd;obtain⟨z1,z2,z3,z4⟩:=hg.ab;simp only[] at z1 z2 z3 z4;have e1:(puY p q r s o1 o2 o3 (l,u)).1=(zJ o1 p q).1+(zJ o2 r s).1+(o3.1+l):=rfl;have e2:(puY p q r s o1 o2 o3 (l,u)).2=(zJ o1 p q).2+(zJ o2 r s).2+(o3.2+u):=rfl;refine⟨by omega,?_,⟨by omega,by omega,by omega,by omega⟩,?_⟩
 ·unfold puW
  omega
 ·have i1:=h1.iv.scale (n:=p) (d:=q) (by have:=h.p0;omega) h.q0
  have i2:=h2.iv.scale (n:=r) (d:=s) (by have:=h.r0;omega) h.s0
  exact Has.of_eq ((i1.add i2).add (h3.iv.add hg.iv)) λ M=>rfl
theorem pu_exD {B t:Nat} (h0:40<=B) (h1:B<=400) (ht:t<=27):2*zRC (puW B) t<=Q B/\zRC (puW B) t<=1000000000000000:=by
 have qt:=zH ht;have e27:Q 27=134217728:=rfl;have q0:=zE t
 have go:∀ b:Int,(B:Int)<=b->zRC (puW B) t<=2*(60000000*(b*b)+600000000)+45634027520:=λ b hb=>by
  have bb:=zE2 hb hb (by omega) (by omega)
  unfold zRC puW;omega
 by_cases c1:B<=47
 ·have g:=go 47 (by omega)
  have q:=zH h0;have e:Q 40=1099511627776:=rfl;omega
 ·have g:=go 400 (by omega)
  have q:=zH (show 48<=B by omega)
  have e:Q 48=281474976710656:=rfl;omega
def puE (p q r s:Int) (B:Nat) (o1 o2 o3 g:Int × Int) (t N:Nat):Int × Int:=sqI B (zM (zV B (zF (puY p q r s o1 o2 o3 g) t)) N) t
theorem bp_x {p q r s n d:Int} {B:Nat} (h:zK8 p q r s n d B):(0:Rat)<(p:Rat)/(q:Rat)/\(0:Rat)<(r:Rat)/(s:Rat)/\(0:Rat)<(n:Rat)/(d:Rat)/\(n:Rat)/(d:Rat)<1/\(n:Rat)/(d:Rat)*((d:Rat)/(n:Rat))=1/\(1-(n:Rat)/(d:Rat))*((d:Rat)/((d-n:Int):Rat))=1/\(0:Rat)<(d:Rat)/(n:Rat)/\(0:Rat)<(d:Rat)/((d-n:Int):Rat):=by
 have n0:=h.n0;have nd:=h.nd;have pr:(0:Rat)<(p:Rat):=by exact_mod_cast h.p0
 have qr:(0:Rat)<(q:Rat):=by exact_mod_cast h.q0
 have rr:(0:Rat)<(r:Rat):=by exact_mod_cast h.r0
 have sr:(0:Rat)<(s:Rat):=by exact_mod_cast h.s0
 have nr:(0:Rat)<(n:Rat):=by exact_mod_cast n0
 have dr:(0:Rat)<(d:Rat):=by exact_mod_cast (show 0<d by omega)
 have lr:(0:Rat)<((d-n:Int):Rat):=by exact_mod_cast (show 0<d-n by omega)
 have le:((d-n:Int):Rat)=(d:Rat)-(n:Rat):=Rat.intCast_sub _ _;have e1:=rdm (a:=(n:Rat)) dr;have e2:=rdm (a:=(d:Rat)) nr;have e3:=rdm (a:=(d:Rat)) lr;refine⟨zK pr qr,zK rr sr,zK nr dr,?_,?_,?_,zK dr nr,zK dr lr⟩
 ·refine Rat.lt_of_mul_lt_mul_right (c:=(d:Rat)) ?_ (YZ dr)
  rw[e1];have:(n:Rat)<(d:Rat):=by exact_mod_cast (show n<d by omega)
  grind
 ·generalize (n:Rat)/(d:Rat)=u at *
  generalize (d:Rat)/(n:Rat)=v at *;refine zY (c:=(n:Rat)) nr ?_;have:(n:Rat)*(u*v)=u*(v*(n:Rat)):=by grind
  rw[this,e2,e1];grind
 ·generalize (n:Rat)/(d:Rat)=u at *
  generalize (d:Rat)/((d-n:Int):Rat)=v at *;refine zY (c:=(d:Rat)) dr ?_;have:(d:Rat)*((1-u)*v)=((d:Rat)-u*(d:Rat))*v:=by grind
  rw[this,e1,<- le];grind
theorem pu_okE {L:Rat->Nat->Rat} (hL:Lns L) {p q r s n d:Int} {B t N NS:Nat} {o1 o2 o3:Int × Int} {l u:Int} {X:Nat->Rat} (h:zK8 p q r s n d B) (hX:IsLog X (bJ L ((p:Rat)/(q:Rat)) ((r:Rat)/(s:Rat)))) (h1:zDT L ((d:Rat)/(n:Rat)) B o1) (h2:zDT L ((d:Rat)/((d-n:Int):Rat)) B o2) (h3:zDT L ((p:Rat)/(q:Rat)) B o3) (hg:LgP3 X B l u) (ht:t<=27) (hA:Abs (zF (puY p q r s o1 o2 o3 (l,u)) t) (Q (B-8))) (hN:zU (zV B (zF (puY p q r s o1 o2 o3 (l,u)) t)) N) (hS:NS<=5100) (lv:yK (puT p q r s n d B) (puN r s) NS) :
  0<(puE p q r s B o1 o2 o3 (l,u) t N).1/\(puE p q r s B o1 o2 o3 (l,u) t N).1<=(puE p q r s B o1 o2 o3 (l,u) t N).2/\0<=(zAN p q r s n d B NS).1/\(zAN p q r s n d B NS).1<=(zAN p q r s n d B NS).2/\LwPr (bv L ((p:Rat)/(q:Rat)) ((r:Rat)/(s:Rat)) ((n:Rat)/(d:Rat))) B (zDN (zAN p q r s n d B NS).1 (zAN p q r s n d B NS).2 (puE p q r s B o1 o2 o3 (l,u) t N).1 (puE p q r s B o1 o2 o3 (l,u) t N).2 B) (zNO (zAN p q r s n d B NS) (puE p q r s B o1 o2 o3 (l,u) t N) B):=by
 have b0:=h.b0;have b1:=h.b1;have qB:=zE B;obtain⟨a0,bb0,x0,x1,xy,xz,yp,zp⟩:=bp_x h;obtain⟨s1,s2,s3⟩:=se_ok (zI3 h) NS;obtain⟨y1,y2,y3,y4⟩:=puY_ok h h1 h2 h3 hg;obtain⟨D1,D2⟩:=pu_exD b0 b1 ht;obtain⟨e1,e2,e3,e4,e5⟩:=exq_ok2 (t:=t) (N:=N) (by omega) b1 y4 (zQP hL a0 bb0 x0 x1 xy xz yp zp hX) y2 hA hN D1
 have D0:0<=zRC (puW B) t:=by
  have:=zE t;have:=Zc (show (0:Int)<=(B:Int) by omega) (show (0:Int)<=(B:Int) by omega)
  unfold zRC puW;omega
 have si:=pu_has h lv
 have wE:0<=(zAN p q r s n d B NS).1:=by
  have:Q B<=(zAN p q r s n d B NS).1:=s1;omega
 have ee:(puE p q r s B o1 o2 o3 (l,u) t N)=sqI B (zM (zV B (zF (puY p q r s o1 o2 o3 (l,u)) t)) N) t:=rfl;have es:zAN p q r s n d B NS=yC (riT (Q B,Q B) (puU p q r s n) (puD p q s d)) NS:=rfl;rw[<- ee] at e1 e2 e3 e4 e5;rw[<- es] at s1 s2 s3;have dv:=(Iv.dv si e5 wE (by omega)).congr (bv_quot hL a0 bb0 x0 x1 xy xz yp zp hX)
 refine⟨by omega,e2,wE,s2,zLZ (C:=(1+2*(NS:Int))*((NS:Int)+2)+9) (D:=zRC (puW B) t) b0 wE s2 (by omega) e2 ?_ D0 ?_ D2 (by omega) s3 e4 dv (bv_one hL a0 bb0 x0 x1)⟩
 ·have:=Zc (show 0<=1+2*(NS:Int) by omega) (show 0<=(NS:Int)+2 by omega)
  omega
 ·have:=zE2 (show 1+2*(NS:Int)<=10201 by omega) (show (NS:Int)+2<=5102 by omega) (by omega) (by omega)
  omega
theorem pu_exp {L:Rat->Nat->Rat} {p q r s n d:Int} {B NS:Nat} {o1 o2 o3:Int × Int} {lg ug:Int} {X:Nat->Rat} (h:zK8 p q r s n d B) (h1:zDT L ((d:Rat)/(n:Rat)) B o1) (h2:zDT L ((d:Rat)/((d-n:Int):Rat)) B o2) (h3:zDT L ((p:Rat)/(q:Rat)) B o3) (hg:LgP3 X B lg ug) (hL:Lns L) (hX:IsLog X (bJ L ((p:Rat)/(q:Rat)) ((r:Rat)/(s:Rat)))) (hS:NS<=5100) (lv:yK (puT p q r s n d B) (puN r s) NS) :
  ∃ (l:Int) (t NE:Nat),yR (zW (puY p q r s o1 o2 o3 (lg,ug))) l/\(t:Int)=max 0 (l-B+8)/\t<=27/\Abs (zF (puY p q r s o1 o2 o3 (lg,ug)) t) (Q (B-8))/\zU (zV B (zF (puY p q r s o1 o2 o3 (lg,ug)) t)) NE/\Q (B+eb t)<P 98400/\(puY p q r s o1 o2 o3 (lg,ug)).1<=(puY p q r s o1 o2 o3 (lg,ug)).2 /\
   (0<(puE p q r s B o1 o2 o3 (lg,ug) t NE).1/\(puE p q r s B o1 o2 o3 (lg,ug) t NE).1<=(puE p q r s B o1 o2 o3 (lg,ug) t NE).2/\0<=(zAN p q r s n d B NS).1/\(zAN p q r s n d B NS).1<=(zAN p q r s n d B NS).2/\LwPr (bv L ((p:Rat)/(q:Rat)) ((r:Rat)/(s:Rat)) ((n:Rat)/(d:Rat))) B (zDN (zAN p q r s n d B NS).1 (zAN p q r s n d B NS).2 (puE p q r s B o1 o2 o3 (lg,ug) t NE).1 (puE p q r s B o1 o2 o3 (lg,ug) t NE).2 B) (zNO (zAN p q r s n d B NS) (puE p q r s B o1 o2 o3 (lg,ug) t NE) B)):=by
 obtain⟨y1,y2,y3,y4⟩:=puY_ok h h1 h2 h3 hg;have b0:=h.b0;have b1:=h.b1;have qB:=zE B
 have t:zW (puY p q r s o1 o2 o3 (lg,ug))<Q (B+19):=by
  have a:=zAJ y3;have e:Q (B+19)=Q B*Q 19:=jD B 19;have rM:Q 19=524288:=rfl;rw[rM] at e;omega
 obtain⟨l,t,NE,e1,e2,e3,e4,e5⟩:=zC3 (B:=B) (e:=19) (by omega) y1 t
 refine⟨l,t,NE,e1,e2,by omega,e4,e5,?_,y1,pu_okE hL h hX h1 h2 h3 hg (by omega) e4 e5 hS lv⟩
 rw[<- Q_P];have ebm:=zAP (show t<=27 by omega)
 have Hr:eb 27=1572864:=by decide
 rw[Hr] at ebm;have h1:=zH (show B+eb t+1<=16*98400 by omega)
 have h2:∀ j,Q (j+1)=2*Q j:=λ _=>rfl
 rw[h2] at h1;have:=zE (B+eb t);generalize Q (B+eb t)=y at *;generalize Q (16*98400)=z at *;omega
open Go
section
variable {Pg : Program} {ops : Array Oper} {Q : Exit -> Act -> World -> Prop} {md : Region.Mode} {S : Nat -> World -> Prop}
def AnyS (Pg:Program) (md:Region.Mode) (ops:Array Oper) (Q:Exit->Act->World->Prop) (S:Nat->World->Prop):Nat->Array Bool->Act->World->Prop
 | 0,listed,a,w=>Region.ready md ops listed=[]/\Q .normal a w
 | fuel+1,listed,a,w =>
  (Region.ready md ops listed=[]->Q .normal a w) /\
  ∀ i ∈ Region.ready md ops listed,wpOp Pg ops Q i (λ a' w'=>S i w'/\AnyS Pg md ops Q S fuel (listed.setIfInBounds i true) a' w') a w
theorem AnyS.any:∀ (fuel:Nat) (listed:Array Bool) (a:Act) (w:World),AnyS Pg md ops Q S fuel listed a w->wpAny Pg md ops Q fuel listed a w
 | 0,_,_,_,h=>h
 | fuel+1,_,_,_,h=>⟨h.1,λ i hi=>wpOp_mono (λ a' w' h'=>AnyS.any fuel _ a' w' h'.2) (h.2 i hi)⟩
theorem AnyS.first {i:Nat} {oi:Oper} {v:Value} {T:World->Prop} (hi:ops[i]?=some oi) (mE:∀ (j:Nat) (o:Oper) cs b,ops[j]?=some o->o.op≠.select cs b)
  (hQ:∀ c a w,Q (.panic c) (a.put oi.dst v) w->Q (.panic c) a w) (hi':∀ w,T w->S i w) :
  ∀ (fuel:Nat) (listed:Array Bool) (a:Act) (w:World),(∀ j,listed.getD j true=false->zMF md ops j i=true\/∀ w,S j w->T w) ->
   (∀ j oj,ops[j]?=some oj->j≠i->listed.getD j true=false->(∀ e ∈ oj.after,Region.binds md e=true->e.on≠i)->oi.apart ops oj=true) ->
   i ∈ Region.ready md ops listed->YieldsIf Pg ops T oi v a->T w->S i w ->
   AnyS Pg md ops Q S fuel (listed.setIfInBounds i true) (a.put oi.dst v) w->AnyS Pg md ops Q S (fuel+1) listed a w:=by
 intro fuel
 induction fuel with
 | zero =>
  intro listed a w hT _ hr hy IA hS H
  refine⟨λ h=>(by rw[h] at hr;cases hr),λ j hj=>?_⟩
  by_cases cB:j=i
  ·subst cB;exact hy.wpOp hi IA ⟨hS,H⟩
  ·have:=ready_mono hj cB
   rw[H.1] at this
   cases this
 | succ fuel ih =>
  intro listed a w hT hfree hr hy IA hS H
  refine⟨λ h=>(by rw[h] at hr;cases hr),λ j hj=>?_⟩
  by_cases cB:j=i
  ·subst cB;exact hy.wpOp hi IA ⟨hS,H⟩
  ·have hjT:∀ w,S j w->T w:=by
    rcases hT j (mem_ready.1 hj).1 with h|h
    ·exact absurd hj (λ hj=>zK4 h hr hj)
    ·exact h
   have h1:=H.2 j (ready_mono hj cB);obtain⟨ia,oj,wa,mj⟩:=mem_ready.1 hj
   have vZ:∀ e ∈ oj.after,Region.binds md e=true->e.on≠i:=λ e he hb heq=>by
    have h1:=mj e he hb;have h0:=(mem_ready.1 hr).1;rw[heq] at h1
    rcases Nat.lt_or_ge i listed.size with h'|h'
    ·simp[h'] at h0 h1;rw[h0] at h1;cases h1
    ·simp[Array.getElem?_eq_none h'] at h1
   have h2:=wpOp_putIf wa (hfree j oj wa cB ia vZ) (λ cs b=>mE i oi cs b hi) (λ cs b=>mE j oj cs b wa) hQ hy h1
   have fp:∀ k ok,ops[k]?=some ok->k≠i->(listed.setIfInBounds j true).getD k true=false ->
     (∀ e ∈ ok.after,Region.binds md e=true->e.on≠i)->oi.apart ops ok=true:=λ k ok hk Jo CJ JA=>by
    refine hfree k ok hk Jo ?_ JA
    by_cases oD:j=k
    ·subst oD;exact ia
    ·rw[getD_set_ne true oD] at CJ;exact CJ
   have Xq:∀ k,(listed.setIfInBounds j true).getD k true=false->zMF md ops k i=true\/∀ w,S k w->T w:=λ k hk=>by
    refine hT k ?_
    by_cases oD:j=k
    ·subst oD;exact ia
    ·rw[getD_set_ne true oD] at hk;exact hk
   refine wpOp_mono (λ a' w' h3=>⟨h3.2.1,ih (listed.setIfInBounds j true) a' w' Xq fp (ready_mono hr (Ne.symm cB)) h3.1 (hjT w' h3.2.1) (hi' _ (hjT w' h3.2.1)) ?_⟩) h2
   rw[Array.setIfInBounds_comm _ _ cB];exact h3.2.2
theorem AnyS.take {i:Nat} {oi:Oper} {v:Value} {T:World->Prop} {fuel:Nat} {listed:Array Bool} {a:Act} {w:World} (hi:ops[i]?=some oi)
  (hs:Region.noSelect ops=true) (hf:Region.free md ops listed i=true) (hr:(Region.ready md ops listed).contains i=true)
  (hQ:∀ c a w,Q (.panic c) (a.put oi.dst v) w->Q (.panic c) a w) (k m:Nat) (hk:∀ j,listed.getD j true=false->j<k\/k+m<=j->∀ w,S j w->T w) (hlate:(List.range m).all (λ j=>zMF md ops (k+j) i)=true)
  (hi':∀ w,T w->S i w) (hy:YieldsIf Pg ops T oi v a) (PN:T w)
  (h:AnyS Pg md ops Q S fuel (listed.setIfInBounds i true) (a.put oi.dst v) w):AnyS Pg md ops Q S (fuel+1) listed a w :=
 AnyS.first hi (Region.noSelect_spec hs) hQ hi' fuel listed a w (λ j hj=>by
  by_cases h1:j<k\/k+m<=j
  ·exact Or.inr (hk j hj h1)
  ·refine Or.inl ?_
   have:=(List.all_eq_true.1 hlate) (j-k) (List.mem_range.2 (by omega))
   have e:k+(j-k)=j:=by omega
   rw[e] at this
   exact this) (Region.free_spec hi hf) (by simpa using hr) hy PN (hi' _ PN) h
theorem AnyS.one {i:Nat} {o:Oper} {fuel:Nat} {listed:Array Bool} {a:Act} {w:World} (hr:Region.ready md ops listed=[i]) (ho:ops[i]?=some o)
  (h:∀ K':Act->World->Prop,Shut (∀ a w,S i w->(S i w->AnyS Pg md ops Q S fuel (listed.setIfInBounds i true) a w)->K' a w)->if Region.wanted o (yielded ops a.tmps)=true then Oper.wp Pg o a w K' Q else K' (a.put o.dst undef) w) :
  AnyS Pg md ops Q S (fuel+1) listed a w :=
 ⟨λ h0=>absurd (hr ▸ h0) (by simp),λ j hj=>by
  rw[hr] at hj;have pT:j=i:=by simpa using hj
  subst pT
  exact wpOp_step ho (λ K' hK=>h K' (λ a w hS hW=>hK a w ⟨hS,hW hS⟩))⟩
theorem AnyS.last {l:Nat} {o:Oper} {fuel:Nat} {listed:Array Bool} {a:Act} {w:World} (hr:Region.ready md ops listed=[l]) (ho:ops[l]?=some o)
  (hd:Region.ready md ops (listed.setIfInBounds l true)=[]) (Xp:∀ w,S l w)
  (h:∀ K':Act->World->Prop,Shut (∀ a w,Q .normal a w->K' a w)->if Region.wanted o (yielded ops a.tmps)=true then Oper.wp Pg o a w K' Q else K' (a.put o.dst undef) w) :
  AnyS Pg md ops Q S (fuel+1) listed a w :=
 ⟨λ h0=>absurd (hr ▸ h0) (by simp),λ j hj=>by
  rw[hr] at hj;have pT:j=l:=by simpa using hj
  subst pT;refine wpOp_step ho (λ K' hK=>h K' (λ a w hW=>hK a w ⟨Xp w,?_⟩))
  cases fuel with
  | zero=>exact⟨hd,hW⟩
  | succ fuel=>exact⟨λ _=>hW,by rw[hd];simp⟩⟩
theorem AnyS.start {id:Nat} {a:Act} {w:World} (hm:Pg.follows .mixedOrders=true)
  (h:AnyS Pg .any ops Q S ops.size (Array.replicate ops.size false) a w.drew):(Code.region id ops true).wp Pg Q a w :=
 wp_region_any hm (AnyS.any _ _ _ _ h)
end
end Go.Proofs.YtgmnknmjainabacGreat
