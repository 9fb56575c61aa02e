/-
  Its own texts.
-/
import Derived.Test.YtgmnknmjainababGreatK24
set_option maxRecDepth 100000
set_option maxHeartbeats 8000000
set_option linter.unusedVariables false
namespace Go.Proofs.YtgmnknmjainababGreat
open Ex
structure zJ4 (p q n d:Int) (B:Nat):Prop where
 p0:0<p
 q0:0<q
 pq:p≤100*q
 qq:q≤1048576
 n0:0<n
 d0:0<d
 nn:n≤1099511627776
 dd:d≤1048576
 nx:n<d*(2*((B:Int)+p/q+1))
 b0:40≤B
 b1:B≤400
def luU (q n:Int) (_:Nat):Int:=n*q
def luD (p q d:Int) (k:Nat):Int:=d*(p+(k:Int)*q)
def luT (p q n d:Int) (B:Nat):Nat→Int × Int:=riT (Q B,Q B) (luU q n) (luD p q d)
def luN (n d:Int):Nat:=(2*n/d).toNat
theorem lu_x {p q n d:Int} {B:Nat} (h:zJ4 p q n d B):n<1002*d∧(luN n d:Int)=2*n/d∧luN n d≤2004:=by
 have e:p/q≤100:=Int.ediv_le_of_le_mul h.q0 h.pq;have b1:=h.b1;have d0:=h.d0;have n0:=h.n0;have m:=Int.mul_le_mul_of_nonneg_left (show 2*((B:Int)+p/q+1)≤1002 by omega) (show 0≤d by omega)
 have nx:=h.nx;have q0:0≤2*n/d:=Int.ediv_nonneg (by omega) (by omega)
 have l:2*n/d<2005:=Int.ediv_lt_of_lt_mul d0 (by omega)
 unfold luN;exact ⟨by omega,by omega,by omega⟩
theorem zOV {p q n d:Int} {B:Nat} (h:zJ4 p q n d B) (k:Nat):0<luD p q d k:=by
 have:=Int.mul_nonneg (show (0:Int)≤(k:Int) by omega) (show 0≤q by have:=h.q0;omega)
 have:=h.p0;exact Int.mul_pos h.d0 (by omega)
theorem zGJ {p q n d:Int} {B:Nat} (h:zJ4 p q n d B):SeOk (Q B,Q B) (luU q n) (luD p q d):=by
 have q:=zG B;refine ⟨⟨fun _=>Int.mul_nonneg (by have:=h.n0;omega) (by have:=h.q0;omega),fun k=>zOV h k⟩,by show 0<Q B;omega,Int.le_refl _,by show Q B-Q B≤1;omega,fun k hk=>?_⟩
 refine Int.le_trans ?_ hk;refine Int.mul_le_mul_of_nonneg_left ?_ (by have:=h.d0;omega)
 have m:=Int.mul_le_mul_of_nonneg_right (show ((k+1:Nat):Int)≤((k+2:Nat):Int) by omega) (show 0≤_ from Int.le_of_lt h.q0)
 omega
theorem lu_34 {p q n d:Int} {B:Nat} (h:zJ4 p q n d B) (k:Nat) (hk:luN n d≤k):4*luU q n (k+1)≤3*luD p q d (k+1):=by
 have d0:=h.d0;have f:=kE (2*n) d0;have e:=(lu_x h).2.1;rw[← e] at f;have m:=Int.mul_le_mul_of_nonneg_right (show (luN n d:Int)+1≤((k+1:Nat):Int) by omega) (show 0≤d by omega)
 have m2:=Int.mul_le_mul_of_nonneg_right (show 2*n≤((k+1:Nat):Int)*d by omega) (show 0≤q from Int.le_of_lt h.q0)
 have m3:=Int.mul_nonneg (show 0≤d by omega) (show 0≤p from Int.le_of_lt h.p0)
 have m4:=Int.mul_nonneg (show 0≤n from Int.le_of_lt h.n0) (show 0≤q from Int.le_of_lt h.q0)
 unfold luU luD;generalize ((k+1:Nat):Int)=K at *;have r:d*(p+K*q)=d*p+K*d*q:=by grind
 have r2:2*n*q=2*(n*q):=by grind
 rw[r];omega
theorem lu_c {p q n d:Int} {B:Nat} (h:zJ4 p q n d B) (k:Nat):luU q n (k+1)≤Q 10*luD p q d (k+1):=by
 have x:=(lu_x h).1;have e10:Q 10=1024:=rfl;have q0:=h.q0;have d0:=h.d0;have p0:=h.p0;have m1:=Int.mul_le_mul_of_nonneg_right (show n≤1024*d by omega) (show 0≤q by omega)
 have kq:=Int.mul_le_mul_of_nonneg_right (show (1:Int)≤((k+1:Nat):Int) by omega) (show 0≤q by omega)
 have m2:=Int.mul_le_mul_of_nonneg_left (show q≤p+((k+1:Nat):Int)*q by omega) (show 0≤d by omega)
 unfold luU luD;rw[e10];have r:1024*d*q=1024*(d*q):=by grind
 omega
theorem lu_set {p q n d:Int} {B:Nat} (h:zJ4 p q n d B):∃ N,N≤70000∧zBV (luT p q n d B) (luN n d) N:=by
 obtain ⟨N,h1,h2⟩:=se_set (zGJ h) (H:=B) (c:=10) (turn:=luN n d) (Int.le_refl _) (by have:=h.b0;omega) (lu_c h) (lu_34 h)
 have:=(lu_x h).2.2;have:=h.b1;exact ⟨N,by omega,h2⟩
theorem lu_fit {p q n d:Int} {B:Nat} (h:zJ4 p q n d B) (k:Nat) (hk:k≤1000000):(jG (luT p q n d B) k).2+9≤Q 20461:=by
 have a:=se_fit (zGJ h) (H:=B) (c:=10) (turn:=luN n d) (Int.le_refl _) (by have:=h.b0;omega) (lu_c h) (lu_34 h) k hk
 have:=(lu_x h).2.2;have:=h.b1;exact Int.le_trans a (zJ (by omega))
theorem lu_hi {p q n d:Int} {B:Nat} (h:zJ4 p q n d B) (k:Nat):(luT p q n d B k).2≤Q 20461:=by
 have a:=se_hi (zGJ h) (H:=B) (c:=10) (turn:=luN n d) (Int.le_refl _) (by have:=h.b0;omega) (lu_c h) (lu_34 h) k
 have:=(lu_x h).2.2;have:=h.b1;exact Int.le_trans a (zJ (by omega))
theorem lu_val {p q n d:Int} {B:Nat} (h:zJ4 p q n d B) (k M:Nat):riV (fun _=>1) (luU q n) (luD p q d) k M=(p:Rat)/(q:Rat)*upT ((p:Rat)/(q:Rat)) ((n:Rat)/(d:Rat)) k:=by
 have p0:(0:Rat)<(p:Rat):=by exact_mod_cast h.p0
 have q0:(0:Rat)<(q:Rat):=by exact_mod_cast h.q0
 have d0:(0:Rat)<(d:Rat):=by exact_mod_cast h.d0
 have a0:(0:Rat)<(p:Rat)/(q:Rat):=zL p0 q0;have ea:=rdm (a:=(p:Rat)) q0;have ex':=rdm (a:=(n:Rat)) d0
 induction k with
 | zero=>rw[yK a0];rfl
 | succ k ih =>
  have pD:(0:Rat)<(luD p q d (k+1):Rat):=by exact_mod_cast zOV h (k+1)
  have us:=kD a0 ((n:Rat)/(d:Rat)) k;have up:=zDG a0 k
  show (luU q n (k+1):Rat)/(luD p q d (k+1):Rat)*riV (fun _=>1) (luU q n) (luD p q d) k M=_
  rw[ih]
  have eD:(luD p q d (k+1):Rat)=(d:Rat)*(q:Rat)*((p:Rat)/(q:Rat)+((k:Rat)+1)):=by
   unfold luD;rw[Rat.intCast_mul,Rat.intCast_add,Rat.intCast_mul];have:(((k+1:Nat):Int):Rat)=(k:Rat)+1:=by push_cast;rfl
   rw[this];have:(d:Rat)*(q:Rat)*((p:Rat)/(q:Rat)+((k:Rat)+1))=(d:Rat)*((p:Rat)/(q:Rat)*(q:Rat)+((k:Rat)+1)*(q:Rat)):=by grind
   rw[this,ea]
  have eU:(luU q n (k+1):Rat)=(d:Rat)*(q:Rat)*((n:Rat)/(d:Rat)):=by
   unfold luU;rw[Rat.intCast_mul];have:(d:Rat)*(q:Rat)*((n:Rat)/(d:Rat))=(n:Rat)/(d:Rat)*(d:Rat)*(q:Rat):=by grind
   rw[this,ex']
  have dq:=Rat.mul_pos d0 q0;have e4:=rdm (a:=(luU q n (k+1):Rat)) pD;generalize upT ((p:Rat)/(q:Rat)) ((n:Rat)/(d:Rat)) k=u at *;generalize upT ((p:Rat)/(q:Rat)) ((n:Rat)/(d:Rat)) (k+1)=u1 at *;generalize (luU q n (k+1):Rat)/(luD p q d (k+1):Rat)=r at *;rw[eD,eU] at e4;generalize (p:Rat)/(q:Rat)=a at *;generalize (n:Rat)/(d:Rat)=x at *;generalize (d:Rat)*(q:Rat)=e at *;refine zU (c:=e*(a+((k:Rat)+1))) (Rat.mul_pos dq up) ?_;have r1:e*(a+((k:Rat)+1))*(r*(a*u))=r*(e*(a+((k:Rat)+1)))*(a*u):=by grind
  have r2:e*(a+((k:Rat)+1))*(a*u1)=e*a*((a+((k:Rat)+1))*u1):=by grind
  rw[r1,r2,e4,us];grind
def zAI (p q n d:Int) (B N:Nat):Int × Int:=zAY (luT p q n d B) N
theorem lu_has {p q n d:Int} {B N:Nat} (h:zJ4 p q n d B) (hN:zBV (luT p q n d B) (luN n d) N):Iv B (zAI p q n d B N) (fun M=>(p:Rat)/(q:Rat)*uS ((p:Rat)/(q:Rat)) ((n:Rat)/(d:Rat)) M):=by
 have r:=zGE (zGJ h).ok (zNY B) 0 (fun M _=>by grind) (fun k hk=>lu_34 h k hk) hN
 refine Has.of_eq r fun M=>?_
 show (p:Rat)/(q:Rat)*S (upT ((p:Rat)/(q:Rat)) ((n:Rat)/(d:Rat))) M=S (fun k=>riV (fun _=>1) (luU q n) (luD p q d) k M) M
 have:∀ m,(p:Rat)/(q:Rat)*S (upT ((p:Rat)/(q:Rat)) ((n:Rat)/(d:Rat))) m=S (fun k=>riV (fun _=>1) (luU q n) (luD p q d) k M) m:=fun m=>by
  induction m with
  | zero=>show (p:Rat)/(q:Rat)*0=0;grind
  | succ m ih =>
   show (p:Rat)/(q:Rat)*(S (upT ((p:Rat)/(q:Rat)) ((n:Rat)/(d:Rat))) m+upT ((p:Rat)/(q:Rat)) ((n:Rat)/(d:Rat)) m)=S (fun k=>riV (fun _=>1) (luU q n) (luD p q d) k M) m+riV (fun _=>1) (luU q n) (luD p q d) m M
   rw[← ih,lu_val h m M];grind
 exact this M
structure zM0 (L:Rat→Nat→Rat) (x:Rat) (B:Nat) (o:Int × Int):Prop where
 le:o.1≤o.2
 ab:Abs o (264*Q B)
 wd:o.2-o.1≤132*(2*(B:Int)+14)
 iv:Iv B o (L x)
theorem lwLog_of {L:Rat→Nat→Rat} (hL:Lns L) {n d:Int} {B:Nat} (hn:0<n) (hd:0<d) (hB:16≤B) {n' d' c:Int} {N N2:Nat} (h:Bal n d n' d' c) (c1 : -65≤c) (c2:c≤65) (hN:jX (lnT n' d' B) N) (hN2:jX (lnT 2 1 B) N2):zM0 L ((n:Rat)/(d:Rat)) B (zFS (zQ (lnT n' d' B) N) (zQ (lnT 2 1 B) N2) c):=by
 obtain ⟨b1,b2,b3⟩:=zFF (k:=c) h.1 hB hN hN2 65 c1 c2;obtain ⟨l,il,iv⟩:=zFB hn hd h B N N2;have q:=zG B;refine ⟨b1,b2.mono (by omega),by omega,?_⟩
 have nr:(0:Rat)<(n:Rat):=by exact_mod_cast hn
 have dr:(0:Rat)<(d:Rat):=by exact_mod_cast hd
 exact iv.congr ((hL _ (zL nr dr)).uniq il)
structure LgP2 (x:Nat→Rat) (B:Nat) (l u:Int):Prop where
 le:l≤u
 wd:u-l≤20000000*((B:Int)*(B:Int))+180000000
 ab:Abs (l,u) (120000*Q B)
 iv:Iv B (l,u) x
theorem lgam_ok2 {n d:Int} {g lp x l1 l2:Nat→Rat} {B:Nat} {a o1 o2 o:Int × Int} (h:StIn n d) (hB0:40≤B) (hB:B≤1000) (ha:GaV g B a) (ls:LsIn a B o1 o2 l1 l2) (hp:IsLog lp (fun _=>(stP n d (stN n d):Rat)/(stQ d (stN n d):Rat))) (io:Iv B o lp) (k1:LbOk B o1) (k2:LbOk B o2) (k3:LbOk B o) (hx:IsLog x (gmV n d g)) (hgp:∃ c:Rat,0<c∧∃ N:Nat,∀ M,N≤M→c≤g M) {L:Rat→Nat→Rat} (hL:Lns L):LgP2 x B (o1.1+o.1) (o2.2+o.2):=by
 have pr:=lgam_ok h hB0 hB ha ls hp io k1 k2 k3 hx hgp hL;have q:=zG B;have big:=zMW hB0 hB;have BB:=Int.mul_nonneg (show (0:Int)≤(B:Int) by omega) (show (0:Int)≤(B:Int) by omega)
 have a0:0<a.1:=by have:=ha.lo;omega
 have al:=ha.le
 have twice:a.2≤2*a.1:=by
  have m:=Int.mul_le_mul_of_nonneg_right big (show 0≤a.2 by omega)
  have r:=ha.rel
  have s:16*(a.2-a.1)≤a.2:=by
   refine Int.le_of_mul_le_mul_right (a:=Q B) ?_ (by omega)
   have r1:16*(a.2-a.1)*Q B=16*((a.2-a.1)*Q B):=by grind
   have r2:16*(10000000*((B:Int)*(B:Int)))*a.2=16*(10000000*((B:Int)*(B:Int))*a.2):=by grind
   have r3:Q B*a.2=a.2*Q B:=Int.mul_comm _ _;omega
  omega
 have w:=zPF ls (C:=20000000*((B:Int)*(B:Int))) (by
  have m1:=Int.mul_le_mul_of_nonneg_left twice (show 0≤10000000*((B:Int)*(B:Int)) by omega)
  have r:=ha.rel;have r2:10000000*((B:Int)*(B:Int))*(2*a.1)=20000000*((B:Int)*(B:Int))*a.1:=by grind
  omega)
 have w1:=k1.wd;have w2:=k2.wd;have w3:=k3.wd;obtain ⟨x1,x2,x3,x4⟩:=k1.ab;obtain ⟨y1,y2,y3,y4⟩:=k2.ab;obtain ⟨z1,z2,z3,z4⟩:=k3.ab;exact ⟨pr.le,by omega,⟨by show _≤o1.1+o.1;omega,by show o1.1+o.1≤_;omega,by show _≤o2.2+o.2;omega,by show o2.2+o.2≤_;omega⟩,pr.iv⟩
def luY (p q n d:Int) (B:Nat) (o g:Int × Int):Int × Int:=jJ (yH (ofI n d B) (zE o p q)) g
def luW (B:Nat):Int:=20000000*((B:Int)*(B:Int))+200000000
theorem luY_ok {L:Rat→Nat→Rat} {p q n d:Int} {B:Nat} {o:Int × Int} {l u:Int} {X:Nat→Rat} (h:zJ4 p q n d B) (ho:zM0 L ((n:Rat)/(d:Rat)) B o) (hg:LgP2 X B l u):(luY p q n d B o (l,u)).1≤(luY p q n d B o (l,u)).2∧(luY p q n d B o (l,u)).2-(luY p q n d B o (l,u)).1≤luW B∧Abs (luY p q n d B o (l,u)) (147500*Q B)∧Iv B (luY p q n d B o (l,u)) (lwY L ((p:Rat)/(q:Rat)) ((n:Rat)/(d:Rat)) X):=by
 have q0:=h.q0;have p0:=h.p0;have d0:=h.d0;have b0:=h.b0;have b1:=h.b1;have Qp:=zG B;have ol:=zDA (n:=n) d0 B;have ow:=zC6 (n:=n) d0 B
 have oa:Abs (ofI n d B) (1002*Q B):=zJT d0 B (by
   have:=Int.mul_nonneg (show 0≤n from Int.le_of_lt h.n0) (show 0≤Q B by omega)
   have:=Int.mul_nonneg (show 0≤1002*Q B by omega) (show 0≤d by omega)
   omega) (by
   have m:=Int.mul_le_mul_of_nonneg_right (show n≤1002*d from Int.le_of_lt (lu_x h).1) (show 0≤Q B by omega)
   have r:1002*d*Q B=1002*Q B*d:=by grind
   omega)
 have sl:=jQ (a:=o) (n:=p) (d:=q) ho.le q0 (by omega)
 have sw:=zBK (a:=o) (n:=p) (d:=q) (c:=100*(o.2-o.1)) q0 (by
  have m:=Int.mul_le_mul_of_nonneg_left h.pq (show 0≤o.2-o.1 by have:=ho.le;omega)
  have r:(o.2-o.1)*(100*q)=100*(o.2-o.1)*q:=by grind
  omega)
 obtain ⟨a1,a2,a3,a4⟩:=ho.ab
 have sa:Abs (zE o p q) (26400*Q B):=by
  have pq:=h.pq;have t1:=yV (x:=o.1) (y:=p) (m:=264*Q B) (n:=100*q) a1 a2 (by omega) pq
  have t2:=yV (x:=o.2) (y:=p) (m:=264*Q B) (n:=100*q) a3 a4 (by omega) pq
  have r:264*Q B*(100*q)=26400*Q B*q:=by grind
  rw[r] at t1 t2;have r1:=jD q0 t1.1 t1.2;have r2:=jD q0 t2.1 t2.2;exact ⟨r1.1,r1.2.1,r2.2.2.1,r2.2.2.2⟩
 have gl:=hg.le;have gw:=hg.wd;have wd:=ho.wd;obtain ⟨x1,x2,x3,x4⟩:=oa;obtain ⟨y1,y2,y3,y4⟩:=sa;obtain ⟨z1,z2,z3,z4⟩:=hg.ab;simp only[] at z1 z2 z3 z4;have e1:(luY p q n d B o (l,u)).1=(ofI n d B).1-(zE o p q).2+l:=rfl;have e2:(luY p q n d B o (l,u)).2=(ofI n d B).2-(zE o p q).1+u:=rfl;refine ⟨by omega,?_,⟨by omega,by omega,by omega,by omega⟩,?_⟩
 ·unfold luW
  omega
 ·have i1:=Iv.of B (n:=n) (d:=d) d0
  have i2:=ho.iv.scale (n:=p) (d:=q) (by omega) q0
  exact Has.of_eq ((i1.sub i2).add hg.iv) fun M=>rfl
theorem mulle {a b c d:Int} (h1:a≤b) (h2:c≤d) (h3:0≤c) (h4:0≤b):a*c≤b*d:=Int.mul_le_mul h1 h2 h3 h4
theorem lu_exD {B t:Nat} (h0:40≤B) (h1:B≤400) (ht:t≤26):2*exD B (luW B) t≤Q B∧exD B (luW B) t≤1000000000000000:=by
 have qt:=zJ ht;have e26:Q 26=67108864:=rfl;have q0:=zG t
 have go:∀ (b β k:Int),(B:Int)≤b→(B:Int)/8+2≤β→0≤β→exD B (luW B) t≤β*(2*(20000000*(b*b)+200000000)+536870912)+402653184:=fun b β k hb hβ hβ0=>by
  have bb:=mulle hb hb (by omega) (by omega)
  have m:=mulle hβ (show 2*luW B+8*Q t≤2*(20000000*(b*b)+200000000)+536870912 by unfold luW;omega) (by
   have:=Int.mul_nonneg (show (0:Int)≤(B:Int) by omega) (show (0:Int)≤(B:Int) by omega)
   unfold luW;omega) hβ0
  unfold exD;omega
 by_cases c1:B≤40
 ·have g:=go 40 7 0 (by omega) (by omega) (by omega)
  have q:=zJ h0;have e:Q 40=1099511627776:=rfl;omega
 ·by_cases c2:B≤47
  ·have g:=go 47 7 0 (by omega) (by omega) (by omega)
   have q:=zJ (show 41≤B by omega)
   have e:Q 41=2199023255552:=rfl;omega
  ·by_cases c3:B≤63
   ·have g:=go 63 9 0 (by omega) (by omega) (by omega)
    have q:=zJ (show 48≤B by omega)
    have e:Q 48=281474976710656:=rfl;omega
   ·have g:=go 400 52 0 (by omega) (by omega) (by omega)
    have q:=zJ (show 60≤B by omega)
    have e:Q 60=1152921504606846976:=rfl;omega
def luE (p q n d:Int) (B:Nat) (o g:Int × Int) (t N:Nat):Int × Int:=sqI B (zQ (zY B (zN (luY p q n d B o g) t)) N) t
def luHi (s e:Int × Int) (B:Nat):Int:=if zE1 s.1 s.2 e.1 e.2 B≤Q B then zE1 s.1 s.2 e.1 e.2 B else Q B
structure zE4 (x:Nat→Rat) (B:Nat) (l u:Int):Prop where
 lo:0≤l
 le:l≤u
 hi:u≤Q B
 wd:u-l≤Q 89
 iv:Iv B (l,u) x
theorem zNT {B:Nat} {a:Int × Int} {x:Nat→Rat} (h:Iv B a x) (k:LeN x (fun _=>1)):a.1≤Q B:=zKS h k (LeN.of_le 0 fun M _=>by
 have q:=zV B;have:(Q B:Rat)/(Q B:Rat)=1:=by rw[Rat.div_def,Rat.mul_inv_cancel _ (by grind)]
 rw[this];exact Rat.le_refl)
theorem Iv.capL {B:Nat} {a:Int × Int} {x:Nat→Rat} (h:Iv B a x) (k:LeN x (fun _=>1)):Iv B (a.1,if a.2≤Q B then a.2 else Q B) x:=by
 split
 ·exact h
 ·intro e he
  obtain ⟨N,hN⟩:=h e he;obtain ⟨N0,hx⟩:=k e he;refine ⟨N+N0,fun M hM=>?_⟩
  have g:=(hN M (by omega)).1
  have g2:=hx M (by omega)
  have q:=zV B;have e1:(Q B:Rat)/(Q B:Rat)=1:=by rw[Rat.div_def,Rat.mul_inv_cancel _ (by grind)]
  simp only[];rw[e1];constructor <;> grind
theorem part_ok {B:Nat} {s e:Int × Int} {x:Nat→Rat} {C D:Int} (hB:40≤B) (s0:0≤s.1) (sl:s.1≤s.2) (e0:0<e.1) (el:e.1≤e.2) (hC:0≤C) (hD:0≤D) (hC2:C≤100000000000) (hD2:D≤1000000000000000) (hDq:D≤Q B) (hs:(s.2-s.1)*Q B≤C*s.2) (he:(e.2-e.1)*Q B≤D*e.2) (iv:Iv B (zEB s.1 s.2 e.1 e.2 B,zE1 s.1 s.2 e.1 e.2 B) x) (h1:LeN x (fun _=>1)):zE4 x B (zEB s.1 s.2 e.1 e.2 B) (luHi s e B):=by
 have q:=zG B;have q40:=zJ hB;have e40:Q 40=1099511627776:=rfl;obtain ⟨d1,d2⟩:=zNM (b:=B) s0 sl e0 el;have cap:=iv.capL h1;have le:=cap.le;have l1:=zNT iv h1;have l0:0≤zEB s.1 s.2 e.1 e.2 B:=by rw[d1];exact Int.ediv_nonneg (Int.mul_nonneg s0 (by omega)) (by omega)
 have hi:luHi s e B≤Q B:=by unfold luHi;split <;> omega
 refine ⟨l0,le,hi,?_,cap⟩
 by_cases c:B≤89
 ·have:=zJ c
  omega
 ·have r:=dv_rel (q:=Q B) (C:=C) (D:=D) (by omega) s0 hC hD (by omega) hDq e0 el hs sl he d1 d2
  have hh:luHi s e B≤zE1 s.1 s.2 e.1 e.2 B:=by unfold luHi;split <;> omega
  simp only[] at l1 le;generalize zEB s.1 s.2 e.1 e.2 B=lo at *;generalize zE1 s.1 s.2 e.1 e.2 B=up at *;have q90:=zJ (show 60≤B by omega)
  have e60:Q 60=1152921504606846976:=rfl;have e89:Q 89=618970019642690137449562112:=by decide +kernel
  by_cases u0:up≤0
  ·omega
  ·have m:=Int.mul_le_mul_of_nonneg_right (show 2*(C+D)≤Q B by omega) (show 0≤up by omega)
   have r1:(up-lo)*Q B=up*Q B-lo*Q B:=by grind
   have r2:2*(C+D)*up=2*((C+D)*up):=by grind
   have r3:Q B*up=up*Q B:=Int.mul_comm _ _
   have k1:up≤2*lo+4:=by
    refine Int.le_of_mul_le_mul_right (a:=Q B) ?_ (by omega)
    have r4:(2*lo+4)*Q B=2*(lo*Q B)+4*Q B:=by grind
    omega
   have k2:=Int.mul_le_mul_of_nonneg_left (show up≤3*Q B by omega) (show 0≤C+D by omega)
   have k3:up-lo≤3*(C+D)+2:=by
    refine Int.le_of_mul_le_mul_right (a:=Q B) ?_ (by omega)
    have r4:(3*(C+D)+2)*Q B=(C+D)*(3*Q B)+2*Q B:=by grind
    omega
   omega
theorem lw_ok {L:Rat→Nat→Rat} (hL:Lns L) {p q n d:Int} {B t N NS:Nat} {o:Int × Int} {l u:Int} {X g:Nat→Rat} (h:zJ4 p q n d B) (ig:IsGam L ((p:Rat)/(q:Rat)) g) (hX:IsLog X (fun M=>(p:Rat)/(q:Rat)*g M)) (ho:zM0 L ((n:Rat)/(d:Rat)) B o) (hg:LgP2 X B l u) (ht:t≤26) (hA:Abs (zN (luY p q n d B o (l,u)) t) (Q (B-8))) (hN:jX (zY B (zN (luY p q n d B o (l,u)) t)) N) (hS:NS≤70000) (hS2:zBV (luT p q n d B) (luN n d) NS) :
  0<(luE p q n d B o (l,u) t N).1∧(luE p q n d B o (l,u) t N).1≤(luE p q n d B o (l,u) t N).2∧0≤(zAI p q n d B NS).1∧(zAI p q n d B NS).1≤(zAI p q n d B NS).2∧zE4 (lw L ((p:Rat)/(q:Rat)) ((n:Rat)/(d:Rat)) g) B (zEB (zAI p q n d B NS).1 (zAI p q n d B NS).2 (luE p q n d B o (l,u) t N).1 (luE p q n d B o (l,u) t N).2 B) (luHi (zAI p q n d B NS) (luE p q n d B o (l,u) t N) B):=by
 have b0:=h.b0;have b1:=h.b1;have qB:=zG B;have pr:(0:Rat)<(p:Rat):=by exact_mod_cast h.p0
 have qr:(0:Rat)<(q:Rat):=by exact_mod_cast h.q0
 have nr:(0:Rat)<(n:Rat):=by exact_mod_cast h.n0
 have dr:(0:Rat)<(d:Rat):=by exact_mod_cast h.d0
 have a0:=zL pr qr;have x0:=zL nr dr;obtain ⟨s1,s2,s3⟩:=se_ok (zGJ h) NS;obtain ⟨y1,y2,y3,y4⟩:=luY_ok h ho hg;obtain ⟨D1,D2⟩:=lu_exD b0 b1 ht;obtain ⟨e1,e2,e3,e4,e5⟩:=exq_ok (t:=t) (N:=N) (by omega) y4 (zMG hL a0 x0 ig hX) y2 hA hN D1
 have D0:0≤exD B (luW B) t:=by
  have:=zG t;have:=Int.mul_nonneg (show (0:Int)≤(B:Int) by omega) (show (0:Int)≤(B:Int) by omega)
  unfold exD luW;have:=Int.mul_nonneg (show 0≤(B:Int)/8+2 by omega) (show 0≤2*(20000000*((B:Int)*(B:Int))+200000000)+8*Q t by omega)
  omega
 have si:=lu_has h hS2
 have sl0:0≤(zAI p q n d B NS).1:=by
  have:Q B≤(zAI p q n d B NS).1:=s1;omega
 have ee:(luE p q n d B o (l,u) t N)=sqI B (zQ (zY B (zN (luY p q n d B o (l,u)) t)) N) t:=rfl;have es:zAI p q n d B NS=zAY (riT (Q B,Q B) (luU q n) (luD p q d)) NS:=rfl;rw[← ee] at e1 e2 e3 e4 e5;rw[← es] at s1 s2 s3;have dv:=(Iv.dv si e5 sl0 (by omega)).congr (lw_quot hL a0 x0 ig hX)
 refine ⟨by omega,e2,sl0,s2,part_ok (C:=(1+2*(NS:Int))*((NS:Int)+2)+9) (D:=exD B (luW B) t) b0 sl0 s2 (by omega) e2 ?_ D0 ?_ D2 (by omega) s3 e4 dv (zLB x0 ig)⟩
 ·have:=Int.mul_nonneg (show 0≤1+2*(NS:Int) by omega) (show 0≤(NS:Int)+2 by omega)
  omega
 ·have:=mulle (show 1+2*(NS:Int)≤140001 by omega) (show (NS:Int)+2≤70002 by omega) (by omega) (by omega)
  omega
theorem zM1 {L:Rat→Nat→Rat} (hL:Lns L) {p q n d:Int} {B:Nat} {g:Nat→Rat} (p0:0<p) (q0:0<q) (d0:0<d) (hf:d*(2*((B:Int)+p/q+1))≤n) (hB:1≤B) (ig:IsGam L ((p:Rat)/(q:Rat)) g):zE4 (lw L ((p:Rat)/(q:Rat)) ((n:Rat)/(d:Rat)) g) B (Q B-1) (Q B):=by
 have pr:(0:Rat)<(p:Rat):=by exact_mod_cast p0
 have qr:(0:Rat)<(q:Rat):=by exact_mod_cast q0
 have dr:(0:Rat)<(d:Rat):=by exact_mod_cast d0
 have a0:=zL pr qr;have Qp:=zG B;have QR:=zV B;obtain ⟨f,hf0⟩:∃ f:Nat,p/q=(f:Int):=⟨(p/q).toNat,by have:=Int.ediv_nonneg (Int.le_of_lt p0) (Int.le_of_lt q0);omega⟩
 have af:(p:Rat)/(q:Rat)<(f:Rat)+1:=by
  have k:=kE p q0;rw[hf0] at k;have c:(p:Rat)<(((f:Int)+1)*q:Int):=by exact_mod_cast k
  rw[Rat.intCast_mul,Rat.intCast_add] at c;have c1:((1:Int):Rat)=1:=rfl;have c2:((f:Int):Rat)=(f:Rat):=rfl;rw[c1,c2] at c;refine Rat.lt_of_mul_lt_mul_right (c:=(q:Rat)) ?_ (Rat.le_of_lt qr);rw[rdm qr];exact c
 have xf:2*((B:Rat)+(f:Rat)+1)≤(n:Rat)/(d:Rat):=by
  refine kM dr ?_;have c:=zW hf;rw[hf0,Rat.intCast_mul,Rat.intCast_mul,Rat.intCast_add,Rat.intCast_add] at c;have c1:((1:Int):Rat)=1:=rfl;have c2:((f:Int):Rat)=(f:Rat):=rfl;have c3:((B:Int):Rat)=(B:Rat):=rfl;have c4:((2:Int):Rat)=2:=rfl;rw[c1,c2,c3,c4] at c;grind
 obtain ⟨a,ha⟩:∃ a,a=(p:Rat)/(q:Rat):=⟨_,rfl⟩;obtain ⟨x,hx⟩:∃ x,x=(n:Rat)/(d:Rat):=⟨_,rfl⟩;rw[← ha] at a0 af ig ⊢;rw[← hx] at xf ⊢;have f0:(0:Rat)≤(f:Rat):=by exact_mod_cast Nat.zero_le f
 have B0:(1:Rat)≤(B:Rat):=by exact_mod_cast hB
 have x1:1≤x:=by grind
 have x0:0<x:=by grind
 have each:∀ k:Nat,k≤B→2*(Q k:Rat)≤x*upT a x k:=fun k=>by
  induction k with
  | zero =>
   intro _
   have e:=yK a0 x;have u0:=jL a0 (Rat.le_of_lt x0) 0;have m:=Rat.mul_le_mul_of_nonneg_right (show 2*a≤x by grind) u0
   have q00:((Q 0:Int):Rat)=1:=rfl;rw[q00];grind
  | succ k ih =>
   intro hk
   have i:=ih (by omega)
   have e:=kD a0 x k;have u0:=jL a0 (Rat.le_of_lt x0) (k+1);have kb:(k:Rat)+1≤(B:Rat):=by exact_mod_cast hk
   have m:=Rat.mul_le_mul_of_nonneg_right (show 2*(a+((k:Rat)+1))≤x by grind) u0
   have e2:((Q (k+1):Int):Rat)=2*(Q k:Rat):=by
    have:Q (k+1)=2*Q k:=rfl;rw[this,Rat.intCast_mul];rfl
   rw[e2];have r:2*(a+((k:Rat)+1))*upT a x (k+1)=2*((a+((k:Rat)+1))*upT a x (k+1)):=by grind
   rw[r,e] at m;grind
 have low:=lw_far hL (k:=(Q B:Rat)) a0 x1 (by grind) QR (B+1) (fun M hM=>by
  have s:∀ j:Nat,upT a x B≤uS a x (B+1+j):=fun j=>by
   induction j with
   | zero =>
    have:=zA7 a0 (Rat.le_of_lt x0) B
    show upT a x B≤uS a x (B+1)
    rw[yF];grind
   | succ j ih =>
    have:=jL a0 (Rat.le_of_lt x0) (B+1+j)
    show upT a x B≤uS a x (B+1+j+1)
    rw[yF];grind
  obtain ⟨j,rfl⟩:∃ j,M=B+1+j:=⟨M-(B+1),by omega⟩
  have m:=Rat.mul_le_mul_of_nonneg_left (s j) (Rat.le_of_lt x0)
  exact Rat.le_trans (each B (Nat.le_refl _)) m) ig
 have up:=zLB x0 ig;have q1:=zJ hB;have e1:Q 1=2:=rfl;have q89:=zG 89;refine ⟨by omega,by omega,by omega,by omega,?_⟩
 intro e he
 obtain ⟨N1,k1⟩:=low e he;obtain ⟨N2,k2⟩:=up e he;refine ⟨N1+N2,fun M hM=>?_⟩
 have c1:=k1 M (by omega)
 have c2:=k2 M (by omega)
 simp only[] at c1 c2 ⊢
 have s:((Q B-1:Int):Rat)/(Q B:Rat)=1-1/(Q B:Rat):=by
  rw[Rat.intCast_sub];have c1:((1:Int):Rat)=1:=rfl;rw[c1,Rat.div_def,Rat.div_def];have:=Rat.mul_inv_cancel (Q B:Rat) (by grind)
  grind
 have s2:(Q B:Rat)/(Q B:Rat)=1:=by rw[Rat.div_def,Rat.mul_inv_cancel _ (by grind)]
 rw[s,s2];constructor <;> grind
def rpT (x:Int) (B m:Nat):Nat→Int × Int
 | 0=>(Q m,Q m)
 | n+1=>zE (zE (rpT x B m n) x (Q B)) 1 ((n:Int)+1)
def rtT (p q x:Int) (B m n:Nat):Int × Int:=zE (rpT x B m n) q (p+(n:Int)*q)
def rsT (p q x:Int) (B m:Nat):Nat→Int × Int
 | 0=>ofI q p m
 | n+1=>if (n+1) % 2=1 then yH (rsT p q x B m n) (rtT p q x B m (n+1)) else jJ (rsT p q x B m n) (rtT p q x B m (n+1))
structure zFN (p q x:Int) (B m wh:Nat):Prop where
 p0:0<p
 q0:0<q
 pq:p≤100*q
 qq:q≤1024
 x0:0<x
 xw:x/Q B=(wh:Int)
 wb:wh≤2*B+242
 em:m=2*B+4*wh+160
 b0:40≤B
 b1:B≤200
theorem rw_x {p q x:Int} {B m wh:Nat} (h:zFN p q x B m wh):x<((wh:Int)+1)*Q B:=by
 have:=kE x (show 0<Q B by have:=zG B;omega)
 rw[h.xw] at this;exact this
theorem zCT {p q x:Int} {B m wh:Nat} (h:zFN p q x B m wh) (n:Nat):0≤(rpT x B m n).1∧(rpT x B m n).1≤(rpT x B m n).2:=by
 have qm:=zG m;have qB:=zG B;have x0:=h.x0
 induction n with
 | zero=>exact ⟨by show 0≤Q m;omega,Int.le_refl _⟩
 | succ n ih =>
  have a:=jQ (n:=x) (d:=Q B) ih.2 (by omega) (by omega)
  have a0:0≤(zE (rpT x B m n) x (Q B)).1:=Int.ediv_nonneg (Int.mul_nonneg ih.1 (by omega)) (by omega)
  exact ⟨Int.ediv_nonneg (Int.mul_nonneg a0 (by omega)) (by omega),jQ a (by omega) (by omega)⟩
theorem rd_pos {p q:Int} (hp:0<p) (hq:0<q) (n:Nat):0<p+(n:Int)*q:=by
 have:=Int.mul_nonneg (show (0:Int)≤(n:Int) by omega) (show 0≤q by omega)
 omega
theorem zMU {p q x:Int} {B m wh:Nat} (h:zFN p q x B m wh) (n:Nat):Iv m (rpT x B m n) (fun _=>tm (loX x B) n):=by
 have x0:=h.x0;have qB:=zG B
 induction n with
 | zero=>exact zNY m
 | succ n ih =>
  have s1:=(ih.scale (n:=x) (d:=Q B) (by omega) (by omega)).scale (n:=1) (d:=(n:Int)+1) (by omega) (by omega)
  refine Has.of_eq s1 fun M=>?_
  have t:=kB (loX x B) n;have p:=zCD n;have e1:(((n:Int)+1:Int):Rat)=(n:Rat)+1:=by rw[Rat.intCast_add];rfl
  have ex':(x:Rat)/((Q B:Int):Rat)=loX x B:=rfl;rw[e1,ex'];have r:=rdm (a:=((1:Int):Rat)) p;have c1:((1:Int):Rat)=1:=rfl;rw[c1] at r ⊢;refine zU (c:=(n:Rat)+1) p ?_;rw[t];have:((n:Rat)+1)*(1/((n:Rat)+1)*(loX x B*tm (loX x B) n))=1/((n:Rat)+1)*((n:Rat)+1)*(loX x B*tm (loX x B) n):=by grind
  rw[this,r];grind
theorem rtT_has {p q x:Int} {B m wh:Nat} (h:zFN p q x B m wh) (n:Nat):Iv m (rtT p q x B m n) (fun _=>vL ((p:Rat)/(q:Rat)) (loX x B) n):=by
 have d:=rd_pos h.p0 h.q0 n;have s:=(zMU h n).scale (n:=q) (d:=p+(n:Int)*q) (by have:=h.q0;omega) d
 refine Has.of_eq s fun M=>?_
 have qr:(0:Rat)<(q:Rat):=by exact_mod_cast h.q0
 have pr:(0:Rat)<(p:Rat):=by exact_mod_cast h.p0
 have a0:=zL pr qr;have ap:=zK9 a0 n;have dp:(0:Rat)<((p+(n:Int)*q:Int):Rat):=by exact_mod_cast d
 have ea:=rdm (a:=(p:Rat)) qr
 have ed:((p+(n:Int)*q:Int):Rat)=((p:Rat)/(q:Rat)+(n:Rat))*(q:Rat):=by
  rw[Rat.intCast_add,Rat.intCast_mul];have:(((n:Nat):Int):Rat)=(n:Rat):=rfl;rw[this];have:((p:Rat)/(q:Rat)+(n:Rat))*(q:Rat)=(p:Rat)/(q:Rat)*(q:Rat)+(n:Rat)*(q:Rat):=by grind
  rw[this,ea]
 have v:=zFD a0 (loX x B) n;have r:=rdm (a:=(q:Rat)) dp;rw[ed] at r ⊢;refine zU (c:=((p:Rat)/(q:Rat)+(n:Rat))*(q:Rat)) (Rat.mul_pos ap qr) ?_;have r1:((p:Rat)/(q:Rat)+(n:Rat))*(q:Rat)*vL ((p:Rat)/(q:Rat)) (loX x B) n=(q:Rat)*(((p:Rat)/(q:Rat)+(n:Rat))*vL ((p:Rat)/(q:Rat)) (loX x B) n):=by grind
 have r2:((p:Rat)/(q:Rat)+(n:Rat))*(q:Rat)*((q:Rat)/(((p:Rat)/(q:Rat)+(n:Rat))*(q:Rat))*tm (loX x B) n)=(q:Rat)/(((p:Rat)/(q:Rat)+(n:Rat))*(q:Rat))*(((p:Rat)/(q:Rat)+(n:Rat))*(q:Rat))*tm (loX x B) n:=by grind
 rw[r1,v,r2,r]
theorem zOW {p q x:Int} {B m wh:Nat} (h:zFN p q x B m wh) (n:Nat):Iv m (rsT p q x B m n) (fun _=>tF ((p:Rat)/(q:Rat)) (loX x B) (n+1)):=by
 have qr:(0:Rat)<(q:Rat):=by exact_mod_cast h.q0
 have pr:(0:Rat)<(p:Rat):=by exact_mod_cast h.p0
 have a0:=zL pr qr
 induction n with
 | zero =>
  refine Has.of_eq (Iv.of m (n:=q) (d:=p) h.p0) fun M=>?_
  show 0+sg 0*vL ((p:Rat)/(q:Rat)) (loX x B) 0=_
  have e2:sg 0=1:=rfl;have v:=zFD a0 (loX x B) 0;have t:tm (loX x B) 0=1:=rfl;have c:((0:Nat):Rat)=0:=rfl;rw[t,c] at v;have ea:=rdm (a:=(p:Rat)) qr;have eb:=rdm (a:=(q:Rat)) pr;rw[e2];refine zU a0 ?_;have r1:(p:Rat)/(q:Rat)*(0+1*vL ((p:Rat)/(q:Rat)) (loX x B) 0)=((p:Rat)/(q:Rat)+0)*vL ((p:Rat)/(q:Rat)) (loX x B) 0:=by grind
  rw[r1,v];refine zU (c:=(p:Rat)*(q:Rat)) (Rat.mul_pos pr qr) ?_;have r2:(p:Rat)*(q:Rat)*((p:Rat)/(q:Rat)*((q:Rat)/(p:Rat)))=(p:Rat)/(q:Rat)*(q:Rat)*((q:Rat)/(p:Rat)*(p:Rat)):=by grind
  rw[r2,ea,eb];grind
 | succ n ih =>
  have t:=rtT_has h (n+1);have sp:=sg_par n
  show Iv m (if (n+1) % 2=1 then yH (rsT p q x B m n) (rtT p q x B m (n+1)) else jJ (rsT p q x B m n) (rtT p q x B m (n+1))) _
  split
  ·rename_i hh
   rw[if_pos hh] at sp;refine Has.of_eq (Iv.sub ih t) fun M=>?_
   show tF ((p:Rat)/(q:Rat)) (loX x B) (n+1)+sg (n+1)*vL ((p:Rat)/(q:Rat)) (loX x B) (n+1)=_
   rw[sp];grind
  ·rename_i hh
   rw[if_neg hh] at sp;refine Has.of_eq (Iv.add ih t) fun M=>?_
   show tF ((p:Rat)/(q:Rat)) (loX x B) (n+1)+sg (n+1)*vL ((p:Rat)/(q:Rat)) (loX x B) (n+1)=_
   rw[sp];grind
theorem loX_w {p q x:Int} {B m wh:Nat} (h:zFN p q x B m wh):loX x B≤(wh:Rat)+1:=by
 have q:=zV B;refine jS q ?_;have c:=zW (Int.le_of_lt (rw_x h));rw[Rat.intCast_mul,Rat.intCast_add] at c;exact c
theorem tm_half2 {p q x:Int} {B m wh:Nat} (h:zFN p q x B m wh) {n:Nat} (hn:2*wh+2≤n):2*tm (loX x B) (n+1)≤tm (loX x B) n:=by
 have X0:=zDT (B:=B) (Int.le_of_lt h.x0);have Xw:=loX_w h;have t:=kB (loX x B) n;have t0:=kT X0 n;have nb:2*(wh:Rat)+2≤(n:Rat):=by exact_mod_cast hn
 have p:=zCD n;have m1:=Rat.mul_le_mul_of_nonneg_right (show 2*loX x B≤(n:Rat)+1 by grind) t0
 refine Rat.le_of_mul_le_mul_left (c:=(n:Rat)+1) ?_ p;have r:((n:Rat)+1)*(2*tm (loX x B) (n+1))=2*(((n:Rat)+1)*tm (loX x B) (n+1)):=by grind
 rw[r,t];grind
theorem tF_rest {p q x:Int} {B m wh:Nat} (h:zFN p q x B m wh) {N:Nat} (hN:2*wh+2≤N) (i:Nat):AB (tF ((p:Rat)/(q:Rat)) (loX x B) (N+1+i)-tF ((p:Rat)/(q:Rat)) (loX x B) (N+1)) (tm (loX x B) N-tm (loX x B) (N+i)):=by
 have X0:=zDT (B:=B) (Int.le_of_lt h.x0);have qr:(0:Rat)<(q:Rat):=by exact_mod_cast h.q0
 have pr:(0:Rat)<(p:Rat):=by exact_mod_cast h.p0
 have a0:=zL pr qr
 induction i with
 | zero=>simp only[Nat.add_zero];constructor <;> grind
 | succ i ih =>
  have f:=tm_half2 h (show 2*wh+2≤N+i by omega)
  have v0:=zHW a0 X0 (N+i+1);have v:=zFD a0 (loX x B) (N+i+1);have n1:(1:Rat)≤((N+i+1:Nat):Rat):=by exact_mod_cast (show 1≤N+i+1 by omega)
  have vb:vL ((p:Rat)/(q:Rat)) (loX x B) (N+i+1)≤tm (loX x B) (N+i+1):=by
   have:=Rat.mul_le_mul_of_nonneg_right (show 1≤(p:Rat)/(q:Rat)+((N+i+1:Nat):Rat) by grind) v0
   grind
  have e:tF ((p:Rat)/(q:Rat)) (loX x B) (N+1+(i+1))=tF ((p:Rat)/(q:Rat)) (loX x B) (N+1+i)+sg (N+1+i)*vL ((p:Rat)/(q:Rat)) (loX x B) (N+1+i):=rfl;rw[e,show N+(i+1)=N+i+1 by omega]
  rw[show N+1+i=N+i+1 by omega] at *
  obtain ⟨a1,a2⟩:=ih
  rcases sg_one (N+i+1) with s|s
  ·rw[s];constructor <;> grind
  ·rw[s];constructor <;> grind
def zKQ (x:Int) (B m wh N:Nat):Prop:=2*wh+2<N∧(rpT x B m N).2≤1∧∀ n,2*wh+2<n→n<N→1<(rpT x B m n).2
theorem rw_has {p q x:Int} {B m wh N:Nat} (h:zFN p q x B m wh) (hN:zKQ x B m wh N):Iv m (jJ (rsT p q x B m N) (-2,2)) (fun M=>ex (-(loX x B)) M*uS ((p:Rat)/(q:Rat)) (loX x B) M):=by
 have X0:=zDT (B:=B) (Int.le_of_lt h.x0);have qr:(0:Rat)<(q:Rat):=by exact_mod_cast h.q0
 have pr:(0:Rat)<(p:Rat):=by exact_mod_cast h.p0
 have a0:=zL pr qr;have qm:=zV m;have hs:=zOW h N;have hp:=Has.of_constL (zMU h N);have p1:((rpT x B m N).2:Rat)/(Q m:Rat)≤((1:Int):Rat)/(Q m:Rat):=jS qm (by rw[rdm qm];exact zW hN.2.1)
 have t1:tm (loX x B) N≤((1:Int):Rat)/(Q m:Rat):=Rat.le_trans hp.2 p1;refine Iv.congr (x:=tF ((p:Rat)/(q:Rat)) (loX x B)) ?_ (Null.symm (tF_eq a0 X0))
 intro e he
 obtain ⟨N1,k1⟩:=hs e he;refine ⟨N1+N+1,fun M hM=>?_⟩
 obtain ⟨a1,a2⟩:=k1 M (by omega)
 obtain ⟨r1,r2⟩:=tF_rest h (show 2*wh+2≤N by have:=hN.1;omega) (M-(N+1))
 rw[show N+1+(M-(N+1))=M by omega] at r1 r2
 have v4:=kT X0 (N+(M-(N+1)));have v5:=kT X0 N
 have e1:(((jJ (rsT p q x B m N) (-2,2)).1:Int):Rat)/(Q m:Rat)=((rsT p q x B m N).1:Rat)/(Q m:Rat)-2*(((1:Int):Rat)/(Q m:Rat)):=by
  show (((rsT p q x B m N).1 + -2:Int):Rat)/(Q m:Rat)=_
  rw[Rat.intCast_add,yC]
  have:((-2:Int):Rat)/(Q m:Rat) = -(2*(((1:Int):Rat)/(Q m:Rat))):=by
   rw[Rat.div_def,Rat.div_def];have e9:((-2:Int):Rat) = -2:=rfl;have e8:((1:Int):Rat)=1:=rfl;rw[e9,e8];grind
  rw[this];grind
 have e2:(((jJ (rsT p q x B m N) (-2,2)).2:Int):Rat)/(Q m:Rat)=((rsT p q x B m N).2:Rat)/(Q m:Rat)+2*(((1:Int):Rat)/(Q m:Rat)):=by
  show (((rsT p q x B m N).2+2:Int):Rat)/(Q m:Rat)=_
  rw[Rat.intCast_add,yC]
  congr 1
  rw[Rat.div_def,Rat.div_def];have e9:((2:Int):Rat)=2:=rfl;have e8:((1:Int):Rat)=1:=rfl;rw[e9,e8];grind
 rw[e1,e2];generalize ((1:Int):Rat)/(Q m:Rat)=u at *;simp only[] at a1 a2;constructor <;> grind
theorem rp_up1 {p q x:Int} {B m wh:Nat} (h:zFN p q x B m wh) (n:Nat):(rpT x B m n).2≤Q (m+10*n):=by
 have qB:=zG B;have x0:=h.x0
 have xb:x≤1024*Q B:=by
  have a:=rw_x h;have wb:=h.wb;have b1:=h.b1;have m:=Int.mul_le_mul_of_nonneg_right (show (wh:Int)+1≤1024 by omega) (show 0≤Q B by omega)
  omega
 induction n with
 | zero=>exact Int.le_refl _
 | succ n ih =>
  have r:=zCT h n;have c1:=zDJ (x:=(rpT x B m n).2) (u:=x) (v:=Q B) (c:=1024) (by omega) (by omega) xb
  have c1':(zE (rpT x B m n) x (Q B)).2≤1024*(rpT x B m n).2:=c1
  have s0:0≤(zE (rpT x B m n) x (Q B)).2:=by
   have a:=jQ (n:=x) (d:=Q B) r.2 (by omega) (by omega)
   have a0:0≤(zE (rpT x B m n) x (Q B)).1:=Int.ediv_nonneg (Int.mul_nonneg r.1 (by omega)) (by omega)
   omega
  have c2:=zDJ (x:=(zE (rpT x B m n) x (Q B)).2) (u:=1) (v:=(n:Int)+1) (c:=1) (by omega) s0 (by omega)
  have e:Q (m+10*(n+1))=1024*Q (m+10*n):=by
   have h1:=jC (m+10*n) 10;have h2:Q 10=1024:=rfl;have h3:m+10*n+10=m+10*(n+1):=by omega
   rw[h2,h3] at h1;omega
  show (zE (zE (rpT x B m n) x (Q B)) 1 ((n:Int)+1)).2≤_
  have c2':(zE (zE (rpT x B m n) x (Q B)) 1 ((n:Int)+1)).2≤1*(zE (rpT x B m n) x (Q B)).2:=c2;omega
theorem zGS {p q x:Int} {B m wh:Nat} (h:zFN p q x B m wh) {n:Nat} (hn:2*wh+3≤n):2*(rpT x B m (n+1)).2≤(rpT x B m n).2+3:=by
 have qB:=zG B;have x0:=h.x0;have r:=zCT h n;have xw:=rw_x h;have s3:((zE (rpT x B m n) x (Q B)).2-1)*Q B<(rpT x B m n).2*x:=(yN (a:=rpT x B m n) (u:=x) (v:=Q B) (by omega) (by omega) r.1 r.2).2.2.2.1
 have s0:0≤(zE (rpT x B m n) x (Q B)).1∧(zE (rpT x B m n) x (Q B)).1≤(zE (rpT x B m n) x (Q B)).2:=by
  have f:=yN (a:=rpT x B m n) (u:=x) (v:=Q B) (by omega) (by omega) r.1 r.2
  exact ⟨f.1,f.2.1⟩
 have t3:=(yN (a:=zE (rpT x B m n) x (Q B)) (u:=1) (v:=(n:Int)+1) (by omega) (by omega) s0.1 s0.2).2.2.2.1
 show 2*(zE (zE (rpT x B m n) x (Q B)) 1 ((n:Int)+1)).2≤_
 generalize (zE (zE (rpT x B m n) x (Q B)) 1 ((n:Int)+1)).2=P' at *;generalize (zE (rpT x B m n) x (Q B)).2=s at *;have P0:0≤(rpT x B m n).2:=by omega
 generalize (rpT x B m n).2=P at *
 have k1:s-1<P*((wh:Int)+1)∨P=0:=by
  by_cases c:P=0
  ·exact Or.inr c
  ·refine Or.inl (Int.lt_of_mul_lt_mul_right (a:=Q B) ?_ (by omega))
   have m1:=Int.mul_lt_mul_of_pos_left xw (show 0<P by omega)
   have r1:P*(((wh:Int)+1)*Q B)=P*((wh:Int)+1)*Q B:=by grind
   omega
 rcases k1 with k1|k1
 ·have k2:(P'-1)*((n:Int)+1)<P*((wh:Int)+1)+1:=by omega
  have k3:2*(P'-1)*((n:Int)+1)<(P+1)*((n:Int)+1):=by
   have m1:=Int.mul_le_mul_of_nonneg_left (show 2*((wh:Int)+1)≤(n:Int)+1 by omega) P0
   have r1:2*(P'-1)*((n:Int)+1)=2*((P'-1)*((n:Int)+1)):=by grind
   have r2:(P+1)*((n:Int)+1)=P*((n:Int)+1)+((n:Int)+1):=by grind
   have r3:P*(2*((wh:Int)+1))=2*(P*((wh:Int)+1)):=by grind
   omega
  have:=Int.lt_of_mul_lt_mul_right k3 (by omega)
  omega
 ·rw[k1] at s3 ⊢
  have:(s-1)*Q B<0:=by omega
  have s1:s≤0:=Int.not_lt.1 fun hs=>by
   have:=Int.mul_nonneg (show 0≤s-1 by omega) (show 0≤Q B by omega)
   omega
  have:P'≤1:=Int.not_lt.1 fun hp=>by
   have:=Int.mul_le_mul_of_nonneg_right (show 1≤P'-1 by omega) (show 0≤(n:Int)+1 by omega)
   omega
  omega
theorem rp_one {p q x:Int} {B m wh:Nat} (h:zFN p q x B m wh) (n:Nat):((rpT x B m (n+1)).2-1)*((n:Int)+1)<(rpT x B m n).2*((wh:Int)+1)+1∧0≤(rpT x B m n).2:=by
 have qB:=zG B;have x0:=h.x0;have r:=zCT h n;have xw:=rw_x h;have f:=yN (a:=rpT x B m n) (u:=x) (v:=Q B) (by omega) (by omega) r.1 r.2
 have s3:=f.2.2.2.1;have t3:=(yN (a:=zE (rpT x B m n) x (Q B)) (u:=1) (v:=(n:Int)+1) (by omega) (by omega) f.1 f.2.1).2.2.2.1
 have P0:0≤(rpT x B m n).2:=by omega
 refine ⟨?_,P0⟩
 show ((zE (zE (rpT x B m n) x (Q B)) 1 ((n:Int)+1)).2-1)*((n:Int)+1)<_
 generalize (zE (zE (rpT x B m n) x (Q B)) 1 ((n:Int)+1)).2=P' at *;generalize (zE (rpT x B m n) x (Q B)).2=s at *;generalize (rpT x B m n).2=P at *
 have k1:s≤P*((wh:Int)+1):=by
  have m1:=Int.mul_le_mul_of_nonneg_left (Int.le_of_lt xw) P0;have r1:P*(((wh:Int)+1)*Q B)=P*((wh:Int)+1)*Q B:=by grind
  have lt:(s-1)*Q B<P*((wh:Int)+1)*Q B:=by omega
  have:=Int.lt_of_mul_lt_mul_right lt (by omega)
  omega
 omega
theorem rp_down {p q x:Int} {B m wh:Nat} (h:zFN p q x B m wh) {n:Nat} (hn:wh+1≤n):(rpT x B m (n+1)).2≤(rpT x B m n).2∨(rpT x B m (n+1)).2≤1:=by
 obtain ⟨k,P0⟩:=rp_one h n;generalize (rpT x B m (n+1)).2=P' at *;generalize (rpT x B m n).2=P at *
 by_cases c:P'≤1
 ·exact Or.inr c
 ·refine Or.inl ?_
  have m1:=Int.mul_le_mul_of_nonneg_left (show (wh:Int)+1≤(n:Int) by omega) P0
  have r:P*((n:Int))=P*((n:Int)+1)-P:=by grind
  by_cases p0:P=0
  ·rw[p0] at k
   have:=Int.mul_le_mul_of_nonneg_right (show 1≤P'-1 by omega) (show 0≤(n:Int)+1 by omega)
   omega
  ·have lt:(P'-1)*((n:Int)+1)<P*((n:Int)+1):=by omega
   have:=Int.lt_of_mul_lt_mul_right lt (by omega)
   omega
theorem rp_up {p q x:Int} {B m wh:Nat} (h:zFN p q x B m wh) (n:Nat):(rpT x B m n).2≤Q (m+10*(wh+1)):=by
 by_cases c:n≤wh+1
 ·exact Int.le_trans (rp_up1 h n) (zJ (by omega))
 ·obtain ⟨j,rfl⟩:∃ j,n=wh+1+j:=⟨n-(wh+1),by omega⟩
  have q:=zG (m+10*(wh+1));clear c
  induction j with
  | zero=>exact rp_up1 h _
  | succ j ih =>
   rcases rp_down h (n:=wh+1+j) (by omega) with k|k
   ·exact Int.le_trans k ih
   ·have k':(rpT x B m (wh+1+(j+1))).2≤1:=k
    omega
theorem rp_fin {p q x:Int} {B m wh:Nat} (h:zFN p q x B m wh) {n:Nat} (hn:3*wh+3≤n) (h3:(rpT x B m n).2≤3):(rpT x B m (n+1)).2≤1:=by
 obtain ⟨k,P0⟩:=rp_one h n;generalize (rpT x B m (n+1)).2=P' at *;generalize (rpT x B m n).2=P at *;have m1:=Int.mul_le_mul_of_nonneg_right h3 (show 0≤(wh:Int)+1 by omega)
 refine Int.not_lt.1 fun hp=>?_
 have m2:=Int.mul_le_mul_of_nonneg_right (show 1≤P'-1 by omega) (show 0≤(n:Int)+1 by omega)
 omega
theorem rw_ends {p q x:Int} {B m wh:Nat} (h:zFN p q x B m wh):∃ N,zKQ x B m wh N∧N<8*wh+4*m∧N≤20000:=by
 have em:=h.em;have wb:=h.wb;have b1:=h.b1;have b0:=h.b0
 have fall:∀ j:Nat,j≤m+10*(wh+1)+1→(rpT x B m (2*wh+3+j)).2≤3∨(rpT x B m (2*wh+3+j)).2-3≤Q (m+10*(wh+1)-j):=fun j=>by
  induction j with
  | zero =>
   intro _
   have u:=rp_up h (2*wh+3+0);exact Or.inr (by show _≤Q (m+10*(wh+1));omega)
  | succ j ih =>
   intro hj
   have f:=zGS h (n:=2*wh+3+j) (by omega)
   have e0:2*wh+3+(j+1)=2*wh+3+j+1:=by omega
   rw[e0]
   rcases ih (by omega) with c|c
   ·exact Or.inl (by omega)
   ·by_cases hz:j<m+10*(wh+1)
    ·have e:Q (m+10*(wh+1)-j)=2*Q (m+10*(wh+1)-(j+1)):=by
      have:m+10*(wh+1)-j=(m+10*(wh+1)-(j+1))+1:=by omega
      rw[this];rfl
     exact Or.inr (by omega)
    ·have e:m+10*(wh+1)-j=0:=by omega
     rw[e] at c;have:Q 0=1:=rfl;exact Or.inl (by omega)
 have stay:∀ i:Nat,(rpT x B m (2*wh+3+(m+10*(wh+1)+1)+i)).2≤3:=fun i=>by
  induction i with
  | zero =>
   rcases fall (m+10*(wh+1)) (by omega) with c|c
   ·have f:=zGS h (n:=2*wh+3+(m+10*(wh+1))) (by omega)
    show (rpT x B m (2*wh+3+(m+10*(wh+1))+1)).2≤3
    omega
   ·have f:=zGS h (n:=2*wh+3+(m+10*(wh+1))) (by omega)
    have e:m+10*(wh+1)-(m+10*(wh+1))=0:=by omega
    rw[e] at c;have:Q 0=1:=rfl
    show (rpT x B m (2*wh+3+(m+10*(wh+1))+1)).2≤3
    omega
  | succ i ih =>
   have f:=zGS h (n:=2*wh+3+(m+10*(wh+1)+1)+i) (by omega)
   show (rpT x B m (2*wh+3+(m+10*(wh+1)+1)+i+1)).2≤3
   omega
 have last:=rp_fin h (n:=2*wh+3+(m+10*(wh+1)+1)+0) (by omega) (stay 0)
 obtain ⟨N,k1,k2,k3⟩:=zAE (p:=fun k=>2*wh+2<k∧(rpT x B m k).2≤1) (K:=2*wh+3+(m+10*(wh+1)+1)+0+1) ⟨by omega,last⟩
 refine ⟨N,⟨k2.1,k2.2,fun n hn hN=>?_⟩,by omega,by omega⟩
 have:=k3 n hN;exact Int.not_le.1 fun c=>this ⟨hn,c⟩
theorem rt_abs {p q x:Int} {B m wh:Nat} (h:zFN p q x B m wh) (n:Nat) (hn:1≤n):Abs (rtT p q x B m n) (Q (m+10*(wh+1))):=by
 have l:=zCT h n;have u:=rp_up h n;have q:=zG (m+10*(wh+1));have q0:=h.q0;have p0:=h.p0;have m1:=Int.mul_le_mul_of_nonneg_right (show (1:Int)≤(n:Int) by omega) (show 0≤_ from Int.le_of_lt q0)
 exact yR (m:=Q (m+10*(wh+1))) ⟨by omega,by omega,by omega,u⟩ (rd_pos p0 q0 n) (by omega) (by omega)
theorem rs_abs {p q x:Int} {B m wh:Nat} (h:zFN p q x B m wh) (n:Nat):Abs (rsT p q x B m n) (((n:Int)+1)*Q (m+10*(wh+1))):=by
 have q0:=h.q0;have p0:=h.p0;have qq:=h.qq;have qp:=zG (m+10*(wh+1))
 induction n with
 | zero =>
  have e:(((0:Nat):Int)+1)*Q (m+10*(wh+1))=Q (m+10*(wh+1)):=by omega
  rw[e];have qm:=zG m;have e2:Q (m+10)=Q m*Q 10:=jC m 10;have e10:Q 10=1024:=rfl;rw[e10] at e2;refine (zJT (m:=Q (m+10)) p0 m ?_ ?_).mono (zJ (by omega))
  ·have:=Int.mul_nonneg (show 0≤q by omega) (show 0≤Q m by omega)
   have:=Int.mul_nonneg (show 0≤Q (m+10) by have:=zG (m+10);omega) (show 0≤p by omega)
   omega
  ·have m1:=Int.mul_le_mul_of_nonneg_right qq (show 0≤Q m by omega)
   have m2:=Int.mul_le_mul_of_nonneg_left (show 1≤p by omega) (show 0≤Q (m+10) by have:=zG (m+10);omega)
   omega
 | succ n ih =>
  obtain ⟨a1,a2,a3,a4⟩:=ih;obtain ⟨b1,b2,b3,b4⟩:=rt_abs h (n+1) (by omega)
  have e:(((n+1:Nat):Int)+1)*Q (m+10*(wh+1))=((n:Int)+1)*Q (m+10*(wh+1))+Q (m+10*(wh+1)):=by push_cast;grind
  rw[e]
  show Abs (if (n+1) % 2=1 then yH (rsT p q x B m n) (rtT p q x B m (n+1)) else jJ (rsT p q x B m n) (rtT p q x B m (n+1))) _
  split
  ·exact ⟨by show _≤(rsT p q x B m n).1-(rtT p q x B m (n+1)).2;omega,by show (rsT p q x B m n).1-(rtT p q x B m (n+1)).2≤_;omega,by show _≤(rsT p q x B m n).2-(rtT p q x B m (n+1)).1;omega,by show (rsT p q x B m n).2-(rtT p q x B m (n+1)).1≤_;omega⟩
  ·exact ⟨by show _≤(rsT p q x B m n).1+(rtT p q x B m (n+1)).1;omega,by show (rsT p q x B m n).1+(rtT p q x B m (n+1)).1≤_;omega,by show _≤(rsT p q x B m n).2+(rtT p q x B m (n+1)).2;omega,by show (rsT p q x B m n).2+(rtT p q x B m (n+1)).2≤_;omega⟩
theorem lw_ref {L:Rat→Nat→Rat} (hL:Lns L) {a x:Rat} {g X:Nat→Rat} (ha:0<a) (hx:0<x) (h:IsGam L a g) (hX:IsLog X g):Null (fun M=>lw L a x g M-Ev (fun M=>a*L x M-X M) M*(ex (-x) M*uS a x M)):=by
 obtain ⟨i1,i2,N,i3⟩:=zCR h.pos;have bA:=zAP hL hx a;have bY:Bdd (fun M=>a*L x M-X M):=bA.sub hX.1
 have bS:Bdd (fun M=>ex (-x) M*uS a x M):=(kS _).mul (zCG ha (Rat.le_of_lt hx))
 have n1:=((zA1 bY hX.1).bmul bS).bmul i1;have n2:=((hX.2.bmul (zBG bY)).bmul bS).bmul i1;refine ((n1.neg).add n2).of_eq_from N fun M hM=>?_
 obtain ⟨e1,e2,e3⟩:=i3 M hM
 have eY:Ev (fun M=>a*L x M-X M+X M) M=Ev (fun M=>a*L x M) M:=by
  congr 1
  funext M
  grind
 rw[eY]
 show Ev (fun M=>a*L x M) M*ex (-x) M*uS a x M*(1/g M)-_=_
 generalize Ev (fun M=>a*L x M-X M) M=y at *
 generalize Ev (fun M=>a*L x M) M=p at *
 generalize Ev X M=xx at *;generalize ex (-x) M=e at *;generalize uS a x M=s at *;generalize 1/g M=j at *;generalize g M=gg at *;clear n1 n2 i1 i2 i3 h hX bA bY bS eY;have r1:y*gg*(e*s)*j=y*(e*s)*(gg*j):=by grind
 rw[e1] at r1;grind
theorem rw_far {L:Rat→Nat→Rat} (hL:Lns L) {p q x:Int} {B:Nat} {g:Nat→Rat} (p0:0<p) (q0:0<q) (hf:2*(ofI p q B).2+(2*(B:Int)+41)*Q B<x) (hB:1≤B) (ig:IsGam L ((p:Rat)/(q:Rat)) g):zE4 (lw L ((p:Rat)/(q:Rat)) ((x:Rat)/(Q B:Rat)) g) B (Q B-1) (Q B):=by
 have qB:=zG B;refine zM1 hL p0 q0 (by omega) ?_ hB ig
 have k:Q B*(p/q)≤(ofI p q B).2:=by
  show Q B*(p/q) ≤ -(-(p*Q B)/q)
  refine Int.not_lt.1 fun hh=>?_
  have c:=zAW (p*Q B) q0;have f:p/q*q≤p:=Int.ediv_mul_le p (by omega)
  have f2:=Int.mul_le_mul_of_nonneg_left f (show 0≤Q B by omega)
  have f3:=Int.mul_le_mul_of_nonneg_right (show -(-(p*Q B)/q)+1≤Q B*(p/q) by omega) (show 0≤q by omega)
  have f4:=Int.mul_comm p (Q B);have f5:Q B*(p/q)*q=Q B*(p/q*q):=Int.mul_assoc _ _ _;rw[Int.add_mul] at f3;omega
 have e:Q B*(2*((B:Int)+p/q+1))=2*(Q B*(p/q))+(2*(B:Int)+2)*Q B:=by grind
 have:=Int.mul_le_mul_of_nonneg_right (show 2*(B:Int)+2≤2*(B:Int)+41 by omega) (show 0≤Q B by omega)
 omega
end Go.Proofs.YtgmnknmjainababGreat
