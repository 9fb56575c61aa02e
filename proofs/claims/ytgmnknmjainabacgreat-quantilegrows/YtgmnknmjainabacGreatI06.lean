/-
  Its own texts.
-/
import Derived.Test.YtgmnknmjainabacGreatI05
set_option maxRecDepth 100000
set_option maxHeartbeats 40000000
set_option linter.unnecessarySimpa false
set_option linter.unusedSimpArgs false
set_option linter.unusedVariables false
namespace Go.Proofs.YtgmnknmjainabacGreat
open Go.RowKit
attribute [local go_sem ↓] Go.wp_at_zero Go.wp_at_succ
theorem IntAt.fits {w:World} {neg:Bool} {a:Option Addr} {n cap k K:Nat} {z:Int} (h:IntAt w neg a n cap k z) (h0 : -P K<z) (hz:z<P K):IntAt w neg a n cap K z:=by
 obtain⟨d,h1,h2,h3,h4,h5⟩:=h;refine⟨d,h1,h2,h3,?_,h5⟩;refine zF6 h1.dgs h2 ?_;have:=jC h1.dgs n
 cases neg
 ·simp[sgn] at h5;omega
 ·simp[sgn] at h5;omega
theorem SpAt.fits {w:World} {s:Sp} {k K:Nat} {lo hi:Int} (h:SpAt w s k lo hi) (hle:lo<=hi) (h0 : -P K<lo) (hz:hi<P K):SpAt w s K lo hi:=⟨h.lo.fits h0 (by omega),h.hi.fits (by omega) hz⟩
def zBV (z l:Int):Prop:=0<=l/\(z=0->l=0)/\(0<z->∃ L:Nat,l=(L:Int)+1/\Q L<=z/\z<Q (L+1))
theorem zD1 (neg:Bool) (a:Option Addr) (n cap k:Nat) (z:Int) (w:World) (h:IntAt w neg a n cap k z) (hz:0<=z) :
  Calls Tryz.prog 98 #[.agg #[.bool neg,.slice a n cap]] w λ r w'=>∃ l,zBV z l/\r=.returned (.int .i64 l)/\Below w.heap.size w w':=by
 obtain⟨d,h1,h2,h3,h4,h5⟩:=h;refine (zR1 neg a n cap d w h1).mono λ r w' ⟨e1,e2⟩=>⟨lenZ n d,?_,e1,e2⟩
 have hV:=jC h1.dgs n
 have hv:V d n=z:=by
  cases neg
  ·simp[sgn] at h5;exact h5.symm
  ·simp[sgn] at h5;omega
 rcases Nat.eq_zero_or_pos n with h0|h0
 ·subst h0
  have:z=0:=by simp[V] at hv;omega
  subst this;exact⟨by simp[lenZ],λ _=>by simp[lenZ],λ h=>by omega⟩
 ·obtain⟨L,l1,l2,l3⟩:=lenZ_Q h1.dgs h0 (by rcases h2 with h2|h2;omega;exact h2)
  have:=zE L;exact⟨by omega,λ h=>by omega,λ _=>⟨L,l1,by omega,by omega⟩⟩
def zFT (bits:Nat) (Pr:Nat->Int->Int->Prop) (L H:Int):Prop :=
 ∃ (m:Nat) (lo hi:Int),Pr (bits+m) lo hi/\32<=m/\L=lo/Q m/\H = -(-hi/Q m)/\(H-L<=1\/zK2 L H (Q bits) 4=true)
def zFF (bits Kw:Nat) (Pr:Nat->Int->Int->Prop):Prop :=
 ∀ (m:Nat) (lo hi:Int),Pr (bits+m) lo hi->lo<=hi/\hi-lo<=Q Kw /\ -(P 200*Q m)<=lo/\hi<=P 200*Q m
theorem zC6 (x q:Int) (hq:0<q):x <= -(-x/q)*q:=by
 have h:=Int.emod_add_mul_ediv (-x) q;have:=Int.emod_nonneg (-x) (show q≠0 by omega)
 have e : -(-x/q)*q = -(q*(-x/q)):=by rw[Int.neg_mul,Int.mul_comm]
 rw[e];omega
theorem zLH (x q:Int) (hq:0<q) : -(-x/q)*q<x+q:=by
 have h:=Int.emod_add_mul_ediv (-x) q;have:=Int.emod_lt_of_pos (-x) hq;have e : -(-x/q)*q = -(q*(-x/q)):=by rw[Int.neg_mul,Int.mul_comm]
 rw[e];omega
theorem zE4 (x q:Int) (hq:0<q):x/q*q<=x:=Int.ediv_mul_le _ (by omega)
theorem flo_gt (x q:Int) (hq:0<q):x<x/q*q+q:=by
 have h:=Int.emod_add_mul_ediv x q;have:=Int.emod_lt_of_pos x hq;rw[Int.mul_comm];omega
theorem zOA {lo hi:Int} {m Kw:Nat} (hle:lo<=hi) (hw:hi-lo<=Q Kw):0 <= -(-hi/Q m)-lo/Q m/\(Kw<=m -> -(-hi/Q m)-lo/Q m<=2)/\(m<=Kw -> -(-hi/Q m)-lo/Q m<=Q (Kw-m)+1):=by
 have hq:=zE m;have a1:=zC6 hi (Q m) (by omega)
 have a2:=zLH hi (Q m) (by omega)
 have a3:=zE4 lo (Q m) (by omega)
 have a4:=flo_gt lo (Q m) (by omega)
 have hs:(-(-hi/Q m)-lo/Q m)*Q m = -(-hi/Q m)*Q m-lo/Q m*Q m:=Int.sub_mul _ _ _;refine⟨?_,λ h=>?_,λ h=>?_⟩
 ·refine Int.not_lt.1 λ hn=>?_
  have:=YA (show -(-hi/Q m)-lo/Q m <= -1 by omega) (show 0<=Q m by omega)
  omega
 ·have hk:=zJ h
  refine Int.not_lt.1 λ hn=>?_
  have:=YA (show 3 <= -(-hi/Q m)-lo/Q m by omega) (show 0<=Q m by omega)
  omega
 ·have hk:Q Kw=Q (Kw-m)*Q m:=by rw[<- jF];congr 1;omega
  refine Int.not_lt.1 λ hn=>?_
  have h5:=YA (show Q (Kw-m)+2 <= -(-hi/Q m)-lo/Q m by omega) (show 0<=Q m by omega)
  have h6:(Q (Kw-m)+2)*Q m=Q (Kw-m)*Q m+2*Q m:=Int.add_mul _ _ _;omega
theorem zDN {L H:Int} {b:Nat} (hle:L<=H) (h:H-L<=4):zK2 L H (Q b) 4=true:=by
 unfold zK2;rw[decide_eq_true_iff];have hq:=zE b;have h1:(H-L)*Q b<=4*Q b:=YA h (by omega)
 have h2:0<=zFK H (-L):=by unfold zFK;split<;>omega
 have:4*(Q b+zFK H (-L))=4*Q b+4*zFK H (-L):=Int.mul_add _ _ _;omega
theorem to_fit {lo hi:Int} {m:Nat} (h1 : -(P 200*Q m)<=lo) (h2:hi<=P 200*Q m) : -P 250<lo/Q m /\ -(-hi/Q m)<P 250:=by
 have hq:=zE m
 have hp:P 200<P 250:=by
  have e:P 250=P 200*P 50:=P_add 200 50;have h3:=yT 200;have h4:P 200*65536<=P 200*P 50:=YD (zBL (show 1<=50 by omega)) (by omega)
  omega
 have a1 : -P 200<=lo/Q m:=by rw[Int.le_ediv_iff_mul_le (by omega),Int.neg_mul];exact h1
 have a2 : -P 200 <= -hi/Q m:=by rw[Int.le_ediv_iff_mul_le (by omega),Int.neg_mul];omega
 omega
def SureInv (Kw m t:Nat):Prop:=32<=m/\1<=t/\t<=m/\((t<=3/\m<=Kw+40*t)\/m<=Kw+40)
theorem zR2 {z l:Int} {K:Nat} (h:zBV z l) (hz:z<=Q K+1) (h0:0<=z):l<=K+2:=by
 obtain⟨h1,h2,h3⟩:=h
 by_cases hp:0<z
 ·obtain⟨L,e1,e2,e3⟩:=h3 hp
  by_cases hL:L<=K+1
  ·omega
  ·have:=zJ (show K+2<=L by omega)
   have e:Q (K+2)=2*(2*Q K):=rfl;have:=zE K;omega
 ·have:=h2 (by omega);omega
theorem zR5 {z l:Int} (h:zBV z l) (hz:z<=2) (h0:0<=z):l<=2:=by
 have:=zR2 (K:=0) h (by simp[Q];omega) h0
 omega
theorem zR4 {z l:Int} (h:zBV z l) (hl:l<=1) (h0:0<=z):z<=1:=by
 obtain⟨h1,h2,h3⟩:=h
 by_cases hp:0<z
 ·obtain⟨L,e1,e2,e3⟩:=h3 hp
  have:L=0:=by omega
  subst this;simp[Q] at e3;omega
 ·omega
end Go.Proofs.YtgmnknmjainabacGreat
namespace Go.Proofs.YtgmnknmjainabacGreat.Ex
def S (f:Nat->Rat):Nat->Rat
 | 0=>0
 | n+1=>S f n+f n
theorem S_add (f g:Nat->Rat) (n:Nat):S (λ i=>f i+g i) n=S f n+S g n:=by
 induction n with
 | zero=>simp[S];try grind
 | succ n ih=>simp only[S,ih];grind
theorem zGQ (c:Rat) (f:Nat->Rat) (n:Nat):S (λ i=>c*f i) n=c*S f n:=by
 induction n with
 | zero=>simp[S];try grind
 | succ n ih=>simp only[S,ih];grind
theorem kQ {f g:Nat->Rat} (n:Nat) (h:∀ i,i<n->f i=g i):S f n=S g n:=by
 induction n with
 | zero=>rfl
 | succ n ih=>simp only[S];rw[ih (λ i hi=>h i (by omega)),h n (by omega)]
theorem zP7 (f:Nat->Rat) (n:Nat):S f (n+1)=f 0+S (λ i=>f (i+1)) n:=by
 induction n with
 | zero=>simp[S];grind
 | succ n ih=>rw[S,ih];simp only[S];grind
def tm (x:Rat):Nat->Rat
 | 0=>1
 | n+1=>tm x n*x/((n:Rat)+1)
theorem zAV (n:Nat):(0:Rat)<(n:Rat)+1:=by
 have:(0:Rat)<=(n:Rat):=by exact_mod_cast Nat.zero_le n
 grind
theorem kR (x:Rat) (n:Nat):((n:Rat)+1)*tm x (n+1)=x*tm x n:=by
 simp only[tm];have:=zAV n;grind
def cv (a b:Nat->Rat) (n:Nat):Rat:=S (λ i=>a i*b (n-i)) (n+1)
theorem cv_tm (x y:Rat) (n:Nat):cv (tm x) (tm y) n=tm (x+y) n:=by
 induction n with
 | zero=>simp[cv,S,tm];grind
 | succ n ih =>
  have h:=zAV n
  have h1:((n:Rat)+1)*cv (tm x) (tm y) (n+1)=(x+y)*cv (tm x) (tm y) n:=by
   have e1:((n:Rat)+1)*cv (tm x) (tm y) (n+1)=S (λ i=>(i:Rat)*tm x i*tm y (n+1-i)+tm x i*((n+1-i:Nat):Rat)*tm y (n+1-i)) (n+2):=by
    unfold cv;rw[<- zGQ];refine kQ _ λ i hi=>?_
    have:((n:Rat)+1)=(i:Rat)+((n+1-i:Nat):Rat):=by
     have:(n+1:Nat)=i+(n+1-i):=by omega
     have:=congrArg (λ k:Nat=>(k:Rat)) this
     simp at this;grind
    rw[this];grind
   rw[e1,S_add]
   have e2:S (λ i=>(i:Rat)*tm x i*tm y (n+1-i)) (n+2)=x*cv (tm x) (tm y) n:=by
    rw[zP7];simp;rw[Rat.zero_add];unfold cv;rw[<- zGQ];refine kQ _ λ i hi=>?_
    have:=kR x i;grind
   have e3:S (λ i=>tm x i*((n+1-i:Nat):Rat)*tm y (n+1-i)) (n+2)=y*cv (tm x) (tm y) n:=by
    rw[S];simp;rw[Rat.add_zero];unfold cv;rw[<- zGQ];refine kQ _ λ i hi=>?_
    have e:n+1-i=(n-i)+1:=by omega
    rw[e];have:=kR y (n-i);simp;grind
   rw[e2,e3];grind
  have h2:=kR (x+y) n;rw[ih] at h1;have:((n:Rat)+1)*cv (tm x) (tm y) (n+1)=((n:Rat)+1)*tm (x+y) (n+1):=by rw[h1,h2]
  have hz:((n:Rat)+1)≠0:=by grind
  have h5:((n:Rat)+1)*(cv (tm x) (tm y) (n+1)-tm (x+y) (n+1))=0:=by grind
  rcases Rat.mul_eq_zero.1 h5 with h6|h6
  ·exact absurd h6 hz
  ·grind
def E (x:Rat) (M:Nat):Rat:=S (tm x) M
theorem E_add (x y:Rat) (M:Nat):E (x+y) M=S (λ i=>tm x i*E y (M-i)) M:=by
 induction M with
 | zero=>rfl
 | succ M ih =>
  have h1:E (x+y) (M+1)=E (x+y) M+tm (x+y) M:=rfl;rw[h1,ih,<- cv_tm]
  have h2:S (λ i=>tm x i*E y (M+1-i)) (M+1)=S (λ i=>tm x i*E y (M-i)+tm x i*tm y (M-i)) (M+1):=by
   refine kQ _ λ i hi=>?_
   have e:M+1-i=(M-i)+1:=by omega
   have e2:E y ((M-i)+1)=E y (M-i)+tm y (M-i):=rfl;rw[e,e2];grind
  rw[h2,S_add]
  have h3:S (λ i=>tm x i*E y (M-i)) (M+1)=S (λ i=>tm x i*E y (M-i)) M:=by
   simp only[S];have:M-M=0:=by omega
   rw[this];have:E y 0=0:=rfl;rw[this];grind
  rw[h3];rfl
theorem E_diff (x y:Rat) (M:Nat):E x M*E y M-E (x+y) M=S (λ i=>tm x i*(E y M-E y (M-i))) M:=by
 rw[E_add];have h1:E x M*E y M=S (λ i=>E y M*tm x i) M:=by rw[zGQ];unfold E;grind
 rw[h1]
 have h2:S (λ i=>E y M*tm x i) M=S (λ i=>tm x i*(E y M-E y (M-i))) M+S (λ i=>tm x i*E y (M-i)) M:=by
  rw[<- S_add];refine kQ _ λ i hi=>?_
  grind
 rw[h2];grind
def AB (t b:Rat):Prop := -b<=t/\t<=b
theorem AB.nonneg {t b:Rat} (h:AB t b):0<=b:=by obtain⟨h1,h2⟩:=h;grind
theorem AB.mul {s t a b:Rat} (h:AB s a) (k:AB t b):AB (s*t) (a*b):=by
 obtain⟨h1,h2⟩:=h;obtain⟨k1,k2⟩:=k;have p1:=Yz (show 0<=a-s by grind) (show 0<=b+t by grind)
 have p2:=Yz (show 0<=a+s by grind) (show 0<=b-t by grind)
 have p3:=Yz (show 0<=a-s by grind) (show 0<=b-t by grind)
 have p4:=Yz (show 0<=a+s by grind) (show 0<=b+t by grind)
 constructor<;>grind
theorem AB.add {s t a b:Rat} (h:AB s a) (k:AB t b):AB (s+t) (a+b):=by
 obtain⟨h1,h2⟩:=h;obtain⟨k1,k2⟩:=k;constructor<;>grind
theorem AB.mono {s a b:Rat} (h:AB s a) (k:a<=b):AB s b:=by
 obtain⟨h1,h2⟩:=h;constructor<;>grind
theorem AB.neg {s a:Rat} (h:AB s a):AB (-s) a:=by
 obtain⟨h1,h2⟩:=h;constructor<;>grind
theorem S_AB {f g:Nat->Rat} (n:Nat) (h:∀ i,i<n->AB (f i) (g i)):AB (S f n) (S g n):=by
 induction n with
 | zero=>simp only[S];constructor<;>grind
 | succ n ih=>simp only[S];exact (ih (λ i hi=>h i (by omega))).add (h n (by omega))
def q4:Nat->Rat
 | 0=>1
 | n+1=>q4 n/4
theorem yD (n:Nat):0<q4 n:=by
 induction n with
 | zero=>simp only[q4];grind
 | succ n ih=>simp only[q4];grind
theorem q4_add (a b:Nat):q4 (a+b)=q4 a*q4 b:=by
 induction b with
 | zero=>simp only[q4,Nat.add_zero];grind
 | succ b ih=>rw[<- Nat.add_assoc];simp only[q4,ih];grind
theorem E_sub (y:Rat) (K:Rat) (hK:∀ i,AB (tm y i) (K*q4 i)) (a i:Nat):AB (E y (a+i)-E y a) (2*K*(q4 a-q4 (a+i))):=by
 induction i with
 | zero=>simp only[Nat.add_zero];constructor<;>grind
 | succ i ih =>
  have e:E y (a+(i+1))=E y (a+i)+tm y (a+i):=rfl;have e2:q4 (a+(i+1))=q4 (a+i)/4:=rfl;rw[e,e2];have h:=hK (a+i);have hn:=h.nonneg;have:=ih.add h;have h3:E y (a+i)+tm y (a+i)-E y a=E y (a+i)-E y a+tm y (a+i):=by grind
  rw[h3];refine this.mono ?_;grind
theorem zP6 (c:Rat) (n:Nat):S (λ _=>c) n=n*c:=by
 induction n with
 | zero=>simp[S]
 | succ n ih =>
  simp only[S,ih];have:((n+1:Nat):Rat)=(n:Rat)+1:=by simp
  rw[this];grind
theorem E_mul (x y K L:Rat) (hK:∀ i,AB (tm x i) (K*q4 i)) (hL:∀ i,AB (tm y i) (L*q4 i)) (M:Nat):AB (E x M*E y M-E (x+y) M) (M*(2*K*L*q4 M)):=by
 rw[E_diff,<- zP6];refine S_AB _ λ i hi=>?_
 have h1:=E_sub y L hL (M-i) i;rw[show M-i+i=M by omega] at h1
 have h2:=(hK i).mul h1;refine h2.mono ?_;have e:q4 M=q4 i*q4 (M-i):=by rw[<- q4_add];congr 1;omega
 have tk:=(hL M).nonneg;have Jj:=(hK M).nonneg;have p:=yD M
 have pK:0<=K:=by
  have:=(hK 0).nonneg;simp only[q4] at this;grind
 have pL:0<=L:=by
  have:=(hL 0).nonneg;simp only[q4] at this;grind
 have p5:=Yz (Yz pK pL) (Yz (YC (yD i)) (YC p));rw[e] at p5 ⊢;grind
theorem tm_step (x:Rat) (n:Nat) (c:Rat) (hx:AB (4*x) ((n:Rat)+1)) (h:AB (tm x n) (c*q4 n)):AB (tm x (n+1)) (c*q4 (n+1)):=by
 have hp:=zAV n;have e:=kR x n;have h2:=hx.mul h;have q:=yD n;have e2:q4 (n+1)=q4 n/4:=rfl;rw[e2];have h3:4*x*tm x n=4*((n:Rat)+1)*tm x (n+1):=by grind
 rw[h3] at h2;obtain⟨g1,g2⟩:=h2;constructor
 ·refine Rat.not_lt.1 λ hn=>?_
  have:=Rat.mul_pos hp (show 0 < -(c*(q4 n/4))-tm x (n+1) by grind)
  grind
 ·refine Rat.not_lt.1 λ hn=>?_
  have:=Rat.mul_pos hp (show 0<tm x (n+1)-c*(q4 n/4) by grind)
  grind
theorem AB.self (t:Rat):∃ b,AB t b:=by
 by_cases h:0<=t
 ·exact⟨t,by constructor<;>grind⟩
 ·exact⟨-t,by constructor<;>grind⟩
theorem tm_upto (x:Rat) (n:Nat):∃ K,0<=K/\∀ i,i<=n->AB (tm x i) (K*q4 i):=by
 induction n with
 | zero=>exact⟨1,by grind,λ i hi=>by
   have:i=0:=by omega
   subst this
   simp only[tm,q4];constructor<;>grind⟩
 | succ n ih =>
  obtain⟨K,h0,h⟩:=ih;obtain⟨b,hb⟩:=AB.self (tm x (n+1));have q:=yD (n+1);have E8:=hb.nonneg;have hq:b/q4 (n+1)*q4 (n+1)=b:=by grind
  have hd:0<=b/q4 (n+1):=by
   refine Rat.not_lt.1 λ hn=>?_
   have:=Rat.mul_pos q (show 0 < -(b/q4 (n+1)) by grind)
   grind
  refine⟨K+b/q4 (n+1),by grind,λ i hi=>?_⟩
  have qi:=yD i
  by_cases I7:i=n+1
  ·subst I7
   refine hb.mono ?_;have:=Yz h0 (YC q);grind
  ·refine (h i (by omega)).mono ?_
   have:=Yz hd (YC qi);grind
theorem kB (x:Rat):∃ n:Nat,AB x (n:Rat):=by
 refine⟨x.floor.natAbs+1,?_⟩;have h1:=Rat.lt_floor_add_one x;have h2:=Rat.floor_le x
 have h3:((x.floor+1:Int):Rat)<=((x.floor.natAbs+1:Nat):Rat):=by
  have:x.floor+1<=((x.floor.natAbs+1:Nat):Int):=by omega
  exact_mod_cast this
 have h4 : -((x.floor.natAbs+1:Nat):Rat)<=(x.floor:Rat):=by
  have:(0:Int)<=x.floor+((x.floor.natAbs+1:Nat):Int):=by omega
  have h5:(0:Rat)<=((x.floor+((x.floor.natAbs+1:Nat):Int):Int):Rat):=by exact_mod_cast this
  have h6:((x.floor+((x.floor.natAbs+1:Nat):Int):Int):Rat)=(x.floor:Rat)+((x.floor.natAbs+1:Nat):Rat):=by rw[Rat.intCast_add];rfl
  grind
 constructor<;>grind
theorem zPO (x:Rat):∃ K,0<=K/\∀ i,AB (tm x i) (K*q4 i):=by
 obtain⟨n,hn⟩:=kB (4*x);obtain⟨K,h0,h⟩:=tm_upto x n;refine⟨K,h0,λ i=>?_⟩
 by_cases hi:i<=n
 ·exact h i hi
 ·obtain⟨j,rfl⟩:∃ j,i=n+j:=⟨i-n,by omega⟩
  clear hi
  induction j with
  | zero=>exact h n (YE _)
  | succ j ih =>
   refine tm_step x (n+j) K (hn.mono ?_) ih;have h1:((n+j:Nat):Rat)=(n:Rat)+j:=by simp
   have h2:(0:Rat)<=(j:Rat):=by exact_mod_cast Nat.zero_le j
   rw[h1];grind
theorem near_bd (M:Nat):0<=(M:Rat)*q4 M:=Yz (by exact_mod_cast Nat.zero_le M) (YC (yD M))
theorem nat_q4 (M:Nat):(M:Rat)*((M:Rat)+1)*q4 M<=1:=by
 induction M with
 | zero=>simp only[q4];grind
 | succ M ih =>
  have e:((M+1:Nat):Rat)=(M:Rat)+1:=by simp
  have e2:q4 (M+1)=q4 M/4:=rfl;have q:=yD M;have hM:(0:Rat)<=(M:Rat):=by exact_mod_cast Nat.zero_le M
  rw[e,e2]
  rcases Nat.eq_zero_or_pos M with h|h
  ·subst h
   simp only[q4];grind
  ·have h1:(1:Rat)<=(M:Rat):=by exact_mod_cast h
   have p:=Yz (Yz (show 0<=(M:Rat)+1 by grind) (show 0<=3*(M:Rat)-2 by grind)) (YC q)
   grind
theorem zAW {x:Rat} (h:0<=x) (n:Nat):0<=tm x n:=by
 induction n with
 | zero=>simp only[tm];grind
 | succ n ih =>
  have e:=kR x n;have hp:=zAV n;refine Rat.not_lt.1 λ hn=>?_
  have h1:=Rat.mul_pos hp (show 0 < -tm x (n+1) by grind)
  have h2:=Yz h ih;grind
theorem E_one {x:Rat} (h:0<=x) {M:Nat} (hM:1<=M):1<=E x M:=by
 obtain⟨n,rfl⟩:∃ n,M=n+1:=⟨M-1,by omega⟩
 clear hM
 induction n with
 | zero=>simp only[E,S,tm];grind
 | succ n ih =>
  have e:E x (n+1+1)=E x (n+1)+tm x (n+1):=rfl;have:=zAW h (n+1);rw[e];grind
end Go.Proofs.YtgmnknmjainabacGreat.Ex
namespace Go.Proofs.YtgmnknmjainabacGreat.Ex
def Null (f:Nat->Rat):Prop:=∀ e:Rat,0<e->∃ N:Nat,∀ M,N<=M->AB (f M) e
def Has (a b:Rat) (x:Nat->Rat):Prop:=∀ e:Rat,0<e->∃ N:Nat,∀ M,N<=M->a-e<=x M/\x M<=b+e
def Bdd (f:Nat->Rat):Prop:=∃ K N,0<=K/\∀ M:Nat,N<=M->AB (f M) K
theorem AB.sub {s t a b:Rat} (h:AB s a) (k:AB t b):AB (s-t) (a+b):=by
 obtain⟨h1,h2⟩:=h;obtain⟨k1,k2⟩:=k;constructor<;>grind
theorem AB.zero {b:Rat} (h:0<=b):AB 0 b:=by constructor<;>grind
theorem rdm {a b:Rat} (h:0<b):a/b*b=a:=Rat.div_mul_cancel (by grind)
theorem zF {a b:Rat} (ha:0<a) (hb:0<b):0<a/b:=by
 refine Rat.not_le.1 λ hn=>?_
 have h1:=Yz (show 0 <= -(a/b) by grind) (YC hb)
 have h2:=rdm (a:=a) hb;generalize a/b=q at *;grind
theorem null_zero:Null (λ _=>0):=λ e he=>⟨0,λ M _=>AB.zero (YC he)⟩
theorem Null.add {f g:Nat->Rat} (h:Null f) (k:Null g):Null (λ M=>f M+g M):=λ e he=>by
 obtain⟨N1,h1⟩:=h (e/2) (by grind)
 obtain⟨N2,h2⟩:=k (e/2) (by grind)
 exact⟨N1+N2,λ M hM=>((h1 M (by omega)).add (h2 M (by omega))).mono (by grind)⟩
theorem Null.neg {f:Nat->Rat} (h:Null f):Null (λ M => -f M):=λ e he=>by
 obtain⟨N1,h1⟩:=h e he;exact⟨N1,λ M hM=>(h1 M hM).neg⟩
theorem Null.sub {f g:Nat->Rat} (h:Null f) (k:Null g):Null (λ M=>f M-g M):=λ e he=>by
 obtain⟨N1,h1⟩:=h (e/2) (by grind)
 obtain⟨N2,h2⟩:=k (e/2) (by grind)
 exact⟨N1+N2,λ M hM=>((h1 M (by omega)).sub (h2 M (by omega))).mono (by grind)⟩
theorem Null.bmul {f g:Nat->Rat} (h:Null f) (k:Bdd g):Null (λ M=>f M*g M):=λ e he=>by
 obtain⟨K,N2,k0,h2⟩:=k;have hp:0<K+1:=by grind
 have h3:=rdm (a:=e) hp;have h4:=zF he hp;obtain⟨N1,h1⟩:=h (e/(K+1)) h4;generalize e/(K+1)=q at *;refine⟨N1+N2,λ M hM=>((h1 M (by omega)).mul (h2 M (by omega))).mono ?_⟩
 grind
theorem Null.of_eq {f g:Nat->Rat} (h:Null f) (e:∀ M,g M=f M):Null g:=by
 have:g=f:=funext e;rw[this];exact h
theorem Null.of_eq_from {f g:Nat->Rat} (h:Null f) (N:Nat) (e:∀ M,N<=M->g M=f M):Null g:=λ d hd=>by
 obtain⟨N1,h1⟩:=h d hd;exact⟨N+N1,λ M hM=>by rw[e M (by omega)];exact h1 M (by omega)⟩
theorem Null.of_le {f g:Nat->Rat} (h:Null f) (N:Nat) (e:∀ M,N<=M->AB (g M) (f M)):Null g:=λ d hd=>by
 obtain⟨N1,h1⟩:=h d hd;exact⟨N+N1,λ M hM=>(e M (by omega)).mono (h1 M (by omega)).2⟩
theorem Null.bdd {f:Nat->Rat} (h:Null f):Bdd f:=by
 obtain⟨N,h1⟩:=h 1 (by grind)
 exact⟨1,N,by grind,h1⟩
theorem zB0 (K:Rat) (k0:0<=K):Null (λ M=>K*((M:Rat)*q4 M)):=λ e he=>by
 obtain⟨n,gN,aR⟩:=kB (K/e);refine⟨n+1,λ M hM=>?_⟩
 have XT:(0:Rat)<=(M:Rat):=by exact_mod_cast Nat.zero_le M
 have XV:(n:Rat)<=(M:Rat):=by exact_mod_cast (show n<=M by omega)
 have u:=nat_q4 M;have q:=near_bd M;have e1:K/e*e=K:=by grind
 have s1:=Yz (show 0<=(M:Rat)-K/e by grind) (YC he)
 have s2:=Yz (show 0<=(M:Rat)*e-K by grind) q
 have s3:=Yz (YC he) (show 0<=1-(M:Rat)*((M:Rat)+1)*q4 M by grind)
 have s4:=Yz (YC he) q;have s5:=Yz k0 q;constructor<;>grind
theorem Bdd.add {f g:Nat->Rat} (h:Bdd f) (k:Bdd g):Bdd (λ M=>f M+g M):=by
 obtain⟨K,N,k0,h⟩:=h;obtain⟨L,N',l0,k⟩:=k;exact⟨K+L,N+N',by grind,λ M hM=>(h M (by omega)).add (k M (by omega))⟩
theorem Bdd.neg {f:Nat->Rat} (h:Bdd f):Bdd (λ M => -f M):=by
 obtain⟨K,N,k0,h⟩:=h;exact⟨K,N,k0,λ M hM=>(h M hM).neg⟩
theorem Bdd.sub {f g:Nat->Rat} (h:Bdd f) (k:Bdd g):Bdd (λ M=>f M-g M):=by
 obtain⟨K,N,k0,h⟩:=h;obtain⟨L,N',l0,k⟩:=k;exact⟨K+L,N+N',by grind,λ M hM=>(h M (by omega)).sub (k M (by omega))⟩
theorem Bdd.mul {f g:Nat->Rat} (h:Bdd f) (k:Bdd g):Bdd (λ M=>f M*g M):=by
 obtain⟨K,N,k0,h⟩:=h;obtain⟨L,N',l0,k⟩:=k;exact⟨K*L,N+N',Yz k0 l0,λ M hM=>(h M (by omega)).mul (k M (by omega))⟩
theorem Bdd.const (c:Rat):Bdd (λ _=>c):=by
 obtain⟨b,hb⟩:=AB.self c;exact⟨b,0,hb.nonneg,λ _ _=>hb⟩
theorem Bdd.of_le {f:Nat->Rat} (K:Rat) (N:Nat) (h:∀ M,N<=M->AB (f M) K):Bdd f:=⟨K,N,(h N (YE _)).nonneg,h⟩
theorem Has.le {a b:Rat} {x:Nat->Rat} (h:Has a b x):a<=b:=by
 refine Rat.not_lt.1 λ hn=>?_
 obtain⟨N,h1⟩:=h ((a-b)/4) (by grind)
 have:=h1 N (YE _);grind
theorem Has.touch {a b c d:Rat} {x:Nat->Rat} (h:Has a b x) (k:Has c d x):a<=d:=by
 refine Rat.not_lt.1 λ hn=>?_
 obtain⟨N,h1⟩:=h ((a-d)/4) (by grind)
 obtain⟨N',h2⟩:=k ((a-d)/4) (by grind)
 have:=h1 (N+N') (by omega)
 have:=h2 (N+N') (by omega)
 grind
theorem Has.touch_le {a b c d:Rat} {x y z:Nat->Rat} (h:Has a b x) (k:Has c d y) (hz:Null z) (N0:Nat) (K6:∀ M,N0<=M->x M<=y M+z M):a<=d:=by
 refine Rat.not_lt.1 λ hn=>?_
 obtain⟨N,h1⟩:=h ((a-d)/4) (by grind)
 obtain⟨N',h2⟩:=k ((a-d)/4) (by grind)
 obtain⟨N2,h3⟩:=hz ((a-d)/4) (by grind)
 have:=h1 (N+N'+N0+N2) (by omega)
 have:=h2 (N+N'+N0+N2) (by omega)
 have:=K6 (N+N'+N0+N2) (by omega)
 have:=(h3 (N+N'+N0+N2) (by omega)).2
 grind
theorem Has.mono {a b a' b':Rat} {x:Nat->Rat} (h:Has a b x) (h1:a'<=a) (h2:b<=b'):Has a' b' x:=λ e he=>by
 obtain⟨N,h⟩:=h e he;exact⟨N,λ M hM=>by have:=h M hM;constructor<;>grind⟩
theorem Has.congr {a b:Rat} {x y:Nat->Rat} (h:Has a b x) (k:Null (λ M=>y M-x M)):Has a b y:=λ e he=>by
 obtain⟨N,h⟩:=h (e/2) (by grind)
 obtain⟨N',k⟩:=k (e/2) (by grind)
 refine⟨N+N',λ M hM=>?_⟩
 have:=h M (by omega)
 obtain⟨k1,k2⟩:=k M (by omega)
 constructor<;>grind
theorem Has.bdd {a b:Rat} {x:Nat->Rat} (h:Has a b x):Bdd x:=by
 obtain⟨N,h1⟩:=h 1 (by grind)
 obtain⟨p,hp⟩:=AB.self a;obtain⟨q,hq⟩:=AB.self b;have:=hp.nonneg;have:=hq.nonneg;refine⟨p+q+1,N,by grind,λ M hM=>?_⟩
 have:=h1 M hM;obtain⟨_,_⟩:=hp;obtain⟨_,_⟩:=hq;constructor<;>grind
theorem Has.const {a b c:Rat} (h1:a<=c) (h2:c<=b):Has a b (λ _=>c):=λ e he=>⟨0,λ M _=>by constructor<;>grind⟩
theorem Has.of_from {a b:Rat} {x:Nat->Rat} (N:Nat) (h:∀ M,N<=M->a<=x M/\x M<=b):Has a b x:=λ e he=>⟨N,λ M hM=>by have:=h M hM;constructor<;>grind⟩
theorem Has.add {a b c d:Rat} {x y:Nat->Rat} (h:Has a b x) (k:Has c d y):Has (a+c) (b+d) (λ M=>x M+y M):=λ e he=>by
 obtain⟨N,h⟩:=h (e/2) (by grind)
 obtain⟨N',k⟩:=k (e/2) (by grind)
 refine⟨N+N',λ M hM=>?_⟩
 have:=h M (by omega)
 have:=k M (by omega)
 constructor<;>grind
theorem Has.sub {a b c d:Rat} {x y:Nat->Rat} (h:Has a b x) (k:Has c d y):Has (a-d) (b-c) (λ M=>x M-y M):=λ e he=>by
 obtain⟨N,h⟩:=h (e/2) (by grind)
 obtain⟨N',k⟩:=k (e/2) (by grind)
 refine⟨N+N',λ M hM=>?_⟩
 have:=h M (by omega)
 have:=k M (by omega)
 constructor<;>grind
theorem clamp {a b x e:Rat} (ij:a<=b) (he:0<=e) (h1:a-e<=x) (h2:x<=b+e):∃ x0,a<=x0/\x0<=b/\AB (x-x0) e:=by
 by_cases h:x<a
 ·exact⟨a,by grind,ij,by constructor<;>grind⟩
 ·by_cases h':b<x
  ·exact⟨b,ij,by grind,by constructor<;>grind⟩
  ·exact⟨x,by grind,by grind,by constructor<;>grind⟩
theorem corner {a b c d L U x y:Rat} (cW:a<=x) (aV:x<=b) (fV:c<=y) (Rs:y<=d)
  (l1:L<=a*c) (l2:L<=a*d) (l3:L<=b*c) (l4:L<=b*d) (u1:a*c<=U) (u2:a*d<=U) (u3:b*c<=U) (u4:b*d<=U):L<=x*y/\x*y<=U:=by
 have p1:=Yz (show 0<=x-a by grind) (show 0<=y-c by grind)
 have p2:=Yz (show 0<=x-a by grind) (show 0<=d-y by grind)
 have p3:=Yz (show 0<=b-x by grind) (show 0<=y-c by grind)
 have p4:=Yz (show 0<=b-x by grind) (show 0<=d-y by grind)
 rcases Rat.le_total (a:=0) (b:=y) with hy|hy
 ·have g1:=Yz (show 0<=x-a by grind) hy
  have g2:=Yz (show 0<=b-x by grind) hy
  rcases Rat.le_total (a:=0) (b:=a) with ha|ha
  ·have:=Yz ha (show 0<=y-c by grind)
   rcases Rat.le_total (a:=0) (b:=b) with hb|hb
   ·have:=Yz hb (show 0<=d-y by grind);constructor<;>grind
   ·have:=Yz (show 0 <= -b by grind) (show 0<=y-c by grind);constructor<;>grind
  ·have:=Yz (show 0 <= -a by grind) (show 0<=d-y by grind)
   rcases Rat.le_total (a:=0) (b:=b) with hb|hb
   ·have:=Yz hb (show 0<=d-y by grind);constructor<;>grind
   ·have:=Yz (show 0 <= -b by grind) (show 0<=y-c by grind);constructor<;>grind
 ·have g1:=Yz (show 0<=x-a by grind) (show 0 <= -y by grind)
  have g2:=Yz (show 0<=b-x by grind) (show 0 <= -y by grind)
  rcases Rat.le_total (a:=0) (b:=a) with ha|ha
  ·have:=Yz ha (show 0<=d-y by grind)
   rcases Rat.le_total (a:=0) (b:=b) with hb|hb
   ·have:=Yz hb (show 0<=y-c by grind);constructor<;>grind
   ·have:=Yz (show 0 <= -b by grind) (show 0<=d-y by grind);constructor<;>grind
  ·have:=Yz (show 0 <= -a by grind) (show 0<=y-c by grind)
   rcases Rat.le_total (a:=0) (b:=b) with hb|hb
   ·have:=Yz hb (show 0<=y-c by grind);constructor<;>grind
   ·have:=Yz (show 0 <= -b by grind) (show 0<=d-y by grind);constructor<;>grind
theorem AB.between {c d y p q:Rat} (hp:AB c p) (hq:AB d q) (h1:c<=y) (h2:y<=d):AB y (p+q):=by
 have:=hp.nonneg;have:=hq.nonneg;obtain⟨_,_⟩:=hp;obtain⟨_,_⟩:=hq;constructor<;>grind
theorem Has.mul {a b c d L U:Rat} {x y:Nat->Rat} (h:Has a b x) (k:Has c d y)
  (l1:L<=a*c) (l2:L<=a*d) (l3:L<=b*c) (l4:L<=b*d) (u1:a*c<=U) (u2:a*d<=U) (u3:b*c<=U) (u4:b*d<=U):Has L U (λ M=>x M*y M):=λ e he=>by
 obtain⟨R,N0,r0,hR⟩:=h.bdd;obtain⟨p,nG⟩:=AB.self c;obtain⟨q,aX⟩:=AB.self d;have p0:=nG.nonneg;have q0:=aX.nonneg;have hp:0<R+(p+q)+1:=by grind
 have hd:=zF he hp;have ij:=h.le;have hcd:=k.le;obtain⟨N,h⟩:=h _ hd;obtain⟨N',k⟩:=k _ hd;refine⟨N+N'+N0,λ M hM=>?_⟩
 have h1:=h M (by omega)
 have k1:=k M (by omega)
 have hr:=hR M (by omega)
 have hδ:=rdm (a:=e) hp;generalize e/(R+(p+q)+1)=δ at *;obtain⟨x0,a1,a2,a3⟩:=clamp ij (YC hd) h1.1 h1.2;obtain⟨y0,b1,b2,b3⟩:=clamp hcd (YC hd) k1.1 k1.2;have hc:=corner a1 a2 b1 b2 l1 l2 l3 l4 u1 u2 u3 u4;have g:=(hr.mul b3).add (a3.mul (AB.between nG aX b1 b2));have e1:x M*(y M-y0)+(x M-x0)*y0=x M*y M-x0*y0:=by grind
 rw[e1] at g;obtain⟨g1,g2⟩:=g
 show L-e<=x M*y M/\x M*y M<=U+e
 generalize x M*y M=X at *;generalize x0*y0=Y at *;constructor<;>grind
theorem Has.scale {a b c:Rat} {x:Nat->Rat} (h:Has a b x) (hc:0<=c):Has (c*a) (c*b) (λ M=>c*x M):=by
 have ij:=h.le;have:=Yz hc (show 0<=b-a by grind)
 exact Has.mul (Has.const (Rat.le_refl) (Rat.le_refl) (c:=c)) h (by grind) (by grind) (by grind) (by grind) (by grind) (by grind) (by grind) (by grind)
theorem Has.of_eq {a b:Rat} {x y:Nat->Rat} (h:Has a b x) (e:∀ M,y M=x M):Has a b y:=by
 have:y=x:=funext e;rw[this];exact h
end Go.Proofs.YtgmnknmjainabacGreat.Ex
namespace Go.Proofs.YtgmnknmjainabacGreat.Ex
theorem tm_AB {x R:Rat} (h:AB x R) (n:Nat):AB (tm x n) (tm R n):=by
 induction n with
 | zero=>simp only[tm];constructor<;>grind
 | succ n ih =>
  have hp:=zAV n;have g:=ih.mul h;have e1:=kR x n;have e2:=kR R n;have e3:tm x n*x=((n:Rat)+1)*tm x (n+1):=by grind
  have e4:tm R n*R=((n:Rat)+1)*tm R (n+1):=by grind
  rw[e3,e4] at g;obtain⟨g1,g2⟩:=g;generalize (n:Rat)+1=m at *;constructor
  ·refine Rat.not_lt.1 λ hn=>?_
   have:=Rat.mul_pos hp (show 0 < -tm R (n+1)-tm x (n+1) by grind)
   grind
  ·refine Rat.not_lt.1 λ hn=>?_
   have:=Rat.mul_pos hp (show 0<tm x (n+1)-tm R (n+1) by grind)
   grind
theorem zMB (R:Rat):∃ K,0<=K/\∀ x,AB x R->∀ i,AB (tm x i) (K*q4 i):=by
 obtain⟨K,k0,h⟩:=zPO R;exact⟨K,k0,λ x hx i=>(tm_AB hx i).mono (h i).2⟩
theorem zMK (R:Rat):∃ K,0<=K/\∀ M x y,AB x R->AB y R->AB (E x M*E y M-E (x+y) M) (K*((M:Rat)*q4 M)):=by
 obtain⟨K,k0,h⟩:=zMB R;refine⟨2*K*K,?_,λ M x y hx hy=>(E_mul x y K K (h x hx) (h y hy) M).mono (by grind)⟩
 have:=Yz k0 k0;grind
theorem zDW (R:Rat):∃ K,0<=K/\∀ M x,AB x R->AB (E x M) K:=by
 obtain⟨K,k0,h⟩:=zMB R;refine⟨2*K,by grind,λ M x hx=>?_⟩
 have:=E_sub x K (h x hx) 0 M;have e:E x 0=0:=rfl;rw[Nat.zero_add,e] at this;have e1:E x M-0=E x M:=by grind
 rw[e1] at this;refine this.mono ?_;have:=yD M;have:=Yz k0 (YC this);simp only[q4];grind
theorem tm_zero (n:Nat):tm 0 (n+1)=0:=by
 have:=kR 0 n;have hp:=zAV n;have h5:((n:Rat)+1)*tm 0 (n+1)=0:=by grind
 rcases Rat.mul_eq_zero.1 h5 with h6|h6
 ·grind
 ·exact h6
theorem kT (M:Nat):E 0 (M+1)=1:=by
 induction M with
 | zero=>simp only[E,S,tm];grind
 | succ M ih =>
  have e:E 0 (M+1+1)=E 0 (M+1)+tm 0 (M+1):=rfl;rw[e,ih,tm_zero];grind
theorem zO (x:Rat):0<=x*x:=by
 rcases Rat.le_total (a:=0) (b:=x) with h|h
 ·exact Yz h h
 ·have:=Yz (show 0 <= -x by grind) (show 0 <= -x by grind);grind
theorem E_low (R:Rat):∃ c,0<c/\∃ N,∀ M,N<=M->∀ x,AB x R->c<=E x M:=by
 obtain⟨K,k0,hK⟩:=zMK R;obtain⟨L,l0,hL⟩:=zDW R;have hp:0<4*(L+1):=by grind
 have hc:=zF (show (0:Rat)<1 by grind) hp
 have hcL:=rdm (a:=1) hp;refine⟨_,hc,?_⟩;generalize 1/(4*(L+1))=c at *;obtain⟨N,hN⟩:=zB0 K k0 c hc;refine⟨N+1,λ M hM x hx=>?_⟩
 obtain⟨n1,n2⟩:AB (K*((M:Rat)*q4 M)) c:=hN M (by omega)
 have aV:AB (x/2) R:=by obtain⟨a,b⟩:=hx;constructor<;>grind
 have h1:=hK M (x/2) (x/2) aV aV;rw[show x/2+x/2=x by grind] at h1
 have h2:=hK M x (-x) hx hx.neg;rw[show x + -x=0 by grind] at h2
 obtain⟨m,rfl⟩:∃ m,M=m+1:=⟨M-1,by omega⟩
 rw[kT] at h2;have h3:=hL (m+1) (-x) hx.neg;have h4:=zO (E (x/2) (m+1));obtain⟨a1,a2⟩:=h1;obtain⟨b1,b2⟩:=h2;generalize K*(((m+1:Nat):Rat)*q4 (m+1))=η at *;generalize E (x/2) (m+1)*E (x/2) (m+1)=s at *;refine Rat.not_lt.1 λ hn=>?_
 have h5:AB (E x (m+1)) c:=by constructor<;>grind
 have h6:=h5.mul h3;obtain⟨c1,c2⟩:=h6;generalize E x (m+1)*E (-x) (m+1)=t at *;have:c*L<=1/4:=by grind
 have:c<=1/4:=by
  have:=Yz (YC hc) l0;grind
 grind
theorem zKT {h b:Rat} (hb:AB h b) (h4:b<=1/4) (k:Nat):AB (tm h (k+1)) (b*q4 k):=by
 have b0:=hb.nonneg
 induction k with
 | zero=>simp only[tm,q4];obtain⟨_,_⟩:=hb;simp;constructor<;>grind
 | succ k ih =>
  have e:=kR h (k+1);have hp:=zAV (k+1)
  have nG:(1:Rat)<=((k+1:Nat):Rat)+1:=by
   have:(0:Rat)<=((k+1:Nat):Rat):=by exact_mod_cast Nat.zero_le (k+1)
   grind
  have g:=hb.mul ih;rw[<- e] at g;have q:=yD k;have e2:q4 (k+1)=q4 k/4:=rfl;rw[e2];generalize ((k+1:Nat):Rat)+1=m at *
  have g2:AB (m*tm h (k+1+1)) (b*(q4 k/4)):=by
   refine g.mono ?_;have:=Yz (Yz b0 (YC q)) (show 0<=1/4-b by grind)
   grind
  obtain⟨g3,g4⟩:=g2;have hn:=Yz b0 (YC q);generalize b*(q4 k/4)=r at *;have hr:0<=r:=by grind
  constructor
  ·refine Rat.not_lt.1 λ hn=>?_
   have:=Yz (show 0<=m-1 by grind) (show 0 <= -r-tm h (k+1+1) by grind)
   have:=Yz (show 0<=m-1 by grind) hr
   grind
  ·refine Rat.not_lt.1 λ hn=>?_
   have:=Yz (show 0<=m-1 by grind) (show 0<=tm h (k+1+1)-r by grind)
   have:=Yz (show 0<=m-1 by grind) hr
   grind
theorem zPV {h b:Rat} (hb:AB h b) (h4:b<=1/4) (M:Nat):AB (E h (M+1)-1) (2*b*(1-q4 M)):=by
 have b0:=hb.nonneg
 induction M with
 | zero=>simp only[E,S,tm,q4];constructor<;>grind
 | succ M ih =>
  have e:E h (M+1+1)=E h (M+1)+tm h (M+1):=rfl;have g:=ih.add (zKT hb h4 M);rw[e];have e2:q4 (M+1)=q4 M/4:=rfl;have q:=Yz b0 (YC (yD M));have e3:E h (M+1)-1+tm h (M+1)=E h (M+1)+tm h (M+1)-1:=by grind
  rw[e3] at g;rw[e2];exact g.mono (by grind)
theorem zHN {h b:Rat} (hb:AB h b) (h4:b<=1/4) {M:Nat} (hM:1<=M):AB (E h M-1) (2*b):=by
 obtain⟨m,rfl⟩:∃ m,M=m+1:=⟨M-1,by omega⟩
 refine (zPV hb h4 m).mono ?_;have q:=Yz hb.nonneg (YC (yD m));grind
theorem zOF {h b:Rat} (hb:AB h b) (h4:b<=1/4) (M:Nat):AB (E h (M+2)-1-h) (2*(b*b)*(1-q4 M)):=by
 have b0:=hb.nonneg;have bb:=Yz b0 b0
 induction M with
 | zero =>
  have:E h 2=1+h:=by simp[E,S,tm];grind
  rw[this];simp only[q4];constructor<;>grind
 | succ M ih =>
  have e:E h (M+1+2)=E h (M+2)+tm h (M+2):=rfl;have hp:=zAV (M+1)
  have g0:AB (tm h (M+2)) (b*b*q4 M):=by
   have e:=kR h (M+1)
   have nG:(1:Rat)<=((M+1:Nat):Rat)+1:=by
    have:(0:Rat)<=((M+1:Nat):Rat):=by exact_mod_cast Nat.zero_le (M+1)
    grind
   have g:=hb.mul (zKT hb h4 M);rw[<- e] at g;have hr:=Yz bb (YC (yD M));rw[show b*(b*q4 M)=b*b*q4 M by grind] at g
   obtain⟨g3,g4⟩:=g;generalize ((M+1:Nat):Rat)+1=m at *;generalize b*b*q4 M=r at *;rw[show M+1+1=M+2 by omega] at *
   constructor
   ·refine Rat.not_lt.1 λ hn=>?_
    have:=Yz (show 0<=m-1 by grind) (show 0 <= -r-tm h (M+2) by grind)
    have:=Yz (show 0<=m-1 by grind) hr
    grind
   ·refine Rat.not_lt.1 λ hn=>?_
    have:=Yz (show 0<=m-1 by grind) (show 0<=tm h (M+2)-r by grind)
    have:=Yz (show 0<=m-1 by grind) hr
    grind
  have g:=ih.add g0;rw[e];have e2:q4 (M+1)=q4 M/4:=rfl;have q:=Yz bb (YC (yD M));have e3:E h (M+2)-1-h+tm h (M+2)=E h (M+2)+tm h (M+2)-1-h:=by grind
  rw[e3] at g;rw[e2];exact g.mono (by grind)
theorem zAB {h b:Rat} (hb:AB h b) (h4:b<=1/4) {M:Nat} (hM:2<=M):AB (E h M-1-h) (2*(b*b)):=by
 obtain⟨m,rfl⟩:∃ m,M=m+2:=⟨M-2,by omega⟩
 refine (zOF hb h4 m).mono ?_;have q:=Yz (Yz hb.nonneg hb.nonneg) (YC (yD m));grind
def Ev (x:Nat->Rat) (M:Nat):Rat:=E (x M) M
theorem zAC {x:Nat->Rat} (h:Bdd x):Bdd (Ev x):=by
 obtain⟨R,N,r0,h⟩:=h;obtain⟨K,k0,hK⟩:=zDW R;exact⟨K,N,k0,λ M hM=>hK M _ (h M hM)⟩
theorem zAI {x y:Nat->Rat} (hx:Bdd x) (hy:Bdd y):Null (λ M=>Ev x M*Ev y M-Ev (λ M=>x M+y M) M):=by
 obtain⟨R,N,r0,hx⟩:=hx;obtain⟨R',N',AO,hy⟩:=hy;obtain⟨K,k0,hK⟩:=zMK (R+R');exact (zB0 K k0).of_le (N+N') λ M hM=>hK M _ _ ((hx M (by omega)).mono (by grind)) ((hy M (by omega)).mono (by grind))
theorem zB4 {x:Nat->Rat} (hx:Bdd x):∃ c,0<c/\∃ N,∀ M,N<=M->c<=Ev x M:=by
 obtain⟨R,N,r0,hx⟩:=hx;obtain⟨c,hc,N',h⟩:=E_low R;exact⟨c,hc,N+N',λ M hM=>h M (by omega) _ (hx M (by omega))⟩
theorem zPZ {h:Nat->Rat} (hn:Null h):Null (λ M=>Ev h M-1):=λ e he=>by
 obtain⟨N,h1⟩:=hn (1/4) (by grind)
 obtain⟨N',h2⟩:=hn (e/2) (by grind)
 refine⟨N+N'+1,λ M hM=>?_⟩
 rcases Rat.le_total (a:=e/2) (b:=1/4) with hc|hc
 ·exact (zHN (h2 M (by omega)) hc (by omega)).mono (by grind)
 ·exact (zHN (h1 M (by omega)) (by grind) (by omega)).mono (by grind)
theorem zD5 {x y:Nat->Rat} (hx:Bdd x) (hy:Bdd y) (h:Null (λ M=>x M-y M)):Null (λ M=>Ev x M-Ev y M):=by
 have h1:=zAI hy (hx.sub hy);have h2:=(zPZ h).bmul (zAC hy);have e:(λ M=>y M+(x M-y M))=x:=funext λ M=>by grind
 rw[e] at h1;refine (h2.sub h1).of_eq λ M=>?_
 grind
theorem zPX {x:Nat->Rat} (hx:Bdd x):Null (λ M=>Ev x M*Ev (λ M => -x M) M-1):=by
 have h1:=zAI hx hx.neg;refine h1.of_eq_from 1 λ M hM=>?_
 obtain⟨m,rfl⟩:∃ m,M=m+1:=⟨M-1,by omega⟩
 have:Ev (λ M=>x M + -x M) (m+1)=1:=by
  show E (x (m+1) + -x (m+1)) (m+1)=1
  rw[show x (m+1) + -x (m+1)=0 by grind,kT]
 rw[this]
theorem zC2 {x y z:Nat->Rat} (hx:Bdd x) (hy:Bdd y) (hz:Null z) (N0:Nat) (h:∀ M,N0<=M->x M<=y M+z M):∃ v,Null v/\∃ N,∀ M,N<=M->Ev x M<=Ev y M+v M:=by
 have b1:Bdd (λ M=>y M+z M):=hy.add hz.bdd
 have n1:=zD5 b1 hy (hz.of_eq λ M=>by grind)
 have n2:=zAI hx (b1.sub hx);have e:(λ M=>x M+(y M+z M-x M))=λ M=>y M+z M:=funext λ M=>by grind
 rw[e] at n2;obtain⟨c,hc,N1,hl⟩:=zB4 hx;refine⟨_,n1.add n2,N0+N1+1,λ M hM=>?_⟩
 have h1:=E_one (show 0<=y M+z M-x M by have:=h M (by omega);grind) (show 1<=M by omega)
 have h2:=hl M (by omega)
 have h3:=Yz (show 0<=Ev x M by grind) (show 0<=Ev (λ M=>y M+z M-x M) M-1 by have:Ev (λ M=>y M+z M-x M) M=E (y M+z M-x M) M:=rfl;rw[this];grind)
 grind
theorem zI8 {x:Rat} (h:0<=x) {M:Nat} (hM:2<=M):1+x<=E x M:=by
 obtain⟨m,rfl⟩:∃ m,M=m+2:=⟨M-2,by omega⟩
 clear hM
 induction m with
 | zero=>simp[E,S,tm];grind
 | succ m ih =>
  have e1:E x (m+1+2)=E x (m+2)+tm x (m+2):=rfl;have:=zAW h (m+2);grind
theorem zK4 {x y z:Nat->Rat} (hx:Bdd x) (hy:Bdd y) (hz:Null z) (N0:Nat) (h:∀ M,N0<=M->Ev x M<=Ev y M+z M) (e:Rat) (he:0<e):∃ N,∀ M,N<=M->x M<=y M+e:=by
 obtain⟨R,N1,r0,hx⟩:=hx;obtain⟨R',N2,AO,hy⟩:=hy;obtain⟨K,k0,hK⟩:=zMK (R+R'+R+R'+e);obtain⟨c,hc,N3,hl⟩:=E_low (R+R'+R+R'+e);have hce:=Rat.mul_pos hc he;obtain⟨N4,hn⟩:=zB0 K k0 (c*e/4) (by grind)
 obtain⟨N5,hz⟩:=hz (c*e/4) (by grind)
 refine⟨N0+N1+N2+N3+N4+N5+2,λ M hM=>?_⟩
 refine Rat.not_lt.1 λ D5=>?_
 have a1:=hx M (by omega)
 have a2:=hy M (by omega)
 have a3:=h M (by omega)
 obtain⟨a4,a5⟩:AB (K*((M:Rat)*q4 M)) (c*e/4):=hn M (by omega)
 obtain⟨a6,a7⟩:=hz M (by omega)
 have Rt:AB (y M+e) (R+R'+R+R'+e):=by obtain⟨_,_⟩:=a2;constructor<;>grind
 have hu:AB (x M-(y M+e)) (R+R'+R+R'+e):=by obtain⟨_,_⟩:=a2;obtain⟨_,_⟩:=a1;constructor<;>grind
 have oM:AB (y M) (R+R'+R+R'+e):=a2.mono (by grind)
 have QK:AB e (R+R'+R+R'+e):=by constructor<;>grind
 obtain⟨b1,b2⟩:=hK M _ _ Rt hu;obtain⟨b3,b4⟩:=hK M _ _ oM QK;rw[show y M+e+(x M-(y M+e))=x M by grind] at b1 b2
 have l1:=hl M (by omega) _ Rt
 have l2:=hl M (by omega) _ oM
 have o1:=E_one (show 0<=x M-(y M+e) by grind) (show 1<=M by omega)
 have o2:=zI8 (YC he) (show 2<=M by omega)
 have p1:=Yz (show 0<=E (y M+e) M by grind) (show 0<=E (x M-(y M+e)) M-1 by grind)
 have p2:=Yz (show 0<=E (y M) M by grind) (show 0<=E e M-(1+e) by grind)
 have p3:=Yz (show 0<=E (y M) M-c by grind) (YC he)
 have a3':E (x M) M<=E (y M) M+z M:=a3;generalize E (x M) M=X at *;generalize E (y M) M=Y at *;generalize K*((M:Rat)*q4 M)=η at *;grind
end Go.Proofs.YtgmnknmjainabacGreat.Ex
namespace Go.Proofs.YtgmnknmjainabacGreat.Ex
def pw (x:Rat):Nat->Rat
 | 0=>1
 | k+1=>x*pw x k
def q2:Nat->Rat
 | 0=>1
 | n+1=>q2 n/2
theorem yC (n:Nat):0<q2 n:=by
 induction n with
 | zero=>simp only[q2];grind
 | succ n ih=>simp only[q2];grind
theorem q2_le (n:Nat):q2 n<=1:=by
 induction n with
 | zero=>simp only[q2];grind
 | succ n ih=>simp only[q2];have:=yC n;grind
theorem zTF {y:Rat} (h:AB y (1/2)) (k:Nat):AB (pw y k) (q2 k):=by
 induction k with
 | zero=>simp only[pw,q2];constructor<;>grind
 | succ k ih=>simp only[pw,q2];exact (h.mul ih).mono (by grind)
theorem pw_step {y h:Rat} (hy:AB y (1/2)) (rj:AB (y+h) (1/2)) (k:Nat) :
  AB (pw (y+h) (k+1)-pw y (k+1)-((k:Rat)+1)*(h*pw y k)) ((k:Rat)*((k:Rat)+1)*q2 k*(h*h)):=by
 induction k with
 | zero=>simp only[pw,q2];simp;constructor<;>grind
 | succ k ih =>
  have e1:pw (y+h) (k+1+1)=(y+h)*pw (y+h) (k+1):=rfl;have e2:pw y (k+1+1)=y*pw y (k+1):=rfl;have e3:pw y (k+1)=y*pw y k:=rfl;have e4:((k+1:Nat):Rat)=(k:Rat)+1:=by simp
  have e5:q2 (k+1)=q2 k/2:=rfl;have h2:=zO h;have q:=yC k;have kk:(0:Rat)<=(k:Rat):=by exact_mod_cast Nat.zero_le k
  have g1:=rj.mul ih
  have g2:AB (((k:Rat)+1)*(h*h)*pw y k) (((k:Rat)+1)*(h*h)*q2 k):=by
   have:AB (((k:Rat)+1)*(h*h)) (((k:Rat)+1)*(h*h)):=by
    have:=Yz (show 0<=(k:Rat)+1 by grind) h2
    constructor<;>grind
   exact this.mul (zTF hy k)
  have g:=g1.add g2;rw[e1,e2,e4,e5]
  have:(y+h)*(pw (y+h) (k+1)-pw y (k+1)-((k:Rat)+1)*(h*pw y k))+((k:Rat)+1)*(h*h)*pw y k=(y+h)*pw (y+h) (k+1)-y*pw y (k+1)-((k:Rat)+1+1)*(h*pw y (k+1)):=by
   rw[e3];grind
  rw[this] at g;exact g.mono (by grind)
def Lg (y:Rat) (M:Nat):Rat:=S (λ k=>pw y (k+1)/((k:Rat)+1)) M
theorem zDG {t b m:Rat} (hm:0<m) (h:AB t (m*b)):AB (t/m) b:=by
 have e:=rdm (a:=t) hm;generalize t/m=q at *;obtain⟨h1,h2⟩:=h;constructor
 ·refine Rat.not_lt.1 λ hn=>?_
  have:=Rat.mul_pos hm (show 0 < -b-q by grind)
  grind
 ·refine Rat.not_lt.1 λ hn=>?_
  have:=Rat.mul_pos hm (show 0<q-b by grind)
  grind
theorem S_sub (f g:Nat->Rat) (n:Nat):S (λ i=>f i-g i) n=S f n-S g n:=by
 induction n with
 | zero=>simp[S];try grind
 | succ n ih=>simp only[S,ih];grind
theorem S_k2 (M:Nat):S (λ k=>(k:Rat)*q2 k) M=2-2*((M:Rat)+1)*q2 M:=by
 induction M with
 | zero=>simp only[S,q2];simp;grind
 | succ M ih =>
  simp only[S,ih,q2];have e4:((M+1:Nat):Rat)=(M:Rat)+1:=by simp
  rw[e4];grind
theorem Lg_step {y h:Rat} (hy:AB y (1/2)) (rj:AB (y+h) (1/2)) (M:Nat) :
  AB (Lg (y+h) M-Lg y M-h*S (pw y) M) (2*(h*h)):=by
 have e:Lg (y+h) M-Lg y M-h*S (pw y) M=S (λ k=>(pw (y+h) (k+1)-pw y (k+1)-((k:Rat)+1)*(h*pw y k))/((k:Rat)+1)) M:=by
  unfold Lg;rw[<- zGQ,<- S_sub,<- S_sub];refine kQ _ λ i hi=>?_
  have hp:=zAV i;generalize (i:Rat)+1=m at *;grind
 rw[e];have h2:=zO h
 have g:AB (S (λ k=>(pw (y+h) (k+1)-pw y (k+1)-((k:Rat)+1)*(h*pw y k))/((k:Rat)+1)) M) (S (λ k=>(h*h)*((k:Rat)*q2 k)) M):=by
  refine S_AB _ λ i hi=>?_
  refine zDG (zAV i) ((pw_step hy rj i).mono ?_);grind
 refine g.mono ?_;rw[zGQ,S_k2];have q:=yC M;have XT:(0:Rat)<=(M:Rat):=by exact_mod_cast Nat.zero_le M
 have:=Yz (Yz h2 (show 0<=(M:Rat)+1 by grind)) (YC q)
 grind
theorem S_pw (y:Rat) (M:Nat):S (pw y) M*(1-y)=1-pw y M:=by
 induction M with
 | zero=>simp only[S,pw];grind
 | succ M ih=>simp only[S,pw];grind
theorem S_q2 (M:Nat):S q2 M=2-2*q2 M:=by
 induction M with
 | zero=>simp only[S,q2];grind
 | succ M ih=>simp only[S,q2,ih];grind
theorem S_pw_AB {y:Rat} (hy:AB y (1/2)) (M:Nat):AB (S (pw y) M) 2:=by
 refine (S_AB M λ i _=>zTF hy i).mono ?_
 rw[S_q2];have:=yC M;grind
theorem Lg_AB {y:Rat} (hy:AB y (1/2)) (M:Nat):AB (Lg y M) 2:=by
 have:AB (Lg y M) (S q2 M):=by
  refine S_AB M λ i _=>zDG (zAV i) ((zTF hy (i+1)).mono ?_)
  have q:=yC i;have kk:(0:Rat)<=(i:Rat):=by exact_mod_cast Nat.zero_le i
  have:=Yz kk (YC q);simp only[q2];grind
 refine this.mono ?_;rw[S_q2];have:=yC M;grind
theorem pw_zero (k:Nat):pw 0 (k+1)=0:=by simp only[pw];grind
theorem Lg_zero (M:Nat):Lg 0 M=0:=by
 unfold Lg;rw[kQ M (g:=λ _=>0) (λ i _=>by rw[pw_zero];grind),zP6];grind
theorem G_step (K η:Rat) (M:Nat) (hM:2<=M) (hK:∀ x,AB x 4->AB (E x M) K) (hη:∀ x y,AB x 4->AB y 4->AB (E x M*E y M-E (x+y) M) η)
  {y h b:Rat} (hy:AB y (1/2)) (rj:AB (y+h) (1/2)) (hb:AB h b) (ay:b<=1/12) :
  AB (E (Lg (y+h) M) M*(1-(y+h))-E (Lg y M) M*(1-y)) (K*(33*(b*b)+b*q2 M)+2*η):=by
 have b0:=hb.nonneg;have g1:=Lg_step hy rj M;have g2:=S_pw y M;have g3:=S_pw_AB hy M;have g4:=zTF hy M;have g5:=Lg_AB hy M;have g6:=Lg_AB rj M;have JJ:h*h<=b*b:=by have:=(hb.mul hb).2;grind
 generalize S (pw y) M=g at *;generalize pw y M=pM at *;obtain⟨δ,hδ⟩:∃ δ,δ=Lg (y+h) M-Lg y M:=⟨_,rfl⟩;obtain⟨r,hr⟩:∃ r,r=Lg (y+h) M-Lg y M-h*g:=⟨_,rfl⟩;have Rf:AB r (2*(b*b)):=by rw[hr];exact g1.mono (by grind)
 have bb:=Yz b0 b0;have bb2:=Yz b0 (show 0<=1/12-b by grind)
 have hδb:AB δ (3*b):=by
  have:=(hb.mul g3).add Rf;have e:h*g+r=δ:=by rw[hr,hδ];grind
  rw[e] at this;exact this.mono (by grind)
 have hs:=zAB hδb (by grind) hM
 have hE:=hK _ (g5.mono (by grind))
 have hmul:=hη (Lg y M) δ (g5.mono (by grind)) (hδb.mono (by grind))
 rw[show Lg y M+δ=Lg (y+h) M by rw[hδ];grind] at hmul
 generalize E (Lg (y+h) M) M=A at *;generalize E (Lg y M) M=C at *;generalize E δ M=D at *;obtain⟨s,Aw⟩:∃ s,s=D-1-δ:=⟨_,rfl⟩;rw[<- Aw] at hs;obtain⟨t,ht⟩:∃ t,t=C*D-A:=⟨_,rfl⟩;rw[<- ht] at hmul;have Xz:AB (1-y) (3/2):=by obtain⟨_,_⟩:=hy;constructor<;>grind
 have Jf:AB (1-(y+h)) 2:=by obtain⟨_,_⟩:=rj;constructor<;>grind
 have Cl:AB (1-(y+h)) (3/2):=by obtain⟨_,_⟩:=rj;constructor<;>grind
 have key:A*(1-(y+h))-C*(1-y)=C*(-(h*pM)+r*(1-y)+(-(δ*h))+s*(1-(y+h))) + -(t*(1-(y+h))):=by
  have e1:A=C*D-t:=by grind
  have e2:D=s+1+δ:=by grind
  have e3:δ=h*g+r:=by rw[hr,hδ];grind
  have e4:pM=1-g*(1-y):=by grind
  rw[e1,e2,e4,e3];grind
 rw[key];have m1:=(hb.mul g4).neg;have m2:=Rf.mul Xz;have m3:=(hδb.mul hb).neg;have m4:=hs.mul Cl;have m5:=(hmul.mul Jf).neg;have m:=(hE.mul (((m1.add m2).add m3).add m4)).add m5;refine m.mono ?_;have:=hE.nonneg;have:b*q2 M+2*(b*b)*(3/2)+3*b*b+2*(3*b*(3*b))*(3/2)=33*(b*b)+b*q2 M:=by grind
 rw[this];grind
theorem G_steps (K η:Rat) (M:Nat) (hM:2<=M) (hK:∀ x,AB x 4->AB (E x M) K) (hη:∀ x y,AB x 4->AB y 4->AB (E x M*E y M-E (x+y) M) η)
  {h b:Rat} (n:Nat) (hn:(n:Rat)*b<=1/2) (hb:AB h b) (ay:b<=1/12) (j:Nat) (hj:j<=n) :
  AB (E (Lg ((j:Rat)*h) M) M*(1-(j:Rat)*h)-1) ((j:Rat)*(K*(33*(b*b)+b*q2 M)+2*η)):=by
 have b0:=hb.nonneg
 have I7:∀ i:Nat,i<=n->AB ((i:Rat)*h) (1/2):=λ i hi=>by
  have hi':(i:Rat)<=(n:Rat):=by exact_mod_cast hi
  have JT:(0:Rat)<=(i:Rat):=by exact_mod_cast Nat.zero_le i
  have:AB (i:Rat) (i:Rat):=by constructor<;>grind
  refine (this.mul hb).mono ?_;have:=Yz (show 0<=(n:Rat)-i by grind) b0
  grind
 induction j with
 | zero =>
  have:((0:Nat):Rat)=0:=by simp
  rw[this,Rat.zero_mul,Lg_zero];obtain⟨m,rfl⟩:∃ m,M=m+1:=⟨M-1,by omega⟩
  rw[kT,Rat.zero_mul];constructor<;>grind
 | succ j ih =>
  have ih:=ih (by omega)
  have e4:((j+1:Nat):Rat)=(j:Rat)+1:=by simp
  have h2:=I7 (j+1) hj;rw[e4] at h2 ⊢;have e5:((j:Rat)+1)*h=(j:Rat)*h+h:=by grind
  rw[e5] at h2 ⊢;have g:=G_step K η M hM hK hη (I7 j (by omega)) h2 hb ay
  have:=ih.add g;generalize E (Lg ((j:Rat)*h+h) M) M*(1-((j:Rat)*h+h))=X at *;generalize E (Lg ((j:Rat)*h) M) M*(1-(j:Rat)*h)=Y at *;have e6:Y-1+(X-Y)=X-1:=by grind
  rw[e6] at this;exact this.mono (by grind)
theorem q4_q2 (M:Nat):(M:Rat)*q2 M<=1:=by
 induction M with
 | zero=>simp only[q2];simp;grind
 | succ M ih =>
  have e4:((M+1:Nat):Rat)=(M:Rat)+1:=by simp
  rw[e4];simp only[q2];have:=q2_le M;grind
theorem null_q2:Null q2:=λ e he=>by
 obtain⟨n,gN,aR⟩:=kB (1/e);refine⟨n+1,λ M hM=>?_⟩
 have XV:(n:Rat)<=(M:Rat):=by exact_mod_cast (show n<=M by omega)
 have u:=q4_q2 M;have q:=yC M;have e1:=rdm (a:=1) he;generalize 1/e=d at *;have s1:=Yz (show 0<=(M:Rat)-d by grind) (YC q)
 have s2:=Yz (show 0<=1-d*q2 M by grind) (YC he)
 have s3:(1-d*q2 M)*e=e-d*e*q2 M:=by grind
 rw[s3,e1] at s2;constructor<;>grind
theorem zPE {b n c:Rat} (hn:0<n) (hc:0<c) (h:b*n=c):0<b:=by
 refine Rat.not_le.1 λ hb=>?_
 have:=Yz (show 0 <= -b by grind) (YC hn)
 grind
theorem Lg_exp (e:Rat) (he:0<e):∃ N,∀ M,N<=M->∀ y,AB y (1/2)->AB (E (Lg y M) M*(1-y)-1) e:=by
 obtain⟨K,k0,hK⟩:=zDW 4;obtain⟨L,l0,hL⟩:=zMK 4;obtain⟨n0,gN,aR⟩:=kB (33*K/e);obtain⟨n,hn⟩:∃ n:Nat,n=n0+6:=⟨_,rfl⟩;have oJ:(n0:Rat)+6=(n:Rat):=by rw[hn];simp
 have cT:(0:Rat)<=(n0:Rat):=by exact_mod_cast Nat.zero_le n0
 have npos:(0:Rat)<(n:Rat):=by grind
 have hKn:33*K<=e*(n:Rat):=by
  have e1:=rdm (a:=33*K) he;generalize 33*K/e=d at *;have:=Yz (show 0<=(n:Rat)-d by grind) (YC he)
  grind
 have hn6:(6:Rat)<=(n:Rat):=by grind
 clear hn gN aR oJ cT;have d1:=zF he (show 0<4*(K+1) by grind)
 obtain⟨N1,h1⟩:=null_q2 _ d1;have d2:=zF he (show (0:Rat)<8*(n:Rat) by grind)
 obtain⟨N2,h2⟩:=zB0 L l0 _ d2;refine⟨N1+N2+2,λ M hM y hy=>?_⟩
 have g1:=(h1 M (by omega)).2
 have g2:L*((M:Rat)*q4 M)<=e/(8*(n:Rat)):=(h2 M (by omega)).2
 have e1:=rdm (a:=e) (show 0<4*(K+1) by grind)
 have e2:=rdm (a:=e) (show (0:Rat)<8*(n:Rat) by grind)
 generalize e/(4*(K+1))=c1 at *;generalize e/(8*(n:Rat))=c2 at *;obtain⟨b,Aj⟩:∃ b,b*(n:Rat)=1/2:=⟨1/2/(n:Rat),rdm npos⟩;have b0:0<b:=zPE npos (by grind) Aj
 have hyn:=rdm (a:=y) npos;have hh:AB (y/(n:Rat)) b:=zDG npos (hy.mono (by rw[Rat.mul_comm,Aj];exact Rat.le_refl))
 have ay:b<=1/12:=by
  have h6:=Yz (YC b0) (show 0<=(n:Rat)-6 by grind)
  have h7:b*((n:Rat)-6)=b*n-6*b:=by grind
  rw[h7,Aj] at h6;grind
 have g:=G_steps K (L*((M:Rat)*q4 M)) M (by omega) (hK M) (hL M) n (by rw[Rat.mul_comm,Aj];exact Rat.le_refl) hh ay n (YE _)
 rw[show (n:Rat)*(y/(n:Rat))=y from (Rat.mul_comm _ _).trans hyn] at g
 refine g.mono ?_;generalize L*((M:Rat)*q4 M)=η at *;have q:=yC M;generalize q2 M=Q at *;have t1:(n:Rat)*(K*(33*(b*b)+b*Q)+2*η)=K*(33*b*(b*n)+(b*n)*Q)+2*(n*η):=by grind
 rw[t1,Aj];have t2:=Yz (YC npos) (show 0<=c2-η by grind)
 have t3:=Yz k0 (show 0<=c1-Q by grind)
 have t4:=Yz (YC b0) (show 0<=e*(n:Rat)-33*K by grind)
 have t5:b*(e*(n:Rat)-33*K)=e*(b*n)-33*K*b:=by grind
 rw[t5,Aj] at t4;have t6:(n:Rat)*(c2-η)=(c2*(8*n))/8-n*η:=by grind
 rw[t6,e2] at t2;have t7:K*(c1-Q)=(c1*(4*(K+1)))/4-c1-K*Q:=by grind
 rw[t7,e1] at t3;have t8:K*(33*b*(1/2)+1/2*Q)=33*K*b/2+K*Q/2:=by grind
 rw[t8];generalize K*Q=A at *;generalize 33*K*b=B at *;generalize (n:Rat)*η=C at *;grind
end Go.Proofs.YtgmnknmjainabacGreat.Ex
namespace Go.Proofs.YtgmnknmjainabacGreat.Ex
def IsLog (l r:Nat->Rat):Prop:=Bdd l/\Null (λ M=>Ev l M-r M)
theorem Bdd.of_null {f g:Nat->Rat} (h:Bdd f) (k:Null (λ M=>f M-g M)):Bdd g:=by
 obtain⟨K,N,k0,h⟩:=h.sub k.bdd;exact⟨K,N,k0,λ M hM=>by have:AB (f M-(f M-g M)) K:=h M hM;rw[show f M-(f M-g M)=g M by grind] at this;exact this⟩
theorem IsLog.bdd {l r:Nat->Rat} (h:IsLog l r):Bdd r:=(zAC h.1).of_null h.2
theorem IsLog.le {l r l' r' z:Nat->Rat} (h:IsLog l r) (h':IsLog l' r') (hz:Null z) (N0:Nat) (hr:∀ M,N0<=M->r M<=r' M+z M) (e:Rat) (he:0<e):∃ N,∀ M,N<=M->l M<=l' M+e:=by
 refine zK4 h.1 h'.1 ((h.2.sub h'.2).add hz) N0 (λ M hM=>?_) e he
 have:=hr M hM;grind
theorem IsLog.uniq {l l' r:Nat->Rat} (h:IsLog l r) (h':IsLog l' r):Null (λ M=>l M-l' M):=λ e he=>by
 obtain⟨N,h1⟩:=h.le h' null_zero 0 (λ M _=>by grind) e he
 obtain⟨N',h2⟩:=h'.le h null_zero 0 (λ M _=>by grind) e he
 refine⟨N+N',λ M hM=>?_⟩
 have:=h1 M (by omega)
 have:=h2 M (by omega)
 constructor<;>grind
theorem IsLog.congr {l l' r:Nat->Rat} (h:IsLog l r) (k:Null (λ M=>l M-l' M)):IsLog l' r:=by
 have b:=h.1.of_null k;refine⟨b,?_⟩;refine (h.2.sub (zD5 h.1 b k)).of_eq λ M=>?_
 grind
theorem IsLog.congr_r {l r r':Nat->Rat} (h:IsLog l r) (k:Null (λ M=>r M-r' M)):IsLog l r' :=
 ⟨h.1,(h.2.add k).of_eq λ M=>by grind⟩
theorem IsLog.add {l l' r r':Nat->Rat} (h:IsLog l r) (h':IsLog l' r'):IsLog (λ M=>l M+l' M) (λ M=>r M*r' M):=by
 refine⟨h.1.add h'.1,?_⟩;have n1:=zAI h.1 h'.1;have n2:=h.2.bmul (zAC h'.1);have n3:=h'.2.bmul h.bdd;refine ((n2.add n3).sub n1).of_eq λ M=>?_
 grind
theorem IsLog.neg {l r s:Nat->Rat} (h:IsLog l r) (hs:Bdd s) (N:Nat) (FJ:∀ M,N<=M->s M*r M=1):IsLog (λ M => -l M) s:=by
 refine⟨h.1.neg,?_⟩;have n1:=zPX h.1;have n2:=h.2.bmul (zAC h.1.neg);have n3:=(n1.sub n2).bmul hs;refine n3.of_eq_from N λ M hM=>?_
 have e:=FJ M hM;have:(Ev l M*Ev (λ M => -l M) M-1-(Ev l M-r M)*Ev (λ M => -l M) M)*s M=(s M*r M)*Ev (λ M => -l M) M-s M:=by grind
 rw[this,e];grind
theorem isLog_one:IsLog (λ _=>0) (λ _=>1):=⟨Bdd.const 0,null_zero.of_eq_from 1 λ M hM=>by
 obtain⟨m,rfl⟩:∃ m,M=m+1:=⟨M-1,by omega⟩
 show E 0 (m+1)-1=0
 rw[kT];grind⟩
theorem zNB {y:Nat->Rat} (N0:Nat) (hy:∀ M,N0<=M->AB (y M) (1/2)):IsLog (λ M => -Lg (y M) M) (λ M=>1-y M):=by
 have b1:Bdd (λ M=>Lg (y M) M):=Bdd.of_le 2 N0 λ M hM=>Lg_AB (hy M hM) M
 have b2:Bdd (λ M=>1-y M):=Bdd.of_le 2 N0 λ M hM=>by obtain⟨_,_⟩:=hy M hM;constructor<;>grind
 refine⟨b1.neg,?_⟩;have n1:=(zPX b1).bmul b2
 have n2:Null (λ M=>E (Lg (y M) M) M*(1-y M)-1):=λ e he=>by
  obtain⟨N,h⟩:=Lg_exp e he;exact⟨N+N0,λ M hM=>h M (by omega) _ (hy M (by omega))⟩
 have n3:=n2.bmul (zAC b1.neg);refine (n1.sub n3).of_eq λ M=>?_
 show Ev (λ M => -Lg (y M) M) M-(1-y M)=(E (Lg (y M) M) M*Ev (λ M => -Lg (y M) M) M-1)*(1-y M)-(E (Lg (y M) M) M*(1-y M)-1)*Ev (λ M => -Lg (y M) M) M
 grind
theorem IsLog.times {l r:Nat->Rat} (h:IsLog l r) (k:Nat):IsLog (λ M=>(k:Rat)*l M) (λ M=>pw (r M) k):=by
 induction k with
 | zero =>
  have e1:(λ M=>((0:Nat):Rat)*l M)=λ _=>0:=funext λ M=>by simp;try grind
  rw[e1];exact isLog_one
 | succ k ih =>
  have e1:(λ M=>((k+1:Nat):Rat)*l M)=λ M=>l M+(k:Rat)*l M:=funext λ M=>by
   have:((k+1:Nat):Rat)=(k:Rat)+1:=by simp
   rw[this];grind
  rw[e1];exact h.add ih
theorem Lg_tail {y:Rat} (hy:AB y (1/2)) (a i:Nat):AB (Lg y (a+i)-Lg y a) (2*(q2 a-q2 (a+i))):=by
 induction i with
 | zero=>simp only[Nat.add_zero];constructor<;>grind
 | succ i ih =>
  have e:Lg y (a+(i+1))=Lg y (a+i)+pw y (a+i+1)/(((a+i:Nat):Rat)+1):=rfl;have e2:q2 (a+(i+1))=q2 (a+i)/2:=rfl
  have h:AB (pw y (a+i+1)/(((a+i:Nat):Rat)+1)) (q2 (a+i)):=by
   refine zDG (zAV _) ((zTF hy (a+i+1)).mono ?_);have q:=yC (a+i);have kk:(0:Rat)<=((a+i:Nat):Rat):=by exact_mod_cast Nat.zero_le (a+i)
   have:=Yz kk (YC q);simp only[q2];grind
  have:=ih.add h;rw[e,e2];generalize pw y (a+i+1)/(((a+i:Nat):Rat)+1)=t at *;have h3:Lg y (a+i)+t-Lg y a=Lg y (a+i)-Lg y a+t:=by grind
  rw[h3];exact this.mono (by grind)
theorem zJA {y:Nat->Rat} (N0:Nat) (hy:∀ M,N0<=M->AB (y M) (1/2)):Null (λ M=>Lg (y M) (M+M)-Lg (y M) M):=by
 refine ((null_q2.add null_q2)).of_le N0 λ M hM=>?_
 refine (Lg_tail (hy M hM) M M).mono ?_;have:=yC (M+M);grind
def Az (z:Rat) (M:Nat):Rat:=S (λ k=>pw z (2*k+1)/(2*(k:Rat)+1)) M
theorem pw_neg (z:Rat) (k:Nat):pw (-z) (2*k)=pw z (2*k):=by
 induction k with
 | zero=>rfl
 | succ k ih=>rw[show 2*(k+1)=2*k+1+1 by omega];simp only[pw,ih];grind
theorem Az_Lg (z:Rat) (M:Nat):2*Az z M=Lg z (M+M)-Lg (-z) (M+M):=by
 induction M with
 | zero=>simp[Az,Lg,S];try grind
 | succ M ih =>
  have e:M+1+(M+1)=M+M+1+1:=by omega
  have e1:∀ y,Lg y (M+M+1+1)=Lg y (M+M)+pw y (M+M+1)/(((M+M:Nat):Rat)+1)+pw y (M+M+1+1)/(((M+M+1:Nat):Rat)+1):=λ y=>rfl
  have e2:Az z (M+1)=Az z M+pw z (2*M+1)/(2*(M:Rat)+1):=rfl
  have e3:((M+M:Nat):Rat)=2*(M:Rat):=by
   have:((M+M:Nat):Rat)=(M:Rat)+(M:Rat):=by simp
   rw[this];grind
  rw[e,e1,e1,e2,e3]
  have p1:pw (-z) (M+M+1) = -pw z (M+M+1):=by
   have:=pw_neg z M;rw[show M+M=2*M by omega]
   simp only[pw,this];grind
  have p2:pw (-z) (M+M+1+1)=pw z (M+M+1+1):=by
   have:=pw_neg z (M+1);rw[show 2*(M+1)=M+M+1+1 by omega] at this
   exact this
  rw[p1,p2,show 2*M+1=M+M+1 by omega]
  generalize pw z (M+M+1)=a;generalize pw z (M+M+1+1)/(((M+M+1:Nat):Rat)+1)=b;have : -a/(2*(M:Rat)+1) = -(a/(2*(M:Rat)+1)):=by rw[YK,YK,Rat.neg_mul]
  rw[this];grind
theorem isLog_Az {z r:Nat->Rat} (N0:Nat) (hz:∀ M,N0<=M->AB (z M) (1/2)) (hr:∀ M,N0<=M->r M*(1-z M)=1+z M):IsLog (λ M=>2*Az (z M) M) r:=by
 have h1:=zNB N0 (y:=λ M => -z M) (λ M hM=>(hz M hM).neg)
 have h2:=zNB N0 hz;have hinv:∀ M,N0<=M->1/(1-z M)*(1-z M)=1:=λ M hM=>rdm (by obtain⟨_,_⟩:=hz M hM;grind)
 have h3:=h2.neg (s:=λ M=>1/(1-z M)) (Bdd.of_le 2 N0 λ M hM=>by
  have hp:0<1-z M:=by obtain⟨_,_⟩:=hz M hM;grind
  refine zDG hp ?_;obtain⟨_,_⟩:=hz M hM
  constructor<;>grind) N0 hinv
 have h4:=(h1.add h3).congr_r (r':=r) (null_zero.of_eq_from N0 λ M hM=>by
  have e1:=hinv M hM;have e2:=hr M hM;have hp:0<1-z M:=by obtain⟨_,_⟩:=hz M hM;grind
  generalize 1/(1-z M)=i at *
  have:r M=(1+z M)*i:=by
   have:r M*(1-z M)*i=(1+z M)*i:=by rw[e2]
   have e3:r M*(1-z M)*i=r M*(i*(1-z M)):=by grind
   rw[e3,e1] at this;grind
  grind)
 refine h4.congr ?_;have d1:=zJA N0 hz;have d2:=zJA N0 (y:=λ M => -z M) (λ M hM=>(hz M hM).neg)
 refine (d2.sub d1).of_eq λ M=>?_
 rw[Az_Lg];grind
end Go.Proofs.YtgmnknmjainabacGreat.Ex
