/-
  Its own texts.
-/
import Derived.Test.YtgmnknmjainabacGreatH07
set_option maxRecDepth 100000
set_option maxHeartbeats 40000000
set_option linter.unnecessarySimpa false
set_option linter.unusedSimpArgs false
set_option linter.unusedVariables false
namespace Go.Proofs.YtgmnknmjainabacGreat.Ex
def IsLog (l r:Nat->Rat):Prop:=Bdd l/\Null (λ M=>Ev l M-r M)
theorem Bdd.of_null {f g:Nat->Rat} (h:Bdd f) (k:Null (λ M=>f M-g M)):Bdd g:=by
 obtain⟨K,N,k0,h⟩:=h.sub k.bdd;exact⟨K,N,k0,λ M hM=>by have:AB (f M-(f M-g M)) K:=h M hM;rw[show f M-(f M-g M)=g M by grind] at this;exact this⟩
theorem IsLog.bdd {l r:Nat->Rat} (h:IsLog l r):Bdd r:=(zAH h.1).of_null h.2
theorem IsLog.le {l r l' r' z:Nat->Rat} (h:IsLog l r) (h':IsLog l' r') (hz:Null z) (N0:Nat) (hr:∀ M,N0<=M->r M<=r' M+z M) (e:Rat) (he:0<e):∃ N,∀ M,N<=M->l M<=l' M+e:=by
 refine zK9 h.1 h'.1 ((h.2.sub h'.2).add hz) N0 (λ M hM=>?_) e he
 have:=hr M hM;grind
theorem IsLog.uniq {l l' r:Nat->Rat} (h:IsLog l r) (h':IsLog l' r):Null (λ M=>l M-l' M):=λ e he=>by
 obtain⟨N,h1⟩:=h.le h' null_zero 0 (λ M _=>by grind) e he
 obtain⟨N',h2⟩:=h'.le h null_zero 0 (λ M _=>by grind) e he
 refine⟨N+N',λ M hM=>?_⟩
 have:=h1 M (by omega)
 have:=h2 M (by omega)
 constructor<;>grind
theorem IsLog.congr {l l' r:Nat->Rat} (h:IsLog l r) (k:Null (λ M=>l M-l' M)):IsLog l' r:=by
 have b:=h.1.of_null k;refine⟨b,?_⟩;refine (h.2.sub (zD3 h.1 b k)).of_eq λ M=>?_
 grind
theorem IsLog.congr_r {l r r':Nat->Rat} (h:IsLog l r) (k:Null (λ M=>r M-r' M)):IsLog l r' :=
 ⟨h.1,(h.2.add k).of_eq λ M=>by grind⟩
theorem IsLog.add {l l' r r':Nat->Rat} (h:IsLog l r) (h':IsLog l' r'):IsLog (λ M=>l M+l' M) (λ M=>r M*r' M):=by
 refine⟨h.1.add h'.1,?_⟩;have n1:=zAO h.1 h'.1;have n2:=h.2.bmul (zAH h'.1);have n3:=h'.2.bmul h.bdd;refine ((n2.add n3).sub n1).of_eq λ M=>?_
 grind
theorem IsLog.neg {l r s:Nat->Rat} (h:IsLog l r) (hs:Bdd s) (N:Nat) (Fh:∀ M,N<=M->s M*r M=1):IsLog (λ M => -l M) s:=by
 refine⟨h.1.neg,?_⟩;have n1:=zPX h.1;have n2:=h.2.bmul (zAH h.1.neg);have n3:=(n1.sub n2).bmul hs;refine n3.of_eq_from N λ M hM=>?_
 have e:=Fh M hM;have:(Ev l M*Ev (λ M => -l M) M-1-(Ev l M-r M)*Ev (λ M => -l M) M)*s M=(s M*r M)*Ev (λ M => -l M) M-s M:=by grind
 rw[this,e];grind
theorem isLog_one:IsLog (λ _=>0) (λ _=>1):=⟨Bdd.const 0,null_zero.of_eq_from 1 λ M hM=>by
 obtain⟨m,rfl⟩:∃ m,M=m+1:=⟨M-1,by omega⟩
 show E 0 (m+1)-1=0
 rw[E_zero];grind⟩
theorem zNG {y:Nat->Rat} (N0:Nat) (hy:∀ M,N0<=M->AB (y M) (1/2)):IsLog (λ M => -Lg (y M) M) (λ M=>1-y M):=by
 have b1:Bdd (λ M=>Lg (y M) M):=Bdd.of_le 2 N0 λ M hM=>Lg_AB (hy M hM) M
 have b2:Bdd (λ M=>1-y M):=Bdd.of_le 2 N0 λ M hM=>by obtain⟨_,_⟩:=hy M hM;constructor<;>grind
 refine⟨b1.neg,?_⟩;have n1:=(zPX b1).bmul b2
 have n2:Null (λ M=>E (Lg (y M) M) M*(1-y M)-1):=λ e he=>by
  obtain⟨N,h⟩:=Lg_exp e he;exact⟨N+N0,λ M hM=>h M (by omega) _ (hy M (by omega))⟩
 have n3:=n2.bmul (zAH b1.neg);refine (n1.sub n3).of_eq λ M=>?_
 show Ev (λ M => -Lg (y M) M) M-(1-y M)=(E (Lg (y M) M) M*Ev (λ M => -Lg (y M) M) M-1)*(1-y M)-(E (Lg (y M) M) M*(1-y M)-1)*Ev (λ M => -Lg (y M) M) M
 grind
theorem IsLog.times {l r:Nat->Rat} (h:IsLog l r) (k:Nat):IsLog (λ M=>(k:Rat)*l M) (λ M=>pw (r M) k):=by
 induction k with
 | zero =>
  have e1:(λ M=>((0:Nat):Rat)*l M)=λ _=>0:=funext λ M=>by simp;try grind
  rw[e1];exact isLog_one
 | succ k ih =>
  have e1:(λ M=>((k+1:Nat):Rat)*l M)=λ M=>l M+(k:Rat)*l M:=funext λ M=>by
   have:((k+1:Nat):Rat)=(k:Rat)+1:=by simp
   rw[this];grind
  rw[e1];exact h.add ih
theorem Lg_tail {y:Rat} (hy:AB y (1/2)) (a i:Nat):AB (Lg y (a+i)-Lg y a) (2*(q2 a-q2 (a+i))):=by
 induction i with
 | zero=>simp only[Nat.add_zero];constructor<;>grind
 | succ i ih =>
  have e:Lg y (a+(i+1))=Lg y (a+i)+pw y (a+i+1)/(((a+i:Nat):Rat)+1):=rfl;have e2:q2 (a+(i+1))=q2 (a+i)/2:=rfl
  have h:AB (pw y (a+i+1)/(((a+i:Nat):Rat)+1)) (q2 (a+i)):=by
   refine zDB (zBN _) ((zTC hy (a+i+1)).mono ?_);have q:=yP (a+i);have kk:(0:Rat)<=((a+i:Nat):Rat):=by exact_mod_cast Nat.zero_le (a+i)
   have:=YV kk (YZ q);simp only[q2];grind
  have:=ih.add h;rw[e,e2];generalize pw y (a+i+1)/(((a+i:Nat):Rat)+1)=t at *;have h3:Lg y (a+i)+t-Lg y a=Lg y (a+i)-Lg y a+t:=by grind
  rw[h3];exact this.mono (by grind)
theorem zJD {y:Nat->Rat} (N0:Nat) (hy:∀ M,N0<=M->AB (y M) (1/2)):Null (λ M=>Lg (y M) (M+M)-Lg (y M) M):=by
 refine ((null_q2.add null_q2)).of_le N0 λ M hM=>?_
 refine (Lg_tail (hy M hM) M M).mono ?_;have:=yP (M+M);grind
def Az (z:Rat) (M:Nat):Rat:=S (λ k=>pw z (2*k+1)/(2*(k:Rat)+1)) M
theorem pw_neg (z:Rat) (k:Nat):pw (-z) (2*k)=pw z (2*k):=by
 induction k with
 | zero=>rfl
 | succ k ih=>rw[show 2*(k+1)=2*k+1+1 by omega];simp only[pw,ih];grind
theorem Az_Lg (z:Rat) (M:Nat):2*Az z M=Lg z (M+M)-Lg (-z) (M+M):=by
 induction M with
 | zero=>simp[Az,Lg,S];try grind
 | succ M ih =>
  have e:M+1+(M+1)=M+M+1+1:=by omega
  have e1:∀ y,Lg y (M+M+1+1)=Lg y (M+M)+pw y (M+M+1)/(((M+M:Nat):Rat)+1)+pw y (M+M+1+1)/(((M+M+1:Nat):Rat)+1):=λ y=>rfl
  have e2:Az z (M+1)=Az z M+pw z (2*M+1)/(2*(M:Rat)+1):=rfl
  have e3:((M+M:Nat):Rat)=2*(M:Rat):=by
   have:((M+M:Nat):Rat)=(M:Rat)+(M:Rat):=by simp
   rw[this];grind
  rw[e,e1,e1,e2,e3]
  have p1:pw (-z) (M+M+1) = -pw z (M+M+1):=by
   have:=pw_neg z M;rw[show M+M=2*M by omega]
   simp only[pw,this];grind
  have p2:pw (-z) (M+M+1+1)=pw z (M+M+1+1):=by
   have:=pw_neg z (M+1);rw[show 2*(M+1)=M+M+1+1 by omega] at this
   exact this
  rw[p1,p2,show 2*M+1=M+M+1 by omega]
  generalize pw z (M+M+1)=a;generalize pw z (M+M+1+1)/(((M+M+1:Nat):Rat)+1)=b;have : -a/(2*(M:Rat)+1) = -(a/(2*(M:Rat)+1)):=by rw[Rat.div_def,Rat.div_def,Rat.neg_mul]
  rw[this];grind
theorem isLog_Az {z r:Nat->Rat} (N0:Nat) (hz:∀ M,N0<=M->AB (z M) (1/2)) (hr:∀ M,N0<=M->r M*(1-z M)=1+z M):IsLog (λ M=>2*Az (z M) M) r:=by
 have h1:=zNG N0 (y:=λ M => -z M) (λ M hM=>(hz M hM).neg)
 have h2:=zNG N0 hz;have hinv:∀ M,N0<=M->1/(1-z M)*(1-z M)=1:=λ M hM=>rdm (by obtain⟨_,_⟩:=hz M hM;grind)
 have h3:=h2.neg (s:=λ M=>1/(1-z M)) (Bdd.of_le 2 N0 λ M hM=>by
  have hp:0<1-z M:=by obtain⟨_,_⟩:=hz M hM;grind
  refine zDB hp ?_;obtain⟨_,_⟩:=hz M hM
  constructor<;>grind) N0 hinv
 have h4:=(h1.add h3).congr_r (r':=r) (null_zero.of_eq_from N0 λ M hM=>by
  have e1:=hinv M hM;have e2:=hr M hM;have hp:0<1-z M:=by obtain⟨_,_⟩:=hz M hM;grind
  generalize 1/(1-z M)=i at *
  have:r M=(1+z M)*i:=by
   have:r M*(1-z M)*i=(1+z M)*i:=by rw[e2]
   have e3:r M*(1-z M)*i=r M*(i*(1-z M)):=by grind
   rw[e3,e1] at this;grind
  grind)
 refine h4.congr ?_;have d1:=zJD N0 hz;have d2:=zJD N0 (y:=λ M => -z M) (λ M hM=>(hz M hM).neg)
 refine (d2.sub d1).of_eq λ M=>?_
 rw[Az_Lg];grind
end Go.Proofs.YtgmnknmjainabacGreat.Ex
namespace Go.Proofs.YtgmnknmjainabacGreat
open Ex
theorem zEA (a b c d:Int):kM (pr4 a b c d) 3<=a/\kM (pr4 a b c d) 3<=b/\kM (pr4 a b c d) 3<=c/\kM (pr4 a b c d) 3<=d/\(kM (pr4 a b c d) 3=a\/kM (pr4 a b c d) 3=b\/kM (pr4 a b c d) 3=c\/kM (pr4 a b c d) 3=d):=by
 simp only[kM,pr4];simp;repeat' split
 all_goals omega
theorem zC4 (a b c d:Int):a<=jZ (pr4 a b c d) 3/\b<=jZ (pr4 a b c d) 3/\c<=jZ (pr4 a b c d) 3/\d<=jZ (pr4 a b c d) 3/\(jZ (pr4 a b c d) 3=a\/jZ (pr4 a b c d) 3=b\/jZ (pr4 a b c d) 3=c\/jZ (pr4 a b c d) 3=d):=by
 simp only[jZ,pr4];simp;repeat' split
 all_goals omega
def zAL (B:Nat) (a b:Int × Int):Int × Int:=(kM (pr4 (a.1*b.1) (a.1*b.2) (a.2*b.1) (a.2*b.2)) 3/Q B,-(-(jZ (pr4 (a.1*b.1) (a.1*b.2) (a.2*b.1) (a.2*b.2)) 3)/Q B))
def zB8 (a b:Int × Int):Int × Int:=(a.1+b.1,a.2+b.2)
def zJB (a b:Int × Int):Int × Int:=(a.1-b.2,a.2-b.1)
def zJ (a:Int × Int) (n d:Int):Int × Int:=(a.1*n/d,-(-(a.2*n)/d))
def kI (a:Int × Int) (n:Int):Int × Int:=(a.1*n,a.2*n)
def zW (a:Int × Int):Int:=zGA a.2 (-a.1)
def ofI (n d:Int) (B:Nat):Int × Int:=(n*Q B/d,-(-(n*Q B)/d))
def zF (a:Int × Int) (t:Nat):Int × Int:=(a.1/Q t,-(-a.2/Q t))
def jE (f:Nat->Int × Int):Nat->Int × Int
 | 0=>f 0
 | n+1=>zB8 (jE f n) (f (n+1))
def zU (f:Nat->Int × Int) (N:Nat):Prop:=zW (f N)<=1/\∀ n,n<N->1<zW (f n)
def zM (f:Nat->Int × Int) (N:Nat):Int × Int:=zB8 (jE f N) (-zW (f N),zW (f N))
def sqI (B:Nat) (a:Int × Int):Nat->Int × Int
 | 0=>a
 | t+1=>zAL B (sqI B a t) (sqI B a t)
def Abs (a:Int × Int) (m:Int):Prop := -m<=a.1/\a.1<=m /\ -m<=a.2/\a.2<=m
theorem zEJ {a:Int × Int} (h:a.1<=a.2):Abs a (zW a):=by
 unfold Abs zW zGA;split<;>omega
theorem zAJ {a:Int × Int} {m:Int} (h:Abs a m):zW a<=m:=by
 obtain⟨h1,h2,h3,h4⟩:=h;unfold zW zGA;split<;>omega
theorem Abs.nonneg {a:Int × Int} {m:Int} (h:Abs a m):0<=m:=by obtain⟨h1,h2,h3,h4⟩:=h;omega
theorem Abs.mono {a:Int × Int} {m n:Int} (h:Abs a m) (k:m<=n):Abs a n:=by obtain⟨h1,h2,h3,h4⟩:=h;exact⟨by omega,by omega,by omega,by omega⟩
theorem Abs.add {a b:Int × Int} {m n:Int} (h:Abs a m) (k:Abs b n):Abs (zB8 a b) (m+n):=by
 obtain⟨h1,h2,h3,h4⟩:=h;obtain⟨k1,k2,k3,k4⟩:=k;refine⟨?_,?_,?_,?_⟩<;>simp only[zB8]<;>omega
theorem yU {x y m n:Int} (h1 : -m<=x) (h2:x<=m) (k1 : -n<=y) (k2:y<=n) : -(m*n)<=x*y/\x*y<=m*n:=by
 have p1:=Zc (show 0<=m-x by omega) (show 0<=n+y by omega)
 have p2:=Zc (show 0<=m+x by omega) (show 0<=n-y by omega)
 have p3:=Zc (show 0<=m-x by omega) (show 0<=n-y by omega)
 have p4:=Zc (show 0<=m+x by omega) (show 0<=n+y by omega)
 constructor<;>grind
theorem jJ {x m q:Int} (hq:0<q) (h1 : -(m*q)<=x) (h2:x<=m*q) : -m<=x/q/\x/q<=m /\ -m <= -(-x/q) /\ -(-x/q)<=m:=by
 have a1 : -m<=x/q:=by rw[Int.le_ediv_iff_mul_le hq,Int.neg_mul];exact h1
 have a2 : -m <= -x/q:=by rw[Int.le_ediv_iff_mul_le hq,Int.neg_mul];omega
 have a3:=zE9 x q hq;have a4:=zCY x q hq;refine⟨a1,?_,?_,by omega⟩
 ·refine Int.not_lt.1 λ hn=>?_
  have:=YW (show m+1<=x/q by omega) (show 0<=q by omega)
  rw[Int.add_mul] at this;omega
 ·refine Int.not_lt.1 λ hn=>?_
  have:=YW (show -(-x/q) <= -m-1 by omega) (show 0<=q by omega)
  have e:(-m-1)*q = -(m*q)-q:=by grind
  rw[e] at this;omega
theorem zCQ {B:Nat} {a b:Int × Int} {m n p:Int} (h:Abs a m) (k:Abs b n) (hp:m*n<=p*Q B):Abs (zAL B a b) p:=by
 obtain⟨h1,h2,h3,h4⟩:=h;obtain⟨k1,k2,k3,k4⟩:=k;have q:=zE B;have c1:=yU h1 h2 k1 k2;have c2:=yU h1 h2 k3 k4;have c3:=yU h3 h4 k1 k2;have c4:=yU h3 h4 k3 k4;have l:=(zEA (a.1*b.1) (a.1*b.2) (a.2*b.1) (a.2*b.2)).2.2.2.2;have g:=(zC4 (a.1*b.1) (a.1*b.2) (a.2*b.1) (a.2*b.2)).2.2.2.2;have r1:=jJ (x:=kM (pr4 (a.1*b.1) (a.1*b.2) (a.2*b.1) (a.2*b.2)) 3) (m:=p) (show 0<Q B by omega) (by omega) (by omega)
 have r2:=jJ (x:=jZ (pr4 (a.1*b.1) (a.1*b.2) (a.2*b.1) (a.2*b.2)) 3) (m:=p) (show 0<Q B by omega) (by omega) (by omega)
 exact⟨r1.1,r1.2.1,r2.2.2.1,r2.2.2.2⟩
theorem zB2 (B:Nat) {a b:Int × Int}:(zAL B a b).1<=(zAL B a b).2:=by
 have q:=zE B;have l:=zEA (a.1*b.1) (a.1*b.2) (a.2*b.1) (a.2*b.2);have g:=zC4 (a.1*b.1) (a.1*b.2) (a.2*b.1) (a.2*b.2);simp only[zAL];have a1:=zE9 (kM (pr4 (a.1*b.1) (a.1*b.2) (a.2*b.1) (a.2*b.2)) 3) (Q B) (by omega)
 have a2:=zCY (jZ (pr4 (a.1*b.1) (a.1*b.2) (a.2*b.1) (a.2*b.2)) 3) (Q B) (by omega)
 refine Int.not_lt.1 λ hn=>?_
 have:=Int.mul_lt_mul_of_pos_right hn (show 0<Q B by omega)
 omega
theorem zE3 {a:Int × Int} {m n d:Int} (h:Abs a m) (hd:0<d) (hn:0<=n) (iP:n<=d):Abs (zJ a n d) m:=by
 have m0:=h.nonneg;obtain⟨h1,h2,h3,h4⟩:=h;have p:=Zc m0 (show 0<=d-n by omega)
 have c1:=yU h1 h2 (show -n<=n by omega) (Int.le_refl n)
 have c2:=yU h3 h4 (show -n<=n by omega) (Int.le_refl n)
 rw[Int.mul_sub] at p;have r1:=jJ (x:=a.1*n) (m:=m) hd (by omega) (by omega)
 have r2:=jJ (x:=a.2*n) (m:=m) hd (by omega) (by omega)
 exact⟨r1.1,r1.2.1,r2.2.2.1,r2.2.2.2⟩
theorem kR {a:Int × Int} {n d:Int} (h:a.1<=a.2) (hd:0<d) (hn:0<=n):(zJ a n d).1<=(zJ a n d).2:=by
 simp only[zJ];have a1:=zE9 (a.1*n) d hd;have a2:=zCY (a.2*n) d hd;have a3:=YW h hn;refine Int.not_lt.1 λ hn=>?_
 have:=Int.mul_lt_mul_of_pos_right hn hd;omega
theorem zLO {x y x' y' a1 a2 b1 b2 m n:Int} (hx:x=a1\/x=a2) (hy:y=b1\/y=b2) (qX:x'=a1\/x'=a2) (oJ:y'=b1\/y'=b2)
  (ha:a1<=a2) (hb:b1<=b2) (h1 : -m<=a1) (h2:a1<=m) (h3 : -m<=a2) (h4:a2<=m) (k1 : -n<=b1) (k2:b1<=n) (k3 : -n<=b2) (k4:b2<=n) :
  x*y-x'*y'<=m*(b2-b1)+n*(a2-a1):=by
 have e:x*y-x'*y'=x*(y-y')+(x-x')*y':=by grind
 rw[e];have c1 : -m<=x/\x<=m:=by rcases hx with h|h<;>subst h<;>exact⟨by assumption,by assumption⟩
 have c2 : -n<=y'/\y'<=n:=by rcases oJ with h|h<;>subst h<;>exact⟨by assumption,by assumption⟩
 have d1 : -(b2-b1)<=y-y'/\y-y'<=b2-b1:=by rcases hy with h|h<;>rcases oJ with h'|h'<;>omega
 have d2 : -(a2-a1)<=x-x'/\x-x'<=a2-a1:=by rcases hx with h|h<;>rcases qX with h'|h'<;>omega
 have g1:=(yU c1.1 c1.2 d1.1 d1.2).2;have g2:=(yU d2.1 d2.2 c2.1 c2.2).2;rw[Int.mul_comm n];omega
theorem zBV {x y q c:Int} (hq:0<q) (h:x-y<=c*q) : -(-x/q)-y/q<=c+1:=by
 have a1:=zLM x q hq;have a2:=flo_gt y q hq;refine Int.not_lt.1 λ hn=>?_
 have:=YW (show c+2 <= -(-x/q)-y/q by omega) (show 0<=q by omega)
 rw[Int.sub_mul,Int.add_mul] at this;omega
theorem zA3 {B:Nat} {a b:Int × Int} {m n c:Int} (h:Abs a m) (k:Abs b n) (ha:a.1<=a.2) (hb:b.1<=b.2) (hc:m*(b.2-b.1)+n*(a.2-a.1)<=c*Q B):(zAL B a b).2-(zAL B a b).1<=c+1:=by
 obtain⟨h1,h2,h3,h4⟩:=h;obtain⟨k1,k2,k3,k4⟩:=k;have q:=zE B;have l:=(zEA (a.1*b.1) (a.1*b.2) (a.2*b.1) (a.2*b.2)).2.2.2.2;have g:=(zC4 (a.1*b.1) (a.1*b.2) (a.2*b.1) (a.2*b.2)).2.2.2.2;refine zBV (show 0<Q B by omega) (Int.le_trans ?_ hc)
 have key:=λ x y x' y' (hx:x=a.1\/x=a.2) (hy:y=b.1\/y=b.2) (qX:x'=a.1\/x'=a.2) (oJ:y'=b.1\/y'=b.2)=>zLO hx hy qX oJ ha hb h1 h2 h3 h4 k1 k2 k3 k4
 rcases g with g|g|g|g<;>rcases l with l|l|l|l<;>rw[g,l]<;>exact key _ _ _ _ (by simp) (by simp) (by simp) (by simp)
theorem kK {a:Int × Int} {n d c:Int} (hd:0<d) (h:(a.2-a.1)*n<=c*d):(zJ a n d).2-(zJ a n d).1<=c+1:=by
 refine zBV hd ?_;rw[<- Int.sub_mul];exact h
def Iv (B:Nat) (a:Int × Int) (x:Nat->Rat):Prop:=Has ((a.1:Rat)/(Q B:Rat)) ((a.2:Rat)/(Q B:Rat)) x
theorem jM (B:Nat):(0:Rat)<(Q B:Rat):=by exact_mod_cast (show (0:Int)<Q B by have:=zE B;omega)
theorem kG {a b c:Rat} (hc:0<c) (h:a*c<=b):a<=b/c:=by
 have e:=rdm (a:=b) hc;generalize b/c=q at *;refine Rat.not_lt.1 λ hn=>?_
 have:=Rat.mul_pos hc (show 0<a-q by grind)
 grind
theorem kF {a b c:Rat} (hc:0<c) (h:a<=b*c):a/c<=b:=by
 have e:=rdm (a:=a) hc;generalize a/c=q at *;refine Rat.not_lt.1 λ hn=>?_
 have:=Rat.mul_pos hc (show 0<q-b by grind)
 grind
theorem jF {a b:Int} (h:a<=b):(a:Rat)<=(b:Rat):=by exact_mod_cast h
theorem zKB {L u v q:Int} (hq:0<q) (h:L*q<=u*v):(L:Rat)/(q:Rat)<=(u:Rat)/(q:Rat)*((v:Rat)/(q:Rat)):=by
 have q0:(0:Rat)<(q:Rat):=by exact_mod_cast hq
 have e1:=rdm (a:=(u:Rat)) q0;have e2:=rdm (a:=(v:Rat)) q0;have h1:=jF h;rw[Ze,Ze] at h1;refine kF q0 ?_;generalize (u:Rat)/(q:Rat)=U at *;generalize (v:Rat)/(q:Rat)=V at *;rw[<- e1,<- e2] at h1;refine Rat.not_lt.1 λ hn=>?_
 have:=Rat.mul_pos (show 0<(L:Rat)-U*V*(q:Rat) by grind) q0
 grind
theorem zJ9 {L u v q:Int} (hq:0<q) (h:u*v<=L*q):(u:Rat)/(q:Rat)*((v:Rat)/(q:Rat))<=(L:Rat)/(q:Rat):=by
 have q0:(0:Rat)<(q:Rat):=by exact_mod_cast hq
 have e1:=rdm (a:=(u:Rat)) q0;have e2:=rdm (a:=(v:Rat)) q0;have h1:=jF h;rw[Ze,Ze] at h1;refine kG q0 ?_;generalize (u:Rat)/(q:Rat)=U at *;generalize (v:Rat)/(q:Rat)=V at *;rw[<- e1,<- e2] at h1;refine Rat.not_lt.1 λ hn=>?_
 have:=Rat.mul_pos (show 0<U*V*(q:Rat)-(L:Rat) by grind) q0
 grind
theorem Iv.mul {B:Nat} {a b:Int × Int} {x y:Nat->Rat} (h:Iv B a x) (k:Iv B b y):Iv B (zAL B a b) (λ M=>x M*y M):=by
 have q0:0<Q B:=by have:=zE B;omega
 have l:=zEA (a.1*b.1) (a.1*b.2) (a.2*b.1) (a.2*b.2);have g:=zC4 (a.1*b.1) (a.1*b.2) (a.2*b.1) (a.2*b.2);have fl:=zE9 (kM (pr4 (a.1*b.1) (a.1*b.2) (a.2*b.1) (a.2*b.2)) 3) (Q B) q0;have ce:=zCY (jZ (pr4 (a.1*b.1) (a.1*b.2) (a.2*b.1) (a.2*b.2)) 3) (Q B) q0;exact Has.mul h k (zKB q0 (Int.le_trans fl l.1)) (zKB q0 (Int.le_trans fl l.2.1)) (zKB q0 (Int.le_trans fl l.2.2.1)) (zKB q0 (Int.le_trans fl l.2.2.2.1)) (zJ9 q0 (Int.le_trans g.1 ce)) (zJ9 q0 (Int.le_trans g.2.1 ce)) (zJ9 q0 (Int.le_trans g.2.2.1 ce)) (zJ9 q0 (Int.le_trans g.2.2.2.1 ce))
theorem zB0 (a b c:Rat):(a+b)/c=a/c+b/c:=by rw[Rat.div_def,Rat.div_def,Rat.div_def,Rat.add_mul]
theorem zN3 (a b c:Rat):(a-b)/c=a/c-b/c:=by rw[Rat.sub_eq_add_neg,Rat.div_def,Rat.add_mul,Rat.neg_mul,Rat.div_def,Rat.div_def,<- Rat.sub_eq_add_neg]
theorem Iv.add {B:Nat} {a b:Int × Int} {x y:Nat->Rat} (h:Iv B a x) (k:Iv B b y):Iv B (zB8 a b) (λ M=>x M+y M):=by
 have:=Has.add h k;rw[<- zB0,<- zB0,<- Rat.intCast_add,<- Rat.intCast_add] at this;exact this
theorem Iv.sub {B:Nat} {a b:Int × Int} {x y:Nat->Rat} (h:Iv B a x) (k:Iv B b y):Iv B (zJB a b) (λ M=>x M-y M):=by
 have:=Has.sub h k;rw[<- zN3,<- zN3,<- Rat.intCast_sub,<- Rat.intCast_sub] at this;exact this
theorem Iv.times {B:Nat} {a:Int × Int} {x:Nat->Rat} (h:Iv B a x) (n:Nat):Iv B (kI a n) (λ M=>(n:Rat)*x M):=by
 have:=Has.scale h (c:=(n:Rat)) (by exact_mod_cast Nat.zero_le n)
 have e:∀ z:Int,(n:Rat)*((z:Rat)/(Q B:Rat))=((z*(n:Int):Int):Rat)/(Q B:Rat):=λ z=>by
  rw[Ze,Rat.div_def,Rat.div_def,<- Rat.mul_assoc,Rat.mul_comm (n:Rat)];rfl
 rw[e,e] at this;exact this
theorem zRK {L u n d q:Int} (hd:0<d) (hq:0<q) (h:L*d<=u*n):(L:Rat)/(q:Rat)<=(n:Rat)/(d:Rat)*((u:Rat)/(q:Rat)):=by
 have q0:(0:Rat)<(q:Rat):=by exact_mod_cast hq
 have d0:(0:Rat)<(d:Rat):=by exact_mod_cast hd
 have e1:=rdm (a:=(u:Rat)) q0;have e2:=rdm (a:=(n:Rat)) d0;have h1:=jF h;rw[Ze,Ze] at h1;refine kF q0 ?_;generalize (u:Rat)/(q:Rat)=U at *;generalize (n:Rat)/(d:Rat)=V at *;rw[<- e1,<- e2] at h1;refine Rat.not_lt.1 λ hn=>?_
 have:=Rat.mul_pos (show 0<(L:Rat)-V*U*(q:Rat) by grind) d0
 grind
theorem zRJ {L u n d q:Int} (hd:0<d) (hq:0<q) (h:u*n<=L*d):(n:Rat)/(d:Rat)*((u:Rat)/(q:Rat))<=(L:Rat)/(q:Rat):=by
 have q0:(0:Rat)<(q:Rat):=by exact_mod_cast hq
 have d0:(0:Rat)<(d:Rat):=by exact_mod_cast hd
 have e1:=rdm (a:=(u:Rat)) q0;have e2:=rdm (a:=(n:Rat)) d0;have h1:=jF h;rw[Ze,Ze] at h1;refine kG q0 ?_;generalize (u:Rat)/(q:Rat)=U at *;generalize (n:Rat)/(d:Rat)=V at *;rw[<- e1,<- e2] at h1;refine Rat.not_lt.1 λ hn=>?_
 have:=Rat.mul_pos (show 0<V*U*(q:Rat)-(L:Rat) by grind) d0
 grind
theorem Iv.scale {B:Nat} {a:Int × Int} {x:Nat->Rat} (h:Iv B a x) {n d:Int} (hn:0<=n) (hd:0<d):Iv B (zJ a n d) (λ M=>(n:Rat)/(d:Rat)*x M):=by
 have q0:0<Q B:=by have:=zE B;omega
 have d0:(0:Rat)<(d:Rat):=by exact_mod_cast hd
 have n0:(0:Rat)<=(n:Rat):=by exact_mod_cast hn
 have c0:0<=(n:Rat)/(d:Rat):=kG d0 (by grind)
 exact (Has.scale h c0).mono (zRK hd q0 (zE9 (a.1*n) d hd)) (zRJ hd q0 (zCY (a.2*n) d hd))
theorem Iv.of (B:Nat) {n d:Int} (hd:0<d):Iv B (ofI n d B) (λ _=>(n:Rat)/(d:Rat)):=by
 have q0:0<Q B:=by have:=zE B;omega
 have qr:=jM B
 have e:(n:Rat)/(d:Rat)*((Q B:Rat)/(Q B:Rat))=(n:Rat)/(d:Rat):=by
  rw[Rat.div_def (Q B:Rat),Rat.mul_inv_cancel _ (by grind),Rat.mul_one]
 have l:=zRK hd q0 (L:=(ofI n d B).1) (u:=Q B) (n:=n) (by rw[Int.mul_comm (Q B)];exact zE9 (n*Q B) d hd)
 have g:=zRJ hd q0 (L:=(ofI n d B).2) (u:=Q B) (n:=n) (by rw[Int.mul_comm (Q B)];exact zCY (n*Q B) d hd)
 rw[e] at l g;exact Has.const l g
theorem Iv.to {B m:Nat} {a:Int × Int} {x:Nat->Rat} (h:Iv (B+m) a x):Iv B (zF a m) x:=by
 have q:=jM B;have qm:=jM m;have e:(Q (B+m):Rat)=(Q B:Rat)*(Q m:Rat):=by rw[jD,Ze]
 have f1:=zE9 a.1 (Q m) (by have:=zE m;omega)
 have f2:=zCY a.2 (Q m) (by have:=zE m;omega)
 have q2:0<(Q B:Rat)*(Q m:Rat):=Rat.mul_pos q qm;unfold Iv at h;rw[e] at h;refine Has.mono h ?_ ?_
 ·have g:(((zF a m).1*Q m:Int):Rat)<=((a.1:Int):Rat):=jF f1
  rw[Ze] at g;refine kG q2 ?_;have ea:=rdm (a:=((zF a m).1:Rat)) q;generalize ((zF a m).1:Rat)/(Q B:Rat)=U at *;generalize ((zF a m).1:Rat)=L at *;rw[<- ea] at g;grind
 ·have g:((a.2:Int):Rat)<=(((zF a m).2*Q m:Int):Rat):=jF f2
  rw[Ze] at g;refine kF q2 ?_;have ea:=rdm (a:=((zF a m).2:Rat)) q;generalize ((zF a m).2:Rat)/(Q B:Rat)=U at *;generalize ((zF a m).2:Rat)=L at *;rw[<- ea] at g;grind
theorem Iv.down {B:Nat} {a:Int × Int} {x:Nat->Rat} (h:Iv B a x) (t:Nat):Iv B (zF a t) (λ M=>x M/(Q t:Rat)):=by
 have qt:0<Q t:=by have:=zE t;omega
 have:=h.scale (n:=1) (d:=Q t) (by omega) qt
 have e:zJ a 1 (Q t)=zF a t:=by simp[zJ,zF]
 rw[e] at this;refine Has.of_eq this λ M=>?_
 rw[Rat.div_def,Rat.div_def,Rat.mul_comm];simp
theorem Iv.touch {B C:Nat} {a b:Int × Int} {x:Nat->Rat} (h:Iv B a x) (k:Iv C b x):a.1*Q C<=b.2*Q B:=by
 have q:=jM B;have q':=jM C;have t:=Has.touch h k;have e1:=rdm (a:=(a.1:Rat)) q;have e2:=rdm (a:=(b.2:Rat)) q'
 have:((a.1*Q C:Int):Rat)<=((b.2*Q B:Int):Rat):=by
  rw[Ze,Ze];generalize (a.1:Rat)/(Q B:Rat)=U at *;generalize (b.2:Rat)/(Q C:Rat)=V at *;rw[<- e1,<- e2];have:=YV (YV (show 0<=V-U by grind) (YZ q)) (YZ q')
  grind
 exact_mod_cast this
theorem Iv.touch_le {B:Nat} {a b:Int × Int} {x y z:Nat->Rat} (h:Iv B a x) (k:Iv B b y) (hz:Null z) (N0:Nat) (P7:∀ M,N0<=M->x M<=y M+z M):a.1<=b.2:=by
 have q:=jM B;have t:=Has.touch_le h k hz N0 P7;have e1:=rdm (a:=(a.1:Rat)) q;have e2:=rdm (a:=(b.2:Rat)) q
 have:((a.1:Int):Rat)<=((b.2:Int):Rat):=by
  generalize (a.1:Rat)/(Q B:Rat)=U at *;generalize (b.2:Rat)/(Q B:Rat)=V at *;rw[<- e1,<- e2];have:=YV (show 0<=V-U by grind) (YZ q)
  grind
 exact_mod_cast this
theorem Iv.congr {B:Nat} {a:Int × Int} {x y:Nat->Rat} (h:Iv B a x) (k:Null (λ M=>y M-x M)):Iv B a y:=Has.congr h k
theorem zP4 {B s:Nat} (hs:s<=B) (n:Nat):Q (B-s*n)*Q (B-s)<=Q (B-s*(n+1))*Q B:=by
 rw[<- jD,<- jD];refine zH ?_;rw[Nat.mul_add,Nat.mul_one];generalize s*n=k;omega
theorem zBW {p:Nat->Prop} {K:Nat} (h:p K):∃ N,N<=K/\p N/\∀ n,n<N->¬ p n:=by
 induction K using Nat.strongRecOn with
 | ind K ih =>
  by_cases hk:∃ m,m<K/\p m
  ·obtain⟨m,hm,hp⟩:=hk
   obtain⟨N,h1,h2⟩:=ih m hm hp;exact⟨N,by omega,h2⟩
  ·exact⟨K,Zb _,h,λ n hn hp=>hk ⟨n,hn,hp⟩⟩
theorem zB7 {B s:Nat} {f:Nat->Int × Int} (hs:1<=s) (h:∀ n,Abs (f n) (Q (B-s*n))):∃ N,N<=B/s+1/\zU f N:=by
 have h1:zW (f (B/s+1))<=1:=by
  have:=zAJ (h (B/s+1))
  have e:B-s*(B/s+1)=0:=by
   have:=Nat.lt_mul_div_succ B (show 0<s by omega)
   omega
  rw[e] at this;simp[Q] at this;exact this
 obtain⟨N,n1,n2,n3⟩:=zBW (p:=λ n=>zW (f n)<=1) h1
 exact⟨N,n1,n2,λ n hn=>by have:=n3 n hn;simp at this;omega⟩
theorem zJZ {B s N n:Nat} {f:Nat->Int × Int} (hs:1<=s) (h:∀ n,Abs (f n) (Q (B-s*n))) (hN:zU f N) (hn:n<N):2*Q (B-s*(n+1))<=Q (B-s*n):=by
 have h1:=hN.2 n hn;have h2:=zAJ (h n)
 have h3:1<=B-s*n:=by
  refine Nat.pos_of_ne_zero λ e=>?_
  rw[e] at h2;simp[Q] at h2;omega
 have e:2*Q (B-s*(n+1))=Q (B-s*(n+1)+1):=rfl;rw[e];refine zH ?_;rw[Nat.mul_add,Nat.mul_one];generalize s*n=k at *;omega
theorem zFQ {B s N:Nat} {f:Nat->Int × Int} (hs:1<=s) (h:∀ n,Abs (f n) (Q (B-s*n))) (hN:zU f N) (n:Nat) (hn:n<=N):Abs (jE f n) (2*Q B-Q (B-s*n)):=by
 induction n with
 | zero=>simp only[jE];exact (h 0).mono (by simp;omega)
 | succ n ih =>
  have h1:=(ih (by omega)).add (h (n+1))
  have h2:=zJZ hs h hN (show n<N by omega)
  simp only[jE];exact h1.mono (by omega)
theorem sum_abs1 {B s N:Nat} {f:Nat->Int × Int} (hs:1<=s) (h:∀ n,Abs (f n) (Q (B-s*n))) (hN:zU f N) (n:Nat) (hn:n+1<=N):Abs (jE f (n+1)) (Q B+2*Q (B-s)-Q (B-s*(n+1))):=by
 induction n with
 | zero =>
  simp only[jE];have:=(h 0).add (h 1);refine this.mono ?_;simp;omega
 | succ n ih =>
  have h1:=(ih (by omega)).add (h (n+1+1))
  have h2:=zJZ hs h hN (show n+1<N by omega)
  have e:jE f (n+1+1)=zB8 (jE f (n+1)) (f (n+1+1)):=rfl;rw[e];exact h1.mono (by omega)
theorem zAS {a:Int × Int} (h:a.1<=a.2):0<=zW a:=(zEJ h).nonneg
theorem zF0 {B s N:Nat} {f:Nat->Int × Int} (hs:1<=s) (hle:∀ n,(f n).1<=(f n).2) (h:∀ n,Abs (f n) (Q (B-s*n))) (hN:zU f N):Abs (zM f N) (2*Q B):=by
 have h1:=zFQ hs h hN N (Zb _)
 have h2:Abs (-zW (f N),zW (f N)) (Q (B-s*N)):=by
  have:=zAJ (h N);have:=zAS (hle N);exact⟨by simp;omega,by simp;omega,by simp;omega,by simp;omega⟩
 exact (h1.add h2).mono (by omega)
theorem zJR {B s N:Nat} {f:Nat->Int × Int} (hs:1<=s) (hle:∀ n,(f n).1<=(f n).2) (h:∀ n,Abs (f n) (Q (B-s*n))) (hN:zU f N) (EN:1<=N):Abs (zM f N) (Q B+2*Q (B-s)):=by
 obtain⟨n,rfl⟩:∃ n,N=n+1:=⟨N-1,by omega⟩
 have h1:=sum_abs1 hs h hN n (Zb _)
 have h2:Abs (-zW (f (n+1)),zW (f (n+1))) (Q (B-s*(n+1))):=by
  have:=zAJ (h (n+1));have:=zAS (hle (n+1));exact⟨by simp;omega,by simp;omega,by simp;omega,by simp;omega⟩
 exact (h1.add h2).mono (by omega)
theorem zGK {f:Nat->Int × Int} (hle:∀ n,(f n).1<=(f n).2) (n:Nat):(jE f n).1<=(jE f n).2:=by
 induction n with
 | zero=>exact hle 0
 | succ n ih=>simp only[jE,zB8];have:=hle (n+1);omega
theorem zCK {f:Nat->Int × Int} (hle:∀ n,(f n).1<=(f n).2) (n:Nat):(zM f n).1<=(zM f n).2:=by
 have h1:=zGK hle n;have h2:=zAS (hle n);simp only[zM,zB8];omega
theorem zOD {f:Nat->Int × Int} {W:Int} (hw:∀ n,(f n).2-(f n).1<=W) (n:Nat):(jE f n).2-(jE f n).1<=((n:Int)+1)*W:=by
 induction n with
 | zero=>simp only[jE];have:=hw 0;simp;omega
 | succ n ih =>
  simp only[jE,zB8];have:=hw (n+1)
  have e:(((n+1:Nat):Int)+1)*W=((n:Int)+1)*W+W:=by
   have:(((n+1:Nat):Int)+1)=((n:Int)+1)+1:=by omega
   rw[this,Int.add_mul,Int.one_mul]
  omega
theorem zCA {f:Nat->Int × Int} {W:Int} {N:Nat} (hw:∀ n,(f n).2-(f n).1<=W) (hN:zU f N):(zM f N).2-(zM f N).1<=((N:Int)+1)*W+2:=by
 have h1:=zOD hw N;have h2:=hN.1;simp only[zM,zB8];omega
theorem zP8 {g:Nat->Rat} {N:Nat} {b:Rat} (hb:AB (g N) b) (hh:∀ n c,N<=n->AB (g n) c->AB (g (n+1)) (c/2)) (i:Nat):AB (g (N+i)) (b*q2 i)/\AB (S g (N+1+i)-S g (N+1)) (b*(1-q2 i)):=by
 induction i with
 | zero=>simp only[Nat.add_zero,q2];exact⟨hb.mono (by grind),by constructor<;>grind⟩
 | succ i ih =>
  obtain⟨h1,h2⟩:=ih;have h3:=hh (N+i) _ (by omega) h1
  have e1:q2 (i+1)=q2 i/2:=rfl;have e2:S g (N+1+(i+1))=S g (N+1+i)+g (N+1+i):=rfl;have e3:N+1+i=N+(i+1):=by omega
  refine⟨h3.mono (by rw[e1];grind),?_⟩
  rw[e2,e1];have h4:=h2.add h3;rw[show N+i+1=N+1+i by omega] at h4
  have e4:S g (N+1+i)-S g (N+1)+g (N+1+i)=S g (N+1+i)+g (N+1+i)-S g (N+1):=by grind
  rw[e4] at h4;exact h4.mono (by grind)
theorem zHZ {B N:Nat} {f:Nat->Int × Int} {g:Nat->Nat->Rat} (hle:∀ n,(f n).1<=(f n).2) (h:∀ n,n<=N->Iv B (f n) (λ M=>g n M)) (M0:Nat) (hh:∀ M,M0<=M->∀ n b,N<=n->AB (g n M) b->AB (g (n+1) M) (b/2)):Iv B (zM f N) (λ M=>S (λ k=>g k M) M):=by
 have h1:∀ n,n<=N->Iv B (jE f n) (λ M=>S (λ k=>g k M) (n+1)):=λ n hn=>by
  induction n with
  | zero=>exact Has.of_eq (h 0 (by omega)) λ M=>by simp only[S];grind
  | succ n ih=>exact Has.of_eq ((ih (by omega)).add (h (n+1) hn)) λ M=>by simp only[S]
 have h2:=h1 N (Zb _)
 have h3:Iv B (-zW (f N),zW (f N)) (λ M=>S (λ k=>g k M) M-S (λ k=>g k M) (N+1)):=by
  have hr:=zEJ (hle N);have q:=jM B;have k1:=h N (Zb _)
  intro e he
  obtain⟨N1,k2⟩:=k1 e he;refine⟨N1+M0+N+1,λ M hM=>?_⟩
  obtain⟨a1,a2⟩:=k2 M (by omega)
  have l1:((-zW (f N):Int):Rat)/(Q B:Rat)<=((f N).1:Rat)/(Q B:Rat):=kF q (by rw[rdm q];exact jF hr.1)
  have l2:((f N).2:Rat)/(Q B:Rat)<=((zW (f N):Int):Rat)/(Q B:Rat):=kF q (by rw[rdm q];exact jF hr.2.2.2)
  have l3:((-zW (f N):Int):Rat)/(Q B:Rat) = -(((zW (f N):Int):Rat)/(Q B:Rat)):=by
   rw[Rat.intCast_neg,Rat.div_def,Rat.div_def,Rat.neg_mul]
  have hb:AB (g N M) (((zW (f N):Int):Rat)/(Q B:Rat)+e):=by constructor<;>grind
  obtain⟨i,rfl⟩:∃ i,M=N+1+i:=⟨M-(N+1),by omega⟩
  have s:=(zP8 (g:=λ k=>g k (N+1+i)) hb (λ n c hn hc=>hh _ (by omega) n c hn hc) i).2
  have p:=yP i;have nn:=hb.nonneg
  have s':=s.mono (b:=((zW (f N):Int):Rat)/(Q B:Rat)+e) (by
   have:=YV nn (YZ p)
   grind)
  obtain⟨s1,s2⟩:=s';simp only[];rw[l3];constructor<;>grind
 exact Has.of_eq (h2.add h3) λ M=>by grind
def zV (B:Nat) (sm:Int × Int):Nat->Int × Int
 | 0=>(Q B,Q B)
 | n+1=>zJ (zAL B (zV B sm n) sm) 1 ((n:Int)+1)
theorem zAK (B:Nat) (sm:Int × Int) (n:Nat):(zV B sm n).1<=(zV B sm n).2:=by
 cases n with
 | zero=>exact Int.le_refl _
 | succ n=>exact kR (zB2 B) (by omega) (by omega)
theorem zBX {B:Nat} {sm:Int × Int} (hB:8<=B) (hs:Abs sm (Q (B-8))) (n:Nat):Abs (zV B sm n) (Q (B-8*n)):=by
 induction n with
 | zero=>have:=zE B;exact⟨by simp[zV];omega,by simp[zV],by simp[zV];omega,by simp[zV]⟩
 | succ n ih=>exact zE3 (zCQ ih hs (zP4 hB n)) (by omega) (by omega) (by omega)
theorem zLD {B:Nat} (hB:8<=B):Q B=256*Q (B-8):=by
 have:=jD 8 (B-8);rw[show 8+(B-8)=B by omega] at this
 rw[this];rfl
theorem zD6 {B:Nat} {sm:Int × Int} {ws:Int} (hB:8<=B) (hs:Abs sm (Q (B-8))) (Z9:sm.1<=sm.2) (hw:sm.2-sm.1<=ws) (n:Nat):(zV B sm n).2-(zV B sm n).1<=2*ws+4:=by
 induction n with
 | zero=>simp only[zV];omega
 | succ n ih =>
  have q:=zE (B-8);have e:=zLD hB;have m1:Q (B-8*n)<=Q B:=zH (by omega)
  have p1:=Int.mul_le_mul m1 hw (by omega) (by omega)
  have p2:=Za ih (show 0<=Q (B-8) by omega)
  have hc:Q (B-8*n)*(sm.2-sm.1)+Q (B-8)*((zV B sm n).2-(zV B sm n).1)<=(ws+(2*ws+4+255)/256)*Q B:=by
   have e2:(ws+(2*ws+4+255)/256)*Q B=Q B*ws+Q (B-8)*(256*((2*ws+4+255)/256)):=by
    rw[Int.add_mul,Int.mul_comm ws];congr 1;rw[e];grind
   rw[e2];have:=Za (show 2*ws+4<=256*((2*ws+4+255)/256) by omega) (show 0<=Q (B-8) by omega)
   omega
  have h1:=zA3 (zBX hB hs n) hs (zAK B sm n) Z9 hc;have hn:(0:Int)<(n:Int)+1:=by omega
  have hp:=Zc (show 0<=ws+(2*ws+4+255)/256+1 by omega) (show 0<=(n:Int) by omega)
  have h2:=kK (a:=zAL B (zV B sm n) sm) (n:=1) (d:=(n:Int)+1) (c:=ws+(2*ws+4+255)/256+1) hn (by
   rw[Int.mul_one,Int.mul_add,Int.mul_one];omega)
  simp only[zV];omega
theorem expT_has {B:Nat} {sm:Int × Int} {x:Nat->Rat} (h:Iv B sm x) (n:Nat):Iv B (zV B sm n) (λ M=>tm (x M) n):=by
 induction n with
 | zero =>
  have q:=jM B;have e:(Q B:Rat)/(Q B:Rat)=1:=by rw[Rat.div_def,Rat.mul_inv_cancel _ (by grind)]
  show Has ((Q B:Rat)/(Q B:Rat)) ((Q B:Rat)/(Q B:Rat)) _
  rw[e];exact Has.const (c:=1) Rat.le_refl Rat.le_refl
 | succ n ih =>
  have:=(ih.mul h).scale (n:=1) (d:=(n:Int)+1) (by omega) (by omega)
  refine Has.of_eq this λ M=>?_
  have e:(((n:Int)+1:Int):Rat)=(n:Rat)+1:=by rw[Rat.intCast_add];rfl
  rw[e];simp only[tm];have hp:=zBN n;rw[Rat.div_def,Rat.div_def];simp;grind
theorem tm_half {x b:Rat} (hx:AB x (1/2)) (n:Nat) (h:AB (tm x n) b):AB (tm x (n+1)) (b/2):=by
 have e:=kV x n;have hp:=zBN n;have g:=hx.mul h;rw[<- e] at g;have e3:tm x (n+1)=((n:Rat)+1)*tm x (n+1)/((n:Rat)+1):=by grind
 rw[e3];refine zDB hp (g.mono ?_);have hn:(0:Rat)<=(n:Rat):=by exact_mod_cast Nat.zero_le n
 have:=YV hn h.nonneg;grind
theorem Iv.little {B:Nat} {a:Int × Int} {x:Nat->Rat} (h:Iv B a x) {m:Int} (ha:Abs a m) (hm:4*m<=Q B):∃ N,∀ M,N<=M->AB (x M) (1/2):=by
 have q:=jM B;obtain⟨N,h1⟩:=h (1/4) (by grind)
 refine⟨N,λ M hM=>?_⟩
 have:=h1 M hM
 have l1 : -(1/4:Rat)<=(a.1:Rat)/(Q B:Rat):=kG q (by
  have:((-(Q B):Int):Rat)<=((4*a.1:Int):Rat):=jF (by have:=ha.1;omega)
  rw[Rat.intCast_neg,Ze] at this;have e4:((4:Int):Rat)=4:=rfl;rw[e4] at this
  grind)
 have l2:(a.2:Rat)/(Q B:Rat)<=(1/4:Rat):=kF q (by
  have:((4*a.2:Int):Rat)<=((Q B:Int):Rat):=jF (by have:=ha.2.2.2;omega)
  rw[Ze] at this;have e4:((4:Int):Rat)=4:=rfl;rw[e4] at this
  grind)
 constructor<;>grind
theorem zDH {B N:Nat} {sm:Int × Int} {x:Nat->Rat} (hB:8<=B) (h:Iv B sm x) (hs:Abs sm (Q (B-8))):Iv B (zM (zV B sm) N) (Ev x):=by
 obtain⟨M0,h0⟩:=h.little hs (by have:=zLD hB;have:=zE (B-8);omega)
 exact zHZ (zAK B sm) (λ n _=>expT_has h n) M0 (λ M hM n b _ hb=>tm_half (h0 M hM) n hb)
def sqv (y:Nat->Rat):Nat->Nat->Rat
 | 0=>y
 | t+1=>λ M=>sqv y t M*sqv y t M
theorem sqI_has {B:Nat} {a:Int × Int} {y:Nat->Rat} (h:Iv B a y) (t:Nat):Iv B (sqI B a t) (sqv y t):=by
 induction t with
 | zero=>exact h
 | succ t ih=>exact ih.mul ih
theorem sqv_null {x:Nat->Rat} (h:Bdd x) (t:Nat):Null (λ M=>sqv (Ev x) t M-Ev (λ M=>(Q t:Rat)*x M) M):=by
 have hb:∀ t,Bdd (λ M=>(Q t:Rat)*x M):=λ t=>(Bdd.const _).mul h
 induction t with
 | zero =>
  have e:(λ M=>(Q 0:Rat)*x M)=x:=funext λ M=>by simp[Q]
  rw[e];exact null_zero.of_eq λ M=>by simp only[sqv];grind
 | succ t ih =>
  have b1:=zAH (hb t);have b2:Bdd (sqv (Ev x) t):=b1.of_null (ih.neg.of_eq λ M=>by grind)
  have n1:=ih.bmul (b1.add b2);have n2:=zAO (hb t) (hb t)
  have e:(λ M=>(Q t:Rat)*x M+(Q t:Rat)*x M)=λ M=>(Q (t+1):Rat)*x M:=funext λ M=>by
   have:(Q (t+1):Rat)=2*(Q t:Rat):=by
    have:Q (t+1)=2*Q t:=rfl;rw[this,Ze];rfl
   rw[this];grind
  rw[e] at n2;refine (n1.add n2).of_eq λ M=>?_
  simp only[sqv];grind
theorem zDZ {B N t:Nat} {a:Int × Int} {x:Nat->Rat} (hB:8<=B) (h:Iv B a x) (hs:Abs (zF a t) (Q (B-8))):Iv B (sqI B (zM (zV B (zF a t)) N) t) (Ev x):=by
 have hx:=Has.bdd h;have h1:=sqI_has (zDH (N:=N) hB (h.down t) hs) t;have hb:Bdd (λ M=>x M/(Q t:Rat)):=Has.bdd (h.down t)
 have n1:=sqv_null hb t;have q:=jM t
 have e:(λ M=>(Q t:Rat)*(x M/(Q t:Rat)))=x:=funext λ M=>by
  rw[Rat.mul_comm];exact rdm q
 rw[e] at n1;exact h1.congr (n1.neg.of_eq λ M=>by grind)
def eb (i:Nat):Nat:=if i<=10 then 12 else 12*2 ^ (i-10)
def cI:Nat->Int
 | 0=>66048
 | i+1=>cI i*cI i/65536+1
theorem Q_16 {B:Nat} (hB:16<=B):Q B=65536*Q (B-16)/\Q (B-8)=256*Q (B-16):=by
 have h1:=jD 16 (B-16);have h2:=jD 8 (B-16);rw[show 16+(B-16)=B by omega] at h1
 rw[show 8+(B-16)=B-8 by omega] at h2
 exact⟨by rw[h1];rfl,by rw[h2];rfl⟩
theorem zTT {B:Nat} {d:Int × Int} (hB:16<=B) (h:Abs d (Q B+2*Q (B-8))) (i:Nat):Abs (sqI B d i) (cI i*Q (B-16)):=by
 obtain⟨e1,e2⟩:=Q_16 hB
 induction i with
 | zero=>exact h.mono (by simp only[cI];omega)
 | succ i ih =>
  refine zCQ ih ih ?_;rw[e1];have q:=zE (B-16);have h1:cI i*cI i<=cI (i+1)*65536:=by simp only[cI];omega
  have h2:=Zc (show 0<=Q (B-16) by omega) (show 0<=Q (B-16) by omega)
  have h3:=YW h1 h2;generalize Q (B-16)=r at *;have e3:cI i*r*(cI i*r)=cI i*cI i*(r*r):=by grind
  have e4:cI (i+1)*r*(65536*r)=cI (i+1)*65536*(r*r):=by grind
  rw[e3,e4];exact h3
theorem cI_le:∀ i,i<11->cI i<=268435456:=by decide
theorem zTS {B:Nat} {d:Int × Int} (hB:16<=B) (h:Abs d (Q B+2*Q (B-8))) (i:Nat):Abs (sqI B d i) (Q (B+eb i)):=by
 by_cases hi:i<=10
 ·refine (zTT hB h i).mono ?_
  have e:eb i=12:=by simp[eb,hi]
  have e2:Q (B+12)=268435456*Q (B-16):=by
   have:=jD 28 (B-16);rw[show 28+(B-16)=B+12 by omega] at this
   rw[this];rfl
  rw[e,e2];exact YW (cI_le i (by omega)) (by have:=zE (B-16);omega)
 ·obtain⟨j,rfl⟩:∃ j,i=10+j:=⟨i-10,by omega⟩
  clear hi
  have key:Abs (sqI B d (10+j)) (Q (B+12*2 ^ j)):=by
   induction j with
   | zero =>
    refine (zTT hB h 10).mono ?_
    have e2:Q (B+12*2 ^ 0)=268435456*Q (B-16):=by
     have:=jD 28 (B-16);rw[show 28+(B-16)=B+12*2 ^ 0 by omega] at this
     rw[this];rfl
    rw[e2];exact YW (cI_le 10 (by omega)) (by have:=zE (B-16);omega)
   | succ j ih =>
    refine zCQ ih ih ?_;rw[<- jD,<- jD];refine zH ?_;rw[Nat.pow_succ];omega
  by_cases hj:j=0
  ·subst hj;exact key
  ·have:eb (10+j)=12*2 ^ j:=by
    unfold eb;rw[if_neg (by omega)];congr 2;omega
   rw[this];exact key
def wb:Nat->Nat
 | 0=>0
 | i+1=>wb i+eb i+2
theorem sq_wide {B:Nat} {d:Int × Int} (hB:16<=B) (h:Abs d (Q B+2*Q (B-8))) (hd:d.1<=d.2) (i:Nat):(sqI B d i).1<=(sqI B d i).2/\(sqI B d i).2-(sqI B d i).1+1<=(d.2-d.1+1)*Q (wb i):=by
 induction i with
 | zero=>simp only[sqI,wb,Q];omega
 | succ i ih =>
  obtain⟨h1,h2⟩:=ih;refine⟨zB2 B,?_⟩;have ha:=zTS hB h i;obtain⟨W,hW⟩:∃ W,W=(sqI B d i).2-(sqI B d i).1:=⟨_,rfl⟩;rw[<- hW] at h2
  have h3:=zA3 (B:=B) (c:=2*Q (eb i)*W) ha ha h1 h1 (by
   rw[<- hW,jD];generalize Q B=q;generalize Q (eb i)=r;have:q*r*W+q*r*W=2*r*W*q:=by grind
   omega)
  have e:Q (wb (i+1))=Q (wb i)*(4*Q (eb i)):=by
   have:wb (i+1)=wb i+(eb i+2):=by simp only[wb];omega
   rw[this,jD]
   congr 1
   have:=jD (eb i) 2;rw[this,Int.mul_comm];rfl
  rw[e];have q1:=zE (eb i);have p:=YW h2 (show 0<=4*Q (eb i) by omega)
  rw[<- Int.mul_assoc];refine Int.le_trans ?_ p;have w0:0<=W:=by omega
  have p2:=Zc w0 (show 0<=Q (eb i) by omega)
  show (zAL B (sqI B d i) (sqI B d i)).2-(zAL B (sqI B d i) (sqI B d i)).1+1<=_
  have e5:(W+1)*(4*Q (eb i))=4*(W*Q (eb i))+4*Q (eb i):=by grind
  have e6:2*Q (eb i)*W=2*(W*Q (eb i)):=by grind
  rw[e5];rw[e6] at h3;omega
theorem zAP {i j:Nat} (h:i<=j):eb i<=eb j:=by
 unfold eb;split
 ·split
  ·omega
  ·have:=Nat.pow_le_pow_right (show 0<2 by omega) (show 0<=j-10 by omega);simp at this;omega
 ·split
  ·omega
  ·have:=Nat.pow_le_pow_right (show 0<2 by omega) (show i-10<=j-10 by omega);omega
theorem zMH {i j:Nat} (h:i<=j):wb i<=wb j:=by
 obtain⟨d,rfl⟩:∃ d,j=i+d:=⟨j-i,by omega⟩
 clear h
 induction d with
 | zero=>exact Zb _
 | succ d ih=>show wb i<=wb (i+d)+eb (i+d)+2;omega
theorem zBL {B N t:Nat} {a:Int × Int} {ws:Int} (hB:16<=B) (hs:Abs (zF a t) (Q (B-8))) (ha:a.1<=a.2) (hw:a.2-a.1<=ws*Q t) (hN:zU (zV B (zF a t)) N) :
  (sqI B (zM (zV B (zF a t)) N) t).1<=(sqI B (zM (zV B (zF a t)) N) t).2/\Abs (sqI B (zM (zV B (zF a t)) N) t) (Q (B+eb t))/\N<=B/8+1 /\
  (sqI B (zM (zV B (zF a t)) N) t).2-(sqI B (zM (zV B (zF a t)) N) t).1<=(((N:Int)+1)*(2*ws+6)+3)*Q (wb t):=by
 have q:=zE t
 have Z9:(zF a t).1<=(zF a t).2:=by
  have:=kR (a:=a) (n:=1) (d:=Q t) ha (by omega) (by omega)
  simpa [zJ,zF] using this
 have L5:(zF a t).2-(zF a t).1<=ws+1:=zBV (by omega) hw
 have hT:=zBX (by omega) hs
 have EN:1<=N:=by
  refine Nat.pos_of_ne_zero λ e=>?_
  have:=hN.1;rw[e] at this
  have h2:zW (zV B (zF a t) 0)=Q B:=by
   show zGA (Q B) (-Q B)=Q B
   have:=zE B;unfold zGA;rw[if_neg (by omega)]
  rw[h2] at this;have:=zH hB;have:Q 16=65536:=rfl;omega
 have hd:=zJR (s:=8) (by omega) (zAK B (zF a t)) hT hN EN
 have yr:=zCK (zAK B (zF a t)) N;have PX:=zCA (zD6 (by omega) hs Z9 L5) hN
 obtain⟨g1,g2⟩:=sq_wide hB hd yr t
 have hle:N<=B/8+1:=by
  obtain⟨N',n1,n2⟩:=zB7 (s:=8) (by omega) hT
  refine Nat.le_trans (Nat.not_lt.1 λ E2=>?_) n1
  have:=hN.2 N' E2;have:=n2.1;omega
 refine⟨g1,zTS hB hd t,hle,?_⟩;have q2:=zE (wb t);have e:2*(ws+1)+4=2*ws+6:=by omega
 rw[e] at PX;have:=YW (show (zM (zV B (zF a t)) N).2-(zM (zV B (zF a t)) N).1+1<=((N:Int)+1)*(2*ws+6)+3 by omega) (show 0<=Q (wb t) by omega)
 omega
def zO5 (B:Nat) (z sq:Int × Int):Nat->Int × Int
 | 0=>z
 | n+1=>zJ (zAL B (zO5 B z sq n) sq) (2*(n:Int)+1) (2*(n:Int)+3)
theorem kO {n d:Int} (hd:0<d) (B:Nat):(ofI n d B).1<=(ofI n d B).2:=by
 have:=kR (a:=(n*Q B,n*Q B)) (n:=1) (Int.le_refl _) hd (by omega)
 simpa [zJ,ofI] using this
theorem kU {n d:Int} (hd:0<d) (B:Nat):(ofI n d B).2-(ofI n d B).1<=1:=by
 have:=zBV (x:=n*Q B) (y:=n*Q B) (c:=0) hd (by omega)
 simpa [ofI] using this
theorem zGC {n d m:Int} (hd:0<d) (B:Nat) (h1 : -(m*d)<=n*Q B) (h2:n*Q B<=m*d):Abs (ofI n d B) m:=by
 have:=jJ hd h1 h2;exact⟨this.1,this.2.1,this.2.2.1,this.2.2.2⟩
theorem zR9 {B:Nat} {z sq:Int × Int} (hz:z.1<=z.2) (n:Nat):(zO5 B z sq n).1<=(zO5 B z sq n).2:=by
 cases n with
 | zero=>exact hz
 | succ n=>exact kR (zB2 B) (by omega) (by omega)
theorem zNM {B:Nat} {z sq:Int × Int} (hB:3<=B) (hz:Abs z (Q B)) (hs:Abs sq (Q (B-3))) (n:Nat):Abs (zO5 B z sq n) (Q (B-3*n)):=by
 induction n with
 | zero=>exact hz
 | succ n ih=>exact zE3 (zCQ ih hs (zP4 hB n)) (by omega) (by omega) (by omega)
theorem zP5 {B:Nat} (hB:3<=B):Q B=8*Q (B-3):=by
 have:=jD 3 (B-3);rw[show 3+(B-3)=B by omega] at this
 rw[this];rfl
theorem zSA {B:Nat} {z sq:Int × Int} (hB:3<=B) (hz:Abs z (Q B)) (hs:Abs sq (Q (B-3))) (hzl:z.1<=z.2) (Z9:sq.1<=sq.2) (hzw:z.2-z.1<=1) (L5:sq.2-sq.1<=2) (n:Nat):(zO5 B z sq n).2-(zO5 B z sq n).1<=6:=by
 induction n with
 | zero=>simp only[zO5];omega
 | succ n ih =>
  have q:=zE (B-3);have e:=zP5 hB;have m1:Q (B-3*n)<=Q B:=zH (by omega)
  have p1:=Int.mul_le_mul m1 L5 (by omega) (by omega)
  have p2:=Za ih (show 0<=Q (B-3) by omega)
  have h1:=zA3 (B:=B) (c:=3) (zNM hB hz hs n) hs (zR9 hzl n) Z9 (by omega)
  have h2:=kK (a:=zAL B (zO5 B z sq n) sq) (n:=2*(n:Int)+1) (d:=2*(n:Int)+3) (c:=4) (by omega) (by
   have:=YW (show (zAL B (zO5 B z sq n) sq).2-(zAL B (zO5 B z sq n) sq).1<=4 by omega) (show 0<=2*(n:Int)+1 by omega)
   omega)
  simp only[zO5];omega
theorem logT_has {B:Nat} {a sq:Int × Int} {z:Rat} (h:Iv B a (λ _=>z)) (hs:Iv B sq (λ _=>z*z)) (n:Nat):Iv B (zO5 B a sq n) (λ _=>pw z (2*n+1)/(2*(n:Rat)+1)):=by
 induction n with
 | zero =>
  refine Has.of_eq h λ M=>?_
  simp[pw];grind
 | succ n ih =>
  have:=(ih.mul hs).scale (n:=2*(n:Int)+1) (d:=2*(n:Int)+3) (by omega) (by omega)
  refine Has.of_eq this λ M=>?_
  have e1:((2*(n:Int)+1:Int):Rat)=2*(n:Rat)+1:=by rw[Rat.intCast_add,Ze];rfl
  have e2:((2*(n:Int)+3:Int):Rat)=2*(n:Rat)+3:=by rw[Rat.intCast_add,Ze];rfl
  have e3:((n+1:Nat):Rat)=(n:Rat)+1:=by simp
  have e4:pw z (2*(n+1)+1)=z*(z*pw z (2*n+1)):=rfl;rw[e1,e2,e3,e4];have hn:(0:Rat)<=(n:Rat):=by exact_mod_cast Nat.zero_le n
  generalize pw z (2*n+1)=p;have d1:(2*(n:Rat)+1)≠0:=by grind
  have d2:(2*(n:Rat)+3)≠0:=by grind
  have d3:2*((n:Rat)+1)+1=2*(n:Rat)+3:=by grind
  rw[d3];generalize 2*(n:Rat)+1=u at *;generalize 2*(n:Rat)+3=v at *;grind
theorem odd_half {z b:Rat} (hz:AB z (1/2)) (n:Nat) (h:AB (pw z (2*n+1)/(2*(n:Rat)+1)) b):AB (pw z (2*(n+1)+1)/(2*((n+1:Nat):Rat)+1)) (b/2):=by
 have hn:(0:Rat)<=(n:Rat):=by exact_mod_cast Nat.zero_le n
 have e3:((n+1:Nat):Rat)=(n:Rat)+1:=by simp
 have e4:pw z (2*(n+1)+1)=z*(z*pw z (2*n+1)):=rfl;have e5:=rdm (a:=pw z (2*n+1)) (show (0:Rat)<2*(n:Rat)+1 by grind)
 rw[e3,e4];refine zDB (by grind) ?_
 generalize pw z (2*n+1)/(2*(n:Rat)+1)=t at *;rw[<- e5];have h1:AB (2*(n:Rat)+1) (2*(n:Rat)+1):=by constructor<;>grind
 have g:=(hz.mul (hz.mul (h.mul h1)));refine g.mono ?_;have:=YV hn h.nonneg;have:=h.nonneg;grind
structure yS (n d:Int):Prop where
 hn:0<n
 hd:0<d
 h1:3*(n-d)<=n+d
 h2:3*(d-n)<=n+d
def zI (n d:Int) (B:Nat):Int × Int:=ofI (n-d) (n+d) B
def lnT (n d:Int) (B:Nat):Nat->Int × Int:=zO5 B (zI n d B) (zAL B (zI n d B) (zI n d B))
def zR (n d:Int):Rat:=((n-d:Int):Rat)/((n+d:Int):Rat)
theorem zK5 {n d:Int} (h:yS n d) (B:Nat):Abs (zI n d B) (Q B/3+1):=by
 obtain⟨h0,Ic,h1,h2⟩:=h;have q:=zE B;have g1:=YW h1 (show 0<=Q B by omega)
 have g2:=YW h2 (show 0<=Q B by omega)
 have g3:=YW (show Q B<=3*(Q B/3+1) by omega) (show 0<=n+d by omega)
 have e1:3*(Q B/3+1)*(n+d)=3*((Q B/3+1)*(n+d)):=Int.mul_assoc _ _ _;have e2:3*(n-d)*Q B=3*((n-d)*Q B):=Int.mul_assoc _ _ _;have e3:3*(d-n)*Q B = -(3*((n-d)*Q B)):=by grind
 have e4:(n+d)*Q B=Q B*(n+d):=Int.mul_comm _ _;exact zGC (by omega) B (by omega) (by omega)
theorem sq_small {q:Int} (hq:65536<=q):(q/3+1)*(q/3+1)*8<=q*q:=by
 have h1:3*(q/3+1)<=q+3:=by omega
 have h2:=Int.mul_le_mul h1 h1 (by omega) (by omega)
 have h3:=YW hq (show 0<=q by omega)
 grind
theorem zL8 {n d:Int} (h:yS n d) {B:Nat} (hB:16<=B):Abs (zAL B (zI n d B) (zI n d B)) (Q (B-3)):=by
 refine zCQ (zK5 h B) (zK5 h B) ?_;have e:=zP5 (show 3<=B by omega)
 have h1:=zH hB;have h2:Q 16=65536:=rfl;have h3:=sq_small (q:=Q B) (by omega)
 have e2:Q B*Q B=8*(Q (B-3)*Q B):=by rw[e];grind
 omega
theorem zML {n d:Int} (h:yS n d) {B:Nat} (hB:16<=B):Abs (zI n d B) (Q B):=(zK5 h B).mono (by
 have h1:=zH hB;have h2:Q 16=65536:=rfl
 omega)
theorem sqI_wide {n d:Int} (h:yS n d) {B:Nat} (hB:16<=B):(zAL B (zI n d B) (zI n d B)).2-(zAL B (zI n d B) (zI n d B)).1<=2:=by
 have hd:0<n+d:=by have:=h.hn;have:=h.hd;omega
 have l:=kO (n:=n-d) hd B;have w:=kU (n:=n-d) hd B;have h1:=zH hB;have h2:Q 16=65536:=rfl;have p:=Za w (show 0<=Q B/3+1 by omega)
 exact zA3 (c:=1) (zK5 h B) (zK5 h B) l l (by
  show (Q B/3+1)*((ofI (n-d) (n+d) B).2-(ofI (n-d) (n+d) B).1)+(Q B/3+1)*((ofI (n-d) (n+d) B).2-(ofI (n-d) (n+d) B).1)<=1*Q B
  omega)
theorem zF8 {n d:Int} (h:yS n d) {B:Nat} (hB:16<=B) (k:Nat):Abs (lnT n d B k) (Q (B-3*k)):=zNM (by omega) (zML h hB) (zL8 h hB) k
theorem zNK {n d:Int} (h:yS n d) (B k:Nat):(lnT n d B k).1<=(lnT n d B k).2:=zR9 (kO (by have:=h.hn;have:=h.hd;omega) B) k
theorem lnT_wide {n d:Int} (h:yS n d) {B:Nat} (hB:16<=B) (k:Nat):(lnT n d B k).2-(lnT n d B k).1<=6 :=
 zSA (by omega) (zML h hB) (zL8 h hB) (kO (by have:=h.hn;have:=h.hd;omega) B) (zB2 B) (kU (by have:=h.hn;have:=h.hd;omega) B) (sqI_wide h hB) k
theorem zNL {n d:Int} (h:yS n d) {B N:Nat} (hB:16<=B) (hN:zU (lnT n d B) N) :
  (zM (lnT n d B) N).1<=(zM (lnT n d B) N).2/\Abs (zM (lnT n d B) N) (2*Q B)/\N<=B/3+1/\(zM (lnT n d B) N).2-(zM (lnT n d B) N).1<=((N:Int)+1)*6+2:=by
 refine⟨zCK (zNK h B) N,zF0 (s:=3) (by omega) (zNK h B) (zF8 h hB) hN,?_,zCA (lnT_wide h hB) hN⟩
 obtain⟨N',n1,n2⟩:=zB7 (s:=3) (by omega) (zF8 h hB)
 refine Nat.le_trans (Nat.not_lt.1 λ E2=>?_) n1
 have:=hN.2 N' E2;have:=n2.1;omega
theorem zR_AB {n d:Int} (h:yS n d):AB (zR n d) (1/2):=by
 obtain⟨h0,Ic,h1,h2⟩:=h;have hp:(0:Rat)<((n+d:Int):Rat):=by exact_mod_cast (show 0<n+d by omega)
 refine zDB hp ?_;have g1:((3*(n-d):Int):Rat)<=((n+d:Int):Rat):=jF h1;have g2:((-(3*(n-d)):Int):Rat)<=((n+d:Int):Rat):=jF (by omega)
 rw[Rat.intCast_neg] at g2;rw[Ze] at g1 g2;have e:((3:Int):Rat)=3:=rfl;rw[e] at g1 g2;constructor<;>grind
theorem ln_has {n d:Int} (h:yS n d) (B N:Nat):Iv B (zM (lnT n d B) N) (λ M=>Az (zR n d) M):=by
 have hz:Iv B (zI n d B) (λ _=>zR n d):=Iv.of B (by have:=h.hn;have:=h.hd;omega)
 exact zHZ (zNK h B) (λ k _=>logT_has hz (hz.mul hz) k) 0 (λ M _ k b _ hb=>odd_half (zR_AB h) k hb)
theorem zFK {n d:Int} (h:yS n d):IsLog (λ M=>2*Az (zR n d) M) (λ _=>(n:Rat)/(d:Rat)):=by
 refine isLog_Az (z:=λ _=>zR n d) 0 (λ _ _=>zR_AB h) (λ M _=>?_)
 obtain⟨h0,Ic,h1,h2⟩:=h;have hp:(0:Rat)<((n+d:Int):Rat):=by exact_mod_cast (show 0<n+d by omega)
 have hd:(0:Rat)<(d:Rat):=by exact_mod_cast Ic
 have e1:=rdm (a:=((n-d:Int):Rat)) hp;have e2:=rdm (a:=(n:Rat)) hd
 show (n:Rat)/(d:Rat)*(1-zR n d)=1+zR n d
 unfold zR;generalize ((n-d:Int):Rat)/((n+d:Int):Rat)=z at *;generalize (n:Rat)/(d:Rat)=r at *;rw[Rat.intCast_sub,Rat.intCast_add] at e1;rw[Rat.intCast_add] at hp;have e3:z*(r*d+d)=r*d-d:=by rw[e2];exact e1
 have e4:(d:Rat)*(r*(1-z)-(1+z))=0:=by grind
 rcases Rat.mul_eq_zero.1 e4 with h|h
 ·grind
 ·grind
theorem pw_Q (k:Nat):pw 2 k=(Q k:Rat):=by
 induction k with
 | zero=>rfl
 | succ k ih =>
  have e:Q (k+1)=2*Q k:=rfl;rw[e,Ze];simp only[pw,ih];rfl
def zIF (a b:Int × Int) (k:Int):Int × Int:=if k<0 then zJB (kI a 2) (kI (kI b 2) (-k)) else zB8 (kI a 2) (kI (kI b 2) k)
def Bal (n d n' d' k:Int):Prop:=yS n' d'/\(0<=k->n*d'=n'*d*Q k.toNat)/\(k<0->n*d'*Q (-k).toNat=n'*d)
theorem zSP:yS 2 1:=⟨by omega,by omega,by omega,by omega⟩
theorem zE1 {n d n' d' k:Int} (hn:0<n) (hd:0<d) (h:Bal n d n' d' k) (B N N2:Nat) :
  ∃ l,IsLog l (λ _=>(n:Rat)/(d:Rat))/\Iv B (zIF (zM (lnT n' d' B) N) (zM (lnT 2 1 B) N2) k) l:=by
 obtain⟨h1,h2,h3⟩:=h;have d0:(0:Rat)<(d:Rat):=by exact_mod_cast hd
 have Bi:(0:Rat)<(d':Rat):=by exact_mod_cast h1.hd
 have a1:=(ln_has h1 B N).times 2;have a2:=(ln_has zSP B N2).times 2;have l1:=zFK h1;have l2:=zFK zSP;have e2:((2:Nat):Rat)=2:=rfl
 have VM:(λ _:Nat=>((2:Int):Rat)/((1:Int):Rat))=λ _=>(2:Rat):=funext λ _=>by
  have:((2:Int):Rat)/((1:Int):Rat)=2:=by
   have e:=rdm (a:=((2:Int):Rat)) (show (0:Rat)<((1:Int):Rat) by decide)
   have e1:((1:Int):Rat)=1:=rfl;have e3:((2:Int):Rat)=2:=rfl;rw[e1,e3] at e ⊢;grind
  exact this
 rw[VM] at l2;rw[e2] at a1 a2
 by_cases hk:k<0
 ·obtain⟨j,rfl⟩:∃ j:Nat,k = -(j:Int):=⟨(-k).toNat,by omega⟩
  have hq:=h3 hk;have ej:(-(-(j:Int))).toNat=j:=by omega
  rw[ej] at hq;have qj:=jM j;have l3:=(l2.times j).neg (s:=λ _=>1/(Q j:Rat)) (Bdd.const _) 0 (λ M _=>by rw[pw_Q];exact rdm qj)
  refine⟨_,(l1.add l3).congr_r (null_zero.of_eq λ M=>?_),?_⟩
  ·show (n':Rat)/(d':Rat)*(1/(Q j:Rat))-(n:Rat)/(d:Rat)=0
   have bl:((n*d'*Q j:Int):Rat)=((n'*d:Int):Rat):=by rw[hq]
   rw[Ze,Ze,Ze] at bl;have f1:=rdm (a:=(n':Rat)) Bi;have f2:=rdm (a:=(n:Rat)) d0;have f3:=rdm (a:=(1:Rat)) qj;generalize (n':Rat)/(d':Rat)=r' at *;generalize (n:Rat)/(d:Rat)=r at *;generalize 1/(Q j:Rat)=i at *;rw[<- f1,<- f2] at bl;have f4:(d:Rat)*((d':Rat)*(r*(Q j:Rat)-r'))=0:=by grind
   have f5:r*(Q j:Rat)=r':=by
    rcases Rat.mul_eq_zero.1 f4 with h|h
    ·grind
    ·rcases Rat.mul_eq_zero.1 h with h|h
     ·grind
     ·grind
   rw[<- f5];have:r*(Q j:Rat)*i-r=r*(i*(Q j:Rat))-r:=by grind
   rw[this,f3];grind
  ·unfold zIF
   rw[if_pos hk];have:=a1.sub (a2.times j);rw[show -(-(j:Int))=(j:Int) by omega]
   refine Has.of_eq this λ M=>?_
   grind
 ·obtain⟨j,rfl⟩:∃ j:Nat,k=(j:Int):=⟨k.toNat,by omega⟩
  have hq:=h2 (by omega)
  have ej:((j:Int)).toNat=j:=by omega
  rw[ej] at hq;have l3:=l2.times j;refine⟨_,(l1.add l3).congr_r (null_zero.of_eq λ M=>?_),?_⟩
  ·show (n':Rat)/(d':Rat)*pw 2 j-(n:Rat)/(d:Rat)=0
   rw[pw_Q];have bl:((n*d':Int):Rat)=((n'*d*Q j:Int):Rat):=by rw[hq]
   rw[Ze,Ze,Ze] at bl;have f1:=rdm (a:=(n':Rat)) Bi;have f2:=rdm (a:=(n:Rat)) d0;generalize (n':Rat)/(d':Rat)=r' at *;generalize (n:Rat)/(d:Rat)=r at *;rw[<- f1,<- f2] at bl;have f4:(d:Rat)*((d':Rat)*(r'*(Q j:Rat)-r))=0:=by grind
   rcases Rat.mul_eq_zero.1 f4 with h|h
   ·grind
   ·rcases Rat.mul_eq_zero.1 h with h|h
    ·grind
    ·exact h
  ·unfold zIF
   rw[if_neg hk];exact a1.add (a2.times j)
theorem zEC {n' d' k:Int} (h:yS n' d') {B N N2:Nat} (hB:16<=B) (hN:zU (lnT n' d' B) N) (bj:zU (lnT 2 1 B) N2) (K:Int) (W6 : -K<=k) (cH:k<=K) :
  let o:=zIF (zM (lnT n' d' B) N) (zM (lnT 2 1 B) N2) k
  o.1<=o.2/\Abs o ((K+1)*(4*Q B))/\o.2-o.1<=(K+1)*(2*(((B:Int)/3+2)*6+2)):=by
 obtain⟨a1,a2,a3,a4⟩:=zNL h hB hN;obtain⟨b1,b2,b3,b4⟩:=zNL zSP hB bj
 intro o
 have q:=zE B;obtain⟨W,hW⟩:∃ W:Int,W=((B:Int)/3+2)*6+2:=⟨_,rfl⟩;have a5:(zM (lnT n' d' B) N).2-(zM (lnT n' d' B) N).1<=W:=by omega
 have b5:(zM (lnT 2 1 B) N2).2-(zM (lnT 2 1 B) N2).1<=W:=by omega
 rw[<- hW];have ho:o=zIF (zM (lnT n' d' B) N) (zM (lnT 2 1 B) N2) k:=rfl
 clear_value o
 subst ho;generalize zM (lnT n' d' B) N=x at *;generalize zM (lnT 2 1 B) N2=y at *;obtain⟨x1,x2,x3,x4⟩:=a2;obtain⟨y1,y2,y3,y4⟩:=b2;clear a3 a4 b3 b4;have hK:0<=K:=by omega
 have eK:(K+1)*(4*Q B)=K*(4*Q B)+4*Q B:=by rw[Int.add_mul,Int.one_mul]
 have eW:(K+1)*(2*W)=K*(2*W)+2*W:=by rw[Int.add_mul,Int.one_mul]
 rw[eK,eW]
 have hj:∀ j:Int,0<=j->j<=K->y.1*2*j<=y.2*2*j /\ -(K*(4*Q B))<=y.1*2*j/\y.1*2*j<=K*(4*Q B) /\ -(K*(4*Q B))<=y.2*2*j/\y.2*2*j<=K*(4*Q B)/\y.2*2*j-y.1*2*j<=K*(2*W):=λ j j0 jK=>by
  have c1:=yU (x:=y.1*2) (m:=4*Q B) (by omega) (by omega) (show -K<=j by omega) jK
  have c2:=yU (x:=y.2*2) (m:=4*Q B) (by omega) (by omega) (show -K<=j by omega) jK
  have c3:=YW (show y.1*2<=y.2*2 by omega) j0
  have c4:=Int.mul_le_mul (show y.2*2-y.1*2<=2*W by omega) jK j0 (by omega)
  rw[Int.sub_mul] at c4;have e1:4*Q B*K=K*(4*Q B):=Int.mul_comm _ _;have e2:2*W*K=K*(2*W):=Int.mul_comm _ _;omega
 unfold zIF;split
 ·obtain⟨c1,c2,c3,c4,c5,c6⟩:=hj (-k) (by omega) (by omega)
  simp only[zJB,kI,Abs];omega
 ·obtain⟨c1,c2,c3,c4,c5,c6⟩:=hj k (by omega) (by omega)
  simp only[zB8,kI,Abs];omega
theorem zQQ {n d n' d' k:Int} {l1 l2:Nat->Rat} (hd:0<d) (h:Bal n d n' d' k) (i1:IsLog l1 (λ _=>(n':Rat)/(d':Rat))) (i2:IsLog l2 (λ _=>(2:Rat))) :
  IsLog (λ M=>l1 M+(k:Rat)*l2 M) (λ _=>(n:Rat)/(d:Rat)):=by
 obtain⟨h1,h2,h3⟩:=h;have d0:(0:Rat)<(d:Rat):=by exact_mod_cast hd
 have Bi:(0:Rat)<(d':Rat):=by exact_mod_cast h1.hd
 by_cases hk:k<0
 ·obtain⟨j,rfl⟩:∃ j:Nat,k = -(j:Int):=⟨(-k).toNat,by omega⟩
  have hq:=h3 hk;have ej:(-(-(j:Int))).toNat=j:=by omega
  rw[ej] at hq;have qj:=jM j;have l3:=(i2.times j).neg (s:=λ _=>1/(Q j:Rat)) (Bdd.const _) 0 (λ M _=>by rw[pw_Q];exact rdm qj)
  refine ((i1.add l3).congr_r (null_zero.of_eq λ M=>?_)).congr (null_zero.of_eq λ M=>?_)
  ·show (n':Rat)/(d':Rat)*(1/(Q j:Rat))-(n:Rat)/(d:Rat)=0
   have bl:((n*d'*Q j:Int):Rat)=((n'*d:Int):Rat):=by rw[hq]
   rw[Ze,Ze,Ze] at bl;have f1:=rdm (a:=(n':Rat)) Bi;have f2:=rdm (a:=(n:Rat)) d0;have f3:=rdm (a:=(1:Rat)) qj;generalize (n':Rat)/(d':Rat)=r' at *;generalize (n:Rat)/(d:Rat)=r at *;generalize 1/(Q j:Rat)=i at *;rw[<- f1,<- f2] at bl;have f4:(d:Rat)*((d':Rat)*(r*(Q j:Rat)-r'))=0:=by grind
   have f5:r*(Q j:Rat)=r':=by
    rcases Rat.mul_eq_zero.1 f4 with h|h
    ·grind
    ·rcases Rat.mul_eq_zero.1 h with h|h
     ·grind
     ·grind
   rw[<- f5];have:r*(Q j:Rat)*i-r=r*(i*(Q j:Rat))-r:=by grind
   rw[this,f3];grind
  ·have e:((-(j:Int):Int):Rat) = -(j:Rat):=by rw[Rat.intCast_neg];rfl
   rw[e];grind
 ·obtain⟨j,rfl⟩:∃ j:Nat,k=(j:Int):=⟨k.toNat,by omega⟩
  have hq:=h2 (by omega)
  have ej:((j:Int)).toNat=j:=by omega
  rw[ej] at hq;have l3:=i2.times j;refine (i1.add l3).congr_r (null_zero.of_eq λ M=>?_)
  show (n':Rat)/(d':Rat)*pw 2 j-(n:Rat)/(d:Rat)=0
  rw[pw_Q];have bl:((n*d':Int):Rat)=((n'*d*Q j:Int):Rat):=by rw[hq]
  rw[Ze,Ze,Ze] at bl;have f1:=rdm (a:=(n':Rat)) Bi;have f2:=rdm (a:=(n:Rat)) d0;generalize (n':Rat)/(d':Rat)=r' at *;generalize (n:Rat)/(d:Rat)=r at *;rw[<- f1,<- f2] at bl;have f4:(d:Rat)*((d':Rat)*(r'*(Q j:Rat)-r))=0:=by grind
  rcases Rat.mul_eq_zero.1 f4 with h|h
  ·grind
  ·rcases Rat.mul_eq_zero.1 h with h|h
   ·grind
   ·exact h
open Go.RowKit
attribute [local go_sem ↓] Go.wp_at_zero Go.wp_at_succ
theorem zHY (neg j6:Bool) (a c:Option Addr) (n m cap m8 k k2:Nat) (x y:Int) (w:World) (h1:IntAt w neg a n cap k x) (h2:IntAt w j6 c m m8 k2 y) (hk:k<=800000000) (hy:0<y) :
  Calls Tryz.prog 127 #[.agg #[.bool neg,.slice a n cap],.agg #[.bool j6,.slice c m m8]] w (zBS w k (-(-x/y))) :=
 zQY neg j6 a c n m cap m8 k k2 x y w h1 h2 hk (λ w' j9 a' n' m7 g1 g2=>zAB j9 j6 a' c n' m m7 m8 k k2 (-x) y w' g1 g2 (by omega) hy)
theorem jL (neg j6:Bool) (a c:Option Addr) (n m cap m8 k k2 b:Nat) (x y:Int) (w:World) (h1:IntAt w neg a n cap k x) (h2:IntAt w j6 c m m8 k2 y) (hk:k<=700000000) (hb:b<=1000000) (hy:0<y) :
  Calls Tryz.prog 88 #[.agg #[.bool neg,.slice a n cap],.agg #[.bool j6,.slice c m m8],.int .i64 b] w (zG w b (k+b/16+20) (x*Q b/y) (-(-(x*Q b)/y))):=by
 go_enter Tryz.func88,Tryz.ntmps88
 go_wp2_with (go_at_call 116;refine (zCG _ _ _ _ b k x _ (h1.bw (bl3 _ _ _ _)) (by omega) (by omega)).mono ?_;rintro r w1 ⟨m9,a1,n1,c1,rfl,o8,b9⟩;obtain⟨C9,B9,D6⟩:=zZ (w.heap.size+1+1+1) (by simp) b9;have H6:=Zd (Nat.lt_succ_self (w.heap.size+1+1)) C9;have M5:=Nat.lt_of_succ_lt H6)
 have o8:=o8.mono (show b/16+k+1<=k+b/16+10 by omega)
 have X9:Below w.heap.size w w1:=zB (bl3 _ _ _ _) b9;have k0:w1.cell? ⟨w.heap.size+1,0,none⟩=some (.bool j6):=by simp[B9,go_sem]
 have k1:w1.cell? ⟨w.heap.size+1,1,none⟩=some (.slice c m m8):=by simp[B9,go_sem]
 have r0:w1.cell? ⟨w.heap.size+1+1,0,none⟩=some (.bool false):=by simp[B9,go_sem]
 have r1:w1.cell? ⟨w.heap.size+1+1,1,none⟩=some (.slice none 0 0):=by simp[B9,go_sem]
 have r2:w1.cell? ⟨w.heap.size+1+1,2,none⟩=some (.bool false):=by simp[B9,go_sem]
 have r3:w1.cell? ⟨w.heap.size+1+1,3,none⟩=some (.slice none 0 0):=by simp[B9,go_sem]
 have r4:w1.cell? ⟨w.heap.size+1+1,4,none⟩=some (.int .i64 0):=by simp[B9,go_sem]
 have r5:∀ o,w1.frozen? ⟨w.heap.size+1+1,o,none⟩=false:=by intro o;simp[D6,go_sem]
 have H2:=zC (h2.bw X9);clear B9 D6;obtain⟨W,hW⟩:∃ W,W=w1.alloc (.cells #[.bool m9,.slice a1 n1 c1] 29):=⟨_,rfl⟩;have j8:Below w1.heap.size w1 W:=by rw[hW];exact bl1 _ _
 have u0:W.cell? ⟨w1.heap.size,0,none⟩=some (.bool m9):=by rw[hW];simp
 have u1:W.cell? ⟨w1.heap.size,1,none⟩=some (.slice a1 n1 c1):=by rw[hW];simp
 have hlW:w1.heap.size<W.heap.size:=by rw[hW];simp
 have HI:=zC (o8.bw j8);have xG:=zC ((zA H2).bw j8);have W9:w.heap.size+1<W.heap.size:=Nat.lt_trans M5 hlW;have W7:w.heap.size+1+1<W.heap.size:=Nat.lt_trans H6 hlW
 have HK:=zC (show ∀ w',Below W.heap.size W w'->(w'.cell? ⟨w1.heap.size,0,none⟩=some (.bool m9)/\w'.cell? ⟨w1.heap.size,1,none⟩=some (.slice a1 n1 c1)/\w'.cell? ⟨w.heap.size+1,0,none⟩=some (.bool j6)/\w'.cell? ⟨w.heap.size+1,1,none⟩=some (.slice c m m8)) from λ w' hB =>
  ⟨(hB.cell (p:=⟨w1.heap.size,0,none⟩) hlW).trans u0,(hB.cell (p:=⟨w1.heap.size,1,none⟩) hlW).trans u1,(hB.cell (p:=⟨w.heap.size+1,0,none⟩) W9).trans ((j8.cell (p:=⟨w.heap.size+1,0,none⟩) M5).trans k0),(hB.cell (p:=⟨w.heap.size+1,1,none⟩) W9).trans ((j8.cell (p:=⟨w.heap.size+1,1,none⟩) M5).trans k1)⟩)
 have HR:=zC (show ∀ w',Below W.heap.size W w'->(w'.cell? ⟨w.heap.size+1+1,0,none⟩=some (.bool false)/\w'.cell? ⟨w.heap.size+1+1,1,none⟩=some (.slice none 0 0)/\w'.cell? ⟨w.heap.size+1+1,2,none⟩=some (.bool false)/\w'.cell? ⟨w.heap.size+1+1,3,none⟩=some (.slice none 0 0)/\w'.cell? ⟨w.heap.size+1+1,4,none⟩=some (.int .i64 0)/\∀ o,w'.frozen? ⟨w.heap.size+1+1,o,none⟩=false) from λ w' hB =>
  ⟨(hB.cell (p:=⟨w.heap.size+1+1,0,none⟩) W7).trans ((j8.cell (p:=⟨w.heap.size+1+1,0,none⟩) H6).trans r0),(hB.cell (p:=⟨w.heap.size+1+1,1,none⟩) W7).trans ((j8.cell (p:=⟨w.heap.size+1+1,1,none⟩) H6).trans r1),(hB.cell (p:=⟨w.heap.size+1+1,2,none⟩) W7).trans ((j8.cell (p:=⟨w.heap.size+1+1,2,none⟩) H6).trans r2),(hB.cell (p:=⟨w.heap.size+1+1,3,none⟩) W7).trans ((j8.cell (p:=⟨w.heap.size+1+1,3,none⟩) H6).trans r3),(hB.cell (p:=⟨w.heap.size+1+1,4,none⟩) W7).trans ((j8.cell (p:=⟨w.heap.size+1+1,4,none⟩) H6).trans r4),λ o=>(hB.frozen (p:=⟨w.heap.size+1+1,o,none⟩) W7).trans ((j8.frozen (p:=⟨w.heap.size+1+1,o,none⟩) H6).trans (r5 o))⟩)
 have od:Below w.heap.size w W:=zB X9 j8;have iA:w.heap.size+1+1≠w1.heap.size:=by omega
 have iB:w1.heap.size≠w.heap.size+1+1:=by omega
 rw[<- hW];clear hW k0 k1 r0 r1 r2 r3 r4 r5 u0 u1 H2 o8 b9 X9 j8
 go_region_held3 (λ w'=>w'.cell? ⟨w1.heap.size,0,none⟩=some (.bool m9)/\w'.cell? ⟨w1.heap.size,1,none⟩=some (.slice a1 n1 c1)/\w'.cell? ⟨w.heap.size+1,0,none⟩=some (.bool j6)/\w'.cell? ⟨w.heap.size+1,1,none⟩=some (.slice c m m8)) (first|exact zA HK _ (by first|exact (Below.refl _ _).drew|exact o9|exact D3)|go_keep)
  (first
   | (go_at_call 126;refine (zAB _ _ _ _ _ _ _ _ (k+b/16+10) k2 (x*Q b) y _ ((zA HI).bw (Below.refl _ _).drew) ((zA xG).bw (Below.refl _ _).drew) (by omega) hy).mono ?_;rintro r w2 ⟨E6,a4,n4,c4,rfl,I2,y9⟩;have o9:Below W.heap.size W w2:=zB (Below.refl _ _).drew y9)
   | (go_at_call 127;refine (zHY _ _ _ _ _ _ _ _ (k+b/16+10) k2 (x*Q b) y _ ((zA HI).bw o9) ((zA xG).bw o9) (by omega) hy).mono ?_;rintro r w3 ⟨L4,a5,n5,c5,rfl,P9,D8⟩;have D3:=zB o9 D8;obtain⟨q0,q1,q2,q3,q4,q5⟩:=zA HR w3 D3;obtain⟨q6,q7,q8,q9⟩:=zA HK w3 D3))
 go_wp2;refine bodyPost_ret (v:=.agg #[.bool E6,.slice a4 n4 c4,.bool L4,.slice a5 n5 c5,.int .i64 b]) (by simp[results,Tryz.results88,go_sem,q0,q1,q2,q3,q4]) rfl ⟨⟨E6,a4,n4,c4,L4,a5,n5,c5,b⟩,rfl,rfl,?_,?_⟩
 ·exact SpAt.put5 ⟨(I2.bw D8).mono (by omega),P9.mono (by omega)⟩ q0 q1 q2 q3 q4 _ _ _ _ _
 ·exact jS (od.trans (D3.mono od.size)) (by omega) _ _ _ _ _
end Go.Proofs.YtgmnknmjainabacGreat
