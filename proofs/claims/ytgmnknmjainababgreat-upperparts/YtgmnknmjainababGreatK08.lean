/-
  Its own texts.
-/
import Derived.Test.YtgmnknmjainababGreatK07
set_option maxRecDepth 100000
set_option maxHeartbeats 8000000
set_option linter.unnecessarySimpa false
set_option linter.unusedSimpArgs false
set_option linter.unusedVariables false
namespace Go.Proofs.YtgmnknmjainababGreat.Ex
def pw (x:Rat):Nat→Rat
 | 0=>1
 | k+1=>x*pw x k
def q2:Nat→Rat
 | 0=>1
 | n+1=>q2 n/2
theorem zAQ (n:Nat):0<q2 n:=by
 induction n with
 | zero=>simp only[q2];grind
 | succ n ih=>simp only[q2];grind
theorem q2_le (n:Nat):q2 n≤1:=by
 induction n with
 | zero=>simp only[q2];grind
 | succ n ih=>simp only[q2];have:=zAQ n;grind
theorem zLS {y:Rat} (h:AB y (1/2)) (k:Nat):AB (pw y k) (q2 k):=by
 induction k with
 | zero=>simp only[pw,q2];constructor <;> grind
 | succ k ih=>simp only[pw,q2];exact (h.mul ih).mono (by grind)
theorem pw_step {y h:Rat} (hy:AB y (1/2)) (hyh:AB (y+h) (1/2)) (k:Nat) :
  AB (pw (y+h) (k+1)-pw y (k+1)-((k:Rat)+1)*(h*pw y k)) ((k:Rat)*((k:Rat)+1)*q2 k*(h*h)):=by
 induction k with
 | zero=>simp only[pw,q2];simp;constructor <;> grind
 | succ k ih =>
  have e1:pw (y+h) (k+1+1)=(y+h)*pw (y+h) (k+1):=rfl;have e2:pw y (k+1+1)=y*pw y (k+1):=rfl;have e3:pw y (k+1)=y*pw y k:=rfl;have e4:((k+1:Nat):Rat)=(k:Rat)+1:=by simp
  have e5:q2 (k+1)=q2 k/2:=rfl;have h2:=yT h;have q:=zAQ k;have kk:(0:Rat)≤(k:Rat):=by exact_mod_cast Nat.zero_le k
  have g1:=hyh.mul ih
  have g2:AB (((k:Rat)+1)*(h*h)*pw y k) (((k:Rat)+1)*(h*h)*q2 k):=by
   have:AB (((k:Rat)+1)*(h*h)) (((k:Rat)+1)*(h*h)):=by
    have:=Rat.mul_nonneg (show 0≤(k:Rat)+1 by grind) h2
    constructor <;> grind
   exact this.mul (zLS hy k)
  have g:=g1.add g2;rw[e1,e2,e4,e5]
  have:(y+h)*(pw (y+h) (k+1)-pw y (k+1)-((k:Rat)+1)*(h*pw y k))+((k:Rat)+1)*(h*h)*pw y k=(y+h)*pw (y+h) (k+1)-y*pw y (k+1)-((k:Rat)+1+1)*(h*pw y (k+1)):=by
   rw[e3];grind
  rw[this] at g;exact g.mono (by grind)
def Lg (y:Rat) (M:Nat):Rat:=S (fun k=>pw y (k+1)/((k:Rat)+1)) M
theorem zAO {t b m:Rat} (hm:0<m) (h:AB t (m*b)):AB (t/m) b:=by
 have e:=rdm (a:=t) hm;generalize t/m=q at *;obtain ⟨h1,h2⟩:=h;constructor
 ·refine Rat.not_lt.1 fun hn=>?_
  have:=Rat.mul_pos hm (show 0 < -b-q by grind)
  grind
 ·refine Rat.not_lt.1 fun hn=>?_
  have:=Rat.mul_pos hm (show 0<q-b by grind)
  grind
theorem S_sub (f g:Nat→Rat) (n:Nat):S (fun i=>f i-g i) n=S f n-S g n:=by
 induction n with
 | zero=>simp[S];try grind
 | succ n ih=>simp only[S,ih];grind
theorem S_k2 (M:Nat):S (fun k=>(k:Rat)*q2 k) M=2-2*((M:Rat)+1)*q2 M:=by
 induction M with
 | zero=>simp only[S,q2];simp;grind
 | succ M ih =>
  simp only[S,ih,q2];have e4:((M+1:Nat):Rat)=(M:Rat)+1:=by simp
  rw[e4];grind
theorem Lg_step {y h:Rat} (hy:AB y (1/2)) (hyh:AB (y+h) (1/2)) (M:Nat) :
  AB (Lg (y+h) M-Lg y M-h*S (pw y) M) (2*(h*h)):=by
 have e:Lg (y+h) M-Lg y M-h*S (pw y) M=S (fun k=>(pw (y+h) (k+1)-pw y (k+1)-((k:Rat)+1)*(h*pw y k))/((k:Rat)+1)) M:=by
  unfold Lg;rw[← zLR,← S_sub,← S_sub];refine zCE _ fun i hi=>?_
  have hp:=zCD i;generalize (i:Rat)+1=m at *;grind
 rw[e];have h2:=yT h
 have g:AB (S (fun k=>(pw (y+h) (k+1)-pw y (k+1)-((k:Rat)+1)*(h*pw y k))/((k:Rat)+1)) M) (S (fun k=>(h*h)*((k:Rat)*q2 k)) M):=by
  refine S_AB _ fun i hi=>?_
  refine zAO (zCD i) ((pw_step hy hyh i).mono ?_);grind
 refine g.mono ?_;rw[zLR,S_k2];have q:=zAQ M;have hM0:(0:Rat)≤(M:Rat):=by exact_mod_cast Nat.zero_le M
 have:=Rat.mul_nonneg (Rat.mul_nonneg h2 (show 0≤(M:Rat)+1 by grind)) (Rat.le_of_lt q)
 grind
theorem S_pw (y:Rat) (M:Nat):S (pw y) M*(1-y)=1-pw y M:=by
 induction M with
 | zero=>simp only[S,pw];grind
 | succ M ih=>simp only[S,pw];grind
theorem S_q2 (M:Nat):S q2 M=2-2*q2 M:=by
 induction M with
 | zero=>simp only[S,q2];grind
 | succ M ih=>simp only[S,q2,ih];grind
theorem S_pw_AB {y:Rat} (hy:AB y (1/2)) (M:Nat):AB (S (pw y) M) 2:=by
 refine (S_AB M fun i _=>zLS hy i).mono ?_
 rw[S_q2];have:=zAQ M;grind
theorem Lg_AB {y:Rat} (hy:AB y (1/2)) (M:Nat):AB (Lg y M) 2:=by
 have:AB (Lg y M) (S q2 M):=by
  refine S_AB M fun i _=>zAO (zCD i) ((zLS hy (i+1)).mono ?_)
  have q:=zAQ i;have kk:(0:Rat)≤(i:Rat):=by exact_mod_cast Nat.zero_le i
  have:=Rat.mul_nonneg kk (Rat.le_of_lt q);simp only[q2];grind
 refine this.mono ?_;rw[S_q2];have:=zAQ M;grind
theorem pw_zero (k:Nat):pw 0 (k+1)=0:=by simp only[pw];grind
theorem Lg_zero (M:Nat):Lg 0 M=0:=by
 unfold Lg;rw[zCE M (g:=fun _=>0) (fun i _=>by rw[pw_zero];grind),zM3];grind
theorem G_step (K η:Rat) (M:Nat) (hM:2≤M) (hK:∀ x,AB x 4→AB (E x M) K) (hη:∀ x y,AB x 4→AB y 4→AB (E x M*E y M-E (x+y) M) η)
  {y h b:Rat} (hy:AB y (1/2)) (hyh:AB (y+h) (1/2)) (hb:AB h b) (hb12:b≤1/12) :
  AB (E (Lg (y+h) M) M*(1-(y+h))-E (Lg y M) M*(1-y)) (K*(33*(b*b)+b*q2 M)+2*η):=by
 have b0:=hb.nonneg;have g1:=Lg_step hy hyh M;have g2:=S_pw y M;have g3:=S_pw_AB hy M;have g4:=zLS hy M;have g5:=Lg_AB hy M;have g6:=Lg_AB hyh M;have hbb:h*h≤b*b:=by have:=(hb.mul hb).2;grind
 generalize S (pw y) M=g at *;generalize pw y M=pM at *;obtain ⟨δ,hδ⟩:∃ δ,δ=Lg (y+h) M-Lg y M:=⟨_,rfl⟩;obtain ⟨r,hr⟩:∃ r,r=Lg (y+h) M-Lg y M-h*g:=⟨_,rfl⟩;have hrb:AB r (2*(b*b)):=by rw[hr];exact g1.mono (by grind)
 have bb:=Rat.mul_nonneg b0 b0;have bb2:=Rat.mul_nonneg b0 (show 0≤1/12-b by grind)
 have hδb:AB δ (3*b):=by
  have:=(hb.mul g3).add hrb;have e:h*g+r=δ:=by rw[hr,hδ];grind
  rw[e] at this;exact this.mono (by grind)
 have hs:=zEY hδb (by grind) hM
 have hE:=hK _ (g5.mono (by grind))
 have hmul:=hη (Lg y M) δ (g5.mono (by grind)) (hδb.mono (by grind))
 rw[show Lg y M+δ=Lg (y+h) M by rw[hδ];grind] at hmul
 generalize E (Lg (y+h) M) M=A at *;generalize E (Lg y M) M=C at *;generalize E δ M=D at *;obtain ⟨s,hs'⟩:∃ s,s=D-1-δ:=⟨_,rfl⟩;rw[← hs'] at hs;obtain ⟨t,ht⟩:∃ t,t=C*D-A:=⟨_,rfl⟩;rw[← ht] at hmul;have h1y:AB (1-y) (3/2):=by obtain ⟨_,_⟩:=hy;constructor <;> grind
 have h1yh:AB (1-(y+h)) 2:=by obtain ⟨_,_⟩:=hyh;constructor <;> grind
 have h1yh':AB (1-(y+h)) (3/2):=by obtain ⟨_,_⟩:=hyh;constructor <;> grind
 have key:A*(1-(y+h))-C*(1-y)=C*(-(h*pM)+r*(1-y)+(-(δ*h))+s*(1-(y+h))) + -(t*(1-(y+h))):=by
  have e1:A=C*D-t:=by grind
  have e2:D=s+1+δ:=by grind
  have e3:δ=h*g+r:=by rw[hr,hδ];grind
  have e4:pM=1-g*(1-y):=by grind
  rw[e1,e2,e4,e3];grind
 rw[key];have m1:=(hb.mul g4).neg;have m2:=hrb.mul h1y;have m3:=(hδb.mul hb).neg;have m4:=hs.mul h1yh';have m5:=(hmul.mul h1yh).neg;have m:=(hE.mul (((m1.add m2).add m3).add m4)).add m5;refine m.mono ?_;have:=hE.nonneg;have:b*q2 M+2*(b*b)*(3/2)+3*b*b+2*(3*b*(3*b))*(3/2)=33*(b*b)+b*q2 M:=by grind
 rw[this];grind
theorem G_steps (K η:Rat) (M:Nat) (hM:2≤M) (hK:∀ x,AB x 4→AB (E x M) K) (hη:∀ x y,AB x 4→AB y 4→AB (E x M*E y M-E (x+y) M) η)
  {h b:Rat} (n:Nat) (hn:(n:Rat)*b≤1/2) (hb:AB h b) (hb12:b≤1/12) (j:Nat) (hj:j≤n) :
  AB (E (Lg ((j:Rat)*h) M) M*(1-(j:Rat)*h)-1) ((j:Rat)*(K*(33*(b*b)+b*q2 M)+2*η)):=by
 have b0:=hb.nonneg
 have hin:∀ i:Nat,i≤n→AB ((i:Rat)*h) (1/2):=fun i hi=>by
  have hi':(i:Rat)≤(n:Rat):=by exact_mod_cast hi
  have hi0:(0:Rat)≤(i:Rat):=by exact_mod_cast Nat.zero_le i
  have:AB (i:Rat) (i:Rat):=by constructor <;> grind
  refine (this.mul hb).mono ?_;have:=Rat.mul_nonneg (show 0≤(n:Rat)-i by grind) b0
  grind
 induction j with
 | zero =>
  have:((0:Nat):Rat)=0:=by simp
  rw[this,Rat.zero_mul,Lg_zero];obtain ⟨m,rfl⟩:∃ m,M=m+1:=⟨M-1,by omega⟩
  rw[zA9,Rat.zero_mul];constructor <;> grind
 | succ j ih =>
  have ih:=ih (by omega)
  have e4:((j+1:Nat):Rat)=(j:Rat)+1:=by simp
  have h2:=hin (j+1) hj;rw[e4] at h2 ⊢;have e5:((j:Rat)+1)*h=(j:Rat)*h+h:=by grind
  rw[e5] at h2 ⊢;have g:=G_step K η M hM hK hη (hin j (by omega)) h2 hb hb12
  have:=ih.add g;generalize E (Lg ((j:Rat)*h+h) M) M*(1-((j:Rat)*h+h))=X at *;generalize E (Lg ((j:Rat)*h) M) M*(1-(j:Rat)*h)=Y at *;have e6:Y-1+(X-Y)=X-1:=by grind
  rw[e6] at this;exact this.mono (by grind)
theorem q4_q2 (M:Nat):(M:Rat)*q2 M≤1:=by
 induction M with
 | zero=>simp only[q2];simp;grind
 | succ M ih =>
  have e4:((M+1:Nat):Rat)=(M:Rat)+1:=by simp
  rw[e4];simp only[q2];have:=q2_le M;grind
theorem null_q2:Null q2:=fun e he=>by
 obtain ⟨n,hn1,hn2⟩:=zB8 (1/e);refine ⟨n+1,fun M hM=>?_⟩
 have hMn:(n:Rat)≤(M:Rat):=by exact_mod_cast (show n≤M by omega)
 have u:=q4_q2 M;have q:=zAQ M;have e1:=rdm (a:=1) he;generalize 1/e=d at *;have s1:=Rat.mul_nonneg (show 0≤(M:Rat)-d by grind) (Rat.le_of_lt q)
 have s2:=Rat.mul_nonneg (show 0≤1-d*q2 M by grind) (Rat.le_of_lt he)
 have s3:(1-d*q2 M)*e=e-d*e*q2 M:=by grind
 rw[s3,e1] at s2;constructor <;> grind
theorem zL6 {b n c:Rat} (hn:0<n) (hc:0<c) (h:b*n=c):0<b:=by
 refine Rat.not_le.1 fun hb=>?_
 have:=Rat.mul_nonneg (show 0 ≤ -b by grind) (Rat.le_of_lt hn)
 grind
theorem Lg_exp (e:Rat) (he:0<e):∃ N,∀ M,N≤M→∀ y,AB y (1/2)→AB (E (Lg y M) M*(1-y)-1) e:=by
 obtain ⟨K,k0,hK⟩:=zET 4;obtain ⟨L,l0,hL⟩:=zK2 4;obtain ⟨n0,hn1,hn2⟩:=zB8 (33*K/e);obtain ⟨n,hn⟩:∃ n:Nat,n=n0+6:=⟨_,rfl⟩;have hnr:(n0:Rat)+6=(n:Rat):=by rw[hn];simp
 have hn0:(0:Rat)≤(n0:Rat):=by exact_mod_cast Nat.zero_le n0
 have npos:(0:Rat)<(n:Rat):=by grind
 have hKn:33*K≤e*(n:Rat):=by
  have e1:=rdm (a:=33*K) he;generalize 33*K/e=d at *;have:=Rat.mul_nonneg (show 0≤(n:Rat)-d by grind) (Rat.le_of_lt he)
  grind
 have hn6:(6:Rat)≤(n:Rat):=by grind
 clear hn hn1 hn2 hnr hn0;have d1:=zL he (show 0<4*(K+1) by grind)
 obtain ⟨N1,h1⟩:=null_q2 _ d1;have d2:=zL he (show (0:Rat)<8*(n:Rat) by grind)
 obtain ⟨N2,h2⟩:=zA6 L l0 _ d2;refine ⟨N1+N2+2,fun M hM y hy=>?_⟩
 have g1:=(h1 M (by omega)).2
 have g2:L*((M:Rat)*q4 M)≤e/(8*(n:Rat)):=(h2 M (by omega)).2
 have e1:=rdm (a:=e) (show 0<4*(K+1) by grind)
 have e2:=rdm (a:=e) (show (0:Rat)<8*(n:Rat) by grind)
 generalize e/(4*(K+1))=c1 at *;generalize e/(8*(n:Rat))=c2 at *;obtain ⟨b,hbn⟩:∃ b,b*(n:Rat)=1/2:=⟨1/2/(n:Rat),rdm npos⟩;have b0:0<b:=zL6 npos (by grind) hbn
 have hyn:=rdm (a:=y) npos;have hh:AB (y/(n:Rat)) b:=zAO npos (hy.mono (by rw[Rat.mul_comm,hbn];exact Rat.le_refl))
 have hb12:b≤1/12:=by
  have h6:=Rat.mul_nonneg (Rat.le_of_lt b0) (show 0≤(n:Rat)-6 by grind)
  have h7:b*((n:Rat)-6)=b*n-6*b:=by grind
  rw[h7,hbn] at h6;grind
 have g:=G_steps K (L*((M:Rat)*q4 M)) M (by omega) (hK M) (hL M) n (by rw[Rat.mul_comm,hbn];exact Rat.le_refl) hh hb12 n (Nat.le_refl _)
 rw[show (n:Rat)*(y/(n:Rat))=y from (Rat.mul_comm _ _).trans hyn] at g
 refine g.mono ?_;generalize L*((M:Rat)*q4 M)=η at *;have q:=zAQ M;generalize q2 M=Q at *;have t1:(n:Rat)*(K*(33*(b*b)+b*Q)+2*η)=K*(33*b*(b*n)+(b*n)*Q)+2*(n*η):=by grind
 rw[t1,hbn];have t2:=Rat.mul_nonneg (Rat.le_of_lt npos) (show 0≤c2-η by grind)
 have t3:=Rat.mul_nonneg k0 (show 0≤c1-Q by grind)
 have t4:=Rat.mul_nonneg (Rat.le_of_lt b0) (show 0≤e*(n:Rat)-33*K by grind)
 have t5:b*(e*(n:Rat)-33*K)=e*(b*n)-33*K*b:=by grind
 rw[t5,hbn] at t4;have t6:(n:Rat)*(c2-η)=(c2*(8*n))/8-n*η:=by grind
 rw[t6,e2] at t2;have t7:K*(c1-Q)=(c1*(4*(K+1)))/4-c1-K*Q:=by grind
 rw[t7,e1] at t3;have t8:K*(33*b*(1/2)+1/2*Q)=33*K*b/2+K*Q/2:=by grind
 rw[t8];generalize K*Q=A at *;generalize 33*K*b=B at *;generalize (n:Rat)*η=C at *;grind
end Go.Proofs.YtgmnknmjainababGreat.Ex
namespace Go.Proofs.YtgmnknmjainababGreat.Ex
def IsLog (l r:Nat→Rat):Prop:=Bdd l∧Null (fun M=>Ev l M-r M)
theorem Bdd.of_null {f g:Nat→Rat} (h:Bdd f) (k:Null (fun M=>f M-g M)):Bdd g:=by
 obtain ⟨K,N,k0,h⟩:=h.sub k.bdd;exact ⟨K,N,k0,fun M hM=>by have:AB (f M-(f M-g M)) K:=h M hM;rw[show f M-(f M-g M)=g M by grind] at this;exact this⟩
theorem IsLog.bdd {l r:Nat→Rat} (h:IsLog l r):Bdd r:=(zBG h.1).of_null h.2
theorem IsLog.le {l r l' r' z:Nat→Rat} (h:IsLog l r) (h':IsLog l' r') (hz:Null z) (N0:Nat) (hr:∀ M,N0≤M→r M≤r' M+z M) (e:Rat) (he:0<e):∃ N,∀ M,N≤M→l M≤l' M+e:=by
 refine zOC h.1 h'.1 ((h.2.sub h'.2).add hz) N0 (fun M hM=>?_) e he
 have:=hr M hM;grind
theorem IsLog.uniq {l l' r:Nat→Rat} (h:IsLog l r) (h':IsLog l' r):Null (fun M=>l M-l' M):=fun e he=>by
 obtain ⟨N,h1⟩:=h.le h' null_zero 0 (fun M _=>by grind) e he
 obtain ⟨N',h2⟩:=h'.le h null_zero 0 (fun M _=>by grind) e he
 refine ⟨N+N',fun M hM=>?_⟩
 have:=h1 M (by omega)
 have:=h2 M (by omega)
 constructor <;> grind
theorem IsLog.congr {l l' r:Nat→Rat} (h:IsLog l r) (k:Null (fun M=>l M-l' M)):IsLog l' r:=by
 have b:=h.1.of_null k;refine ⟨b,?_⟩;refine (h.2.sub (zK5 h.1 b k)).of_eq fun M=>?_
 grind
theorem IsLog.congr_r {l r r':Nat→Rat} (h:IsLog l r) (k:Null (fun M=>r M-r' M)):IsLog l r' :=
 ⟨h.1,(h.2.add k).of_eq fun M=>by grind⟩
theorem IsLog.add {l l' r r':Nat→Rat} (h:IsLog l r) (h':IsLog l' r'):IsLog (fun M=>l M+l' M) (fun M=>r M*r' M):=by
 refine ⟨h.1.add h'.1,?_⟩;have n1:=zA1 h.1 h'.1;have n2:=h.2.bmul (zBG h'.1);have n3:=h'.2.bmul h.bdd;refine ((n2.add n3).sub n1).of_eq fun M=>?_
 grind
theorem IsLog.neg {l r s:Nat→Rat} (h:IsLog l r) (hs:Bdd s) (N:Nat) (hrs:∀ M,N≤M→s M*r M=1):IsLog (fun M => -l M) s:=by
 refine ⟨h.1.neg,?_⟩;have n1:=zK0 h.1;have n2:=h.2.bmul (zBG h.1.neg);have n3:=(n1.sub n2).bmul hs;refine n3.of_eq_from N fun M hM=>?_
 have e:=hrs M hM;have:(Ev l M*Ev (fun M => -l M) M-1-(Ev l M-r M)*Ev (fun M => -l M) M)*s M=(s M*r M)*Ev (fun M => -l M) M-s M:=by grind
 rw[this,e];grind
theorem zH2:IsLog (fun _=>0) (fun _=>1):=⟨Bdd.const 0,null_zero.of_eq_from 1 fun M hM=>by
 obtain ⟨m,rfl⟩:∃ m,M=m+1:=⟨M-1,by omega⟩
 show E 0 (m+1)-1=0
 rw[zA9];grind⟩
theorem zHB {y:Nat→Rat} (N0:Nat) (hy:∀ M,N0≤M→AB (y M) (1/2)):IsLog (fun M => -Lg (y M) M) (fun M=>1-y M):=by
 have b1:Bdd (fun M=>Lg (y M) M):=Bdd.of_le 2 N0 fun M hM=>Lg_AB (hy M hM) M
 have b2:Bdd (fun M=>1-y M):=Bdd.of_le 2 N0 fun M hM=>by obtain ⟨_,_⟩:=hy M hM;constructor <;> grind
 refine ⟨b1.neg,?_⟩;have n1:=(zK0 b1).bmul b2
 have n2:Null (fun M=>E (Lg (y M) M) M*(1-y M)-1):=fun e he=>by
  obtain ⟨N,h⟩:=Lg_exp e he;exact ⟨N+N0,fun M hM=>h M (by omega) _ (hy M (by omega))⟩
 have n3:=n2.bmul (zBG b1.neg);refine (n1.sub n3).of_eq fun M=>?_
 show Ev (fun M => -Lg (y M) M) M-(1-y M)=(E (Lg (y M) M) M*Ev (fun M => -Lg (y M) M) M-1)*(1-y M)-(E (Lg (y M) M) M*(1-y M)-1)*Ev (fun M => -Lg (y M) M) M
 grind
theorem IsLog.times {l r:Nat→Rat} (h:IsLog l r) (k:Nat):IsLog (fun M=>(k:Rat)*l M) (fun M=>pw (r M) k):=by
 induction k with
 | zero =>
  have e1:(fun M=>((0:Nat):Rat)*l M)=fun _=>0:=funext fun M=>by simp;try grind
  rw[e1];exact zH2
 | succ k ih =>
  have e1:(fun M=>((k+1:Nat):Rat)*l M)=fun M=>l M+(k:Rat)*l M:=funext fun M=>by
   have:((k+1:Nat):Rat)=(k:Rat)+1:=by simp
   rw[this];grind
  rw[e1];exact h.add ih
theorem Lg_tail {y:Rat} (hy:AB y (1/2)) (a i:Nat):AB (Lg y (a+i)-Lg y a) (2*(q2 a-q2 (a+i))):=by
 induction i with
 | zero=>simp only[Nat.add_zero];constructor <;> grind
 | succ i ih =>
  have e:Lg y (a+(i+1))=Lg y (a+i)+pw y (a+i+1)/(((a+i:Nat):Rat)+1):=rfl;have e2:q2 (a+(i+1))=q2 (a+i)/2:=rfl
  have h:AB (pw y (a+i+1)/(((a+i:Nat):Rat)+1)) (q2 (a+i)):=by
   refine zAO (zCD _) ((zLS hy (a+i+1)).mono ?_);have q:=zAQ (a+i);have kk:(0:Rat)≤((a+i:Nat):Rat):=by exact_mod_cast Nat.zero_le (a+i)
   have:=Rat.mul_nonneg kk (Rat.le_of_lt q);simp only[q2];grind
  have:=ih.add h;rw[e,e2];generalize pw y (a+i+1)/(((a+i:Nat):Rat)+1)=t at *;have h3:Lg y (a+i)+t-Lg y a=Lg y (a+i)-Lg y a+t:=by grind
  rw[h3];exact this.mono (by grind)
theorem zIF {y:Nat→Rat} (N0:Nat) (hy:∀ M,N0≤M→AB (y M) (1/2)):Null (fun M=>Lg (y M) (M+M)-Lg (y M) M):=by
 refine ((null_q2.add null_q2)).of_le N0 fun M hM=>?_
 refine (Lg_tail (hy M hM) M M).mono ?_;have:=zAQ (M+M);grind
def Az (z:Rat) (M:Nat):Rat:=S (fun k=>pw z (2*k+1)/(2*(k:Rat)+1)) M
theorem zH8 (z:Rat) (k:Nat):pw (-z) (2*k)=pw z (2*k):=by
 induction k with
 | zero=>rfl
 | succ k ih=>rw[show 2*(k+1)=2*k+1+1 by omega];simp only[pw,ih];grind
theorem Az_Lg (z:Rat) (M:Nat):2*Az z M=Lg z (M+M)-Lg (-z) (M+M):=by
 induction M with
 | zero=>simp[Az,Lg,S];try grind
 | succ M ih =>
  have e:M+1+(M+1)=M+M+1+1:=by omega
  have e1:∀ y,Lg y (M+M+1+1)=Lg y (M+M)+pw y (M+M+1)/(((M+M:Nat):Rat)+1)+pw y (M+M+1+1)/(((M+M+1:Nat):Rat)+1):=fun y=>rfl
  have e2:Az z (M+1)=Az z M+pw z (2*M+1)/(2*(M:Rat)+1):=rfl
  have e3:((M+M:Nat):Rat)=2*(M:Rat):=by
   have:((M+M:Nat):Rat)=(M:Rat)+(M:Rat):=by simp
   rw[this];grind
  rw[e,e1,e1,e2,e3]
  have p1:pw (-z) (M+M+1) = -pw z (M+M+1):=by
   have:=zH8 z M;rw[show M+M=2*M by omega]
   simp only[pw,this];grind
  have p2:pw (-z) (M+M+1+1)=pw z (M+M+1+1):=by
   have:=zH8 z (M+1);rw[show 2*(M+1)=M+M+1+1 by omega] at this
   exact this
  rw[p1,p2,show 2*M+1=M+M+1 by omega]
  generalize pw z (M+M+1)=a;generalize pw z (M+M+1+1)/(((M+M+1:Nat):Rat)+1)=b;have : -a/(2*(M:Rat)+1) = -(a/(2*(M:Rat)+1)):=by rw[Rat.div_def,Rat.div_def,Rat.neg_mul]
  rw[this];grind
theorem isLog_Az {z r:Nat→Rat} (N0:Nat) (hz:∀ M,N0≤M→AB (z M) (1/2)) (hr:∀ M,N0≤M→r M*(1-z M)=1+z M):IsLog (fun M=>2*Az (z M) M) r:=by
 have h1:=zHB N0 (y:=fun M => -z M) (fun M hM=>(hz M hM).neg)
 have h2:=zHB N0 hz;have hinv:∀ M,N0≤M→1/(1-z M)*(1-z M)=1:=fun M hM=>rdm (by obtain ⟨_,_⟩:=hz M hM;grind)
 have h3:=h2.neg (s:=fun M=>1/(1-z M)) (Bdd.of_le 2 N0 fun M hM=>by
  have hp:0<1-z M:=by obtain ⟨_,_⟩:=hz M hM;grind
  refine zAO hp ?_;obtain ⟨_,_⟩:=hz M hM
  constructor <;> grind) N0 hinv
 have h4:=(h1.add h3).congr_r (r':=r) (null_zero.of_eq_from N0 fun M hM=>by
  have e1:=hinv M hM;have e2:=hr M hM;have hp:0<1-z M:=by obtain ⟨_,_⟩:=hz M hM;grind
  generalize 1/(1-z M)=i at *
  have:r M=(1+z M)*i:=by
   have:r M*(1-z M)*i=(1+z M)*i:=by rw[e2]
   have e3:r M*(1-z M)*i=r M*(i*(1-z M)):=by grind
   rw[e3,e1] at this;grind
  grind)
 refine h4.congr ?_;have d1:=zIF N0 hz;have d2:=zIF N0 (y:=fun M => -z M) (fun M hM=>(hz M hM).neg)
 refine (d2.sub d1).of_eq fun M=>?_
 rw[Az_Lg];grind
end Go.Proofs.YtgmnknmjainababGreat.Ex
namespace Go.Proofs.YtgmnknmjainababGreat
open Ex
theorem zCS (a b c d:Int):jA (pr4 a b c d) 3≤a∧jA (pr4 a b c d) 3≤b∧jA (pr4 a b c d) 3≤c∧jA (pr4 a b c d) 3≤d∧(jA (pr4 a b c d) 3=a∨jA (pr4 a b c d) 3=b∨jA (pr4 a b c d) 3=c∨jA (pr4 a b c d) 3=d):=by
 simp only[jA,pr4];simp;repeat' split
 all_goals omega
theorem zB3 (a b c d:Int):a≤jM (pr4 a b c d) 3∧b≤jM (pr4 a b c d) 3∧c≤jM (pr4 a b c d) 3∧d≤jM (pr4 a b c d) 3∧(jM (pr4 a b c d) 3=a∨jM (pr4 a b c d) 3=b∨jM (pr4 a b c d) 3=c∨jM (pr4 a b c d) 3=d):=by
 simp only[jM,pr4];simp;repeat' split
 all_goals omega
def kJ (B:Nat) (a b:Int × Int):Int × Int:=(jA (pr4 (a.1*b.1) (a.1*b.2) (a.2*b.1) (a.2*b.2)) 3/Q B,-(-(jM (pr4 (a.1*b.1) (a.1*b.2) (a.2*b.1) (a.2*b.2)) 3)/Q B))
def jJ (a b:Int × Int):Int × Int:=(a.1+b.1,a.2+b.2)
def yH (a b:Int × Int):Int × Int:=(a.1-b.2,a.2-b.1)
def zE (a:Int × Int) (n d:Int):Int × Int:=(a.1*n/d,-(-(a.2*n)/d))
def yJ (a:Int × Int) (n:Int):Int × Int:=(a.1*n,a.2*n)
def zT (a:Int × Int):Int:=zEE a.2 (-a.1)
def ofI (n d:Int) (B:Nat):Int × Int:=(n*Q B/d,-(-(n*Q B)/d))
def zN (a:Int × Int) (t:Nat):Int × Int:=(a.1/Q t,-(-a.2/Q t))
def jG (f:Nat→Int × Int):Nat→Int × Int
 | 0=>f 0
 | n+1=>jJ (jG f n) (f (n+1))
def jX (f:Nat→Int × Int) (N:Nat):Prop:=zT (f N)≤1∧∀ n,n<N→1<zT (f n)
def zQ (f:Nat→Int × Int) (N:Nat):Int × Int:=jJ (jG f N) (-zT (f N),zT (f N))
def sqI (B:Nat) (a:Int × Int):Nat→Int × Int
 | 0=>a
 | t+1=>kJ B (sqI B a t) (sqI B a t)
def Abs (a:Int × Int) (m:Int):Prop := -m≤a.1∧a.1≤m ∧ -m≤a.2∧a.2≤m
theorem zDI {a:Int × Int} (h:a.1≤a.2):Abs a (zT a):=by
 unfold Abs zT zEE;split <;> omega
theorem zAJ {a:Int × Int} {m:Int} (h:Abs a m):zT a≤m:=by
 obtain ⟨h1,h2,h3,h4⟩:=h;unfold zT zEE;split <;> omega
theorem Abs.nonneg {a:Int × Int} {m:Int} (h:Abs a m):0≤m:=by obtain ⟨h1,h2,h3,h4⟩:=h;omega
theorem Abs.mono {a:Int × Int} {m n:Int} (h:Abs a m) (k:m≤n):Abs a n:=by obtain ⟨h1,h2,h3,h4⟩:=h;exact ⟨by omega,by omega,by omega,by omega⟩
theorem Abs.add {a b:Int × Int} {m n:Int} (h:Abs a m) (k:Abs b n):Abs (jJ a b) (m+n):=by
 obtain ⟨h1,h2,h3,h4⟩:=h;obtain ⟨k1,k2,k3,k4⟩:=k;refine ⟨?_,?_,?_,?_⟩ <;> simp only[jJ] <;> omega
theorem yV {x y m n:Int} (h1 : -m≤x) (h2:x≤m) (k1 : -n≤y) (k2:y≤n) : -(m*n)≤x*y∧x*y≤m*n:=by
 have p1:=Int.mul_nonneg (show 0≤m-x by omega) (show 0≤n+y by omega)
 have p2:=Int.mul_nonneg (show 0≤m+x by omega) (show 0≤n-y by omega)
 have p3:=Int.mul_nonneg (show 0≤m-x by omega) (show 0≤n-y by omega)
 have p4:=Int.mul_nonneg (show 0≤m+x by omega) (show 0≤n+y by omega)
 constructor <;> grind
theorem jD {x m q:Int} (hq:0<q) (h1 : -(m*q)≤x) (h2:x≤m*q) : -m≤x/q∧x/q≤m ∧ -m ≤ -(-x/q) ∧ -(-x/q)≤m:=by
 have a1 : -m≤x/q:=by rw[Int.le_ediv_iff_mul_le hq,Int.neg_mul];exact h1
 have a2 : -m ≤ -x/q:=by rw[Int.le_ediv_iff_mul_le hq,Int.neg_mul];omega
 have a3:=zDH x q hq;have a4:=zBQ x q hq;refine ⟨a1,?_,?_,by omega⟩
 ·refine Int.not_lt.1 fun hn=>?_
  have:=Int.mul_le_mul_of_nonneg_right (show m+1≤x/q by omega) (show 0≤q by omega)
  rw[Int.add_mul] at this;omega
 ·refine Int.not_lt.1 fun hn=>?_
  have:=Int.mul_le_mul_of_nonneg_right (show -(-x/q) ≤ -m-1 by omega) (show 0≤q by omega)
  have e:(-m-1)*q = -(m*q)-q:=by grind
  rw[e] at this;omega
theorem yW {B:Nat} {a b:Int × Int} {m n p:Int} (h:Abs a m) (k:Abs b n) (hp:m*n≤p*Q B):Abs (kJ B a b) p:=by
 obtain ⟨h1,h2,h3,h4⟩:=h;obtain ⟨k1,k2,k3,k4⟩:=k;have q:=zG B;have c1:=yV h1 h2 k1 k2;have c2:=yV h1 h2 k3 k4;have c3:=yV h3 h4 k1 k2;have c4:=yV h3 h4 k3 k4;have l:=(zCS (a.1*b.1) (a.1*b.2) (a.2*b.1) (a.2*b.2)).2.2.2.2;have g:=(zB3 (a.1*b.1) (a.1*b.2) (a.2*b.1) (a.2*b.2)).2.2.2.2;have r1:=jD (x:=jA (pr4 (a.1*b.1) (a.1*b.2) (a.2*b.1) (a.2*b.2)) 3) (m:=p) (show 0<Q B by omega) (by omega) (by omega)
 have r2:=jD (x:=jM (pr4 (a.1*b.1) (a.1*b.2) (a.2*b.1) (a.2*b.2)) 3) (m:=p) (show 0<Q B by omega) (by omega) (by omega)
 exact ⟨r1.1,r1.2.1,r2.2.2.1,r2.2.2.2⟩
theorem kV (B:Nat) {a b:Int × Int}:(kJ B a b).1≤(kJ B a b).2:=by
 have q:=zG B;have l:=zCS (a.1*b.1) (a.1*b.2) (a.2*b.1) (a.2*b.2);have g:=zB3 (a.1*b.1) (a.1*b.2) (a.2*b.1) (a.2*b.2);simp only[kJ];have a1:=zDH (jA (pr4 (a.1*b.1) (a.1*b.2) (a.2*b.1) (a.2*b.2)) 3) (Q B) (by omega)
 have a2:=zBQ (jM (pr4 (a.1*b.1) (a.1*b.2) (a.2*b.1) (a.2*b.2)) 3) (Q B) (by omega)
 refine Int.not_lt.1 fun hn=>?_
 have:=Int.mul_lt_mul_of_pos_right hn (show 0<Q B by omega)
 omega
theorem yR {a:Int × Int} {m n d:Int} (h:Abs a m) (hd:0<d) (hn:0≤n) (hnd:n≤d):Abs (zE a n d) m:=by
 have m0:=h.nonneg;obtain ⟨h1,h2,h3,h4⟩:=h;have p:=Int.mul_nonneg m0 (show 0≤d-n by omega)
 have c1:=yV h1 h2 (show -n≤n by omega) (Int.le_refl n)
 have c2:=yV h3 h4 (show -n≤n by omega) (Int.le_refl n)
 rw[Int.mul_sub] at p;have r1:=jD (x:=a.1*n) (m:=m) hd (by omega) (by omega)
 have r2:=jD (x:=a.2*n) (m:=m) hd (by omega) (by omega)
 exact ⟨r1.1,r1.2.1,r2.2.2.1,r2.2.2.2⟩
theorem jQ {a:Int × Int} {n d:Int} (h:a.1≤a.2) (hd:0<d) (hn:0≤n):(zE a n d).1≤(zE a n d).2:=by
 simp only[zE];have a1:=zDH (a.1*n) d hd;have a2:=zBQ (a.2*n) d hd;have a3:=Int.mul_le_mul_of_nonneg_right h hn;refine Int.not_lt.1 fun hn=>?_
 have:=Int.mul_lt_mul_of_pos_right hn hd;omega
theorem zI0 {x y x' y' a1 a2 b1 b2 m n:Int} (hx:x=a1∨x=a2) (hy:y=b1∨y=b2) (hx':x'=a1∨x'=a2) (hy':y'=b1∨y'=b2)
  (ha:a1≤a2) (hb:b1≤b2) (h1 : -m≤a1) (h2:a1≤m) (h3 : -m≤a2) (h4:a2≤m) (k1 : -n≤b1) (k2:b1≤n) (k3 : -n≤b2) (k4:b2≤n) :
  x*y-x'*y'≤m*(b2-b1)+n*(a2-a1):=by
 have e:x*y-x'*y'=x*(y-y')+(x-x')*y':=by grind
 rw[e];have c1 : -m≤x∧x≤m:=by rcases hx with h|h <;> subst h <;> exact ⟨by assumption,by assumption⟩
 have c2 : -n≤y'∧y'≤n:=by rcases hy' with h|h <;> subst h <;> exact ⟨by assumption,by assumption⟩
 have d1 : -(b2-b1)≤y-y'∧y-y'≤b2-b1:=by rcases hy with h|h <;> rcases hy' with h'|h' <;> omega
 have d2 : -(a2-a1)≤x-x'∧x-x'≤a2-a1:=by rcases hx with h|h <;> rcases hx' with h'|h' <;> omega
 have g1:=(yV c1.1 c1.2 d1.1 d1.2).2;have g2:=(yV d2.1 d2.2 c2.1 c2.2).2;rw[Int.mul_comm n];omega
theorem zCN {x y q c:Int} (hq:0<q) (h:x-y≤c*q) : -(-x/q)-y/q≤c+1:=by
 have a1:=zPM x q hq;have a2:=flo_gt y q hq;refine Int.not_lt.1 fun hn=>?_
 have:=Int.mul_le_mul_of_nonneg_right (show c+2 ≤ -(-x/q)-y/q by omega) (show 0≤q by omega)
 rw[Int.sub_mul,Int.add_mul] at this;omega
theorem zDD {B:Nat} {a b:Int × Int} {m n c:Int} (h:Abs a m) (k:Abs b n) (ha:a.1≤a.2) (hb:b.1≤b.2) (hc:m*(b.2-b.1)+n*(a.2-a.1)≤c*Q B):(kJ B a b).2-(kJ B a b).1≤c+1:=by
 obtain ⟨h1,h2,h3,h4⟩:=h;obtain ⟨k1,k2,k3,k4⟩:=k;have q:=zG B;have l:=(zCS (a.1*b.1) (a.1*b.2) (a.2*b.1) (a.2*b.2)).2.2.2.2;have g:=(zB3 (a.1*b.1) (a.1*b.2) (a.2*b.1) (a.2*b.2)).2.2.2.2;refine zCN (show 0<Q B by omega) (Int.le_trans ?_ hc)
 have key:=fun x y x' y' (hx:x=a.1∨x=a.2) (hy:y=b.1∨y=b.2) (hx':x'=a.1∨x'=a.2) (hy':y'=b.1∨y'=b.2)=>zI0 hx hy hx' hy' ha hb h1 h2 h3 h4 k1 k2 k3 k4
 rcases g with g|g|g|g <;> rcases l with l|l|l|l <;> rw[g,l] <;> exact key _ _ _ _ (by simp) (by simp) (by simp) (by simp)
theorem zBK {a:Int × Int} {n d c:Int} (hd:0<d) (h:(a.2-a.1)*n≤c*d):(zE a n d).2-(zE a n d).1≤c+1:=by
 refine zCN hd ?_;rw[← Int.sub_mul];exact h
def Iv (B:Nat) (a:Int × Int) (x:Nat→Rat):Prop:=Has ((a.1:Rat)/(Q B:Rat)) ((a.2:Rat)/(Q B:Rat)) x
theorem zV (B:Nat):(0:Rat)<(Q B:Rat):=by exact_mod_cast (show (0:Int)<Q B by have:=zG B;omega)
theorem kR {a b c:Rat} (hc:0<c) (h:a*c≤b):a≤b/c:=by
 have e:=rdm (a:=b) hc;generalize b/c=q at *;refine Rat.not_lt.1 fun hn=>?_
 have:=Rat.mul_pos hc (show 0<a-q by grind)
 grind
theorem jS {a b c:Rat} (hc:0<c) (h:a≤b*c):a/c≤b:=by
 have e:=rdm (a:=a) hc;generalize a/c=q at *;refine Rat.not_lt.1 fun hn=>?_
 have:=Rat.mul_pos hc (show 0<q-b by grind)
 grind
theorem zW {a b:Int} (h:a≤b):(a:Rat)≤(b:Rat):=by exact_mod_cast h
theorem zHG {L u v q:Int} (hq:0<q) (h:L*q≤u*v):(L:Rat)/(q:Rat)≤(u:Rat)/(q:Rat)*((v:Rat)/(q:Rat)):=by
 have q0:(0:Rat)<(q:Rat):=by exact_mod_cast hq
 have e1:=rdm (a:=(u:Rat)) q0;have e2:=rdm (a:=(v:Rat)) q0;have h1:=zW h;rw[Rat.intCast_mul,Rat.intCast_mul] at h1;refine jS q0 ?_;generalize (u:Rat)/(q:Rat)=U at *;generalize (v:Rat)/(q:Rat)=V at *;rw[← e1,← e2] at h1;refine Rat.not_lt.1 fun hn=>?_
 have:=Rat.mul_pos (show 0<(L:Rat)-U*V*(q:Rat) by grind) q0
 grind
theorem zIH {L u v q:Int} (hq:0<q) (h:u*v≤L*q):(u:Rat)/(q:Rat)*((v:Rat)/(q:Rat))≤(L:Rat)/(q:Rat):=by
 have q0:(0:Rat)<(q:Rat):=by exact_mod_cast hq
 have e1:=rdm (a:=(u:Rat)) q0;have e2:=rdm (a:=(v:Rat)) q0;have h1:=zW h;rw[Rat.intCast_mul,Rat.intCast_mul] at h1;refine kR q0 ?_;generalize (u:Rat)/(q:Rat)=U at *;generalize (v:Rat)/(q:Rat)=V at *;rw[← e1,← e2] at h1;refine Rat.not_lt.1 fun hn=>?_
 have:=Rat.mul_pos (show 0<U*V*(q:Rat)-(L:Rat) by grind) q0
 grind
theorem Iv.mul {B:Nat} {a b:Int × Int} {x y:Nat→Rat} (h:Iv B a x) (k:Iv B b y):Iv B (kJ B a b) (fun M=>x M*y M):=by
 have q0:0<Q B:=by have:=zG B;omega
 have l:=zCS (a.1*b.1) (a.1*b.2) (a.2*b.1) (a.2*b.2);have g:=zB3 (a.1*b.1) (a.1*b.2) (a.2*b.1) (a.2*b.2);have fl:=zDH (jA (pr4 (a.1*b.1) (a.1*b.2) (a.2*b.1) (a.2*b.2)) 3) (Q B) q0;have ce:=zBQ (jM (pr4 (a.1*b.1) (a.1*b.2) (a.2*b.1) (a.2*b.2)) 3) (Q B) q0;exact Has.mul h k (zHG q0 (Int.le_trans fl l.1)) (zHG q0 (Int.le_trans fl l.2.1)) (zHG q0 (Int.le_trans fl l.2.2.1)) (zHG q0 (Int.le_trans fl l.2.2.2.1)) (zIH q0 (Int.le_trans g.1 ce)) (zIH q0 (Int.le_trans g.2.1 ce)) (zIH q0 (Int.le_trans g.2.2.1 ce)) (zIH q0 (Int.le_trans g.2.2.2.1 ce))
theorem yC (a b c:Rat):(a+b)/c=a/c+b/c:=by rw[Rat.div_def,Rat.div_def,Rat.div_def,Rat.add_mul]
theorem zEF (a b c:Rat):(a-b)/c=a/c-b/c:=by rw[Rat.sub_eq_add_neg,Rat.div_def,Rat.add_mul,Rat.neg_mul,Rat.div_def,Rat.div_def,← Rat.sub_eq_add_neg]
theorem Iv.add {B:Nat} {a b:Int × Int} {x y:Nat→Rat} (h:Iv B a x) (k:Iv B b y):Iv B (jJ a b) (fun M=>x M+y M):=by
 have:=Has.add h k;rw[← yC,← yC,← Rat.intCast_add,← Rat.intCast_add] at this;exact this
theorem Iv.sub {B:Nat} {a b:Int × Int} {x y:Nat→Rat} (h:Iv B a x) (k:Iv B b y):Iv B (yH a b) (fun M=>x M-y M):=by
 have:=Has.sub h k;rw[← zEF,← zEF,← Rat.intCast_sub,← Rat.intCast_sub] at this;exact this
theorem Iv.times {B:Nat} {a:Int × Int} {x:Nat→Rat} (h:Iv B a x) (n:Nat):Iv B (yJ a n) (fun M=>(n:Rat)*x M):=by
 have:=Has.scale h (c:=(n:Rat)) (by exact_mod_cast Nat.zero_le n)
 have e:∀ z:Int,(n:Rat)*((z:Rat)/(Q B:Rat))=((z*(n:Int):Int):Rat)/(Q B:Rat):=fun z=>by
  rw[Rat.intCast_mul,Rat.div_def,Rat.div_def,← Rat.mul_assoc,Rat.mul_comm (n:Rat)];rfl
 rw[e,e] at this;exact this
theorem zN4 {L u n d q:Int} (hd:0<d) (hq:0<q) (h:L*d≤u*n):(L:Rat)/(q:Rat)≤(n:Rat)/(d:Rat)*((u:Rat)/(q:Rat)):=by
 have q0:(0:Rat)<(q:Rat):=by exact_mod_cast hq
 have d0:(0:Rat)<(d:Rat):=by exact_mod_cast hd
 have e1:=rdm (a:=(u:Rat)) q0;have e2:=rdm (a:=(n:Rat)) d0;have h1:=zW h;rw[Rat.intCast_mul,Rat.intCast_mul] at h1;refine jS q0 ?_;generalize (u:Rat)/(q:Rat)=U at *;generalize (n:Rat)/(d:Rat)=V at *;rw[← e1,← e2] at h1;refine Rat.not_lt.1 fun hn=>?_
 have:=Rat.mul_pos (show 0<(L:Rat)-V*U*(q:Rat) by grind) d0
 grind
theorem zMV {L u n d q:Int} (hd:0<d) (hq:0<q) (h:u*n≤L*d):(n:Rat)/(d:Rat)*((u:Rat)/(q:Rat))≤(L:Rat)/(q:Rat):=by
 have q0:(0:Rat)<(q:Rat):=by exact_mod_cast hq
 have d0:(0:Rat)<(d:Rat):=by exact_mod_cast hd
 have e1:=rdm (a:=(u:Rat)) q0;have e2:=rdm (a:=(n:Rat)) d0;have h1:=zW h;rw[Rat.intCast_mul,Rat.intCast_mul] at h1;refine kR q0 ?_;generalize (u:Rat)/(q:Rat)=U at *;generalize (n:Rat)/(d:Rat)=V at *;rw[← e1,← e2] at h1;refine Rat.not_lt.1 fun hn=>?_
 have:=Rat.mul_pos (show 0<V*U*(q:Rat)-(L:Rat) by grind) d0
 grind
theorem Iv.scale {B:Nat} {a:Int × Int} {x:Nat→Rat} (h:Iv B a x) {n d:Int} (hn:0≤n) (hd:0<d):Iv B (zE a n d) (fun M=>(n:Rat)/(d:Rat)*x M):=by
 have q0:0<Q B:=by have:=zG B;omega
 have d0:(0:Rat)<(d:Rat):=by exact_mod_cast hd
 have n0:(0:Rat)≤(n:Rat):=by exact_mod_cast hn
 have c0:0≤(n:Rat)/(d:Rat):=kR d0 (by grind)
 exact (Has.scale h c0).mono (zN4 hd q0 (zDH (a.1*n) d hd)) (zMV hd q0 (zBQ (a.2*n) d hd))
theorem Iv.of (B:Nat) {n d:Int} (hd:0<d):Iv B (ofI n d B) (fun _=>(n:Rat)/(d:Rat)):=by
 have q0:0<Q B:=by have:=zG B;omega
 have qr:=zV B
 have e:(n:Rat)/(d:Rat)*((Q B:Rat)/(Q B:Rat))=(n:Rat)/(d:Rat):=by
  rw[Rat.div_def (Q B:Rat),Rat.mul_inv_cancel _ (by grind),Rat.mul_one]
 have l:=zN4 hd q0 (L:=(ofI n d B).1) (u:=Q B) (n:=n) (by rw[Int.mul_comm (Q B)];exact zDH (n*Q B) d hd)
 have g:=zMV hd q0 (L:=(ofI n d B).2) (u:=Q B) (n:=n) (by rw[Int.mul_comm (Q B)];exact zBQ (n*Q B) d hd)
 rw[e] at l g;exact Has.const l g
theorem Iv.to {B m:Nat} {a:Int × Int} {x:Nat→Rat} (h:Iv (B+m) a x):Iv B (zN a m) x:=by
 have q:=zV B;have qm:=zV m;have e:(Q (B+m):Rat)=(Q B:Rat)*(Q m:Rat):=by rw[jC,Rat.intCast_mul]
 have f1:=zDH a.1 (Q m) (by have:=zG m;omega)
 have f2:=zBQ a.2 (Q m) (by have:=zG m;omega)
 have q2:0<(Q B:Rat)*(Q m:Rat):=Rat.mul_pos q qm;unfold Iv at h;rw[e] at h;refine Has.mono h ?_ ?_
 ·have g:(((zN a m).1*Q m:Int):Rat)≤((a.1:Int):Rat):=zW f1
  rw[Rat.intCast_mul] at g;refine kR q2 ?_;have ea:=rdm (a:=((zN a m).1:Rat)) q;generalize ((zN a m).1:Rat)/(Q B:Rat)=U at *;generalize ((zN a m).1:Rat)=L at *;rw[← ea] at g;grind
 ·have g:((a.2:Int):Rat)≤(((zN a m).2*Q m:Int):Rat):=zW f2
  rw[Rat.intCast_mul] at g;refine jS q2 ?_;have ea:=rdm (a:=((zN a m).2:Rat)) q;generalize ((zN a m).2:Rat)/(Q B:Rat)=U at *;generalize ((zN a m).2:Rat)=L at *;rw[← ea] at g;grind
theorem Iv.down {B:Nat} {a:Int × Int} {x:Nat→Rat} (h:Iv B a x) (t:Nat):Iv B (zN a t) (fun M=>x M/(Q t:Rat)):=by
 have qt:0<Q t:=by have:=zG t;omega
 have:=h.scale (n:=1) (d:=Q t) (by omega) qt
 have e:zE a 1 (Q t)=zN a t:=by simp[zE,zN]
 rw[e] at this;refine Has.of_eq this fun M=>?_
 rw[Rat.div_def,Rat.div_def,Rat.mul_comm];simp
theorem Iv.touch {B C:Nat} {a b:Int × Int} {x:Nat→Rat} (h:Iv B a x) (k:Iv C b x):a.1*Q C≤b.2*Q B:=by
 have q:=zV B;have q':=zV C;have t:=Has.touch h k;have e1:=rdm (a:=(a.1:Rat)) q;have e2:=rdm (a:=(b.2:Rat)) q'
 have:((a.1*Q C:Int):Rat)≤((b.2*Q B:Int):Rat):=by
  rw[Rat.intCast_mul,Rat.intCast_mul];generalize (a.1:Rat)/(Q B:Rat)=U at *;generalize (b.2:Rat)/(Q C:Rat)=V at *;rw[← e1,← e2];have:=Rat.mul_nonneg (Rat.mul_nonneg (show 0≤V-U by grind) (Rat.le_of_lt q)) (Rat.le_of_lt q')
  grind
 exact_mod_cast this
theorem Iv.congr {B:Nat} {a:Int × Int} {x y:Nat→Rat} (h:Iv B a x) (k:Null (fun M=>y M-x M)):Iv B a y:=Has.congr h k
theorem Q_step {B s:Nat} (hs:s≤B) (n:Nat):Q (B-s*n)*Q (B-s)≤Q (B-s*(n+1))*Q B:=by
 rw[← jC,← jC];refine zJ ?_;rw[Nat.mul_add,Nat.mul_one];generalize s*n=k;omega
theorem zAE {p:Nat→Prop} {K:Nat} (h:p K):∃ N,N≤K∧p N∧∀ n,n<N→¬ p n:=by
 induction K using Nat.strongRecOn with
 | ind K ih =>
  by_cases hk:∃ m,m<K∧p m
  ·obtain ⟨m,hm,hp⟩:=hk
   obtain ⟨N,h1,h2⟩:=ih m hm hp;exact ⟨N,by omega,h2⟩
  ·exact ⟨K,Nat.le_refl _,h,fun n hn hp=>hk ⟨n,hn,hp⟩⟩
theorem zCY {B s:Nat} {f:Nat→Int × Int} (hs:1≤s) (h:∀ n,Abs (f n) (Q (B-s*n))):∃ N,N≤B/s+1∧jX f N:=by
 have h1:zT (f (B/s+1))≤1:=by
  have:=zAJ (h (B/s+1))
  have e:B-s*(B/s+1)=0:=by
   have:=Nat.lt_mul_div_succ B (show 0<s by omega)
   omega
  rw[e] at this;simp[Q] at this;exact this
 obtain ⟨N,n1,n2,n3⟩:=zAE (p:=fun n=>zT (f n)≤1) h1
 exact ⟨N,n1,n2,fun n hn=>by have:=n3 n hn;simp at this;omega⟩
theorem zIB {B s N n:Nat} {f:Nat→Int × Int} (hs:1≤s) (h:∀ n,Abs (f n) (Q (B-s*n))) (hN:jX f N) (hn:n<N):2*Q (B-s*(n+1))≤Q (B-s*n):=by
 have h1:=hN.2 n hn;have h2:=zAJ (h n)
 have h3:1≤B-s*n:=by
  refine Nat.pos_of_ne_zero fun e=>?_
  rw[e] at h2;simp[Q] at h2;omega
 have e:2*Q (B-s*(n+1))=Q (B-s*(n+1)+1):=rfl;rw[e];refine zJ ?_;rw[Nat.mul_add,Nat.mul_one];generalize s*n=k at *;omega
theorem zGY {B s N:Nat} {f:Nat→Int × Int} (hs:1≤s) (h:∀ n,Abs (f n) (Q (B-s*n))) (hN:jX f N) (n:Nat) (hn:n≤N):Abs (jG f n) (2*Q B-Q (B-s*n)):=by
 induction n with
 | zero=>simp only[jG];exact (h 0).mono (by simp;omega)
 | succ n ih =>
  have h1:=(ih (by omega)).add (h (n+1))
  have h2:=zIB hs h hN (show n<N by omega)
  simp only[jG];exact h1.mono (by omega)
theorem sum_abs1 {B s N:Nat} {f:Nat→Int × Int} (hs:1≤s) (h:∀ n,Abs (f n) (Q (B-s*n))) (hN:jX f N) (n:Nat) (hn:n+1≤N):Abs (jG f (n+1)) (Q B+2*Q (B-s)-Q (B-s*(n+1))):=by
 induction n with
 | zero =>
  simp only[jG];have:=(h 0).add (h 1);refine this.mono ?_;simp;omega
 | succ n ih =>
  have h1:=(ih (by omega)).add (h (n+1+1))
  have h2:=zIB hs h hN (show n+1<N by omega)
  have e:jG f (n+1+1)=jJ (jG f (n+1)) (f (n+1+1)):=rfl;rw[e];exact h1.mono (by omega)
theorem yX {a:Int × Int} (h:a.1≤a.2):0≤zT a:=(zDI h).nonneg
theorem zHP {B s N:Nat} {f:Nat→Int × Int} (hs:1≤s) (hle:∀ n,(f n).1≤(f n).2) (h:∀ n,Abs (f n) (Q (B-s*n))) (hN:jX f N):Abs (zQ f N) (2*Q B):=by
 have h1:=zGY hs h hN N (Nat.le_refl _)
 have h2:Abs (-zT (f N),zT (f N)) (Q (B-s*N)):=by
  have:=zAJ (h N);have:=yX (hle N);exact ⟨by simp;omega,by simp;omega,by simp;omega,by simp;omega⟩
 exact (h1.add h2).mono (by omega)
theorem zIL {B s N:Nat} {f:Nat→Int × Int} (hs:1≤s) (hle:∀ n,(f n).1≤(f n).2) (h:∀ n,Abs (f n) (Q (B-s*n))) (hN:jX f N) (h1N:1≤N):Abs (zQ f N) (Q B+2*Q (B-s)):=by
 obtain ⟨n,rfl⟩:∃ n,N=n+1:=⟨N-1,by omega⟩
 have h1:=sum_abs1 hs h hN n (Nat.le_refl _)
 have h2:Abs (-zT (f (n+1)),zT (f (n+1))) (Q (B-s*(n+1))):=by
  have:=zAJ (h (n+1));have:=yX (hle (n+1));exact ⟨by simp;omega,by simp;omega,by simp;omega,by simp;omega⟩
 exact (h1.add h2).mono (by omega)
theorem zCB {f:Nat→Int × Int} (hle:∀ n,(f n).1≤(f n).2) (n:Nat):(jG f n).1≤(jG f n).2:=by
 induction n with
 | zero=>exact hle 0
 | succ n ih=>simp only[jG,jJ];have:=hle (n+1);omega
theorem zFE {f:Nat→Int × Int} (hle:∀ n,(f n).1≤(f n).2) (n:Nat):(zQ f n).1≤(zQ f n).2:=by
 have h1:=zCB hle n;have h2:=yX (hle n);simp only[zQ,jJ];omega
theorem sum_wide {f:Nat→Int × Int} {W:Int} (hw:∀ n,(f n).2-(f n).1≤W) (n:Nat):(jG f n).2-(jG f n).1≤((n:Int)+1)*W:=by
 induction n with
 | zero=>simp only[jG];have:=hw 0;simp;omega
 | succ n ih =>
  simp only[jG,jJ];have:=hw (n+1)
  have e:(((n+1:Nat):Int)+1)*W=((n:Int)+1)*W+W:=by
   have:(((n+1:Nat):Int)+1)=((n:Int)+1)+1:=by omega
   rw[this,Int.add_mul,Int.one_mul]
  omega
theorem zC4 {f:Nat→Int × Int} {W:Int} {N:Nat} (hw:∀ n,(f n).2-(f n).1≤W) (hN:jX f N):(zQ f N).2-(zQ f N).1≤((N:Int)+1)*W+2:=by
 have h1:=sum_wide hw N;have h2:=hN.1;simp only[zQ,jJ];omega
theorem S_rest {g:Nat→Rat} {N:Nat} {b:Rat} (hb:AB (g N) b) (hh:∀ n c,N≤n→AB (g n) c→AB (g (n+1)) (c/2)) (i:Nat):AB (g (N+i)) (b*q2 i)∧AB (S g (N+1+i)-S g (N+1)) (b*(1-q2 i)):=by
 induction i with
 | zero=>simp only[Nat.add_zero,q2];exact ⟨hb.mono (by grind),by constructor <;> grind⟩
 | succ i ih =>
  obtain ⟨h1,h2⟩:=ih;have h3:=hh (N+i) _ (by omega) h1
  have e1:q2 (i+1)=q2 i/2:=rfl;have e2:S g (N+1+(i+1))=S g (N+1+i)+g (N+1+i):=rfl;have e3:N+1+i=N+(i+1):=by omega
  refine ⟨h3.mono (by rw[e1];grind),?_⟩
  rw[e2,e1];have h4:=h2.add h3;rw[show N+i+1=N+1+i by omega] at h4
  have e4:S g (N+1+i)-S g (N+1)+g (N+1+i)=S g (N+1+i)+g (N+1+i)-S g (N+1):=by grind
  rw[e4] at h4;exact h4.mono (by grind)
theorem zGX {B N:Nat} {f:Nat→Int × Int} {g:Nat→Nat→Rat} (hle:∀ n,(f n).1≤(f n).2) (h:∀ n,n≤N→Iv B (f n) (fun M=>g n M)) (M0:Nat) (hh:∀ M,M0≤M→∀ n b,N≤n→AB (g n M) b→AB (g (n+1) M) (b/2)):Iv B (zQ f N) (fun M=>S (fun k=>g k M) M):=by
 have h1:∀ n,n≤N→Iv B (jG f n) (fun M=>S (fun k=>g k M) (n+1)):=fun n hn=>by
  induction n with
  | zero=>exact Has.of_eq (h 0 (by omega)) fun M=>by simp only[S];grind
  | succ n ih=>exact Has.of_eq ((ih (by omega)).add (h (n+1) hn)) fun M=>by simp only[S]
 have h2:=h1 N (Nat.le_refl _)
 have h3:Iv B (-zT (f N),zT (f N)) (fun M=>S (fun k=>g k M) M-S (fun k=>g k M) (N+1)):=by
  have hr:=zDI (hle N);have q:=zV B;have k1:=h N (Nat.le_refl _)
  intro e he
  obtain ⟨N1,k2⟩:=k1 e he;refine ⟨N1+M0+N+1,fun M hM=>?_⟩
  obtain ⟨a1,a2⟩:=k2 M (by omega)
  have l1:((-zT (f N):Int):Rat)/(Q B:Rat)≤((f N).1:Rat)/(Q B:Rat):=jS q (by rw[rdm q];exact zW hr.1)
  have l2:((f N).2:Rat)/(Q B:Rat)≤((zT (f N):Int):Rat)/(Q B:Rat):=jS q (by rw[rdm q];exact zW hr.2.2.2)
  have l3:((-zT (f N):Int):Rat)/(Q B:Rat) = -(((zT (f N):Int):Rat)/(Q B:Rat)):=by
   rw[Rat.intCast_neg,Rat.div_def,Rat.div_def,Rat.neg_mul]
  have hb:AB (g N M) (((zT (f N):Int):Rat)/(Q B:Rat)+e):=by constructor <;> grind
  obtain ⟨i,rfl⟩:∃ i,M=N+1+i:=⟨M-(N+1),by omega⟩
  have s:=(S_rest (g:=fun k=>g k (N+1+i)) hb (fun n c hn hc=>hh _ (by omega) n c hn hc) i).2
  have p:=zAQ i;have nn:=hb.nonneg
  have s':=s.mono (b:=((zT (f N):Int):Rat)/(Q B:Rat)+e) (by
   have:=Rat.mul_nonneg nn (Rat.le_of_lt p)
   grind)
  obtain ⟨s1,s2⟩:=s';simp only[];rw[l3];constructor <;> grind
 exact Has.of_eq (h2.add h3) fun M=>by grind
def zY (B:Nat) (sm:Int × Int):Nat→Int × Int
 | 0=>(Q B,Q B)
 | n+1=>zE (kJ B (zY B sm n) sm) 1 ((n:Int)+1)
theorem kX (B:Nat) (sm:Int × Int) (n:Nat):(zY B sm n).1≤(zY B sm n).2:=by
 cases n with
 | zero=>exact Int.le_refl _
 | succ n=>exact jQ (kV B) (by omega) (by omega)
theorem zEG {B:Nat} {sm:Int × Int} (hB:8≤B) (hs:Abs sm (Q (B-8))) (n:Nat):Abs (zY B sm n) (Q (B-8*n)):=by
 induction n with
 | zero=>have:=zG B;exact ⟨by simp[zY];omega,by simp[zY],by simp[zY];omega,by simp[zY]⟩
 | succ n ih=>exact yR (yW ih hs (Q_step hB n)) (by omega) (by omega) (by omega)
theorem zNA {B:Nat} (hB:8≤B):Q B=256*Q (B-8):=by
 have:=jC 8 (B-8);rw[show 8+(B-8)=B by omega] at this
 rw[this];rfl
theorem zFK {B:Nat} {sm:Int × Int} {ws:Int} (hB:8≤B) (hs:Abs sm (Q (B-8))) (hsl:sm.1≤sm.2) (hw:sm.2-sm.1≤ws) (n:Nat):(zY B sm n).2-(zY B sm n).1≤2*ws+4:=by
 induction n with
 | zero=>simp only[zY];omega
 | succ n ih =>
  have q:=zG (B-8);have e:=zNA hB;have m1:Q (B-8*n)≤Q B:=zJ (by omega)
  have p1:=Int.mul_le_mul m1 hw (by omega) (by omega)
  have p2:=Int.mul_le_mul_of_nonneg_left ih (show 0≤Q (B-8) by omega)
  have hc:Q (B-8*n)*(sm.2-sm.1)+Q (B-8)*((zY B sm n).2-(zY B sm n).1)≤(ws+(2*ws+4+255)/256)*Q B:=by
   have e2:(ws+(2*ws+4+255)/256)*Q B=Q B*ws+Q (B-8)*(256*((2*ws+4+255)/256)):=by
    rw[Int.add_mul,Int.mul_comm ws];congr 1;rw[e];grind
   rw[e2];have:=Int.mul_le_mul_of_nonneg_left (show 2*ws+4≤256*((2*ws+4+255)/256) by omega) (show 0≤Q (B-8) by omega)
   omega
  have h1:=zDD (zEG hB hs n) hs (kX B sm n) hsl hc;have hn:(0:Int)<(n:Int)+1:=by omega
  have hp:=Int.mul_nonneg (show 0≤ws+(2*ws+4+255)/256+1 by omega) (show 0≤(n:Int) by omega)
  have h2:=zBK (a:=kJ B (zY B sm n) sm) (n:=1) (d:=(n:Int)+1) (c:=ws+(2*ws+4+255)/256+1) hn (by
   rw[Int.mul_one,Int.mul_add,Int.mul_one];omega)
  simp only[zY];omega
theorem zKW {B:Nat} {sm:Int × Int} {x:Nat→Rat} (h:Iv B sm x) (n:Nat):Iv B (zY B sm n) (fun M=>tm (x M) n):=by
 induction n with
 | zero =>
  have q:=zV B;have e:(Q B:Rat)/(Q B:Rat)=1:=by rw[Rat.div_def,Rat.mul_inv_cancel _ (by grind)]
  show Has ((Q B:Rat)/(Q B:Rat)) ((Q B:Rat)/(Q B:Rat)) _
  rw[e];exact Has.const (c:=1) Rat.le_refl Rat.le_refl
 | succ n ih =>
  have:=(ih.mul h).scale (n:=1) (d:=(n:Int)+1) (by omega) (by omega)
  refine Has.of_eq this fun M=>?_
  have e:(((n:Int)+1:Int):Rat)=(n:Rat)+1:=by rw[Rat.intCast_add];rfl
  rw[e];simp only[tm];have hp:=zCD n;rw[Rat.div_def,Rat.div_def];simp;grind
theorem tm_half {x b:Rat} (hx:AB x (1/2)) (n:Nat) (h:AB (tm x n) b):AB (tm x (n+1)) (b/2):=by
 have e:=kB x n;have hp:=zCD n;have g:=hx.mul h;rw[← e] at g;have e3:tm x (n+1)=((n:Rat)+1)*tm x (n+1)/((n:Rat)+1):=by grind
 rw[e3];refine zAO hp (g.mono ?_);have hn:(0:Rat)≤(n:Rat):=by exact_mod_cast Nat.zero_le n
 have:=Rat.mul_nonneg hn h.nonneg;grind
theorem Iv.little {B:Nat} {a:Int × Int} {x:Nat→Rat} (h:Iv B a x) {m:Int} (ha:Abs a m) (hm:4*m≤Q B):∃ N,∀ M,N≤M→AB (x M) (1/2):=by
 have q:=zV B;obtain ⟨N,h1⟩:=h (1/4) (by grind)
 refine ⟨N,fun M hM=>?_⟩
 have:=h1 M hM
 have l1 : -(1/4:Rat)≤(a.1:Rat)/(Q B:Rat):=kR q (by
  have:((-(Q B):Int):Rat)≤((4*a.1:Int):Rat):=zW (by have:=ha.1;omega)
  rw[Rat.intCast_neg,Rat.intCast_mul] at this;have e4:((4:Int):Rat)=4:=rfl;rw[e4] at this
  grind)
 have l2:(a.2:Rat)/(Q B:Rat)≤(1/4:Rat):=jS q (by
  have:((4*a.2:Int):Rat)≤((Q B:Int):Rat):=zW (by have:=ha.2.2.2;omega)
  rw[Rat.intCast_mul] at this;have e4:((4:Int):Rat)=4:=rfl;rw[e4] at this
  grind)
 constructor <;> grind
theorem zF2 {B N:Nat} {sm:Int × Int} {x:Nat→Rat} (hB:8≤B) (h:Iv B sm x) (hs:Abs sm (Q (B-8))):Iv B (zQ (zY B sm) N) (Ev x):=by
 obtain ⟨M0,h0⟩:=h.little hs (by have:=zNA hB;have:=zG (B-8);omega)
 exact zGX (kX B sm) (fun n _=>zKW h n) M0 (fun M hM n b _ hb=>tm_half (h0 M hM) n hb)
def sqv (y:Nat→Rat):Nat→Nat→Rat
 | 0=>y
 | t+1=>fun M=>sqv y t M*sqv y t M
theorem sqI_has {B:Nat} {a:Int × Int} {y:Nat→Rat} (h:Iv B a y) (t:Nat):Iv B (sqI B a t) (sqv y t):=by
 induction t with
 | zero=>exact h
 | succ t ih=>exact ih.mul ih
theorem sqv_null {x:Nat→Rat} (h:Bdd x) (t:Nat):Null (fun M=>sqv (Ev x) t M-Ev (fun M=>(Q t:Rat)*x M) M):=by
 have hb:∀ t,Bdd (fun M=>(Q t:Rat)*x M):=fun t=>(Bdd.const _).mul h
 induction t with
 | zero =>
  have e:(fun M=>(Q 0:Rat)*x M)=x:=funext fun M=>by simp[Q]
  rw[e];exact null_zero.of_eq fun M=>by simp only[sqv];grind
 | succ t ih =>
  have b1:=zBG (hb t);have b2:Bdd (sqv (Ev x) t):=b1.of_null (ih.neg.of_eq fun M=>by grind)
  have n1:=ih.bmul (b1.add b2);have n2:=zA1 (hb t) (hb t)
  have e:(fun M=>(Q t:Rat)*x M+(Q t:Rat)*x M)=fun M=>(Q (t+1):Rat)*x M:=funext fun M=>by
   have:(Q (t+1):Rat)=2*(Q t:Rat):=by
    have:Q (t+1)=2*Q t:=rfl;rw[this,Rat.intCast_mul];rfl
   rw[this];grind
  rw[e] at n2;refine (n1.add n2).of_eq fun M=>?_
  simp only[sqv];grind
theorem zNH {B N t:Nat} {a:Int × Int} {x:Nat→Rat} (hB:8≤B) (h:Iv B a x) (hs:Abs (zN a t) (Q (B-8))):Iv B (sqI B (zQ (zY B (zN a t)) N) t) (Ev x):=by
 have hx:=Has.bdd h;have h1:=sqI_has (zF2 (N:=N) hB (h.down t) hs) t;have hb:Bdd (fun M=>x M/(Q t:Rat)):=Has.bdd (h.down t)
 have n1:=sqv_null hb t;have q:=zV t
 have e:(fun M=>(Q t:Rat)*(x M/(Q t:Rat)))=x:=funext fun M=>by
  rw[Rat.mul_comm];exact rdm q
 rw[e] at n1;exact h1.congr (n1.neg.of_eq fun M=>by grind)
def eb (i:Nat):Nat:=if i≤10 then 12 else 12*2 ^ (i-10)
def cI:Nat→Int
 | 0=>66048
 | i+1=>cI i*cI i/65536+1
theorem Q_16 {B:Nat} (hB:16≤B):Q B=65536*Q (B-16)∧Q (B-8)=256*Q (B-16):=by
 have h1:=jC 16 (B-16);have h2:=jC 8 (B-16);rw[show 16+(B-16)=B by omega] at h1
 rw[show 8+(B-16)=B-8 by omega] at h2
 exact ⟨by rw[h1];rfl,by rw[h2];rfl⟩
theorem zPD {B:Nat} {d:Int × Int} (hB:16≤B) (h:Abs d (Q B+2*Q (B-8))) (i:Nat):Abs (sqI B d i) (cI i*Q (B-16)):=by
 obtain ⟨e1,e2⟩:=Q_16 hB
 induction i with
 | zero=>exact h.mono (by simp only[cI];omega)
 | succ i ih =>
  refine yW ih ih ?_;rw[e1];have q:=zG (B-16);have h1:cI i*cI i≤cI (i+1)*65536:=by simp only[cI];omega
  have h2:=Int.mul_nonneg (show 0≤Q (B-16) by omega) (show 0≤Q (B-16) by omega)
  have h3:=Int.mul_le_mul_of_nonneg_right h1 h2;generalize Q (B-16)=r at *;have e3:cI i*r*(cI i*r)=cI i*cI i*(r*r):=by grind
  have e4:cI (i+1)*r*(65536*r)=cI (i+1)*65536*(r*r):=by grind
  rw[e3,e4];exact h3
theorem cI_le:∀ i,i<11→cI i≤268435456:=by decide
theorem zN1 {B:Nat} {d:Int × Int} (hB:16≤B) (h:Abs d (Q B+2*Q (B-8))) (i:Nat):Abs (sqI B d i) (Q (B+eb i)):=by
 by_cases hi:i≤10
 ·refine (zPD hB h i).mono ?_
  have e:eb i=12:=by simp[eb,hi]
  have e2:Q (B+12)=268435456*Q (B-16):=by
   have:=jC 28 (B-16);rw[show 28+(B-16)=B+12 by omega] at this
   rw[this];rfl
  rw[e,e2];exact Int.mul_le_mul_of_nonneg_right (cI_le i (by omega)) (by have:=zG (B-16);omega)
 ·obtain ⟨j,rfl⟩:∃ j,i=10+j:=⟨i-10,by omega⟩
  clear hi
  have key:Abs (sqI B d (10+j)) (Q (B+12*2 ^ j)):=by
   induction j with
   | zero =>
    refine (zPD hB h 10).mono ?_
    have e2:Q (B+12*2 ^ 0)=268435456*Q (B-16):=by
     have:=jC 28 (B-16);rw[show 28+(B-16)=B+12*2 ^ 0 by omega] at this
     rw[this];rfl
    rw[e2];exact Int.mul_le_mul_of_nonneg_right (cI_le 10 (by omega)) (by have:=zG (B-16);omega)
   | succ j ih =>
    refine yW ih ih ?_;rw[← jC,← jC];refine zJ ?_;rw[Nat.pow_succ];omega
  by_cases hj:j=0
  ·subst hj;exact key
  ·have:eb (10+j)=12*2 ^ j:=by
    unfold eb;rw[if_neg (by omega)];congr 2;omega
   rw[this];exact key
def wb:Nat→Nat
 | 0=>0
 | i+1=>wb i+eb i+2
theorem sq_wide {B:Nat} {d:Int × Int} (hB:16≤B) (h:Abs d (Q B+2*Q (B-8))) (hd:d.1≤d.2) (i:Nat):(sqI B d i).1≤(sqI B d i).2∧(sqI B d i).2-(sqI B d i).1+1≤(d.2-d.1+1)*Q (wb i):=by
 induction i with
 | zero=>simp only[sqI,wb,Q];omega
 | succ i ih =>
  obtain ⟨h1,h2⟩:=ih;refine ⟨kV B,?_⟩;have ha:=zN1 hB h i;obtain ⟨W,hW⟩:∃ W,W=(sqI B d i).2-(sqI B d i).1:=⟨_,rfl⟩;rw[← hW] at h2
  have h3:=zDD (B:=B) (c:=2*Q (eb i)*W) ha ha h1 h1 (by
   rw[← hW,jC];generalize Q B=q;generalize Q (eb i)=r;have:q*r*W+q*r*W=2*r*W*q:=by grind
   omega)
  have e:Q (wb (i+1))=Q (wb i)*(4*Q (eb i)):=by
   have:wb (i+1)=wb i+(eb i+2):=by simp only[wb];omega
   rw[this,jC]
   congr 1
   have:=jC (eb i) 2;rw[this,Int.mul_comm];rfl
  rw[e];have q1:=zG (eb i);have p:=Int.mul_le_mul_of_nonneg_right h2 (show 0≤4*Q (eb i) by omega)
  rw[← Int.mul_assoc];refine Int.le_trans ?_ p;have w0:0≤W:=by omega
  have p2:=Int.mul_nonneg w0 (show 0≤Q (eb i) by omega)
  show (kJ B (sqI B d i) (sqI B d i)).2-(kJ B (sqI B d i) (sqI B d i)).1+1≤_
  have e5:(W+1)*(4*Q (eb i))=4*(W*Q (eb i))+4*Q (eb i):=by grind
  have e6:2*Q (eb i)*W=2*(W*Q (eb i)):=by grind
  rw[e5];rw[e6] at h3;omega
theorem zEP {i j:Nat} (h:i≤j):eb i≤eb j:=by
 unfold eb;split
 ·split
  ·omega
  ·have:=Nat.pow_le_pow_right (show 0<2 by omega) (show 0≤j-10 by omega);simp at this;omega
 ·split
  ·omega
  ·have:=Nat.pow_le_pow_right (show 0<2 by omega) (show i-10≤j-10 by omega);omega
theorem zIK {B N t:Nat} {a:Int × Int} {ws:Int} (hB:16≤B) (hs:Abs (zN a t) (Q (B-8))) (ha:a.1≤a.2) (hw:a.2-a.1≤ws*Q t) (hN:jX (zY B (zN a t)) N) :
  (sqI B (zQ (zY B (zN a t)) N) t).1≤(sqI B (zQ (zY B (zN a t)) N) t).2∧Abs (sqI B (zQ (zY B (zN a t)) N) t) (Q (B+eb t))∧N≤B/8+1 ∧
  (sqI B (zQ (zY B (zN a t)) N) t).2-(sqI B (zQ (zY B (zN a t)) N) t).1≤(((N:Int)+1)*(2*ws+6)+3)*Q (wb t):=by
 have q:=zG t
 have hsl:(zN a t).1≤(zN a t).2:=by
  have:=jQ (a:=a) (n:=1) (d:=Q t) ha (by omega) (by omega)
  simpa [zE,zN] using this
 have hsw:(zN a t).2-(zN a t).1≤ws+1:=zCN (by omega) hw
 have hT:=zEG (by omega) hs
 have h1N:1≤N:=by
  refine Nat.pos_of_ne_zero fun e=>?_
  have:=hN.1;rw[e] at this
  have h2:zT (zY B (zN a t) 0)=Q B:=by
   show zEE (Q B) (-Q B)=Q B
   have:=zG B;unfold zEE;rw[if_neg (by omega)]
  rw[h2] at this;have:=zJ hB;have:Q 16=65536:=rfl;omega
 have hd:=zIL (s:=8) (by omega) (kX B (zN a t)) hT hN h1N
 have hdl:=zFE (kX B (zN a t)) N;have hdw:=zC4 (zFK (by omega) hs hsl hsw) hN
 obtain ⟨g1,g2⟩:=sq_wide hB hd hdl t
 have hle:N≤B/8+1:=by
  obtain ⟨N',n1,n2⟩:=zCY (s:=8) (by omega) hT
  refine Nat.le_trans (Nat.not_lt.1 fun hlt=>?_) n1
  have:=hN.2 N' hlt;have:=n2.1;omega
 refine ⟨g1,zN1 hB hd t,hle,?_⟩;have q2:=zG (wb t);have e:2*(ws+1)+4=2*ws+6:=by omega
 rw[e] at hdw;have:=Int.mul_le_mul_of_nonneg_right (show (zQ (zY B (zN a t)) N).2-(zQ (zY B (zN a t)) N).1+1≤((N:Int)+1)*(2*ws+6)+3 by omega) (show 0≤Q (wb t) by omega)
 omega
open Go.RowKit
attribute [local go_sem ↓] Go.wp_at_zero Go.wp_at_succ
theorem kG (x:Int) (b:Nat):zAU x (b:Int)=x/Q b:=by unfold zAU;rw[if_pos (by omega)];simp
theorem zLK (w:World) (s t:Sp) (k b:Nat) (a c:Int × Int) (hs:SpAt w s k a.1 a.2) (ht:SpAt w t k c.1 c.2) (hk:k≤300000000) (hb:s.bits=(b:Int)) (hbm:b≤1000000) :
  Calls Tryz.prog 162 #[.agg #[.bool s.ln,.slice s.la s.lN s.lc,.bool s.hn,.slice s.ha s.hN s.hc,.int .i64 s.bits],.agg #[.bool t.ln,.slice t.la t.lN t.lc,.bool t.hn,.slice t.ha t.hN t.hc,.int .i64 t.bits]] w (zH w b (k+k+8) (kJ b a c).1 (kJ b a c).2) :=
 (zI5 w s t k a.1 a.2 c.1 c.2 hs ht hk (by omega) (by omega)).mono fun r w' h=>by
  rw[hb,kG,kG] at h;exact h
theorem zA8 (w:World) (s t:Sp) (k b:Nat) (a c:Int × Int) (hs:SpAt w s k a.1 a.2) (ht:SpAt w t k c.1 c.2) (hk:k≤700000000) (hb:s.bits=(b:Int)) :
  Calls Tryz.prog 113 #[.agg #[.bool s.ln,.slice s.la s.lN s.lc,.bool s.hn,.slice s.ha s.hN s.hc,.int .i64 s.bits],.agg #[.bool t.ln,.slice t.la t.lN t.lc,.bool t.hn,.slice t.ha t.hN t.hc,.int .i64 t.bits]] w (zH w b (k+1) (jJ a c).1 (jJ a c).2) :=
 (zES w s t k a.1 a.2 c.1 c.2 hs ht hk).mono fun r w' h=>by rw[hb] at h;exact h
theorem zKY (w:World) (s t:Sp) (k b:Nat) (a c:Int × Int) (hs:SpAt w s k a.1 a.2) (ht:SpAt w t k c.1 c.2) (hk:k≤600000000) (hb:s.bits=(b:Int)) :
  Calls Tryz.prog 118 #[.agg #[.bool s.ln,.slice s.la s.lN s.lc,.bool s.hn,.slice s.ha s.hN s.hc,.int .i64 s.bits],.agg #[.bool t.ln,.slice t.la t.lN t.lc,.bool t.hn,.slice t.ha t.hN t.hc,.int .i64 t.bits]] w (zH w b (k+1) (yH a c).1 (yH a c).2) :=
 (zJI w s t k a.1 a.2 c.1 c.2 hs ht hk).mono fun r w' h=>by rw[hb] at h;exact h
theorem over_iv (w:World) (s:Sp) (k b:Nat) (d:Int) (a:Int × Int) (hs:SpAt w s k a.1 a.2) (hk:k≤300000000) (hb:s.bits=(b:Int)) (hd:0<d) (hd2:d≤9223372036854775807) :
  Calls Tryz.prog 98 #[.agg #[.bool s.ln,.slice s.la s.lN s.lc,.bool s.hn,.slice s.ha s.hN s.hc,.int .i64 s.bits],.int .i64 d] w (zH w b (k+14) (zE a 1 d).1 (zE a 1 d).2) :=
 (zOA w s k d a.1 a.2 hs hk hd hd2).mono fun r w' h=>by rw[hb] at h;exact h
theorem zG7 (w:World) (s:Sp) (k b:Nat) (d:Int) (a:Int × Int) (hs:SpAt w s k a.1 a.2) (hk:k≤300000000) (hb:s.bits=(b:Int)) (hd : -9223372036854775808≤d) (hd2:d≤9223372036854775807) :
  Calls Tryz.prog 161 #[.agg #[.bool s.ln,.slice s.la s.lN s.lc,.bool s.hn,.slice s.ha s.hN s.hc,.int .i64 s.bits],.int .i64 d] w (zH w b (k+4) (yJ a d).1 (yJ a d).2) :=
 (zN6 w s k d a.1 a.2 hs hk hd hd2).mono fun r w' h=>by rw[hb] at h;exact h
theorem exp1_iv (w:World) (B0:Nat) (s u:Sp) (k b:Nat) (n:Int) (a c:Int × Int) (hs:SpAt w s k a.1 a.2) (hu:SpAt w u k c.1 c.2) (hU:SpC w B0 u) (hk:k≤100000000) (hb:s.bits=(b:Int)) (hbm:b≤1000000) (hn:0<n) (hn2:n≤9223372036854775807) :
  Calls Tryz.prog 183 #[.agg #[.bool s.ln,.slice s.la s.lN s.lc,.bool s.hn,.slice s.ha s.hN s.hc,.int .i64 s.bits],.int .i64 n,.pointer (some ⟨B0,0,none⟩)] w (zH w b (k+k+22) (zE (kJ b a c) 1 n).1 (zE (kJ b a c) 1 n).2):=by
 obtain ⟨W,hW⟩:∃ W,W=(w.alloc (.cells #[.bool s.ln,.slice s.la s.lN s.lc,.bool s.hn,.slice s.ha s.hN s.hc,.int .i64 s.bits] 28)).alloc (.cells #[.bool false,.slice none 0 0,.bool false,.slice none 0 0,.int .i64 0] 28):=⟨_,rfl⟩;have hBW:Below w.heap.size w W:=by rw[hW];exact bl2 _ _ _
 have A:SpC W w.heap.size s:=by rw[hW];constructor <;> simp[go_sem]
 have R:NoC W (w.heap.size+1):=by rw[hW];constructor <;> simp[go_sem]
 have HS:=zC (hs.bw hBW);have HU:=zC (hu.bw hBW);have l0:=hU.lt;obtain ⟨y0,y1,y2,y3,y4⟩:=hU;have HB:=zC hb;clear hs hu hb A
 go_enter Tryz.func183,Tryz.ntmps183
 go_wp2_with fail;rw[← hW];clear hW;refine (zLK _ s u k b a c (zA HS) (zA HU) (by omega) (zA HB) hbm).mono ?_
 rintro r' w1 ⟨v,rfl,hvb,hvp,hb1⟩;have HV:=zC hvb;clear hvb y0 y1 y2 y3 y4;replace R:=R.bw hb1;replace hBW:=zB hBW hb1;go_wp2_with fail;refine (over_iv _ v _ b n _ hvp (by omega) (zA HV) hn hn2).mono ?_
 rintro r' w2 ⟨t,rfl,htb,htp,hb2⟩;obtain ⟨q0,q1,q2,q3,q4,q5⟩:=R.bw hb2;replace hBW:=zB hBW hb2;have HT:=zC htb;clear htb;go_wp2_with fail;refine bodyPost_ret (v:=.agg #[.bool t.ln,.slice t.la t.lN t.lc,.bool t.hn,.slice t.ha t.hN t.hc,.int .i64 t.bits]) (by simp[results,Tryz.results183,go_sem,q0,q1,q2,q3,q4]) rfl ⟨t,rfl,zA HT,?_,?_⟩
 ·exact SpAt.put5 (htp.mono (by omega)) q0 q1 q2 q3 q4 _ _ _ _ _
 ·exact jV hBW (Nat.le_succ _) _ _ _ _ _
end Go.Proofs.YtgmnknmjainababGreat
