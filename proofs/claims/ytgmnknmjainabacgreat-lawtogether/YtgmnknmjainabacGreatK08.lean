/-
  Its own texts.
-/
import Derived.Test.YtgmnknmjainabacGreatK07
set_option maxRecDepth 100000
set_option maxHeartbeats 40000000
set_option linter.unnecessarySimpa false
set_option linter.unusedSimpArgs false
set_option linter.unusedVariables false
namespace Go.Proofs.YtgmnknmjainabacGreat
open Ex
theorem zQK {B s:Nat} (hs:s<=B) (n:Nat):Q (B-s*n)*Q (B-s)<=Q (B-s*(n+1))*Q B:=by
 rw[<- jF,<- jF];refine zJ ?_;rw[Nat.mul_add,Nat.mul_one];generalize s*n=k;omega
theorem zBU {p:Nat->Prop} {K:Nat} (h:p K):∃ N,N<=K/\p N/\∀ n,n<N->¬ p n:=by
 induction K using Nat.strongRecOn with
 | ind K ih =>
  by_cases hk:∃ m,m<K/\p m
  ·obtain⟨m,hm,hp⟩:=hk
   obtain⟨N,h1,h2⟩:=ih m hm hp;exact⟨N,by omega,h2⟩
  ·exact⟨K,Yy _,h,λ n hn hp=>hk ⟨n,hn,hp⟩⟩
theorem zB6 {B s:Nat} {f:Nat->Int × Int} (hs:1<=s) (h:∀ n,Abs (f n) (Q (B-s*n))):∃ N,N<=B/s+1/\zT f N:=by
 have h1:zW (f (B/s+1))<=1:=by
  have:=zAF (h (B/s+1))
  have e:B-s*(B/s+1)=0:=by
   have:=Nat.lt_mul_div_succ B (show 0<s by omega)
   omega
  rw[e] at this;simp[Q] at this;exact this
 obtain⟨N,n1,n2,n3⟩:=zBU (p:=λ n=>zW (f n)<=1) h1
 exact⟨N,n1,n2,λ n hn=>by have:=n3 n hn;simp at this;omega⟩
theorem zJ1 {B s N n:Nat} {f:Nat->Int × Int} (hs:1<=s) (h:∀ n,Abs (f n) (Q (B-s*n))) (hN:zT f N) (hn:n<N):2*Q (B-s*(n+1))<=Q (B-s*n):=by
 have h1:=hN.2 n hn;have h2:=zAF (h n)
 have h3:1<=B-s*n:=by
  refine Nat.pos_of_ne_zero λ e=>?_
  rw[e] at h2;simp[Q] at h2;omega
 have e:2*Q (B-s*(n+1))=Q (B-s*(n+1)+1):=rfl;rw[e];refine zJ ?_;rw[Nat.mul_add,Nat.mul_one];generalize s*n=k at *;omega
theorem zFX {B s N:Nat} {f:Nat->Int × Int} (hs:1<=s) (h:∀ n,Abs (f n) (Q (B-s*n))) (hN:zT f N) (n:Nat) (hn:n<=N):Abs (jE f n) (2*Q B-Q (B-s*n)):=by
 induction n with
 | zero=>simp only[jE];exact (h 0).mono (by simp;omega)
 | succ n ih =>
  have h1:=(ih (by omega)).add (h (n+1))
  have h2:=zJ1 hs h hN (show n<N by omega)
  simp only[jE];exact h1.mono (by omega)
theorem sum_abs1 {B s N:Nat} {f:Nat->Int × Int} (hs:1<=s) (h:∀ n,Abs (f n) (Q (B-s*n))) (hN:zT f N) (n:Nat) (hn:n+1<=N):Abs (jE f (n+1)) (Q B+2*Q (B-s)-Q (B-s*(n+1))):=by
 induction n with
 | zero =>
  simp only[jE];have:=(h 0).add (h 1);refine this.mono ?_;simp;omega
 | succ n ih =>
  have h1:=(ih (by omega)).add (h (n+1+1))
  have h2:=zJ1 hs h hN (show n+1<N by omega)
  have e:jE f (n+1+1)=zAR (jE f (n+1)) (f (n+1+1)):=rfl;rw[e];exact h1.mono (by omega)
theorem zAN {a:Int × Int} (h:a.1<=a.2):0<=zW a:=(zEI h).nonneg
theorem zF7 {B s N:Nat} {f:Nat->Int × Int} (hs:1<=s) (hle:∀ n,(f n).1<=(f n).2) (h:∀ n,Abs (f n) (Q (B-s*n))) (hN:zT f N):Abs (zN f N) (2*Q B):=by
 have h1:=zFX hs h hN N (Yy _)
 have h2:Abs (-zW (f N),zW (f N)) (Q (B-s*N)):=by
  have:=zAF (h N);have:=zAN (hle N);exact⟨by simp;omega,by simp;omega,by simp;omega,by simp;omega⟩
 exact (h1.add h2).mono (by omega)
theorem zJS {B s N:Nat} {f:Nat->Int × Int} (hs:1<=s) (hle:∀ n,(f n).1<=(f n).2) (h:∀ n,Abs (f n) (Q (B-s*n))) (hN:zT f N) (Fl:1<=N):Abs (zN f N) (Q B+2*Q (B-s)):=by
 obtain⟨n,rfl⟩:∃ n,N=n+1:=⟨N-1,by omega⟩
 have h1:=sum_abs1 hs h hN n (Yy _)
 have h2:Abs (-zW (f (n+1)),zW (f (n+1))) (Q (B-s*(n+1))):=by
  have:=zAF (h (n+1));have:=zAN (hle (n+1));exact⟨by simp;omega,by simp;omega,by simp;omega,by simp;omega⟩
 exact (h1.add h2).mono (by omega)
theorem zGR {f:Nat->Int × Int} (hle:∀ n,(f n).1<=(f n).2) (n:Nat):(jE f n).1<=(jE f n).2:=by
 induction n with
 | zero=>exact hle 0
 | succ n ih=>simp only[jE,zAR];have:=hle (n+1);omega
theorem zCP {f:Nat->Int × Int} (hle:∀ n,(f n).1<=(f n).2) (n:Nat):(zN f n).1<=(zN f n).2:=by
 have h1:=zGR hle n;have h2:=zAN (hle n);simp only[zN,zAR];omega
theorem zOI {f:Nat->Int × Int} {W:Int} (hw:∀ n,(f n).2-(f n).1<=W) (n:Nat):(jE f n).2-(jE f n).1<=((n:Int)+1)*W:=by
 induction n with
 | zero=>simp only[jE];have:=hw 0;simp;omega
 | succ n ih =>
  simp only[jE,zAR];have:=hw (n+1)
  have e:(((n+1:Nat):Int)+1)*W=((n:Int)+1)*W+W:=by
   have:(((n+1:Nat):Int)+1)=((n:Int)+1)+1:=by omega
   rw[this,Int.add_mul,Int.one_mul]
  omega
theorem zCB {f:Nat->Int × Int} {W:Int} {N:Nat} (hw:∀ n,(f n).2-(f n).1<=W) (hN:zT f N):(zN f N).2-(zN f N).1<=((N:Int)+1)*W+2:=by
 have h1:=zOI hw N;have h2:=hN.1;simp only[zN,zAR];omega
theorem zQP {g:Nat->Rat} {N:Nat} {b:Rat} (hb:AB (g N) b) (hh:∀ n c,N<=n->AB (g n) c->AB (g (n+1)) (c/2)) (i:Nat):AB (g (N+i)) (b*q2 i)/\AB (S g (N+1+i)-S g (N+1)) (b*(1-q2 i)):=by
 induction i with
 | zero=>simp only[Nat.add_zero,q2];exact⟨hb.mono (by grind),by constructor<;>grind⟩
 | succ i ih =>
  obtain⟨h1,h2⟩:=ih;have h3:=hh (N+i) _ (by omega) h1
  have e1:q2 (i+1)=q2 i/2:=rfl;have e2:S g (N+1+(i+1))=S g (N+1+i)+g (N+1+i):=rfl;have e3:N+1+i=N+(i+1):=by omega
  refine⟨h3.mono (by rw[e1];grind),?_⟩
  rw[e2,e1];have h4:=h2.add h3;rw[show N+i+1=N+1+i by omega] at h4
  have e4:S g (N+1+i)-S g (N+1)+g (N+1+i)=S g (N+1+i)+g (N+1+i)-S g (N+1):=by grind
  rw[e4] at h4;exact h4.mono (by grind)
theorem zHZ {B N:Nat} {f:Nat->Int × Int} {g:Nat->Nat->Rat} (hle:∀ n,(f n).1<=(f n).2) (h:∀ n,n<=N->Iv B (f n) (λ M=>g n M)) (M0:Nat) (hh:∀ M,M0<=M->∀ n b,N<=n->AB (g n M) b->AB (g (n+1) M) (b/2)):Iv B (zN f N) (λ M=>S (λ k=>g k M) M):=by
 have h1:∀ n,n<=N->Iv B (jE f n) (λ M=>S (λ k=>g k M) (n+1)):=λ n hn=>by
  induction n with
  | zero=>exact Has.of_eq (h 0 (by omega)) λ M=>by simp only[S];grind
  | succ n ih=>exact Has.of_eq ((ih (by omega)).add (h (n+1) hn)) λ M=>by simp only[S]
 have h2:=h1 N (Yy _)
 have h3:Iv B (-zW (f N),zW (f N)) (λ M=>S (λ k=>g k M) M-S (λ k=>g k M) (N+1)):=by
  have hr:=zEI (hle N);have q:=jJ B;have k1:=h N (Yy _)
  intro e he
  obtain⟨N1,k2⟩:=k1 e he;refine⟨N1+M0+N+1,λ M hM=>?_⟩
  obtain⟨a1,a2⟩:=k2 M (by omega)
  have l1:((-zW (f N):Int):Rat)/(Q B:Rat)<=((f N).1:Rat)/(Q B:Rat):=jR q (by rw[rdm q];exact jA hr.1)
  have l2:((f N).2:Rat)/(Q B:Rat)<=((zW (f N):Int):Rat)/(Q B:Rat):=jR q (by rw[rdm q];exact jA hr.2.2.2)
  have l3:((-zW (f N):Int):Rat)/(Q B:Rat) = -(((zW (f N):Int):Rat)/(Q B:Rat)):=by
   rw[Rat.intCast_neg,YE,YE,Rat.neg_mul]
  have hb:AB (g N M) (((zW (f N):Int):Rat)/(Q B:Rat)+e):=by constructor<;>grind
  obtain⟨i,rfl⟩:∃ i,M=N+1+i:=⟨M-(N+1),by omega⟩
  have s:=(zQP (g:=λ k=>g k (N+1+i)) hb (λ n c hn hc=>hh _ (by omega) n c hn hc) i).2
  have p:=yD i;have nn:=hb.nonneg
  have s':=s.mono (b:=((zW (f N):Int):Rat)/(Q B:Rat)+e) (by
   have:=Ys nn (Yw p)
   grind)
  obtain⟨s1,s2⟩:=s';simp only[];rw[l3];constructor<;>grind
 exact Has.of_eq (h2.add h3) λ M=>by grind
def zU (B:Nat) (sm:Int × Int):Nat->Int × Int
 | 0=>(Q B,Q B)
 | n+1=>zK (zAJ B (zU B sm n) sm) 1 ((n:Int)+1)
theorem zAG (B:Nat) (sm:Int × Int) (n:Nat):(zU B sm n).1<=(zU B sm n).2:=by
 cases n with
 | zero=>exact Int.le_refl _
 | succ n=>exact kN (zB4 B) (by omega) (by omega)
theorem zBV {B:Nat} {sm:Int × Int} (hB:8<=B) (hs:Abs sm (Q (B-8))) (n:Nat):Abs (zU B sm n) (Q (B-8*n)):=by
 induction n with
 | zero=>have:=zE B;exact⟨by simp[zU];omega,by simp[zU],by simp[zU];omega,by simp[zU]⟩
 | succ n ih=>exact zE1 (zCW ih hs (zQK hB n)) (by omega) (by omega) (by omega)
theorem zLF {B:Nat} (hB:8<=B):Q B=256*Q (B-8):=by
 have:=jF 8 (B-8);rw[show 8+(B-8)=B by omega] at this
 rw[this];rfl
theorem zEA {B:Nat} {sm:Int × Int} {ws:Int} (hB:8<=B) (hs:Abs sm (Q (B-8))) (X8:sm.1<=sm.2) (hw:sm.2-sm.1<=ws) (n:Nat):(zU B sm n).2-(zU B sm n).1<=2*ws+4:=by
 induction n with
 | zero=>simp only[zU];omega
 | succ n ih =>
  have q:=zE (B-8);have e:=zLF hB;have m1:Q (B-8*n)<=Q B:=zJ (by omega)
  have p1:=Int.mul_le_mul m1 hw (by omega) (by omega)
  have p2:=Yx ih (show 0<=Q (B-8) by omega)
  have hc:Q (B-8*n)*(sm.2-sm.1)+Q (B-8)*((zU B sm n).2-(zU B sm n).1)<=(ws+(2*ws+4+255)/256)*Q B:=by
   have e2:(ws+(2*ws+4+255)/256)*Q B=Q B*ws+Q (B-8)*(256*((2*ws+4+255)/256)):=by
    rw[Int.add_mul,Int.mul_comm ws];congr 1;rw[e];grind
   rw[e2];have:=Yx (show 2*ws+4<=256*((2*ws+4+255)/256) by omega) (show 0<=Q (B-8) by omega)
   omega
  have h1:=zAZ (zBV hB hs n) hs (zAG B sm n) X8 hc;have hn:(0:Int)<(n:Int)+1:=by omega
  have hp:=Yz (show 0<=ws+(2*ws+4+255)/256+1 by omega) (show 0<=(n:Int) by omega)
  have h2:=kJ (a:=zAJ B (zU B sm n) sm) (n:=1) (d:=(n:Int)+1) (c:=ws+(2*ws+4+255)/256+1) hn (by
   rw[Int.mul_one,Int.mul_add,Int.mul_one];omega)
  simp only[zU];omega
theorem expT_has {B:Nat} {sm:Int × Int} {x:Nat->Rat} (h:Iv B sm x) (n:Nat):Iv B (zU B sm n) (λ M=>tm (x M) n):=by
 induction n with
 | zero =>
  have q:=jJ B;have e:(Q B:Rat)/(Q B:Rat)=1:=by rw[YE,Rat.mul_inv_cancel _ (by grind)]
  show Has ((Q B:Rat)/(Q B:Rat)) ((Q B:Rat)/(Q B:Rat)) _
  rw[e];exact Has.const (c:=1) Rat.le_refl Rat.le_refl
 | succ n ih =>
  have:=(ih.mul h).scale (n:=1) (d:=(n:Int)+1) (by omega) (by omega)
  refine Has.of_eq this λ M=>?_
  have e:(((n:Int)+1:Int):Rat)=(n:Rat)+1:=by rw[Rat.intCast_add];rfl
  rw[e];simp only[tm];have hp:=zA0 n;rw[YE,YE];simp;grind
theorem tm_half {x b:Rat} (hx:AB x (1/2)) (n:Nat) (h:AB (tm x n) b):AB (tm x (n+1)) (b/2):=by
 have e:=kU x n;have hp:=zA0 n;have g:=hx.mul h;rw[<- e] at g;have e3:tm x (n+1)=((n:Rat)+1)*tm x (n+1)/((n:Rat)+1):=by grind
 rw[e3];refine zDH hp (g.mono ?_);have hn:(0:Rat)<=(n:Rat):=by exact_mod_cast Nat.zero_le n
 have:=Ys hn h.nonneg;grind
theorem Iv.little {B:Nat} {a:Int × Int} {x:Nat->Rat} (h:Iv B a x) {m:Int} (ha:Abs a m) (hm:4*m<=Q B):∃ N,∀ M,N<=M->AB (x M) (1/2):=by
 have q:=jJ B;obtain⟨N,h1⟩:=h (1/4) (by grind)
 refine⟨N,λ M hM=>?_⟩
 have:=h1 M hM
 have l1 : -(1/4:Rat)<=(a.1:Rat)/(Q B:Rat):=jS q (by
  have:((-(Q B):Int):Rat)<=((4*a.1:Int):Rat):=jA (by have:=ha.1;omega)
  rw[Rat.intCast_neg,YA] at this;have e4:((4:Int):Rat)=4:=rfl;rw[e4] at this
  grind)
 have l2:(a.2:Rat)/(Q B:Rat)<=(1/4:Rat):=jR q (by
  have:((4*a.2:Int):Rat)<=((Q B:Int):Rat):=jA (by have:=ha.2.2.2;omega)
  rw[YA] at this;have e4:((4:Int):Rat)=4:=rfl;rw[e4] at this
  grind)
 constructor<;>grind
theorem zDO {B N:Nat} {sm:Int × Int} {x:Nat->Rat} (hB:8<=B) (h:Iv B sm x) (hs:Abs sm (Q (B-8))):Iv B (zN (zU B sm) N) (Ev x):=by
 obtain⟨M0,h0⟩:=h.little hs (by have:=zLF hB;have:=zE (B-8);omega)
 exact zHZ (zAG B sm) (λ n _=>expT_has h n) M0 (λ M hM n b _ hb=>tm_half (h0 M hM) n hb)
def sqv (y:Nat->Rat):Nat->Nat->Rat
 | 0=>y
 | t+1=>λ M=>sqv y t M*sqv y t M
theorem sqI_has {B:Nat} {a:Int × Int} {y:Nat->Rat} (h:Iv B a y) (t:Nat):Iv B (sqI B a t) (sqv y t):=by
 induction t with
 | zero=>exact h
 | succ t ih=>exact ih.mul ih
theorem sqv_null {x:Nat->Rat} (h:Bdd x) (t:Nat):Null (λ M=>sqv (Ev x) t M-Ev (λ M=>(Q t:Rat)*x M) M):=by
 have hb:∀ t,Bdd (λ M=>(Q t:Rat)*x M):=λ t=>(Bdd.const _).mul h
 induction t with
 | zero =>
  have e:(λ M=>(Q 0:Rat)*x M)=x:=funext λ M=>by simp[Q]
  rw[e];exact null_zero.of_eq λ M=>by simp only[sqv];grind
 | succ t ih =>
  have b1:=zAE (hb t);have b2:Bdd (sqv (Ev x) t):=b1.of_null (ih.neg.of_eq λ M=>by grind)
  have n1:=ih.bmul (b1.add b2);have n2:=zAK (hb t) (hb t)
  have e:(λ M=>(Q t:Rat)*x M+(Q t:Rat)*x M)=λ M=>(Q (t+1):Rat)*x M:=funext λ M=>by
   have:(Q (t+1):Rat)=2*(Q t:Rat):=by
    have:Q (t+1)=2*Q t:=rfl;rw[this,YA];rfl
   rw[this];grind
  rw[e] at n2;refine (n1.add n2).of_eq λ M=>?_
  simp only[sqv];grind
theorem zEX {B N t:Nat} {a:Int × Int} {x:Nat->Rat} (hB:8<=B) (h:Iv B a x) (hs:Abs (zG a t) (Q (B-8))):Iv B (sqI B (zN (zU B (zG a t)) N) t) (Ev x):=by
 have hx:=Has.bdd h;have h1:=sqI_has (zDO (N:=N) hB (h.down t) hs) t;have hb:Bdd (λ M=>x M/(Q t:Rat)):=Has.bdd (h.down t)
 have n1:=sqv_null hb t;have q:=jJ t
 have e:(λ M=>(Q t:Rat)*(x M/(Q t:Rat)))=x:=funext λ M=>by
  rw[Rat.mul_comm];exact rdm q
 rw[e] at n1;exact h1.congr (n1.neg.of_eq λ M=>by grind)
def eb (i:Nat):Nat:=if i<=10 then 12 else 12*2 ^ (i-10)
def cI:Nat->Int
 | 0=>66048
 | i+1=>cI i*cI i/65536+1
theorem Q_16 {B:Nat} (hB:16<=B):Q B=65536*Q (B-16)/\Q (B-8)=256*Q (B-16):=by
 have h1:=jF 16 (B-16);have h2:=jF 8 (B-16);rw[show 16+(B-16)=B by omega] at h1
 rw[show 8+(B-16)=B-8 by omega] at h2
 exact⟨by rw[h1];rfl,by rw[h2];rfl⟩
theorem zUH {B:Nat} {d:Int × Int} (hB:16<=B) (h:Abs d (Q B+2*Q (B-8))) (i:Nat):Abs (sqI B d i) (cI i*Q (B-16)):=by
 obtain⟨e1,e2⟩:=Q_16 hB
 induction i with
 | zero=>exact h.mono (by simp only[cI];omega)
 | succ i ih =>
  refine zCW ih ih ?_;rw[e1];have q:=zE (B-16);have h1:cI i*cI i<=cI (i+1)*65536:=by simp only[cI];omega
  have h2:=Yz (show 0<=Q (B-16) by omega) (show 0<=Q (B-16) by omega)
  have h3:=Yt h1 h2;generalize Q (B-16)=r at *;have e3:cI i*r*(cI i*r)=cI i*cI i*(r*r):=by grind
  have e4:cI (i+1)*r*(65536*r)=cI (i+1)*65536*(r*r):=by grind
  rw[e3,e4];exact h3
theorem cI_le:∀ i,i<11->cI i<=268435456:=by decide
theorem zUG {B:Nat} {d:Int × Int} (hB:16<=B) (h:Abs d (Q B+2*Q (B-8))) (i:Nat):Abs (sqI B d i) (Q (B+eb i)):=by
 by_cases hi:i<=10
 ·refine (zUH hB h i).mono ?_
  have e:eb i=12:=by simp[eb,hi]
  have e2:Q (B+12)=268435456*Q (B-16):=by
   have:=jF 28 (B-16);rw[show 28+(B-16)=B+12 by omega] at this
   rw[this];rfl
  rw[e,e2];exact Yt (cI_le i (by omega)) (by have:=zE (B-16);omega)
 ·obtain⟨j,rfl⟩:∃ j,i=10+j:=⟨i-10,by omega⟩
  clear hi
  have key:Abs (sqI B d (10+j)) (Q (B+12*2 ^ j)):=by
   induction j with
   | zero =>
    refine (zUH hB h 10).mono ?_
    have e2:Q (B+12*2 ^ 0)=268435456*Q (B-16):=by
     have:=jF 28 (B-16);rw[show 28+(B-16)=B+12*2 ^ 0 by omega] at this
     rw[this];rfl
    rw[e2];exact Yt (cI_le 10 (by omega)) (by have:=zE (B-16);omega)
   | succ j ih =>
    refine zCW ih ih ?_;rw[<- jF,<- jF];refine zJ ?_;rw[Nat.pow_succ];omega
  by_cases hj:j=0
  ·subst hj;exact key
  ·have:eb (10+j)=12*2 ^ j:=by
    unfold eb;rw[if_neg (by omega)];congr 2;omega
   rw[this];exact key
def wb:Nat->Nat
 | 0=>0
 | i+1=>wb i+eb i+2
theorem sq_wide {B:Nat} {d:Int × Int} (hB:16<=B) (h:Abs d (Q B+2*Q (B-8))) (hd:d.1<=d.2) (i:Nat):(sqI B d i).1<=(sqI B d i).2/\(sqI B d i).2-(sqI B d i).1+1<=(d.2-d.1+1)*Q (wb i):=by
 induction i with
 | zero=>simp only[sqI,wb,Q];omega
 | succ i ih =>
  obtain⟨h1,h2⟩:=ih;refine⟨zB4 B,?_⟩;have ha:=zUG hB h i;obtain⟨W,hW⟩:∃ W,W=(sqI B d i).2-(sqI B d i).1:=⟨_,rfl⟩;rw[<- hW] at h2
  have h3:=zAZ (B:=B) (c:=2*Q (eb i)*W) ha ha h1 h1 (by
   rw[<- hW,jF];generalize Q B=q;generalize Q (eb i)=r;have:q*r*W+q*r*W=2*r*W*q:=by grind
   omega)
  have e:Q (wb (i+1))=Q (wb i)*(4*Q (eb i)):=by
   have:wb (i+1)=wb i+(eb i+2):=by simp only[wb];omega
   rw[this,jF]
   congr 1
   have:=jF (eb i) 2;rw[this,Int.mul_comm];rfl
  rw[e];have q1:=zE (eb i);have p:=Yt h2 (show 0<=4*Q (eb i) by omega)
  rw[<- Int.mul_assoc];refine Int.le_trans ?_ p;have w0:0<=W:=by omega
  have p2:=Yz w0 (show 0<=Q (eb i) by omega)
  show (zAJ B (sqI B d i) (sqI B d i)).2-(zAJ B (sqI B d i) (sqI B d i)).1+1<=_
  have e5:(W+1)*(4*Q (eb i))=4*(W*Q (eb i))+4*Q (eb i):=by grind
  have e6:2*Q (eb i)*W=2*(W*Q (eb i)):=by grind
  rw[e5];rw[e6] at h3;omega
theorem zB2 {i j:Nat} (h:i<=j):eb i<=eb j:=by
 unfold eb;split
 ·split
  ·omega
  ·have:=Nat.pow_le_pow_right (show 0<2 by omega) (show 0<=j-10 by omega);simp at this;omega
 ·split
  ·omega
  ·have:=Nat.pow_le_pow_right (show 0<2 by omega) (show i-10<=j-10 by omega);omega
theorem zU3 {i j:Nat} (h:i<=j):wb i<=wb j:=by
 obtain⟨d,rfl⟩:∃ d,j=i+d:=⟨j-i,by omega⟩
 clear h
 induction d with
 | zero=>exact Yy _
 | succ d ih=>show wb i<=wb (i+d)+eb (i+d)+2;omega
theorem zCD {B N t:Nat} {a:Int × Int} {ws:Int} (hB:16<=B) (hs:Abs (zG a t) (Q (B-8))) (ha:a.1<=a.2) (hw:a.2-a.1<=ws*Q t) (hN:zT (zU B (zG a t)) N) :
  (sqI B (zN (zU B (zG a t)) N) t).1<=(sqI B (zN (zU B (zG a t)) N) t).2/\Abs (sqI B (zN (zU B (zG a t)) N) t) (Q (B+eb t))/\N<=B/8+1 /\
  (sqI B (zN (zU B (zG a t)) N) t).2-(sqI B (zN (zU B (zG a t)) N) t).1<=(((N:Int)+1)*(2*ws+6)+3)*Q (wb t):=by
 have q:=zE t
 have X8:(zG a t).1<=(zG a t).2:=by
  have:=kN (a:=a) (n:=1) (d:=Q t) ha (by omega) (by omega)
  simpa [zK,zG] using this
 have T6:(zG a t).2-(zG a t).1<=ws+1:=zBT (by omega) hw
 have hT:=zBV (by omega) hs
 have Fl:1<=N:=by
  refine Nat.pos_of_ne_zero λ e=>?_
  have:=hN.1;rw[e] at this
  have h2:zW (zU B (zG a t) 0)=Q B:=by
   show zGY (Q B) (-Q B)=Q B
   have:=zE B;unfold zGY;rw[if_neg (by omega)]
  rw[h2] at this;have:=zJ hB;have:Q 16=65536:=rfl;omega
 have hd:=zJS (s:=8) (by omega) (zAG B (zG a t)) hT hN Fl
 have Aa:=zCP (zAG B (zG a t)) N;have QW:=zCB (zEA (by omega) hs X8 T6) hN
 obtain⟨g1,g2⟩:=sq_wide hB hd Aa t
 have hle:N<=B/8+1:=by
  obtain⟨N',n1,n2⟩:=zB6 (s:=8) (by omega) hT
  refine Nat.le_trans (Nat.not_lt.1 λ D9=>?_) n1
  have:=hN.2 N' D9;have:=n2.1;omega
 refine⟨g1,zUG hB hd t,hle,?_⟩;have q2:=zE (wb t);have e:2*(ws+1)+4=2*ws+6:=by omega
 rw[e] at QW;have:=Yt (show (zN (zU B (zG a t)) N).2-(zN (zU B (zG a t)) N).1+1<=((N:Int)+1)*(2*ws+6)+3 by omega) (show 0<=Q (wb t) by omega)
 omega
open Go.RowKit
attribute [local go_sem ↓] Go.wp_at_zero Go.wp_at_succ
theorem zD7 (x:Int) (b:Nat):zA5 x (b:Int)=x/Q b:=by unfold zA5;rw[if_pos (by omega)];simp
theorem zKC (w:World) (s t:Sp) (k b:Nat) (a c:Int × Int) (hs:SpAt w s k a.1 a.2) (ht:SpAt w t k c.1 c.2) (hk:k<=300000000) (hb:s.bits=(b:Int)) (qI:b<=1000000) :
  Calls Tryz.prog 124 #[.agg s.q,.agg t.q] w (zH w b (k+k+8) (zAJ b a c).1 (zAJ b a c).2) :=
 (zMP w s t k a.1 a.2 c.1 c.2 hs ht hk (by omega) (by omega)).mono λ r w' h=>by
  rw[hb,zD7,zD7] at h;exact h
theorem zC2 (w:World) (s t:Sp) (k b:Nat) (a c:Int × Int) (hs:SpAt w s k a.1 a.2) (ht:SpAt w t k c.1 c.2) (hk:k<=700000000) (hb:s.bits=(b:Int)) :
  Calls Tryz.prog 51 #[.agg s.q,.agg t.q] w (zH w b (k+1) (zAR a c).1 (zAR a c).2) :=
 (zD3 w s t k a.1 a.2 c.1 c.2 hs ht hk).mono λ r w' h=>by rw[hb] at h;exact h
theorem zHO (w:World) (s t:Sp) (k b:Nat) (a c:Int × Int) (hs:SpAt w s k a.1 a.2) (ht:SpAt w t k c.1 c.2) (hk:k<=600000000) (hb:s.bits=(b:Int)) :
  Calls Tryz.prog 92 #[.agg s.q,.agg t.q] w (zH w b (k+1) (zJA a c).1 (zJA a c).2) :=
 (zMQ w s t k a.1 a.2 c.1 c.2 hs ht hk).mono λ r w' h=>by rw[hb] at h;exact h
theorem zIY (w:World) (s:Sp) (k b:Nat) (d:Int) (a:Int × Int) (hs:SpAt w s k a.1 a.2) (hk:k<=300000000) (hb:s.bits=(b:Int)) (hd:0<d) (oT:d<=9223372036854775807) :
  Calls Tryz.prog 123 #[.agg s.q,.int .i64 d] w (zH w b (k+14) (zK a 1 d).1 (zK a 1 d).2) :=
 (zTN w s k d a.1 a.2 hs hk hd oT).mono λ r w' h=>by rw[hb] at h;exact h
theorem zDR (w:World) (s:Sp) (k b:Nat) (d:Int) (a:Int × Int) (hs:SpAt w s k a.1 a.2) (hk:k<=300000000) (hb:s.bits=(b:Int)) (hd : -9223372036854775808<=d) (oT:d<=9223372036854775807) :
  Calls Tryz.prog 156 #[.agg s.q,.int .i64 d] w (zH w b (k+4) (kI a d).1 (kI a d).2) :=
 (zUP w s k d a.1 a.2 hs hk hd oT).mono λ r w' h=>by rw[hb] at h;exact h
theorem exp1_iv (w:World) (B0:Nat) (s u:Sp) (k b:Nat) (n:Int) (a c:Int × Int) (hs:SpAt w s k a.1 a.2) (hu:SpAt w u k c.1 c.2) (hU:SpC w B0 u) (hk:k<=100000000) (hb:s.bits=(b:Int)) (qI:b<=1000000) (hn:0<n) (aT:n<=9223372036854775807) :
  Calls Tryz.prog 122 #[.agg s.q,.int .i64 n,.pointer (some ⟨B0,0,none⟩)] w (zH w b (k+k+22) (zK (zAJ b a c) 1 n).1 (zK (zAJ b a c) 1 n).2):=by
 obtain⟨W,hW⟩:∃ W,W=(w.alloc (.cells s.q 31)).alloc (.cells zCq 31):=⟨_,rfl⟩;have j6:Below w.heap.size w W:=by rw[hW];exact bl2 _ _ _
 have A:SpC W w.heap.size s:=by rw[hW];constructor<;>simp[go_sem]
 have R:NoC W (w.heap.size+1):=by rw[hW];constructor<;>simp[go_sem]
 have HS:=zC (hs.bw j6);have HU:=zC (hu.bw j6);have l0:=hU.lt;obtain⟨y0,y1,y2,y3,y4⟩:=hU;have HB:=zC hb;clear hs hu hb A
 go_enter Tryz.func122,Tryz.ntmps122
 go_wp2_with fail;rw[<- hW];clear hW;refine (zKC _ s u k b a c (zA HS) (zA HU) (by omega) (zA HB) qI).mono ?_
 rintro r' w1 ⟨v,rfl,J8,J6,b9⟩;have HV:=zC J8;clear J8 y0 y1 y2 y3 y4;replace R:=R.bw b9;replace j6:=zB j6 b9;go_wp2_with fail;refine (zIY _ v _ b n _ J6 (by omega) (zA HV) hn aT).mono ?_
 rintro r' w2 ⟨t,rfl,I2,K5,j8⟩;obtain⟨q0,q1,q2,q3,q4,q5⟩:=R.bw j8;replace j6:=zB j6 j8;have HT:=zC I2;clear I2;go_wp2_with fail;refine bodyPost_ret (v:=.agg t.q) (by simp[results,Tryz.results122,go_sem,q0,q1,q2,q3,q4]) rfl ⟨t,rfl,zA HT,?_,?_⟩
 ·exact SpAt.put5 (K5.mono (by omega)) q0 q1 q2 q3 q4 _ _ _ _ _
 ·exact jV j6 (Nat.le_succ _) _ _ _ _ _
structure VrC (w:World) (B:Nat) (s:Sp):Prop where
 c:SpC w B s
 fz:∀ o,w.frozen? ⟨B,o,none⟩=false
theorem VrC.lt {w:World} {B:Nat} {s:Sp} (h:VrC w B s):B<w.heap.size:=h.c.lt
theorem VrC.bw {w w':World} {B:Nat} {s:Sp} (h:VrC w B s) (hb:Below w.heap.size w w'):VrC w' B s :=
 ⟨h.c.bw hb,λ o=>(hb.frozen (p:=⟨B,o,none⟩) h.lt).trans (h.fz o)⟩
abbrev yY (w:World) (B:Nat) (u:Sp):World:=((((w.setCell ⟨B,0,none⟩ (.bool u.ln)).setCell ⟨B,1,none⟩ (.slice u.la u.lN u.lc)).setCell ⟨B,2,none⟩ (.bool u.hn)).setCell ⟨B,3,none⟩ (.slice u.ha u.hN u.hc)).setCell ⟨B,4,none⟩ (.int .i64 u.bits)
theorem zLY {w:World} {B B':Nat} (h:∀ o,w.frozen? ⟨B,o,none⟩=false) (u:Sp):∀ o,(yY w B' u).frozen? ⟨B,o,none⟩=false:=λ o=>by
 show (yY w B' u).frozen? ⟨B,o,none⟩=false
 unfold yY;rw[zS,zS,zS,zS,zS];exact h o
theorem VrC.put {w:World} {B:Nat} {s:Sp} (h:VrC w B s) (u:Sp):VrC (yY w B u) B u:=by
 refine⟨?_,zLY h.fz u⟩;obtain⟨⟨q0,q1,q2,q3,q4⟩,q5⟩:=h;constructor<;>simp[go_sem,q0,q1,q2,q3,q4]
theorem SpC.off {w:World} {B B':Nat} {s:Sp} (h:SpC w B s) (hne:B≠B') (u:Sp):SpC (yY w B' u) B s:=h.put hne _ _ _ _ _
theorem VrC.off {w:World} {B B':Nat} {s:Sp} (h:VrC w B s) (hne:B≠B') (u:Sp):VrC (yY w B' u) B s:=⟨h.c.off hne u,zLY h.fz u⟩
theorem NoC.off {w:World} {B B':Nat} (h:NoC w B) (hne:B≠B') (u:Sp):NoC (yY w B' u) B:=by
 obtain⟨q0,q1,q2,q3,q4,q5⟩:=h;exact⟨yX q0 hne _ _ _ _ _,yX q1 hne _ _ _ _ _,yX q2 hne _ _ _ _ _,yX q3 hne _ _ _ _ _,yX q4 hne _ _ _ _ _,zLY q5 u⟩
theorem SpAt.put {w:World} {s:Sp} {k:Nat} {lo hi:Int} (h:SpAt w s k lo hi) {B:Nat} {z:Sp} (hB:SpC w B z) (u:Sp):SpAt (yY w B u) s k lo hi:=SpAt.put5 h hB.c0 hB.c1 hB.c2 hB.c3 hB.c4 _ _ _ _ _
theorem zAW {B B':Nat} {a w:World} (h:Below B a w) (hB:B<=B') (u:Sp):Below B a (yY w B' u):=jV h hB _ _ _ _ _
def TwoS (W wx:World) (s t:Sp) (p q:Value):Prop :=
 ∃ B B',p=.pointer (some ⟨B,0,none⟩)/\q=.pointer (some ⟨B',0,none⟩)/\W.heap.size<=B/\W.heap.size<=B'/\B≠B'/\VrC wx B s/\VrC wx B' t/\Below W.heap.size W wx
theorem zUR (V:World) (s t:Sp) (T:TypeId):TwoS V ((V.alloc (.cells s.q T)).alloc (.cells t.q T)).drew s t (.pointer (some ⟨V.heap.size,0,none⟩)) (.pointer (some ⟨V.heap.size+1,0,none⟩)):=by
 refine⟨_,_,rfl,rfl,Yy _,Nat.le_succ _,YD (Nat.lt_succ_self _),VrC.bw (w:=(V.alloc (.cells s.q T)).alloc (.cells t.q T)) ⟨⟨by simp[go_sem],by simp[go_sem],by simp[go_sem],by simp[go_sem],by simp[go_sem]⟩,λ o=>by simp[go_sem]⟩ (Below.refl _ _).drew,VrC.bw (w:=(V.alloc (.cells s.q T)).alloc (.cells t.q T)) ⟨⟨by simp[go_sem],by simp[go_sem],by simp[go_sem],by simp[go_sem],by simp[go_sem]⟩,λ o=>by simp[go_sem]⟩ (Below.refl _ _).drew,(bl2 _ _ _).drew⟩
theorem twoS_b (V:World) (s t:Sp) (T:TypeId):TwoS V ((V.alloc (.cells t.q T)).alloc (.cells s.q T)).drew s t (.pointer (some ⟨V.heap.size+1,0,none⟩)) (.pointer (some ⟨V.heap.size,0,none⟩)):=by
 obtain⟨B,B',h1,h2,h3,h4,h5,h6,h7,h8⟩:=zUR V t s T;exact⟨B',B,h2,h1,h4,h3,λ e=>h5 e.symm,h7,h6,h8⟩
structure SumSt (W wr:World) (B5 B6 b K:Nat) (s X Y:Sp) (f:Nat->Int × Int) (i:Nat):Prop where
 x:VrC wr B5 X
 y:VrC wr B6 Y
 xp:SpAt wr X K (jE f i).1 (jE f i).2
 yp:SpAt wr Y K (f i).1 (f i).2
 xb:X.bits=(b:Int)
 yb:Y.bits=(b:Int)
 fs:SpC wr W.heap.size s
 no:NoC wr (W.heap.size+1)
 be:Below W.heap.size W wr
 l5:W.heap.size+1<B5
 l6:W.heap.size+1<B6
 ne:B5≠B6
theorem SumSt.bw {W wr wr':World} {B5 B6 b K:Nat} {s X Y:Sp} {f:Nat->Int × Int} {i:Nat} (h:SumSt W wr B5 B6 b K s X Y f i) (hb:Below wr.heap.size wr wr'):SumSt W wr' B5 B6 b K s X Y f i :=
 ⟨h.x.bw hb,h.y.bw hb,h.xp.bw hb,h.yp.bw hb,h.xb,h.yb,h.fs.bw hb,h.no.bw hb,zB h.be hb,h.l5,h.l6,h.ne⟩
theorem zMH (ff:Nat) (cs:Array Value) (QY:∀ (args:Array Value) (w:World),(callFunc ff args).run Tryz.prog w=.ok (.enter ff args) w) (f:Nat->Int × Int) (N b K KF:Nat) (s:Sp) (W:World) (hs:SpAt W s K (f 0).1 (f 0).2) (hbits:s.bits=(b:Int)) (hb:b<=1000000) (hK:K<=100000000) (Ym:KF<=900000000) (hN:zT f N) (zq:N<=1000000000)
  (hle:∀ n,(f n).1<=(f n).2) (Z3:∀ n,n<=N -> -P K<(f n).1/\(f n).2<P K) (hfitS:∀ n,n<=N -> -P K<(jE f n).1/\(jE f n).2<P K)
  (hF:∀ (n:Nat) (u:Sp) w',n<N->u.bits=(b:Int)->SpAt w' u K (f n).1 (f n).2->Below W.heap.size W w'->Calls Tryz.prog ff (#[.agg u.q,.int .i64 ((n:Int)+1)] ++ cs) w' (zH w' b KF (f (n+1)).1 (f (n+1)).2)) :
  Calls Tryz.prog 121 #[.agg s.q,.func (.func ff) #[] cs] W (zH W b (K+3) (zN f N).1 (zN f N).2):=by
 have HF:=zC hF;have HN:=zC hN;have gN:=zC hbits;clear hF hN hbits;obtain⟨V,hV⟩:∃ V,V=(W.alloc (.cells s.q 31)).alloc (.cells zCq 31):=⟨_,rfl⟩;have sX:Below W.heap.size W V:=by rw[hV];exact bl2 _ _ _
 have A:SpC V W.heap.size s:=by rw[hV];constructor<;>simp[go_sem]
 have R:NoC V (W.heap.size+1):=by rw[hV];constructor<;>simp[go_sem]
 have HS:=zC (hs.bw sX);have lA:=A.lt;have lR:=R.lt;clear hs
 go_enter Tryz.func121,Tryz.ntmps121
 go_wp2;rw[<- hV];clear hV
 go_cut [5,6] (λ p q wx=>TwoS V wx s s p q)
 case first =>
  obtain⟨x0,x1,x2,x3,x4⟩:=A
  go_region
  all_goals
   go_wp2_with fail;go_meet
   first
    | with_reducible exact zUR _ _ _ _
    | with_reducible exact twoS_b _ _ _ _
 case rest =>
 obtain⟨B5,B6,rfl,rfl,l5,l6,hne,X,Y,hB⟩:=hcut;have n5:W.heap.size+1<B5:=by omega
 have n6:W.heap.size+1<B6:=by omega
 have mY:SumSt W wc B5 B6 b K s s s f 0:=⟨X,Y,(zA HS).bw hB,(zA HS).bw hB,zA gN,zA gN,A.bw hB,R.bw hB,zB sX hB,n5,n6,hne⟩;clear X Y hB A R HS l5 l6 n5 n6 hne sX lA lR;go_wp2_with fail
 go_loopw [7] (λ nn wr=>∃ (i:Nat) (X Y:Sp),nn=.int .i64 ((i:Int)+1)/\i<=N/\SumSt W wr B5 B6 b K s X Y f i) (λ nn _=>N+1-(intOf nn).toNat)
 case atStart=>exact⟨0,s,s,rfl,Nat.zero_le _,mY⟩
 case round =>
  obtain⟨i,X,Y,rfl,hi,st⟩:=hrel;have iV:=zAN (hle i);obtain⟨⟨y0,y1,y2,y3,y4⟩,y5⟩:=st.y;go_wp2_with fail;refine (zEJ _ Y K _ _ st.yp (by omega)).mono ?_
  rintro r w1 ⟨m7,a1,n1,c1,rfl,o8,b9⟩;replace st:=st.bw b9;clear b9 y0 y1 y2 y3 y4 y5;go_wp2_with fail;refine (zD2 _ _ _ _ _ (zW (f i)) _ o8 iV).mono ?_;rintro r w2 ⟨l,hlen,rfl,j8⟩;replace st:=st.bw j8;clear j8 o8
  by_cases I6:i<N
  ·have hl:1<l:=by
    refine Int.not_le.1 λ hl=>?_
    have:=zSP hlen hl iV;have:=(zA HN).2 i I6;omega
   clear hlen;obtain⟨⟨y0,y1,y2,y3,y4⟩,y5⟩:=st.y;go_wp2_with fail;refine (zA HF i Y _ I6 st.yb st.yp st.be).mono ?_;rintro r w3 ⟨u,rfl,B8,B7,m8⟩;replace st:=st.bw m8;replace B7:=B7.fits (K:=K) (hle _) (Z3 _ (by omega)).1 (Z3 _ (by omega)).2
   have HU:=zC B8;clear m8 y0 y1 y2 y3 y4 y5 B8;obtain⟨V3,I0⟩:∃ V3,V3=yY w3 B6 u:=⟨_,rfl⟩;have X3:VrC V3 B5 X:=by rw[I0];exact st.x.off st.ne u
   have Y3:VrC V3 B6 u:=by rw[I0];exact st.y.put u
   have P3:SpAt V3 X K (jE f i).1 (jE f i).2:=by rw[I0];exact st.xp.put st.y.c u
   have U3:SpAt V3 u K (f (i+1)).1 (f (i+1)).2:=by rw[I0];exact B7.put st.y.c u
   have F3:SpC V3 W.heap.size s:=by rw[I0];exact st.fs.off (by have:=st.l6;omega) u
   have R3:NoC V3 (W.heap.size+1):=by rw[I0];exact st.no.off (by have:=st.l6;omega) u
   have B3:Below W.heap.size W V3:=by rw[I0];exact zAW st.be (by have:=st.l6;omega) u
   have xb:=zC st.xb;have l5:=st.l5;have l6:=st.l6;have hne:=st.ne;have lY:=st.y.lt;have lX:=st.x.lt;obtain⟨⟨y0,y1,y2,y3,y4⟩,y5⟩:=st.y;obtain⟨⟨x0,x1,x2,x3,x4⟩,x5⟩:=st.x;clear st B7;go_wp2_with fail;have Q4:V3=yY w3 B6 u:=I0;unfold yY at Q4;rw[<- Q4];clear Q4 y0 y1 y2 y3 y4 y5 x0 x1 x2 x3 x4 x5;have FP:B5<V3.heap.size:=X3.lt;refine (zC2 _ X u K b (jE f i) (f (i+1)) P3 U3 (by omega) (zA xb)).mono ?_
   rintro r w4 ⟨v,rfl,J8,J6,p9⟩;have X4:=X3.bw p9;have Y4:=Y3.bw p9;have U4:=U3.bw p9;have F4:=F3.bw p9;have R4:=R3.bw p9;have B4:=zB B3 p9;have e:zAR (jE f i) (f (i+1))=jE f (i+1):=rfl;rw[e] at J6;replace J6:=J6.fits (K:=K) (zGR hle _) (hfitS _ (by omega)).1 (hfitS _ (by omega)).2
   have HV:=zC J8;clear p9 J8 X3 Y3 P3 U3 F3 R3 B3 I0;have stn:SumSt W (yY w4 B5 v) B5 B6 b K s v u f (i+1):=⟨X4.put v,Y4.off (Ne.symm hne) v,J6.put X4.c v,U4.put X4.c v,zA HV,zA HU,F4.off (by omega) v,R4.off (by omega) v,zAW B4 (by omega) v,l5,l6,hne⟩
   unfold yY at stn;obtain⟨⟨x0,x1,x2,x3,x4⟩,x5⟩:=X4;go_wp2_with fail
   go_roundw
   case rel=>exact⟨i+1,v,u,by go_num,by omega,stn⟩
   case measure=>simp[intOf];omega
  ·have ie:i=N:=by omega
   subst ie
   have hl:¬ 1<l:=by
    have h1:=(zA HN).1
    intro hl
    obtain⟨g1,g2,g3⟩:=hlen
    by_cases hp:0<zW (f i)
    ·obtain⟨L,e1,e2,e3⟩:=g3 hp
     have:1<=L:=by omega
     have:=zJ this;have:Q 1=2:=rfl;omega
    ·have:=g2 (by omega);omega
   clear hlen;obtain⟨⟨y0,y1,y2,y3,y4⟩,y5⟩:=st.y;go_wp2_with fail;refine (zEJ _ Y K _ _ st.yp (by omega)).mono ?_
   rintro r w3 ⟨B9,a3,n3,c3,rfl,E7,m8⟩;replace st:=st.bw m8;clear m8 y0 y1 y2 y3 y4 y5;obtain⟨V3,I0⟩:∃ V3,V3=w3.alloc (.cells #[.bool B9,.slice a3 n3 c3] 29):=⟨_,rfl⟩;have bV:Below w3.heap.size w3 V3:=by rw[I0];exact bl1 _ _
   have L3:NmC V3 w3.heap.size ⟨B9,a3,n3,c3⟩:=by rw[I0];exact zDC w3 ⟨B9,a3,n3,c3⟩ _
   have V5:=st.bw bV;have HI:=zC (E7.bw bV);have l5:=st.l5;have lX:=st.x.lt;have Z7:=zC (show ∀ w',Below V3.heap.size V3 w'->(cK w' B5 X (w'.cell? ⟨w3.heap.size,0,none⟩=some (.bool B9)/\w'.cell? ⟨w3.heap.size,1,none⟩=some (.slice a3 n3 c3)/\w'.cell? ⟨W.heap.size,4,none⟩=some (.int .i64 s.bits))) from λ w' hB=>⟨(V5.x.c.bw hB).c0,(V5.x.c.bw hB).c1,(V5.x.c.bw hB).c2,(V5.x.c.bw hB).c3,(V5.x.c.bw hB).c4,(L3.bw hB).c0,(L3.bw hB).c1,(V5.fs.bw hB).c4⟩)
   have lL:=L3.lt;have R3:=V5.no;have iE:=R3.lt;clear st L3 E7;go_wp2_with fail;rw[<- I0];clear I0;obtain⟨x0,x1,x2,x3,x4,x5,x6,x7⟩:=zA Z7 _ (Below.refl _ _);have D5:Below V3.heap.size V3 V3.drew:=(Below.refl _ _).drew;have DR:W.heap.size+1≠B5:=by omega
   have rR:W.heap.size+1≠w3.heap.size:=by omega
   have FV:W.heap.size+1≠W.heap.size:=by omega
   go_region_held3 (λ w'=>cK w' B5 X (w'.cell? ⟨w3.heap.size,0,none⟩=some (.bool B9)/\w'.cell? ⟨w3.heap.size,1,none⟩=some (.slice a3 n3 c3)/\w'.cell? ⟨W.heap.size,4,none⟩=some (.int .i64 s.bits))) (first|exact zA Z7 _ (by with_reducible first|exact D5|exact s9|exact y9)|(dsimp only[cK,cK0,nK,nK0,rK,rK0];go_keep)|go_keep)
    (first
     | (go_at_call 51;have hq:=y9;refine (zC2 _ X ⟨E4,a4,n4,c4,B9,a3,n3,c3,s.bits⟩ (K+1) b (jE f i) (-zW (f i),zW (f i)) ((V5.xp.bw y9).mono (by omega)) ⟨H8,(zA HI).bw y9⟩ (by omega) V5.xb).mono ?_;rintro r' w5 ⟨v,rfl,J8,J6,D8⟩;have s9:=zB y9 D8;have HV:=zC J8;clear J8;obtain⟨q0,q1,q2,q3,q4,q5⟩:=R3.bw s9;obtain⟨y0,y1,y2,y3,y4,y5,y6,y7⟩:=zA Z7 _ s9)
     | (go_at_call 87;refine (zA8 _ _ _ _ (K+1) (zW (f i)) _ ((zA HI).bw D5) (by omega)).mono ?_;rintro r' w4 ⟨E4,a4,n4,c4,rfl,H8,p9⟩;have y9:=zB D5 p9))
   all_goals
    go_wp2_with fail;refine bodyPost_ret (v:=.agg v.q) (by simp[results,Tryz.results121,go_sem,q0,q1,q2,q3,q4]) rfl ⟨v,rfl,zA HV,?_,?_⟩
    ·exact SpAt.put5 (J6.mono (by omega)) q0 q1 q2 q3 q4 _ _ _ _ _
    ·exact jV (zB V5.be s9) (Nat.le_succ _) _ _ _ _ _
theorem en_exp (args:Array Value) (w:World):(callFunc 122 args).run Tryz.prog w=.ok (.enter 122 args) w:=by simp[go_sem,callFunc,Tryz.func122];kernel_rfl
theorem len_uniq {z l l':Int} (h:zB1 z l) (h':zB1 z l') (hz:0<=z):l=l':=by
 obtain⟨a1,a2,a3⟩:=h;obtain⟨b1,b2,b3⟩:=h'
 by_cases hp:0<z
 ·obtain⟨L,e1,e2,e3⟩:=a3 hp
  obtain⟨L',f1,f2,f3⟩:=b3 hp
  have:L=L':=by
   rcases Nat.lt_trichotomy L L' with h|h|h
   ·have:=zJ (show L+1<=L' by omega);omega
   ·exact h
   ·have:=zJ (show L'+1<=L by omega);omega
  omega
 ·have:=a2 (by omega);have:=b2 (by omega);omega
theorem exp_one {b N:Nat} {sm:Int × Int} (hb:16<=b) (hN:zT (zU b sm) N):1<=N:=by
 refine Nat.pos_of_ne_zero λ e=>?_
 have:=hN.1;rw[e] at this
 have h2:zW (zU b sm 0)=Q b:=by
  show zGY (Q b) (-Q b)=Q b
  have:=zE b;unfold zGY;rw[if_neg (by omega)]
 rw[h2] at this;have:=zJ hb;have:Q 16=65536:=rfl;omega
theorem zR6 {z l l' bt:Int} {b t:Nat} (h':zB1 z l') (h:zB1 z l) (ht:(t:Int)=max 0 (l-b+8)) (hb:bt=(b:Int)) (qI:b<=1000000) (gH:t<=1000000) (hz:0<=z) :
  (if 0<IntKind.i64.wrap (IntKind.i64.wrap (l'-bt)+8) then IntKind.i64.wrap (IntKind.i64.wrap (l'-bt)+8) else 0)=(t:Int):=by
 have e:=len_uniq h' h hz;have l0:=h.1;have l1:l<=3000000:=by omega
 subst e;rw[hb,jH (l'-b) (by omega) (by omega),jH (l'-b+8) (by omega) (by omega)]
 split<;>omega
theorem zGU (w:World) (s:Sp) (K b t N:Nat) (a:Int × Int) (l:Int) (hs:SpAt w s K a.1 a.2) (hbits:s.bits=(b:Int)) (hle:a.1<=a.2) (O9:16<=b) (hb:b<=1000000) (hl:zB1 (zW a) l) (ht:(t:Int)=max 0 (l-b+8)) (gH:t<=1000000)
  (mO:Abs (zG a t) (Q (b-8))) (hN:zT (zU b (zG a t)) N) (hK:Q (b+2)<P K) (hU:∀ i,i<=t -> -P K<(sqI b (zN (zU b (zG a t)) N) i).1/\(sqI b (zN (zU b (zG a t)) N) i).2<P K) (nT:K<=10000000) :
  Calls Tryz.prog 77 #[.agg s.q] w (zH w b K (sqI b (zN (zU b (zG a t)) N) t).1 (sqI b (zN (zU b (zG a t)) N) t).2):=by
 obtain⟨W,hW⟩:∃ W,W=(w.alloc (.cells s.q 31)).alloc (.cells zCq 31):=⟨_,rfl⟩;have j6:Below w.heap.size w W:=by rw[hW];exact bl2 _ _ _
 have A:SpC W w.heap.size s:=by rw[hW];constructor<;>simp[go_sem]
 have R:NoC W (w.heap.size+1):=by rw[hW];constructor<;>simp[go_sem]
 have HS:=zC (hs.bw j6);have lA:=A.lt;have lR:=R.lt;have HB:=zC hbits;have HT:=zC ht;have iV:=zAN hle;have HK:=zC (show ∀ w',Below W.heap.size W w'->(cK0 w' w.heap.size s) from λ w' hB=>⟨(A.bw hB).c0,(A.bw hB).c1,(A.bw hB).c2,(A.bw hB).c3,(A.bw hB).c4⟩)
 clear hs hbits ht
 go_enter Tryz.func77,Tryz.ntmps77
 go_wp2;rw[<- hW];clear hW;obtain⟨x0,x1,x2,x3,x4⟩:=zA HK _ (Below.refl _ _);have D5:Below W.heap.size W W.drew:=(Below.refl _ _).drew
 go_cut [3] (λ p wx=>p=.int .i64 (t:Int)/\Below W.heap.size W wx)
 case first =>
  go_region_held3 (λ w'=>cK0 w' w.heap.size s) (first|exact zA HK _ (by with_reducible first|exact D5|exact s9|exact y9)|(dsimp only[cK,cK0,nK,nK0,rK,rK0];go_keep)|go_keep)
   (first
    | (go_at_call 98;have hq:=y9;refine (zD2 _ _ _ _ _ (zW a) _ o8 iV).mono ?_;rintro r' w2 ⟨l',hlen,rfl,j8⟩;have s9:=zB y9 j8)
    | (go_at_call 119;refine (zEJ _ s K _ _ ((zA HS).bw D5) (by omega)).mono ?_;rintro r' w1 ⟨m7,a1,n1,c1,rfl,o8,b9⟩;have y9:=zB D5 b9))
  all_goals go_wp2_with fail
  all_goals
   go_meet;refine⟨congrArg _ ?_,s9⟩;have e:=zR6 hlen hl (zA HT) (zA HB) hb gH iV;split at e<;>omega
 case rest =>
 obtain⟨rfl,F9⟩:=hcut;replace A:=A.bw F9;replace R:=R.bw F9;replace j6:=zB j6 F9;replace HS:=zC ((zA HS).bw F9);have lA:=A.lt;have lR:=R.lt;have HK:=zC (show ∀ w',Below wc.heap.size wc w'->(cK0 w' w.heap.size s) from λ w' hB=>⟨(A.bw hB).c0,(A.bw hB).c1,(A.bw hB).c2,(A.bw hB).c3,(A.bw hB).c4⟩)
 clear x0 x1 x2 x3 x4 D5 F9;obtain⟨x0,x1,x2,x3,x4⟩:=zA HK _ (Below.refl _ _);go_wp2_with fail
 go_cut [4] (λ p wx=>∃ (B:Nat) (u:Sp),p=.pointer (some ⟨B,0,none⟩)/\wc.heap.size<=B/\VrC wx B u/\SpAt wx u (K+5) (zG a t).1 (zG a t).2/\u.bits=(b:Int)/\Below wc.heap.size wc wx)
 case first =>
  go_region_held3 (λ w'=>cK0 w' w.heap.size s) (exact zA HK _ (by repeat' (first|with_reducible exact L8|with_reducible exact G6|with_reducible exact Below.refl _ _|with_reducible refine Below.drew ?_|with_reducible refine zL ?_ _|with_reducible refine Below.setCell ?_ (by first|exact Yy _|exact S6|exact S7) _)))
   (first
    | (go_at_call 120;have hq:=G6;refine (zET _ _ _ _ K (t:Int) a.2 _ ((zA HS).hi.bw (by with_reducible first|exact G6|exact zL G6 _)) (by omega) (by omega) (by omega)).mono ?_;rintro r fW ⟨aQ,sG,wX,sH,rfl,T5,R6⟩;have Q2:Below ct.heap.size ct fW:=(by with_reducible first|exact R6|exact zB (bl1 _ _) R6);have L8:=zB G6 Q2;(try with_reducible have cT:=(zQ ct 31).bw R6);replace J7:=J7.bw Q2;(try replace Y9:=Y9.bw Q2);have S7:=L8.size;(try have pE:=Y9.lt);(try have PY:=YD pE);(try have BR:=YC pE);(try obtain⟨nv,nw,xW,ya,yc,Eo⟩:=Y9);(try have pF:=cT.lt);(try have PZ:=YD pF);(try have BT:=YC pF);(try obtain⟨ny,nD,yd,ye,yg,Ep⟩:=cT))
    | (go_at_call 96;refine (zHA _ _ _ _ K (t:Int) a.1 _ ((zA HS).lo.bw (by with_reducible first|exact (Below.refl _ _).drew|exact (bl1 _ _).drew)) (by omega) (by omega) (by omega)).mono ?_;rintro r ct ⟨bo,zd,Ax,ze,rfl,J7,R0⟩;have G6:Below wc.heap.size wc ct:=(by with_reducible first|exact zB (Below.refl _ _).drew R0|exact zB (bl1 _ _).drew R0);(try with_reducible have Y9:=((zQ wc 31).bw (Below.refl _ _).drew).bw R0);have S6:=G6.size))
  all_goals
   have hfinU:SpAt fW ⟨bo,zd,Ax,ze,aQ,sG,wX,sH,s.bits⟩ (K+5) (zG a t).1 (zG a t).2:=⟨by rw[zD7] at J7;exact J7.mono (by omega),by rw[zD7] at T5;exact T5.mono (by omega)⟩
   go_wp2_with fail;go_meet;refine⟨_,⟨bo,zd,Ax,ze,aQ,sG,wX,sH,s.bits⟩,rfl,?_,⟨⟨?_,?_,?_,?_,?_⟩,?_⟩,?_,zA HB,?_⟩
   ·first|exact Yy _|exact S6|exact S7
   ·simp[go_sem, *]
   ·simp[go_sem, *]
   ·simp[go_sem, *]
   ·simp[go_sem, *]
   ·simp[go_sem, *]
   ·intro o;simp[go_sem, *]
   ·first|with_reducible exact hfinU.bw (bl1 _ _)|with_reducible exact SpAt.put5 hfinU (by assumption) (by assumption) (by assumption) (by assumption) (by assumption) _ _ _ _ _
   ·repeat' (first|with_reducible exact L8|with_reducible exact G6|with_reducible exact Below.refl _ _|with_reducible refine Below.drew ?_|with_reducible refine zL ?_ _|with_reducible refine Below.setCell ?_ (by first|exact Yy _|exact S6|exact S7) _)
 case rest =>
 obtain⟨BU,xU,rfl,Cp,XU,hpU,hxbU,hblU⟩:=hcut;replace A:=A.bw hblU;replace R:=R.bw hblU;replace j6:=zB j6 hblU;have lU:=XU.lt;have nRU:w.heap.size+1<BU:=by omega
 have FO:=A.lt;have Z6:=R.lt;have oH:=zC hxbU;have cE:=zC hpU;clear hxbU hpU HS HK x0 x1 x2 x3 x4 hblU;have x4:=A.c4;rw[zA HB] at x4;go_wp2_with fail;refine (zDE _ b hb).mono ?_;rintro r w1 ⟨v1,rfl,J2,T3,b9⟩;have Jv:=zE b
 have KS:(zU b (zG a t) 0).1=1*Q b/1/\(zU b (zG a t) 0).2 = -(-(1*Q b)/1):=by
  constructor
  ·show Q b=_;omega
  ·show Q b=_;omega
 rw[<- KS.1,<- KS.2] at T3
 have gY:Q b*2<P K/\2*Q b+Q b<P K:=by
  have e:Q (b+2)=2*(2*Q b):=rfl;omega
 have HU:=zC hU;clear hU;have hT:=zBV (by omega) mO
 have hlT:=zAG b (zG a t)
 have Z3:∀ n,n<=N -> -P K<(zU b (zG a t) n).1/\(zU b (zG a t) n).2<P K:=λ n _=>by
  obtain⟨g1,g2,g3,g4⟩:=hT n;have:=zJ (show b-8*n<=b by omega)
  omega
 have hfitS:∀ n,n<=N -> -P K<(jE (zU b (zG a t)) n).1/\(jE (zU b (zG a t)) n).2<P K:=λ n hn=>by
  obtain⟨g1,g2,g3,g4⟩:=zFX (s:=8) (by omega) hT hN n hn
  have:=zE (b-8*n);omega
 have zq:N<=1000000000:=by
  obtain⟨N',n1,n2⟩:=zB6 (s:=8) (by omega) hT
  have:N<=N':=Nat.not_lt.1 λ D9=>by have:=hN.2 N' D9;have:=n2.1;omega
  omega
 replace T3:=T3.fits (K:=K) (hlT 0) (Z3 0 (by omega)).1 (Z3 0 (by omega)).2
 have Y2:=zC hT;have sj:=zC hlT;have gO:=zC Z3;have cD:=zC hfitS;have oG:=zC T3;have sD:=zC J2;have Hb:=zC gY;clear hT hlT Z3 hfitS KS T3 J2 gY;replace XU:=XU.bw b9;replace cE:=zC ((zA cE).bw b9);replace R:=R.bw b9;replace j6:=zB j6 b9;have lU3:=XU.lt;have iE:=R.lt;clear b9 x4 A FO;go_wp2_with fail;refine (zMH _ _ en_exp (zU b (zG a t)) N b K (K+5+(K+5)+22) v1 _ (zA oG) (zA sD) hb (by omega) (by omega) hN zq (zA sj) (zA gO) (zA cD) (λ n u w' hn B8 B7 R9=>?_)).mono ?_
 ·exact exp1_iv w' BU u xU (K+5) b ((n:Int)+1) (zU b (zG a t) n) (zG a t) (B7.mono (by omega)) ((zA cE).bw R9) (XU.c.bw R9) (by omega) B8 hb (by omega) (by omega)
 rintro r w2 ⟨v2,rfl,P5,W9,j8⟩;replace XU:=XU.bw j8;replace R:=R.bw j8;replace j6:=zB j6 j8;have Aa:=zCP (zA sj) N;have JT:=zF7 (s:=8) (by omega) (zA sj) (zA Y2) hN
 replace W9:=W9.fits (K:=K) Aa (by have:=JT.1;have:=zA Hb;omega) (by have:=JT.2.2.2;have:=zA Hb;omega)
 have dM:=zC P5;clear P5 j8 oG sD Aa JT;have lR4:=R.lt;go_wp2_with fail
 go_loopw [31] (λ ii wr=>∃ (i:Nat) (X:Sp),ii=.int .i64 (i:Int)/\i<=t/\VrC wr w2.heap.size X/\SpAt wr X K (sqI b (zN (zU b (zG a t)) N) i).1 (sqI b (zN (zU b (zG a t)) N) i).2/\X.bits=(b:Int)/\NoC wr (w.heap.size+1)/\Below w.heap.size w wr) (λ ii _=>t-(intOf ii).toNat)
 case atStart =>
  refine⟨0,v2,rfl,Nat.zero_le _,⟨⟨by simp[go_sem],by simp[go_sem],by simp[go_sem],by simp[go_sem],by simp[go_sem]⟩,λ o=>by simp[go_sem]⟩,W9.bw (bl1 _ _),zA dM,R.bw (bl1 _ _),zL j6 _⟩
 case round =>
  obtain⟨i,X,rfl,hi,hX,hp,O6,hR,hB⟩:=hrel;have oH:=zC O6;clear O6;have lX:=hX.lt
  by_cases I6:i<t
  ·have CP:(i:Int)<(t:Int):=by omega
   obtain⟨⟨x0,x1,x2,x3,x4⟩,x5⟩:=hX;go_wp2_with fail;refine (zKC _ X X K b _ _ hp hp (by omega) (zA oH) hb).mono ?_
   rintro r w3 ⟨v,rfl,J8,J6,m8⟩;have X3:=VrC.bw ⟨⟨x0,x1,x2,x3,x4⟩,x5⟩ m8;have R3:=hR.bw m8;have B3:=zB hB m8;have e:zAJ b (sqI b (zN (zU b (zG a t)) N) i) (sqI b (zN (zU b (zG a t)) N) i)=sqI b (zN (zU b (zG a t)) N) (i+1):=rfl;rw[e] at J6;replace J6:=J6.fits (K:=K) (zB4 b) (zA HU (i+1) (by omega)).1 (zA HU (i+1) (by omega)).2
   have HV:=zC J8;have nB:w.heap.size+1≠w2.heap.size:=by omega
   have stn:VrC (yY w3 w2.heap.size v) w2.heap.size v/\SpAt (yY w3 w2.heap.size v) v K (sqI b (zN (zU b (zG a t)) N) (i+1)).1 (sqI b (zN (zU b (zG a t)) N) (i+1)).2/\NoC (yY w3 w2.heap.size v) (w.heap.size+1)/\Below w.heap.size w (yY w3 w2.heap.size v):=⟨X3.put v,J6.put X3.c v,R3.off nB v,zAW B3 (by omega) v⟩
   unfold yY at stn;clear J8 m8 x0 x1 x2 x3 x4 x5 J6;obtain⟨⟨x0,x1,x2,x3,x4⟩,x5⟩:=X3;go_wp2_with fail
   go_roundw
   case rel=>exact⟨i+1,v,by go_num,by omega,stn.1,stn.2.1,zA HV,stn.2.2.1,stn.2.2.2⟩
   case measure=>simp[intOf];omega
  ·have ie:i=t:=by omega
   subst ie;have CP:¬ (i:Int)<(i:Int):=by omega
   obtain⟨⟨x0,x1,x2,x3,x4⟩,x5⟩:=hX;obtain⟨q0,q1,q2,q3,q4,q5⟩:=hR;go_wp2_with fail;refine bodyPost_ret (v:=.agg X.q) (by simp[results,Tryz.results77,go_sem,q0,q1,q2,q3,q4]) rfl ⟨X,rfl,zA oH,?_,?_⟩
   ·exact SpAt.put5 hp q0 q1 q2 q3 q4 _ _ _ _ _
   ·exact jV hB (Nat.le_succ _) _ _ _ _ _
theorem zCK (w:World) (s:Sp) (K b t N:Nat) (a:Int × Int) (l:Int) (hs:SpAt w s K a.1 a.2) (hbits:s.bits=(b:Int)) (hle:a.1<=a.2) (O9:16<=b) (hb:b<=1000000) (hl:zB1 (zW a) l) (ht:(t:Int)=max 0 (l-b+8)) (gH:t<=1000000)
  (mO:Abs (zG a t) (Q (b-8))) (hN:zT (zU b (zG a t)) N) (hK:Q (b+eb t)<P K) (nT:K<=10000000) :
  Calls Tryz.prog 77 #[.agg s.q] w (zH w b K (sqI b (zN (zU b (zG a t)) N) t).1 (sqI b (zN (zU b (zG a t)) N) t).2):=by
 have h12:12<=eb t:=by have:=zB2 (show 0<=t by omega);simpa [eb] using this
 have J5:=zJ (show b+2<=b+eb t by omega)
 refine zGU w s K b t N a l hs hbits hle O9 hb hl ht gH mO hN (by omega) (λ i hi=>?_) nT
 have Fl:1<=N:=exp_one O9 hN;have ha:=zUG O9 (zJS (s:=8) (by omega) (zAG b (zG a t)) (zBV (by omega) mO) hN Fl) i
 have hm:=zJ (show b+eb i<=b+eb t by have:=zB2 hi;omega)
 exact⟨by have:=ha.1;omega,by have:=ha.2.2.2;omega⟩
def zPH (B:Nat) (z sq:Int × Int):Nat->Int × Int
 | 0=>z
 | n+1=>zK (zAJ B (zPH B z sq n) sq) (2*(n:Int)+1) (2*(n:Int)+3)
theorem yB {n d:Int} (hd:0<d) (B:Nat):(ofI n d B).1<=(ofI n d B).2:=by
 have:=kN (a:=(n*Q B,n*Q B)) (n:=1) (Int.le_refl _) hd (by omega)
 simpa [zK,ofI] using this
theorem yC {n d:Int} (hd:0<d) (B:Nat):(ofI n d B).2-(ofI n d B).1<=1:=by
 have:=zBT (x:=n*Q B) (y:=n*Q B) (c:=0) hd (by omega)
 simpa [ofI] using this
theorem zGN {n d m:Int} (hd:0<d) (B:Nat) (h1 : -(m*d)<=n*Q B) (h2:n*Q B<=m*d):Abs (ofI n d B) m:=by
 have:=kD hd h1 h2;exact⟨this.1,this.2.1,this.2.2.1,this.2.2.2⟩
theorem zSV {B:Nat} {z sq:Int × Int} (hz:z.1<=z.2) (n:Nat):(zPH B z sq n).1<=(zPH B z sq n).2:=by
 cases n with
 | zero=>exact hz
 | succ n=>exact kN (zB4 B) (by omega) (by omega)
theorem zNS {B:Nat} {z sq:Int × Int} (hB:3<=B) (hz:Abs z (Q B)) (hs:Abs sq (Q (B-3))) (n:Nat):Abs (zPH B z sq n) (Q (B-3*n)):=by
 induction n with
 | zero=>exact hz
 | succ n ih=>exact zE1 (zCW ih hs (zQK hB n)) (by omega) (by omega) (by omega)
theorem zQL {B:Nat} (hB:3<=B):Q B=8*Q (B-3):=by
 have:=jF 3 (B-3);rw[show 3+(B-3)=B by omega] at this
 rw[this];rfl
theorem zSW {B:Nat} {z sq:Int × Int} (hB:3<=B) (hz:Abs z (Q B)) (hs:Abs sq (Q (B-3))) (hzl:z.1<=z.2) (X8:sq.1<=sq.2) (hzw:z.2-z.1<=1) (T6:sq.2-sq.1<=2) (n:Nat):(zPH B z sq n).2-(zPH B z sq n).1<=6:=by
 induction n with
 | zero=>simp only[zPH];omega
 | succ n ih =>
  have q:=zE (B-3);have e:=zQL hB;have m1:Q (B-3*n)<=Q B:=zJ (by omega)
  have p1:=Int.mul_le_mul m1 T6 (by omega) (by omega)
  have p2:=Yx ih (show 0<=Q (B-3) by omega)
  have h1:=zAZ (B:=B) (c:=3) (zNS hB hz hs n) hs (zSV hzl n) X8 (by omega)
  have h2:=kJ (a:=zAJ B (zPH B z sq n) sq) (n:=2*(n:Int)+1) (d:=2*(n:Int)+3) (c:=4) (by omega) (by
   have:=Yt (show (zAJ B (zPH B z sq n) sq).2-(zAJ B (zPH B z sq n) sq).1<=4 by omega) (show 0<=2*(n:Int)+1 by omega)
   omega)
  simp only[zPH];omega
theorem logT_has {B:Nat} {a sq:Int × Int} {z:Rat} (h:Iv B a (λ _=>z)) (hs:Iv B sq (λ _=>z*z)) (n:Nat):Iv B (zPH B a sq n) (λ _=>pw z (2*n+1)/(2*(n:Rat)+1)):=by
 induction n with
 | zero =>
  refine Has.of_eq h λ M=>?_
  simp[pw];grind
 | succ n ih =>
  have:=(ih.mul hs).scale (n:=2*(n:Int)+1) (d:=2*(n:Int)+3) (by omega) (by omega)
  refine Has.of_eq this λ M=>?_
  have e1:((2*(n:Int)+1:Int):Rat)=2*(n:Rat)+1:=by rw[Rat.intCast_add,YA];rfl
  have e2:((2*(n:Int)+3:Int):Rat)=2*(n:Rat)+3:=by rw[Rat.intCast_add,YA];rfl
  have e3:((n+1:Nat):Rat)=(n:Rat)+1:=by simp
  have e4:pw z (2*(n+1)+1)=z*(z*pw z (2*n+1)):=rfl;rw[e1,e2,e3,e4];have hn:(0:Rat)<=(n:Rat):=by exact_mod_cast Nat.zero_le n
  generalize pw z (2*n+1)=p;have d1:(2*(n:Rat)+1)≠0:=by grind
  have d2:(2*(n:Rat)+3)≠0:=by grind
  have d3:2*((n:Rat)+1)+1=2*(n:Rat)+3:=by grind
  rw[d3];generalize 2*(n:Rat)+1=u at *;generalize 2*(n:Rat)+3=v at *;grind
theorem odd_half {z b:Rat} (hz:AB z (1/2)) (n:Nat) (h:AB (pw z (2*n+1)/(2*(n:Rat)+1)) b):AB (pw z (2*(n+1)+1)/(2*((n+1:Nat):Rat)+1)) (b/2):=by
 have hn:(0:Rat)<=(n:Rat):=by exact_mod_cast Nat.zero_le n
 have e3:((n+1:Nat):Rat)=(n:Rat)+1:=by simp
 have e4:pw z (2*(n+1)+1)=z*(z*pw z (2*n+1)):=rfl;have e5:=rdm (a:=pw z (2*n+1)) (show (0:Rat)<2*(n:Rat)+1 by grind)
 rw[e3,e4];refine zDH (by grind) ?_
 generalize pw z (2*n+1)/(2*(n:Rat)+1)=t at *;rw[<- e5];have h1:AB (2*(n:Rat)+1) (2*(n:Rat)+1):=by constructor<;>grind
 have g:=(hz.mul (hz.mul (h.mul h1)));refine g.mono ?_;have:=Ys hn h.nonneg;have:=h.nonneg;grind
structure yU (n d:Int):Prop where
 hn:0<n
 hd:0<d
 h1:3*(n-d)<=n+d
 h2:3*(d-n)<=n+d
def zI (n d:Int) (B:Nat):Int × Int:=ofI (n-d) (n+d) B
def lnT (n d:Int) (B:Nat):Nat->Int × Int:=zPH B (zI n d B) (zAJ B (zI n d B) (zI n d B))
def zR (n d:Int):Rat:=((n-d:Int):Rat)/((n+d:Int):Rat)
theorem zK8 {n d:Int} (h:yU n d) (B:Nat):Abs (zI n d B) (Q B/3+1):=by
 obtain⟨h0,Jj,h1,h2⟩:=h;have q:=zE B;have g1:=Yt h1 (show 0<=Q B by omega)
 have g2:=Yt h2 (show 0<=Q B by omega)
 have g3:=Yt (show Q B<=3*(Q B/3+1) by omega) (show 0<=n+d by omega)
 have e1:3*(Q B/3+1)*(n+d)=3*((Q B/3+1)*(n+d)):=Int.mul_assoc _ _ _;have e2:3*(n-d)*Q B=3*((n-d)*Q B):=Int.mul_assoc _ _ _;have e3:3*(d-n)*Q B = -(3*((n-d)*Q B)):=by grind
 have e4:(n+d)*Q B=Q B*(n+d):=Int.mul_comm _ _;exact zGN (by omega) B (by omega) (by omega)
theorem sq_small {q:Int} (hq:65536<=q):(q/3+1)*(q/3+1)*8<=q*q:=by
 have h1:3*(q/3+1)<=q+3:=by omega
 have h2:=Int.mul_le_mul h1 h1 (by omega) (by omega)
 have h3:=Yt hq (show 0<=q by omega)
 grind
theorem zMF {n d:Int} (h:yU n d) {B:Nat} (hB:16<=B):Abs (zAJ B (zI n d B) (zI n d B)) (Q (B-3)):=by
 refine zCW (zK8 h B) (zK8 h B) ?_;have e:=zQL (show 3<=B by omega)
 have h1:=zJ hB;have h2:Q 16=65536:=rfl;have h3:=sq_small (q:=Q B) (by omega)
 have e2:Q B*Q B=8*(Q (B-3)*Q B):=by rw[e];grind
 omega
theorem zMR {n d:Int} (h:yU n d) {B:Nat} (hB:16<=B):Abs (zI n d B) (Q B):=(zK8 h B).mono (by
 have h1:=zJ hB;have h2:Q 16=65536:=rfl
 omega)
theorem sqI_wide {n d:Int} (h:yU n d) {B:Nat} (hB:16<=B):(zAJ B (zI n d B) (zI n d B)).2-(zAJ B (zI n d B) (zI n d B)).1<=2:=by
 have hd:0<n+d:=by have:=h.hn;have:=h.hd;omega
 have l:=yB (n:=n-d) hd B;have w:=yC (n:=n-d) hd B;have h1:=zJ hB;have h2:Q 16=65536:=rfl;have p:=Yx w (show 0<=Q B/3+1 by omega)
 exact zAZ (c:=1) (zK8 h B) (zK8 h B) l l (by
  show (Q B/3+1)*((ofI (n-d) (n+d) B).2-(ofI (n-d) (n+d) B).1)+(Q B/3+1)*((ofI (n-d) (n+d) B).2-(ofI (n-d) (n+d) B).1)<=1*Q B
  omega)
theorem zGH {n d:Int} (h:yU n d) {B:Nat} (hB:16<=B) (k:Nat):Abs (lnT n d B k) (Q (B-3*k)):=zNS (by omega) (zMR h hB) (zMF h hB) k
theorem zNP {n d:Int} (h:yU n d) (B k:Nat):(lnT n d B k).1<=(lnT n d B k).2:=zSV (yB (by have:=h.hn;have:=h.hd;omega) B) k
theorem lnT_wide {n d:Int} (h:yU n d) {B:Nat} (hB:16<=B) (k:Nat):(lnT n d B k).2-(lnT n d B k).1<=6 :=
 zSW (by omega) (zMR h hB) (zMF h hB) (yB (by have:=h.hn;have:=h.hd;omega) B) (zB4 B) (yC (by have:=h.hn;have:=h.hd;omega) B) (sqI_wide h hB) k
theorem zNQ {n d:Int} (h:yU n d) {B N:Nat} (hB:16<=B) (hN:zT (lnT n d B) N) :
  (zN (lnT n d B) N).1<=(zN (lnT n d B) N).2/\Abs (zN (lnT n d B) N) (2*Q B)/\N<=B/3+1/\(zN (lnT n d B) N).2-(zN (lnT n d B) N).1<=((N:Int)+1)*6+2:=by
 refine⟨zCP (zNP h B) N,zF7 (s:=3) (by omega) (zNP h B) (zGH h hB) hN,?_,zCB (lnT_wide h hB) hN⟩
 obtain⟨N',n1,n2⟩:=zB6 (s:=3) (by omega) (zGH h hB)
 refine Nat.le_trans (Nat.not_lt.1 λ D9=>?_) n1
 have:=hN.2 N' D9;have:=n2.1;omega
theorem zR_AB {n d:Int} (h:yU n d):AB (zR n d) (1/2):=by
 obtain⟨h0,Jj,h1,h2⟩:=h;have hp:(0:Rat)<((n+d:Int):Rat):=by exact_mod_cast (show 0<n+d by omega)
 refine zDH hp ?_;have g1:((3*(n-d):Int):Rat)<=((n+d:Int):Rat):=jA h1;have g2:((-(3*(n-d)):Int):Rat)<=((n+d:Int):Rat):=jA (by omega)
 rw[Rat.intCast_neg] at g2;rw[YA] at g1 g2;have e:((3:Int):Rat)=3:=rfl;rw[e] at g1 g2;constructor<;>grind
theorem ln_has {n d:Int} (h:yU n d) (B N:Nat):Iv B (zN (lnT n d B) N) (λ M=>Az (zR n d) M):=by
 have hz:Iv B (zI n d B) (λ _=>zR n d):=Iv.of B (by have:=h.hn;have:=h.hd;omega)
 exact zHZ (zNP h B) (λ k _=>logT_has hz (hz.mul hz) k) 0 (λ M _ k b _ hb=>odd_half (zR_AB h) k hb)
theorem zFQ {n d:Int} (h:yU n d):IsLog (λ M=>2*Az (zR n d) M) (λ _=>(n:Rat)/(d:Rat)):=by
 refine isLog_Az (z:=λ _=>zR n d) 0 (λ _ _=>zR_AB h) (λ M _=>?_)
 obtain⟨h0,Jj,h1,h2⟩:=h;have hp:(0:Rat)<((n+d:Int):Rat):=by exact_mod_cast (show 0<n+d by omega)
 have hd:(0:Rat)<(d:Rat):=by exact_mod_cast Jj
 have e1:=rdm (a:=((n-d:Int):Rat)) hp;have e2:=rdm (a:=(n:Rat)) hd
 show (n:Rat)/(d:Rat)*(1-zR n d)=1+zR n d
 unfold zR;generalize ((n-d:Int):Rat)/((n+d:Int):Rat)=z at *;generalize (n:Rat)/(d:Rat)=r at *;rw[Rat.intCast_sub,Rat.intCast_add] at e1;rw[Rat.intCast_add] at hp;have e3:z*(r*d+d)=r*d-d:=by rw[e2];exact e1
 have e4:(d:Rat)*(r*(1-z)-(1+z))=0:=by grind
 rcases Rat.mul_eq_zero.1 e4 with h|h
 ·grind
 ·grind
theorem pw_Q (k:Nat):pw 2 k=(Q k:Rat):=by
 induction k with
 | zero=>rfl
 | succ k ih =>
  have e:Q (k+1)=2*Q k:=rfl;rw[e,YA];simp only[pw,ih];rfl
def zGW (a b:Int × Int) (k:Int):Int × Int:=if k<0 then zJA (kI a 2) (kI (kI b 2) (-k)) else zAR (kI a 2) (kI (kI b 2) k)
def Bal (n d n' d' k:Int):Prop:=yU n' d'/\(0<=k->n*d'=n'*d*Q k.toNat)/\(k<0->n*d'*Q (-k).toNat=n'*d)
theorem zTD:yU 2 1:=⟨by omega,by omega,by omega,by omega⟩
theorem zGJ {n d n' d' k:Int} (hn:0<n) (hd:0<d) (h:Bal n d n' d' k) (B N N2:Nat) :
  ∃ l,IsLog l (λ _=>(n:Rat)/(d:Rat))/\Iv B (zGW (zN (lnT n' d' B) N) (zN (lnT 2 1 B) N2) k) l:=by
 obtain⟨h1,h2,h3⟩:=h;have d0:(0:Rat)<(d:Rat):=by exact_mod_cast hd
 have BJ:(0:Rat)<(d':Rat):=by exact_mod_cast h1.hd
 have a1:=(ln_has h1 B N).times 2;have a2:=(ln_has zTD B N2).times 2;have l1:=zFQ h1;have l2:=zFQ zTD;have e2:((2:Nat):Rat)=2:=rfl
 have WK:(λ _:Nat=>((2:Int):Rat)/((1:Int):Rat))=λ _=>(2:Rat):=funext λ _=>by
  have:((2:Int):Rat)/((1:Int):Rat)=2:=by
   have e:=rdm (a:=((2:Int):Rat)) (show (0:Rat)<((1:Int):Rat) by decide)
   have e1:((1:Int):Rat)=1:=rfl;have e3:((2:Int):Rat)=2:=rfl;rw[e1,e3] at e ⊢;grind
  exact this
 rw[WK] at l2;rw[e2] at a1 a2
 by_cases hk:k<0
 ·obtain⟨j,rfl⟩:∃ j:Nat,k = -(j:Int):=⟨(-k).toNat,by omega⟩
  have hq:=h3 hk;have ej:(-(-(j:Int))).toNat=j:=by omega
  rw[ej] at hq;have qj:=jJ j;have l3:=(l2.times j).neg (s:=λ _=>1/(Q j:Rat)) (Bdd.const _) 0 (λ M _=>by rw[pw_Q];exact rdm qj)
  refine⟨_,(l1.add l3).congr_r (null_zero.of_eq λ M=>?_),?_⟩
  ·show (n':Rat)/(d':Rat)*(1/(Q j:Rat))-(n:Rat)/(d:Rat)=0
   have P6:((n*d'*Q j:Int):Rat)=((n'*d:Int):Rat):=by rw[hq]
   rw[YA,YA,YA] at P6;have f1:=rdm (a:=(n':Rat)) BJ;have f2:=rdm (a:=(n:Rat)) d0;have f3:=rdm (a:=(1:Rat)) qj;generalize (n':Rat)/(d':Rat)=r' at *;generalize (n:Rat)/(d:Rat)=r at *;generalize 1/(Q j:Rat)=i at *;rw[<- f1,<- f2] at P6;have f4:(d:Rat)*((d':Rat)*(r*(Q j:Rat)-r'))=0:=by grind
   have f5:r*(Q j:Rat)=r':=by
    rcases Rat.mul_eq_zero.1 f4 with h|h
    ·grind
    ·rcases Rat.mul_eq_zero.1 h with h|h
     ·grind
     ·grind
   rw[<- f5];have:r*(Q j:Rat)*i-r=r*(i*(Q j:Rat))-r:=by grind
   rw[this,f3];grind
  ·unfold zGW
   rw[if_pos hk];have:=a1.sub (a2.times j);rw[show -(-(j:Int))=(j:Int) by omega]
   refine Has.of_eq this λ M=>?_
   grind
 ·obtain⟨j,rfl⟩:∃ j:Nat,k=(j:Int):=⟨k.toNat,by omega⟩
  have hq:=h2 (by omega)
  have ej:((j:Int)).toNat=j:=by omega
  rw[ej] at hq;have l3:=l2.times j;refine⟨_,(l1.add l3).congr_r (null_zero.of_eq λ M=>?_),?_⟩
  ·show (n':Rat)/(d':Rat)*pw 2 j-(n:Rat)/(d:Rat)=0
   rw[pw_Q];have P6:((n*d':Int):Rat)=((n'*d*Q j:Int):Rat):=by rw[hq]
   rw[YA,YA,YA] at P6;have f1:=rdm (a:=(n':Rat)) BJ;have f2:=rdm (a:=(n:Rat)) d0;generalize (n':Rat)/(d':Rat)=r' at *;generalize (n:Rat)/(d:Rat)=r at *;rw[<- f1,<- f2] at P6;have f4:(d:Rat)*((d':Rat)*(r'*(Q j:Rat)-r))=0:=by grind
   rcases Rat.mul_eq_zero.1 f4 with h|h
   ·grind
   ·rcases Rat.mul_eq_zero.1 h with h|h
    ·grind
    ·exact h
  ·unfold zGW
   rw[if_neg hk];exact a1.add (a2.times j)
theorem zGI {n' d' k:Int} (h:yU n' d') {B N N2:Nat} (hB:16<=B) (hN:zT (lnT n' d' B) N) (X6:zT (lnT 2 1 B) N2) (K:Int) (ae : -K<=k) (cn:k<=K) :
  let o:=zGW (zN (lnT n' d' B) N) (zN (lnT 2 1 B) N2) k
  o.1<=o.2/\Abs o ((K+1)*(4*Q B))/\o.2-o.1<=(K+1)*(2*(((B:Int)/3+2)*6+2)):=by
 obtain⟨a1,a2,a3,a4⟩:=zNQ h hB hN;obtain⟨b1,b2,b3,b4⟩:=zNQ zTD hB X6
 intro o
 have q:=zE B;obtain⟨W,hW⟩:∃ W:Int,W=((B:Int)/3+2)*6+2:=⟨_,rfl⟩;have a5:(zN (lnT n' d' B) N).2-(zN (lnT n' d' B) N).1<=W:=by omega
 have b5:(zN (lnT 2 1 B) N2).2-(zN (lnT 2 1 B) N2).1<=W:=by omega
 rw[<- hW];have ho:o=zGW (zN (lnT n' d' B) N) (zN (lnT 2 1 B) N2) k:=rfl
 clear_value o
 subst ho;generalize zN (lnT n' d' B) N=x at *;generalize zN (lnT 2 1 B) N2=y at *;obtain⟨x1,x2,x3,x4⟩:=a2;obtain⟨y1,y2,y3,y4⟩:=b2;clear a3 a4 b3 b4;have hK:0<=K:=by omega
 have eK:(K+1)*(4*Q B)=K*(4*Q B)+4*Q B:=by rw[Int.add_mul,Int.one_mul]
 have eW:(K+1)*(2*W)=K*(2*W)+2*W:=by rw[Int.add_mul,Int.one_mul]
 rw[eK,eW]
 have hj:∀ j:Int,0<=j->j<=K->y.1*2*j<=y.2*2*j /\ -(K*(4*Q B))<=y.1*2*j/\y.1*2*j<=K*(4*Q B) /\ -(K*(4*Q B))<=y.2*2*j/\y.2*2*j<=K*(4*Q B)/\y.2*2*j-y.1*2*j<=K*(2*W):=λ j j0 jK=>by
  have c1:=yI (x:=y.1*2) (m:=4*Q B) (by omega) (by omega) (show -K<=j by omega) jK
  have c2:=yI (x:=y.2*2) (m:=4*Q B) (by omega) (by omega) (show -K<=j by omega) jK
  have c3:=Yt (show y.1*2<=y.2*2 by omega) j0
  have c4:=Int.mul_le_mul (show y.2*2-y.1*2<=2*W by omega) jK j0 (by omega)
  rw[Int.sub_mul] at c4;have e1:4*Q B*K=K*(4*Q B):=Int.mul_comm _ _;have e2:2*W*K=K*(2*W):=Int.mul_comm _ _;omega
 unfold zGW;split
 ·obtain⟨c1,c2,c3,c4,c5,c6⟩:=hj (-k) (by omega) (by omega)
  simp only[zJA,kI,Abs];omega
 ·obtain⟨c1,c2,c3,c4,c5,c6⟩:=hj k (by omega) (by omega)
  simp only[zAR,kI,Abs];omega
end Go.Proofs.YtgmnknmjainabacGreat
