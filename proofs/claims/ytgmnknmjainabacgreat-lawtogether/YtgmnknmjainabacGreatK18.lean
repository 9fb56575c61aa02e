/-
  Its own texts.
-/
import Derived.Test.YtgmnknmjainabacGreatK17
set_option maxRecDepth 100000
set_option maxHeartbeats 40000000
set_option linter.unnecessarySimpa false
set_option linter.unusedSimpArgs false
set_option linter.unusedVariables false
namespace Go.Proofs.YtgmnknmjainabacGreat
open Ex
structure zG0 (n d:Int) (B:Nat):Prop where
 n0:0<n
 nd:n<=d
 dd:d<=2199023255552
 b0:40<=B
 b1:B<=1000
def gaU (d:Int) (B:Nat) (_:Nat):Int:=(B:Int)*d
def gaD (n d:Int) (k:Nat):Int:=n+(k:Int)*d
def gaT (n d:Int) (B:Nat):Nat->Int × Int:=riT (ofI d n B) (gaU d B) (gaD n d)
theorem zGC {n d:Int} {B:Nat} (h:zG0 n d B) (k:Nat):0<gaD n d k:=by
 have:=Yz (show (0:Int)<=(k:Int) by omega) (show 0<=d by have:=h.n0;have:=h.nd;omega)
 have:=h.n0;unfold gaD;omega
theorem zSB {n d:Int} {B:Nat} (h:zG0 n d B):zQM (gaU d B) (gaD n d):=⟨λ _=>Yz (by omega) (by have:=h.n0;have:=h.nd;omega),λ k=>zGC h k⟩
theorem ga_34 {n d:Int} {B:Nat} (h:zG0 n d B) (k:Nat) (hk:2*B<=k):4*gaU d B (k+1)<=3*gaD n d (k+1):=by
 have n0:=h.n0;have nd:=h.nd;have m:=Yt (show 2*(B:Int)<=((k+1:Nat):Int) by omega) (show 0<=d by omega)
 have e:2*(B:Int)*d=2*((B:Int)*d):=by grind
 have p:=Yz (show (0:Int)<=(B:Int) by omega) (show 0<=d by omega)
 unfold gaU gaD;omega
theorem ga_val {n d:Int} {B:Nat} (h:zG0 n d B) (k M:Nat):riV (λ _=>(d:Rat)/(n:Rat)) (gaU d B) (gaD n d) k M=upT ((n:Rat)/(d:Rat)) (B:Rat) k:=by
 have n0:(0:Rat)<(n:Rat):=by exact_mod_cast h.n0
 have d0:(0:Rat)<(d:Rat):=by exact_mod_cast (show (0:Int)<d by have:=h.n0;have:=h.nd;omega)
 have a0:(0:Rat)<(n:Rat)/(d:Rat):=zF n0 d0;have ed:=rdm (a:=(n:Rat)) d0
 induction k with
 | zero =>
  refine zX (c:=(n:Rat)/(d:Rat)) a0 ?_;rw[yZ a0]
  show (n:Rat)/(d:Rat)*((d:Rat)/(n:Rat))=1
  have e2:=rdm (a:=(d:Rat)) n0;refine zX (c:=(n:Rat)*(d:Rat)) (Rat.mul_pos n0 d0) ?_;have e3:(n:Rat)*(d:Rat)*((n:Rat)/(d:Rat)*((d:Rat)/(n:Rat)))=(n:Rat)/(d:Rat)*(d:Rat)*((d:Rat)/(n:Rat)*(n:Rat)):=by grind
  rw[e3,ed,e2];grind
 | succ k ih =>
  have p:(0:Rat)<(gaD n d (k+1):Rat):=by exact_mod_cast zGC h (k+1)
  refine zX (c:=(n:Rat)/(d:Rat)+((k:Rat)+1)) (zBQ a0 k) ?_;rw[jX a0,<- ih]
  show ((n:Rat)/(d:Rat)+((k:Rat)+1))*((gaU d B (k+1):Rat)/(gaD n d (k+1):Rat)*riV (λ _=>(d:Rat)/(n:Rat)) (gaU d B) (gaD n d) k M)=_
  generalize riV (λ _=>(d:Rat)/(n:Rat)) (gaU d B) (gaD n d) k M=r
  have eD:(gaD n d (k+1):Rat)=(n:Rat)+((k:Rat)+1)*(d:Rat):=by
   unfold gaD;rw[Rat.intCast_add,YA];have:(((k+1:Nat):Int):Rat)=(k:Rat)+1:=by push_cast;rfl
   rw[this]
  have eU:(gaU d B (k+1):Rat)=(B:Rat)*(d:Rat):=by
   unfold gaU;rw[YA];rfl
  have e4:=rdm (a:=(gaU d B (k+1):Rat)) p
  have e5:((n:Rat)/(d:Rat)+((k:Rat)+1))*(d:Rat)=(gaD n d (k+1):Rat):=by
   rw[eD];have:((n:Rat)/(d:Rat)+((k:Rat)+1))*(d:Rat)=(n:Rat)/(d:Rat)*(d:Rat)+((k:Rat)+1)*(d:Rat):=by grind
   rw[this,ed]
  refine zX (c:=(d:Rat)) d0 ?_;have e6:(d:Rat)*(((n:Rat)/(d:Rat)+((k:Rat)+1))*((gaU d B (k+1):Rat)/(gaD n d (k+1):Rat)*r))=((n:Rat)/(d:Rat)+((k:Rat)+1))*(d:Rat)*((gaU d B (k+1):Rat)/(gaD n d (k+1):Rat))*r:=by grind
  rw[e6,e5];have e7:(gaD n d (k+1):Rat)*((gaU d B (k+1):Rat)/(gaD n d (k+1):Rat))=(gaU d B (k+1):Rat)/(gaD n d (k+1):Rat)*(gaD n d (k+1):Rat):=by grind
  rw[e7,e4,eU];grind
theorem ga_has {n d:Int} {B N:Nat} (h:zG0 n d B) (hN:yS (gaT n d B) (2*B) N):Iv B (kY (gaT n d B) N) (uS ((n:Rat)/(d:Rat)) (B:Rat)):=by
 have n0:=h.n0;have q0:(0:Rat)<=(d:Rat)/(n:Rat):=zAM (by have:=h.nd;omega) n0
 have r:=zCG (zSB h) (Iv.of B (n:=d) n0) 0 (λ M _=>q0) (λ k hk=>ga_34 h k hk) hN
 refine Has.of_eq r λ M=>?_
 show S (upT ((n:Rat)/(d:Rat)) (B:Rat)) M=S (λ k=>riV (λ _=>(d:Rat)/(n:Rat)) (gaU d B) (gaD n d) k M) M
 exact kR M λ k _=>(ga_val h k M).symm
theorem zCT {n d:Int} {B:Nat} (h:zG0 n d B):Q B<=(ofI d n B).1/\(ofI d n B).1<=(ofI d n B).2/\(ofI d n B).2<=Q (B+41)/\(ofI d n B).2-(ofI d n B).1<=1:=by
 have n0:=h.n0;have q:=zE B;have e:Q (B+41)=Q B*Q 41:=jF B 41;have WL:Q 41=2199023255552:=rfl;refine⟨?_,yB n0 B,?_,yC n0 B⟩
 ·refine Int.le_ediv_of_mul_le n0 ?_
  have:=Yx h.nd (show 0<=Q B by omega)
  have:d*Q B=Q B*d:=Int.mul_comm _ _;omega
 ·have:=(kD (x:=d*Q B) (m:=Q (B+41)) (q:=n) n0 (by
   have:=Yz (show 0<=d by have:=h.nd;omega) (show 0<=Q B by omega)
   have:=Yz (show 0<=Q (B+41) by have:=zE (B+41);omega) (show 0<=n by omega)
   omega) (by
   have m1:=Yt h.dd (show 0<=Q B by omega)
   have m2:=Yx (show 1<=n by omega) (show 0<=Q (B+41) by have:=zE (B+41);omega)
   rw[e,WL] at m2 ⊢;have:Q B*2199023255552=2199023255552*Q B:=Int.mul_comm _ _
   omega)).2.2.2
  exact this
theorem zCS {n d:Int} {B:Nat} (h:zG0 n d B) (k:Nat):0<=(gaT n d B k).1/\(gaT n d B k).1<=(gaT n d B k).2:=by
 obtain⟨f1,f2,f3,f4⟩:=zCT h;have q:=zE B;exact⟨zAO (zSB h) (by omega) k,zEK (zSB h) f2 k⟩
theorem zJP {x u v c:Int} (hv:0<v) (hx:0<=x) (h:u<=c*v) : -(-(x*u)/v)<=c*x:=by
 have e : -(c*x)*v <= -(x*u):=by
  have:=Yx h hx;have e1 : -(c*x)*v = -(x*(c*v)):=by grind
  omega
 have:=Int.le_ediv_of_mul_le hv e;omega
theorem ga_hi1 {n d:Int} {B:Nat} (h:zG0 n d B) (k:Nat):(gaT n d B k).2<=Q (B+41+10*k):=by
 induction k with
 | zero=>exact (zCT h).2.2.1
 | succ k ih =>
  obtain⟨e1,e2⟩:=zCS h k;have p:=zGC h (k+1);have n0:=h.n0;have nd:=h.nd;have b1:=h.b1
  have m:=zJP (x:=(gaT n d B k).2) (u:=gaU d B (k+1)) (v:=gaD n d (k+1)) (c:=1024) p (by omega) (by
   have m1:=Yt (show (B:Int)<=1024 by omega) (show 0<=d by omega)
   have m2:=Yz (show (0:Int)<=(k:Int) by omega) (show 0<=d by omega)
   have e:((k+1:Nat):Int)*d=(k:Int)*d+d:=by
    have:((k+1:Nat):Int)=(k:Int)+1:=by omega
    rw[this];grind
   unfold gaU gaD
   omega)
  have PT:Q (B+41+10*(k+1))=1024*Q (B+41+10*k):=by
   have:=jF (B+41+10*k) 10;have e:Q 10=1024:=rfl;rw[e] at this;have e2:B+41+10*k+10=B+41+10*(k+1):=by omega
   rw[e2] at this;omega
  show -(-((gaT n d B k).2*gaU d B (k+1))/gaD n d (k+1))<=_
  omega
theorem ga_hi {n d:Int} {B:Nat} (h:zG0 n d B) (k:Nat):(gaT n d B k).2<=Q (21*B+41):=by
 by_cases c:k<=2*B
 ·exact Int.le_trans (ga_hi1 h k) (zJ (by omega))
 ·obtain⟨j,rfl⟩:∃ j,k=2*B+j:=⟨k-2*B,by omega⟩
  have big:3<=Q (21*B+41):=by have:=zJ (show 2<=21*B+41 by omega);have:Q 2=4:=rfl;omega
  clear c
  induction j with
  | zero=>exact Int.le_trans (ga_hi1 h _) (zJ (by omega))
  | succ j ih =>
   obtain⟨e1,e2⟩:=zCS h (2*B+j);have f:=zNB (x:=(gaT n d B (2*B+j)).2) (zGC h (2*B+j+1)) (by omega) (ga_34 h (2*B+j) (by omega))
   have e:(gaT n d B (2*B+(j+1))).2 = -(-((gaT n d B (2*B+j)).2*gaU d B (2*B+j+1))/gaD n d (2*B+j+1)):=rfl;rw[e];omega
theorem ga_set {n d:Int} {B:Nat} (h:zG0 n d B):∃ N,N<=65*B+126/\yS (gaT n d B) (2*B) N:=by
 obtain⟨f1,f2,f3,f4⟩:=zCT h;have q:=zE B
 obtain⟨N,h1,h2⟩:=zMD (turn:=2*B) (H:=21*B+42) (zSB h) (show 0<=(ofI d n B).1 by omega) f2 (λ k hk=>ga_34 h k hk) (by
  have a:(riT (ofI d n B) (gaU d B) (gaD n d) (2*B)).2<=Q (21*B+41):=ga_hi h (2*B);have e:Q (21*B+42)=2*Q (21*B+41):=rfl;have:=zE (21*B+41)
  omega)
 exact⟨N,by omega,h2⟩
theorem ga_rise {n d:Int} {B:Nat} (h:zG0 n d B) (k:Nat) (hk:gaD n d (k+1)<=gaU d B (k+1)):(ofI d n B).2<=(gaT n d B k).2:=by
 induction k with
 | zero=>exact Int.le_refl _
 | succ k ih =>
  have n0:=h.n0;have nd:=h.nd
  have qM:gaD n d (k+1)<=gaU d B (k+1):=by
   have e:gaD n d (k+1+1)=gaD n d (k+1)+d:=by
    unfold gaD;have:((k+1+1:Nat):Int)=((k+1:Nat):Int)+1:=by omega
    rw[this];grind
   have e2:gaU d B (k+1+1)=gaU d B (k+1):=rfl;rw[e,e2] at hk;omega
  have i:=ih qM;obtain⟨e1,e2⟩:=zCS h k;have p:=zGC h (k+1);have c:=zEW ((gaT n d B k).2*gaU d B (k+1)) p;have m:=Yx qM (show 0<=(gaT n d B k).2 by omega)
  refine Int.le_trans i ?_;refine Int.le_of_mul_le_mul_right (a:=gaD n d (k+1)) ?_ p;exact Int.le_trans m c
theorem zNG {n d:Int} {B:Nat} (h:zG0 n d B) (k:Nat):((gaT n d B k).2-(gaT n d B k).1)*(ofI d n B).2<=(1+2*(k:Int))*((gaT n d B k).2+(ofI d n B).2):=by
 obtain⟨f1,f2,f3,f4⟩:=zCT h;have q:=zE B;obtain⟨e1,e2⟩:=zCS h k;have w:=zN9 (zSB h) (show 0<=(ofI d n B).1 by omega) f2 (by omega) f4 (λ k hk=>ga_rise h k hk) k
 refine Int.le_trans w (Yx ?_ (by omega))
 have e:riT (ofI d n B) (gaU d B) (gaD n d) k=gaT n d B k:=rfl;rw[e];split<;>omega
theorem zNH {n d:Int} {B:Nat} (h:zG0 n d B) (k:Nat):((jE (gaT n d B) k).2-(jE (gaT n d B) k).1)*(ofI d n B).2<=(1+2*(k:Int))*((jE (gaT n d B) k).2+((k:Int)+1)*(ofI d n B).2)/\0<=(jE (gaT n d B) k).2/\(ofI d n B).2<=(jE (gaT n d B) k).2/\(ofI d n B).1<=(jE (gaT n d B) k).1:=by
 obtain⟨f1,f2,f3,f4⟩:=zCT h;have q:=zE B;have a2:0<=(ofI d n B).2:=by omega
 induction k with
 | zero =>
  have w:=zNG h 0;refine⟨?_,by show 0<=(ofI d n B).2;omega,Int.le_refl _,Int.le_refl _⟩
  show ((gaT n d B 0).2-(gaT n d B 0).1)*(ofI d n B).2<=(1+2*((0:Nat):Int))*((gaT n d B 0).2+(((0:Nat):Int)+1)*(ofI d n B).2)
  have e:((0:Nat):Int)=0:=rfl;rw[e] at w ⊢;generalize ((gaT n d B 0).2-(gaT n d B 0).1)*(ofI d n B).2=z at *;omega
 | succ k ih =>
  obtain⟨i1,i2,i3,i4⟩:=ih;have w:=zNG h (k+1);obtain⟨e1,e2⟩:=zCS h (k+1);have es:jE (gaT n d B) (k+1)=zAR (jE (gaT n d B) k) (gaT n d B (k+1)):=rfl;have IC:(jE (gaT n d B) (k+1)).1=(jE (gaT n d B) k).1+(gaT n d B (k+1)).1:=rfl;have ID:(jE (gaT n d B) (k+1)).2=(jE (gaT n d B) k).2+(gaT n d B (k+1)).2:=rfl;have ec:((k+1:Nat):Int)=(k:Int)+1:=by omega
  refine⟨?_,by omega,by omega,by omega⟩
  rw[IC,ID];rw[ec] at w ⊢;generalize (jE (gaT n d B) k).2=S2 at *;generalize (jE (gaT n d B) k).1=S1 at *;generalize (gaT n d B (k+1)).2=T2 at *;generalize (gaT n d B (k+1)).1=T1 at *;generalize (ofI d n B).2=A at *;have k0:(0:Int)<=(k:Int):=by omega
  have m1:=Yz k0 a2;have r0:((k:Int)+1)*A=(k:Int)*A+A:=by grind
  have m2:(1+2*(k:Int))*(S2+((k:Int)+1)*A)<=(1+2*((k:Int)+1))*(S2+((k:Int)+1)*A):=Yt (by omega) (by omega)
  have r1:(S2+T2-(S1+T1))*A=(S2-S1)*A+(T2-T1)*A:=by grind
  have r2:(1+2*((k:Int)+1))*(S2+T2+((k:Int)+1+1)*A)=(1+2*((k:Int)+1))*(S2+((k:Int)+1)*A)+(1+2*((k:Int)+1))*(T2+A):=by grind
  rw[r1,r2];omega
def jW (n d:Int) (B N:Nat):Int × Int:=kY (gaT n d B) N
theorem zNF {n d:Int} {B N:Nat} (h:zG0 n d B) (hN:N<=65*B+126):Q B<=(jW n d B N).1/\(jW n d B N).1<=(jW n d B N).2/\((jW n d B N).2-(jW n d B N).1)*Q B<=9500*((B:Int)*(B:Int))*(jW n d B N).2:=by
 obtain⟨f1,f2,f3,f4⟩:=zCT h;obtain⟨w1,w2,w3,w4⟩:=zNH h N;have q:=zE B;have e1:(jW n d B N).1=(jE (gaT n d B) N).1+0:=rfl;have e2:(jW n d B N).2=(jE (gaT n d B) N).2+9:=rfl;have sl:(jE (gaT n d B) N).1<=(jE (gaT n d B) N).2:=zGR (λ k=>(zCS h k).2) N
 refine⟨by omega,by omega,?_⟩
 have b0:=h.b0;have b1:=h.b1;rw[e1,e2];generalize (jE (gaT n d B) N).2=S2 at *;generalize (jE (gaT n d B) N).1=S1 at *;generalize (ofI d n B).2=A at *;have m0:=Yx (show Q B<=A by omega) (show 0<=S2+9-(S1+0) by omega)
 have m1:(1+2*(N:Int))*(S2+((N:Int)+1)*A)<=(1+2*(N:Int))*(((N:Int)+2)*(S2+9)):=Yx (by
  have a:=Yx (show A<=S2+9 by omega) (show 0<=(N:Int)+1 by omega)
  have e:((N:Int)+2)*(S2+9)=((N:Int)+1)*(S2+9)+(S2+9):=by grind
  omega) (by omega)
 have r:(S2+9-(S1+0))*A=(S2-S1)*A+9*A:=by grind
 have k1:(1+2*(N:Int))*((N:Int)+2)+9<=9500*((B:Int)*(B:Int)):=by
  have n1:(N:Int)+2<=69*(B:Int):=by omega
  have n2:1+2*(N:Int)<=137*(B:Int):=by omega
  have a:=Int.mul_le_mul n2 n1 (by omega) (by omega)
  have e:137*(B:Int)*(69*(B:Int))=9453*((B:Int)*(B:Int)):=by grind
  have:=Int.mul_le_mul (show (40:Int)<=(B:Int) by omega) (show (40:Int)<=(B:Int) by omega) (by omega) (by omega)
  omega
 have m2:=Yt k1 (show 0<=S2+9 by omega)
 have r2:((1+2*(N:Int))*((N:Int)+2)+9)*(S2+9)=(1+2*(N:Int))*(((N:Int)+2)*(S2+9))+9*(S2+9):=by grind
 rw[r] at m0;rw[r2] at m2;omega
theorem ga_fit {n d:Int} {B:Nat} (h:zG0 n d B) (k:Nat) (hk:k<=65*B+126):(jE (gaT n d B) k).2+9<=Q (21*B+60):=by
 have b1:=h.b1
 have s:∀ j:Nat,(jE (gaT n d B) j).2<=((j:Int)+1)*Q (21*B+41):=λ j=>by
  induction j with
  | zero =>
   have:=ga_hi h 0
   show (gaT n d B 0).2<=(((0:Nat):Int)+1)*Q (21*B+41)
   have e:((0:Nat):Int)=0:=rfl;rw[e];omega
  | succ j ih =>
   have:=ga_hi h (j+1);have e:(jE (gaT n d B) (j+1)).2=(jE (gaT n d B) j).2+(gaT n d B (j+1)).2:=rfl;have ec:((j+1:Nat):Int)+1=((j:Int)+1)+1:=by omega
   have r:(((j:Int)+1)+1)*Q (21*B+41)=((j:Int)+1)*Q (21*B+41)+Q (21*B+41):=by grind
   rw[e,ec,r];omega
 have a:=s k;have q:=zE (21*B+41);have big:9<=Q (21*B+41):=by have:=zJ (show 4<=21*B+41 by omega);have:Q 4=16:=rfl;omega
 have m:=Yt (show (k:Int)+1<=65127 by omega) (show 0<=Q (21*B+41) by omega)
 have e:Q (21*B+60)=Q (21*B+41)*Q 19:=by have:=jF (21*B+41) 19;exact this
 have sI:Q 19=524288:=rfl;rw[sI] at e;omega
theorem mulI_sq {B:Nat} {a:Int × Int} (h0:0<=a.1) (hl:a.1<=a.2):(zAJ B a a).1=a.1*a.1/Q B/\(zAJ B a a).2 = -(-(a.2*a.2)/Q B):=by
 obtain⟨l1,l2,l3,l4,lh⟩:=zED (a.1*a.1) (a.1*a.2) (a.2*a.1) (a.2*a.2);obtain⟨g1,g2,g3,g4,gh⟩:=zDB (a.1*a.1) (a.1*a.2) (a.2*a.1) (a.2*a.2);have m1:=Yx hl h0;have m2:=Yt hl h0;have m3:=Yx hl (show 0<=a.2 by omega)
 have m4:=Yt hl (show 0<=a.2 by omega)
 unfold zAJ;have e1:kK (pr4 (a.1*a.1) (a.1*a.2) (a.2*a.1) (a.2*a.2)) 3=a.1*a.1:=by omega
 have e2:kA (pr4 (a.1*a.1) (a.1*a.2) (a.2*a.1) (a.2*a.2)) 3=a.2*a.2:=by omega
 rw[e1,e2];exact⟨rfl,rfl⟩
theorem sq_rel {B:Nat} {a:Int × Int} {C:Int} (h0:0<=a.1) (hl:a.1<=a.2) (hC:0<=C) (h:(a.2-a.1)*Q B<=C*a.2) (hq:Q B<=2*(zAJ B a a).2):((zAJ B a a).2-(zAJ B a a).1)*Q B<=(2*C+4)*(zAJ B a a).2:=by
 have q:=zE B;obtain⟨e1,e2⟩:=mulI_sq (B:=B) h0 hl;have f1:=kW (a.1*a.1) (show 0<Q B by omega)
 have f2:=kW (-(a.2*a.2)) (show 0<Q B by omega)
 have f3:=zEW (a.2*a.2) (show 0<Q B by omega)
 rw[<- e1] at f1;rw[<- e2] at f3
 have f4:((zAJ B a a).2-1)*Q B<a.2*a.2:=by
  have:(-(a.2*a.2)/Q B+1)*Q B = -(((zAJ B a a).2-1)*Q B):=by rw[e2];grind
  omega
 generalize (zAJ B a a).1=x at *;generalize (zAJ B a a).2=y at *
 have g1:(y-x)*Q B<=a.2*a.2-a.1*a.1+2*Q B:=by
  have r1:(y-1)*Q B=y*Q B-Q B:=by grind
  have r2:(x+1)*Q B=x*Q B+Q B:=by grind
  have r3:(y-x)*Q B=y*Q B-x*Q B:=by grind
  omega
 have m1:=Yx h (show 0<=2*a.2 by omega)
 have m2:(a.2*a.2-a.1*a.1)*Q B<=2*a.2*((a.2-a.1)*Q B):=by
  have r:a.2*a.2-a.1*a.1=2*a.2*(a.2-a.1)-(a.2-a.1)*(a.2-a.1):=by grind
  have s:=Yz (show 0<=a.2-a.1 by omega) (show 0<=a.2-a.1 by omega)
  have m:=Yt (show a.2*a.2-a.1*a.1<=2*a.2*(a.2-a.1) by omega) (show 0<=Q B by omega)
  have r2:2*a.2*(a.2-a.1)*Q B=2*a.2*((a.2-a.1)*Q B):=by grind
  omega
 have m3:=Yx f3 (show 0<=2*C by omega)
 have r4:2*a.2*(C*a.2)=2*C*(a.2*a.2):=by grind
 have r5:2*C*(y*Q B)=2*C*y*Q B:=by grind
 rw[r4] at m1;rw[r5] at m3;have m4:a.2*a.2-a.1*a.1<=2*C*y:=Int.le_of_mul_le_mul_right (a:=Q B) (by omega) (by omega)
 have r6:(2*C+4)*y=2*C*y+4*y:=by grind
 omega
theorem sqs_rel {B:Nat} {d:Int × Int} {C:Int} (hB:40<=B) (hd:d.1<=d.2) (hl:Q B-1<=d.1) (hC:0<=C) (h:(d.2-d.1)*Q B<=C*d.2) (i:Nat) (hi:i<=20) :
  ((sqI B d i).2-(sqI B d i).1)*Q B<=(Q i*(C+4)-4)*(sqI B d i).2:=by
 have h4:=zJ hB;have e2:Q 40=1099511627776:=rfl
 induction i with
 | zero =>
  show (d.2-d.1)*Q B<=(1*(C+4)-4)*d.2
  have:1*(C+4)-4=C:=by omega
  rw[this];exact h
 | succ i ih =>
  have i1:=ih (by omega)
  have qi:=zJ (show i+1<=20 by omega)
  have Ij:Q 20=1048576:=rfl;have es:Q (i+1)=2*Q i:=rfl;have q0:=zE i;obtain⟨l1,l2⟩:=zOF (B:=B) hd i (by omega) hl
  obtain⟨l3,l4⟩:=zOF (B:=B) hd (i+1) (by omega) hl
  have m:=Yt q0 (show 0<=C+4 by omega)
  have r:=sq_rel (B:=B) (a:=sqI B d i) (C:=Q i*(C+4)-4) (by omega) l2 (by omega) i1 (by
   have e:(zAJ B (sqI B d i) (sqI B d i)).2=(sqI B d (i+1)).2:=rfl
   rw[e];omega)
  have ec:2*(Q i*(C+4)-4)+4=Q (i+1)*(C+4)-4:=by rw[es];grind
  rw[ec] at r;exact r
theorem bal_nat {B:Nat} {n' d' c:Int} (h0:40<=B) (h1:B<=1000) (h:Bal (B:Int) 1 n' d' c):0<=c/\c<=10/\4*(c+1)<=(B:Int):=by
 obtain⟨⟨n0,d0,g1,g2⟩,h2,h3⟩:=h
 have c0:0<=c:=Int.not_lt.1 λ hc=>by
  have e:=h3 hc;have q:=zE (-c).toNat;have m:=Yx q (show 0<=(B:Int)*d' from Yz (by omega) (by omega))
  have m2:=Yt (show (40:Int)<=(B:Int) by omega) (show 0<=d' by omega)
  omega
 have e:=h2 c0;obtain⟨k,hk⟩:∃ k:Nat,c=(k:Int):=⟨c.toNat,by omega⟩
 subst hk;have ek:((k:Int)).toNat=k:=by omega
 rw[ek] at e;have qk:=zE k
 have le:Q k<=2*(B:Int):=by
  have m:=Yx (show d'<=2*n' by omega) (show 0<=(B:Int) by omega)
  refine Int.le_of_mul_le_mul_left (a:=n') ?_ n0;have r1:n'*1*Q k=n'*Q k:=by grind
  have r2:(B:Int)*(2*n')=n'*(2*(B:Int)):=by grind
  omega
 have dP:k<=10:=Nat.not_lt.1 λ hk=>by
  have:=zJ (show 11<=k by omega)
  have:Q 11=2048:=rfl;omega
 refine⟨by omega,by omega,?_⟩
 by_cases c9:k<=9
 ·omega
 ·have:k=10:=by omega
  subst this;have:Q 10=1024:=rfl;omega
def gaY (n d:Int) (B:Nat) (o:Int × Int):Int × Int:=zJA (ofI (B:Int) 1 B) (zK o n d)
structure zQI (L:Rat->Nat->Rat) (B:Nat) (o:Int × Int):Prop where
 le:o.1<=o.2
 ab:Abs o ((B:Int)*Q B)
 wd:o.2-o.1<=44*(B:Int)+308
 iv:Iv B o (L (B:Rat))
theorem gaLog_of {L:Rat->Nat->Rat} (hL:Lns L) {B:Nat} (h0:40<=B) (h1:B<=1000) {n' d' c:Int} {N N2:Nat} (h:Bal (B:Int) 1 n' d' c) (hN:zT (lnT n' d' B) N) (X6:zT (lnT 2 1 B) N2):zQI L B (zGW (zN (lnT n' d' B) N) (zN (lnT 2 1 B) N2) c):=by
 obtain⟨c0,c1,c2⟩:=bal_nat h0 h1 h;obtain⟨b1,b2,b3⟩:=zGI (k:=c) h.1 (show 16<=B by omega) hN X6 c (by omega) (by omega)
 obtain⟨l,il,iv⟩:=zGJ (show (0:Int)<(B:Int) by omega) (by omega) h B N N2
 have q:=zE B;refine⟨b1,b2.mono ?_,?_,?_⟩
 ·have m:=Yt c2 (show 0<=Q B by omega)
  have r:(c+1)*(4*Q B)=4*(c+1)*Q B:=by grind
  omega
 ·have m:=Yt (show c+1<=11 by omega) (show 0<=2*(((B:Int)/3+2)*6+2) by omega)
  omega
 ·have e:(λ (_:Nat)=>((B:Int):Rat)/((1:Int):Rat))=λ _=>(B:Rat):=by
   funext _
   have e1:((1:Int):Rat)=1:=rfl;have e2:((B:Int):Rat)=(B:Rat):=rfl;rw[e1,e2,YE];have:(1:Rat)⁻¹=1:=by decide +kernel
   rw[this,Rat.mul_one]
  rw[e] at il;have b0:(0:Rat)<(B:Rat):=by exact_mod_cast (show 0<B by omega)
  exact iv.congr ((hL _ b0).uniq il)
theorem gaY_ok {L:Rat->Nat->Rat} {n d:Int} {B:Nat} {o:Int × Int} (h:zG0 n d B) (ho:zQI L B o):0<=(gaY n d B o).1/\(gaY n d B o).1<=(gaY n d B o).2/\(gaY n d B o).2-(gaY n d B o).1<=44*(B:Int)+309/\zW (gaY n d B o)<Q (B+11)/\Iv B (gaY n d B o) (λ M=>(B:Rat)-(n:Rat)/(d:Rat)*L (B:Rat) M):=by
 have n0:=h.n0;have nd:=h.nd;have b0:=h.b0;have b1:=h.b1;have d0:0<d:=by omega
 have q:=zE B;have sa:=zE1 ho.ab d0 (show 0<=n by omega) nd
 have sl:=kN ho.le d0 (show 0<=n by omega)
 have sw:=kJ (a:=o) (n:=n) (d:=d) (c:=o.2-o.1) d0 (Yx nd (by have:=ho.le;omega))
 have e1:(ofI (B:Int) 1 B).1=(B:Int)*Q B:=Int.ediv_one _;have e2:(ofI (B:Int) 1 B).2=(B:Int)*Q B:=by show -(-((B:Int)*Q B)/1)=_;rw[Int.ediv_one];omega
 have g1:(gaY n d B o).1=(B:Int)*Q B-(zK o n d).2:=by show (ofI (B:Int) 1 B).1-_=_;rw[e1]
 have g2:(gaY n d B o).2=(B:Int)*Q B-(zK o n d).1:=by show (ofI (B:Int) 1 B).2-_=_;rw[e2]
 obtain⟨s1,s2,s3,s4⟩:=sa;have wd:=ho.wd;have lo:0<=(gaY n d B o).1:=by omega
 refine⟨lo,by omega,by omega,?_,?_⟩
 ·have r:zW (gaY n d B o)<=2*((B:Int)*Q B):=zAF ⟨by omega,by omega,by omega,by omega⟩
  have e:Q (B+11)=Q B*Q 11:=jF B 11;have WH:Q 11=2048:=rfl;rw[WH] at e;have m:=Yt (show (B:Int)<=1000 by omega) (show 0<=Q B by omega)
  omega
 ·have i1:=Iv.of B (n:=(B:Int)) (d:=1) (by decide)
  have i2:=ho.iv.scale (n:=n) (d:=d) (by omega) d0
  refine Has.of_eq (i1.sub i2) λ M=>?_
  have e1:((1:Int):Rat)=1:=rfl;have e2:((B:Int):Rat)=(B:Rat):=rfl
  have e3:(B:Rat)/1=(B:Rat):=by
   rw[YE];have:(1:Rat)⁻¹=1:=by decide +kernel
   rw[this,Rat.mul_one]
  rw[e1,e2,e3]
def gaE (n d:Int) (B:Nat) (o:Int × Int) (t N:Nat):Int × Int:=sqI B (zN (zU B (zG (gaY n d B o) t)) N) t
theorem gaE_ok {L:Rat->Nat->Rat} {n d:Int} {B t N:Nat} {o:Int × Int} (h:zG0 n d B) (ho:zQI L B o) (ht:t<=19) (hA:Abs (zG (gaY n d B o) t) (Q (B-8))) (hN:zT (zU B (zG (gaY n d B o) t)) N) :
  Q B+1<=2*(gaE n d B o t N).1/\(gaE n d B o t N).1<=(gaE n d B o t N).2/\(gaE n d B o t N).2<=Q (B+6144)/\((gaE n d B o t N).2-(gaE n d B o t N).1)*Q B<=9900000*((B:Int)*(B:Int))*(gaE n d B o t N).2/\Iv B (gaE n d B o t N) (Ev (λ M=>(B:Rat)-(n:Rat)/(d:Rat)*L (B:Rat) M)):=by
 obtain⟨y1,y2,y3,y4,y5⟩:=gaY_ok h ho;have b0:=h.b0;have b1:=h.b1;have q:=zE t;have qB:=zE B
 obtain⟨g1,g2,g3,g4⟩:=zCD (ws:=44*(B:Int)+309) (by omega) hA y2 (by
  have m:=Yx q (show 0<=44*(B:Int)+309 by omega)
  omega) hN
 have hs:0<=(zG (gaY n d B o) t).1:=Int.ediv_nonneg y1 (by omega)
 have X8:(zG (gaY n d B o) t).1<=(zG (gaY n d B o) t).2:=by
  have:=kN (a:=gaY n d B o) (n:=1) (d:=Q t) y2 (by omega) (by omega)
  simpa [zK,zG] using this
 have dl:=zM6 hs X8 hN;have dle:=zCP (zAG B (zG (gaY n d B o) t)) N;have sl:=zOF (B:=B) dle t (zJ (by omega)) dl
 have h3:=zJ (show t<=19 by omega)
 have h4:=zJ b0;have sI:Q 19=524288:=rfl;have Ik:Q 40=1099511627776:=rfl;have sJ:eb 19=6144:=by decide
 have ebm:=zB2 (show t<=19 by omega)
 rw[sJ] at ebm;have up:=(g2.mono (zJ (show B+eb t<=B+6144 by omega))).2.2.2
 have wd:(zG (gaY n d B o) t).2-(zG (gaY n d B o) t).1<=44*(B:Int)+309+1:=zBT (by omega) (by
  have m:=Yx q (show 0<=44*(B:Int)+309 by omega)
  omega)
 have wD:=zCB (zEA (by omega) hA X8 wd) hN
 obtain⟨D,hD⟩:∃ D,D=zN (zU B (zG (gaY n d B o) t)) N:=⟨_,rfl⟩;rw[<- hD] at dl dle wD
 have wC:D.2-D.1<=((B:Int)/8+2)*(88*(B:Int)+624)+2:=by
  have m:=Yt (show (N:Int)+1<=(B:Int)/8+2 by omega) (show 0<=2*(44*(B:Int)+309+1)+4 by omega)
  have r:2*(44*(B:Int)+309+1)+4=88*(B:Int)+624:=by omega
  rw[r] at m wD;omega
 obtain⟨C,hC⟩:∃ C,C=((B:Int)/8+2)*(88*(B:Int)+624)+4:=⟨_,rfl⟩;have C0:0<=C:=by have:=Yz (show 0<=(B:Int)/8+2 by omega) (show 0<=88*(B:Int)+624 by omega);omega
 have BB:=Int.mul_le_mul (show (40:Int)<=(B:Int) by omega) (show (40:Int)<=(B:Int) by omega) (by omega) (by omega)
 have Cb:40*(C+4)<=735*((B:Int)*(B:Int)):=by
  have m:=Int.mul_le_mul (show 40*((B:Int)/8+2)<=7*(B:Int) by omega) (show 88*(B:Int)+624<=104*(B:Int) by omega) (by omega) (by omega)
  have r1:40*((B:Int)/8+2)*(88*(B:Int)+624)=40*(((B:Int)/8+2)*(88*(B:Int)+624)):=by grind
  have r2:7*(B:Int)*(104*(B:Int))=728*((B:Int)*(B:Int)):=by grind
  omega
 have rel:(D.2-D.1)*Q B<=C*D.2:=by
  have m1:=Yt wC (show 0<=Q B by omega)
  have m2:=Yx (show Q B<=D.2+1 by omega) (show 0<=C-2 by have:=Yz (show 0<=(B:Int)/8+2 by omega) (show 0<=88*(B:Int)+624 by omega);omega)
  have r1:((B:Int)/8+2)*(88*(B:Int)+624)+2=C-2:=by omega
  rw[r1] at m1;have r2:(C-2)*(D.2+1)=C*D.2+C-2*D.2-2:=by grind
  have:C<=2*D.2+2:=by
   have m3:=Int.mul_le_mul (show (B:Int)<=1000 by omega) (show (B:Int)<=1000 by omega) (by omega) (by omega)
   omega
  omega
 have rs:=sqs_rel (B:=B) b0 dle dl C0 rel t (by omega)
 refine⟨?_,g1,up,?_,zEX (by omega) y5 hA⟩
 ·show Q B+1<=2*(sqI B (zN (zU B (zG (gaY n d B o) t)) N) t).1
  omega
 ·show ((sqI B (zN (zU B (zG (gaY n d B o) t)) N) t).2-(sqI B (zN (zU B (zG (gaY n d B o) t)) N) t).1)*Q B<=9900000*((B:Int)*(B:Int))*(sqI B (zN (zU B (zG (gaY n d B o) t)) N) t).2
  rw[<- hD] at sl ⊢;refine Int.le_trans rs (Yt ?_ (by omega))
  have m:=Yt h3 (show 0<=C+4 by omega)
  rw[sI] at m;omega
namespace Ex
theorem zEH {L:Rat->Nat->Rat} (hL:Lns L) (c:Rat):Null (λ M=>pr L c 1 M-1):=by
 have h:=(hL 1 (by grind)).uniq isLog_one
 have h2:Null (λ M=>c*L 1 M):=(h.bmul (Bdd.const c)).of_eq λ M=>by grind
 exact zQG h2
theorem upT_anti {a x:Rat} (ha:0<a) (Z8:a<=1) (hx:0<=x) (n:Nat):upT 1 x n<=upT a x n:=by
 induction n with
 | zero =>
  have e:=yZ ha x;have e1:=yZ (show (0:Rat)<1 by grind) x
  have p:=kH ha hx 0;have m:=Yv Z8 p;grind
 | succ n ih =>
  have e:=jX ha x n;have e1:=jX (show (0:Rat)<1 by grind) x n
  have p:=kH ha hx (n+1);have q:=zBQ (show (0:Rat)<1 by grind) n
  have m:=Yv (show a+((n:Rat)+1)<=1+((n:Rat)+1) by grind) p
  have m2:=Yr ih hx;refine Rat.le_of_mul_le_mul_left (c:=1+((n:Rat)+1)) ?_ q;rw[e1];rw[e] at m;exact Rat.le_trans m2 m
theorem uS_anti {a x:Rat} (ha:0<a) (Z8:a<=1) (hx:0<=x) (M:Nat):uS 1 x M<=uS a x M:=by
 induction M with
 | zero=>exact Rat.le_refl
 | succ n ih=>have:=upT_anti ha Z8 hx n;rw[yV,yV];grind
theorem uS_E {a x:Rat} (ha:0<a) (hx:0<=x) (M:Nat):a*uS a x M<=E x M:=by
 induction M with
 | zero=>show a*0<=0;grind
 | succ n ih =>
  have t:=zU0 ha hx n;have e:E x (n+1)=E x n+tm x n:=rfl;rw[yV,e];grind
theorem ex_neg_one:Null (λ M=>ex 1 M*ex (-1) M-1):=by
 have s:=zBB 1 (-1);have e:(1:Rat) + -1=0:=by grind
 rw[e] at s;refine s.of_eq_from 1 λ M hM=>?_
 obtain⟨m,rfl⟩:∃ m,M=m+1:=⟨M-1,by omega⟩
 have:ex 0 (m+1)=1:=kV m;rw[this]
theorem q2_one:q2 1=1/2:=by
 have e:q2 1=q2 0/2:=rfl;have e0:q2 0=1:=rfl;rw[e,e0]
theorem gam_half {L:Rat->Nat->Rat} (hL:Lns L) {a:Rat} {g:Nat->Rat} (ha:0<a) (Z8:a<=1) (h:Gam1 L a g):LeN (λ _=>1/2) g:=by
 refine LeN.trans ?_ (h.lo 1 (by grind))
 obtain⟨N,hN⟩:=zDU (-1);obtain⟨z,hz,kz⟩:=(zF9 1).null;have e1 : -((1:Nat):Rat) = -1:=rfl;rw[e1] at kz;have b:=(jY (-1)).mul (zDX ha (show (0:Rat)<=1 by grind))
 have n1:=(zEH hL a).bmul b;obtain⟨K,k0,hK⟩:=zP3 1
 have tn:Null (tm 1):=(zB5 K k0).of_le 1 λ M hM=>(hK M).mono (by
  have m1:(1:Rat)<=(M:Rat):=by exact_mod_cast hM
  have:=Yr m1 (Ys k0 (Yw (yE M)))
  grind)
 have n2:=tn.bmul (jY (-1));refine LeN.of_null (((n1.neg).add hz).add ((ex_neg_one.neg).add n2.neg)) (N+1) λ M hM=>?_
 have s1:=uS_one (x:=1) M;have s2:=uS_anti ha Z8 (show (0:Rat)<=1 by grind) M
 have e0:=hN M (by omega)
 have k:=kz M;have q:=q2_one;have m:=Yr s2 e0;have e2:E 1 (M+1)=ex 1 M+tm 1 M:=rfl;rw[e2] at s1;unfold uG;generalize pr L a 1 M=p at *;generalize ex (-1) M=y at *;generalize uS 1 1 M=u1 at *;generalize uS a 1 M=ua at *;generalize ex 1 M=v at *;generalize tm 1 M=t at *;have r:y*u1=y*(v+t-1):=by rw[<- s1];grind
 rw[r] at m;rw[q] at k;grind
theorem gam_top {L:Rat->Nat->Rat} (hL:Lns L) {a:Rat} {g:Nat->Rat} (ha:0<a) (h:Gam1 L a g):LeN g (λ _=>1/a+1):=by
 refine (h.hi 1 (by grind)).trans ?_
 obtain⟨N,hN⟩:=zDU (-1);obtain⟨z,hz,kz⟩:=(zF9 1).null;have e1 : -((1:Nat):Rat) = -1:=rfl;rw[e1] at kz;have b:=(jY (-1)).mul (zDX ha (show (0:Rat)<=1 by grind))
 have n1:=(zEH hL a).bmul b;have n2:=(zEH hL (a-1)).bmul (jY (-1));have n3:=ex_neg_one.bmul (Bdd.const (1/a));refine LeN.of_null ((n1.add n2).add (hz.add n3)) N λ M hM=>?_
 have s1:=uS_E ha (show (0:Rat)<=1 by grind) M
 have e0:=hN M hM;have k:=kz M;have q:=q2_one;have m:=Yr s1 e0;have e2:E 1 M=ex 1 M:=rfl;rw[e2] at m;have d:=rdm (a:=1) ha;have ip:0<=1/a:=jL ha (by grind)
 have m2:=Yr m ip;unfold uG uE;generalize pr L a 1 M=p at *;generalize pr L (a-1) 1 M=p2 at *;generalize ex (-1) M=y at *;generalize uS a 1 M=ua at *;generalize ex 1 M=v at *;have r:1/a*(y*(a*ua))=1/a*a*(y*ua):=by grind
 rw[r,d] at m2;rw[q] at k;generalize 1/a=i at *;clear r d n1 n2 n3 b;grind
theorem uE_half {L:Rat->Nat->Rat} (hL:Lns L) {a:Rat} (Z8:a<=1) {n:Nat} (hn:1<=n):LeN (uE L a (n:Rat)) (λ _=>q2 n):=by
 have n1:(1:Rat)<=(n:Rat):=by exact_mod_cast hn
 have n0:(0:Rat)<(n:Rat):=by grind
 have l1:=(zGO hL (c:=a-1) (by grind) (show (0:Rat)<1 by grind) n1).trans (LeN.of_eqN (zEH hL (a-1)))
 have l:=l1.mul (zF9 n) (jY _) (zDU _) (Bdd.const 1) (Nn.const (by grind))
 exact l.trans (LeN.of_le 0 λ M _=>by grind)
theorem zUW {L:Rat->Nat->Rat} (hL:Lns L) {a x:Rat} (ha:0<a) (hx:0<x):Null (λ M=>uG L a x M-uS a x M/Ev (λ M=>x-a*L x M) M):=by
 have hb:Bdd (λ M=>x-a*L x M):=(Bdd.const x).sub (kG hL hx a)
 obtain⟨c,c0,N,hc⟩:=zB7 hb;have i1:=zAK (kG hL hx a) (Bdd.const (-x));have i2:=zQE hb
 have bq:Bdd (λ M=>uS a x M/Ev (λ M=>x-a*L x M) M):=by
  obtain⟨K,k0,hK⟩:=zK4 ha (Yw hx);refine Bdd.of_le (K/c) N λ M hM=>?_
  have e:=hc M hM;have ep:0<Ev (λ M=>x-a*L x M) M:=by grind
  have s0:=zCJ ha (Yw hx) M;have q0:0<=uS a x M/Ev (λ M=>x-a*L x M) M:=jL ep (by grind)
  have kc:0<=K/c:=jL c0 (by grind)
  refine⟨by grind,zBO ep ?_⟩
  have d:=rdm (a:=K) c0;have m:=Yr e kc;have:=hK M;grind
 have bE:=zAE hb;have n1:=(i1.bmul (zDX ha (Yw hx)));have n2:=i2.bmul bq;refine (n1.add n2).of_eq_from N λ M hM=>?_
 have e:=hc M hM;have ep:0<Ev (λ M=>x-a*L x M) M:=by grind
 have d:=rdm (a:=uS a x M) ep;have e1:Ev (λ M => -(x-a*L x M)) M=Ev (λ M=>a*L x M + -x) M:=by unfold Ev;congr 1;grind
 rw[e1];unfold uG pr ex;generalize Ev (λ M=>a*L x M + -x) M=w1 at *
 generalize Ev (λ M=>a*L x M) M=w2 at *
 have e2:Ev (λ _ => -x) M=Ev (λ M => -x) M:=rfl
 generalize Ev (λ _ => -x) M=w3 at *
 generalize Ev (λ M=>x-a*L x M) M=w4 at *
 generalize uS a x M=s at *;have r:(w4*w1-1)*(s/w4)=s/w4*w4*w1-s/w4:=by grind
 rw[r,d];grind
end Ex
theorem dv_rel {s1 s2 e1 e2 q C D lo hi:Int} (hq:0<q) (h0:0<=s1) (hC:0<=C) (hD:0<=D) (hCq:C<=q) (QC:D<=q) (he:0<e1) (hee:e1<=e2) (hs:(s2-s1)*q<=C*s2) (X7:s1<=s2) (he2:(e2-e1)*q<=D*e2) (FE:lo=s1*q/e2) (Ka:hi = -(-(s2*q)/e1)):(hi-lo)*q<=(C+D)*hi+2*q:=by
 have Ij:0<e2:=by omega
 have A:=kW (s1*q) Ij;rw[<- FE] at A
 have Cc:(hi-1)*e1<=s2*q:=by
  have:=kW (-(s2*q)) he;have r:(-(s2*q)/e1+1)*e1 = -((hi-1)*e1):=by rw[Ka];grind
  omega
 have FC:0<=hi:=by
  have : -(s2*q)/e1<=0:=Int.ediv_nonpos_of_nonpos_of_neg (by have:=Yz (show 0<=s2 by omega) (show 0<=q by omega);omega) he
  omega
 by_cases hz:hi=0
 ·have l0:0<=lo:=by rw[FE];exact Int.ediv_nonneg (Yz h0 (by omega)) (by omega)
  have:=Yz l0 (show 0<=q by omega)
  have r:(hi-lo)*q=hi*q-lo*q:=by grind
  rw[r,hz];omega
 ·have p:0<=hi-1:=by omega
  have B1:s2*(q-C)<=s1*q:=by
   have r1:s2*(q-C)=s2*q-C*s2:=by grind
   have r2:(s2-s1)*q=s2*q-s1*q:=by grind
   omega
  have B2:e2*(q-D)<=e1*q:=by
   have r1:e2*(q-D)=e2*q-D*e2:=by grind
   have r2:(e2-e1)*q=e2*q-e1*q:=by grind
   omega
  have qC:0<=q-C:=by omega
  have qD:0<=q-D:=by omega
  have k1:=Yx B2 (Yz p qC);have k2:=Yt Cc (Yz qC (show 0<=q by omega))
  have k3:=Yx B1 (Yz (show 0<=q by omega) (show 0<=q by omega))
  have k4:=Yx (show s1*q<=(lo+1)*e2 by omega) (Yz (show 0<=q by omega) (show 0<=q by omega))
  have r1:(hi-1)*(q-C)*(e1*q)=(hi-1)*e1*((q-C)*q):=by grind
  have r2:s2*q*((q-C)*q)=q*q*(s2*(q-C)):=by grind
  have r3:(hi-1)*(q-C)*(e2*(q-D))=(hi-1)*((q-C)*(q-D))*e2:=by grind
  have r4:q*q*((lo+1)*e2)=(lo+1)*(q*q)*e2:=by grind
  have k5:(hi-1)*((q-C)*(q-D))<=(lo+1)*(q*q):=Int.le_of_mul_le_mul_right (a:=e2) (by omega) Ij
  have r5:(q-C)*(q-D)=q*(q-(C+D))+C*D:=by grind
  have cd:=Yz hC hD;have k6:=Yx (show q*(q-(C+D))<=(q-C)*(q-D) by omega) p
  have r6:(hi-1)*(q*(q-(C+D)))=(hi-1)*(q-(C+D))*q:=by grind
  have r7:(lo+1)*(q*q)=(lo+1)*q*q:=by grind
  have k7:(hi-1)*(q-(C+D))<=(lo+1)*q:=Int.le_of_mul_le_mul_right (a:=q) (by omega) hq
  have r8:(hi-1)*(q-(C+D))=hi*q-q-(C+D)*hi+(C+D):=by grind
  have r9:(lo+1)*q=lo*q+q:=by grind
  have r10:(hi-lo)*q=hi*q-lo*q:=by grind
  omega
theorem zQJ {B:Nat} (h0:40<=B) (h1:B<=1000):16*(10000000*((B:Int)*(B:Int)))<=Q B:=by
 by_cases c:B<=80
 ·have m:=Int.mul_le_mul (show (B:Int)<=80 by omega) (show (B:Int)<=80 by omega) (by omega) (by omega)
  have q:=zJ h0;have e:Q 40=1099511627776:=rfl;omega
 ·have m:=Int.mul_le_mul (show (B:Int)<=1000 by omega) (show (B:Int)<=1000 by omega) (by omega) (by omega)
  have q:=zJ (show 60<=B by omega)
  have e:Q 60=1152921504606846976:=rfl;omega
def gaG (n d:Int) (B:Nat) (o:Int × Int) (t N NS:Nat):Int × Int:=(zDW (jW n d B NS).1 (jW n d B NS).2 (gaE n d B o t N).1 (gaE n d B o t N).2 B,zEV (jW n d B NS).1 (jW n d B NS).2 (gaE n d B o t N).1 (gaE n d B o t N).2 B+1)
structure GaV (g:Nat->Rat) (B:Nat) (a:Int × Int):Prop where
 lo:Q B<=4*a.1
 le:a.1<=a.2
 rel:(a.2-a.1)*Q B<=10000000*((B:Int)*(B:Int))*a.2
 hi:a.2<=Q (B+43)
 iv:Iv B a g
theorem zNM {B:Nat} {a:Int × Int} {x y:Nat->Rat} (h:Iv B a x) (k:LeN x y) {z:Int} (hz:LeN y (λ _=>(z:Rat)/(Q B:Rat))):a.1<=z:=by
 have q:=jJ B;refine Int.not_lt.1 λ D9=>?_
 have d:(0:Rat)<1/(Q B:Rat):=zF (by grind) q
 obtain⟨e,he⟩:∃ e,e=1/(Q B:Rat)/4:=⟨_,rfl⟩;have e0:0<e:=by grind
 obtain⟨N1,k1⟩:=h e e0;obtain⟨N2,k2⟩:=k e e0;obtain⟨N3,k3⟩:=hz e e0;have a1:=(k1 (N1+N2+N3) (by omega)).1
 have a2:=k2 (N1+N2+N3) (by omega)
 have a3:=k3 (N1+N2+N3) (by omega)
 simp only[] at a3;have c:=jA (show z+1<=a.1 by omega)
 rw[Rat.intCast_add] at c;have c1:((1:Int):Rat)=1:=rfl;rw[c1] at c;have m:((z:Rat)+1)/(Q B:Rat)<=(a.1:Rat)/(Q B:Rat):=jR q (by rw[rdm q];exact c)
 rw[zBY] at m;generalize 1/(Q B:Rat)=i at *;grind
theorem gaG_ok {L:Rat->Nat->Rat} (hL:Lns L) {n d:Int} {B t N NS:Nat} {o:Int × Int} {g:Nat->Rat} (h:zG0 n d B) (hg:Gam1 L ((n:Rat)/(d:Rat)) g) (ho:zQI L B o) (ht:t<=19) (hA:Abs (zG (gaY n d B o) t) (Q (B-8))) (hN:zT (zU B (zG (gaY n d B o) t)) N) (hS:NS<=65*B+126) (lI:yS (gaT n d B) (2*B) NS):GaV g B (gaG n d B o t N NS):=by
 obtain⟨s1,s2,s3⟩:=zNF h hS;obtain⟨e1,e2,e3,e4,e5⟩:=gaE_ok h ho ht hA hN;have si:=ga_has h lI;have n0:=h.n0;have nd:=h.nd;have b0:=h.b0;have b1:=h.b1;have q:=zE B;have qr:=jJ B;have big:=zQJ b0 b1;have BB:=Int.mul_le_mul (show (40:Int)<=(B:Int) by omega) (show (40:Int)<=(B:Int) by omega) (by omega) (by omega)
 have nr:(0:Rat)<(n:Rat):=by exact_mod_cast n0
 have dr:(0:Rat)<(d:Rat):=by exact_mod_cast (show 0<d by omega)
 have a0:(0:Rat)<(n:Rat)/(d:Rat):=zF nr dr;have a1:(n:Rat)/(d:Rat)<=1:=zBO dr (by have:=jA nd;grind)
 have bb:(0:Rat)<(B:Rat):=by exact_mod_cast (show 0<B by omega)
 have dv:Iv B (zDW (jW n d B NS).1 (jW n d B NS).2 (gaE n d B o t N).1 (gaE n d B o t N).2 B,zEV (jW n d B NS).1 (jW n d B NS).2 (gaE n d B o t N).1 (gaE n d B o t N).2 B) (uG L ((n:Rat)/(d:Rat)) (B:Rat)):=(Iv.dv si e5 (show 0<=(jW n d B NS).1 by omega) (show 0<(gaE n d B o t N).1 by omega)).congr (zUW hL a0 bb)
 obtain⟨l1,l2⟩:=zJU (b:=B) (lo:=(jW n d B NS).1) (hi:=(jW n d B NS).2) (lo':=(gaE n d B o t N).1) (hi':=(gaE n d B o t N).2) (by omega) s2 (by omega) e2
 have iv:Iv B (gaG n d B o t N NS) g:=by
  have low:=hg.lo _ bb;have up:=(hg.hi _ bb).trans ((LeN.refl _).add (uE_half hL a1 (show 1<=B by omega)))
  have qq:q2 B=1/(Q B:Rat):=by
   have:∀ k:Nat,q2 k*(Q k:Rat)=1:=λ k=>by
    induction k with
    | zero =>
     show (1:Rat)*((1:Int):Rat)=1
     have c1:((1:Int):Rat)=1:=rfl;rw[c1];grind
    | succ k ih =>
     have e:q2 (k+1)=q2 k/2:=rfl;have e2:Q (k+1)=2*Q k:=rfl;rw[e,e2,YA];have:((2:Int):Rat)=2:=rfl;rw[this];grind
   have k:=this B;refine Rat.le_antisymm (jL qr (by rw[k];exact Rat.le_refl)) (zBO qr (by rw[k];exact Rat.le_refl))
  intro e he
  obtain⟨N1,k1⟩:=dv (e/2) (by grind)
  obtain⟨N2,k2⟩:=low (e/2) (by grind)
  obtain⟨N3,k3⟩:=up (e/2) (by grind)
  refine⟨N1+N2+N3,λ M hM=>?_⟩
  obtain⟨x1,x2⟩:=k1 M (by omega)
  have x3:=k2 M (by omega)
  have x4:=k3 M (by omega)
  simp only[] at x4;unfold gaG;simp only[] at x1 x2 ⊢;rw[Rat.intCast_add,zBY];have c1:((1:Int):Rat)=1:=rfl;rw[c1,<- qq];generalize ((zDW (jW n d B NS).1 (jW n d B NS).2 (gaE n d B o t N).1 (gaE n d B o t N).2 B:Int):Rat)/(Q B:Rat)=z1 at *;generalize ((zEV (jW n d B NS).1 (jW n d B NS).2 (gaE n d B o t N).1 (gaE n d B o t N).2 B:Int):Rat)/(Q B:Rat)=z2 at *;generalize uG L ((n:Rat)/(d:Rat)) (B:Rat) M=z3 at *;generalize g M=z4 at *;generalize q2 B=z5 at *;clear dv low up k1 k2 k3 si e5 l1 l2 s3 e4;exact⟨by grind,by grind⟩
 have wZ:=dv_rel (q:=Q B) (C:=9500*((B:Int)*(B:Int))) (D:=9900000*((B:Int)*(B:Int))) (show 0<Q B by omega) (show 0<=(jW n d B NS).1 by omega) (by omega) (by omega) (by omega) (by omega) (show 0<(gaE n d B o t N).1 by omega) e2 s3 s2 e4 l1 l2
 have gl:(gaG n d B o t N NS).1=zDW (jW n d B NS).1 (jW n d B NS).2 (gaE n d B o t N).1 (gaE n d B o t N).2 B:=rfl;have gh:(gaG n d B o t N NS).2=zEV (jW n d B NS).1 (jW n d B NS).2 (gaE n d B o t N).1 (gaE n d B o t N).2 B+1:=rfl;rw[<- gl] at wZ;have Qv:zEV (jW n d B NS).1 (jW n d B NS).2 (gaE n d B o t N).1 (gaE n d B o t N).2 B=(gaG n d B o t N NS).2-1:=by rw[gh];omega
 rw[Qv] at wZ;have le:(gaG n d B o t N NS).1<=(gaG n d B o t N NS).2:=iv.le;have half:=gam_half hL a0 a1 hg
 have hi2:Q B<=2*(gaG n d B o t N NS).2:=by
  refine Int.not_lt.1 λ D9=>?_
  have hi:=zNM (B:=B+1) (a:=(Q B,Q B)) (x:=λ _=>1/2) (y:=g) (z:=2*(gaG n d B o t N NS).2) ?_ half ?_
  ·omega
  ·have e:Q (B+1)=2*Q B:=rfl
   refine Has.of_from 0 λ M _=>?_
   have:(Q B:Rat)/(Q (B+1):Rat)=1/2:=by
    rw[e,YA];have c2:((2:Int):Rat)=2:=rfl;rw[c2];have p:(0:Rat)<2*(Q B:Rat):=by grind
    exact Rat.le_antisymm (zBO p (by grind)) (jL p (by grind))
   simp only[this];exact⟨Rat.le_refl,Rat.le_refl⟩
  ·intro e he
   obtain⟨N1,k1⟩:=iv e he;refine⟨N1,λ M hM=>?_⟩
   have:=(k1 M hM).2
   have e2:((2*(gaG n d B o t N NS).2:Int):Rat)/(Q (B+1):Rat)=((gaG n d B o t N NS).2:Rat)/(Q B:Rat):=by
    have e:Q (B+1)=2*Q B:=rfl;rw[e,YA,YA];have c2:((2:Int):Rat)=2:=rfl;rw[c2];have p:(0:Rat)<2*(Q B:Rat):=by grind
    have dq:=rdm (a:=((gaG n d B o t N NS).2:Rat)) qr;refine Rat.le_antisymm (zBO p ?_) (jL p ?_)
    ·have:((gaG n d B o t N NS).2:Rat)/(Q B:Rat)*(2*(Q B:Rat))=2*(((gaG n d B o t N NS).2:Rat)/(Q B:Rat)*(Q B:Rat)):=by grind
     rw[this,dq];exact Rat.le_refl
    ·have:((gaG n d B o t N NS).2:Rat)/(Q B:Rat)*(2*(Q B:Rat))=2*(((gaG n d B o t N NS).2:Rat)/(Q B:Rat)*(Q B:Rat)):=by grind
     rw[this,dq];exact Rat.le_refl
   simp only[];rw[e2];exact this
 have rel:((gaG n d B o t N NS).2-(gaG n d B o t N NS).1)*Q B<=10000000*((B:Int)*(B:Int))*(gaG n d B o t N NS).2:=by
  clear gl gh Qv l1 l2 dv e3 e4 e1 e2 s1 s2 s3;generalize (gaG n d B o t N NS).2=H at *;generalize (gaG n d B o t N NS).1=L0 at *;generalize (B:Int)*(B:Int)=b2 at *;have r1:(H-1-L0)*Q B=(H-L0)*Q B-Q B:=by grind
  have r2:(9500*b2+9900000*b2)*(H-1)=9909500*b2*H-9909500*b2:=by grind
  rw[r1,r2] at wZ;have m:=Yt (show 6<=90500*b2 by omega) (show 0<=H by omega)
  have r3:10000000*b2*H=9909500*b2*H+90500*b2*H:=by grind
  rw[r3];omega
 have sm:16*((gaG n d B o t N NS).2-(gaG n d B o t N NS).1)<=(gaG n d B o t N NS).2:=by
  have m:=Yt big (show 0<=(gaG n d B o t N NS).2 by omega)
  refine Int.le_of_mul_le_mul_right (a:=Q B) ?_ (by omega)
  have r:16*((gaG n d B o t N NS).2-(gaG n d B o t N NS).1)*Q B=16*(((gaG n d B o t N NS).2-(gaG n d B o t N NS).1)*Q B):=by grind
  have r2:16*(10000000*((B:Int)*(B:Int)))*(gaG n d B o t N NS).2=16*(10000000*((B:Int)*(B:Int))*(gaG n d B o t N NS).2):=by grind
  have r3:Q B*(gaG n d B o t N NS).2=(gaG n d B o t N NS).2*Q B:=Int.mul_comm _ _;omega
 have top:=gam_top hL a0 hg
 have lo42:(gaG n d B o t N NS).1<=Q (B+42):=by
  refine zNM iv top (LeN.of_le 0 λ M _=>?_)
  refine jS qr ?_;have e:Q (B+42)=Q B*Q 42:=jF B 42;have WM:Q 42=4398046511104:=rfl;rw[e,WM,YA];have Wv:((4398046511104:Int):Rat)=4398046511104:=rfl;rw[Wv]
  have i:1/((n:Rat)/(d:Rat))<=2199023255552:=by
   refine zBO a0 ?_;have dd:=jA h.dd;have cdd:((2199023255552:Int):Rat)=2199023255552:=rfl;rw[cdd] at dd;have n1:=jA (show 1<=n by omega)
   have c1:((1:Int):Rat)=1:=rfl;rw[c1] at n1;have r:2199023255552*((n:Rat)/(d:Rat))=2199023255552*(n:Rat)/(d:Rat):=by rw[YE,YE];grind
   rw[r];exact jL dr (by grind)
  have m:=Yv (show 1/((n:Rat)/(d:Rat))+1<=4398046511104 by grind) (Yw qr)
  grind
 refine⟨by omega,le,rel,?_,iv⟩
 have e:Q (B+43)=2*Q (B+42):=rfl;have:=zE (B+42);omega
open Ex
def stN (n d:Int):Nat:=((n-1)/d).toNat
def stP (n d:Int):Nat->Int
 | 0=>1
 | k+1=>stP n d k*(n-((k:Int)+1)*d)
def stQ (d:Int):Nat->Int
 | 0=>1
 | k+1=>stQ d k*d
structure StIn (n d:Int):Prop where
 n0:0<n
 d0:0<d
 dd:d<=2199023255552
 up:n<=201*d
theorem StIn.rest {n d:Int} (h:StIn n d):0<n-(stN n d:Int)*d/\n-(stN n d:Int)*d<=d/\stN n d<=200:=by
 have d0:=h.d0;have n0:=h.n0;have q0:0<=(n-1)/d:=Int.ediv_nonneg (by omega) (by omega)
 have e:((stN n d:Nat):Int)=(n-1)/d:=by unfold stN;omega
 have f1:=Int.ediv_mul_le (n-1) (show d≠0 by omega)
 have f2:=Int.lt_ediv_add_one_mul_self (n-1) d0;have r:((n-1)/d+1)*d=(n-1)/d*d+d:=by grind
 refine⟨by rw[e];omega,by rw[e];omega,?_⟩
 have:(n-1)/d<201:=Int.ediv_lt_of_lt_mul d0 (by have:=h.up;omega)
 omega
theorem StIn.in_ {n d:Int} (h:StIn n d) {B:Nat} (h0:40<=B) (h1:B<=1000):zG0 (n-(stN n d:Int)*d) d B:=⟨h.rest.1,h.rest.2.1,h.dd,h0,h1⟩
theorem st_at {n d:Int} (h:StIn n d) {k:Nat} (hk:k<=stN n d):0<n-(k:Int)*d/\(k<stN n d->d<n-(k:Int)*d):=by
 obtain⟨r1,r2,r3⟩:=h.rest;have d0:=h.d0;have m:=Yt (show (k:Int)<=(stN n d:Int) by omega) (show 0<=d by omega)
 refine⟨by omega,λ D9=>?_⟩
 have m2:=Yt (show (k:Int)+1<=(stN n d:Int) by omega) (show 0<=d by omega)
 have r:((k:Int)+1)*d=(k:Int)*d+d:=by grind
 omega
theorem zMG {d:Int} (h:0<d) (k:Nat):0<stQ d k:=by
 induction k with
 | zero=>show (0:Int)<1;decide
 | succ k ih=>exact Int.mul_pos ih h
theorem zUI {n d:Int} (h:StIn n d) {k:Nat} (hk:k<=stN n d):0<stP n d k:=by
 induction k with
 | zero=>show (0:Int)<1;decide
 | succ k ih =>
  have:=(st_at h (k:=k+1) hk).1;have e:((k+1:Nat):Int)=(k:Int)+1:=by omega
  rw[e] at this;exact Int.mul_pos (ih (by omega)) this
theorem stP_next (n d:Int) (k:Nat):stP (n+d) d (k+1)=n*stP n d k:=by
 induction k with
 | zero =>
  show 1*(n+d-(((0:Nat):Int)+1)*d)=n*1
  have e:((0:Nat):Int)=0:=rfl;rw[e];omega
 | succ k ih =>
  show stP (n+d) d (k+1)*(n+d-(((k+1:Nat):Int)+1)*d)=n*(stP n d k*(n-((k:Int)+1)*d))
  have e:((k+1:Nat):Int)=(k:Int)+1:=by omega
  rw[ih,e];have r:n+d-((k:Int)+1+1)*d=n-((k:Int)+1)*d:=by grind
  rw[r];grind
theorem zOH {n d:Int} (h:0<d) (h0:0<n):stN (n+d) d=stN n d+1:=by
 unfold stN;have q0:0<=(n-1)/d:=Int.ediv_nonneg (by omega) (by omega)
 have e:(n+d-1)/d=(n-1)/d+1:=by
  have r:n+d-1=(n-1)+1*d:=by omega
  rw[r,Int.add_mul_ediv_right _ _ (by omega)]
 rw[e];omega
def gmV (n d:Int) (g:Nat->Rat) (M:Nat):Rat:=(stP n d (stN n d):Rat)/(stQ d (stN n d):Rat)*g M
structure LsIn (a:Int × Int) (B:Nat) (o1 o2:Int × Int) (l1 l2:Nat->Rat):Prop where
 a0:0<a.1
 al:a.1<=a.2
 g1:IsLog l1 (λ _=>(a.1:Rat)/(Q B:Rat))
 g2:IsLog l2 (λ _=>(a.2:Rat)/(Q B:Rat))
 i1:Iv B o1 l1
 i2:Iv B o2 l2
theorem ls_has {a:Int × Int} {B:Nat} {o1 o2:Int × Int} {l1 l2 g lg:Nat->Rat} (h:LsIn a B o1 o2 l1 l2) (hg:Iv B a g) (hl:IsLog lg g):Iv B (o1.1,o2.2) lg:=by
 have low:LeN l1 lg:=λ e he=>by
  obtain⟨z,hz,kz⟩:=(show LeN (λ _=>(a.1:Rat)/(Q B:Rat)) g from λ e he=>by
   obtain⟨N,k⟩:=hg e he
   exact⟨N,λ M hM=>by have:=(k M hM).1;grind⟩).null
  exact h.g1.le hl hz 0 (λ M _=>kz M) e he
 have up:LeN lg l2:=λ e he=>by
  obtain⟨z,hz,kz⟩:=(show LeN g (λ _=>(a.2:Rat)/(Q B:Rat)) from λ e he=>by
   obtain⟨N,k⟩:=hg e he
   exact⟨N,λ M hM=>(k M hM).2⟩).null
  exact hl.le h.g2 hz 0 (λ M _=>kz M) e he
 intro e he
 obtain⟨N1,k1⟩:=low (e/2) (by grind)
 obtain⟨N2,k2⟩:=up (e/2) (by grind)
 obtain⟨N3,k3⟩:=h.i1 (e/2) (by grind)
 obtain⟨N4,k4⟩:=h.i2 (e/2) (by grind)
 refine⟨N1+N2+N3+N4,λ M hM=>?_⟩
 have x1:=k1 M (by omega)
 have x2:=k2 M (by omega)
 have x3:=(k3 M (by omega)).1
 have x4:=(k4 M (by omega)).2
 exact⟨by grind,by grind⟩
theorem zS0 {a:Int × Int} {B:Nat} {o1 o2:Int × Int} {l1 l2:Nat->Rat} (h:LsIn a B o1 o2 l1 l2) {C:Int} (hr:(a.2-a.1)*Q B<=C*a.1):o2.1-o1.2<=C:=by
 have q:=jJ B;have a0:(0:Rat)<(a.1:Rat):=by exact_mod_cast h.a0
 have VW:(0:Rat)<(a.1:Rat)/(Q B:Rat):=zF a0 q;obtain⟨δ,hδ⟩:∃ δ:Rat,δ=((a.2-a.1:Int):Rat)/(a.1:Rat):=⟨_,rfl⟩;have dm:δ*(a.1:Rat)=((a.2-a.1:Int):Rat):=by rw[hδ];exact rdm a0
 have d0:0<=δ:=by rw[hδ];exact jS a0 (by have:=jA (show 0<=a.2-a.1 by have:=h.al;omega);have e:((0:Int):Rat)=0:=rfl;rw[e] at this;grind)
 have lg:IsLog (λ M=>l1 M+δ) (λ M=>(a.1:Rat)/(Q B:Rat)*ex δ M):=h.g1.add (zCU δ)
 have le:LeN l2 (λ M=>l1 M+δ):=λ e he=>h.g2.le lg null_zero 2 (λ M hM=>by
  have k:1+δ<=ex δ M:=zJB d0 hM;have m:=Yr k (Yw VW)
  have e1:(a.1:Rat)/(Q B:Rat)*(1+δ)=(a.2:Rat)/(Q B:Rat):=by
   have r:(a.1:Rat)/(Q B:Rat)*(1+δ)=((a.1:Rat)+δ*(a.1:Rat))/(Q B:Rat):=by rw[YE,YE];grind
   rw[r,dm,Rat.intCast_sub]
   congr 1;grind
  grind) e he
 have dC:δ<=(C:Rat)/(Q B:Rat):=by
  refine jS q ?_;rw[hδ];have c:=jA hr;rw[YA,YA] at c;have r:((a.2-a.1:Int):Rat)/(a.1:Rat)*(Q B:Rat)=((a.2-a.1:Int):Rat)*(Q B:Rat)/(a.1:Rat):=by rw[YE,YE];grind
  rw[r];exact jR a0 c
 have k:=zNM (B:=B) (a:=o2) (x:=l2) (y:=λ M=>l1 M+δ) (z:=o1.2+C) h.i2 le (λ e he=>by
  obtain⟨N,kk⟩:=h.i1 e he;refine⟨N,λ M hM=>?_⟩
  have:=(kk M hM).2;rw[Rat.intCast_add,zBY]
  grind)
 omega
structure LgPr (x:Nat->Rat) (B W:Nat) (l u:Int):Prop where
 le:l<=u
 wd:u-l<=Q W
 ab:Abs (l,u) (Q (B+W))
 iv:Iv B (l,u) x
structure LbOk (B:Nat) (o:Int × Int):Prop where
 le:o.1<=o.2
 ab:Abs o (60000*Q B)
 wd:o.2-o.1<=60000000
theorem lb_of {B N N2:Nat} {n' d' c:Int} (hB:16<=B) (o9:B<=1000) (h:yU n' d') (hN:zT (lnT n' d' B) N) (X6:zT (lnT 2 1 B) N2) (k:Nat) (hk:k<=900) (h1 : -(16*(k:Int)+1)<=c) (h2:c<=16*(k:Int)+1):LbOk B (zGW (zN (lnT n' d' B) N) (zN (lnT 2 1 B) N2) c):=by
 obtain⟨b1,b2,b3⟩:=zGI (k:=c) h hB hN X6 (16*(k:Int)+1) h1 h2;have q:=zE B;refine⟨b1,b2.mono ?_,?_⟩
 ·have m:=Yt (show 16*(k:Int)+1+1<=15000 by omega) (show 0<=4*Q B by omega)
  omega
 ·have m:=Int.mul_le_mul (show 16*(k:Int)+1+1<=14402 by omega) (show 2*(((B:Int)/3+2)*6+2)<=4030 by omega) (by omega) (by omega)
  omega
theorem lgam_ok {n d:Int} {g lp x l1 l2:Nat->Rat} {B:Nat} {a o1 o2 o:Int × Int} (h:StIn n d) (E2:40<=B) (hB:B<=1000) (ha:GaV g B a) (ls:LsIn a B o1 o2 l1 l2) (hp:IsLog lp (λ _=>(stP n d (stN n d):Rat)/(stQ d (stN n d):Rat))) (io:Iv B o lp) (k1:LbOk B o1) (k2:LbOk B o2) (k3:LbOk B o) (hx:IsLog x (gmV n d g)) (Ad:∃ c:Rat,0<c/\∃ N:Nat,∀ M,N<=M->c<=g M) {L:Rat->Nat->Rat} (hL:Lns L):LgPr x B 46 (o1.1+o.1) (o2.2+o.2):=by
 obtain⟨lg,mD⟩:=zSX hL ha.iv.bdd Ad;have i1:=ls_has ls ha.iv mD;have both:=hp.add mD;have i2:Iv B (zAR (o1.1,o2.2) o) (λ M=>lg M+lp M):=i1.add io
 have iv:Iv B (o1.1+o.1,o2.2+o.2) x:=by
  have n:=hx.uniq (both.congr_r (r':=gmV n d g) (null_zero.of_eq λ M=>by unfold gmV;grind))
  exact i2.congr (n.of_eq λ M=>by grind)
 have q:=zE B;have big:=zQJ E2 hB;have BB:=Yz (show (0:Int)<=(B:Int) by omega) (show (0:Int)<=(B:Int) by omega)
 have B2:=Int.mul_le_mul (show (B:Int)<=1000 by omega) (show (B:Int)<=1000 by omega) (by omega) (by omega)
 have a0:0<a.1:=by have:=ha.lo;omega
 have al:=ha.le
 have twice:a.2<=2*a.1:=by
  have m:=Yt big (show 0<=a.2 by omega)
  have r:=ha.rel
  have s:16*(a.2-a.1)<=a.2:=by
   refine Int.le_of_mul_le_mul_right (a:=Q B) ?_ (by omega)
   have r1:16*(a.2-a.1)*Q B=16*((a.2-a.1)*Q B):=by grind
   have r2:16*(10000000*((B:Int)*(B:Int)))*a.2=16*(10000000*((B:Int)*(B:Int))*a.2):=by grind
   have r3:Q B*a.2=a.2*Q B:=Int.mul_comm _ _;omega
  omega
 have w:=zS0 ls (C:=20000000000000) (by
  have m1:=Yx twice (show 0<=10000000*((B:Int)*(B:Int)) by omega)
  have m2:=Yt (show 10000000*((B:Int)*(B:Int))<=10000000000000 by omega) (show 0<=2*a.1 by omega)
  have:=ha.rel
  omega)
 have WN:Q 46=70368744177664:=rfl;have w1:=k1.wd;have w2:=k2.wd;have w3:=k3.wd;have l3:=k3.le;have le:o1.1+o.1<=o2.2+o.2:=iv.le;refine⟨le,by omega,?_,iv⟩
 have eB:Q (B+46)=Q B*Q 46:=jF B 46;rw[WN] at eB;obtain⟨x1,x2,x3,x4⟩:=k1.ab;obtain⟨y1,y2,y3,y4⟩:=k2.ab;obtain⟨z1,z2,z3,z4⟩:=k3.ab;exact⟨by show _<=o1.1+o.1;omega,by show o1.1+o.1<=_;omega,by show _<=o2.2+o.2;omega,by show o2.2+o.2<=_;omega⟩
theorem dbl {b:Int} (m:Nat):∀ {a:Int},0<a->a<=b->b-a<=(m:Int)->∃ i,a*Q i<=b/\b<2*(a*Q i):=by
 have e0:Q 0=1:=rfl
 induction m with
 | zero =>
  intro a h1 h2 h3
  exact⟨0,by rw[e0];omega,by rw[e0];omega⟩
 | succ m ih =>
  intro a h1 h2 h3
  by_cases h:b<2*a
  ·exact⟨0,by rw[e0];omega,by rw[e0];omega⟩
  ·obtain⟨i,g1,g2⟩:=ih (a:=2*a) (by omega) (by omega) (by omega)
   have e:a*Q (i+1)=2*a*Q i:=by show a*(2*Q i)=_;grind
   exact⟨i+1,by rw[e];exact g1,by rw[e];exact g2⟩
theorem bal_ex {n d:Int} (hn:0<n) (hd:0<d):∃ n' d' k,Bal n d n' d' k:=by
 have e0:Q 0=1:=rfl
 by_cases h:d<=n
 ·obtain⟨i,h1,h2⟩:=dbl (n-d).toNat hd h (by omega)
  exact⟨n,_,_,zQ9 (j:=0) (i:=i) hn hd (by rw[e0];omega) rfl h1 h2 (Or.inl rfl)⟩
 ·obtain⟨i,h1,h2⟩:=dbl (d-n).toNat hn (Int.le_of_lt (Int.not_le.1 h)) (by omega)
  by_cases h3:n*Q i=d
  ·exact⟨_,d,_,zQ9 (j:=i) (i:=0) hn hd rfl (by rw[e0];omega) (by omega) (by omega) (Or.inr rfl)⟩
  ·have e:n*Q (i+1)=2*(n*Q i):=by show n*(2*Q i)=_;grind
   exact⟨_,d,_,zQ9 (j:=i+1) (i:=0) hn hd rfl (by rw[e0];omega) (by omega) (by omega) (Or.inr rfl)⟩
theorem log_ex {n d:Int} (hn:0<n) (hd:0<d):∃ l,IsLog l (λ _=>(n:Rat)/(d:Rat)):=by
 obtain⟨n',d',k,h⟩:=bal_ex hn hd;exact⟨_,zQ8 hd h (zFQ h.1) zSF⟩
theorem Lns_ex:∃ L,Lns L:=by
 have each:∀ x:Rat,∃ l:Nat->Rat,0<x->IsLog l (λ _=>x):=λ x=>by
  by_cases h:0<x
  ·have hn:0<x.num:=by have:=(Rat.lt_iff (0:Rat) x).1 h;simpa using this
   have hd:(0:Int)<(x.den:Int):=by exact_mod_cast x.den_pos
   obtain⟨l,hl⟩:=log_ex hn hd;have e:(x.num:Rat)/((x.den:Int):Rat)=x:=(Rat.divInt_eq_div _ _).symm.trans (Rat.num_divInt_den x);rw[e] at hl;exact⟨l,λ _=>hl⟩
  ·exact⟨λ _=>0,λ h'=>absurd h' h⟩
 obtain⟨L,hL⟩:=Classical.skolem.1 each;exact⟨L,λ x hx=>hL x hx⟩
def gA (n d:Int):Rat:=((n-(stN n d:Int)*d:Int):Rat)/(d:Rat)
structure zLD (L G:Rat->Nat->Rat) (X:Int->Int->Nat->Rat):Prop where
 lns:Lns L
 gam:∀ a,0<a->a<=1->Gam1 L a (G a)
 lg:∀ n d,StIn n d->IsLog (X n d) (gmV n d (G (gA n d)))
theorem zGB {n d:Int} (h:StIn n d):0<gA n d/\gA n d<=1:=by
 obtain⟨r1,r2,r3⟩:=h.rest;have d0:(0:Rat)<(d:Rat):=by exact_mod_cast h.d0
 have a0:(0:Rat)<((n-(stN n d:Int)*d:Int):Rat):=by exact_mod_cast r1
 exact⟨zF a0 d0,jR d0 (by have:=jA r2;grind)⟩
theorem gmV_log {L:Rat->Nat->Rat} (hL:Lns L) {n d:Int} (h:StIn n d) {g:Nat->Rat} (hg:Gam1 L (gA n d) g):∃ x,IsLog x (gmV n d g):=by
 have ig:=hg.isGam hL (zGB h).1;have p0:(0:Rat)<(stP n d (stN n d):Rat):=by exact_mod_cast zUI h (Yy _)
 have q0:(0:Rat)<(stQ d (stN n d):Rat):=by exact_mod_cast zMG h.d0 _
 have r0:=zF p0 q0;refine zSX hL ((Bdd.const _).mul ig.bdd) ?_;obtain⟨c,c0,N,hc⟩:=ig.pos;exact⟨_,Rat.mul_pos r0 c0,N,λ M hM=>Yr (hc M hM) (Yw r0)⟩
theorem genv_ex:∃ L G X,zLD L G X:=by
 obtain⟨L,hL⟩:=Lns_ex
 have e1:∀ a:Rat,∃ g:Nat->Rat,0<a->a<=1->Gam1 L a g:=λ a=>by
  by_cases h:0<a/\a<=1
  ·obtain⟨g,hg⟩:=zH8 hL h.1 h.2
   exact⟨g,λ _ _=>hg⟩
  ·exact⟨λ _=>0,λ h1 h2=>absurd ⟨h1,h2⟩ h⟩
 obtain⟨G,hG⟩:=Classical.skolem.1 e1
 have e2:∀ z:Int × Int,∃ x:Nat->Rat,StIn z.1 z.2->IsLog x (gmV z.1 z.2 (G (gA z.1 z.2))):=λ z=>by
  by_cases h:StIn z.1 z.2
  ·obtain⟨x,hx⟩:=gmV_log hL h (hG _ (zGB h).1 (zGB h).2)
   exact⟨x,λ _=>hx⟩
  ·exact⟨λ _=>0,λ h'=>absurd h' h⟩
 obtain⟨X,hX⟩:=Classical.skolem.1 e2;exact⟨L,G,λ n d=>X (n,d),hL,hG,λ n d h=>hX (n,d) h⟩
structure SuV (x:Nat->Rat) (b:Nat) (L H:Int):Prop where
 le:L<=H
 nar:zL4 L H (Q b) 4=true
 val:Iv b (L,H) x
theorem sure_su {x:Nat->Rat} {b:Nat} {Pr:Nat->Int->Int->Prop} {L H:Int} (h:zFZ b Pr L H) (hp:∀ B lo hi,Pr B lo hi->lo<=hi/\Iv B (lo,hi) x):SuV x b L H:=by
 obtain⟨m,lo,hi,pr,hm,e1,e2,h6⟩:=h;obtain⟨g1,iv⟩:=hp _ _ _ pr;obtain⟨n1,n2⟩:=sure_nar g1 e1 e2 h6;refine⟨n1,n2,?_⟩;have:=Iv.to (B:=b) (m:=m) iv;rw[e1,e2];exact this
open Go.RowKit
attribute [local go_sem ↓] Go.wp_at_zero Go.wp_at_succ
theorem zIW (w:World) (s:Sp) (b:Nat) (lo hi:Int) (h:SpAt w s 250 lo hi) (hb:s.bits=b) (b9:b<=120) (hle:lo<=hi) (hN:zL4 lo hi (Q b) 4=true) :
  Calls Tryz.prog 44 #[.agg s.q,.int .i64 4] w λ r w'=>r=.returned (.bool true)/\Below w.heap.size w w' :=
 (zKE w s b 4 lo hi h hb b9 (by omega) hle).mono λ r w' ⟨h1,h2⟩=>⟨by rw[h1];congr 2,h2⟩
theorem touch_up {b i:Nat} {a c:Int × Int} {x:Nat->Rat} (h:Iv b a x) (k:Iv (b+i) c x):zOM a.1 a.2 i c.1 c.2 0=true:=by
 have q:=zE b;have t1:=h.touch k;have t2:=k.touch h;rw[jF] at t1 t2;have e1:a.1*(Q b*Q i)=a.1*Q i*Q b:=by grind
 have e2:a.2*(Q b*Q i)=a.2*Q i*Q b:=by grind
 rw[e1] at t1;rw[e2] at t2;have c1:a.1*Q i<=c.2:=Int.le_of_mul_le_mul_right t1 (by omega)
 have c2:c.1<=a.2*Q i:=Int.le_of_mul_le_mul_right t2 (by omega)
 have e0:Q 0=1:=rfl;unfold zOM;rw[e0];simp[c1,c2]
theorem zU4 (b:Nat) (c:Int):Iv b (c*Q b,c*Q b) (λ _=>(c:Rat)):=by
 have q:=jJ b
 have e:((c*Q b:Int):Rat)/(Q b:Rat)=(c:Rat):=by
  rw[YA];exact Rat.le_antisymm (jR q Rat.le_refl) (jS q Rat.le_refl)
 refine Has.of_from 0 λ M _=>?_
 simp only[e];exact⟨Rat.le_refl,Rat.le_refl⟩
theorem zUQ {b:Nat} {L H c:Int} {x:Nat->Rat} (h:Iv b (L,H) x) (hx:Null (λ M=>(c:Rat)-x M)):zOM L H 0 (c*Q b) (c*Q b) 0=true:=by
 have k:=h.congr hx;exact touch_up (i:=0) k (zU4 b c)
theorem gA_next {n d:Int} (h0:0<n) (hd:0<d):gA (n+d) d=gA n d:=by
 unfold gA;rw[zOH hd h0]
 have e:n+d-((stN n d+1:Nat):Int)*d=n-(stN n d:Int)*d:=by
  have:((stN n d+1:Nat):Int)=(stN n d:Int)+1:=by omega
  rw[this];grind
 rw[e]
theorem zNJ {n d:Int} (h0:0<n) (hd:0<d) (g:Nat->Rat) (M:Nat):gmV (n+d) d g M=gmV n d g M*((n:Rat)/(d:Rat)):=by
 unfold gmV;rw[zOH hd h0,stP_next];have e:stQ d (stN n d+1)=stQ d (stN n d)*d:=rfl;rw[e,YA,YA];have d0:(0:Rat)<(d:Rat):=by exact_mod_cast hd
 have q0:(0:Rat)<(stQ d (stN n d):Rat):=by exact_mod_cast zMG hd _
 generalize (stP n d (stN n d):Rat)=P at *;generalize (stQ d (stN n d):Rat)=Q at *;generalize g M=y
 have k:(n:Rat)*P/(Q*(d:Rat))=P/Q*((n:Rat)/(d:Rat)):=by
  have qd:=Rat.mul_pos q0 d0;refine zX qd ?_;have e1:=rdm (a:=(n:Rat)*P) qd;have e2:=rdm (a:=P) q0;have e3:=rdm (a:=(n:Rat)) d0;have r1:Q*(d:Rat)*((n:Rat)*P/(Q*(d:Rat)))=(n:Rat)*P/(Q*(d:Rat))*(Q*(d:Rat)):=by grind
  have r2:Q*(d:Rat)*(P/Q*((n:Rat)/(d:Rat)))=P/Q*Q*((n:Rat)/(d:Rat)*(d:Rat)):=by grind
  rw[r1,r2,e1,e2,e3];grind
 rw[k];grind
namespace Ex
theorem IsGam.congr {L:Rat->Nat->Rat} {a:Rat} {g g':Nat->Rat} (h:IsGam L a g) (e:∀ M,g' M=g M):IsGam L a g':=by
 have:g'=g:=funext e;rw[this];exact h
end Ex
theorem zSE {L : Rat → Nat → Rat} (hL : Lns L) {n d : Int} {g : Nat → Rat} (h0 : 0 < n) (h1 : n ≤ d) (hg : Gam1 L ((n : Rat) / (d : Rat)) g) (k : Nat) : IsGam L (((n + (k : Int) * d : Int) : Rat) / (d : Rat)) (gmV (n + (k : Int) * d) d g) := by
  have d0 : 0 < d := by omega
  have dr : (0 : Rat) < (d : Rat) := by exact_mod_cast d0
  have nr : (0 : Rat) < (n : Rat) := by exact_mod_cast h0
  induction k with
  | zero =>
    have e : n + ((0 : Nat) : Int) * d = n := by have : ((0 : Nat) : Int) = 0 := rfl
                                                 rw [this]; omega
    rw [e]
    refine (hg.isGam hL (zF nr dr)).congr fun M => ?_
    have s : stN n d = 0 := by unfold stN; rw [Int.ediv_eq_zero_of_lt (by omega) (by omega)]; rfl
    unfold gmV
    rw [s]
    show ((1 : Int) : Rat) / ((1 : Int) : Rat) * g M = g M
    have : ((1 : Int) : Rat) / ((1 : Int) : Rat) = 1 := by decide +kernel
    rw [this]; grind
  | succ k ih =>
    have kd := Int.mul_nonneg (show (0 : Int) ≤ (k : Int) by omega) (show 0 ≤ d by omega)
    have e : n + ((k + 1 : Nat) : Int) * d = n + (k : Int) * d + d := by
      have : ((k + 1 : Nat) : Int) = (k : Int) + 1 := by omega
      rw [this]; grind
    have p : 0 < n + (k : Int) * d := by omega
    have pr' : (0 : Rat) < ((n + (k : Int) * d : Int) : Rat) := by exact_mod_cast p
    have nx := ih.next hL (zF pr' dr)
    rw [e]
    have ea : ((n + (k : Int) * d + d : Int) : Rat) / (d : Rat) = ((n + (k : Int) * d : Int) : Rat) / (d : Rat) + 1 := by
      rw [Rat.intCast_add (n + (k : Int) * d) d, zBY]
      have : (d : Rat) / (d : Rat) = 1 := Rat.le_antisymm (jR dr (by grind)) (jS dr (by grind))
      rw [this]
    rw [ea]
    refine nx.congr fun M => ?_
    rw [zNJ p d0]; grind
theorem zCE {L G:Rat->Nat->Rat} {X:Int->Int->Nat->Rat} (hE:zLD L G X) {n d:Int} (h:StIn n d):IsGam L ((n:Rat)/(d:Rat)) (gmV n d (G (gA n d))):=by
 obtain⟨r1,r2,r3⟩:=h.rest;have k:=zSE hE.lns r1 r2 (hE.gam _ (zGB h).1 (zGB h).2) (stN n d);have e:n-(stN n d:Int)*d+(stN n d:Int)*d=n:=by omega
 rw[e] at k;exact k
open Ex
namespace Ex
def lw (L:Rat->Nat->Rat) (a x:Rat) (g:Nat->Rat) (M:Nat):Rat:=uG L a x M*(1/g M)
theorem zBL {g:Nat->Rat} (h:∃ c:Rat,0<c/\∃ N:Nat,∀ M,N<=M->c<=g M):Bdd (λ M=>1/g M)/\Nn (λ M=>1/g M)/\∃ N:Nat,∀ M,N<=M->g M*(1/g M)=1/\0<g M/\0<=1/g M:=by
 obtain⟨c,c0,N,hc⟩:=h
 have one:∀ M,N<=M->g M*(1/g M)=1/\0<g M/\0<=1/g M:=λ M hM=>by
  have g0:0<g M:=by have:=hc M hM;grind
  have:=rdm (a:=1) g0;exact⟨by grind,g0,jL g0 (by grind)⟩
 refine⟨Bdd.of_le (1/c) N λ M hM=>?_,⟨N,λ M hM=>(one M hM).2.2⟩,N,one⟩
 obtain⟨e1,e2,e3⟩:=one M hM;have ic:0<=1/c:=jL c0 (by grind)
 refine⟨by grind,zBO e2 ?_⟩
 have m:=Yr (hc M hM) ic;have:=rdm (a:=1) c0;grind
theorem lw_bdd {L:Rat->Nat->Rat} (hL:Lns L) {a x:Rat} {g:Nat->Rat} (ha:0<a) (hx:0<x) (h:IsGam L a g):Bdd (lw L a x g):=(zUT hL ha hx).mul (zBL h.pos).1
theorem lw_nn {L:Rat->Nat->Rat} (hL:Lns L) {a x:Rat} {g:Nat->Rat} (ha:0<a) (hx:0<x) (h:IsGam L a g):Nn (lw L a x g):=(uG_nn hL ha hx).mul (zBL h.pos).2.1
theorem lw_mono {L:Rat->Nat->Rat} (hL:Lns L) {a x y:Rat} {g:Nat->Rat} (ha:0<a) (hx:0<x) (K6:x<=y) (h:IsGam L a g):LeN (lw L a x g) (lw L a y g) :=
 (zI7 hL ha hx K6).bmul (zBL h.pos).1 (zBL h.pos).2.1
theorem zS3 {L:Rat->Nat->Rat} {a x:Rat} {g:Nat->Rat} (hx:0<x) (h:IsGam L a g):LeN (lw L a x g) (λ _=>1):=by
 obtain⟨i1,i2,N,i3⟩:=zBL h.pos;exact ((h.lo x hx).bmul i1 i2).trans (LeN.of_le N λ M hM=>by have:=(i3 M hM).1;grind)
theorem lw_far {L:Rat->Nat->Rat} (hL:Lns L) {a x:Rat} {g:Nat->Rat} {k:Rat} (ha:0<a) (dO:1<=x) (bh:2*a<=x+2) (hk:0<k) (N0:Nat) (hs:∀ M,N0<=M->2*k<=x*uS a x M) (h:IsGam L a g):LeN (λ _=>1-1/k) (lw L a x g):=by
 have hx:0<x:=by grind
 obtain⟨i1,i2,N,i3⟩:=zBL h.pos;have n1:=(zON hL hx a).bmul (zDX ha (Yw hx));obtain⟨N2,e2⟩:=zP5 hL hx a
 have l1:LeN (λ M=>2*k*uE L a x M) (uG L a x):=by
  refine LeN.of_null n1 (N0+N2) λ M hM=>?_
  have u0:=e2 M (by omega)
  have m:=Yv (hs M (by omega)) u0
  unfold uG;generalize uE L a x M=ue at *;generalize uS a x M=s at *;generalize pr L a x M=p at *;generalize ex (-x) M=y at *;grind
 have l2:=l1.trans (h.lo x hx);have l3:=h.hi x dO bh;have ik:0<=1/k:=jL hk (by grind)
 have dk:=rdm (a:=1) hk
 have l4:LeN g (λ M=>uG L a x M+1/k*g M):=by
  refine l3.trans (LeN.trans ?_ ((LeN.refl (uG L a x)).add (l2.cmul ik)));refine LeN.of_le 0 λ M _=>?_
  generalize uE L a x M=ue;generalize uG L a x M=u;generalize 1/k=i at *;have:i*(2*k*ue)=2*(i*k*ue):=by grind
  rw[this,dk];grind
 have l5:=l4.bmul i1 i2;refine LeN.trans ?_ (LeN.trans (l5.add (LeN.refl (λ _ => -(1/k)))) ?_)
 ·refine LeN.of_le N λ M hM=>?_
  have:=(i3 M hM).1;grind
 ·refine LeN.of_le N λ M hM=>?_
  have:=(i3 M hM).1;unfold lw;generalize 1/g M=j at *;generalize uG L a x M=u at *;generalize 1/k=i at *;have:(u+i*g M)*j=u*j+i*(g M*j):=by grind
  rw[this,(show g M*j=1 by grind)]
  grind
theorem zNY {F l s:Nat->Rat} (hF:∃ c:Rat,0<c/\∃ N:Nat,∀ M,N<=M->c<=F M) (h:Null (λ M=>F M*l M-s M)):Null (λ M=>l M-s M/F M):=by
 obtain⟨i1,i2,N,i3⟩:=zBL hF;refine (h.bmul i1).of_eq_from N λ M hM=>?_
 obtain⟨e1,e2,e3⟩:=i3 M hM;have d:=rdm (a:=s M) e2;refine zX (c:=F M) e2 ?_;have r1:F M*(l M-s M/F M)=F M*l M-s M/F M*F M:=by grind
 have r2:F M*((F M*l M-s M)*(1/F M))=(F M*l M-s M)*(F M*(1/F M)):=by grind
 rw[r1,r2,d,e1];grind
def lwY (L:Rat->Nat->Rat) (a x:Rat) (X:Nat->Rat) (M:Nat):Rat:=x-a*L x M+X M
theorem zS2 {L:Rat->Nat->Rat} (hL:Lns L) {a x:Rat} (hx:0<x) {X g1:Nat->Rat} (hX:IsLog X g1):Bdd (lwY L a x X):=((Bdd.const x).sub (kG hL hx a)).add hX.1
theorem zS4 {L:Rat->Nat->Rat} (hL:Lns L) {a x:Rat} {g X:Nat->Rat} (ha:0<a) (hx:0<x) (h:IsGam L a g) (hX:IsLog X (λ M=>a*g M)):Null (λ M=>Ev (lwY L a x X) M*lw L a x g M-a*uS a x M):=by
 obtain⟨i1,i2,N,i3⟩:=zBL h.pos;have by_:Bdd (λ M=>x-a*L x M):=(Bdd.const x).sub (kG hL hx a)
 have n1:=(zAK by_ hX.1).bmul (lw_bdd hL ha hx h);have n2:=(hX.2.bmul (zAE by_)).bmul (lw_bdd hL ha hx h);have n3:=(zUW hL ha hx).bmul ((zAE by_).mul (Bdd.const a));obtain⟨c,c0,N2,hc⟩:=zB7 by_;refine (((n1.neg).add n2).add n3).of_eq_from (N+N2) λ M hM=>?_
 obtain⟨e1,e2,e3⟩:=i3 M (by omega)
 have ep:0<Ev (λ M=>x-a*L x M) M:=by have:=hc M (by omega);grind
 have d:=rdm (a:=uS a x M) ep;have eY:Ev (lwY L a x X) M=Ev (λ M=>x-a*L x M+X M) M:=rfl
 dsimp only
 rw[eY];unfold lw;generalize Ev (λ M=>x-a*L x M+X M) M=v at *
 generalize Ev (λ M=>x-a*L x M) M=y at *
 generalize Ev X M=xx at *;generalize uG L a x M=u at *;generalize uS a x M=s at *;generalize 1/g M=j at *;generalize s/y=t at *;generalize g M=gg at *;clear n1 n2 n3 i1 i2 i3 h hX hc;have r1:y*(a*gg)*(u*j)=a*y*u*(gg*j):=by grind
 have r2:a*(t*y)=a*s:=by rw[d]
 rw[e1] at r1;grind
theorem lw_quot {L:Rat->Nat->Rat} (hL:Lns L) {a x:Rat} {g X:Nat->Rat} (ha:0<a) (hx:0<x) (h:IsGam L a g) (hX:IsLog X (λ M=>a*g M)):Null (λ M=>lw L a x g M-a*uS a x M/Ev (lwY L a x X) M) :=
 zNY (zB7 (zS2 hL hx hX)) (zS4 hL ha hx h hX)
theorem zPN {L:Rat->Nat->Rat} (hL:Lns L) {a x:Rat} {g X:Nat->Rat} (ha:0<a) (hx:0<x) (h:IsGam L a g) (hX:IsLog X (λ M=>a*g M)):LeN (λ _=>0) (lwY L a x X):=by
 have bY:=zS2 (a:=a) hL hx hX
 have l1:LeN (λ M=>a*uS a x M) (Ev (lwY L a x X)):=by
  refine (LeN.of_eqN (Null.symm (zS4 hL ha hx h hX))).trans ?_;have l:=(zS3 hx h).bmul (zAE bY) (zQF bY);exact LeN.trans (LeN.of_le 0 λ M _=>by grind) (l.trans (LeN.of_le 0 λ M _=>by grind))
 have l2:LeN (λ _=>1) (Ev (lwY L a x X)):=by
  refine LeN.trans (LeN.of_le 1 λ M hM=>?_) l1
  obtain⟨m,rfl⟩:∃ m,M=m+1:=⟨M-1,by omega⟩
  have f:=zFY ha (Yw hx) m;have k:=Yr f (Yw ha);have d:=rdm (a:=1) ha;grind
 obtain⟨z,hz,kz⟩:=l2.null
 intro e he
 exact zLC (Bdd.const 0) bY hz 1 (λ M hM=>by
  obtain⟨m,rfl⟩:∃ m,M=m+1:=⟨M-1,by omega⟩
  have e0:Ev (λ _=>(0:Rat)) (m+1)=1:=kV m
  rw[e0];exact kz (m+1)) e he
end Ex
end Go.Proofs.YtgmnknmjainabacGreat
