/-
  Its own texts.
-/
import Derived.Test.YtgmnknmjainabacGreatK18
set_option maxRecDepth 100000
set_option maxHeartbeats 40000000
set_option linter.unusedVariables false
namespace Go.Proofs.YtgmnknmjainabacGreat.Ex
theorem zG4 {L:Rat->Nat->Rat} (hL:Lns L) {a b:Rat} (ha:0<a) (hb:0<b):∃ c:Rat,0<c/\∃ N:Nat,∀ M,N<=M->c<=bJ L a b M:=by
 obtain⟨c1,p1,N1,h1⟩:=zB7 (kG hL (show (0:Rat)<1/2 by grind) a)
 obtain⟨c2,p2,N2,h2⟩:=zB7 (kG hL (show (0:Rat)<1/2 by grind) b)
 obtain⟨N3,h3⟩:=zQY hL hb ha (show (0:Rat)<1/2 by grind) (by grind)
 have ip:0<1/a:=zF (by grind) ha
 refine⟨c1*c2*(1/a),Rat.mul_pos (Rat.mul_pos p1 p2) ip,N1+N2+N3+1,λ M hM=>?_⟩
 obtain⟨m,rfl⟩:∃ m,M=m+1:=⟨M-1,by omega⟩
 have f:=zM1 ha hb (show (0:Rat)<=1/2 by grind) m
 have a1:c1<=pr L a (1/2) (m+1):=h1 (m+1) (by omega)
 have a2:c2<=pr L b (1/2) (m+1):=h2 (m+1) (by omega)
 have a3:=h3 (m+1) (by omega)
 have e:(1:Rat)-1/2=1/2:=by grind
 have b':c1*c2<=bP L a b (1/2) (m+1):=by
  unfold bP;rw[e];exact Rat.le_trans (Yv a1 (Yw p2)) (Yr a2 (by grind))
 have c0:=Ys (Yw p1) (Yw p2);have k:c1*c2*(1/a)<=bH L a b (1/2) (m+1):=Rat.le_trans (Yv b' (Yw ip)) (Yr f (by grind))
 unfold bJ;grind
def bv (L:Rat->Nat->Rat) (a b x:Rat) (M:Nat):Rat:=bH L a b x M*(1/bJ L a b M)
theorem bv_bdd {L:Rat->Nat->Rat} (hL:Lns L) {a b x:Rat} (ha:0<a) (hb:0<b) (hx:0<x) (h1:x<1):Bdd (bv L a b x):=(zQX hL ha hb hx h1).mul (zBL (zG4 hL ha hb)).1
theorem bv_nn {L:Rat->Nat->Rat} (hL:Lns L) {a b x:Rat} (ha:0<a) (hb:0<b) (hx:0<x) (h1:x<1):Nn (bv L a b x):=(zQY hL ha hb hx h1).mul (zBL (zG4 hL ha hb)).2.1
theorem bv_mono {L:Rat->Nat->Rat} (hL:Lns L) {a b x y:Rat} (ha:0<a) (hb:0<b) (hx:0<x) (K6:x<=y) (hy:y<1):LeN (bv L a b x) (bv L a b y) :=
 (bH_mono hL ha hb hx K6 hy).bmul (zBL (zG4 hL ha hb)).1 (zBL (zG4 hL ha hb)).2.1
theorem zRI {L:Rat->Nat->Rat} (hL:Lns L) {a b x:Rat} (ha:0<a) (hb:0<b) (hx:0<x) (h1:x<1):Null (λ M=>bv L a b x M-(1-bv L b a (1-x) M)):=by
 obtain⟨i1,i2,N,i3⟩:=zBL (zG4 hL ha hb);refine ((bJ_at hL ha hb hx h1).bmul i1).of_eq_from N λ M hM=>?_
 obtain⟨e1,e2,e3⟩:=i3 M hM;unfold bv;rw[zQ1 L b a M];generalize 1/bJ L a b M=j at *;generalize bJ L a b M=B at *;generalize bH L a b x M=u at *;generalize bH L b a (1-x) M=v at *;have:(u+v-B)*j=u*j+v*j-B*j:=by grind
 rw[this,e1];grind
theorem zRG {L:Rat->Nat->Rat} (hL:Lns L) {a b x:Rat} (ha:0<a) (hb:0<b) (hx:0<x) (h1:x<1):LeN (bv L a b x) (λ _=>1):=by
 obtain⟨N,hN⟩:=bv_nn hL hb ha (show 0<1-x by grind) (by grind)
 exact LeN.of_null (zRI hL ha hb hx h1) N λ M hM=>by have:=hN M hM;grind
theorem pr_inv {L:Rat->Nat->Rat} (hL:Lns L) {x y:Rat} (hx:0<x) (hy:0<y) (e:x*y=1) (c:Rat):Null (λ M=>Ev (λ M=>c*L y M) M*pr L c x M-1):=by
 have l:=(hL y hy).add (hL x hx);have e':(λ (_:Nat)=>y*x)=λ _=>1:=by funext _;grind
 rw[e'] at l;have n:=isLog_one.uniq l;have a:=zAK (kG hL hy c) (kG hL hx c);have k:=zD4 (x:=λ M=>c*L y M+c*L x M) (y:=λ _=>0) ((kG hL hy c).add (kG hL hx c)) (Bdd.const 0) ((n.bmul (Bdd.const (-c))).of_eq λ M=>by grind)
 have z:Null (λ M=>Ev (λ _=>(0:Rat)) M-1):=null_zero.of_eq_from 1 λ M hM=>by
  obtain⟨m,rfl⟩:∃ m,M=m+1:=⟨M-1,by omega⟩
  have e0:Ev (λ _=>(0:Rat)) (m+1)=1:=kV m
  rw[e0];grind
 exact ((a.add k).add z).of_eq λ M=>by unfold pr;grind
def bY (L:Rat->Nat->Rat) (a b y z:Rat) (X:Nat->Rat) (M:Nat):Rat:=a*L y M+b*L z M+(L a M+X M)
theorem bY_bdd {L:Rat->Nat->Rat} (hL:Lns L) {a b y z:Rat} (ha:0<a) (hy:0<y) (hz:0<z) {X J:Nat->Rat} (hX:IsLog X J):Bdd (bY L a b y z X):=((kG hL hy a).add (kG hL hz b)).add ((hL a ha).1.add hX.1)
theorem zRH {L:Rat->Nat->Rat} (hL:Lns L) {a b x y z:Rat} {X:Nat->Rat} (ha:0<a) (hb:0<b) (hx:0<x) (h1:x<1) (hy:x*y=1) (hz:(1-x)*z=1) (y0:0<y) (z0:0<z) (hX:IsLog X (bJ L a b)):Null (λ M=>Ev (bY L a b y z X) M*bv L a b x M-a*bS a b x M):=by
 have x1:0<1-x:=by grind
 obtain⟨i1,i2,N,i3⟩:=zBL (zG4 hL ha hb);have l:=(hL a ha).add hX;have b1:=kG hL y0 a;have b2:=kG hL z0 b;have s1:=zAK b1 b2;have s2:=zAK (b1.add b2) l.1;have bb:=bv_bdd hL ha hb hx h1;have n1:=s2.neg.bmul bb;have n2:=(s1.neg.bmul (zAE l.1)).bmul bb;have n3:=(l.2.bmul ((zAE b1).mul (zAE b2))).bmul bb;have p1:=(pr_inv hL hx y0 hy a).bmul (((zAE b2).mul (kM hL x1 b)).mul ((Bdd.const a).mul (zE7 ha hb (Yw hx) h1)));have p2:=(pr_inv hL x1 z0 hz b).bmul ((Bdd.const a).mul (zE7 ha hb (Yw hx) h1));refine (((n1.add n2).add n3).add (p1.add p2)).of_eq_from N λ M hM=>?_
 obtain⟨e1,e2,e3⟩:=i3 M hM;have eY:Ev (bY L a b y z X) M=Ev (λ M=>a*L y M+b*L z M+(L a M+X M)) M:=rfl
 rw[eY];unfold bv bH bP
 dsimp only
 generalize Ev (λ M=>a*L y M+b*L z M+(L a M+X M)) M=v at *
 generalize Ev (λ M=>a*L y M+b*L z M) M=v2 at *
 generalize Ev (λ M=>a*L y M) M=v3 at *
 generalize Ev (λ M=>b*L z M) M=v4 at *
 generalize Ev (λ M=>L a M+X M) M=v5 at *
 generalize pr L a x M=p at *;generalize pr L b (1-x) M=r at *;generalize bS a b x M=s at *;generalize 1/bJ L a b M=j at *;generalize bJ L a b M=B at *;clear n1 n2 n3 p1 p2 s1 s2 bb l b1 b2 i1 i2 i3 hX eY;have r1:v3*v4*(a*B)*(p*r*s*j)=a*(v3*p)*(v4*r)*s*(B*j):=by grind
 rw[e1] at r1;grind
theorem bv_quot {L:Rat->Nat->Rat} (hL:Lns L) {a b x y z:Rat} {X:Nat->Rat} (ha:0<a) (hb:0<b) (hx:0<x) (h1:x<1) (hy:x*y=1) (hz:(1-x)*z=1) (y0:0<y) (z0:0<z) (hX:IsLog X (bJ L a b)):Null (λ M=>bv L a b x M-a*bS a b x M/Ev (bY L a b y z X) M) :=
 zNY (zB7 (bY_bdd hL ha y0 z0 hX)) (zRH hL ha hb hx h1 hy hz y0 z0 hX)
theorem zQ7 {L:Rat->Nat->Rat} (hL:Lns L) {a b x y z:Rat} {X:Nat->Rat} (ha:0<a) (hb:0<b) (hx:0<x) (h1:x<1) (hy:x*y=1) (hz:(1-x)*z=1) (y0:0<y) (z0:0<z) (hX:IsLog X (bJ L a b)):LeN (λ _=>0) (bY L a b y z X):=by
 have bY:=bY_bdd (b:=b) hL ha y0 z0 hX
 have l1:=(LeN.of_eqN (Null.symm (zRH hL ha hb hx h1 hy hz y0 z0 hX))).trans (by
  have l:=(zRG hL ha hb hx h1).bmul (zAE bY) (zQF bY)
  exact LeN.trans (LeN.of_le 0 λ M _=>by grind) (l.trans (LeN.of_le 0 λ M _=>by show 1*Ev (Ex.bY L a b y z X) M<=Ev (Ex.bY L a b y z X) M;grind)))
 have l2:LeN (λ _=>1) (Ev (Ex.bY L a b y z X)):=by
  refine LeN.trans (LeN.of_le 1 λ M hM=>?_) l1
  obtain⟨m,rfl⟩:∃ m,M=m+1:=⟨M-1,by omega⟩
  have f:=zM1 ha hb (Yw hx) m;have k:=Yr f (Yw ha);have d:=rdm (a:=1) ha;grind
 obtain⟨z',RG,kz⟩:=l2.null
 intro e he
 exact zLC (Bdd.const 0) bY RG 1 (λ M hM=>by
  obtain⟨m,rfl⟩:∃ m,M=m+1:=⟨M-1,by omega⟩
  have e0:Ev (λ _=>(0:Rat)) (m+1)=1:=kV m
  rw[e0];exact kz (m+1)) e he
theorem bJ_log {L:Rat->Nat->Rat} (hL:Lns L) {a b:Rat} {ga gb gab X Y Z:Nat->Rat} (ha:0<a) (hb:0<b) (h1:IsGam L a ga) (h2:IsGam L b gb) (h3:IsGam L (a+b) gab) (lx:IsLog X ga) (ly:IsLog Y gb) (lz:IsLog Z gab):IsLog (λ M=>X M+Y M-Z M) (bJ L a b):=by
 obtain⟨i1,i2,N,i3⟩:=zBL h3.pos;have lz':=lz.neg (s:=λ M=>1/gab M) i1 N (λ M hM=>by have:=(i3 M hM).1;grind)
 have l:=(lx.add ly).add lz';have e:(λ M=>X M+Y M + -Z M)=λ M=>X M+Y M-Z M:=by funext M;grind
 rw[e] at l;refine l.congr_r (((zOY hL ha hb h1 h2 h3).bmul i1).neg.of_eq_from N λ M hM=>?_)
 obtain⟨e1,e2,e3⟩:=i3 M hM;generalize 1/gab M=j at *;generalize bJ L a b M=B at *;have:(B*gab M-ga M*gb M)*j=B*(gab M*j)-ga M*gb M*j:=by grind
 rw[this,e1];grind
end Go.Proofs.YtgmnknmjainabacGreat.Ex
namespace Go.Proofs.YtgmnknmjainabacGreat
open Ex
structure zP9 (a:Int × Int) (u d:Nat->Int):Prop where
 ok:zQM u d
 a0:0<a.1
 al:a.1<=a.2
 aw:a.2-a.1<=1
 mono:∀ n,d (n+2)<=u (n+2)->d (n+1)<=u (n+1)
theorem zAB {a:Int × Int} {u d:Nat->Int} (h:zP9 a u d) (k:Nat):0<=(riT a u d k).1/\(riT a u d k).1<=(riT a u d k).2:=⟨zAO h.ok (by have:=h.a0;omega) k,zEK h.ok h.al k⟩
theorem se_rise {a:Int × Int} {u d:Nat->Int} (h:zP9 a u d) (k:Nat) (hk:d (k+1)<=u (k+1)):a.2<=(riT a u d k).2:=by
 induction k with
 | zero=>exact Int.le_refl _
 | succ k ih =>
  have qM:=h.mono k hk;have i:=ih qM;obtain⟨e1,e2⟩:=zAB h k;have p:=h.ok.d0 (k+1);have c:=zEW ((riT a u d k).2*u (k+1)) p;have m:=Yx qM (show 0<=(riT a u d k).2 by omega)
  refine Int.le_trans i ?_;refine Int.le_of_mul_le_mul_right (a:=d (k+1)) ?_ p;exact Int.le_trans m c
theorem zOC {a:Int × Int} {u d:Nat->Int} (h:zP9 a u d) (k:Nat):((riT a u d k).2-(riT a u d k).1)*a.2<=(1+2*(k:Int))*((riT a u d k).2+a.2):=by
 have a0:=h.a0;have al:=h.al;obtain⟨e1,e2⟩:=zAB h k;have w:=zN9 h.ok (show 0<=a.1 by omega) al (by omega) h.aw (λ k hk=>se_rise h k hk) k
 refine Int.le_trans w (Yx ?_ (by omega))
 split<;>omega
theorem zFW {a:Int × Int} {u d:Nat->Int} (h:zP9 a u d) (k:Nat):((jE (riT a u d) k).2-(jE (riT a u d) k).1)*a.2<=(1+2*(k:Int))*((jE (riT a u d) k).2+((k:Int)+1)*a.2)/\a.2<=(jE (riT a u d) k).2/\a.1<=(jE (riT a u d) k).1:=by
 have a0:=h.a0;have al:=h.al;have a2:0<=a.2:=by omega
 induction k with
 | zero =>
  have w:=zOC h 0;refine⟨?_,Int.le_refl _,Int.le_refl _⟩
  show ((riT a u d 0).2-(riT a u d 0).1)*a.2<=(1+2*((0:Nat):Int))*((riT a u d 0).2+(((0:Nat):Int)+1)*a.2)
  have e:((0:Nat):Int)=0:=rfl;rw[e] at w ⊢;generalize ((riT a u d 0).2-(riT a u d 0).1)*a.2=z at *;omega
 | succ k ih =>
  obtain⟨i1,i3,i4⟩:=ih;have w:=zOC h (k+1);obtain⟨e1,e2⟩:=zAB h (k+1);have IC:(jE (riT a u d) (k+1)).1=(jE (riT a u d) k).1+(riT a u d (k+1)).1:=rfl;have ID:(jE (riT a u d) (k+1)).2=(jE (riT a u d) k).2+(riT a u d (k+1)).2:=rfl;have ec:((k+1:Nat):Int)=(k:Int)+1:=by omega
  refine⟨?_,by omega,by omega⟩
  rw[IC,ID];rw[ec] at w ⊢;generalize (jE (riT a u d) k).2=S2 at *;generalize (jE (riT a u d) k).1=S1 at *;generalize (riT a u d (k+1)).2=T2 at *;generalize (riT a u d (k+1)).1=T1 at *;generalize a.2=A at *;have k0:(0:Int)<=(k:Int):=by omega
  have m1:=Yz k0 a2;have r0:((k:Int)+1)*A=(k:Int)*A+A:=by grind
  have m2:(1+2*(k:Int))*(S2+((k:Int)+1)*A)<=(1+2*((k:Int)+1))*(S2+((k:Int)+1)*A):=Yt (by omega) (by omega)
  have r1:(S2+T2-(S1+T1))*A=(S2-S1)*A+(T2-T1)*A:=by grind
  have r2:(1+2*((k:Int)+1))*(S2+T2+((k:Int)+1+1)*A)=(1+2*((k:Int)+1))*(S2+((k:Int)+1)*A)+(1+2*((k:Int)+1))*(T2+A):=by grind
  rw[r1,r2];omega
theorem se_ok {a:Int × Int} {u d:Nat->Int} (h:zP9 a u d) (N:Nat):a.1<=(kY (riT a u d) N).1/\(kY (riT a u d) N).1<=(kY (riT a u d) N).2/\((kY (riT a u d) N).2-(kY (riT a u d) N).1)*a.2<=((1+2*(N:Int))*((N:Int)+2)+9)*(kY (riT a u d) N).2:=by
 obtain⟨w1,w3,w4⟩:=zFW h N;have a0:=h.a0;have al:=h.al;have e1:(kY (riT a u d) N).1=(jE (riT a u d) N).1+0:=rfl;have e2:(kY (riT a u d) N).2=(jE (riT a u d) N).2+9:=rfl;have sl:(jE (riT a u d) N).1<=(jE (riT a u d) N).2:=zGR (λ k=>(zAB h k).2) N
 refine⟨by omega,by omega,?_⟩
 rw[e1,e2];generalize (jE (riT a u d) N).2=S2 at *;generalize (jE (riT a u d) N).1=S1 at *;generalize a.2=A at *
 have m1:(1+2*(N:Int))*(S2+((N:Int)+1)*A)<=(1+2*(N:Int))*(((N:Int)+2)*(S2+9)):=Yx (by
  have a:=Yx (show A<=S2+9 by omega) (show 0<=(N:Int)+1 by omega)
  have e:((N:Int)+2)*(S2+9)=((N:Int)+1)*(S2+9)+(S2+9):=by grind
  omega) (by omega)
 have r:(S2+9-(S1+0))*A=(S2-S1)*A+9*A:=by grind
 have r2:((1+2*(N:Int))*((N:Int)+2)+9)*(S2+9)=(1+2*(N:Int))*(((N:Int)+2)*(S2+9))+9*(S2+9):=by grind
 rw[r,r2];omega
theorem se_hi1 {a:Int × Int} {u d:Nat->Int} (h:zP9 a u d) {H c:Nat} (h0:a.2<=Q H) (hc:∀ k,u (k+1)<=Q c*d (k+1)) (k:Nat):(riT a u d k).2<=Q (H+c*k):=by
 induction k with
 | zero=>exact h0
 | succ k ih =>
  obtain⟨e1,e2⟩:=zAB h k;have m:=zJP (x:=(riT a u d k).2) (u:=u (k+1)) (v:=d (k+1)) (c:=Q c) (h.ok.d0 (k+1)) (by omega) (hc k)
  have e:Q (H+c*(k+1))=Q c*Q (H+c*k):=by rw[<- jF];congr 1;rw[Nat.mul_succ];omega
  have m2:=Yx ih (show 0<=Q c by have:=zE c;omega)
  show -(-((riT a u d k).2*u (k+1))/d (k+1))<=_
  omega
theorem zT9 {a:Int × Int} {u d:Nat->Int} (h:zP9 a u d) {H c turn:Nat} (h0:a.2<=Q H) (hH:2<=H) (hc:∀ k,u (k+1)<=Q c*d (k+1)) (iM:∀ k,turn<=k->4*u (k+1)<=3*d (k+1)) (k:Nat):(riT a u d k).2<=Q (H+c*turn):=by
 by_cases hk:k<=turn
 ·exact Int.le_trans (se_hi1 h h0 hc k) (zJ (Nat.add_le_add_left (Nat.mul_le_mul_left c hk) H))
 ·obtain⟨j,rfl⟩:∃ j,k=turn+j:=⟨k-turn,by omega⟩
  have big:3<=Q (H+c*turn):=by have:=zJ (show 2<=H+c*turn by omega);have:Q 2=4:=rfl;omega
  clear hk
  induction j with
  | zero=>exact se_hi1 h h0 hc _
  | succ j ih =>
   obtain⟨e1,e2⟩:=zAB h (turn+j);have f:=zNB (x:=(riT a u d (turn+j)).2) (h.ok.d0 (turn+j+1)) (by omega) (iM (turn+j) (by omega))
   have e:(riT a u d (turn+(j+1))).2 = -(-((riT a u d (turn+j)).2*u (turn+j+1))/d (turn+j+1)):=rfl;rw[e];omega
theorem zUA {a:Int × Int} {u d:Nat->Int} (h:zP9 a u d) {H c turn:Nat} (h0:a.2<=Q H) (hH:2<=H) (hc:∀ k,u (k+1)<=Q c*d (k+1)) (iM:∀ k,turn<=k->4*u (k+1)<=3*d (k+1)):∃ N,N<=turn+3*(H+c*turn+1)/\yS (riT a u d) turn N :=
 zMD h.ok (show 0<=a.1 by have:=h.a0;omega) h.al iM (by
  have a':=zT9 h h0 hH hc iM turn;have e:Q (H+c*turn+1)=2*Q (H+c*turn):=rfl;have:=zE (H+c*turn)
  omega)
theorem zT8 {a:Int × Int} {u d:Nat->Int} (h:zP9 a u d) {H c turn:Nat} (h0:a.2<=Q H) (hH:4<=H) (hc:∀ k,u (k+1)<=Q c*d (k+1)) (iM:∀ k,turn<=k->4*u (k+1)<=3*d (k+1)) (k:Nat) (hk:k<=1000000):(jE (riT a u d) k).2+9<=Q (H+c*turn+21):=by
 obtain⟨F,hF⟩:∃ F,F=H+c*turn:=⟨_,rfl⟩;have hi:∀ j,(riT a u d j).2<=Q F:=λ j=>by rw[hF];exact zT9 h h0 (by omega) hc iM j
 have s:∀ j:Nat,(jE (riT a u d) j).2<=((j:Int)+1)*Q F:=λ j=>by
  induction j with
  | zero =>
   have:=hi 0
   show (riT a u d 0).2<=(((0:Nat):Int)+1)*Q F
   have e:((0:Nat):Int)=0:=rfl;rw[e];omega
  | succ j ih =>
   have:=hi (j+1);have e:(jE (riT a u d) (j+1)).2=(jE (riT a u d) j).2+(riT a u d (j+1)).2:=rfl;have ec:((j+1:Nat):Int)+1=((j:Int)+1)+1:=by omega
   have r:(((j:Int)+1)+1)*Q F=((j:Int)+1)*Q F+Q F:=by grind
   rw[e,ec,r];omega
 have a':=s k;have q:=zE F;have big:9<=Q F:=by have:=zJ (show 4<=F by omega);have:Q 4=16:=rfl;omega
 have m:=Yt (show (k:Int)+1<=1000001 by omega) (show 0<=Q F by omega)
 have e:Q (F+21)=Q F*Q 21:=jF F 21;have sI:Q 21=2097152:=rfl;rw[sI] at e;rw[<- hF];omega
theorem zI3 {B:Nat} {d:Int × Int} {c:Int} (hd:d.1<=d.2) (hc:0<=c) (t:Nat) (hq:Q t*c<=Q B) (h:Q B-c<=d.1):Q B-Q t*c<=(sqI B d t).1/\(sqI B d t).1<=(sqI B d t).2:=by
 have q:=zE B
 induction t with
 | zero=>exact⟨by show Q B-1*c<=d.1;omega,hd⟩
 | succ t ih =>
  have e:Q (t+1)=2*Q t:=rfl;have qt:=zE t;have ec:Q (t+1)*c=2*(Q t*c):=by rw[e];grind
  have tc:=Yz (show 0<=Q t by omega) hc
  obtain⟨i1,i2⟩:=ih (by omega)
  refine⟨?_,zB4 B⟩
  show Q B-Q (t+1)*c<=(zAJ B (sqI B d t) (sqI B d t)).1
  rw[ec];generalize sqI B d t=a at *;generalize Q t*c=y at *;obtain⟨_,_,_,_,hh⟩:=zED (a.1*a.1) (a.1*a.2) (a.2*a.1) (a.2*a.2);have c0:0<=a.1:=by omega
  have m1:=Yx i2 c0;have m2:=Yt i2 c0;have m3:=Int.mul_le_mul i2 i2 c0 (by omega)
  have m4:=Int.mul_le_mul i1 i1 (by omega) c0
  have e2:(Q B-y)*(Q B-y)=(Q B-2*y)*Q B+y*y:=by grind
  have m5:=Yz tc tc;have m6:(Q B-2*y)*Q B<=kK (pr4 (a.1*a.1) (a.1*a.2) (a.2*a.1) (a.2*a.2)) 3:=by omega
  exact Int.le_ediv_of_mul_le (by omega) m6
theorem zOG {B:Nat} {d:Int × Int} {C c:Int} (hd:d.1<=d.2) (hc:0<=c) (hl:Q B-c<=d.1) (hC:0<=C) (h:(d.2-d.1)*Q B<=C*d.2) (i:Nat) (hi:2*(Q i*c)<=Q B) :
  ((sqI B d i).2-(sqI B d i).1)*Q B<=(Q i*(C+4)-4)*(sqI B d i).2:=by
 induction i with
 | zero =>
  show (d.2-d.1)*Q B<=(1*(C+4)-4)*d.2
  have:1*(C+4)-4=C:=by omega
  rw[this];exact h
 | succ i ih =>
  have es:Q (i+1)=2*Q i:=rfl;have q0:=zE i;have ec:Q (i+1)*c=2*(Q i*c):=by rw[es];grind
  have tc:=Yz (show 0<=Q i by omega) hc
  have i1:=ih (by omega)
  obtain⟨l1,l2⟩:=zI3 (B:=B) hd hc i (by omega) hl
  obtain⟨l3,l4⟩:=zI3 (B:=B) hd hc (i+1) (by omega) hl
  have m:=Yt q0 (show 0<=C+4 by omega)
  have r:=sq_rel (B:=B) (a:=sqI B d i) (C:=Q i*(C+4)-4) (by omega) l2 (by omega) i1 (by
   have e:(zAJ B (sqI B d i) (sqI B d i)).2=(sqI B d (i+1)).2:=rfl
   rw[e];omega)
  have ec:2*(Q i*(C+4)-4)+4=Q (i+1)*(C+4)-4:=by rw[es];grind
  rw[ec] at r;exact r
theorem zJ2 {B:Nat} {a:Int × Int} {x:Nat->Rat} (h:Iv B a x) (k:LeN (λ _=>1) x):Q B<=a.2:=by
 have q:=jJ B;refine Int.not_lt.1 λ D9=>?_
 have d:(0:Rat)<1/(Q B:Rat):=zF (by grind) q
 obtain⟨e,he⟩:∃ e,e=1/(Q B:Rat)/4:=⟨_,rfl⟩;have e0:0<e:=by grind
 obtain⟨N1,k1⟩:=h e e0;obtain⟨N2,k2⟩:=k e e0;have a1:=(k1 (N1+N2) (by omega)).2
 have a2:=k2 (N1+N2) (by omega)
 simp only[] at a2;have c:=jA (show a.2+1<=Q B by omega)
 rw[Rat.intCast_add] at c;have c1:((1:Int):Rat)=1:=rfl;rw[c1] at c;have m:((a.2:Rat)+1)/(Q B:Rat)<=1:=zBO q (by grind)
 rw[zBY] at m;generalize 1/(Q B:Rat)=i at *;grind
theorem zJC {x:Nat->Rat} (hb:Bdd x) (h:LeN (λ _=>0) x):LeN (λ _=>1) (Ev x):=by
 obtain⟨z,hz,kz⟩:=h.null;obtain⟨v,hv,N,k⟩:=zC4 (Bdd.const 0) hb hz 0 (λ M _=>kz M)
 refine LeN.of_null hv (N+1) λ M hM=>?_
 obtain⟨m,rfl⟩:∃ m,M=m+1:=⟨M-1,by omega⟩
 have e0:Ev (λ _=>(0:Rat)) (m+1)=1:=kV m
 have:=k (m+1) (by omega)
 rw[e0] at this;exact this
def exD (B:Nat) (ws:Int) (t:Nat):Int:=((B:Int)/8+2)*(2*ws+8*Q t)+6*Q t
theorem exq_ok {B t N:Nat} {a:Int × Int} {x:Nat->Rat} {ws:Int} (hB:16<=B) (ha:Iv B a x) (hx:LeN (λ _=>0) x) (hw:a.2-a.1<=ws) (hA:Abs (zG a t) (Q (B-8))) (hN:zT (zU B (zG a t)) N) (hD:2*exD B ws t<=Q B) :
  Q B<=2*(sqI B (zN (zU B (zG a t)) N) t).1/\(sqI B (zN (zU B (zG a t)) N) t).1<=(sqI B (zN (zU B (zG a t)) N) t).2/\(sqI B (zN (zU B (zG a t)) N) t).2<=Q (B+eb t)/\((sqI B (zN (zU B (zG a t)) N) t).2-(sqI B (zN (zU B (zG a t)) N) t).1)*Q B<=exD B ws t*(sqI B (zN (zU B (zG a t)) N) t).2/\Iv B (sqI B (zN (zU B (zG a t)) N) t) (Ev x):=by
 have q:=zE t;have qB:=zE B;have al:=ha.le;have El:0<=ws:=by omega
 obtain⟨u,hu⟩:∃ u,u=ws/Q t+1:=⟨_,rfl⟩
 have wu:ws<=u*Q t:=by
  have:=kW ws (show 0<Q t by omega)
  rw[<- hu] at this;omega
 have uw:u*Q t<=ws+Q t:=by
  have:=Int.ediv_mul_le ws (show Q t≠0 by omega)
  have r:u*Q t=ws/Q t*Q t+Q t:=by rw[hu];grind
  omega
 have u0:0<=u:=by have:=Int.ediv_nonneg El (show 0<=Q t by omega);omega
 obtain⟨g1,g2,g3,g4⟩:=zCD (ws:=u) hB hA al (by omega) hN
 have X8:(zG a t).1<=(zG a t).2:=by
  have:=kN (a:=a) (n:=1) (d:=Q t) al (by omega) (by omega)
  simpa [zK,zG] using this
 have dle:=zCP (zAG B (zG a t)) N;have wd:(zG a t).2-(zG a t).1<=u+1:=zBT (by omega) (by omega)
 have wD:=zCB (zEA (by omega) hA X8 wd) hN
 have bh:Bdd (λ M=>x M/(Q t:Rat)):=Has.bdd (ha.down t)
 have qr:=jJ t
 have l0:LeN (λ _=>0) (λ M=>x M/(Q t:Rat)):=by
  obtain⟨z,hz,kz⟩:=hx.null;refine LeN.of_null (hz.bmul (Bdd.const (1/(Q t:Rat)))) 0 λ M _=>?_
  have k:=kz M;have ip:(0:Rat)<=1/(Q t:Rat):=jL qr (by grind)
  have m:=Yv k ip;have e:x M/(Q t:Rat)=x M*(1/(Q t:Rat)):=by rw[YE,YE,Rat.one_mul]
  rw[e];grind
 have up:=zJ2 (zDO (N:=N) (by omega) (ha.down t) hA) (zJC bh l0)
 obtain⟨D,Cm⟩:∃ D,D=zN (zU B (zG a t)) N:=⟨_,rfl⟩;rw[<- Cm] at dle wD up;obtain⟨c,hc⟩:∃ c,c=((B:Int)/8+2)*(2*(u+1)+4)+2:=⟨_,rfl⟩;have c0:0<=c:=by have:=Yz (show 0<=(B:Int)/8+2 by omega) (show 0<=2*(u+1)+4 by omega);omega
 have wC:D.2-D.1<=c:=by
  have m:=Yt (show (N:Int)+1<=(B:Int)/8+2 by omega) (show 0<=2*(u+1)+4 by omega)
  omega
 have tc:Q t*(c+4)<=exD B ws t:=by
  have m:=Yx uw (show 0<=2*((B:Int)/8+2) by omega)
  unfold exD;rw[hc];generalize (B:Int)/8+2=β at *;have r:Q t*(β*(2*(u+1)+4)+2+4)=2*β*(u*Q t)+6*(Q t*β)+6*Q t:=by grind
  have r2:2*β*(ws+Q t)=2*(β*ws)+2*(Q t*β):=by grind
  have r3:β*(2*ws+8*Q t)+6*Q t=2*(β*ws)+8*(Q t*β)+6*Q t:=by grind
  omega
 have r4:Q t*(c+4)=Q t*c+4*Q t:=by grind
 have low:Q B-c<=D.1:=by omega
 have rel:(D.2-D.1)*Q B<=c*D.2:=Int.le_trans (Yt wC (by omega)) (Yx up c0)
 have sl:=zI3 (B:=B) dle c0 t (by omega) low
 have rs:=zOG (B:=B) dle c0 low c0 rel t (by omega)
 have iv:=zEX (N:=N) (by omega) ha hA
 rw[<- Cm] at g1 g2 iv ⊢;refine⟨by omega,g1,g2.2.2.2,?_,iv⟩
 refine Int.le_trans rs (Yt (by omega) ?_)
 omega
structure zMT (p q n d:Int) (B:Nat):Prop where
 p0:0<p
 q0:0<q
 pq:p<=100*q
 qq:q<=1048576
 n0:0<n
 d0:0<d
 nn:n<=1099511627776
 dd:d<=1048576
 nx:n<d*(2*((B:Int)+p/q+1))
 b0:40<=B
 b1:B<=400
def luU (q n:Int) (_:Nat):Int:=n*q
def luD (p q d:Int) (k:Nat):Int:=d*(p+(k:Int)*q)
def luT (p q n d:Int) (B:Nat):Nat->Int × Int:=riT (Q B,Q B) (luU q n) (luD p q d)
def luN (n d:Int):Nat:=(2*n/d).toNat
theorem lu_x {p q n d:Int} {B:Nat} (h:zMT p q n d B):n<1002*d/\(luN n d:Int)=2*n/d/\luN n d<=2004:=by
 have e:p/q<=100:=Int.ediv_le_of_le_mul h.q0 h.pq;have b1:=h.b1;have d0:=h.d0;have n0:=h.n0;have m:=Yx (show 2*((B:Int)+p/q+1)<=1002 by omega) (show 0<=d by omega)
 have nx:=h.nx;have q0:0<=2*n/d:=Int.ediv_nonneg (by omega) (by omega)
 have l:2*n/d<2005:=Int.ediv_lt_of_lt_mul d0 (by omega)
 unfold luN;exact⟨by omega,by omega,by omega⟩
theorem zS1 {p q n d:Int} {B:Nat} (h:zMT p q n d B) (k:Nat):0<luD p q d k:=by
 have:=Yz (show (0:Int)<=(k:Int) by omega) (show 0<=q by have:=h.q0;omega)
 have:=h.p0;exact Int.mul_pos h.d0 (by omega)
theorem zIJ {p q n d:Int} {B:Nat} (h:zMT p q n d B):zP9 (Q B,Q B) (luU q n) (luD p q d):=by
 have q:=zE B;refine⟨⟨λ _=>Yz (by have:=h.n0;omega) (by have:=h.q0;omega),λ k=>zS1 h k⟩,by show 0<Q B;omega,Int.le_refl _,by show Q B-Q B<=1;omega,λ k hk=>?_⟩
 refine Int.le_trans ?_ hk;refine Yx ?_ (by have:=h.d0;omega)
 have m:=Yt (show ((k+1:Nat):Int)<=((k+2:Nat):Int) by omega) (show 0<=_ from Int.le_of_lt h.q0)
 omega
theorem lu_34 {p q n d:Int} {B:Nat} (h:zMT p q n d B) (k:Nat) (hk:luN n d<=k):4*luU q n (k+1)<=3*luD p q d (k+1):=by
 have d0:=h.d0;have f:=kW (2*n) d0;have e:=(lu_x h).2.1;rw[<- e] at f;have m:=Yt (show (luN n d:Int)+1<=((k+1:Nat):Int) by omega) (show 0<=d by omega)
 have m2:=Yt (show 2*n<=((k+1:Nat):Int)*d by omega) (show 0<=q from Int.le_of_lt h.q0)
 have m3:=Yz (show 0<=d by omega) (show 0<=p from Int.le_of_lt h.p0)
 have m4:=Yz (show 0<=n from Int.le_of_lt h.n0) (show 0<=q from Int.le_of_lt h.q0)
 unfold luU luD;generalize ((k+1:Nat):Int)=K at *;have r:d*(p+K*q)=d*p+K*d*q:=by grind
 have r2:2*n*q=2*(n*q):=by grind
 rw[r];omega
theorem lu_c {p q n d:Int} {B:Nat} (h:zMT p q n d B) (k:Nat):luU q n (k+1)<=Q 10*luD p q d (k+1):=by
 have x:=(lu_x h).1;have PT:Q 10=1024:=rfl;have q0:=h.q0;have d0:=h.d0;have p0:=h.p0;have m1:=Yt (show n<=1024*d by omega) (show 0<=q by omega)
 have kq:=Yt (show (1:Int)<=((k+1:Nat):Int) by omega) (show 0<=q by omega)
 have m2:=Yx (show q<=p+((k+1:Nat):Int)*q by omega) (show 0<=d by omega)
 unfold luU luD;rw[PT];have r:1024*d*q=1024*(d*q):=by grind
 omega
theorem lu_set {p q n d:Int} {B:Nat} (h:zMT p q n d B):∃ N,N<=70000/\yS (luT p q n d B) (luN n d) N:=by
 obtain⟨N,h1,h2⟩:=zUA (zIJ h) (H:=B) (c:=10) (turn:=luN n d) (Int.le_refl _) (by have:=h.b0;omega) (lu_c h) (lu_34 h)
 have:=(lu_x h).2.2;have:=h.b1;exact⟨N,by omega,h2⟩
theorem lu_fit {p q n d:Int} {B:Nat} (h:zMT p q n d B) (k:Nat) (hk:k<=1000000):(jE (luT p q n d B) k).2+9<=Q 20461:=by
 have a:=zT8 (zIJ h) (H:=B) (c:=10) (turn:=luN n d) (Int.le_refl _) (by have:=h.b0;omega) (lu_c h) (lu_34 h) k hk
 have:=(lu_x h).2.2;have:=h.b1;exact Int.le_trans a (zJ (by omega))
theorem lu_hi {p q n d:Int} {B:Nat} (h:zMT p q n d B) (k:Nat):(luT p q n d B k).2<=Q 20461:=by
 have a:=zT9 (zIJ h) (H:=B) (c:=10) (turn:=luN n d) (Int.le_refl _) (by have:=h.b0;omega) (lu_c h) (lu_34 h) k
 have:=(lu_x h).2.2;have:=h.b1;exact Int.le_trans a (zJ (by omega))
theorem lu_val {p q n d:Int} {B:Nat} (h:zMT p q n d B) (k M:Nat):riV (λ _=>1) (luU q n) (luD p q d) k M=(p:Rat)/(q:Rat)*upT ((p:Rat)/(q:Rat)) ((n:Rat)/(d:Rat)) k:=by
 have p0:(0:Rat)<(p:Rat):=by exact_mod_cast h.p0
 have q0:(0:Rat)<(q:Rat):=by exact_mod_cast h.q0
 have d0:(0:Rat)<(d:Rat):=by exact_mod_cast h.d0
 have a0:(0:Rat)<(p:Rat)/(q:Rat):=zF p0 q0;have ea:=rdm (a:=(p:Rat)) q0;have Ff:=rdm (a:=(n:Rat)) d0
 induction k with
 | zero=>rw[yZ a0];rfl
 | succ k ih =>
  have pD:(0:Rat)<(luD p q d (k+1):Rat):=by exact_mod_cast zS1 h (k+1)
  have us:=jX a0 ((n:Rat)/(d:Rat)) k;have up:=zBQ a0 k
  show (luU q n (k+1):Rat)/(luD p q d (k+1):Rat)*riV (λ _=>1) (luU q n) (luD p q d) k M=_
  rw[ih]
  have eD:(luD p q d (k+1):Rat)=(d:Rat)*(q:Rat)*((p:Rat)/(q:Rat)+((k:Rat)+1)):=by
   unfold luD;rw[YA,Rat.intCast_add,YA];have:(((k+1:Nat):Int):Rat)=(k:Rat)+1:=by push_cast;rfl
   rw[this];have:(d:Rat)*(q:Rat)*((p:Rat)/(q:Rat)+((k:Rat)+1))=(d:Rat)*((p:Rat)/(q:Rat)*(q:Rat)+((k:Rat)+1)*(q:Rat)):=by grind
   rw[this,ea]
  have eU:(luU q n (k+1):Rat)=(d:Rat)*(q:Rat)*((n:Rat)/(d:Rat)):=by
   unfold luU;rw[YA];have:(d:Rat)*(q:Rat)*((n:Rat)/(d:Rat))=(n:Rat)/(d:Rat)*(d:Rat)*(q:Rat):=by grind
   rw[this,Ff]
  have dq:=Rat.mul_pos d0 q0;have e4:=rdm (a:=(luU q n (k+1):Rat)) pD;generalize upT ((p:Rat)/(q:Rat)) ((n:Rat)/(d:Rat)) k=u at *;generalize upT ((p:Rat)/(q:Rat)) ((n:Rat)/(d:Rat)) (k+1)=u1 at *;generalize (luU q n (k+1):Rat)/(luD p q d (k+1):Rat)=r at *;rw[eD,eU] at e4;generalize (p:Rat)/(q:Rat)=a at *;generalize (n:Rat)/(d:Rat)=x at *;generalize (d:Rat)*(q:Rat)=e at *;refine zX (c:=e*(a+((k:Rat)+1))) (Rat.mul_pos dq up) ?_;have r1:e*(a+((k:Rat)+1))*(r*(a*u))=r*(e*(a+((k:Rat)+1)))*(a*u):=by grind
  have r2:e*(a+((k:Rat)+1))*(a*u1)=e*a*((a+((k:Rat)+1))*u1):=by grind
  rw[r1,r2,e4,us];grind
def zAY (p q n d:Int) (B N:Nat):Int × Int:=kY (luT p q n d B) N
theorem lu_has {p q n d:Int} {B N:Nat} (h:zMT p q n d B) (hN:yS (luT p q n d B) (luN n d) N):Iv B (zAY p q n d B N) (λ M=>(p:Rat)/(q:Rat)*uS ((p:Rat)/(q:Rat)) ((n:Rat)/(d:Rat)) M):=by
 have r:=zCG (zIJ h).ok (zHH B) 0 (λ M _=>by grind) (λ k hk=>lu_34 h k hk) hN
 refine Has.of_eq r λ M=>?_
 show (p:Rat)/(q:Rat)*S (upT ((p:Rat)/(q:Rat)) ((n:Rat)/(d:Rat))) M=S (λ k=>riV (λ _=>1) (luU q n) (luD p q d) k M) M
 have:∀ m,(p:Rat)/(q:Rat)*S (upT ((p:Rat)/(q:Rat)) ((n:Rat)/(d:Rat))) m=S (λ k=>riV (λ _=>1) (luU q n) (luD p q d) k M) m:=λ m=>by
  induction m with
  | zero=>show (p:Rat)/(q:Rat)*0=0;grind
  | succ m ih =>
   show (p:Rat)/(q:Rat)*(S (upT ((p:Rat)/(q:Rat)) ((n:Rat)/(d:Rat))) m+upT ((p:Rat)/(q:Rat)) ((n:Rat)/(d:Rat)) m)=S (λ k=>riV (λ _=>1) (luU q n) (luD p q d) k M) m+riV (λ _=>1) (luU q n) (luD p q d) m M
   rw[<- ih,lu_val h m M];grind
 exact this M
structure zCL (L:Rat->Nat->Rat) (x:Rat) (B:Nat) (o:Int × Int):Prop where
 le:o.1<=o.2
 ab:Abs o (264*Q B)
 wd:o.2-o.1<=132*(2*(B:Int)+14)
 iv:Iv B o (L x)
theorem zNT {L:Rat->Nat->Rat} (hL:Lns L) {n d:Int} {B:Nat} (hn:0<n) (hd:0<d) (hB:16<=B) {n' d' c:Int} {N N2:Nat} (h:Bal n d n' d' c) (c1 : -65<=c) (c2:c<=65) (hN:zT (lnT n' d' B) N) (X6:zT (lnT 2 1 B) N2):zCL L ((n:Rat)/(d:Rat)) B (zGW (zN (lnT n' d' B) N) (zN (lnT 2 1 B) N2) c):=by
 obtain⟨b1,b2,b3⟩:=zGI (k:=c) h.1 hB hN X6 65 c1 c2;obtain⟨l,il,iv⟩:=zGJ hn hd h B N N2;have q:=zE B;refine⟨b1,b2.mono (by omega),by omega,?_⟩
 have nr:(0:Rat)<(n:Rat):=by exact_mod_cast hn
 have dr:(0:Rat)<(d:Rat):=by exact_mod_cast hd
 exact iv.congr ((hL _ (zF nr dr)).uniq il)
structure zP8 (x:Nat->Rat) (B:Nat) (l u:Int):Prop where
 le:l<=u
 wd:u-l<=20000000*((B:Int)*(B:Int))+180000000
 ab:Abs (l,u) (120000*Q B)
 iv:Iv B (l,u) x
theorem lgam_ok2 {n d:Int} {g lp x l1 l2:Nat->Rat} {B:Nat} {a o1 o2 o:Int × Int} (h:StIn n d) (E2:40<=B) (hB:B<=1000) (ha:GaV g B a) (ls:LsIn a B o1 o2 l1 l2) (hp:IsLog lp (λ _=>(stP n d (stN n d):Rat)/(stQ d (stN n d):Rat))) (io:Iv B o lp) (k1:LbOk B o1) (k2:LbOk B o2) (k3:LbOk B o) (hx:IsLog x (gmV n d g)) (Ad:∃ c:Rat,0<c/\∃ N:Nat,∀ M,N<=M->c<=g M) {L:Rat->Nat->Rat} (hL:Lns L):zP8 x B (o1.1+o.1) (o2.2+o.2):=by
 have pr:=lgam_ok h E2 hB ha ls hp io k1 k2 k3 hx Ad hL;have q:=zE B;have big:=zQJ E2 hB;have BB:=Yz (show (0:Int)<=(B:Int) by omega) (show (0:Int)<=(B:Int) by omega)
 have a0:0<a.1:=by have:=ha.lo;omega
 have al:=ha.le
 have twice:a.2<=2*a.1:=by
  have m:=Yt big (show 0<=a.2 by omega)
  have r:=ha.rel
  have s:16*(a.2-a.1)<=a.2:=by
   refine Int.le_of_mul_le_mul_right (a:=Q B) ?_ (by omega)
   have r1:16*(a.2-a.1)*Q B=16*((a.2-a.1)*Q B):=by grind
   have r2:16*(10000000*((B:Int)*(B:Int)))*a.2=16*(10000000*((B:Int)*(B:Int))*a.2):=by grind
   have r3:Q B*a.2=a.2*Q B:=Int.mul_comm _ _;omega
  omega
 have w:=zS0 ls (C:=20000000*((B:Int)*(B:Int))) (by
  have m1:=Yx twice (show 0<=10000000*((B:Int)*(B:Int)) by omega)
  have r:=ha.rel;have r2:10000000*((B:Int)*(B:Int))*(2*a.1)=20000000*((B:Int)*(B:Int))*a.1:=by grind
  omega)
 have w1:=k1.wd;have w2:=k2.wd;have w3:=k3.wd;obtain⟨x1,x2,x3,x4⟩:=k1.ab;obtain⟨y1,y2,y3,y4⟩:=k2.ab;obtain⟨z1,z2,z3,z4⟩:=k3.ab;exact⟨pr.le,by omega,⟨by show _<=o1.1+o.1;omega,by show o1.1+o.1<=_;omega,by show _<=o2.2+o.2;omega,by show o2.2+o.2<=_;omega⟩,pr.iv⟩
def luY (p q n d:Int) (B:Nat) (o g:Int × Int):Int × Int:=zAR (zJA (ofI n d B) (zK o p q)) g
def luW (B:Nat):Int:=20000000*((B:Int)*(B:Int))+200000000
theorem luY_ok {L:Rat->Nat->Rat} {p q n d:Int} {B:Nat} {o:Int × Int} {l u:Int} {X:Nat->Rat} (h:zMT p q n d B) (ho:zCL L ((n:Rat)/(d:Rat)) B o) (hg:zP8 X B l u):(luY p q n d B o (l,u)).1<=(luY p q n d B o (l,u)).2/\(luY p q n d B o (l,u)).2-(luY p q n d B o (l,u)).1<=luW B/\Abs (luY p q n d B o (l,u)) (147500*Q B)/\Iv B (luY p q n d B o (l,u)) (lwY L ((p:Rat)/(q:Rat)) ((n:Rat)/(d:Rat)) X):=by
 have q0:=h.q0;have p0:=h.p0;have d0:=h.d0;have b0:=h.b0;have b1:=h.b1;have Qp:=zE B;have ol:=yB (n:=n) d0 B;have ow:=yC (n:=n) d0 B
 have oa:Abs (ofI n d B) (1002*Q B):=zGN d0 B (by
   have:=Yz (show 0<=n from Int.le_of_lt h.n0) (show 0<=Q B by omega)
   have:=Yz (show 0<=1002*Q B by omega) (show 0<=d by omega)
   omega) (by
   have m:=Yt (show n<=1002*d from Int.le_of_lt (lu_x h).1) (show 0<=Q B by omega)
   have r:1002*d*Q B=1002*Q B*d:=by grind
   omega)
 have sl:=kN (a:=o) (n:=p) (d:=q) ho.le q0 (by omega)
 have sw:=kJ (a:=o) (n:=p) (d:=q) (c:=100*(o.2-o.1)) q0 (by
  have m:=Yx h.pq (show 0<=o.2-o.1 by have:=ho.le;omega)
  have r:(o.2-o.1)*(100*q)=100*(o.2-o.1)*q:=by grind
  omega)
 obtain⟨a1,a2,a3,a4⟩:=ho.ab
 have sa:Abs (zK o p q) (26400*Q B):=by
  have pq:=h.pq;have t1:=yI (x:=o.1) (y:=p) (m:=264*Q B) (n:=100*q) a1 a2 (by omega) pq
  have t2:=yI (x:=o.2) (y:=p) (m:=264*Q B) (n:=100*q) a3 a4 (by omega) pq
  have r:264*Q B*(100*q)=26400*Q B*q:=by grind
  rw[r] at t1 t2;have r1:=kD q0 t1.1 t1.2;have r2:=kD q0 t2.1 t2.2;exact⟨r1.1,r1.2.1,r2.2.2.1,r2.2.2.2⟩
 have gl:=hg.le;have gw:=hg.wd;have wd:=ho.wd;obtain⟨x1,x2,x3,x4⟩:=oa;obtain⟨y1,y2,y3,y4⟩:=sa;obtain⟨z1,z2,z3,z4⟩:=hg.ab;simp only[] at z1 z2 z3 z4;have e1:(luY p q n d B o (l,u)).1=(ofI n d B).1-(zK o p q).2+l:=rfl;have e2:(luY p q n d B o (l,u)).2=(ofI n d B).2-(zK o p q).1+u:=rfl;refine⟨by omega,?_,⟨by omega,by omega,by omega,by omega⟩,?_⟩
 ·unfold luW
  omega
 ·have i1:=Iv.of B (n:=n) (d:=d) d0
  have i2:=ho.iv.scale (n:=p) (d:=q) (by omega) q0
  exact Has.of_eq ((i1.sub i2).add hg.iv) λ M=>rfl
theorem zEZ {a b c d:Int} (h1:a<=b) (h2:c<=d) (h3:0<=c) (h4:0<=b):a*c<=b*d:=Int.mul_le_mul h1 h2 h3 h4
theorem lu_exD {B t:Nat} (h0:40<=B) (h1:B<=400) (ht:t<=26):2*exD B (luW B) t<=Q B/\exD B (luW B) t<=1000000000000000:=by
 have qt:=zJ ht;have e26:Q 26=67108864:=rfl;have q0:=zE t
 have go:∀ (b β k:Int),(B:Int)<=b->(B:Int)/8+2<=β->0<=β->exD B (luW B) t<=β*(2*(20000000*(b*b)+200000000)+536870912)+402653184:=λ b β k hb hβ hβ0=>by
  have bb:=zEZ hb hb (by omega) (by omega)
  have m:=zEZ hβ (show 2*luW B+8*Q t<=2*(20000000*(b*b)+200000000)+536870912 by unfold luW;omega) (by
   have:=Yz (show (0:Int)<=(B:Int) by omega) (show (0:Int)<=(B:Int) by omega)
   unfold luW;omega) hβ0
  unfold exD;omega
 by_cases c1:B<=40
 ·have g:=go 40 7 0 (by omega) (by omega) (by omega)
  have q:=zJ h0;have e:Q 40=1099511627776:=rfl;omega
 ·by_cases c2:B<=47
  ·have g:=go 47 7 0 (by omega) (by omega) (by omega)
   have q:=zJ (show 41<=B by omega)
   have e:Q 41=2199023255552:=rfl;omega
  ·by_cases c3:B<=63
   ·have g:=go 63 9 0 (by omega) (by omega) (by omega)
    have q:=zJ (show 48<=B by omega)
    have e:Q 48=281474976710656:=rfl;omega
   ·have g:=go 400 52 0 (by omega) (by omega) (by omega)
    have q:=zJ (show 60<=B by omega)
    have e:Q 60=1152921504606846976:=rfl;omega
def luE (p q n d:Int) (B:Nat) (o g:Int × Int) (t N:Nat):Int × Int:=sqI B (zN (zU B (zG (luY p q n d B o g) t)) N) t
def zPM (s e:Int × Int) (B:Nat):Int:=if zEV s.1 s.2 e.1 e.2 B<=Q B then zEV s.1 s.2 e.1 e.2 B else Q B
structure LwPr (x:Nat->Rat) (B:Nat) (l u:Int):Prop where
 lo:0<=l
 le:l<=u
 hi:u<=Q B
 wd:u-l<=Q 89
 iv:Iv B (l,u) x
theorem zSG {B:Nat} {a:Int × Int} {x:Nat->Rat} (h:Iv B a x) (k:LeN x (λ _=>1)):a.1<=Q B:=zNM h k (LeN.of_le 0 λ M _=>by
 have q:=jJ B;have:(Q B:Rat)/(Q B:Rat)=1:=by rw[YE,Rat.mul_inv_cancel _ (by grind)]
 rw[this];exact Rat.le_refl)
theorem Iv.capL {B:Nat} {a:Int × Int} {x:Nat->Rat} (h:Iv B a x) (k:LeN x (λ _=>1)):Iv B (a.1,if a.2<=Q B then a.2 else Q B) x:=by
 split
 ·exact h
 ·intro e he
  obtain⟨N,hN⟩:=h e he;obtain⟨N0,hx⟩:=k e he;refine⟨N+N0,λ M hM=>?_⟩
  have g:=(hN M (by omega)).1
  have g2:=hx M (by omega)
  have q:=jJ B;have e1:(Q B:Rat)/(Q B:Rat)=1:=by rw[YE,Rat.mul_inv_cancel _ (by grind)]
  simp only[];rw[e1];constructor<;>grind
theorem zL6 {B:Nat} {s e:Int × Int} {x:Nat->Rat} {C D:Int} (hB:40<=B) (s0:0<=s.1) (sl:s.1<=s.2) (e0:0<e.1) (el:e.1<=e.2) (hC:0<=C) (hD:0<=D) (kx:C<=100000000000) (s9:D<=1000000000000000) (QC:D<=Q B) (hs:(s.2-s.1)*Q B<=C*s.2) (he:(e.2-e.1)*Q B<=D*e.2) (iv:Iv B (zDW s.1 s.2 e.1 e.2 B,zEV s.1 s.2 e.1 e.2 B) x) (h1:LeN x (λ _=>1)):LwPr x B (zDW s.1 s.2 e.1 e.2 B) (zPM s e B):=by
 have q:=zE B;have q40:=zJ hB;have Ik:Q 40=1099511627776:=rfl;obtain⟨d1,d2⟩:=zJU (b:=B) s0 sl e0 el;have cap:=iv.capL h1;have le:=cap.le;have l1:=zSG iv h1;have l0:0<=zDW s.1 s.2 e.1 e.2 B:=by rw[d1];exact Int.ediv_nonneg (Yz s0 (by omega)) (by omega)
 have hi:zPM s e B<=Q B:=by unfold zPM;split<;>omega
 refine⟨l0,le,hi,?_,cap⟩
 by_cases c:B<=89
 ·have:=zJ c
  omega
 ·have r:=dv_rel (q:=Q B) (C:=C) (D:=D) (by omega) s0 hC hD (by omega) QC e0 el hs sl he d1 d2
  have hh:zPM s e B<=zEV s.1 s.2 e.1 e.2 B:=by unfold zPM;split<;>omega
  simp only[] at l1 le;generalize zDW s.1 s.2 e.1 e.2 B=lo at *;generalize zEV s.1 s.2 e.1 e.2 B=up at *;have q90:=zJ (show 60<=B by omega)
  have e60:Q 60=1152921504606846976:=rfl;have e89:Q 89=618970019642690137449562112:=by decide +kernel
  by_cases u0:up<=0
  ·omega
  ·have m:=Yt (show 2*(C+D)<=Q B by omega) (show 0<=up by omega)
   have r1:(up-lo)*Q B=up*Q B-lo*Q B:=by grind
   have r2:2*(C+D)*up=2*((C+D)*up):=by grind
   have r3:Q B*up=up*Q B:=Int.mul_comm _ _
   have k1:up<=2*lo+4:=by
    refine Int.le_of_mul_le_mul_right (a:=Q B) ?_ (by omega)
    have r4:(2*lo+4)*Q B=2*(lo*Q B)+4*Q B:=by grind
    omega
   have k2:=Yx (show up<=3*Q B by omega) (show 0<=C+D by omega)
   have k3:up-lo<=3*(C+D)+2:=by
    refine Int.le_of_mul_le_mul_right (a:=Q B) ?_ (by omega)
    have r4:(3*(C+D)+2)*Q B=(C+D)*(3*Q B)+2*Q B:=by grind
    omega
   omega
theorem lw_ok {L:Rat->Nat->Rat} (hL:Lns L) {p q n d:Int} {B t N NS:Nat} {o:Int × Int} {l u:Int} {X g:Nat->Rat} (h:zMT p q n d B) (ig:IsGam L ((p:Rat)/(q:Rat)) g) (hX:IsLog X (λ M=>(p:Rat)/(q:Rat)*g M)) (ho:zCL L ((n:Rat)/(d:Rat)) B o) (hg:zP8 X B l u) (ht:t<=26) (hA:Abs (zG (luY p q n d B o (l,u)) t) (Q (B-8))) (hN:zT (zU B (zG (luY p q n d B o (l,u)) t)) N) (hS:NS<=70000) (lI:yS (luT p q n d B) (luN n d) NS) :
  0<(luE p q n d B o (l,u) t N).1/\(luE p q n d B o (l,u) t N).1<=(luE p q n d B o (l,u) t N).2/\0<=(zAY p q n d B NS).1/\(zAY p q n d B NS).1<=(zAY p q n d B NS).2/\LwPr (lw L ((p:Rat)/(q:Rat)) ((n:Rat)/(d:Rat)) g) B (zDW (zAY p q n d B NS).1 (zAY p q n d B NS).2 (luE p q n d B o (l,u) t N).1 (luE p q n d B o (l,u) t N).2 B) (zPM (zAY p q n d B NS) (luE p q n d B o (l,u) t N) B):=by
 have b0:=h.b0;have b1:=h.b1;have qB:=zE B;have pr:(0:Rat)<(p:Rat):=by exact_mod_cast h.p0
 have qr:(0:Rat)<(q:Rat):=by exact_mod_cast h.q0
 have nr:(0:Rat)<(n:Rat):=by exact_mod_cast h.n0
 have dr:(0:Rat)<(d:Rat):=by exact_mod_cast h.d0
 have a0:=zF pr qr;have x0:=zF nr dr;obtain⟨s1,s2,s3⟩:=se_ok (zIJ h) NS;obtain⟨y1,y2,y3,y4⟩:=luY_ok h ho hg;obtain⟨D1,D2⟩:=lu_exD b0 b1 ht;obtain⟨e1,e2,e3,e4,e5⟩:=exq_ok (t:=t) (N:=N) (by omega) y4 (zPN hL a0 x0 ig hX) y2 hA hN D1
 have D0:0<=exD B (luW B) t:=by
  have:=zE t;have:=Yz (show (0:Int)<=(B:Int) by omega) (show (0:Int)<=(B:Int) by omega)
  unfold exD luW;have:=Yz (show 0<=(B:Int)/8+2 by omega) (show 0<=2*(20000000*((B:Int)*(B:Int))+200000000)+8*Q t by omega)
  omega
 have si:=lu_has h lI
 have xc:0<=(zAY p q n d B NS).1:=by
  have:Q B<=(zAY p q n d B NS).1:=s1;omega
 have ee:(luE p q n d B o (l,u) t N)=sqI B (zN (zU B (zG (luY p q n d B o (l,u)) t)) N) t:=rfl;have es:zAY p q n d B NS=kY (riT (Q B,Q B) (luU q n) (luD p q d)) NS:=rfl;rw[<- ee] at e1 e2 e3 e4 e5;rw[<- es] at s1 s2 s3;have dv:=(Iv.dv si e5 xc (by omega)).congr (lw_quot hL a0 x0 ig hX)
 refine⟨by omega,e2,xc,s2,zL6 (C:=(1+2*(NS:Int))*((NS:Int)+2)+9) (D:=exD B (luW B) t) b0 xc s2 (by omega) e2 ?_ D0 ?_ D2 (by omega) s3 e4 dv (zS3 x0 ig)⟩
 ·have:=Yz (show 0<=1+2*(NS:Int) by omega) (show 0<=(NS:Int)+2 by omega)
  omega
 ·have:=zEZ (show 1+2*(NS:Int)<=140001 by omega) (show (NS:Int)+2<=70002 by omega) (by omega) (by omega)
  omega
theorem lw_farI {L:Rat->Nat->Rat} (hL:Lns L) {p q n d:Int} {B:Nat} {g:Nat->Rat} (p0:0<p) (q0:0<q) (d0:0<d) (hf:d*(2*((B:Int)+p/q+1))<=n) (hB:1<=B) (ig:IsGam L ((p:Rat)/(q:Rat)) g):LwPr (lw L ((p:Rat)/(q:Rat)) ((n:Rat)/(d:Rat)) g) B (Q B-1) (Q B):=by
 have pr:(0:Rat)<(p:Rat):=by exact_mod_cast p0
 have qr:(0:Rat)<(q:Rat):=by exact_mod_cast q0
 have dr:(0:Rat)<(d:Rat):=by exact_mod_cast d0
 have a0:=zF pr qr;have Qp:=zE B;have QR:=jJ B;obtain⟨f,CH⟩:∃ f:Nat,p/q=(f:Int):=⟨(p/q).toNat,by have:=Int.ediv_nonneg (Int.le_of_lt p0) (Int.le_of_lt q0);omega⟩
 have af:(p:Rat)/(q:Rat)<(f:Rat)+1:=by
  have k:=kW p q0;rw[CH] at k;have c:(p:Rat)<(((f:Int)+1)*q:Int):=by exact_mod_cast k
  rw[YA,Rat.intCast_add] at c;have c1:((1:Int):Rat)=1:=rfl;have c2:((f:Int):Rat)=(f:Rat):=rfl;rw[c1,c2] at c;refine Rat.lt_of_mul_lt_mul_right (c:=(q:Rat)) ?_ (Yw qr);rw[rdm qr];exact c
 have xf:2*((B:Rat)+(f:Rat)+1)<=(n:Rat)/(d:Rat):=by
  refine jL dr ?_;have c:=jA hf;rw[CH,YA,YA,Rat.intCast_add,Rat.intCast_add] at c;have c1:((1:Int):Rat)=1:=rfl;have c2:((f:Int):Rat)=(f:Rat):=rfl;have c3:((B:Int):Rat)=(B:Rat):=rfl;have c4:((2:Int):Rat)=2:=rfl;rw[c1,c2,c3,c4] at c;grind
 obtain⟨a,ha⟩:∃ a,a=(p:Rat)/(q:Rat):=⟨_,rfl⟩;obtain⟨x,hx⟩:∃ x,x=(n:Rat)/(d:Rat):=⟨_,rfl⟩;rw[<- ha] at a0 af ig ⊢;rw[<- hx] at xf ⊢;have f0:(0:Rat)<=(f:Rat):=by exact_mod_cast Nat.zero_le f
 have B0:(1:Rat)<=(B:Rat):=by exact_mod_cast hB
 have x1:1<=x:=by grind
 have x0:0<x:=by grind
 have each:∀ k:Nat,k<=B->2*(Q k:Rat)<=x*upT a x k:=λ k=>by
  induction k with
  | zero =>
   intro _
   have e:=yZ a0 x;have u0:=kH a0 (Yw x0) 0;have m:=Yv (show 2*a<=x by grind) u0
   have q00:((Q 0:Int):Rat)=1:=rfl;rw[q00];grind
  | succ k ih =>
   intro hk
   have i:=ih (by omega)
   have e:=jX a0 x k;have u0:=kH a0 (Yw x0) (k+1);have kb:(k:Rat)+1<=(B:Rat):=by exact_mod_cast hk
   have m:=Yv (show 2*(a+((k:Rat)+1))<=x by grind) u0
   have e2:((Q (k+1):Int):Rat)=2*(Q k:Rat):=by
    have:Q (k+1)=2*Q k:=rfl;rw[this,YA];rfl
   rw[e2];have r:2*(a+((k:Rat)+1))*upT a x (k+1)=2*((a+((k:Rat)+1))*upT a x (k+1)):=by grind
   rw[r,e] at m;grind
 have low:=lw_far hL (k:=(Q B:Rat)) a0 x1 (by grind) QR (B+1) (λ M hM=>by
  have s:∀ j:Nat,upT a x B<=uS a x (B+1+j):=λ j=>by
   induction j with
   | zero =>
    have:=zCJ a0 (Yw x0) B
    show upT a x B<=uS a x (B+1)
    rw[yV];grind
   | succ j ih =>
    have:=kH a0 (Yw x0) (B+1+j)
    show upT a x B<=uS a x (B+1+j+1)
    rw[yV];grind
  obtain⟨j,rfl⟩:∃ j,M=B+1+j:=⟨M-(B+1),by omega⟩
  have m:=Yr (s j) (Yw x0)
  exact Rat.le_trans (each B (Yy _)) m) ig
 have up:=zS3 x0 ig;have q1:=zJ hB;have e1:Q 1=2:=rfl;have Lx:=zE 89;refine⟨by omega,by omega,by omega,by omega,?_⟩
 intro e he
 obtain⟨N1,k1⟩:=low e he;obtain⟨N2,k2⟩:=up e he;refine⟨N1+N2,λ M hM=>?_⟩
 have c1:=k1 M (by omega)
 have c2:=k2 M (by omega)
 simp only[] at c1 c2 ⊢
 have s:((Q B-1:Int):Rat)/(Q B:Rat)=1-1/(Q B:Rat):=by
  rw[Rat.intCast_sub];have c1:((1:Int):Rat)=1:=rfl;rw[c1,YE,YE];have:=Rat.mul_inv_cancel (Q B:Rat) (by grind)
  grind
 have s2:(Q B:Rat)/(Q B:Rat)=1:=by rw[YE,Rat.mul_inv_cancel _ (by grind)]
 rw[s,s2];constructor<;>grind
theorem zHC {B:Nat} {sm:Int × Int} {ws:Int} (hB:8<=B) (hs:Abs sm (Q (B-8))) (X8:sm.1<=sm.2) (hw:sm.2-sm.1<=ws):(zU B sm 1).2-(zU B sm 1).1<=ws+2:=by
 have q:=zE B
 have h1:=zAZ (c:=ws) (zBV hB hs 0) hs (zAG B sm 0) X8 (by
  have e:(zU B sm 0).2-(zU B sm 0).1=0:=by show Q B-Q B=0;omega
  rw[e];have m:=Yx hw (show 0<=Q B by omega)
  have:Q (B-8*0)=Q B:=rfl
  rw[this,Int.mul_zero,Int.mul_comm ws];omega)
 have h2:=kJ (a:=zAJ B (zU B sm 0) sm) (n:=1) (d:=((0:Nat):Int)+1) (c:=ws+1) (by omega) (by simp;omega)
 show (zK (zAJ B (zU B sm 0) sm) 1 (((0:Nat):Int)+1)).2-(zK (zAJ B (zU B sm 0) sm) 1 (((0:Nat):Int)+1)).1<=ws+2
 omega
theorem zPB {B:Nat} {sm:Int × Int} {ws:Int} (hB:8<=B) (hs:Abs sm (Q (B-8))) (X8:sm.1<=sm.2) (hw:sm.2-sm.1<=ws) (n:Nat):(zU B sm (n+2)).2-(zU B sm (n+2)).1<=ws/64+6:=by
 have El:0<=ws:=by omega
 have step:∀ (m:Nat) (c:Int),(zU B sm (m+1)).2-(zU B sm (m+1)).1<=c->0<=c->(zU B sm (m+2)).2-(zU B sm (m+2)).1<=(ws+c+255)/256+2:=λ m c hc c0=>by
  have q:=zE (B-8);have e:=zLF hB;have m1:Q (B-8*(m+1))<=Q (B-8):=zJ (by omega)
  have p1:=Int.mul_le_mul m1 hw (by omega) (by omega)
  have p2:=Yx hc (show 0<=Q (B-8) by omega)
  have h1:=zAZ (c:=(ws+c+255)/256) (zBV hB hs (m+1)) hs (zAG B sm (m+1)) X8 (by
   have e2:(ws+c+255)/256*Q B=Q (B-8)*(256*((ws+c+255)/256)):=by rw[e];grind
   rw[e2];have:=Yx (show ws+c<=256*((ws+c+255)/256) by omega) (show 0<=Q (B-8) by omega)
   rw[Int.mul_add] at this
   omega)
  have c1:0<=(ws+c+255)/256:=by omega
  have hp:=Yz (show 0<=(ws+c+255)/256+1 by omega) (show 0<=((m+1:Nat):Int) by omega)
  have h2:=kJ (a:=zAJ B (zU B sm (m+1)) sm) (n:=1) (d:=((m+1:Nat):Int)+1) (c:=(ws+c+255)/256+1) (by omega) (by
   rw[Int.mul_one,Int.mul_add,Int.mul_one];omega)
  show (zK (zAJ B (zU B sm (m+1)) sm) 1 (((m+1:Nat):Int)+1)).2-(zK (zAJ B (zU B sm (m+1)) sm) 1 (((m+1:Nat):Int)+1)).1<=_
  omega
 induction n with
 | zero =>
  have:=step 0 (ws+2) (zHC hB hs X8 hw) (by omega)
  omega
 | succ n ih =>
  have:=step (n+1) (ws/64+6) ih (by omega)
  omega
theorem zR5 {B:Nat} {sm:Int × Int} {ws:Int} (hB:8<=B) (hs:Abs sm (Q (B-8))) (X8:sm.1<=sm.2) (hw:sm.2-sm.1<=ws) (N:Nat):(jE (zU B sm) N).2-(jE (zU B sm) N).1<=ws+2+(N:Int)*(ws/64+6):=by
 have El:0<=ws:=by omega
 induction N with
 | zero =>
  show Q B-Q B<=ws+2+((0:Nat):Int)*(ws/64+6)
  have:((0:Nat):Int)=0:=rfl;rw[this,Int.zero_mul];omega
 | succ n ih =>
  have e1:(jE (zU B sm) (n+1)).1=(jE (zU B sm) n).1+(zU B sm (n+1)).1:=rfl;have e2:(jE (zU B sm) (n+1)).2=(jE (zU B sm) n).2+(zU B sm (n+1)).2:=rfl
  have ec:((n+1:Nat):Int)*(ws/64+6)=(n:Int)*(ws/64+6)+(ws/64+6):=by
   have:((n+1:Nat):Int)=(n:Int)+1:=by omega
   rw[this,Int.add_mul,Int.one_mul]
  rw[e1,e2,ec]
  match n with
  | 0 =>
   have w1:=zHC hB hs X8 hw;have s:(jE (zU B sm) 0).2-(jE (zU B sm) 0).1=0:=by show Q B-Q B=0;omega
   have z:((0:Nat):Int)=0:=rfl;rw[z,Int.zero_mul];have w2:(zU B sm (0+1)).2-(zU B sm (0+1)).1<=ws+2:=w1;omega
  | n+1 =>
   have w2:(zU B sm (n+1+1)).2-(zU B sm (n+1+1)).1<=ws/64+6:=zPB hB hs X8 hw n;have Ao:=ih;generalize (((n+1:Nat):Int))*(ws/64+6)=z at *;omega
def zR1 (ws:Int) (t:Nat):Int:=2*ws+340*Q t
theorem exq_ok2 {B t N:Nat} {a:Int × Int} {x:Nat->Rat} {ws:Int} (hB:16<=B) (o9:B<=400) (ha:Iv B a x) (hx:LeN (λ _=>0) x) (hw:a.2-a.1<=ws) (hA:Abs (zG a t) (Q (B-8))) (hN:zT (zU B (zG a t)) N) (hD:2*zR1 ws t<=Q B) :
  Q B<=2*(sqI B (zN (zU B (zG a t)) N) t).1/\(sqI B (zN (zU B (zG a t)) N) t).1<=(sqI B (zN (zU B (zG a t)) N) t).2/\(sqI B (zN (zU B (zG a t)) N) t).2<=Q (B+eb t)/\((sqI B (zN (zU B (zG a t)) N) t).2-(sqI B (zN (zU B (zG a t)) N) t).1)*Q B<=zR1 ws t*(sqI B (zN (zU B (zG a t)) N) t).2/\Iv B (sqI B (zN (zU B (zG a t)) N) t) (Ev x):=by
 have q:=zE t;have qB:=zE B;have al:=ha.le;have El:0<=ws:=by omega
 obtain⟨u,hu⟩:∃ u,u=ws/Q t+1:=⟨_,rfl⟩
 have wu:ws<=u*Q t:=by
  have:=kW ws (show 0<Q t by omega)
  rw[<- hu] at this;omega
 have uw:u*Q t<=ws+Q t:=by
  have:=Int.ediv_mul_le ws (show Q t≠0 by omega)
  have r:u*Q t=ws/Q t*Q t+Q t:=by rw[hu];grind
  omega
 have u0:0<=u:=by have:=Int.ediv_nonneg El (show 0<=Q t by omega);omega
 obtain⟨g1,g2,g3,g4⟩:=zCD (ws:=u) hB hA al (by omega) hN
 have X8:(zG a t).1<=(zG a t).2:=by
  have:=kN (a:=a) (n:=1) (d:=Q t) al (by omega) (by omega)
  simpa [zK,zG] using this
 have dle:=zCP (zAG B (zG a t)) N;have wd:(zG a t).2-(zG a t).1<=u+1:=zBT (by omega) (by omega)
 have wS:=zR5 (by omega) hA X8 wd N
 have bh:Bdd (λ M=>x M/(Q t:Rat)):=Has.bdd (ha.down t)
 have qr:=jJ t
 have l0:LeN (λ _=>0) (λ M=>x M/(Q t:Rat)):=by
  obtain⟨z,hz,kz⟩:=hx.null;refine LeN.of_null (hz.bmul (Bdd.const (1/(Q t:Rat)))) 0 λ M _=>?_
  have k:=kz M;have ip:(0:Rat)<=1/(Q t:Rat):=jL qr (by grind)
  have m:=Yv k ip;have e:x M/(Q t:Rat)=x M*(1/(Q t:Rat)):=by rw[YE,YE,Rat.one_mul]
  rw[e];grind
 have up:=zJ2 (zDO (N:=N) (by omega) (ha.down t) hA) (zJC bh l0)
 have iA:=hN.1
 have wD:(zN (zU B (zG a t)) N).2-(zN (zU B (zG a t)) N).1<=(u+1)+2+(N:Int)*((u+1)/64+6)+2:=by
  simp only[zN,zAR];omega
 obtain⟨D,Cm⟩:∃ D,D=zN (zU B (zG a t)) N:=⟨_,rfl⟩;rw[<- Cm] at dle wD up;obtain⟨c,hc⟩:∃ c,c=2*(u+1)+310:=⟨_,rfl⟩;have c0:0<=c:=by omega
 have wC:D.2-D.1<=c:=by
  have m:=Yt (show (N:Int)<=51 by omega) (show 0<=(u+1)/64+6 by omega)
  omega
 have tc:Q t*(c+4)<=zR1 ws t:=by
  unfold zR1;rw[hc];have r:Q t*(2*(u+1)+310+4)=2*(u*Q t)+316*Q t:=by grind
  omega
 have r4:Q t*(c+4)=Q t*c+4*Q t:=by grind
 have low:Q B-c<=D.1:=by omega
 have rel:(D.2-D.1)*Q B<=c*D.2:=Int.le_trans (Yt wC (by omega)) (Yx up c0)
 have sl:=zI3 (B:=B) dle c0 t (by omega) low
 have rs:=zOG (B:=B) dle c0 low c0 rel t (by omega)
 have iv:=zEX (N:=N) (by omega) ha hA
 rw[<- Cm] at g1 g2 iv ⊢;refine⟨by omega,g1,g2.2.2.2,?_,iv⟩
 refine Int.le_trans rs (Yt (by omega) ?_)
 omega
end Go.Proofs.YtgmnknmjainabacGreat
