/-
  Its own texts.
-/
import Derived.Test.YtgmnknmjainabacGreatI07
set_option maxRecDepth 100000
set_option maxHeartbeats 40000000
set_option linter.unnecessarySimpa false
set_option linter.unusedSimpArgs false
set_option linter.unusedVariables false
namespace Go.Proofs.YtgmnknmjainabacGreat
open Ex
def zO1 (B:Nat) (z sq:Int × Int):Nat->Int × Int
 | 0=>z
 | n+1=>zK (zAH B (zO1 B z sq n) sq) (2*(n:Int)+1) (2*(n:Int)+3)
theorem yA {n d:Int} (hd:0<d) (B:Nat):(ofI n d B).1<=(ofI n d B).2:=by
 have:=kM (a:=(n*Q B,n*Q B)) (n:=1) (Int.le_refl _) hd (by omega)
 simpa [zK,ofI] using this
theorem yB {n d:Int} (hd:0<d) (B:Nat):(ofI n d B).2-(ofI n d B).1<=1:=by
 have:=zBM (x:=n*Q B) (y:=n*Q B) (c:=0) hd (by omega)
 simpa [ofI] using this
theorem zGE {n d m:Int} (hd:0<d) (B:Nat) (h1 : -(m*d)<=n*Q B) (h2:n*Q B<=m*d):Abs (ofI n d B) m:=by
 have:=kC hd h1 h2;exact⟨this.1,this.2.1,this.2.2.1,this.2.2.2⟩
theorem zSA {B:Nat} {z sq:Int × Int} (hz:z.1<=z.2) (n:Nat):(zO1 B z sq n).1<=(zO1 B z sq n).2:=by
 cases n with
 | zero=>exact hz
 | succ n=>exact kM (zBY B) (by omega) (by omega)
theorem zNH {B:Nat} {z sq:Int × Int} (hB:3<=B) (hz:Abs z (Q B)) (hs:Abs sq (Q (B-3))) (n:Nat):Abs (zO1 B z sq n) (Q (B-3*n)):=by
 induction n with
 | zero=>exact hz
 | succ n ih=>exact zEX (zCT ih hs (zP3 hB n)) (by omega) (by omega) (by omega)
theorem zP4 {B:Nat} (hB:3<=B):Q B=8*Q (B-3):=by
 have:=jF 3 (B-3);rw[show 3+(B-3)=B by omega] at this
 rw[this];rfl
theorem zSB {B:Nat} {z sq:Int × Int} (hB:3<=B) (hz:Abs z (Q B)) (hs:Abs sq (Q (B-3))) (rm:z.1<=z.2) (Y5:sq.1<=sq.2) (hzw:z.2-z.1<=1) (T8:sq.2-sq.1<=2) (n:Nat):(zO1 B z sq n).2-(zO1 B z sq n).1<=6:=by
 induction n with
 | zero=>simp only[zO1];omega
 | succ n ih =>
  have q:=zE (B-3);have e:=zP4 hB;have m1:Q (B-3*n)<=Q B:=zJ (by omega)
  have p1:=Int.mul_le_mul m1 T8 (by omega) (by omega)
  have p2:=YD ih (show 0<=Q (B-3) by omega)
  have h1:=zAU (B:=B) (c:=3) (zNH hB hz hs n) hs (zSA rm n) Y5 (by omega)
  have h2:=kI (a:=zAH B (zO1 B z sq n) sq) (n:=2*(n:Int)+1) (d:=2*(n:Int)+3) (c:=4) (by omega) (by
   have:=YA (show (zAH B (zO1 B z sq n) sq).2-(zAH B (zO1 B z sq n) sq).1<=4 by omega) (show 0<=2*(n:Int)+1 by omega)
   omega)
  simp only[zO1];omega
theorem logT_has {B:Nat} {a sq:Int × Int} {z:Rat} (h:Iv B a (λ _=>z)) (hs:Iv B sq (λ _=>z*z)) (n:Nat):Iv B (zO1 B a sq n) (λ _=>pw z (2*n+1)/(2*(n:Rat)+1)):=by
 induction n with
 | zero =>
  refine Has.of_eq h λ M=>?_
  simp[pw];grind
 | succ n ih =>
  have:=(ih.mul hs).scale (n:=2*(n:Int)+1) (d:=2*(n:Int)+3) (by omega) (by omega)
  refine Has.of_eq this λ M=>?_
  have e1:((2*(n:Int)+1:Int):Rat)=2*(n:Rat)+1:=by rw[Rat.intCast_add,YG];rfl
  have e2:((2*(n:Int)+3:Int):Rat)=2*(n:Rat)+3:=by rw[Rat.intCast_add,YG];rfl
  have e3:((n+1:Nat):Rat)=(n:Rat)+1:=by simp
  have e4:pw z (2*(n+1)+1)=z*(z*pw z (2*n+1)):=rfl;rw[e1,e2,e3,e4];have hn:(0:Rat)<=(n:Rat):=by exact_mod_cast Nat.zero_le n
  generalize pw z (2*n+1)=p;have d1:(2*(n:Rat)+1)≠0:=by grind
  have d2:(2*(n:Rat)+3)≠0:=by grind
  have d3:2*((n:Rat)+1)+1=2*(n:Rat)+3:=by grind
  rw[d3];generalize 2*(n:Rat)+1=u at *;generalize 2*(n:Rat)+3=v at *;grind
theorem odd_half {z b:Rat} (hz:AB z (1/2)) (n:Nat) (h:AB (pw z (2*n+1)/(2*(n:Rat)+1)) b):AB (pw z (2*(n+1)+1)/(2*((n+1:Nat):Rat)+1)) (b/2):=by
 have hn:(0:Rat)<=(n:Rat):=by exact_mod_cast Nat.zero_le n
 have e3:((n+1:Nat):Rat)=(n:Rat)+1:=by simp
 have e4:pw z (2*(n+1)+1)=z*(z*pw z (2*n+1)):=rfl;have e5:=rdm (a:=pw z (2*n+1)) (show (0:Rat)<2*(n:Rat)+1 by grind)
 rw[e3,e4];refine zDG (by grind) ?_
 generalize pw z (2*n+1)/(2*(n:Rat)+1)=t at *;rw[<- e5];have h1:AB (2*(n:Rat)+1) (2*(n:Rat)+1):=by constructor<;>grind
 have g:=(hz.mul (hz.mul (h.mul h1)));refine g.mono ?_;have:=Yz hn h.nonneg;have:=h.nonneg;grind
structure yQ (n d:Int):Prop where
 hn:0<n
 hd:0<d
 h1:3*(n-d)<=n+d
 h2:3*(d-n)<=n+d
def zI (n d:Int) (B:Nat):Int × Int:=ofI (n-d) (n+d) B
def lnT (n d:Int) (B:Nat):Nat->Int × Int:=zO1 B (zI n d B) (zAH B (zI n d B) (zI n d B))
def zR (n d:Int):Rat:=((n-d:Int):Rat)/((n+d:Int):Rat)
theorem zKZ {n d:Int} (h:yQ n d) (B:Nat):Abs (zI n d B) (Q B/3+1):=by
 obtain⟨h0,Jc,h1,h2⟩:=h;have q:=zE B;have g1:=YA h1 (show 0<=Q B by omega)
 have g2:=YA h2 (show 0<=Q B by omega)
 have g3:=YA (show Q B<=3*(Q B/3+1) by omega) (show 0<=n+d by omega)
 have e1:3*(Q B/3+1)*(n+d)=3*((Q B/3+1)*(n+d)):=Int.mul_assoc _ _ _;have e2:3*(n-d)*Q B=3*((n-d)*Q B):=Int.mul_assoc _ _ _;have e3:3*(d-n)*Q B = -(3*((n-d)*Q B)):=by grind
 have e4:(n+d)*Q B=Q B*(n+d):=Int.mul_comm _ _;exact zGE (by omega) B (by omega) (by omega)
theorem sq_small {q:Int} (hq:65536<=q):(q/3+1)*(q/3+1)*8<=q*q:=by
 have h1:3*(q/3+1)<=q+3:=by omega
 have h2:=Int.mul_le_mul h1 h1 (by omega) (by omega)
 have h3:=YA hq (show 0<=q by omega)
 grind
theorem zL7 {n d:Int} (h:yQ n d) {B:Nat} (hB:16<=B):Abs (zAH B (zI n d B) (zI n d B)) (Q (B-3)):=by
 refine zCT (zKZ h B) (zKZ h B) ?_;have e:=zP4 (show 3<=B by omega)
 have h1:=zJ hB;have h2:Q 16=65536:=rfl;have h3:=sq_small (q:=Q B) (by omega)
 have e2:Q B*Q B=8*(Q (B-3)*Q B):=by rw[e];grind
 omega
theorem zMJ {n d:Int} (h:yQ n d) {B:Nat} (hB:16<=B):Abs (zI n d B) (Q B):=(zKZ h B).mono (by
 have h1:=zJ hB;have h2:Q 16=65536:=rfl
 omega)
theorem sqI_wide {n d:Int} (h:yQ n d) {B:Nat} (hB:16<=B):(zAH B (zI n d B) (zI n d B)).2-(zAH B (zI n d B) (zI n d B)).1<=2:=by
 have hd:0<n+d:=by have:=h.hn;have:=h.hd;omega
 have l:=yA (n:=n-d) hd B;have w:=yB (n:=n-d) hd B;have h1:=zJ hB;have h2:Q 16=65536:=rfl;have p:=YD w (show 0<=Q B/3+1 by omega)
 exact zAU (c:=1) (zKZ h B) (zKZ h B) l l (by
  show (Q B/3+1)*((ofI (n-d) (n+d) B).2-(ofI (n-d) (n+d) B).1)+(Q B/3+1)*((ofI (n-d) (n+d) B).2-(ofI (n-d) (n+d) B).1)<=1*Q B
  omega)
theorem zF8 {n d:Int} (h:yQ n d) {B:Nat} (hB:16<=B) (k:Nat):Abs (lnT n d B k) (Q (B-3*k)):=zNH (by omega) (zMJ h hB) (zL7 h hB) k
theorem zNE {n d:Int} (h:yQ n d) (B k:Nat):(lnT n d B k).1<=(lnT n d B k).2:=zSA (yA (by have:=h.hn;have:=h.hd;omega) B) k
theorem lnT_wide {n d:Int} (h:yQ n d) {B:Nat} (hB:16<=B) (k:Nat):(lnT n d B k).2-(lnT n d B k).1<=6 :=
 zSB (by omega) (zMJ h hB) (zL7 h hB) (yA (by have:=h.hn;have:=h.hd;omega) B) (zBY B) (yB (by have:=h.hn;have:=h.hd;omega) B) (sqI_wide h hB) k
theorem zNF {n d:Int} (h:yQ n d) {B N:Nat} (hB:16<=B) (hN:zU (lnT n d B) N) :
  (zN (lnT n d B) N).1<=(zN (lnT n d B) N).2/\Abs (zN (lnT n d B) N) (2*Q B)/\N<=B/3+1/\(zN (lnT n d B) N).2-(zN (lnT n d B) N).1<=((N:Int)+1)*6+2:=by
 refine⟨zCN (zNE h B) N,zF1 (s:=3) (by omega) (zNE h B) (zF8 h hB) hN,?_,zB7 (lnT_wide h hB) hN⟩
 obtain⟨N',n1,n2⟩:=zB3 (s:=3) (by omega) (zF8 h hB)
 refine Nat.le_trans (Nat.not_lt.1 λ D5=>?_) n1
 have:=hN.2 N' D5;have:=n2.1;omega
theorem zR_AB {n d:Int} (h:yQ n d):AB (zR n d) (1/2):=by
 obtain⟨h0,Jc,h1,h2⟩:=h;have hp:(0:Rat)<((n+d:Int):Rat):=by exact_mod_cast (show 0<n+d by omega)
 refine zDG hp ?_;have g1:((3*(n-d):Int):Rat)<=((n+d:Int):Rat):=zZ h1;have g2:((-(3*(n-d)):Int):Rat)<=((n+d:Int):Rat):=zZ (by omega)
 rw[Rat.intCast_neg] at g2;rw[YG] at g1 g2;have e:((3:Int):Rat)=3:=rfl;rw[e] at g1 g2;constructor<;>grind
theorem ln_has {n d:Int} (h:yQ n d) (B N:Nat):Iv B (zN (lnT n d B) N) (λ M=>Az (zR n d) M):=by
 have hz:Iv B (zI n d B) (λ _=>zR n d):=Iv.of B (by have:=h.hn;have:=h.hd;omega)
 exact zHW (zNE h B) (λ k _=>logT_has hz (hz.mul hz) k) 0 (λ M _ k b _ hb=>odd_half (zR_AB h) k hb)
theorem zFJ {n d:Int} (h:yQ n d):IsLog (λ M=>2*Az (zR n d) M) (λ _=>(n:Rat)/(d:Rat)):=by
 refine isLog_Az (z:=λ _=>zR n d) 0 (λ _ _=>zR_AB h) (λ M _=>?_)
 obtain⟨h0,Jc,h1,h2⟩:=h;have hp:(0:Rat)<((n+d:Int):Rat):=by exact_mod_cast (show 0<n+d by omega)
 have hd:(0:Rat)<(d:Rat):=by exact_mod_cast Jc
 have e1:=rdm (a:=((n-d:Int):Rat)) hp;have e2:=rdm (a:=(n:Rat)) hd
 show (n:Rat)/(d:Rat)*(1-zR n d)=1+zR n d
 unfold zR;generalize ((n-d:Int):Rat)/((n+d:Int):Rat)=z at *;generalize (n:Rat)/(d:Rat)=r at *;rw[Rat.intCast_sub,Rat.intCast_add] at e1;rw[Rat.intCast_add] at hp;have e3:z*(r*d+d)=r*d-d:=by rw[e2];exact e1
 have e4:(d:Rat)*(r*(1-z)-(1+z))=0:=by grind
 rcases Rat.mul_eq_zero.1 e4 with h|h
 ·grind
 ·grind
theorem pw_Q (k:Nat):pw 2 k=(Q k:Rat):=by
 induction k with
 | zero=>rfl
 | succ k ih =>
  have e:Q (k+1)=2*Q k:=rfl;rw[e,YG];simp only[pw,ih];rfl
def zGR (a b:Int × Int) (k:Int):Int × Int:=if k<0 then zI7 (kH a 2) (kH (kH b 2) (-k)) else zB5 (kH a 2) (kH (kH b 2) k)
def Bal (n d n' d' k:Int):Prop:=yQ n' d'/\(0<=k->n*d'=n'*d*Q k.toNat)/\(k<0->n*d'*Q (-k).toNat=n'*d)
theorem zST:yQ 2 1:=⟨by omega,by omega,by omega,by omega⟩
theorem zGA {n d n' d' k:Int} (hn:0<n) (hd:0<d) (h:Bal n d n' d' k) (B N N2:Nat) :
  ∃ l,IsLog l (λ _=>(n:Rat)/(d:Rat))/\Iv B (zGR (zN (lnT n' d' B) N) (zN (lnT 2 1 B) N2) k) l:=by
 obtain⟨h1,h2,h3⟩:=h;have d0:(0:Rat)<(d:Rat):=by exact_mod_cast hd
 have Cd:(0:Rat)<(d':Rat):=by exact_mod_cast h1.hd
 have a1:=(ln_has h1 B N).times 2;have a2:=(ln_has zST B N2).times 2;have l1:=zFJ h1;have l2:=zFJ zST;have e2:((2:Nat):Rat)=2:=rfl
 have WC:(λ _:Nat=>((2:Int):Rat)/((1:Int):Rat))=λ _=>(2:Rat):=funext λ _=>by
  have:((2:Int):Rat)/((1:Int):Rat)=2:=by
   have e:=rdm (a:=((2:Int):Rat)) (show (0:Rat)<((1:Int):Rat) by decide)
   have e1:((1:Int):Rat)=1:=rfl;have e3:((2:Int):Rat)=2:=rfl;rw[e1,e3] at e ⊢;grind
  exact this
 rw[WC] at l2;rw[e2] at a1 a2
 by_cases hk:k<0
 ·obtain⟨j,rfl⟩:∃ j:Nat,k = -(j:Int):=⟨(-k).toNat,by omega⟩
  have hq:=h3 hk;have ej:(-(-(j:Int))).toNat=j:=by omega
  rw[ej] at hq;have qj:=jH j;have l3:=(l2.times j).neg (s:=λ _=>1/(Q j:Rat)) (Bdd.const _) 0 (λ M _=>by rw[pw_Q];exact rdm qj)
  refine⟨_,(l1.add l3).congr_r (null_zero.of_eq λ M=>?_),?_⟩
  ·show (n':Rat)/(d':Rat)*(1/(Q j:Rat))-(n:Rat)/(d:Rat)=0
   have O2:((n*d'*Q j:Int):Rat)=((n'*d:Int):Rat):=by rw[hq]
   rw[YG,YG,YG] at O2;have f1:=rdm (a:=(n':Rat)) Cd;have f2:=rdm (a:=(n:Rat)) d0;have f3:=rdm (a:=(1:Rat)) qj;generalize (n':Rat)/(d':Rat)=r' at *;generalize (n:Rat)/(d:Rat)=r at *;generalize 1/(Q j:Rat)=i at *;rw[<- f1,<- f2] at O2;have f4:(d:Rat)*((d':Rat)*(r*(Q j:Rat)-r'))=0:=by grind
   have f5:r*(Q j:Rat)=r':=by
    rcases Rat.mul_eq_zero.1 f4 with h|h
    ·grind
    ·rcases Rat.mul_eq_zero.1 h with h|h
     ·grind
     ·grind
   rw[<- f5];have:r*(Q j:Rat)*i-r=r*(i*(Q j:Rat))-r:=by grind
   rw[this,f3];grind
  ·unfold zGR
   rw[if_pos hk];have:=a1.sub (a2.times j);rw[show -(-(j:Int))=(j:Int) by omega]
   refine Has.of_eq this λ M=>?_
   grind
 ·obtain⟨j,rfl⟩:∃ j:Nat,k=(j:Int):=⟨k.toNat,by omega⟩
  have hq:=h2 (by omega)
  have ej:((j:Int)).toNat=j:=by omega
  rw[ej] at hq;have l3:=l2.times j;refine⟨_,(l1.add l3).congr_r (null_zero.of_eq λ M=>?_),?_⟩
  ·show (n':Rat)/(d':Rat)*pw 2 j-(n:Rat)/(d:Rat)=0
   rw[pw_Q];have O2:((n*d':Int):Rat)=((n'*d*Q j:Int):Rat):=by rw[hq]
   rw[YG,YG,YG] at O2;have f1:=rdm (a:=(n':Rat)) Cd;have f2:=rdm (a:=(n:Rat)) d0;generalize (n':Rat)/(d':Rat)=r' at *;generalize (n:Rat)/(d:Rat)=r at *;rw[<- f1,<- f2] at O2;have f4:(d:Rat)*((d':Rat)*(r'*(Q j:Rat)-r))=0:=by grind
   rcases Rat.mul_eq_zero.1 f4 with h|h
   ·grind
   ·rcases Rat.mul_eq_zero.1 h with h|h
    ·grind
    ·exact h
  ·unfold zGR
   rw[if_neg hk];exact a1.add (a2.times j)
theorem zF9 {n' d' k:Int} (h:yQ n' d') {B N N2:Nat} (hB:16<=B) (hN:zU (lnT n' d' B) N) (Z7:zU (lnT 2 1 B) N2) (K:Int) (Z9 : -K<=k) (aJ:k<=K) :
  let o:=zGR (zN (lnT n' d' B) N) (zN (lnT 2 1 B) N2) k
  o.1<=o.2/\Abs o ((K+1)*(4*Q B))/\o.2-o.1<=(K+1)*(2*(((B:Int)/3+2)*6+2)):=by
 obtain⟨a1,a2,a3,a4⟩:=zNF h hB hN;obtain⟨b1,b2,b3,b4⟩:=zNF zST hB Z7
 intro o
 have q:=zE B;obtain⟨W,hW⟩:∃ W:Int,W=((B:Int)/3+2)*6+2:=⟨_,rfl⟩;have a5:(zN (lnT n' d' B) N).2-(zN (lnT n' d' B) N).1<=W:=by omega
 have b5:(zN (lnT 2 1 B) N2).2-(zN (lnT 2 1 B) N2).1<=W:=by omega
 rw[<- hW];have ho:o=zGR (zN (lnT n' d' B) N) (zN (lnT 2 1 B) N2) k:=rfl
 clear_value o
 subst ho;generalize zN (lnT n' d' B) N=x at *;generalize zN (lnT 2 1 B) N2=y at *;obtain⟨x1,x2,x3,x4⟩:=a2;obtain⟨y1,y2,y3,y4⟩:=b2;clear a3 a4 b3 b4;have hK:0<=K:=by omega
 have eK:(K+1)*(4*Q B)=K*(4*Q B)+4*Q B:=by rw[Int.add_mul,Int.one_mul]
 have eW:(K+1)*(2*W)=K*(2*W)+2*W:=by rw[Int.add_mul,Int.one_mul]
 rw[eK,eW]
 have hj:∀ j:Int,0<=j->j<=K->y.1*2*j<=y.2*2*j /\ -(K*(4*Q B))<=y.1*2*j/\y.1*2*j<=K*(4*Q B) /\ -(K*(4*Q B))<=y.2*2*j/\y.2*2*j<=K*(4*Q B)/\y.2*2*j-y.1*2*j<=K*(2*W):=λ j j0 jK=>by
  have c1:=yR (x:=y.1*2) (m:=4*Q B) (by omega) (by omega) (show -K<=j by omega) jK
  have c2:=yR (x:=y.2*2) (m:=4*Q B) (by omega) (by omega) (show -K<=j by omega) jK
  have c3:=YA (show y.1*2<=y.2*2 by omega) j0
  have c4:=Int.mul_le_mul (show y.2*2-y.1*2<=2*W by omega) jK j0 (by omega)
  rw[Int.sub_mul] at c4;have e1:4*Q B*K=K*(4*Q B):=Int.mul_comm _ _;have e2:2*W*K=K*(2*W):=Int.mul_comm _ _;omega
 unfold zGR;split
 ·obtain⟨c1,c2,c3,c4,c5,c6⟩:=hj (-k) (by omega) (by omega)
  simp only[zI7,kH,Abs];omega
 ·obtain⟨c1,c2,c3,c4,c5,c6⟩:=hj k (by omega) (by omega)
  simp only[zB5,kH,Abs];omega
open Go.RowKit
attribute [local go_sem ↓] Go.wp_at_zero Go.wp_at_succ
def zFN (k:Int):Bool:=k == 2 || k == 5 || k == 7
theorem jD (k:Int) (w:World) :
  Calls Tryz.prog 128 #[.int .i64 k] w λ r w'=>r=.returned (.bool (zFN k))/\Below w.heap.size w w':=by
 by_cases h2:k=2
 ·subst h2
  go_enter Tryz.func128,Tryz.ntmps128
  go_wp2
  go_ret
  exact⟨rfl,Below.refl _ _⟩
 by_cases h5:k=5
 ·subst h5
  go_enter Tryz.func128,Tryz.ntmps128
  go_wp2
  go_ret
  exact⟨rfl,Below.refl _ _⟩
 ·go_enter Tryz.func128,Tryz.ntmps128
  go_wp2
  go_ret
  exact⟨by simp[zFN,h2,h5],Below.refl _ _⟩
def zAA (p q n:Int):Bool:=decide (-(n*q)<=p) && decide (p<=n*q)
theorem zBD (p q n:Int) (w:World) (cT:0<=n) (hn:n<=100000) (nH:1<=q) (hq:q<=1024) :
  Calls Tryz.prog 75 #[.agg #[.int .i64 p,.int .i64 q],.int .i64 n] w λ r w'=>r=.returned (.bool (zAA p q n))/\Below w.heap.size w w':=by
 have e : -n*q = -(n*q):=Int.neg_mul _ _;have b1:0<=n*q:=YF cT (by omega)
 have b2:n*q<=102400000:=Int.le_trans (Int.mul_le_mul hn hq (by omega) (by omega)) (by decide)
 by_cases h1 : -(n*q)<=p
 ·go_enter Tryz.func75,Tryz.ntmps75
  go_wp2
  go_ret
  exact⟨by simp[zAA,h1];try omega,bl1 _ _⟩
 ·go_enter Tryz.func75,Tryz.ntmps75
  go_wp2
  go_ret
  exact⟨by simp[zAA,h1];try omega,bl1 _ _⟩
def yN (k p q r s:Int):Bool :=
 if k=1 then decide (0<r) else if k=3\/k=4 then decide (0<p) && decide (0<r)
 else if k=6 then decide (q=1) && (decide (0<=p) && (decide (p<=100) && (decide (0<=r) && decide (r<=s)))) else decide (0<p)
theorem zBA (k p q r s:Int) (w:World) (h1:1<=k) (h7:k<=7) :
  Calls Tryz.prog 129 #[.agg #[.int .i64 k,.int .i64 p,.int .i64 q,.int .i64 r,.int .i64 s]] w λ z w'=>z=.returned (.bool (yN k p q r s))/\Below w.heap.size w w':=by
 obtain rfl|rfl|rfl|rfl|rfl|rfl|rfl:k=1\/k=2\/k=3\/k=4\/k=5\/k=6\/k=7:=by omega
 ·go_enter Tryz.func129,Tryz.ntmps129
  go_wp2
  go_ret
  exact⟨by simp[yN];try omega,bl1 _ _⟩
 ·go_enter Tryz.func129,Tryz.ntmps129
  go_wp2
  go_ret
  exact⟨by simp[yN];try omega,bl1 _ _⟩
 ·by_cases c:0<p
  all_goals
   go_enter Tryz.func129,Tryz.ntmps129
   go_wp2
   go_ret
   exact⟨by simp[yN,c];try omega,bl1 _ _⟩
 ·by_cases c:0<p
  all_goals
   go_enter Tryz.func129,Tryz.ntmps129
   go_wp2
   go_ret
   exact⟨by simp[yN,c];try omega,bl1 _ _⟩
 ·go_enter Tryz.func129,Tryz.ntmps129
  go_wp2
  go_ret
  exact⟨by simp[yN];try omega,bl1 _ _⟩
 ·by_cases c1:q=1
  ·subst c1
   by_cases c2:0<=p
   ·by_cases c3:p<=100
    ·by_cases c4:0<=r
     ·go_enter Tryz.func129,Tryz.ntmps129
      go_wp2
      go_ret
      exact⟨by simp[yN,c2,c3,c4];try omega,bl1 _ _⟩
     ·go_enter Tryz.func129,Tryz.ntmps129
      go_wp2
      go_ret
      exact⟨by simp[yN,c2,c3,c4];try omega,bl1 _ _⟩
    ·go_enter Tryz.func129,Tryz.ntmps129
     go_wp2
     go_ret
     exact⟨by simp[yN,c2,c3];try omega,bl1 _ _⟩
   ·go_enter Tryz.func129,Tryz.ntmps129
    go_wp2
    go_ret
    exact⟨by simp[yN,c2];try omega,bl1 _ _⟩
  ·go_enter Tryz.func129,Tryz.ntmps129
   go_wp2
   go_ret
   exact⟨by simp[yN,c1];try omega,bl1 _ _⟩
 ·go_enter Tryz.func129,Tryz.ntmps129
  go_wp2
  go_ret
  exact⟨by simp[yN];try omega,bl1 _ _⟩
def zEB (k p q r s:Int):Bool :=
 if k=6 then false else (!zFN k && decide (r*100<s)) || (!zAA p q 100 || !zAA r s 100)
theorem zDP (k p q r s:Int) (w:World) (h1:rok p q) (h2:rok r s) :
  Calls Tryz.prog 130 #[.agg #[.int .i64 k,.int .i64 p,.int .i64 q,.int .i64 r,.int .i64 s]] w λ z w'=>z=.returned (.bool (zEB k p q r s))/\Below w.heap.size w w':=by
 obtain⟨a1,a2,a3,a4⟩:=h1;obtain⟨b1,b2,b3,b4⟩:=h2
 by_cases c6:k=6
 ·subst c6
  go_enter Tryz.func130,Tryz.ntmps130
  go_wp2
  go_ret
  exact⟨by simp[zEB],bl1 _ _⟩
 cases ho:zFN k
 ·by_cases ht:r*100<s
  ·have HE:=zC (show zEB k p q r s=true by simp[zEB,c6,ho,ht])
   go_enter Tryz.func130,Tryz.ntmps130
   go_wp2_with (go_at_call 128;refine (jD _ _).mono ?_;rintro r' w1 ⟨rfl,b9⟩;rw[ho];obtain⟨C7,C9,D9⟩:=jJ (w.heap.size+1) (by simp) b9)
   go_ret
   exact⟨by rw[zA HE];first|rfl|simp[show ¬ r*100<s by omega],zB (bl1 _ _) b9⟩
  ·cases nI:zAA p q 100
   ·have HE:=zC (show zEB k p q r s=true by simp[zEB,c6,ho,ht,nI])
    go_enter Tryz.func130,Tryz.ntmps130
    go_wp2_with (first
     | (go_at_call 128;refine (jD _ _).mono ?_;rintro r' w1 ⟨rfl,b9⟩;rw[ho];obtain⟨C7,C9,D9⟩:=jJ (w.heap.size+1) (by simp) b9)
     | (go_at_call 75;refine (zBD p q 100 _ (by omega) (by omega) a3 a4).mono ?_;rintro r' w2 ⟨rfl,j8⟩;rw[nI]))
    go_ret
    exact⟨by rw[zA HE];first|rfl|simp[show ¬ r*100<s by omega],zB (zB (bl1 _ _) b9) j8⟩
   ·have HE:=zC (show zEB k p q r s=!zAA r s 100 by simp[zEB,c6,ho,ht,nI])
    go_enter Tryz.func130,Tryz.ntmps130
    go_wp2_with (first
     | (go_at_call 128;refine (jD _ _).mono ?_;rintro r' w1 ⟨rfl,b9⟩;rw[ho];obtain⟨C7,C9,D9⟩:=jJ (w.heap.size+1) (by simp) b9)
     | (go_at_call 75;have hq:=j8;refine (zBD r s 100 _ (by omega) (by omega) b3 b4).mono ?_;rintro r' w3 ⟨rfl,m9⟩)
     | (go_at_call 75;refine (zBD p q 100 _ (by omega) (by omega) a3 a4).mono ?_;rintro r' w2 ⟨rfl,j8⟩;rw[nI];obtain⟨E2,E4,F9⟩:=jJ (w.heap.size+1) C7 j8))
    go_ret
    exact⟨by rw[zA HE];first|rfl|simp[show ¬ r*100<s by omega],zB (zB (zB (bl1 _ _) b9) j8) m9⟩
 ·cases nI:zAA p q 100
  ·have HE:=zC (show zEB k p q r s=true by simp[zEB,c6,ho,nI])
   go_enter Tryz.func130,Tryz.ntmps130
   go_wp2_with (first
    | (go_at_call 128;refine (jD _ _).mono ?_;rintro r' w1 ⟨rfl,b9⟩;rw[ho];obtain⟨C7,C9,D9⟩:=jJ (w.heap.size+1) (by simp) b9)
    | (go_at_call 75;refine (zBD p q 100 _ (by omega) (by omega) a3 a4).mono ?_;rintro r' w2 ⟨rfl,j8⟩;rw[nI]))
   go_ret
   exact⟨by rw[zA HE];first|rfl|simp[show ¬ r*100<s by omega],zB (zB (bl1 _ _) b9) j8⟩
  ·have HE:=zC (show zEB k p q r s=!zAA r s 100 by simp[zEB,c6,ho,nI])
   go_enter Tryz.func130,Tryz.ntmps130
   go_wp2_with (first
    | (go_at_call 128;refine (jD _ _).mono ?_;rintro r' w1 ⟨rfl,b9⟩;rw[ho];obtain⟨C7,C9,D9⟩:=jJ (w.heap.size+1) (by simp) b9)
    | (go_at_call 75;have hq:=j8;refine (zBD r s 100 _ (by omega) (by omega) b3 b4).mono ?_;rintro r' w3 ⟨rfl,m9⟩)
    | (go_at_call 75;refine (zBD p q 100 _ (by omega) (by omega) a3 a4).mono ?_;rintro r' w2 ⟨rfl,j8⟩;rw[nI];obtain⟨E2,E4,F9⟩:=jJ (w.heap.size+1) C7 j8))
   go_ret
   exact⟨by rw[zA HE];first|rfl|simp[show ¬ r*100<s by omega],zB (zB (zB (bl1 _ _) b9) j8) m9⟩
theorem len_ex {z:Int} (hz:0<=z) {e:Nat} (he:z<Q e):∃ l,zBV z l/\l<=e/\z<Q l.toNat:=by
 by_cases hp:0<z
 ·have key:∀ e:Nat,z<Q e->∃ L:Nat,L+1<=e/\Q L<=z/\z<Q (L+1):=λ e=>by
   induction e with
   | zero=>intro h;simp[Q] at h;omega
   | succ e ih =>
    intro h
    by_cases hq:Q e<=z
    ·exact⟨e,YE _,hq,h⟩
    ·obtain⟨L,h1,h2⟩:=ih (by omega)
     exact⟨L,by omega,h2⟩
  obtain⟨L,h1,h2,h3⟩:=key e he;exact⟨(L:Int)+1,⟨by omega,λ h=>by omega,λ _=>⟨L,rfl,h2,h3⟩⟩,by omega,by rw[show ((L:Int)+1).toNat=L+1 by omega];exact h3⟩
 ·have:z=0:=by omega
  subst this;exact⟨0,⟨by omega,λ _=>rfl,λ h=>by omega⟩,by omega,by simp[Q]⟩
theorem zD0 {B e:Nat} {a:Int × Int} (hB:16<=B) (ha:a.1<=a.2) (h:zW a<Q (B+e)) :
  ∃ (l:Int) (t N:Nat),zBV (zW a) l/\(t:Int)=max 0 (l-B+8)/\t<=e+8/\Abs (zG a t) (Q (B-8))/\zU (zV B (zG a t)) N:=by
 obtain⟨l,h1,h2,h3⟩:=len_ex (zAK ha) h;obtain⟨t,ht⟩:∃ t:Nat,(t:Int)=max 0 (l-B+8):=⟨(max 0 (l-(B:Int)+8)).toNat,by omega⟩
 have hA:Abs (zG a t) (Q (B-8)):=by
  obtain⟨g1,g2,g3,g4⟩:=zEG ha;have q:=zE t;have hm:=zJ (show l.toNat<=B-8+t by omega)
  rw[jF] at hm;have r1:=kC (x:=a.1) (m:=Q (B-8)) (q:=Q t) (by omega) (by omega) (by omega)
  have r2:=kC (x:=a.2) (m:=Q (B-8)) (q:=Q t) (by omega) (by omega) (by omega)
  exact⟨r1.1,r1.2.1,r2.2.2.1,r2.2.2.2⟩
 obtain⟨N,n1,n2⟩:=zB3 (s:=8) (by omega) (zBO (by omega) hA)
 exact⟨l,t,N,h1,ht,by omega,hA,n2⟩
theorem P200 (m:Nat):P 200*Q m=Q (3200+m):=by rw[jF,<- Q_P]
theorem wb_17:wb 17=1678:=by decide
theorem eb_17:eb 17=1536:=by decide
structure RaC (w:World) (B:Nat) (p q:Int):Prop where
 c0:w.cell? ⟨B,0,none⟩=some (.int .i64 p)
 c1:w.cell? ⟨B,1,none⟩=some (.int .i64 q)
theorem RaC.lt {w:World} {B:Nat} {p q:Int} (h:RaC w B p q):B<w.heap.size:=World.block_lt_of_cell? w ⟨B,0,none⟩ h.c0
theorem RaC.bw {w w':World} {B:Nat} {p q:Int} (h:RaC w B p q) (hb:Below w.heap.size w w'):RaC w' B p q :=
 ⟨(hb.cell (p:=⟨B,0,none⟩) h.lt).trans h.c0,(hb.cell (p:=⟨B,1,none⟩) h.lt).trans h.c1⟩
theorem zL1 (w:World) (p q:Int) (T:TypeId):RaC (w.alloc (.cells #[.int .i64 p,.int .i64 q] T)) w.heap.size p q:=⟨by simp,by simp⟩
theorem zIS {p q:Int} {n b e:Nat} (hq:0<q) (h1 : -((n:Int)*q)<=p) (h2:p<=(n:Int)*q) (he:(n:Int)<Q e):zW (ofI p q b)<Q (b+e):=by
 have qb:=zE b;have g1:=YA h1 (show 0<=Q b by omega)
 have g2:=YA h2 (show 0<=Q b by omega)
 have e1:(n:Int)*q*Q b=(n:Int)*Q b*q:=by grind
 have e2 : -((n:Int)*q)*Q b = -((n:Int)*Q b*q):=by grind
 have:=zAD (zGE (n:=p) (m:=(n:Int)*Q b) hq b (by omega) (by omega))
 have h3:=Int.mul_lt_mul_of_pos_right he (show 0<Q b by omega)
 rw[jF,Int.mul_comm (Q b)];omega
theorem zQP {n d n' d' k:Int} {l1 l2:Nat->Rat} (hd:0<d) (h:Bal n d n' d' k) (i1:IsLog l1 (λ _=>(n':Rat)/(d':Rat))) (i2:IsLog l2 (λ _=>(2:Rat))) :
  IsLog (λ M=>l1 M+(k:Rat)*l2 M) (λ _=>(n:Rat)/(d:Rat)):=by
 obtain⟨h1,h2,h3⟩:=h;have d0:(0:Rat)<(d:Rat):=by exact_mod_cast hd
 have Cd:(0:Rat)<(d':Rat):=by exact_mod_cast h1.hd
 by_cases hk:k<0
 ·obtain⟨j,rfl⟩:∃ j:Nat,k = -(j:Int):=⟨(-k).toNat,by omega⟩
  have hq:=h3 hk;have ej:(-(-(j:Int))).toNat=j:=by omega
  rw[ej] at hq;have qj:=jH j;have l3:=(i2.times j).neg (s:=λ _=>1/(Q j:Rat)) (Bdd.const _) 0 (λ M _=>by rw[pw_Q];exact rdm qj)
  refine ((i1.add l3).congr_r (null_zero.of_eq λ M=>?_)).congr (null_zero.of_eq λ M=>?_)
  ·show (n':Rat)/(d':Rat)*(1/(Q j:Rat))-(n:Rat)/(d:Rat)=0
   have O2:((n*d'*Q j:Int):Rat)=((n'*d:Int):Rat):=by rw[hq]
   rw[YG,YG,YG] at O2;have f1:=rdm (a:=(n':Rat)) Cd;have f2:=rdm (a:=(n:Rat)) d0;have f3:=rdm (a:=(1:Rat)) qj;generalize (n':Rat)/(d':Rat)=r' at *;generalize (n:Rat)/(d:Rat)=r at *;generalize 1/(Q j:Rat)=i at *;rw[<- f1,<- f2] at O2;have f4:(d:Rat)*((d':Rat)*(r*(Q j:Rat)-r'))=0:=by grind
   have f5:r*(Q j:Rat)=r':=by
    rcases Rat.mul_eq_zero.1 f4 with h|h
    ·grind
    ·rcases Rat.mul_eq_zero.1 h with h|h
     ·grind
     ·grind
   rw[<- f5];have:r*(Q j:Rat)*i-r=r*(i*(Q j:Rat))-r:=by grind
   rw[this,f3];grind
  ·have e:((-(j:Int):Int):Rat) = -(j:Rat):=by rw[Rat.intCast_neg];rfl
   rw[e];grind
 ·obtain⟨j,rfl⟩:∃ j:Nat,k=(j:Int):=⟨k.toNat,by omega⟩
  have hq:=h2 (by omega)
  have ej:((j:Int)).toNat=j:=by omega
  rw[ej] at hq;have l3:=i2.times j;refine (i1.add l3).congr_r (null_zero.of_eq λ M=>?_)
  show (n':Rat)/(d':Rat)*pw 2 j-(n:Rat)/(d:Rat)=0
  rw[pw_Q];have O2:((n*d':Int):Rat)=((n'*d*Q j:Int):Rat):=by rw[hq]
  rw[YG,YG,YG] at O2;have f1:=rdm (a:=(n':Rat)) Cd;have f2:=rdm (a:=(n:Rat)) d0;generalize (n':Rat)/(d':Rat)=r' at *;generalize (n:Rat)/(d:Rat)=r at *;rw[<- f1,<- f2] at O2;have f4:(d:Rat)*((d':Rat)*(r'*(Q j:Rat)-r))=0:=by grind
  rcases Rat.mul_eq_zero.1 f4 with h|h
  ·grind
  ·rcases Rat.mul_eq_zero.1 h with h|h
   ·grind
   ·exact h
theorem Iv.le {B:Nat} {a:Int × Int} {x:Nat->Rat} (h:Iv B a x):a.1<=a.2 :=
 Int.le_of_mul_le_mul_right (h.touch h) (by have:=zE B;omega)
theorem zQQ {n d n' d':Int} {i j:Nat} (hn:0<n) (hd:0<d) (qe:n'=n*Q j) (JK:d'=d*Q i) (h1:d'<=n') (h2:n'<2*d') (h0:j=0\/i=0):Bal n d n' d' ((i:Int)-(j:Int)):=by
 have qi:=zE i;have qj:=zE j;have p1:0<n':=by rw[qe];exact Int.mul_pos hn (by omega)
 have p2:0<d':=by rw[JK];exact Int.mul_pos hd (by omega)
 have e0:Q 0=1:=rfl;refine⟨⟨p1,p2,by omega,by omega⟩,λ h=>?_,λ h=>?_⟩
 ·have hj:j=0:=by omega
  subst hj;rw[show ((i:Int)-((0:Nat):Int)).toNat=i by omega,qe,JK,e0,Int.mul_one,Int.mul_assoc]
 ·have hi:i=0:=by omega
  subst hi;rw[show (-(((0:Nat):Int)-(j:Int))).toNat=j by omega,qe,JK,e0,Int.mul_one];grind
theorem zRU:Ex.IsLog (λ M=>2*Ex.Az (zR 2 1) M) (λ _=>(2:Rat)):=by
 have h:=zFJ (n:=2) (d:=1) ⟨by omega,by omega,by omega,by omega⟩
 refine h.congr_r (Ex.null_zero.of_eq λ M=>?_)
 have e:((2:Int):Rat)/((1:Int):Rat)=2:=by decide +kernel
 rw[e];grind
theorem zDF {w:World} {B:Nat} {z:Nm} (h:NmC w B z) (x:Nm):NmC ((w.setCell ⟨B,0,none⟩ (.bool x.neg)).setCell ⟨B,1,none⟩ (.slice x.a x.n x.cap)) B x:=by
 obtain⟨q0,q1⟩:=h;constructor<;>simp[go_sem,q0,q1]
theorem yY {w:World} {B B':Nat} (h:∀ o,w.frozen? ⟨B,o,none⟩=false) (u0 u1:Value):∀ o,((w.setCell ⟨B',0,none⟩ u0).setCell ⟨B',1,none⟩ u1).frozen? ⟨B,o,none⟩=false:=λ o=>by rw[zS,zS];exact h o
theorem NmC.off {w:World} {B B':Nat} {x:Nm} (h:NmC w B x) (hne:B≠B') (u0 u1:Value):NmC ((w.setCell ⟨B',0,none⟩ u0).setCell ⟨B',1,none⟩ u1) B x:=by
 obtain⟨q0,q1⟩:=h;constructor<;>simp[go_sem,q0,q1,hne,Ne.symm hne]
theorem NoI.off {w:World} {B B':Nat} (h:NoI w B) (hne:B≠B') (u0 u1:Value):NoI ((w.setCell ⟨B',0,none⟩ u0).setCell ⟨B',1,none⟩ u1) B:=by
 obtain⟨q0,q1,q2⟩:=h;exact⟨by simp[go_sem,q0,hne,Ne.symm hne],by simp[go_sem,q1,hne,Ne.symm hne],yY q2 _ _⟩
structure RaiSt (w wr:World) (B:Nat) (a:Int) (k j e:Nat) (X Y:Nm):Prop where
 je:j*e<=k
 e1:1<=e
 e2:e<=2*k+1
 x:NmC wr B X
 y:NmC wr (B+1) Y
 fx:∀ o,wr.frozen? ⟨B,o,none⟩=false
 fy:∀ o,wr.frozen? ⟨B+1,o,none⟩=false
 ix:IntAt wr X.neg X.a X.n X.cap (4*(k-j*e)+4) (a ^ (k-j*e))
 iy:IntAt wr Y.neg Y.a Y.n Y.cap (4*e) (a ^ e)
 no:NoI wr w.heap.size
 be:Below w.heap.size w wr
 lo:w.heap.size<B
theorem RaiSt.bw {w wr wr':World} {B:Nat} {a:Int} {k j e:Nat} {X Y:Nm} (h:RaiSt w wr B a k j e X Y) (hb:Below wr.heap.size wr wr'):RaiSt w wr' B a k j e X Y :=
 ⟨h.je,h.e1,h.e2,h.x.bw hb,h.y.bw hb,λ o=>(hb.frozen (p:=⟨B,o,none⟩) h.x.lt).trans (h.fx o),λ o=>(hb.frozen (p:=⟨B+1,o,none⟩) h.y.lt).trans (h.fy o),h.ix.bw hb,h.iy.bw hb,h.no.bw hb,zB h.be hb,h.lo⟩
theorem zNT (a:Int) (e:Nat):a ^ e*a ^ e=a ^ (2*e):=by rw[<- Int.pow_add];congr 1;omega
theorem zBB (a:Int) (k:Nat) (w:World) (Yp : -9223372036854775808<=a) (Z8:a<=9223372036854775807) (hk:k<=10000000) :
  Calls Tryz.prog 102 #[.int .i64 a,.int .i64 k] w (zCY w (4*k+4) (a ^ k)):=by
 go_enter Tryz.func102,Tryz.ntmps102
 go_wp2_with fail;refine (zD 1 _ (by decide) (by decide)).mono ?_
 rintro r w1 ⟨m7,a1,n1,c1,rfl,o8,b9⟩;have R1:=(jL w 29).bw b9;have b1:Below w.heap.size w w1:=zB (bl1 _ _) b9;clear b9;go_wp2_with fail;refine (zD a _ Yp Z8).mono ?_;rintro r w2 ⟨j6,a2,n2,c2,rfl,A5,j8⟩;have R2:=R1.bw j8;have b2:=zB b1 j8;replace o8:=o8.bw j8;clear j8 R1 b1;have lR:=R2.lt;go_wp2_with fail
 go_loopw [1] (λ kk wr=>∃ (j e:Nat) (X Y:Nm),kk=.int .i64 j/\RaiSt w wr w2.heap.size a k j e X Y) (λ kk _=>(intOf kk).toNat)
 case atStart =>
  refine⟨k,1,⟨m7,a1,n1,c1⟩,⟨j6,a2,n2,c2⟩,rfl,by omega,YE _,by omega,⟨by simp[go_sem],by simp[go_sem]⟩,⟨by simp[go_sem],by simp[go_sem]⟩,λ o=>by simp[go_sem],λ o=>by simp[go_sem],?_,?_,?_,?_,lR⟩
  ·have e0:k-k*1=0:=by omega
   rw[e0,Int.pow_zero];exact o8.bw (bl2 _ _ _)
  ·rw[Int.pow_one];exact A5.bw (bl2 _ _ _)
  ·exact R2.bw (bl2 _ _ _)
  ·exact zB b2 (bl2 _ _ _)
 case round =>
  obtain⟨j,e,X,Y,rfl,st⟩:=hrel
  by_cases hj:0<j
  ·have oF:(0:Int)<(j:Int):=by omega
   have hje:e<=k:=Nat.le_trans (Nat.le_mul_of_pos_left e hj) st.je;have oG:j<=k:=Nat.le_trans (Nat.le_mul_of_pos_right j st.e1) st.je;have q1:((j:Int)).tdiv 2=((j/2:Nat):Int):=by rw[Int.tdiv_eq_ediv_of_nonneg (by omega)];omega
   have HQ:=zC q1;obtain⟨x0,x1⟩:=st.x;obtain⟨y0,y1⟩:=st.y;have l1:=st.x.lt;have l2:=st.y.lt;have hR:=st.no.lt
   by_cases hm:j % 2=1
   ·have q2:((j:Int)).tmod 2=1:=by rw[Int.tmod_eq_emod_of_nonneg (by omega)];omega
    obtain⟨m,K5⟩:∃ m,j=2*m+1:=⟨j/2,by omega⟩
    have lQ:k-j*e+e=k-m*(2*e):=by
     have h1:=st.je;have h2:j*e=m*(2*e)+e:=by rw[K5,Nat.add_mul,Nat.one_mul,Nat.mul_comm 2 m,Nat.mul_assoc]
     omega
    have FI:m*(2*e)<=k:=by
     have h1:=st.je;have h2:j*e=m*(2*e)+e:=by rw[K5,Nat.add_mul,Nat.one_mul,Nat.mul_comm 2 m,Nat.mul_assoc]
     omega
    have HE:=zC lQ;have HM:=zC K5;have ix:=zC st.ix;have iy:=zC st.iy;clear q1 K5 lQ hm;go_wp2_with fail;refine (zT _ _ _ _ _ _ _ _ (4*(k-j*e)+4) (4*e) _ _ _ (zA ix) (zA iy) (by omega) (by omega)).mono ?_
    rintro r w3 ⟨A7,a3,n3,c3,rfl,E5,m9⟩;have W3:=st.bw m9;clear m9 st;rw[<- Int.pow_add,zA HE] at E5;obtain⟨s0,s1⟩:=W3.x;obtain⟨W,hW⟩:∃ W,W=(w3.setCell ⟨w2.heap.size,0,none⟩ (.bool A7)).setCell ⟨w2.heap.size,1,none⟩ (.slice a3 n3 c3):=⟨_,rfl⟩;have X4:NmC W w2.heap.size ⟨A7,a3,n3,c3⟩:=by rw[hW];exact zDF W3.x ⟨A7,a3,n3,c3⟩
    have Y4:NmC W (w2.heap.size+1) Y:=by rw[hW];exact W3.y.off (by omega) _ _
    have F4:∀ o,W.frozen? ⟨w2.heap.size,o,none⟩=false:=by rw[hW];exact yY W3.fx _ _
    have G4:∀ o,W.frozen? ⟨w2.heap.size+1,o,none⟩=false:=by rw[hW];exact yY W3.fy _ _
    have I4:=zC (show IntAt W A7 a3 n3 c3 _ _ by rw[hW];exact E5.put2 s0 s1 _ _)
    have J4:=zC (show IntAt W Y.neg Y.a Y.n Y.cap _ _ by rw[hW];exact W3.iy.put2 s0 s1 _ _)
    have N4:NoI W w.heap.size:=by rw[hW];exact W3.no.off (by omega) _ _
    have B4:Below w.heap.size w W:=by rw[hW];exact zD2 W3.be (by omega) _ _
    have lW:W.heap.size=w3.heap.size:=by rw[hW];simp[World.setCell]
    have l3:=W3.y.lt;have f0:=W3.fx 0;have f1:=W3.fx 1;have lo:=W3.lo;have je1:=W3.e1;have jje:=W3.je;have e22:=W3.e2;clear x0 x1 y0 y1;obtain⟨y0,y1⟩:=W3.y;clear W3 E5;go_wp2_with fail;rw[<- hW];clear hW s0 s1 f0 f1 y0 y1;refine (zT _ _ _ _ _ _ _ _ (4*e) (4*e) _ _ _ (zA J4) (zA J4) (by omega) (by omega)).mono ?_
    rintro r w5 ⟨M7,a5,n5,c5,rfl,P6,D6⟩;rw[zNT] at P6;replace X4:=X4.bw D6;replace Y4:=Y4.bw D6;replace I4:=zC ((zA I4).bw D6);replace N4:=N4.bw D6;replace B4:=zB B4 D6;have F5:∀ o,w5.frozen? ⟨w2.heap.size,o,none⟩=false:=λ o=>(D6.frozen (p:=⟨w2.heap.size,o,none⟩) (by show w2.heap.size<W.heap.size;omega)).trans (F4 o)
    have G5:∀ o,w5.frozen? ⟨w2.heap.size+1,o,none⟩=false:=λ o=>(D6.frozen (p:=⟨w2.heap.size+1,o,none⟩) (by show w2.heap.size+1<W.heap.size;omega)).trans (G4 o)
    obtain⟨y0,y1⟩:=Y4;have f0:=G5 0;have f1:=G5 1;go_wp2_with fail;refine⟨⟨m,2*e,⟨A7,a3,n3,c3⟩,⟨M7,a5,n5,c5⟩,by have:=zA HM;congr 1;omega,by omega,by omega,by omega,X4.off (by omega) _ _,zDF (z:=Y) ⟨y0,y1⟩ ⟨M7,a5,n5,c5⟩,yY F5 _ _,yY G5 _ _,?_,?_,N4.off (by omega) _ _,zD2 B4 (by omega) _ _,lo⟩,?_⟩
    ·exact ((zA I4).put2 y0 y1 _ _).mono (by have:=zA HE;omega)
    ·exact (P6.put2 y0 y1 _ _).mono (by omega)
    ·simp[intOf];omega
   ·have q2:((j:Int)).tmod 2=0:=by rw[Int.tmod_eq_emod_of_nonneg (by omega)];omega
    obtain⟨m,K5⟩:∃ m,j=2*m:=⟨j/2,by omega⟩
    have lQ:j*e=m*(2*e):=by rw[K5,Nat.mul_comm 2 m,Nat.mul_assoc]
    have HE:=zC lQ;have HM:=zC K5;have jje:=st.je;have lo:=st.lo;have je1:=st.e1;have iy:=zC st.iy;clear q1 K5 lQ hm;go_wp2_with fail;refine (zT _ _ _ _ _ _ _ _ (4*e) (4*e) _ _ _ (zA iy) (zA iy) (by omega) (by omega)).mono ?_
    rintro r w5 ⟨M7,a5,n5,c5,rfl,P6,D6⟩;rw[zNT] at P6;have rG:=st.bw D6;clear D6 st x0 x1 y0 y1;obtain⟨y0,y1⟩:=rG.y;have F5:=rG.fx;have G5:=rG.fy;have f0:=G5 0;have f1:=G5 1;have X4:=rG.x;have N4:=rG.no;have B4:=rG.be;have I4:=zC rG.ix;clear rG;have FI:m*(2*e)<=k:=by have:=zA HE;omega
    go_wp2_with fail;refine⟨⟨m,2*e,X,⟨M7,a5,n5,c5⟩,by have:=zA HM;congr 1;omega,by omega,by omega,by omega,X4.off (by omega) _ _,zDF (z:=Y) ⟨y0,y1⟩ ⟨M7,a5,n5,c5⟩,yY F5 _ _,yY G5 _ _,?_,?_,N4.off (by omega) _ _,zD2 B4 (by omega) _ _,lo⟩,?_⟩
    ·rw[<- zA HE];exact (zA I4).put2 y0 y1 _ _
    ·exact (P6.put2 y0 y1 _ _).mono (by omega)
    ·simp[intOf];omega
  ·have CT:j=0:=by omega
   subst CT;obtain⟨x0,x1⟩:=st.x;obtain⟨z0,z1,z2⟩:=st.no;have ix:=zC st.ix;have hb:=st.be;clear st;go_wp2_with fail;refine bodyPost_ret (v:=.agg X.q) (by simp[results,Tryz.results102,go_sem,z0,z1]) rfl ⟨X.neg,X.a,X.n,X.cap,rfl,?_,?_⟩
   ·have h:=zA ix
    rw[Nat.zero_mul,Nat.sub_zero] at h;exact h.put2 z0 z1 _ _
   ·exact zD2 hb (YE _) _ _
def kN (k p q r s:Int):Int :=
 if k<1\/7<k then 6 else if ¬ rok p q\/¬ rok r s then 3 else if zFN k=true/\¬ (r=0/\s=1) then 1
 else if yN k p q r s=false then 3 else if zEB k p q r s=true then 2 else 0
theorem check_k0 (k p q r s:Int) (w:World) (h1:k<1) :
  Calls Tryz.prog 89 #[.agg #[.int .i64 k,.int .i64 p,.int .i64 q,.int .i64 r,.int .i64 s]] w λ z w'=>z=.returned (.int .i64 6)/\Below w.heap.size w w':=by
 go_enter Tryz.func89,Tryz.ntmps89
 go_wp2
 go_ret
 exact⟨rfl,bl1 _ _⟩
theorem check_k8 (k p q r s:Int) (w:World) (h1:1<=k) (h7:7<k) :
  Calls Tryz.prog 89 #[.agg #[.int .i64 k,.int .i64 p,.int .i64 q,.int .i64 r,.int .i64 s]] w λ z w'=>z=.returned (.int .i64 6)/\Below w.heap.size w w':=by
 go_enter Tryz.func89,Tryz.ntmps89
 go_wp2
 go_ret
 exact⟨rfl,bl1 _ _⟩
theorem check_r1 (k p q r s:Int) (w:World) (h1:1<=k) (h7:k<=7) (D7:decide (rok p q)=false) :
  Calls Tryz.prog 89 #[.agg #[.int .i64 k,.int .i64 p,.int .i64 q,.int .i64 r,.int .i64 s]] w λ z w'=>z=.returned (.int .i64 3)/\Below w.heap.size w w':=by
 go_enter Tryz.func89,Tryz.ntmps89
 go_wp2_with (first
  | (go_at_call 118;refine (zP p q _).mono ?_;rintro r' w1 ⟨rfl,b9⟩;rw[D7];obtain⟨C7,C9,D9⟩:=jJ (w.heap.size+1) (by simp) b9))
 go_ret
 exact⟨rfl,zB (bl1 _ _) b9⟩
theorem check_r2 (k p q r s:Int) (w:World) (h1:1<=k) (h7:k<=7) (D7:decide (rok p q)=true) (E7:decide (rok r s)=false) :
  Calls Tryz.prog 89 #[.agg #[.int .i64 k,.int .i64 p,.int .i64 q,.int .i64 r,.int .i64 s]] w λ z w'=>z=.returned (.int .i64 3)/\Below w.heap.size w w':=by
 go_enter Tryz.func89,Tryz.ntmps89
 go_wp2_with (first
  | (go_at_call 118;have hq:=b9;refine (zP r s _).mono ?_;rintro r' w2 ⟨rfl,j8⟩;rw[E7];obtain⟨E2,E4,F9⟩:=jJ (w.heap.size+1) C7 j8)
  | (go_at_call 118;refine (zP p q _).mono ?_;rintro r' w1 ⟨rfl,b9⟩;rw[D7];obtain⟨C7,C9,D9⟩:=jJ (w.heap.size+1) (by simp) b9))
 go_ret
 exact⟨rfl,zB (zB (bl1 _ _) b9) j8⟩
theorem check_z0 (k p q r s:Int) (w:World) (h1:1<=k) (h7:k<=7) (D7:decide (rok p q)=true) (E7:decide (rok r s)=true) (ho:zFN k=true) (z0:r≠0) :
  Calls Tryz.prog 89 #[.agg #[.int .i64 k,.int .i64 p,.int .i64 q,.int .i64 r,.int .i64 s]] w λ z w'=>z=.returned (.int .i64 1)/\Below w.heap.size w w':=by
 go_enter Tryz.func89,Tryz.ntmps89
 go_wp2_with (first
  | (go_at_call 128;refine (jD k _).mono ?_;rintro r' w3 ⟨rfl,m9⟩;rw[ho];obtain⟨J9,T3,T7⟩:=jJ (w.heap.size+1) E2 m9)
  | (go_at_call 118;have hq:=b9;refine (zP r s _).mono ?_;rintro r' w2 ⟨rfl,j8⟩;rw[E7];obtain⟨E2,E4,F9⟩:=jJ (w.heap.size+1) C7 j8)
  | (go_at_call 118;refine (zP p q _).mono ?_;rintro r' w1 ⟨rfl,b9⟩;rw[D7];obtain⟨C7,C9,D9⟩:=jJ (w.heap.size+1) (by simp) b9))
 go_ret
 exact⟨rfl,zB (zB (zB (bl1 _ _) b9) j8) m9⟩
theorem check_z1 (k p q r s:Int) (w:World) (h1:1<=k) (h7:k<=7) (D7:decide (rok p q)=true) (E7:decide (rok r s)=true) (ho:zFN k=true) (z1:s≠1) :
  Calls Tryz.prog 89 #[.agg #[.int .i64 k,.int .i64 p,.int .i64 q,.int .i64 r,.int .i64 s]] w λ z w'=>z=.returned (.int .i64 1)/\Below w.heap.size w w':=by
 go_enter Tryz.func89,Tryz.ntmps89
 go_wp2_with (first
  | (go_at_call 128;refine (jD k _).mono ?_;rintro r' w3 ⟨rfl,m9⟩;rw[ho];obtain⟨J9,T3,T7⟩:=jJ (w.heap.size+1) E2 m9)
  | (go_at_call 118;have hq:=b9;refine (zP r s _).mono ?_;rintro r' w2 ⟨rfl,j8⟩;rw[E7];obtain⟨E2,E4,F9⟩:=jJ (w.heap.size+1) C7 j8)
  | (go_at_call 118;refine (zP p q _).mono ?_;rintro r' w1 ⟨rfl,b9⟩;rw[D7];obtain⟨C7,C9,D9⟩:=jJ (w.heap.size+1) (by simp) b9))
 go_ret
 exact⟨rfl,zB (zB (zB (bl1 _ _) b9) j8) m9⟩
theorem check_os (k p q:Int) (w:World) (h1:1<=k) (h7:k<=7) (S6:rok p q) (O9:rok 0 1) (D7:decide (rok p q)=true) (E7:decide (rok 0 1)=true) (ho:zFN k=true) (hs:yN k p q 0 1=false) :
  Calls Tryz.prog 89 #[.agg #[.int .i64 k,.int .i64 p,.int .i64 q,.int .i64 0,.int .i64 1]] w λ z w'=>z=.returned (.int .i64 3)/\Below w.heap.size w w':=by
 go_enter Tryz.func89,Tryz.ntmps89
 go_wp2_with (first
  | (go_at_call 129;refine (zBA k p q 0 1 _ h1 h7).mono ?_;rintro r' w4 ⟨rfl,y9⟩;rw[hs];obtain⟨fj,iz,cB⟩:=jJ (w.heap.size+1) J9 y9)
  | (go_at_call 128;refine (jD k _).mono ?_;rintro r' w3 ⟨rfl,m9⟩;rw[ho];obtain⟨J9,T3,T7⟩:=jJ (w.heap.size+1) E2 m9)
  | (go_at_call 118;have hq:=b9;refine (zP 0 1 _).mono ?_;rintro r' w2 ⟨rfl,j8⟩;rw[E7];obtain⟨E2,E4,F9⟩:=jJ (w.heap.size+1) C7 j8)
  | (go_at_call 118;refine (zP p q _).mono ?_;rintro r' w1 ⟨rfl,b9⟩;rw[D7];obtain⟨C7,C9,D9⟩:=jJ (w.heap.size+1) (by simp) b9))
 go_ret
 exact⟨rfl,zB (zB (zB (zB (bl1 _ _) b9) j8) m9) y9⟩
theorem check_of (k p q:Int) (w:World) (h1:1<=k) (h7:k<=7) (S6:rok p q) (O9:rok 0 1) (D7:decide (rok p q)=true) (E7:decide (rok 0 1)=true) (ho:zFN k=true) (hs:yN k p q 0 1=true) (hf:zEB k p q 0 1=false) :
  Calls Tryz.prog 89 #[.agg #[.int .i64 k,.int .i64 p,.int .i64 q,.int .i64 0,.int .i64 1]] w λ z w'=>z=.returned (.int .i64 0)/\Below w.heap.size w w':=by
 go_enter Tryz.func89,Tryz.ntmps89
 go_wp2_with (first
  | (go_at_call 130;refine (zDP k p q 0 1 _ S6 O9).mono ?_;rintro r' w5 ⟨rfl,D6⟩;rw[hf])
  | (go_at_call 129;refine (zBA k p q 0 1 _ h1 h7).mono ?_;rintro r' w4 ⟨rfl,y9⟩;rw[hs];obtain⟨fj,iz,cB⟩:=jJ (w.heap.size+1) J9 y9)
  | (go_at_call 128;refine (jD k _).mono ?_;rintro r' w3 ⟨rfl,m9⟩;rw[ho];obtain⟨J9,T3,T7⟩:=jJ (w.heap.size+1) E2 m9)
  | (go_at_call 118;have hq:=b9;refine (zP 0 1 _).mono ?_;rintro r' w2 ⟨rfl,j8⟩;rw[E7];obtain⟨E2,E4,F9⟩:=jJ (w.heap.size+1) C7 j8)
  | (go_at_call 118;refine (zP p q _).mono ?_;rintro r' w1 ⟨rfl,b9⟩;rw[D7];obtain⟨C7,C9,D9⟩:=jJ (w.heap.size+1) (by simp) b9))
 go_ret
 exact⟨rfl,zB (zB (zB (zB (zB (bl1 _ _) b9) j8) m9) y9) D6⟩
theorem check_om (k p q:Int) (w:World) (h1:1<=k) (h7:k<=7) (S6:rok p q) (O9:rok 0 1) (D7:decide (rok p q)=true) (E7:decide (rok 0 1)=true) (ho:zFN k=true) (hs:yN k p q 0 1=true) (hf:zEB k p q 0 1=true) :
  Calls Tryz.prog 89 #[.agg #[.int .i64 k,.int .i64 p,.int .i64 q,.int .i64 0,.int .i64 1]] w λ z w'=>z=.returned (.int .i64 2)/\Below w.heap.size w w':=by
 go_enter Tryz.func89,Tryz.ntmps89
 go_wp2_with (first
  | (go_at_call 130;refine (zDP k p q 0 1 _ S6 O9).mono ?_;rintro r' w5 ⟨rfl,D6⟩;rw[hf])
  | (go_at_call 129;refine (zBA k p q 0 1 _ h1 h7).mono ?_;rintro r' w4 ⟨rfl,y9⟩;rw[hs];obtain⟨fj,iz,cB⟩:=jJ (w.heap.size+1) J9 y9)
  | (go_at_call 128;refine (jD k _).mono ?_;rintro r' w3 ⟨rfl,m9⟩;rw[ho];obtain⟨J9,T3,T7⟩:=jJ (w.heap.size+1) E2 m9)
  | (go_at_call 118;have hq:=b9;refine (zP 0 1 _).mono ?_;rintro r' w2 ⟨rfl,j8⟩;rw[E7];obtain⟨E2,E4,F9⟩:=jJ (w.heap.size+1) C7 j8)
  | (go_at_call 118;refine (zP p q _).mono ?_;rintro r' w1 ⟨rfl,b9⟩;rw[D7];obtain⟨C7,C9,D9⟩:=jJ (w.heap.size+1) (by simp) b9))
 go_ret
 exact⟨rfl,zB (zB (zB (zB (zB (bl1 _ _) b9) j8) m9) y9) D6⟩
theorem check_ns (k p q r s:Int) (w:World) (h1:1<=k) (h7:k<=7) (S6:rok p q) (O9:rok r s) (D7:decide (rok p q)=true) (E7:decide (rok r s)=true) (ho:zFN k=false) (hs:yN k p q r s=false) :
  Calls Tryz.prog 89 #[.agg #[.int .i64 k,.int .i64 p,.int .i64 q,.int .i64 r,.int .i64 s]] w λ z w'=>z=.returned (.int .i64 3)/\Below w.heap.size w w':=by
 go_enter Tryz.func89,Tryz.ntmps89
 go_wp2_with (first
  | (go_at_call 129;refine (zBA k p q r s _ h1 h7).mono ?_;rintro r' w4 ⟨rfl,y9⟩;rw[hs];obtain⟨fj,iz,cB⟩:=jJ (w.heap.size+1) J9 y9)
  | (go_at_call 128;refine (jD k _).mono ?_;rintro r' w3 ⟨rfl,m9⟩;rw[ho];obtain⟨J9,T3,T7⟩:=jJ (w.heap.size+1) E2 m9)
  | (go_at_call 118;have hq:=b9;refine (zP r s _).mono ?_;rintro r' w2 ⟨rfl,j8⟩;rw[E7];obtain⟨E2,E4,F9⟩:=jJ (w.heap.size+1) C7 j8)
  | (go_at_call 118;refine (zP p q _).mono ?_;rintro r' w1 ⟨rfl,b9⟩;rw[D7];obtain⟨C7,C9,D9⟩:=jJ (w.heap.size+1) (by simp) b9))
 go_ret
 exact⟨rfl,zB (zB (zB (zB (bl1 _ _) b9) j8) m9) y9⟩
theorem check_nf (k p q r s:Int) (w:World) (h1:1<=k) (h7:k<=7) (S6:rok p q) (O9:rok r s) (D7:decide (rok p q)=true) (E7:decide (rok r s)=true) (ho:zFN k=false) (hs:yN k p q r s=true) (hf:zEB k p q r s=false) :
  Calls Tryz.prog 89 #[.agg #[.int .i64 k,.int .i64 p,.int .i64 q,.int .i64 r,.int .i64 s]] w λ z w'=>z=.returned (.int .i64 0)/\Below w.heap.size w w':=by
 go_enter Tryz.func89,Tryz.ntmps89
 go_wp2_with (first
  | (go_at_call 130;refine (zDP k p q r s _ S6 O9).mono ?_;rintro r' w5 ⟨rfl,D6⟩;rw[hf])
  | (go_at_call 129;refine (zBA k p q r s _ h1 h7).mono ?_;rintro r' w4 ⟨rfl,y9⟩;rw[hs];obtain⟨fj,iz,cB⟩:=jJ (w.heap.size+1) J9 y9)
  | (go_at_call 128;refine (jD k _).mono ?_;rintro r' w3 ⟨rfl,m9⟩;rw[ho];obtain⟨J9,T3,T7⟩:=jJ (w.heap.size+1) E2 m9)
  | (go_at_call 118;have hq:=b9;refine (zP r s _).mono ?_;rintro r' w2 ⟨rfl,j8⟩;rw[E7];obtain⟨E2,E4,F9⟩:=jJ (w.heap.size+1) C7 j8)
  | (go_at_call 118;refine (zP p q _).mono ?_;rintro r' w1 ⟨rfl,b9⟩;rw[D7];obtain⟨C7,C9,D9⟩:=jJ (w.heap.size+1) (by simp) b9))
 go_ret
 exact⟨rfl,zB (zB (zB (zB (zB (bl1 _ _) b9) j8) m9) y9) D6⟩
theorem check_nm (k p q r s:Int) (w:World) (h1:1<=k) (h7:k<=7) (S6:rok p q) (O9:rok r s) (D7:decide (rok p q)=true) (E7:decide (rok r s)=true) (ho:zFN k=false) (hs:yN k p q r s=true) (hf:zEB k p q r s=true) :
  Calls Tryz.prog 89 #[.agg #[.int .i64 k,.int .i64 p,.int .i64 q,.int .i64 r,.int .i64 s]] w λ z w'=>z=.returned (.int .i64 2)/\Below w.heap.size w w':=by
 go_enter Tryz.func89,Tryz.ntmps89
 go_wp2_with (first
  | (go_at_call 130;refine (zDP k p q r s _ S6 O9).mono ?_;rintro r' w5 ⟨rfl,D6⟩;rw[hf])
  | (go_at_call 129;refine (zBA k p q r s _ h1 h7).mono ?_;rintro r' w4 ⟨rfl,y9⟩;rw[hs];obtain⟨fj,iz,cB⟩:=jJ (w.heap.size+1) J9 y9)
  | (go_at_call 128;refine (jD k _).mono ?_;rintro r' w3 ⟨rfl,m9⟩;rw[ho];obtain⟨J9,T3,T7⟩:=jJ (w.heap.size+1) E2 m9)
  | (go_at_call 118;have hq:=b9;refine (zP r s _).mono ?_;rintro r' w2 ⟨rfl,j8⟩;rw[E7];obtain⟨E2,E4,F9⟩:=jJ (w.heap.size+1) C7 j8)
  | (go_at_call 118;refine (zP p q _).mono ?_;rintro r' w1 ⟨rfl,b9⟩;rw[D7];obtain⟨C7,C9,D9⟩:=jJ (w.heap.size+1) (by simp) b9))
 go_ret
 exact⟨rfl,zB (zB (zB (zB (zB (bl1 _ _) b9) j8) m9) y9) D6⟩
theorem jI (k p q r s:Int) (w:World) :
  Calls Tryz.prog 89 #[.agg #[.int .i64 k,.int .i64 p,.int .i64 q,.int .i64 r,.int .i64 s]] w λ z w'=>z=.returned (.int .i64 (kN k p q r s))/\Below w.heap.size w w':=by
 by_cases h1:k<1
 ·rw[show kN k p q r s=6 by unfold kN;rw[if_pos (by omega)]];exact check_k0 k p q r s w h1
 by_cases h7:7<k
 ·rw[show kN k p q r s=6 by unfold kN;rw[if_pos (by omega)]];exact check_k8 k p q r s w (by omega) h7
 have n1:¬ (k<1\/7<k):=by omega
 cases D7:decide (rok p q)
 ·rw[show kN k p q r s=3 by unfold kN;rw[if_neg n1,if_pos (Or.inl (of_decide_eq_false D7))]];exact check_r1 k p q r s w (by omega) (by omega) D7
 cases E7:decide (rok r s)
 ·rw[show kN k p q r s=3 by unfold kN;rw[if_neg n1,if_pos (Or.inr (of_decide_eq_false E7))]];exact check_r2 k p q r s w (by omega) (by omega) D7 E7
 have S6:=of_decide_eq_true D7;have O9:=of_decide_eq_true E7;have n2:¬ (¬ rok p q\/¬ rok r s):=by simp[S6,O9]
 cases ho:zFN k
 ·have n3:¬ (zFN k=true/\¬ (r=0/\s=1)):=λ ⟨h,_⟩=>by rw[ho] at h;cases h
  cases hs:yN k p q r s
  ·rw[show kN k p q r s=3 by unfold kN;rw[if_neg n1,if_neg n2,if_neg n3,if_pos hs]];exact check_ns k p q r s w (by omega) (by omega) S6 O9 D7 E7 ho hs
  have n4:¬ yN k p q r s=false:=by simp[hs]
  cases hf:zEB k p q r s
  ·rw[show kN k p q r s=0 by unfold kN;rw[if_neg n1,if_neg n2,if_neg n3,if_neg n4,if_neg (by simp[hf])]];exact check_nf k p q r s w (by omega) (by omega) S6 O9 D7 E7 ho hs hf
  ·rw[show kN k p q r s=2 by unfold kN;rw[if_neg n1,if_neg n2,if_neg n3,if_neg n4,if_pos hf]];exact check_nm k p q r s w (by omega) (by omega) S6 O9 D7 E7 ho hs hf
 by_cases z0:r=0
 case neg=>rw[show kN k p q r s=1 by unfold kN;rw[if_neg n1,if_neg n2,if_pos ⟨ho,by omega⟩]];exact check_z0 k p q r s w (by omega) (by omega) D7 E7 ho z0
 by_cases z1:s=1
 case neg=>rw[show kN k p q r s=1 by unfold kN;rw[if_neg n1,if_neg n2,if_pos ⟨ho,by omega⟩]];exact check_z1 k p q r s w (by omega) (by omega) D7 E7 ho z1
 have n3:¬ (zFN k=true/\¬ (r=0/\s=1)):=λ ⟨_,h⟩=>h ⟨z0,z1⟩
 subst z0 z1
 cases hs:yN k p q 0 1
 ·rw[show kN k p q 0 1=3 by unfold kN;rw[if_neg n1,if_neg n2,if_neg n3,if_pos hs]];exact check_os k p q w (by omega) (by omega) S6 O9 D7 E7 ho hs
 have n4:¬ yN k p q 0 1=false:=by simp[hs]
 cases hf:zEB k p q 0 1
 ·rw[show kN k p q 0 1=0 by unfold kN;rw[if_neg n1,if_neg n2,if_neg n3,if_neg n4,if_neg (by simp[hf])]];exact check_of k p q w (by omega) (by omega) S6 O9 D7 E7 ho hs hf
 ·rw[show kN k p q 0 1=2 by unfold kN;rw[if_neg n1,if_neg n2,if_neg n3,if_neg n4,if_pos hf]];exact check_om k p q w (by omega) (by omega) S6 O9 D7 E7 ho hs hf
structure LwC (w:World) (B:Nat) (k p q r s:Int):Prop where
 c0:w.cell? ⟨B,0,none⟩=some (.int .i64 k)
 c1:w.cell? ⟨B,1,none⟩=some (.int .i64 p)
 c2:w.cell? ⟨B,2,none⟩=some (.int .i64 q)
 c3:w.cell? ⟨B,3,none⟩=some (.int .i64 r)
 c4:w.cell? ⟨B,4,none⟩=some (.int .i64 s)
theorem LwC.lt {w:World} {B:Nat} {k p q r s:Int} (h:LwC w B k p q r s):B<w.heap.size:=World.block_lt_of_cell? w ⟨B,0,none⟩ h.c0
theorem LwC.bw {w w':World} {B:Nat} {k p q r s:Int} (h:LwC w B k p q r s) (hb:Below w.heap.size w w'):LwC w' B k p q r s :=
 ⟨(hb.cell (p:=⟨B,0,none⟩) h.lt).trans h.c0,(hb.cell (p:=⟨B,1,none⟩) h.lt).trans h.c1,(hb.cell (p:=⟨B,2,none⟩) h.lt).trans h.c2,(hb.cell (p:=⟨B,3,none⟩) h.lt).trans h.c3,(hb.cell (p:=⟨B,4,none⟩) h.lt).trans h.c4⟩
theorem LwC.off {w:World} {B B':Nat} {k p q r s:Int} (h:LwC w B k p q r s) (hne:B≠B') (u0 u1:Value):LwC ((w.setCell ⟨B',0,none⟩ u0).setCell ⟨B',1,none⟩ u1) B k p q r s:=by
 obtain⟨q0,q1,q2,q3,q4⟩:=h;constructor<;>simp[go_sem,q0,q1,q2,q3,q4,hne,Ne.symm hne]
theorem kV (w:World) (k p q r s:Int) (T:TypeId):LwC (w.alloc (.cells #[.int .i64 k,.int .i64 p,.int .i64 q,.int .i64 r,.int .i64 s] T)) w.heap.size k p q r s:=⟨by simp,by simp,by simp,by simp,by simp⟩
def wayF (b o:Int):Nat->Int
 | 0=>b
 | i+1=>wayF b o i*(o+((i:Int)+1))/((i:Int)+1)
theorem zOD (k p q r s:Int) (n:Nat) (w:World) (hn:(n:Int)<=p) (hp:p<=100) (hr:0<=r) (hs:r<=s) (X6:s<=1024) :
  Calls Tryz.prog 101 #[.agg #[.int .i64 k,.int .i64 p,.int .i64 q,.int .i64 r,.int .i64 s],.int .i64 n] w (zCY w (408+20*n) (wayF (r ^ n*(s-r) ^ (p.toNat-n)) (p-n) n)):=by
 obtain⟨W,hW⟩:∃ W,W=(w.alloc (.cells #[.int .i64 k,.int .i64 p,.int .i64 q,.int .i64 r,.int .i64 s] 25)).alloc (.cells #[.bool false,.slice none 0 0] 29):=⟨_,rfl⟩;have j7:Below w.heap.size w W:=by rw[hW];exact bl2 _ _ _
 have L:LwC W w.heap.size k p q r s:=by rw[hW];exact (kV w k p q r s _).bw (bl1 _ _)
 have R:NoI W (w.heap.size+1):=by rw[hW];constructor<;>simp[go_sem]
 obtain⟨m,hm⟩:∃ m:Nat,p-n=(m:Int):=⟨(p-n).toNat,by omega⟩
 have K5:p.toNat-n=m:=by omega
 rw[hm,K5];have HK:=zC (show ∀ w',Below W.heap.size W w'->(w'.cell? ⟨w.heap.size,3,none⟩=some (.int .i64 r)/\w'.cell? ⟨w.heap.size,4,none⟩=some (.int .i64 s)) from λ w' hB=>⟨(L.bw hB).c3,(L.bw hB).c4⟩)
 have lW:=L.lt;have lR:=R.lt
 go_enter Tryz.func101,Tryz.ntmps101
 go_wp2;rw[<- hW];clear hW;obtain⟨i0,i1,i2,i3,i4⟩:=L;have Vk:=zC (show IntKind.i64.wrap (s-r)=s-r from jB _ (by omega) (by omega))
 go_cut [6] (λ p wx=>VarAt wx p W.heap.size 408 (r ^ n*(s-r) ^ m)/\FzP wx p/\Below W.heap.size W wx)
 case first =>
  go_region_held3 (λ w'=>w'.cell? ⟨w.heap.size,3,none⟩=some (.int .i64 r)/\w'.cell? ⟨w.heap.size,4,none⟩=some (.int .i64 s)) (exact zA HK _ (by repeat' (first|with_reducible exact dA|with_reducible exact L4|with_reducible exact H7|with_reducible exact Below.refl _ _|with_reducible refine Below.drew ?_|with_reducible refine zL ?_ _|with_reducible refine Below.setCell ?_ (by first|exact YE _|exact S4|exact S5|exact fc) _)))
   (first
    | (go_at_call 83;have hq:=L4;refine (zT _ _ _ _ _ _ _ _ (4*n+4) (4*m+4) (r ^ n) ((s-r) ^ m) _ (L6.bw (by with_reducible first|exact Below.refl _ _|exact bl1 _ _)) (bK.bw (by with_reducible first|exact Below.refl _ _|exact bl1 _ _)) (by omega) (by omega)).mono ?_;rintro r LA ⟨mI,Im,Lp,Ir,rfl,kt,dX⟩;have aO:Below gW.heap.size gW LA:=(by with_reducible first|exact dX|exact zB (bl1 _ _) dX);have dA:=zB L4 aO;(try with_reducible have Cj:=(jL gW 29).bw dX);replace L6:=L6.bw aO;(try replace ah:=ah.bw aO);replace bK:=bK.bw aO;(try replace dh:=dh.bw aO);have fc:=dA.size;(try have mD:=ah.lt);(try have IH:=YJ mD);(try have rX:=YI mD);(try obtain⟨yn,yo,yq⟩:=ah);(try have mF:=dh.lt);(try have II:=YJ mF);(try have rY:=YI mF);(try obtain⟨yr,yt,yw⟩:=dh);(try have DP:=Cj.lt);(try have Xe:=YJ DP);(try have IJ:=YI DP);(try obtain⟨NC,ND,NF⟩:=Cj))
    | (go_at_call 102;have hq:=H7;rw[zA Vk];refine (zBB (s-r) m _ (by omega) (by omega) (by omega)).mono ?_;rintro r gW ⟨fX,EV,Gd,EZ,rfl,bK,R0⟩;have Q1:Below bX.heap.size bX gW:=(by with_reducible first|exact R0|exact zB (bl1 _ _) R0);have L4:=zB H7 Q1;(try with_reducible have dh:=(jL bX 29).bw R0);replace L6:=L6.bw Q1;(try replace ah:=ah.bw Q1);have S5:=L4.size)
    | (go_at_call 102;refine (zBB r n _ (by omega) (by omega) (by omega)).mono ?_;rintro r bX ⟨mH,Il,Lo,Iq,rfl,L6,Q9⟩;have H7:Below W.heap.size W bX:=(by with_reducible first|exact zB (Below.refl _ _).drew Q9|exact zB (bl1 _ _).drew Q9);(try with_reducible have ah:=((jL W 29).bw (Below.refl _ _).drew).bw Q9);have S4:=H7.size))
  all_goals
   go_wp2_with fail;go_meet;refine⟨⟨_,⟨mI,Im,Lp,Ir⟩,rfl,?_,?_,?_,?_,?_⟩,?_,?_⟩
   ·simp[go_sem, *]
   ·simp[go_sem, *]
   ·first|with_reducible exact IntAt.mono (kt.bw (bl1 _ _)) (by omega)|with_reducible exact IntAt.mono (kt.put2 (by assumption) (by assumption) _ _) (by omega)
   ·first|exact YE _|exact S4|exact S5|exact fc
   ·simp[World.setCell];try omega
   ·intro B hB o;cases hB;simp[go_sem, *]
   ·repeat' (first|with_reducible exact dA|with_reducible exact L4|with_reducible exact H7|with_reducible exact Below.refl _ _|with_reducible refine Below.drew ?_|with_reducible refine zL ?_ _|with_reducible refine Below.setCell ?_ (by first|exact YE _|exact S4|exact S5|exact fc) _)
 case rest =>
 obtain⟨⟨BX,xX,rfl,rv,ry,dN,pJ,hltX⟩,hfzX,hblX⟩:=hcut;have XX:NmC wc BX xX:=⟨rv,ry⟩;have F0:∀ o,wc.frozen? ⟨BX,o,none⟩=false:=hfzX BX rfl;have L:LwC W w.heap.size k p q r s:=⟨i0,i1,i2,i3,i4⟩;replace L:=L.bw hblX;replace R:=R.bw hblX;replace j7:=zB j7 hblX;have cT:w.heap.size+1<BX:=YH lR pJ;clear i0 i1 i2 i3 i4 HK hblX hfzX;go_wp2_with fail
 go_loopw [7] (λ kk wr=>∃ (i:Nat) (X:Nm),kk=.int .i64 ((i:Int)+1)/\i<=n/\NmC wr BX X/\(∀ o,wr.frozen? ⟨BX,o,none⟩=false)/\IntAt wr X.neg X.a X.n X.cap (408+20*i) (wayF (r ^ n*(s-r) ^ m) m i)/\NoI wr (w.heap.size+1)/\Below w.heap.size w wr) (λ kk _=>n+1-(intOf kk).toNat)
 case atStart=>exact⟨0,xX,rfl,Nat.zero_le _,XX,F0,dN,R,j7⟩
 case round =>
  obtain⟨i,X,rfl,hi,hX,hF,hint,R,hB⟩:=hrel
  by_cases I7:i<n
  ·have gI:(i:Int)+1<=n:=by omega
   have HA:=zC (show IntKind.i64.wrap ((m:Int)+((i:Int)+1))=(m:Int)+((i:Int)+1) from jB _ (by omega) (by omega))
   have Z6:=zC (show ∀ w',Below wr.heap.size wr w'->(nK0 w' BX X) from λ w' hB=>⟨(hX.bw hB).c0,(hX.bw hB).c1⟩)
   have lX:=hX.lt;have hint:=zC hint;obtain⟨x0,x1⟩:=zA Z6 _ (Below.refl _ _);go_wp2_with fail
   go_region_with
    (first
     | (go_at_call 126;have hq:=E9;refine (yI _ _ _ _ _ _ _ _ (408+20*i+4) 4 (wayF (r ^ n*(s-r) ^ m) m i*((m:Int)+((i:Int)+1))) ((i:Int)+1) _ (A5.bw m9) E5 (by omega) (by omega)).mono ?_;rintro r' w4 ⟨D8,a4,n4,c4,rfl,G6,y9⟩;have I5:=zB E9 y9;have lD4:=I5.size;have X4:=hX.bw I5;obtain⟨z0,z1⟩:=X4;have F4:∀ o,w4.frozen? ⟨BX,o,none⟩=false:=λ o=>(I5.frozen (p:=⟨BX,o,none⟩) lX).trans (hF o))
     | (go_at_call 83;have hq:=p9;refine (zT _ _ _ _ _ _ _ _ (408+20*i) 4 (wayF (r ^ n*(s-r) ^ m) m i) ((m:Int)+((i:Int)+1)) _ ((zA hint).bw p9) o8 (by omega) (by omega)).mono ?_;rintro r' w2 ⟨j6,a2,n2,c2,rfl,A5,j8⟩;have s9:=zB p9 j8;obtain⟨b0,b1⟩:=hX.bw s9)
     | (go_at_call 33;have hq:=s9;refine (zD ((i:Int)+1) _ (by omega) (by omega)).mono ?_;rintro r' w3 ⟨A7,a3,n3,c3,rfl,E5,m9⟩;have E9:=zB s9 m9;obtain⟨c0,c1⟩:=hX.bw E9)
     | (go_at_call 33;rw[zA HA];refine (zD ((m:Int)+((i:Int)+1)) _ (by omega) (by omega)).mono ?_;rintro r' w1 ⟨m7,a1,n1,c1,rfl,o8,b9⟩;have p9:Below wr.heap.size wr w1:=zB (by repeat' (first|with_reducible exact Below.refl _ _|with_reducible refine Below.drew ?_)) b9;obtain⟨d0,d1⟩:=hX.bw p9))
   all_goals
    go_wp2_with fail
    go_roundw
    case rel=>exact⟨i+1,⟨D8,a4,n4,c4⟩,by go_num,by omega,zDF (z:=X) ⟨z0,z1⟩ ⟨D8,a4,n4,c4⟩,yY F4 _ _,(G6.put2 z0 z1 _ _).mono (by omega),(R.bw I5).off (by omega) _ _,zD2 (zB hB I5) (by omega) _ _⟩
    case measure=>simp[intOf];omega
  ·have gH:i=n:=by omega
   subst gH;obtain⟨x0,x1⟩:=hX;obtain⟨z0,z1,z2⟩:=R;have hint:=zC hint;go_wp2_with fail;refine bodyPost_ret (v:=.agg X.q) (by simp[results,Tryz.results101,go_sem,z0,z1]) rfl ⟨X.neg,X.a,X.n,X.cap,rfl,?_,?_⟩
   ·exact (zA hint).put2 z0 z1 _ _
   ·exact zD2 hB (Nat.le_succ _) _ _
theorem zAO {a p q:Int} (hp:0<p) (O1:p<=q) (ha:0<=a):a/q<=a/p:=by
 have hq:0<q:=by omega
 have h0:0<=a/q:=Int.ediv_nonneg ha (by omega)
 rw[Int.le_ediv_iff_mul_le hp];have h1:=Int.ediv_mul_le a (show q≠0 by omega)
 have h2:=YD O1 h0;omega
theorem zAN {a p q:Int} (hp:0<p) (O1:p<=q) (ha:a<=0):a/p<=a/q:=by
 have hq:0<q:=by omega
 have h0:a/p<=0:=by
  have:=Int.ediv_le_ediv hp ha
  simpa using this
 rw[Int.le_ediv_iff_mul_le hq];have h1:=Int.ediv_mul_le a (show p≠0 by omega)
 have h2:=YD O1 (show 0 <= -(a/p) by omega)
 rw[Int.neg_mul,Int.neg_mul] at h2;omega
theorem zPB {l h p q:Int} (Kf:l<=h) (hp:0<p) (O1:p<=q) :
  kJ (pr4 (l/p) (l/q) (h/p) (h/q)) 3=if l<0 then l/p else l/q:=by
 have m1:l/p<=h/p:=Int.ediv_le_ediv hp Kf;have m2:l/q<=h/q:=Int.ediv_le_ediv (by omega) Kf
 have d1:0<=l->l/q<=l/p:=zAO hp O1;have d2:l<=0->l/p<=l/q:=zAN hp O1;have d3:0<=h->h/q<=h/p:=zAO hp O1;have d4:h<=0->h/p<=h/q:=zAN hp O1;simp only[kJ,pr4];simp;generalize l/p=A at *;generalize l/q=B at *;generalize h/p=C at *;generalize h/q=D at *;split<;>split<;>split<;>split<;>omega
theorem zS6 {l h p q:Int} (Kf:l<=h) (hp:0<p) (O1:p<=q) :
  kA (pr4 (-(-l/p)) (-(-l/q)) (-(-h/p)) (-(-h/q))) 3=if h<0 then -(-h/q) else -(-h/p):=by
 have m1 : -h/p <= -l/p:=Int.ediv_le_ediv hp (by omega)
 have m2 : -h/q <= -l/q:=Int.ediv_le_ediv (by omega) (by omega)
 have d1:0 <= -l -> -l/q <= -l/p:=zAO hp O1;have d2 : -l<=0 -> -l/p <= -l/q:=zAN hp O1;have d3:0 <= -h -> -h/q <= -h/p:=zAO hp O1;have d4 : -h<=0 -> -h/p <= -h/q:=zAN hp O1;simp only[kA,pr4];simp;generalize -l/p=A at *;generalize -l/q=B at *;generalize -h/p=C at *;generalize -h/q=D at *;split<;>split<;>split<;>split<;>omega
theorem sq_ltt {x y:Int} (hx:0<=x) (h:x*x<y*y) (hy:0<=y):x<y:=by
 rcases Int.lt_or_le x y with h5|h5
 ·exact h5
 ·have:=Int.mul_le_mul h5 h5 hy hx;omega
def rtN:Nat->Nat
 | 0=>0
 | n+1=>if (rtN n+1)*(rtN n+1)<=n+1 then rtN n+1 else rtN n
def rtZ (x:Int):Int:=(rtN x.toNat:Int)
theorem rtN_spec (n:Nat):rtN n*rtN n<=n/\n<(rtN n+1)*(rtN n+1):=by
 induction n with
 | zero=>simp[rtN]
 | succ n ih =>
  unfold rtN;split
  ·rename_i h
   refine⟨h,?_⟩
   have e:(rtN n+1+1)*(rtN n+1+1)=(rtN n+1)*(rtN n+1)+2*(rtN n+1)+1:=by
    rw[Nat.add_mul,Nat.mul_add];omega
   omega
  ·rename_i h
   exact⟨by omega,by omega⟩
theorem zAM (x:Int):0<=rtZ x:=by unfold rtZ;omega
theorem zEK {x:Int} (h:0<=x):rtZ x*rtZ x<=x/\x<(rtZ x+1)*(rtZ x+1):=by
 obtain⟨h1,h2⟩:=rtN_spec x.toNat;unfold rtZ;have h3:((rtN x.toNat*rtN x.toNat:Nat):Int)<=(x.toNat:Int):=by exact_mod_cast h1
 have h4:(x.toNat:Int)<(((rtN x.toNat+1)*(rtN x.toNat+1):Nat):Int):=by exact_mod_cast h2
 rw[Int.toNat_of_nonneg h] at h3 h4
 push_cast at h3 h4
 exact⟨h3,h4⟩
theorem RootOf.eq {x z:Int} (h:RootOf x z):z=rtZ x:=by
 obtain⟨h1,h2,h3⟩:=h
 rcases Int.lt_or_le 0 x with hx|hx
 ·obtain⟨h4,h5⟩:=zEK (x:=x) (by omega)
  exact zTM h1 (zAM x) (h3 hx).1 (h3 hx).2 h4 h5
 ·rw[h2 hx];unfold rtZ;rw[show x.toNat=0 by omega];rfl
def rtU (x:Int):Int:=if rtZ x*rtZ x<x then rtZ x+1 else rtZ x
theorem zPK {x y:Int} (h:x<=y) (h0:0<=x):rtZ x<=rtU y:=by
 obtain⟨h1,h2⟩:=zEK h0;obtain⟨h3,h4⟩:=zEK (x:=y) (by omega)
 have h5:rtZ x<rtZ y+1:=sq_ltt (zAM x) (by omega) (by have:=zAM y;omega)
 unfold rtU;split<;>omega
theorem rtU_sq {x:Int} (h:0<=x):x<=rtU x*rtU x:=by
 obtain⟨h3,h4⟩:=zEK h;unfold rtU;split<;>omega
theorem zTK (neg:Bool) (a:Option Addr) (n cap k:Nat) (x:Int) (w:World) (h1:IntAt w neg a n cap k x) (hk:k<=100000000) :
  Calls Tryz.prog 206 #[.agg #[.bool neg,.slice a n cap]] w (zCY w (k+10) (rtZ x)) :=
 (root_int neg a n cap k x w h1 hk).mono λ r w' ⟨z,hz,h⟩=>by rw[<- hz.eq];exact h
end Go.Proofs.YtgmnknmjainabacGreat
