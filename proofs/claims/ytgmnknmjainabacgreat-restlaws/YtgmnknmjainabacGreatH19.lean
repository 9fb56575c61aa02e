/-
  Its own texts.
-/
import Derived.Test.YtgmnknmjainabacGreatH18
set_option maxRecDepth 100000
set_option maxHeartbeats 40000000
set_option linter.unnecessarySimpa false
set_option linter.unusedSimpArgs false
set_option linter.unusedVariables false
namespace Go.Proofs.YtgmnknmjainabacGreat
open Ex
theorem mulI_sq {B:Nat} {a:Int × Int} (h0:0<=a.1) (hl:a.1<=a.2):(zAL B a a).1=a.1*a.1/Q B/\(zAL B a a).2 = -(-(a.2*a.2)/Q B):=by
 obtain⟨l1,l2,l3,l4,lh⟩:=zEA (a.1*a.1) (a.1*a.2) (a.2*a.1) (a.2*a.2);obtain⟨g1,g2,g3,g4,gh⟩:=zC4 (a.1*a.1) (a.1*a.2) (a.2*a.1) (a.2*a.2);have m1:=Za hl h0;have m2:=YW hl h0;have m3:=Za hl (show 0<=a.2 by omega)
 have m4:=YW hl (show 0<=a.2 by omega)
 unfold zAL;have e1:kM (pr4 (a.1*a.1) (a.1*a.2) (a.2*a.1) (a.2*a.2)) 3=a.1*a.1:=by omega
 have e2:jZ (pr4 (a.1*a.1) (a.1*a.2) (a.2*a.1) (a.2*a.2)) 3=a.2*a.2:=by omega
 rw[e1,e2];exact⟨rfl,rfl⟩
theorem sq_rel {B:Nat} {a:Int × Int} {C:Int} (h0:0<=a.1) (hl:a.1<=a.2) (hC:0<=C) (h:(a.2-a.1)*Q B<=C*a.2) (hq:Q B<=2*(zAL B a a).2):((zAL B a a).2-(zAL B a a).1)*Q B<=(2*C+4)*(zAL B a a).2:=by
 have q:=zE B;obtain⟨e1,e2⟩:=mulI_sq (B:=B) h0 hl;have f1:=kY (a.1*a.1) (show 0<Q B by omega)
 have f2:=kY (-(a.2*a.2)) (show 0<Q B by omega)
 have f3:=zEY (a.2*a.2) (show 0<Q B by omega)
 rw[<- e1] at f1;rw[<- e2] at f3
 have f4:((zAL B a a).2-1)*Q B<a.2*a.2:=by
  have:(-(a.2*a.2)/Q B+1)*Q B = -(((zAL B a a).2-1)*Q B):=by rw[e2];grind
  omega
 generalize (zAL B a a).1=x at *;generalize (zAL B a a).2=y at *
 have g1:(y-x)*Q B<=a.2*a.2-a.1*a.1+2*Q B:=by
  have r1:(y-1)*Q B=y*Q B-Q B:=by grind
  have r2:(x+1)*Q B=x*Q B+Q B:=by grind
  have r3:(y-x)*Q B=y*Q B-x*Q B:=by grind
  omega
 have m1:=Za h (show 0<=2*a.2 by omega)
 have m2:(a.2*a.2-a.1*a.1)*Q B<=2*a.2*((a.2-a.1)*Q B):=by
  have r:a.2*a.2-a.1*a.1=2*a.2*(a.2-a.1)-(a.2-a.1)*(a.2-a.1):=by grind
  have s:=Zc (show 0<=a.2-a.1 by omega) (show 0<=a.2-a.1 by omega)
  have m:=YW (show a.2*a.2-a.1*a.1<=2*a.2*(a.2-a.1) by omega) (show 0<=Q B by omega)
  have r2:2*a.2*(a.2-a.1)*Q B=2*a.2*((a.2-a.1)*Q B):=by grind
  omega
 have m3:=Za f3 (show 0<=2*C by omega)
 have r4:2*a.2*(C*a.2)=2*C*(a.2*a.2):=by grind
 have r5:2*C*(y*Q B)=2*C*y*Q B:=by grind
 rw[r4] at m1;rw[r5] at m3;have m4:a.2*a.2-a.1*a.1<=2*C*y:=Int.le_of_mul_le_mul_right (a:=Q B) (by omega) (by omega)
 have r6:(2*C+4)*y=2*C*y+4*y:=by grind
 omega
theorem sqs_rel {B:Nat} {d:Int × Int} {C:Int} (hB:40<=B) (hd:d.1<=d.2) (hl:Q B-1<=d.1) (hC:0<=C) (h:(d.2-d.1)*Q B<=C*d.2) (i:Nat) (hi:i<=20) :
  ((sqI B d i).2-(sqI B d i).1)*Q B<=(Q i*(C+4)-4)*(sqI B d i).2:=by
 have h4:=zH hB;have e2:Q 40=1099511627776:=rfl
 induction i with
 | zero =>
  show (d.2-d.1)*Q B<=(1*(C+4)-4)*d.2
  have:1*(C+4)-4=C:=by omega
  rw[this];exact h
 | succ i ih =>
  have i1:=ih (by omega)
  have qi:=zH (show i+1<=20 by omega)
  have Ha:Q 20=1048576:=rfl;have es:Q (i+1)=2*Q i:=rfl;have q0:=zE i;obtain⟨l1,l2⟩:=zOA (B:=B) hd i (by omega) hl
  obtain⟨l3,l4⟩:=zOA (B:=B) hd (i+1) (by omega) hl
  have m:=YW q0 (show 0<=C+4 by omega)
  have r:=sq_rel (B:=B) (a:=sqI B d i) (C:=Q i*(C+4)-4) (by omega) l2 (by omega) i1 (by
   have e:(zAL B (sqI B d i) (sqI B d i)).2=(sqI B d (i+1)).2:=rfl
   rw[e];omega)
  have ec:2*(Q i*(C+4)-4)+4=Q (i+1)*(C+4)-4:=by rw[es];grind
  rw[ec] at r;exact r
theorem bal_nat {B:Nat} {n' d' c:Int} (h0:40<=B) (h1:B<=1000) (h:Bal (B:Int) 1 n' d' c):0<=c/\c<=10/\4*(c+1)<=(B:Int):=by
 obtain⟨⟨n0,d0,g1,g2⟩,h2,h3⟩:=h
 have c0:0<=c:=Int.not_lt.1 λ hc=>by
  have e:=h3 hc;have q:=zE (-c).toNat;have m:=Za q (show 0<=(B:Int)*d' from Zc (by omega) (by omega))
  have m2:=YW (show (40:Int)<=(B:Int) by omega) (show 0<=d' by omega)
  omega
 have e:=h2 c0;obtain⟨k,hk⟩:∃ k:Nat,c=(k:Int):=⟨c.toNat,by omega⟩
 subst hk;have ek:((k:Int)).toNat=k:=by omega
 rw[ek] at e;have qk:=zE k
 have le:Q k<=2*(B:Int):=by
  have m:=Za (show d'<=2*n' by omega) (show 0<=(B:Int) by omega)
  refine Int.le_of_mul_le_mul_left (a:=n') ?_ n0;have r1:n'*1*Q k=n'*Q k:=by grind
  have r2:(B:Int)*(2*n')=n'*(2*(B:Int)):=by grind
  omega
 have dP:k<=10:=Nat.not_lt.1 λ hk=>by
  have:=zH (show 11<=k by omega)
  have:Q 11=2048:=rfl;omega
 refine⟨by omega,by omega,?_⟩
 by_cases c9:k<=9
 ·omega
 ·have:k=10:=by omega
  subst this;have:Q 10=1024:=rfl;omega
def gaY (n d:Int) (B:Nat) (o:Int × Int):Int × Int:=zJB (ofI (B:Int) 1 B) (zJ o n d)
structure GaLog (L:Rat->Nat->Rat) (B:Nat) (o:Int × Int):Prop where
 le:o.1<=o.2
 ab:Abs o ((B:Int)*Q B)
 wd:o.2-o.1<=44*(B:Int)+308
 iv:Iv B o (L (B:Rat))
theorem gaLog_of {L:Rat->Nat->Rat} (hL:Lns L) {B:Nat} (h0:40<=B) (h1:B<=1000) {n' d' c:Int} {N N2:Nat} (h:Bal (B:Int) 1 n' d' c) (hN:zU (lnT n' d' B) N) (bj:zU (lnT 2 1 B) N2):GaLog L B (zIF (zM (lnT n' d' B) N) (zM (lnT 2 1 B) N2) c):=by
 obtain⟨c0,c1,c2⟩:=bal_nat h0 h1 h;obtain⟨b1,b2,b3⟩:=zEC (k:=c) h.1 (show 16<=B by omega) hN bj c (by omega) (by omega)
 obtain⟨l,il,iv⟩:=zE1 (show (0:Int)<(B:Int) by omega) (by omega) h B N N2
 have q:=zE B;refine⟨b1,b2.mono ?_,?_,?_⟩
 ·have m:=YW c2 (show 0<=Q B by omega)
  have r:(c+1)*(4*Q B)=4*(c+1)*Q B:=by grind
  omega
 ·have m:=YW (show c+1<=11 by omega) (show 0<=2*(((B:Int)/3+2)*6+2) by omega)
  omega
 ·have e:(λ (_:Nat)=>((B:Int):Rat)/((1:Int):Rat))=λ _=>(B:Rat):=by
   funext _
   have e1:((1:Int):Rat)=1:=rfl;have e2:((B:Int):Rat)=(B:Rat):=rfl;rw[e1,e2,Rat.div_def];have:(1:Rat)⁻¹=1:=by decide +kernel
   rw[this,Rat.mul_one]
  rw[e] at il;have b0:(0:Rat)<(B:Rat):=by exact_mod_cast (show 0<B by omega)
  exact iv.congr ((hL _ b0).uniq il)
theorem gaY_ok {L:Rat->Nat->Rat} {n d:Int} {B:Nat} {o:Int × Int} (h:zG2 n d B) (ho:GaLog L B o):0<=(gaY n d B o).1/\(gaY n d B o).1<=(gaY n d B o).2/\(gaY n d B o).2-(gaY n d B o).1<=44*(B:Int)+309/\zW (gaY n d B o)<Q (B+11)/\Iv B (gaY n d B o) (λ M=>(B:Rat)-(n:Rat)/(d:Rat)*L (B:Rat) M):=by
 have n0:=h.n0;have nd:=h.nd;have b0:=h.b0;have b1:=h.b1;have d0:0<d:=by omega
 have q:=zE B;have sa:=zE3 ho.ab d0 (show 0<=n by omega) nd
 have sl:=kR ho.le d0 (show 0<=n by omega)
 have sw:=kK (a:=o) (n:=n) (d:=d) (c:=o.2-o.1) d0 (Za nd (by have:=ho.le;omega))
 have e1:(ofI (B:Int) 1 B).1=(B:Int)*Q B:=Int.ediv_one _;have e2:(ofI (B:Int) 1 B).2=(B:Int)*Q B:=by show -(-((B:Int)*Q B)/1)=_;rw[Int.ediv_one];omega
 have g1:(gaY n d B o).1=(B:Int)*Q B-(zJ o n d).2:=by show (ofI (B:Int) 1 B).1-_=_;rw[e1]
 have g2:(gaY n d B o).2=(B:Int)*Q B-(zJ o n d).1:=by show (ofI (B:Int) 1 B).2-_=_;rw[e2]
 obtain⟨s1,s2,s3,s4⟩:=sa;have wd:=ho.wd;have lo:0<=(gaY n d B o).1:=by omega
 refine⟨lo,by omega,by omega,?_,?_⟩
 ·have r:zW (gaY n d B o)<=2*((B:Int)*Q B):=zAJ ⟨by omega,by omega,by omega,by omega⟩
  have e:Q (B+11)=Q B*Q 11:=jD B 11;have VI:Q 11=2048:=rfl;rw[VI] at e;have m:=YW (show (B:Int)<=1000 by omega) (show 0<=Q B by omega)
  omega
 ·have i1:=Iv.of B (n:=(B:Int)) (d:=1) (by decide)
  have i2:=ho.iv.scale (n:=n) (d:=d) (by omega) d0
  refine Has.of_eq (i1.sub i2) λ M=>?_
  have e1:((1:Int):Rat)=1:=rfl;have e2:((B:Int):Rat)=(B:Rat):=rfl
  have e3:(B:Rat)/1=(B:Rat):=by
   rw[Rat.div_def];have:(1:Rat)⁻¹=1:=by decide +kernel
   rw[this,Rat.mul_one]
  rw[e1,e2,e3]
def gaE (n d:Int) (B:Nat) (o:Int × Int) (t N:Nat):Int × Int:=sqI B (zM (zV B (zF (gaY n d B o) t)) N) t
theorem gaE_ok {L:Rat->Nat->Rat} {n d:Int} {B t N:Nat} {o:Int × Int} (h:zG2 n d B) (ho:GaLog L B o) (ht:t<=19) (hA:Abs (zF (gaY n d B o) t) (Q (B-8))) (hN:zU (zV B (zF (gaY n d B o) t)) N) :
  Q B+1<=2*(gaE n d B o t N).1/\(gaE n d B o t N).1<=(gaE n d B o t N).2/\(gaE n d B o t N).2<=Q (B+6144)/\((gaE n d B o t N).2-(gaE n d B o t N).1)*Q B<=9900000*((B:Int)*(B:Int))*(gaE n d B o t N).2/\Iv B (gaE n d B o t N) (Ev (λ M=>(B:Rat)-(n:Rat)/(d:Rat)*L (B:Rat) M)):=by
 obtain⟨y1,y2,y3,y4,y5⟩:=gaY_ok h ho;have b0:=h.b0;have b1:=h.b1;have q:=zE t;have qB:=zE B
 obtain⟨g1,g2,g3,g4⟩:=zBL (ws:=44*(B:Int)+309) (by omega) hA y2 (by
  have m:=Za q (show 0<=44*(B:Int)+309 by omega)
  omega) hN
 have hs:0<=(zF (gaY n d B o) t).1:=Int.ediv_nonneg y1 (by omega)
 have Z9:(zF (gaY n d B o) t).1<=(zF (gaY n d B o) t).2:=by
  have:=kR (a:=gaY n d B o) (n:=1) (d:=Q t) y2 (by omega) (by omega)
  simpa [zJ,zF] using this
 have dl:=zM3 hs Z9 hN;have dle:=zCK (zAK B (zF (gaY n d B o) t)) N;have sl:=zOA (B:=B) dle t (zH (by omega)) dl
 have h3:=zH (show t<=19 by omega)
 have h4:=zH b0;have rM:Q 19=524288:=rfl;have Hb:Q 40=1099511627776:=rfl;have rN:eb 19=6144:=by decide
 have ebm:=zAP (show t<=19 by omega)
 rw[rN] at ebm;have up:=(g2.mono (zH (show B+eb t<=B+6144 by omega))).2.2.2
 have wd:(zF (gaY n d B o) t).2-(zF (gaY n d B o) t).1<=44*(B:Int)+309+1:=zBV (by omega) (by
  have m:=Za q (show 0<=44*(B:Int)+309 by omega)
  omega)
 have wD:=zCA (zD6 (by omega) hA Z9 wd) hN
 obtain⟨D,hD⟩:∃ D,D=zM (zV B (zF (gaY n d B o) t)) N:=⟨_,rfl⟩;rw[<- hD] at dl dle wD
 have wC:D.2-D.1<=((B:Int)/8+2)*(88*(B:Int)+624)+2:=by
  have m:=YW (show (N:Int)+1<=(B:Int)/8+2 by omega) (show 0<=2*(44*(B:Int)+309+1)+4 by omega)
  have r:2*(44*(B:Int)+309+1)+4=88*(B:Int)+624:=by omega
  rw[r] at m wD;omega
 obtain⟨C,hC⟩:∃ C,C=((B:Int)/8+2)*(88*(B:Int)+624)+4:=⟨_,rfl⟩;have C0:0<=C:=by have:=Zc (show 0<=(B:Int)/8+2 by omega) (show 0<=88*(B:Int)+624 by omega);omega
 have BB:=Int.mul_le_mul (show (40:Int)<=(B:Int) by omega) (show (40:Int)<=(B:Int) by omega) (by omega) (by omega)
 have Cb:40*(C+4)<=735*((B:Int)*(B:Int)):=by
  have m:=Int.mul_le_mul (show 40*((B:Int)/8+2)<=7*(B:Int) by omega) (show 88*(B:Int)+624<=104*(B:Int) by omega) (by omega) (by omega)
  have r1:40*((B:Int)/8+2)*(88*(B:Int)+624)=40*(((B:Int)/8+2)*(88*(B:Int)+624)):=by grind
  have r2:7*(B:Int)*(104*(B:Int))=728*((B:Int)*(B:Int)):=by grind
  omega
 have rel:(D.2-D.1)*Q B<=C*D.2:=by
  have m1:=YW wC (show 0<=Q B by omega)
  have m2:=Za (show Q B<=D.2+1 by omega) (show 0<=C-2 by have:=Zc (show 0<=(B:Int)/8+2 by omega) (show 0<=88*(B:Int)+624 by omega);omega)
  have r1:((B:Int)/8+2)*(88*(B:Int)+624)+2=C-2:=by omega
  rw[r1] at m1;have r2:(C-2)*(D.2+1)=C*D.2+C-2*D.2-2:=by grind
  have:C<=2*D.2+2:=by
   have m3:=Int.mul_le_mul (show (B:Int)<=1000 by omega) (show (B:Int)<=1000 by omega) (by omega) (by omega)
   omega
  omega
 have rs:=sqs_rel (B:=B) b0 dle dl C0 rel t (by omega)
 refine⟨?_,g1,up,?_,zDZ (by omega) y5 hA⟩
 ·show Q B+1<=2*(sqI B (zM (zV B (zF (gaY n d B o) t)) N) t).1
  omega
 ·show ((sqI B (zM (zV B (zF (gaY n d B o) t)) N) t).2-(sqI B (zM (zV B (zF (gaY n d B o) t)) N) t).1)*Q B<=9900000*((B:Int)*(B:Int))*(sqI B (zM (zV B (zF (gaY n d B o) t)) N) t).2
  rw[<- hD] at sl ⊢;refine Int.le_trans rs (YW ?_ (by omega))
  have m:=YW h3 (show 0<=C+4 by omega)
  rw[rM] at m;omega
namespace Ex
theorem zEI {L:Rat->Nat->Rat} (hL:Lns L) (c:Rat):Null (λ M=>pr L c 1 M-1):=by
 have h:=(hL 1 (by grind)).uniq isLog_one
 have h2:Null (λ M=>c*L 1 M):=(h.bmul (Bdd.const c)).of_eq λ M=>by grind
 exact zPZ h2
theorem upT_anti {a x:Rat} (ha:0<a) (ax:a<=1) (hx:0<=x) (n:Nat):upT 1 x n<=upT a x n:=by
 induction n with
 | zero =>
  have e:=zAD ha x;have e1:=zAD (show (0:Rat)<1 by grind) x
  have p:=kH ha hx 0;have m:=YX ax p;grind
 | succ n ih =>
  have e:=jW ha x n;have e1:=jW (show (0:Rat)<1 by grind) x n
  have p:=kH ha hx (n+1);have q:=zBQ (show (0:Rat)<1 by grind) n
  have m:=YX (show a+((n:Rat)+1)<=1+((n:Rat)+1) by grind) p
  have m2:=YT ih hx;refine Rat.le_of_mul_le_mul_left (c:=1+((n:Rat)+1)) ?_ q;rw[e1];rw[e] at m;exact Rat.le_trans m2 m
theorem uS_anti {a x:Rat} (ha:0<a) (ax:a<=1) (hx:0<=x) (M:Nat):uS 1 x M<=uS a x M:=by
 induction M with
 | zero=>exact Rat.le_refl
 | succ n ih=>have:=upT_anti ha ax hx n;rw[yX,yX];grind
theorem uS_E {a x:Rat} (ha:0<a) (hx:0<=x) (M:Nat):a*uS a x M<=E x M:=by
 induction M with
 | zero=>show a*0<=0;grind
 | succ n ih =>
  have t:=zUA ha hx n;have e:E x (n+1)=E x n+tm x n:=rfl;rw[yX,e];grind
theorem ex_neg_one:Null (λ M=>ex 1 M*ex (-1) M-1):=by
 have s:=zC2 1 (-1);have e:(1:Rat) + -1=0:=by grind
 rw[e] at s;refine s.of_eq_from 1 λ M hM=>?_
 obtain⟨m,rfl⟩:∃ m,M=m+1:=⟨M-1,by omega⟩
 have:ex 0 (m+1)=1:=E_zero m;rw[this]
theorem q2_one:q2 1=1/2:=by
 have e:q2 1=q2 0/2:=rfl;have e0:q2 0=1:=rfl;rw[e,e0]
theorem gam_half {L:Rat->Nat->Rat} (hL:Lns L) {a:Rat} {g:Nat->Rat} (ha:0<a) (ax:a<=1) (h:Gam1 L a g):LeN (λ _=>1/2) g:=by
 refine LeN.trans ?_ (h.lo 1 (by grind))
 obtain⟨N,hN⟩:=zDO (-1);obtain⟨z,hz,kz⟩:=(zF2 1).null;have e1 : -((1:Nat):Rat) = -1:=rfl;rw[e1] at kz;have b:=(yD (-1)).mul (zDR ha (show (0:Rat)<=1 by grind))
 have n1:=(zEI hL a).bmul b;obtain⟨K,k0,hK⟩:=zPN 1
 have tn:Null (tm 1):=(zB3 K k0).of_le 1 λ M hM=>(hK M).mono (by
  have m1:(1:Rat)<=(M:Rat):=by exact_mod_cast hM
  have:=YT m1 (YV k0 (YZ (yE M)))
  grind)
 have n2:=tn.bmul (yD (-1));refine LeN.of_null (((n1.neg).add hz).add ((ex_neg_one.neg).add n2.neg)) (N+1) λ M hM=>?_
 have s1:=uS_one (x:=1) M;have s2:=uS_anti ha ax (show (0:Rat)<=1 by grind) M
 have e0:=hN M (by omega)
 have k:=kz M;have q:=q2_one;have m:=YT s2 e0;have e2:E 1 (M+1)=ex 1 M+tm 1 M:=rfl;rw[e2] at s1;unfold uG;generalize pr L a 1 M=p at *;generalize ex (-1) M=y at *;generalize uS 1 1 M=u1 at *;generalize uS a 1 M=ua at *;generalize ex 1 M=v at *;generalize tm 1 M=t at *;have r:y*u1=y*(v+t-1):=by rw[<- s1];grind
 rw[r] at m;rw[q] at k;grind
theorem gam_top {L:Rat->Nat->Rat} (hL:Lns L) {a:Rat} {g:Nat->Rat} (ha:0<a) (h:Gam1 L a g):LeN g (λ _=>1/a+1):=by
 refine (h.hi 1 (by grind)).trans ?_
 obtain⟨N,hN⟩:=zDO (-1);obtain⟨z,hz,kz⟩:=(zF2 1).null;have e1 : -((1:Nat):Rat) = -1:=rfl;rw[e1] at kz;have b:=(yD (-1)).mul (zDR ha (show (0:Rat)<=1 by grind))
 have n1:=(zEI hL a).bmul b;have n2:=(zEI hL (a-1)).bmul (yD (-1));have n3:=ex_neg_one.bmul (Bdd.const (1/a));refine LeN.of_null ((n1.add n2).add (hz.add n3)) N λ M hM=>?_
 have s1:=uS_E ha (show (0:Rat)<=1 by grind) M
 have e0:=hN M hM;have k:=kz M;have q:=q2_one;have m:=YT s1 e0;have e2:E 1 M=ex 1 M:=rfl;rw[e2] at m;have d:=rdm (a:=1) ha;have ip:0<=1/a:=jR ha (by grind)
 have m2:=YT m ip;unfold uG uE;generalize pr L a 1 M=p at *;generalize pr L (a-1) 1 M=p2 at *;generalize ex (-1) M=y at *;generalize uS a 1 M=ua at *;generalize ex 1 M=v at *;have r:1/a*(y*(a*ua))=1/a*a*(y*ua):=by grind
 rw[r,d] at m2;rw[q] at k;generalize 1/a=i at *;clear r d n1 n2 n3 b;grind
theorem uE_half {L:Rat->Nat->Rat} (hL:Lns L) {a:Rat} (ax:a<=1) {n:Nat} (hn:1<=n):LeN (uE L a (n:Rat)) (λ _=>q2 n):=by
 have n1:(1:Rat)<=(n:Rat):=by exact_mod_cast hn
 have n0:(0:Rat)<(n:Rat):=by grind
 have l1:=(zGE hL (c:=a-1) (by grind) (show (0:Rat)<1 by grind) n1).trans (LeN.of_eqN (zEI hL (a-1)))
 have l:=l1.mul (zF2 n) (yD _) (zDO _) (Bdd.const 1) (Nn.const (by grind))
 exact l.trans (LeN.of_le 0 λ M _=>by grind)
theorem zT6 {L:Rat->Nat->Rat} (hL:Lns L) {a x:Rat} (ha:0<a) (hx:0<x):Null (λ M=>uG L a x M-uS a x M/Ev (λ M=>x-a*L x M) M):=by
 have hb:Bdd (λ M=>x-a*L x M):=(Bdd.const x).sub (kD hL hx a)
 obtain⟨c,c0,N,hc⟩:=zB9 hb;have i1:=zAO (kD hL hx a) (Bdd.const (-x));have i2:=zPX hb
 have bq:Bdd (λ M=>uS a x M/Ev (λ M=>x-a*L x M) M):=by
  obtain⟨K,k0,hK⟩:=zK1 ha (YZ hx);refine Bdd.of_le (K/c) N λ M hM=>?_
  have e:=hc M hM;have ep:0<Ev (λ M=>x-a*L x M) M:=by grind
  have s0:=zCF ha (YZ hx) M;have q0:0<=uS a x M/Ev (λ M=>x-a*L x M) M:=jR ep (by grind)
  have kc:0<=K/c:=jR c0 (by grind)
  refine⟨by grind,zBP ep ?_⟩
  have d:=rdm (a:=K) c0;have m:=YT e kc;have:=hK M;grind
 have bE:=zAH hb;have n1:=(i1.bmul (zDR ha (YZ hx)));have n2:=i2.bmul bq;refine (n1.add n2).of_eq_from N λ M hM=>?_
 have e:=hc M hM;have ep:0<Ev (λ M=>x-a*L x M) M:=by grind
 have d:=rdm (a:=uS a x M) ep;have e1:Ev (λ M => -(x-a*L x M)) M=Ev (λ M=>a*L x M + -x) M:=by unfold Ev;congr 1;grind
 rw[e1];unfold uG pr ex;generalize Ev (λ M=>a*L x M + -x) M=w1 at *
 generalize Ev (λ M=>a*L x M) M=w2 at *
 have e2:Ev (λ _ => -x) M=Ev (λ M => -x) M:=rfl
 generalize Ev (λ _ => -x) M=w3 at *
 generalize Ev (λ M=>x-a*L x M) M=w4 at *
 generalize uS a x M=s at *;have r:(w4*w1-1)*(s/w4)=s/w4*w4*w1-s/w4:=by grind
 rw[r,d];grind
end Ex
theorem dv_rel {s1 s2 e1 e2 q C D lo hi:Int} (hq:0<q) (h0:0<=s1) (hC:0<=C) (hD:0<=D) (hCq:C<=q) (PC:D<=q) (he:0<e1) (Yb:e1<=e2) (hs:(s2-s1)*q<=C*s2) (ak:s1<=s2) (he2:(e2-e1)*q<=D*e2) (Qh:lo=s1*q/e2) (pS:hi = -(-(s2*q)/e1)):(hi-lo)*q<=(C+D)*hi+2*q:=by
 have Ha:0<e2:=by omega
 have A:=kY (s1*q) Ha;rw[<- Qh] at A
 have Cc:(hi-1)*e1<=s2*q:=by
  have:=kY (-(s2*q)) he;have r:(-(s2*q)/e1+1)*e1 = -((hi-1)*e1):=by rw[pS];grind
  omega
 have Jh:0<=hi:=by
  have : -(s2*q)/e1<=0:=Int.ediv_nonpos_of_nonpos_of_neg (by have:=Zc (show 0<=s2 by omega) (show 0<=q by omega);omega) he
  omega
 by_cases hz:hi=0
 ·have l0:0<=lo:=by rw[Qh];exact Int.ediv_nonneg (Zc h0 (by omega)) (by omega)
  have:=Zc l0 (show 0<=q by omega)
  have r:(hi-lo)*q=hi*q-lo*q:=by grind
  rw[r,hz];omega
 ·have p:0<=hi-1:=by omega
  have B1:s2*(q-C)<=s1*q:=by
   have r1:s2*(q-C)=s2*q-C*s2:=by grind
   have r2:(s2-s1)*q=s2*q-s1*q:=by grind
   omega
  have B2:e2*(q-D)<=e1*q:=by
   have r1:e2*(q-D)=e2*q-D*e2:=by grind
   have r2:(e2-e1)*q=e2*q-e1*q:=by grind
   omega
  have qC:0<=q-C:=by omega
  have qD:0<=q-D:=by omega
  have k1:=Za B2 (Zc p qC);have k2:=YW Cc (Zc qC (show 0<=q by omega))
  have k3:=Za B1 (Zc (show 0<=q by omega) (show 0<=q by omega))
  have k4:=Za (show s1*q<=(lo+1)*e2 by omega) (Zc (show 0<=q by omega) (show 0<=q by omega))
  have r1:(hi-1)*(q-C)*(e1*q)=(hi-1)*e1*((q-C)*q):=by grind
  have r2:s2*q*((q-C)*q)=q*q*(s2*(q-C)):=by grind
  have r3:(hi-1)*(q-C)*(e2*(q-D))=(hi-1)*((q-C)*(q-D))*e2:=by grind
  have r4:q*q*((lo+1)*e2)=(lo+1)*(q*q)*e2:=by grind
  have k5:(hi-1)*((q-C)*(q-D))<=(lo+1)*(q*q):=Int.le_of_mul_le_mul_right (a:=e2) (by omega) Ha
  have r5:(q-C)*(q-D)=q*(q-(C+D))+C*D:=by grind
  have cd:=Zc hC hD;have k6:=Za (show q*(q-(C+D))<=(q-C)*(q-D) by omega) p
  have r6:(hi-1)*(q*(q-(C+D)))=(hi-1)*(q-(C+D))*q:=by grind
  have r7:(lo+1)*(q*q)=(lo+1)*q*q:=by grind
  have k7:(hi-1)*(q-(C+D))<=(lo+1)*q:=Int.le_of_mul_le_mul_right (a:=q) (by omega) hq
  have r8:(hi-1)*(q-(C+D))=hi*q-q-(C+D)*hi+(C+D):=by grind
  have r9:(lo+1)*q=lo*q+q:=by grind
  have r10:(hi-lo)*q=hi*q-lo*q:=by grind
  omega
theorem zP3 {B:Nat} (h0:40<=B) (h1:B<=1000):16*(10000000*((B:Int)*(B:Int)))<=Q B:=by
 by_cases c:B<=80
 ·have m:=Int.mul_le_mul (show (B:Int)<=80 by omega) (show (B:Int)<=80 by omega) (by omega) (by omega)
  have q:=zH h0;have e:Q 40=1099511627776:=rfl;omega
 ·have m:=Int.mul_le_mul (show (B:Int)<=1000 by omega) (show (B:Int)<=1000 by omega) (by omega) (by omega)
  have q:=zH (show 60<=B by omega)
  have e:Q 60=1152921504606846976:=rfl;omega
def gaG (n d:Int) (B:Nat) (o:Int × Int) (t N NS:Nat):Int × Int:=(zDN (jQ n d B NS).1 (jQ n d B NS).2 (gaE n d B o t N).1 (gaE n d B o t N).2 B,zEX (jQ n d B NS).1 (jQ n d B NS).2 (gaE n d B o t N).1 (gaE n d B o t N).2 B+1)
structure GaV (g:Nat->Rat) (B:Nat) (a:Int × Int):Prop where
 lo:Q B<=4*a.1
 le:a.1<=a.2
 rel:(a.2-a.1)*Q B<=10000000*((B:Int)*(B:Int))*a.2
 hi:a.2<=Q (B+43)
 iv:Iv B a g
theorem zNH {B:Nat} {a:Int × Int} {x y:Nat->Rat} (h:Iv B a x) (k:LeN x y) {z:Int} (hz:LeN y (λ _=>(z:Rat)/(Q B:Rat))):a.1<=z:=by
 have q:=jM B;refine Int.not_lt.1 λ E2=>?_
 have d:(0:Rat)<1/(Q B:Rat):=zK (by grind) q
 obtain⟨e,he⟩:∃ e,e=1/(Q B:Rat)/4:=⟨_,rfl⟩;have e0:0<e:=by grind
 obtain⟨N1,k1⟩:=h e e0;obtain⟨N2,k2⟩:=k e e0;obtain⟨N3,k3⟩:=hz e e0;have a1:=(k1 (N1+N2+N3) (by omega)).1
 have a2:=k2 (N1+N2+N3) (by omega)
 have a3:=k3 (N1+N2+N3) (by omega)
 simp only[] at a3;have c:=jF (show z+1<=a.1 by omega)
 rw[Rat.intCast_add] at c;have c1:((1:Int):Rat)=1:=rfl;rw[c1] at c;have m:((z:Rat)+1)/(Q B:Rat)<=(a.1:Rat)/(Q B:Rat):=kF q (by rw[rdm q];exact c)
 rw[zB0] at m;generalize 1/(Q B:Rat)=i at *;grind
theorem gaG_ok {L:Rat->Nat->Rat} (hL:Lns L) {n d:Int} {B t N NS:Nat} {o:Int × Int} {g:Nat->Rat} (h:zG2 n d B) (hg:Gam1 L ((n:Rat)/(d:Rat)) g) (ho:GaLog L B o) (ht:t<=19) (hA:Abs (zF (gaY n d B o) t) (Q (B-8))) (hN:zU (zV B (zF (gaY n d B o) t)) N) (hS:NS<=65*B+126) (lv:yK (gaT n d B) (2*B) NS):GaV g B (gaG n d B o t N NS):=by
 obtain⟨s1,s2,s3⟩:=zNA h hS;obtain⟨e1,e2,e3,e4,e5⟩:=gaE_ok h ho ht hA hN;have si:=ga_has h lv;have n0:=h.n0;have nd:=h.nd;have b0:=h.b0;have b1:=h.b1;have q:=zE B;have qr:=jM B;have big:=zP3 b0 b1;have BB:=Int.mul_le_mul (show (40:Int)<=(B:Int) by omega) (show (40:Int)<=(B:Int) by omega) (by omega) (by omega)
 have nr:(0:Rat)<(n:Rat):=by exact_mod_cast n0
 have dr:(0:Rat)<(d:Rat):=by exact_mod_cast (show 0<d by omega)
 have a0:(0:Rat)<(n:Rat)/(d:Rat):=zK nr dr;have a1:(n:Rat)/(d:Rat)<=1:=zBP dr (by have:=jF nd;grind)
 have bb:(0:Rat)<(B:Rat):=by exact_mod_cast (show 0<B by omega)
 have dv:Iv B (zDN (jQ n d B NS).1 (jQ n d B NS).2 (gaE n d B o t N).1 (gaE n d B o t N).2 B,zEX (jQ n d B NS).1 (jQ n d B NS).2 (gaE n d B o t N).1 (gaE n d B o t N).2 B) (uG L ((n:Rat)/(d:Rat)) (B:Rat)):=(Iv.dv si e5 (show 0<=(jQ n d B NS).1 by omega) (show 0<(gaE n d B o t N).1 by omega)).congr (zT6 hL a0 bb)
 obtain⟨l1,l2⟩:=zJT (b:=B) (lo:=(jQ n d B NS).1) (hi:=(jQ n d B NS).2) (lo':=(gaE n d B o t N).1) (hi':=(gaE n d B o t N).2) (by omega) s2 (by omega) e2
 have iv:Iv B (gaG n d B o t N NS) g:=by
  have low:=hg.lo _ bb;have up:=(hg.hi _ bb).trans ((LeN.refl _).add (uE_half hL a1 (show 1<=B by omega)))
  have qq:q2 B=1/(Q B:Rat):=by
   have:∀ k:Nat,q2 k*(Q k:Rat)=1:=λ k=>by
    induction k with
    | zero =>
     show (1:Rat)*((1:Int):Rat)=1
     have c1:((1:Int):Rat)=1:=rfl;rw[c1];grind
    | succ k ih =>
     have e:q2 (k+1)=q2 k/2:=rfl;have e2:Q (k+1)=2*Q k:=rfl;rw[e,e2,Ze];have:((2:Int):Rat)=2:=rfl;rw[this];grind
   have k:=this B;refine Rat.le_antisymm (jR qr (by rw[k];exact Rat.le_refl)) (zBP qr (by rw[k];exact Rat.le_refl))
  intro e he
  obtain⟨N1,k1⟩:=dv (e/2) (by grind)
  obtain⟨N2,k2⟩:=low (e/2) (by grind)
  obtain⟨N3,k3⟩:=up (e/2) (by grind)
  refine⟨N1+N2+N3,λ M hM=>?_⟩
  obtain⟨x1,x2⟩:=k1 M (by omega)
  have x3:=k2 M (by omega)
  have x4:=k3 M (by omega)
  simp only[] at x4;unfold gaG;simp only[] at x1 x2 ⊢;rw[Rat.intCast_add,zB0];have c1:((1:Int):Rat)=1:=rfl;rw[c1,<- qq];generalize ((zDN (jQ n d B NS).1 (jQ n d B NS).2 (gaE n d B o t N).1 (gaE n d B o t N).2 B:Int):Rat)/(Q B:Rat)=z1 at *;generalize ((zEX (jQ n d B NS).1 (jQ n d B NS).2 (gaE n d B o t N).1 (gaE n d B o t N).2 B:Int):Rat)/(Q B:Rat)=z2 at *;generalize uG L ((n:Rat)/(d:Rat)) (B:Rat) M=z3 at *;generalize g M=z4 at *;generalize q2 B=z5 at *;clear dv low up k1 k2 k3 si e5 l1 l2 s3 e4;exact⟨by grind,by grind⟩
 have iC:=dv_rel (q:=Q B) (C:=9500*((B:Int)*(B:Int))) (D:=9900000*((B:Int)*(B:Int))) (show 0<Q B by omega) (show 0<=(jQ n d B NS).1 by omega) (by omega) (by omega) (by omega) (by omega) (show 0<(gaE n d B o t N).1 by omega) e2 s3 s2 e4 l1 l2
 have gl:(gaG n d B o t N NS).1=zDN (jQ n d B NS).1 (jQ n d B NS).2 (gaE n d B o t N).1 (gaE n d B o t N).2 B:=rfl;have gh:(gaG n d B o t N NS).2=zEX (jQ n d B NS).1 (jQ n d B NS).2 (gaE n d B o t N).1 (gaE n d B o t N).2 B+1:=rfl;rw[<- gl] at iC;have Pv:zEX (jQ n d B NS).1 (jQ n d B NS).2 (gaE n d B o t N).1 (gaE n d B o t N).2 B=(gaG n d B o t N NS).2-1:=by rw[gh];omega
 rw[Pv] at iC;have le:(gaG n d B o t N NS).1<=(gaG n d B o t N NS).2:=iv.le;have half:=gam_half hL a0 a1 hg
 have Qe:Q B<=2*(gaG n d B o t N NS).2:=by
  refine Int.not_lt.1 λ E2=>?_
  have hi:=zNH (B:=B+1) (a:=(Q B,Q B)) (x:=λ _=>1/2) (y:=g) (z:=2*(gaG n d B o t N NS).2) ?_ half ?_
  ·omega
  ·have e:Q (B+1)=2*Q B:=rfl
   refine Has.of_from 0 λ M _=>?_
   have:(Q B:Rat)/(Q (B+1):Rat)=1/2:=by
    rw[e,Ze];have c2:((2:Int):Rat)=2:=rfl;rw[c2];have p:(0:Rat)<2*(Q B:Rat):=by grind
    exact Rat.le_antisymm (zBP p (by grind)) (jR p (by grind))
   simp only[this];exact⟨Rat.le_refl,Rat.le_refl⟩
  ·intro e he
   obtain⟨N1,k1⟩:=iv e he;refine⟨N1,λ M hM=>?_⟩
   have:=(k1 M hM).2
   have e2:((2*(gaG n d B o t N NS).2:Int):Rat)/(Q (B+1):Rat)=((gaG n d B o t N NS).2:Rat)/(Q B:Rat):=by
    have e:Q (B+1)=2*Q B:=rfl;rw[e,Ze,Ze];have c2:((2:Int):Rat)=2:=rfl;rw[c2];have p:(0:Rat)<2*(Q B:Rat):=by grind
    have dq:=rdm (a:=((gaG n d B o t N NS).2:Rat)) qr;refine Rat.le_antisymm (zBP p ?_) (jR p ?_)
    ·have:((gaG n d B o t N NS).2:Rat)/(Q B:Rat)*(2*(Q B:Rat))=2*(((gaG n d B o t N NS).2:Rat)/(Q B:Rat)*(Q B:Rat)):=by grind
     rw[this,dq];exact Rat.le_refl
    ·have:((gaG n d B o t N NS).2:Rat)/(Q B:Rat)*(2*(Q B:Rat))=2*(((gaG n d B o t N NS).2:Rat)/(Q B:Rat)*(Q B:Rat)):=by grind
     rw[this,dq];exact Rat.le_refl
   simp only[];rw[e2];exact this
 have rel:((gaG n d B o t N NS).2-(gaG n d B o t N NS).1)*Q B<=10000000*((B:Int)*(B:Int))*(gaG n d B o t N NS).2:=by
  clear gl gh Pv l1 l2 dv e3 e4 e1 e2 s1 s2 s3;generalize (gaG n d B o t N NS).2=H at *;generalize (gaG n d B o t N NS).1=L0 at *;generalize (B:Int)*(B:Int)=b2 at *;have r1:(H-1-L0)*Q B=(H-L0)*Q B-Q B:=by grind
  have r2:(9500*b2+9900000*b2)*(H-1)=9909500*b2*H-9909500*b2:=by grind
  rw[r1,r2] at iC;have m:=YW (show 6<=90500*b2 by omega) (show 0<=H by omega)
  have r3:10000000*b2*H=9909500*b2*H+90500*b2*H:=by grind
  rw[r3];omega
 have sm:16*((gaG n d B o t N NS).2-(gaG n d B o t N NS).1)<=(gaG n d B o t N NS).2:=by
  have m:=YW big (show 0<=(gaG n d B o t N NS).2 by omega)
  refine Int.le_of_mul_le_mul_right (a:=Q B) ?_ (by omega)
  have r:16*((gaG n d B o t N NS).2-(gaG n d B o t N NS).1)*Q B=16*(((gaG n d B o t N NS).2-(gaG n d B o t N NS).1)*Q B):=by grind
  have r2:16*(10000000*((B:Int)*(B:Int)))*(gaG n d B o t N NS).2=16*(10000000*((B:Int)*(B:Int))*(gaG n d B o t N NS).2):=by grind
  have r3:Q B*(gaG n d B o t N NS).2=(gaG n d B o t N NS).2*Q B:=Int.mul_comm _ _;omega
 have top:=gam_top hL a0 hg
 have lo42:(gaG n d B o t N NS).1<=Q (B+42):=by
  refine zNH iv top (LeN.of_le 0 λ M _=>?_)
  refine kG qr ?_;have e:Q (B+42)=Q B*Q 42:=jD B 42;have VO:Q 42=4398046511104:=rfl;rw[e,VO,Ze];have Vw:((4398046511104:Int):Rat)=4398046511104:=rfl;rw[Vw]
  have i:1/((n:Rat)/(d:Rat))<=2199023255552:=by
   refine zBP a0 ?_;have dd:=jF h.dd;have cdd:((2199023255552:Int):Rat)=2199023255552:=rfl;rw[cdd] at dd;have n1:=jF (show 1<=n by omega)
   have c1:((1:Int):Rat)=1:=rfl;rw[c1] at n1;have r:2199023255552*((n:Rat)/(d:Rat))=2199023255552*(n:Rat)/(d:Rat):=by rw[Rat.div_def,Rat.div_def];grind
   rw[r];exact jR dr (by grind)
  have m:=YX (show 1/((n:Rat)/(d:Rat))+1<=4398046511104 by grind) (YZ qr)
  grind
 refine⟨by omega,le,rel,?_,iv⟩
 have e:Q (B+43)=2*Q (B+42):=rfl;have:=zE (B+42);omega
open Ex
def stN (n d:Int):Nat:=((n-1)/d).toNat
def stP (n d:Int):Nat->Int
 | 0=>1
 | k+1=>stP n d k*(n-((k:Int)+1)*d)
def stQ (d:Int):Nat->Int
 | 0=>1
 | k+1=>stQ d k*d
structure StIn (n d:Int):Prop where
 n0:0<n
 d0:0<d
 dd:d<=2199023255552
 up:n<=201*d
theorem StIn.rest {n d:Int} (h:StIn n d):0<n-(stN n d:Int)*d/\n-(stN n d:Int)*d<=d/\stN n d<=200:=by
 have d0:=h.d0;have n0:=h.n0;have q0:0<=(n-1)/d:=Int.ediv_nonneg (by omega) (by omega)
 have e:((stN n d:Nat):Int)=(n-1)/d:=by unfold stN;omega
 have f1:=Int.ediv_mul_le (n-1) (show d≠0 by omega)
 have f2:=Int.lt_ediv_add_one_mul_self (n-1) d0;have r:((n-1)/d+1)*d=(n-1)/d*d+d:=by grind
 refine⟨by rw[e];omega,by rw[e];omega,?_⟩
 have:(n-1)/d<201:=Int.ediv_lt_of_lt_mul d0 (by have:=h.up;omega)
 omega
theorem StIn.in_ {n d:Int} (h:StIn n d) {B:Nat} (h0:40<=B) (h1:B<=1000):zG2 (n-(stN n d:Int)*d) d B:=⟨h.rest.1,h.rest.2.1,h.dd,h0,h1⟩
theorem st_at {n d:Int} (h:StIn n d) {k:Nat} (hk:k<=stN n d):0<n-(k:Int)*d/\(k<stN n d->d<n-(k:Int)*d):=by
 obtain⟨r1,r2,r3⟩:=h.rest;have d0:=h.d0;have m:=YW (show (k:Int)<=(stN n d:Int) by omega) (show 0<=d by omega)
 refine⟨by omega,λ E2=>?_⟩
 have m2:=YW (show (k:Int)+1<=(stN n d:Int) by omega) (show 0<=d by omega)
 have r:((k:Int)+1)*d=(k:Int)*d+d:=by grind
 omega
theorem zMA {d:Int} (h:0<d) (k:Nat):0<stQ d k:=by
 induction k with
 | zero=>show (0:Int)<1;decide
 | succ k ih=>exact Int.mul_pos ih h
theorem zTU {n d:Int} (h:StIn n d) {k:Nat} (hk:k<=stN n d):0<stP n d k:=by
 induction k with
 | zero=>show (0:Int)<1;decide
 | succ k ih =>
  have:=(st_at h (k:=k+1) hk).1;have e:((k+1:Nat):Int)=(k:Int)+1:=by omega
  rw[e] at this;exact Int.mul_pos (ih (by omega)) this
theorem stP_next (n d:Int) (k:Nat):stP (n+d) d (k+1)=n*stP n d k:=by
 induction k with
 | zero =>
  show 1*(n+d-(((0:Nat):Int)+1)*d)=n*1
  have e:((0:Nat):Int)=0:=rfl;rw[e];omega
 | succ k ih =>
  show stP (n+d) d (k+1)*(n+d-(((k+1:Nat):Int)+1)*d)=n*(stP n d k*(n-((k:Int)+1)*d))
  have e:((k+1:Nat):Int)=(k:Int)+1:=by omega
  rw[ih,e];have r:n+d-((k:Int)+1+1)*d=n-((k:Int)+1)*d:=by grind
  rw[r];grind
theorem zOC {n d:Int} (h:0<d) (h0:0<n):stN (n+d) d=stN n d+1:=by
 unfold stN;have q0:0<=(n-1)/d:=Int.ediv_nonneg (by omega) (by omega)
 have e:(n+d-1)/d=(n-1)/d+1:=by
  have r:n+d-1=(n-1)+1*d:=by omega
  rw[r,Int.add_mul_ediv_right _ _ (by omega)]
 rw[e];omega
def gmV (n d:Int) (g:Nat->Rat) (M:Nat):Rat:=(stP n d (stN n d):Rat)/(stQ d (stN n d):Rat)*g M
structure LsIn (a:Int × Int) (B:Nat) (o1 o2:Int × Int) (l1 l2:Nat->Rat):Prop where
 a0:0<a.1
 al:a.1<=a.2
 g1:IsLog l1 (λ _=>(a.1:Rat)/(Q B:Rat))
 g2:IsLog l2 (λ _=>(a.2:Rat)/(Q B:Rat))
 i1:Iv B o1 l1
 i2:Iv B o2 l2
theorem ls_has {a:Int × Int} {B:Nat} {o1 o2:Int × Int} {l1 l2 g lg:Nat->Rat} (h:LsIn a B o1 o2 l1 l2) (hg:Iv B a g) (hl:IsLog lg g):Iv B (o1.1,o2.2) lg:=by
 have low:LeN l1 lg:=λ e he=>by
  obtain⟨z,hz,kz⟩:=(show LeN (λ _=>(a.1:Rat)/(Q B:Rat)) g from λ e he=>by
   obtain⟨N,k⟩:=hg e he
   exact⟨N,λ M hM=>by have:=(k M hM).1;grind⟩).null
  exact h.g1.le hl hz 0 (λ M _=>kz M) e he
 have up:LeN lg l2:=λ e he=>by
  obtain⟨z,hz,kz⟩:=(show LeN g (λ _=>(a.2:Rat)/(Q B:Rat)) from λ e he=>by
   obtain⟨N,k⟩:=hg e he
   exact⟨N,λ M hM=>(k M hM).2⟩).null
  exact hl.le h.g2 hz 0 (λ M _=>kz M) e he
 intro e he
 obtain⟨N1,k1⟩:=low (e/2) (by grind)
 obtain⟨N2,k2⟩:=up (e/2) (by grind)
 obtain⟨N3,k3⟩:=h.i1 (e/2) (by grind)
 obtain⟨N4,k4⟩:=h.i2 (e/2) (by grind)
 refine⟨N1+N2+N3+N4,λ M hM=>?_⟩
 have x1:=k1 M (by omega)
 have x2:=k2 M (by omega)
 have x3:=(k3 M (by omega)).1
 have x4:=(k4 M (by omega)).2
 exact⟨by grind,by grind⟩
theorem zSE {a:Int × Int} {B:Nat} {o1 o2:Int × Int} {l1 l2:Nat->Rat} (h:LsIn a B o1 o2 l1 l2) {C:Int} (hr:(a.2-a.1)*Q B<=C*a.1):o2.1-o1.2<=C:=by
 have q:=jM B;have a0:(0:Rat)<(a.1:Rat):=by exact_mod_cast h.a0
 have TX:(0:Rat)<(a.1:Rat)/(Q B:Rat):=zK a0 q;obtain⟨δ,hδ⟩:∃ δ:Rat,δ=((a.2-a.1:Int):Rat)/(a.1:Rat):=⟨_,rfl⟩;have dm:δ*(a.1:Rat)=((a.2-a.1:Int):Rat):=by rw[hδ];exact rdm a0
 have d0:0<=δ:=by rw[hδ];exact kG a0 (by have:=jF (show 0<=a.2-a.1 by have:=h.al;omega);have e:((0:Int):Rat)=0:=rfl;rw[e] at this;grind)
 have lg:IsLog (λ M=>l1 M+δ) (λ M=>(a.1:Rat)/(Q B:Rat)*ex δ M):=h.g1.add (zCP δ)
 have le:LeN l2 (λ M=>l1 M+δ):=λ e he=>h.g2.le lg null_zero 2 (λ M hM=>by
  have k:1+δ<=ex δ M:=zMM d0 hM;have m:=YT k (YZ TX)
  have e1:(a.1:Rat)/(Q B:Rat)*(1+δ)=(a.2:Rat)/(Q B:Rat):=by
   have r:(a.1:Rat)/(Q B:Rat)*(1+δ)=((a.1:Rat)+δ*(a.1:Rat))/(Q B:Rat):=by rw[Rat.div_def,Rat.div_def];grind
   rw[r,dm,Rat.intCast_sub]
   congr 1;grind
  grind) e he
 have dC:δ<=(C:Rat)/(Q B:Rat):=by
  refine kG q ?_;rw[hδ];have c:=jF hr;rw[Ze,Ze] at c;have r:((a.2-a.1:Int):Rat)/(a.1:Rat)*(Q B:Rat)=((a.2-a.1:Int):Rat)*(Q B:Rat)/(a.1:Rat):=by rw[Rat.div_def,Rat.div_def];grind
  rw[r];exact kF a0 c
 have k:=zNH (B:=B) (a:=o2) (x:=l2) (y:=λ M=>l1 M+δ) (z:=o1.2+C) h.i2 le (λ e he=>by
  obtain⟨N,kk⟩:=h.i1 e he;refine⟨N,λ M hM=>?_⟩
  have:=(kk M hM).2;rw[Rat.intCast_add,zB0]
  grind)
 omega
structure LgPr (x:Nat->Rat) (B W:Nat) (l u:Int):Prop where
 le:l<=u
 wd:u-l<=Q W
 ab:Abs (l,u) (Q (B+W))
 iv:Iv B (l,u) x
structure LbOk (B:Nat) (o:Int × Int):Prop where
 le:o.1<=o.2
 ab:Abs o (60000*Q B)
 wd:o.2-o.1<=60000000
theorem lb_of {B N N2:Nat} {n' d' c:Int} (hB:16<=B) (o9:B<=1000) (h:yS n' d') (hN:zU (lnT n' d' B) N) (bj:zU (lnT 2 1 B) N2) (k:Nat) (hk:k<=900) (h1 : -(16*(k:Int)+1)<=c) (h2:c<=16*(k:Int)+1):LbOk B (zIF (zM (lnT n' d' B) N) (zM (lnT 2 1 B) N2) c):=by
 obtain⟨b1,b2,b3⟩:=zEC (k:=c) h hB hN bj (16*(k:Int)+1) h1 h2;have q:=zE B;refine⟨b1,b2.mono ?_,?_⟩
 ·have m:=YW (show 16*(k:Int)+1+1<=15000 by omega) (show 0<=4*Q B by omega)
  omega
 ·have m:=Int.mul_le_mul (show 16*(k:Int)+1+1<=14402 by omega) (show 2*(((B:Int)/3+2)*6+2)<=4030 by omega) (by omega) (by omega)
  omega
theorem lgam_ok {n d:Int} {g lp x l1 l2:Nat->Rat} {B:Nat} {a o1 o2 o:Int × Int} (h:StIn n d) (D7:40<=B) (hB:B<=1000) (ha:GaV g B a) (ls:LsIn a B o1 o2 l1 l2) (hp:IsLog lp (λ _=>(stP n d (stN n d):Rat)/(stQ d (stN n d):Rat))) (io:Iv B o lp) (k1:LbOk B o1) (k2:LbOk B o2) (k3:LbOk B o) (hx:IsLog x (gmV n d g)) (yz:∃ c:Rat,0<c/\∃ N:Nat,∀ M,N<=M->c<=g M) {L:Rat->Nat->Rat} (hL:Lns L):LgPr x B 46 (o1.1+o.1) (o2.2+o.2):=by
 obtain⟨lg,mC⟩:=zSC hL ha.iv.bdd yz;have i1:=ls_has ls ha.iv mC;have both:=hp.add mC;have i2:Iv B (zB8 (o1.1,o2.2) o) (λ M=>lg M+lp M):=i1.add io
 have iv:Iv B (o1.1+o.1,o2.2+o.2) x:=by
  have n:=hx.uniq (both.congr_r (r':=gmV n d g) (null_zero.of_eq λ M=>by unfold gmV;grind))
  exact i2.congr (n.of_eq λ M=>by grind)
 have q:=zE B;have big:=zP3 D7 hB;have BB:=Zc (show (0:Int)<=(B:Int) by omega) (show (0:Int)<=(B:Int) by omega)
 have B2:=Int.mul_le_mul (show (B:Int)<=1000 by omega) (show (B:Int)<=1000 by omega) (by omega) (by omega)
 have a0:0<a.1:=by have:=ha.lo;omega
 have al:=ha.le
 have twice:a.2<=2*a.1:=by
  have m:=YW big (show 0<=a.2 by omega)
  have r:=ha.rel
  have s:16*(a.2-a.1)<=a.2:=by
   refine Int.le_of_mul_le_mul_right (a:=Q B) ?_ (by omega)
   have r1:16*(a.2-a.1)*Q B=16*((a.2-a.1)*Q B):=by grind
   have r2:16*(10000000*((B:Int)*(B:Int)))*a.2=16*(10000000*((B:Int)*(B:Int))*a.2):=by grind
   have r3:Q B*a.2=a.2*Q B:=Int.mul_comm _ _;omega
  omega
 have w:=zSE ls (C:=20000000000000) (by
  have m1:=Za twice (show 0<=10000000*((B:Int)*(B:Int)) by omega)
  have m2:=YW (show 10000000*((B:Int)*(B:Int))<=10000000000000 by omega) (show 0<=2*a.1 by omega)
  have:=ha.rel
  omega)
 have VP:Q 46=70368744177664:=rfl;have w1:=k1.wd;have w2:=k2.wd;have w3:=k3.wd;have l3:=k3.le;have le:o1.1+o.1<=o2.2+o.2:=iv.le;refine⟨le,by omega,?_,iv⟩
 have eB:Q (B+46)=Q B*Q 46:=jD B 46;rw[VP] at eB;obtain⟨x1,x2,x3,x4⟩:=k1.ab;obtain⟨y1,y2,y3,y4⟩:=k2.ab;obtain⟨z1,z2,z3,z4⟩:=k3.ab;exact⟨by show _<=o1.1+o.1;omega,by show o1.1+o.1<=_;omega,by show _<=o2.2+o.2;omega,by show o2.2+o.2<=_;omega⟩
theorem dbl {b:Int} (m:Nat):∀ {a:Int},0<a->a<=b->b-a<=(m:Int)->∃ i,a*Q i<=b/\b<2*(a*Q i):=by
 have e0:Q 0=1:=rfl
 induction m with
 | zero =>
  intro a h1 h2 h3
  exact⟨0,by rw[e0];omega,by rw[e0];omega⟩
 | succ m ih =>
  intro a h1 h2 h3
  by_cases h:b<2*a
  ·exact⟨0,by rw[e0];omega,by rw[e0];omega⟩
  ·obtain⟨i,g1,g2⟩:=ih (a:=2*a) (by omega) (by omega) (by omega)
   have e:a*Q (i+1)=2*a*Q i:=by show a*(2*Q i)=_;grind
   exact⟨i+1,by rw[e];exact g1,by rw[e];exact g2⟩
theorem bal_ex {n d:Int} (hn:0<n) (hd:0<d):∃ n' d' k,Bal n d n' d' k:=by
 have e0:Q 0=1:=rfl
 by_cases h:d<=n
 ·obtain⟨i,h1,h2⟩:=dbl (n-d).toNat hd h (by omega)
  exact⟨n,_,_,zQR (j:=0) (i:=i) hn hd (by rw[e0];omega) rfl h1 h2 (Or.inl rfl)⟩
 ·obtain⟨i,h1,h2⟩:=dbl (d-n).toNat hn (Int.le_of_lt (Int.not_le.1 h)) (by omega)
  by_cases h3:n*Q i=d
  ·exact⟨_,d,_,zQR (j:=i) (i:=0) hn hd rfl (by rw[e0];omega) (by omega) (by omega) (Or.inr rfl)⟩
  ·have e:n*Q (i+1)=2*(n*Q i):=by show n*(2*Q i)=_;grind
   exact⟨_,d,_,zQR (j:=i+1) (i:=0) hn hd rfl (by rw[e0];omega) (by omega) (by omega) (Or.inr rfl)⟩
theorem log_ex {n d:Int} (hn:0<n) (hd:0<d):∃ l,IsLog l (λ _=>(n:Rat)/(d:Rat)):=by
 obtain⟨n',d',k,h⟩:=bal_ex hn hd;exact⟨_,zQQ hd h (zFK h.1) zRT⟩
theorem Lns_ex:∃ L,Lns L:=by
 have each:∀ x:Rat,∃ l:Nat->Rat,0<x->IsLog l (λ _=>x):=λ x=>by
  by_cases h:0<x
  ·have hn:0<x.num:=by have:=(Rat.lt_iff (0:Rat) x).1 h;simpa using this
   have hd:(0:Int)<(x.den:Int):=by exact_mod_cast x.den_pos
   obtain⟨l,hl⟩:=log_ex hn hd;have e:(x.num:Rat)/((x.den:Int):Rat)=x:=(Rat.divInt_eq_div _ _).symm.trans (Rat.num_divInt_den x);rw[e] at hl;exact⟨l,λ _=>hl⟩
  ·exact⟨λ _=>0,λ h'=>absurd h' h⟩
 obtain⟨L,hL⟩:=Classical.skolem.1 each;exact⟨L,λ x hx=>hL x hx⟩
def gA (n d:Int):Rat:=((n-(stN n d:Int)*d:Int):Rat)/(d:Rat)
structure zP1 (L G:Rat->Nat->Rat) (X:Int->Int->Nat->Rat):Prop where
 lns:Lns L
 gam:∀ a,0<a->a<=1->Gam1 L a (G a)
 lg:∀ n d,StIn n d->IsLog (X n d) (gmV n d (G (gA n d)))
theorem zJX {n d:Int} (h:StIn n d):0<gA n d/\gA n d<=1:=by
 obtain⟨r1,r2,r3⟩:=h.rest;have d0:(0:Rat)<(d:Rat):=by exact_mod_cast h.d0
 have a0:(0:Rat)<((n-(stN n d:Int)*d:Int):Rat):=by exact_mod_cast r1
 exact⟨zK a0 d0,kF d0 (by have:=jF r2;grind)⟩
theorem gmV_log {L:Rat->Nat->Rat} (hL:Lns L) {n d:Int} (h:StIn n d) {g:Nat->Rat} (hg:Gam1 L (gA n d) g):∃ x,IsLog x (gmV n d g):=by
 have ig:=hg.isGam hL (zJX h).1;have p0:(0:Rat)<(stP n d (stN n d):Rat):=by exact_mod_cast zTU h (Zb _)
 have q0:(0:Rat)<(stQ d (stN n d):Rat):=by exact_mod_cast zMA h.d0 _
 have r0:=zK p0 q0;refine zSC hL ((Bdd.const _).mul ig.bdd) ?_;obtain⟨c,c0,N,hc⟩:=ig.pos;exact⟨_,Rat.mul_pos r0 c0,N,λ M hM=>YT (hc M hM) (YZ r0)⟩
theorem genv_ex:∃ L G X,zP1 L G X:=by
 obtain⟨L,hL⟩:=Lns_ex
 have e1:∀ a:Rat,∃ g:Nat->Rat,0<a->a<=1->Gam1 L a g:=λ a=>by
  by_cases h:0<a/\a<=1
  ·obtain⟨g,hg⟩:=zH7 hL h.1 h.2
   exact⟨g,λ _ _=>hg⟩
  ·exact⟨λ _=>0,λ h1 h2=>absurd ⟨h1,h2⟩ h⟩
 obtain⟨G,hG⟩:=Classical.skolem.1 e1
 have e2:∀ z:Int × Int,∃ x:Nat->Rat,StIn z.1 z.2->IsLog x (gmV z.1 z.2 (G (gA z.1 z.2))):=λ z=>by
  by_cases h:StIn z.1 z.2
  ·obtain⟨x,hx⟩:=gmV_log hL h (hG _ (zJX h).1 (zJX h).2)
   exact⟨x,λ _=>hx⟩
  ·exact⟨λ _=>0,λ h'=>absurd h' h⟩
 obtain⟨X,hX⟩:=Classical.skolem.1 e2;exact⟨L,G,λ n d=>X (n,d),hL,hG,λ n d h=>hX (n,d) h⟩
structure SuV (x:Nat->Rat) (b:Nat) (L H:Int):Prop where
 le:L<=H
 nar:zIW L H (Q b) 4=true
 val:Iv b (L,H) x
theorem sure_su {x:Nat->Rat} {b:Nat} {Pr:Nat->Int->Int->Prop} {L H:Int} (h:zAI b Pr L H) (hp:∀ B lo hi,Pr B lo hi->lo<=hi/\Iv B (lo,hi) x):SuV x b L H:=by
 obtain⟨m,lo,hi,pr,hm,e1,e2,h6⟩:=h;obtain⟨g1,iv⟩:=hp _ _ _ pr;obtain⟨n1,n2⟩:=sure_nar g1 e1 e2 h6;refine⟨n1,n2,?_⟩;have:=Iv.to (B:=b) (m:=m) iv;rw[e1,e2];exact this
open Go.RowKit
attribute [local go_sem ↓] Go.wp_at_zero Go.wp_at_succ
theorem zIX (w:World) (s:Sp) (b:Nat) (lo hi:Int) (h:SpAt w s 250 lo hi) (hb:s.bits=b) (b9:b<=120) (hle:lo<=hi) (hN:zIW lo hi (Q b) 4=true) :
  Calls Tryz.prog 44 #[.agg s.q,.int .i64 4] w λ r w'=>r=.returned (.bool true)/\Below w.heap.size w w' :=
 (zKC w s b 4 lo hi h hb b9 (by omega) hle).mono λ r w' ⟨h1,h2⟩=>⟨by rw[h1];congr 2,h2⟩
theorem gA_next {n d:Int} (h0:0<n) (hd:0<d):gA (n+d) d=gA n d:=by
 unfold gA;rw[zOC hd h0]
 have e:n+d-((stN n d+1:Nat):Int)*d=n-(stN n d:Int)*d:=by
  have:((stN n d+1:Nat):Int)=(stN n d:Int)+1:=by omega
  rw[this];grind
 rw[e]
theorem zNE {n d:Int} (h0:0<n) (hd:0<d) (g:Nat->Rat) (M:Nat):gmV (n+d) d g M=gmV n d g M*((n:Rat)/(d:Rat)):=by
 unfold gmV;rw[zOC hd h0,stP_next];have e:stQ d (stN n d+1)=stQ d (stN n d)*d:=rfl;rw[e,Ze,Ze];have d0:(0:Rat)<(d:Rat):=by exact_mod_cast hd
 have q0:(0:Rat)<(stQ d (stN n d):Rat):=by exact_mod_cast zMA hd _
 generalize (stP n d (stN n d):Rat)=P at *;generalize (stQ d (stN n d):Rat)=Q at *;generalize g M=y
 have k:(n:Rat)*P/(Q*(d:Rat))=P/Q*((n:Rat)/(d:Rat)):=by
  have qd:=Rat.mul_pos q0 d0;refine zY qd ?_;have e1:=rdm (a:=(n:Rat)*P) qd;have e2:=rdm (a:=P) q0;have e3:=rdm (a:=(n:Rat)) d0;have r1:Q*(d:Rat)*((n:Rat)*P/(Q*(d:Rat)))=(n:Rat)*P/(Q*(d:Rat))*(Q*(d:Rat)):=by grind
  have r2:Q*(d:Rat)*(P/Q*((n:Rat)/(d:Rat)))=P/Q*Q*((n:Rat)/(d:Rat)*(d:Rat)):=by grind
  rw[r1,r2,e1,e2,e3];grind
 rw[k];grind
namespace Ex
theorem IsGam.congr {L:Rat->Nat->Rat} {a:Rat} {g g':Nat->Rat} (h:IsGam L a g) (e:∀ M,g' M=g M):IsGam L a g':=by
 have:g'=g:=funext e;rw[this];exact h
end Ex
theorem zRP {L : Rat → Nat → Rat} (hL : Lns L) {n d : Int} {g : Nat → Rat} (h0 : 0 < n) (h1 : n ≤ d) (hg : Gam1 L ((n : Rat) / (d : Rat)) g) (k : Nat) : IsGam L (((n + (k : Int) * d : Int) : Rat) / (d : Rat)) (gmV (n + (k : Int) * d) d g) := by
  have d0 : 0 < d := by omega
  have dr : (0 : Rat) < (d : Rat) := by exact_mod_cast d0
  have nr : (0 : Rat) < (n : Rat) := by exact_mod_cast h0
  induction k with
  | zero =>
    have e : n + ((0 : Nat) : Int) * d = n := by have : ((0 : Nat) : Int) = 0 := rfl
                                                 rw [this]; omega
    rw [e]
    refine (hg.isGam hL (zK nr dr)).congr fun M => ?_
    have s : stN n d = 0 := by unfold stN; rw [Int.ediv_eq_zero_of_lt (by omega) (by omega)]; rfl
    unfold gmV
    rw [s]
    show ((1 : Int) : Rat) / ((1 : Int) : Rat) * g M = g M
    have : ((1 : Int) : Rat) / ((1 : Int) : Rat) = 1 := by decide +kernel
    rw [this]; grind
  | succ k ih =>
    have kd := Int.mul_nonneg (show (0 : Int) ≤ (k : Int) by omega) (show 0 ≤ d by omega)
    have e : n + ((k + 1 : Nat) : Int) * d = n + (k : Int) * d + d := by
      have : ((k + 1 : Nat) : Int) = (k : Int) + 1 := by omega
      rw [this]; grind
    have p : 0 < n + (k : Int) * d := by omega
    have pr' : (0 : Rat) < ((n + (k : Int) * d : Int) : Rat) := by exact_mod_cast p
    have nx := ih.next hL (zK pr' dr)
    rw [e]
    have ea : ((n + (k : Int) * d + d : Int) : Rat) / (d : Rat) = ((n + (k : Int) * d : Int) : Rat) / (d : Rat) + 1 := by
      rw [Rat.intCast_add (n + (k : Int) * d) d, zB0]
      have : (d : Rat) / (d : Rat) = 1 := Rat.le_antisymm (kF dr (by grind)) (kG dr (by grind))
      rw [this]
    rw [ea]
    refine nx.congr fun M => ?_
    rw [zNE p d0]; grind
theorem zD9 {L G:Rat->Nat->Rat} {X:Int->Int->Nat->Rat} (hE:zP1 L G X) {n d:Int} (h:StIn n d):IsGam L ((n:Rat)/(d:Rat)) (gmV n d (G (gA n d))):=by
 obtain⟨r1,r2,r3⟩:=h.rest;have k:=zRP hE.lns r1 r2 (hE.gam _ (zJX h).1 (zJX h).2) (stN n d);have e:n-(stN n d:Int)*d+(stN n d:Int)*d=n:=by omega
 rw[e] at k;exact k
open Ex
namespace Ex
def lw (L:Rat->Nat->Rat) (a x:Rat) (g:Nat->Rat) (M:Nat):Rat:=uG L a x M*(1/g M)
theorem zDQ {g:Nat->Rat} (h:∃ c:Rat,0<c/\∃ N:Nat,∀ M,N<=M->c<=g M):Bdd (λ M=>1/g M)/\Nn (λ M=>1/g M)/\∃ N:Nat,∀ M,N<=M->g M*(1/g M)=1/\0<g M/\0<=1/g M:=by
 obtain⟨c,c0,N,hc⟩:=h
 have one:∀ M,N<=M->g M*(1/g M)=1/\0<g M/\0<=1/g M:=λ M hM=>by
  have g0:0<g M:=by have:=hc M hM;grind
  have:=rdm (a:=1) g0;exact⟨by grind,g0,jR g0 (by grind)⟩
 refine⟨Bdd.of_le (1/c) N λ M hM=>?_,⟨N,λ M hM=>(one M hM).2.2⟩,N,one⟩
 obtain⟨e1,e2,e3⟩:=one M hM;have ic:0<=1/c:=jR c0 (by grind)
 refine⟨by grind,zBP e2 ?_⟩
 have m:=YT (hc M hM) ic;have:=rdm (a:=1) c0;grind
theorem lw_bdd {L:Rat->Nat->Rat} (hL:Lns L) {a x:Rat} {g:Nat->Rat} (ha:0<a) (hx:0<x) (h:IsGam L a g):Bdd (lw L a x g):=(zT3 hL ha hx).mul (zDQ h.pos).1
theorem zSH {L:Rat->Nat->Rat} {a x:Rat} {g:Nat->Rat} (hx:0<x) (h:IsGam L a g):LeN (lw L a x g) (λ _=>1):=by
 obtain⟨i1,i2,N,i3⟩:=zDQ h.pos;exact ((h.lo x hx).bmul i1 i2).trans (LeN.of_le N λ M hM=>by have:=(i3 M hM).1;grind)
theorem lw_far {L:Rat->Nat->Rat} (hL:Lns L) {a x:Rat} {g:Nat->Rat} {k:Rat} (ha:0<a) (gD:1<=x) (fR:2*a<=x+2) (hk:0<k) (N0:Nat) (hs:∀ M,N0<=M->2*k<=x*uS a x M) (h:IsGam L a g):LeN (λ _=>1-1/k) (lw L a x g):=by
 have hx:0<x:=by grind
 obtain⟨i1,i2,N,i3⟩:=zDQ h.pos;have n1:=(zOG hL hx a).bmul (zDR ha (YZ hx));obtain⟨N2,e2⟩:=zPP hL hx a
 have l1:LeN (λ M=>2*k*uE L a x M) (uG L a x):=by
  refine LeN.of_null n1 (N0+N2) λ M hM=>?_
  have u0:=e2 M (by omega)
  have m:=YX (hs M (by omega)) u0
  unfold uG;generalize uE L a x M=ue at *;generalize uS a x M=s at *;generalize pr L a x M=p at *;generalize ex (-x) M=y at *;grind
 have l2:=l1.trans (h.lo x hx);have l3:=h.hi x gD fR;have ik:0<=1/k:=jR hk (by grind)
 have dk:=rdm (a:=1) hk
 have l4:LeN g (λ M=>uG L a x M+1/k*g M):=by
  refine l3.trans (LeN.trans ?_ ((LeN.refl (uG L a x)).add (l2.cmul ik)));refine LeN.of_le 0 λ M _=>?_
  generalize uE L a x M=ue;generalize uG L a x M=u;generalize 1/k=i at *;have:i*(2*k*ue)=2*(i*k*ue):=by grind
  rw[this,dk];grind
 have l5:=l4.bmul i1 i2;refine LeN.trans ?_ (LeN.trans (l5.add (LeN.refl (λ _ => -(1/k)))) ?_)
 ·refine LeN.of_le N λ M hM=>?_
  have:=(i3 M hM).1;grind
 ·refine LeN.of_le N λ M hM=>?_
  have:=(i3 M hM).1;unfold lw;generalize 1/g M=j at *;generalize uG L a x M=u at *;generalize 1/k=i at *;have:(u+i*g M)*j=u*j+i*(g M*j):=by grind
  rw[this,(show g M*j=1 by grind)]
  grind
theorem zNS {F l s:Nat->Rat} (hF:∃ c:Rat,0<c/\∃ N:Nat,∀ M,N<=M->c<=F M) (h:Null (λ M=>F M*l M-s M)):Null (λ M=>l M-s M/F M):=by
 obtain⟨i1,i2,N,i3⟩:=zDQ hF;refine (h.bmul i1).of_eq_from N λ M hM=>?_
 obtain⟨e1,e2,e3⟩:=i3 M hM;have d:=rdm (a:=s M) e2;refine zY (c:=F M) e2 ?_;have r1:F M*(l M-s M/F M)=F M*l M-s M/F M*F M:=by grind
 have r2:F M*((F M*l M-s M)*(1/F M))=(F M*l M-s M)*(F M*(1/F M)):=by grind
 rw[r1,r2,d,e1];grind
def lwY (L:Rat->Nat->Rat) (a x:Rat) (X:Nat->Rat) (M:Nat):Rat:=x-a*L x M+X M
theorem zSG {L:Rat->Nat->Rat} (hL:Lns L) {a x:Rat} (hx:0<x) {X g1:Nat->Rat} (hX:IsLog X g1):Bdd (lwY L a x X):=((Bdd.const x).sub (kD hL hx a)).add hX.1
theorem zSI {L:Rat->Nat->Rat} (hL:Lns L) {a x:Rat} {g X:Nat->Rat} (ha:0<a) (hx:0<x) (h:IsGam L a g) (hX:IsLog X (λ M=>a*g M)):Null (λ M=>Ev (lwY L a x X) M*lw L a x g M-a*uS a x M):=by
 obtain⟨i1,i2,N,i3⟩:=zDQ h.pos;have by_:Bdd (λ M=>x-a*L x M):=(Bdd.const x).sub (kD hL hx a)
 have n1:=(zAO by_ hX.1).bmul (lw_bdd hL ha hx h);have n2:=(hX.2.bmul (zAH by_)).bmul (lw_bdd hL ha hx h);have n3:=(zT6 hL ha hx).bmul ((zAH by_).mul (Bdd.const a));obtain⟨c,c0,N2,hc⟩:=zB9 by_;refine (((n1.neg).add n2).add n3).of_eq_from (N+N2) λ M hM=>?_
 obtain⟨e1,e2,e3⟩:=i3 M (by omega)
 have ep:0<Ev (λ M=>x-a*L x M) M:=by have:=hc M (by omega);grind
 have d:=rdm (a:=uS a x M) ep;have eY:Ev (lwY L a x X) M=Ev (λ M=>x-a*L x M+X M) M:=rfl
 dsimp only
 rw[eY];unfold lw;generalize Ev (λ M=>x-a*L x M+X M) M=v at *
 generalize Ev (λ M=>x-a*L x M) M=y at *
 generalize Ev X M=xx at *;generalize uG L a x M=u at *;generalize uS a x M=s at *;generalize 1/g M=j at *;generalize s/y=t at *;generalize g M=gg at *;clear n1 n2 n3 i1 i2 i3 h hX hc;have r1:y*(a*gg)*(u*j)=a*y*u*(gg*j):=by grind
 have r2:a*(t*y)=a*s:=by rw[d]
 rw[e1] at r1;grind
theorem lw_quot {L:Rat->Nat->Rat} (hL:Lns L) {a x:Rat} {g X:Nat->Rat} (ha:0<a) (hx:0<x) (h:IsGam L a g) (hX:IsLog X (λ M=>a*g M)):Null (λ M=>lw L a x g M-a*uS a x M/Ev (lwY L a x X) M) :=
 zNS (zB9 (zSG hL hx hX)) (zSI hL ha hx h hX)
theorem zO8 {L:Rat->Nat->Rat} (hL:Lns L) {a x:Rat} {g X:Nat->Rat} (ha:0<a) (hx:0<x) (h:IsGam L a g) (hX:IsLog X (λ M=>a*g M)):LeN (λ _=>0) (lwY L a x X):=by
 have bY:=zSG (a:=a) hL hx hX
 have l1:LeN (λ M=>a*uS a x M) (Ev (lwY L a x X)):=by
  refine (LeN.of_eqN (Null.symm (zSI hL ha hx h hX))).trans ?_;have l:=(zSH hx h).bmul (zAH bY) (zPY bY);exact LeN.trans (LeN.of_le 0 λ M _=>by grind) (l.trans (LeN.of_le 0 λ M _=>by grind))
 have l2:LeN (λ _=>1) (Ev (lwY L a x X)):=by
  refine LeN.trans (LeN.of_le 1 λ M hM=>?_) l1
  obtain⟨m,rfl⟩:∃ m,M=m+1:=⟨M-1,by omega⟩
  have f:=zFT ha (YZ hx) m;have k:=YT f (YZ ha);have d:=rdm (a:=1) ha;grind
 obtain⟨z,hz,kz⟩:=l2.null
 intro e he
 exact zK9 (Bdd.const 0) bY hz 1 (λ M hM=>by
  obtain⟨m,rfl⟩:∃ m,M=m+1:=⟨M-1,by omega⟩
  have e0:Ev (λ _=>(0:Rat)) (m+1)=1:=E_zero m
  rw[e0];exact kz (m+1)) e he
end Ex
end Go.Proofs.YtgmnknmjainabacGreat
namespace Go.Proofs.YtgmnknmjainabacGreat.Ex
theorem zMW {L:Rat->Nat->Rat} (hL:Lns L) {a b:Rat} (ha:0<a) (hb:0<b):∃ c:Rat,0<c/\∃ N:Nat,∀ M,N<=M->c<=bJ L a b M:=by
 obtain⟨c1,p1,N1,h1⟩:=zB9 (kD hL (show (0:Rat)<1/2 by grind) a)
 obtain⟨c2,p2,N2,h2⟩:=zB9 (kD hL (show (0:Rat)<1/2 by grind) b)
 obtain⟨N3,h3⟩:=zQG hL hb ha (show (0:Rat)<1/2 by grind) (by grind)
 have ip:0<1/a:=zK (by grind) ha
 refine⟨c1*c2*(1/a),Rat.mul_pos (Rat.mul_pos p1 p2) ip,N1+N2+N3+1,λ M hM=>?_⟩
 obtain⟨m,rfl⟩:∃ m,M=m+1:=⟨M-1,by omega⟩
 have f:=zMZ ha hb (show (0:Rat)<=1/2 by grind) m
 have a1:c1<=pr L a (1/2) (m+1):=h1 (m+1) (by omega)
 have a2:c2<=pr L b (1/2) (m+1):=h2 (m+1) (by omega)
 have a3:=h3 (m+1) (by omega)
 have e:(1:Rat)-1/2=1/2:=by grind
 have b':c1*c2<=bP L a b (1/2) (m+1):=by
  unfold bP;rw[e];exact Rat.le_trans (YX a1 (YZ p2)) (YT a2 (by grind))
 have c0:=YV (YZ p1) (YZ p2);have k:c1*c2*(1/a)<=bH L a b (1/2) (m+1):=Rat.le_trans (YX b' (YZ ip)) (YT f (by grind))
 unfold bJ;grind
def bv (L:Rat->Nat->Rat) (a b x:Rat) (M:Nat):Rat:=bH L a b x M*(1/bJ L a b M)
theorem bv_bdd {L:Rat->Nat->Rat} (hL:Lns L) {a b x:Rat} (ha:0<a) (hb:0<b) (hx:0<x) (h1:x<1):Bdd (bv L a b x):=(zQF hL ha hb hx h1).mul (zDQ (zMW hL ha hb)).1
theorem bv_nn {L:Rat->Nat->Rat} (hL:Lns L) {a b x:Rat} (ha:0<a) (hb:0<b) (hx:0<x) (h1:x<1):Nn (bv L a b x):=(zQG hL ha hb hx h1).mul (zDQ (zMW hL ha hb)).2.1
theorem zQW {L:Rat->Nat->Rat} (hL:Lns L) {a b x:Rat} (ha:0<a) (hb:0<b) (hx:0<x) (h1:x<1):Null (λ M=>bv L a b x M-(1-bv L b a (1-x) M)):=by
 obtain⟨i1,i2,N,i3⟩:=zDQ (zMW hL ha hb);refine ((bJ_at hL ha hb hx h1).bmul i1).of_eq_from N λ M hM=>?_
 obtain⟨e1,e2,e3⟩:=i3 M hM;unfold bv;rw[zQJ L b a M];generalize 1/bJ L a b M=j at *;generalize bJ L a b M=B at *;generalize bH L a b x M=u at *;generalize bH L b a (1-x) M=v at *;have:(u+v-B)*j=u*j+v*j-B*j:=by grind
 rw[this,e1];grind
theorem bv_one {L:Rat->Nat->Rat} (hL:Lns L) {a b x:Rat} (ha:0<a) (hb:0<b) (hx:0<x) (h1:x<1):LeN (bv L a b x) (λ _=>1):=by
 obtain⟨N,hN⟩:=bv_nn hL hb ha (show 0<1-x by grind) (by grind)
 exact LeN.of_null (zQW hL ha hb hx h1) N λ M hM=>by have:=hN M hM;grind
theorem pr_inv {L:Rat->Nat->Rat} (hL:Lns L) {x y:Rat} (hx:0<x) (hy:0<y) (e:x*y=1) (c:Rat):Null (λ M=>Ev (λ M=>c*L y M) M*pr L c x M-1):=by
 have l:=(hL y hy).add (hL x hx);have e':(λ (_:Nat)=>y*x)=λ _=>1:=by funext _;grind
 rw[e'] at l;have n:=isLog_one.uniq l;have a:=zAO (kD hL hy c) (kD hL hx c);have k:=zD3 (x:=λ M=>c*L y M+c*L x M) (y:=λ _=>0) ((kD hL hy c).add (kD hL hx c)) (Bdd.const 0) ((n.bmul (Bdd.const (-c))).of_eq λ M=>by grind)
 have z:Null (λ M=>Ev (λ _=>(0:Rat)) M-1):=null_zero.of_eq_from 1 λ M hM=>by
  obtain⟨m,rfl⟩:∃ m,M=m+1:=⟨M-1,by omega⟩
  have e0:Ev (λ _=>(0:Rat)) (m+1)=1:=E_zero m
  rw[e0];grind
 exact ((a.add k).add z).of_eq λ M=>by unfold pr;grind
def bY (L:Rat->Nat->Rat) (a b y z:Rat) (X:Nat->Rat) (M:Nat):Rat:=a*L y M+b*L z M+(L a M+X M)
theorem bY_bdd {L:Rat->Nat->Rat} (hL:Lns L) {a b y z:Rat} (ha:0<a) (hy:0<y) (hz:0<z) {X J:Nat->Rat} (hX:IsLog X J):Bdd (bY L a b y z X):=((kD hL hy a).add (kD hL hz b)).add ((hL a ha).1.add hX.1)
theorem zQV {L:Rat->Nat->Rat} (hL:Lns L) {a b x y z:Rat} {X:Nat->Rat} (ha:0<a) (hb:0<b) (hx:0<x) (h1:x<1) (hy:x*y=1) (hz:(1-x)*z=1) (y0:0<y) (z0:0<z) (hX:IsLog X (bJ L a b)):Null (λ M=>Ev (bY L a b y z X) M*bv L a b x M-a*bS a b x M):=by
 have x1:0<1-x:=by grind
 obtain⟨i1,i2,N,i3⟩:=zDQ (zMW hL ha hb);have l:=(hL a ha).add hX;have b1:=kD hL y0 a;have b2:=kD hL z0 b;have s1:=zAO b1 b2;have s2:=zAO (b1.add b2) l.1;have bb:=bv_bdd hL ha hb hx h1;have n1:=s2.neg.bmul bb;have n2:=(s1.neg.bmul (zAH l.1)).bmul bb;have n3:=(l.2.bmul ((zAH b1).mul (zAH b2))).bmul bb;have p1:=(pr_inv hL hx y0 hy a).bmul (((zAH b2).mul (kN hL x1 b)).mul ((Bdd.const a).mul (zE7 ha hb (YZ hx) h1)));have p2:=(pr_inv hL x1 z0 hz b).bmul ((Bdd.const a).mul (zE7 ha hb (YZ hx) h1));refine (((n1.add n2).add n3).add (p1.add p2)).of_eq_from N λ M hM=>?_
 obtain⟨e1,e2,e3⟩:=i3 M hM;have eY:Ev (bY L a b y z X) M=Ev (λ M=>a*L y M+b*L z M+(L a M+X M)) M:=rfl
 rw[eY];unfold bv bH bP
 dsimp only
 generalize Ev (λ M=>a*L y M+b*L z M+(L a M+X M)) M=v at *
 generalize Ev (λ M=>a*L y M+b*L z M) M=v2 at *
 generalize Ev (λ M=>a*L y M) M=v3 at *
 generalize Ev (λ M=>b*L z M) M=v4 at *
 generalize Ev (λ M=>L a M+X M) M=v5 at *
 generalize pr L a x M=p at *;generalize pr L b (1-x) M=r at *;generalize bS a b x M=s at *;generalize 1/bJ L a b M=j at *;generalize bJ L a b M=B at *;clear n1 n2 n3 p1 p2 s1 s2 bb l b1 b2 i1 i2 i3 hX eY;have r1:v3*v4*(a*B)*(p*r*s*j)=a*(v3*p)*(v4*r)*s*(B*j):=by grind
 rw[e1] at r1;grind
theorem bv_quot {L:Rat->Nat->Rat} (hL:Lns L) {a b x y z:Rat} {X:Nat->Rat} (ha:0<a) (hb:0<b) (hx:0<x) (h1:x<1) (hy:x*y=1) (hz:(1-x)*z=1) (y0:0<y) (z0:0<z) (hX:IsLog X (bJ L a b)):Null (λ M=>bv L a b x M-a*bS a b x M/Ev (bY L a b y z X) M) :=
 zNS (zB9 (bY_bdd hL ha y0 z0 hX)) (zQV hL ha hb hx h1 hy hz y0 z0 hX)
theorem zQP {L:Rat->Nat->Rat} (hL:Lns L) {a b x y z:Rat} {X:Nat->Rat} (ha:0<a) (hb:0<b) (hx:0<x) (h1:x<1) (hy:x*y=1) (hz:(1-x)*z=1) (y0:0<y) (z0:0<z) (hX:IsLog X (bJ L a b)):LeN (λ _=>0) (bY L a b y z X):=by
 have bY:=bY_bdd (b:=b) hL ha y0 z0 hX
 have l1:=(LeN.of_eqN (Null.symm (zQV hL ha hb hx h1 hy hz y0 z0 hX))).trans (by
  have l:=(bv_one hL ha hb hx h1).bmul (zAH bY) (zPY bY)
  exact LeN.trans (LeN.of_le 0 λ M _=>by grind) (l.trans (LeN.of_le 0 λ M _=>by show 1*Ev (Ex.bY L a b y z X) M<=Ev (Ex.bY L a b y z X) M;grind)))
 have l2:LeN (λ _=>1) (Ev (Ex.bY L a b y z X)):=by
  refine LeN.trans (LeN.of_le 1 λ M hM=>?_) l1
  obtain⟨m,rfl⟩:∃ m,M=m+1:=⟨M-1,by omega⟩
  have f:=zMZ ha hb (YZ hx) m;have k:=YT f (YZ ha);have d:=rdm (a:=1) ha;grind
 obtain⟨z',QI,kz⟩:=l2.null
 intro e he
 exact zK9 (Bdd.const 0) bY QI 1 (λ M hM=>by
  obtain⟨m,rfl⟩:∃ m,M=m+1:=⟨M-1,by omega⟩
  have e0:Ev (λ _=>(0:Rat)) (m+1)=1:=E_zero m
  rw[e0];exact kz (m+1)) e he
theorem bJ_log {L:Rat->Nat->Rat} (hL:Lns L) {a b:Rat} {ga gb gab X Y Z:Nat->Rat} (ha:0<a) (hb:0<b) (h1:IsGam L a ga) (h2:IsGam L b gb) (h3:IsGam L (a+b) gab) (lx:IsLog X ga) (ly:IsLog Y gb) (lz:IsLog Z gab):IsLog (λ M=>X M+Y M-Z M) (bJ L a b):=by
 obtain⟨i1,i2,N,i3⟩:=zDQ h3.pos;have lz':=lz.neg (s:=λ M=>1/gab M) i1 N (λ M hM=>by have:=(i3 M hM).1;grind)
 have l:=(lx.add ly).add lz';have e:(λ M=>X M+Y M + -Z M)=λ M=>X M+Y M-Z M:=by funext M;grind
 rw[e] at l;refine l.congr_r (((zOL hL ha hb h1 h2 h3).bmul i1).neg.of_eq_from N λ M hM=>?_)
 obtain⟨e1,e2,e3⟩:=i3 M hM;generalize 1/gab M=j at *;generalize bJ L a b M=B at *;have:(B*gab M-ga M*gb M)*j=B*(gab M*j)-ga M*gb M*j:=by grind
 rw[this,e1];grind
end Go.Proofs.YtgmnknmjainabacGreat.Ex
namespace Go.Proofs.YtgmnknmjainabacGreat
open Ex
structure zPR (a:Int × Int) (u d:Nat->Int):Prop where
 ok:zP6 u d
 a0:0<a.1
 al:a.1<=a.2
 aw:a.2-a.1<=1
 mono:∀ n,d (n+2)<=u (n+2)->d (n+1)<=u (n+1)
theorem zAF {a:Int × Int} {u d:Nat->Int} (h:zPR a u d) (k:Nat):0<=(riT a u d k).1/\(riT a u d k).1<=(riT a u d k).2:=⟨zAT h.ok (by have:=h.a0;omega) k,zEM h.ok h.al k⟩
theorem se_rise {a:Int × Int} {u d:Nat->Int} (h:zPR a u d) (k:Nat) (hk:d (k+1)<=u (k+1)):a.2<=(riT a u d k).2:=by
 induction k with
 | zero=>exact Int.le_refl _
 | succ k ih =>
  have nI:=h.mono k hk;have i:=ih nI;obtain⟨e1,e2⟩:=zAF h k;have p:=h.ok.d0 (k+1);have c:=zEY ((riT a u d k).2*u (k+1)) p;have m:=Za nI (show 0<=(riT a u d k).2 by omega)
  refine Int.le_trans i ?_;refine Int.le_of_mul_le_mul_right (a:=d (k+1)) ?_ p;exact Int.le_trans m c
theorem zN8 {a:Int × Int} {u d:Nat->Int} (h:zPR a u d) (k:Nat):((riT a u d k).2-(riT a u d k).1)*a.2<=(1+2*(k:Int))*((riT a u d k).2+a.2):=by
 have a0:=h.a0;have al:=h.al;obtain⟨e1,e2⟩:=zAF h k;have w:=zN5 h.ok (show 0<=a.1 by omega) al (by omega) h.aw (λ k hk=>se_rise h k hk) k
 refine Int.le_trans w (Za ?_ (by omega))
 split<;>omega
theorem zFP {a:Int × Int} {u d:Nat->Int} (h:zPR a u d) (k:Nat):((jE (riT a u d) k).2-(jE (riT a u d) k).1)*a.2<=(1+2*(k:Int))*((jE (riT a u d) k).2+((k:Int)+1)*a.2)/\a.2<=(jE (riT a u d) k).2/\a.1<=(jE (riT a u d) k).1:=by
 have a0:=h.a0;have al:=h.al;have a2:0<=a.2:=by omega
 induction k with
 | zero =>
  have w:=zN8 h 0;refine⟨?_,Int.le_refl _,Int.le_refl _⟩
  show ((riT a u d 0).2-(riT a u d 0).1)*a.2<=(1+2*((0:Nat):Int))*((riT a u d 0).2+(((0:Nat):Int)+1)*a.2)
  have e:((0:Nat):Int)=0:=rfl;rw[e] at w ⊢;generalize ((riT a u d 0).2-(riT a u d 0).1)*a.2=z at *;omega
 | succ k ih =>
  obtain⟨i1,i3,i4⟩:=ih;have w:=zN8 h (k+1);obtain⟨e1,e2⟩:=zAF h (k+1);have Hw:(jE (riT a u d) (k+1)).1=(jE (riT a u d) k).1+(riT a u d (k+1)).1:=rfl;have Hz:(jE (riT a u d) (k+1)).2=(jE (riT a u d) k).2+(riT a u d (k+1)).2:=rfl;have ec:((k+1:Nat):Int)=(k:Int)+1:=by omega
  refine⟨?_,by omega,by omega⟩
  rw[Hw,Hz];rw[ec] at w ⊢;generalize (jE (riT a u d) k).2=S2 at *;generalize (jE (riT a u d) k).1=S1 at *;generalize (riT a u d (k+1)).2=T2 at *;generalize (riT a u d (k+1)).1=T1 at *;generalize a.2=A at *;have k0:(0:Int)<=(k:Int):=by omega
  have m1:=Zc k0 a2;have r0:((k:Int)+1)*A=(k:Int)*A+A:=by grind
  have m2:(1+2*(k:Int))*(S2+((k:Int)+1)*A)<=(1+2*((k:Int)+1))*(S2+((k:Int)+1)*A):=YW (by omega) (by omega)
  have r1:(S2+T2-(S1+T1))*A=(S2-S1)*A+(T2-T1)*A:=by grind
  have r2:(1+2*((k:Int)+1))*(S2+T2+((k:Int)+1+1)*A)=(1+2*((k:Int)+1))*(S2+((k:Int)+1)*A)+(1+2*((k:Int)+1))*(T2+A):=by grind
  rw[r1,r2];omega
theorem se_ok {a:Int × Int} {u d:Nat->Int} (h:zPR a u d) (N:Nat):a.1<=(yC (riT a u d) N).1/\(yC (riT a u d) N).1<=(yC (riT a u d) N).2/\((yC (riT a u d) N).2-(yC (riT a u d) N).1)*a.2<=((1+2*(N:Int))*((N:Int)+2)+9)*(yC (riT a u d) N).2:=by
 obtain⟨w1,w3,w4⟩:=zFP h N;have a0:=h.a0;have al:=h.al;have e1:(yC (riT a u d) N).1=(jE (riT a u d) N).1+0:=rfl;have e2:(yC (riT a u d) N).2=(jE (riT a u d) N).2+9:=rfl;have sl:(jE (riT a u d) N).1<=(jE (riT a u d) N).2:=zGK (λ k=>(zAF h k).2) N
 refine⟨by omega,by omega,?_⟩
 rw[e1,e2];generalize (jE (riT a u d) N).2=S2 at *;generalize (jE (riT a u d) N).1=S1 at *;generalize a.2=A at *
 have m1:(1+2*(N:Int))*(S2+((N:Int)+1)*A)<=(1+2*(N:Int))*(((N:Int)+2)*(S2+9)):=Za (by
  have a:=Za (show A<=S2+9 by omega) (show 0<=(N:Int)+1 by omega)
  have e:((N:Int)+2)*(S2+9)=((N:Int)+1)*(S2+9)+(S2+9):=by grind
  omega) (by omega)
 have r:(S2+9-(S1+0))*A=(S2-S1)*A+9*A:=by grind
 have r2:((1+2*(N:Int))*((N:Int)+2)+9)*(S2+9)=(1+2*(N:Int))*(((N:Int)+2)*(S2+9))+9*(S2+9):=by grind
 rw[r,r2];omega
theorem se_hi1 {a:Int × Int} {u d:Nat->Int} (h:zPR a u d) {H c:Nat} (h0:a.2<=Q H) (hc:∀ k,u (k+1)<=Q c*d (k+1)) (k:Nat):(riT a u d k).2<=Q (H+c*k):=by
 induction k with
 | zero=>exact h0
 | succ k ih =>
  obtain⟨e1,e2⟩:=zAF h k;have m:=zJN (x:=(riT a u d k).2) (u:=u (k+1)) (v:=d (k+1)) (c:=Q c) (h.ok.d0 (k+1)) (by omega) (hc k)
  have e:Q (H+c*(k+1))=Q c*Q (H+c*k):=by rw[<- jD];congr 1;rw[Nat.mul_succ];omega
  have m2:=Za ih (show 0<=Q c by have:=zE c;omega)
  show -(-((riT a u d k).2*u (k+1))/d (k+1))<=_
  omega
theorem zTN {a:Int × Int} {u d:Nat->Int} (h:zPR a u d) {H c turn:Nat} (h0:a.2<=Q H) (hH:2<=H) (hc:∀ k,u (k+1)<=Q c*d (k+1)) (iL:∀ k,turn<=k->4*u (k+1)<=3*d (k+1)) (k:Nat):(riT a u d k).2<=Q (H+c*turn):=by
 by_cases hk:k<=turn
 ·exact Int.le_trans (se_hi1 h h0 hc k) (zH (Nat.add_le_add_left (Nat.mul_le_mul_left c hk) H))
 ·obtain⟨j,rfl⟩:∃ j,k=turn+j:=⟨k-turn,by omega⟩
  have big:3<=Q (H+c*turn):=by have:=zH (show 2<=H+c*turn by omega);have:Q 2=4:=rfl;omega
  clear hk
  induction j with
  | zero=>exact se_hi1 h h0 hc _
  | succ j ih =>
   obtain⟨e1,e2⟩:=zAF h (turn+j);have f:=zM7 (x:=(riT a u d (turn+j)).2) (h.ok.d0 (turn+j+1)) (by omega) (iL (turn+j) (by omega))
   have e:(riT a u d (turn+(j+1))).2 = -(-((riT a u d (turn+j)).2*u (turn+j+1))/d (turn+j+1)):=rfl;rw[e];omega
theorem zTO {a:Int × Int} {u d:Nat->Int} (h:zPR a u d) {H c turn:Nat} (h0:a.2<=Q H) (hH:2<=H) (hc:∀ k,u (k+1)<=Q c*d (k+1)) (iL:∀ k,turn<=k->4*u (k+1)<=3*d (k+1)):∃ N,N<=turn+3*(H+c*turn+1)/\yK (riT a u d) turn N :=
 zL6 h.ok (show 0<=a.1 by have:=h.a0;omega) h.al iL (by
  have a':=zTN h h0 hH hc iL turn;have e:Q (H+c*turn+1)=2*Q (H+c*turn):=rfl;have:=zE (H+c*turn)
  omega)
theorem zTM {a:Int × Int} {u d:Nat->Int} (h:zPR a u d) {H c turn:Nat} (h0:a.2<=Q H) (hH:4<=H) (hc:∀ k,u (k+1)<=Q c*d (k+1)) (iL:∀ k,turn<=k->4*u (k+1)<=3*d (k+1)) (k:Nat) (hk:k<=1000000):(jE (riT a u d) k).2+9<=Q (H+c*turn+21):=by
 obtain⟨F,hF⟩:∃ F,F=H+c*turn:=⟨_,rfl⟩;have hi:∀ j,(riT a u d j).2<=Q F:=λ j=>by rw[hF];exact zTN h h0 (by omega) hc iL j
 have s:∀ j:Nat,(jE (riT a u d) j).2<=((j:Int)+1)*Q F:=λ j=>by
  induction j with
  | zero =>
   have:=hi 0
   show (riT a u d 0).2<=(((0:Nat):Int)+1)*Q F
   have e:((0:Nat):Int)=0:=rfl;rw[e];omega
  | succ j ih =>
   have:=hi (j+1);have e:(jE (riT a u d) (j+1)).2=(jE (riT a u d) j).2+(riT a u d (j+1)).2:=rfl;have ec:((j+1:Nat):Int)+1=((j:Int)+1)+1:=by omega
   have r:(((j:Int)+1)+1)*Q F=((j:Int)+1)*Q F+Q F:=by grind
   rw[e,ec,r];omega
 have a':=s k;have q:=zE F;have big:9<=Q F:=by have:=zH (show 4<=F by omega);have:Q 4=16:=rfl;omega
 have m:=YW (show (k:Int)+1<=1000001 by omega) (show 0<=Q F by omega)
 have e:Q (F+21)=Q F*Q 21:=jD F 21;have rM:Q 21=2097152:=rfl;rw[rM] at e;rw[<- hF];omega
end Go.Proofs.YtgmnknmjainabacGreat
