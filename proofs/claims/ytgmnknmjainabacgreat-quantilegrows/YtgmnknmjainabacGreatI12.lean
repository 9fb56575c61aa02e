/-
  Its own texts.
-/
import Derived.Deep.RegionHeld3
import Derived.Test.YtgmnknmjainabacGreatI11
set_option maxRecDepth 100000
set_option maxHeartbeats 40000000
set_option linter.unnecessarySimpa false
set_option linter.unusedSimpArgs false
set_option linter.unusedVariables false
namespace Go.Proofs.YtgmnknmjainabacGreat
open Ex
structure ErIn (n d:Int) (x:Nat->Rat):Prop where
 n0:0<=n
 d0:0<d
 rt:RtOf ((n:Rat)/(d:Rat)) x
 up:n<152*d
 low:n=0\/d<=Q 76*n
def erF (n d:Int) (B:Nat):Int × Int:=yF B (ofI n d B)
theorem root_rtS {B:Nat} {a:Int × Int} {y:Rat} {x:Nat->Rat} (hx:RtOf y x) (h:Iv B a (λ _=>y)) {r t:Int} (iw:0<=r) (hr:r*r<=a.1*Q B) (KA:0<=t) (ht:a.2*Q B<=t*t):Iv B (r,t) x:=by
 have q:=jH B;obtain⟨h1,h2⟩:=Has.of_const h;have qq:(0:Rat)<(Q B:Rat)*(Q B:Rat):=Rat.mul_pos q q
 have pos:∀ y:Int,0<=y->(0:Rat)<=(y:Rat)/(Q B:Rat):=λ y hy=>jW q (by
  have:(0:Rat)<=(y:Rat):=by exact_mod_cast hy
  grind)
 have mid:∀ y:Int,(y:Rat)/(Q B:Rat)*((Q B:Rat)*(Q B:Rat))=(y:Rat)*(Q B:Rat):=λ y=>by
  rw[<- Rat.mul_assoc,rdm (a:=(y:Rat)) q]
 have l1:((r:Rat)/(Q B:Rat))*((r:Rat)/(Q B:Rat))<=y:=by
  refine Rat.le_trans (Rat.le_of_mul_le_mul_right (c:=(Q B:Rat)*(Q B:Rat)) ?_ qq) h1;rw[zTL,mid];have:=zZ hr;rw[YG,YG] at this;exact this
 have l2:y<=((t:Rat)/(Q B:Rat))*((t:Rat)/(Q B:Rat)):=by
  refine Rat.le_trans h2 (Rat.le_of_mul_le_mul_right (c:=(Q B:Rat)*(Q B:Rat)) ?_ qq);rw[zTL,mid];have:=zZ ht;rw[YG,YG] at this;exact this
 intro e he
 obtain⟨N1,k1⟩:=hx.ge (pos r iw) l1 e he;obtain⟨N2,k2⟩:=hx.le (pos t KA) l2 e he;exact⟨N1+N2,λ M hM=>⟨by have:=k1 M (by omega);simp only[] at this ⊢;grind,k2 M (by omega)⟩⟩
theorem ErIn.of_lo {n d:Int} {x:Nat->Rat} (h:ErIn n d x) (B:Nat):0<=(ofI n d B).1:=by
 have:=zE B;exact Int.ediv_nonneg (YF h.n0 (by omega)) (by have:=h.d0;omega)
theorem rtZ_zero:rtZ 0=0:=rfl
theorem rtU_zero:rtU 0=0:=rfl
theorem zMX {n d:Int} {x:Nat->Rat} (h:ErIn n d x) (B:Nat):0<=(erF n d B).1/\(erF n d B).1<=(erF n d B).2/\(erF n d B).2<=Q (B+4)/\(erF n d B).2-(erF n d B).1+1<=Q 42/\Iv B (erF n d B) x:=by
 have q:=zE B;have a0:=h.of_lo B;have al:=yA (n:=n) h.d0 B;obtain⟨r0,r1,r2,r3⟩:=zDH (B:=B) a0 al
 have up:(ofI n d B).2<=152*Q B:=by
  have m:=YA (show n<=152*d by have:=h.up;omega) (show 0<=Q B by omega)
  have : -(152*Q B) <= -(n*Q B)/d:=Int.le_ediv_of_mul_le h.d0 (by
   have e : -(152*Q B)*d = -(152*d*Q B):=by grind
   omega)
  show -(-(n*Q B)/d)<=_
  omega
 have hi:=zNZ (B:=B) (a:=ofI n d B) (c:=13) (by omega) (by omega) (by omega)
 refine⟨r0,r1,?_,?_,root_rtS h.rt (Iv.of B (n:=n) h.d0) r0 r2 (by have:=r0;show 0<=(yF B (ofI n d B)).2;omega) r3⟩
 ·have e:Q (B+4)=16*Q B:=by rw[jF];have:Q 4=16:=rfl;rw[this];omega
  show (yF B (ofI n d B)).2<=_
  omega
 ·have q38:0<Q 38:=zE 38
  have SC:Q 42=16*Q 38:=by rw[show 42=4+38 by rfl,jF];rfl
  have q76:Q 76=Q 38*Q 38:=by rw[<- jF]
  rcases h.low with hz|hz
  ·have e:ofI n d B=(0,0):=by unfold ofI;rw[hz];simp
   show (yF B (ofI n d B)).2-(yF B (ofI n d B)).1+1<=_
   rw[e];unfold yF;simp only[Int.zero_mul,rtZ_zero,rtU_zero];rw[SC];omega
  ·have c1:n*Q B<=(ofI n d B).2*d:=by
    have:=zDY (n*Q B) h.d0;exact this
   have c2:Q B<=Q 76*(ofI n d B).2:=by
    refine Int.le_of_mul_le_mul_right (a:=d) ?_ h.d0;have m1:=YA hz (show 0<=Q B by omega)
    have m2:=YD c1 (show 0<=Q 76 by have:=zE 76;omega)
    have e1:Q B*d=d*Q B:=Int.mul_comm _ _;have e2:Q 76*(ofI n d B).2*d=Q 76*((ofI n d B).2*d):=Int.mul_assoc _ _ _;have e3:Q 76*n*Q B=Q 76*(n*Q B):=Int.mul_assoc _ _ _;rw[e1,e2];rw[e3] at m1;exact Int.le_trans m1 m2
   have c3:Q B<=Q 38*(yF B (ofI n d B)).2:=sqI_le (by omega) (YF (by omega) (by show 0<=(yF B (ofI n d B)).2;omega)) (by
    have m1:=YA c2 (show 0<=Q B by omega)
    have m2:=YD r3 (show 0<=Q 76 by have:=zE 76;omega)
    have e1:Q 38*(yF B (ofI n d B)).2*(Q 38*(yF B (ofI n d B)).2)=Q 76*((yF B (ofI n d B)).2*(yF B (ofI n d B)).2):=by rw[q76];grind
    have e2:Q 76*(ofI n d B).2*Q B=Q 76*((ofI n d B).2*Q B):=Int.mul_assoc _ _ _;rw[e1];rw[e2] at m1
    exact Int.le_trans m1 m2)
   have:=zHH (B:=B) (W:=1) (g:=Q 38) a0 al (yB h.d0 B) (by omega) c3
   show (yF B (ofI n d B)).2-(yF B (ofI n d B)).1+1<=_
   have q3:4<=Q 38:=by have:=zJ (show 2<=38 by omega);have:Q 2=4:=rfl;omega
   rw[SC];omega
def erT (n d:Int) (B:Nat):Nat->Int × Int:=riT (erF n d B) (erU n) (erD d)
theorem sum_hi {f:Nat->Int × Int} {U:Int} (h:∀ n,(f n).2<=U) (n:Nat):(jE f n).2<=((n:Int)+1)*U:=by
 induction n with
 | zero=>have:=h 0;show (f 0).2<=_;omega
 | succ n ih =>
  have:=h (n+1)
  show (jE f n).2+(f (n+1)).2<=_
  have e:(((n+1:Nat):Int)+1)*U=((n:Int)+1)*U+U:=by push_cast;grind
  omega
theorem sum_lo {f:Nat->Int × Int} (h:∀ n,0<=(f n).1) (n:Nat):0<=(jE f n).1:=by
 induction n with
 | zero=>exact h 0
 | succ n ih=>have:=h (n+1);show 0<=(jE f n).1+(f (n+1)).1;omega
theorem erT_set {n d:Int} {x:Nat->Rat} (h:ErIn n d x) (B:Nat):∃ N,N<=3*B+8523/\yO (erT n d B) (zA4 n d) N:=by
 obtain⟨f1,f2,f3,f4,f5⟩:=zMX h B;have hh:=er_hi (B:=B) h.n0 h.d0 h.up f1 f2 f3 (zA4 n d);have ht:=zH0 h.n0 h.d0 h.up;obtain⟨N,n1,n2⟩:=zL5 (turn:=zA4 n d) (H:=B+2740) (zOU h.n0 h.d0) f1 f2 (λ k hk=>er_34 h.n0 h.d0 k hk) (by omega)
 have e:3*(B+2740)=3*B+8220:=Nat.mul_add 3 B 2740;rw[e] at n1;refine⟨N,Nat.le_trans n1 (Nat.le_trans (Nat.add_le_add_right ht _) (Nat.le_of_eq ?_)),n2⟩;rw[Nat.add_comm 303,Nat.add_assoc]
theorem zCO {n d:Int} {x:Nat->Rat} (h:ErIn n d x) (B k:Nat):0<=(erT n d B k).1/\(erT n d B k).1<=(erT n d B k).2/\(erT n d B k).2<=Q (B+2740)/\(erT n d B k).2-(erT n d B k).1<=Q 2780:=by
 obtain⟨f1,f2,f3,f4,f5⟩:=zMX h B;exact⟨zAL (zOU h.n0 h.d0) f1 k,zEI (zOU h.n0 h.d0) f2 k,er_hi h.n0 h.d0 h.up f1 f2 f3 k,er_wide h.n0 h.d0 h.up f2 f4 k⟩
theorem Q_s (k:Nat):Q (k+1)=2*Q k:=rfl
theorem zSS {N:Nat} (hN:N<=50000) (U:Nat) (hU:4<=U):((N:Int)+1)*Q U+9<=Q (U+20):=by
 have q:=zE U;have q4:=zJ hU;have e4:Q 4=16:=rfl;have e:Q (U+20)=1048576*Q U:=by rw[jF];have:Q 20=1048576:=rfl;rw[this];omega
 have m:=YA (show (N:Int)+1<=50001 by omega) (show 0<=Q U by omega)
 omega
theorem zRA {n d:Int} {x:Nat->Rat} (h:ErIn n d x) (B:Nat) (hB:B<=10000) (k:Nat) (hk:k<=50000):0<=(jE (erT n d B) k).1/\(jE (erT n d B) k).1<=(jE (erT n d B) k).2/\(jE (erT n d B) k).2+9<=Q (B+2760)/\(jE (erT n d B) k).2-(jE (erT n d B) k).1+9<=Q 2800:=by
 have h1:=sum_lo (f:=erT n d B) (λ j=>(zCO h B j).1) k
 have h2:=zGL (f:=erT n d B) (λ j=>(zCO h B j).2.1) k
 have h3:=sum_hi (f:=erT n d B) (λ j=>(zCO h B j).2.2.1) k
 have h4:=zN7 (f:=erT n d B) (λ j=>(zCO h B j).2.2.2) k
 have m1:=zSS hk (B+2740) (by omega)
 have m2:=zSS hk 2780 (by omega)
 rw[show B+2740+20=B+2760 by omega] at m1
 rw[show 2780+20=2800 by rfl] at m2
 exact⟨h1,h2,by omega,by omega⟩
theorem er_valG {n d:Int} {x:Nat->Rat} (hd:0<d) (k M:Nat):riV x (erU n) (erD d) k M=x M*gT ((n:Rat)/(d:Rat)) k:=by
 induction k with
 | zero=>show x M=x M*1;grind
 | succ k ih =>
  show ((erU n (k+1):Int):Rat)/((erD d (k+1):Int):Rat)*riV x (erU n) (erD d) k M=x M*(2*((n:Rat)/(d:Rat))/(2*((k:Rat)+1)+1)*gT ((n:Rat)/(d:Rat)) k)
  rw[ih];have d0:(0:Rat)<(d:Rat):=by exact_mod_cast hd
  have p:=zDC k;have e1:((erU n (k+1):Int):Rat)=2*(n:Rat):=by unfold erU;rw[YG];rfl
  have e2:((erD d (k+1):Int):Rat)=(d:Rat)*(2*((k:Rat)+1)+1):=by
   unfold erD;rw[YG]
   congr 1
   rw[Rat.intCast_add,YG]
   push_cast
   rfl
  have q:(0:Rat)<(d:Rat)*(2*((k:Rat)+1)+1):=Rat.mul_pos d0 p;have r0:=rdm (a:=(n:Rat)) d0;have r1:=rdm (a:=2*(n:Rat)) q;have r2:=rdm (a:=2*((n:Rat)/(d:Rat))) p
  have e3:2*(n:Rat)/((d:Rat)*(2*((k:Rat)+1)+1))=2*((n:Rat)/(d:Rat))/(2*((k:Rat)+1)+1):=by
   have lhs:2*((n:Rat)/(d:Rat))/(2*((k:Rat)+1)+1)*((d:Rat)*(2*((k:Rat)+1)+1))=2*(n:Rat):=by
    have:2*((n:Rat)/(d:Rat))/(2*((k:Rat)+1)+1)*((d:Rat)*(2*((k:Rat)+1)+1))=(2*((n:Rat)/(d:Rat))/(2*((k:Rat)+1)+1)*(2*((k:Rat)+1)+1))*(d:Rat):=by grind
    rw[this,r2,Rat.mul_assoc,r0]
   exact Rat.le_antisymm (Rat.le_of_mul_le_mul_right (by rw[lhs,r1];exact Rat.le_refl) q) (Rat.le_of_mul_le_mul_right (by rw[lhs,r1];exact Rat.le_refl) q)
  rw[e1,e2,e3];generalize 2*((n:Rat)/(d:Rat))/(2*((k:Rat)+1)+1)=c;grind
theorem er_hasG {B N:Nat} {a:Int × Int} {n d:Int} {x:Nat->Rat} (hn:0<=n) (hd:0<d) (hx:RtOf ((n:Rat)/(d:Rat)) x) (ha:Iv B a x) (hN:yO (riT a (erU n) (erD d)) (zA4 n d) N):Iv B (kW (riT a (erU n) (erD d)) N) (λ M=>x M*gS ((n:Rat)/(d:Rat)) M):=by
 have h:=zCE (zOU hn hd) ha 0 (λ M _=>hx.nn M) (λ k hk=>er_34 hn hd k hk) hN
 refine Has.of_eq h λ M=>?_
 have:∀ j,S (λ k=>riV x (erU n) (erD d) k M) j=x M*S (gT ((n:Rat)/(d:Rat))) j:=λ j=>by
  induction j with
  | zero=>show (0:Rat)=x M*0;grind
  | succ j ih =>
   show S (λ k=>riV x (erU n) (erD d) k M) j+riV x (erU n) (erD d) j M=x M*(S (gT ((n:Rat)/(d:Rat))) j+gT ((n:Rat)/(d:Rat)) j)
   rw[ih,er_valG hd];grind
 exact (this M).symm
def zA0 (n d:Int) (B N:Nat):Int × Int:=kW (erT n d B) N
theorem zMY {n d:Int} {x:Nat->Rat} (h:ErIn n d x) {B N:Nat} (hB:B<=10000) (hN:N<=3*B+8523) (hR:yO (erT n d B) (zA4 n d) N):0<=(zA0 n d B N).1/\(zA0 n d B N).1<=(zA0 n d B N).2/\(zA0 n d B N).2<=Q (B+2760)/\(zA0 n d B N).2-(zA0 n d B N).1<=Q 2800/\Iv B (zA0 n d B N) (λ M=>x M*gS ((n:Rat)/(d:Rat)) M):=by
 have XW:N<=50000:=by omega
 obtain⟨s1,s2,s3,s4⟩:=zRA h B hB N XW;obtain⟨f1,f2,f3,f4,f5⟩:=zMX h B;have e1:(zA0 n d B N).1=(jE (erT n d B) N).1:=by show (jE (erT n d B) N).1+0=_;omega
 have e2:(zA0 n d B N).2=(jE (erT n d B) N).2+9:=rfl;refine⟨by omega,by omega,by omega,by omega,er_hasG h.n0 h.d0 h.rt f5 hR⟩
def erX (n d:Int) (B t N:Nat):Int × Int:=sqI B (zN (zV B (zG (ofI n d B) t)) N) t
theorem erX_set {n d:Int} {x:Nat->Rat} (h:ErIn n d x) {B:Nat} (hB:40<=B):∃ (l:Int) (t N:Nat),zBV (zW (ofI n d B)) l/\(t:Int)=max 0 (l-B+8)/\t<=16/\Abs (zG (ofI n d B) t) (Q (B-8))/\zU (zV B (zG (ofI n d B) t)) N:=by
 have:=h.n0;have:=h.d0;have:=h.up;obtain⟨l,t,N,e1,e2,e3,e4,e5⟩:=zD0 (B:=B) (e:=8) (by omega) (yA h.d0 B) (zIS (p:=n) (q:=d) (n:=152) (b:=B) (e:=8) h.d0 (by omega) (by omega) (by decide))
 exact⟨l,t,N,e1,e2,by omega,e4,e5⟩
theorem erX_ok {n d:Int} {x:Nat->Rat} (h:ErIn n d x) {B t N:Nat} (hB:40<=B) (o9:B<=10000) (ht:t<=16) (hA:Abs (zG (ofI n d B) t) (Q (B-8))) (hN:zU (zV B (zG (ofI n d B) t)) N) :
  Q B+1<=2*(erX n d B t N).1/\(erX n d B t N).1<=(erX n d B t N).2/\Abs (erX n d B t N) (Q (B+1536))/\(erX n d B t N).2-(erX n d B t N).1<=Q 1700/\Iv B (erX n d B t N) (ex ((n:Rat)/(d:Rat))):=by
 have q:=zE t;have al:=yA (n:=n) h.d0 B;obtain⟨g1,g2,g3,g4⟩:=zB9 (ws:=1) (by omega) hA al (by have:=yB (n:=n) h.d0 B;omega) hN
 have DB:=zJ (zUH (show t<=17 by omega))
 rw[wb_17] at DB;have CO:=zJ (show B+eb t<=B+1536 by have:=zBW (show t<=17 by omega);rw[eb_17] at this;omega)
 have hiv:=Iv.of B (n:=n) h.d0;refine⟨zLN (h.of_lo B) al (by omega) hB hN,g1,g2.mono CO,?_,zES (by omega) hiv hA⟩
 have m:=Int.mul_le_mul (show ((N:Int)+1)*(2*1+6)+3<=1048576 by omega) DB (by have:=zE (wb t);omega) (by omega)
 have e:Q 1700=4*(1048576*Q 1678):=by
  rw[show 1700=1678+22 by rfl,jF];have:Q 22=4194304:=rfl;rw[this];omega
 have q2:=zE 1678
 show (sqI B (zN (zV B (zG (ofI n d B) t)) N) t).2-(sqI B (zN (zV B (zG (ofI n d B) t)) N) t).1<=_
 omega
def erP (B N5 N9:Nat):Int × Int:=yF B (piI B N5 N9)
theorem erP_ok {B N5 N9:Nat} {R:Nat->Rat} (hR:yE piS R) (hB:32<=B) (o9:B<=10000) (h5:zU (agT 5 B) N5) (h9:zU (agT 239 B) N9) :
  Q B<=(erP B N5 N9).1/\(erP B N5 N9).1<=(erP B N5 N9).2/\(erP B N5 N9).2<=8*Q B+1/\(erP B N5 N9).2-(erP B N5 N9).1<=1048576/\Iv B (erP B N5 N9) R:=by
 obtain⟨p1,p2,p3,p4⟩:=pi_bound hB h5 h9;have q:=zE B;obtain⟨r0,r1,r2,r3⟩:=zDH (B:=B) (a:=piI B N5 N9) (by omega) p1
 have lo:Q B<=(yF B (piI B N5 N9)).1:=by
  have m:=YA p2 (show 0<=Q B by omega)
  have z:=(zEK (show 0<=(piI B N5 N9).1*Q B by have:=YF (show 0<=Q B by omega) (show 0<=Q B by omega);omega)).2
  have n0:=zAM ((piI B N5 N9).1*Q B)
  show Q B<=rtZ ((piI B N5 N9).1*Q B)
  refine Int.not_lt.1 λ D5=>?_
  have m2:=Int.mul_le_mul (show rtZ ((piI B N5 N9).1*Q B)+1<=Q B by omega) (show rtZ ((piI B N5 N9).1*Q B)+1<=Q B by omega) (by omega) (by omega)
  omega
 have hi:=zNZ (B:=B) (a:=piI B N5 N9) (c:=8) (by omega) (by omega) (by omega)
 have w:=zHH (B:=B) (a:=piI B N5 N9) (W:=20*(B:Int)+120) (g:=1) (by omega) p1 p4 (by omega) (by omega)
 refine⟨lo,r1,hi,?_,root_iv (r:=(yF B (piI B N5 N9)).1) (t:=(yF B (piI B N5 N9)).2) (pi_has B N5 N9) hR r2 (by omega) r3⟩
 show (yF B (piI B N5 N9)).2-(yF B (piI B N5 N9)).1<=_
 omega
def zFI (n d:Int) (B t N N5 N9:Nat):Int × Int:=zAH B (erP B N5 N9) (erX n d B t N)
theorem zQ9 {n d:Int} {x:Nat->Rat} {R:Nat->Rat} (hR:yE piS R) (h:ErIn n d x) {B t N N5 N9:Nat} (hB:40<=B) (o9:B<=10000) (ht:t<=16) (hA:Abs (zG (ofI n d B) t) (Q (B-8))) (hN:zU (zV B (zG (ofI n d B) t)) N) (h5:zU (agT 5 B) N5) (h9:zU (agT 239 B) N9) :
  Q B+1<=2*(zFI n d B t N N5 N9).1/\(zFI n d B t N N5 N9).1<=(zFI n d B t N N5 N9).2/\(zFI n d B t N N5 N9).2<=Q (B+1540)/\(zFI n d B t N N5 N9).2-(zFI n d B t N N5 N9).1<=Q 1710/\Iv B (zFI n d B t N N5 N9) (λ M=>R M*ex ((n:Rat)/(d:Rat)) M):=by
 obtain⟨x1,x2,x3,x4,x5⟩:=erX_ok h hB o9 ht hA hN;obtain⟨p1,p2,p3,p4,p5⟩:=erP_ok hR (by omega) o9 h5 h9
 have q:=zE B;have PA:Abs (erP B N5 N9) (16*Q B):=⟨by omega,by omega,by omega,by omega⟩
 have IA:Q (B+1540)*Q B=16*Q B*Q (B+1536):=by
  rw[show B+1540=(B+1536)+4 by omega,jF (B+1536) 4]
  have:Q 4=16:=rfl;rw[this];grind
 have ab:=zCT (B:=B) (p:=Q (B+1540)) PA x3 (by omega)
 refine⟨?_,zBY B,ab.2.2.2,?_,p5.mul x5⟩
 ·obtain⟨_,_,_,_,hh⟩:=zEC ((erP B N5 N9).1*(erX n d B t N).1) ((erP B N5 N9).1*(erX n d B t N).2) ((erP B N5 N9).2*(erX n d B t N).1) ((erP B N5 N9).2*(erX n d B t N).2)
  have y0:0<=(erX n d B t N).1:=by omega
  have m0:=YA p1 y0;have m1:=YD x2 (show 0<=(erP B N5 N9).1 by omega)
  have m2:=YA p2 y0;have m3:=YD x2 (show 0<=(erP B N5 N9).2 by omega)
  have k:(erX n d B t N).1<=(zFI n d B t N N5 N9).1:=by
   refine Int.le_ediv_of_mul_le (by omega) ?_
   rw[Int.mul_comm];omega
  omega
 ·have w:=zAU (B:=B) (c:=16*Q 1700+Q 1536*1048576) PA x3 p2 x2 (by
   have m1:=YD x4 (show 0<=16*Q B by omega)
   have m2:=YD p4 (show 0<=Q (B+1536) by have:=zE (B+1536);omega)
   have e:Q (B+1536)=Q B*Q 1536:=jF B 1536;have e2:(16*Q 1700+Q 1536*1048576)*Q B=16*Q B*Q 1700+Q B*Q 1536*1048576:=by grind
   rw[e] at m2 ⊢
   omega)
  have e1:Q 1710=1024*Q 1700:=by rw[show 1710=1700+10 by rfl,jF];have:Q 10=1024:=rfl;rw[this];omega
  have e3:Q 1556=Q 1536*1048576:=by rw[show 1556=1536+20 by rfl,jF];rfl
  have e4:=zJ (show 1556<=1700 by omega)
  have q2:=zE 1700
  show (zAH B (erP B N5 N9) (erX n d B t N)).2-(zAH B (erP B N5 N9) (erX n d B t N)).1<=_
  omega
theorem dv_wide2 {s1 s2 t1 t2 q V W C:Int} (hq:0<q) (h0:0<=s1) (hV:0<=V) (h1:s2-s1<=V) (hC:1<=C) (h2:s1<=C*t2) (h3:t1<=t2) (h4:t2-t1<=W) (h5:q+1<=2*t1) : -(-(s2*q)/t1)-s1*q/t2<=2*V+2*(C*W)+4:=by
 obtain⟨hi,ehi⟩:∃ hi,hi = -(-(s2*q)/t1):=⟨_,rfl⟩;obtain⟨lo,elo⟩:∃ lo,lo=s1*q/t2:=⟨_,rfl⟩;rw[<- ehi,<- elo];have t0:0<t1:=by omega
 have c1:(hi-1)*t1<s2*q:=by
  have:=Int.lt_ediv_add_one_mul_self (-(s2*q)) t0;have e:(hi-1)*t1 = -((-(s2*q)/t1+1)*t1):=by rw[ehi];grind
  omega
 have c2:s1*q<(lo+1)*t2:=by rw[elo];exact Int.lt_ediv_add_one_mul_self _ (by omega)
 have c3:lo<=C*q:=by
  rw[elo];refine Int.ediv_le_of_le_mul (by omega) ?_
  have:=YA h2 (show 0<=q by omega)
  have e:C*t2*q=C*q*t2:=by grind
  omega
 have c4:0<=lo:=by rw[elo];exact Int.ediv_nonneg (YF h0 (by omega)) (by omega)
 refine Int.not_lt.1 λ hn=>?_
 have W0:0<=W:=by omega
 have CW:W<=C*W:=by have:=YA hC W0;omega
 obtain⟨X,hX⟩:∃ X,X=C*W:=⟨_,rfl⟩;rw[<- hX] at hn CW;have d1:=YA (show (lo+1)+(2*V+2*X+3)<=hi-1 by omega) (show 0<=t1 by omega)
 have d2:=YD h4 (show 0<=lo+1 by omega)
 have d3:=YA (show lo+1<=C*q+1 by omega) W0
 have d4:=YA h1 (show 0<=q by omega)
 have d5:=YD h5 (show 0<=V+X by omega)
 have e1:(lo+1+(2*V+2*X+3))*t1=(lo+1)*t2-(lo+1)*(t2-t1)+(V+X)*(2*t1)+3*t1:=by grind
 have e2:(s2-s1)*q=s2*q-s1*q:=by grind
 have e3:(C*q+1)*W=X*q+W:=by rw[hX];grind
 have e4:(V+X)*(q+1)=V*q+X*q+V+X:=by grind
 omega
theorem w_fin {x v y z:Int} (h:x<=2*(2*v)+2*y+4) (hv:v<=y) (hy:0<y) (hz:z=134217728*y):x<=z:=by omega
def zK0 (B:Nat) (a:Int × Int):Int × Int:=(a.1,if a.2<=Q B then a.2 else Q B)
def erQ (n d:Int) (B M t N N5 N9:Nat):Int × Int:=(zDT ((zA0 n d B M).1*2) ((zA0 n d B M).2*2) (zFI n d B t N N5 N9).1 (zFI n d B t N N5 N9).2 B,zER ((zA0 n d B M).1*2) ((zA0 n d B M).2*2) (zFI n d B t N N5 N9).1 (zFI n d B t N N5 N9).2 B)
theorem zQY {B:Nat} {a:Int × Int} {w:Int} (h:a.2-a.1<=w) (h2:a.1<=Q B):(zK0 B a).2-(zK0 B a).1<=w:=by
 unfold zK0;simp only[];split<;>omega
theorem Iv.capN {B:Nat} {a:Int × Int} {x:Nat->Rat} (h:Iv B a x) (hx:LeN x (λ _=>1)):Iv B (zK0 B a) x:=by
 unfold zK0;split
 ·exact h
 ·intro e he
  obtain⟨N,hN⟩:=h e he;obtain⟨N0,tq⟩:=hx e he;refine⟨N+N0,λ M hM=>?_⟩
  have g:=(hN M (by omega)).1
  have g2:=tq M (by omega)
  have q:=jH B;have e1:(Q B:Rat)/(Q B:Rat)=1:=by rw[YK,Rat.mul_inv_cancel _ (by grind)]
  simp only[];rw[e1];constructor<;>grind
theorem Iv.lo_one {B:Nat} {a:Int × Int} {x:Nat->Rat} (h:Iv B a x) (hx:LeN x (λ _=>1)):a.1<=Q B:=by
 refine Int.not_lt.1 λ D5=>?_
 have q:=jH B;have h1:((Q B+1:Int):Rat)<=(a.1:Rat):=zZ (by omega)
 have h2:1+1/(Q B:Rat)<=(a.1:Rat)/(Q B:Rat):=by
  refine jW q ?_;have e:(1+1/(Q B:Rat))*(Q B:Rat)=(Q B:Rat)+1/(Q B:Rat)*(Q B:Rat):=by grind
  rw[e,rdm q];rw[Rat.intCast_add] at h1;exact h1
 have u0:(0:Rat)<1/(Q B:Rat):=zF (by grind) q
 obtain⟨N1,k1⟩:=h (1/(Q B:Rat)/4) (by grind)
 obtain⟨N2,k2⟩:=hx (1/(Q B:Rat)/4) (by grind)
 have a1:=(k1 (N1+N2) (by omega)).1
 have a2:=k2 (N1+N2) (by omega)
 grind
theorem erf_ok {n d:Int} {x:Nat->Rat} {R:Nat->Rat} (hR:yE piS R) (h:ErIn n d x) {B M t N N5 N9:Nat} (hB:40<=B) (o9:B<=10000) (hM:M<=3*B+8523) (pN:yO (erT n d B) (zA4 n d) M) (ht:t<=16) (hA:Abs (zG (ofI n d B) t) (Q (B-8))) (hN:zU (zV B (zG (ofI n d B) t)) N) (h5:zU (agT 5 B) N5) (h9:zU (agT 239 B) N9) :
  Iv B (zK0 B (erQ n d B M t N N5 N9)) (zC9 R ((n:Rat)/(d:Rat)) x)/\0<=(zK0 B (erQ n d B M t N N5 N9)).1/\(zK0 B (erQ n d B M t N N5 N9)).1<=(zK0 B (erQ n d B M t N N5 N9)).2/\(zK0 B (erQ n d B M t N N5 N9)).2<=Q B/\(zK0 B (erQ n d B M t N N5 N9)).2-(zK0 B (erQ n d B M t N N5 N9)).1<=Q 4500:=by
 obtain⟨s1,s2,s3,s4,s5⟩:=zMY h o9 hM pN;obtain⟨d1,d2,d3,d4,d5⟩:=zQ9 hR h hB o9 ht hA hN h5 h9;have q:=zE B;have one:=zMZ hR h.rt
 have iv:Iv B (erQ n d B M t N N5 N9) (zC9 R ((n:Rat)/(d:Rat)) x):=by
  have:=Iv.dv (s:=kH (zA0 n d B M) 2) (s5.times 2) d5 (show 0<=(zA0 n d B M).1*2 by omega) (by omega)
  exact this
 obtain⟨e1,e2⟩:=zJP (b:=B) (lo:=(zA0 n d B M).1*2) (hi:=(zA0 n d B M).2*2) (lo':=(zFI n d B t N N5 N9).1) (hi':=(zFI n d B t N N5 N9).2) (by omega) (by omega) (by omega) d2
 have lo1:=iv.lo_one one;have PW:(erQ n d B M t N N5 N9).1=(zA0 n d B M).1*2*Q B/(zFI n d B t N N5 N9).2:=e1;have Xr:(erQ n d B M t N N5 N9).2 = -(-((zA0 n d B M).2*2*Q B)/(zFI n d B t N N5 N9).1):=e2
 have l0:0<=(erQ n d B M t N N5 N9).1:=by
  rw[PW];exact Int.ediv_nonneg (YF (by omega) (by omega)) (by omega)
 have le:=iv.le
 have w:(erQ n d B M t N N5 N9).2-(erQ n d B M t N N5 N9).1<=Q 4500:=by
  rw[PW,Xr];have C0:=zE 2763
  have:=dv_wide2 (s1:=(zA0 n d B M).1*2) (s2:=(zA0 n d B M).2*2) (t1:=(zFI n d B t N N5 N9).1) (t2:=(zFI n d B t N N5 N9).2) (q:=Q B) (V:=2*Q 2800) (W:=Q 1710) (C:=Q 2763) (by omega) (by omega) (by have:=zE 2800;omega) (by omega) (by omega) (by
   have m:=YD (show Q B<=2*(zFI n d B t N N5 N9).2 by omega) (show 0<=Q 2761 by have:=zE 2761;omega)
   have e:Q (B+2760)=Q B*Q 2760:=jF B 2760;have e6:Q 2761=2*Q 2760:=Q_s 2760;have e7:Q 2763=2*(2*Q 2761):=by rw[<- Q_s 2761];exact Q_s 2762
   have e8:Q 2761*Q B=2*(Q B*Q 2760):=by rw[e6];grind
   have e9:Q 2763*(zFI n d B t N N5 N9).2=2*(Q 2761*(2*(zFI n d B t N N5 N9).2)):=by rw[e7];grind
   have q9:=YF (show 0<=Q B by omega) (show 0<=Q 2760 by have:=zE 2760;omega)
   omega) d2 d4 d1
  have e3:Q 4473=Q 2763*Q 1710:=by rw[<- jF]
  have e4:=zJ (show 2800<=4473 by omega)
  have e5:Q 4500=134217728*Q 4473:=by
   rw[show 4500=27+4473 by rfl,jF]
   rfl
  rw[e3] at e4 e5;exact w_fin this e4 (by rw[<- e3];exact zE 4473) e5
 refine⟨iv.capN one,l0,?_,?_,zQY w lo1⟩
 ·clear w;unfold zK0;simp only[];split<;>omega
 ·clear w;unfold zK0;simp only[];split<;>omega
open Go
section
variable {Pg : Program} {ops : Array Oper} {Q : Exit -> Act -> World -> Prop} {md : Region.Mode} {S : World -> Prop} {l : Nat}
def AnyL (Pg:Program) (md:Region.Mode) (ops:Array Oper) (Q:Exit->Act->World->Prop) (S:World->Prop) (l:Nat):Nat->Array Bool->Act->World->Prop
 | 0,listed,a,w=>Region.ready md ops listed=[]/\Q .normal a w
 | fuel+1,listed,a,w =>
  (Region.ready md ops listed=[]->Q .normal a w) /\
  ∀ i ∈ Region.ready md ops listed,wpOp Pg ops Q i (λ a' w'=>(i≠l->S w')/\AnyL Pg md ops Q S l fuel (listed.setIfInBounds i true) a' w') a w
theorem AnyL.any:∀ (fuel:Nat) (listed:Array Bool) (a:Act) (w:World),AnyL Pg md ops Q S l fuel listed a w->wpAny Pg md ops Q fuel listed a w
 | 0,_,_,_,h=>h
 | fuel+1,_,_,_,h=>⟨h.1,λ i hi=>wpOp_mono (λ a' w' h'=>AnyL.any fuel _ a' w' h'.2) (h.2 i hi)⟩
def zME (md:Region.Mode) (ops:Array Oper) (l i:Nat):Bool :=
 match ops[l]? with
 | some o=>o.after.any (λ e=>Region.binds md e && e.on == i)
 | none=>false
theorem zKY {i:Nat} {listed:Array Bool} (hw:zME md ops l i=true) (hi:i ∈ Region.ready md ops listed) (hl:l ∈ Region.ready md ops listed):False:=by
 obtain⟨_,ol,hol,lf⟩:=mem_ready.1 hl;obtain⟨h0,oi,Kn,_⟩:=mem_ready.1 hi;unfold zME at hw;rw[hol] at hw;simp only[Array.any_eq_true'] at hw;obtain⟨e,he,h2⟩:=hw;simp only[Bool.and_eq_true,beq_iff_eq] at h2;have h1:=lf e he h2.1;rw[h2.2] at h1
 rcases Nat.lt_or_ge i listed.size with h'|h'
 ·simp[h'] at h0 h1;rw[h0] at h1;cases h1
 ·simp[Array.getElem?_eq_none h'] at h1
theorem AnyL.first {i:Nat} {oi:Oper} {v:Value} (hi:ops[i]?=some oi) (my:∀ (j:Nat) (o:Oper) cs b,ops[j]?=some o->o.op≠.select cs b)
  (hQ:∀ c a w,Q (.panic c) (a.put oi.dst v) w->Q (.panic c) a w) (KR:zME md ops l i=true) :
  ∀ (fuel:Nat) (listed:Array Bool) (a:Act) (w:World),
   (∀ j oj,ops[j]?=some oj->j≠i->listed.getD j true=false->(∀ e ∈ oj.after,Region.binds md e=true->e.on≠i)->oi.apart ops oj=true) ->
   i ∈ Region.ready md ops listed->YieldsIf Pg ops S oi v a->S w ->
   AnyL Pg md ops Q S l fuel (listed.setIfInBounds i true) (a.put oi.dst v) w->AnyL Pg md ops Q S l (fuel+1) listed a w:=by
 intro fuel
 induction fuel with
 | zero =>
  intro listed a w _ hr hy hS H
  refine⟨λ h=>(by rw[h] at hr;cases hr),λ j hj=>?_⟩
  by_cases bM:j=i
  ·subst bM;exact hy.wpOp hi hS ⟨λ _=>hS,H⟩
  ·have:=ready_mono hj bM
   rw[H.1] at this
   cases this
 | succ fuel ih =>
  intro listed a w hfree hr hy hS H
  refine⟨λ h=>(by rw[h] at hr;cases hr),λ j hj=>?_⟩
  by_cases bM:j=i
  ·subst bM;exact hy.wpOp hi hS ⟨λ _=>hS,H⟩
  ·have QS:j≠l:=λ h=>zKY KR hr (h ▸ hj)
   have h1:=H.2 j (ready_mono hj bM);obtain⟨gJ,oj,wQ,lf⟩:=mem_ready.1 hj
   have wP:∀ e ∈ oj.after,Region.binds md e=true->e.on≠i:=λ e he hb heq=>by
    have h1:=lf e he hb;have h0:=(mem_ready.1 hr).1;rw[heq] at h1
    rcases Nat.lt_or_ge i listed.size with h'|h'
    ·simp[h'] at h0 h1;rw[h0] at h1;cases h1
    ·simp[Array.getElem?_eq_none h'] at h1
   have h2:=wpOp_putIf wQ (hfree j oj wQ bM gJ wP) (λ cs b=>my i oi cs b hi) (λ cs b=>my j oj cs b wQ) hQ hy h1
   have eE:∀ k ok,ops[k]?=some ok->k≠i->(listed.setIfInBounds j true).getD k true=false ->
     (∀ e ∈ ok.after,Region.binds md e=true->e.on≠i)->oi.apart ops ok=true:=λ k ok hk Kd Dt Km=>by
    refine hfree k ok hk Kd ?_ Km
    by_cases oG:j=k
    ·subst oG;exact gJ
    ·rw[getD_set_ne true oG] at Dt;exact Dt
   refine wpOp_mono (λ a' w' h3=>⟨λ _=>h3.2.1 QS,ih (listed.setIfInBounds j true) a' w' eE (ready_mono hr (Ne.symm bM)) h3.1 (h3.2.1 QS) ?_⟩) h2
   rw[Array.setIfInBounds_comm _ _ bM];exact h3.2.2
theorem AnyL.take {i:Nat} {oi:Oper} {v:Value} {fuel:Nat} {listed:Array Bool} {a:Act} {w:World} (hi:ops[i]?=some oi)
  (hs:Region.noSelect ops=true) (hf:Region.free md ops listed i=true) (hr:(Region.ready md ops listed).contains i=true) (KR:zME md ops l i=true)
  (hQ:∀ c a w,Q (.panic c) (a.put oi.dst v) w->Q (.panic c) a w) (hy:YieldsIf Pg ops S oi v a) (hS:S w)
  (h:AnyL Pg md ops Q S l fuel (listed.setIfInBounds i true) (a.put oi.dst v) w):AnyL Pg md ops Q S l (fuel+1) listed a w :=
 AnyL.first hi (Region.noSelect_spec hs) hQ KR fuel listed a w (Region.free_spec hi hf) (by simpa using hr) hy hS h
theorem AnyL.one {i:Nat} {o:Oper} {fuel:Nat} {listed:Array Bool} {a:Act} {w:World} (hr:Region.ready md ops listed=[i]) (ho:ops[i]?=some o)
  (h:∀ K':Act->World->Prop,Shut (∀ a w,S w->(S w->AnyL Pg md ops Q S l fuel (listed.setIfInBounds i true) a w)->K' a w)->if Region.wanted o (yielded ops a.tmps)=true then Oper.wp Pg o a w K' Q else K' (a.put o.dst undef) w) :
  AnyL Pg md ops Q S l (fuel+1) listed a w :=
 ⟨λ h0=>absurd (hr ▸ h0) (by simp),λ j hj=>by
  rw[hr] at hj;have oF:j=i:=by simpa using hj
  subst oF
  exact wpOp_step ho (λ K' hK=>h K' (λ a w hS hW=>hK a w ⟨λ _=>hS,hW hS⟩))⟩
theorem AnyL.last {o:Oper} {fuel:Nat} {listed:Array Bool} {a:Act} {w:World} (hr:Region.ready md ops listed=[l]) (ho:ops[l]?=some o)
  (hd:Region.ready md ops (listed.setIfInBounds l true)=[])
  (h:∀ K':Act->World->Prop,Shut (∀ a w,Q .normal a w->K' a w)->if Region.wanted o (yielded ops a.tmps)=true then Oper.wp Pg o a w K' Q else K' (a.put o.dst undef) w) :
  AnyL Pg md ops Q S l (fuel+1) listed a w :=
 ⟨λ h0=>absurd (hr ▸ h0) (by simp),λ j hj=>by
  rw[hr] at hj;have oF:j=l:=by simpa using hj
  subst oF;refine wpOp_step ho (λ K' hK=>h K' (λ a w hW=>hK a w ⟨λ h=>absurd rfl h,?_⟩))
  cases fuel with
  | zero=>exact⟨hd,hW⟩
  | succ fuel=>exact⟨λ _=>hW,by rw[hd];simp⟩⟩
theorem AnyL.start {id:Nat} {a:Act} {w:World} (hm:Pg.follows .mixedOrders=true) (hS:S w.drew)
  (h:S w.drew->AnyL Pg .any ops Q S l ops.size (Array.replicate ops.size false) a w.drew):(Code.region id ops true).wp Pg Q a w :=
 wp_region_any hm (AnyL.any _ _ _ _ (h hS))
end
open Go.RowKit
attribute [local go_sem ↓] Go.wp_at_zero Go.wp_at_succ
theorem zED (x q:Int):zPU x q=if x<=q then x else q:=by unfold zPU;split<;>split<;>omega
theorem wideOf_z {b:Nat} (z:Int) (hz:z=(b:Int)) (neg j6:Bool) (a c:Option Addr) (n m cap j9 k k2:Nat) (x y:Int) (w:World) (h1:IntAt w neg a n cap k x) (h2:IntAt w j6 c m j9 k2 y) (hk:k<=700000000) (hb:b<=1000000) (hy:0<y) :
  Calls Tryz.prog 88 #[.agg #[.bool neg,.slice a n cap],.agg #[.bool j6,.slice c m j9],.int .i64 z] w (zH w b (k+b/16+20) (ofI x y b).1 (ofI x y b).2):=by
 subst hz;exact jP _ _ _ _ _ _ _ _ k k2 b x y w h1 h2 hk hb hy
theorem fieldP1 (x y:Bool) (a a':Option Addr) (n c n' c':Nat) (b:Int) (w:World):(Instr.field 31 (.agg #[.bool x,.slice a n c,.bool y,.slice a' n' c',.int .i64 b]) 1).run Tryz.prog w=.ok (.agg #[.bool y,.slice a' n' c']) w:=by kernel_rfl
theorem zN2 {w:World} {B:Nat} {s:Sp} (h:VrC w B s) (x:Nm):VrC ((w.setCell ⟨B,2,none⟩ (.bool x.neg)).setCell ⟨B,3,none⟩ (.slice x.a x.n x.cap)) B ⟨s.ln,s.la,s.lN,s.lc,x.neg,x.a,x.n,x.cap,s.bits⟩:=by
 obtain⟨⟨q0,q1,q2,q3,q4⟩,q5⟩:=h;exact⟨⟨by simp[go_sem,q0],by simp[go_sem,q1],by simp[go_sem,q2],by simp[go_sem,q3],by simp[go_sem,q4]⟩,λ o=>by rw[zS,zS];exact q5 o⟩
theorem NoC.offH {w:World} {B B':Nat} (h:NoC w B) (hne:B≠B') (u0 u1:Value):NoC ((w.setCell ⟨B',2,none⟩ u0).setCell ⟨B',3,none⟩ u1) B:=by
 obtain⟨q0,q1,q2,q3,q4,q5⟩:=h;exact⟨by simp[go_sem,q0,hne,Ne.symm hne],by simp[go_sem,q1,hne,Ne.symm hne],by simp[go_sem,q2,hne,Ne.symm hne],by simp[go_sem,q3,hne,Ne.symm hne],by simp[go_sem,q4,hne,Ne.symm hne],λ o=>by rw[zS,zS];exact q5 o⟩
theorem IntAt.putH {w:World} {neg:Bool} {a:Option Addr} {n cap k:Nat} {z:Int} (h:IntAt w neg a n cap k z) {B:Nat} {x0:Bool} {y0:Option Addr} {y1 y2:Nat} (h0:w.cell? ⟨B,2,none⟩=some (.bool x0))
  (h1:w.cell? ⟨B,3,none⟩=some (.slice y0 y1 y2)) (u0 u1:Value):IntAt ((w.setCell ⟨B,2,none⟩ u0).setCell ⟨B,3,none⟩ u1) neg a n cap k z:=by
 have hne:(⟨B,2,none⟩:Addr)≠⟨B,3,none⟩:=by simp
 have h2:(w.setCell ⟨B,2,none⟩ u0).cell? ⟨B,3,none⟩=some (.slice y0 y1 y2):=(World.cell?_setCell_other _ _ _ _ hne).trans h1;exact (h.store h0 (λ _ e=>by cases e) u0).store h2 (λ _ e=>by cases e) u1
theorem zBK (w:World) (s:Sp) (k b:Nat) (lo hi:Int) (hs:SpAt w s k lo hi) (hbits:s.bits=(b:Int)) (hb:b<=100000) (eG:b/16+24<=k) (hk:k<=100000000) :
  Calls Tryz.prog 141 #[.agg s.q] w (zH w b (k+1) lo (zPU hi (Q b))):=by
 obtain⟨W,hW⟩:∃ W,W=(w.alloc (.cells s.q 31)).alloc (.cells zCq 31):=⟨_,rfl⟩;have j7:Below w.heap.size w W:=by rw[hW];exact bl2 _ _ _
 have A:VrC W w.heap.size s:=by rw[hW];exact⟨⟨by simp[go_sem],by simp[go_sem],by simp[go_sem],by simp[go_sem],by simp[go_sem]⟩,λ o=>by simp[go_sem]⟩
 have R:NoC W (w.heap.size+1):=by rw[hW];constructor<;>simp[go_sem]
 have GK:=zC j7;have HS:=zC (hs.bw j7);have HB:=zC hbits;have HA:=zC A;have HR:=zC R;have HO:=zC (show -(-(1*Q b)/1)=Q b by rw[Int.ediv_one];omega)
 have HK:=zC (show ∀ w',Below W.heap.size W w'->(w'.cell? ⟨w.heap.size,2,none⟩=some (.bool s.hn)/\w'.cell? ⟨w.heap.size,3,none⟩=some (.slice s.ha s.hN s.hc)/\w'.cell? ⟨w.heap.size,4,none⟩=some (.int .i64 s.bits)) from λ w' hB=>⟨(A.bw hB).c.c2,(A.bw hB).c.c3,(A.bw hB).c.c4⟩)
 have A9:Below W.heap.size W W.drew:=(Below.refl _ _).drew;clear hs hbits j7 A R
 go_enter Tryz.func141,Tryz.ntmps141
 go_wp2;rw[<- hW];clear hW;refine AnyL.start (S:=λ w'=>w'.cell? ⟨w.heap.size,2,none⟩=some (.bool s.hn)/\w'.cell? ⟨w.heap.size,3,none⟩=some (.slice s.ha s.hN s.hc)/\w'.cell? ⟨w.heap.size,4,none⟩=some (.int .i64 s.bits)) (l:=9) (by kernel_rfl) (zA HK _ A9) (λ hHeld=>?_)
 refine AnyL.take (i:=0) (oi:={ dst:=some 3,op:=Go.Op.fieldAddr 31 (Go.Operand.tmp 1) 1,type:=0,pos := "part.go:53",after:=#[],guard:=none }) (v:=.pointer (some ⟨w.heap.size,2,none⟩)) rfl (by kernel_rfl) (by kernel_rfl) (by kernel_rfl) (by kernel_rfl) (λ _ _ _ h=>h) (Or.inl ⟨by rfl,λ w hSw=>?_⟩) hHeld ?_
 ·obtain⟨s0,s1,s2⟩:=hSw;go_simp
 try simp only[Act.put,Yv,Yw,Yx]
 refine AnyL.take (i:=1) (oi:={ dst:=some 4,op:=Go.Op.load 29 (Go.Operand.tmp 3),type:=29,pos := "part.go:53",after:=#[{ on:=0,ground:=Go.Ground.data }],guard:=none }) (v:=.agg #[.bool s.hn,.slice s.ha s.hN s.hc]) rfl (by kernel_rfl) (by kernel_rfl) (by kernel_rfl) (by kernel_rfl) (λ _ _ _ h=>h) (Or.inl ⟨by rfl,λ w hSw=>?_⟩) hHeld ?_
 ·obtain⟨s0,s1,s2⟩:=hSw;go_simp
 try simp only[Act.put,Yv,Yw,Yx]
 refine AnyL.take (i:=2) (oi:={ dst:=some 5,op:=Go.Op.fieldAddr 31 (Go.Operand.tmp 1) 2,type:=0,pos := "part.go:53",after:=#[],guard:=none }) (v:=.pointer (some ⟨w.heap.size,4,none⟩)) rfl (by kernel_rfl) (by kernel_rfl) (by kernel_rfl) (by kernel_rfl) (λ _ _ _ h=>h) (Or.inl ⟨by rfl,λ w hSw=>?_⟩) hHeld ?_
 ·obtain⟨s0,s1,s2⟩:=hSw;go_simp
 try simp only[Act.put,Yv,Yw,Yx]
 refine AnyL.take (i:=3) (oi:={ dst:=some 6,op:=Go.Op.load 3 (Go.Operand.tmp 5),type:=3,pos := "part.go:53",after:=#[{ on:=2,ground:=Go.Ground.data }],guard:=none }) (v:=.int .i64 s.bits) rfl (by kernel_rfl) (by kernel_rfl) (by kernel_rfl) (by kernel_rfl) (λ _ _ _ h=>h) (Or.inl ⟨by rfl,λ w hSw=>?_⟩) hHeld ?_
 ·obtain⟨s0,s1,s2⟩:=hSw;go_simp
 try simp only[Act.put,Yv,Yw,Yx]
 refine AnyL.one (i:=4) (o:={ dst:=some 7,op:=Go.Op.call { callee:=Go.Callee.value (Go.Operand.func 93),args:=#[Go.Operand.tmp 6],argTypes:=#[3] },type:=31,pos := "part.go:53",after:=#[{ on:=3,ground:=Go.Ground.data }],guard:=none }) (by kernel_rfl) rfl (λ Kc H8=>?_)
 go_simp
 rw[zA HB];refine (zDD _ b (by omega)).mono ?_
 rintro r' w1 ⟨v1,rfl,J6,hs1,hb⟩;have p9:=zB A9 hb;clear hb J6;go_wp2_with fail;refine H8.out _ _ (zA HK _ p9) (λ hHeld=>?_)
 clear H8 Kc
 try simp only[Act.put,Yv,Yw,Yx]
 refine AnyL.take (i:=5) (oi:={ dst:=some 8,op:=Go.Op.field 31 (Go.Operand.tmp 7) 1,type:=29,pos := "part.go:53",after:=#[{ on:=4,ground:=Go.Ground.data }],guard:=none }) (v:=.agg #[.bool v1.hn,.slice v1.ha v1.hN v1.hc]) rfl (by kernel_rfl) (by kernel_rfl) (by kernel_rfl) (by kernel_rfl) (λ _ _ _ h=>h) (Or.inl ⟨by rfl,λ w hSw=>?_⟩) hHeld ?_
 ·obtain⟨s0,s1,s2⟩:=hSw;(have JN:=fieldP1;go_simp)
 try simp only[Act.put,Yv,Yw,Yx]
 refine AnyL.one (i:=6) (o:={ dst:=some 9,op:=Go.Op.buildSlice 101 2 #[(0,Go.Operand.tmp 4),(1,Go.Operand.tmp 8)],type:=101,pos := "part.go:53",after:=#[{ on:=1,ground:=Go.Ground.data },{ on:=5,ground:=Go.Ground.data }],guard:=none }) (by kernel_rfl) rfl (λ Kc H8=>?_)
 go_simp
 refine H8.out _ _ (zA HK _ (zL p9 _)) (λ hHeld=>?_)
 clear H8 Kc
 try simp only[Act.put,Yv,Yw,Yx]
 refine AnyL.one (i:=7) (o:={ dst:=some 10,op:=Go.Op.call { callee:=Go.Callee.value (Go.Operand.func 153),args:=#[Go.Operand.tmp 9],argTypes:=#[101] },type:=29,pos := "part.go:53",after:=#[{ on:=6,ground:=Go.Ground.data },{ on:=4,ground:=Go.Ground.chain }],guard:=none }) (by kernel_rfl) rfl (λ Kc H8=>?_)
 go_simp
 refine (least2 w1 _ rfl ⟨s.hn,s.ha,s.hN,s.hc⟩ ⟨v1.hn,v1.ha,v1.hN,v1.hc⟩ k hi (Q b) _ _ ((zA HS).hi.bw p9) ((zA HO ▸ hs1.hi).mono eG) (by omega)).mono ?_
 rintro r' w2 ⟨j6,a2,n2,c2,rfl,A5,j8⟩;have s9:=zB p9 j8;clear j8;go_wp2_with fail;refine H8.out _ _ (zA HK _ s9) (λ hHeld=>?_)
 clear H8 Kc
 try simp only[Act.put,Yv,Yw,Yx]
 refine AnyL.take (i:=8) (oi:={ dst:=some 11,op:=Go.Op.fieldAddr 31 (Go.Operand.tmp 1) 1,type:=0,pos := "part.go:53",after:=#[{ on:=0,ground:=Go.Ground.phase },{ on:=1,ground:=Go.Ground.phase },{ on:=2,ground:=Go.Ground.phase },{ on:=3,ground:=Go.Ground.phase },{ on:=4,ground:=Go.Ground.phase },{ on:=5,ground:=Go.Ground.phase },{ on:=6,ground:=Go.Ground.phase },{ on:=7,ground:=Go.Ground.phase }],guard:=none }) (v:=.pointer (some ⟨w.heap.size,2,none⟩)) rfl (by kernel_rfl) (by kernel_rfl) (by kernel_rfl) (by kernel_rfl) (λ _ _ _ h=>h) (Or.inl ⟨by rfl,λ w hSw=>?_⟩) hHeld ?_
 ·obtain⟨s0,s1,s2⟩:=hSw;go_simp
 try simp only[Act.put,Yv,Yw,Yx]
 have V2:=(zA HA).bw s9;have lA:=V2.lt;obtain⟨⟨y0,y1,y2,y3,y4⟩,y5⟩:=V2;refine AnyL.last (o:={ dst:=none,op:=Go.Op.store 29 (Go.Operand.tmp 11) (Go.Operand.tmp 10),type:=0,pos := "part.go:53",after:=#[{ on:=8,ground:=Go.Ground.data },{ on:=7,ground:=Go.Ground.data },{ on:=7,ground:=Go.Ground.chain },{ on:=0,ground:=Go.Ground.phase },{ on:=1,ground:=Go.Ground.phase },{ on:=2,ground:=Go.Ground.phase },{ on:=3,ground:=Go.Ground.phase },{ on:=4,ground:=Go.Ground.phase },{ on:=5,ground:=Go.Ground.phase },{ on:=6,ground:=Go.Ground.phase },{ on:=7,ground:=Go.Ground.phase }],guard:=none }) (by kernel_rfl) rfl (by kernel_rfl) (λ Kc H8=>?_)
 go_simp
 refine H8.out _ _ ?_;clear H8 Kc;have R2:=(zA HR).bw s9;obtain⟨V,hV⟩:∃ V,V=((w2.setCell ⟨w.heap.size,2,none⟩ (.bool j6)).setCell ⟨w.heap.size,3,none⟩ (.slice a2 n2 c2)):=⟨_,rfl⟩;have R3:NoC V (w.heap.size+1):=by rw[hV];exact R2.offH (by omega) _ _
 have A3:VrC V w.heap.size ⟨s.ln,s.la,s.lN,s.lc,j6,a2,n2,c2,s.bits⟩:=by rw[hV];exact zN2 ((zA HA).bw s9) ⟨j6,a2,n2,c2⟩
 have i1:IntAt V s.ln s.la s.lN s.lc k lo:=by rw[hV];exact ((zA HS).lo.bw s9).putH y2 y3 _ _
 have i2:IntAt V j6 a2 n2 c2 (k+1) (zPU hi (Q b)):=by rw[hV];exact A5.putH y2 y3 _ _
 have A8:Below w.heap.size w V:=by rw[hV];exact ((zB (zA GK) s9).setCell (p:=⟨w.heap.size,2,none⟩) (YE _) _).setCell (p:=⟨w.heap.size,3,none⟩) (YE _) _
 rw[<- hV];clear hV y0 y1 y2 y3 y4 y5 lA;have lA:=A3.lt;have lR:=R3.lt;obtain⟨⟨y0,y1,y2,y3,y4⟩,y5⟩:=A3;obtain⟨q0,q1,q2,q3,q4,q5⟩:=R3;go_wp2_with fail;refine bodyPost_ret (v:=.agg #[.bool s.ln,.slice s.la s.lN s.lc,.bool j6,.slice a2 n2 c2,.int .i64 s.bits]) (by simp[results,Tryz.results141,go_sem,q0,q1,q2,q3,q4]) rfl ⟨⟨s.ln,s.la,s.lN,s.lc,j6,a2,n2,c2,s.bits⟩,rfl,zA HB,?_,?_⟩
 ·exact SpAt.put5 (show SpAt V ⟨s.ln,s.la,s.lN,s.lc,j6,a2,n2,c2,s.bits⟩ (k+1) lo (zPU hi (Q b)) from⟨i1.mono (by omega),i2⟩) q0 q1 q2 q3 q4 _ _ _ _ _
 ·exact jY A8 (Nat.le_succ _) _ _ _ _ _
theorem zHD (w:World) (s:Sp) (p q:Int) (k b t N:Nat) (l:Int) (a:Int × Int) (hs:SpAt w s k a.1 a.2) (hbits:s.bits=(b:Int)) (CF:a.1<=a.2) (hr:rok p q) (O6:40<=b) (hb:b<=3000) (hp:0<=p)
  (hl:zBV (zW (ofI p q b)) l) (ht:(t:Int)=max 0 (l-b+8)) (fT:t<=17) (mz:Abs (zG (ofI p q b) t) (Q (b-8))) (hN:zU (zV b (zG (ofI p q b) t)) N) (hK:Q (b+eb t)<P k) (aJ:k<=1000000) (Ka:4+b/16+20<=k) :
  Calls Tryz.prog 142 #[.agg s.q,.agg #[.int .i64 p,.int .i64 q]] w (zH w b (b/16+k+10) (zDT a.1 a.2 (sqI b (zN (zV b (zG (ofI p q b) t)) N) t).1 (sqI b (zN (zV b (zG (ofI p q b) t)) N) t).2 b) (zER a.1 a.2 (sqI b (zN (zV b (zG (ofI p q b) t)) N) t).1 (sqI b (zN (zV b (zG (ofI p q b) t)) N) t).2 b)):=by
 obtain⟨W,hW⟩:∃ W,W=((w.alloc (.cells s.q 31)).alloc (.cells #[.int .i64 p,.int .i64 q] 23)).alloc (.cells zCq 31):=⟨_,rfl⟩;have j7:Below w.heap.size w W:=by rw[hW];exact bl3 _ _ _ _
 have A:SpC W w.heap.size s:=by rw[hW];constructor<;>simp[go_sem]
 have C:RaC W (w.heap.size+1) p q:=by rw[hW];constructor<;>simp[go_sem]
 have R:NoC W (w.heap.size+1+1):=by rw[hW];constructor<;>simp[go_sem]
 obtain⟨r1,r2,r3,r4⟩:=hr;have hq:0<q:=by omega
 have hle:=yA (n:=p) hq b;have Di:0<=(ofI p q b).1:=Int.ediv_nonneg (YF hp (by have:=zE b;omega)) (by omega)
 have iq:=zLN Di hle fT O6 hN;have CO:=(zB9 (ws:=1) (by omega) mz hle (by have:=zE t;have:=yB (n:=p) hq b;omega) hN).1
 obtain⟨E,hE⟩:∃ E:Int × Int,E=sqI b (zN (zV b (zG (ofI p q b) t)) N) t:=⟨_,rfl⟩;rw[<- hE] at iq CO ⊢;have TB:=zC hE;have ng:0<E.1:=by have:=zE b;omega
 have OP:=zC (And.intro ng CO);clear iq CO hE ng;have zi:=zC (And.intro hl (And.intro ht (And.intro mz hN)));have TP:=zC hle;have HS:=zC (hs.bw j7);have HB:=zC hbits;have TN:=zC hK;have Ts:=zC CF;have HK:=zC (show ∀ w',Below W.heap.size W w'->(cK w' w.heap.size s (rK0 w' (w.heap.size+1) p q)) from λ w' hB=>⟨(A.bw hB).c0,(A.bw hB).c1,(A.bw hB).c2,(A.bw hB).c3,(A.bw hB).c4,(C.bw hB).c0,(C.bw hB).c1⟩)
 have A9:Below W.heap.size W W.drew:=(Below.refl _ _).drew;have lA:=A.lt;have lC:=C.lt;have lR:=R.lt;have m1:w.heap.size≠w.heap.size+1+1:=by omega
 have m2:w.heap.size+1+1≠w.heap.size:=by omega
 have m3:w.heap.size+1≠w.heap.size+1+1:=by omega
 have m4:w.heap.size+1+1≠w.heap.size+1:=by omega
 clear hs hbits A C hl ht mz hN hle Di hK CF
 go_enter Tryz.func142,Tryz.ntmps142
 go_wp2;rw[<- hW];clear hW;obtain⟨x0,x1,x2,x3,x4,x5,x6⟩:=zA HK _ (Below.refl _ _)
 go_region_held3 (λ w'=>cK w' w.heap.size s (rK0 w' (w.heap.size+1) p q)) (first|exact zA HK _ (by with_reducible first|exact A9|exact gy|exact I5|exact E9|exact s9|exact p9)|(dsimp only[cK,cK0,nK,nK0,rK,rK0];go_keep)|go_keep)
  (first
   | (go_at_call 162;have K4:=I5;refine (zDK _ s v4 k b a.1 a.2 E.1 E.2 ((zA HS).bw I5) qh (by omega) (by omega) (zA HB) (zA Ts) (zA OP).1 (zA OP).2).mono ?_;rintro r' w5 ⟨v5,rfl,mA,Rh,D6⟩;have Vp:=zC mA;clear mA;have gy:=zB I5 D6;obtain⟨q0,q1,q2,q3,q4,q5⟩:=R.bw gy;obtain⟨y0,y1,y2,y3,y4,y5,y6⟩:=zA HK _ gy)
   | (go_at_call 77;have K4:=E9;refine (zCI _ v3 k b t N (ofI p q b) l (aT.mono Ka) (zA hO) (zA TP) (by omega) (by omega) (zA zi).1 (zA zi).2.1 (by omega) (zA zi).2.2.1 (zA zi).2.2.2 (zA TN) (by omega)).mono ?_;rintro r' w4 ⟨v4,rfl,aG,qh,y9⟩;rw[<- zA TB] at qh;have EN:=zC aG;clear aG;have I5:=zB E9 y9)
   | (go_at_call 88;have K4:=s9;refine (wideOf_z s.bits (zA HB) _ _ _ _ _ _ _ _ 4 4 p q _ o8 A5 (by omega) (by omega) hq).mono ?_;rintro r' w3 ⟨v3,rfl,G3,aT,m9⟩;have hO:=zC G3;clear G3;have E9:=zB s9 m9)
   | (go_at_call 33;have K4:=p9;refine (zD q _ (by omega) (by omega)).mono ?_;rintro r' w2 ⟨j6,a2,n2,c2,rfl,A5,j8⟩;have s9:=zB p9 j8;replace o8:=o8.bw j8)
   | (go_at_call 33;refine (zD p _ (by omega) (by omega)).mono ?_;rintro r' w1 ⟨m7,a1,n1,c1,rfl,o8,b9⟩;have p9:=zB A9 b9))
 all_goals
  go_wp2_with fail;refine bodyPost_ret (v:=.agg v5.q) (by simp[results,Tryz.results142,go_sem,q0,q1,q2,q3,q4]) rfl ⟨v5,rfl,zA Vp,?_,?_⟩
  ·exact SpAt.put5 Rh q0 q1 q2 q3 q4 _ _ _ _ _
  ·exact jY (zB j7 gy) (by omega) _ _ _ _ _
structure VnC (w:World) (B:Nat) (x:Nm):Prop where
 c:NmC w B x
 fz:∀ o,w.frozen? ⟨B,o,none⟩=false
theorem VnC.lt {w:World} {B:Nat} {x:Nm} (h:VnC w B x):B<w.heap.size:=h.c.lt
theorem VnC.bw {w w':World} {B:Nat} {x:Nm} (h:VnC w B x) (hb:Below w.heap.size w w'):VnC w' B x :=
 ⟨h.c.bw hb,λ o=>(hb.frozen (p:=⟨B,o,none⟩) h.lt).trans (h.fz o)⟩
abbrev zCC (w:World) (B:Nat) (x:Nm):World:=(w.setCell ⟨B,0,none⟩ (.bool x.neg)).setCell ⟨B,1,none⟩ (.slice x.a x.n x.cap)
theorem VnC.put {w:World} {B:Nat} {x:Nm} (h:VnC w B x) (y:Nm):VnC (zCC w B y) B y:=⟨zDF h.c y,yY h.fz _ _⟩
theorem VnC.off {w:World} {B B':Nat} {x:Nm} (h:VnC w B x) (hne:B≠B') (y:Nm):VnC (zCC w B' y) B x:=⟨h.c.off hne _ _,yY h.fz _ _⟩
theorem IntAt.putv {w:World} {neg:Bool} {a:Option Addr} {n cap k:Nat} {z:Int} (h:IntAt w neg a n cap k z) {B:Nat} {x:Nm} (hx:VnC w B x) (y:Nm):IntAt (zCC w B y) neg a n cap k z:=h.put2 hx.c.c0 hx.c.c1 _ _
theorem NoC.offv {w:World} {B B':Nat} (h:NoC w B) (hne:B≠B') (y:Nm):NoC (zCC w B' y) B:=by
 obtain⟨q0,q1,q2,q3,q4,q5⟩:=h;exact⟨by simp[go_sem,q0,hne,Ne.symm hne],by simp[go_sem,q1,hne,Ne.symm hne],by simp[go_sem,q2,hne,Ne.symm hne],by simp[go_sem,q3,hne,Ne.symm hne],by simp[go_sem,q4,hne,Ne.symm hne],yY q5 _ _⟩
theorem zUF (w:World) (x:Nm) (T:TypeId):VnC (w.alloc (.cells x.q T)) w.heap.size x:=⟨⟨by simp,by simp⟩,λ o=>by simp[go_sem]⟩
def zEL (x:Nat->Rat) (B:Nat) (lo hi:Int):Prop :=
 Iv B (lo,hi) x/\lo<=hi/\hi-lo<=Q 1702/\0<=lo/\hi<=Q B
theorem mas_ends (bits:Nat) (x:Nat->Rat) (h:bits<=120):zFF bits 1702 (zEL x):=λ m lo hi ⟨h1,h2,h3,h4,h5⟩=>by
 have:=zJ (show bits+m<=3200+m by omega)
 have:=zE (3200+m);rw[P200];exact⟨h2,h3,by omega,by omega⟩
theorem of_pr {N D:Int} (b:Nat) (hN:0<=N) (hD:0<D) (h:N<=D):zEL (λ _=>(N:Rat)/(D:Rat)) b (ofI N D b).1 (ofI N D b).2:=by
 have q:=zE b;have hw:=yB (n:=N) hD b;have h1:=YA h (show 0<=Q b by omega)
 have q2:=zE 1702;refine⟨Iv.of b hD,yA hD b,by omega,Int.ediv_nonneg (YF hN (by omega)) (by omega),?_⟩
 have h2 : -(Q b) <= -(N*Q b)/D:=Int.le_ediv_of_mul_le hD (by rw[Int.neg_mul,Int.mul_comm (Q b)];omega)
 show -(-(N*Q b)/D)<=Q b
 omega
open Ex in
theorem rare_pr {p q:Int} {b n t N:Nat} (hp:0<=p) (hq:0<q) (hb:40<=b) (j8:b<=2000) (ht:t<=17) (mz:Abs (zG (ofI p q b) t) (Q (b-8))) (hN:zU (zV b (zG (ofI p q b) t)) N) :
  let s:=ofI (p ^ n) (q ^ n*J0 n) b
  let e:=sqI b (zN (zV b (zG (ofI p q b) t)) N) t
  zEL (zDS p q n) b (zDT s.1 s.2 e.1 e.2 b) (zPU (zER s.1 s.2 e.1 e.2 b) (Q b)):=by
 have qb:=zE b;have hD:0<q ^ n*J0 n:=Int.mul_pos (Int.pow_pos hq) (zCP n);have hP:0<=p ^ n:=Int.pow_nonneg hp;have hle:=yA (n:=p) hq b;have nI:=yB (n:=p) hq b;have Di:0<=(ofI p q b).1:=Int.ediv_nonneg (YF hp (by omega)) (by omega)
 obtain⟨g1,g2,g3,g4⟩:=zB9 (ws:=1) (by omega) mz hle (by have:=zE t;omega) hN
 have glow:=zLN Di hle ht hb hN;have QM:=zES (N:=N) (by omega) (Iv.of b hq) mz
 have DB:=zJ (zUH ht);rw[wb_17] at DB;have Y5:=yA (n:=p ^ n) hD b;have T8:=yB (n:=p ^ n) hD b;have mr:0<=(ofI (p ^ n) (q ^ n*J0 n) b).1:=Int.ediv_nonneg (YF hP (by omega)) (by omega)
 have Rk:=Iv.of b (n:=p ^ n) hD
 have KE:(ofI (p ^ n) (q ^ n*J0 n) b).1<=(sqI b (zN (zV b (zG (ofI p q b) t)) N) t).2:=Rk.touch_le QM null_zero (n+1) (λ M hM=>by
  have h1:=(zPW (zAJ hp hq) n M (by omega)).1
  rw[zMA hq] at h1
  show _<=E ((p:Rat)/(q:Rat)) M+0
  grind)
 intro s e
 have hdv:=Rk.dv QM mr (by omega)
 have vB:=hdv.cap (n+1) (λ M hM=>(zNX hp hq n M (by omega)).2)
 obtain⟨d1,d2⟩:=zJP (b:=b) mr Y5 (show 0<(sqI b (zN (zV b (zG (ofI p q b) t)) N) t).1 by omega) g1
 have KP:=dv_wide (q:=Q b) (W:=Q 1700) (by omega) mr T8 KE g1 (by
  refine Int.le_trans g4 ?_
  have e:Q 1700=4194304*Q 1678:=by
   have:=jF 22 1678;rw[show 22+1678=1700 by omega] at this
   rw[this];rfl
  rw[e];have q2:=zE (wb t)
  exact Int.mul_le_mul (by omega) DB (by omega) (by omega)) glow
 rw[<- d1,<- d2] at KP;have e2:Q 1702=4*Q 1700:=by have h:=jF 2 1700;rw[show 2+1700=1702 by omega] at h;rw[h];rfl
 have q17:=zE 1700;rw[<- zED] at vB;have oI:zPU (zER s.1 s.2 e.1 e.2 b) (Q b)<=zER s.1 s.2 e.1 e.2 b:=by unfold zPU;split<;>omega
 have K5:zPU (zER s.1 s.2 e.1 e.2 b) (Q b)<=Q b:=by unfold zPU;split<;>omega
 refine⟨vB,vB.le,?_,?_,K5⟩
 ·show zPU (zER s.1 s.2 e.1 e.2 b) (Q b)-zDT s.1 s.2 e.1 e.2 b<=Q 1702
  have:zER s.1 s.2 e.1 e.2 b-zDT s.1 s.2 e.1 e.2 b<=2*Q 1700+6:=KP;have hq17:6<=2*Q 1700:=by have:=zJ (show 2<=1700 by omega);have e:Q 2=4:=rfl;omega
  omega
 ·show 0<=zDT s.1 s.2 e.1 e.2 b
  have:zDT s.1 s.2 e.1 e.2 b=s.1*Q b/e.2:=d1;rw[this];exact Int.ediv_nonneg (YF mr (by omega)) (by have:e.1<=e.2:=g1;have:Q b+1<=2*e.1:=glow;omega)
theorem fact_end {n i:Nat} (h1:1<=i) (h2:i=n\/(n<=1/\i=1)):J0 i=J0 n:=by
 rcases h2 with rfl|⟨h2,rfl⟩
 ·rfl
 ·match n,h2 with
  | 0,_=>rfl
  | 1,_=>rfl
structure RaSt (w wr:World) (B:Nat) (X:Nm) (p q:Int) (k:Nat) (v:Int):Prop where
 a:RaC wr w.heap.size p q
 x:VnC wr B X
 i:IntAt wr X.neg X.a X.n X.cap k v
 no:NoC wr (w.heap.size+1)
 be:Below w.heap.size w wr
 l:w.heap.size+1<B
theorem RaSt.bw {w wr wr':World} {B:Nat} {X:Nm} {p q:Int} {k:Nat} {v:Int} (h:RaSt w wr B X p q k v) (hb:Below wr.heap.size wr wr'):RaSt w wr' B X p q k v :=
 ⟨h.a.bw hb,h.x.bw hb,h.i.bw hb,h.no.bw hb,zB h.be hb,h.l⟩
theorem RaC.offv {w:World} {B B':Nat} {p q:Int} (h:RaC w B p q) (hne:B≠B') (y:Nm):RaC (zCC w B' y) B p q:=by
 obtain⟨q0,q1⟩:=h;constructor<;>simp[go_sem,q0,q1,hne,Ne.symm hne]
theorem RaSt.put {w wr:World} {B:Nat} {X Y:Nm} {p q:Int} {k k':Nat} {v v':Int} (h:RaSt w wr B X p q k v) (hy:IntAt wr Y.neg Y.a Y.n Y.cap k' v'):RaSt w (zCC wr B Y) B Y p q k' v' :=
 ⟨h.a.offv (by have:=h.l;omega) Y,h.x.put Y,hy.putv h.x Y,h.no.offv (by have:=h.l;omega) Y,zD2 h.be (by have:=h.l;omega) _ _,h.l⟩
theorem zPH (w:World) (p q:Int) (n b:Nat) (hr:rok p q) (hp:0<=p) (I2:p<=100*q) (hn:n<=100) (E6:40<=b) (hb:b<=2000) :
  Calls Tryz.prog 103 #[.agg #[.int .i64 p,.int .i64 q],.int .i64 n,.int .i64 b] w (λ r w'=>∃ lo hi,zEL (zDS p q n) b lo hi/\zH w b 6000 lo hi r w'):=by
 obtain⟨W,hW⟩:∃ W,W=(w.alloc (.cells #[.int .i64 p,.int .i64 q] 23)).alloc (.cells zCq 31):=⟨_,rfl⟩;have j7:Below w.heap.size w W:=by rw[hW];exact bl2 _ _ _
 have A:RaC W w.heap.size p q:=by rw[hW];constructor<;>simp[go_sem]
 have R:NoC W (w.heap.size+1):=by rw[hW];constructor<;>simp[go_sem]
 have hq:0<q:=by have:=hr.2.2.1;omega
 have HR:=zC hr;obtain⟨r1,r2,r3,r4⟩:=hr;have lA:=A.lt;have lR:=R.lt;obtain⟨x0,x1⟩:=A
 go_enter Tryz.func103,Tryz.ntmps103
 go_wp2_with fail;rw[<- hW];clear hW;refine (zBB q n _ (by omega) (by omega) (by omega)).mono ?_
 rintro r' w1 ⟨m7,a1,n1,c1,rfl,o8,b9⟩;have A1:RaC w1 w.heap.size p q:=RaC.bw ⟨x0,x1⟩ b9;have R1:=R.bw b9;have A6:=zB j7 b9;have rz:=R1.lt;clear R j7 b9 x0 x1 lA lR;obtain⟨V1,Q2⟩:∃ V1,V1=w1.alloc (.cells #[.bool m7,.slice a1 n1 c1] 29):=⟨_,rfl⟩;have ag:Below w1.heap.size w1 V1:=by rw[Q2];exact bl1 _ _
 have mJ:RaSt w V1 w1.heap.size ⟨m7,a1,n1,c1⟩ p q (4*n+4+4*1) (q ^ n*J0 1):=⟨A1.bw ag,by rw[Q2];exact zUF w1 ⟨m7,a1,n1,c1⟩ _,by
  have e:q ^ n*J0 1=q ^ n:=by show q ^ n*(1*((0:Nat)+1))=_;omega
  rw[e];exact (o8.bw ag).mono (by omega),R1.bw ag,zB A6 ag,rz⟩
 go_wp2_with fail;rw[<- Q2];clear Q2 ag o8 A1 R1 A6;obtain⟨BX,Cm⟩:∃ BX,BX=w1.heap.size:=⟨_,rfl⟩;rw[<- Cm] at mJ ⊢;clear Cm rz
 go_loopw [8] (λ kk wr=>∃ (i:Nat) (X:Nm),kk=.int .i64 ((i:Int)+1)/\1<=i/\(i<=n\/i=1)/\RaSt w wr BX X p q (4*n+4+4*i) (q ^ n*J0 i)) (λ kk _=>n+2-(intOf kk).toNat)
 case atStart=>exact⟨1,_,rfl,YE _,Or.inr rfl,mJ⟩
 case round =>
  obtain⟨i,X,rfl,hi,hi2,st⟩:=hrel;clear mJ
  by_cases I7:i+1<=n
  ·have lM:(i:Int)+1<=(n:Int):=by omega
   have HX:=zC st.x;have HI:=zC st.i;have nX:=zC st;clear st;go_wp2_with fail;have A9:Below wr.heap.size wr wr.drew:=(Below.refl _ _).drew;have EJ:=zC (show ∀ w',Below wr.heap.size wr w'->(nK0 w' BX X) from λ w' hB=>⟨((zA HX).bw hB).c.c0,((zA HX).bw hB).c.c1⟩)
   refine AnyL.start (S:=λ w'=>nK0 w' BX X) (l:=4) (by kernel_rfl) (zA EJ _ A9) (λ hHeld=>?_)
   refine AnyL.take (i:=0) (oi:={ dst:=some 18,op:=Go.Op.load 29 (Go.Operand.tmp 7),type:=29,pos := "rare.go:23",after:=#[],guard:=none }) (v:=.agg X.q) rfl (by kernel_rfl) (by kernel_rfl) (by kernel_rfl) (by kernel_rfl) (λ _ _ _ h=>h) (Or.inl ⟨by rfl,λ w hSw=>?_⟩) hHeld ?_
   ·obtain⟨s0,s1⟩:=hSw;go_simp
   try simp only[Act.put,Yv,Yw,Yx]
   refine AnyL.take (i:=1) (oi:={ dst:=some 19,op:=Go.Op.move (Go.Operand.tmp 8),type:=3,pos := "rare.go:23",after:=#[],guard:=none }) (v:=.int .i64 ((i:Int)+1)) rfl (by kernel_rfl) (by kernel_rfl) (by kernel_rfl) (by kernel_rfl) (λ _ _ _ h=>h) (Or.inl ⟨by rfl,λ w hSw=>?_⟩) hHeld ?_
   ·obtain⟨s0,s1⟩:=hSw;go_simp
   try simp only[Act.put,Yv,Yw,Yx]
   refine AnyL.one (i:=2) (o:={ dst:=some 20,op:=Go.Op.call { callee:=Go.Callee.value (Go.Operand.func 33),args:=#[Go.Operand.tmp 19],argTypes:=#[3] },type:=29,pos := "rare.go:23",after:=#[{ on:=1,ground:=Go.Ground.data }],guard:=none }) (by kernel_rfl) rfl (λ Kc H8=>?_)
   go_simp
   refine (zD ((i:Int)+1) _ (by omega) (by omega)).mono ?_
   rintro r' w1 ⟨m7,a1,n1,c1,rfl,o8,b9⟩;have p9:=zB A9 b9;clear b9;go_wp2_with fail;refine H8.out _ _ (zA EJ _ p9) (λ hHeld=>?_)
   clear H8 Kc
   try simp only[Act.put,Yv,Yw,Yx]
   refine AnyL.one (i:=3) (o:={ dst:=some 21,op:=Go.Op.call { callee:=Go.Callee.value (Go.Operand.func 83),args:=#[Go.Operand.tmp 18,Go.Operand.tmp 20],argTypes:=#[29,29] },type:=29,pos := "rare.go:23",after:=#[{ on:=0,ground:=Go.Ground.data },{ on:=2,ground:=Go.Ground.data },{ on:=2,ground:=Go.Ground.chain }],guard:=none }) (by kernel_rfl) rfl (λ Kc H8=>?_)
   go_simp
   refine (zT _ _ _ _ _ _ _ _ (4*n+4+4*i) 4 (q ^ n*J0 i) ((i:Int)+1) _ ((zA HI).bw p9) o8 (by omega) (by omega)).mono ?_
   rintro r' w2 ⟨j6,a2,n2,c2,rfl,A5,j8⟩;have s9:=zB p9 j8;clear j8 o8;go_wp2_with fail;refine H8.out _ _ (zA EJ _ s9) (λ hHeld=>?_)
   clear H8 Kc
   try simp only[Act.put,Yv,Yw,Yx]
   have VX:=(zA HX).bw s9;have lX:=VX.lt;obtain⟨⟨z0,z1⟩,zf⟩:=VX;refine AnyL.last (o:={ dst:=none,op:=Go.Op.store 29 (Go.Operand.tmp 7) (Go.Operand.tmp 21),type:=0,pos := "rare.go:23",after:=#[{ on:=3,ground:=Go.Ground.data },{ on:=3,ground:=Go.Ground.chain },{ on:=0,ground:=Go.Ground.phase },{ on:=1,ground:=Go.Ground.phase },{ on:=2,ground:=Go.Ground.phase },{ on:=3,ground:=Go.Ground.phase }],guard:=none }) (by kernel_rfl) rfl (by kernel_rfl) (λ Kc H8=>?_)
   go_simp
   refine H8.out _ _ ?_;clear H8 Kc z0 z1 zf EJ;have stn:=((zA nX).bw s9).put (Y:=⟨j6,a2,n2,c2⟩) A5;unfold zCC at stn;rw[show q ^ n*J0 i*((i:Int)+1)=q ^ n*J0 (i+1) by rw[Int.mul_assoc];rfl] at stn
   go_wp2_with fail
   go_roundw
   case rel=>exact⟨i+1,_,by go_num,by omega,Or.inl (by omega),stn⟩
   case measure=>simp[intOf];omega
  ·have lM:¬ (i:Int)+1<=(n:Int):=by omega
   have QO:=fact_end (n:=n) hi (by omega)
   have HI:=zC (show IntAt wr X.neg X.a X.n X.cap 900 (q ^ n*J0 n) by rw[<- QO];exact st.i.mono (by omega))
   have A9:Below wr.heap.size wr wr.drew:=(Below.refl _ _).drew;have HK:=zC (show ∀ w',Below wr.heap.size wr w'->( rK w' w.heap.size p q (nK0 w' BX X)) from λ w' hB=>⟨(st.a.bw hB).c0,(st.a.bw hB).c1,(st.x.bw hB).c.c0,(st.x.bw hB).c.c1⟩)
   have la:=st.a.lt;have lx:=st.x.lt;have lr:=st.no.lt;have lb:=st.l;have R:=st.no;have nc:=st.be;have n1:w.heap.size≠w.heap.size+1:=by omega
   have n2:w.heap.size+1≠w.heap.size:=by omega
   have n3:BX≠w.heap.size+1:=by omega
   have n4:w.heap.size+1≠BX:=by omega
   have hD:0<q ^ n*J0 n:=Int.mul_pos (Int.pow_pos hq) (zCP n)
   obtain⟨lz,t,N,e1,e2,e3,e4,e5⟩:=zD0 (B:=b) (e:=7) (by omega) (yA (n:=p) hq b) (by
    have h1:=YA I2 (show 0<=Q b by have:=zE b;omega)
    have h2:=YF hp (show 0<=Q b by have:=zE b;omega)
    have h3:100*q*Q b=100*Q b*q:=by grind
    have:=zAD (zGE (n:=p) (m:=100*Q b) hq b (by omega) (by omega))
    have e9:Q (b+7)=Q b*128:=by rw[jF];rfl
    have:=zE b
    omega)
   have HT:=zC (And.intro e1 (And.intro e2 (And.intro e4 e5)));have M9:=zC (rare_pr (n:=n) hp hq E6 hb (by omega) e4 e5)
   have TC:=zC (show Q (b+eb t)<P 1000 by
    have:=zBW (show t<=17 by omega)
    rw[eb_17] at this;rw[<- Q_P];have h1:=zJ (show b+eb t+1<=16*1000 by omega)
    have h2:Q (b+eb t+1)=2*Q (b+eb t):=rfl;have:=zE (b+eb t)
    omega)
   have Ho:=zC (yA (n:=p ^ n) hD b);clear e1 e2 e4 e5 st QO;obtain⟨y0,y1,y2,y3⟩:=zA HK _ (Below.refl _ _);go_wp2_with fail
   go_region_held3 (λ w'=> rK w' w.heap.size p q (nK0 w' BX X)) (first|exact zA HK _ (by with_reducible first|exact A9|exact I5|exact E9|exact s9|exact p9)|(dsimp only[cK,cK0,nK,nK0,rK,rK0];go_keep)|go_keep)
    (first
     | (go_at_call 141;have K4:=E9;refine (zBK _ v3 (b/16+1000+10) b _ _ aT (zA hO) (by omega) (by omega) (by omega)).mono ?_;rintro r' w5 ⟨v4,rfl,aG,qh,D6⟩;have EN:=zC aG;clear aG;have I5:=zB E9 D6;obtain⟨q0,q1,q2,q3,q4,q5⟩:=R.bw I5;obtain⟨z0,z1,z2,z3⟩:=zA HK _ I5)
     | (go_at_call 142;have K4:=s9;refine (zHD _ v2 p q 1000 b t N lz (ofI (p ^ n) (q ^ n*J0 n) b) (SpAt.mono X6 (by omega)) (zA mW) (zA Ho) (zA HR) E6 (by omega) hp (zA HT).1 (zA HT).2.1 (by omega) (zA HT).2.2.1 (zA HT).2.2.2 (zA TC) (by omega) (by omega)).mono ?_;rintro r' w4 ⟨v3,rfl,G3,aT,y9⟩;have hO:=zC G3;clear G3;have E9:=zB s9 y9)
     | (go_at_call 88;have K4:=p9;refine (jP _ _ _ _ _ _ _ _ (4*n+4) 900 b (p ^ n) (q ^ n*J0 n) _ o8 ((zA HI).bw p9) (by omega) (by omega) hD).mono ?_;rintro r' w3 ⟨v2,rfl,P2,X6,m9⟩;have mW:=zC P2;clear P2;have s9:=zB p9 m9)
     | (go_at_call 102;refine (zBB p n _ (by omega) (by omega) (by omega)).mono ?_;rintro r' w2 ⟨j6,a2,n2,c2,rfl,o8,j8⟩;have p9:=zB A9 j8))
   all_goals
    go_wp2_with fail;refine bodyPost_ret (v:=.agg v4.q) (by simp[results,Tryz.results103,go_sem,q0,q1,q2,q3,q4]) rfl ⟨_,_,zA M9,v4,rfl,zA EN,?_,?_⟩
    ·exact SpAt.put5 (qh.mono (by omega)) q0 q1 q2 q3 q4 _ _ _ _ _
    ·exact jY (zB nc I5) (by omega) _ _ _ _ _
theorem zRN (x y:Bool) (a a':Option Addr) (n c n' c':Nat) (b:Int) (w:World):(Instr.field 38 (.agg #[.bool x,.slice a n c,.bool y,.slice a' n' c',.int .i64 b]) 0).run Tryz.prog w=.ok (.agg #[.bool x,.slice a n c]) w:=by kernel_rfl
theorem fieldS1 (x y:Bool) (a a':Option Addr) (n c n' c':Nat) (b:Int) (w:World):(Instr.field 38 (.agg #[.bool x,.slice a n c,.bool y,.slice a' n' c',.int .i64 b]) 1).run Tryz.prog w=.ok (.agg #[.bool y,.slice a' n' c']) w:=by kernel_rfl
end Go.Proofs.YtgmnknmjainabacGreat
namespace Go.Proofs.YtgmnknmjainabacGreat.Ex
theorem dn_key {s h x Y K C1 A t q:Rat} (hx:0<=x) (hh:0<h) (h1:h<=1) (hY:x+h<=Y) (s0:0<=s) (sK:s<=K) (hA:A=2*Y+1) (ib:C1=K+A*(1+2*(Y*K))+2*(A*A)*(K+1+2*(Y*K))) (ht:t=h*(2*x+h)) (hq:1-t-2*(t*t)<=q):s+h<=(s+h+2*(x*h)*s)*q+C1*(h*h):=by
 have K0:0<=K:=by grind
 have Y0:0<=Y:=by grind
 have h0:=YC hh;have gF:=Yz h0 h0;have a0:0<=2*x+h:=by grind
 have aA:2*x+h<=A:=by grind
 have A0:0<=A:=by grind
 have t0:0<=t:=by rw[ht];exact Yz h0 a0
 have tA:t<=A*h:=by have:=Yy aA h0;rw[ht];grind
 have tt:t*t<=A*A*(h*h):=by
  have p1:=Yy tA t0;have p2:=YB tA (Yz A0 h0);grind
 obtain⟨p,hp⟩:∃ p,p=s+h+2*(x*h)*s:=⟨_,rfl⟩;have xh:=Yz hx h0;have xhs:=Yz xh s0;have p0:0<=p:=by rw[hp];grind
 have xs:x*s<=Y*K:=Rat.le_trans (YB (show x<=Y by grind) s0) (Yy sK Y0)
 have pB:p<=K+1+2*(Y*K):=by
  have n1:=YB h1 (Yz hx s0);rw[hp];grind
 have m1:=Yy hq p0;rw[<- hp];have e1:p*t=2*(x*h)*s+h*h*s+t*(h*(1+2*(x*s))):=by rw[hp,ht];grind
 have b1:=Yy sK gF;have c0:0<=h*(1+2*(x*s)):=Yz h0 (by have:=Yz hx s0;grind)
 have b2:=YB tA c0;have b3:=Yy (show 1+2*(x*s)<=1+2*(Y*K) by grind) (Yz A0 gF)
 have pt:p*t<=2*(x*h)*s+(K+A*(1+2*(Y*K)))*(h*h):=by
  rw[e1];have e2:A*h*(h*(1+2*(x*s)))=A*(h*h)*(1+2*(x*s)):=by grind
  rw[e2] at b2;have e3:(K+A*(1+2*(Y*K)))*(h*h)=h*h*K+A*(h*h)*(1+2*(Y*K)):=by grind
  rw[e3];generalize h*h*s=w1 at *;generalize h*h*K=w2 at *;generalize A*(h*h)*(1+2*(x*s))=w3 at *;generalize A*(h*h)*(1+2*(Y*K))=w4 at *;generalize t*(h*(1+2*(x*s)))=w5 at *;generalize 2*(x*h)*s=w6 at *;clear e1 e2 e3 m1 hp ht ib;grind
 have q1:=YB pB (zO t);have q2:=Yy tt (show 0<=K+1+2*(Y*K) by have:=Yz Y0 K0;grind)
 have e4:C1*(h*h)=(K+A*(1+2*(Y*K)))*(h*h)+2*((K+1+2*(Y*K))*(A*A*(h*h))):=by rw[ib];grind
 have e5:p*(1-t-2*(t*t))=p-p*t-2*(p*(t*t)):=by grind
 rw[e5] at m1;rw[e4];have e6:p=s+h+2*(x*h)*s:=hp;generalize p*q=w1 at *;generalize p*t=w2 at *;generalize p*(t*t)=w3 at *;generalize (K+1+2*(Y*K))*(t*t)=w4 at *;generalize (K+1+2*(Y*K))*(A*A*(h*h))=w5 at *;generalize (K+A*(1+2*(Y*K)))*(h*h)=w6 at *;generalize 2*(x*h)*s=w7 at *;clear e1 ib ht hp tt pB b1 b2 b3 c0 e4 e5;grind
theorem eF_dn {Y K V:Rat} (B:Bnd Y K V):∃ C D,0<=C/\0<D/\D<=1/\∀ x h,0<=x->0<h->h<=D->x+h<=Y->∃ z,Null z/\∃ N:Nat,∀ M,N<=M->eF x M+h*ex (-(x*x)) M<=eF (x+h) M+C*(h*h)+z M:=by
 obtain⟨A,hA⟩:∃ A,A=2*Y+1:=⟨_,rfl⟩;obtain⟨C1,ib⟩:∃ C1,C1=K+A*(1+2*(Y*K))+2*(A*A)*(K+1+2*(Y*K)):=⟨_,rfl⟩;have y0:=B.y0;have k0:=B.k0;have v1:=B.v1;have yk:=Yz y0 k0;have A0:0<=A:=by grind
 have AA:=Yz A0 A0
 have rJ:0<=C1:=by
  have a:=Yz A0 (show 0<=1+2*(Y*K) by grind)
  have b:=Yz (show 0<=2*(A*A) by grind) (show 0<=K+1+2*(Y*K) by grind)
  grind
 have A4:0<4*A:=by grind
 have dm:1/(4*A)*(4*A)=1:=rdm A4;have d0:0<1/(4*A):=zF (by grind) A4
 refine⟨C1*V,1/(4*A),Yz rJ (by grind),d0,jV A4 (by grind),λ x h hx hh hD hY=>?_⟩
 have h1:h<=1:=Rat.le_trans hD (jV A4 (by grind))
 have XC:h*A<=1/4:=by have:=YB hD A0;grind
 obtain⟨t,ht⟩:∃ t,t=h*(2*x+h):=⟨_,rfl⟩;have h0:=YC hh;have t0:0<=t:=by rw[ht];exact Yz h0 (by grind)
 have t4:t<=1/4:=by
  have:=Yy (show 2*x+h<=A by grind) h0
  rw[ht];grind
 have sqe : -((x+h)*(x+h)) = -(x*x) + -t:=by rw[ht];grind
 have eb:Bdd (eS (x+h)):=Bdd.of_le K 0 λ M _=>⟨by have:=jR (x:=x+h) (by grind) M;grind,B.s _ (by grind) hY M⟩
 have hz:=(zA5 (-(x*x)) (-t)).bmul eb;have hT:=zQ8 hx
 have M6:Null (λ M=>eT x (M-1)):=λ e he=>by
  obtain⟨N,hN⟩:=hT e he;exact⟨N+1,λ M hM=>hN (M-1) (by omega)⟩
 have fW:=(M6.bmul (Bdd.const (2*x*h))).bmul (jZ (-(x*x)));obtain⟨N,hN⟩:=zA6 (-(x*x));refine⟨_,fW.add hz,N+2,λ M hM=>?_⟩
 have v0:=hN M (by omega)
 have vV:ex (-(x*x)) M<=V:=B.v _ (zO x) (by
  have xx:x*x<=Y*Y:=Rat.le_trans (Yy (show x<=Y by grind) hx) (YB (show x<=Y by grind) y0)
  have:=Yz y0 y0
  grind) M
 have q:=zD9 t0 t4 (M:=M) (by omega)
 have qlo:1-t-2*(t*t)<=ex (-t) M:=by
  have:=(zAB (h := -t) (b:=t) ⟨by grind,by grind⟩ t4 (M:=M) (by omega)).1
  show _<=E (-t) M
  grind
 have q1:ex (-t) M<=1:=by
  have:=q.2;have tt3:t*t<=t*(1/4):=Yy t4 t0;grind
 obtain⟨m,rfl⟩:∃ m,M=m+1:=⟨M-1,by omega⟩
 have g:=zQ4 hx h0 m;have e2:eS x (m+1)=eS x m+eT x m:=rfl;have T0:=zAS hx m;have k:=dn_key (Y:=Y) (K:=K) hx hh h1 hY (jR hx (m+1)) (B.s x hx (by grind) (m+1)) hA ib ht qlo
 simp only[Nat.add_sub_cancel];rw[zOS,zOS,sqe];have e4:eS x m=eS x (m+1)-eT x m:=by grind
 rw[e4] at g;generalize ex (-(x*x)) (m+1)=v at *;generalize ex (-(x*x) + -t) (m+1)=vt at *;generalize ex (-t) (m+1)=qq at *;generalize eS (x+h) (m+1)=s' at *;generalize eS x (m+1)=s at *;generalize eT x m=T at *;have k1:=YB k v0;have g2:s+h+2*(x*h)*s<=s'+2*(x*h)*T:=by grind
 have vq:=Yz v0 q.1;have k2:=YB g2 vq;have w0:=Yz (Yz (Yz hx h0) T0) v0;have w1:=Yy q1 w0;have gF:=Yz h0 h0;have k3:=Yy vV (Yz rJ gF);have r1:((s+h+2*(x*h)*s)*qq+C1*(h*h))*v=(s+h+2*(x*h)*s)*(v*qq)+C1*(h*h)*v:=by grind
 have r2:(s'+2*(x*h)*T)*(v*qq)=s'*(v*qq)+2*(x*h*T*v*qq):=by grind
 have r3:T*(2*x*h)*v+(v*qq-vt)*s'=2*(x*h*T*v*1)+s'*(v*qq)-s'*vt:=by grind
 have r4:(s+h)*v=s*v+h*v:=by grind
 have r5:C1*V*(h*h)=C1*(h*h)*V:=by grind
 rw[r1,r4] at k1;rw[r2] at k2;rw[r3,r5];generalize (s+h+2*(x*h)*s)*(v*qq)=g1 at *;generalize s'*(v*qq)=g3 at *;generalize x*h*T*v*qq=g4 at *;generalize x*h*T*v*1=g5 at *;generalize C1*(h*h)*v=g6 at *;generalize C1*(h*h)*V=g7 at *;generalize s'*vt=g8 at *;generalize s*v=g9 at *;generalize h*v=g10 at *;clear k g hz M6 fW hT eb r1 r2 r3 r4 r5 ib dm;grind
end Go.Proofs.YtgmnknmjainabacGreat.Ex
