/-
  Its own texts.
-/
import Derived.Test.YtgmnknmjainababGreatK09
set_option maxRecDepth 100000
set_option maxHeartbeats 40000000
set_option linter.unnecessarySimpa false
set_option linter.unusedSimpArgs false
set_option linter.unusedVariables false
namespace Go.Proofs.YtgmnknmjainababGreat
open Ex
namespace Ex
theorem has_inv {a b L H:Rat} {y z:Nat->Rat} (hy:Has a b y) (ha:0<a) (hz:Null (λ M=>z M*y M-1)) (N0:Nat) (L4:∀ M,N0<=M->0<=z M) (h1:L*b<=1) (h2:1<=H*a):Has L H z:=λ e he=>by
 have js:=hy.le;have hb:0<b:=by grind
 obtain⟨l,hl⟩:=AB.self L;obtain⟨h,hh⟩:=AB.self H;have l0:=hl.nonneg;have h0:=hh.nonneg;obtain⟨O5,Z3⟩:=hl;obtain⟨ID,hh2⟩:=hh;have hK:0<2*(l+h+e+1):=by grind
 have hae:=Rat.mul_pos he ha;have hδ:=zH hae hK;have hδe:=rdm (a:=e*a) hK;obtain⟨N1,k1⟩:=hy _ hδ;obtain⟨N2,k2⟩:=hz _ hδ;refine⟨N0+N1+N2,λ M hM=>?_⟩
 obtain⟨y1,y2⟩:=k1 M (by omega)
 obtain⟨z1,z2⟩:AB (z M*y M-1) (e*a/(2*(l+h+e+1))):=k2 M (by omega)
 have zp:=L4 M (by omega)
 generalize e*a/(2*(l+h+e+1))=δ at *;generalize z M=Z at *;generalize y M=Y at *;have ko:δ*(2*(l+h+e+1))=2*(δ*l)+2*(δ*h)+2*(δ*e)+2*δ:=by grind
 rw[ko] at hδe;have p1:=XQ (XV hδ) l0;have p2:=XQ (XV hδ) h0;have p3:=Rat.mul_pos hδ he;have p4:=XQ (XV he) (show 0<=b-a by grind)
 constructor
 ·refine Rat.not_lt.1 λ hn=>?_
  have q1:=XQ zp (show 0<=b+δ-Y by grind)
  have q2:=Rat.mul_pos (show 0<L-e-Z by grind) (show 0<b+δ by grind)
  have q3:L*δ<=δ*l:=by
   have:=XQ (XV hδ) (show 0<=l-L by grind)
   grind
  grind
 ·refine Rat.not_lt.1 λ hn=>?_
  have q1:=XQ zp (show 0<=Y-(a-δ) by grind)
  have q4:δ<a:=by
   refine Rat.not_le.1 λ hc=>?_
   have:=XQ (show 0<=δ-a by grind) (XV he)
   grind
  have q2:=Rat.mul_pos (show 0<Z-(H+e) by grind) (show 0<a-δ by grind)
  have q3:H*δ<=δ*h:=by
   have:=XQ (XV hδ) (show 0<=h-H by grind)
   grind
  grind
theorem zK4 {a b c d:Rat} {u v x m n:Nat->Rat} (hu:Has a b u) (hv:Has c d v) (hm:Null m) (hn:Null n) (N:Nat) (h1:∀ M,N<=M->u M<=x M+m M) (N':Nat) (h2:∀ M,N'<=M->x M<=v M+n M):Has a d x:=λ e he=>by
 obtain⟨N1,k1⟩:=hu (e/2) (by grind)
 obtain⟨N2,k2⟩:=hv (e/2) (by grind)
 obtain⟨N3,k3⟩:=hm (e/2) (by grind)
 obtain⟨N4,k4⟩:=hn (e/2) (by grind)
 refine⟨N+N'+N1+N2+N3+N4,λ M hM=>?_⟩
 have g1:=k1 M (by omega)
 have g2:=k2 M (by omega)
 obtain⟨g3,g4⟩:=k3 M (by omega)
 obtain⟨g5,g6⟩:=k4 M (by omega)
 have g7:=h1 M (by omega)
 have g8:=h2 M (by omega)
 constructor<;>grind
end Ex
theorem inv_has {B:Nat} {p:Int × Int} {x:Rat} {lo hi:Int} (hp:0<p.1) (h:Iv B p (Ev (λ _ => -x))) (h1:lo*p.2<=Q B*Q B) (h2:Q B*Q B<=hi*p.1):Iv B (lo,hi) (Ev (λ _=>x)):=by
 have q:=zY B;obtain⟨c,hc,N,hN⟩:=zCV (Bdd.const x);have hz:=zLS (Bdd.const x);have q2:=Rat.mul_pos q q;have DN:(0:Rat)<(p.1:Rat):=by exact_mod_cast hp
 refine has_inv h (zH DN q) hz N (λ M hM=>by have:=hN M hM;grind) ?_ ?_
 ·have e1:=rdm (a:=(lo:Rat)) q
  have e2:=rdm (a:=(p.2:Rat)) q;have g:=zX h1;rw[Ye,Ye] at g;simp only[];generalize (lo:Rat)/(Q B:Rat)=u at *;generalize (p.2:Rat)/(Q B:Rat)=v at *;rw[<- e1,<- e2] at g;refine Rat.not_lt.1 λ hn=>?_
  have:=Rat.mul_pos (show 0<u*v-1 by grind) q2
  grind
 ·have e1:=rdm (a:=(hi:Rat)) q
  have e2:=rdm (a:=(p.1:Rat)) q;have g:=zX h2;rw[Ye,Ye] at g;simp only[];generalize (hi:Rat)/(Q B:Rat)=u at *;generalize (p.1:Rat)/(Q B:Rat)=v at *;rw[<- e1,<- e2] at g;refine Rat.not_lt.1 λ hn=>?_
  have:=Rat.mul_pos (show 0<1-u*v by grind) q2
  grind
open Ex
namespace Ex
theorem sqrt_has {a b r t:Rat} {x y:Nat->Rat} (h:Has a b x) (cY:Null (λ M=>y M*y M-x M)) (N0:Nat) (hy:∀ M,N0<=M->0<=y M) (h1:r*r<=a) (h2:b<=t*t) (ht:0<=t):Has r t y:=λ e he=>by
 have he2:=Rat.mul_pos he he;obtain⟨N1,k1⟩:=h (e*e/4) (by grind)
 obtain⟨N2,k2⟩:=cY (e*e/4) (by grind)
 refine⟨N0+N1+N2,λ M hM=>?_⟩
 obtain⟨g1,g2⟩:=k1 M (by omega)
 obtain⟨g3,g4⟩:=k2 M (by omega)
 have g5:=hy M (by omega)
 simp only[] at g3 g4;generalize x M=X at *;generalize y M=Y at *;constructor
 ·refine Rat.not_lt.1 λ hn=>?_
  have p1:=XQ (show 0<=r-Y-e by grind) (show 0<=r+Y by grind)
  have p2:=XQ (show 0<=r-e by grind) (XV he)
  have p3:=XQ g5 (XV he);grind
 ·refine Rat.not_lt.1 λ hn=>?_
  have p1:=XQ (show 0<=Y-t-e by grind) (show 0<=Y+t by grind)
  have p2:=XQ (show 0<=Y-e by grind) (XV he)
  have p3:=XQ ht (XV he);grind
theorem Bdd.half {l:Nat->Rat} (h:Bdd l):Bdd (λ M=>l M/2):=by
 obtain⟨K,N,k0,hk⟩:=h;exact⟨K,N,k0,λ M hM=>by obtain⟨h1,h2⟩:=hk M hM;constructor<;>grind⟩
theorem isLog_Ev {l:Nat->Rat} (h:Bdd l):IsLog l (Ev l):=⟨h,null_zero.of_eq λ M=>by grind⟩
theorem Lg_left {y b:Rat} (hy:AB y (1/2)) {a:Nat} (hb:AB (pw y a) b) (i:Nat):AB (Lg y (a+i)-Lg y a) (b*(1-q2 i))/\AB (pw y (a+i)) (b*q2 i):=by
 have b0:=hb.nonneg
 induction i with
 | zero =>
  have e:q2 0=1:=rfl;rw[e];simp only[Nat.add_zero];refine⟨?_,hb.mono (by grind)⟩
  constructor<;>grind
 | succ i ih =>
  obtain⟨h1,h2⟩:=ih;have e:Lg y (a+(i+1))=Lg y (a+i)+pw y (a+i+1)/(((a+i:Nat):Rat)+1):=rfl;have e2:q2 (i+1)=q2 i/2:=rfl
  have h3:AB (pw y (a+i+1)) (b*q2 i/2):=by
   have h4:=hy.mul h2;have e3:pw y (a+i+1)=y*pw y (a+i):=by simp only[pw]
   rw[e3];exact h4.mono (by grind)
  have q:=yR i;have hbq:=XQ b0 (XV q)
  have h5:AB (pw y (a+i+1)/(((a+i:Nat):Rat)+1)) (b*q2 i/2):=by
   refine zA2 (zBE _) (h3.mono ?_);have kk:(0:Rat)<=((a+i:Nat):Rat):=by exact_mod_cast Nat.zero_le (a+i)
   have:=XQ kk (show 0<=b*q2 i/2 by grind)
   grind
  refine⟨?_,by rw[e2];exact h3.mono (by grind)⟩
  have h6:=h1.add h5;rw[e,e2];generalize pw y (a+i+1)/(((a+i:Nat):Rat)+1)=t at *;have h7:Lg y (a+i)+t-Lg y a=Lg y (a+i)-Lg y a+t:=by grind
  rw[h7];exact h6.mono (by grind)
theorem pw_opp (z:Rat) (k:Nat):pw (-z) (2*k+1) = -pw z (2*k+1):=by
 have e1:pw (-z) (2*k+1) = -z*pw (-z) (2*k):=by simp only[pw]
 have e2:pw z (2*k+1)=z*pw z (2*k):=by simp only[pw]
 rw[e1,e2,zIA];grind
end Ex
theorem root_has {B:Nat} {a:Int × Int} {l:Nat->Rat} (hl:Bdd l) (h:Iv B a (Ev l)) {r t:Int} (hr:r*r<=a.1*Q B) (LM:0<=t) (ht:a.2*Q B<=t*t):Iv B (r,t) (Ev (λ M=>l M/2)):=by
 have q:=zY B;have hq:0<Q B:=by have:=zG B;omega
 obtain⟨c,hc,N,hN⟩:=zCV hl.half;have e1:(λ M=>l M/2+l M/2)=l:=funext λ M=>by grind
 have ha:=yZ hl.half hl.half;rw[e1] at ha;refine sqrt_has h ha N (λ M hM=>by have:=hN M hM;grind) ?_ ?_ ?_
 ·have F8:((r*r:Int):Rat)<=((a.1*Q B:Int):Rat):=zX hr
  rw[Ye,Ye] at F8;refine yF q ?_;have e2:=rdm (a:=(r:Rat)) q;generalize (r:Rat)/(Q B:Rat)=R at *;rw[<- e2] at F8;have h3:R*R*(Q B:Rat)*(Q B:Rat)<=(a.1:Rat)*(Q B:Rat):=by grind
  exact Rat.le_of_mul_le_mul_right h3 q
 ·have F8:((a.2*Q B:Int):Rat)<=((t*t:Int):Rat):=zX ht
  rw[Ye,Ye] at F8;refine jZ q ?_;have e2:=rdm (a:=(t:Rat)) q;generalize (t:Rat)/(Q B:Rat)=R at *;rw[<- e2] at F8;have h3:(a.2:Rat)*(Q B:Rat)<=R*R*(Q B:Rat)*(Q B:Rat):=by grind
  exact Rat.le_of_mul_le_mul_right h3 q
 ·refine yF q ?_
  have:((0:Int):Rat)<=(t:Rat):=zX LM;have e0:((0:Int):Rat)=0:=rfl;rw[e0] at this;grind
def npT (B:Nat) (z:Int × Int):Nat->Int × Int
 | 0=>z
 | n+1=>kJ B (npT B z n) z
def nsT (B:Nat) (z:Int × Int):Nat->Int × Int
 | 0=>z
 | n+1=>if (n+2) % 2=0 then zAF (nsT B z n) (zE (npT B z (n+1)) 1 ((n:Int)+2)) else jJ (nsT B z n) (zE (npT B z (n+1)) 1 ((n:Int)+2))
theorem zN8 {B:Nat} {z:Int × Int} {x:Nat->Rat} (h:Iv B z x) (n:Nat):Iv B (npT B z n) (λ M=>pw (x M) (n+1)):=by
 induction n with
 | zero=>exact h.congr (null_zero.of_eq λ M=>by simp only[pw];grind)
 | succ n ih=>exact (ih.mul h).congr (null_zero.of_eq λ M=>by simp only[pw];grind)
theorem zM0 (n:Nat) (X:Rat):((1:Int):Rat)/(((n:Int)+2:Int):Rat)*X=X/(((n+1:Nat):Rat)+1):=by
 have e:(((n:Int)+2:Int):Rat)=((n+1:Nat):Rat)+1:=by
  rw[Rat.intCast_add,Rat.natCast_add];have e1:((2:Int):Rat)=2:=rfl;have e2:((n:Int):Rat)=(n:Rat):=rfl;have e3:((1:Nat):Rat)=1:=rfl;rw[e1,e2,e3];grind
 have e0:((1:Int):Rat)=1:=rfl;rw[e,e0,Yg,Yg,Rat.one_mul,Rat.mul_comm]
theorem nsT_has {B:Nat} {z:Int × Int} {x:Nat->Rat} (h:Iv B z x) (n:Nat):Iv B (nsT B z n) (λ M => -Lg (-x M) (n+1)):=by
 induction n with
 | zero =>
  refine h.congr (null_zero.of_eq λ M=>?_)
  have e:Lg (-x M) 1=0+pw (-x M) 1/(((0:Nat):Rat)+1):=rfl;have e1:pw (-x M) 1 = -x M*1:=rfl;have e2:((0:Nat):Rat)=0:=rfl;rw[show (0:Nat)+1=1 from rfl,e,e1,e2,Yg]
  have e3:((0:Rat)+1)⁻¹=1:=by decide +kernel
  rw[e3];grind
 | succ n ih =>
  have hs:=(zN8 h (n+1)).scale (n:=1) (d:=(n:Int)+2) (by omega) (by omega)
  have e:∀ M,Lg (-x M) (n+1+1)=Lg (-x M) (n+1)+pw (-x M) (n+1+1)/(((n+1:Nat):Rat)+1):=λ M=>rfl
  unfold nsT;split
  ·rename_i hp
   obtain⟨k,hk⟩:∃ k,n+1+1=2*k:=⟨(n+2)/2,by omega⟩
   refine (ih.sub hs).congr (null_zero.of_eq λ M=>?_)
   rw[e,zM0,hk,zIA];generalize pw (x M) (2*k)/(((n+1:Nat):Rat)+1)=T;grind
  ·rename_i hp
   obtain⟨k,hk⟩:∃ k,n+1+1=2*k+1:=⟨(n+1)/2,by omega⟩
   refine (ih.add hs).congr (null_zero.of_eq λ M=>?_)
   rw[e,zM0,hk,pw_opp];have e5 : -pw (x M) (2*k+1)/(((n+1:Nat):Rat)+1) = -(pw (x M) (2*k+1)/(((n+1:Nat):Rat)+1)):=by rw[Yg,Yg,Rat.neg_mul]
   rw[e5];generalize pw (x M) (2*k+1)/(((n+1:Nat):Rat)+1)=T;grind
theorem q2_Q (k:Nat):q2 k*(Q k:Rat)=1:=by
 induction k with
 | zero =>
  have e1:q2 0=1:=rfl;have e2:((Q 0:Int):Rat)=1:=rfl;rw[e1,e2];exact Rat.one_mul 1
 | succ k ih =>
  have e:q2 (k+1)=q2 k/2:=rfl;have e2:Q (k+1)=2*Q k:=rfl;rw[e,e2,Ye];have e3:((2:Int):Rat)=2:=rfl;rw[e3];grind
theorem q2_mono {a b : Nat} (h : a ≤ b) : q2 b ≤ q2 a := by
  induction b with
  | zero => have : a = 0 := by omega
            subst this; exact Rat.le_refl
  | succ b ih =>
    by_cases hb : a = b + 1
    · subst hb; exact Rat.le_refl
    · have := ih (by omega)
      have := yR b
      have e : q2 (b + 1) = q2 b / 2 := rfl
      rw [e]; grind
theorem zOP {x b:Rat} {k:Nat} (h:AB (pw x k) b):AB (pw (-x) k) b:=by
 by_cases hk:k % 2=0
 ·obtain⟨c,hc⟩:∃ c,k=2*c:=⟨k/2,by omega⟩
  subst hc;rw[zIA];exact h
 ·obtain⟨c,hc⟩:∃ c,k=2*c+1:=⟨k/2,by omega⟩
  subst hc;rw[pw_opp];exact h.neg
theorem near_has {B N:Nat} {z:Int × Int} {x:Nat->Rat} (h:Iv B z x) (N0:Nat) (hx:∀ M,N0<=M->AB (x M) (1/2)) (hN:zP (npT B z N)<=1\/B<=N+1):Iv B (jJ (nsT B z N) (-2,2)) (λ M => -Lg (-x M) M):=by
 have q:=zY B
 have hp:∃ N1,∀ M,N1<=M->AB (pw (x M) (N+1)) (2/(Q B:Rat)):=by
  rcases hN with hN|hN
  ·obtain⟨N1,h1⟩:=zN8 h N (1/(Q B:Rat)) (zH (by decide) q)
   refine⟨N1,λ M hM=>?_⟩
   obtain⟨g1,g2⟩:=h1 M hM;have r1 : -1<=(npT B z N).1:=by unfold zP zF7 at hN;split at hN<;>omega
   have r2:(npT B z N).2<=1:=by unfold zP zF7 at hN;split at hN<;>omega
   have c1:((-1:Int):Rat)/(Q B:Rat)<=((npT B z N).1:Rat)/(Q B:Rat):=jZ q (by rw[rdm q];exact zX r1)
   have c2:((npT B z N).2:Rat)/(Q B:Rat)<=((1:Int):Rat)/(Q B:Rat):=jZ q (by rw[rdm q];exact zX r2)
   have e1:((-1:Int):Rat)/(Q B:Rat) = -(1/(Q B:Rat)):=by
    rw[show ((-1:Int):Rat) = -1 from rfl,Yg,Yg,Rat.neg_mul]
   have e2:((1:Int):Rat)/(Q B:Rat)=1/(Q B:Rat):=rfl
   have e3:(2:Rat)/(Q B:Rat)=1/(Q B:Rat)+1/(Q B:Rat):=by
    rw[Yg,Yg];grind
   rw[e1] at c1;rw[e2] at c2;rw[e3];constructor<;>grind
  ·refine⟨N0,λ M hM=>(zNH (hx M hM) (N+1)).mono ?_⟩
   have h1:=q2_mono hN;refine Rat.le_trans h1 (yF q ?_);rw[q2_Q];decide
 obtain⟨N1,h1⟩:=hp
 intro e he
 obtain⟨N2,h2⟩:=nsT_has h N e he;refine⟨N0+N1+N2+(N+1),λ M hM=>?_⟩
 obtain⟨g1,g2⟩:=h2 M (by omega)
 have h3:=(Lg_left (hx M (by omega)).neg (zOP (h1 M (by omega))) (M-(N+1))).1
 rw[show N+1+(M-(N+1))=M by omega] at h3
 have q1:=yR (M-(N+1));have q3:(0:Rat)<2/(Q B:Rat):=zH (by decide) q
 have h4:=h3.mono (b:=2/(Q B:Rat)) (by
  have:=XQ (XV q3) (XV q1)
  grind)
 obtain⟨h5,h6⟩:=h4
 have e1:(((jJ (nsT B z N) (-2,2)).1:Int):Rat)/(Q B:Rat)=((nsT B z N).1:Rat)/(Q B:Rat)-2/(Q B:Rat):=by
  rw[<- zEX];unfold jJ;simp only[];rw[Rat.intCast_add];congr 1;rw[show ((-2:Int):Rat) = -2 from rfl];grind
 have e2:(((jJ (nsT B z N) (-2,2)).2:Int):Rat)/(Q B:Rat)=((nsT B z N).2:Rat)/(Q B:Rat)+2/(Q B:Rat):=by
  rw[<- yO];unfold jJ;simp only[];rw[Rat.intCast_add];congr 1
 rw[e1,e2];simp only[] at g1 g2;constructor<;>grind
theorem near_log {B N:Nat} {z:Int × Int} {l:Nat->Rat} (hl:Bdd l) (h:Iv B z (λ M=>Ev l M-1)) (N0:Nat) (hx:∀ M,N0<=M->AB (Ev l M-1) (1/2)) (hN:zP (npT B z N)<=1\/B<=N+1):Iv B (jJ (nsT B z N) (-2,2)) l:=by
 have h1:=near_has h N0 hx hN;have h2:=zG9 (y:=λ M => -(Ev l M-1)) N0 (λ M hM=>(hx M hM).neg)
 have h3:=(isLog_Ev hl).uniq (h2.congr_r (r':=Ev l) (null_zero.of_eq λ M=>by grind))
 exact h1.congr (h3.of_eq λ M=>rfl)
theorem zLH {B:Nat} {z:Int × Int} (hz:z.1<=z.2) (n:Nat):(npT B z n).1<=(npT B z n).2:=by
 cases n with
 | zero=>exact hz
 | succ n=>exact yK B
theorem zJ1 {B:Nat} {z:Int × Int} (h:Abs z (Q B)) (n:Nat):Abs (npT B z n) (Q B):=by
 induction n with
 | zero=>exact h
 | succ n ih=>exact zAC ih h (Int.le_refl _)
theorem zPL {B:Nat} {z:Int × Int} (hz:z.1<=z.2) (n:Nat):(nsT B z n).1<=(nsT B z n).2:=by
 induction n with
 | zero=>exact hz
 | succ n ih =>
  have h:=kR (n:=1) (d:=(n:Int)+2) (zLH (B:=B) hz (n+1)) (by omega) (by omega)
  unfold nsT;split
  ·unfold zAF;simp only[];omega
  ·unfold jJ;simp only[];omega
theorem nsT_abs {B:Nat} {z:Int × Int} (h:Abs z (Q B)) (n:Nat):Abs (nsT B z n) (((n:Int)+1)*Q B):=by
 induction n with
 | zero=>exact h.mono (by omega)
 | succ n ih =>
  obtain⟨g1,g2,g3,g4⟩:=zAH (n:=1) (d:=(n:Int)+2) (zJ1 h (n+1)) (by omega) (by omega) (by omega)
  obtain⟨k1,k2,k3,k4⟩:=ih;have e:((n+1:Nat):Int)+1=(n:Int)+1+1:=by omega
  rw[e,Int.add_mul,Int.one_mul];unfold nsT;split
  ·exact⟨by unfold zAF;simp only[];omega,by unfold zAF;simp only[];omega,by unfold zAF;simp only[];omega,by unfold zAF;simp only[];omega⟩
  ·exact⟨by unfold jJ;simp only[];omega,by unfold jJ;simp only[];omega,by unfold jJ;simp only[];omega,by unfold jJ;simp only[];omega⟩
structure RInv (B:Nat) (l:Nat->Rat) (i:Nat) (a:Int × Int):Prop where
 has:Iv B a (Ev (λ M=>l M/(Q i:Rat)))
 lo:Q B<=a.1
 le:a.1<=a.2
 hi:(a.2-Q B-2)*Q i<=Q B
theorem Bdd.over {l:Nat->Rat} (h:Bdd l) (i:Nat):Bdd (λ M=>l M/(Q i:Rat)):=by
 obtain⟨K,N,k0,hk⟩:=h;have q:=zY i;refine⟨K,N,k0,λ M hM=>zA2 q ((hk M hM).mono ?_)⟩
 have h1:((1:Int):Rat)<=(Q i:Rat):=zX (by have:=zG i;omega)
 have e1:((1:Int):Rat)=1:=rfl;rw[e1] at h1;have:=XQ (show 0<=(Q i:Rat)-1 by grind) k0
 grind
theorem zNF {B:Nat} {l:Nat->Rat} {a:Int × Int} (h:Iv B a (Ev l)) (h1:Q B<=a.1) (h2:a.1<=a.2) (h3:a.2<=2*Q B):RInv B l 0 a:=by
 refine⟨?_,h1,h2,?_⟩
 ·have e:(λ M=>l M/(Q 0:Rat))=l:=funext λ M=>by
   have e0:((Q 0:Int):Rat)=1:=rfl;have:=rdm (a:=l M) (show (0:Rat)<1 by decide)
   rw[e0];grind
  rw[e];exact h
 ·have e0:Q 0=1:=rfl
  rw[e0];omega
theorem zPR {q X t:Int} (hq:0<q) (hX:0<=X) (h0:0<=t) (h:t*t<=(q+X)*q):2*(t-q)<=X:=by
 refine Int.not_lt.1 λ hn=>?_
 have h1:2*q+X+1<=2*t:=by omega
 have h2:=Int.mul_le_mul h1 h1 (by omega) (by omega)
 have e1:2*t*(2*t)=4*(t*t):=by grind
 have e2:(2*q+X+1)*(2*q+X+1)=4*((q+X)*q)+(X*X+4*q+2*X+1):=by grind
 have h3:=Yb hX hX;omega
theorem zP0 {B i:Nat} {l:Nat->Rat} {a:Int × Int} (hl:Bdd l) (h:RInv B l i a) {r t:Int} (dh:0<=r) (hr:r*r<=a.1*Q B) (eI:a.1*Q B<(r+1)*(r+1)) (LM:0<=t) (ht:t*t<=a.2*Q B) (vy:a.2*Q B<(t+1)*(t+1)):RInv B l (i+1) (r,t+1):=by
 have q:=zG B;obtain⟨h1,h2,h3,h4⟩:=h;refine⟨?_,?_,?_,?_⟩
 ·have h5:=root_has (Bdd.over hl i) h1 (r:=r) (t:=t+1) hr (by omega) (by omega)
  have e:(λ M=>l M/(Q (i+1):Rat))=λ M=>l M/(Q i:Rat)/2:=funext λ M=>by
   have e2:Q (i+1)=2*Q i:=rfl;have e3:((2:Int):Rat)=2:=rfl;have qi:=zY i;have g1:=rdm (a:=l M) qi;rw[e2,Ye,e3];have g2:=rdm (a:=l M) (show (0:Rat)<2*(Q i:Rat) by grind)
   generalize l M/(Q i:Rat)=U at *;generalize l M/(2*(Q i:Rat))=V at *;have g3:(V-U/2)*(Q i:Rat)=0:=by grind
   rcases Rat.mul_eq_zero.1 g3 with g|g<;>grind
  rw[e];exact h5
 ·refine Int.not_lt.1 λ hn=>?_
  have h5:r+1<=Q B:=by simp only[] at hn;omega
  have h6:=Int.mul_le_mul h5 h5 (by omega) (by omega)
  have h7:=XK h2 (show 0<=Q B by omega)
  omega
 ·simp only[]
  refine Int.not_lt.1 λ hn=>?_
  have h5:t+2<=r:=by omega
  have h6:=Int.mul_le_mul (show t+1<=r by omega) (show t+1<=r by omega) (by omega) (by omega)
  have h7:=XK h3 (show 0<=Q B by omega)
  omega
 ·have h5:=zPR (q:=Q B) (X:=a.2-Q B) (t:=t) (by omega) (by omega) LM (by
   have e:Q B+(a.2-Q B)=a.2:=by omega
   rw[e];exact ht)
  have e2:Q (i+1)=2*Q i:=rfl;have qi:=zG i;have h6:=XK (show 2*(t+1-Q B-2)<=a.2-Q B-2 by omega) (show 0<=Q i by omega)
  have e3:(t+1-Q B-2)*(2*Q i)=2*(t+1-Q B-2)*Q i:=by grind
  show (t+1-Q B-2)*Q (i+1)<=Q B
  rw[e2,e3];omega
theorem zHF {B i:Nat} {l:Nat->Rat} {a:Int × Int} (hB:10<=B) (h:RInv B l i a) (q8:Q i=256):Abs (a.1-Q B,a.2-Q B) (Q (B-6))/\a.1-Q B<=a.2-Q B/\Iv B (a.1-Q B,a.2-Q B) (λ M=>Ev (λ M=>l M/(Q i:Rat)) M-1)/\∃ N0,∀ M,N0<=M->AB (Ev (λ M=>l M/(Q i:Rat)) M-1) (1/2):=by
 obtain⟨h1,h2,h3,h4⟩:=h
 have qB:Q B=64*Q (B-6):=by
  have:=jD (B-6) 6;rw[show B-6+6=B by omega] at this
  have e:Q 6=64:=rfl;rw[this,e,Int.mul_comm]
 have q6:16<=Q (B-6):=by have:=zK (show 4<=B-6 by omega);have e:Q 4=16:=rfl;omega
 have hq:=zY B
 have js:Abs (a.1-Q B,a.2-Q B) (Q (B-6)):=by
  rw[q8] at h4;exact⟨by simp only[];omega,by simp only[];omega,by simp only[];omega,by simp only[];omega⟩
 have DO:Iv B (a.1-Q B,a.2-Q B) (λ M=>Ev (λ M=>l M/(Q i:Rat)) M-1):=by
  have e1:(Q B:Rat)/(Q B:Rat)=1:=by rw[Yg,Rat.mul_inv_cancel _ (by grind)]
  have h5:Iv B (Q B,Q B) (λ _=>(1:Rat)):=by
   unfold Iv;simp only[];rw[e1];exact Has.const Rat.le_refl Rat.le_refl
  have h6:=h1.sub h5;unfold zAF at h6;exact h6
 refine⟨js,by omega,DO,?_⟩
 obtain⟨N,hN⟩:=DO (1/4) (by grind)
 refine⟨N,λ M hM=>?_⟩
 obtain⟨g1,g2⟩:=hN M hM;obtain⟨a1,a2,a3,a4⟩:=js;simp only[] at a1 a2 a3 a4 g1 g2
 have c1:(-(1/4):Rat)<=((a.1-Q B:Int):Rat)/(Q B:Rat):=by
  refine yF hq ?_;have:=zX (show -Q B<=4*(a.1-Q B) by omega)
  rw[Rat.intCast_neg,Ye,show ((4:Int):Rat)=4 from rfl] at this
  grind
 have c2:((a.2-Q B:Int):Rat)/(Q B:Rat)<=1/4:=by
  refine jZ hq ?_;have:=zX (show 4*(a.2-Q B)<=Q B by omega)
  rw[Ye,show ((4:Int):Rat)=4 from rfl] at this
  grind
 constructor<;>grind
open Ex
theorem zIO {n d n' d' k:Int} {l1 l2:Nat->Rat} (hd:0<d) (h:Bal n d n' d' k) (i1:IsLog l1 (λ _=>(n':Rat)/(d':Rat))) (i2:IsLog l2 (λ _=>(2:Rat))) :
  IsLog (λ M=>l1 M+(k:Rat)*l2 M) (λ _=>(n:Rat)/(d:Rat)):=by
 obtain⟨h1,h2,h3⟩:=h;have d0:(0:Rat)<(d:Rat):=by exact_mod_cast hd
 have jw:(0:Rat)<(d':Rat):=by exact_mod_cast h1.hd
 by_cases hk:k<0
 ·obtain⟨j,rfl⟩:∃ j:Nat,k = -(j:Int):=⟨(-k).toNat,by omega⟩
  have hq:=h3 hk;have ej:(-(-(j:Int))).toNat=j:=by omega
  rw[ej] at hq;have qj:=zY j;have l3:=(i2.times j).neg (s:=λ _=>1/(Q j:Rat)) (Bdd.const _) 0 (λ M _=>by rw[pw_Q];exact rdm qj)
  refine ((i1.add l3).congr_r (null_zero.of_eq λ M=>?_)).congr (null_zero.of_eq λ M=>?_)
  ·show (n':Rat)/(d':Rat)*(1/(Q j:Rat))-(n:Rat)/(d:Rat)=0
   have ag:((n*d'*Q j:Int):Rat)=((n'*d:Int):Rat):=by rw[hq]
   rw[Ye,Ye,Ye] at ag;have f1:=rdm (a:=(n':Rat)) jw;have f2:=rdm (a:=(n:Rat)) d0;have f3:=rdm (a:=(1:Rat)) qj;generalize (n':Rat)/(d':Rat)=r' at *;generalize (n:Rat)/(d:Rat)=r at *;generalize 1/(Q j:Rat)=i at *;rw[<- f1,<- f2] at ag;have f4:(d:Rat)*((d':Rat)*(r*(Q j:Rat)-r'))=0:=by grind
   have f5:r*(Q j:Rat)=r':=by
    rcases Rat.mul_eq_zero.1 f4 with h|h
    ·grind
    ·rcases Rat.mul_eq_zero.1 h with h|h
     ·grind
     ·grind
   rw[<- f5];have:r*(Q j:Rat)*i-r=r*(i*(Q j:Rat))-r:=by grind
   rw[this,f3];grind
  ·have e:((-(j:Int):Int):Rat) = -(j:Rat):=by rw[Rat.intCast_neg];rfl
   rw[e];grind
 ·obtain⟨j,rfl⟩:∃ j:Nat,k=(j:Int):=⟨k.toNat,by omega⟩
  have hq:=h2 (by omega)
  have ej:((j:Int)).toNat=j:=by omega
  rw[ej] at hq;have l3:=i2.times j;refine (i1.add l3).congr_r (null_zero.of_eq λ M=>?_)
  show (n':Rat)/(d':Rat)*pw 2 j-(n:Rat)/(d:Rat)=0
  rw[pw_Q];have ag:((n*d':Int):Rat)=((n'*d*Q j:Int):Rat):=by rw[hq]
  rw[Ye,Ye,Ye] at ag;have f1:=rdm (a:=(n':Rat)) jw;have f2:=rdm (a:=(n:Rat)) d0;generalize (n':Rat)/(d':Rat)=r' at *;generalize (n:Rat)/(d:Rat)=r at *;rw[<- f1,<- f2] at ag;have f4:(d:Rat)*((d':Rat)*(r'*(Q j:Rat)-r))=0:=by grind
  rcases Rat.mul_eq_zero.1 f4 with h|h
  ·grind
  ·rcases Rat.mul_eq_zero.1 h with h|h
   ·grind
   ·exact h
theorem zLE {B N i:Nat} {l:Nat->Rat} {a z:Int × Int} (hl:Bdd l) (hB:10<=B) (h:RInv B l i a) (q8:Q i=256) (hz:z=(a.1-Q B,a.2-Q B)) (hN:zP (npT B z N)<=1\/B<=N+1):Iv B (zE (jJ (nsT B z N) (-2,2)) 256 1) l:=by
 subst hz;obtain⟨h1,h2,h3,N0,h4⟩:=zHF hB h q8;have h5:=near_log (Bdd.over hl i) h3 N0 h4 hN;refine (h5.scale (n:=256) (d:=1) (by omega) (by omega)).congr (null_zero.of_eq λ M=>?_)
 rw[q8];have e1:((1:Int):Rat)=1:=rfl;have e2:((256:Int):Rat)=256:=rfl;rw[e1,e2];have f1:=rdm (a:=l M) (show (0:Rat)<256 by decide)
 have f2:=rdm (a:=(256:Rat)) (show (0:Rat)<1 by decide)
 generalize l M/256=U at *;generalize (256:Rat)/1=V at *;have:V=256:=by grind
 rw[this];grind
open Go.RowKit
attribute [local go_sem ↓] Go.wp_at_zero Go.wp_at_succ
theorem zHT (neg b6:Bool) (a c:Option Addr) (n m cap j6 k k2:Nat) (x y:Int) (w:World) (h1:IntAt w neg a n cap k x) (h2:IntAt w b6 c m j6 k2 y) (hk:k<=800000000) (hy:0<y) :
  Calls Tryz.prog 176 #[.agg #[.bool neg,.slice a n cap],.agg #[.bool b6,.slice c m j6]] w (zAN w k (-(-x/y))) :=
 zQI neg b6 a c n m cap j6 k k2 x y w h1 h2 hk (λ w' j8 a' n' m7 g1 g2=>yH j8 b6 a' c n' m m7 j6 k k2 (-x) y w' g1 g2 (by omega) hy)
theorem zDF (neg b6:Bool) (a c:Option Addr) (n m cap j6 k k2:Nat) (x y:Int) (w:World) (h1:IntAt w neg a n cap k x) (h2:IntAt w b6 c m j6 k2 y) (hk:k<=700000000) (ba:k2<=100000000) (hy:0<y) :
  Calls Tryz.prog 108 #[.agg #[.bool neg,.slice a n cap],.agg #[.bool b6,.slice c m j6]] w (zDQ w (k+8) (x/y)) :=
 zCS neg b6 a c n m cap j6 k k2 x y w h1 h2 hk ba (λ w' p q=>yH neg b6 a c n m cap j6 k k2 x y w' p q (by omega) hy)
theorem zCH (neg b6:Bool) (a c:Option Addr) (n m cap j6 k k2:Nat) (x y:Int) (w:World) (h1:IntAt w neg a n cap k x) (h2:IntAt w b6 c m j6 k2 y) (hk:k<=700000000) (ba:k2<=100000000) (hy:0<y) :
  Calls Tryz.prog 109 #[.agg #[.bool neg,.slice a n cap],.agg #[.bool b6,.slice c m j6]] w (zDQ w (k+9) (-(-x/y))) :=
 zD9 neg b6 a c n m cap j6 k k2 x y w h1 h2 hk ba hy (λ w' p q=>yH neg b6 a c n m cap j6 k k2 x y w' p q (by omega) hy)
theorem zBM (neg b6:Bool) (a c:Option Addr) (n m cap j6 k k2 b:Nat) (x y:Int) (w:World) (h1:IntAt w neg a n cap k x) (h2:IntAt w b6 c m j6 k2 y) (hk:k<=700000000) (hb:b<=1000000) (hy:0<y) :
  Calls Tryz.prog 140 #[.agg #[.bool neg,.slice a n cap],.agg #[.bool b6,.slice c m j6],.int .i64 b] w (zJ w b (k+b/16+20) (x*Q b/y) (-(-(x*Q b)/y))):=by
 go_enter Tryz.func140,Tryz.ntmps140
 go_wp2_with (go_at_call 95;refine (zBF _ _ _ _ b k x _ (h1.bw (bl3 _ _ _ _)) (by omega) (by omega)).mono ?_;rintro r w1 ⟨g9,a1,n1,c1,rfl,k9,b7⟩;obtain⟨C5,A9,D8⟩:=jY (w.heap.size+1+1+1) (by simp) b7;have J8:=Yd (Nat.lt_succ_self (w.heap.size+1+1)) C5;have L4:=Nat.lt_of_succ_lt J8)
 have k9:=k9.mono (show b/16+k+1<=k+b/16+10 by omega)
 have pg:Below w.heap.size w w1:=zB (bl3 _ _ _ _) b7;have k0:w1.cell? ⟨w.heap.size+1,0,none⟩=some (.bool b6):=by simp[A9,go_sem]
 have k1:w1.cell? ⟨w.heap.size+1,1,none⟩=some (.slice c m j6):=by simp[A9,go_sem]
 have r0:w1.cell? ⟨w.heap.size+1+1,0,none⟩=some (.bool false):=by simp[A9,go_sem]
 have r1:w1.cell? ⟨w.heap.size+1+1,1,none⟩=some (.slice none 0 0):=by simp[A9,go_sem]
 have r2:w1.cell? ⟨w.heap.size+1+1,2,none⟩=some (.bool false):=by simp[A9,go_sem]
 have r3:w1.cell? ⟨w.heap.size+1+1,3,none⟩=some (.slice none 0 0):=by simp[A9,go_sem]
 have r4:w1.cell? ⟨w.heap.size+1+1,4,none⟩=some (.int .i64 0):=by simp[A9,go_sem]
 have r5:∀ o,w1.frozen? ⟨w.heap.size+1+1,o,none⟩=false:=by intro o;simp[D8,go_sem]
 have H2:=zC (h2.bw pg);clear A9 D8;obtain⟨W,hW⟩:∃ W,W=w1.alloc (.cells #[.bool g9,.slice a1 n1 c1] 26):=⟨_,rfl⟩;have b8:Below w1.heap.size w1 W:=by rw[hW];exact bl1 _ _
 have u0:W.cell? ⟨w1.heap.size,0,none⟩=some (.bool g9):=by rw[hW];simp
 have u1:W.cell? ⟨w1.heap.size,1,none⟩=some (.slice a1 n1 c1):=by rw[hW];simp
 have hlW:w1.heap.size<W.heap.size:=by rw[hW];simp
 have HI:=zC (k9.bw b8);have bO:=zC ((zA H2).bw b8);have O5:w.heap.size+1<W.heap.size:=Nat.lt_trans L4 hlW;have Z3:w.heap.size+1+1<W.heap.size:=Nat.lt_trans J8 hlW
 have HK:=zC (show ∀ w',Below W.heap.size W w'->(w'.cell? ⟨w1.heap.size,0,none⟩=some (.bool g9)/\w'.cell? ⟨w1.heap.size,1,none⟩=some (.slice a1 n1 c1)/\w'.cell? ⟨w.heap.size+1,0,none⟩=some (.bool b6)/\w'.cell? ⟨w.heap.size+1,1,none⟩=some (.slice c m j6)) from λ w' hB =>
  ⟨(hB.cell (p:=⟨w1.heap.size,0,none⟩) hlW).trans u0,(hB.cell (p:=⟨w1.heap.size,1,none⟩) hlW).trans u1,(hB.cell (p:=⟨w.heap.size+1,0,none⟩) O5).trans ((b8.cell (p:=⟨w.heap.size+1,0,none⟩) L4).trans k0),(hB.cell (p:=⟨w.heap.size+1,1,none⟩) O5).trans ((b8.cell (p:=⟨w.heap.size+1,1,none⟩) L4).trans k1)⟩)
 have HR:=zC (show ∀ w',Below W.heap.size W w'->(w'.cell? ⟨w.heap.size+1+1,0,none⟩=some (.bool false)/\w'.cell? ⟨w.heap.size+1+1,1,none⟩=some (.slice none 0 0)/\w'.cell? ⟨w.heap.size+1+1,2,none⟩=some (.bool false)/\w'.cell? ⟨w.heap.size+1+1,3,none⟩=some (.slice none 0 0)/\w'.cell? ⟨w.heap.size+1+1,4,none⟩=some (.int .i64 0)/\∀ o,w'.frozen? ⟨w.heap.size+1+1,o,none⟩=false) from λ w' hB =>
  ⟨(hB.cell (p:=⟨w.heap.size+1+1,0,none⟩) Z3).trans ((b8.cell (p:=⟨w.heap.size+1+1,0,none⟩) J8).trans r0),(hB.cell (p:=⟨w.heap.size+1+1,1,none⟩) Z3).trans ((b8.cell (p:=⟨w.heap.size+1+1,1,none⟩) J8).trans r1),(hB.cell (p:=⟨w.heap.size+1+1,2,none⟩) Z3).trans ((b8.cell (p:=⟨w.heap.size+1+1,2,none⟩) J8).trans r2),(hB.cell (p:=⟨w.heap.size+1+1,3,none⟩) Z3).trans ((b8.cell (p:=⟨w.heap.size+1+1,3,none⟩) J8).trans r3),(hB.cell (p:=⟨w.heap.size+1+1,4,none⟩) Z3).trans ((b8.cell (p:=⟨w.heap.size+1+1,4,none⟩) J8).trans r4),λ o=>(hB.frozen (p:=⟨w.heap.size+1+1,o,none⟩) Z3).trans ((b8.frozen (p:=⟨w.heap.size+1+1,o,none⟩) J8).trans (r5 o))⟩)
 have iL:Below w.heap.size w W:=zB pg b8;have iC:w.heap.size+1+1≠w1.heap.size:=by omega
 have iD:w1.heap.size≠w.heap.size+1+1:=by omega
 rw[<- hW];clear hW k0 k1 r0 r1 r2 r3 r4 r5 u0 u1 H2 k9 b7 pg b8
 go_region_held3 (λ w'=>w'.cell? ⟨w1.heap.size,0,none⟩=some (.bool g9)/\w'.cell? ⟨w1.heap.size,1,none⟩=some (.slice a1 n1 c1)/\w'.cell? ⟨w.heap.size+1,0,none⟩=some (.bool b6)/\w'.cell? ⟨w.heap.size+1,1,none⟩=some (.slice c m j6)) (first|exact zA HK _ (by first|exact (Below.refl _ _).drew|exact o7|exact E2)|go_keep)
  (first
   | (go_at_call 119;refine (yH _ _ _ _ _ _ _ _ (k+b/16+10) k2 (x*Q b) y _ ((zA HI).bw (Below.refl _ _).drew) ((zA bO).bw (Below.refl _ _).drew) (by omega) hy).mono ?_;rintro r w2 ⟨o9,a4,n4,c4,rfl,D9,m9⟩;have o7:Below W.heap.size W w2:=zB (Below.refl _ _).drew m9)
   | (go_at_call 176;refine (zHT _ _ _ _ _ _ _ _ (k+b/16+10) k2 (x*Q b) y _ ((zA HI).bw o7) ((zA bO).bw o7) (by omega) hy).mono ?_;rintro r w3 ⟨G9,a5,n5,c5,rfl,O0,A7⟩;have E2:=zB o7 A7;obtain⟨q0,q1,q2,q3,q4,q5⟩:=zA HR w3 E2;obtain⟨q6,q7,q8,q9⟩:=zA HK w3 E2))
 go_wp2;refine bodyPost_ret (v:=.agg #[.bool o9,.slice a4 n4 c4,.bool G9,.slice a5 n5 c5,.int .i64 b]) (by simp[results,Tryz.results140,go_sem,q0,q1,q2,q3,q4]) rfl ⟨⟨o9,a4,n4,c4,G9,a5,n5,c5,b⟩,rfl,rfl,?_,?_⟩
 ·exact SpAt.put5 ⟨(D9.bw A7).mono (by omega),O0.mono (by omega)⟩ q0 q1 q2 q3 q4 _ _ _ _ _
 ·exact kB (iL.trans (E2.mono iL.size)) (by omega) _ _ _ _ _
theorem zIB (w:World) (s:Sp) (neg b6:Bool) (a c:Option Addr) (n m cap j6 k k1 k2:Nat) (lo hi x y:Int) (hs:SpAt w s k lo hi) (h1:IntAt w neg a n cap k1 x) (h2:IntAt w b6 c m j6 k2 y) (hk:k<=300000000) (S7:k1<=300000000) (hy:0<y) :
  Calls Tryz.prog 143 #[.agg s.q,.agg #[.bool neg,.slice a n cap],.agg #[.bool b6,.slice c m j6]] w (zJ w s.bits (k+k1+10) (lo*x/y) (-(-(hi*x)/y))):=by
 obtain⟨W,hW⟩:∃ W,W=(((w.alloc (.cells s.q 28)).alloc (.cells #[.bool neg,.slice a n cap] 26)).alloc (.cells #[.bool b6,.slice c m j6] 26)).alloc (.cells zCq 28):=⟨_,rfl⟩;have b8:Below w.heap.size w W:=by rw[hW];exact bl4 _ _ _ _ _
 have A:SpC W w.heap.size s:=by rw[hW];constructor<;>simp[go_sem]
 have X:NmC W (w.heap.size+1) ⟨neg,a,n,cap⟩:=by rw[hW];constructor<;>simp[go_sem]
 have Y:NmC W (w.heap.size+1+1) ⟨b6,c,m,j6⟩:=by rw[hW];constructor<;>simp[go_sem]
 have R:NoC W (w.heap.size+1+1+1):=by rw[hW];constructor<;>simp[go_sem]
 have HS:=zC (hs.bw b8);have HX:=zC (h1.bw b8);have HY:=zC (h2.bw b8);have lR:=R.lt;have HK:=zC (show ∀ w',Below W.heap.size W w'->(cK w' w.heap.size s (w'.cell? ⟨w.heap.size+1,0,none⟩=some (.bool neg)/\w'.cell? ⟨w.heap.size+1,1,none⟩=some (.slice a n cap)/\w'.cell? ⟨w.heap.size+1+1,0,none⟩=some (.bool b6)/\w'.cell? ⟨w.heap.size+1+1,1,none⟩=some (.slice c m j6))) from λ w' hB=>⟨(A.bw hB).c0,(A.bw hB).c1,(A.bw hB).c2,(A.bw hB).c3,(A.bw hB).c4,(X.bw hB).c0,(X.bw hB).c1,(Y.bw hB).c0,(Y.bw hB).c1⟩)
 clear A X Y hs h1 h2
 go_enter Tryz.func143,Tryz.ntmps143
 go_wp2;rw[<- hW];clear hW;have n02:w.heap.size≠w.heap.size+1+1:=by omega
 have n20:w.heap.size+1+1≠w.heap.size:=by omega
 have n03:w.heap.size≠w.heap.size+1+1+1:=by omega
 have n30:w.heap.size+1+1+1≠w.heap.size:=by omega
 have n13:w.heap.size+1≠w.heap.size+1+1+1:=by omega
 have n31:w.heap.size+1+1+1≠w.heap.size+1:=by omega
 have n23:w.heap.size+1+1≠w.heap.size+1+1+1:=by omega
 have n32:w.heap.size+1+1+1≠w.heap.size+1+1:=by omega
 obtain⟨x0,x1,x2,x3,x4,x5,x6,x7,x8⟩:=zA HK _ (Below.refl _ _);have m8:Below W.heap.size W W.drew:=(Below.refl _ _).drew
 go_region_held3 (λ w'=>cK w' w.heap.size s (w'.cell? ⟨w.heap.size+1,0,none⟩=some (.bool neg)/\w'.cell? ⟨w.heap.size+1,1,none⟩=some (.slice a n cap)/\w'.cell? ⟨w.heap.size+1+1,0,none⟩=some (.bool b6)/\w'.cell? ⟨w.heap.size+1+1,1,none⟩=some (.slice c m j6))) (first|exact zA HK _ (by with_reducible first|exact m8|exact C8|exact y9|exact j9|exact j7)|(dsimp only[cK,cK0,nK,nK0,rK,rK0];go_keep)|go_keep)
  (first
   | (go_at_call 176;have hq:=y9;refine (zHT _ _ _ _ _ _ _ _ (k+k1) k2 (hi*x) y _ A8 ((zA HY).bw y9) (by omega) hy).mono ?_;rintro r' w4 ⟨o9,a4,n4,c4,rfl,D9,m9⟩;have C8:=zB y9 m9;replace o0:=(o0.bw k8).bw m9;obtain⟨q0,q1,q2,q3,q4,q5⟩:=R.bw C8;obtain⟨y0,y1,y2,y3,y4,y5,y6,y7,y8⟩:=zA HK _ C8)
   | (go_at_call 66;have hq:=j9;refine (zW _ _ _ _ _ _ _ _ k k1 hi x _ ((zA HS).hi.bw j9) ((zA HX).bw j9) (by omega) (by omega)).mono ?_;rintro r' w3 ⟨p9,a3,n3,c3,rfl,A8,k8⟩;have y9:=zB j9 k8)
   | (go_at_call 119;have hq:=j7;refine (yH _ _ _ _ _ _ _ _ (k+k1) k2 (lo*x) y _ k9 ((zA HY).bw j7) (by omega) hy).mono ?_;rintro r' w2 ⟨lf,a2,n2,c2,rfl,o0,b9⟩;have j9:=zB j7 b9)
   | (go_at_call 66;refine (zW _ _ _ _ _ _ _ _ k k1 lo x _ ((zA HS).lo.bw m8) ((zA HX).bw m8) (by omega) (by omega)).mono ?_;rintro r' w1 ⟨g9,a1,n1,c1,rfl,k9,b7⟩;have j7:=zB m8 b7))
 all_goals
  go_wp2_with fail;refine bodyPost_ret (v:=.agg #[.bool lf,.slice a2 n2 c2,.bool o9,.slice a4 n4 c4,.int .i64 s.bits]) (by simp[results,Tryz.results143,go_sem,q0,q1,q2,q3,q4]) rfl ⟨⟨lf,a2,n2,c2,o9,a4,n4,c4,s.bits⟩,rfl,rfl,?_,?_⟩
  ·exact SpAt.put5 ⟨o0.mono (by omega),D9.mono (by omega)⟩ q0 q1 q2 q3 q4 _ _ _ _ _
  ·exact kB (zB b8 C8) (by omega) _ _ _ _ _
theorem zO4 (w:World) (s:Sp) (k:Nat) (d lo hi:Int) (hs:SpAt w s k lo hi) (hk:k<=300000000) (hd:0<d) (ko:d<=9223372036854775807) :
  Calls Tryz.prog 98 #[.agg s.q,.int .i64 d] w (zJ w s.bits (k+14) (lo*1/d) (-(-(hi*1)/d))):=by
 obtain⟨W,hW⟩:∃ W,W=(w.alloc (.cells s.q 28)).alloc (.cells zCq 28):=⟨_,rfl⟩;have b8:Below w.heap.size w W:=by rw[hW];exact bl2 _ _ _
 have A:SpC W w.heap.size s:=by rw[hW];constructor<;>simp[go_sem]
 have R:NoC W (w.heap.size+1):=by rw[hW];constructor<;>simp[go_sem]
 have HS:=zC (hs.bw b8);have lR:=R.lt;have HK:=zC (show ∀ w',Below W.heap.size W w'->(cK0 w' w.heap.size s) from λ w' hB=>⟨(A.bw hB).c0,(A.bw hB).c1,(A.bw hB).c2,(A.bw hB).c3,(A.bw hB).c4⟩)
 clear A hs
 go_enter Tryz.func98,Tryz.ntmps98
 go_wp2;rw[<- hW];clear hW;have IW:w.heap.size≠w.heap.size+1:=by omega
 have lq:w.heap.size+1≠w.heap.size:=by omega
 obtain⟨x0,x1,x2,x3,x4⟩:=zA HK _ (Below.refl _ _);have m8:Below W.heap.size W W.drew:=(Below.refl _ _).drew
 go_region_held3 (λ w'=>cK0 w' w.heap.size s) (first|exact zA HK _ (by with_reducible first|exact m8|exact y9|exact j9|exact j7)|(dsimp only[cK,cK0,nK,nK0,rK,rK0];go_keep)|go_keep)
  (first
   | (go_at_call 143;have hq:=j9;refine (zIB _ s _ _ _ _ _ _ _ _ k 4 4 lo hi 1 d ((zA HS).bw j9) (k9.bw b9) o0 (by omega) (by omega) hd).mono ?_;rintro r' w3 ⟨u,rfl,I0,E9,k8⟩;have HU:=zC I0;clear I0;have y9:=zB j9 k8;obtain⟨q0,q1,q2,q3,q4,q5⟩:=R.bw y9;obtain⟨y0,y1,y2,y3,y4⟩:=zA HK _ y9)
   | (go_at_call 43;have hq:=j7;refine (zD d _ (by omega) ko).mono ?_;rintro r' w2 ⟨b6,a2,n2,c2,rfl,o0,b9⟩;have j9:=zB j7 b9)
   | (go_at_call 43;refine (zD 1 _ (by decide) (by decide)).mono ?_;rintro r' w1 ⟨g9,a1,n1,c1,rfl,k9,b7⟩;have j7:=zB m8 b7))
 all_goals
  go_wp2_with fail;refine bodyPost_ret (v:=.agg u.q) (by simp[results,Tryz.results98,go_sem,q0,q1,q2,q3,q4]) rfl ⟨u,rfl,zA HU,?_,?_⟩
  ·exact SpAt.put5 (E9.mono (by omega)) q0 q1 q2 q3 q4 _ _ _ _ _
  ·exact kB (zB b8 y9) (Yh _) _ _ _ _ _
theorem zHH (w:World) (b:Nat) (hb:b<=1000000):Calls Tryz.prog 133 #[.int .i64 b] w (zJ w b (b/16+24) (1*Q b/1) (-(-(1*Q b)/1))):=by
 go_enter Tryz.func133,Tryz.ntmps133
 go_wp2_with fail;refine (zD 1 _ (by decide) (by decide)).mono ?_
 rintro r' w1 ⟨g9,a1,n1,c1,rfl,k9,b7⟩;have R:=(zM w 28).bw b7;have hB:Below w.heap.size w w1:=zB (bl1 _ _) b7;clear b7;go_wp2_with fail;refine (zD 1 _ (by decide) (by decide)).mono ?_
 rintro r' w2 ⟨b6,a2,n2,c2,rfl,o0,b9⟩;replace R:=R.bw b9;replace hB:=zB hB b9;replace k9:=k9.bw b9;clear b9;go_wp2_with fail;refine (zBM _ _ _ _ _ _ _ _ 4 4 b 1 1 _ k9 o0 (by omega) hb (by omega)).mono ?_
 rintro r' w3 ⟨u,rfl,I0,E9,k8⟩;obtain⟨q0,q1,q2,q3,q4,q5⟩:=R.bw k8;replace hB:=zB hB k8;have HU:=zC I0;clear I0 k8;go_wp2_with fail;refine bodyPost_ret (v:=.agg u.q) (by simp[results,Tryz.results133,go_sem,q0,q1,q2,q3,q4]) rfl ⟨u,rfl,zA HU,?_,?_⟩
 ·exact SpAt.put5 (E9.mono (by omega)) q0 q1 q2 q3 q4 _ _ _ _ _
 ·exact kB hB (XW _) _ _ _ _ _
theorem zOV (w:World) (s:Sp) (k:Nat) (d lo hi:Int) (hs:SpAt w s k lo hi) (hk:k<=300000000) (hd : -9223372036854775808<=d) (ko:d<=9223372036854775807) :
  Calls Tryz.prog 161 #[.agg s.q,.int .i64 d] w (zJ w s.bits (k+4) (lo*d) (hi*d)):=by
 obtain⟨W,hW⟩:∃ W,W=(w.alloc (.cells s.q 28)).alloc (.cells zCq 28):=⟨_,rfl⟩;have b8:Below w.heap.size w W:=by rw[hW];exact bl2 _ _ _
 have A:SpC W w.heap.size s:=by rw[hW];constructor<;>simp[go_sem]
 have R:NoC W (w.heap.size+1):=by rw[hW];constructor<;>simp[go_sem]
 have HS:=zC (hs.bw b8);have lR:=R.lt;have HK:=zC (show ∀ w',Below W.heap.size W w'->(cK0 w' w.heap.size s) from λ w' hB=>⟨(A.bw hB).c0,(A.bw hB).c1,(A.bw hB).c2,(A.bw hB).c3,(A.bw hB).c4⟩)
 clear A hs
 go_enter Tryz.func161,Tryz.ntmps161
 go_wp2;rw[<- hW];clear hW;have IW:w.heap.size≠w.heap.size+1:=by omega
 have lq:w.heap.size+1≠w.heap.size:=by omega
 obtain⟨x0,x1,x2,x3,x4⟩:=zA HK _ (Below.refl _ _);have m8:Below W.heap.size W W.drew:=(Below.refl _ _).drew
 go_region_held3 (λ w'=>cK0 w' w.heap.size s) (first|exact zA HK _ (by with_reducible first|exact m8|exact C8|exact y9|exact j9|exact j7)|(dsimp only[cK,cK0,nK,nK0,rK,rK0];go_keep)|go_keep)
  (first
   | (go_at_call 66;have hq:=y9;refine (zW _ _ _ _ _ _ _ _ k 4 hi d _ ((zA HS).hi.bw y9) A8 (by omega) (by omega)).mono ?_;rintro r' w4 ⟨o9,a4,n4,c4,rfl,D9,m9⟩;have C8:=zB y9 m9;replace o0:=(o0.bw k8).bw m9;obtain⟨q0,q1,q2,q3,q4,q5⟩:=R.bw C8;obtain⟨y0,y1,y2,y3,y4⟩:=zA HK _ C8)
   | (go_at_call 43;have hq:=j9;refine (zD d _ hd ko).mono ?_;rintro r' w3 ⟨p9,a3,n3,c3,rfl,A8,k8⟩;have y9:=zB j9 k8)
   | (go_at_call 66;have hq:=j7;refine (zW _ _ _ _ _ _ _ _ k 4 lo d _ ((zA HS).lo.bw j7) k9 (by omega) (by omega)).mono ?_;rintro r' w2 ⟨b6,a2,n2,c2,rfl,o0,b9⟩;have j9:=zB j7 b9)
   | (go_at_call 43;refine (zD d _ hd ko).mono ?_;rintro r' w1 ⟨g9,a1,n1,c1,rfl,k9,b7⟩;have j7:=zB m8 b7))
 all_goals
  go_wp2_with fail;refine bodyPost_ret (v:=.agg #[.bool b6,.slice a2 n2 c2,.bool o9,.slice a4 n4 c4,.int .i64 s.bits]) (by simp[results,Tryz.results161,go_sem,q0,q1,q2,q3,q4]) rfl ⟨⟨b6,a2,n2,c2,o9,a4,n4,c4,s.bits⟩,rfl,rfl,?_,?_⟩
  ·exact SpAt.put5 ⟨o0,D9⟩ q0 q1 q2 q3 q4 _ _ _ _ _
  ·exact kB (zB b8 C8) (Yh _) _ _ _ _ _
theorem kK (x:Int) (b:Nat):zBC x (b:Int)=x/Q b:=by unfold zBC;rw[if_pos (by omega)];simp
theorem zLX (w:World) (s t:Sp) (k b:Nat) (a c:Int × Int) (hs:SpAt w s k a.1 a.2) (ht:SpAt w t k c.1 c.2) (hk:k<=300000000) (hb:s.bits=(b:Int)) (gP:b<=1000000) :
  Calls Tryz.prog 162 #[.agg s.q,.agg t.q] w (zJ w b (k+k+8) (kJ b a c).1 (kJ b a c).2) :=
 (zK0 w s t k a.1 a.2 c.1 c.2 hs ht hk (by omega) (by omega)).mono λ r w' h=>by
  rw[hb,kK,kK] at h;exact h
theorem zA5 (w:World) (s t:Sp) (k b:Nat) (a c:Int × Int) (hs:SpAt w s k a.1 a.2) (ht:SpAt w t k c.1 c.2) (hk:k<=700000000) (hb:s.bits=(b:Int)) :
  Calls Tryz.prog 113 #[.agg s.q,.agg t.q] w (zJ w b (k+1) (jJ a c).1 (jJ a c).2) :=
 (zE8 w s t k a.1 a.2 c.1 c.2 hs ht hk).mono λ r w' h=>by rw[hb] at h;exact h
theorem zMH (w:World) (s t:Sp) (k b:Nat) (a c:Int × Int) (hs:SpAt w s k a.1 a.2) (ht:SpAt w t k c.1 c.2) (hk:k<=600000000) (hb:s.bits=(b:Int)) :
  Calls Tryz.prog 118 #[.agg s.q,.agg t.q] w (zJ w b (k+1) (zAF a c).1 (zAF a c).2) :=
 (zJS w s t k a.1 a.2 c.1 c.2 hs ht hk).mono λ r w' h=>by rw[hb] at h;exact h
theorem over_iv (w:World) (s:Sp) (k b:Nat) (d:Int) (a:Int × Int) (hs:SpAt w s k a.1 a.2) (hk:k<=300000000) (hb:s.bits=(b:Int)) (hd:0<d) (ko:d<=9223372036854775807) :
  Calls Tryz.prog 98 #[.agg s.q,.int .i64 d] w (zJ w b (k+14) (zE a 1 d).1 (zE a 1 d).2) :=
 (zO4 w s k d a.1 a.2 hs hk hd ko).mono λ r w' h=>by rw[hb] at h;exact h
theorem zHA (w:World) (s:Sp) (k b:Nat) (d:Int) (a:Int × Int) (hs:SpAt w s k a.1 a.2) (hk:k<=300000000) (hb:s.bits=(b:Int)) (hd : -9223372036854775808<=d) (ko:d<=9223372036854775807) :
  Calls Tryz.prog 161 #[.agg s.q,.int .i64 d] w (zJ w b (k+4) (yT a d).1 (yT a d).2) :=
 (zOV w s k d a.1 a.2 hs hk hd ko).mono λ r w' h=>by rw[hb] at h;exact h
theorem exp1_iv (w:World) (B0:Nat) (s u:Sp) (k b:Nat) (n:Int) (a c:Int × Int) (hs:SpAt w s k a.1 a.2) (hu:SpAt w u k c.1 c.2) (hU:SpC w B0 u) (hk:k<=100000000) (hb:s.bits=(b:Int)) (gP:b<=1000000) (hn:0<n) (km:n<=9223372036854775807) :
  Calls Tryz.prog 183 #[.agg s.q,.int .i64 n,.pointer (some ⟨B0,0,none⟩)] w (zJ w b (k+k+22) (zE (kJ b a c) 1 n).1 (zE (kJ b a c) 1 n).2):=by
 obtain⟨W,hW⟩:∃ W,W=(w.alloc (.cells s.q 28)).alloc (.cells zCq 28):=⟨_,rfl⟩;have b8:Below w.heap.size w W:=by rw[hW];exact bl2 _ _ _
 have A:SpC W w.heap.size s:=by rw[hW];constructor<;>simp[go_sem]
 have R:NoC W (w.heap.size+1):=by rw[hW];constructor<;>simp[go_sem]
 have HS:=zC (hs.bw b8);have HU:=zC (hu.bw b8);have l0:=hU.lt;obtain⟨y0,y1,y2,y3,y4⟩:=hU;have HB:=zC hb;clear hs hu hb A
 go_enter Tryz.func183,Tryz.ntmps183
 go_wp2_with fail;rw[<- hW];clear hW;refine (zLX _ s u k b a c (zA HS) (zA HU) (by omega) (zA HB) gP).mono ?_
 rintro r' w1 ⟨v,rfl,I4,H5,b7⟩;have HV:=zC I4;clear I4 y0 y1 y2 y3 y4;replace R:=R.bw b7;replace b8:=zB b8 b7;go_wp2_with fail;refine (over_iv _ v _ b n _ H5 (by omega) (zA HV) hn km).mono ?_
 rintro r' w2 ⟨t,rfl,I7,Q9,b9⟩;obtain⟨q0,q1,q2,q3,q4,q5⟩:=R.bw b9;replace b8:=zB b8 b9;have HT:=zC I7;clear I7;go_wp2_with fail;refine bodyPost_ret (v:=.agg t.q) (by simp[results,Tryz.results183,go_sem,q0,q1,q2,q3,q4]) rfl ⟨t,rfl,zA HT,?_,?_⟩
 ·exact SpAt.put5 (Q9.mono (by omega)) q0 q1 q2 q3 q4 _ _ _ _ _
 ·exact kB b8 (Yh _) _ _ _ _ _
structure VrC (w:World) (B:Nat) (s:Sp):Prop where
 c:SpC w B s
 fz:∀ o,w.frozen? ⟨B,o,none⟩=false
theorem VrC.lt {w:World} {B:Nat} {s:Sp} (h:VrC w B s):B<w.heap.size:=h.c.lt
theorem VrC.bw {w w':World} {B:Nat} {s:Sp} (h:VrC w B s) (hb:Below w.heap.size w w'):VrC w' B s :=
 ⟨h.c.bw hb,λ o=>(hb.frozen (p:=⟨B,o,none⟩) h.lt).trans (h.fz o)⟩
abbrev zQ (w:World) (B:Nat) (u:Sp):World:=((((w.setCell ⟨B,0,none⟩ (.bool u.ln)).setCell ⟨B,1,none⟩ (.slice u.la u.lN u.lc)).setCell ⟨B,2,none⟩ (.bool u.hn)).setCell ⟨B,3,none⟩ (.slice u.ha u.hN u.hc)).setCell ⟨B,4,none⟩ (.int .i64 u.bits)
theorem zD8 {w:World} {B B':Nat} (h:∀ o,w.frozen? ⟨B,o,none⟩=false) (u:Sp):∀ o,(zQ w B' u).frozen? ⟨B,o,none⟩=false:=λ o=>by
 show (zQ w B' u).frozen? ⟨B,o,none⟩=false
 unfold zQ;rw[zO,zO,zO,zO,zO];exact h o
theorem VrC.put {w:World} {B:Nat} {s:Sp} (h:VrC w B s) (u:Sp):VrC (zQ w B u) B u:=by
 refine⟨?_,zD8 h.fz u⟩;obtain⟨⟨q0,q1,q2,q3,q4⟩,q5⟩:=h;constructor<;>simp[go_sem,q0,q1,q2,q3,q4]
theorem SpC.off {w:World} {B B':Nat} {s:Sp} (h:SpC w B s) (hne:B≠B') (u:Sp):SpC (zQ w B' u) B s:=h.put hne _ _ _ _ _
theorem VrC.off {w:World} {B B':Nat} {s:Sp} (h:VrC w B s) (hne:B≠B') (u:Sp):VrC (zQ w B' u) B s:=⟨h.c.off hne u,zD8 h.fz u⟩
theorem NoC.off {w:World} {B B':Nat} (h:NoC w B) (hne:B≠B') (u:Sp):NoC (zQ w B' u) B:=by
 obtain⟨q0,q1,q2,q3,q4,q5⟩:=h;exact⟨kN q0 hne _ _ _ _ _,kN q1 hne _ _ _ _ _,kN q2 hne _ _ _ _ _,kN q3 hne _ _ _ _ _,kN q4 hne _ _ _ _ _,zD8 q5 u⟩
theorem SpAt.put {w:World} {s:Sp} {k:Nat} {lo hi:Int} (h:SpAt w s k lo hi) {B:Nat} {z:Sp} (hB:SpC w B z) (u:Sp):SpAt (zQ w B u) s k lo hi:=SpAt.put5 h hB.c0 hB.c1 hB.c2 hB.c3 hB.c4 _ _ _ _ _
theorem IntAt.put {w:World} {neg:Bool} {a:Option Addr} {n cap k:Nat} {z:Int} (h:IntAt w neg a n cap k z) {B:Nat} {y:Sp} (hB:SpC w B y) (u:Sp):IntAt (zQ w B u) neg a n cap k z:=IntAt.put5 h hB.c0 hB.c1 hB.c2 hB.c3 hB.c4 _ _ _ _ _
theorem jC {B B':Nat} {a w:World} (h:Below B a w) (hB:B<=B') (u:Sp):Below B a (zQ w B' u):=kB h hB _ _ _ _ _
theorem size_put (w:World) (B:Nat) (u:Sp):(zQ w B u).heap.size=w.heap.size:=by simp[zQ,World.setCell]
def TwoS (W wx:World) (s t:Sp) (p q:Value):Prop :=
 ∃ B B',p=.pointer (some ⟨B,0,none⟩)/\q=.pointer (some ⟨B',0,none⟩)/\W.heap.size<=B/\W.heap.size<=B'/\B≠B'/\VrC wx B s/\VrC wx B' t/\Below W.heap.size W wx
theorem zJE (V:World) (s t:Sp) (T:TypeId):TwoS V ((V.alloc (.cells s.q T)).alloc (.cells t.q T)).drew s t (.pointer (some ⟨V.heap.size,0,none⟩)) (.pointer (some ⟨V.heap.size+1,0,none⟩)):=by
 refine⟨_,_,rfl,rfl,XW _,Yh _,Yj (Nat.lt_succ_self _),VrC.bw (w:=(V.alloc (.cells s.q T)).alloc (.cells t.q T)) ⟨⟨by simp[go_sem],by simp[go_sem],by simp[go_sem],by simp[go_sem],by simp[go_sem]⟩,λ o=>by simp[go_sem]⟩ (Below.refl _ _).drew,VrC.bw (w:=(V.alloc (.cells s.q T)).alloc (.cells t.q T)) ⟨⟨by simp[go_sem],by simp[go_sem],by simp[go_sem],by simp[go_sem],by simp[go_sem]⟩,λ o=>by simp[go_sem]⟩ (Below.refl _ _).drew,(bl2 _ _ _).drew⟩
theorem zL7 (V:World) (s t:Sp) (T:TypeId):TwoS V ((V.alloc (.cells t.q T)).alloc (.cells s.q T)).drew s t (.pointer (some ⟨V.heap.size+1,0,none⟩)) (.pointer (some ⟨V.heap.size,0,none⟩)):=by
 obtain⟨B,B',h1,h2,h3,h4,h5,h6,h7,h8⟩:=zJE V t s T;exact⟨B',B,h2,h1,h4,h3,λ e=>h5 e.symm,h7,h6,h8⟩
structure SumSt (W wr:World) (B5 B6 b K:Nat) (s X Y:Sp) (f:Nat->Int × Int) (i:Nat):Prop where
 x:VrC wr B5 X
 y:VrC wr B6 Y
 xp:SpAt wr X K (jE f i).1 (jE f i).2
 yp:SpAt wr Y K (f i).1 (f i).2
 xb:X.bits=(b:Int)
 yb:Y.bits=(b:Int)
 fs:SpC wr W.heap.size s
 no:NoC wr (W.heap.size+1)
 be:Below W.heap.size W wr
 l5:W.heap.size+1<B5
 l6:W.heap.size+1<B6
 ne:B5≠B6
theorem SumSt.bw {W wr wr':World} {B5 B6 b K:Nat} {s X Y:Sp} {f:Nat->Int × Int} {i:Nat} (h:SumSt W wr B5 B6 b K s X Y f i) (hb:Below wr.heap.size wr wr'):SumSt W wr' B5 B6 b K s X Y f i :=
 ⟨h.x.bw hb,h.y.bw hb,h.xp.bw hb,h.yp.bw hb,h.xb,h.yb,h.fs.bw hb,h.no.bw hb,zB h.be hb,h.l5,h.l6,h.ne⟩
theorem sum_exp (p1:Value) (f:Nat->Int × Int) (N b K KF:Nat) (s:Sp) (W:World) (hs:SpAt W s K (f 0).1 (f 0).2) (hbits:s.bits=(b:Int)) (hb:b<=1000000) (hK:K<=100000000) (LN:KF<=900000000) (hN:kG f N) (rf:N<=1000000000)
  (hle:∀ n,(f n).1<=(f n).2) (J1:∀ n,n<=N -> -P K<(f n).1/\(f n).2<P K) (hfitS:∀ n,n<=N -> -P K<(jE f n).1/\(jE f n).2<P K)
  (hF:∀ (n:Nat) (u:Sp) w',n<N->u.bits=(b:Int)->SpAt w' u K (f n).1 (f n).2->Below W.heap.size W w'->Calls Tryz.prog 183 #[.agg u.q,.int .i64 ((n:Int)+1),p1] w' (zJ w' b KF (f (n+1)).1 (f (n+1)).2)) :
  Calls Tryz.prog 182 #[.agg s.q,.func (.func 183) #[] #[p1]] W (zJ W b (K+3) (zT f N).1 (zT f N).2):=by
 have HF:=zC hF;have HN:=zC hN;have L6:=zC hbits;clear hF hN hbits;obtain⟨V,hV⟩:∃ V,V=(W.alloc (.cells s.q 28)).alloc (.cells zCq 28):=⟨_,rfl⟩;have fo:Below W.heap.size W V:=by rw[hV];exact bl2 _ _ _
 have A:SpC V W.heap.size s:=by rw[hV];constructor<;>simp[go_sem]
 have R:NoC V (W.heap.size+1):=by rw[hV];constructor<;>simp[go_sem]
 have HS:=zC (hs.bw fo);have lA:=A.lt;have lR:=R.lt;clear hs
 go_enter Tryz.func182,Tryz.ntmps182
 go_wp2;rw[<- hV];clear hV
 go_cut [5,6] (λ p q wx=>TwoS V wx s s p q)
 case first =>
  obtain⟨x0,x1,x2,x3,x4⟩:=A
  go_region
  all_goals
   go_wp2_with fail;go_meet
   first
    | with_reducible exact zJE _ _ _ _
    | with_reducible exact zL7 _ _ _ _
 case rest =>
 obtain⟨B5,B6,rfl,rfl,l5,l6,hne,X,Y,hB⟩:=hcut;have n5:W.heap.size+1<B5:=by omega
 have n6:W.heap.size+1<B6:=by omega
 have N9:SumSt W wc B5 B6 b K s s s f 0:=⟨X,Y,(zA HS).bw hB,(zA HS).bw hB,zA L6,zA L6,A.bw hB,R.bw hB,zB fo hB,n5,n6,hne⟩;clear X Y hB A R HS l5 l6 n5 n6 hne fo lA lR;go_wp2_with fail
 go_loopw [7] (λ nn wr=>∃ (i:Nat) (X Y:Sp),nn=.int .i64 ((i:Int)+1)/\i<=N/\SumSt W wr B5 B6 b K s X Y f i) (λ nn _=>N+1-(intOf nn).toNat)
 case atStart=>exact⟨0,s,s,rfl,Nat.zero_le _,N9⟩
 case round =>
  obtain⟨i,X,Y,rfl,hi,st⟩:=hrel;have dh:=zAI (hle i);obtain⟨⟨y0,y1,y2,y3,y4⟩,y5⟩:=st.y;go_wp2_with fail;refine (zBO _ Y K _ _ st.yp (by omega)).mono ?_
  rintro r w1 ⟨g9,a1,n1,c1,rfl,k9,b7⟩;replace st:=st.bw b7;clear b7 y0 y1 y2 y3 y4 y5;go_wp2_with fail;refine (zB2 _ _ _ _ _ (zP (f i)) _ k9 dh).mono ?_;rintro r w2 ⟨l,hlen,rfl,b9⟩;replace st:=st.bw b9;clear b9 k9
  by_cases G4:i<N
  ·have hl:1<l:=by
    refine Int.not_le.1 λ hl=>?_
    have:=zKL hlen hl dh;have:=(zA HN).2 i G4;omega
   clear hlen;obtain⟨⟨y0,y1,y2,y3,y4⟩,y5⟩:=st.y;go_wp2_with fail;refine (zA HF i Y _ G4 st.yb st.yp st.be).mono ?_;rintro r w3 ⟨u,rfl,I0,E9,k8⟩;replace st:=st.bw k8;replace E9:=E9.fits (K:=K) (hle _) (J1 _ (by omega)).1 (J1 _ (by omega)).2
   have HU:=zC I0;clear k8 y0 y1 y2 y3 y4 y5 I0;obtain⟨V3,D3⟩:∃ V3,V3=zQ w3 B6 u:=⟨_,rfl⟩;have X3:VrC V3 B5 X:=by rw[D3];exact st.x.off st.ne u
   have Y3:VrC V3 B6 u:=by rw[D3];exact st.y.put u
   have P3:SpAt V3 X K (jE f i).1 (jE f i).2:=by rw[D3];exact st.xp.put st.y.c u
   have U3:SpAt V3 u K (f (i+1)).1 (f (i+1)).2:=by rw[D3];exact E9.put st.y.c u
   have F3:SpC V3 W.heap.size s:=by rw[D3];exact st.fs.off (by have:=st.l6;omega) u
   have R3:NoC V3 (W.heap.size+1):=by rw[D3];exact st.no.off (by have:=st.l6;omega) u
   have B3:Below W.heap.size W V3:=by rw[D3];exact jC st.be (by have:=st.l6;omega) u
   have xb:=zC st.xb;have l5:=st.l5;have l6:=st.l6;have hne:=st.ne;have lY:=st.y.lt;have lX:=st.x.lt;obtain⟨⟨y0,y1,y2,y3,y4⟩,y5⟩:=st.y;obtain⟨⟨x0,x1,x2,x3,x4⟩,x5⟩:=st.x;clear st E9;go_wp2_with fail;have J2:V3=zQ w3 B6 u:=D3;unfold zQ at J2;rw[<- J2];clear J2 y0 y1 y2 y3 y4 y5 x0 x1 x2 x3 x4 x5;have DP:B5<V3.heap.size:=X3.lt;refine (zA5 _ X u K b (jE f i) (f (i+1)) P3 U3 (by omega) (zA xb)).mono ?_
   rintro r w4 ⟨v,rfl,I4,H5,m9⟩;have X4:=X3.bw m9;have Y4:=Y3.bw m9;have U4:=U3.bw m9;have F4:=F3.bw m9;have R4:=R3.bw m9;have B4:=zB B3 m9;have e:jJ (jE f i) (f (i+1))=jE f (i+1):=rfl;rw[e] at H5;replace H5:=H5.fits (K:=K) (zCW hle _) (hfitS _ (by omega)).1 (hfitS _ (by omega)).2
   have HV:=zC I4;clear m9 I4 X3 Y3 P3 U3 F3 R3 B3 D3;have stn:SumSt W (zQ w4 B5 v) B5 B6 b K s v u f (i+1):=⟨X4.put v,Y4.off (Ne.symm hne) v,H5.put X4.c v,U4.put X4.c v,zA HV,zA HU,F4.off (by omega) v,R4.off (by omega) v,jC B4 (by omega) v,l5,l6,hne⟩
   unfold zQ at stn;obtain⟨⟨x0,x1,x2,x3,x4⟩,x5⟩:=X4;go_wp2_with fail
   go_roundw
   case rel=>exact⟨i+1,v,u,by go_num,by omega,stn⟩
   case measure=>simp[intOf];omega
  ·have bg:i=N:=by omega
   subst bg
   have hl:¬ 1<l:=by
    have h1:=(zA HN).1
    intro hl
    obtain⟨g1,g2,g3⟩:=hlen
    by_cases hp:0<zP (f i)
    ·obtain⟨L,e1,e2,e3⟩:=g3 hp
     have:1<=L:=by omega
     have:=zK this;have:Q 1=2:=rfl;omega
    ·have:=g2 (by omega);omega
   clear hlen;obtain⟨⟨y0,y1,y2,y3,y4⟩,y5⟩:=st.y;go_wp2_with fail;refine (zBO _ Y K _ _ st.yp (by omega)).mono ?_
   rintro r w3 ⟨p9,a3,n3,c3,rfl,A8,k8⟩;replace st:=st.bw k8;clear k8 y0 y1 y2 y3 y4 y5;obtain⟨V3,D3⟩:∃ V3,V3=w3.alloc (.cells #[.bool p9,.slice a3 n3 c3] 26):=⟨_,rfl⟩;have bV:Below w3.heap.size w3 V3:=by rw[D3];exact bl1 _ _
   have L3:NmC V3 w3.heap.size ⟨p9,a3,n3,c3⟩:=by rw[D3];exact zAK w3 ⟨p9,a3,n3,c3⟩ _
   have M7:=st.bw bV;have HI:=zC (A8.bw bV);have l5:=st.l5;have lX:=st.x.lt;have Q5:=zC (show ∀ w',Below V3.heap.size V3 w'->(cK w' B5 X (w'.cell? ⟨w3.heap.size,0,none⟩=some (.bool p9)/\w'.cell? ⟨w3.heap.size,1,none⟩=some (.slice a3 n3 c3)/\w'.cell? ⟨W.heap.size,4,none⟩=some (.int .i64 s.bits))) from λ w' hB=>⟨(M7.x.c.bw hB).c0,(M7.x.c.bw hB).c1,(M7.x.c.bw hB).c2,(M7.x.c.bw hB).c3,(M7.x.c.bw hB).c4,(L3.bw hB).c0,(L3.bw hB).c1,(M7.fs.bw hB).c4⟩)
   have lL:=L3.lt;have R3:=M7.no;have lQ:=R3.lt;clear st L3 A8;go_wp2_with fail;rw[<- D3];clear D3;obtain⟨x0,x1,x2,x3,x4,x5,x6,x7⟩:=zA Q5 _ (Below.refl _ _);have m8:Below V3.heap.size V3 V3.drew:=(Below.refl _ _).drew;have vz:W.heap.size+1≠B5:=by omega
   have rh:W.heap.size+1≠w3.heap.size:=by omega
   have IX:W.heap.size+1≠W.heap.size:=by omega
   go_region_held3 (λ w'=>cK w' B5 X (w'.cell? ⟨w3.heap.size,0,none⟩=some (.bool p9)/\w'.cell? ⟨w3.heap.size,1,none⟩=some (.slice a3 n3 c3)/\w'.cell? ⟨W.heap.size,4,none⟩=some (.int .i64 s.bits))) (first|exact zA Q5 _ (by with_reducible first|exact m8|exact j9|exact j7)|(dsimp only[cK,cK0,nK,nK0,rK,rK0];go_keep)|go_keep)
    (first
     | (go_at_call 113;have hq:=j7;refine (zA5 _ X ⟨o9,a4,n4,c4,p9,a3,n3,c3,s.bits⟩ (K+1) b (jE f i) (-zP (f i),zP (f i)) ((M7.xp.bw j7).mono (by omega)) ⟨D9,(zA HI).bw j7⟩ (by omega) M7.xb).mono ?_;rintro r' w5 ⟨v,rfl,I4,H5,A7⟩;have j9:=zB j7 A7;have HV:=zC I4;clear I4;obtain⟨q0,q1,q2,q3,q4,q5⟩:=R3.bw j9;obtain⟨y0,y1,y2,y3,y4,y5,y6,y7⟩:=zA Q5 _ j9)
     | (go_at_call 103;refine (kC _ _ _ _ (K+1) (zP (f i)) _ ((zA HI).bw m8) (by omega)).mono ?_;rintro r' w4 ⟨o9,a4,n4,c4,rfl,D9,m9⟩;have j7:=zB m8 m9))
   all_goals
    go_wp2_with fail;refine bodyPost_ret (v:=.agg v.q) (by simp[results,Tryz.results182,go_sem,q0,q1,q2,q3,q4]) rfl ⟨v,rfl,zA HV,?_,?_⟩
    ·exact SpAt.put5 (H5.mono (by omega)) q0 q1 q2 q3 q4 _ _ _ _ _
    ·exact kB (zB M7.be j9) (Yh _) _ _ _ _ _
end Go.Proofs.YtgmnknmjainababGreat
