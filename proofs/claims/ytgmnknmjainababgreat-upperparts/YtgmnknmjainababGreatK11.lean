/-
  Its own texts.
-/
import Derived.Test.YtgmnknmjainababGreatK10
set_option maxRecDepth 100000
set_option maxHeartbeats 8000000
set_option linter.unnecessarySimpa false
set_option linter.unusedSimpArgs false
set_option linter.unusedVariables false
namespace Go.Proofs.YtgmnknmjainababGreat
open Ex
namespace Ex
theorem sqrt_has {a b r t:Rat} {x y:Nat→Rat} (h:Has a b x) (hxy:Null (fun M=>y M*y M-x M)) (N0:Nat) (hy:∀ M,N0≤M→0≤y M) (h1:r*r≤a) (h2:b≤t*t) (ht:0≤t):Has r t y:=fun e he=>by
 have he2:=Rat.mul_pos he he;obtain ⟨N1,k1⟩:=h (e*e/4) (by grind)
 obtain ⟨N2,k2⟩:=hxy (e*e/4) (by grind)
 refine ⟨N0+N1+N2,fun M hM=>?_⟩
 obtain ⟨g1,g2⟩:=k1 M (by omega)
 obtain ⟨g3,g4⟩:=k2 M (by omega)
 have g5:=hy M (by omega)
 simp only[] at g3 g4;generalize x M=X at *;generalize y M=Y at *;constructor
 ·refine Rat.not_lt.1 fun hn=>?_
  have p1:=Rat.mul_nonneg (show 0≤r-Y-e by grind) (show 0≤r+Y by grind)
  have p2:=Rat.mul_nonneg (show 0≤r-e by grind) (Rat.le_of_lt he)
  have p3:=Rat.mul_nonneg g5 (Rat.le_of_lt he);grind
 ·refine Rat.not_lt.1 fun hn=>?_
  have p1:=Rat.mul_nonneg (show 0≤Y-t-e by grind) (show 0≤Y+t by grind)
  have p2:=Rat.mul_nonneg (show 0≤Y-e by grind) (Rat.le_of_lt he)
  have p3:=Rat.mul_nonneg ht (Rat.le_of_lt he);grind
theorem Bdd.half {l:Nat→Rat} (h:Bdd l):Bdd (fun M=>l M/2):=by
 obtain ⟨K,N,k0,hk⟩:=h;exact ⟨K,N,k0,fun M hM=>by obtain ⟨h1,h2⟩:=hk M hM;constructor <;> grind⟩
theorem isLog_Ev {l:Nat→Rat} (h:Bdd l):IsLog l (Ev l):=⟨h,null_zero.of_eq fun M=>by grind⟩
theorem Lg_left {y b:Rat} (hy:AB y (1/2)) {a:Nat} (hb:AB (pw y a) b) (i:Nat):AB (Lg y (a+i)-Lg y a) (b*(1-q2 i))∧AB (pw y (a+i)) (b*q2 i):=by
 have b0:=hb.nonneg
 induction i with
 | zero =>
  have e:q2 0=1:=rfl;rw[e];simp only[Nat.add_zero];refine ⟨?_,hb.mono (by grind)⟩
  constructor <;> grind
 | succ i ih =>
  obtain ⟨h1,h2⟩:=ih;have e:Lg y (a+(i+1))=Lg y (a+i)+pw y (a+i+1)/(((a+i:Nat):Rat)+1):=rfl;have e2:q2 (i+1)=q2 i/2:=rfl
  have h3:AB (pw y (a+i+1)) (b*q2 i/2):=by
   have h4:=hy.mul h2;have e3:pw y (a+i+1)=y*pw y (a+i):=by simp only[pw]
   rw[e3];exact h4.mono (by grind)
  have q:=zAQ i;have hbq:=Rat.mul_nonneg b0 (Rat.le_of_lt q)
  have h5:AB (pw y (a+i+1)/(((a+i:Nat):Rat)+1)) (b*q2 i/2):=by
   refine zAO (zCD _) (h3.mono ?_);have kk:(0:Rat)≤((a+i:Nat):Rat):=by exact_mod_cast Nat.zero_le (a+i)
   have:=Rat.mul_nonneg kk (show 0≤b*q2 i/2 by grind)
   grind
  refine ⟨?_,by rw[e2];exact h3.mono (by grind)⟩
  have h6:=h1.add h5;rw[e,e2];generalize pw y (a+i+1)/(((a+i:Nat):Rat)+1)=t at *;have h7:Lg y (a+i)+t-Lg y a=Lg y (a+i)-Lg y a+t:=by grind
  rw[h7];exact h6.mono (by grind)
theorem pw_opp (z:Rat) (k:Nat):pw (-z) (2*k+1) = -pw z (2*k+1):=by
 have e1:pw (-z) (2*k+1) = -z*pw (-z) (2*k):=by simp only[pw]
 have e2:pw z (2*k+1)=z*pw z (2*k):=by simp only[pw]
 rw[e1,e2,zH8];grind
end Ex
theorem root_has {B:Nat} {a:Int × Int} {l:Nat→Rat} (hl:Bdd l) (h:Iv B a (Ev l)) {r t:Int} (hr:r*r≤a.1*Q B) (ht0:0≤t) (ht:a.2*Q B≤t*t):Iv B (r,t) (Ev (fun M=>l M/2)):=by
 have q:=zV B;have hq:0<Q B:=by have:=zG B;omega
 obtain ⟨c,hc,N,hN⟩:=zC5 hl.half;have e1:(fun M=>l M/2+l M/2)=l:=funext fun M=>by grind
 have ha:=zA1 hl.half hl.half;rw[e1] at ha;refine sqrt_has h ha N (fun M hM=>by have:=hN M hM;grind) ?_ ?_ ?_
 ·have hc1:((r*r:Int):Rat)≤((a.1*Q B:Int):Rat):=zW hr
  rw[Rat.intCast_mul,Rat.intCast_mul] at hc1;refine kR q ?_;have e2:=rdm (a:=(r:Rat)) q;generalize (r:Rat)/(Q B:Rat)=R at *;rw[← e2] at hc1;have h3:R*R*(Q B:Rat)*(Q B:Rat)≤(a.1:Rat)*(Q B:Rat):=by grind
  exact Rat.le_of_mul_le_mul_right h3 q
 ·have hc1:((a.2*Q B:Int):Rat)≤((t*t:Int):Rat):=zW ht
  rw[Rat.intCast_mul,Rat.intCast_mul] at hc1;refine jS q ?_;have e2:=rdm (a:=(t:Rat)) q;generalize (t:Rat)/(Q B:Rat)=R at *;rw[← e2] at hc1;have h3:(a.2:Rat)*(Q B:Rat)≤R*R*(Q B:Rat)*(Q B:Rat):=by grind
  exact Rat.le_of_mul_le_mul_right h3 q
 ·refine kR q ?_
  have:((0:Int):Rat)≤(t:Rat):=zW ht0;have e0:((0:Int):Rat)=0:=rfl;rw[e0] at this;grind
def npT (B:Nat) (z:Int × Int):Nat→Int × Int
 | 0=>z
 | n+1=>kJ B (npT B z n) z
def nsT (B:Nat) (z:Int × Int):Nat→Int × Int
 | 0=>z
 | n+1=>if (n+2) % 2=0 then yH (nsT B z n) (zE (npT B z (n+1)) 1 ((n:Int)+2)) else jJ (nsT B z n) (zE (npT B z (n+1)) 1 ((n:Int)+2))
theorem zMT {B:Nat} {z:Int × Int} {x:Nat→Rat} (h:Iv B z x) (n:Nat):Iv B (npT B z n) (fun M=>pw (x M) (n+1)):=by
 induction n with
 | zero=>exact h.congr (null_zero.of_eq fun M=>by simp only[pw];grind)
 | succ n ih=>exact (ih.mul h).congr (null_zero.of_eq fun M=>by simp only[pw];grind)
theorem zKO (n:Nat) (X:Rat):((1:Int):Rat)/(((n:Int)+2:Int):Rat)*X=X/(((n+1:Nat):Rat)+1):=by
 have e:(((n:Int)+2:Int):Rat)=((n+1:Nat):Rat)+1:=by
  rw[Rat.intCast_add,Rat.natCast_add];have e1:((2:Int):Rat)=2:=rfl;have e2:((n:Int):Rat)=(n:Rat):=rfl;have e3:((1:Nat):Rat)=1:=rfl;rw[e1,e2,e3];grind
 have e0:((1:Int):Rat)=1:=rfl;rw[e,e0,Rat.div_def,Rat.div_def,Rat.one_mul,Rat.mul_comm]
theorem nsT_has {B:Nat} {z:Int × Int} {x:Nat→Rat} (h:Iv B z x) (n:Nat):Iv B (nsT B z n) (fun M => -Lg (-x M) (n+1)):=by
 induction n with
 | zero =>
  refine h.congr (null_zero.of_eq fun M=>?_)
  have e:Lg (-x M) 1=0+pw (-x M) 1/(((0:Nat):Rat)+1):=rfl;have e1:pw (-x M) 1 = -x M*1:=rfl;have e2:((0:Nat):Rat)=0:=rfl;rw[show (0:Nat)+1=1 from rfl,e,e1,e2,Rat.div_def]
  have e3:((0:Rat)+1)⁻¹=1:=by decide +kernel
  rw[e3];grind
 | succ n ih =>
  have hs:=(zMT h (n+1)).scale (n:=1) (d:=(n:Int)+2) (by omega) (by omega)
  have e:∀ M,Lg (-x M) (n+1+1)=Lg (-x M) (n+1)+pw (-x M) (n+1+1)/(((n+1:Nat):Rat)+1):=fun M=>rfl
  unfold nsT;split
  ·rename_i hp
   obtain ⟨k,hk⟩:∃ k,n+1+1=2*k:=⟨(n+2)/2,by omega⟩
   refine (ih.sub hs).congr (null_zero.of_eq fun M=>?_)
   rw[e,zKO,hk,zH8];generalize pw (x M) (2*k)/(((n+1:Nat):Rat)+1)=T;grind
  ·rename_i hp
   obtain ⟨k,hk⟩:∃ k,n+1+1=2*k+1:=⟨(n+1)/2,by omega⟩
   refine (ih.add hs).congr (null_zero.of_eq fun M=>?_)
   rw[e,zKO,hk,pw_opp];have e5 : -pw (x M) (2*k+1)/(((n+1:Nat):Rat)+1) = -(pw (x M) (2*k+1)/(((n+1:Nat):Rat)+1)):=by rw[Rat.div_def,Rat.div_def,Rat.neg_mul]
   rw[e5];generalize pw (x M) (2*k+1)/(((n+1:Nat):Rat)+1)=T;grind
theorem q2_Q (k:Nat):q2 k*(Q k:Rat)=1:=by
 induction k with
 | zero =>
  have e1:q2 0=1:=rfl;have e2:((Q 0:Int):Rat)=1:=rfl;rw[e1,e2];exact Rat.one_mul 1
 | succ k ih =>
  have e:q2 (k+1)=q2 k/2:=rfl;have e2:Q (k+1)=2*Q k:=rfl;rw[e,e2,Rat.intCast_mul];have e3:((2:Int):Rat)=2:=rfl;rw[e3];grind
theorem q2_mono {a b : Nat} (h : a ≤ b) : q2 b ≤ q2 a := by
  induction b with
  | zero => have : a = 0 := by omega
            subst this; exact Rat.le_refl
  | succ b ih =>
    by_cases hb : a = b + 1
    · subst hb; exact Rat.le_refl
    · have := ih (by omega)
      have := zAQ b
      have e : q2 (b + 1) = q2 b / 2 := rfl
      rw [e]; grind
theorem zPC {x b:Rat} {k:Nat} (h:AB (pw x k) b):AB (pw (-x) k) b:=by
 by_cases hk:k % 2=0
 ·obtain ⟨c,hc⟩:∃ c,k=2*c:=⟨k/2,by omega⟩
  subst hc;rw[zH8];exact h
 ·obtain ⟨c,hc⟩:∃ c,k=2*c+1:=⟨k/2,by omega⟩
  subst hc;rw[pw_opp];exact h.neg
theorem near_has {B N:Nat} {z:Int × Int} {x:Nat→Rat} (h:Iv B z x) (N0:Nat) (hx:∀ M,N0≤M→AB (x M) (1/2)) (hN:zT (npT B z N)≤1∨B≤N+1):Iv B (jJ (nsT B z N) (-2,2)) (fun M => -Lg (-x M) M):=by
 have q:=zV B
 have hp:∃ N1,∀ M,N1≤M→AB (pw (x M) (N+1)) (2/(Q B:Rat)):=by
  rcases hN with hN|hN
  ·obtain ⟨N1,h1⟩:=zMT h N (1/(Q B:Rat)) (zL (by decide) q)
   refine ⟨N1,fun M hM=>?_⟩
   obtain ⟨g1,g2⟩:=h1 M hM;have r1 : -1≤(npT B z N).1:=by unfold zT zEE at hN;split at hN <;> omega
   have r2:(npT B z N).2≤1:=by unfold zT zEE at hN;split at hN <;> omega
   have c1:((-1:Int):Rat)/(Q B:Rat)≤((npT B z N).1:Rat)/(Q B:Rat):=jS q (by rw[rdm q];exact zW r1)
   have c2:((npT B z N).2:Rat)/(Q B:Rat)≤((1:Int):Rat)/(Q B:Rat):=jS q (by rw[rdm q];exact zW r2)
   have e1:((-1:Int):Rat)/(Q B:Rat) = -(1/(Q B:Rat)):=by
    rw[show ((-1:Int):Rat) = -1 from rfl,Rat.div_def,Rat.div_def,Rat.neg_mul]
   have e2:((1:Int):Rat)/(Q B:Rat)=1/(Q B:Rat):=rfl
   have e3:(2:Rat)/(Q B:Rat)=1/(Q B:Rat)+1/(Q B:Rat):=by
    rw[Rat.div_def,Rat.div_def];grind
   rw[e1] at c1;rw[e2] at c2;rw[e3];constructor <;> grind
  ·refine ⟨N0,fun M hM=>(zLS (hx M hM) (N+1)).mono ?_⟩
   have h1:=q2_mono hN;refine Rat.le_trans h1 (kR q ?_);rw[q2_Q];decide
 obtain ⟨N1,h1⟩:=hp
 intro e he
 obtain ⟨N2,h2⟩:=nsT_has h N e he;refine ⟨N0+N1+N2+(N+1),fun M hM=>?_⟩
 obtain ⟨g1,g2⟩:=h2 M (by omega)
 have h3:=(Lg_left (hx M (by omega)).neg (zPC (h1 M (by omega))) (M-(N+1))).1
 rw[show N+1+(M-(N+1))=M by omega] at h3
 have q1:=zAQ (M-(N+1));have q3:(0:Rat)<2/(Q B:Rat):=zL (by decide) q
 have h4:=h3.mono (b:=2/(Q B:Rat)) (by
  have:=Rat.mul_nonneg (Rat.le_of_lt q3) (Rat.le_of_lt q1)
  grind)
 obtain ⟨h5,h6⟩:=h4
 have e1:(((jJ (nsT B z N) (-2,2)).1:Int):Rat)/(Q B:Rat)=((nsT B z N).1:Rat)/(Q B:Rat)-2/(Q B:Rat):=by
  rw[← zEF];unfold jJ;simp only[];rw[Rat.intCast_add];congr 1;rw[show ((-2:Int):Rat) = -2 from rfl];grind
 have e2:(((jJ (nsT B z N) (-2,2)).2:Int):Rat)/(Q B:Rat)=((nsT B z N).2:Rat)/(Q B:Rat)+2/(Q B:Rat):=by
  rw[← yC];unfold jJ;simp only[];rw[Rat.intCast_add];congr 1
 rw[e1,e2];simp only[] at g1 g2;constructor <;> grind
theorem near_log {B N:Nat} {z:Int × Int} {l:Nat→Rat} (hl:Bdd l) (h:Iv B z (fun M=>Ev l M-1)) (N0:Nat) (hx:∀ M,N0≤M→AB (Ev l M-1) (1/2)) (hN:zT (npT B z N)≤1∨B≤N+1):Iv B (jJ (nsT B z N) (-2,2)) l:=by
 have h1:=near_has h N0 hx hN;have h2:=zHB (y:=fun M => -(Ev l M-1)) N0 (fun M hM=>(hx M hM).neg)
 have h3:=(isLog_Ev hl).uniq (h2.congr_r (r':=Ev l) (null_zero.of_eq fun M=>by grind))
 exact h1.congr (h3.of_eq fun M=>rfl)
theorem zK8 {B:Nat} {z:Int × Int} (hz:z.1≤z.2) (n:Nat):(npT B z n).1≤(npT B z n).2:=by
 cases n with
 | zero=>exact hz
 | succ n=>exact kV B
theorem zJD {B:Nat} {z:Int × Int} (h:Abs z (Q B)) (n:Nat):Abs (npT B z n) (Q B):=by
 induction n with
 | zero=>exact h
 | succ n ih=>exact yW ih h (Int.le_refl _)
theorem zOS {B:Nat} {z:Int × Int} (hz:z.1≤z.2) (n:Nat):(nsT B z n).1≤(nsT B z n).2:=by
 induction n with
 | zero=>exact hz
 | succ n ih =>
  have h:=jQ (n:=1) (d:=(n:Int)+2) (zK8 (B:=B) hz (n+1)) (by omega) (by omega)
  unfold nsT;split
  ·unfold yH;simp only[];omega
  ·unfold jJ;simp only[];omega
theorem nsT_abs {B:Nat} {z:Int × Int} (h:Abs z (Q B)) (n:Nat):Abs (nsT B z n) (((n:Int)+1)*Q B):=by
 induction n with
 | zero=>exact h.mono (by omega)
 | succ n ih =>
  obtain ⟨g1,g2,g3,g4⟩:=yR (n:=1) (d:=(n:Int)+2) (zJD h (n+1)) (by omega) (by omega) (by omega)
  obtain ⟨k1,k2,k3,k4⟩:=ih;have e:((n+1:Nat):Int)+1=(n:Int)+1+1:=by omega
  rw[e,Int.add_mul,Int.one_mul];unfold nsT;split
  ·exact ⟨by unfold yH;simp only[];omega,by unfold yH;simp only[];omega,by unfold yH;simp only[];omega,by unfold yH;simp only[];omega⟩
  ·exact ⟨by unfold jJ;simp only[];omega,by unfold jJ;simp only[];omega,by unfold jJ;simp only[];omega,by unfold jJ;simp only[];omega⟩
structure RInv (B:Nat) (l:Nat→Rat) (i:Nat) (a:Int × Int):Prop where
 has:Iv B a (Ev (fun M=>l M/(Q i:Rat)))
 lo:Q B≤a.1
 le:a.1≤a.2
 hi:(a.2-Q B-2)*Q i≤Q B
theorem Bdd.over {l:Nat→Rat} (h:Bdd l) (i:Nat):Bdd (fun M=>l M/(Q i:Rat)):=by
 obtain ⟨K,N,k0,hk⟩:=h;have q:=zV i;refine ⟨K,N,k0,fun M hM=>zAO q ((hk M hM).mono ?_)⟩
 have h1:((1:Int):Rat)≤(Q i:Rat):=zW (by have:=zG i;omega)
 have e1:((1:Int):Rat)=1:=rfl;rw[e1] at h1;have:=Rat.mul_nonneg (show 0≤(Q i:Rat)-1 by grind) k0
 grind
theorem zLX {B:Nat} {l:Nat→Rat} {a:Int × Int} (h:Iv B a (Ev l)) (h1:Q B≤a.1) (h2:a.1≤a.2) (h3:a.2≤2*Q B):RInv B l 0 a:=by
 refine ⟨?_,h1,h2,?_⟩
 ·have e:(fun M=>l M/(Q 0:Rat))=l:=funext fun M=>by
   have e0:((Q 0:Int):Rat)=1:=rfl;have:=rdm (a:=l M) (show (0:Rat)<1 by decide)
   rw[e0];grind
  rw[e];exact h
 ·have e0:Q 0=1:=rfl
  rw[e0];omega
theorem zOG {q X t:Int} (hq:0<q) (hX:0≤X) (h0:0≤t) (h:t*t≤(q+X)*q):2*(t-q)≤X:=by
 refine Int.not_lt.1 fun hn=>?_
 have h1:2*q+X+1≤2*t:=by omega
 have h2:=Int.mul_le_mul h1 h1 (by omega) (by omega)
 have e1:2*t*(2*t)=4*(t*t):=by grind
 have e2:(2*q+X+1)*(2*q+X+1)=4*((q+X)*q)+(X*X+4*q+2*X+1):=by grind
 have h3:=Int.mul_nonneg hX hX;omega
theorem zO4 {B i:Nat} {l:Nat→Rat} {a:Int × Int} (hl:Bdd l) (h:RInv B l i a) {r t:Int} (hr0:0≤r) (hr:r*r≤a.1*Q B) (hr2:a.1*Q B<(r+1)*(r+1)) (ht0:0≤t) (ht:t*t≤a.2*Q B) (ht2:a.2*Q B<(t+1)*(t+1)):RInv B l (i+1) (r,t+1):=by
 have q:=zG B;obtain ⟨h1,h2,h3,h4⟩:=h;refine ⟨?_,?_,?_,?_⟩
 ·have h5:=root_has (Bdd.over hl i) h1 (r:=r) (t:=t+1) hr (by omega) (by omega)
  have e:(fun M=>l M/(Q (i+1):Rat))=fun M=>l M/(Q i:Rat)/2:=funext fun M=>by
   have e2:Q (i+1)=2*Q i:=rfl;have e3:((2:Int):Rat)=2:=rfl;have qi:=zV i;have g1:=rdm (a:=l M) qi;rw[e2,Rat.intCast_mul,e3];have g2:=rdm (a:=l M) (show (0:Rat)<2*(Q i:Rat) by grind)
   generalize l M/(Q i:Rat)=U at *;generalize l M/(2*(Q i:Rat))=V at *;have g3:(V-U/2)*(Q i:Rat)=0:=by grind
   rcases Rat.mul_eq_zero.1 g3 with g|g <;> grind
  rw[e];exact h5
 ·refine Int.not_lt.1 fun hn=>?_
  have h5:r+1≤Q B:=by simp only[] at hn;omega
  have h6:=Int.mul_le_mul h5 h5 (by omega) (by omega)
  have h7:=Int.mul_le_mul_of_nonneg_right h2 (show 0≤Q B by omega)
  omega
 ·simp only[]
  refine Int.not_lt.1 fun hn=>?_
  have h5:t+2≤r:=by omega
  have h6:=Int.mul_le_mul (show t+1≤r by omega) (show t+1≤r by omega) (by omega) (by omega)
  have h7:=Int.mul_le_mul_of_nonneg_right h3 (show 0≤Q B by omega)
  omega
 ·have h5:=zOG (q:=Q B) (X:=a.2-Q B) (t:=t) (by omega) (by omega) ht0 (by
   have e:Q B+(a.2-Q B)=a.2:=by omega
   rw[e];exact ht)
  have e2:Q (i+1)=2*Q i:=rfl;have qi:=zG i;have h6:=Int.mul_le_mul_of_nonneg_right (show 2*(t+1-Q B-2)≤a.2-Q B-2 by omega) (show 0≤Q i by omega)
  have e3:(t+1-Q B-2)*(2*Q i)=2*(t+1-Q B-2)*Q i:=by grind
  show (t+1-Q B-2)*Q (i+1)≤Q B
  rw[e2,e3];omega
theorem zGZ {B i:Nat} {l:Nat→Rat} {a:Int × Int} (hB:10≤B) (h:RInv B l i a) (q8:Q i=256):Abs (a.1-Q B,a.2-Q B) (Q (B-6))∧a.1-Q B≤a.2-Q B∧Iv B (a.1-Q B,a.2-Q B) (fun M=>Ev (fun M=>l M/(Q i:Rat)) M-1)∧∃ N0,∀ M,N0≤M→AB (Ev (fun M=>l M/(Q i:Rat)) M-1) (1/2):=by
 obtain ⟨h1,h2,h3,h4⟩:=h
 have qB:Q B=64*Q (B-6):=by
  have:=jC (B-6) 6;rw[show B-6+6=B by omega] at this
  have e:Q 6=64:=rfl;rw[this,e,Int.mul_comm]
 have q6:16≤Q (B-6):=by have:=zJ (show 4≤B-6 by omega);have e:Q 4=16:=rfl;omega
 have hq:=zV B
 have hab:Abs (a.1-Q B,a.2-Q B) (Q (B-6)):=by
  rw[q8] at h4;exact ⟨by simp only[];omega,by simp only[];omega,by simp only[];omega,by simp only[];omega⟩
 have hiv:Iv B (a.1-Q B,a.2-Q B) (fun M=>Ev (fun M=>l M/(Q i:Rat)) M-1):=by
  have e1:(Q B:Rat)/(Q B:Rat)=1:=by rw[Rat.div_def,Rat.mul_inv_cancel _ (by grind)]
  have h5:Iv B (Q B,Q B) (fun _=>(1:Rat)):=by
   unfold Iv;simp only[];rw[e1];exact Has.const Rat.le_refl Rat.le_refl
  have h6:=h1.sub h5;unfold yH at h6;exact h6
 refine ⟨hab,by omega,hiv,?_⟩
 obtain ⟨N,hN⟩:=hiv (1/4) (by grind)
 refine ⟨N,fun M hM=>?_⟩
 obtain ⟨g1,g2⟩:=hN M hM;obtain ⟨a1,a2,a3,a4⟩:=hab;simp only[] at a1 a2 a3 a4 g1 g2
 have c1:(-(1/4):Rat)≤((a.1-Q B:Int):Rat)/(Q B:Rat):=by
  refine kR hq ?_;have:=zW (show -Q B≤4*(a.1-Q B) by omega)
  rw[Rat.intCast_neg,Rat.intCast_mul,show ((4:Int):Rat)=4 from rfl] at this
  grind
 have c2:((a.2-Q B:Int):Rat)/(Q B:Rat)≤1/4:=by
  refine jS hq ?_;have:=zW (show 4*(a.2-Q B)≤Q B by omega)
  rw[Rat.intCast_mul,show ((4:Int):Rat)=4 from rfl] at this
  grind
 constructor <;> grind
open Ex
theorem zH0 {n d n' d' k:Int} {l1 l2:Nat→Rat} (hd:0<d) (h:Bal n d n' d' k) (i1:IsLog l1 (fun _=>(n':Rat)/(d':Rat))) (i2:IsLog l2 (fun _=>(2:Rat))) :
  IsLog (fun M=>l1 M+(k:Rat)*l2 M) (fun _=>(n:Rat)/(d:Rat)):=by
 obtain ⟨h1,h2,h3⟩:=h;have d0:(0:Rat)<(d:Rat):=by exact_mod_cast hd
 have d0':(0:Rat)<(d':Rat):=by exact_mod_cast h1.hd
 by_cases hk:k<0
 ·obtain ⟨j,rfl⟩:∃ j:Nat,k = -(j:Int):=⟨(-k).toNat,by omega⟩
  have hq:=h3 hk;have ej:(-(-(j:Int))).toNat=j:=by omega
  rw[ej] at hq;have qj:=zV j;have l3:=(i2.times j).neg (s:=fun _=>1/(Q j:Rat)) (Bdd.const _) 0 (fun M _=>by rw[pw_Q];exact rdm qj)
  refine ((i1.add l3).congr_r (null_zero.of_eq fun M=>?_)).congr (null_zero.of_eq fun M=>?_)
  ·show (n':Rat)/(d':Rat)*(1/(Q j:Rat))-(n:Rat)/(d:Rat)=0
   have hq2:((n*d'*Q j:Int):Rat)=((n'*d:Int):Rat):=by rw[hq]
   rw[Rat.intCast_mul,Rat.intCast_mul,Rat.intCast_mul] at hq2;have f1:=rdm (a:=(n':Rat)) d0';have f2:=rdm (a:=(n:Rat)) d0;have f3:=rdm (a:=(1:Rat)) qj;generalize (n':Rat)/(d':Rat)=r' at *;generalize (n:Rat)/(d:Rat)=r at *;generalize 1/(Q j:Rat)=i at *;rw[← f1,← f2] at hq2;have f4:(d:Rat)*((d':Rat)*(r*(Q j:Rat)-r'))=0:=by grind
   have f5:r*(Q j:Rat)=r':=by
    rcases Rat.mul_eq_zero.1 f4 with h|h
    ·grind
    ·rcases Rat.mul_eq_zero.1 h with h|h
     ·grind
     ·grind
   rw[← f5];have:r*(Q j:Rat)*i-r=r*(i*(Q j:Rat))-r:=by grind
   rw[this,f3];grind
  ·have e:((-(j:Int):Int):Rat) = -(j:Rat):=by rw[Rat.intCast_neg];rfl
   rw[e];grind
 ·obtain ⟨j,rfl⟩:∃ j:Nat,k=(j:Int):=⟨k.toNat,by omega⟩
  have hq:=h2 (by omega)
  have ej:((j:Int)).toNat=j:=by omega
  rw[ej] at hq;have l3:=i2.times j;refine (i1.add l3).congr_r (null_zero.of_eq fun M=>?_)
  show (n':Rat)/(d':Rat)*pw 2 j-(n:Rat)/(d:Rat)=0
  rw[pw_Q];have hq2:((n*d':Int):Rat)=((n'*d*Q j:Int):Rat):=by rw[hq]
  rw[Rat.intCast_mul,Rat.intCast_mul,Rat.intCast_mul] at hq2;have f1:=rdm (a:=(n':Rat)) d0';have f2:=rdm (a:=(n:Rat)) d0;generalize (n':Rat)/(d':Rat)=r' at *;generalize (n:Rat)/(d:Rat)=r at *;rw[← f1,← f2] at hq2;have f4:(d:Rat)*((d':Rat)*(r'*(Q j:Rat)-r))=0:=by grind
  rcases Rat.mul_eq_zero.1 f4 with h|h
  ·grind
  ·rcases Rat.mul_eq_zero.1 h with h|h
   ·grind
   ·exact h
theorem zIQ {B N i:Nat} {l:Nat→Rat} {a z:Int × Int} (hl:Bdd l) (hB:10≤B) (h:RInv B l i a) (q8:Q i=256) (hz:z=(a.1-Q B,a.2-Q B)) (hN:zT (npT B z N)≤1∨B≤N+1):Iv B (zE (jJ (nsT B z N) (-2,2)) 256 1) l:=by
 subst hz;obtain ⟨h1,h2,h3,N0,h4⟩:=zGZ hB h q8;have h5:=near_log (Bdd.over hl i) h3 N0 h4 hN;refine (h5.scale (n:=256) (d:=1) (by omega) (by omega)).congr (null_zero.of_eq fun M=>?_)
 rw[q8];have e1:((1:Int):Rat)=1:=rfl;have e2:((256:Int):Rat)=256:=rfl;rw[e1,e2];have f1:=rdm (a:=l M) (show (0:Rat)<256 by decide)
 have f2:=rdm (a:=(256:Rat)) (show (0:Rat)<1 by decide)
 generalize l M/256=U at *;generalize (256:Rat)/1=V at *;have:V=256:=by grind
 rw[this];grind
theorem Iv.le {B:Nat} {a:Int × Int} {x:Nat→Rat} (h:Iv B a x):a.1≤a.2 :=
 Int.le_of_mul_le_mul_right (h.touch h) (by have:=zG B;omega)
theorem Iv.neg {B:Nat} {a:Int × Int} {x:Nat→Rat} (h:Iv B a x):Iv B (-a.2,-a.1) (fun M => -x M):=by
 have q:=zV B
 intro e he
 obtain ⟨N,hN⟩:=h e he;refine ⟨N,fun M hM=>?_⟩
 obtain ⟨g1,g2⟩:=hN M hM;have e1:((-a.2:Int):Rat)/(Q B:Rat) = -((a.2:Rat)/(Q B:Rat)):=by rw[Rat.intCast_neg,Rat.div_def,Rat.div_def,Rat.neg_mul]
 have e2:((-a.1:Int):Rat)/(Q B:Rat) = -((a.1:Rat)/(Q B:Rat)):=by rw[Rat.intCast_neg,Rat.div_def,Rat.div_def,Rat.neg_mul]
 simp only[];rw[e1,e2];constructor <;> grind
theorem byI_neg {a:Int × Int} {n d:Int} (ha:a.1≤a.2) (hn:n<0):byI a n d=zE (-a.2,-a.1) (-n) d:=by
 have h:=Int.mul_le_mul_of_nonpos_right ha (show n≤0 by omega)
 have e1:jA (pr (a.1*n) (a.2*n)) 1=a.2*n:=by
  simp only[jA,pr];simp;omega
 have e2:jM (pr (a.1*n) (a.2*n)) 1=a.1*n:=by
  simp only[jM,pr];simp;omega
 unfold byI zE;rw[e1,e2];simp only[];rw[show -a.2 * -n=a.2*n by grind,show -a.1 * -n=a.1*n by grind]
theorem Iv.by_ {B:Nat} {a:Int × Int} {x:Nat→Rat} (h:Iv B a x) (n:Int) {d:Int} (hd:0<d):Iv B (byI a n d) (fun M=>(n:Rat)/(d:Rat)*x M):=by
 by_cases hn:n<0
 ·rw[byI_neg h.le hn]
  refine (h.neg.scale (n := -n) (by omega) hd).congr (null_zero.of_eq fun M=>?_)
  have e:((-n:Int):Rat)/(d:Rat) = -((n:Rat)/(d:Rat)):=by rw[Rat.intCast_neg,Rat.div_def,Rat.div_def,Rat.neg_mul]
  rw[e];grind
 ·rw[kP h.le (by omega)]
  exact h.scale (by omega) hd
theorem zIX {a:Int × Int} {m p n d c:Int} (h:Abs a m) (hd:0<d) (h1 : -c≤n) (h2:n≤c) (hp:m*c≤p*d):Abs (byI a n d) p:=by
 obtain ⟨g1,g2,g3,g4⟩:=h;obtain ⟨k1,k2⟩:=yV g1 g2 h1 h2;obtain ⟨k3,k4⟩:=yV g3 g4 h1 h2
 have f1:jA (pr (a.1*n) (a.2*n)) 1=a.1*n∨jA (pr (a.1*n) (a.2*n)) 1=a.2*n:=by
  simp only[jA,pr];simp;omega
 have f2:jM (pr (a.1*n) (a.2*n)) 1=a.1*n∨jM (pr (a.1*n) (a.2*n)) 1=a.2*n:=by
  simp only[jM,pr];simp;omega
 have r1:=jD (x:=jA (pr (a.1*n) (a.2*n)) 1) (m:=p) hd (by omega) (by omega)
 have r2:=jD (x:=jM (pr (a.1*n) (a.2*n)) 1) (m:=p) hd (by omega) (by omega)
 exact ⟨r1.1,r1.2.1,r2.2.2.1,r2.2.2.2⟩
theorem zKT (p:Int) (n:Nat):2*(p/Q (n+1))≤p/Q n∧p/Q n≤2*(p/Q (n+1))+1:=by
 have q:=zG n
 have e:p/Q (n+1)=p/Q n/2:=by
  rw[show Q (n+1)=Q n*2 by show 2*Q n=_;omega,← Int.ediv_ediv_of_nonneg (by omega)]
 rw[e];omega
theorem npT_fall {B:Nat} {z:Int × Int} {p:Int} (h:Abs z p) (hp:4*p≤Q B) (n:Nat):Abs (npT B z n) (p/Q n+2):=by
 have p0:=h.nonneg
 induction n with
 | zero =>
  have e:Q 0=1:=rfl;rw[e,Int.ediv_one];exact h.mono (by omega)
 | succ n ih =>
  obtain ⟨h1,h2⟩:=zKT p n;have x0:0≤p/Q n:=Int.ediv_nonneg p0 (by have:=zG n;omega)
  refine yW ih h ?_;have g1:=Int.mul_le_mul_of_nonneg_left hp (show 0≤p/Q n+2 by omega)
  have g2:=Int.mul_le_mul_of_nonneg_right (show p/Q n+2≤4*(p/Q (n+1)+2) by omega) (show 0≤Q B by have:=zG B;omega)
  have e1:(p/Q n+2)*(4*p)=4*((p/Q n+2)*p):=by grind
  have e2:4*(p/Q (n+1)+2)*Q B=4*((p/Q (n+1)+2)*Q B):=by grind
  omega
theorem Abs.sub {a b:Int × Int} {m n:Int} (h:Abs a m) (k:Abs b n):Abs (yH a b) (m+n):=by
 obtain ⟨h1,h2,h3,h4⟩:=h;obtain ⟨k1,k2,k3,k4⟩:=k;exact ⟨by unfold yH;simp only[];omega,by unfold yH;simp only[];omega,by unfold yH;simp only[];omega,by unfold yH;simp only[];omega⟩
theorem nsT_fall {B:Nat} {z:Int × Int} {p:Int} (h:Abs z p) (hp:4*p≤Q B) (n:Nat):Abs (nsT B z n) (2*p-p/Q n+2*n):=by
 induction n with
 | zero =>
  have e:Q 0=1:=rfl;rw[e,Int.ediv_one];exact h.mono (by omega)
 | succ n ih =>
  obtain ⟨h1,h2⟩:=zKT p n;have hs:=yR (n:=1) (d:=(n:Int)+2) (npT_fall h hp (n+1)) (by omega) (by omega) (by omega)
  unfold nsT;split
  ·exact (ih.sub hs).mono (by omega)
  ·exact (ih.add hs).mono (by omega)
theorem Q_lin (B : Nat) (h : 20 ≤ B) : 1024 * (B : Int) + 4096 ≤ Q B := by
  obtain ⟨j, rfl⟩ : ∃ j, B = 20 + j := ⟨B - 20, by omega⟩
  clear h
  induction j with
  | zero => have e : Q (20 + 0) = 1048576 := rfl
            rw [e]; omega
  | succ j ih =>
    have e : Q (20 + (j + 1)) = 2 * Q (20 + j) := rfl
    rw [e]; omega
theorem scale256 (a:Int × Int):zE a 256 1=(256*a.1,256*a.2):=by
 unfold zE;simp only[Int.ediv_one,Int.neg_neg];rw[Int.mul_comm,Int.mul_comm a.2]
theorem zIZ {B N i:Nat} {l:Nat→Rat} {a:Int × Int} (hB:20≤B) (h:RInv B l i a) (q8:Q i=256) (hN:N≤B+20):Abs (zE (jJ (nsT B (a.1-Q B,a.2-Q B) N) (-2,2)) 256 1) (3*Q B):=by
 obtain ⟨h1,h2,h3,h4⟩:=h
 have qB:Q B=256*Q (B-8):=by
  have:=jC (B-8) 8;rw[show B-8+8=B by omega] at this
  have e:Q 8=256:=rfl;rw[this,e,Int.mul_comm]
 have q8':4096≤Q (B-8):=by have:=zJ (show 12≤B-8 by omega);have e:Q 12=4096:=rfl;omega
 rw[q8] at h4;have hz:Abs (a.1-Q B,a.2-Q B) (Q (B-8)+2):=⟨by simp only[];omega,by simp only[];omega,by simp only[];omega,by simp only[];omega⟩
 obtain ⟨f1,f2,f3,f4⟩:=nsT_fall (B:=B) hz (by omega) N
 have hx:0≤(Q (B-8)+2)/Q N:=Int.ediv_nonneg (by omega) (by have:=zG N;omega)
 have hl:=Q_lin B hB;rw[scale256];unfold jJ;exact ⟨by simp only[];omega,by simp only[];omega,by simp only[];omega,by simp only[];omega⟩
theorem zPR {a:Int × Int} {m p:Int} (t:Nat) (h:Abs a m) (hp:m≤p*Q t):Abs (zN a t) p:=by
 obtain ⟨g1,g2,g3,g4⟩:=h;have q:=zG t;have r1:=jD (x:=a.1) (m:=p) (q:=Q t) (by omega) (by omega) (by omega)
 have r2:=jD (x:=a.2) (m:=p) (q:=Q t) (by omega) (by omega) (by omega)
 exact ⟨r1.1,r1.2.1,r2.2.2.1,r2.2.2.2⟩
theorem zJ9 {n d n' d':Int} {i j:Nat} (hn:0<n) (hd:0<d) (hn':n'=n*Q j) (hd':d'=d*Q i) (h1:d'≤n') (h2:n'<2*d') (h0:j=0∨i=0):Bal n d n' d' ((i:Int)-(j:Int)):=by
 have qi:=zG i;have qj:=zG j;have p1:0<n':=by rw[hn'];exact Int.mul_pos hn (by omega)
 have p2:0<d':=by rw[hd'];exact Int.mul_pos hd (by omega)
 have e0:Q 0=1:=rfl;refine ⟨⟨p1,p2,by omega,by omega⟩,fun h=>?_,fun h=>?_⟩
 ·have hj:j=0:=by omega
  subst hj;rw[show ((i:Int)-((0:Nat):Int)).toNat=i by omega,hn',hd',e0,Int.mul_one,Int.mul_assoc]
 ·have hi:i=0:=by omega
  subst hi;rw[show (-(((0:Nat):Int)-(j:Int))).toNat=j by omega,hn',hd',e0,Int.mul_one];grind
theorem steps_lo {n d:Int} {j J:Nat} (hn:0<n) (h:n*Q j<d) (hJ:d≤n*Q J):j<J:=by
 refine Nat.lt_of_not_le fun hn'=>?_
 have:=Int.mul_le_mul_of_nonneg_left (zJ hn') (show 0≤n by omega)
 omega
theorem isLog_two:Ex.IsLog (fun M=>2*Ex.Az (zR 2 1) M) (fun _=>(2:Rat)):=by
 have h:=zDC (n:=2) (d:=1) ⟨by omega,by omega,by omega,by omega⟩
 refine h.congr_r (Ex.null_zero.of_eq fun M=>?_)
 have e:((2:Int):Rat)/((1:Int):Rat)=2:=by decide +kernel
 rw[e];grind
namespace Ex
theorem zJ8 {c:Rat} {x:Nat→Rat} (h:∀ e,0<e→∃ N,∀ M,N≤M→c-e≤x M):∃ z,Null z∧∀ M,c≤x M+z M:=by
 refine ⟨fun M=>if c≤x M then 0 else c-x M,fun e he=>?_,fun M=>?_⟩
 ·obtain ⟨N,hN⟩:=h e he
  refine ⟨N,fun M hM=>?_⟩
  have:=hN M hM
  show AB (if c≤x M then 0 else c-x M) e
  split
  ·constructor <;> grind
  ·constructor <;> grind
 ·show c≤x M+(if c≤x M then 0 else c-x M)
  split <;> grind
theorem zM4 {c:Rat} {x:Nat→Rat} (h:∀ e,0<e→∃ N,∀ M,N≤M→x M≤c+e):∃ z,Null z∧∀ M,x M≤c+z M:=by
 obtain ⟨z,h1,h2⟩:=zJ8 (c := -c) (x:=fun M => -x M) (fun e he=>by
  obtain ⟨N,hN⟩:=h e he
  exact ⟨N,fun M hM=>by have:=hN M hM;grind⟩)
 exact ⟨z,h1,fun M=>by have:=h2 M;grind⟩
end Ex
theorem zMN {B:Nat} {s u v:Int × Int} {x:Nat→Rat} (hb:Bdd x) (h:Iv B s x) (hu:Iv B u (Ev (fun _=>(s.1:Rat)/(Q B:Rat)))) (hv:Iv B v (Ev (fun _=>(s.2:Rat)/(Q B:Rat)))):Iv B (u.1,v.2) (Ev x):=by
 obtain ⟨z,hz,h1⟩:=zJ8 (c:=(s.1:Rat)/(Q B:Rat)) (x:=x) (fun e he=>by
  obtain ⟨N,hN⟩:=h e he
  exact ⟨N,fun M hM=>(hN M hM).1⟩)
 obtain ⟨z',hz',h2⟩:=zM4 (c:=(s.2:Rat)/(Q B:Rat)) (x:=x) (fun e he=>by
  obtain ⟨N,hN⟩:=h e he
  exact ⟨N,fun M hM=>(hN M hM).2⟩)
 obtain ⟨m,hm,N,h3⟩:=zCW (Bdd.const ((s.1:Rat)/(Q B:Rat))) hb hz 0 (fun M _=>h1 M)
 obtain ⟨n,hn,N',h4⟩:=zCW hb (Bdd.const ((s.2:Rat)/(Q B:Rat))) hz' 0 (fun M _=>h2 M)
 exact zJR hu hv hm hn N h3 N' h4
open Go.RowKit
attribute [local go_sem ↓] Go.wp_at_zero Go.wp_at_succ
theorem zFJ {w:World} {B:Nat} {z:Nm} (h:NmC w B z) (x:Nm):NmC ((w.setCell ⟨B,0,none⟩ (.bool x.neg)).setCell ⟨B,1,none⟩ (.slice x.a x.n x.cap)) B x:=by
 obtain ⟨q0,q1⟩:=h;constructor <;> simp[go_sem,q0,q1]
theorem zAT {w:World} {B B':Nat} (h:∀ o,w.frozen? ⟨B,o,none⟩=false) (u0 u1:Value):∀ o,((w.setCell ⟨B',0,none⟩ u0).setCell ⟨B',1,none⟩ u1).frozen? ⟨B,o,none⟩=false:=fun o=>by rw[zM,zM];exact h o
theorem NmC.off {w:World} {B B':Nat} {x:Nm} (h:NmC w B x) (hne:B≠B') (u0 u1:Value):NmC ((w.setCell ⟨B',0,none⟩ u0).setCell ⟨B',1,none⟩ u1) B x:=by
 obtain ⟨q0,q1⟩:=h;constructor <;> simp[go_sem,q0,q1,hne,Ne.symm hne]
theorem NoI.off {w:World} {B B':Nat} (h:NoI w B) (hne:B≠B') (u0 u1:Value):NoI ((w.setCell ⟨B',0,none⟩ u0).setCell ⟨B',1,none⟩ u1) B:=by
 obtain ⟨q0,q1,q2⟩:=h;exact ⟨by simp[go_sem,q0,hne,Ne.symm hne],by simp[go_sem,q1,hne,Ne.symm hne],zAT q2 _ _⟩
theorem zAA {a p q:Int} (hp:0<p) (hpq:p≤q) (ha:0≤a):a/q≤a/p:=by
 have hq:0<q:=by omega
 have h0:0≤a/q:=Int.ediv_nonneg ha (by omega)
 rw[Int.le_ediv_iff_mul_le hp];have h1:=Int.ediv_mul_le a (show q≠0 by omega)
 have h2:=Int.mul_le_mul_of_nonneg_left hpq h0;omega
theorem zAB {a p q:Int} (hp:0<p) (hpq:p≤q) (ha:a≤0):a/p≤a/q:=by
 have hq:0<q:=by omega
 have h0:a/p≤0:=by
  have:=Int.ediv_le_ediv hp ha
  simpa using this
 rw[Int.le_ediv_iff_mul_le hq];have h1:=Int.ediv_mul_le a (show p≠0 by omega)
 have h2:=Int.mul_le_mul_of_nonneg_left hpq (show 0 ≤ -(a/p) by omega)
 rw[Int.neg_mul,Int.neg_mul] at h2;omega
theorem zFU {l h p q:Int} (hlh:l≤h) (hp:0<p) (hpq:p≤q) :
  jA (pr4 (l/p) (l/q) (h/p) (h/q)) 3=if l<0 then l/p else l/q:=by
 have m1:l/p≤h/p:=Int.ediv_le_ediv hp hlh;have m2:l/q≤h/q:=Int.ediv_le_ediv (by omega) hlh
 have d1:0≤l→l/q≤l/p:=zAA hp hpq;have d2:l≤0→l/p≤l/q:=zAB hp hpq;have d3:0≤h→h/q≤h/p:=zAA hp hpq;have d4:h≤0→h/p≤h/q:=zAB hp hpq;simp only[jA,pr4];simp;generalize l/p=A at *;generalize l/q=B at *;generalize h/p=C at *;generalize h/q=D at *;split <;> split <;> split <;> split <;> omega
theorem zHL {l h p q:Int} (hlh:l≤h) (hp:0<p) (hpq:p≤q) :
  jM (pr4 (-(-l/p)) (-(-l/q)) (-(-h/p)) (-(-h/q))) 3=if h<0 then -(-h/q) else -(-h/p):=by
 have m1 : -h/p ≤ -l/p:=Int.ediv_le_ediv hp (by omega)
 have m2 : -h/q ≤ -l/q:=Int.ediv_le_ediv (by omega) (by omega)
 have d1:0 ≤ -l → -l/q ≤ -l/p:=zAA hp hpq;have d2 : -l≤0 → -l/p ≤ -l/q:=zAB hp hpq;have d3:0 ≤ -h → -h/q ≤ -h/p:=zAA hp hpq;have d4 : -h≤0 → -h/p ≤ -h/q:=zAB hp hpq;simp only[jM,pr4];simp;generalize -l/p=A at *;generalize -l/q=B at *;generalize -h/p=C at *;generalize -h/q=D at *;split <;> split <;> split <;> split <;> omega
theorem kH {w:World} {B B' o:Nat} {v:Option Value} (h:w.cell? ⟨B,o,none⟩=v) (hne:B≠B') (u0 u1:Value):((w.setCell ⟨B',0,none⟩ u0).setCell ⟨B',1,none⟩ u1).cell? ⟨B,o,none⟩=v:=by
 have ne:∀ i:Nat,(⟨B',i,none⟩:Addr)≠⟨B,o,none⟩:=fun i e=>hne (by injection e with e1;exact e1.symm)
 rw[World.cell?_setCell_other _ _ _ _ (ne 1),World.cell?_setCell_other _ _ _ _ (ne 0)];exact h
theorem jE {w:World} {B B' o:Nat} {v:Option Value} (h:w.cell? ⟨B,o,none⟩=v) (hne:B≠B') (u0 u1 u2 u3 u4:Value) :
  (((((w.setCell ⟨B',0,none⟩ u0).setCell ⟨B',1,none⟩ u1).setCell ⟨B',2,none⟩ u2).setCell ⟨B',3,none⟩ u3).setCell ⟨B',4,none⟩ u4).cell? ⟨B,o,none⟩=v:=by
 have ne:∀ i:Nat,(⟨B',i,none⟩:Addr)≠⟨B,o,none⟩:=fun i e=>hne (by injection e with e1;exact e1.symm)
 rw[World.cell?_setCell_other _ _ _ _ (ne 4),World.cell?_setCell_other _ _ _ _ (ne 3),World.cell?_setCell_other _ _ _ _ (ne 2),World.cell?_setCell_other _ _ _ _ (ne 1),World.cell?_setCell_other _ _ _ _ (ne 0)];exact h
theorem SpC.put2 {w:World} {B B':Nat} {s:Sp} (h:SpC w B s) (hne:B≠B') (u0 u1:Value):SpC ((w.setCell ⟨B',0,none⟩ u0).setCell ⟨B',1,none⟩ u1) B s :=
 ⟨kH h.c0 hne _ _,kH h.c1 hne _ _,kH h.c2 hne _ _,kH h.c3 hne _ _,kH h.c4 hne _ _⟩
theorem NmC.put2 {w:World} {B B':Nat} {x:Nm} (h:NmC w B x) (hne:B≠B') (u0 u1:Value):NmC ((w.setCell ⟨B',0,none⟩ u0).setCell ⟨B',1,none⟩ u1) B x :=
 ⟨kH h.c0 hne _ _,kH h.c1 hne _ _⟩
theorem NoC.put2 {w:World} {B B':Nat} (h:NoC w B) (hne:B≠B') (u0 u1:Value):NoC ((w.setCell ⟨B',0,none⟩ u0).setCell ⟨B',1,none⟩ u1) B:=by
 obtain ⟨q0,q1,q2,q3,q4,q5⟩:=h;exact ⟨kH q0 hne _ _,kH q1 hne _ _,kH q2 hne _ _,kH q3 hne _ _,kH q4 hne _ _,fun o=>by rw[zM,zM];exact q5 o⟩
theorem SpAt.put2 {w:World} {s:Sp} {k:Nat} {lo hi:Int} (h:SpAt w s k lo hi) {B:Nat} {x0:Bool} {y0:Option Addr} {y1 y2:Nat} (h0:w.cell? ⟨B,0,none⟩=some (.bool x0)) (h1:w.cell? ⟨B,1,none⟩=some (.slice y0 y1 y2)) (u0 u1:Value) :
  SpAt ((w.setCell ⟨B,0,none⟩ u0).setCell ⟨B,1,none⟩ u1) s k lo hi:=⟨h.lo.put2 h0 h1 _ _,h.hi.put2 h0 h1 _ _⟩
theorem zEH (w:World) (B:Nat) (hB:w.heap.size=B) (T:TypeId):NoI (w.alloc (.cells #[.bool false,.slice none 0 0] T)) B:=by subst hB;exact jW w T
theorem hs1 (w:World) (o1:Obj):(w.alloc o1).heap.size=w.heap.size+1:=by simp
def TwoV (W wx:World) (k1 k2:Nat) (z1 z2:Int) (p q:Value):Prop :=
 VarAt wx p W.heap.size k1 z1∧VarAt wx q W.heap.size k2 z2∧p≠q∧FzP wx p∧FzP wx q∧Below W.heap.size W wx
theorem zM9 {w:World} {B:Nat} (h:NoI w B) (x:Nm):NmC ((w.setCell ⟨B,0,none⟩ (.bool x.neg)).setCell ⟨B,1,none⟩ (.slice x.a x.n x.cap)) B x:=by
 obtain ⟨q0,q1,q2⟩:=h;constructor <;> simp[go_sem,q0,q1]
theorem zDK {w:World} {B B':Nat} (h:∀ o,w.frozen? ⟨B,o,none⟩=false) (u0 u1:Value):∀ o,((w.setCell ⟨B',0,none⟩ u0).setCell ⟨B',1,none⟩ u1).frozen? ⟨B,o,none⟩=false:=fun o=>by rw[zM,zM];exact h o
theorem nepp {B B':Nat} (h:B≠B'):(Value.pointer (some ⟨B,0,none⟩))≠.pointer (some ⟨B',0,none⟩):=by intro e;injection e with e1;injection e1 with e2;injection e2 with e3;exact h e3
theorem zKZ {W wx:World} {k1 k2:Nat} {z1 z2:Int} {B B':Nat} {x y:Nm} (hx:NmC wx B x) (hy:NmC wx B' y) (ix:IntAt wx x.neg x.a x.n x.cap k1 z1) (iy:IntAt wx y.neg y.a y.n y.cap k2 z2) (h1:W.heap.size≤B) (h2:W.heap.size≤B') (hne:B≠B') (f1:∀ o,wx.frozen? ⟨B,o,none⟩=false) (f2:∀ o,wx.frozen? ⟨B',o,none⟩=false) (hb:Below W.heap.size W wx) :
  TwoV W wx k1 k2 z1 z2 (.pointer (some ⟨B,0,none⟩)) (.pointer (some ⟨B',0,none⟩)) :=
 ⟨⟨B,x,rfl,hx.c0,hx.c1,ix,h1,hx.lt⟩,⟨B',y,rfl,hy.c0,hy.c1,iy,h2,hy.lt⟩,nepp hne,fun C hC o=>(by cases hC;exact f1 o),fun C hC o=>(by cases hC;exact f2 o),hb⟩
variable {W w2 : World} {k1 k2 : Nat} {z1 z2 : Int} {x y : Nm} {T : TypeId}
theorem two_aa (hb:Below W.heap.size W w2) (ix:IntAt w2 x.neg x.a x.n x.cap k1 z1) (iy:IntAt w2 y.neg y.a y.n y.cap k2 z2) :
  TwoV W ((w2.alloc (.cells #[.bool x.neg,.slice x.a x.n x.cap] T)).alloc (.cells #[.bool y.neg,.slice y.a y.n y.cap] T)) k1 k2 z1 z2 (.pointer (some ⟨w2.heap.size,0,none⟩)) (.pointer (some ⟨w2.heap.size+1,0,none⟩)) :=
 zKZ (x:=x) (y:=y) ⟨by simp[go_sem],by simp[go_sem]⟩ ⟨by simp[go_sem],by simp[go_sem]⟩ (ix.bw (bl2 _ _ _)) (iy.bw (bl2 _ _ _)) hb.size (Nat.le_succ_of_le hb.size) (Nat.ne_of_lt (Nat.lt_succ_self _)) (fun o=>by simp[go_sem]) (fun o=>by simp[go_sem]) (zB hb (bl2 _ _ _))
theorem zO8 (hb:Below W.heap.size W w2) (ix:IntAt w2 x.neg x.a x.n x.cap k1 z1) (iy:IntAt w2 y.neg y.a y.n y.cap k2 z2) :
  TwoV W ((w2.alloc (.cells #[.bool y.neg,.slice y.a y.n y.cap] T)).alloc (.cells #[.bool x.neg,.slice x.a x.n x.cap] T)) k1 k2 z1 z2 (.pointer (some ⟨w2.heap.size+1,0,none⟩)) (.pointer (some ⟨w2.heap.size,0,none⟩)) :=
 zKZ (x:=x) (y:=y) ⟨by simp[go_sem],by simp[go_sem]⟩ ⟨by simp[go_sem],by simp[go_sem]⟩ (ix.bw (bl2 _ _ _)) (iy.bw (bl2 _ _ _)) (Nat.le_succ_of_le hb.size) hb.size (Nat.ne_of_gt (Nat.lt_succ_self _)) (fun o=>by simp[go_sem]) (fun o=>by simp[go_sem]) (zB hb (bl2 _ _ _))
theorem zPH {B:Nat} (hb:Below W.heap.size W w2) (ix:IntAt w2 x.neg x.a x.n x.cap k1 z1) (iy:IntAt w2 y.neg y.a y.n y.cap k2 z2) (g:NoI w2 B) (h1:W.heap.size≤B) :
  TwoV W (((w2.setCell ⟨B,0,none⟩ (.bool x.neg)).setCell ⟨B,1,none⟩ (.slice x.a x.n x.cap)).alloc (.cells #[.bool y.neg,.slice y.a y.n y.cap] T)) k1 k2 z1 z2 (.pointer (some ⟨B,0,none⟩)) (.pointer (some ⟨w2.heap.size,0,none⟩)):=by
 have hx:=zM9 g x;have ix':=ix.put2 g.c0 g.c1 (.bool x.neg) (.slice x.a x.n x.cap);have iy':=iy.put2 g.c0 g.c1 (.bool x.neg) (.slice x.a x.n x.cap);have hl:=g.lt;have hs:w2.heap.size=((w2.setCell ⟨B,0,none⟩ (.bool x.neg)).setCell ⟨B,1,none⟩ (.slice x.a x.n x.cap)).heap.size:=by simp[World.setCell]
 have hf:=zDK (B':=B) (fun o=>g.fz o) (.bool x.neg) (.slice x.a x.n x.cap)
 have hb':=zDN hb h1 (.bool x.neg) (.slice x.a x.n x.cap);generalize ((w2.setCell ⟨B,0,none⟩ (.bool x.neg)).setCell ⟨B,1,none⟩ (.slice x.a x.n x.cap))=V at *;rw[hs];exact zKZ (x:=x) (y:=y) (hx.bw (bl1 _ _)) ⟨by simp[go_sem],by simp[go_sem]⟩ (ix'.bw (bl1 _ _)) (iy'.bw (bl1 _ _)) h1 hb'.size (by omega) (fun o=>((bl1 V _).frozen (p:=⟨B,o,none⟩) (show B<V.heap.size by omega)).trans (hf o)) (fun o=>by simp[go_sem]) (zB hb' (bl1 _ _))
theorem two_as {B:Nat} (hb:Below W.heap.size W w2) (ix:IntAt w2 x.neg x.a x.n x.cap k1 z1) (iy:IntAt w2 y.neg y.a y.n y.cap k2 z2) (g:NoI w2 B) (h1:W.heap.size≤B) :
  TwoV W (((w2.setCell ⟨B,0,none⟩ (.bool y.neg)).setCell ⟨B,1,none⟩ (.slice y.a y.n y.cap)).alloc (.cells #[.bool x.neg,.slice x.a x.n x.cap] T)) k1 k2 z1 z2 (.pointer (some ⟨w2.heap.size,0,none⟩)) (.pointer (some ⟨B,0,none⟩)):=by
 obtain ⟨a1,a2,a3,a4,a5,a6⟩:=zPH (T:=T) hb iy ix g h1;exact ⟨a2,a1,fun e=>a3 e.symm,a5,a4,a6⟩
theorem two_ss {B B':Nat} (hb:Below W.heap.size W w2) (ix:IntAt w2 x.neg x.a x.n x.cap k1 z1) (iy:IntAt w2 y.neg y.a y.n y.cap k2 z2) (g:NoI w2 B) (g':NoI w2 B') (h1:W.heap.size≤B) (h2:W.heap.size≤B') (hne:B≠B') :
  TwoV W ((((w2.setCell ⟨B,0,none⟩ (.bool x.neg)).setCell ⟨B,1,none⟩ (.slice x.a x.n x.cap)).setCell ⟨B',0,none⟩ (.bool y.neg)).setCell ⟨B',1,none⟩ (.slice y.a y.n y.cap)) k1 k2 z1 z2 (.pointer (some ⟨B,0,none⟩)) (.pointer (some ⟨B',0,none⟩)):=by
 have hx:=zM9 g x;have ix':=ix.put2 g.c0 g.c1 (.bool x.neg) (.slice x.a x.n x.cap);have iy':=iy.put2 g.c0 g.c1 (.bool x.neg) (.slice x.a x.n x.cap);have hf:=zDK (B':=B) (fun o=>g.fz o) (.bool x.neg) (.slice x.a x.n x.cap)
 have hf':=zDK (B':=B) (fun o=>g'.fz o) (.bool x.neg) (.slice x.a x.n x.cap)
 have hb':=zDN hb h1 (.bool x.neg) (.slice x.a x.n x.cap);have q0:=kH g'.c0 (fun e=>hne e.symm) (.bool x.neg) (.slice x.a x.n x.cap)
 have q1:=kH g'.c1 (fun e=>hne e.symm) (.bool x.neg) (.slice x.a x.n x.cap)
 generalize ((w2.setCell ⟨B,0,none⟩ (.bool x.neg)).setCell ⟨B,1,none⟩ (.slice x.a x.n x.cap))=V at *;have g2:NoI V B':=⟨q0,q1,hf'⟩;exact zKZ (x:=x) (y:=y) (hx.put2 hne _ _) (zM9 g2 y) (ix'.put2 q0 q1 _ _) (iy'.put2 q0 q1 _ _) h1 h2 hne (zDK hf _ _) (zDK hf' _ _) (zDN hb' h2 _ _)
end Go.Proofs.YtgmnknmjainababGreat
