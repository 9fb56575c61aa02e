/-
  Its own texts.
-/
import Derived.Test.YtgmnknmjainabacGreatK08
set_option maxRecDepth 100000
set_option maxHeartbeats 40000000
set_option linter.unnecessarySimpa false
set_option linter.unusedSimpArgs false
set_option linter.unusedVariables false
namespace Go.Proofs.YtgmnknmjainabacGreat
open Go.RowKit
attribute [local go_sem ↓] Go.wp_at_zero Go.wp_at_succ
def zFT (k:Int):Bool:=k == 2 || k == 5 || k == 7
theorem jD (k:Int) (w:World) :
  Calls Tryz.prog 128 #[.int .i64 k] w λ r w'=>r=.returned (.bool (zFT k))/\Below w.heap.size w w':=by
 by_cases h2:k=2
 ·subst h2
  go_enter Tryz.func128,Tryz.ntmps128
  go_wp2
  go_ret
  exact⟨rfl,Below.refl _ _⟩
 by_cases h5:k=5
 ·subst h5
  go_enter Tryz.func128,Tryz.ntmps128
  go_wp2
  go_ret
  exact⟨rfl,Below.refl _ _⟩
 ·go_enter Tryz.func128,Tryz.ntmps128
  go_wp2
  go_ret
  exact⟨by simp[zFT,h2,h5],Below.refl _ _⟩
def zAC (p q n:Int):Bool:=decide (-(n*q)<=p) && decide (p<=n*q)
theorem zBK (p q n:Int) (w:World) (dt:0<=n) (hn:n<=100000) (oh:1<=q) (hq:q<=1024) :
  Calls Tryz.prog 75 #[.agg #[.int .i64 p,.int .i64 q],.int .i64 n] w λ r w'=>r=.returned (.bool (zAC p q n))/\Below w.heap.size w w':=by
 have e : -n*q = -(n*q):=Int.neg_mul _ _;have b1:0<=n*q:=Yz dt (by omega)
 have b2:n*q<=102400000:=Int.le_trans (Int.mul_le_mul hn hq (by omega) (by omega)) (by decide)
 by_cases h1 : -(n*q)<=p
 ·go_enter Tryz.func75,Tryz.ntmps75
  go_wp2
  go_ret
  exact⟨by simp[zAC,h1];try omega,bl1 _ _⟩
 ·go_enter Tryz.func75,Tryz.ntmps75
  go_wp2
  go_ret
  exact⟨by simp[zAC,h1];try omega,bl1 _ _⟩
def yR (k p q r s:Int):Bool :=
 if k=1 then decide (0<r) else if k=3\/k=4 then decide (0<p) && decide (0<r)
 else if k=6 then decide (q=1) && (decide (0<=p) && (decide (p<=100) && (decide (0<=r) && decide (r<=s)))) else decide (0<p)
theorem zBH (k p q r s:Int) (w:World) (h1:1<=k) (h7:k<=7) :
  Calls Tryz.prog 129 #[.agg #[.int .i64 k,.int .i64 p,.int .i64 q,.int .i64 r,.int .i64 s]] w λ z w'=>z=.returned (.bool (yR k p q r s))/\Below w.heap.size w w':=by
 obtain rfl|rfl|rfl|rfl|rfl|rfl|rfl:k=1\/k=2\/k=3\/k=4\/k=5\/k=6\/k=7:=by omega
 ·go_enter Tryz.func129,Tryz.ntmps129
  go_wp2
  go_ret
  exact⟨by simp[yR];try omega,bl1 _ _⟩
 ·go_enter Tryz.func129,Tryz.ntmps129
  go_wp2
  go_ret
  exact⟨by simp[yR];try omega,bl1 _ _⟩
 ·by_cases c:0<p
  all_goals
   go_enter Tryz.func129,Tryz.ntmps129
   go_wp2
   go_ret
   exact⟨by simp[yR,c];try omega,bl1 _ _⟩
 ·by_cases c:0<p
  all_goals
   go_enter Tryz.func129,Tryz.ntmps129
   go_wp2
   go_ret
   exact⟨by simp[yR,c];try omega,bl1 _ _⟩
 ·go_enter Tryz.func129,Tryz.ntmps129
  go_wp2
  go_ret
  exact⟨by simp[yR];try omega,bl1 _ _⟩
 ·by_cases c1:q=1
  ·subst c1
   by_cases c2:0<=p
   ·by_cases c3:p<=100
    ·by_cases c4:0<=r
     ·go_enter Tryz.func129,Tryz.ntmps129
      go_wp2
      go_ret
      exact⟨by simp[yR,c2,c3,c4];try omega,bl1 _ _⟩
     ·go_enter Tryz.func129,Tryz.ntmps129
      go_wp2
      go_ret
      exact⟨by simp[yR,c2,c3,c4];try omega,bl1 _ _⟩
    ·go_enter Tryz.func129,Tryz.ntmps129
     go_wp2
     go_ret
     exact⟨by simp[yR,c2,c3];try omega,bl1 _ _⟩
   ·go_enter Tryz.func129,Tryz.ntmps129
    go_wp2
    go_ret
    exact⟨by simp[yR,c2];try omega,bl1 _ _⟩
  ·go_enter Tryz.func129,Tryz.ntmps129
   go_wp2
   go_ret
   exact⟨by simp[yR,c1];try omega,bl1 _ _⟩
 ·go_enter Tryz.func129,Tryz.ntmps129
  go_wp2
  go_ret
  exact⟨by simp[yR];try omega,bl1 _ _⟩
def zEB (k p q r s:Int):Bool :=
 if k=6 then false else (!zFT k && decide (r*100<s)) || (!zAC p q 100 || !zAC r s 100)
theorem zDS (k p q r s:Int) (w:World) (h1:rok p q) (h2:rok r s) :
  Calls Tryz.prog 130 #[.agg #[.int .i64 k,.int .i64 p,.int .i64 q,.int .i64 r,.int .i64 s]] w λ z w'=>z=.returned (.bool (zEB k p q r s))/\Below w.heap.size w w':=by
 obtain⟨a1,a2,a3,a4⟩:=h1;obtain⟨b1,b2,b3,b4⟩:=h2
 by_cases c6:k=6
 ·subst c6
  go_enter Tryz.func130,Tryz.ntmps130
  go_wp2
  go_ret
  exact⟨by simp[zEB],bl1 _ _⟩
 cases ho:zFT k
 ·by_cases ht:r*100<s
  ·have HE:=zC (show zEB k p q r s=true by simp[zEB,c6,ho,ht])
   go_enter Tryz.func130,Tryz.ntmps130
   go_wp2_with (go_at_call 128;refine (jD _ _).mono ?_;rintro r' w1 ⟨rfl,b9⟩;rw[ho];obtain⟨A8,C7,D3⟩:=jC (w.heap.size+1) (by simp) b9)
   go_ret
   exact⟨by rw[zA HE];first|rfl|simp[show ¬ r*100<s by omega],zB (bl1 _ _) b9⟩
  ·cases om:zAC p q 100
   ·have HE:=zC (show zEB k p q r s=true by simp[zEB,c6,ho,ht,om])
    go_enter Tryz.func130,Tryz.ntmps130
    go_wp2_with (first
     | (go_at_call 128;refine (jD _ _).mono ?_;rintro r' w1 ⟨rfl,b9⟩;rw[ho];obtain⟨A8,C7,D3⟩:=jC (w.heap.size+1) (by simp) b9)
     | (go_at_call 75;refine (zBK p q 100 _ (by omega) (by omega) a3 a4).mono ?_;rintro r' w2 ⟨rfl,j8⟩;rw[om]))
    go_ret
    exact⟨by rw[zA HE];first|rfl|simp[show ¬ r*100<s by omega],zB (zB (bl1 _ _) b9) j8⟩
   ·have HE:=zC (show zEB k p q r s=!zAC r s 100 by simp[zEB,c6,ho,ht,om])
    go_enter Tryz.func130,Tryz.ntmps130
    go_wp2_with (first
     | (go_at_call 128;refine (jD _ _).mono ?_;rintro r' w1 ⟨rfl,b9⟩;rw[ho];obtain⟨A8,C7,D3⟩:=jC (w.heap.size+1) (by simp) b9)
     | (go_at_call 75;have hq:=j8;refine (zBK r s 100 _ (by omega) (by omega) b3 b4).mono ?_;rintro r' w3 ⟨rfl,m8⟩)
     | (go_at_call 75;refine (zBK p q 100 _ (by omega) (by omega) a3 a4).mono ?_;rintro r' w2 ⟨rfl,j8⟩;rw[om];obtain⟨C9,D6,E6⟩:=jC (w.heap.size+1) A8 j8))
    go_ret
    exact⟨by rw[zA HE];first|rfl|simp[show ¬ r*100<s by omega],zB (zB (zB (bl1 _ _) b9) j8) m8⟩
 ·cases om:zAC p q 100
  ·have HE:=zC (show zEB k p q r s=true by simp[zEB,c6,ho,om])
   go_enter Tryz.func130,Tryz.ntmps130
   go_wp2_with (first
    | (go_at_call 128;refine (jD _ _).mono ?_;rintro r' w1 ⟨rfl,b9⟩;rw[ho];obtain⟨A8,C7,D3⟩:=jC (w.heap.size+1) (by simp) b9)
    | (go_at_call 75;refine (zBK p q 100 _ (by omega) (by omega) a3 a4).mono ?_;rintro r' w2 ⟨rfl,j8⟩;rw[om]))
   go_ret
   exact⟨by rw[zA HE];first|rfl|simp[show ¬ r*100<s by omega],zB (zB (bl1 _ _) b9) j8⟩
  ·have HE:=zC (show zEB k p q r s=!zAC r s 100 by simp[zEB,c6,ho,om])
   go_enter Tryz.func130,Tryz.ntmps130
   go_wp2_with (first
    | (go_at_call 128;refine (jD _ _).mono ?_;rintro r' w1 ⟨rfl,b9⟩;rw[ho];obtain⟨A8,C7,D3⟩:=jC (w.heap.size+1) (by simp) b9)
    | (go_at_call 75;have hq:=j8;refine (zBK r s 100 _ (by omega) (by omega) b3 b4).mono ?_;rintro r' w3 ⟨rfl,m8⟩)
    | (go_at_call 75;refine (zBK p q 100 _ (by omega) (by omega) a3 a4).mono ?_;rintro r' w2 ⟨rfl,j8⟩;rw[om];obtain⟨C9,D6,E6⟩:=jC (w.heap.size+1) A8 j8))
   go_ret
   exact⟨by rw[zA HE];first|rfl|simp[show ¬ r*100<s by omega],zB (zB (zB (bl1 _ _) b9) j8) m8⟩
theorem len_ex {z:Int} (hz:0<=z) {e:Nat} (he:z<Q e):∃ l,zB1 z l/\l<=e/\z<Q l.toNat:=by
 by_cases hp:0<z
 ·have key:∀ e:Nat,z<Q e->∃ L:Nat,L+1<=e/\Q L<=z/\z<Q (L+1):=λ e=>by
   induction e with
   | zero=>intro h;simp[Q] at h;omega
   | succ e ih =>
    intro h
    by_cases hq:Q e<=z
    ·exact⟨e,Yy _,hq,h⟩
    ·obtain⟨L,h1,h2⟩:=ih (by omega)
     exact⟨L,by omega,h2⟩
  obtain⟨L,h1,h2,h3⟩:=key e he;exact⟨(L:Int)+1,⟨by omega,λ h=>by omega,λ _=>⟨L,rfl,h2,h3⟩⟩,by omega,by rw[show ((L:Int)+1).toNat=L+1 by omega];exact h3⟩
 ·have:z=0:=by omega
  subst this;exact⟨0,⟨by omega,λ _=>rfl,λ h=>by omega⟩,by omega,by simp[Q]⟩
theorem zD1 {B e:Nat} {a:Int × Int} (hB:16<=B) (ha:a.1<=a.2) (h:zW a<Q (B+e)) :
  ∃ (l:Int) (t N:Nat),zB1 (zW a) l/\(t:Int)=max 0 (l-B+8)/\t<=e+8/\Abs (zG a t) (Q (B-8))/\zT (zU B (zG a t)) N:=by
 obtain⟨l,h1,h2,h3⟩:=len_ex (zAN ha) h;obtain⟨t,ht⟩:∃ t:Nat,(t:Int)=max 0 (l-B+8):=⟨(max 0 (l-(B:Int)+8)).toNat,by omega⟩
 have hA:Abs (zG a t) (Q (B-8)):=by
  obtain⟨g1,g2,g3,g4⟩:=zEI ha;have q:=zE t;have hm:=zJ (show l.toNat<=B-8+t by omega)
  rw[jF] at hm;have r1:=kD (x:=a.1) (m:=Q (B-8)) (q:=Q t) (by omega) (by omega) (by omega)
  have r2:=kD (x:=a.2) (m:=Q (B-8)) (q:=Q t) (by omega) (by omega) (by omega)
  exact⟨r1.1,r1.2.1,r2.2.2.1,r2.2.2.2⟩
 obtain⟨N,n1,n2⟩:=zB6 (s:=8) (by omega) (zBV (by omega) hA)
 exact⟨l,t,N,h1,ht,by omega,hA,n2⟩
theorem P200 (m:Nat):P 200*Q m=Q (3200+m):=by rw[jF,<- Q_P]
theorem wb_17:wb 17=1678:=by decide
theorem eb_17:eb 17=1536:=by decide
structure RaC (w:World) (B:Nat) (p q:Int):Prop where
 c0:w.cell? ⟨B,0,none⟩=some (.int .i64 p)
 c1:w.cell? ⟨B,1,none⟩=some (.int .i64 q)
theorem RaC.lt {w:World} {B:Nat} {p q:Int} (h:RaC w B p q):B<w.heap.size:=World.block_lt_of_cell? w ⟨B,0,none⟩ h.c0
theorem RaC.bw {w w':World} {B:Nat} {p q:Int} (h:RaC w B p q) (hb:Below w.heap.size w w'):RaC w' B p q :=
 ⟨(hb.cell (p:=⟨B,0,none⟩) h.lt).trans h.c0,(hb.cell (p:=⟨B,1,none⟩) h.lt).trans h.c1⟩
theorem zMB (w:World) (p q:Int) (T:TypeId):RaC (w.alloc (.cells #[.int .i64 p,.int .i64 q] T)) w.heap.size p q:=⟨by simp,by simp⟩
theorem zIX {p q:Int} {n b e:Nat} (hq:0<q) (h1 : -((n:Int)*q)<=p) (h2:p<=(n:Int)*q) (he:(n:Int)<Q e):zW (ofI p q b)<Q (b+e):=by
 have qb:=zE b;have g1:=Yt h1 (show 0<=Q b by omega)
 have g2:=Yt h2 (show 0<=Q b by omega)
 have e1:(n:Int)*q*Q b=(n:Int)*Q b*q:=by grind
 have e2 : -((n:Int)*q)*Q b = -((n:Int)*Q b*q):=by grind
 have:=zAF (zGN (n:=p) (m:=(n:Int)*Q b) hq b (by omega) (by omega))
 have h3:=Int.mul_lt_mul_of_pos_right he (show 0<Q b by omega)
 rw[jF,Int.mul_comm (Q b)];omega
theorem refWhole (w:World) (n:Int) (b:Nat) (hb:b<=100000) (h0 : -9223372036854775808<=n) (h1:n<=9223372036854775807) :
  Calls Tryz.prog 16 #[.int .i64 n,.int .i64 b] w (zH w b (b/16+18) (n*Q b) (n*Q b)):=by
 have R:=zQ w 38
 go_enter Tryz.func16,Tryz.ntmps16
 go_wp2_with fail;refine (zD n _ h0 h1).mono ?_;rintro r' w1 ⟨m7,a1,n1,c1,rfl,o8,b9⟩;replace R:=R.bw b9;have hB:Below w.heap.size w w1:=zB (bl1 _ _) b9;clear b9;go_wp2_with fail;refine (zD 1 _ (by decide) (by decide)).mono ?_
 rintro r' w2 ⟨j7,a2,n2,c2,rfl,A5,j8⟩;replace R:=R.bw j8;replace hB:=zB hB j8;replace o8:=o8.bw j8;clear j8;go_wp2_with fail;refine (zC0 _ _ _ _ _ _ _ _ 4 4 b n 1 _ o8 A5 (by omega) (by omega) hb (by decide) (λ m9 a' n' o7 w' p1 p2=>yN _ _ _ _ _ _ _ _ _ 4 _ _ w' p1 p2 (by omega) (by decide))).mono ?_
 rintro r' w3 ⟨u,rfl,B8,B7,m8⟩;have e1:n*Q b/1=n*Q b:=Int.ediv_one _;have e2 : -(-(n*Q b)/1)=n*Q b:=by rw[Int.ediv_one];omega
 rw[e1,e2] at B7;obtain⟨q0,q1,q2,q3,q4,q5⟩:=R.bw m8;replace hB:=zB hB m8;have HU:=zC B8;clear B8 e1 e2;go_wp2_with fail;refine bodyPost_ret (v:=.agg u.q) (by simp[results,Tryz.results16,go_sem,q0,q1,q2,q3,q4]) rfl ⟨u,rfl,zA HU,?_,?_⟩
 ·exact SpAt.put5 (B7.mono (by omega)) q0 q1 q2 q3 q4 _ _ _ _ _
 ·exact jV hB (Yy _) _ _ _ _ _
open Ex
theorem zQ8 {n d n' d' k:Int} {l1 l2:Nat->Rat} (hd:0<d) (h:Bal n d n' d' k) (i1:IsLog l1 (λ _=>(n':Rat)/(d':Rat))) (i2:IsLog l2 (λ _=>(2:Rat))) :
  IsLog (λ M=>l1 M+(k:Rat)*l2 M) (λ _=>(n:Rat)/(d:Rat)):=by
 obtain⟨h1,h2,h3⟩:=h;have d0:(0:Rat)<(d:Rat):=by exact_mod_cast hd
 have BJ:(0:Rat)<(d':Rat):=by exact_mod_cast h1.hd
 by_cases hk:k<0
 ·obtain⟨j,rfl⟩:∃ j:Nat,k = -(j:Int):=⟨(-k).toNat,by omega⟩
  have hq:=h3 hk;have ej:(-(-(j:Int))).toNat=j:=by omega
  rw[ej] at hq;have qj:=jJ j;have l3:=(i2.times j).neg (s:=λ _=>1/(Q j:Rat)) (Bdd.const _) 0 (λ M _=>by rw[pw_Q];exact rdm qj)
  refine ((i1.add l3).congr_r (null_zero.of_eq λ M=>?_)).congr (null_zero.of_eq λ M=>?_)
  ·show (n':Rat)/(d':Rat)*(1/(Q j:Rat))-(n:Rat)/(d:Rat)=0
   have P6:((n*d'*Q j:Int):Rat)=((n'*d:Int):Rat):=by rw[hq]
   rw[YA,YA,YA] at P6;have f1:=rdm (a:=(n':Rat)) BJ;have f2:=rdm (a:=(n:Rat)) d0;have f3:=rdm (a:=(1:Rat)) qj;generalize (n':Rat)/(d':Rat)=r' at *;generalize (n:Rat)/(d:Rat)=r at *;generalize 1/(Q j:Rat)=i at *;rw[<- f1,<- f2] at P6;have f4:(d:Rat)*((d':Rat)*(r*(Q j:Rat)-r'))=0:=by grind
   have f5:r*(Q j:Rat)=r':=by
    rcases Rat.mul_eq_zero.1 f4 with h|h
    ·grind
    ·rcases Rat.mul_eq_zero.1 h with h|h
     ·grind
     ·grind
   rw[<- f5];have:r*(Q j:Rat)*i-r=r*(i*(Q j:Rat))-r:=by grind
   rw[this,f3];grind
  ·have e:((-(j:Int):Int):Rat) = -(j:Rat):=by rw[Rat.intCast_neg];rfl
   rw[e];grind
 ·obtain⟨j,rfl⟩:∃ j:Nat,k=(j:Int):=⟨k.toNat,by omega⟩
  have hq:=h2 (by omega)
  have ej:((j:Int)).toNat=j:=by omega
  rw[ej] at hq;have l3:=i2.times j;refine (i1.add l3).congr_r (null_zero.of_eq λ M=>?_)
  show (n':Rat)/(d':Rat)*pw 2 j-(n:Rat)/(d:Rat)=0
  rw[pw_Q];have P6:((n*d':Int):Rat)=((n'*d*Q j:Int):Rat):=by rw[hq]
  rw[YA,YA,YA] at P6;have f1:=rdm (a:=(n':Rat)) BJ;have f2:=rdm (a:=(n:Rat)) d0;generalize (n':Rat)/(d':Rat)=r' at *;generalize (n:Rat)/(d:Rat)=r at *;rw[<- f1,<- f2] at P6;have f4:(d:Rat)*((d':Rat)*(r'*(Q j:Rat)-r))=0:=by grind
  rcases Rat.mul_eq_zero.1 f4 with h|h
  ·grind
  ·rcases Rat.mul_eq_zero.1 h with h|h
   ·grind
   ·exact h
theorem Iv.le {B:Nat} {a:Int × Int} {x:Nat->Rat} (h:Iv B a x):a.1<=a.2 :=
 Int.le_of_mul_le_mul_right (h.touch h) (by have:=zE B;omega)
theorem zQ9 {n d n' d':Int} {i j:Nat} (hn:0<n) (hd:0<d) (qN:n'=n*Q j) (JS:d'=d*Q i) (h1:d'<=n') (h2:n'<2*d') (h0:j=0\/i=0):Bal n d n' d' ((i:Int)-(j:Int)):=by
 have qi:=zE i;have qj:=zE j;have p1:0<n':=by rw[qN];exact Int.mul_pos hn (by omega)
 have p2:0<d':=by rw[JS];exact Int.mul_pos hd (by omega)
 have e0:Q 0=1:=rfl;refine⟨⟨p1,p2,by omega,by omega⟩,λ h=>?_,λ h=>?_⟩
 ·have hj:j=0:=by omega
  subst hj;rw[show ((i:Int)-((0:Nat):Int)).toNat=i by omega,qN,JS,e0,Int.mul_one,Int.mul_assoc]
 ·have hi:i=0:=by omega
  subst hi;rw[show (-(((0:Nat):Int)-(j:Int))).toNat=j by omega,qN,JS,e0,Int.mul_one];grind
theorem zSF:Ex.IsLog (λ M=>2*Ex.Az (zR 2 1) M) (λ _=>(2:Rat)):=by
 have h:=zFQ (n:=2) (d:=1) ⟨by omega,by omega,by omega,by omega⟩
 refine h.congr_r (Ex.null_zero.of_eq λ M=>?_)
 have e:((2:Int):Rat)/((1:Int):Rat)=2:=by decide +kernel
 rw[e];grind
theorem zDG {w:World} {B:Nat} {z:Nm} (h:NmC w B z) (x:Nm):NmC ((w.setCell ⟨B,0,none⟩ (.bool x.neg)).setCell ⟨B,1,none⟩ (.slice x.a x.n x.cap)) B x:=by
 obtain⟨q0,q1⟩:=h;constructor<;>simp[go_sem,q0,q1]
theorem zAA {w:World} {B B':Nat} (h:∀ o,w.frozen? ⟨B,o,none⟩=false) (u0 u1:Value):∀ o,((w.setCell ⟨B',0,none⟩ u0).setCell ⟨B',1,none⟩ u1).frozen? ⟨B,o,none⟩=false:=λ o=>by rw[zS,zS];exact h o
theorem NmC.off {w:World} {B B':Nat} {x:Nm} (h:NmC w B x) (hne:B≠B') (u0 u1:Value):NmC ((w.setCell ⟨B',0,none⟩ u0).setCell ⟨B',1,none⟩ u1) B x:=by
 obtain⟨q0,q1⟩:=h;constructor<;>simp[go_sem,q0,q1,hne,Ne.symm hne]
theorem NoI.off {w:World} {B B':Nat} (h:NoI w B) (hne:B≠B') (u0 u1:Value):NoI ((w.setCell ⟨B',0,none⟩ u0).setCell ⟨B',1,none⟩ u1) B:=by
 obtain⟨q0,q1,q2⟩:=h;exact⟨by simp[go_sem,q0,hne,Ne.symm hne],by simp[go_sem,q1,hne,Ne.symm hne],zAA q2 _ _⟩
structure RaiSt (w wr:World) (B:Nat) (a:Int) (k j e:Nat) (X Y:Nm):Prop where
 je:j*e<=k
 e1:1<=e
 e2:e<=2*k+1
 x:NmC wr B X
 y:NmC wr (B+1) Y
 fx:∀ o,wr.frozen? ⟨B,o,none⟩=false
 fy:∀ o,wr.frozen? ⟨B+1,o,none⟩=false
 ix:IntAt wr X.neg X.a X.n X.cap (4*(k-j*e)+4) (a ^ (k-j*e))
 iy:IntAt wr Y.neg Y.a Y.n Y.cap (4*e) (a ^ e)
 no:NoI wr w.heap.size
 be:Below w.heap.size w wr
 lo:w.heap.size<B
theorem RaiSt.bw {w wr wr':World} {B:Nat} {a:Int} {k j e:Nat} {X Y:Nm} (h:RaiSt w wr B a k j e X Y) (hb:Below wr.heap.size wr wr'):RaiSt w wr' B a k j e X Y :=
 ⟨h.je,h.e1,h.e2,h.x.bw hb,h.y.bw hb,λ o=>(hb.frozen (p:=⟨B,o,none⟩) h.x.lt).trans (h.fx o),λ o=>(hb.frozen (p:=⟨B+1,o,none⟩) h.y.lt).trans (h.fy o),h.ix.bw hb,h.iy.bw hb,h.no.bw hb,zB h.be hb,h.lo⟩
theorem zN4 (a:Int) (e:Nat):a ^ e*a ^ e=a ^ (2*e):=by rw[<- Int.pow_add];congr 1;omega
theorem zBI (a:Int) (k:Nat) (w:World) (ha0 : -9223372036854775808<=a) (Z8:a<=9223372036854775807) (hk:k<=10000000) :
  Calls Tryz.prog 102 #[.int .i64 a,.int .i64 k] w (zDV w (4*k+4) (a ^ k)):=by
 go_enter Tryz.func102,Tryz.ntmps102
 go_wp2_with fail;refine (zD 1 _ (by decide) (by decide)).mono ?_
 rintro r w1 ⟨m7,a1,n1,c1,rfl,o8,b9⟩;have R1:=(kB w 29).bw b9;have b1:Below w.heap.size w w1:=zB (bl1 _ _) b9;clear b9;go_wp2_with fail;refine (zD a _ ha0 Z8).mono ?_;rintro r w2 ⟨j7,a2,n2,c2,rfl,A5,j8⟩;have R2:=R1.bw j8;have b2:=zB b1 j8;replace o8:=o8.bw j8;clear j8 R1 b1;have lR:=R2.lt;go_wp2_with fail
 go_loopw [1] (λ kk wr=>∃ (j e:Nat) (X Y:Nm),kk=.int .i64 j/\RaiSt w wr w2.heap.size a k j e X Y) (λ kk _=>(intOf kk).toNat)
 case atStart =>
  refine⟨k,1,⟨m7,a1,n1,c1⟩,⟨j7,a2,n2,c2⟩,rfl,by omega,Yy _,by omega,⟨by simp[go_sem],by simp[go_sem]⟩,⟨by simp[go_sem],by simp[go_sem]⟩,λ o=>by simp[go_sem],λ o=>by simp[go_sem],?_,?_,?_,?_,lR⟩
  ·have e0:k-k*1=0:=by omega
   rw[e0,Int.pow_zero];exact o8.bw (bl2 _ _ _)
  ·rw[Int.pow_one];exact A5.bw (bl2 _ _ _)
  ·exact R2.bw (bl2 _ _ _)
  ·exact zB b2 (bl2 _ _ _)
 case round =>
  obtain⟨j,e,X,Y,rfl,st⟩:=hrel
  by_cases hj:0<j
  ·have pd:(0:Int)<(j:Int):=by omega
   have hje:e<=k:=Nat.le_trans (Nat.le_mul_of_pos_left e hj) st.je;have pg:j<=k:=Nat.le_trans (Nat.le_mul_of_pos_right j st.e1) st.je;have q1:((j:Int)).tdiv 2=((j/2:Nat):Int):=by rw[Int.tdiv_eq_ediv_of_nonneg (by omega)];omega
   have HQ:=zC q1;obtain⟨x0,x1⟩:=st.x;obtain⟨y0,y1⟩:=st.y;have l1:=st.x.lt;have l2:=st.y.lt;have hR:=st.no.lt
   by_cases hm:j % 2=1
   ·have q2:((j:Int)).tmod 2=1:=by rw[Int.tmod_eq_emod_of_nonneg (by omega)];omega
    obtain⟨m,J5⟩:∃ m,j=2*m+1:=⟨j/2,by omega⟩
    have mC:k-j*e+e=k-m*(2*e):=by
     have h1:=st.je;have h2:j*e=m*(2*e)+e:=by rw[J5,Nat.add_mul,Nat.one_mul,Nat.mul_comm 2 m,Nat.mul_assoc]
     omega
    have hme:m*(2*e)<=k:=by
     have h1:=st.je;have h2:j*e=m*(2*e)+e:=by rw[J5,Nat.add_mul,Nat.one_mul,Nat.mul_comm 2 m,Nat.mul_assoc]
     omega
    have HE:=zC mC;have HM:=zC J5;have ix:=zC st.ix;have iy:=zC st.iy;clear q1 J5 mC hm;go_wp2_with fail;refine (zV _ _ _ _ _ _ _ _ (4*(k-j*e)+4) (4*e) _ _ _ (zA ix) (zA iy) (by omega) (by omega)).mono ?_
    rintro r w3 ⟨B9,a3,n3,c3,rfl,E7,m8⟩;have V5:=st.bw m8;clear m8 st;rw[<- Int.pow_add,zA HE] at E7;obtain⟨s0,s1⟩:=V5.x;obtain⟨W,hW⟩:∃ W,W=(w3.setCell ⟨w2.heap.size,0,none⟩ (.bool B9)).setCell ⟨w2.heap.size,1,none⟩ (.slice a3 n3 c3):=⟨_,rfl⟩;have X4:NmC W w2.heap.size ⟨B9,a3,n3,c3⟩:=by rw[hW];exact zDG V5.x ⟨B9,a3,n3,c3⟩
    have Y4:NmC W (w2.heap.size+1) Y:=by rw[hW];exact V5.y.off (by omega) _ _
    have F4:∀ o,W.frozen? ⟨w2.heap.size,o,none⟩=false:=by rw[hW];exact zAA V5.fx _ _
    have G4:∀ o,W.frozen? ⟨w2.heap.size+1,o,none⟩=false:=by rw[hW];exact zAA V5.fy _ _
    have I4:=zC (show IntAt W B9 a3 n3 c3 _ _ by rw[hW];exact E7.put2 s0 s1 _ _)
    have J4:=zC (show IntAt W Y.neg Y.a Y.n Y.cap _ _ by rw[hW];exact V5.iy.put2 s0 s1 _ _)
    have N4:NoI W w.heap.size:=by rw[hW];exact V5.no.off (by omega) _ _
    have B4:Below w.heap.size w W:=by rw[hW];exact zE2 V5.be (by omega) _ _
    have lW:W.heap.size=w3.heap.size:=by rw[hW];simp[World.setCell]
    have l3:=V5.y.lt;have f0:=V5.fx 0;have f1:=V5.fx 1;have lo:=V5.lo;have je1:=V5.e1;have jje:=V5.je;have e22:=V5.e2;clear x0 x1 y0 y1;obtain⟨y0,y1⟩:=V5.y;clear V5 E7;go_wp2_with fail;rw[<- hW];clear hW s0 s1 f0 f1 y0 y1;refine (zV _ _ _ _ _ _ _ _ (4*e) (4*e) _ _ _ (zA J4) (zA J4) (by omega) (by omega)).mono ?_
    rintro r w5 ⟨J3,a5,n5,c5,rfl,O0,D8⟩;rw[zN4] at O0;replace X4:=X4.bw D8;replace Y4:=Y4.bw D8;replace I4:=zC ((zA I4).bw D8);replace N4:=N4.bw D8;replace B4:=zB B4 D8;have F5:∀ o,w5.frozen? ⟨w2.heap.size,o,none⟩=false:=λ o=>(D8.frozen (p:=⟨w2.heap.size,o,none⟩) (by show w2.heap.size<W.heap.size;omega)).trans (F4 o)
    have G5:∀ o,w5.frozen? ⟨w2.heap.size+1,o,none⟩=false:=λ o=>(D8.frozen (p:=⟨w2.heap.size+1,o,none⟩) (by show w2.heap.size+1<W.heap.size;omega)).trans (G4 o)
    obtain⟨y0,y1⟩:=Y4;have f0:=G5 0;have f1:=G5 1;go_wp2_with fail;refine⟨⟨m,2*e,⟨B9,a3,n3,c3⟩,⟨J3,a5,n5,c5⟩,by have:=zA HM;congr 1;omega,by omega,by omega,by omega,X4.off (by omega) _ _,zDG (z:=Y) ⟨y0,y1⟩ ⟨J3,a5,n5,c5⟩,zAA F5 _ _,zAA G5 _ _,?_,?_,N4.off (by omega) _ _,zE2 B4 (by omega) _ _,lo⟩,?_⟩
    ·exact ((zA I4).put2 y0 y1 _ _).mono (by have:=zA HE;omega)
    ·exact (O0.put2 y0 y1 _ _).mono (by omega)
    ·simp[intOf];omega
   ·have q2:((j:Int)).tmod 2=0:=by rw[Int.tmod_eq_emod_of_nonneg (by omega)];omega
    obtain⟨m,J5⟩:∃ m,j=2*m:=⟨j/2,by omega⟩
    have mC:j*e=m*(2*e):=by rw[J5,Nat.mul_comm 2 m,Nat.mul_assoc]
    have HE:=zC mC;have HM:=zC J5;have jje:=st.je;have lo:=st.lo;have je1:=st.e1;have iy:=zC st.iy;clear q1 J5 mC hm;go_wp2_with fail;refine (zV _ _ _ _ _ _ _ _ (4*e) (4*e) _ _ _ (zA iy) (zA iy) (by omega) (by omega)).mono ?_
    rintro r w5 ⟨J3,a5,n5,c5,rfl,O0,D8⟩;rw[zN4] at O0;have rZ:=st.bw D8;clear D8 st x0 x1 y0 y1;obtain⟨y0,y1⟩:=rZ.y;have F5:=rZ.fx;have G5:=rZ.fy;have f0:=G5 0;have f1:=G5 1;have X4:=rZ.x;have N4:=rZ.no;have B4:=rZ.be;have I4:=zC rZ.ix;clear rZ;have hme:m*(2*e)<=k:=by have:=zA HE;omega
    go_wp2_with fail;refine⟨⟨m,2*e,X,⟨J3,a5,n5,c5⟩,by have:=zA HM;congr 1;omega,by omega,by omega,by omega,X4.off (by omega) _ _,zDG (z:=Y) ⟨y0,y1⟩ ⟨J3,a5,n5,c5⟩,zAA F5 _ _,zAA G5 _ _,?_,?_,N4.off (by omega) _ _,zE2 B4 (by omega) _ _,lo⟩,?_⟩
    ·rw[<- zA HE];exact (zA I4).put2 y0 y1 _ _
    ·exact (O0.put2 y0 y1 _ _).mono (by omega)
    ·simp[intOf];omega
  ·have CQ:j=0:=by omega
   subst CQ;obtain⟨x0,x1⟩:=st.x;obtain⟨z0,z1,z2⟩:=st.no;have ix:=zC st.ix;have hb:=st.be;clear st;go_wp2_with fail;refine bodyPost_ret (v:=.agg X.q) (by simp[results,Tryz.results102,go_sem,z0,z1]) rfl ⟨X.neg,X.a,X.n,X.cap,rfl,?_,?_⟩
   ·have h:=zA ix
    rw[Nat.zero_mul,Nat.sub_zero] at h;exact h.put2 z0 z1 _ _
   ·exact zE2 hb (Yy _) _ _
def kT (k p q r s:Int):Int :=
 if k<1\/7<k then 6 else if ¬ rok p q\/¬ rok r s then 3 else if zFT k=true/\¬ (r=0/\s=1) then 1
 else if yR k p q r s=false then 3 else if zEB k p q r s=true then 2 else 0
theorem check_k0 (k p q r s:Int) (w:World) (h1:k<1) :
  Calls Tryz.prog 89 #[.agg #[.int .i64 k,.int .i64 p,.int .i64 q,.int .i64 r,.int .i64 s]] w λ z w'=>z=.returned (.int .i64 6)/\Below w.heap.size w w':=by
 go_enter Tryz.func89,Tryz.ntmps89
 go_wp2
 go_ret
 exact⟨rfl,bl1 _ _⟩
theorem check_k8 (k p q r s:Int) (w:World) (h1:1<=k) (h7:7<k) :
  Calls Tryz.prog 89 #[.agg #[.int .i64 k,.int .i64 p,.int .i64 q,.int .i64 r,.int .i64 s]] w λ z w'=>z=.returned (.int .i64 6)/\Below w.heap.size w w':=by
 go_enter Tryz.func89,Tryz.ntmps89
 go_wp2
 go_ret
 exact⟨rfl,bl1 _ _⟩
theorem check_r1 (k p q r s:Int) (w:World) (h1:1<=k) (h7:k<=7) (E5:decide (rok p q)=false) :
  Calls Tryz.prog 89 #[.agg #[.int .i64 k,.int .i64 p,.int .i64 q,.int .i64 r,.int .i64 s]] w λ z w'=>z=.returned (.int .i64 3)/\Below w.heap.size w w':=by
 go_enter Tryz.func89,Tryz.ntmps89
 go_wp2_with (first
  | (go_at_call 118;refine (zP p q _).mono ?_;rintro r' w1 ⟨rfl,b9⟩;rw[E5];obtain⟨A8,C7,D3⟩:=jC (w.heap.size+1) (by simp) b9))
 go_ret
 exact⟨rfl,zB (bl1 _ _) b9⟩
theorem check_r2 (k p q r s:Int) (w:World) (h1:1<=k) (h7:k<=7) (E5:decide (rok p q)=true) (E9:decide (rok r s)=false) :
  Calls Tryz.prog 89 #[.agg #[.int .i64 k,.int .i64 p,.int .i64 q,.int .i64 r,.int .i64 s]] w λ z w'=>z=.returned (.int .i64 3)/\Below w.heap.size w w':=by
 go_enter Tryz.func89,Tryz.ntmps89
 go_wp2_with (first
  | (go_at_call 118;have hq:=b9;refine (zP r s _).mono ?_;rintro r' w2 ⟨rfl,j8⟩;rw[E9];obtain⟨C9,D6,E6⟩:=jC (w.heap.size+1) A8 j8)
  | (go_at_call 118;refine (zP p q _).mono ?_;rintro r' w1 ⟨rfl,b9⟩;rw[E5];obtain⟨A8,C7,D3⟩:=jC (w.heap.size+1) (by simp) b9))
 go_ret
 exact⟨rfl,zB (zB (bl1 _ _) b9) j8⟩
theorem check_z0 (k p q r s:Int) (w:World) (h1:1<=k) (h7:k<=7) (E5:decide (rok p q)=true) (E9:decide (rok r s)=true) (ho:zFT k=true) (z0:r≠0) :
  Calls Tryz.prog 89 #[.agg #[.int .i64 k,.int .i64 p,.int .i64 q,.int .i64 r,.int .i64 s]] w λ z w'=>z=.returned (.int .i64 1)/\Below w.heap.size w w':=by
 go_enter Tryz.func89,Tryz.ntmps89
 go_wp2_with (first
  | (go_at_call 128;refine (jD k _).mono ?_;rintro r' w3 ⟨rfl,m8⟩;rw[ho];obtain⟨I1,O7,M7⟩:=jC (w.heap.size+1) C9 m8)
  | (go_at_call 118;have hq:=b9;refine (zP r s _).mono ?_;rintro r' w2 ⟨rfl,j8⟩;rw[E9];obtain⟨C9,D6,E6⟩:=jC (w.heap.size+1) A8 j8)
  | (go_at_call 118;refine (zP p q _).mono ?_;rintro r' w1 ⟨rfl,b9⟩;rw[E5];obtain⟨A8,C7,D3⟩:=jC (w.heap.size+1) (by simp) b9))
 go_ret
 exact⟨rfl,zB (zB (zB (bl1 _ _) b9) j8) m8⟩
theorem check_z1 (k p q r s:Int) (w:World) (h1:1<=k) (h7:k<=7) (E5:decide (rok p q)=true) (E9:decide (rok r s)=true) (ho:zFT k=true) (z1:s≠1) :
  Calls Tryz.prog 89 #[.agg #[.int .i64 k,.int .i64 p,.int .i64 q,.int .i64 r,.int .i64 s]] w λ z w'=>z=.returned (.int .i64 1)/\Below w.heap.size w w':=by
 go_enter Tryz.func89,Tryz.ntmps89
 go_wp2_with (first
  | (go_at_call 128;refine (jD k _).mono ?_;rintro r' w3 ⟨rfl,m8⟩;rw[ho];obtain⟨I1,O7,M7⟩:=jC (w.heap.size+1) C9 m8)
  | (go_at_call 118;have hq:=b9;refine (zP r s _).mono ?_;rintro r' w2 ⟨rfl,j8⟩;rw[E9];obtain⟨C9,D6,E6⟩:=jC (w.heap.size+1) A8 j8)
  | (go_at_call 118;refine (zP p q _).mono ?_;rintro r' w1 ⟨rfl,b9⟩;rw[E5];obtain⟨A8,C7,D3⟩:=jC (w.heap.size+1) (by simp) b9))
 go_ret
 exact⟨rfl,zB (zB (zB (bl1 _ _) b9) j8) m8⟩
theorem check_os (k p q:Int) (w:World) (h1:1<=k) (h7:k<=7) (S8:rok p q) (P2:rok 0 1) (E5:decide (rok p q)=true) (E9:decide (rok 0 1)=true) (ho:zFT k=true) (hs:yR k p q 0 1=false) :
  Calls Tryz.prog 89 #[.agg #[.int .i64 k,.int .i64 p,.int .i64 q,.int .i64 0,.int .i64 1]] w λ z w'=>z=.returned (.int .i64 3)/\Below w.heap.size w w':=by
 go_enter Tryz.func89,Tryz.ntmps89
 go_wp2_with (first
  | (go_at_call 129;refine (zBH k p q 0 1 _ h1 h7).mono ?_;rintro r' w4 ⟨rfl,p9⟩;rw[hs];obtain⟨Z5,fS,aH⟩:=jC (w.heap.size+1) I1 p9)
  | (go_at_call 128;refine (jD k _).mono ?_;rintro r' w3 ⟨rfl,m8⟩;rw[ho];obtain⟨I1,O7,M7⟩:=jC (w.heap.size+1) C9 m8)
  | (go_at_call 118;have hq:=b9;refine (zP 0 1 _).mono ?_;rintro r' w2 ⟨rfl,j8⟩;rw[E9];obtain⟨C9,D6,E6⟩:=jC (w.heap.size+1) A8 j8)
  | (go_at_call 118;refine (zP p q _).mono ?_;rintro r' w1 ⟨rfl,b9⟩;rw[E5];obtain⟨A8,C7,D3⟩:=jC (w.heap.size+1) (by simp) b9))
 go_ret
 exact⟨rfl,zB (zB (zB (zB (bl1 _ _) b9) j8) m8) p9⟩
theorem check_of (k p q:Int) (w:World) (h1:1<=k) (h7:k<=7) (S8:rok p q) (P2:rok 0 1) (E5:decide (rok p q)=true) (E9:decide (rok 0 1)=true) (ho:zFT k=true) (hs:yR k p q 0 1=true) (hf:zEB k p q 0 1=false) :
  Calls Tryz.prog 89 #[.agg #[.int .i64 k,.int .i64 p,.int .i64 q,.int .i64 0,.int .i64 1]] w λ z w'=>z=.returned (.int .i64 0)/\Below w.heap.size w w':=by
 go_enter Tryz.func89,Tryz.ntmps89
 go_wp2_with (first
  | (go_at_call 130;refine (zDS k p q 0 1 _ S8 P2).mono ?_;rintro r' w5 ⟨rfl,D8⟩;rw[hf])
  | (go_at_call 129;refine (zBH k p q 0 1 _ h1 h7).mono ?_;rintro r' w4 ⟨rfl,p9⟩;rw[hs];obtain⟨Z5,fS,aH⟩:=jC (w.heap.size+1) I1 p9)
  | (go_at_call 128;refine (jD k _).mono ?_;rintro r' w3 ⟨rfl,m8⟩;rw[ho];obtain⟨I1,O7,M7⟩:=jC (w.heap.size+1) C9 m8)
  | (go_at_call 118;have hq:=b9;refine (zP 0 1 _).mono ?_;rintro r' w2 ⟨rfl,j8⟩;rw[E9];obtain⟨C9,D6,E6⟩:=jC (w.heap.size+1) A8 j8)
  | (go_at_call 118;refine (zP p q _).mono ?_;rintro r' w1 ⟨rfl,b9⟩;rw[E5];obtain⟨A8,C7,D3⟩:=jC (w.heap.size+1) (by simp) b9))
 go_ret
 exact⟨rfl,zB (zB (zB (zB (zB (bl1 _ _) b9) j8) m8) p9) D8⟩
theorem check_om (k p q:Int) (w:World) (h1:1<=k) (h7:k<=7) (S8:rok p q) (P2:rok 0 1) (E5:decide (rok p q)=true) (E9:decide (rok 0 1)=true) (ho:zFT k=true) (hs:yR k p q 0 1=true) (hf:zEB k p q 0 1=true) :
  Calls Tryz.prog 89 #[.agg #[.int .i64 k,.int .i64 p,.int .i64 q,.int .i64 0,.int .i64 1]] w λ z w'=>z=.returned (.int .i64 2)/\Below w.heap.size w w':=by
 go_enter Tryz.func89,Tryz.ntmps89
 go_wp2_with (first
  | (go_at_call 130;refine (zDS k p q 0 1 _ S8 P2).mono ?_;rintro r' w5 ⟨rfl,D8⟩;rw[hf])
  | (go_at_call 129;refine (zBH k p q 0 1 _ h1 h7).mono ?_;rintro r' w4 ⟨rfl,p9⟩;rw[hs];obtain⟨Z5,fS,aH⟩:=jC (w.heap.size+1) I1 p9)
  | (go_at_call 128;refine (jD k _).mono ?_;rintro r' w3 ⟨rfl,m8⟩;rw[ho];obtain⟨I1,O7,M7⟩:=jC (w.heap.size+1) C9 m8)
  | (go_at_call 118;have hq:=b9;refine (zP 0 1 _).mono ?_;rintro r' w2 ⟨rfl,j8⟩;rw[E9];obtain⟨C9,D6,E6⟩:=jC (w.heap.size+1) A8 j8)
  | (go_at_call 118;refine (zP p q _).mono ?_;rintro r' w1 ⟨rfl,b9⟩;rw[E5];obtain⟨A8,C7,D3⟩:=jC (w.heap.size+1) (by simp) b9))
 go_ret
 exact⟨rfl,zB (zB (zB (zB (zB (bl1 _ _) b9) j8) m8) p9) D8⟩
theorem check_ns (k p q r s:Int) (w:World) (h1:1<=k) (h7:k<=7) (S8:rok p q) (P2:rok r s) (E5:decide (rok p q)=true) (E9:decide (rok r s)=true) (ho:zFT k=false) (hs:yR k p q r s=false) :
  Calls Tryz.prog 89 #[.agg #[.int .i64 k,.int .i64 p,.int .i64 q,.int .i64 r,.int .i64 s]] w λ z w'=>z=.returned (.int .i64 3)/\Below w.heap.size w w':=by
 go_enter Tryz.func89,Tryz.ntmps89
 go_wp2_with (first
  | (go_at_call 129;refine (zBH k p q r s _ h1 h7).mono ?_;rintro r' w4 ⟨rfl,p9⟩;rw[hs];obtain⟨Z5,fS,aH⟩:=jC (w.heap.size+1) I1 p9)
  | (go_at_call 128;refine (jD k _).mono ?_;rintro r' w3 ⟨rfl,m8⟩;rw[ho];obtain⟨I1,O7,M7⟩:=jC (w.heap.size+1) C9 m8)
  | (go_at_call 118;have hq:=b9;refine (zP r s _).mono ?_;rintro r' w2 ⟨rfl,j8⟩;rw[E9];obtain⟨C9,D6,E6⟩:=jC (w.heap.size+1) A8 j8)
  | (go_at_call 118;refine (zP p q _).mono ?_;rintro r' w1 ⟨rfl,b9⟩;rw[E5];obtain⟨A8,C7,D3⟩:=jC (w.heap.size+1) (by simp) b9))
 go_ret
 exact⟨rfl,zB (zB (zB (zB (bl1 _ _) b9) j8) m8) p9⟩
theorem check_nf (k p q r s:Int) (w:World) (h1:1<=k) (h7:k<=7) (S8:rok p q) (P2:rok r s) (E5:decide (rok p q)=true) (E9:decide (rok r s)=true) (ho:zFT k=false) (hs:yR k p q r s=true) (hf:zEB k p q r s=false) :
  Calls Tryz.prog 89 #[.agg #[.int .i64 k,.int .i64 p,.int .i64 q,.int .i64 r,.int .i64 s]] w λ z w'=>z=.returned (.int .i64 0)/\Below w.heap.size w w':=by
 go_enter Tryz.func89,Tryz.ntmps89
 go_wp2_with (first
  | (go_at_call 130;refine (zDS k p q r s _ S8 P2).mono ?_;rintro r' w5 ⟨rfl,D8⟩;rw[hf])
  | (go_at_call 129;refine (zBH k p q r s _ h1 h7).mono ?_;rintro r' w4 ⟨rfl,p9⟩;rw[hs];obtain⟨Z5,fS,aH⟩:=jC (w.heap.size+1) I1 p9)
  | (go_at_call 128;refine (jD k _).mono ?_;rintro r' w3 ⟨rfl,m8⟩;rw[ho];obtain⟨I1,O7,M7⟩:=jC (w.heap.size+1) C9 m8)
  | (go_at_call 118;have hq:=b9;refine (zP r s _).mono ?_;rintro r' w2 ⟨rfl,j8⟩;rw[E9];obtain⟨C9,D6,E6⟩:=jC (w.heap.size+1) A8 j8)
  | (go_at_call 118;refine (zP p q _).mono ?_;rintro r' w1 ⟨rfl,b9⟩;rw[E5];obtain⟨A8,C7,D3⟩:=jC (w.heap.size+1) (by simp) b9))
 go_ret
 exact⟨rfl,zB (zB (zB (zB (zB (bl1 _ _) b9) j8) m8) p9) D8⟩
theorem check_nm (k p q r s:Int) (w:World) (h1:1<=k) (h7:k<=7) (S8:rok p q) (P2:rok r s) (E5:decide (rok p q)=true) (E9:decide (rok r s)=true) (ho:zFT k=false) (hs:yR k p q r s=true) (hf:zEB k p q r s=true) :
  Calls Tryz.prog 89 #[.agg #[.int .i64 k,.int .i64 p,.int .i64 q,.int .i64 r,.int .i64 s]] w λ z w'=>z=.returned (.int .i64 2)/\Below w.heap.size w w':=by
 go_enter Tryz.func89,Tryz.ntmps89
 go_wp2_with (first
  | (go_at_call 130;refine (zDS k p q r s _ S8 P2).mono ?_;rintro r' w5 ⟨rfl,D8⟩;rw[hf])
  | (go_at_call 129;refine (zBH k p q r s _ h1 h7).mono ?_;rintro r' w4 ⟨rfl,p9⟩;rw[hs];obtain⟨Z5,fS,aH⟩:=jC (w.heap.size+1) I1 p9)
  | (go_at_call 128;refine (jD k _).mono ?_;rintro r' w3 ⟨rfl,m8⟩;rw[ho];obtain⟨I1,O7,M7⟩:=jC (w.heap.size+1) C9 m8)
  | (go_at_call 118;have hq:=b9;refine (zP r s _).mono ?_;rintro r' w2 ⟨rfl,j8⟩;rw[E9];obtain⟨C9,D6,E6⟩:=jC (w.heap.size+1) A8 j8)
  | (go_at_call 118;refine (zP p q _).mono ?_;rintro r' w1 ⟨rfl,b9⟩;rw[E5];obtain⟨A8,C7,D3⟩:=jC (w.heap.size+1) (by simp) b9))
 go_ret
 exact⟨rfl,zB (zB (zB (zB (zB (bl1 _ _) b9) j8) m8) p9) D8⟩
theorem jO (k p q r s:Int) (w:World) :
  Calls Tryz.prog 89 #[.agg #[.int .i64 k,.int .i64 p,.int .i64 q,.int .i64 r,.int .i64 s]] w λ z w'=>z=.returned (.int .i64 (kT k p q r s))/\Below w.heap.size w w':=by
 by_cases h1:k<1
 ·rw[show kT k p q r s=6 by unfold kT;rw[if_pos (by omega)]];exact check_k0 k p q r s w h1
 by_cases h7:7<k
 ·rw[show kT k p q r s=6 by unfold kT;rw[if_pos (by omega)]];exact check_k8 k p q r s w (by omega) h7
 have n1:¬ (k<1\/7<k):=by omega
 cases E5:decide (rok p q)
 ·rw[show kT k p q r s=3 by unfold kT;rw[if_neg n1,if_pos (Or.inl (of_decide_eq_false E5))]];exact check_r1 k p q r s w (by omega) (by omega) E5
 cases E9:decide (rok r s)
 ·rw[show kT k p q r s=3 by unfold kT;rw[if_neg n1,if_pos (Or.inr (of_decide_eq_false E9))]];exact check_r2 k p q r s w (by omega) (by omega) E5 E9
 have S8:=of_decide_eq_true E5;have P2:=of_decide_eq_true E9;have n2:¬ (¬ rok p q\/¬ rok r s):=by simp[S8,P2]
 cases ho:zFT k
 ·have n3:¬ (zFT k=true/\¬ (r=0/\s=1)):=λ ⟨h,_⟩=>by rw[ho] at h;cases h
  cases hs:yR k p q r s
  ·rw[show kT k p q r s=3 by unfold kT;rw[if_neg n1,if_neg n2,if_neg n3,if_pos hs]];exact check_ns k p q r s w (by omega) (by omega) S8 P2 E5 E9 ho hs
  have n4:¬ yR k p q r s=false:=by simp[hs]
  cases hf:zEB k p q r s
  ·rw[show kT k p q r s=0 by unfold kT;rw[if_neg n1,if_neg n2,if_neg n3,if_neg n4,if_neg (by simp[hf])]];exact check_nf k p q r s w (by omega) (by omega) S8 P2 E5 E9 ho hs hf
  ·rw[show kT k p q r s=2 by unfold kT;rw[if_neg n1,if_neg n2,if_neg n3,if_neg n4,if_pos hf]];exact check_nm k p q r s w (by omega) (by omega) S8 P2 E5 E9 ho hs hf
 by_cases z0:r=0
 case neg=>rw[show kT k p q r s=1 by unfold kT;rw[if_neg n1,if_neg n2,if_pos ⟨ho,by omega⟩]];exact check_z0 k p q r s w (by omega) (by omega) E5 E9 ho z0
 by_cases z1:s=1
 case neg=>rw[show kT k p q r s=1 by unfold kT;rw[if_neg n1,if_neg n2,if_pos ⟨ho,by omega⟩]];exact check_z1 k p q r s w (by omega) (by omega) E5 E9 ho z1
 have n3:¬ (zFT k=true/\¬ (r=0/\s=1)):=λ ⟨_,h⟩=>h ⟨z0,z1⟩
 subst z0 z1
 cases hs:yR k p q 0 1
 ·rw[show kT k p q 0 1=3 by unfold kT;rw[if_neg n1,if_neg n2,if_neg n3,if_pos hs]];exact check_os k p q w (by omega) (by omega) S8 P2 E5 E9 ho hs
 have n4:¬ yR k p q 0 1=false:=by simp[hs]
 cases hf:zEB k p q 0 1
 ·rw[show kT k p q 0 1=0 by unfold kT;rw[if_neg n1,if_neg n2,if_neg n3,if_neg n4,if_neg (by simp[hf])]];exact check_of k p q w (by omega) (by omega) S8 P2 E5 E9 ho hs hf
 ·rw[show kT k p q 0 1=2 by unfold kT;rw[if_neg n1,if_neg n2,if_neg n3,if_neg n4,if_pos hf]];exact check_om k p q w (by omega) (by omega) S8 P2 E5 E9 ho hs hf
structure LwC (w:World) (B:Nat) (k p q r s:Int):Prop where
 c0:w.cell? ⟨B,0,none⟩=some (.int .i64 k)
 c1:w.cell? ⟨B,1,none⟩=some (.int .i64 p)
 c2:w.cell? ⟨B,2,none⟩=some (.int .i64 q)
 c3:w.cell? ⟨B,3,none⟩=some (.int .i64 r)
 c4:w.cell? ⟨B,4,none⟩=some (.int .i64 s)
theorem LwC.lt {w:World} {B:Nat} {k p q r s:Int} (h:LwC w B k p q r s):B<w.heap.size:=World.block_lt_of_cell? w ⟨B,0,none⟩ h.c0
theorem LwC.bw {w w':World} {B:Nat} {k p q r s:Int} (h:LwC w B k p q r s) (hb:Below w.heap.size w w'):LwC w' B k p q r s :=
 ⟨(hb.cell (p:=⟨B,0,none⟩) h.lt).trans h.c0,(hb.cell (p:=⟨B,1,none⟩) h.lt).trans h.c1,(hb.cell (p:=⟨B,2,none⟩) h.lt).trans h.c2,(hb.cell (p:=⟨B,3,none⟩) h.lt).trans h.c3,(hb.cell (p:=⟨B,4,none⟩) h.lt).trans h.c4⟩
theorem LwC.off {w:World} {B B':Nat} {k p q r s:Int} (h:LwC w B k p q r s) (hne:B≠B') (u0 u1:Value):LwC ((w.setCell ⟨B',0,none⟩ u0).setCell ⟨B',1,none⟩ u1) B k p q r s:=by
 obtain⟨q0,q1,q2,q3,q4⟩:=h;constructor<;>simp[go_sem,q0,q1,q2,q3,q4,hne,Ne.symm hne]
theorem kX (w:World) (k p q r s:Int) (T:TypeId):LwC (w.alloc (.cells #[.int .i64 k,.int .i64 p,.int .i64 q,.int .i64 r,.int .i64 s] T)) w.heap.size k p q r s:=⟨by simp,by simp,by simp,by simp,by simp⟩
def wayF (b o:Int):Nat->Int
 | 0=>b
 | i+1=>wayF b o i*(o+((i:Int)+1))/((i:Int)+1)
theorem zOQ (k p q r s:Int) (n:Nat) (w:World) (hn:(n:Int)<=p) (hp:p<=100) (hr:0<=r) (hs:r<=s) (X7:s<=1024) :
  Calls Tryz.prog 101 #[.agg #[.int .i64 k,.int .i64 p,.int .i64 q,.int .i64 r,.int .i64 s],.int .i64 n] w (zDV w (408+20*n) (wayF (r ^ n*(s-r) ^ (p.toNat-n)) (p-n) n)):=by
 obtain⟨W,hW⟩:∃ W,W=(w.alloc (.cells #[.int .i64 k,.int .i64 p,.int .i64 q,.int .i64 r,.int .i64 s] 25)).alloc (.cells #[.bool false,.slice none 0 0] 29):=⟨_,rfl⟩;have j6:Below w.heap.size w W:=by rw[hW];exact bl2 _ _ _
 have L:LwC W w.heap.size k p q r s:=by rw[hW];exact (kX w k p q r s _).bw (bl1 _ _)
 have R:NoI W (w.heap.size+1):=by rw[hW];constructor<;>simp[go_sem]
 obtain⟨m,hm⟩:∃ m:Nat,p-n=(m:Int):=⟨(p-n).toNat,by omega⟩
 have J5:p.toNat-n=m:=by omega
 rw[hm,J5];have HK:=zC (show ∀ w',Below W.heap.size W w'->(w'.cell? ⟨w.heap.size,3,none⟩=some (.int .i64 r)/\w'.cell? ⟨w.heap.size,4,none⟩=some (.int .i64 s)) from λ w' hB=>⟨(L.bw hB).c3,(L.bw hB).c4⟩)
 have lW:=L.lt;have lR:=R.lt
 go_enter Tryz.func101,Tryz.ntmps101
 go_wp2;rw[<- hW];clear hW;obtain⟨i0,i1,i2,i3,i4⟩:=L;have Vq:=zC (show IntKind.i64.wrap (s-r)=s-r from jH _ (by omega) (by omega))
 go_cut [6] (λ p wx=>VarAt wx p W.heap.size 408 (r ^ n*(s-r) ^ m)/\FzP wx p/\Below W.heap.size W wx)
 case first =>
  go_region_held3 (λ w'=>w'.cell? ⟨w.heap.size,3,none⟩=some (.int .i64 r)/\w'.cell? ⟨w.heap.size,4,none⟩=some (.int .i64 s)) (exact zA HK _ (by repeat' (first|with_reducible exact dY|with_reducible exact Q1|with_reducible exact J9|with_reducible exact Below.refl _ _|with_reducible refine Below.drew ?_|with_reducible refine zL ?_ _|with_reducible refine Below.setCell ?_ (by first|exact Yy _|exact aM|exact aN|exact fK) _)))
   (first
    | (go_at_call 83;have hq:=Q1;refine (zV _ _ _ _ _ _ _ _ (4*n+4) (4*m+4) (r ^ n) ((s-r) ^ m) _ (Q5.bw (by with_reducible first|exact Below.refl _ _|exact bl1 _ _)) (hO.bw (by with_reducible first|exact Below.refl _ _|exact bl1 _ _)) (by omega) (by omega)).mono ?_;rintro r LF ⟨mX,Ib,Lr,Ie,rfl,mj,fc⟩;have aY:Below na.heap.size na LF:=(by with_reducible first|exact fc|exact zB (bl1 _ _) fc);have dY:=zB Q1 aY;(try with_reducible have Cf:=(kB na 29).bw fc);replace Q5:=Q5.bw aY;(try replace cx:=cx.bw aY);replace hO:=hO.bw aY;(try replace iL:=iL.bw aY);have fK:=dY.size;(try have rP:=cx.lt);(try have Qa:=YD rP);(try have BV:=YC rP);(try obtain⟨Ez,EA,EB⟩:=cx);(try have rQ:=iL.lt);(try have Qb:=YD rQ);(try have BW:=YC rQ);(try obtain⟨EC,ED,EE⟩:=iL);(try have DL:=Cf.lt);(try have Xm:=YD DL);(try have Ir:=YC DL);(try obtain⟨NB,NC,ND⟩:=Cf))
    | (go_at_call 102;have hq:=J9;rw[zA Vq];refine (zBI (s-r) m _ (by omega) (by omega) (by omega)).mono ?_;rintro r na ⟨rW,Pz,SG,PN,rfl,hO,aG⟩;have ax:Below gM.heap.size gM na:=(by with_reducible first|exact aG|exact zB (bl1 _ _) aG);have Q1:=zB J9 ax;(try with_reducible have iL:=(kB gM 29).bw aG);replace Q5:=Q5.bw ax;(try replace cx:=cx.bw ax);have aN:=Q1.size)
    | (go_at_call 102;refine (zBI r n _ (by omega) (by omega) (by omega)).mono ?_;rintro r gM ⟨rV,Py,SF,PM,rfl,Q5,aC⟩;have J9:Below W.heap.size W gM:=(by with_reducible first|exact zB (Below.refl _ _).drew aC|exact zB (bl1 _ _).drew aC);(try with_reducible have cx:=((kB W 29).bw (Below.refl _ _).drew).bw aC);have aM:=J9.size))
  all_goals
   go_wp2_with fail;go_meet;refine⟨⟨_,⟨mX,Ib,Lr,Ie⟩,rfl,?_,?_,?_,?_,?_⟩,?_,?_⟩
   ·simp[go_sem, *]
   ·simp[go_sem, *]
   ·first|with_reducible exact IntAt.mono (mj.bw (bl1 _ _)) (by omega)|with_reducible exact IntAt.mono (mj.put2 (by assumption) (by assumption) _ _) (by omega)
   ·first|exact Yy _|exact aM|exact aN|exact fK
   ·simp[World.setCell];try omega
   ·intro B hB o;cases hB;simp[go_sem, *]
   ·repeat' (first|with_reducible exact dY|with_reducible exact Q1|with_reducible exact J9|with_reducible exact Below.refl _ _|with_reducible refine Below.drew ?_|with_reducible refine zL ?_ _|with_reducible refine Below.setCell ?_ (by first|exact Yy _|exact aM|exact aN|exact fK) _)
 case rest =>
 obtain⟨⟨BX,xX,rfl,Ap,Aq,nZ,zn,hltX⟩,hfzX,hblX⟩:=hcut;have XX:NmC wc BX xX:=⟨Ap,Aq⟩;have F0:∀ o,wc.frozen? ⟨BX,o,none⟩=false:=hfzX BX rfl;have L:LwC W w.heap.size k p q r s:=⟨i0,i1,i2,i3,i4⟩;replace L:=L.bw hblX;replace R:=R.bw hblX;replace j6:=zB j6 hblX;have dt:w.heap.size+1<BX:=YB lR zn;clear i0 i1 i2 i3 i4 HK hblX hfzX;go_wp2_with fail
 go_loopw [7] (λ kk wr=>∃ (i:Nat) (X:Nm),kk=.int .i64 ((i:Int)+1)/\i<=n/\NmC wr BX X/\(∀ o,wr.frozen? ⟨BX,o,none⟩=false)/\IntAt wr X.neg X.a X.n X.cap (408+20*i) (wayF (r ^ n*(s-r) ^ m) m i)/\NoI wr (w.heap.size+1)/\Below w.heap.size w wr) (λ kk _=>n+1-(intOf kk).toNat)
 case atStart=>exact⟨0,xX,rfl,Nat.zero_le _,XX,F0,nZ,R,j6⟩
 case round =>
  obtain⟨i,X,rfl,hi,hX,hF,hint,R,hB⟩:=hrel
  by_cases I6:i<n
  ·have CP:(i:Int)+1<=n:=by omega
   have HA:=zC (show IntKind.i64.wrap ((m:Int)+((i:Int)+1))=(m:Int)+((i:Int)+1) from jH _ (by omega) (by omega))
   have Z7:=zC (show ∀ w',Below wr.heap.size wr w'->(nK0 w' BX X) from λ w' hB=>⟨(hX.bw hB).c0,(hX.bw hB).c1⟩)
   have lX:=hX.lt;have hint:=zC hint;obtain⟨x0,x1⟩:=zA Z7 _ (Below.refl _ _);go_wp2_with fail
   go_region_with
    (first
     | (go_at_call 126;have hq:=G0;refine (yN _ _ _ _ _ _ _ _ (408+20*i+4) 4 (wayF (r ^ n*(s-r) ^ m) m i*((m:Int)+((i:Int)+1))) ((i:Int)+1) _ (A5.bw m8) E7 (by omega) (by omega)).mono ?_;rintro r' w4 ⟨E4,a4,n4,c4,rfl,H8,p9⟩;have J1:=zB G0 p9;have lD4:=J1.size;have X4:=hX.bw J1;obtain⟨z0,z1⟩:=X4;have F4:∀ o,w4.frozen? ⟨BX,o,none⟩=false:=λ o=>(J1.frozen (p:=⟨BX,o,none⟩) lX).trans (hF o))
     | (go_at_call 83;have hq:=y9;refine (zV _ _ _ _ _ _ _ _ (408+20*i) 4 (wayF (r ^ n*(s-r) ^ m) m i) ((m:Int)+((i:Int)+1)) _ ((zA hint).bw y9) o8 (by omega) (by omega)).mono ?_;rintro r' w2 ⟨j7,a2,n2,c2,rfl,A5,j8⟩;have s9:=zB y9 j8;obtain⟨b0,b1⟩:=hX.bw s9)
     | (go_at_call 33;have hq:=s9;refine (zD ((i:Int)+1) _ (by omega) (by omega)).mono ?_;rintro r' w3 ⟨B9,a3,n3,c3,rfl,E7,m8⟩;have G0:=zB s9 m8;obtain⟨c0,c1⟩:=hX.bw G0)
     | (go_at_call 33;rw[zA HA];refine (zD ((m:Int)+((i:Int)+1)) _ (by omega) (by omega)).mono ?_;rintro r' w1 ⟨m7,a1,n1,c1,rfl,o8,b9⟩;have y9:Below wr.heap.size wr w1:=zB (by repeat' (first|with_reducible exact Below.refl _ _|with_reducible refine Below.drew ?_)) b9;obtain⟨d0,d1⟩:=hX.bw y9))
   all_goals
    go_wp2_with fail
    go_roundw
    case rel=>exact⟨i+1,⟨E4,a4,n4,c4⟩,by go_num,by omega,zDG (z:=X) ⟨z0,z1⟩ ⟨E4,a4,n4,c4⟩,zAA F4 _ _,(H8.put2 z0 z1 _ _).mono (by omega),(R.bw J1).off (by omega) _ _,zE2 (zB hB J1) (by omega) _ _⟩
    case measure=>simp[intOf];omega
  ·have ie:i=n:=by omega
   subst ie;obtain⟨x0,x1⟩:=hX;obtain⟨z0,z1,z2⟩:=R;have hint:=zC hint;go_wp2_with fail;refine bodyPost_ret (v:=.agg X.q) (by simp[results,Tryz.results101,go_sem,z0,z1]) rfl ⟨X.neg,X.a,X.n,X.cap,rfl,?_,?_⟩
   ·exact (zA hint).put2 z0 z1 _ _
   ·exact zE2 hB (Nat.le_succ _) _ _
theorem zAT {a p q:Int} (hp:0<p) (O2:p<=q) (ha:0<=a):a/q<=a/p:=by
 have hq:0<q:=by omega
 have h0:0<=a/q:=Int.ediv_nonneg ha (by omega)
 rw[Int.le_ediv_iff_mul_le hp];have h1:=Int.ediv_mul_le a (show q≠0 by omega)
 have h2:=Yx O2 h0;omega
theorem zAS {a p q:Int} (hp:0<p) (O2:p<=q) (ha:a<=0):a/p<=a/q:=by
 have hq:0<q:=by omega
 have h0:a/p<=0:=by
  have:=Int.ediv_le_ediv hp ha
  simpa using this
 rw[Int.le_ediv_iff_mul_le hq];have h1:=Int.ediv_mul_le a (show p≠0 by omega)
 have h2:=Yx O2 (show 0 <= -(a/p) by omega)
 rw[Int.neg_mul,Int.neg_mul] at h2;omega
theorem zPS {l h p q:Int} (Km:l<=h) (hp:0<p) (O2:p<=q) :
  kK (pr4 (l/p) (l/q) (h/p) (h/q)) 3=if l<0 then l/p else l/q:=by
 have m1:l/p<=h/p:=Int.ediv_le_ediv hp Km;have m2:l/q<=h/q:=Int.ediv_le_ediv (by omega) Km
 have d1:0<=l->l/q<=l/p:=zAT hp O2;have d2:l<=0->l/p<=l/q:=zAS hp O2;have d3:0<=h->h/q<=h/p:=zAT hp O2;have d4:h<=0->h/p<=h/q:=zAS hp O2;simp only[kK,pr4];simp;generalize l/p=A at *;generalize l/q=B at *;generalize h/p=C at *;generalize h/q=D at *;split<;>split<;>split<;>split<;>omega
theorem zTQ {l h p q:Int} (Km:l<=h) (hp:0<p) (O2:p<=q) :
  kA (pr4 (-(-l/p)) (-(-l/q)) (-(-h/p)) (-(-h/q))) 3=if h<0 then -(-h/q) else -(-h/p):=by
 have m1 : -h/p <= -l/p:=Int.ediv_le_ediv hp (by omega)
 have m2 : -h/q <= -l/q:=Int.ediv_le_ediv (by omega) (by omega)
 have d1:0 <= -l -> -l/q <= -l/p:=zAT hp O2;have d2 : -l<=0 -> -l/p <= -l/q:=zAS hp O2;have d3:0 <= -h -> -h/q <= -h/p:=zAT hp O2;have d4 : -h<=0 -> -h/p <= -h/q:=zAS hp O2;simp only[kA,pr4];simp;generalize -l/p=A at *;generalize -l/q=B at *;generalize -h/p=C at *;generalize -h/q=D at *;split<;>split<;>split<;>split<;>omega
theorem sq_ltt {x y:Int} (hx:0<=x) (h:x*x<y*y) (hy:0<=y):x<y:=by
 rcases Int.lt_or_le x y with h5|h5
 ·exact h5
 ·have:=Int.mul_le_mul h5 h5 hy hx;omega
def rtN:Nat->Nat
 | 0=>0
 | n+1=>if (rtN n+1)*(rtN n+1)<=n+1 then rtN n+1 else rtN n
def rtZ (x:Int):Int:=(rtN x.toNat:Int)
theorem rtN_spec (n:Nat):rtN n*rtN n<=n/\n<(rtN n+1)*(rtN n+1):=by
 induction n with
 | zero=>simp[rtN]
 | succ n ih =>
  unfold rtN;split
  ·rename_i h
   refine⟨h,?_⟩
   have e:(rtN n+1+1)*(rtN n+1+1)=(rtN n+1)*(rtN n+1)+2*(rtN n+1)+1:=by
    rw[Nat.add_mul,Nat.mul_add];omega
   omega
  ·rename_i h
   exact⟨by omega,by omega⟩
theorem zAP (x:Int):0<=rtZ x:=by unfold rtZ;omega
theorem zEM {x:Int} (h:0<=x):rtZ x*rtZ x<=x/\x<(rtZ x+1)*(rtZ x+1):=by
 obtain⟨h1,h2⟩:=rtN_spec x.toNat;unfold rtZ;have h3:((rtN x.toNat*rtN x.toNat:Nat):Int)<=(x.toNat:Int):=by exact_mod_cast h1
 have h4:(x.toNat:Int)<(((rtN x.toNat+1)*(rtN x.toNat+1):Nat):Int):=by exact_mod_cast h2
 rw[Int.toNat_of_nonneg h] at h3 h4
 push_cast at h3 h4
 exact⟨h3,h4⟩
theorem RootOf.eq {x z:Int} (h:RootOf x z):z=rtZ x:=by
 obtain⟨h1,h2,h3⟩:=h
 rcases Int.lt_or_le 0 x with hx|hx
 ·obtain⟨h4,h5⟩:=zEM (x:=x) (by omega)
  exact zT7 h1 (zAP x) (h3 hx).1 (h3 hx).2 h4 h5
 ·rw[h2 hx];unfold rtZ;rw[show x.toNat=0 by omega];rfl
def rtU (x:Int):Int:=if rtZ x*rtZ x<x then rtZ x+1 else rtZ x
theorem zPZ {x y:Int} (h:x<=y) (h0:0<=x):rtZ x<=rtU y:=by
 obtain⟨h1,h2⟩:=zEM h0;obtain⟨h3,h4⟩:=zEM (x:=y) (by omega)
 have h5:rtZ x<rtZ y+1:=sq_ltt (zAP x) (by omega) (by have:=zAP y;omega)
 unfold rtU;split<;>omega
theorem rtU_sq {x:Int} (h:0<=x):x<=rtU x*rtU x:=by
 obtain⟨h3,h4⟩:=zEM h;unfold rtU;split<;>omega
theorem zT5 (neg:Bool) (a:Option Addr) (n cap k:Nat) (x:Int) (w:World) (h1:IntAt w neg a n cap k x) (hk:k<=100000000) :
  Calls Tryz.prog 206 #[.agg #[.bool neg,.slice a n cap]] w (zDV w (k+10) (rtZ x)) :=
 (root_int neg a n cap k x w h1 hk).mono λ r w' ⟨z,hz,h⟩=>by rw[<- hz.eq];exact h
theorem yW {w:World} {B B' o:Nat} {v:Option Value} (h:w.cell? ⟨B,o,none⟩=v) (hne:B≠B') (u0 u1:Value):((w.setCell ⟨B',0,none⟩ u0).setCell ⟨B',1,none⟩ u1).cell? ⟨B,o,none⟩=v:=by
 have ne:∀ i:Nat,(⟨B',i,none⟩:Addr)≠⟨B,o,none⟩:=λ i e=>hne (by injection e with e1;exact e1.symm)
 rw[World.cell?_setCell_other _ _ _ _ (ne 1),World.cell?_setCell_other _ _ _ _ (ne 0)];exact h
theorem jG {w:World} {B B' o:Nat} {v:Option Value} (h:w.cell? ⟨B,o,none⟩=v) (hne:B≠B') (u0 u1 u2 u3 u4:Value) :
  (((((w.setCell ⟨B',0,none⟩ u0).setCell ⟨B',1,none⟩ u1).setCell ⟨B',2,none⟩ u2).setCell ⟨B',3,none⟩ u3).setCell ⟨B',4,none⟩ u4).cell? ⟨B,o,none⟩=v:=by
 have ne:∀ i:Nat,(⟨B',i,none⟩:Addr)≠⟨B,o,none⟩:=λ i e=>hne (by injection e with e1;exact e1.symm)
 rw[World.cell?_setCell_other _ _ _ _ (ne 4),World.cell?_setCell_other _ _ _ _ (ne 3),World.cell?_setCell_other _ _ _ _ (ne 2),World.cell?_setCell_other _ _ _ _ (ne 1),World.cell?_setCell_other _ _ _ _ (ne 0)];exact h
theorem SpC.put2 {w:World} {B B':Nat} {s:Sp} (h:SpC w B s) (hne:B≠B') (u0 u1:Value):SpC ((w.setCell ⟨B',0,none⟩ u0).setCell ⟨B',1,none⟩ u1) B s :=
 ⟨yW h.c0 hne _ _,yW h.c1 hne _ _,yW h.c2 hne _ _,yW h.c3 hne _ _,yW h.c4 hne _ _⟩
theorem NoC.put2 {w:World} {B B':Nat} (h:NoC w B) (hne:B≠B') (u0 u1:Value):NoC ((w.setCell ⟨B',0,none⟩ u0).setCell ⟨B',1,none⟩ u1) B:=by
 obtain⟨q0,q1,q2,q3,q4,q5⟩:=h;exact⟨yW q0 hne _ _,yW q1 hne _ _,yW q2 hne _ _,yW q3 hne _ _,yW q4 hne _ _,λ o=>by rw[zS,zS];exact q5 o⟩
theorem SpAt.put2 {w:World} {s:Sp} {k:Nat} {lo hi:Int} (h:SpAt w s k lo hi) {B:Nat} {x0:Bool} {y0:Option Addr} {y1 y2:Nat} (h0:w.cell? ⟨B,0,none⟩=some (.bool x0)) (h1:w.cell? ⟨B,1,none⟩=some (.slice y0 y1 y2)) (u0 u1:Value) :
  SpAt ((w.setCell ⟨B,0,none⟩ u0).setCell ⟨B,1,none⟩ u1) s k lo hi:=⟨h.lo.put2 h0 h1 _ _,h.hi.put2 h0 h1 _ _⟩
theorem zO3 (x y:Int):decide (zM x y<0)=decide (x<y):=by unfold zM;split<;>(try split)<;>simp<;>omega
theorem zFH (w:World) (s:Sp) (k b:Nat) (lo hi:Int) (hs:SpAt w s k lo hi) (hk:k<=30000000) (hb:b<=1000000) (hbits:s.bits=b) :
  Calls Tryz.prog 197 #[.agg s.q] w (zH w b (b/16+k+20) (rtZ (lo*Q b)) (rtU (hi*Q b))):=by
 have gN:=zC hbits;clear hbits;obtain⟨W,hW⟩:∃ W,W=(w.alloc (.cells s.q 31)).alloc (.cells zCq 31):=⟨_,rfl⟩;have j6:Below w.heap.size w W:=by rw[hW];exact bl2 _ _ _
 have A:SpC W w.heap.size s:=by rw[hW];constructor<;>simp[go_sem]
 have R:NoC W (w.heap.size+1):=by rw[hW];constructor<;>simp[go_sem]
 replace hs:=hs.bw j6
 go_enter Tryz.func197,Tryz.ntmps197
 go_wp2_with fail;rw[<- hW];clear hW;rw[zA gN];refine (zB0 _ _ _ _ b k hi _ hs.hi (by omega) (by omega)).mono ?_
 rintro r w1 ⟨m7,a1,n1,c1,rfl,o8,b9⟩;replace j6:=zB j6 b9;replace A:=A.bw b9;replace R:=R.bw b9;replace hs:=hs.bw b9;clear b9;obtain⟨x1,dO⟩:∃ x:Nm,x=⟨m7,a1,n1,c1⟩:=⟨_,rfl⟩;obtain⟨W1,cf⟩:∃ W',W'=w1.alloc (.cells #[.bool m7,.slice a1 n1 c1] 29):=⟨_,rfl⟩;have E5:Below w1.heap.size w1 W1:=by rw[cf];exact bl1 _ _
 have X1:NmC W1 w1.heap.size ⟨m7,a1,n1,c1⟩:=by rw[cf];exact zDC w1 ⟨m7,a1,n1,c1⟩ _
 have DR:w1.heap.size≠w.heap.size+1:=YC R.lt;obtain⟨u0,u1⟩:=X1;have X1:NmC W1 w1.heap.size ⟨m7,a1,n1,c1⟩:=⟨u0,u1⟩;have RV:=X1.lt;go_wp2_with fail;rw[<- cf];clear cf u0 u1 RV dO x1;replace j6:=zB j6 E5;replace A:=A.bw E5;replace R:=R.bw E5;replace hs:=hs.bw E5;replace o8:=o8.bw E5;clear E5;refine (zT5 _ _ _ _ _ (hi*Q b) _ o8 (by omega)).mono ?_
 rintro r w2 ⟨j7,a2,n2,c2,rfl,A5,j8⟩;replace j6:=zB j6 j8;replace A:=A.bw j8;replace R:=R.bw j8;replace hs:=hs.bw j8;replace o8:=o8.bw j8;replace X1:=X1.bw j8;clear j8;obtain⟨W2,nY⟩:∃ W',W'=w2.alloc (.cells #[.bool j7,.slice a2 n2 c2] 29):=⟨_,rfl⟩;have E9:Below w2.heap.size w2 W2:=by rw[nY];exact bl1 _ _
 have X2:NmC W2 w2.heap.size ⟨j7,a2,n2,c2⟩:=by rw[nY];exact zDC w2 ⟨j7,a2,n2,c2⟩ _
 have F2:∀ o,W2.frozen? ⟨w2.heap.size,o,none⟩=false:=by intro o;rw[nY];simp[go_sem]
 have n12:w1.heap.size≠w2.heap.size:=YD X1.lt;have rR:w2.heap.size≠w.heap.size+1:=YC R.lt;have DS:w.heap.size+1≠w2.heap.size:=YD R.lt;have nAR:w.heap.size≠w.heap.size+1:=YD (Nat.lt_succ_self _);have nA:w.heap.size≠w2.heap.size:=YD A.lt;have hwB:w.heap.size<=w2.heap.size:=Nat.le_of_lt A.lt;replace j6:=zB j6 E9;replace A:=A.bw E9;replace R:=R.bw E9;replace hs:=hs.bw E9;replace o8:=zC (o8.bw E9);replace A5:=zC (A5.bw E9);replace X1:=X1.bw E9;clear E9;go_wp2_with fail;rw[<- nY];clear nY;have GL:=zC (show ∀ w',Below W2.heap.size W2 w'->(nK w' w1.heap.size (Nm.mk m7 a1 n1 c1) (nK0 w' w2.heap.size (Nm.mk j7 a2 n2 c2))) from λ w' hB=>⟨(X1.bw hB).c0,(X1.bw hB).c1,(X2.bw hB).c0,(X2.bw hB).c1⟩)
 have l1:=X1.lt;have l2:=X2.lt;obtain⟨v0,v1,v2,v3⟩:=zA GL _ (Below.refl _ _);go_wp2_with fail
 go_cut [17] (λ p wx=>p=.bool (decide (rtZ (hi*Q b)*rtZ (hi*Q b)<(hi*Q b)))/\Below W2.heap.size W2 wx)
 case first =>
  go_region_held3 (λ w'=>nK w' w1.heap.size (Nm.mk m7 a1 n1 c1) (nK0 w' w2.heap.size (Nm.mk j7 a2 n2 c2))) (exact zA GL _ (by (repeat' (first|with_reducible exact G3|with_reducible exact A9|with_reducible exact Below.refl _ _|with_reducible refine Below.drew ?_|with_reducible refine zL ?_ _))<;>fail))
   (first
    | (go_at_call 17;have hq:=A9;refine (jP _ _ _ _ _ _ _ _ _ _ (rtZ (hi*Q b)*rtZ (hi*Q b)) (hi*Q b) _ (E7.bw (by (repeat' (first|with_reducible exact Below.refl _ _|with_reducible refine Below.drew ?_|with_reducible refine zL ?_ _))<;>fail)) ((zA o8).bw (by (repeat' (first|with_reducible exact A9|with_reducible exact Below.refl _ _|with_reducible refine Below.drew ?_|with_reducible refine zL ?_ _))<;>fail))).mono ?_;rintro r w4 ⟨rfl,p9⟩;have G3:=zB A9 p9)
    | (go_at_call 83;refine (zV _ _ _ _ _ _ _ _ _ _ (rtZ (hi*Q b)) (rtZ (hi*Q b)) _ ((zA A5).bw (by (repeat' (first|with_reducible exact Below.refl _ _|with_reducible refine Below.drew ?_|with_reducible refine zL ?_ _))<;>fail)) ((zA A5).bw (by (repeat' (first|with_reducible exact Below.refl _ _|with_reducible refine Below.drew ?_|with_reducible refine zL ?_ _))<;>fail)) (by omega) (by omega)).mono ?_;rintro r w3 ⟨B9,a3,n3,c3,rfl,E7,m8⟩;have A9:Below W2.heap.size W2 w3:=zB (by (repeat' (first|with_reducible exact Below.refl _ _|with_reducible refine Below.drew ?_|with_reducible refine zL ?_ _))<;>fail) m8))
  all_goals
   go_wp2_with fail;go_meet;refine⟨?_,(by (repeat' (first|with_reducible exact G3|with_reducible exact Below.refl _ _|with_reducible refine Below.drew ?_|with_reducible refine zL ?_ _))<;>fail)⟩
   congr 1
   exact zO3 _ _
 case rest =>
 obtain⟨rfl,C8⟩:=hcut;replace A:=A.bw C8;replace R:=R.bw C8;replace hs:=hs.bw C8;replace F2:∀ o,wc.frozen? ⟨w2.heap.size,o,none⟩=false:=λ o=>(C8.frozen (p:=⟨w2.heap.size,o,none⟩) X2.lt).trans (F2 o)
 replace X2:=X2.bw C8;replace A5:=zC ((zA A5).bw C8);replace j6:=zB j6 C8;clear o8 X1 C8;clear v0 v1 v2 v3 GL l1 l2
 go_upto_if 17 with fail
 go_cut [18] (λ _ wx=>∃ x:Nm,NmC wx w2.heap.size x/\IntAt wx x.neg x.a x.n x.cap (b/16+k+20) (rtU (hi*Q b))/\SpC wx w.heap.size s/\NoC wx (w.heap.size+1)/\SpAt wx s k lo hi/\Below w.heap.size w wx)
 case first =>
  have l2:=X2.lt;have pZ:=zC X2;obtain⟨v2,v3⟩:=X2
  by_cases D9:rtZ (hi*Q b)*rtZ (hi*Q b)<(hi*Q b)
  ·have hd:decide (rtZ (hi*Q b)*rtZ (hi*Q b)<(hi*Q b))=true:=decide_eq_true D9
   have HU:=zC (show rtU (hi*Q b)=rtZ (hi*Q b)+1 by unfold rtU;rw[if_pos D9])
   clear D9;rw[hd];go_wp2_with fail
   go_region_with
    (first
     | (go_at_call 32;have hq:=D8;refine (zA3 _ _ _ _ _ _ _ _ _ 4 (rtZ (hi*Q b)) 1 _ ((zA A5).bw M6) O0 (by omega) (by omega)).mono ?_;rintro r w6 ⟨dJ,a6,n6,c6,rfl,cX,K7⟩;have cW:=zB M6 K7;have F6:∀ o,w6.frozen? ⟨w2.heap.size,o,none⟩=false:=(λ o=>(cW.frozen (p:=⟨w2.heap.size,o,none⟩) l2).trans (F2 o));have l6:=YB l2 cW.size;obtain⟨v7,v8⟩:=(zA pZ).bw cW)
     | (go_at_call 33;refine (zD 1 _ (by decide) (by decide)).mono ?_;rintro r w5 ⟨J3,a5,n5,c5,rfl,O0,D8⟩;have M6:Below wc.heap.size wc w5:=zB (by (repeat' (first|with_reducible exact Below.refl _ _|with_reducible refine Below.drew ?_|with_reducible refine zL ?_ _))<;>fail) D8;have l5:=M6.size;obtain⟨v5,v6⟩:=(zA pZ).bw M6))
   all_goals
    go_wp2_with fail;go_meet;rw[zA HU];exact⟨⟨dJ,a6,n6,c6⟩,⟨by simp[go_sem,v7,v8],by simp[go_sem,v7,v8]⟩,(cX.put2 v7 v8 _ _).mono (by omega),(A.bw cW).put2 nA _ _,(R.bw cW).put2 DS _ _,(hs.bw cW).put2 v7 v8 _ _,zE2 (zB j6 cW) hwB _ _⟩
  ·have hd:decide (rtZ (hi*Q b)*rtZ (hi*Q b)<(hi*Q b))=false:=decide_eq_false D9
   have HU:=zC (show rtU (hi*Q b)=rtZ (hi*Q b) by unfold rtU;rw[if_neg D9])
   clear D9;rw[hd];go_wp2_with fail;go_meet;rw[zA HU];exact⟨⟨j7,a2,n2,c2⟩,⟨v2,v3⟩,(zA A5).mono (by omega),A,R,hs,j6⟩
 case rest =>
 obtain⟨x,X2,hint,A,R,hs,j6⟩:=hcut;clear F2 A5;have yq:=zC (show ∀ w',Below wc.heap.size wc w'->(w'.cell? ⟨w.heap.size,0,none⟩=some (.bool s.ln)/\w'.cell? ⟨w.heap.size,1,none⟩=some (.slice s.la s.lN s.lc)/\w'.cell? ⟨w.heap.size,2,none⟩=some (.bool s.hn)/\w'.cell? ⟨w.heap.size,3,none⟩=some (.slice s.ha s.hN s.hc)/\w'.cell? ⟨w.heap.size,4,none⟩=some (.int .i64 (b:Int))/\nK0 w' w2.heap.size x) from λ w' hB=>⟨(A.bw hB).c0,(A.bw hB).c1,(A.bw hB).c2,(A.bw hB).c3,by rw[<- zA gN];exact (A.bw hB).c4,(X2.bw hB).c0,(X2.bw hB).c1⟩)
 have GM:=zC (show ∀ w' u0 u1 u2 u3 u4,Below wc.heap.size wc w'->((((((w'.setCell ⟨w.heap.size+1,0,none⟩ u0).setCell ⟨w.heap.size+1,1,none⟩ u1).setCell ⟨w.heap.size+1,2,none⟩ u2).setCell ⟨w.heap.size+1,3,none⟩ u3).setCell ⟨w.heap.size+1,4,none⟩ u4).cell? ⟨w.heap.size,0,none⟩=some (.bool s.ln)/\(((((w'.setCell ⟨w.heap.size+1,0,none⟩ u0).setCell ⟨w.heap.size+1,1,none⟩ u1).setCell ⟨w.heap.size+1,2,none⟩ u2).setCell ⟨w.heap.size+1,3,none⟩ u3).setCell ⟨w.heap.size+1,4,none⟩ u4).cell? ⟨w.heap.size,1,none⟩=some (.slice s.la s.lN s.lc)/\(((((w'.setCell ⟨w.heap.size+1,0,none⟩ u0).setCell ⟨w.heap.size+1,1,none⟩ u1).setCell ⟨w.heap.size+1,2,none⟩ u2).setCell ⟨w.heap.size+1,3,none⟩ u3).setCell ⟨w.heap.size+1,4,none⟩ u4).cell? ⟨w.heap.size,2,none⟩=some (.bool s.hn)/\(((((w'.setCell ⟨w.heap.size+1,0,none⟩ u0).setCell ⟨w.heap.size+1,1,none⟩ u1).setCell ⟨w.heap.size+1,2,none⟩ u2).setCell ⟨w.heap.size+1,3,none⟩ u3).setCell ⟨w.heap.size+1,4,none⟩ u4).cell? ⟨w.heap.size,3,none⟩=some (.slice s.ha s.hN s.hc)/\(((((w'.setCell ⟨w.heap.size+1,0,none⟩ u0).setCell ⟨w.heap.size+1,1,none⟩ u1).setCell ⟨w.heap.size+1,2,none⟩ u2).setCell ⟨w.heap.size+1,3,none⟩ u3).setCell ⟨w.heap.size+1,4,none⟩ u4).cell? ⟨w.heap.size,4,none⟩=some (.int .i64 (b:Int))/\(((((w'.setCell ⟨w.heap.size+1,0,none⟩ u0).setCell ⟨w.heap.size+1,1,none⟩ u1).setCell ⟨w.heap.size+1,2,none⟩ u2).setCell ⟨w.heap.size+1,3,none⟩ u3).setCell ⟨w.heap.size+1,4,none⟩ u4).cell? ⟨w2.heap.size,0,none⟩=some (.bool x.neg)/\(((((w'.setCell ⟨w.heap.size+1,0,none⟩ u0).setCell ⟨w.heap.size+1,1,none⟩ u1).setCell ⟨w.heap.size+1,2,none⟩ u2).setCell ⟨w.heap.size+1,3,none⟩ u3).setCell ⟨w.heap.size+1,4,none⟩ u4).cell? ⟨w2.heap.size,1,none⟩=some (.slice x.a x.n x.cap)) from λ w' u0 u1 u2 u3 u4 hB=>⟨jG (A.bw hB).c0 nAR _ _ _ _ _,jG (A.bw hB).c1 nAR _ _ _ _ _,jG (A.bw hB).c2 nAR _ _ _ _ _,jG (A.bw hB).c3 nAR _ _ _ _ _,jG (by rw[<- zA gN];exact (A.bw hB).c4) nAR _ _ _ _ _,jG (X2.bw hB).c0 rR _ _ _ _ _,jG (X2.bw hB).c1 rR _ _ _ _ _⟩)
 have lA:=A.lt;have lX:=X2.lt;have lR:=R.lt;replace hint:=zC hint;replace hs:=zC hs;obtain⟨x0,x1,x2,x3,x4,v2,v3⟩:=zA yq _ (Below.refl _ _);go_wp2_with fail
 go_region_held3 (λ w'=>w'.cell? ⟨w.heap.size,0,none⟩=some (.bool s.ln)/\w'.cell? ⟨w.heap.size,1,none⟩=some (.slice s.la s.lN s.lc)/\w'.cell? ⟨w.heap.size,2,none⟩=some (.bool s.hn)/\w'.cell? ⟨w.heap.size,3,none⟩=some (.slice s.ha s.hN s.hc)/\w'.cell? ⟨w.heap.size,4,none⟩=some (.int .i64 (b:Int))/\nK0 w' w2.heap.size x) (first|exact zA yq _ (by with_reducible first|exact iN|exact jx|exact (Below.refl _ _).drew|exact Below.refl _ _)|exact zA GM _ _ _ _ _ _ iN)
  (first
   | (go_at_call 206;have hq:=jx;refine (zT5 _ _ _ _ _ (lo*Q b) _ lK (by omega)).mono ?_;rintro r w8 ⟨DV,a8,n8,c8,rfl,hZ8,T9⟩;have iN:=zB jx T9;have R8:=R.bw iN;have l8:=R8.lt;obtain⟨q0,q1,q2,q3,q4,q5⟩:=R8;obtain⟨y0,y1,y2,y3,y4,y5,y6⟩:=zA yq _ iN)
   | (go_at_call 116;refine (zB0 _ _ _ _ b k lo _ ((zA hs).lo.bw (by (repeat' (first|with_reducible exact Below.refl _ _|with_reducible refine Below.drew ?_|with_reducible refine zL ?_ _))<;>fail)) (by omega) (by omega)).mono ?_;rintro r w7 ⟨iF,a7,n7,c7,rfl,lK,Q7⟩;have jx:Below wc.heap.size wc w7:=zB (by (repeat' (first|with_reducible exact Below.refl _ _|with_reducible refine Below.drew ?_|with_reducible refine zL ?_ _))<;>fail) Q7))
 all_goals
  go_wp2_with fail;refine bodyPost_ret (v:=.agg #[.bool DV,.slice a8 n8 c8,.bool x.neg,.slice x.a x.n x.cap,.int .i64 b]) (by simp[results,Tryz.results197,go_sem,l8,q0,q1,q2,q3,q4]) rfl ⟨⟨DV,a8,n8,c8,x.neg,x.a,x.n,x.cap,b⟩,rfl,rfl,?_,?_⟩
  ·exact SpAt.put5 ⟨hZ8.mono (by omega),(zA hint).bw iN⟩ q0 q1 q2 q3 q4 _ _ _ _ _
  ·exact jV (zB j6 iN) (by omega) _ _ _ _ _
def ovLo (l h p q:Int):Int:=if l<0 then l/p else l/q
def ovHi (l h p q:Int):Int:=if h<0 then -(-h/q) else -(-h/p)
variable {w wr w' : World} {s t : Sp} {k k1 k2 BL CL BM CM : Nat} {xL yL xM yM : Nm} {lo' hi' l h m n : Int}
def zDW (lo hi lo' hi':Int) (b:Nat):Int:=if hi'<0 then ovLo (-hi*Q b) (-lo*Q b) (-hi') (-lo') else ovLo (lo*Q b) (hi*Q b) lo' hi'
def zEV (lo hi lo' hi':Int) (b:Nat):Int:=if hi'<0 then ovHi (-hi*Q b) (-lo*Q b) (-hi') (-lo') else ovHi (lo*Q b) (hi*Q b) lo' hi'
end Go.Proofs.YtgmnknmjainabacGreat
