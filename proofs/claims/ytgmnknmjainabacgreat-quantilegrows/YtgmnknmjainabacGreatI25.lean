/-
  Its own texts.
-/
import Derived.Test.YtgmnknmjainabacGreatI24
set_option maxRecDepth 100000
set_option maxHeartbeats 40000000
set_option linter.unnecessarySimpa false
set_option linter.unusedSimpArgs false
set_option linter.unusedVariables false
namespace Go.Proofs.YtgmnknmjainabacGreat
open Go.RowKit
attribute [local go_sem ↓] Go.wp_at_zero Go.wp_at_succ
theorem zH2 (x q:Int) (hq:0<q):x/q*q<=x:=Int.ediv_mul_le _ (by omega)
theorem zH1 (x q:Int) (hq:0<q):x<x/q*q+q:=by
 have h:=Int.emod_add_mul_ediv x q;have:=Int.emod_lt_of_pos x hq;rw[Int.mul_comm];omega
theorem zM4 {p q z:Int} (hq:0<q) (h1:z*q<=p) (h2:p<z*q+q):p/q=z:=by
 have a:=zH2 p q hq;have b:=zH1 p q hq
 have c1:p/q<z+1:=by
  refine Int.not_le.1 λ h=>?_
  have h3:=YA h (show 0<=q by omega)
  have h4:(z+1)*q=z*q+q:=by rw[Int.add_mul];omega
  omega
 have c2:z<p/q+1:=by
  refine Int.not_le.1 λ h=>?_
  have h3:=YA h (show 0<=q by omega)
  have h4:(p/q+1)*q=p/q*q+q:=by rw[Int.add_mul];omega
  omega
 omega
theorem tdiv_bd {p q:Int} (hq:0<q):(p.tdiv q*q<=p/\p<p.tdiv q*q+q)\/(p<p.tdiv q*q/\p.tdiv q*q-q<p):=by
 by_cases hp:0<=p
 ·rw[Int.tdiv_eq_ediv_of_nonneg hp]
  exact Or.inl ⟨zH2 p q hq,zH1 p q hq⟩
 ·have e:p.tdiv q = -((-p)/q):=by
   have h1:((-(-p)).tdiv q) = -((-p).tdiv q):=Int.neg_tdiv _ _;rw[Int.neg_neg] at h1;rw[h1,Int.tdiv_eq_ediv_of_nonneg (by omega)]
  have a:=zH2 (-p) q hq;have b:=zH1 (-p) q hq;rw[e,Int.neg_mul]
  by_cases hz:(-p)/q*q = -p
  ·exact Or.inl ⟨by omega,by omega⟩
  ·exact Or.inr ⟨by omega,by omega⟩
theorem zM3 (p q:Int) (w:World) (h:rok p q) :
  Calls Tryz.prog 137 #[.agg #[.int .i64 p,.int .i64 q]] w λ z w'=>z=.returned (.int .i64 (p/q))/\Below w.heap.size w w':=by
 obtain⟨h1,h2,h3,h4⟩:=h;have hb:=tdiv_bd (p:=p) (q:=q) (by omega)
 obtain⟨n,hn⟩:∃ n,n=p.tdiv q:=⟨_,rfl⟩;have qe:p.tdiv q=n:=hn.symm;rw[qe] at hb;have hz:(q == 0)=false:=by simp;omega
 have hnb : -1048577<=n/\n<=1048577:=by
  rcases hb with⟨b1,b2⟩|⟨b1,b2⟩
  ·constructor
   ·refine Int.not_lt.1 λ h=>?_
    have:=YA (show n <= -1048578 by omega) (show 0<=q by omega)
    omega
   ·refine Int.not_lt.1 λ h=>?_
    have:=YA (show 1048578<=n by omega) (show 0<=q by omega)
    omega
  ·constructor
   ·refine Int.not_lt.1 λ h=>?_
    have:=YA (show n <= -1048578 by omega) (show 0<=q by omega)
    omega
   ·refine Int.not_lt.1 λ h=>?_
    have:=YA (show 1048578<=n by omega) (show 0<=q by omega)
    omega
 have hnq : -2000000<=n*q/\n*q<=2000000:=by omega
 obtain⟨m1,m2⟩:=hnb;obtain⟨m3,m4⟩:=hnq
 rcases hb with⟨b1,b2⟩|⟨b1,b2⟩
 ·have HE:=zC (zM4 (by omega) b1 b2)
  have hng:¬ p<n*q:=by omega
  clear hn b1 b2
  go_enter Tryz.func137,Tryz.ntmps137
  go_wp2
  go_ret
  exact⟨by rw[zA HE];rfl,bl1 _ _⟩
 ·have HE:=zC (show p/q=n-1 from zM4 (by omega) (by rw[Int.sub_mul];omega) (by rw[Int.sub_mul];omega))
  clear hn b2
  go_enter Tryz.func137,Tryz.ntmps137
  go_wp2
  go_ret
  exact⟨by rw[zA HE];rfl,bl1 _ _⟩
theorem zLG (q r s x y:Int) (P M b:Nat) (w:World) (K6:rok x y) (hM:(min (x/y) (P:Int)+1).toNat=M) (hp:P<=100) (hr:0<=r) (hs:r<=s) (hs1:1<=s) (X6:s<=1024) (hb:b<=1000000) :
  Calls Tryz.prog 91 #[.agg #[.int .i64 6,.int .i64 (P:Int),.int .i64 q,.int .i64 r,.int .i64 s],.agg #[.int .i64 x,.int .i64 y],.int .i64 b] w (zH w b (b/16+5000) (zC0 (zD4 P r s) M*Q b/s ^ P) (-(-(zC0 (zD4 P r s) M*Q b)/s ^ P))):=by
 have S8 : -1000000000<=x/y/\x/y<=1000000000:=by
  obtain⟨h1,h2,h3,h4⟩:=K6;have a:=zH2 x y (by omega)
  have b:=zH1 x y (by omega)
  constructor
  ·refine Int.not_lt.1 λ h=>?_
   have:=YA (show x/y <= -1000000001 by omega) (show 0<=y by omega)
   omega
  ·refine Int.not_lt.1 λ h=>?_
   have:=YA (show 1000000001<=x/y by omega) (show 0<=y by omega)
   omega
 obtain⟨W,hW⟩:∃ W,W=((w.alloc (.cells #[.int .i64 6,.int .i64 (P:Int),.int .i64 q,.int .i64 r,.int .i64 s] 25)).alloc (.cells #[.int .i64 x,.int .i64 y] 23)).alloc (.cells zCq 31):=⟨_,rfl⟩;have j7:Below w.heap.size w W:=by rw[hW];exact bl3 _ _ _ _
 have L:W.cell? ⟨w.heap.size,0,none⟩=some (.int .i64 6)/\W.cell? ⟨w.heap.size,1,none⟩=some (.int .i64 (P:Int))/\W.cell? ⟨w.heap.size,2,none⟩=some (.int .i64 q)/\W.cell? ⟨w.heap.size,3,none⟩=some (.int .i64 r)/\W.cell? ⟨w.heap.size,4,none⟩=some (.int .i64 s)/\W.cell? ⟨w.heap.size+1,0,none⟩=some (.int .i64 x)/\W.cell? ⟨w.heap.size+1,1,none⟩=some (.int .i64 y):=by rw[hW];simp[go_sem]
 have R:NoC W (w.heap.size+1+1):=by rw[hW];constructor<;>simp[go_sem]
 have lR:=R.lt
 have HK:=zC (show ∀ w',Below W.heap.size W w'->(w'.cell? ⟨w.heap.size,0,none⟩=some (.int .i64 6)/\w'.cell? ⟨w.heap.size,1,none⟩=some (.int .i64 (P:Int))/\w'.cell? ⟨w.heap.size,2,none⟩=some (.int .i64 q)/\w'.cell? ⟨w.heap.size,3,none⟩=some (.int .i64 r)/\w'.cell? ⟨w.heap.size,4,none⟩=some (.int .i64 s)/\rK0 w' (w.heap.size+1) x y) from λ w' hB=>by
  obtain⟨l0,l1,l2,l3,l4,l5,l6⟩:=L
  exact⟨(hB.cell (p:=⟨w.heap.size,0,none⟩) (by show w.heap.size<_;omega)).trans l0,(hB.cell (p:=⟨w.heap.size,1,none⟩) (by show w.heap.size<_;omega)).trans l1,(hB.cell (p:=⟨w.heap.size,2,none⟩) (by show w.heap.size<_;omega)).trans l2,(hB.cell (p:=⟨w.heap.size,3,none⟩) (by show w.heap.size<_;omega)).trans l3,(hB.cell (p:=⟨w.heap.size,4,none⟩) (by show w.heap.size<_;omega)).trans l4,(hB.cell (p:=⟨w.heap.size+1,0,none⟩) (by show w.heap.size+1<_;omega)).trans l5,(hB.cell (p:=⟨w.heap.size+1,1,none⟩) (by show w.heap.size+1<_;omega)).trans l6⟩)
 have HM:=zC hM;clear hM L
 go_enter Tryz.func91,Tryz.ntmps91
 go_wp2;rw[<- hW];clear hW;obtain⟨l0,l1,l2,l3,l4,l5,l6⟩:=zA HK _ (Below.refl _ _);have A9:Below W.heap.size W W.drew:=(Below.refl _ _).drew;have nA:w.heap.size≠w.heap.size+1+1:=by omega
 have Sh:w.heap.size+1+1≠w.heap.size:=by omega
 go_region_held3 (λ w'=>w'.cell? ⟨w.heap.size,0,none⟩=some (.int .i64 6)/\w'.cell? ⟨w.heap.size,1,none⟩=some (.int .i64 (P:Int))/\w'.cell? ⟨w.heap.size,2,none⟩=some (.int .i64 q)/\w'.cell? ⟨w.heap.size,3,none⟩=some (.int .i64 r)/\w'.cell? ⟨w.heap.size,4,none⟩=some (.int .i64 s)/\rK0 w' (w.heap.size+1) x y) (first|exact zA HK _ (by with_reducible first|exact A9|exact s9|exact p9)|(dsimp only[cK,cK0,nK,nK0,rK,rK0];go_keep)|go_keep)
  (first
   | (go_at_call 136;refine (zQ1 6 q r s (x/y) P M b _ (zA HM) S8.1 S8.2 hp hr hs hs1 X6 hb).mono ?_;rintro r' w2 ⟨u,rfl,B8,B7,j8⟩;have s9:=zB p9 j8;obtain⟨q0,q1,q2,q3,q4,q5⟩:=R.bw s9;have G8:=zC B8;clear B8;obtain⟨e0,e1,e2,e3,e4,e5,e6⟩:=zA HK _ s9)
   | (go_at_call 137;refine (zM3 x y _ K6).mono ?_;rintro r' w1 ⟨rfl,b9⟩;have p9:=zB A9 b9))
 all_goals
  go_wp2_with fail;refine bodyPost_ret (v:=.agg u.q) (by simp[results,Tryz.results91,go_sem,q0,q1,q2,q3,q4]) rfl ⟨u,rfl,zA G8,?_,?_⟩
  ·exact SpAt.put5 B7 q0 q1 q2 q3 q4 _ _ _ _ _
  ·exact jY (zB j7 s9) (by omega) _ _ _ _ _
open Ex
def BlA (x:Nat->Rat) (w:World) (b:Nat) (z:Ending) (w':World):Prop:=∃ lo hi,LwPr x b lo hi/\zH w b 30000 lo hi z w'
theorem zFL (w:World) (b:Nat) (hb:b<=2000):Calls Tryz.prog 100 #[.int .i64 b] w (BlA (λ _=>0) w b) :=
 (zNM w b hb).mono λ z w' ⟨u,e1,e2,e3,e4⟩=>⟨_,_,(of_lw b (Int.le_refl 0) (by decide) (by decide)).congr (null_zero.of_eq λ M=>by
  have e:((0:Int):Rat)/((1:Int):Rat)=0:=by decide +kernel
  rw[e];grind),u,e1,e2,e3.mono (by omega),e4⟩
theorem one_bl (w:World) (b:Nat) (hb:b<=400):Calls Tryz.prog 93 #[.int .i64 b] w (BlA (λ _=>1) w b) :=
 (zDD w b (by omega)).mono λ z w' ⟨u,e1,e2,e3,e4⟩=>⟨_,_,(of_lw b (show (0:Int)<=1 by decide) (show (0:Int)<1 by decide) (Int.le_refl 1)).congr (null_zero.of_eq λ M=>by
  have e:((1:Int):Rat)/((1:Int):Rat)=1:=by decide +kernel
  rw[e];grind),u,e1,e2,e3.mono (by omega),e4⟩
theorem lwait_no (w:World) (k p q r s n d:Int) (b:Nat) (hb:b<=2000) (hn:n<=0) :
  Calls Tryz.prog 132 #[.agg #[.int .i64 k,.int .i64 p,.int .i64 q,.int .i64 r,.int .i64 s],.agg #[.int .i64 n,.int .i64 d],.int .i64 b] w (BlA (λ _=>0) w b):=by
 go_enter Tryz.func132,Tryz.ntmps132
 go_wp2_with fail;refine (zFL _ b hb).mono ?_;rintro zz w1 ⟨lo,hi,I3,u,rfl,B8,B7,b9⟩;have R:NoC w1 (w.heap.size+1+1):=NoC.bw ⟨by simp[go_sem],by simp[go_sem],by simp[go_sem],by simp[go_sem],by simp[go_sem],λ o=>by simp[go_sem]⟩ b9
 have hB:Below w.heap.size w w1:=zB (bl3 _ _ _ _ ) b9;obtain⟨q0,q1,q2,q3,q4,q5⟩:=R;have G8:=zC B8;clear B8 b9;go_wp2_with fail;refine bodyPost_ret (v:=.agg u.q) (by simp[results,Tryz.results132,go_sem,q0,q1,q2,q3,q4]) rfl ⟨lo,hi,I3,u,rfl,zA G8,?_,?_⟩
 ·exact SpAt.put5 (B7) q0 q1 q2 q3 q4 _ _ _ _ _
 ·exact jY hB (by omega) _ _ _ _ _
theorem zR8 (w:World) (k p q r s n d:Int) (b:Nat) (hb:b<=2000) (hn:n<=0) :
  Calls Tryz.prog 133 #[.agg #[.int .i64 k,.int .i64 p,.int .i64 q,.int .i64 r,.int .i64 s],.agg #[.int .i64 n,.int .i64 d],.int .i64 b] w (BlA (λ _=>0) w b):=by
 go_enter Tryz.func133,Tryz.ntmps133
 go_wp2_with fail;refine (zFL _ b hb).mono ?_;rintro zz w1 ⟨lo,hi,I3,u,rfl,B8,B7,b9⟩;have R:NoC w1 (w.heap.size+1+1):=NoC.bw ⟨by simp[go_sem],by simp[go_sem],by simp[go_sem],by simp[go_sem],by simp[go_sem],λ o=>by simp[go_sem]⟩ b9
 have hB:Below w.heap.size w w1:=zB (bl3 _ _ _ _ ) b9;obtain⟨q0,q1,q2,q3,q4,q5⟩:=R;have G8:=zC B8;clear B8 b9;go_wp2_with fail;refine bodyPost_ret (v:=.agg u.q) (by simp[results,Tryz.results133,go_sem,q0,q1,q2,q3,q4]) rfl ⟨lo,hi,I3,u,rfl,zA G8,?_,?_⟩
 ·exact SpAt.put5 (B7) q0 q1 q2 q3 q4 _ _ _ _ _
 ·exact jY hB (by omega) _ _ _ _ _
theorem lbeta_no (w:World) (k p q r s n d:Int) (b:Nat) (hb:b<=2000) (hn:n<=0) :
  Calls Tryz.prog 134 #[.agg #[.int .i64 k,.int .i64 p,.int .i64 q,.int .i64 r,.int .i64 s],.agg #[.int .i64 n,.int .i64 d],.int .i64 b] w (BlA (λ _=>0) w b):=by
 go_enter Tryz.func134,Tryz.ntmps134
 go_wp2_with fail;refine (zFL _ b hb).mono ?_;rintro zz w1 ⟨lo,hi,I3,u,rfl,B8,B7,b9⟩;have R:NoC w1 (w.heap.size+1+1):=NoC.bw ⟨by simp[go_sem],by simp[go_sem],by simp[go_sem],by simp[go_sem],by simp[go_sem],λ o=>by simp[go_sem]⟩ b9
 have hB:Below w.heap.size w w1:=zB (bl3 _ _ _ _ ) b9;obtain⟨q0,q1,q2,q3,q4,q5⟩:=R;have G8:=zC B8;clear B8 b9;go_wp2_with fail;refine bodyPost_ret (v:=.agg u.q) (by simp[results,Tryz.results134,go_sem,q0,q1,q2,q3,q4]) rfl ⟨lo,hi,I3,u,rfl,zA G8,?_,?_⟩
 ·exact SpAt.put5 (B7) q0 q1 q2 q3 q4 _ _ _ _ _
 ·exact jY hB (by omega) _ _ _ _ _
theorem zRZ (w:World) (k p q r s n d:Int) (b:Nat) (hb:b<=400) (hn:¬ n<=0) (fQ:n ≥ d) :
  Calls Tryz.prog 134 #[.agg #[.int .i64 k,.int .i64 p,.int .i64 q,.int .i64 r,.int .i64 s],.agg #[.int .i64 n,.int .i64 d],.int .i64 b] w (BlA (λ _=>1) w b):=by
 go_enter Tryz.func134,Tryz.ntmps134
 go_wp2_with fail;refine (one_bl _ b hb).mono ?_;rintro zz w1 ⟨lo,hi,I3,u,rfl,B8,B7,b9⟩;have R:NoC w1 (w.heap.size+1+1):=NoC.bw ⟨by simp[go_sem],by simp[go_sem],by simp[go_sem],by simp[go_sem],by simp[go_sem],λ o=>by simp[go_sem]⟩ b9
 have hB:Below w.heap.size w w1:=zB (bl3 _ _ _ _ ) b9;obtain⟨q0,q1,q2,q3,q4,q5⟩:=R;have G8:=zC B8;clear B8 b9;go_wp2_with fail;refine bodyPost_ret (v:=.agg u.q) (by simp[results,Tryz.results134,go_sem,q0,q1,q2,q3,q4]) rfl ⟨lo,hi,I3,u,rfl,zA G8,?_,?_⟩
 ·exact SpAt.put5 (B7) q0 q1 q2 q3 q4 _ _ _ _ _
 ·exact jY hB (by omega) _ _ _ _ _
theorem lwait_iv (w:World) (k p q r s n d:Int) (b:Nat) (E6:40<=b) (hb:b<=400) (hn:0<n) (S6:rok p q) (O9:rok n d) (hp:0<p) (I2:p<=100*q) :
  Calls Tryz.prog 132 #[.agg #[.int .i64 k,.int .i64 p,.int .i64 q,.int .i64 r,.int .i64 s],.agg #[.int .i64 n,.int .i64 d],.int .i64 b] w (BlA (λ M=>1-Ev (λ _=>((-p*n:Int):Rat)/((q*d:Int):Rat)) M) w b):=by
 obtain⟨a1,a2,a3,a4⟩:=S6;obtain⟨c1,c2,c3,c4⟩:=O9;have pn:=Int.mul_pos hp hn;have pn2:=Int.mul_le_mul a2 c2 (by omega) (by omega)
 have qd:=Int.mul_pos (show 0<q by omega) (show 0<d by omega)
 have qd2:=Int.mul_le_mul a4 c4 (by omega) (by omega)
 have e1 : -p*n = -(p*n):=Int.neg_mul _ _
 have wi:WaIn (p*n) (q*d):=⟨pn,qd,by omega,by
  have m1:=Int.mul_le_mul I2 c2 (by omega) (by omega)
  have m2:=YD (show 1<=d by omega) (show 0<=q by omega)
  omega⟩
 obtain⟨l,t,N,g1,g2,g3,g4,g5⟩:=wa_set wi E6;obtain⟨f1,f2⟩:=wa_ok wi E6 hb g3 g1 g2 g4 g5;have HF:=zC f2;have HW:=zC (show IntKind.i64.wrap (-p) = -p from jB _ (by omega) (by omega))
 have P5:=zC (show IntKind.i64.wrap (-p*n) = -(p*n) by rw[e1];exact jB _ (by omega) (by omega))
 have Y7:=zC (show IntKind.i64.wrap (q*d)=q*d from jB _ (by omega) (by omega))
 have HQ:=zC (show (-9223372036854775808 <= -(p*n) /\ -(p*n)<=9223372036854775807) /\ -9223372036854775808<=q*d/\q*d<=9223372036854775807/\0<q*d from⟨⟨by omega,by omega⟩,by omega,by omega,qd⟩)
 have HP:=zC (And.intro g1 (And.intro g2 (And.intro g4 g5)))
 have HB:=zC (show Q (b+2)<P 60/\∀ i,i<=t -> -P 60<(sqI b (zN (zV b (zG (ofI (-(p*n)) (q*d) b) t)) N) i).1/\(sqI b (zN (zV b (zG (ofI (-(p*n)) (q*d) b) t)) N) i).2<P 60 by
  have h1:=zJ (show b+3<=16*60 by omega)
  rw[Q_P] at h1;have h2:Q (b+3)=2*Q (b+2):=rfl;have h3:Q (b+2)=2*(2*Q b):=rfl;have:=zE b
  exact⟨by omega,λ i _=>by have:=f1 i;omega⟩)
 have hle:=yA (n := -(p*n)) qd b;have ee:(λ M=>1-Ev (λ _=>((-p*n:Int):Rat)/((q*d:Int):Rat)) M)=λ M=>1-Ev (λ _=>((-(p*n):Int):Rat)/((q*d:Int):Rat)) M:=by rw[e1]
 rw[ee];have qe:¬ n<=0:=by omega
 clear f1 f2 g1 g2 g4 g5 wi pn pn2 qd qd2 e1 ee a1 a2 a3 a4 c1 c2 c3 c4 hp I2;obtain⟨W,hW⟩:∃ W,W=((w.alloc (.cells #[.int .i64 k,.int .i64 p,.int .i64 q,.int .i64 r,.int .i64 s] 25)).alloc (.cells #[.int .i64 n,.int .i64 d] 23)).alloc (.cells zCq 31):=⟨_,rfl⟩;have j7:Below w.heap.size w W:=by rw[hW];exact bl3 _ _ _ _
 have A:LwC W w.heap.size k p q r s:=by rw[hW];constructor<;>simp[go_sem]
 have D:RaC W (w.heap.size+1) n d:=by rw[hW];constructor<;>simp[go_sem]
 have R:NoC W (w.heap.size+1+1):=by rw[hW];constructor<;>simp[go_sem]
 have lR:=R.lt;have lA:=A.lt;have lD:=D.lt;have HK:=zC (show ∀ w',Below W.heap.size W w'->(rK w' w.heap.size k p (w'.cell? ⟨w.heap.size,2,none⟩=some (.int .i64 q)/\w'.cell? ⟨w.heap.size,3,none⟩=some (.int .i64 r)/\w'.cell? ⟨w.heap.size,4,none⟩=some (.int .i64 s)/\rK0 w' (w.heap.size+1) n d)) from λ w' hB=>⟨(A.bw hB).c0,(A.bw hB).c1,(A.bw hB).c2,(A.bw hB).c3,(A.bw hB).c4,(D.bw hB).c0,(D.bw hB).c1⟩)
 clear A D
 go_enter Tryz.func132,Tryz.ntmps132
 go_wp2;rw[<- hW];clear hW;have C8:Below W.heap.size W W.drew:=(Below.refl _ _).drew;have n1:w.heap.size+1+1≠w.heap.size:=by omega
 have n2:w.heap.size+1+1≠w.heap.size+1:=by omega
 obtain⟨x0,x1,x2,x3,x4,x5,x6⟩:=zA HK _ (Below.refl _ _)
 go_region_held3 (λ w'=>rK w' w.heap.size k p (w'.cell? ⟨w.heap.size,2,none⟩=some (.int .i64 q)/\w'.cell? ⟨w.heap.size,3,none⟩=some (.int .i64 r)/\w'.cell? ⟨w.heap.size,4,none⟩=some (.int .i64 s)/\rK0 w' (w.heap.size+1) n d)) (first|exact zA HK _ (by with_reducible first|exact C8|exact J2|exact G0|exact A8|exact o9|exact A6)|(dsimp only[cK,cK0,nK,nK0,rK,rK0];go_keep)|go_keep)
  (first
   | (go_at_call 48;have K4:=G0;refine (zEW _ v4 60 b _ qh (zA EN) (by omega) (by omega) (by omega)).mono ?_;rintro zz w5 ⟨u,rfl,B8,B7,D6⟩;have J2:=zB G0 D6;have G8:=zC B8;clear B8;obtain⟨q0,q1,q2,q3,q4,q5⟩:=R.bw J2;obtain⟨i0,i1,i2,i3,i4,i5,i6⟩:=zA HK _ J2)
   | (go_at_call 77;have K4:=A8;refine (zGP _ v3 60 b t N (ofI (-(p*n)) (q*d) b) l (aT.mono (by omega)) (zA hO) hle (by omega) (by omega) (zA HP).1 (zA HP).2.1 (by omega) (zA HP).2.2.1 (zA HP).2.2.2 (zA HB).1 (zA HB).2 (by omega)).mono ?_;rintro zz w4 ⟨v4,rfl,aG,qh,y9⟩;have G0:=zB A8 y9;have EN:=zC aG;clear aG)
   | (go_at_call 88;have K4:=o9;refine (jP _ _ _ _ _ _ _ _ 4 4 b (-(p*n)) (q*d) _ (o8.bw j8) A5 (by omega) (by omega) (zA HQ).2.2.2).mono ?_;rintro zz w3 ⟨v3,rfl,G3,aT,m9⟩;have A8:=zB o9 m9;have hO:=zC G3;clear G3)
   | (go_at_call 33;have K4:=A6;(try rw[zA Y7]);refine (zD (q*d) _ (zA HQ).2.1 (zA HQ).2.2.1).mono ?_;rintro zz w2 ⟨j6,a2,m2,c2,rfl,A5,j8⟩;have o9:=zB A6 j8)
   | (go_at_call 33;(first|rw[zA HW,zA P5]|rw[zA P5]);refine (zD (-(p*n)) _ (zA HQ).1.1 (zA HQ).1.2).mono ?_;rintro zz w1 ⟨m7,a1,m1,c1,rfl,o8,b9⟩;have A6:=zB C8 b9))
 all_goals
  go_wp2;refine bodyPost_ret (v:=.agg u.q) (by simp[results,Tryz.results132,go_sem,q0,q1,q2,q3,q4]) rfl ⟨_,_,zA HF,u,rfl,zA G8,?_,?_⟩
  ·exact SpAt.put5 (B7.mono (by omega)) q0 q1 q2 q3 q4 _ _ _ _ _
  ·exact jY (zB j7 J2) (by omega) _ _ _ _ _
theorem zR7 (L G:Rat->Nat->Rat) (X:Int->Int->Nat->Rat) (hE:zK5 L G X) (w:World) (k p q r s n d:Int) (b:Nat) (E6:40<=b) (hb:b<=400) (hn:0<n) (S6:rok p q) (O9:rok n d) (qg:rok r s) (hp:0<p) (I2:p<=100*q) (hr:0<r) :
  Calls Tryz.prog 133 #[.agg #[.int .i64 k,.int .i64 p,.int .i64 q,.int .i64 r,.int .i64 s],.agg #[.int .i64 n,.int .i64 d],.int .i64 b] w (BlA (lwX L p q (r*n) (s*d) (gmV p q (G (gA p q)))) w b):=by
 obtain⟨a1,a2,a3,a4⟩:=S6;obtain⟨c1,c2,c3,c4⟩:=O9;obtain⟨d1,d2,d3,d4⟩:=qg;have rn:=Int.mul_pos hr hn;have rn2:=Int.mul_le_mul d2 c2 (by omega) (by omega)
 have sd:=Int.mul_pos (show 0<s by omega) (show 0<d by omega)
 have sd2:=Int.mul_le_mul d4 c4 (by omega) (by omega)
 have AR:=zC (show LwAr p q (r*n) (s*d) b from⟨hp,by omega,I2,by omega,by omega,sd,by omega,by omega,E6,hb⟩)
 have Vi:=zC rn;have P5:=zC (show IntKind.i64.wrap (r*n)=r*n from jB _ (by omega) (by omega))
 have Y7:=zC (show IntKind.i64.wrap (s*d)=s*d from jB _ (by omega) (by omega))
 have HQ:=zC (show (-9223372036854775808<=r*n/\r*n<=9223372036854775807) /\ -9223372036854775808<=s*d/\s*d<=9223372036854775807 from⟨⟨by omega,by omega⟩,by omega,by omega⟩)
 have qe:¬ n<=0:=by omega
 clear rn rn2 sd sd2 a1 a2 a3 a4 c1 c2 c3 c4 d1 d2 d3 d4 hp I2 hr;obtain⟨W,hW⟩:∃ W,W=((w.alloc (.cells #[.int .i64 k,.int .i64 p,.int .i64 q,.int .i64 r,.int .i64 s] 25)).alloc (.cells #[.int .i64 n,.int .i64 d] 23)).alloc (.cells zCq 31):=⟨_,rfl⟩;have j7:Below w.heap.size w W:=by rw[hW];exact bl3 _ _ _ _
 have A:LwC W w.heap.size k p q r s:=by rw[hW];constructor<;>simp[go_sem]
 have D:RaC W (w.heap.size+1) n d:=by rw[hW];constructor<;>simp[go_sem]
 have R:NoC W (w.heap.size+1+1):=by rw[hW];constructor<;>simp[go_sem]
 have lR:=R.lt;have lA:=A.lt;have lD:=D.lt;have HK:=zC (show ∀ w',Below W.heap.size W w'->(rK w' w.heap.size k p (w'.cell? ⟨w.heap.size,2,none⟩=some (.int .i64 q)/\w'.cell? ⟨w.heap.size,3,none⟩=some (.int .i64 r)/\w'.cell? ⟨w.heap.size,4,none⟩=some (.int .i64 s)/\rK0 w' (w.heap.size+1) n d)) from λ w' hB=>⟨(A.bw hB).c0,(A.bw hB).c1,(A.bw hB).c2,(A.bw hB).c3,(A.bw hB).c4,(D.bw hB).c0,(D.bw hB).c1⟩)
 clear A D
 go_enter Tryz.func133,Tryz.ntmps133
 go_wp2;rw[<- hW];clear hW;have C8:Below W.heap.size W W.drew:=(Below.refl _ _).drew;have n1:w.heap.size+1+1≠w.heap.size:=by omega
 have n2:w.heap.size+1+1≠w.heap.size+1:=by omega
 obtain⟨x0,x1,x2,x3,x4,x5,x6⟩:=zA HK _ (Below.refl _ _)
 go_region_held3 (λ w'=>rK w' w.heap.size k p (w'.cell? ⟨w.heap.size,2,none⟩=some (.int .i64 q)/\w'.cell? ⟨w.heap.size,3,none⟩=some (.int .i64 r)/\w'.cell? ⟨w.heap.size,4,none⟩=some (.int .i64 s)/\rK0 w' (w.heap.size+1) n d)) (first|exact zA HK _ (by with_reducible first|exact C8|exact A8|exact o9|exact A6)|(dsimp only[cK,cK0,nK,nK0,rK,rK0];go_keep)|go_keep)
  (first
   | (go_at_call 159;have K4:=o9;refine (lower_ps L G X hE _ ⟨m7,a1,m1,c1⟩ ⟨j6,a2,m2,c2⟩ p q (r*n) (s*d) b (o8.bw j8) A5 (zA AR) (zA Vi)).mono ?_;rintro zz w3 ⟨lo,hi,I3,u,rfl,B8,B7,m9⟩;have A8:=zB o9 m9;have G8:=zC B8;have M9:=zC I3;clear B8 I3;obtain⟨q0,q1,q2,q3,q4,q5⟩:=R.bw A8;obtain⟨i0,i1,i2,i3,i4,i5,i6⟩:=zA HK _ A8)
   | (go_at_call 33;have K4:=A6;(try rw[zA Y7]);refine (zD (s*d) _ (zA HQ).2.1 (zA HQ).2.2).mono ?_;rintro zz w2 ⟨j6,a2,m2,c2,rfl,A5,j8⟩;have o9:=zB A6 j8)
   | (go_at_call 33;(try rw[zA P5]);refine (zD (r*n) _ (zA HQ).1.1 (zA HQ).1.2).mono ?_;rintro zz w1 ⟨m7,a1,m1,c1,rfl,o8,b9⟩;have A6:=zB C8 b9))
 all_goals
  go_wp2;refine bodyPost_ret (v:=.agg u.q) (by simp[results,Tryz.results133,go_sem,q0,q1,q2,q3,q4]) rfl ⟨lo,hi,zA M9,u,rfl,zA G8,?_,?_⟩
  ·exact SpAt.put5 (B7.mono (by omega)) q0 q1 q2 q3 q4 _ _ _ _ _
  ·exact jY (zB j7 A8) (by omega) _ _ _ _ _
theorem lbeta_iv (L G:Rat->Nat->Rat) (X:Int->Int->Nat->Rat) (hE:zK5 L G X) (w:World) (k p q r s n d:Int) (b:Nat) (E6:40<=b) (hb:b<=400) (hn:0<n) (fQ:n<d) (S6:rok p q) (O9:rok n d) (qg:rok r s) (hp:0<p) (I2:p<=100*q) (hr:0<r) (hs:r<=100*s) :
  Calls Tryz.prog 134 #[.agg #[.int .i64 k,.int .i64 p,.int .i64 q,.int .i64 r,.int .i64 s],.agg #[.int .i64 n,.int .i64 d],.int .i64 b] w (BlA (bvX L p q r s n d) w b):=by
 obtain⟨a1,a2,a3,a4⟩:=S6;obtain⟨c1,c2,c3,c4⟩:=O9;obtain⟨d1,d2,d3,d4⟩:=qg;have AR:=zC (show BpAr p q r s n d b from⟨hp,by omega,I2,by omega,hr,by omega,hs,by omega,by omega,by omega,by omega,by omega,E6,hb⟩)
 have qe:¬ n<=0:=by omega
 have hnd':¬ n ≥ d:=by omega
 have hnd2:¬ d<=n:=by omega
 clear a1 a2 a3 a4 d1 d2 d3 d4 hp I2 hr hs;obtain⟨W,hW⟩:∃ W,W=((w.alloc (.cells #[.int .i64 k,.int .i64 p,.int .i64 q,.int .i64 r,.int .i64 s] 25)).alloc (.cells #[.int .i64 n,.int .i64 d] 23)).alloc (.cells zCq 31):=⟨_,rfl⟩;have j7:Below w.heap.size w W:=by rw[hW];exact bl3 _ _ _ _
 have A:LwC W w.heap.size k p q r s:=by rw[hW];constructor<;>simp[go_sem]
 have D:RaC W (w.heap.size+1) n d:=by rw[hW];constructor<;>simp[go_sem]
 have R:NoC W (w.heap.size+1+1):=by rw[hW];constructor<;>simp[go_sem]
 have lR:=R.lt;have lA:=A.lt;have lD:=D.lt;have HK:=zC (show ∀ w',Below W.heap.size W w'->(rK w' w.heap.size k p (w'.cell? ⟨w.heap.size,2,none⟩=some (.int .i64 q)/\w'.cell? ⟨w.heap.size,3,none⟩=some (.int .i64 r)/\w'.cell? ⟨w.heap.size,4,none⟩=some (.int .i64 s)/\rK0 w' (w.heap.size+1) n d)) from λ w' hB=>⟨(A.bw hB).c0,(A.bw hB).c1,(A.bw hB).c2,(A.bw hB).c3,(A.bw hB).c4,(D.bw hB).c0,(D.bw hB).c1⟩)
 clear A D
 go_enter Tryz.func134,Tryz.ntmps134
 go_wp2;rw[<- hW];clear hW;have C8:Below W.heap.size W W.drew:=(Below.refl _ _).drew;have n1:w.heap.size+1+1≠w.heap.size:=by omega
 have n2:w.heap.size+1+1≠w.heap.size+1:=by omega
 obtain⟨x0,x1,x2,x3,x4,x5,x6⟩:=zA HK _ (Below.refl _ _)
 go_region_held3 (λ w'=>rK w' w.heap.size k p (w'.cell? ⟨w.heap.size,2,none⟩=some (.int .i64 q)/\w'.cell? ⟨w.heap.size,3,none⟩=some (.int .i64 r)/\w'.cell? ⟨w.heap.size,4,none⟩=some (.int .i64 s)/\rK0 w' (w.heap.size+1) n d)) (first|exact zA HK _ (by with_reducible first|exact C8|exact A8|exact o9|exact A6)|(dsimp only[cK,cK0,nK,nK0,rK,rK0];go_keep)|go_keep)
  (first
   | (go_at_call 160;have K4:=o9;refine (zNS L G X hE _ ⟨m7,a1,m1,e1⟩ ⟨j6,a2,m2,e2⟩ p q r s n d b (o8.bw j8) A5 (zA AR) hn fQ).mono ?_;rintro zz w3 ⟨lo,hi,I3,u,rfl,B8,B7,m9⟩;have A8:=zB o9 m9;have G8:=zC B8;have M9:=zC I3.pr;clear B8 I3;obtain⟨q0,q1,q2,q3,q4,q5⟩:=R.bw A8;obtain⟨i0,i1,i2,i3,i4,i5,i6⟩:=zA HK _ A8)
   | (go_at_call 33;have K4:=A6;refine (zD d _ (by omega) (by omega)).mono ?_;rintro zz w2 ⟨j6,a2,m2,e2,rfl,A5,j8⟩;have o9:=zB A6 j8)
   | (go_at_call 33;refine (zD n _ (by omega) (by omega)).mono ?_;rintro zz w1 ⟨m7,a1,m1,e1,rfl,o8,b9⟩;have A6:=zB C8 b9))
 all_goals
  go_wp2;refine bodyPost_ret (v:=.agg u.q) (by simp[results,Tryz.results134,go_sem,q0,q1,q2,q3,q4]) rfl ⟨lo,hi,zA M9,u,rfl,zA G8,?_,?_⟩
  ·exact SpAt.put5 (B7.mono (by omega)) q0 q1 q2 q3 q4 _ _ _ _ _
  ·exact jY (zB j7 A8) (by omega) _ _ _ _ _
theorem ra1_off (w:World) (B0 B1 B2:Nat) (s:Sp) (last p q:Int) (k b:Nat) (j:Int) (a:Int × Int) (hs:SpAt w s k a.1 a.2) (X:IcC w B0 last) (D:IcC w B1 (b:Int)) (Z:RaC w B2 p q) (hj:last<j) :
  Calls Tryz.prog 189 #[.agg s.q,.int .i64 j,.pointer (some ⟨B0,0,none⟩),.pointer (some ⟨B1,0,none⟩),.pointer (some ⟨B2,0,none⟩)] w (zH w b (k+4+10) 0 0):=by
 have l0:=X.lt;have l1:=D.lt;have o0:=X.c0;have o1:=D.c0;have DV:B0≠w.heap.size:=by omega
 have Gb:B1≠w.heap.size:=by omega
 clear hs Z X D
 go_enter Tryz.func189,Tryz.ntmps189
 go_wp2_with fail;refine bodyPost_ret (v:=.agg #[.bool false,.slice none 0 0,.bool false,.slice none 0 0,.int .i64 (b:Int)]) (by simp[results,Tryz.results189,go_sem]) rfl ⟨⟨false,none,0,0,false,none,0,0,(b:Int)⟩,rfl,rfl,⟨zD3 _ _,zD3 _ _⟩,?_⟩
 first|exact bl2 _ _ _|exact jY (bl2 _ _ _) (by omega) _ _ _ _ _
theorem ra1_iv (w:World) (B0 B1 B2:Nat) (s:Sp) (last p q:Int) (k b:Nat) (j:Int) (a:Int × Int) (hs:SpAt w s k a.1 a.2) (X:IcC w B0 last) (D:IcC w B1 (b:Int)) (Z:RaC w B2 p q) (hk:k<=100000000) (hb:s.bits=(b:Int)) (hj:¬ last<j) (CV:0<j) (CZ:j<=1000000000) (hr:rok p q) :
  Calls Tryz.prog 189 #[.agg s.q,.int .i64 j,.pointer (some ⟨B0,0,none⟩),.pointer (some ⟨B1,0,none⟩),.pointer (some ⟨B2,0,none⟩)] w (zH w b (k+4+10) (zK a p (q*j)).1 (zK a p (q*j)).2):=by
 obtain⟨a1,a2,a3,a4⟩:=hr;have qj:=Int.mul_pos (show 0<q by omega) CV
 have qj2:=Int.mul_le_mul a4 CZ (by omega) (by omega)
 have HE:=zC (show IntKind.i64.wrap (q*j)=q*j from jB _ (by omega) (by omega))
 have HQ:=zC (show -9223372036854775808<=q*j/\q*j<=9223372036854775807/\0<q*j from⟨by omega,by omega,qj⟩)
 obtain⟨W,hW⟩:∃ W,W=(w.alloc (.cells s.q 31)).alloc (.cells zCq 31):=⟨_,rfl⟩;have j7:Below w.heap.size w W:=by rw[hW];exact bl2 _ _ _
 have A:SpC W w.heap.size s:=by rw[hW];constructor<;>simp[go_sem]
 have R:NoC W (w.heap.size+1):=by rw[hW];constructor<;>simp[go_sem]
 have l0:=X.lt;have l1:=D.lt;have l2:=Z.lt;have o0:=X.c0;have o1:=D.c0;have o2:=Z.c0;have o3:=Z.c1;replace X:=X.bw j7;replace D:=D.bw j7;replace Z:=Z.bw j7;have lR:=R.lt;have lA:=A.lt;have HS:=zC (hs.bw j7);have HB:=zC hb;have C8:Below W.heap.size W W.drew:=(Below.refl _ _).drew;have HK:=zC (show ∀ w',Below W.heap.size W w'->(cK w' w.heap.size s (w'.cell? ⟨B0,0,none⟩=some (.int .i64 last)/\w'.cell? ⟨B1,0,none⟩=some (.int .i64 (b:Int))/\rK0 w' B2 p q)) from λ w' hB=>⟨(A.bw hB).c0,(A.bw hB).c1,(A.bw hB).c2,(A.bw hB).c3,(A.bw hB).c4,(X.bw hB).c0,(D.bw hB).c0,(Z.bw hB).c0,(Z.bw hB).c1⟩)
 clear X D Z A hs hb qj qj2
 go_enter Tryz.func189,Tryz.ntmps189
 go_wp2;rw[<- hW];clear hW o0 o1 o2 o3;have DV:w.heap.size+1≠B0:=by omega
 have Gb:w.heap.size+1≠B1:=by omega
 have Si:w.heap.size+1≠B2:=by omega
 obtain⟨x0,x1,x2,x3,x4,x5,x6,x7,x8⟩:=zA HK _ (Below.refl _ _)
 go_region_held3 (λ w'=>cK w' w.heap.size s (w'.cell? ⟨B0,0,none⟩=some (.int .i64 last)/\w'.cell? ⟨B1,0,none⟩=some (.int .i64 (b:Int))/\rK0 w' B2 p q)) (first|exact zA HK _ (by with_reducible first|exact C8|exact A8|exact o9|exact A6)|(dsimp only[cK,cK0,nK,nK0,rK,rK0];go_keep)|go_keep)
  (first
   | (go_at_call 151;have K4:=o9;refine (zA9 _ s ⟨m7,e1,m1,c1⟩ ⟨j6,e2,m2,c2⟩ k 4 _ b a p (q*j) ((zA HS).bw o9) (o8.bw j8) A5 (by omega) (by omega) (zA HQ).2.2 (zA HB)).mono ?_;rintro zz w3 ⟨u,rfl,B8,B7,m9⟩;have A8:=zB o9 m9;have G8:=zC B8;clear B8;obtain⟨q0,q1,q2,q3,q4,q5⟩:=R.bw A8;obtain⟨i0,i1,i2,i3,i4,i5,i6,i7,i8⟩:=zA HK _ A8)
   | (go_at_call 33;have K4:=A6;(try rw[zA HE]);refine (zD (q*j) _ (zA HQ).1 (zA HQ).2.1).mono ?_;rintro zz w2 ⟨j6,e2,m2,c2,rfl,A5,j8⟩;have o9:=zB A6 j8)
   | (go_at_call 33;refine (zD p _ (by omega) (by omega)).mono ?_;rintro zz w1 ⟨m7,e1,m1,c1,rfl,o8,b9⟩;have A6:=zB C8 b9))
 all_goals
  go_wp2;refine bodyPost_ret (v:=.agg u.q) (by simp[results,Tryz.results189,go_sem,q0,q1,q2,q3,q4]) rfl ⟨u,rfl,zA G8,?_,?_⟩
  ·exact SpAt.put5 (B7) q0 q1 q2 q3 q4 _ _ _ _ _
  ·exact jY (zB j7 A8) (by omega) _ _ _ _ _
theorem en_ra (args:Array Value) (w:World):(callFunc 189 args).run Tryz.prog w=.ok (.enter 189 args) w:=by simp[go_sem,callFunc,Tryz.func189];kernel_rfl
theorem rareW_iv (w:World) (p q last n d:Int) (b:Nat) (hr:rok p q) (hp:0<p) (I2:p<=100*q) (hl:0<=last) (Y2:last<=1000000000) (fQ:n/d=last) (E6:40<=b) (hb:b<=400) :
  Calls Tryz.prog 161 #[.agg #[.int .i64 p,.int .i64 q],.int .i64 last,.int .i64 b] w (BlA (raX p q n d) w b):=by
 obtain⟨a1,a2,a3,a4⟩:=hr;have fp:0<q:=by omega
 obtain⟨NS,nt,Z1⟩:=ra_set (last:=last) hp fp I2 E6 hb;obtain⟨l,t,N,e1,e2,e3,e4,e5⟩:=zD0 (B:=b) (e:=7) (by omega) (yA fp b) (zIS (p:=p) (q:=q) (n:=100) (b:=b) (e:=7) fp (by omega) (by omega) (by decide))
 obtain⟨g1,g2,g3,g4,g5⟩:=ra_lw hp fp I2 hl fQ E6 hb (show t<=15 by omega) e4 e5 nt Z1
 obtain⟨tn1,SD⟩:=zL0 hp fp I2
 have PK:∀ j:Nat,j<=1900->Q j<P 130:=λ j hj=>by
  rw[<- Q_P];have h1:=zJ (show j+1<=16*130 by omega)
  have h2:Q (j+1)=2*Q j:=rfl;have:=zE j;omega
 have pg:=zC (show -P 130<Q b/\Q b<P 130 by
  have:=PK b (by omega)
  have:=zE b
  exact⟨by omega,by omega⟩)
 have so:=zPG (last:=last) hp fp b
 have bc:=zC (show ∀ j,j<=NS -> -P 130<(raT p q last b j).1/\(raT p q last b j).2<P 130 from λ j _=>by
  have e:=yZ so j;have u:=(zNW (last:=last) hp fp I2 E6 hb 0 (by omega))
  have v:=(zNW (last:=last) hp fp I2 E6 hb (min j 1000000) (by omega)).2
  have k:=PK 1900 (by omega)
  have:=zE 1900;have w2:(raT p q last b j).2<=Q 1900:=(zNW (last:=last) hp fp I2 E6 hb j (by omega)).2
  have l0:0<=(raT p q last b j).1:=e.1
  exact⟨by omega,by omega⟩)
 have fI:=zC (show ∀ j,j<=NS -> -P 130<(jE (raT p q last b) j).1/\(jE (raT p q last b) j).2<P 130 from λ j hj=>by
  have u:=(zNW (last:=last) hp fp I2 E6 hb j (by omega)).1
  have l:Q b<=(jE (raT p q last b) j).1:=(zFQ so j).2.2;have:=PK 1900 (by omega)
  have:=zE b;have:=zE 1900
  exact⟨by omega,by omega⟩)
 have fG:=zC (λ j=>show (raT p q last b j).1<=(raT p q last b j).2 from (yZ so j).2)
 have Y8:=zC (λ j=>show 0<=(raT p q last b j).1 from (yZ so j).1)
 have HM:=zC Z1;have P5:=zC (show IntKind.i64.wrap (2*p)=2*p from jB _ (by omega) (by omega))
 have Y7:=zC (show (2*p).tdiv q=(zBQ p q:Int) by rw[SD];exact Int.tdiv_eq_ediv_of_nonneg (by omega))
 have cR:=zC (show IntKind.i64.wrap (zBQ p q:Int)=(zBQ p q:Int) from jB _ (by omega) (by omega))
 have M9:=zC g5;have HP:=zC (And.intro e1 (And.intro e2 (And.intro e4 e5)))
 have rP:=zC (show Q (b+eb t)<P 700 by
  have m:=zJ (show b+eb t<=4000 by (have:=zBW (show t<=15 by omega));(have h:eb 15=384:=(by decide));omega)
  have h1:=zJ (show 4000+1<=16*700 by omega)
  rw[Q_P] at h1;have h2:Q (4000+1)=2*Q 4000:=rfl;have:=zE 4000
  omega)
 have ht:t<=15:=by omega
 have Ya:NS<=5700:=nt;have HG:=zC (And.intro g1 (And.intro g2 (And.intro g3 g4)));clear so PK g1 g2 g3 g4 g5 e1 e2 e4 e5 Z1 SD nt e3;obtain⟨W,hW⟩:∃ W,W=(((w.alloc (.cells #[.int .i64 p,.int .i64 q] 23)).alloc (.cells #[.int .i64 last] 3)).alloc (.cells #[.int .i64 (b:Int)] 3)).alloc (.cells zCq 31):=⟨_,rfl⟩;have j7:Below w.heap.size w W:=by rw[hW];exact bl4 _ _ _ _ _
 have A0:RaC W (w.heap.size) p q:=by rw[hW];constructor<;>simp[go_sem]
 have L0:IcC W (w.heap.size+1) last:=by rw[hW];exact⟨by simp[go_sem]⟩
 have B0:IcC W (w.heap.size+1+1) (b:Int):=by rw[hW];exact⟨by simp[go_sem]⟩
 have R:NoC W (w.heap.size+1+1+1):=by rw[hW];constructor<;>simp[go_sem]
 have lR:=R.lt
 have cg:=zC (show ∀ W',Below W.heap.size W W'->∀ (j:Nat) (u:Sp) w',j<NS->u.bits=(b:Int)->SpAt w' u 130 (raT p q last b j).1 (raT p q last b j).2->Below W'.heap.size W' w'->Calls Tryz.prog 189 #[.agg u.q,.int .i64 ((j:Int)+1),.pointer (some ⟨w.heap.size+1,0,none⟩),.pointer (some ⟨w.heap.size+1+1,0,none⟩),.pointer (some ⟨w.heap.size,0,none⟩)] w' (zH w' b 144 (raT p q last b (j+1)).1 (raT p q last b (j+1)).2) from λ W' tx j u w' hj B8 B7 O7=>by
  have M8:=zB tx O7;have ec:((j+1:Nat):Int)=(j:Int)+1:=by omega
  have e2:raT p q last b (j+1)=zK (raT p q last b j) (raU p last (j+1)) (raD q last (j+1)):=rfl;rw[e2];unfold raU raD;rw[ec]
  by_cases c:last<(j:Int)+1
  ·have e:=ra1_off w' (w.heap.size+1) (w.heap.size+1+1) (w.heap.size) u last p q 130 b ((j:Int)+1) (raT p q last b j) B7 (L0.bw M8) (B0.bw M8) (A0.bw M8) c
   rw[if_pos c,if_pos c];have z:zK (raT p q last b j) 0 1=(0,0):=by unfold zK;simp
   rw[z];exact e
  ·have e:=ra1_iv w' (w.heap.size+1) (w.heap.size+1+1) (w.heap.size) u last p q 130 b ((j:Int)+1) (raT p q last b j) B7 (L0.bw M8) (B0.bw M8) (A0.bw M8) (by omega) B8 c (by omega) (by omega) ⟨a1,a2,a3,a4⟩
   rw[if_neg c,if_neg c,if_neg (by omega)]
   exact e)
 have HK:=zC (show ∀ w',Below W.heap.size W w'->(rK w' w.heap.size p q (w'.cell? ⟨(w.heap.size+1),0,none⟩=some (.int .i64 last)/\w'.cell? ⟨(w.heap.size+1+1),0,none⟩=some (.int .i64 (b:Int)))) from λ w' hB=>⟨(A0.bw hB).c0,(A0.bw hB).c1,(L0.bw hB).c0,(B0.bw hB).c0⟩)
 have aX:¬ q=0:=by omega
 have O2:¬ q = -1:=by omega
 have lA:=A0.lt;have lL:=L0.lt;have lB:=B0.lt;clear L0 B0
 go_enter Tryz.func161,Tryz.ntmps161
 go_wp2;rw[<- hW];clear hW;obtain⟨x0,x1,x2,x3⟩:=zA HK _ (Below.refl _ _)
 go_cut [7] (λ pz wx=>∃ (B:Nat) (u:Sp),pz=.pointer (some ⟨B,0,none⟩)/\W.heap.size<=B/\VrC wx B u/\SpAt wx u 133 (kW (raT p q last b) NS).1 (kW (raT p q last b) NS).2/\u.bits=(b:Int)/\Below W.heap.size W wx)
 case first =>
  go_region_held3 (λ w'=>rK w' w.heap.size p q (w'.cell? ⟨(w.heap.size+1),0,none⟩=some (.int .i64 last)/\w'.cell? ⟨(w.heap.size+1+1),0,none⟩=some (.int .i64 (b:Int)))) (exact zA HK _ (by repeat' (first|with_reducible exact K8|with_reducible exact H6|with_reducible exact Below.refl _ _|with_reducible refine Below.drew ?_|with_reducible refine zL ?_ _|with_reducible refine Below.setCell ?_ (by first|exact YE _|exact M4|exact R7) _)))
   (first
    | (go_at_call 182;(try rw[zA P5]);(try rw[zA Y7]);(try rw[zA cR]);have hq:=H6;refine (zEJ _ #[.pointer (some ⟨w.heap.size+1,0,none⟩),.pointer (some ⟨w.heap.size+1+1,0,none⟩),.pointer (some ⟨w.heap.size,0,none⟩)] en_ra (raT p q last b) (zBQ p q) NS b 130 144 AQ _ ((zA mS).bw (by with_reducible first|exact Below.refl _ _|exact bl1 _ _)) (zA cn) (by omega) (by omega) (by omega) (by omega) (zA HM) (by omega) (by omega) (zA fG) (zA Y8) (zA bc) (zA fI) (zA cg _ (by with_reducible first|exact H6|exact zL H6 _))).mono ?_;rintro r fq ⟨El,rfl,cM,W8,Q5⟩;have iG:=zC cM;clear cM;have W7:Below aM.heap.size aM fq:=(by with_reducible first|exact Q5|exact zB (bl1 _ _) Q5);have K8:=zB H6 W7;(try with_reducible have ct:=(zQ aM 31).bw Q5);(try replace T9:=T9.bw W7);have R7:=K8.size;(try have iA:=T9.lt);(try have IF:=YJ iA);(try have rW:=YI iA);(try obtain⟨bZ,cf,fw,fA,fB,ya⟩:=T9);(try have oN:=ct.lt);(try have PS:=YJ oN);(try have Cf:=YI oN);(try obtain⟨fC,fD,mK,mL,mM,En⟩:=ct))
    | (go_at_call 93;refine (zDD _ b (by omega)).mono ?_;rintro r' aM ⟨AQ,rfl,Y6,J3,L9⟩;rw[show 1*Q b/1=Q b by rw[Int.ediv_one,Int.one_mul],show -(-(1*Q b)/1)=Q b by rw[Int.ediv_one,Int.one_mul,Int.neg_neg]] at J3;have cn:=zC Y6;have mS:=zC (J3.fits (K:=130) (Int.le_refl _) (zA pg).1 (zA pg).2);clear Y6 J3;have H6:Below W.heap.size W aM:=(by with_reducible first|exact zB (Below.refl _ _).drew L9|exact zB (bl1 _ _).drew L9);(try with_reducible have T9:=((zQ W 31).bw (Below.refl _ _).drew).bw L9);have M4:=H6.size))
  all_goals
   have hfinS:SpAt fq El 133 (kW (raT p q last b) NS).1 (kW (raT p q last b) NS).2:=W8;go_wp2_with fail;go_meet;refine⟨_,El,rfl,?_,⟨⟨?_,?_,?_,?_,?_⟩,?_⟩,?_,zA iG,?_⟩
   ·first|exact YE _|exact M4|exact R7
   ·simp[go_sem, *]
   ·simp[go_sem, *]
   ·simp[go_sem, *]
   ·simp[go_sem, *]
   ·simp[go_sem, *]
   ·intro o;simp[go_sem, *]
   ·first|with_reducible exact SpAt.put5 hfinS fC fD mK mL mM _ _ _ _ _|with_reducible exact SpAt.put5 hfinS bZ cf fw fA fB _ _ _ _ _|with_reducible exact hfinS.bw (bl1 _ _)
   ·repeat' (first|with_reducible exact K8|with_reducible exact H6|with_reducible exact Below.refl _ _|with_reducible refine Below.drew ?_|with_reducible refine zL ?_ _|with_reducible refine Below.setCell ?_ (by first|exact YE _|exact M4|exact R7) _)
 case rest =>
 obtain⟨BS,xS,rfl,tj,XS,hpS,hxbS,hblS⟩:=hcut;obtain⟨V7,CC⟩:∃ V,V=wc:=⟨_,rfl⟩;subst CC;have kS:=YH lR tj;replace A0:=A0.bw hblS;replace R:=R.bw hblS;replace j7:=zB j7 hblS;have iC:=zC hpS;have cY:=zC hxbS;have XSC:=XS.c;clear hpS hxbS XS HK cg fG Y8 bc fI P5 Y7 cR x0 x1 x2 x3 hblS lA lL lB;have lA:=A0.lt;have lS:=XSC.lt;have ae:=R.lt;obtain⟨y0,y1,y2,y3,y4⟩:=XSC;obtain⟨z0,z1⟩:=A0;go_wp2_with fail;refine (zHD _ xS p q 700 b t N l (kW (raT p q last b) NS) ((zA iC).mono (by omega)) (zA cY) (zA HG).2.2.2 ⟨a1,a2,a3,a4⟩ (by omega) (by omega) (by omega) (zA HP).1 (zA HP).2.1 (by omega) (zA HP).2.2.1 (zA HP).2.2.2 (zA rP) (by omega) (by omega)).mono ?_
 rintro r' w3 ⟨v3,rfl,G3,aT,m9⟩;replace R:=R.bw m9;replace j7:=zB j7 m9;have hO:=zC G3;clear G3 m9 y0 y1 y2 y3 y4 z0 z1;go_wp2_with fail;refine (zBK _ v3 (b/16+700+10) b _ _ aT (zA hO) (by omega) (by omega) (by omega)).mono ?_
 rintro r' w4 ⟨u,rfl,B8,B7,y9⟩;obtain⟨q0,q1,q2,q3,q4,q5⟩:=R.bw y9;replace j7:=zB j7 y9;have G8:=zC B8;clear B8 y9;rw[zED] at B7;go_wp2_with fail;refine bodyPost_ret (v:=.agg u.q) (by simp[results,Tryz.results161,go_sem,q0,q1,q2,q3,q4]) rfl ⟨_,_,zA M9,u,rfl,zA G8,?_,?_⟩
 ·exact SpAt.put5 (SpAt.mono B7 (by omega)) q0 q1 q2 q3 q4 _ _ _ _ _
 ·exact jY j7 (by omega) _ _ _ _ _
theorem lrare_no (w:World) (p q last n d:Int) (b:Nat) (hb:b<=2000) (hl:last<0) :
  Calls Tryz.prog 138 #[.agg #[.int .i64 p,.int .i64 q],.int .i64 last,.int .i64 b] w (BlA (λ _=>0) w b):=by
 go_enter Tryz.func138,Tryz.ntmps138
 go_wp2_with fail;refine (zFL _ b hb).mono ?_;rintro zz w1 ⟨lo,hi,I3,u,rfl,B8,B7,b9⟩;have R:NoC w1 (w.heap.size+1):=NoC.bw ⟨by simp[go_sem],by simp[go_sem],by simp[go_sem],by simp[go_sem],by simp[go_sem],λ o=>by simp[go_sem]⟩ b9
 have hB:Below w.heap.size w w1:=zB (bl2 _ _ _ ) b9;obtain⟨q0,q1,q2,q3,q4,q5⟩:=R;have G8:=zC B8;clear B8 b9;go_wp2_with fail;refine bodyPost_ret (v:=.agg u.q) (by simp[results,Tryz.results138,go_sem,q0,q1,q2,q3,q4]) rfl ⟨lo,hi,I3,u,rfl,zA G8,?_,?_⟩
 ·exact SpAt.put5 (B7) q0 q1 q2 q3 q4 _ _ _ _ _
 ·exact jY hB (by omega) _ _ _ _ _
theorem lrare_iv (w:World) (p q last n d:Int) (b:Nat) (hr:rok p q) (hp:0<p) (I2:p<=100*q) (hl:0<=last) (Y2:last<=1000000000) (fQ:n/d=last) (E6:40<=b) (hb:b<=400) :
  Calls Tryz.prog 138 #[.agg #[.int .i64 p,.int .i64 q],.int .i64 last,.int .i64 b] w (BlA (raX p q n d) w b):=by
 have vG:¬ last<0:=by omega
 go_enter Tryz.func138,Tryz.ntmps138
 go_wp2_with fail;refine (rareW_iv _ p q last n d b hr hp I2 hl Y2 fQ E6 hb).mono ?_;rintro zz w1 ⟨lo,hi,I3,u,rfl,B8,B7,b9⟩;have R:NoC w1 (w.heap.size+1):=NoC.bw ⟨by simp[go_sem],by simp[go_sem],by simp[go_sem],by simp[go_sem],by simp[go_sem],λ o=>by simp[go_sem]⟩ b9
 have hB:Below w.heap.size w w1:=zB (bl2 _ _ _ ) b9;obtain⟨q0,q1,q2,q3,q4,q5⟩:=R;have G8:=zC B8;clear B8 b9;go_wp2_with fail;refine bodyPost_ret (v:=.agg u.q) (by simp[results,Tryz.results138,go_sem,q0,q1,q2,q3,q4]) rfl ⟨lo,hi,I3,u,rfl,zA G8,?_,?_⟩
 ·exact SpAt.put5 (B7) q0 q1 q2 q3 q4 _ _ _ _ _
 ·exact jY hB (by omega) _ _ _ _ _
theorem lw_half {x:Nat->Rat} {B:Nat} {l u:Int} (h:LwPr x B l u):LwPr (λ M=>(1:Int)/((2:Int):Rat)*x M) B (zK (l,u) 1 2).1 (zK (l,u) 1 2).2:=by
 have q:=zE B;have Ls:Q 89=2*Q 88:=rfl;have q88:=zJ (show 2<=88 by omega)
 have q2:Q 2=4:=rfl;have a:=h.lo;have b:=h.le;have c:=h.hi;have d:=h.wd;have e1:(zK (l,u) 1 2).1=l/2:=by show l*1/2=_;rw[Int.mul_one]
 have e2:(zK (l,u) 1 2).2 = -(-u/2):=by show -(-(u*1)/2)=_;rw[Int.mul_one]
 refine⟨by rw[e1];omega,by rw[e1,e2];omega,by rw[e2];omega,by rw[e1,e2];omega,?_⟩
 exact h.iv.scale (n:=1) (d:=2) (by decide) (by decide)
theorem zO4 (w:World) (p q n d:Int) (b:Nat) (hb:b<=400) (hn:n=0) :
  Calls Tryz.prog 135 #[.agg #[.int .i64 p,.int .i64 q],.agg #[.int .i64 n,.int .i64 d],.int .i64 b] w (BlA (λ _=>(1:Int)/((2:Int):Rat)) w b):=by
 subst hn
 go_enter Tryz.func135,Tryz.ntmps135
 go_wp2_with fail;refine (zD 1 _ (by decide) (by decide)).mono ?_
 rintro r' w1 ⟨m7,a1,n1,c1,rfl,o8,b9⟩;have R:NoC w1 (w.heap.size+1+1):=NoC.bw ⟨by simp[go_sem],by simp[go_sem],by simp[go_sem],by simp[go_sem],by simp[go_sem],λ o=>by simp[go_sem]⟩ b9
 have hB:Below w.heap.size w w1:=zB (bl3 _ _ _ _) b9;clear b9;go_wp2_with fail;refine (zD 2 _ (by decide) (by decide)).mono ?_
 rintro r' w2 ⟨j6,a2,n2,c2,rfl,A5,j8⟩;replace R:=R.bw j8;replace hB:=zB hB j8;replace o8:=o8.bw j8;clear j8;go_wp2_with fail;refine (jP _ _ _ _ _ _ _ _ 4 4 b 1 2 _ o8 A5 (by omega) (by omega) (by decide)).mono ?_
 rintro r' w3 ⟨u,rfl,B8,B7,m9⟩;replace hB:=zB hB m9;obtain⟨q0,q1,q2,q3,q4,q5⟩:=R.bw m9;have G8:=zC B8;clear B8 m9 R;go_wp2_with fail;refine bodyPost_ret (v:=.agg u.q) (by simp[results,Tryz.results135,go_sem,q0,q1,q2,q3,q4]) rfl ⟨_,_,of_lw b (show (0:Int)<=1 by decide) (show (0:Int)<2 by decide) (by decide),u,rfl,zA G8,?_,?_⟩
 ·exact SpAt.put5 (SpAt.mono B7 (by omega)) q0 q1 q2 q3 q4 _ _ _ _ _
 ·exact jY hB (by omega) _ _ _ _ _
theorem lstud_iv (L G:Rat->Nat->Rat) (X:Int->Int->Nat->Rat) (hE:zK5 L G X) (w:World) (p q n d:Int) (b:Nat) (E6:40<=b) (hb:b<=400) (hn:n≠0) (S6:rok p q) (O9:rok n d) (hp:0<p) (I2:p<=100*q) :
  Calls Tryz.prog 135 #[.agg #[.int .i64 p,.int .i64 q],.agg #[.int .i64 n,.int .i64 d],.int .i64 b] w (BlA (stX L p q n d) w b):=by
 obtain⟨a1,a2,a3,a4⟩:=S6;obtain⟨c1,c2,c3,c4⟩:=O9;have PO:=Int.mul_pos (show 0<d by omega) (show 0<d by omega)
 have dd:=Int.mul_le_mul c4 c4 (by omega) (by omega)
 obtain⟨Sy,nn⟩:=sq_bd c1 c2;have f0:=Int.mul_pos hp PO;have f1:=Int.mul_le_mul (show p<=102400 by omega) dd (by omega) (by omega)
 have s0:=YF (show 0<=q by omega) Sy
 have s1:=Int.mul_le_mul a4 nn (by omega) (by omega)
 have AR:=zC (show BpAr p (2*q) 1 2 (p*(d*d)) ((p*(d*d))+(q*(n*n))) b from⟨hp,by omega,by omega,by omega,by decide,by decide,by decide,by decide,by omega,by omega,by omega,by omega,E6,hb⟩)
 have P5:=zC (show IntKind.i64.wrap (d*d)=d*d from jB _ (by omega) (by omega))
 have Y7:=zC (show IntKind.i64.wrap (n*n)=n*n from jB _ (by omega) (by omega))
 have cR:=zC (show IntKind.i64.wrap (2*q)=2*q from jB _ (by omega) (by omega))
 have ba:=zC (show -9223372036854775808<=d*d/\d*d<=9223372036854775807 from⟨by omega,by omega⟩)
 have gZ:=zC (show -9223372036854775808<=n*n/\n*n<=9223372036854775807 from⟨by omega,by omega⟩)
 have HF:=zC (show (-P 4<(p*(d*d))/\(p*(d*d))<P 4) /\ -P 4<(p*(d*d))+(q*(n*n))/\(p*(d*d))+(q*(n*n))<P 4 by
  have:P 4=18446744073709551616:=rfl
  exact⟨⟨by omega,by omega⟩,by omega,by omega⟩)
 have OQ:=zC (show 0<(p*(d*d))/\(p*(d*d))<(p*(d*d))+(q*(n*n)) from⟨f0,by have:=Int.mul_pos (show 0<q by omega) (show 0<n*n by have:=sq_pos hn;omega);omega⟩)
 have cT:¬ n=0:=by omega
 have gN:(n == 0)=false:=by simp[cT]
 clear PO dd Sy nn f0 f1 s0 s1 hp I2;obtain⟨W,hW⟩:∃ W,W=((w.alloc (.cells #[.int .i64 p,.int .i64 q] 23)).alloc (.cells #[.int .i64 n,.int .i64 d] 23)).alloc (.cells zCq 31):=⟨_,rfl⟩;have j7:Below w.heap.size w W:=by rw[hW];exact bl3 _ _ _ _
 have A:RaC W (w.heap.size) p q:=by rw[hW];constructor<;>simp[go_sem]
 have D:RaC W (w.heap.size+1) n d:=by rw[hW];constructor<;>simp[go_sem]
 have R:NoC W (w.heap.size+1+1):=by rw[hW];constructor<;>simp[go_sem]
 have lA:=A.lt;have lD:=D.lt;have lR:=R.lt;have HK:=zC (show ∀ w',Below W.heap.size W w'->(rK w' w.heap.size p q (rK0 w' ((w.heap.size+1)) n d)) from λ w' hB=>⟨(A.bw hB).c0,(A.bw hB).c1,(D.bw hB).c0,(D.bw hB).c1⟩)
 go_enter Tryz.func135,Tryz.ntmps135
 go_wp2;rw[<- hW];clear hW;obtain⟨x0,x1,x2,x3⟩:=zA HK _ (Below.refl _ _)
 try go_wp2_with fail
 go_cut [7] (λ pz wx=>∃ (B:Nat) (u:Nm),pz=.pointer (some ⟨B,0,none⟩)/\W.heap.size<=B/\NmC wx B u/\IntAt wx u.neg u.a u.n u.cap 8 (p*(d*d))/\Below W.heap.size W wx)
 case first =>
  go_region_held3 (λ w'=>rK w' w.heap.size p q (rK0 w' ((w.heap.size+1)) n d)) (exact zA HK _ (by repeat' (first|with_reducible exact sH|with_reducible exact jc|with_reducible exact ja|with_reducible exact Below.refl _ _|with_reducible refine Below.drew ?_|with_reducible refine zL ?_ _|with_reducible refine Below.setCell ?_ (by first|exact YE _|exact vK|exact vL|exact vM) _)))
   (first
    | (go_at_call 83;have hq:=jc;refine (zT _ _ _ _ _ _ _ _ 4 4 p (d*d) _ (kj.bw (by with_reducible first|exact Below.refl _ _|exact bl1 _ _)) (tz.bw (by with_reducible first|exact Below.refl _ _|exact bl1 _ _)) (by omega) (by omega)).mono ?_;rintro r SS ⟨rB,Pt,Sj,PH,rfl,Jw,tK⟩;have jw:Below Gk.heap.size Gk SS:=(by with_reducible first|exact tK|exact zB (bl1 _ _) tK);have sH:=zB jc jw;(try with_reducible have PY:=(jL Gk 29).bw tK);replace kj:=kj.bw jw;(try replace zr:=zr.bw jw);replace tz:=tz.bw jw;(try replace Fe:=Fe.bw jw);have vM:=sH.size;(try have mF1:=zr.lt);(try obtain⟨LR,LS,zF1f⟩:=zr);(try have mF2:=Fe.lt);(try obtain⟨LV,LW,zF2f⟩:=Fe);(try have mF3:=PY.lt);(try obtain⟨LX,LY,zF3f⟩:=PY))
    | (go_at_call 33;have hq:=ja;(try rw[zA P5]);refine (zD (d*d) _ (zA ba).1 (zA ba).2).mono ?_;rintro r Gk ⟨Sv,aF2,nF2,cF2,rfl,tz,tJ⟩;have sV:Below Gj.heap.size Gj Gk:=(by with_reducible first|exact tJ|exact zB (bl1 _ _) tJ);have jc:=zB ja sV;(try with_reducible have Fe:=(jL Gj 29).bw tJ);replace kj:=kj.bw sV;(try replace zr:=zr.bw sV);have vL:=jc.size)
    | (go_at_call 33;refine (zD p _ (by omega) (by omega)).mono ?_;rintro r Gj ⟨Ss,aF1,nF1,cF1,rfl,kj,tI⟩;have ja:Below W.heap.size W Gj:=(by with_reducible first|exact zB (Below.refl _ _).drew tI|exact zB (bl1 _ _).drew tI);(try with_reducible have zr:=((jL W 29).bw (Below.refl _ _).drew).bw tI);have vK:=ja.size))
  all_goals
   have hfinF:IntAt SS rB Pt Sj PH 8 (p*(d*d)):=Jw.mono (by omega)
   go_wp2_with fail;go_meet;refine⟨_,⟨rB,Pt,Sj,PH⟩,rfl,?_,⟨?_,?_⟩,?_,?_⟩
   ·first|exact YE _|exact vK|exact vL|exact vM
   ·simp[go_sem, *]
   ·simp[go_sem, *]
   ·first|with_reducible exact hfinF.put2 LX LY _ _|with_reducible exact hfinF.put2 LV LW _ _|with_reducible exact hfinF.put2 LR LS _ _|with_reducible exact hfinF.bw (bl1 _ _)
   ·repeat' (first|with_reducible exact sH|with_reducible exact jc|with_reducible exact ja|with_reducible exact Below.refl _ _|with_reducible refine Below.drew ?_|with_reducible refine zL ?_ _|with_reducible refine Below.setCell ?_ (by first|exact YE _|exact vK|exact vL|exact vM) _)
 case rest =>
 obtain⟨BF,xF,rfl,hHF,XF,hpF,hblF⟩:=hcut;replace A:=A.bw hblF;replace D:=D.bw hblF;replace R:=R.bw hblF;replace j7:=zB j7 hblF;obtain⟨V1,Q2⟩:∃ V,V=wc:=⟨_,rfl⟩;subst Q2;have lF:=XF.lt;have RH:=A.lt;have lD1:=D.lt;have rz:=R.lt;have Bi:=zC (hpF.fits (zA HF).1.1 (zA HF).1.2);have mR:=zC (show ∀ w',Below V1.heap.size V1 w'->(rK w' w.heap.size p q (rK0 w' ((w.heap.size+1)) n d)) from λ w' hB=>⟨(A.bw hB).c0,(A.bw hB).c1,(D.bw hB).c0,(D.bw hB).c1⟩)
 clear hpF hblF HK x0 x1 x2 x3;obtain⟨x0,x1,x2,x3⟩:=zA mR _ (Below.refl _ _);go_wp2_with fail
 go_cut [8] (λ pz wx=>∃ (B:Nat) (u:Nm),pz=.pointer (some ⟨B,0,none⟩)/\V1.heap.size<=B/\NmC wx B u/\IntAt wx u.neg u.a u.n u.cap 8 (q*(n*n))/\Below V1.heap.size V1 wx)
 case first =>
  go_region_held3 (λ w'=>rK w' w.heap.size p q (rK0 w' ((w.heap.size+1)) n d)) (exact zA mR _ (by repeat' (first|with_reducible exact aj|with_reducible exact K8|with_reducible exact H6|with_reducible exact Below.refl _ _|with_reducible refine Below.drew ?_|with_reducible refine zL ?_ _|with_reducible refine Below.setCell ?_ (by first|exact YE _|exact M4|exact R7|exact eX) _)))
   (first
    | (go_at_call 83;have hq:=K8;refine (zT _ _ _ _ _ _ _ _ 4 4 q (n*n) _ (J3.bw (by with_reducible first|exact Below.refl _ _|exact bl1 _ _)) (W8.bw (by with_reducible first|exact Below.refl _ _|exact bl1 _ _)) (by omega) (by omega)).mono ?_;rintro r xi ⟨rD,Pw,Sm,PJ,rfl,kr,dV⟩;have aq:Below fq.heap.size fq xi:=(by with_reducible first|exact dV|exact zB (bl1 _ _) dV);have aj:=zB K8 aq;(try with_reducible have sA:=(jL fq 29).bw dV);replace J3:=J3.bw aq;(try replace T9:=T9.bw aq);replace W8:=W8.bw aq;(try replace ct:=ct.bw aq);have eX:=aj.size;(try have iA:=T9.lt);(try obtain⟨bZ,cf,zS1f⟩:=T9);(try have oN:=ct.lt);(try obtain⟨fC,fD,zS2f⟩:=ct);(try have Lf:=sA.lt);(try obtain⟨yc,yd,zS3f⟩:=sA))
    | (go_at_call 33;have hq:=H6;(try rw[zA Y7]);refine (zD (n*n) _ (zA gZ).1 (zA gZ).2).mono ?_;rintro r fq ⟨Ec,VR,nS2,Wq,rfl,W8,Q5⟩;have W7:Below aM.heap.size aM fq:=(by with_reducible first|exact Q5|exact zB (bl1 _ _) Q5);have K8:=zB H6 W7;(try with_reducible have ct:=(jL aM 29).bw Q5);replace J3:=J3.bw W7;(try replace T9:=T9.bw W7);have R7:=K8.size)
    | (go_at_call 33;refine (zD q _ (by omega) (by omega)).mono ?_;rintro r aM ⟨Eb,VQ,nS1,Wp,rfl,J3,L9⟩;have H6:Below V1.heap.size V1 aM:=(by with_reducible first|exact zB (Below.refl _ _).drew L9|exact zB (bl1 _ _).drew L9);(try with_reducible have T9:=((jL V1 29).bw (Below.refl _ _).drew).bw L9);have M4:=H6.size))
  all_goals
   have hfinS:IntAt xi rD Pw Sm PJ 8 (q*(n*n)):=kr.mono (by omega)
   go_wp2_with fail;go_meet;refine⟨_,⟨rD,Pw,Sm,PJ⟩,rfl,?_,⟨?_,?_⟩,?_,?_⟩
   ·first|exact YE _|exact M4|exact R7|exact eX
   ·simp[go_sem, *]
   ·simp[go_sem, *]
   ·first|with_reducible exact hfinS.put2 yc yd _ _|with_reducible exact hfinS.put2 fC fD _ _|with_reducible exact hfinS.put2 bZ cf _ _|with_reducible exact hfinS.bw (bl1 _ _)
   ·repeat' (first|with_reducible exact aj|with_reducible exact K8|with_reducible exact H6|with_reducible exact Below.refl _ _|with_reducible refine Below.drew ?_|with_reducible refine zL ?_ _|with_reducible refine Below.setCell ?_ (by first|exact YE _|exact M4|exact R7|exact eX) _)
 case rest =>
 obtain⟨BS,xS,rfl,tj,XS,hpS,hblS⟩:=hcut;replace A:=A.bw hblS;replace D:=D.bw hblS;replace R:=R.bw hblS;replace XF:=XF.bw hblS;replace Bi:=zC ((zA Bi).bw hblS);replace j7:=zB j7 hblS;have EL:=zC hpS;obtain⟨V2,aI⟩:∃ V,V=wc:=⟨_,rfl⟩;subst aI;have lS:=XS.lt;have lF1:=XF.lt;have FT:=A.lt;have KZ:=D.lt;have ae:=R.lt;have gf:=zC (show ∀ w',Below V2.heap.size V2 w'->(rK w' w.heap.size p q (rK w' ((w.heap.size+1)) n d (nK w' BF xF (nK0 w' BS xS)))) from λ w' hB=>⟨(A.bw hB).c0,(A.bw hB).c1,(D.bw hB).c0,(D.bw hB).c1,(XF.bw hB).c0,(XF.bw hB).c1,(XS.bw hB).c0,(XS.bw hB).c1⟩)
 clear hpS hblS mR x0 x1 x2 x3;obtain⟨x0,x1,x2,x3,x4,x5,x6,x7⟩:=zA gf _ (Below.refl _ _);go_wp2_with fail
 go_cut [9] (λ pz wx=>∃ (B:Nat) (u:Sp) (lo hi:Int),pz=.pointer (some ⟨B,0,none⟩)/\LwPr (bvX L p (2*q) 1 2 (p*(d*d)) ((p*(d*d))+(q*(n*n)))) b lo hi/\V2.heap.size<=B/\VrC wx B u/\SpAt wx u 75 (zK (lo,hi) 1 2).1 (zK (lo,hi) 1 2).2/\u.bits=(b:Int)/\Below V2.heap.size V2 wx)
 case first =>
  go_region_held3 (λ w'=>rK w' w.heap.size p q (rK w' ((w.heap.size+1)) n d (nK w' BF xF (nK0 w' BS xS)))) (exact zA gf _ (by repeat' (first|with_reducible exact sJ|with_reducible exact jg|with_reducible exact dt|with_reducible exact Below.refl _ _|with_reducible refine Below.drew ?_|with_reducible refine zL ?_ _|with_reducible refine Below.setCell ?_ (by first|exact YE _|exact vQ|exact vR|exact vS) _)))
   (first
    | (go_at_call 123;have hq:=jg;refine (zIT _ vH2 61 b 2 (lo,hi) (Jy.bw (by with_reducible first|exact Below.refl _ _|exact bl1 _ _)) (by omega) (zA Bo) (by omega) (by omega)).mono ?_;rintro r SX ⟨SF,rfl,qI,Jz,tQ⟩;have Bp:=zC qI;clear qI;have om:Below Gp.heap.size Gp SX:=(by with_reducible first|exact tQ|exact zB (bl1 _ _) tQ);have sJ:=zB jg om;(try with_reducible have Qa:=(zQ Gp 31).bw tQ);replace km:=km.bw om;(try replace zw:=zw.bw om);(try replace Fg:=Fg.bw om);have vS:=sJ.size;(try have RM:=zw.lt);(try have eH1:=YJ RM);(try have WL:=YI RM);(try obtain⟨Mf,Mg,Mh,Mi,Mj,zH15⟩:=zw);(try have RN:=Fg.lt);(try have eH2:=YJ RN);(try have WM:=YI RN);(try obtain⟨Mk,Ml,Mm,Mn,Mo,zH25⟩:=Fg);(try have RO:=Qa.lt);(try have eH3:=YJ RO);(try have WN:=YI RO);(try obtain⟨Mp,Mq,Mr,Ms,Mt,zH35⟩:=Qa))
    | (go_at_call 160;(try rw[zA cR]);have hq:=dt;refine (zNS L G X hE _ xF ⟨Ea,VP,nH1,Wo⟩ p (2*q) 1 2 (p*(d*d)) ((p*(d*d))+(q*(n*n))) b ((zA Bi).bw (by with_reducible first|exact dt|exact zL dt _)) ((km.bw (by with_reducible first|exact Below.refl _ _|exact bl1 _ _)).fits (zA HF).2.1 (zA HF).2.2) (zA AR) (zA OQ).1 (zA OQ).2).mono ?_;rintro r' Gp ⟨lo,hi,I3,vH2,rfl,qH,Jy,tP⟩;have Bo:=zC qH;have M9:=zC I3.pr;clear qH I3;have sX:Below Gn.heap.size Gn Gp:=(by with_reducible first|exact tP|exact zB (bl1 _ _) tP);have jg:=zB dt sX;(try with_reducible have Fg:=(zQ Gn 31).bw tP);replace km:=km.bw sX;(try replace zw:=zw.bw sX);have vR:=jg.size)
    | (go_at_call 32;refine (zAE _ _ _ _ _ _ _ _ 4 8 (p*(d*d)) (q*(n*n)) _ ((zA Bi).bw (by with_reducible first|exact (Below.refl _ _).drew|exact (bl1 _ _).drew)) ((zA EL).bw (by with_reducible first|exact (Below.refl _ _).drew|exact (bl1 _ _).drew)) (by omega) (by omega)).mono ?_;rintro r Gn ⟨Ea,VP,nH1,Wo,rfl,km,tO⟩;have dt:Below V2.heap.size V2 Gn:=(by with_reducible first|exact zB (Below.refl _ _).drew tO|exact zB (bl1 _ _).drew tO);(try with_reducible have zw:=((zQ V2 31).bw (Below.refl _ _).drew).bw tO);have vQ:=dt.size))
  all_goals
   have hfinH:SpAt SX SF 75 (zK (lo,hi) 1 2).1 (zK (lo,hi) 1 2).2:=Jz;go_wp2_with fail;go_meet;refine⟨_,SF,lo,hi,rfl,zA M9,?_,⟨⟨?_,?_,?_,?_,?_⟩,?_⟩,?_,zA Bp,?_⟩
   ·first|exact YE _|exact vQ|exact vR|exact vS
   ·simp[go_sem, *]
   ·simp[go_sem, *]
   ·simp[go_sem, *]
   ·simp[go_sem, *]
   ·simp[go_sem, *]
   ·intro o;simp[go_sem, *]
   ·first|with_reducible exact SpAt.put5 hfinH Mp Mq Mr Ms Mt _ _ _ _ _|with_reducible exact SpAt.put5 hfinH Mk Ml Mm Mn Mo _ _ _ _ _|with_reducible exact SpAt.put5 hfinH Mf Mg Mh Mi Mj _ _ _ _ _|with_reducible exact hfinH.bw (bl1 _ _)
   ·repeat' (first|with_reducible exact sJ|with_reducible exact jg|with_reducible exact dt|with_reducible exact Below.refl _ _|with_reducible refine Below.drew ?_|with_reducible refine zL ?_ _|with_reducible refine Below.setCell ?_ (by first|exact YE _|exact vQ|exact vR|exact vS) _)
 case rest =>
 obtain⟨BH,xH,lo,hi,rfl,I3,hHH,XH,hpH,hxbH,hblH⟩:=hcut;replace D:=D.bw hblH;replace R:=R.bw hblH;replace j7:=zB j7 hblH;obtain⟨V3,I6⟩:∃ V,V=wc:=⟨_,rfl⟩;subst I6;have hf:=lw_half I3;have lH:=XH.lt;have lD3:=D.lt;have gQ:=R.lt;have nRH:w.heap.size+1+1<BH:=by omega
 have M9:=zC hf;have EK:=zC hpH;have OL:=zC hxbH;obtain⟨⟨y0,y1,y2,y3,y4⟩,y5⟩:=XH;obtain⟨d0,d1⟩:=D;clear hf I3 hpH hxbH hblH gf x0 x1 x2 x3 x4 x5 x6 x7 Bi EL XF XS A
 by_cases aR:n<0
 ·have ex:stX L p q n d=stX0 L p q n d:=by unfold stX;rw[if_pos (by omega)]
  have Hh:=zC (show LwPr (stX L p q n d) b (zK (lo,hi) 1 2).1 (zK (lo,hi) 1 2).2 by rw[ex];exact zA M9)
  clear ex;obtain⟨q0,q1,q2,q3,q4,q5⟩:=R;go_wp2_with fail;refine bodyPost_ret (v:=.agg xH.q) (by simp[results,Tryz.results135,go_sem,q0,q1,q2,q3,q4]) rfl ⟨_,_,zA Hh,xH,rfl,zA OL,?_,?_⟩
  ·exact SpAt.put5 (SpAt.mono (zA EK) (by omega)) q0 q1 q2 q3 q4 _ _ _ _ _
  ·exact jY j7 (by omega) _ _ _ _ _
 ·have ex:stX L p q n d=λ M=>1-stX0 L p q n d M:=by unfold stX;rw[if_neg (by omega)]
  have Hh:=zC (show LwPr (stX L p q n d) b (zA8 b (zK (lo,hi) 1 2)).1 (zA8 b (zK (lo,hi) 1 2)).2 by rw[ex];exact zSK (zA M9))
  clear ex;go_wp2_with fail;refine (zEW _ xH 75 b (zK (lo,hi) 1 2) (zA EK) (zA OL) (by omega) (by omega) (by omega)).mono ?_
  rintro r' w4 ⟨u,rfl,B8,B7,y9⟩;obtain⟨q0,q1,q2,q3,q4,q5⟩:=R.bw y9;replace j7:=zB j7 y9;have G8:=zC B8;clear B8 y9;go_wp2_with fail;refine bodyPost_ret (v:=.agg u.q) (by simp[results,Tryz.results135,go_sem,q0,q1,q2,q3,q4]) rfl ⟨_,_,zA Hh,u,rfl,zA G8,?_,?_⟩
  ·exact SpAt.put5 (SpAt.mono B7 (by omega)) q0 q1 q2 q3 q4 _ _ _ _ _
  ·exact jY j7 (by omega) _ _ _ _ _
theorem P250_big {b:Nat} (hb:b<=120):2*Q b<P 250:=by
 rw[<- Q_P];have h2:Q (b+1)=2*Q b:=rfl;have h3:Q (b+2)=2*Q (b+1):=rfl;have:=zJ (show b+2<=16*250 by omega)
 have:=zE b;omega
end Go.Proofs.YtgmnknmjainabacGreat
