/-
  Its own texts.
-/
import Derived.Test.YtgmnknmjainabacGreatJ04
set_option maxRecDepth 100000
set_option maxHeartbeats 40000000
set_option linter.unnecessarySimpa false
set_option linter.unusedSimpArgs false
set_option linter.unusedVariables false
namespace Go.Proofs.YtgmnknmjainabacGreat
open Go.RowKit
attribute [local go_sem ↓] Go.wp_at_zero Go.wp_at_succ
theorem zR2 (w:World) (s:Sp) (k:Nat) (d lo hi:Int) (hs:SpAt w s k lo hi) (hk:k<=300000000) (hd : -9223372036854775808<=d) (mz:d<=9223372036854775807) :
  Calls Tryz.prog 156 #[.agg s.q,.int .i64 d] w (zL w s.bits (k+4) (lo*d) (hi*d)):=by
 obtain⟨W,hW⟩:∃ W,W=(w.alloc (.cells s.q 31)).alloc (.cells zCq 31):=⟨_,rfl⟩;have j6:Below w.heap.size w W:=by rw[hW];exact bl2 _ _ _
 have A:SpC W w.heap.size s:=by rw[hW];constructor<;>simp[go_sem]
 have R:NoC W (w.heap.size+1):=by rw[hW];constructor<;>simp[go_sem]
 have HS:=zC (hs.bw j6);have lR:=R.lt;have HK:=zC (show ∀ w',Below W.heap.size W w'->(cK0 w' w.heap.size s) from λ w' hB=>⟨(A.bw hB).c0,(A.bw hB).c1,(A.bw hB).c2,(A.bw hB).c3,(A.bw hB).c4⟩)
 clear A hs
 go_enter Tryz.func156,Tryz.ntmps156
 go_wp2;rw[<- hW];clear hW;have WT:w.heap.size≠w.heap.size+1:=by omega
 have Pf:w.heap.size+1≠w.heap.size:=by omega
 obtain⟨x0,x1,x2,x3,x4⟩:=zA HK _ (Below.refl _ _);have D8:Below W.heap.size W W.drew:=(Below.refl _ _).drew
 go_region_held3 (λ w'=>cK0 w' w.heap.size s) (first|exact zA HK _ (by with_reducible first|exact D8|exact J0|exact G6|exact A6|exact y9)|(dsimp only[cK,cK0,nK,nK0,rK,rK0];go_keep)|go_keep)
  (first
   | (go_at_call 83;have hq:=G6;refine (jA _ _ _ _ _ _ _ _ k 4 hi d _ ((zA HS).hi.bw G6) E8 (by omega) (by omega)).mono ?_;rintro r' w4 ⟨E5,a4,n4,c4,rfl,H8,A5⟩;have J0:=zB G6 A5;replace A8:=(A8.bw m8).bw A5;obtain⟨q0,q1,q2,q3,q4,q5⟩:=R.bw J0;obtain⟨y0,y1,y2,y3,y4⟩:=zA HK _ J0)
   | (go_at_call 33;have hq:=A6;refine (zE d _ hd mz).mono ?_;rintro r' w3 ⟨C7,a3,n3,c3,rfl,E8,m8⟩;have G6:=zB A6 m8)
   | (go_at_call 83;have hq:=y9;refine (jA _ _ _ _ _ _ _ _ k 4 lo d _ ((zA HS).lo.bw y9) s9 (by omega) (by omega)).mono ?_;rintro r' w2 ⟨j7,a2,n2,c2,rfl,A8,j5⟩;have A6:=zB y9 j5)
   | (go_at_call 33;refine (zE d _ hd mz).mono ?_;rintro r' w1 ⟨o7,a1,n1,c1,rfl,s9,b9⟩;have y9:=zB D8 b9))
 all_goals
  go_wp2_with fail;refine bodyPost_ret (v:=.agg #[.bool j7,.slice a2 n2 c2,.bool E5,.slice a4 n4 c4,.int .i64 s.bits]) (by simp[results,Tryz.results156,go_sem,q0,q1,q2,q3,q4]) rfl ⟨⟨j7,a2,n2,c2,E5,a4,n4,c4,s.bits⟩,rfl,rfl,?_,?_⟩
  ·exact SpAt.put5 ⟨A8,H8⟩ q0 q1 q2 q3 q4 _ _ _ _ _
  ·exact kM (zB j6 J0) (Nat.le_succ _) _ _ _ _ _
def zOW (b:Int):Bool:=decide (8<=b) && decide (b<=120)
theorem zEW (b:Int) (w:World) :
  Calls Tryz.prog 60 #[.int .i64 b] w λ r w'=>r=.returned (.bool (zOW b))/\w'=w:=by
 go_enter Tryz.func60,Tryz.ntmps60
 go_wp2_with fail;refine (jV _ _ _ _).mono ?_;rintro r w1 ⟨rfl,hw⟩;subst hw;go_wp2_with fail
 go_ret
 exact⟨rfl,rfl⟩
theorem zD (p q:Int) (w:World) :
  Calls Tryz.prog 58 #[.agg #[.int .i64 p,.int .i64 q]] w λ r w'=>r=.returned (.bool (decide (rok p q)))/\Below w.heap.size w w':=by
 by_cases h : -1048576<=p/\p<=1048576
 ·have h1:(decide (-1048576<=p) && decide (p<=1048576))=true:=by simp;omega
  have h2:(decide (1<=q) && decide (q<=1024))=decide (rok p q):=by
   rw[Bool.eq_iff_iff,Bool.and_eq_true,decide_eq_true_iff,decide_eq_true_iff,decide_eq_true_iff];exact⟨λ ⟨a,b⟩=>⟨h.1,h.2,a,b⟩,λ ⟨_,_,a,b⟩=>⟨a,b⟩⟩
  have HE:=zC h2;clear h2
  go_enter Tryz.func58,Tryz.ntmps58
  go_wp2_with fail;refine (jV _ _ _ _).mono ?_;rintro r w1 ⟨rfl,hw⟩;subst hw;rw[h1];go_wp2_with fail;refine (jV _ _ _ _).mono ?_;rintro r w2 ⟨rfl,hw⟩;subst hw;rw[zA HE];go_wp2_with fail
  go_ret
  exact⟨rfl,bl1 _ _⟩
 ·have h1:(decide (-1048576<=p) && decide (p<=1048576))=false:=by
   rw[Bool.and_eq_false_iff];simp;omega
  have h2:decide (rok p q)=false:=zL4 (by omega)
  have HE:=zC h2;clear h2 h
  go_enter Tryz.func58,Tryz.ntmps58
  go_wp2_with fail;refine (jV _ _ _ _).mono ?_;rintro r w1 ⟨rfl,hw⟩;subst hw;rw[h1];go_wp2_with fail
  go_ret
  exact⟨by rw[zA HE];rfl,bl1 _ _⟩
theorem zGT (w:World) (s:Sp) (k:Nat) (bt lo hi:Int) (hs:SpAt w s k lo hi) (hk:k<=300000000) (E6:0<=s.bits) (rN:s.bits<=1000000) (nS:0<=bt) (wB:bt<=1000000) :
  Calls Tryz.prog 97 #[.agg s.q,.int .i64 bt] w (zL w bt (k+62505) (zCR lo (s.bits-bt)) (-(zCR (-hi) (s.bits-bt)))):=by
 obtain⟨W,hW⟩:∃ W,W=(w.alloc (.cells s.q 31)).alloc (.cells zCq 31):=⟨_,rfl⟩;have j6:Below w.heap.size w W:=by rw[hW];exact bl2 _ _ _
 have A:SpC W w.heap.size s:=by rw[hW];constructor<;>simp[go_sem]
 have R:NoC W (w.heap.size+1):=by rw[hW];constructor<;>simp[go_sem]
 have HS:=zC (hs.bw j6);have lA:=A.lt;have lR:=R.lt;have D9:Below W.heap.size W W.drew:=(Below.refl _ _).drew
 have HK:=zC (show ∀ w',Below W.heap.size W w'->(w'.cell? ⟨w.heap.size,0,none⟩=some (.bool s.ln)/\w'.cell? ⟨w.heap.size,1,none⟩=some (.slice s.la s.lN s.lc)/\w'.cell? ⟨w.heap.size,2,none⟩=some (.bool s.hn)/\w'.cell? ⟨w.heap.size,3,none⟩=some (.slice s.ha s.hN s.hc)) from λ w' hB=>by
  obtain⟨x0,x1,x2,x3,x4⟩:=A.bw hB
  exact⟨x0,x1,x2,x3⟩)
 go_enter Tryz.func97,Tryz.ntmps97
 go_wp2;obtain⟨x0,x1,x2,x3,x4⟩:=A;rw[<- hW];clear hW
 go_region_held3 (λ w'=>w'.cell? ⟨w.heap.size,0,none⟩=some (.bool s.ln)/\w'.cell? ⟨w.heap.size,1,none⟩=some (.slice s.la s.lN s.lc)/\w'.cell? ⟨w.heap.size,2,none⟩=some (.bool s.hn)/\w'.cell? ⟨w.heap.size,3,none⟩=some (.slice s.ha s.hN s.hc)) (first|exact zA HK _ (by with_reducible first|exact D9|exact A7|exact C9)|go_keep)
  (first
   | (go_at_call 96;refine (zK2 _ _ _ _ k (s.bits-bt) lo _ ((zA HS).lo.bw D9) (by omega) (by omega) (by omega)).mono ?_;rintro r w1 ⟨o7,a1,n1,c1,rfl,s9,b9⟩;have C9:=zB D9 b9)
   | (go_at_call 120;refine (zEA _ _ _ _ k (s.bits-bt) hi _ ((zA HS).hi.bw C9) (by omega) (by omega) (by omega)).mono ?_;rintro r w2 ⟨j7,a2,n2,c2,rfl,A8,j5⟩;replace s9:=s9.bw j5;have A7:=zB C9 j5;obtain⟨q0,q1,q2,q3,q4,q5⟩:=R.bw A7;obtain⟨i0,i1,i2,i3⟩:=zA HK _ A7))
 go_wp2;refine bodyPost_ret (v:=.agg #[.bool o7,.slice a1 n1 c1,.bool j7,.slice a2 n2 c2,.int .i64 bt]) (by simp[results,Tryz.results97,go_sem,q0,q1,q2,q3,q4]) rfl ⟨⟨o7,a1,n1,c1,j7,a2,n2,c2,bt⟩,rfl,rfl,?_,?_⟩
 ·exact SpAt.put5 ⟨s9.mono (by omega),A8.mono (by omega)⟩ q0 q1 q2 q3 q4 _ _ _ _ _
 ·exact kM (zB j6 A7) (Nat.le_succ _) _ _ _ _ _
theorem IntAt.fits {w:World} {neg:Bool} {a:Option Addr} {n cap k K:Nat} {z:Int} (h:IntAt w neg a n cap k z) (h0 : -P K<z) (hz:z<P K):IntAt w neg a n cap K z:=by
 obtain⟨d,h1,h2,h3,h4,h5⟩:=h;refine⟨d,h1,h2,h3,?_,h5⟩;refine zGI h1.dgs h2 ?_;have:=jD h1.dgs n
 cases neg
 ·simp[sgn] at h5;omega
 ·simp[sgn] at h5;omega
theorem SpAt.fits {w:World} {s:Sp} {k K:Nat} {lo hi:Int} (h:SpAt w s k lo hi) (hle:lo<=hi) (h0 : -P K<lo) (hz:hi<P K):SpAt w s K lo hi:=⟨h.lo.fits h0 (by omega),h.hi.fits (by omega) hz⟩
def zBM (z l:Int):Prop:=0<=l/\(z=0->l=0)/\(0<z->∃ L:Nat,l=(L:Int)+1/\Q L<=z/\z<Q (L+1))
theorem zDL (neg:Bool) (a:Option Addr) (n cap k:Nat) (z:Int) (w:World) (h:IntAt w neg a n cap k z) (hz:0<=z) :
  Calls Tryz.prog 98 #[.agg #[.bool neg,.slice a n cap]] w λ r w'=>∃ l,zBM z l/\r=.returned (.int .i64 l)/\Below w.heap.size w w':=by
 obtain⟨d,h1,h2,h3,h4,h5⟩:=h;refine (zPW neg a n cap d w h1).mono λ r w' ⟨e1,e2⟩=>⟨lenZ n d,?_,e1,e2⟩
 have hV:=jD h1.dgs n
 have hv:V d n=z:=by
  cases neg
  ·simp[sgn] at h5;exact h5.symm
  ·simp[sgn] at h5;omega
 rcases Nat.eq_zero_or_pos n with h0|h0
 ·subst h0
  have:z=0:=by simp[V] at hv;omega
  subst this;exact⟨by simp[lenZ],λ _=>by simp[lenZ],λ h=>by omega⟩
 ·obtain⟨L,l1,l2,l3⟩:=lenZ_Q h1.dgs h0 (by rcases h2 with h2|h2;omega;exact h2)
  have:=zF L;exact⟨by omega,λ h=>by omega,λ _=>⟨L,l1,by omega,by omega⟩⟩
def zH3 (bits:Nat) (Pr:Nat->Int->Int->Prop) (L H:Int):Prop :=
 ∃ (m:Nat) (lo hi:Int),Pr (bits+m) lo hi/\32<=m/\L=lo/Q m/\H = -(-hi/Q m)/\(H-L<=1\/zNC L H (Q bits) 4=true)
def zGW (bits Kw:Nat) (Pr:Nat->Int->Int->Prop):Prop :=
 ∀ (m:Nat) (lo hi:Int),Pr (bits+m) lo hi->lo<=hi/\hi-lo<=Q Kw /\ -(P 200*Q m)<=lo/\hi<=P 200*Q m
theorem zCO (x q:Int) (hq:0<q):x <= -(-x/q)*q:=by
 have h:=Int.emod_add_mul_ediv (-x) q;have:=Int.emod_nonneg (-x) (show q≠0 by omega)
 have e : -(-x/q)*q = -(q*(-x/q)):=by rw[Int.neg_mul,Int.mul_comm]
 rw[e];omega
theorem zJT (x q:Int) (hq:0<q) : -(-x/q)*q<x+q:=by
 have h:=Int.emod_add_mul_ediv (-x) q;have:=Int.emod_lt_of_pos (-x) hq;have e : -(-x/q)*q = -(q*(-x/q)):=by rw[Int.neg_mul,Int.mul_comm]
 rw[e];omega
theorem zES (x q:Int) (hq:0<q):x/q*q<=x:=Int.ediv_mul_le _ (by omega)
theorem flo_gt (x q:Int) (hq:0<q):x<x/q*q+q:=by
 have h:=Int.emod_add_mul_ediv x q;have:=Int.emod_lt_of_pos x hq;rw[Int.mul_comm];omega
theorem zME {lo hi:Int} {m Kw:Nat} (hle:lo<=hi) (hw:hi-lo<=Q Kw):0 <= -(-hi/Q m)-lo/Q m/\(Kw<=m -> -(-hi/Q m)-lo/Q m<=2)/\(m<=Kw -> -(-hi/Q m)-lo/Q m<=Q (Kw-m)+1):=by
 have hq:=zF m;have a1:=zCO hi (Q m) (by omega)
 have a2:=zJT hi (Q m) (by omega)
 have a3:=zES lo (Q m) (by omega)
 have a4:=flo_gt lo (Q m) (by omega)
 have hs:(-(-hi/Q m)-lo/Q m)*Q m = -(-hi/Q m)*Q m-lo/Q m*Q m:=Int.sub_mul _ _ _;refine⟨?_,λ h=>?_,λ h=>?_⟩
 ·refine Int.not_lt.1 λ hn=>?_
  have:=Yg (show -(-hi/Q m)-lo/Q m <= -1 by omega) (show 0<=Q m by omega)
  omega
 ·have hk:=zK h
  refine Int.not_lt.1 λ hn=>?_
  have:=Yg (show 3 <= -(-hi/Q m)-lo/Q m by omega) (show 0<=Q m by omega)
  omega
 ·have hk:Q Kw=Q (Kw-m)*Q m:=by rw[<- jI];congr 1;omega
  refine Int.not_lt.1 λ hn=>?_
  have h5:=Yg (show Q (Kw-m)+2 <= -(-hi/Q m)-lo/Q m by omega) (show 0<=Q m by omega)
  have h6:(Q (Kw-m)+2)*Q m=Q (Kw-m)*Q m+2*Q m:=Int.add_mul _ _ _;omega
theorem zC8 {L H:Int} {b:Nat} (hle:L<=H) (h:H-L<=4):zNC L H (Q b) 4=true:=by
 unfold zNC;rw[decide_eq_true_iff];have hq:=zF b;have h1:(H-L)*Q b<=4*Q b:=Yg h (by omega)
 have h2:0<=zHK H (-L):=by unfold zHK;split<;>omega
 have:4*(Q b+zHK H (-L))=4*Q b+4*zHK H (-L):=Int.mul_add _ _ _;omega
theorem to_fit {lo hi:Int} {m:Nat} (h1 : -(P 200*Q m)<=lo) (h2:hi<=P 200*Q m) : -P 250<lo/Q m /\ -(-hi/Q m)<P 250:=by
 have hq:=zF m
 have hp:P 200<P 250:=by
  have e:P 250=P 200*P 50:=P_add 200 50;have h3:=kY 200;have h4:P 200*65536<=P 200*P 50:=Yi (zBD (show 1<=50 by omega)) (by omega)
  omega
 have a1 : -P 200<=lo/Q m:=by rw[Int.le_ediv_iff_mul_le (by omega),Int.neg_mul];exact h1
 have a2 : -P 200 <= -hi/Q m:=by rw[Int.le_ediv_iff_mul_le (by omega),Int.neg_mul];omega
 omega
def SureInv (Kw m t:Nat):Prop:=32<=m/\1<=t/\t<=m/\((t<=3/\m<=Kw+40*t)\/m<=Kw+40)
theorem zPX {z l:Int} {K:Nat} (h:zBM z l) (hz:z<=Q K+1) (h0:0<=z):l<=K+2:=by
 obtain⟨h1,h2,h3⟩:=h
 by_cases hp:0<z
 ·obtain⟨L,e1,e2,e3⟩:=h3 hp
  by_cases hL:L<=K+1
  ·omega
  ·have:=zK (show K+2<=L by omega)
   have e:Q (K+2)=2*(2*Q K):=rfl;have:=zF K;omega
 ·have:=h2 (by omega);omega
theorem zP0 {z l:Int} (h:zBM z l) (hz:z<=2) (h0:0<=z):l<=2:=by
 have:=zPX (K:=0) h (by simp[Q];omega) h0
 omega
theorem zPZ {z l:Int} (h:zBM z l) (hl:l<=1) (h0:0<=z):z<=1:=by
 obtain⟨h1,h2,h3⟩:=h
 by_cases hp:0<z
 ·obtain⟨L,e1,e2,e3⟩:=h3 hp
  have:L=0:=by omega
  subst this;simp[Q] at e3;omega
 ·omega
end Go.Proofs.YtgmnknmjainabacGreat
namespace Go.Proofs.YtgmnknmjainabacGreat.Ex
def S (f:Nat->Rat):Nat->Rat
 | 0=>0
 | n+1=>S f n+f n
theorem S_add (f g:Nat->Rat) (n:Nat):S (λ i=>f i+g i) n=S f n+S g n:=by
 induction n with
 | zero=>simp[S];try grind
 | succ n ih=>simp only[S,ih];grind
theorem zF5 (c:Rat) (f:Nat->Rat) (n:Nat):S (λ i=>c*f i) n=c*S f n:=by
 induction n with
 | zero=>simp[S];try grind
 | succ n ih=>simp only[S,ih];grind
theorem kO {f g:Nat->Rat} (n:Nat) (h:∀ i,i<n->f i=g i):S f n=S g n:=by
 induction n with
 | zero=>rfl
 | succ n ih=>simp only[S];rw[ih (λ i hi=>h i (by omega)),h n (by omega)]
theorem zN8 (f:Nat->Rat) (n:Nat):S f (n+1)=f 0+S (λ i=>f (i+1)) n:=by
 induction n with
 | zero=>simp[S];grind
 | succ n ih=>rw[S,ih];simp only[S];grind
def tm (x:Rat):Nat->Rat
 | 0=>1
 | n+1=>tm x n*x/((n:Rat)+1)
theorem zAT (n:Nat):(0:Rat)<(n:Rat)+1:=by
 have:(0:Rat)<=(n:Rat):=by exact_mod_cast Nat.zero_le n
 grind
theorem kQ (x:Rat) (n:Nat):((n:Rat)+1)*tm x (n+1)=x*tm x n:=by
 simp only[tm];have:=zAT n;grind
def cv (a b:Nat->Rat) (n:Nat):Rat:=S (λ i=>a i*b (n-i)) (n+1)
theorem cv_tm (x y:Rat) (n:Nat):cv (tm x) (tm y) n=tm (x+y) n:=by
 induction n with
 | zero=>simp[cv,S,tm];grind
 | succ n ih =>
  have h:=zAT n
  have h1:((n:Rat)+1)*cv (tm x) (tm y) (n+1)=(x+y)*cv (tm x) (tm y) n:=by
   have e1:((n:Rat)+1)*cv (tm x) (tm y) (n+1)=S (λ i=>(i:Rat)*tm x i*tm y (n+1-i)+tm x i*((n+1-i:Nat):Rat)*tm y (n+1-i)) (n+2):=by
    unfold cv;rw[<- zF5];refine kO _ λ i hi=>?_
    have:((n:Rat)+1)=(i:Rat)+((n+1-i:Nat):Rat):=by
     have:(n+1:Nat)=i+(n+1-i):=by omega
     have:=congrArg (λ k:Nat=>(k:Rat)) this
     simp at this;grind
    rw[this];grind
   rw[e1,S_add]
   have e2:S (λ i=>(i:Rat)*tm x i*tm y (n+1-i)) (n+2)=x*cv (tm x) (tm y) n:=by
    rw[zN8];simp;rw[Rat.zero_add];unfold cv;rw[<- zF5];refine kO _ λ i hi=>?_
    have:=kQ x i;grind
   have e3:S (λ i=>tm x i*((n+1-i:Nat):Rat)*tm y (n+1-i)) (n+2)=y*cv (tm x) (tm y) n:=by
    rw[S];simp;rw[Rat.add_zero];unfold cv;rw[<- zF5];refine kO _ λ i hi=>?_
    have e:n+1-i=(n-i)+1:=by omega
    rw[e];have:=kQ y (n-i);simp;grind
   rw[e2,e3];grind
  have h2:=kQ (x+y) n;rw[ih] at h1;have:((n:Rat)+1)*cv (tm x) (tm y) (n+1)=((n:Rat)+1)*tm (x+y) (n+1):=by rw[h1,h2]
  have hz:((n:Rat)+1)≠0:=by grind
  have h5:((n:Rat)+1)*(cv (tm x) (tm y) (n+1)-tm (x+y) (n+1))=0:=by grind
  rcases Rat.mul_eq_zero.1 h5 with h6|h6
  ·exact absurd h6 hz
  ·grind
def E (x:Rat) (M:Nat):Rat:=S (tm x) M
theorem E_add (x y:Rat) (M:Nat):E (x+y) M=S (λ i=>tm x i*E y (M-i)) M:=by
 induction M with
 | zero=>rfl
 | succ M ih =>
  have h1:E (x+y) (M+1)=E (x+y) M+tm (x+y) M:=rfl;rw[h1,ih,<- cv_tm]
  have h2:S (λ i=>tm x i*E y (M+1-i)) (M+1)=S (λ i=>tm x i*E y (M-i)+tm x i*tm y (M-i)) (M+1):=by
   refine kO _ λ i hi=>?_
   have e:M+1-i=(M-i)+1:=by omega
   have e2:E y ((M-i)+1)=E y (M-i)+tm y (M-i):=rfl;rw[e,e2];grind
  rw[h2,S_add]
  have h3:S (λ i=>tm x i*E y (M-i)) (M+1)=S (λ i=>tm x i*E y (M-i)) M:=by
   simp only[S];have:M-M=0:=by omega
   rw[this];have:E y 0=0:=rfl;rw[this];grind
  rw[h3];rfl
theorem E_diff (x y:Rat) (M:Nat):E x M*E y M-E (x+y) M=S (λ i=>tm x i*(E y M-E y (M-i))) M:=by
 rw[E_add];have h1:E x M*E y M=S (λ i=>E y M*tm x i) M:=by rw[zF5];unfold E;grind
 rw[h1]
 have h2:S (λ i=>E y M*tm x i) M=S (λ i=>tm x i*(E y M-E y (M-i))) M+S (λ i=>tm x i*E y (M-i)) M:=by
  rw[<- S_add];refine kO _ λ i hi=>?_
  grind
 rw[h2];grind
def AB (t b:Rat):Prop := -b<=t/\t<=b
theorem AB.nonneg {t b:Rat} (h:AB t b):0<=b:=by obtain⟨h1,h2⟩:=h;grind
theorem AB.mul {s t a b:Rat} (h:AB s a) (k:AB t b):AB (s*t) (a*b):=by
 obtain⟨h1,h2⟩:=h;obtain⟨k1,k2⟩:=k;have p1:=Ye (show 0<=a-s by grind) (show 0<=b+t by grind)
 have p2:=Ye (show 0<=a+s by grind) (show 0<=b-t by grind)
 have p3:=Ye (show 0<=a-s by grind) (show 0<=b-t by grind)
 have p4:=Ye (show 0<=a+s by grind) (show 0<=b+t by grind)
 constructor<;>grind
theorem AB.add {s t a b:Rat} (h:AB s a) (k:AB t b):AB (s+t) (a+b):=by
 obtain⟨h1,h2⟩:=h;obtain⟨k1,k2⟩:=k;constructor<;>grind
theorem AB.mono {s a b:Rat} (h:AB s a) (k:a<=b):AB s b:=by
 obtain⟨h1,h2⟩:=h;constructor<;>grind
theorem AB.neg {s a:Rat} (h:AB s a):AB (-s) a:=by
 obtain⟨h1,h2⟩:=h;constructor<;>grind
theorem S_AB {f g:Nat->Rat} (n:Nat) (h:∀ i,i<n->AB (f i) (g i)):AB (S f n) (S g n):=by
 induction n with
 | zero=>simp only[S];constructor<;>grind
 | succ n ih=>simp only[S];exact (ih (λ i hi=>h i (by omega))).add (h n (by omega))
def q4:Nat->Rat
 | 0=>1
 | n+1=>q4 n/4
theorem kX (n:Nat):0<q4 n:=by
 induction n with
 | zero=>simp only[q4];grind
 | succ n ih=>simp only[q4];grind
theorem q4_add (a b:Nat):q4 (a+b)=q4 a*q4 b:=by
 induction b with
 | zero=>simp only[q4,Nat.add_zero];grind
 | succ b ih=>rw[<- Nat.add_assoc];simp only[q4,ih];grind
theorem E_sub (y:Rat) (K:Rat) (hK:∀ i,AB (tm y i) (K*q4 i)) (a i:Nat):AB (E y (a+i)-E y a) (2*K*(q4 a-q4 (a+i))):=by
 induction i with
 | zero=>simp only[Nat.add_zero];constructor<;>grind
 | succ i ih =>
  have e:E y (a+(i+1))=E y (a+i)+tm y (a+i):=rfl;have e2:q4 (a+(i+1))=q4 (a+i)/4:=rfl;rw[e,e2];have h:=hK (a+i);have hn:=h.nonneg;have:=ih.add h;have h3:E y (a+i)+tm y (a+i)-E y a=E y (a+i)-E y a+tm y (a+i):=by grind
  rw[h3];refine this.mono ?_;grind
theorem zN7 (c:Rat) (n:Nat):S (λ _=>c) n=n*c:=by
 induction n with
 | zero=>simp[S]
 | succ n ih =>
  simp only[S,ih];have:((n+1:Nat):Rat)=(n:Rat)+1:=by simp
  rw[this];grind
theorem E_mul (x y K L:Rat) (hK:∀ i,AB (tm x i) (K*q4 i)) (hL:∀ i,AB (tm y i) (L*q4 i)) (M:Nat):AB (E x M*E y M-E (x+y) M) (M*(2*K*L*q4 M)):=by
 rw[E_diff,<- zN7];refine S_AB _ λ i hi=>?_
 have h1:=E_sub y L hL (M-i) i;rw[show M-i+i=M by omega] at h1
 have h2:=(hK i).mul h1;refine h2.mono ?_;have e:q4 M=q4 i*q4 (M-i):=by rw[<- q4_add];congr 1;omega
 have qI:=(hL M).nonneg;have FH:=(hK M).nonneg;have p:=kX M
 have pK:0<=K:=by
  have:=(hK 0).nonneg;simp only[q4] at this;grind
 have pL:0<=L:=by
  have:=(hL 0).nonneg;simp only[q4] at this;grind
 have p5:=Ye (Ye pK pL) (Ye (Yh (kX i)) (Yh p));rw[e] at p5 ⊢;grind
theorem tm_step (x:Rat) (n:Nat) (c:Rat) (hx:AB (4*x) ((n:Rat)+1)) (h:AB (tm x n) (c*q4 n)):AB (tm x (n+1)) (c*q4 (n+1)):=by
 have hp:=zAT n;have e:=kQ x n;have h2:=hx.mul h;have q:=kX n;have e2:q4 (n+1)=q4 n/4:=rfl;rw[e2];have h3:4*x*tm x n=4*((n:Rat)+1)*tm x (n+1):=by grind
 rw[h3] at h2;obtain⟨g1,g2⟩:=h2;constructor
 ·refine Rat.not_lt.1 λ hn=>?_
  have:=Rat.mul_pos hp (show 0 < -(c*(q4 n/4))-tm x (n+1) by grind)
  grind
 ·refine Rat.not_lt.1 λ hn=>?_
  have:=Rat.mul_pos hp (show 0<tm x (n+1)-c*(q4 n/4) by grind)
  grind
theorem AB.self (t:Rat):∃ b,AB t b:=by
 by_cases h:0<=t
 ·exact⟨t,by constructor<;>grind⟩
 ·exact⟨-t,by constructor<;>grind⟩
theorem tm_upto (x:Rat) (n:Nat):∃ K,0<=K/\∀ i,i<=n->AB (tm x i) (K*q4 i):=by
 induction n with
 | zero=>exact⟨1,by grind,λ i hi=>by
   have:i=0:=by omega
   subst this
   simp only[tm,q4];constructor<;>grind⟩
 | succ n ih =>
  obtain⟨K,h0,h⟩:=ih;obtain⟨b,hb⟩:=AB.self (tm x (n+1));have q:=kX (n+1);have E6:=hb.nonneg;have hq:b/q4 (n+1)*q4 (n+1)=b:=by grind
  have hd:0<=b/q4 (n+1):=by
   refine Rat.not_lt.1 λ hn=>?_
   have:=Rat.mul_pos q (show 0 < -(b/q4 (n+1)) by grind)
   grind
  refine⟨K+b/q4 (n+1),by grind,λ i hi=>?_⟩
  have qi:=kX i
  by_cases I5:i=n+1
  ·subst I5
   refine hb.mono ?_;have:=Ye h0 (Yh q);grind
  ·refine (h i (by omega)).mono ?_
   have:=Ye hd (Yh qi);grind
theorem kC (x:Rat):∃ n:Nat,AB x (n:Rat):=by
 refine⟨x.floor.natAbs+1,?_⟩;have h1:=Rat.lt_floor_add_one x;have h2:=Rat.floor_le x
 have h3:((x.floor+1:Int):Rat)<=((x.floor.natAbs+1:Nat):Rat):=by
  have:x.floor+1<=((x.floor.natAbs+1:Nat):Int):=by omega
  exact_mod_cast this
 have h4 : -((x.floor.natAbs+1:Nat):Rat)<=(x.floor:Rat):=by
  have:(0:Int)<=x.floor+((x.floor.natAbs+1:Nat):Int):=by omega
  have h5:(0:Rat)<=((x.floor+((x.floor.natAbs+1:Nat):Int):Int):Rat):=by exact_mod_cast this
  have h6:((x.floor+((x.floor.natAbs+1:Nat):Int):Int):Rat)=(x.floor:Rat)+((x.floor.natAbs+1:Nat):Rat):=by rw[Rat.intCast_add];rfl
  grind
 constructor<;>grind
theorem zNQ (x:Rat):∃ K,0<=K/\∀ i,AB (tm x i) (K*q4 i):=by
 obtain⟨n,hn⟩:=kC (4*x);obtain⟨K,h0,h⟩:=tm_upto x n;refine⟨K,h0,λ i=>?_⟩
 by_cases hi:i<=n
 ·exact h i hi
 ·obtain⟨j,rfl⟩:∃ j,i=n+j:=⟨i-n,by omega⟩
  clear hi
  induction j with
  | zero=>exact h n (Yj _)
  | succ j ih =>
   refine tm_step x (n+j) K (hn.mono ?_) ih;have h1:((n+j:Nat):Rat)=(n:Rat)+j:=by simp
   have h2:(0:Rat)<=(j:Rat):=by exact_mod_cast Nat.zero_le j
   rw[h1];grind
theorem near_bd (M:Nat):0<=(M:Rat)*q4 M:=Ye (by exact_mod_cast Nat.zero_le M) (Yh (kX M))
theorem nat_q4 (M:Nat):(M:Rat)*((M:Rat)+1)*q4 M<=1:=by
 induction M with
 | zero=>simp only[q4];grind
 | succ M ih =>
  have e:((M+1:Nat):Rat)=(M:Rat)+1:=by simp
  have e2:q4 (M+1)=q4 M/4:=rfl;have q:=kX M;have hM:(0:Rat)<=(M:Rat):=by exact_mod_cast Nat.zero_le M
  rw[e,e2]
  rcases Nat.eq_zero_or_pos M with h|h
  ·subst h
   simp only[q4];grind
  ·have h1:(1:Rat)<=(M:Rat):=by exact_mod_cast h
   have p:=Ye (Ye (show 0<=(M:Rat)+1 by grind) (show 0<=3*(M:Rat)-2 by grind)) (Yh q)
   grind
theorem zAR {x:Rat} (h:0<=x) (n:Nat):0<=tm x n:=by
 induction n with
 | zero=>simp only[tm];grind
 | succ n ih =>
  have e:=kQ x n;have hp:=zAT n;refine Rat.not_lt.1 λ hn=>?_
  have h1:=Rat.mul_pos hp (show 0 < -tm x (n+1) by grind)
  have h2:=Ye h ih;grind
theorem E_one {x:Rat} (h:0<=x) {M:Nat} (hM:1<=M):1<=E x M:=by
 obtain⟨n,rfl⟩:∃ n,M=n+1:=⟨M-1,by omega⟩
 clear hM
 induction n with
 | zero=>simp only[E,S,tm];grind
 | succ n ih =>
  have e:E x (n+1+1)=E x (n+1)+tm x (n+1):=rfl;have:=zAR h (n+1);rw[e];grind
end Go.Proofs.YtgmnknmjainabacGreat.Ex
namespace Go.Proofs.YtgmnknmjainabacGreat.Ex
def Null (f:Nat->Rat):Prop:=∀ e:Rat,0<e->∃ N:Nat,∀ M,N<=M->AB (f M) e
def Has (a b:Rat) (x:Nat->Rat):Prop:=∀ e:Rat,0<e->∃ N:Nat,∀ M,N<=M->a-e<=x M/\x M<=b+e
def Bdd (f:Nat->Rat):Prop:=∃ K N,0<=K/\∀ M:Nat,N<=M->AB (f M) K
theorem AB.sub {s t a b:Rat} (h:AB s a) (k:AB t b):AB (s-t) (a+b):=by
 obtain⟨h1,h2⟩:=h;obtain⟨k1,k2⟩:=k;constructor<;>grind
theorem AB.zero {b:Rat} (h:0<=b):AB 0 b:=by constructor<;>grind
theorem rdm {a b:Rat} (h:0<b):a/b*b=a:=Rat.div_mul_cancel (by grind)
theorem zH {a b:Rat} (ha:0<a) (hb:0<b):0<a/b:=by
 refine Rat.not_le.1 λ hn=>?_
 have h1:=Ye (show 0 <= -(a/b) by grind) (Yh hb)
 have h2:=rdm (a:=a) hb;generalize a/b=q at *;grind
theorem null_zero:Null (λ _=>0):=λ e he=>⟨0,λ M _=>AB.zero (Yh he)⟩
theorem Null.add {f g:Nat->Rat} (h:Null f) (k:Null g):Null (λ M=>f M+g M):=λ e he=>by
 obtain⟨N1,h1⟩:=h (e/2) (by grind)
 obtain⟨N2,h2⟩:=k (e/2) (by grind)
 exact⟨N1+N2,λ M hM=>((h1 M (by omega)).add (h2 M (by omega))).mono (by grind)⟩
theorem Null.neg {f:Nat->Rat} (h:Null f):Null (λ M => -f M):=λ e he=>by
 obtain⟨N1,h1⟩:=h e he;exact⟨N1,λ M hM=>(h1 M hM).neg⟩
theorem Null.sub {f g:Nat->Rat} (h:Null f) (k:Null g):Null (λ M=>f M-g M):=λ e he=>by
 obtain⟨N1,h1⟩:=h (e/2) (by grind)
 obtain⟨N2,h2⟩:=k (e/2) (by grind)
 exact⟨N1+N2,λ M hM=>((h1 M (by omega)).sub (h2 M (by omega))).mono (by grind)⟩
theorem Null.bmul {f g:Nat->Rat} (h:Null f) (k:Bdd g):Null (λ M=>f M*g M):=λ e he=>by
 obtain⟨K,N2,k0,h2⟩:=k;have hp:0<K+1:=by grind
 have h3:=rdm (a:=e) hp;have h4:=zH he hp;obtain⟨N1,h1⟩:=h (e/(K+1)) h4;generalize e/(K+1)=q at *;refine⟨N1+N2,λ M hM=>((h1 M (by omega)).mul (h2 M (by omega))).mono ?_⟩
 grind
theorem Null.of_eq {f g:Nat->Rat} (h:Null f) (e:∀ M,g M=f M):Null g:=by
 have:g=f:=funext e;rw[this];exact h
theorem Null.of_eq_from {f g:Nat->Rat} (h:Null f) (N:Nat) (e:∀ M,N<=M->g M=f M):Null g:=λ d hd=>by
 obtain⟨N1,h1⟩:=h d hd;exact⟨N+N1,λ M hM=>by rw[e M (by omega)];exact h1 M (by omega)⟩
theorem Null.of_le {f g:Nat->Rat} (h:Null f) (N:Nat) (e:∀ M,N<=M->AB (g M) (f M)):Null g:=λ d hd=>by
 obtain⟨N1,h1⟩:=h d hd;exact⟨N+N1,λ M hM=>(e M (by omega)).mono (h1 M (by omega)).2⟩
theorem Null.bdd {f:Nat->Rat} (h:Null f):Bdd f:=by
 obtain⟨N,h1⟩:=h 1 (by grind)
 exact⟨1,N,by grind,h1⟩
theorem zBP (K:Rat) (k0:0<=K):Null (λ M=>K*((M:Rat)*q4 M)):=λ e he=>by
 obtain⟨n,eZ,bL⟩:=kC (K/e);refine⟨n+1,λ M hM=>?_⟩
 have TJ:(0:Rat)<=(M:Rat):=by exact_mod_cast Nat.zero_le M
 have TK:(n:Rat)<=(M:Rat):=by exact_mod_cast (show n<=M by omega)
 have u:=nat_q4 M;have q:=near_bd M;have e1:K/e*e=K:=by grind
 have s1:=Ye (show 0<=(M:Rat)-K/e by grind) (Yh he)
 have s2:=Ye (show 0<=(M:Rat)*e-K by grind) q
 have s3:=Ye (Yh he) (show 0<=1-(M:Rat)*((M:Rat)+1)*q4 M by grind)
 have s4:=Ye (Yh he) q;have s5:=Ye k0 q;constructor<;>grind
theorem Bdd.add {f g:Nat->Rat} (h:Bdd f) (k:Bdd g):Bdd (λ M=>f M+g M):=by
 obtain⟨K,N,k0,h⟩:=h;obtain⟨L,N',l0,k⟩:=k;exact⟨K+L,N+N',by grind,λ M hM=>(h M (by omega)).add (k M (by omega))⟩
theorem Bdd.neg {f:Nat->Rat} (h:Bdd f):Bdd (λ M => -f M):=by
 obtain⟨K,N,k0,h⟩:=h;exact⟨K,N,k0,λ M hM=>(h M hM).neg⟩
theorem Bdd.sub {f g:Nat->Rat} (h:Bdd f) (k:Bdd g):Bdd (λ M=>f M-g M):=by
 obtain⟨K,N,k0,h⟩:=h;obtain⟨L,N',l0,k⟩:=k;exact⟨K+L,N+N',by grind,λ M hM=>(h M (by omega)).sub (k M (by omega))⟩
theorem Bdd.mul {f g:Nat->Rat} (h:Bdd f) (k:Bdd g):Bdd (λ M=>f M*g M):=by
 obtain⟨K,N,k0,h⟩:=h;obtain⟨L,N',l0,k⟩:=k;exact⟨K*L,N+N',Ye k0 l0,λ M hM=>(h M (by omega)).mul (k M (by omega))⟩
theorem Bdd.const (c:Rat):Bdd (λ _=>c):=by
 obtain⟨b,hb⟩:=AB.self c;exact⟨b,0,hb.nonneg,λ _ _=>hb⟩
theorem Bdd.of_le {f:Nat->Rat} (K:Rat) (N:Nat) (h:∀ M,N<=M->AB (f M) K):Bdd f:=⟨K,N,(h N (Yj _)).nonneg,h⟩
theorem Has.le {a b:Rat} {x:Nat->Rat} (h:Has a b x):a<=b:=by
 refine Rat.not_lt.1 λ hn=>?_
 obtain⟨N,h1⟩:=h ((a-b)/4) (by grind)
 have:=h1 N (Yj _);grind
theorem Has.touch {a b c d:Rat} {x:Nat->Rat} (h:Has a b x) (k:Has c d x):a<=d:=by
 refine Rat.not_lt.1 λ hn=>?_
 obtain⟨N,h1⟩:=h ((a-d)/4) (by grind)
 obtain⟨N',h2⟩:=k ((a-d)/4) (by grind)
 have:=h1 (N+N') (by omega)
 have:=h2 (N+N') (by omega)
 grind
theorem Has.mono {a b a' b':Rat} {x:Nat->Rat} (h:Has a b x) (h1:a'<=a) (h2:b<=b'):Has a' b' x:=λ e he=>by
 obtain⟨N,h⟩:=h e he;exact⟨N,λ M hM=>by have:=h M hM;constructor<;>grind⟩
theorem Has.congr {a b:Rat} {x y:Nat->Rat} (h:Has a b x) (k:Null (λ M=>y M-x M)):Has a b y:=λ e he=>by
 obtain⟨N,h⟩:=h (e/2) (by grind)
 obtain⟨N',k⟩:=k (e/2) (by grind)
 refine⟨N+N',λ M hM=>?_⟩
 have:=h M (by omega)
 obtain⟨k1,k2⟩:=k M (by omega)
 constructor<;>grind
theorem Has.bdd {a b:Rat} {x:Nat->Rat} (h:Has a b x):Bdd x:=by
 obtain⟨N,h1⟩:=h 1 (by grind)
 obtain⟨p,hp⟩:=AB.self a;obtain⟨q,hq⟩:=AB.self b;have:=hp.nonneg;have:=hq.nonneg;refine⟨p+q+1,N,by grind,λ M hM=>?_⟩
 have:=h1 M hM;obtain⟨_,_⟩:=hp;obtain⟨_,_⟩:=hq;constructor<;>grind
theorem Has.const {a b c:Rat} (h1:a<=c) (h2:c<=b):Has a b (λ _=>c):=λ e he=>⟨0,λ M _=>by constructor<;>grind⟩
theorem Has.of_from {a b:Rat} {x:Nat->Rat} (N:Nat) (h:∀ M,N<=M->a<=x M/\x M<=b):Has a b x:=λ e he=>⟨N,λ M hM=>by have:=h M hM;constructor<;>grind⟩
theorem Has.add {a b c d:Rat} {x y:Nat->Rat} (h:Has a b x) (k:Has c d y):Has (a+c) (b+d) (λ M=>x M+y M):=λ e he=>by
 obtain⟨N,h⟩:=h (e/2) (by grind)
 obtain⟨N',k⟩:=k (e/2) (by grind)
 refine⟨N+N',λ M hM=>?_⟩
 have:=h M (by omega)
 have:=k M (by omega)
 constructor<;>grind
theorem Has.sub {a b c d:Rat} {x y:Nat->Rat} (h:Has a b x) (k:Has c d y):Has (a-d) (b-c) (λ M=>x M-y M):=λ e he=>by
 obtain⟨N,h⟩:=h (e/2) (by grind)
 obtain⟨N',k⟩:=k (e/2) (by grind)
 refine⟨N+N',λ M hM=>?_⟩
 have:=h M (by omega)
 have:=k M (by omega)
 constructor<;>grind
theorem clamp {a b x e:Rat} (fT:a<=b) (he:0<=e) (h1:a-e<=x) (h2:x<=b+e):∃ x0,a<=x0/\x0<=b/\AB (x-x0) e:=by
 by_cases h:x<a
 ·exact⟨a,by grind,fT,by constructor<;>grind⟩
 ·by_cases h':b<x
  ·exact⟨b,fT,by grind,by constructor<;>grind⟩
  ·exact⟨x,by grind,by grind,by constructor<;>grind⟩
theorem corner {a b c d L U x y:Rat} (cn:a<=x) (ah:x<=b) (fg:c<=y) (Oi:y<=d)
  (l1:L<=a*c) (l2:L<=a*d) (l3:L<=b*c) (l4:L<=b*d) (u1:a*c<=U) (u2:a*d<=U) (u3:b*c<=U) (u4:b*d<=U):L<=x*y/\x*y<=U:=by
 have p1:=Ye (show 0<=x-a by grind) (show 0<=y-c by grind)
 have p2:=Ye (show 0<=x-a by grind) (show 0<=d-y by grind)
 have p3:=Ye (show 0<=b-x by grind) (show 0<=y-c by grind)
 have p4:=Ye (show 0<=b-x by grind) (show 0<=d-y by grind)
 rcases Rat.le_total (a:=0) (b:=y) with hy|hy
 ·have g1:=Ye (show 0<=x-a by grind) hy
  have g2:=Ye (show 0<=b-x by grind) hy
  rcases Rat.le_total (a:=0) (b:=a) with ha|ha
  ·have:=Ye ha (show 0<=y-c by grind)
   rcases Rat.le_total (a:=0) (b:=b) with hb|hb
   ·have:=Ye hb (show 0<=d-y by grind);constructor<;>grind
   ·have:=Ye (show 0 <= -b by grind) (show 0<=y-c by grind);constructor<;>grind
  ·have:=Ye (show 0 <= -a by grind) (show 0<=d-y by grind)
   rcases Rat.le_total (a:=0) (b:=b) with hb|hb
   ·have:=Ye hb (show 0<=d-y by grind);constructor<;>grind
   ·have:=Ye (show 0 <= -b by grind) (show 0<=y-c by grind);constructor<;>grind
 ·have g1:=Ye (show 0<=x-a by grind) (show 0 <= -y by grind)
  have g2:=Ye (show 0<=b-x by grind) (show 0 <= -y by grind)
  rcases Rat.le_total (a:=0) (b:=a) with ha|ha
  ·have:=Ye ha (show 0<=d-y by grind)
   rcases Rat.le_total (a:=0) (b:=b) with hb|hb
   ·have:=Ye hb (show 0<=y-c by grind);constructor<;>grind
   ·have:=Ye (show 0 <= -b by grind) (show 0<=d-y by grind);constructor<;>grind
  ·have:=Ye (show 0 <= -a by grind) (show 0<=y-c by grind)
   rcases Rat.le_total (a:=0) (b:=b) with hb|hb
   ·have:=Ye hb (show 0<=y-c by grind);constructor<;>grind
   ·have:=Ye (show 0 <= -b by grind) (show 0<=d-y by grind);constructor<;>grind
theorem AB.between {c d y p q:Rat} (hp:AB c p) (hq:AB d q) (h1:c<=y) (h2:y<=d):AB y (p+q):=by
 have:=hp.nonneg;have:=hq.nonneg;obtain⟨_,_⟩:=hp;obtain⟨_,_⟩:=hq;constructor<;>grind
theorem Has.mul {a b c d L U:Rat} {x y:Nat->Rat} (h:Has a b x) (k:Has c d y)
  (l1:L<=a*c) (l2:L<=a*d) (l3:L<=b*c) (l4:L<=b*d) (u1:a*c<=U) (u2:a*d<=U) (u3:b*c<=U) (u4:b*d<=U):Has L U (λ M=>x M*y M):=λ e he=>by
 obtain⟨R,N0,r0,hR⟩:=h.bdd;obtain⟨p,lj⟩:=AB.self c;obtain⟨q,fE⟩:=AB.self d;have p0:=lj.nonneg;have q0:=fE.nonneg;have hp:0<R+(p+q)+1:=by grind
 have hd:=zH he hp;have fT:=h.le;have Vj:=k.le;obtain⟨N,h⟩:=h _ hd;obtain⟨N',k⟩:=k _ hd;refine⟨N+N'+N0,λ M hM=>?_⟩
 have h1:=h M (by omega)
 have k1:=k M (by omega)
 have hr:=hR M (by omega)
 have hδ:=rdm (a:=e) hp;generalize e/(R+(p+q)+1)=δ at *;obtain⟨x0,a1,a2,a3⟩:=clamp fT (Yh hd) h1.1 h1.2;obtain⟨y0,b1,b2,b3⟩:=clamp Vj (Yh hd) k1.1 k1.2;have hc:=corner a1 a2 b1 b2 l1 l2 l3 l4 u1 u2 u3 u4;have g:=(hr.mul b3).add (a3.mul (AB.between lj fE b1 b2));have e1:x M*(y M-y0)+(x M-x0)*y0=x M*y M-x0*y0:=by grind
 rw[e1] at g;obtain⟨g1,g2⟩:=g
 show L-e<=x M*y M/\x M*y M<=U+e
 generalize x M*y M=X at *;generalize x0*y0=Y at *;constructor<;>grind
theorem Has.scale {a b c:Rat} {x:Nat->Rat} (h:Has a b x) (hc:0<=c):Has (c*a) (c*b) (λ M=>c*x M):=by
 have fT:=h.le;have:=Ye hc (show 0<=b-a by grind)
 exact Has.mul (Has.const (Rat.le_refl) (Rat.le_refl) (c:=c)) h (by grind) (by grind) (by grind) (by grind) (by grind) (by grind) (by grind) (by grind)
theorem Has.of_eq {a b:Rat} {x y:Nat->Rat} (h:Has a b x) (e:∀ M,y M=x M):Has a b y:=by
 have:y=x:=funext e;rw[this];exact h
end Go.Proofs.YtgmnknmjainabacGreat.Ex
namespace Go.Proofs.YtgmnknmjainabacGreat.Ex
theorem tm_AB {x R:Rat} (h:AB x R) (n:Nat):AB (tm x n) (tm R n):=by
 induction n with
 | zero=>simp only[tm];constructor<;>grind
 | succ n ih =>
  have hp:=zAT n;have g:=ih.mul h;have e1:=kQ x n;have e2:=kQ R n;have e3:tm x n*x=((n:Rat)+1)*tm x (n+1):=by grind
  have e4:tm R n*R=((n:Rat)+1)*tm R (n+1):=by grind
  rw[e3,e4] at g;obtain⟨g1,g2⟩:=g;generalize (n:Rat)+1=m at *;constructor
  ·refine Rat.not_lt.1 λ hn=>?_
   have:=Rat.mul_pos hp (show 0 < -tm R (n+1)-tm x (n+1) by grind)
   grind
  ·refine Rat.not_lt.1 λ hn=>?_
   have:=Rat.mul_pos hp (show 0<tm x (n+1)-tm R (n+1) by grind)
   grind
theorem zKF (R:Rat):∃ K,0<=K/\∀ x,AB x R->∀ i,AB (tm x i) (K*q4 i):=by
 obtain⟨K,k0,h⟩:=zNQ R;exact⟨K,k0,λ x hx i=>(tm_AB hx i).mono (h i).2⟩
theorem zKO (R:Rat):∃ K,0<=K/\∀ M x y,AB x R->AB y R->AB (E x M*E y M-E (x+y) M) (K*((M:Rat)*q4 M)):=by
 obtain⟨K,k0,h⟩:=zKF R;refine⟨2*K*K,?_,λ M x y hx hy=>(E_mul x y K K (h x hx) (h y hy) M).mono (by grind)⟩
 have:=Ye k0 k0;grind
theorem zDH (R:Rat):∃ K,0<=K/\∀ M x,AB x R->AB (E x M) K:=by
 obtain⟨K,k0,h⟩:=zKF R;refine⟨2*K,by grind,λ M x hx=>?_⟩
 have:=E_sub x K (h x hx) 0 M;have e:E x 0=0:=rfl;rw[Nat.zero_add,e] at this;have e1:E x M-0=E x M:=by grind
 rw[e1] at this;refine this.mono ?_;have:=kX M;have:=Ye k0 (Yh this);simp only[q4];grind
theorem tm_zero (n:Nat):tm 0 (n+1)=0:=by
 have:=kQ 0 n;have hp:=zAT n;have h5:((n:Rat)+1)*tm 0 (n+1)=0:=by grind
 rcases Rat.mul_eq_zero.1 h5 with h6|h6
 ·grind
 ·exact h6
theorem kV (M:Nat):E 0 (M+1)=1:=by
 induction M with
 | zero=>simp only[E,S,tm];grind
 | succ M ih =>
  have e:E 0 (M+1+1)=E 0 (M+1)+tm 0 (M+1):=rfl;rw[e,ih,tm_zero];grind
theorem zN (x:Rat):0<=x*x:=by
 rcases Rat.le_total (a:=0) (b:=x) with h|h
 ·exact Ye h h
 ·have:=Ye (show 0 <= -x by grind) (show 0 <= -x by grind);grind
theorem E_low (R:Rat):∃ c,0<c/\∃ N,∀ M,N<=M->∀ x,AB x R->c<=E x M:=by
 obtain⟨K,k0,hK⟩:=zKO R;obtain⟨L,l0,hL⟩:=zDH R;have hp:0<4*(L+1):=by grind
 have hc:=zH (show (0:Rat)<1 by grind) hp
 have hcL:=rdm (a:=1) hp;refine⟨_,hc,?_⟩;generalize 1/(4*(L+1))=c at *;obtain⟨N,hN⟩:=zBP K k0 c hc;refine⟨N+1,λ M hM x hx=>?_⟩
 obtain⟨n1,n2⟩:AB (K*((M:Rat)*q4 M)) c:=hN M (by omega)
 have ah:AB (x/2) R:=by obtain⟨a,b⟩:=hx;constructor<;>grind
 have h1:=hK M (x/2) (x/2) ah ah;rw[show x/2+x/2=x by grind] at h1
 have h2:=hK M x (-x) hx hx.neg;rw[show x + -x=0 by grind] at h2
 obtain⟨m,rfl⟩:∃ m,M=m+1:=⟨M-1,by omega⟩
 rw[kV] at h2;have h3:=hL (m+1) (-x) hx.neg;have h4:=zN (E (x/2) (m+1));obtain⟨a1,a2⟩:=h1;obtain⟨b1,b2⟩:=h2;generalize K*(((m+1:Nat):Rat)*q4 (m+1))=η at *;generalize E (x/2) (m+1)*E (x/2) (m+1)=s at *;refine Rat.not_lt.1 λ hn=>?_
 have h5:AB (E x (m+1)) c:=by constructor<;>grind
 have h6:=h5.mul h3;obtain⟨c1,c2⟩:=h6;generalize E x (m+1)*E (-x) (m+1)=t at *;have:c*L<=1/4:=by grind
 have:c<=1/4:=by
  have:=Ye (Yh hc) l0;grind
 grind
theorem zI8 {h b:Rat} (hb:AB h b) (h4:b<=1/4) (k:Nat):AB (tm h (k+1)) (b*q4 k):=by
 have b0:=hb.nonneg
 induction k with
 | zero=>simp only[tm,q4];obtain⟨_,_⟩:=hb;simp;constructor<;>grind
 | succ k ih =>
  have e:=kQ h (k+1);have hp:=zAT (k+1)
  have lj:(1:Rat)<=((k+1:Nat):Rat)+1:=by
   have:(0:Rat)<=((k+1:Nat):Rat):=by exact_mod_cast Nat.zero_le (k+1)
   grind
  have g:=hb.mul ih;rw[<- e] at g;have q:=kX k;have e2:q4 (k+1)=q4 k/4:=rfl;rw[e2];generalize ((k+1:Nat):Rat)+1=m at *
  have g2:AB (m*tm h (k+1+1)) (b*(q4 k/4)):=by
   refine g.mono ?_;have:=Ye (Ye b0 (Yh q)) (show 0<=1/4-b by grind)
   grind
  obtain⟨g3,g4⟩:=g2;have hn:=Ye b0 (Yh q);generalize b*(q4 k/4)=r at *;have hr:0<=r:=by grind
  constructor
  ·refine Rat.not_lt.1 λ hn=>?_
   have:=Ye (show 0<=m-1 by grind) (show 0 <= -r-tm h (k+1+1) by grind)
   have:=Ye (show 0<=m-1 by grind) hr
   grind
  ·refine Rat.not_lt.1 λ hn=>?_
   have:=Ye (show 0<=m-1 by grind) (show 0<=tm h (k+1+1)-r by grind)
   have:=Ye (show 0<=m-1 by grind) hr
   grind
theorem zNX {h b:Rat} (hb:AB h b) (h4:b<=1/4) (M:Nat):AB (E h (M+1)-1) (2*b*(1-q4 M)):=by
 have b0:=hb.nonneg
 induction M with
 | zero=>simp only[E,S,tm,q4];constructor<;>grind
 | succ M ih =>
  have e:E h (M+1+1)=E h (M+1)+tm h (M+1):=rfl;have g:=ih.add (zI8 hb h4 M);rw[e];have e2:q4 (M+1)=q4 M/4:=rfl;have q:=Ye b0 (Yh (kX M));have e3:E h (M+1)-1+tm h (M+1)=E h (M+1)+tm h (M+1)-1:=by grind
  rw[e3] at g;rw[e2];exact g.mono (by grind)
theorem zGU {h b:Rat} (hb:AB h b) (h4:b<=1/4) {M:Nat} (hM:1<=M):AB (E h M-1) (2*b):=by
 obtain⟨m,rfl⟩:∃ m,M=m+1:=⟨M-1,by omega⟩
 refine (zNX hb h4 m).mono ?_;have q:=Ye hb.nonneg (Yh (kX m));grind
theorem zMI {h b:Rat} (hb:AB h b) (h4:b<=1/4) (M:Nat):AB (E h (M+2)-1-h) (2*(b*b)*(1-q4 M)):=by
 have b0:=hb.nonneg;have bb:=Ye b0 b0
 induction M with
 | zero =>
  have:E h 2=1+h:=by simp[E,S,tm];grind
  rw[this];simp only[q4];constructor<;>grind
 | succ M ih =>
  have e:E h (M+1+2)=E h (M+2)+tm h (M+2):=rfl;have hp:=zAT (M+1)
  have g0:AB (tm h (M+2)) (b*b*q4 M):=by
   have e:=kQ h (M+1)
   have lj:(1:Rat)<=((M+1:Nat):Rat)+1:=by
    have:(0:Rat)<=((M+1:Nat):Rat):=by exact_mod_cast Nat.zero_le (M+1)
    grind
   have g:=hb.mul (zI8 hb h4 M);rw[<- e] at g;have hr:=Ye bb (Yh (kX M));rw[show b*(b*q4 M)=b*b*q4 M by grind] at g
   obtain⟨g3,g4⟩:=g;generalize ((M+1:Nat):Rat)+1=m at *;generalize b*b*q4 M=r at *;rw[show M+1+1=M+2 by omega] at *
   constructor
   ·refine Rat.not_lt.1 λ hn=>?_
    have:=Ye (show 0<=m-1 by grind) (show 0 <= -r-tm h (M+2) by grind)
    have:=Ye (show 0<=m-1 by grind) hr
    grind
   ·refine Rat.not_lt.1 λ hn=>?_
    have:=Ye (show 0<=m-1 by grind) (show 0<=tm h (M+2)-r by grind)
    have:=Ye (show 0<=m-1 by grind) hr
    grind
  have g:=ih.add g0;rw[e];have e2:q4 (M+1)=q4 M/4:=rfl;have q:=Ye bb (Yh (kX M));have e3:E h (M+2)-1-h+tm h (M+2)=E h (M+2)+tm h (M+2)-1-h:=by grind
  rw[e3] at g;rw[e2];exact g.mono (by grind)
theorem yV {h b:Rat} (hb:AB h b) (h4:b<=1/4) {M:Nat} (hM:2<=M):AB (E h M-1-h) (2*(b*b)):=by
 obtain⟨m,rfl⟩:∃ m,M=m+2:=⟨M-2,by omega⟩
 refine (zMI hb h4 m).mono ?_;have q:=Ye (Ye hb.nonneg hb.nonneg) (Yh (kX m));grind
def Ev (x:Nat->Rat) (M:Nat):Rat:=E (x M) M
theorem yW {x:Nat->Rat} (h:Bdd x):Bdd (Ev x):=by
 obtain⟨R,N,r0,h⟩:=h;obtain⟨K,k0,hK⟩:=zDH R;exact⟨K,N,k0,λ M hM=>hK M _ (h M hM)⟩
theorem zAB {x y:Nat->Rat} (hx:Bdd x) (hy:Bdd y):Null (λ M=>Ev x M*Ev y M-Ev (λ M=>x M+y M) M):=by
 obtain⟨R,N,r0,hx⟩:=hx;obtain⟨R',N',xc,hy⟩:=hy;obtain⟨K,k0,hK⟩:=zKO (R+R');exact (zBP K k0).of_le (N+N') λ M hM=>hK M _ _ ((hx M (by omega)).mono (by grind)) ((hy M (by omega)).mono (by grind))
theorem zBS {x:Nat->Rat} (hx:Bdd x):∃ c,0<c/\∃ N,∀ M,N<=M->c<=Ev x M:=by
 obtain⟨R,N,r0,hx⟩:=hx;obtain⟨c,hc,N',h⟩:=E_low R;exact⟨c,hc,N+N',λ M hM=>h M (by omega) _ (hx M (by omega))⟩
theorem zN0 {h:Nat->Rat} (hn:Null h):Null (λ M=>Ev h M-1):=λ e he=>by
 obtain⟨N,h1⟩:=hn (1/4) (by grind)
 obtain⟨N',h2⟩:=hn (e/2) (by grind)
 refine⟨N+N'+1,λ M hM=>?_⟩
 rcases Rat.le_total (a:=e/2) (b:=1/4) with hc|hc
 ·exact (zGU (h2 M (by omega)) hc (by omega)).mono (by grind)
 ·exact (zGU (h1 M (by omega)) (by grind) (by omega)).mono (by grind)
theorem zDN {x y:Nat->Rat} (hx:Bdd x) (hy:Bdd y) (h:Null (λ M=>x M-y M)):Null (λ M=>Ev x M-Ev y M):=by
 have h1:=zAB hy (hx.sub hy);have h2:=(zN0 h).bmul (yW hy);have e:(λ M=>y M+(x M-y M))=x:=funext λ M=>by grind
 rw[e] at h1;refine (h2.sub h1).of_eq λ M=>?_
 grind
theorem zNY {x:Nat->Rat} (hx:Bdd x):Null (λ M=>Ev x M*Ev (λ M => -x M) M-1):=by
 have h1:=zAB hx hx.neg;refine h1.of_eq_from 1 λ M hM=>?_
 obtain⟨m,rfl⟩:∃ m,M=m+1:=⟨M-1,by omega⟩
 have:Ev (λ M=>x M + -x M) (m+1)=1:=by
  show E (x (m+1) + -x (m+1)) (m+1)=1
  rw[show x (m+1) + -x (m+1)=0 by grind,kV]
 rw[this]
theorem zCL {x y z:Nat->Rat} (hx:Bdd x) (hy:Bdd y) (hz:Null z) (N0:Nat) (h:∀ M,N0<=M->x M<=y M+z M):∃ v,Null v/\∃ N,∀ M,N<=M->Ev x M<=Ev y M+v M:=by
 have b1:Bdd (λ M=>y M+z M):=hy.add hz.bdd
 have n1:=zDN b1 hy (hz.of_eq λ M=>by grind)
 have n2:=zAB hx (b1.sub hx);have e:(λ M=>x M+(y M+z M-x M))=λ M=>y M+z M:=funext λ M=>by grind
 rw[e] at n2;obtain⟨c,hc,N1,hl⟩:=zBS hx;refine⟨_,n1.add n2,N0+N1+1,λ M hM=>?_⟩
 have h1:=E_one (show 0<=y M+z M-x M by have:=h M (by omega);grind) (show 1<=M by omega)
 have h2:=hl M (by omega)
 have h3:=Ye (show 0<=Ev x M by grind) (show 0<=Ev (λ M=>y M+z M-x M) M-1 by have:Ev (λ M=>y M+z M-x M) M=E (y M+z M-x M) M:=rfl;rw[this];grind)
 grind
theorem zHZ {x:Rat} (h:0<=x) {M:Nat} (hM:2<=M):1+x<=E x M:=by
 obtain⟨m,rfl⟩:∃ m,M=m+2:=⟨M-2,by omega⟩
 clear hM
 induction m with
 | zero=>simp[E,S,tm];grind
 | succ m ih =>
  have e1:E x (m+1+2)=E x (m+2)+tm x (m+2):=rfl;have:=zAR h (m+2);grind
theorem zJI {x y z:Nat->Rat} (hx:Bdd x) (hy:Bdd y) (hz:Null z) (N0:Nat) (h:∀ M,N0<=M->Ev x M<=Ev y M+z M) (e:Rat) (he:0<e):∃ N,∀ M,N<=M->x M<=y M+e:=by
 obtain⟨R,N1,r0,hx⟩:=hx;obtain⟨R',N2,xc,hy⟩:=hy;obtain⟨K,k0,hK⟩:=zKO (R+R'+R+R'+e);obtain⟨c,hc,N3,hl⟩:=E_low (R+R'+R+R'+e);have hce:=Rat.mul_pos hc he;obtain⟨N4,hn⟩:=zBP K k0 (c*e/4) (by grind)
 obtain⟨N5,hz⟩:=hz (c*e/4) (by grind)
 refine⟨N0+N1+N2+N3+N4+N5+2,λ M hM=>?_⟩
 refine Rat.not_lt.1 λ E2=>?_
 have a1:=hx M (by omega)
 have a2:=hy M (by omega)
 have a3:=h M (by omega)
 obtain⟨a4,a5⟩:AB (K*((M:Rat)*q4 M)) (c*e/4):=hn M (by omega)
 obtain⟨a6,a7⟩:=hz M (by omega)
 have Oj:AB (y M+e) (R+R'+R+R'+e):=by obtain⟨_,_⟩:=a2;constructor<;>grind
 have hu:AB (x M-(y M+e)) (R+R'+R+R'+e):=by obtain⟨_,_⟩:=a2;obtain⟨_,_⟩:=a1;constructor<;>grind
 have mM:AB (y M) (R+R'+R+R'+e):=a2.mono (by grind)
 have ND:AB e (R+R'+R+R'+e):=by constructor<;>grind
 obtain⟨b1,b2⟩:=hK M _ _ Oj hu;obtain⟨b3,b4⟩:=hK M _ _ mM ND;rw[show y M+e+(x M-(y M+e))=x M by grind] at b1 b2
 have l1:=hl M (by omega) _ Oj
 have l2:=hl M (by omega) _ mM
 have o1:=E_one (show 0<=x M-(y M+e) by grind) (show 1<=M by omega)
 have o2:=zHZ (Yh he) (show 2<=M by omega)
 have p1:=Ye (show 0<=E (y M+e) M by grind) (show 0<=E (x M-(y M+e)) M-1 by grind)
 have p2:=Ye (show 0<=E (y M) M by grind) (show 0<=E e M-(1+e) by grind)
 have p3:=Ye (show 0<=E (y M) M-c by grind) (Yh he)
 have a3':E (x M) M<=E (y M) M+z M:=a3;generalize E (x M) M=X at *;generalize E (y M) M=Y at *;generalize K*((M:Rat)*q4 M)=η at *;grind
end Go.Proofs.YtgmnknmjainabacGreat.Ex
namespace Go.Proofs.YtgmnknmjainabacGreat.Ex
def pw (x:Rat):Nat->Rat
 | 0=>1
 | k+1=>x*pw x k
def q2:Nat->Rat
 | 0=>1
 | n+1=>q2 n/2
theorem kW (n:Nat):0<q2 n:=by
 induction n with
 | zero=>simp only[q2];grind
 | succ n ih=>simp only[q2];grind
theorem q2_le (n:Nat):q2 n<=1:=by
 induction n with
 | zero=>simp only[q2];grind
 | succ n ih=>simp only[q2];have:=kW n;grind
theorem zRE {y:Rat} (h:AB y (1/2)) (k:Nat):AB (pw y k) (q2 k):=by
 induction k with
 | zero=>simp only[pw,q2];constructor<;>grind
 | succ k ih=>simp only[pw,q2];exact (h.mul ih).mono (by grind)
theorem pw_step {y h:Rat} (hy:AB y (1/2)) (oR:AB (y+h) (1/2)) (k:Nat) :
  AB (pw (y+h) (k+1)-pw y (k+1)-((k:Rat)+1)*(h*pw y k)) ((k:Rat)*((k:Rat)+1)*q2 k*(h*h)):=by
 induction k with
 | zero=>simp only[pw,q2];simp;constructor<;>grind
 | succ k ih =>
  have e1:pw (y+h) (k+1+1)=(y+h)*pw (y+h) (k+1):=rfl;have e2:pw y (k+1+1)=y*pw y (k+1):=rfl;have e3:pw y (k+1)=y*pw y k:=rfl;have e4:((k+1:Nat):Rat)=(k:Rat)+1:=by simp
  have e5:q2 (k+1)=q2 k/2:=rfl;have h2:=zN h;have q:=kW k;have kk:(0:Rat)<=(k:Rat):=by exact_mod_cast Nat.zero_le k
  have g1:=oR.mul ih
  have g2:AB (((k:Rat)+1)*(h*h)*pw y k) (((k:Rat)+1)*(h*h)*q2 k):=by
   have:AB (((k:Rat)+1)*(h*h)) (((k:Rat)+1)*(h*h)):=by
    have:=Ye (show 0<=(k:Rat)+1 by grind) h2
    constructor<;>grind
   exact this.mul (zRE hy k)
  have g:=g1.add g2;rw[e1,e2,e4,e5]
  have:(y+h)*(pw (y+h) (k+1)-pw y (k+1)-((k:Rat)+1)*(h*pw y k))+((k:Rat)+1)*(h*h)*pw y k=(y+h)*pw (y+h) (k+1)-y*pw y (k+1)-((k:Rat)+1+1)*(h*pw y (k+1)):=by
   rw[e3];grind
  rw[this] at g;exact g.mono (by grind)
def Lg (y:Rat) (M:Nat):Rat:=S (λ k=>pw y (k+1)/((k:Rat)+1)) M
theorem zC1 {t b m:Rat} (hm:0<m) (h:AB t (m*b)):AB (t/m) b:=by
 have e:=rdm (a:=t) hm;generalize t/m=q at *;obtain⟨h1,h2⟩:=h;constructor
 ·refine Rat.not_lt.1 λ hn=>?_
  have:=Rat.mul_pos hm (show 0 < -b-q by grind)
  grind
 ·refine Rat.not_lt.1 λ hn=>?_
  have:=Rat.mul_pos hm (show 0<q-b by grind)
  grind
theorem S_sub (f g:Nat->Rat) (n:Nat):S (λ i=>f i-g i) n=S f n-S g n:=by
 induction n with
 | zero=>simp[S];try grind
 | succ n ih=>simp only[S,ih];grind
theorem S_k2 (M:Nat):S (λ k=>(k:Rat)*q2 k) M=2-2*((M:Rat)+1)*q2 M:=by
 induction M with
 | zero=>simp only[S,q2];simp;grind
 | succ M ih =>
  simp only[S,ih,q2];have e4:((M+1:Nat):Rat)=(M:Rat)+1:=by simp
  rw[e4];grind
theorem Lg_step {y h:Rat} (hy:AB y (1/2)) (oR:AB (y+h) (1/2)) (M:Nat) :
  AB (Lg (y+h) M-Lg y M-h*S (pw y) M) (2*(h*h)):=by
 have e:Lg (y+h) M-Lg y M-h*S (pw y) M=S (λ k=>(pw (y+h) (k+1)-pw y (k+1)-((k:Rat)+1)*(h*pw y k))/((k:Rat)+1)) M:=by
  unfold Lg;rw[<- zF5,<- S_sub,<- S_sub];refine kO _ λ i hi=>?_
  have hp:=zAT i;generalize (i:Rat)+1=m at *;grind
 rw[e];have h2:=zN h
 have g:AB (S (λ k=>(pw (y+h) (k+1)-pw y (k+1)-((k:Rat)+1)*(h*pw y k))/((k:Rat)+1)) M) (S (λ k=>(h*h)*((k:Rat)*q2 k)) M):=by
  refine S_AB _ λ i hi=>?_
  refine zC1 (zAT i) ((pw_step hy oR i).mono ?_);grind
 refine g.mono ?_;rw[zF5,S_k2];have q:=kW M;have TJ:(0:Rat)<=(M:Rat):=by exact_mod_cast Nat.zero_le M
 have:=Ye (Ye h2 (show 0<=(M:Rat)+1 by grind)) (Yh q)
 grind
theorem S_pw (y:Rat) (M:Nat):S (pw y) M*(1-y)=1-pw y M:=by
 induction M with
 | zero=>simp only[S,pw];grind
 | succ M ih=>simp only[S,pw];grind
theorem S_q2 (M:Nat):S q2 M=2-2*q2 M:=by
 induction M with
 | zero=>simp only[S,q2];grind
 | succ M ih=>simp only[S,q2,ih];grind
theorem S_pw_AB {y:Rat} (hy:AB y (1/2)) (M:Nat):AB (S (pw y) M) 2:=by
 refine (S_AB M λ i _=>zRE hy i).mono ?_
 rw[S_q2];have:=kW M;grind
theorem Lg_AB {y:Rat} (hy:AB y (1/2)) (M:Nat):AB (Lg y M) 2:=by
 have:AB (Lg y M) (S q2 M):=by
  refine S_AB M λ i _=>zC1 (zAT i) ((zRE hy (i+1)).mono ?_)
  have q:=kW i;have kk:(0:Rat)<=(i:Rat):=by exact_mod_cast Nat.zero_le i
  have:=Ye kk (Yh q);simp only[q2];grind
 refine this.mono ?_;rw[S_q2];have:=kW M;grind
theorem pw_zero (k:Nat):pw 0 (k+1)=0:=by simp only[pw];grind
theorem Lg_zero (M:Nat):Lg 0 M=0:=by
 unfold Lg;rw[kO M (g:=λ _=>0) (λ i _=>by rw[pw_zero];grind),zN7];grind
theorem G_step (K η:Rat) (M:Nat) (hM:2<=M) (hK:∀ x,AB x 4->AB (E x M) K) (hη:∀ x y,AB x 4->AB y 4->AB (E x M*E y M-E (x+y) M) η)
  {y h b:Rat} (hy:AB y (1/2)) (oR:AB (y+h) (1/2)) (hb:AB h b) (my:b<=1/12) :
  AB (E (Lg (y+h) M) M*(1-(y+h))-E (Lg y M) M*(1-y)) (K*(33*(b*b)+b*q2 M)+2*η):=by
 have b0:=hb.nonneg;have g1:=Lg_step hy oR M;have g2:=S_pw y M;have g3:=S_pw_AB hy M;have g4:=zRE hy M;have g5:=Lg_AB hy M;have g6:=Lg_AB oR M;have Nz:h*h<=b*b:=by have:=(hb.mul hb).2;grind
 generalize S (pw y) M=g at *;generalize pw y M=pM at *;obtain⟨δ,hδ⟩:∃ δ,δ=Lg (y+h) M-Lg y M:=⟨_,rfl⟩;obtain⟨r,hr⟩:∃ r,r=Lg (y+h) M-Lg y M-h*g:=⟨_,rfl⟩;have NX:AB r (2*(b*b)):=by rw[hr];exact g1.mono (by grind)
 have bb:=Ye b0 b0;have bb2:=Ye b0 (show 0<=1/12-b by grind)
 have hδb:AB δ (3*b):=by
  have:=(hb.mul g3).add NX;have e:h*g+r=δ:=by rw[hr,hδ];grind
  rw[e] at this;exact this.mono (by grind)
 have hs:=yV hδb (by grind) hM
 have hE:=hK _ (g5.mono (by grind))
 have hmul:=hη (Lg y M) δ (g5.mono (by grind)) (hδb.mono (by grind))
 rw[show Lg y M+δ=Lg (y+h) M by rw[hδ];grind] at hmul
 generalize E (Lg (y+h) M) M=A at *;generalize E (Lg y M) M=C at *;generalize E δ M=D at *;obtain⟨s,wN⟩:∃ s,s=D-1-δ:=⟨_,rfl⟩;rw[<- wN] at hs;obtain⟨t,ht⟩:∃ t,t=C*D-A:=⟨_,rfl⟩;rw[<- ht] at hmul;have Tz:AB (1-y) (3/2):=by obtain⟨_,_⟩:=hy;constructor<;>grind
 have Fz:AB (1-(y+h)) 2:=by obtain⟨_,_⟩:=oR;constructor<;>grind
 have zn:AB (1-(y+h)) (3/2):=by obtain⟨_,_⟩:=oR;constructor<;>grind
 have key:A*(1-(y+h))-C*(1-y)=C*(-(h*pM)+r*(1-y)+(-(δ*h))+s*(1-(y+h))) + -(t*(1-(y+h))):=by
  have e1:A=C*D-t:=by grind
  have e2:D=s+1+δ:=by grind
  have e3:δ=h*g+r:=by rw[hr,hδ];grind
  have e4:pM=1-g*(1-y):=by grind
  rw[e1,e2,e4,e3];grind
 rw[key];have m1:=(hb.mul g4).neg;have m2:=NX.mul Tz;have m3:=(hδb.mul hb).neg;have m4:=hs.mul zn;have m5:=(hmul.mul Fz).neg;have m:=(hE.mul (((m1.add m2).add m3).add m4)).add m5;refine m.mono ?_;have:=hE.nonneg;have:b*q2 M+2*(b*b)*(3/2)+3*b*b+2*(3*b*(3*b))*(3/2)=33*(b*b)+b*q2 M:=by grind
 rw[this];grind
theorem G_steps (K η:Rat) (M:Nat) (hM:2<=M) (hK:∀ x,AB x 4->AB (E x M) K) (hη:∀ x y,AB x 4->AB y 4->AB (E x M*E y M-E (x+y) M) η)
  {h b:Rat} (n:Nat) (hn:(n:Rat)*b<=1/2) (hb:AB h b) (my:b<=1/12) (j:Nat) (hj:j<=n) :
  AB (E (Lg ((j:Rat)*h) M) M*(1-(j:Rat)*h)-1) ((j:Rat)*(K*(33*(b*b)+b*q2 M)+2*η)):=by
 have b0:=hb.nonneg
 have I5:∀ i:Nat,i<=n->AB ((i:Rat)*h) (1/2):=λ i hi=>by
  have hi':(i:Rat)<=(n:Rat):=by exact_mod_cast hi
  have NJ:(0:Rat)<=(i:Rat):=by exact_mod_cast Nat.zero_le i
  have:AB (i:Rat) (i:Rat):=by constructor<;>grind
  refine (this.mul hb).mono ?_;have:=Ye (show 0<=(n:Rat)-i by grind) b0
  grind
 induction j with
 | zero =>
  have:((0:Nat):Rat)=0:=by simp
  rw[this,Rat.zero_mul,Lg_zero];obtain⟨m,rfl⟩:∃ m,M=m+1:=⟨M-1,by omega⟩
  rw[kV,Rat.zero_mul];constructor<;>grind
 | succ j ih =>
  have ih:=ih (by omega)
  have e4:((j+1:Nat):Rat)=(j:Rat)+1:=by simp
  have h2:=I5 (j+1) hj;rw[e4] at h2 ⊢;have e5:((j:Rat)+1)*h=(j:Rat)*h+h:=by grind
  rw[e5] at h2 ⊢;have g:=G_step K η M hM hK hη (I5 j (by omega)) h2 hb my
  have:=ih.add g;generalize E (Lg ((j:Rat)*h+h) M) M*(1-((j:Rat)*h+h))=X at *;generalize E (Lg ((j:Rat)*h) M) M*(1-(j:Rat)*h)=Y at *;have e6:Y-1+(X-Y)=X-1:=by grind
  rw[e6] at this;exact this.mono (by grind)
theorem q4_q2 (M:Nat):(M:Rat)*q2 M<=1:=by
 induction M with
 | zero=>simp only[q2];simp;grind
 | succ M ih =>
  have e4:((M+1:Nat):Rat)=(M:Rat)+1:=by simp
  rw[e4];simp only[q2];have:=q2_le M;grind
theorem null_q2:Null q2:=λ e he=>by
 obtain⟨n,eZ,bL⟩:=kC (1/e);refine⟨n+1,λ M hM=>?_⟩
 have TK:(n:Rat)<=(M:Rat):=by exact_mod_cast (show n<=M by omega)
 have u:=q4_q2 M;have q:=kW M;have e1:=rdm (a:=1) he;generalize 1/e=d at *;have s1:=Ye (show 0<=(M:Rat)-d by grind) (Yh q)
 have s2:=Ye (show 0<=1-d*q2 M by grind) (Yh he)
 have s3:(1-d*q2 M)*e=e-d*e*q2 M:=by grind
 rw[s3,e1] at s2;constructor<;>grind
theorem zNI {b n c:Rat} (hn:0<n) (hc:0<c) (h:b*n=c):0<b:=by
 refine Rat.not_le.1 λ hb=>?_
 have:=Ye (show 0 <= -b by grind) (Yh hn)
 grind
theorem Lg_exp (e:Rat) (he:0<e):∃ N,∀ M,N<=M->∀ y,AB y (1/2)->AB (E (Lg y M) M*(1-y)-1) e:=by
 obtain⟨K,k0,hK⟩:=zDH 4;obtain⟨L,l0,hL⟩:=zKO 4;obtain⟨n0,eZ,bL⟩:=kC (33*K/e);obtain⟨n,hn⟩:∃ n:Nat,n=n0+6:=⟨_,rfl⟩;have VZ:(n0:Rat)+6=(n:Rat):=by rw[hn];simp
 have lb:(0:Rat)<=(n0:Rat):=by exact_mod_cast Nat.zero_le n0
 have npos:(0:Rat)<(n:Rat):=by grind
 have hKn:33*K<=e*(n:Rat):=by
  have e1:=rdm (a:=33*K) he;generalize 33*K/e=d at *;have:=Ye (show 0<=(n:Rat)-d by grind) (Yh he)
  grind
 have VO:(6:Rat)<=(n:Rat):=by grind
 clear hn eZ bL VZ lb;have d1:=zH he (show 0<4*(K+1) by grind)
 obtain⟨N1,h1⟩:=null_q2 _ d1;have d2:=zH he (show (0:Rat)<8*(n:Rat) by grind)
 obtain⟨N2,h2⟩:=zBP L l0 _ d2;refine⟨N1+N2+2,λ M hM y hy=>?_⟩
 have g1:=(h1 M (by omega)).2
 have g2:L*((M:Rat)*q4 M)<=e/(8*(n:Rat)):=(h2 M (by omega)).2
 have e1:=rdm (a:=e) (show 0<4*(K+1) by grind)
 have e2:=rdm (a:=e) (show (0:Rat)<8*(n:Rat) by grind)
 generalize e/(4*(K+1))=c1 at *;generalize e/(8*(n:Rat))=c2 at *;obtain⟨b,wz⟩:∃ b,b*(n:Rat)=1/2:=⟨1/2/(n:Rat),rdm npos⟩;have b0:0<b:=zNI npos (by grind) wz
 have Wp:=rdm (a:=y) npos;have hh:AB (y/(n:Rat)) b:=zC1 npos (hy.mono (by rw[Rat.mul_comm,wz];exact Rat.le_refl))
 have my:b<=1/12:=by
  have h6:=Ye (Yh b0) (show 0<=(n:Rat)-6 by grind)
  have h7:b*((n:Rat)-6)=b*n-6*b:=by grind
  rw[h7,wz] at h6;grind
 have g:=G_steps K (L*((M:Rat)*q4 M)) M (by omega) (hK M) (hL M) n (by rw[Rat.mul_comm,wz];exact Rat.le_refl) hh my n (Yj _)
 rw[show (n:Rat)*(y/(n:Rat))=y from (Rat.mul_comm _ _).trans Wp] at g
 refine g.mono ?_;generalize L*((M:Rat)*q4 M)=η at *;have q:=kW M;generalize q2 M=Q at *;have t1:(n:Rat)*(K*(33*(b*b)+b*Q)+2*η)=K*(33*b*(b*n)+(b*n)*Q)+2*(n*η):=by grind
 rw[t1,wz];have t2:=Ye (Yh npos) (show 0<=c2-η by grind)
 have t3:=Ye k0 (show 0<=c1-Q by grind)
 have t4:=Ye (Yh b0) (show 0<=e*(n:Rat)-33*K by grind)
 have t5:b*(e*(n:Rat)-33*K)=e*(b*n)-33*K*b:=by grind
 rw[t5,wz] at t4;have t6:(n:Rat)*(c2-η)=(c2*(8*n))/8-n*η:=by grind
 rw[t6,e2] at t2;have t7:K*(c1-Q)=(c1*(4*(K+1)))/4-c1-K*Q:=by grind
 rw[t7,e1] at t3;have t8:K*(33*b*(1/2)+1/2*Q)=33*K*b/2+K*Q/2:=by grind
 rw[t8];generalize K*Q=A at *;generalize 33*K*b=B at *;generalize (n:Rat)*η=C at *;grind
end Go.Proofs.YtgmnknmjainabacGreat.Ex
namespace Go.Proofs.YtgmnknmjainabacGreat.Ex
def IsLog (l r:Nat->Rat):Prop:=Bdd l/\Null (λ M=>Ev l M-r M)
theorem Bdd.of_null {f g:Nat->Rat} (h:Bdd f) (k:Null (λ M=>f M-g M)):Bdd g:=by
 obtain⟨K,N,k0,h⟩:=h.sub k.bdd;exact⟨K,N,k0,λ M hM=>by have:AB (f M-(f M-g M)) K:=h M hM;rw[show f M-(f M-g M)=g M by grind] at this;exact this⟩
theorem IsLog.bdd {l r:Nat->Rat} (h:IsLog l r):Bdd r:=(yW h.1).of_null h.2
theorem IsLog.le {l r l' r' z:Nat->Rat} (h:IsLog l r) (h':IsLog l' r') (hz:Null z) (N0:Nat) (hr:∀ M,N0<=M->r M<=r' M+z M) (e:Rat) (he:0<e):∃ N,∀ M,N<=M->l M<=l' M+e:=by
 refine zJI h.1 h'.1 ((h.2.sub h'.2).add hz) N0 (λ M hM=>?_) e he
 have:=hr M hM;grind
theorem IsLog.uniq {l l' r:Nat->Rat} (h:IsLog l r) (h':IsLog l' r):Null (λ M=>l M-l' M):=λ e he=>by
 obtain⟨N,h1⟩:=h.le h' null_zero 0 (λ M _=>by grind) e he
 obtain⟨N',h2⟩:=h'.le h null_zero 0 (λ M _=>by grind) e he
 refine⟨N+N',λ M hM=>?_⟩
 have:=h1 M (by omega)
 have:=h2 M (by omega)
 constructor<;>grind
theorem IsLog.congr {l l' r:Nat->Rat} (h:IsLog l r) (k:Null (λ M=>l M-l' M)):IsLog l' r:=by
 have b:=h.1.of_null k;refine⟨b,?_⟩;refine (h.2.sub (zDN h.1 b k)).of_eq λ M=>?_
 grind
theorem IsLog.congr_r {l r r':Nat->Rat} (h:IsLog l r) (k:Null (λ M=>r M-r' M)):IsLog l r' :=
 ⟨h.1,(h.2.add k).of_eq λ M=>by grind⟩
theorem IsLog.add {l l' r r':Nat->Rat} (h:IsLog l r) (h':IsLog l' r'):IsLog (λ M=>l M+l' M) (λ M=>r M*r' M):=by
 refine⟨h.1.add h'.1,?_⟩;have n1:=zAB h.1 h'.1;have n2:=h.2.bmul (yW h'.1);have n3:=h'.2.bmul h.bdd;refine ((n2.add n3).sub n1).of_eq λ M=>?_
 grind
theorem IsLog.neg {l r s:Nat->Rat} (h:IsLog l r) (hs:Bdd s) (N:Nat) (Wb:∀ M,N<=M->s M*r M=1):IsLog (λ M => -l M) s:=by
 refine⟨h.1.neg,?_⟩;have n1:=zNY h.1;have n2:=h.2.bmul (yW h.1.neg);have n3:=(n1.sub n2).bmul hs;refine n3.of_eq_from N λ M hM=>?_
 have e:=Wb M hM;have:(Ev l M*Ev (λ M => -l M) M-1-(Ev l M-r M)*Ev (λ M => -l M) M)*s M=(s M*r M)*Ev (λ M => -l M) M-s M:=by grind
 rw[this,e];grind
theorem isLog_one:IsLog (λ _=>0) (λ _=>1):=⟨Bdd.const 0,null_zero.of_eq_from 1 λ M hM=>by
 obtain⟨m,rfl⟩:∃ m,M=m+1:=⟨M-1,by omega⟩
 show E 0 (m+1)-1=0
 rw[kV];grind⟩
theorem zLI {y:Nat->Rat} (N0:Nat) (hy:∀ M,N0<=M->AB (y M) (1/2)):IsLog (λ M => -Lg (y M) M) (λ M=>1-y M):=by
 have b1:Bdd (λ M=>Lg (y M) M):=Bdd.of_le 2 N0 λ M hM=>Lg_AB (hy M hM) M
 have b2:Bdd (λ M=>1-y M):=Bdd.of_le 2 N0 λ M hM=>by obtain⟨_,_⟩:=hy M hM;constructor<;>grind
 refine⟨b1.neg,?_⟩;have n1:=(zNY b1).bmul b2
 have n2:Null (λ M=>E (Lg (y M) M) M*(1-y M)-1):=λ e he=>by
  obtain⟨N,h⟩:=Lg_exp e he;exact⟨N+N0,λ M hM=>h M (by omega) _ (hy M (by omega))⟩
 have n3:=n2.bmul (yW b1.neg);refine (n1.sub n3).of_eq λ M=>?_
 show Ev (λ M => -Lg (y M) M) M-(1-y M)=(E (Lg (y M) M) M*Ev (λ M => -Lg (y M) M) M-1)*(1-y M)-(E (Lg (y M) M) M*(1-y M)-1)*Ev (λ M => -Lg (y M) M) M
 grind
theorem IsLog.times {l r:Nat->Rat} (h:IsLog l r) (k:Nat):IsLog (λ M=>(k:Rat)*l M) (λ M=>pw (r M) k):=by
 induction k with
 | zero =>
  have e1:(λ M=>((0:Nat):Rat)*l M)=λ _=>0:=funext λ M=>by simp;try grind
  rw[e1];exact isLog_one
 | succ k ih =>
  have e1:(λ M=>((k+1:Nat):Rat)*l M)=λ M=>l M+(k:Rat)*l M:=funext λ M=>by
   have:((k+1:Nat):Rat)=(k:Rat)+1:=by simp
   rw[this];grind
  rw[e1];exact h.add ih
theorem Lg_tail {y:Rat} (hy:AB y (1/2)) (a i:Nat):AB (Lg y (a+i)-Lg y a) (2*(q2 a-q2 (a+i))):=by
 induction i with
 | zero=>simp only[Nat.add_zero];constructor<;>grind
 | succ i ih =>
  have e:Lg y (a+(i+1))=Lg y (a+i)+pw y (a+i+1)/(((a+i:Nat):Rat)+1):=rfl;have e2:q2 (a+(i+1))=q2 (a+i)/2:=rfl
  have h:AB (pw y (a+i+1)/(((a+i:Nat):Rat)+1)) (q2 (a+i)):=by
   refine zC1 (zAT _) ((zRE hy (a+i+1)).mono ?_);have q:=kW (a+i);have kk:(0:Rat)<=((a+i:Nat):Rat):=by exact_mod_cast Nat.zero_le (a+i)
   have:=Ye kk (Yh q);simp only[q2];grind
  have:=ih.add h;rw[e,e2];generalize pw y (a+i+1)/(((a+i:Nat):Rat)+1)=t at *;have h3:Lg y (a+i)+t-Lg y a=Lg y (a+i)-Lg y a+t:=by grind
  rw[h3];exact this.mono (by grind)
theorem zH1 {y:Nat->Rat} (N0:Nat) (hy:∀ M,N0<=M->AB (y M) (1/2)):Null (λ M=>Lg (y M) (M+M)-Lg (y M) M):=by
 refine ((null_q2.add null_q2)).of_le N0 λ M hM=>?_
 refine (Lg_tail (hy M hM) M M).mono ?_;have:=kW (M+M);grind
def Az (z:Rat) (M:Nat):Rat:=S (λ k=>pw z (2*k+1)/(2*(k:Rat)+1)) M
theorem pw_neg (z:Rat) (k:Nat):pw (-z) (2*k)=pw z (2*k):=by
 induction k with
 | zero=>rfl
 | succ k ih=>rw[show 2*(k+1)=2*k+1+1 by omega];simp only[pw,ih];grind
theorem Az_Lg (z:Rat) (M:Nat):2*Az z M=Lg z (M+M)-Lg (-z) (M+M):=by
 induction M with
 | zero=>simp[Az,Lg,S];try grind
 | succ M ih =>
  have e:M+1+(M+1)=M+M+1+1:=by omega
  have e1:∀ y,Lg y (M+M+1+1)=Lg y (M+M)+pw y (M+M+1)/(((M+M:Nat):Rat)+1)+pw y (M+M+1+1)/(((M+M+1:Nat):Rat)+1):=λ y=>rfl
  have e2:Az z (M+1)=Az z M+pw z (2*M+1)/(2*(M:Rat)+1):=rfl
  have e3:((M+M:Nat):Rat)=2*(M:Rat):=by
   have:((M+M:Nat):Rat)=(M:Rat)+(M:Rat):=by simp
   rw[this];grind
  rw[e,e1,e1,e2,e3]
  have p1:pw (-z) (M+M+1) = -pw z (M+M+1):=by
   have:=pw_neg z M;rw[show M+M=2*M by omega]
   simp only[pw,this];grind
  have p2:pw (-z) (M+M+1+1)=pw z (M+M+1+1):=by
   have:=pw_neg z (M+1);rw[show 2*(M+1)=M+M+1+1 by omega] at this
   exact this
  rw[p1,p2,show 2*M+1=M+M+1 by omega]
  generalize pw z (M+M+1)=a;generalize pw z (M+M+1+1)/(((M+M+1:Nat):Rat)+1)=b;have : -a/(2*(M:Rat)+1) = -(a/(2*(M:Rat)+1)):=by rw[Yp,Yp,Rat.neg_mul]
  rw[this];grind
theorem isLog_Az {z r:Nat->Rat} (N0:Nat) (hz:∀ M,N0<=M->AB (z M) (1/2)) (hr:∀ M,N0<=M->r M*(1-z M)=1+z M):IsLog (λ M=>2*Az (z M) M) r:=by
 have h1:=zLI N0 (y:=λ M => -z M) (λ M hM=>(hz M hM).neg)
 have h2:=zLI N0 hz;have hinv:∀ M,N0<=M->1/(1-z M)*(1-z M)=1:=λ M hM=>rdm (by obtain⟨_,_⟩:=hz M hM;grind)
 have h3:=h2.neg (s:=λ M=>1/(1-z M)) (Bdd.of_le 2 N0 λ M hM=>by
  have hp:0<1-z M:=by obtain⟨_,_⟩:=hz M hM;grind
  refine zC1 hp ?_;obtain⟨_,_⟩:=hz M hM
  constructor<;>grind) N0 hinv
 have h4:=(h1.add h3).congr_r (r':=r) (null_zero.of_eq_from N0 λ M hM=>by
  have e1:=hinv M hM;have e2:=hr M hM;have hp:0<1-z M:=by obtain⟨_,_⟩:=hz M hM;grind
  generalize 1/(1-z M)=i at *
  have:r M=(1+z M)*i:=by
   have:r M*(1-z M)*i=(1+z M)*i:=by rw[e2]
   have e3:r M*(1-z M)*i=r M*(i*(1-z M)):=by grind
   rw[e3,e1] at this;grind
  grind)
 refine h4.congr ?_;have d1:=zH1 N0 hz;have d2:=zH1 N0 (y:=λ M => -z M) (λ M hM=>(hz M hM).neg)
 refine (d2.sub d1).of_eq λ M=>?_
 rw[Az_Lg];grind
end Go.Proofs.YtgmnknmjainabacGreat.Ex
