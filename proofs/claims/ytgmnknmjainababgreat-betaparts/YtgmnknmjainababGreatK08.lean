/-
  Its own texts.
-/
import Derived.Laws.CopyOwn
import Derived.Deep.RegionHeld3
import Derived.Deep.LoopGhost
import Derived.Test.YtgmnknmjainababGreatK07
set_option maxRecDepth 100000
set_option maxHeartbeats 40000000
set_option linter.unnecessarySimpa false
set_option linter.unusedSimpArgs false
set_option linter.unusedVariables false
namespace Go.Proofs.YtgmnknmjainababGreat
open Go.RowKit
attribute [local go_sem ↓] Go.wp_at_zero Go.wp_at_succ
theorem kQ (w:World) (s:Sp) (k:Nat) (bt lo hi:Int) (hs:SpAt w s k lo hi) (hk:k<=300000000) (C9:0<=s.bits) (gP:s.bits<=1000000) (qI:0<=bt) (iA:bt<=1000000) :
  Calls Tryz.prog 90 #[.agg s.q,.int .i64 bt] w (zJ w bt (k+62505) (zBC lo (s.bits-bt)) (-(zBC (-hi) (s.bits-bt)))):=by
 by_cases P9:s.bits<=bt
 ·obtain⟨K,hK⟩:∃ K:Nat,bt-s.bits=K:=⟨(bt-s.bits).toNat,by omega⟩
  have e1:∀ x,zBC x (s.bits-bt)=x*Q K:=by
   intro x;unfold zBC
   by_cases h0:0<=s.bits-bt
   ·have hz:s.bits-bt=0:=by omega
    have iz:K=0:=by omega
    rw[if_pos h0,hz,iz];simp[Q]
   ·rw[if_neg h0,show (-(s.bits-bt)).toNat=K by omega]
  have HL:=zC (e1 lo);have HH:=zC (show -(zBC (-hi) (s.bits-bt))=hi*Q K by rw[e1,Int.neg_mul,Int.neg_neg])
  clear e1;have Lo:K<=1000000:=by omega
  rw[zA HL,zA HH];obtain⟨W,hW⟩:∃ W,W=(w.alloc (.cells s.q 36)).alloc (.cells zCq 36):=⟨_,rfl⟩;have b8:Below w.heap.size w W:=by rw[hW];exact bl2 _ _ _
  have A:SpC W w.heap.size s:=by rw[hW];constructor<;>simp[go_sem]
  have R:NoC W (w.heap.size+1):=by rw[hW];constructor<;>simp[go_sem]
  have HS:=zC (hs.bw b8);have lA:=A.lt;have lR:=R.lt;have C4:Below W.heap.size W W.drew:=(Below.refl _ _).drew
  have HK:=zC (show ∀ w',Below W.heap.size W w'->(w'.cell? ⟨w.heap.size,0,none⟩=some (.bool s.ln)/\w'.cell? ⟨w.heap.size,1,none⟩=some (.slice s.la s.lN s.lc)/\w'.cell? ⟨w.heap.size,2,none⟩=some (.bool s.hn)/\w'.cell? ⟨w.heap.size,3,none⟩=some (.slice s.ha s.hN s.hc)) from λ w' hB=>by
   obtain⟨x0,x1,x2,x3,x4⟩:=A.bw hB
   exact⟨x0,x1,x2,x3⟩)
  go_enter Tryz.func90,Tryz.ntmps90
  go_wp2_with fail;rw[<- hW];clear hW;refine (kT K _ (by omega)).mono ?_
  rintro r w1 ⟨g9,a1,n1,c1,rfl,k9,b7⟩;obtain⟨W1,cp⟩:∃ W',W'=w1.alloc (.cells #[.bool g9,.slice a1 n1 c1] 26):=⟨_,rfl⟩;have F8:Below w1.heap.size w1 W1:=by rw[cp];exact bl1 _ _
  have X:NmC W1 w1.heap.size ⟨g9,a1,n1,c1⟩:=by rw[cp];exact zAK w1 ⟨g9,a1,n1,c1⟩ _
  have nR:w1.heap.size≠w.heap.size+1:=Yi (R.bw b7).lt;have CV:w.heap.size+1≠w1.heap.size:=λ e=>nR e.symm
  have A6:=zB b7 F8;have R1:=R.bw A6;have A1:=A.bw A6;have lA1:=A1.lt;have Lp:=R1.lt;have lX:=X.lt;replace k9:=zC (k9.bw F8);replace HS:=zC ((zA HS).bw A6);have m8:Below W1.heap.size W1 W1.drew:=(Below.refl _ _).drew
  have ah:=zC (show ∀ w',Below W1.heap.size W1 w'->(w'.cell? ⟨w.heap.size,0,none⟩=some (.bool s.ln)/\w'.cell? ⟨w.heap.size,1,none⟩=some (.slice s.la s.lN s.lc)/\w'.cell? ⟨w.heap.size,2,none⟩=some (.bool s.hn)/\w'.cell? ⟨w.heap.size,3,none⟩=some (.slice s.ha s.hN s.hc)/\w'.cell? ⟨w1.heap.size,0,none⟩=some (.bool g9)/\w'.cell? ⟨w1.heap.size,1,none⟩=some (.slice a1 n1 c1)) from λ w' hB=>by
   obtain⟨x0,x1,x2,x3,x4⟩:=A1.bw hB
   exact⟨x0,x1,x2,x3,(X.bw hB).c0,(X.bw hB).c1⟩)
  clear HK C4;go_wp2;rw[<- cp];clear cp;obtain⟨i0,i1,i2,i3,i4,i5⟩:=zA ah _ (Below.refl _ _)
  go_region_held3 (λ w'=>w'.cell? ⟨w.heap.size,0,none⟩=some (.bool s.ln)/\w'.cell? ⟨w.heap.size,1,none⟩=some (.slice s.la s.lN s.lc)/\w'.cell? ⟨w.heap.size,2,none⟩=some (.bool s.hn)/\w'.cell? ⟨w.heap.size,3,none⟩=some (.slice s.ha s.hN s.hc)/\w'.cell? ⟨w1.heap.size,0,none⟩=some (.bool g9)/\w'.cell? ⟨w1.heap.size,1,none⟩=some (.slice a1 n1 c1)) (first|exact zA ah _ (by with_reducible first|exact m8|exact y9|exact j9)|go_keep)
   (first
    | (go_at_call 66;have hq:=j9;refine (zW _ _ _ _ _ _ _ _ k (K/16+5) hi (Q K) _ ((zA HS).hi.bw j9) ((zA k9).bw j9) (by omega) (by omega)).mono ?_;rintro r w3 ⟨p9,a3,n3,c3,rfl,A8,k8⟩;replace o0:=o0.bw k8;have y9:=zB j9 k8;obtain⟨q0,q1,q2,q3,q4,q5⟩:=R1.bw y9;obtain⟨d0,d1,d2,d3,d4,d5⟩:=zA ah _ y9)
    | (go_at_call 66;refine (zW _ _ _ _ _ _ _ _ k (K/16+5) lo (Q K) _ ((zA HS).lo.bw m8) ((zA k9).bw m8) (by omega) (by omega)).mono ?_;rintro r w2 ⟨b6,a2,n2,c2,rfl,o0,b9⟩;have j9:=zB m8 b9))
  clear i0 i1 i2 i3 i4 i5;go_wp2;refine bodyPost_ret (v:=.agg #[.bool b6,.slice a2 n2 c2,.bool p9,.slice a3 n3 c3,.int .i64 bt]) (by simp[results,Tryz.results90,go_sem,q0,q1,q2,q3,q4]) rfl ⟨⟨b6,a2,n2,c2,p9,a3,n3,c3,bt⟩,rfl,rfl,?_,?_⟩
  ·exact SpAt.put5 ⟨o0.mono (by omega),A8.mono (by omega)⟩ q0 q1 q2 q3 q4 _ _ _ _ _
  ·exact kB (zB (zB b8 A6) y9) (Yh _) _ _ _ _ _
 ·have e0:¬ bt ≥ s.bits:=P9
  obtain⟨W,hW⟩:∃ W,W=(w.alloc (.cells s.q 36)).alloc (.cells zCq 36):=⟨_,rfl⟩;have b8:Below w.heap.size w W:=by rw[hW];exact bl2 _ _ _
  have A:SpC W w.heap.size s:=by rw[hW];constructor<;>simp[go_sem]
  have R:NoC W (w.heap.size+1):=by rw[hW];constructor<;>simp[go_sem]
  have HS:=zC (hs.bw b8);have lA:=A.lt;have lR:=R.lt;have C4:Below W.heap.size W W.drew:=(Below.refl _ _).drew
  have HK:=zC (show ∀ w',Below W.heap.size W w'->(w'.cell? ⟨w.heap.size,0,none⟩=some (.bool s.ln)/\w'.cell? ⟨w.heap.size,1,none⟩=some (.slice s.la s.lN s.lc)/\w'.cell? ⟨w.heap.size,2,none⟩=some (.bool s.hn)/\w'.cell? ⟨w.heap.size,3,none⟩=some (.slice s.ha s.hN s.hc)) from λ w' hB=>by
   obtain⟨x0,x1,x2,x3,x4⟩:=A.bw hB
   exact⟨x0,x1,x2,x3⟩)
  go_enter Tryz.func90,Tryz.ntmps90
  go_wp2;obtain⟨x0,x1,x2,x3,x4⟩:=A;rw[<- hW];clear hW
  go_region_held3 (λ w'=>w'.cell? ⟨w.heap.size,0,none⟩=some (.bool s.ln)/\w'.cell? ⟨w.heap.size,1,none⟩=some (.slice s.la s.lN s.lc)/\w'.cell? ⟨w.heap.size,2,none⟩=some (.bool s.hn)/\w'.cell? ⟨w.heap.size,3,none⟩=some (.slice s.ha s.hN s.hc)) (first|exact zA HK _ (by with_reducible first|exact C4|exact L5|exact E2|exact o7|exact A6)|go_keep)
   (first
    | (go_at_call 103;have hq:=E2;refine (kC _ _ _ _ (k+62505) _ _ (A8.mono (by omega)) (by omega)).mono ?_;rintro r w4 ⟨o9,a4,n4,c4,rfl,D9,m9⟩;replace k9:=k9.bw m9;have L5:=zB E2 m9;obtain⟨q0,q1,q2,q3,q4,q5⟩:=R.bw L5;obtain⟨i0,i1,i2,i3⟩:=zA HK _ L5)
    | (go_at_call 105;have hq:=o7;refine (zEE _ _ _ _ k (s.bits-bt) (-hi) _ o0 (by omega) (by omega) (by omega)).mono ?_;rintro r w3 ⟨p9,a3,n3,c3,rfl,A8,k8⟩;replace k9:=k9.bw k8;have E2:=zB o7 k8)
    | (go_at_call 103;have hq:=A6;refine (kC _ _ _ _ k hi _ ((zA HS).hi.bw A6) (by omega)).mono ?_;rintro r w2 ⟨b6,a2,n2,c2,rfl,o0,b9⟩;replace k9:=k9.bw b9;have o7:=zB A6 b9)
    | (go_at_call 105;refine (zEE _ _ _ _ k (s.bits-bt) lo _ ((zA HS).lo.bw C4) (by omega) (by omega) (by omega)).mono ?_;rintro r w1 ⟨g9,a1,n1,c1,rfl,k9,b7⟩;have A6:=zB C4 b7))
  go_wp2;refine bodyPost_ret (v:=.agg #[.bool g9,.slice a1 n1 c1,.bool o9,.slice a4 n4 c4,.int .i64 bt]) (by simp[results,Tryz.results90,go_sem,q0,q1,q2,q3,q4]) rfl ⟨⟨g9,a1,n1,c1,o9,a4,n4,c4,bt⟩,rfl,rfl,?_,?_⟩
  ·exact SpAt.put5 ⟨k9.mono (by omega),D9.mono (by omega)⟩ q0 q1 q2 q3 q4 _ _ _ _ _
  ·exact kB (zB b8 L5) (Yh _) _ _ _ _ _
def yP (d:Nat->Int) (q:Int):Nat->Int
 | 0=>0
 | k+1=>(yP d q k+d k*q)/65536
def kW (d:Nat->Int) (q:Int) (n j:Nat):Int:=if j<n then (yP d q j+d j*q) % 65536 else yP d q n
theorem zQM {x q:Int} (hx:0<=x/\x<65536) (hq:0<=q/\q<65536):0<=x*q/\x*q<=4294836225:=zH9 hx hq ⟨Int.le_refl 0,by omega⟩ ⟨Int.le_refl 0,by omega⟩
theorem zIG {d:Nat->Int} (hd:Dgs d) {q:Int} (hq:0<=q/\q<65536) (k:Nat):0<=yP d q k/\yP d q k<65536:=by
 induction k with
 | zero=>simp[yP]
 | succ k ih=>simp only[yP];have:=zQM (hd k) hq;omega
theorem zGJ {d:Nat->Int} (hd:Dgs d) {q:Int} (hq:0<=q/\q<65536) (n:Nat):Dgs (kW d q n):=by
 intro j;unfold kW
 have:=zIG hd hq n;split<;>omega
theorem zQH (d:Nat->Int) (q:Int) (n:Nat):∀ k,k<=n->V (kW d q n) k+yP d q k*P k=V d k*q:=by
 intro k
 induction k with
 | zero=>intro _;simp[V,yP]
 | succ k ih =>
  intro hk
  have h1:=ih (by omega)
  simp only[V,P];have h2:kW d q n k=(yP d q k+d k*q) % 65536:=by simp[kW];omega
  rw[h2];simp only[yP]
  have h3:(yP d q k+d k*q) % 65536*P k+(yP d q k+d k*q)/65536*(65536*P k)=(yP d q k+d k*q)*P k:=by
   rw[<- Int.mul_assoc,<- Int.add_mul];congr 1;omega
  have h4:(yP d q k+d k*q)*P k=yP d q k*P k+d k*q*P k:=Int.add_mul _ _ _
  have h5:(V d k+d k*P k)*q=V d k*q+d k*q*P k:=by
   rw[Int.add_mul,Int.mul_assoc (d k),Int.mul_comm (P k) q,<- Int.mul_assoc]
  omega
theorem times_V (d:Nat->Int) (q:Int) (n:Nat):V (kW d q n) (n+1)=V d n*q:=by
 have h:=zQH d q n n (XW _);simp only[V];have:kW d q n n=yP d q n:=by simp[kW]
 rw[this];exact h
theorem zI2 (a:Option Addr) (n cap:Nat) (d:Nat->Int) (q:Int) (w:World) (ha:Dig w a n cap d) (hn:n<=1000000000) (oz:0<=q) (eG:q<65536) :
  Calls Tryz.prog 194 #[.slice a n cap,.int .u32 q] w λ r w'=>∃ a',r=.returned (.slice a' (n+1) (n+1))/\Dig w' a' (n+1) (n+1) (kW d q n)/\Below w.heap.size w w':=by
 have aS:=run_make_row' (P:=Tryz.prog) 24 98 (.int .u16 0) 2 Tryz.underlying24 Tryz.infoU16 rfl .i64 .i64 (n+1) (by omega) (by omega)
 have iB:((n+1:Nat):Int)=(n:Int)+1:=by omega
 rw[iB] at aS;clear iB
 go_enter Tryz.func194,Tryz.ntmps194
 go_wp2;clear aS
 go_loopw [6,15] (λ cy i wr=>∃ k:Nat,k<=n/\i=.int .i64 k/\cy=.int .u32 (yP d q k)/\wr.rowIs w.heap.size 98 (n+1) (λ j=>.int .u16 (if j<k then kW d q n j else 0))/\Below w.heap.size w wr) (λ _ i _=>n-(intOf i).toNat)
 case atStart=>exact⟨0,Nat.zero_le _,rfl,rfl,by simpa using World.rowIs_made w (.int .u16 0) (n+1) 98,bl1 _ _⟩
 case round =>
  obtain⟨k,hk,rfl,rfl,B9,B8⟩:=hrel;have cb:=zIG ha.dgs ⟨oz,eG⟩ k
  by_cases eJ:k<n
  ·obtain⟨b1,o1,rfl,b7,F8⟩:=ha.at_ (by omega)
   have g1:wr.cell? ⟨b1,o1+k,none⟩=some (.int .u16 (d k)):=(B8.cell (p:=⟨b1,o1+k,none⟩) b7).trans (F8 k eJ);have db:=ha.dgs k;have pb:=zQM db ⟨oz,eG⟩;have r1:=B9.cell (show k<n+1 by omega)
   have r2:=B9.frozen k;have H1:=zC (show (yP d q k+d k*q)/65536=yP d q (k+1) from rfl)
   have H2:=zC (show IntKind.u16.wrap (yP d q k+d k*q)=kW d q n k by simp[zAR,kW,eJ])
   clear F8;go_wp2
   go_roundw
   case rel=>exact⟨k+1,by omega,by go_num,by rw[zA H1],zAQ B9 (zA H2),B8.setCell (XW _) _⟩
   case measure=>simp[intOf];omega
  ·have hkE:k=n:=by omega
   subst hkE;have r1:=B9.cell (show k<k+1 by omega)
   have r2:=B9.frozen k;have H2:=zC (show yP d q k=kW d q k k by simp[kW])
   have HR:=zC B9;clear B9;go_wp2
   go_ret
   refine⟨_,rfl,zEL ((zAQ (zA HR) (zA H2)).congr (λ j hj=>by simp[hj])) (zGJ ha.dgs ⟨oz,eG⟩ k) (by omega),B8.setCell (XW _) _⟩
def zER (u f:Nat->Int) (j i:Nat):Int:=if i<j then u i else f (i-j)
theorem zOT {u f:Nat->Int} (hu:Dgs u) (hf:Dgs f) (j:Nat):Dgs (zER u f j):=by
 intro i;unfold zER;split
 ·exact hu i
 ·exact hf _
theorem zMS (u f:Nat->Int) (j L:Nat):Tp (zER u f j) j L=V f (L-j):=by
 unfold Tp;exact zBY _ (λ i _=>by simp only[zER];rw[if_neg (by omega)];congr 1;omega)
theorem V_low (u:Nat->Int) {j L:Nat} (h:j<=L):V u L=V u j+P j*Tp u j L:=by
 unfold Tp;have:=zFB u j (L-j);rw[show j+(L-j)=L by omega] at this
 exact this
theorem zPO (u f:Nat->Int) (j:Nat):V (zER u f j) j=V u j:=zBY _ (λ i hi=>by simp[zER,hi])
theorem div_step {u o f:Nat->Int} {j L M:Nat} {A D q:Int} (hjL:j<L) (hjM:j<M) (hA:A=V u L+D*(P (j+1)*Tp o (j+1) M)) (hf:V f (L-j)=Tp u j L-q*D) :
  A=V (zER u f j) L+D*(P j*Tp (upd o j q) j M):=by
 rw[V_low (zER u f j) (Nat.le_of_lt hjL),zPO,zMS,hf,zCT (upd o j q) j M hjM,Tp_upd];have h1:upd o j q j=q:=by simp[upd]
 rw[h1,hA,V_low u (Nat.le_of_lt hjL)];generalize Tp u j L=U;generalize Tp o (j+1) M=T;simp only[P];rw[Int.mul_sub,Int.mul_add,Int.mul_add];have e1:P j*(q*D)=D*(P j*q):=by rw[Int.mul_comm q D,<- Int.mul_assoc,<- Int.mul_assoc,Int.mul_comm (P j) D]
 have e2:D*(P j*(65536*T))=D*(65536*P j*T):=by rw[<- Int.mul_assoc (P j),Int.mul_comm (P j) 65536]
 omega
theorem div_hat {u v:Nat->Int} {j L n:Nat} (hu:Dgs u) (hv:Dgs v) (hn:0<n) (hL:j+n<L) (hU:Tp u (j+1) L<V v n) (q:Int) (hq:q*V v n<=Tp u j L) (oz:0<=q) :
  q*v (n-1)<=u (j+n)*65536+u (j+n-1)/\q<65536:=by
 have hD:=zHY hv n;have hT1:=zCT u j L (by omega)
 have CF:=hu j;have Tq:0<V v n:=by have:=zAT hu (j+1) L;omega
 have hUlt:Tp u j L<65536*V v n:=by omega
 have eG:q<65536:=by
  rcases Int.lt_or_le q 65536 with h|h
  ·exact h
  ·have:=XK h (show 0<=V v n by omega);omega
 refine⟨?_,eG⟩;have hs:=zFB (λ t=>u (j+t)) (n+1) (L-j-(n+1))
 rw[show n+1+(L-j-(n+1))=L-j by omega] at hs
 have AV:Tp u j L=V (λ t=>u (j+t)) (n+1)+P (n+1)*V (λ t=>u (j+(n+1+t))) (L-j-(n+1)):=hs
 have IC:=zZ (λ t=>hu (j+(n+1+t))) (L-j-(n+1))
 have tG:=zZ (λ t=>hu (j+t)) (n+1)
 have hPn:=yB (n+1);have hP1:P (n+1)=65536*P n:=rfl
 have hR:V (λ t=>u (j+(n+1+t))) (L-j-(n+1))=0:=by
  rcases Int.lt_or_le (V (λ t=>u (j+(n+1+t))) (L-j-(n+1))) 1 with h|h
  ·omega
  ·have:=XR h (show 0<=P (n+1) by omega)
   omega
 rw[hR,Int.mul_zero,Int.add_zero] at AV;obtain⟨m,rfl⟩:∃ m,n=m+1:=⟨n-1,by omega⟩
 have e1:V (λ t=>u (j+t)) (m+1+1)=V (λ t=>u (j+t)) m+u (j+m)*P m+u (j+(m+1))*(65536*P m):=rfl
 have e2:V v (m+1)=V v m+v m*P m:=rfl;have b1:=zHY (λ t=>hu (j+t)) m
 have b2:=zZ hv m;have hp:=yB m;simp only[Nat.add_sub_cancel];rw[show j+(m+1)-1=j+m by omega]
 have h5:q*(v m*P m)<=q*V v (m+1):=XR (by omega) oz
 have h6:q*v m*P m<(u (j+(m+1))*65536+u (j+m)+1)*P m:=by
  rw[Int.mul_assoc,Int.add_mul,Int.add_mul,Int.one_mul,Int.mul_assoc (u (j+(m+1)))];omega
 have h7:q*v m<u (j+(m+1))*65536+u (j+m)+1:=Int.lt_of_mul_lt_mul_right h6 (by omega)
 omega
theorem row_take {c:Array Value} {N n:Nat} {f:Nat->Int} (hc:∀ i,i<N->c[i]?=some (.int .u16 (f i))) (hn:n<=N):c.toList.take n=yI f n:=by
 apply List.ext_getElem?
 intro j
 rw[List.getElem?_take]
 by_cases hj:j<n
 ·rw[if_pos hj,zBP f n j hj,Array.getElem?_toList];exact hc j (by omega)
 ·rw[if_neg hj];symm;rw[List.getElem?_eq_none_iff,yN];omega
theorem row_own {w:World} {b t N n base:Nat} {f:Nat->Int} (h:w.rowIs b t N (λ j=>.int .u16 (f j))) (hn:n<=N) (hN:N<=4611686018427387904) (hb:base<=b):Own w base t (some ⟨b,0,none⟩) n N f:=by
 obtain⟨c,h1,h2,h3⟩:=h;refine⟨by rw[yN];omega,Or.inr ⟨b,N,c,rfl,hb,h1,hn,by unfold maxLen;omega,by omega,?_⟩⟩
 rw[Nat.mul_one];exact row_take h3 hn
theorem up_own (neg:Bool) (a:Option Addr) (n cap k:Nat) (d:Nat->Int) (w:World) (ha:Dig w a n cap d) (hn:n<=1000000000) (hk:k<=1000000000) :
  Calls Tryz.prog 95 #[.agg #[.bool neg,.slice a n cap],.int .i64 k] w λ r w' =>
   ∃ g n' m7 o j8,r=.returned (.agg #[.bool j8,.slice (some ⟨g,0,none⟩) n' m7])/\Own w' w.heap.size 98 (some ⟨g,0,none⟩) n' m7 o/\Dgs o/\(n'=0\/o (n'-1)≠0)/\V o n'=V d n*Q k/\n'<=k/16+n+1/\Below w.heap.size w w':=by
 obtain⟨q,hq⟩:∃ q,q=k/16:=⟨_,rfl⟩;obtain⟨s,hs⟩:∃ s,s=k % 16:=⟨_,rfl⟩;have SN:(k:Int)/16=(q:Int):=by omega
 have AV:(k:Int) % 16=(s:Int):=by omega
 have kp:s<16:=by omega
 have qK:¬ (k:Int)<0:=by omega
 obtain⟨W,hW⟩:∃ W,W=(w.alloc (.cells #[.bool neg,.slice a n cap] 26)).alloc (.cells #[.bool false,.slice none 0 0] 26):=⟨_,rfl⟩;have b3:Below w.heap.size w W:=by rw[hW];exact bl2 _ _ _
 have s3:W.heap.size=w.heap.size+1+1:=by rw[hW];simp
 have k0:W.cell? ⟨w.heap.size,0,none⟩=some (.bool neg):=by rw[hW];simp[go_sem]
 have k3:W.cell? ⟨w.heap.size+1,0,none⟩=some (.bool false):=by rw[hW];simp[go_sem]
 have k4:W.cell? ⟨w.heap.size+1,1,none⟩=some (.slice none 0 0):=by rw[hW];simp[go_sem]
 have k5:∀ o,W.frozen? ⟨w.heap.size+1,o,none⟩=false:=by intro o;rw[hW];simp[go_sem]
 have HW:=zC hW;clear hW;have aS:=run_make_row' (P:=Tryz.prog) 24 98 (.int .u16 0) 2 Tryz.underlying24 Tryz.infoU16 rfl .i64 .i64 (q+n+1) (by omega) (by omega)
 have iB:((q+n+1:Nat):Int)=(q:Int)+n+1:=by omega
 rw[iB] at aS;have Hq:=zC hq;have Hs:=zC hs;clear iB hq hs
 go_enter Tryz.func95,Tryz.ntmps95
 go_wp2;clear aS
 go_loopw [26] (λ ii wr=>∃ (i:Nat) (o:Nat->Int),i<=n/\ii=.int .i64 i/\wr.rowIs (w.heap.size+1+1) 98 (q+n+1) (λ j=>.int .u16 (o j))/\Dgs o/\V o (q+n+1)=V d i*Q s*P q/\(∀ j,i+q<j->o j=0)/\o (i+q)<Q s/\Below (w.heap.size+1+1) W wr) (λ ii _=>n-(intOf ii).toNat)
 case atStart =>
  refine⟨0,λ _=>0,Nat.zero_le _,rfl,?_,λ _=>⟨by simp,by simp⟩,?_,λ _ _=>rfl,?_,?_⟩
  ·have:=World.rowIs_made W (.int .u16 0) (q+n+1) 98
   rw[s3,zA HW] at this;exact this
  ·rw[zQ2];simp[V]
  ·have:=zG s;simp;omega
  ·rw[zA HW];exact (Below.refl _ _).alloc (by simp) _
 case round =>
  obtain⟨i,o,hi,rfl,B9,M9,bc,cT,KP,B8⟩:=hrel
  by_cases G4:i<n
  ·obtain⟨b1,o1,rfl,b7,F8⟩:=ha.at_ (by omega)
   have g1:wr.cell? ⟨b1,o1+i,none⟩=some (.int .u16 (d i)):=(B8.cell (p:=⟨b1,o1+i,none⟩) (by show b1<_;omega)).trans ((b3.cell (p:=⟨b1,o1+i,none⟩) b7).trans (F8 i G4))
   have db:=ha.dgs i;have r1:=B9.cell (show i+q<q+n+1 by omega)
   have r2:=B9.frozen (i+q);have r3:=B9.cell (show i+q+1<q+n+1 by omega)
   have r4:=B9.frozen (i+q+1);have J8:=cT (i+q+1) (by omega)
   rw[J8] at r3;have ob:=M9 (i+q);have HV:=zC bc;have HZ:=zC cT;have HR:=zC B9;have HD:=zC M9;have KQ:=zC J8;clear F8 bc cT B9 M9 J8;obtain⟨c,O7⟩:=up_low (d i) s (by omega)
   have hhigh:=zLC (d i) s db.1 db.2;have E4:=up_lt (d i) s kp db.1 db.2;have O8:d i*2 ^ s % 4294967296=d i*Q s:=by rw[zN1];omega
   have kq:=or16 (o (i+q)) (d i*Q s % 65536) c s (by omega) ob.1 KP O7 (by omega) (by omega)
   have kr:=or16 0 (d i*Q s/65536) (d i*Q s/65536) 0 (by omega) (by omega) (by simp[Q]) (by simp[Q]) hhigh.1 (by omega)
   have H1:=zC (show bits .or .u16 (o (i+q)) (IntKind.u16.wrap (d i*2 ^ s % 4294967296))=o (i+q)+d i*Q s % 65536 by rw[O8,zAR];exact kq.1)
   have H2:=zC (show bits .or .u16 0 (d i*2 ^ s % 4294967296/65536)=d i*Q s/65536 by rw[O8,kr.1];omega)
   have H3:=zC kq.2;have H4:=zC hhigh;have tO:=zK (show s<=15 by omega)
   have qJ:Q 15=32768:=rfl;rw[qJ] at tO;clear O7 E4 O8 kq kr hhigh qJ;go_wp2
   go_roundw
   case rel =>
    have h3:=zA H3;have h4:=zA H4;have hne:i+q+1≠i+q:=by omega
    have hz:upd o (i+q) (o (i+q)+d i*Q s % 65536) (i+q+1)=0:=by simp[upd];exact zA KQ
    refine⟨i+1,upd (upd o (i+q) (o (i+q)+d i*Q s % 65536)) (i+q+1) (d i*Q s/65536),by omega,by go_num,zCG (zCG (zA HR) (i+q) (zA H1)) (i+q+1) (zA H2),yC (yC (zA HD) _ (by omega) h3) _ h4.1 (by omega),?_,λ j hj=>?_,?_,(B8.setCell (by simp) _).setCell (by simp) _⟩
    ·rw[zM1 _ _ _ _ (by omega),zM1 _ _ _ _ (by omega),hz,zA HV]
     exact up_alg (V d i) (d i) (o (i+q)) i q s
    ·have e1:j≠i+q:=by omega
     have e2:j≠i+q+1:=by omega
     simp only[upd,e1,e2,if_false];exact zA HZ j (by omega)
    ·have e1:i+1+q=i+q+1:=by omega
     rw[e1];simp only[upd,if_true];exact h4.2
   case measure=>simp[intOf];omega
  ·have hiE:i=n:=by omega
   subst hiE;have q0:wr.cell? ⟨w.heap.size,0,none⟩=some (.bool neg):=(B8.cell (p:=⟨w.heap.size,0,none⟩) (by show w.heap.size<_;omega)).trans k0
   have q3:wr.cell? ⟨w.heap.size+1,0,none⟩=some (.bool false):=(B8.cell (p:=⟨w.heap.size+1,0,none⟩) (by simp)).trans k3
   have q4:wr.cell? ⟨w.heap.size+1,1,none⟩=some (.slice none 0 0):=(B8.cell (p:=⟨w.heap.size+1,1,none⟩) (by simp)).trans k4
   have q5:∀ o,wr.frozen? ⟨w.heap.size+1,o,none⟩=false:=λ o=>(B8.frozen (p:=⟨w.heap.size+1,o,none⟩) (by simp)).trans (k5 o)
   have S8:=B8.size;rw[s3] at S8;have HR:=zC (zEL B9 M9 (by omega))
   have Di:=zC B9;have HO:=zC M9;have HV:=zC bc;clear bc cT B9 M9;go_wp2_with (go_at_call 125;refine (of_any _ _ _ _ o _ (zA HR)).mono ?_;rintro r w2 ⟨rfl,b9⟩;obtain⟨D7,C7,G0⟩:=jY (w.heap.size+1+1) S8 b9);have tl:=zBJ o (q+i+1);refine bodyPost_ret (v:=.agg #[.bool (neg && decide (0<kI o (q+i+1))),.slice (some ⟨w.heap.size+1+1,0,none⟩) (kI o (q+i+1)) (q+i+1)]) (by simp[results,Tryz.results95,go_sem,C7,q3,q4]) rfl ⟨w.heap.size+1+1,kI o (q+i+1),q+i+1,o,_,rfl,?_,zA HO,zBR _ _,?_,?_,?_⟩
   ·refine row_own ?_ tl (by omega) (by omega)
    have eI:w2.rowIs (w.heap.size+1+1) 98 (q+i+1) (λ j=>.int .u16 (o j)):=(zA Di).of_block (b9.block _ (zA Di).lt)
    exact (eI.setOther (by simp) _).setOther (by simp) _
   ·rw[zCJ,zA HV,Int.mul_assoc,zA Hs,zA Hq,<- zKB]
   ·have:=zA Hq;omega
   ·exact ((zB (b3.trans (B8.mono (by omega))) b9).setCell (by simp) _).setCell (by simp) _
def OwnL (w:World) (g t L C:Nat) (u:Nat->Int):Prop:=∃ cur:List Value,w.heap[g]?=some (.cells cur.toArray t (0,0))/\cur.length=C/\L<=C/\∀ j,j<L->cur[j]?=some (.int .u16 (u j))
theorem OwnL.lt {w:World} {g t L C:Nat} {u:Nat->Int} (h:OwnL w g t L C u):g<w.heap.size:=by
 obtain⟨cur,h1,_⟩:=h;exact (Array.getElem?_eq_some_iff.1 h1).1
theorem OwnL.cell {w:World} {g t L C:Nat} {u:Nat->Int} (h:OwnL w g t L C u) {j:Nat} (hj:j<L):w.cell? ⟨g,j,none⟩=some (.int .u16 (u j)):=by
 obtain⟨cur,h1,h2,h3,h4⟩:=h;simp[World.cell?,h1,h4 j hj]
theorem OwnL.of_block {w w':World} {g t L C:Nat} {u:Nat->Int} (h:OwnL w g t L C u) (e:w'.heap[g]?=w.heap[g]?):OwnL w' g t L C u:=by
 obtain⟨cur,h1,h2⟩:=h;exact⟨cur,e.trans h1,h2⟩
theorem OwnL.bw {w w':World} {g t L C:Nat} {u:Nat->Int} (h:OwnL w g t L C u) (hb:Below w.heap.size w w'):OwnL w' g t L C u:=h.of_block (hb.block _ h.lt)
theorem OwnL.dig {w:World} {g t L C:Nat} {u:Nat->Int} (h:OwnL w g t L C u) (hu:Dgs u) (off:Nat) (ho:off<=L) (hL:L<=70368744177664):Dig w (some ⟨g,off,none⟩) (L-off) (C-off) (λ i=>u (off+i)) :=
 ⟨λ _=>⟨g,off,rfl,h.lt,λ j hj=>h.cell (by omega)⟩,λ j=>hu _,by obtain⟨_,_,_,h3,_⟩:=h;omega,by omega⟩
theorem ownL_of {w:World} {base t g L C:Nat} {u:Nat->Int} (h:Own w base t (some ⟨g,0,none⟩) L C u):OwnL w g t L C u/\base<=g:=by
 have h':w.ownsRow base t 1 (.slice (some ⟨g,0,none⟩) L C) L (yI u L):=h
 rcases h'.2 with⟨hv,h0⟩|⟨g',c2,cur,hv,hb,h1,h2,h3,h4,h5⟩
 ·cases hv
 ·simp only[Value.slice.injEq,Option.some.injEq,Addr.mk.injEq] at hv
  obtain⟨⟨rfl,_,_⟩,_,rfl⟩:=hv;refine⟨⟨cur.toList,by simpa using h1,by simp;omega,h2,λ j hj=>?_⟩,hb⟩
  have h6:=zBP u L j hj;rw[<- h5,List.getElem?_take,if_pos (by omega)] at h6
  exact h6
theorem OwnL.splice {w w':World} {g t L C:Nat} {u f:Nat->Int} (h:OwnL w g t L C u) (j:Nat) (hj:j<=L)
  (cur:List Value) (hc:w.heap[g]?=some (.cells cur.toArray t (0,0))) (h':w'.heap[g]?=some (.cells (Go.splice cur j (yI f (L-j))).toArray t (0,0))):OwnL w' g t L C (zER u f j):=by
 obtain⟨Lq,h1,h2,h3,h4⟩:=h
 have e:Lq=cur:=by
  rw[hc] at h1;have:=Option.some.inj h1;simp only[Obj.cells.injEq] at this;have h5:=congrArg Array.toList this.1
  simpa using h5.symm
 subst e;refine⟨_,h',?_,h3,λ i hi=>?_⟩
 ·rw[length_splice _ _ _ (by rw[yN];omega)];exact h2
 ·unfold Go.splice zER
  by_cases tJ:i<j
  ·rw[if_pos tJ,List.getElem?_append_left (by rw[List.length_take];omega),List.getElem?_take,if_pos tJ];exact h4 i hi
  ·rw[if_neg tJ,List.getElem?_append_right (by rw[List.length_take];omega),List.length_take,Nat.min_eq_left (by omega),List.getElem?_append_left (by rw[yN];omega),zBP _ _ _ (by omega)]
theorem zN2 (d:Nat->Int) (n:Nat):yI (upd (upd d n 0) (n+1) 0) (n+2)=yI d n ++ [.int .u16 0,.int .u16 0]:=by
 rw[show n+2=n+1+1 from rfl,zDY,zDY,List.append_assoc];rfl
theorem zEA {Pr:Program} (w:World) {ops:Array Oper} {rest:List Oper} {o:Oper} {act:Act} {Q:Exit->Act->World->Prop} (CE:o.guard=none) (s x:Operand) (t:TypeId)
  (ho:o.op=.call { callee:=.builtin .append,args:=#[s,x],argTypes:=#[t,t] })
  (base:Nat) (e:TypeId) (ht:Pr.underlying t=some (.slice e)) (hinfo:(Pr.info? e).map (λ i=>(i.zero,i.size,i.bytes))=some (some (.int .u16 0),1,2))
  (a:Option Addr) (n cap:Nat) (d:Nat->Int) (hs:act.eval s=.slice a n cap) (I2:Own w base e a n cap d) (g c:Nat) (hx:act.eval x=.slice (some ⟨g,0,none⟩) 2 c)
  (hv:w.cell? ⟨g,0,none⟩=some (.int .u16 0)) (hv1:w.cell? ⟨g,1,none⟩=some (.int .u16 0)) (hn:n<=1000000000) (hbase:base<=w.heap.size)
  (h:∀ g' m7 w',Own w' base e (some ⟨g',0,none⟩) (n+2) m7 (upd (upd d n 0) (n+1) 0)->Below base w w'->wpList Pr ops Q rest (act.put o.dst (.slice (some ⟨g',0,none⟩) (n+2) m7)) w'):wpList Pr ops Q (o :: rest) act w:=by
 obtain⟨i,hi,L4,J8,iz⟩:=info_parts hinfo;have E4:∀ k,(Value.slice a n cap).ownBlock=some k->base<=k:=λ k hk=>(World.ownsRow.lt I2 k hk).1
 refine wpList_append_lies w CE s x t ho base e i (.int .u16 0) 1 2 ht hi L4 J8 iz rfl (by decide) (.slice a n cap) n (yI d n) hs I2 ⟨g,0,none⟩ 2 c [.int .u16 0,.int .u16 0] hx rfl ?_ ?_ (by decide) ?_ ?_ hbase _ rfl ?_
 ·intro j u hj
  match j,hj with
  | 0,hj=>simp at hj;subst hj;rw[zFF];exact hv
  | 1,hj=>simp at hj;subst hj;rw[zFF];exact hv1
 ·intro u hu;simp at hu;subst hu;rfl
 ·unfold maxLen;omega
 ·omega
 ·intro g' m7 w' Z8 hgrow _ _
  rw[<- zN2] at Z8;exact h _ _ _ Z8 ((Below.refl base w).grown hgrow hbase E4)
theorem or64' (a b c:Int) (ha:0<=a) (aR:a<65536) (hb:b=65536*c) (qI:0<=c) (F8:c<281474976710656):bits .or .u64 a b=a+b:=by
 obtain⟨A,rfl⟩:=Int.eq_ofNat_of_zero_le ha;obtain⟨C,rfl⟩:=Int.eq_ofNat_of_zero_le qI;have h3:=zMC A (65536*C) C 16 (by omega) (by omega)
 have Q6:b=((65536*C:Nat):Int):=by omega
 rw[Q6,u64_or_nat A (65536*C) (by omega) (by omega),h3]
 omega
def LongI (A D:Int) (L N J:Nat) (u o:Nat->Int):Prop:=Dgs u/\Dgs o/\A=V u L+D*(P J*Tp o J N)/\Tp u J L<D
theorem zNT {A:Int} {u0 v:Nat->Int} {n1 n2 N:Nat} (hu:Dgs u0) (hv:Dgs v) (kl:0<n1) (Lr:n1=0\/v (n1-1)≠0) (hA:V u0 n2=A) (hN:N+n1=n2+2) :
  LongI A (V v n1) (n2+2) N N (upd (upd u0 n2 0) (n2+1) 0) (λ _=>0):=by
 have hz:Dgs (upd (upd u0 n2 0) (n2+1) 0):=yC (yC hu _ (by omega) (by omega)) _ (by omega) (by omega)
 refine⟨hz,λ _=>⟨by simp,by simp⟩,?_,?_⟩
 ·rw[zE3,Int.mul_zero,Int.mul_zero,Int.add_zero,<- hA]
  show _=V _ n2+_*P n2+_*P (n2+1)
  have e1:V (upd (upd u0 n2 0) (n2+1) 0) n2=V u0 n2:=zBY _ (λ j hj=>by simp only[upd];rw[if_neg (by omega),if_neg (by omega)])
  have e2:upd (upd u0 n2 0) (n2+1) 0 n2=0:=by simp[upd]
  have e3:upd (upd u0 n2 0) (n2+1) 0 (n2+1)=0:=by simp[upd]
  rw[e1,e2,e3];omega
 ·obtain⟨k,rfl⟩:∃ k,n1=k+1:=⟨n1-1,by omega⟩
  unfold Tp;rw[show n2+2-N=k+1 by omega]
  have h1:=zHY (λ t=>hz (N+t)) k
  have h2:=V_ge hv k (by simpa using Lr)
  have e3:upd (upd u0 n2 0) (n2+1) 0 (N+k)=0:=by rw[show N+k=n2+1 by omega];simp[upd]
  show V _ k+upd (upd u0 n2 0) (n2+1) 0 (N+k)*P k<_
  rw[e3];omega
theorem zH2 {Pr:Program} {ops:Array Oper} {o:Oper} {a:Act} {w:World} {K:Act->World->Prop} {Q:Exit->Act->World->Prop} {E:Prop} (CE:o.guard=none) (x y:Operand) (t:TypeId)
  (ho:o.op=.call { callee:=.builtin .copy,args:=#[x,y],argTypes:=#[t,t] }) (e:TypeId) (hut:Pr.underlying t=some (.slice e)) (O6:(Pr.info? e).map (·.size)=some 1)
  (g j L C cd cs:Nat) (sp:Option Addr) (u f:Nat->Int) (hd:a.eval x=.slice (some ⟨g,j,none⟩) (L-j) cd) (hs:a.eval y=.slice sp (L-j) cs) (I2:OwnL w g e L C u) (hf:Dig w sp (L-j) cs f) (hj:j<L)
  (B:Nat) (w0:World) (hb:Below B w0 w) (hBg:B<=g)
  (hK:∀ w',OwnL w' g e L C (zER u f j)->Below B w0 w'->(∀ k,k≠g->w'.heap[k]?=w.heap[k]?)->w'.heap.size=w.heap.size->K (a.put o.dst (goInt (yI f (L-j)).length)) w') :
  if Region.wanted o (yielded ops a.tmps)=true then Oper.wp Pr o a w K Q else E:=by
 have hw:Region.wanted o (yielded ops a.tmps)=true:=by simp[Region.wanted,CE]
 rw[if_pos hw];have Z8:=I2;obtain⟨cur,h1,h2,h3,h4⟩:=I2;obtain⟨b,off,rfl,iF,hcells⟩:=hf.at_ (by omega)
 have tM:=run_copy_row (P:=Pr) w t t o.type e g j (L-j) cd ⟨b,off,none⟩ (L-j) cs cur.toArray e (yI f (L-j)) hut O6 h1 (by rw[yN];simp)
  (λ i v hv=>by
   obtain⟨q1,q2⟩:=zFS hv
   rw[zFF,q2];exact hcells i q1) (by rw[yN];simp;omega) (zG3 _ _)
 unfold Oper.wp;simp[execOp,ho,resolve,invoke,builtin,hd,hs,tM,Result.andThen];refine hK _ (Z8.splice j (by omega) cur h1 ?_) (below_setRow hb hBg _) (λ k hk=>setRow_other w g k _ (by first|exact hk|exact λ e=>hk e.symm)) ?_
 ·simpa [Go.splice] using setRow_heap w g _ _ e _ h1
 ·simp[World.setRow]
theorem Tryz.sizeU16:(Tryz.prog.info? 98).map (·.size)=some 1:=by kernel_rfl
theorem zO7 {A D:Int} {L N j:Nat} {u o f:Nat->Int} {q:Int} (hjL:j<L) (hjN:j<N) (hD:0<D) (hA:A=V u L+D*(P (j+1)*Tp o (j+1) N)) (du:Dgs u) (do_:Dgs o) (df:Dgs f) (hq:q=Tp u j L/D) (oz:0<=q) (eG:q<65536)
  (hf:V f (L-j)=Tp u j L-D*q):LongI A D L N j (zER u f j) (upd o j q):=by
 refine⟨zOT du df j,yC do_ j oz eG,div_step hjL hjN hA (by rw[hf,Int.mul_comm D q]),?_⟩
 rw[zMS,hf,hq];have h1:=Int.mul_ediv_add_emod (Tp u j L) D;have h2:=Int.emod_lt_of_pos (Tp u j L) hD;omega
theorem trim_cmp {d e:Nat->Int} (hd:Dgs d) (he:Dgs e) (n m:Nat):zG4 d e (kI d n) (kI e m)=zF (V d n) (V e m):=by
 rw[zJH hd he _ _ (zBR d n) (zBR e m),zCJ,zCJ]
theorem field1 (x:Bool) (a:Option Addr) (n c:Nat) (w:World):(Instr.field 26 (.agg #[.bool x,.slice a n c]) 1).run Tryz.prog w=.ok (.slice a n c) w:=by kernel_rfl
theorem zQ0 (a c : Option Addr) (n m cap cap2 : Nat) (d e : Nat → Int) (w : World) (ha : Dig w a n cap d) (hc : Dig w c m cap2 e) (hn : n ≤ 900000000) (h1 : n = 0 ∨ d (n - 1) ≠ 0) (h2 : m = 0 ∨ e (m - 1) ≠ 0) (hm : 3 < m) (hge : V e m ≤ V d n) :
    Calls Tryz.prog 168 #[.slice a n cap, .slice c m cap2] w (zHG w d e n m) := by
  have hcv := zJH ha.dgs hc.dgs n m h1 h2
  have hneg : ¬ zG4 d e n m < 0 := by rw [hcv]; unfold zF; rw [if_neg (by omega)]; split <;> omega
  have hm3 : ¬ (m : Int) ≤ 3 := by omega
  have hmr := hc.room
  have hml := hc.le
  have hmn : m ≤ n := zF1 hc.dgs h2 (Int.lt_of_le_of_lt hge (zHY ha.dgs n))
  have htop : 0 < e (m - 1) := by have := hc.dgs (m - 1); omega
  have htop2 := (hc.dgs (m - 1)).2
  obtain ⟨b2, o2, rfl, hb2, hc2⟩ := hc.at_ (by omega)
  have hct := hc2 (m - 1) (by omega)
  have hi : ((m : Int) - 1) = ((m - 1 : Nat) : Int) := by omega
  have hfd := field1
  clear hcv hc2
  go_enter Tryz.func168, Tryz.ntmps168
  go_wp2_with (go_at_call 101; refine (yG _ _ _ _ _ _ d e _ ha hc).mono ?_; rintro r w0 ⟨rfl, hb0⟩)
  have g1 : w0.cell? ⟨b2, o2 + (m - 1), none⟩ = some (.int .u16 (e (m - 1))) := (hb0.cell (p := ⟨b2, o2 + (m - 1), none⟩) hb2).trans hct
  go_loop [6] (fun k => ∃ s : Nat, k = .int .i64 s ∧ s ≤ 15 ∧ e (m - 1) * Q s < 65536) (fun k => 16 - (intOf k).toNat)
  case atStart => exact ⟨0, rfl, by omega, by simp [Q]; omega⟩
  case round =>
    obtain ⟨s, rfl, hs, hes⟩ := hrel
    have hq := zG s
    have hmod : IntKind.u16.wrap (e (m - 1) * 2 ^ s) = e (m - 1) * Q s := by
      rw [zAR, zN1]
      have : 0 ≤ e (m - 1) * Q s := Int.mul_nonneg (by omega) (by omega)
      omega
    by_cases hlt : e (m - 1) * Q s < 32768
    · have ht : IntKind.u16.wrap (e (m - 1) * 2 ^ s) < 32768 := by rw [hmod]; exact hlt
      have hs15 : s < 15 := by
        rcases Nat.lt_or_ge s 15 with h | h
        · exact h
        · have h5 := zK h
          have e15 : Q 15 = 32768 := rfl
          have h6 := Int.mul_le_mul_of_nonneg_right (show 1 ≤ e (m - 1) by omega) (show 0 ≤ Q s by omega)
          omega
      have HN := zC (show e (m - 1) * Q (s + 1) < 65536 by simp only [Q]; rw [Int.mul_left_comm]; omega)
      clear hmod hlt hes
      go_wp2
      go_round
      case rel => exact ⟨s + 1, by go_num, by omega, zA HN⟩
      case measure => simp [intOf]; omega
    · have ht : ¬ IntKind.u16.wrap (e (m - 1) * 2 ^ s) < 32768 := by rw [hmod]; exact hlt
      clear hmod hlt
      have he0 : 0 < V e m := by
        have h5 := V_ge hc.dgs (m - 1) (by omega)
        rw [show m - 1 + 1 = m by omega] at h5
        have := yB (m - 1); omega
      go_wp2_with fail
      refine (up_any false _ m cap2 s e _ (hc.bw hb0) (by omega) (by omega)).mono ?_
      rintro r w1 ⟨neg1, a1, n1, c1, rfl, hZ1, hb1⟩
      obtain ⟨v, rfl, hn1, hv, hvtop, hn1k, hvV⟩ := zKA hZ1 (by simp only [sgn]; exact Int.mul_pos he0 (by omega))
      obtain ⟨k1, rfl⟩ : ∃ k1, n1 = k1 + 1 := ⟨n1 - 1, by omega⟩
      have HV := zC (show V v (k1 + 1) = V e m * Q s from hvV.symm)
      have hB1 := zB hb0 hb1
      clear hZ1 hvV g1 ht
      go_wp2_with fail
      refine (up_own false _ n cap s d _ (ha.bw hB1) (by omega) (by omega)).mono ?_
      rintro r w2 ⟨g0, n2, C2, u0, neg2, rfl, hown, hu0, hu0top, hu0V, hn2k, hb2'⟩
      have hn12 : k1 + 1 ≤ n2 := by
        refine zF1 hv.dgs hvtop ?_
        rw [zA HV]
        have h5 : V e m * Q s ≤ V d n * Q s := Int.mul_le_mul_of_nonneg_right hge (by omega)
        have h6 := zHY hu0 n2
        rw [hu0V] at h6
        omega
      have hn2b : n2 ≤ 900000100 := by omega
      have HU0 := zC hu0V
      obtain ⟨N, hN⟩ : ∃ N : Nat, (n2 : Int) + 2 - ((k1 : Int) + 1) = (N : Int) := ⟨n2 + 2 - (k1 + 1), by omega⟩
      have HNn := zC (show N + (k1 + 1) = n2 + 2 by omega)
      have hN1 : 0 < N := by omega
      have hsz2 := hb2'.size
      clear hu0V hes
      have hmk := run_make_row' (P := Tryz.prog) 24 98 (.int .u16 0) 2 Tryz.underlying24 Tryz.infoU16 rfl .i64 .i64 N (by omega) (by omega)
      go_wp2_with (at_builtin; refine zEA _ rfl _ _ 24 rfl w1.heap.size 98 Tryz.underlying24 Tryz.infoU16 (some ⟨g0, 0, none⟩) n2 C2 u0 rfl (hown.alloc _) w2.heap.size 2 rfl (by simp [go_sem]) (by simp [go_sem]) (by omega) (by simp; omega) ?_; intro g C w3 hown3 hb3)
      clear hmk hown
      have HN := zC hN
      clear hN
      obtain ⟨hOL, hbg⟩ := ownL_of hown3
      have hB3 : Below w1.heap.size w1 w3 := (hb2'.alloc hsz2 _).trans hb3
      have hg3 := hOL.lt
      have hsz3 := hB3.size
      obtain ⟨bv, ov, rfl, hbv, hcv⟩ := hv.at_ hn1
      have hvt := hcv k1 (by omega)
      have HI := zC (zNT hu0 hv.dgs hn1 hvtop (zA HU0) (zA HNn))
      clear hcv hown3 hb3 hb2'
      go_loopw [11] (fun jj wr => ∃ (J : Nat) (u o : Nat → Int), J ≤ N ∧ jj = .int .i64 ((J : Int) - 1) ∧ OwnL wr g 98 (n2 + 2) C u ∧ wr.rowIs w3.heap.size 98 N (fun j => .int .u16 (o j)) ∧ LongI (V d n * Q s) (V v (k1 + 1)) (n2 + 2) N J u o ∧ Below w1.heap.size w1 wr) (fun jj _ => (intOf jj + 1).toNat)
      case atStart => exact ⟨N, _, fun _ => 0, Nat.le_refl _, rfl, hOL.bw (bl1 _ _), World.rowIs_made w3 (.int .u16 0) N 98, zA HI, hB3.alloc hsz3 _⟩
      case round =>
        obtain ⟨J, u, o, hJ, rfl, hu, hrow, hI, hBr⟩ := hrel
        have hNn := zA HNn
        by_cases hJ0 : J = 0
        · subst hJ0
          obtain ⟨du, do_, hA, hT⟩ := hI
          have huD := hu.dig du 0 (by omega) (by omega)
          simp only [Nat.sub_zero, Nat.zero_add] at huD
          have huD2 : Dig wr (some ⟨g, 0, none⟩) (n2 + 2) C u := huD
          have hrowD := zEL hrow do_ (by omega)
          have HA := zC hA
          have HT := zC hT
          clear hA hT hrow hu
          go_wp2_with (first
            | (go_at_call 125; refine (zBG _ _ _ _ u _ huD2).mono ?_; rintro r w5 ⟨neg5, a5, n5, c5, rfl, hZ5, hb5⟩)
            | (go_at_call 105; refine (zBX _ _ _ _ s (n2 + 2) _ _ hZ5 (by omega) (by omega)).mono ?_; rintro r w6 ⟨neg6, a6, n6, c6, rfl, hZ6, hb6⟩))
          go_ret2
          obtain ⟨z6, p1, p2, p3, p4, p5⟩ := hZ6
          simp only [sgn] at p5
          have hQ := zG s
          have f0 := zA HA
          have f1 := zA HT
          have f2 := zA HV
          rw [zCR] at f1
          rw [zCR, show P 0 = 1 from rfl, Int.one_mul, f2] at f0
          rw [f2] at f1
          have f3 : V u (n2 + 2) = Q s * (V d n - V o N * V e m) := by
            rw [Int.mul_sub, Int.mul_comm (Q s) (V d n), f0]
            have : V e m * Q s * V o N = Q s * (V o N * V e m) := by rw [Int.mul_comm (V e m), Int.mul_assoc, Int.mul_comm (V e m)]
            omega
          have hu9 := zZ du (n2 + 2)
          obtain ⟨R, hR⟩ : ∃ R, R = V d n - V o N * V e m := ⟨_, rfl⟩
          rw [← hR] at f3
          have f4 : V u (n2 + 2) / Q s = R := by rw [f3, Int.mul_ediv_cancel_left _ (by omega)]
          have hR0 : 0 ≤ R := by
            rcases Int.lt_or_le R 0 with h5 | h5
            · have h6 := Int.mul_le_mul_of_nonneg_left (show R ≤ -1 by omega) (show 0 ≤ Q s by omega)
              omega
            · exact h5
          have hR1 : R < V e m := by
            rcases Int.lt_or_le R (V e m) with h5 | h5
            · exact h5
            · have h6 := Int.mul_le_mul_of_nonneg_left h5 (show 0 ≤ Q s by omega)
              rw [Int.mul_comm (Q s) (V e m)] at h6
              omega
          have hz0 := zZ p1.dgs n6
          have hpos : 0 < n6 → 1 ≤ V z6 n6 := fun h5 => by
            have h6 := V_ge p1.dgs (n6 - 1) (by omega)
            rw [show n6 - 1 + 1 = n6 by omega] at h6
            have := yB (n6 - 1); omega
          have hz : V z6 n6 = R ∧ (0 < n6 ↔ R ≠ 0) := by
            have hn0 : n6 = 0 → V z6 n6 = 0 := fun h5 => by rw [h5]; rfl
            rw [show (if false = true then -V u (n2 + 2) else V u (n2 + 2)) = V u (n2 + 2) from rfl, f4] at p5
            cases neg6
            · have h5 : R = V z6 n6 := p5
              refine ⟨h5.symm, fun h6 => by have := hpos h6; omega, fun h6 => ?_⟩
              rcases Nat.eq_zero_or_pos n6 with h7 | h7
              · have := hn0 h7; omega
              · exact h7
            · have h5 : R = -V z6 n6 := p5
              rcases Nat.eq_zero_or_pos n6 with h7 | h7
              · have := p3 h7; cases this
              · have := hpos h7; omega
          have hn6 : n6 ≤ n := zF1 p1.dgs p2 (by rw [hz.1]; have := zHY ha.dgs n; omega)
          have hs16 : s / 16 = 0 := by omega
          exact ⟨_, N, N, o, a6, n6, c6, R, rfl, hrowD.bw (zB hb5 hb6), by omega, hz.2, by omega, by rw [hR]; omega, hR0, hR1, zB (zB (hB1.trans (hBr.mono hB1.size)) hb5) hb6⟩
        · obtain ⟨j, rfl⟩ : ∃ j, J = j + 1 := ⟨J - 1, by omega⟩
          have e0 : ((j + 1 : Nat) : Int) - 1 = (j : Int) := by omega
          rw [e0]
          obtain ⟨du, do_, hA, hT⟩ := hI
          have y1 := hu.cell (show j + k1 < n2 + 2 by omega)
          have y2 := hu.cell (show j + (k1 + 1) < n2 + 2 by omega)
          have y3 : wr.cell? ⟨bv, ov + k1, none⟩ = some (.int .u16 (v k1)) := (hBr.cell (p := ⟨bv, ov + k1, none⟩) hbv).trans hvt
          have i4 : (j : Int) + ((k1 : Int) + 1) < (n2 : Int) + 2 := by omega
          have i5 : (j : Int) + (k1 : Int) < (n2 : Int) + 2 := by omega
          have b1 := du (j + k1)
          have b2 := du (j + (k1 + 1))
          have b3 := hv.dgs k1
          have b4 : 0 < v k1 := by have h9 : v k1 ≠ 0 := by simpa using hvtop
                                   omega
          clear e0
          have hL9 : n2 + 2 ≤ 1000000000 := by omega
          have hCge : n2 + 2 ≤ C := by obtain ⟨_, _, _, h3, _⟩ := hu; exact h3
          have hD : 0 < V v (k1 + 1) := by have := zAT du (j + 1) (n2 + 2); omega
          obtain ⟨qs, hqs⟩ : ∃ qs, qs = Tp u j (n2 + 2) / V v (k1 + 1) := ⟨_, rfl⟩
          have hqs0 : 0 ≤ qs := by rw [hqs]; exact Int.ediv_nonneg (zAT du _ _) (by omega)
          have hqm : qs * V v (k1 + 1) ≤ Tp u j (n2 + 2) := by rw [hqs]; exact Int.ediv_mul_le _ (by omega)
          obtain ⟨hh1, hh2⟩ := div_hat du hv.dgs (show 0 < k1 + 1 by omega) (show j + (k1 + 1) < n2 + 2 by omega) hT qs hqm hqs0
          rw [show j + (k1 + 1) - 1 = j + k1 by omega, show k1 + 1 - 1 = k1 by omega] at hh1
          have hor : bits BinOp.or IntKind.u64 (u (j + k1)) (u (j + (k1 + 1)) * 65536) = u (j + (k1 + 1)) * 65536 + u (j + k1) := by
            rw [or64' _ _ (u (j + (k1 + 1))) b1.1 b1.2 (by omega) b2.1 (by omega)]; omega
          have HX := zC (show IntKind.u64.wrap ((bits BinOp.or IntKind.u64 (u (j + k1)) (u (j + (k1 + 1)) * 65536)).tdiv (v k1)) = (u (j + (k1 + 1)) * 65536 + u (j + k1)) / v k1 by
            rw [hor, Int.tdiv_eq_ediv_of_nonneg (by omega), IntKind.wrap_u64]
            have g5 : 0 ≤ (u (j + (k1 + 1)) * 65536 + u (j + k1)) / v k1 := Int.ediv_nonneg (by omega) (by omega)
            have g6 : (u (j + (k1 + 1)) * 65536 + u (j + k1)) / v k1 ≤ u (j + (k1 + 1)) * 65536 + u (j + k1) := Int.ediv_le_self _ (by omega)
            omega)
          have HX2 := zC (show qs ≤ (u (j + (k1 + 1)) * 65536 + u (j + k1)) / v k1 from Int.le_ediv_of_mul_le b4 hh1)
          have HQ := zC hqs
          have HA := zC hA
          have HT := zC hT
          have HM := zC hqm
          clear hor hA hT hqs hqm hh1
          go_wp2_with fail
          all_goals
            go_loopw [13, 14] (fun q x wq => ∃ Y : Int, q = .int .u64 Y ∧ qs ≤ Y ∧ Y ≤ 65535 ∧ OwnL wq g 98 (n2 + 2) C u ∧ wq.rowIs w3.heap.size 98 N (fun j => .int .u16 (o j)) ∧ Below w1.heap.size w1 wq) (fun q _ _ => (intOf q).toNat)
            case atStart =>
              first
                | exact ⟨65535, rfl, by omega, Int.le_refl _, hu, hrow, hBr⟩
                | exact ⟨_, rfl, by rw [zA HX]; exact zA HX2, by assumption, hu, hrow, hBr⟩
            case round =>
              obtain ⟨Y, rfl, hY0, hY1, huq, hrowq, hBq⟩ := hrel
              have hYn : 0 ≤ Y := by omega
              have j1 : (j : Int) ≤ (n2 : Int) + 2 := by omega
              have j2 : (n2 : Int) + 2 ≤ (C : Int) := by omega
              have j3 : j < C := by omega
              have hvq := hv.bw hBq
              have huD := huq.dig du j (by omega) (by omega)
              have dT := zGJ hv.dgs (q := Y) ⟨hYn, by omega⟩ (k1 + 1)
              have dU : Dgs (fun i => u (j + i)) := fun i => du _
              have vT := times_V v Y (k1 + 1)
              have hcmp := trim_cmp dT dU (k1 + 1 + 1) (n2 + 2 - j)
              have eU : V (fun i => u (j + i)) (n2 + 2 - j) = Tp u j (n2 + 2) := rfl
              rw [vT, eU] at hcmp
              by_cases hle : V v (k1 + 1) * Y ≤ Tp u j (n2 + 2)
              · have t1 : zF (V v (k1 + 1) * Y) (Tp u j (n2 + 2)) ≤ 0 := by unfold zF; split <;> (try split) <;> omega
                have hYq : Y = qs := by
                  have h5 : Y ≤ Tp u j (n2 + 2) / V v (k1 + 1) := Int.le_ediv_of_mul_le hD (by rw [Int.mul_comm]; exact hle)
                  rw [← zA HQ] at h5; omega
                have hm9 : kI (kW v Y (k1 + 1)) (k1 + 1 + 1) ≤ n2 + 2 - j := by
                  refine zF1 dT (zBR _ _) ?_
                  rw [zCJ, vT]
                  have := Tp_lt du j (n2 + 2); omega
                have HF := zC (show V (zBB (fun i => u (j + i)) (kW v Y (k1 + 1)) (kI (kW v Y (k1 + 1)) (k1 + 1 + 1))) (n2 + 2 - j) = Tp u j (n2 + 2) - V v (k1 + 1) * Y by
                  rw [zQ6 dU dT _ _ hm9 (by rw [zCJ, vT, eU]; exact hle), zCJ, vT, eU])
                have dF := zFU dU dT (kI (kW v Y (k1 + 1)) (k1 + 1 + 1))
                have HCM := zC hcmp
                have HYQ := zC hYq
                clear hcmp vT eU hYq
                go_wp2_with fail
                refine (zI2 (some ⟨bv, ov, none⟩) (k1 + 1) c1 v Y _ hvq (by omega) hYn (by omega)).mono ?_
                rintro r wt ⟨at_, rfl, hdt, hbt⟩
                have hBt := hBq.trans (hbt.mono hBq.size)
                have huDt := huD.bw hbt
                have hB0 : Below wt.heap.size wt wt.drew := (Below.refl _ _).drew
                have tl := zBJ (kW v Y (k1 + 1)) (k1 + 1 + 1)
                have tl2 := zBJ (fun i => u (j + i)) (n2 + 2 - j)
                go_wp2_with fail
                go_region_held3 (fun _ => True) (trivial)
                  (first
                    | (go_at_call 101; refine (yG _ _ _ _ _ _ (kW v Y (k1 + 1)) (fun i => u (j + i)) _ ((hdt.take tl).bw hD2) ((huDt.take tl2).bw hD2)).mono ?_; rintro r wc3 ⟨rfl, hb3⟩; have hD3 := zB hD2 hb3; rw [zA HCM])
                    | (go_at_call 170; have hq := hD1; refine (yE _ _ _ (fun i => u (j + i)) _ (huDt.bw hD1)).mono ?_; rintro r wc2 ⟨rfl, hb2⟩; have hD2 := zB hD1 hb2)
                    | (go_at_call 170; refine (yE _ _ _ (kW v Y (k1 + 1)) _ (hdt.bw hB0)).mono ?_; rintro r wc1 ⟨rfl, hb1⟩; have hD1 := zB hB0 hb1))
                have hBc := hBt.trans (hD3.mono hBt.size)
                have huc := (huq.bw hbt).bw hD3
                have hrowc : wc3.rowIs w3.heap.size 98 N (fun j => .int .u16 (o j)) := (hrowq.of_block (hbt.block _ hrowq.lt)).of_block (hD3.block _ (Nat.lt_of_lt_of_le hrowq.lt hbt.size))
                have hdtc := hdt.bw hD3
                have huDc := huDt.bw hD3
                have hE0 : Below wc3.heap.size wc3 wc3.drew := (Below.refl _ _).drew
                clear hb1 hb2 hb3 hD1 hD2 hD3 hB0
                go_wp2
                go_region_held3 (fun _ => True) (trivial)
                  (first
                    | (go_at_call 170; refine (yE _ _ _ (kW v Y (k1 + 1)) _ (hdtc.bw hE0)).mono ?_; rintro r wc4 ⟨rfl, hb4⟩; have hE4 := zB hE0 hb4)
                    | (go_at_call 127; refine (zHB _ _ (n2 + 2 - j) _ _ _ (fun i => u (j + i)) (kW v Y (k1 + 1)) _ (huDc.bw hE4) ((hdtc.take tl).bw hE4) (by omega) (by omega)).mono ?_; rintro r wc5 ⟨a5, rfl, hd5, hb5⟩; have hE5 := zB hE4 hb5; have hu5 := huc.bw hE5; have hB5 := hBc.trans (hE5.mono hBc.size))
                    | (refine zH2 (by rfl) _ _ 24 (by rfl) 98 Tryz.underlying24 Tryz.sizeU16 g j (n2 + 2) C _ _ _ u _ (by rfl) (by rfl) hu5 hd5 (by omega) w1.heap.size w1 hB5 hbg ?_; intro w6 hu6 hB6 ho6 hs6))
                have hrow6 : w6.rowIs w3.heap.size 98 N (fun j => .int .u16 (o j)) := (hrowc.of_block (hE5.block _ hrowc.lt)).of_block (ho6 _ (Nat.ne_of_gt hg3))
                have r1 := hrow6.cell (show j < N by omega)
                have r2 := hrow6.frozen j
                have jN : (j : Int) < (N : Int) := by omega
                have hW16 : IntKind.u16.wrap Y = Y := by rw [zAR]; omega
                have HLN := zC (zO7 (show j < n2 + 2 by omega) (show j < N by omega) hD (zA HA) du do_ dF ((zA HYQ).trans (zA HQ)) hYn (by omega) (zA HF))
                have HR6 := zC hrow6
                clear hrow6 hrowc hu5 hd5 hb5 hE5 hE4 hb4 hE0 hrowq huq huc ho6
                go_wp2
                go_roundw
                case rel => exact ⟨j, _, _, by omega, by go_num, hu6.of_block (Go.Deep.blk_setCell_other _ _ _ _ (Nat.ne_of_lt hg3)), zCG (zA HR6) j (by first | rfl | exact hW16), zA HLN, hB6.setCell hsz3 _⟩
                case measure => simp [intOf]; try omega
              · have t1 : ¬ zF (V v (k1 + 1) * Y) (Tp u j (n2 + 2)) ≤ 0 := by
                  unfold zF; rw [if_neg (by omega), if_pos (by omega)]; omega
                have hYq : qs < Y := by
                  rcases Int.lt_or_le qs Y with h5 | h5
                  · exact h5
                  · have h6 := Int.mul_le_mul_of_nonneg_right h5 (show 0 ≤ V v (k1 + 1) by omega)
                    have h7 := zA HM
                    rw [Int.mul_comm Y] at h6; omega
                have HCM := zC hcmp
                clear hcmp vT eU
                go_wp2_with fail
                refine (zI2 (some ⟨bv, ov, none⟩) (k1 + 1) c1 v Y _ hvq (by omega) hYn (by omega)).mono ?_
                rintro r wt ⟨at_, rfl, hdt, hbt⟩
                have hBt := hBq.trans (hbt.mono hBq.size)
                have huDt := huD.bw hbt
                have hB0 : Below wt.heap.size wt wt.drew := (Below.refl _ _).drew
                have tl := zBJ (kW v Y (k1 + 1)) (k1 + 1 + 1)
                have tl2 := zBJ (fun i => u (j + i)) (n2 + 2 - j)
                go_wp2_with fail
                go_region_held3 (fun _ => True) (trivial)
                  (first
                    | (go_at_call 101; refine (yG _ _ _ _ _ _ (kW v Y (k1 + 1)) (fun i => u (j + i)) _ ((hdt.take tl).bw hD2) ((huDt.take tl2).bw hD2)).mono ?_; rintro r wc3 ⟨rfl, hb3⟩; have hD3 := zB hD2 hb3; rw [zA HCM])
                    | (go_at_call 170; have hq := hD1; refine (yE _ _ _ (fun i => u (j + i)) _ (huDt.bw hD1)).mono ?_; rintro r wc2 ⟨rfl, hb2⟩; have hD2 := zB hD1 hb2)
                    | (go_at_call 170; refine (yE _ _ _ (kW v Y (k1 + 1)) _ (hdt.bw hB0)).mono ?_; rintro r wc1 ⟨rfl, hb1⟩; have hD1 := zB hB0 hb1))
                have hBc := hBt.trans (hD3.mono hBt.size)
                have huc := (huq.bw hbt).bw hD3
                have hrowc : wc3.rowIs w3.heap.size 98 N (fun j => .int .u16 (o j)) := (hrowq.of_block (hbt.block _ hrowq.lt)).of_block (hD3.block _ (Nat.lt_of_lt_of_le hrowq.lt hbt.size))
                clear hb1 hb2 hb3 hD1 hD2 hD3 hB0
                go_wp2
                go_roundw
                case rel => exact ⟨Y - 1, by go_num, by omega, by omega, huc, hrowc, hBc⟩
                case measure => simp [intOf]; try omega
theorem over_any (a c:Option Addr) (n m cap j6:Nat) (d e:Nat->Int) (w:World) (ha:Dig w a n cap d) (hc:Dig w c m j6 e) (hn:n<=900000000) (h1:n=0\/d (n-1)≠0) (h2:m=0\/e (m-1)≠0) (P8:0<V e m) :
  Calls Tryz.prog 168 #[.slice a n cap,.slice c m j6] w (zHG w d e n m):=by
 by_cases h:m<=3\/V d n<V e m
 ·exact zGV a c n m cap j6 d e w ha hc (by omega) h1 h2 P8 h
 ·exact zQ0 a c n m cap j6 d e w ha hc hn h1 h2 (by omega) (by omega)
theorem yH (neg b6:Bool) (a c:Option Addr) (n m cap j6 k k2:Nat) (x y:Int) (w:World) (h1:IntAt w neg a n cap k x) (h2:IntAt w b6 c m j6 k2 y) (hk:k<=900000000) (hy:0<y) :
  Calls Tryz.prog 119 #[.agg #[.bool neg,.slice a n cap],.agg #[.bool b6,.slice c m j6]] w (zAN w k (x/y)):=by
 obtain⟨e,rfl,f0,f1,f2,f3,rfl⟩:=zKA h2 hy;obtain⟨d,g1,g2,g3,g4,rfl⟩:=h1
 exact (zG6 neg a c n m cap j6 d e w g1 f1 (by omega) f0 (λ w' p q=>over_any a c n m cap j6 d e w' p q (by omega) g2 f2 hy)).mono
  λ _ _ ⟨n1,n2,n3,n4,q1,q2,q3⟩=>⟨n1,n2,n3,n4,q1,q2.mono (by omega),q3⟩
def FzP (w:World) (p:Value):Prop:=∀ B,p=.pointer (some ⟨B,0,none⟩)->∀ o,w.frozen? ⟨B,o,none⟩=false
def RootOf (x z:Int):Prop:=0<=z/\(x<=0->z=0)/\(0<x->z*z<=x/\x<(z+1)*(z+1))
theorem IntAt.fit {w:World} {neg:Bool} {a:Option Addr} {n cap k K:Nat} {z:Int} (h:IntAt w neg a n cap k z) (h0:0<=z) (hz:z<P K):IntAt w neg a n cap K z:=by
 obtain⟨d,h1,h2,h3,h4,h5⟩:=h;refine⟨d,h1,h2,h3,?_,h5⟩;refine zF1 h1.dgs h2 ?_;have:=zZ h1.dgs n
 cases neg
 ·simp[sgn] at h5;omega
 ·simp[sgn] at h5;have:=yB K;omega
theorem zO (w:World) (a b:Addr) (v:Value):(w.setCell a v).frozen? b=w.frozen? b:=by simp[go_sem]
theorem jL (n:Int) (h1 : -9223372036854775808<=n) (h2:n<=9223372036854775807):IntKind.i64.wrap n=n:=by rw[IntKind.wrap_i64];omega
theorem yA (neg:Bool) (a:Option Addr) (n cap k:Nat) (x:Int) (w:World) (h:IntAt w neg a n cap k x) :
  Calls Tryz.prog 96 #[.agg #[.bool neg,.slice a n cap]] w λ r w'=>r=.returned (.int .i64 (zF x 0))/\Below w.heap.size w w':=by
 obtain⟨d,h1,h2,h3,h4,h5⟩:=h
 have e:zJ4 neg n=zF x 0:=by
  have hv:=zZ h1.dgs n;unfold zJ4 zF
  by_cases hn:n=0
  ·subst hn
   have:x=0:=by rw[h5];cases neg<;>simp[sgn,V]
   subst this;simp
  ·have h6:=V_ge h1.dgs (n-1) (by omega)
   rw[show n-1+1=n by omega] at h6
   have:=yB (n-1);rw[if_neg hn]
   cases neg
   ·simp[sgn] at h5
    rw[if_neg (by simp),if_neg (by omega),if_pos (by omega)]
   ·simp[sgn] at h5
    rw[if_pos rfl,if_pos (by omega)]
 exact (zHS neg a n cap w h1.room).mono λ r w' ⟨p1,p2⟩=>⟨by rw[p1,e],p2⟩
theorem root_pos (neg:Bool) (a:Option Addr) (n cap k:Nat) (x:Int) (w:World) (h1:IntAt w neg a n cap k x) (hk:k<=100000000) (hx:0<x) :
  Calls Tryz.prog 189 #[.agg #[.bool neg,.slice a n cap]] w λ r w'=>∃ z,RootOf x z/\zDQ w (k+10) z r w':=by
 obtain⟨d,g1,g2,g3,g4,g5⟩:=h1;have h1:IntAt w neg a n cap k x:=⟨d,g1,g2,g3,g4,g5⟩
 have hn:0<n:=by
  rcases Nat.eq_zero_or_pos n with h0|h0
  ·subst h0;cases neg<;>simp[sgn,V] at g5<;>omega
  ·exact h0
 have hxV:V d n=x:=by
  have:=zZ g1.dgs n
  cases neg
  ·simpa [sgn] using g5.symm
  ·simp[sgn] at g5;omega
 obtain⟨l,l1,l2,l3⟩:=zQX g1.dgs hn (by omega)
 rw[hxV] at l2 l3;obtain⟨K0,Ks⟩:∃ K0:Nat,((l:Int)+1)/2+1=(K0:Int):=⟨(l+1)/2+1,by omega⟩
 have Dq:l+1<=2*K0/\K0<=l+2:=by omega
 have hln:l+1<=16*n:=by have:=lenZ_le n d;omega
 have CK:0<=(l:Int):=by omega
 have Tz:(l:Int)<=1600000000:=by omega
 have oH:=zC (show IntKind.i64.wrap (IntKind.i64.wrap (((l:Int)+1).tdiv 2)+1)=(K0:Int) by
  rw[Int.tdiv_eq_ediv_of_nonneg (by omega),jL (((l:Int)+1)/2) (by omega) (by omega),jL _ (by omega) (by omega)]
  exact Ks)
 have oz:=zG K0
 have IL:x<Q K0*Q K0:=by
  rw[<- jD];have:=zK (show l+1<=K0+K0 by omega);omega
 have hPk:Q K0<P (k+2):=by
  rw[<- Q_P];have h5:=zK (show K0+1<=16*(k+2) by omega)
  simp only[Q] at h5;omega
 have HSQ:=zC (show x<(Q K0+1)*(Q K0+1) by
  have h5:(Q K0+1)*(Q K0+1)=Q K0*Q K0+2*Q K0+1:=by rw[Int.add_mul,Int.mul_add];omega
  omega)
 have t1:¬ zF x 0<=0:=by unfold zF;rw[if_neg (by omega),if_pos (by omega)];omega
 obtain⟨W,hW⟩:∃ W,W=(w.alloc (.cells #[.bool neg,.slice a n cap] 26)).alloc (.cells #[.bool false,.slice none 0 0] 26):=⟨_,rfl⟩;have b8:Below w.heap.size w W:=by rw[hW];exact bl2 _ _ _
 have A:NmC W w.heap.size ⟨neg,a,n,cap⟩:=by rw[hW];constructor<;>simp[go_sem]
 have R:NoI W (w.heap.size+1):=by rw[hW];constructor<;>simp[go_sem]
 have GD:=zC (g1.bw b8);have HX:=zC (h1.bw b8);have HL:=zC l1;have HK0:=zC Dq;clear g1 h1 l1 hxV g5 IL l2 l3 Dq
 go_enter Tryz.func189,Tryz.ntmps189
 go_wp2_with fail;rw[<- hW];clear hW;refine (yA _ _ _ _ k x _ (zA HX)).mono ?_;rintro r w0 ⟨rfl,C9⟩;replace A:=A.bw C9;replace R:=R.bw C9;replace b8:=zB b8 C9;replace GD:=zC ((zA GD).bw C9);replace HX:=zC ((zA HX).bw C9);have LC:=zC (show ∀ w',Below w0.heap.size w0 w'->(w'.cell? ⟨w.heap.size,0,none⟩=some (.bool neg)/\w'.cell? ⟨w.heap.size,1,none⟩=some (.slice a n cap)) from λ w' hB=>⟨(A.bw hB).c0,(A.bw hB).c1⟩)
 have lA:=A.lt;have lR:=R.lt;obtain⟨i0,i1⟩:=zA LC _ (Below.refl _ _);clear C9;go_wp2_with fail
 go_cut [3] (λ p wx=>VarAt wx p w0.heap.size (k+10) (1*Q K0)/\FzP wx p/\Below w0.heap.size w0 wx)
 case first =>
  go_region_held3 (λ w'=>w'.cell? ⟨w.heap.size,0,none⟩=some (.bool neg)/\w'.cell? ⟨w.heap.size,1,none⟩=some (.slice a n cap)) (exact zA LC _ (by repeat' (first|with_reducible exact vk|with_reducible exact T8|with_reducible exact J0|with_reducible exact Below.refl _ _|with_reducible refine Below.drew ?_|with_reducible refine zL ?_ _|with_reducible refine Below.setCell ?_ (by first|exact XW _|exact ai|exact aj|exact vn) _)))
   (first
    | (go_at_call 95;have hq:=T8;rw[zA oH];refine (zBF _ _ _ _ K0 4 1 _ (T9.bw (by with_reducible first|exact Below.refl _ _|exact bl1 _ _)) (by omega) (by have:=zA HK0;omega)).mono ?_;rintro r wX3 ⟨Dr,aX3,nX3,cX3,rfl,Ds,vo⟩;have pk:Below qN.heap.size qN wX3:=(by with_reducible first|exact vo|exact zB (bl1 _ _) vo);have vk:=zB T8 pk;(try with_reducible have TA:=(jO qN 26).bw vo);replace T9:=T9.bw pk;(try replace ez:=ez.bw pk);(try replace oC:=oC.bw pk);have vn:=vk.size;(try have qO:=ez.lt);(try have Tk:=Yj qO);(try have CW:=Yi qO);(try obtain⟨CZ,Db,Dc⟩:=ez);(try have qP:=oC.lt);(try have Tl:=Yj qP);(try have Dd:=Yi qP);(try obtain⟨De,Df,Dg⟩:=oC);(try have TB:=TA.lt);(try have eX3:=Yj TB);(try have eX3':=Yi TB);(try obtain⟨zX30,zX31,zX32⟩:=TA))
    | (go_at_call 120;have hq:=J0;refine (zB7 _ _ _ _ d _ ((zA GD).bw (by with_reducible first|exact J0|exact zL J0 _))).mono ?_;rintro r qN ⟨rfl,ak⟩;rw[zA HL];have ao:Below gQ.heap.size gQ qN:=(by with_reducible first|exact ak|exact zB (bl1 _ _) ak);have T8:=zB J0 ao;(try with_reducible have oC:=(jO gQ 26).bw ak);replace T9:=T9.bw ao;(try replace ez:=ez.bw ao);have aj:=T8.size)
    | (go_at_call 43;refine (zD 1 _ (by decide) (by decide)).mono ?_;rintro r gQ ⟨qQ,Tm,Tn,To,rfl,T9,aq⟩;have J0:Below w0.heap.size w0 gQ:=(by with_reducible first|exact zB (Below.refl _ _).drew aq|exact zB (bl1 _ _).drew aq);(try with_reducible have ez:=((jO w0 26).bw (Below.refl _ _).drew).bw aq);have ai:=J0.size))
  all_goals
   go_wp2_with fail;go_meet;refine⟨⟨_,⟨Dr,aX3,nX3,cX3⟩,rfl,?_,?_,?_,?_,?_⟩,?_,?_⟩
   ·simp[go_sem, *]
   ·simp[go_sem, *]
   ·first|with_reducible exact IntAt.mono (Ds.bw (bl1 _ _)) (by omega)|with_reducible exact IntAt.mono (Ds.put2 (by assumption) (by assumption) _ _) (by omega)
   ·first|exact XW _|exact ai|exact aj|exact vn
   ·simp[World.setCell];try omega
   ·intro B hB o;cases hB;simp[go_sem, *]
   ·repeat' (first|with_reducible exact vk|with_reducible exact T8|with_reducible exact J0|with_reducible exact Below.refl _ _|with_reducible refine Below.drew ?_|with_reducible refine zL ?_ _|with_reducible refine Below.setCell ?_ (by first|exact XW _|exact ai|exact aj|exact vn) _)
 case rest =>
 obtain⟨⟨BX,xX,rfl,Bf,Bg,iJ,Bh,hltX⟩,hfzX,hblX⟩:=hcut;have XX:NmC wc BX xX:=⟨Bf,Bg⟩;have F0:∀ o,wc.frozen? ⟨BX,o,none⟩=false:=hfzX BX rfl;replace A:=A.bw hblX;replace R:=R.bw hblX;replace b8:=zB b8 hblX;replace HX:=zC ((zA HX).bw hblX);rw[Int.one_mul] at iJ;have hZ0:=iJ.fit (by omega) hPk
 have vq:w.heap.size≠BX:=Yj (Yd lA Bh);have nXA:BX≠w.heap.size:=λ e9=>vq e9.symm
 have hnXR:BX≠w.heap.size+1:=Yi (Yd lR Bh);have hBXw:w.heap.size<=BX:=by omega
 clear i0 i1 LC iJ Bf Bg HL oH GD;go_wp2_with fail
 go_loopg [4] (Q K0).toNat (λ gg p wr=>∃ (X:Nm) (z:Int),NmC wr BX X/\(∀ o,wr.frozen? ⟨BX,o,none⟩=false)/\IntAt wr X.neg X.a X.n X.cap (k+2) z/\0<z/\z<=Q K0/\z.toNat<=gg/\x<(z+1)*(z+1)/\NmC wr w.heap.size ⟨neg,a,n,cap⟩/\NoI wr (w.heap.size+1)/\IntAt wr neg a n cap k x/\Below w.heap.size w wr)
 case atStart=>exact⟨xX,Q K0,XX,F0,hZ0,by omega,Int.le_refl _,XW _,zA HSQ,A,R,zA HX,b8⟩
 case round =>
  obtain⟨X,z,hX,hF,hz,L4,hzq,hzg,TC,A,R,Dt,oD⟩:=hrel;obtain⟨yv,IM⟩:∃ yv,yv=(z+x/z)/2:=⟨_,rfl⟩;have hxz:0<=x/z:=Int.ediv_nonneg (by omega) (by omega)
  have E9:x<(yv+1)*(yv+1):=by rw[IM];exact zOM L4
  have tK:0<yv:=by
   rcases Int.lt_or_le 0 yv with h5|h5
   ·exact h5
   ·have h6:yv=0:=by omega
    rw[h6] at E9;omega
  have HYV:=zC (show (z+x/z)/Q 1=yv from IM.symm)
  have HUP:=zC E9;have HZS:=zC TC;have LD:=zC (show z<=yv->z*z<=x from λ h=>zNG L4 (by omega) (by rw[<- IM];exact h))
  clear IM E9 TC;have hz:=zC hz;have Dt:=zC Dt;have Q5:=zC (show ∀ w',Below wr.heap.size wr w'->(w'.cell? ⟨w.heap.size,0,none⟩=some (.bool neg)/\w'.cell? ⟨w.heap.size,1,none⟩=some (.slice a n cap)/\nK0 w' BX X) from λ w' hB=>⟨(A.bw hB).c0,(A.bw hB).c1,(hX.bw hB).c0,(hX.bw hB).c1⟩)
  have lA:=A.lt;have lX:=hX.lt;have lR:=R.lt;have nXR:BX≠w.heap.size+1:=hnXR;have Dv:w.heap.size+1≠BX:=λ e9=>nXR e9.symm
  obtain⟨i0,i1,i2,i3⟩:=zA Q5 _ (Below.refl _ _);go_wp2_with fail
  go_cut [4] (λ p wx=>VarAt wx p wr.heap.size (k+20) ((z+x/z)/Q 1)/\Below wr.heap.size wr wx)
  case first =>
   go_region_held3 (λ w'=>w'.cell? ⟨w.heap.size,0,none⟩=some (.bool neg)/\w'.cell? ⟨w.heap.size,1,none⟩=some (.slice a n cap)/\nK0 w' BX X) (exact zA Q5 _ (by repeat' (first|with_reducible exact cq|with_reducible exact ar|with_reducible exact W3|with_reducible exact Below.refl _ _|with_reducible refine Below.drew ?_|with_reducible refine zL ?_ _|with_reducible refine Below.setCell ?_ (by first|exact XW _|exact eR|exact eV|exact eZ) _)))
    (first
     | (go_at_call 105;have hq:=ar;refine (zBX _ _ _ _ 1 (k+9) (z+x/z) _ ((W4.bw (by with_reducible first|exact Below.refl _ _|exact bl1 _ _)).mono (by omega)) (by omega) (by omega)).mono ?_;rintro r Bl ⟨Dw,aY3,nY3,cY3,rfl,po,fc⟩;have av:Below pA.heap.size pA Bl:=(by with_reducible first|exact fc|exact zB (bl1 _ _) fc);have cq:=zB ar av;(try with_reducible have lK:=(jO pA 26).bw fc);replace O3:=O3.bw av;(try replace cr:=cr.bw av);replace W4:=W4.bw av;(try replace fe:=fe.bw av);have eZ:=cq.size;(try have Dx:=cr.lt);(try have eY1:=Yj Dx);(try have LF:=Yi Dx);(try obtain⟨Dz,DA,DB⟩:=cr);(try have DC:=fe.lt);(try have eY2:=Yj DC);(try have LG:=Yi DC);(try obtain⟨DE,DF,DG⟩:=fe);(try have DI:=lK.lt);(try have eY3:=Yj DI);(try have LH:=Yi DI);(try obtain⟨DJ,DK,DL⟩:=lK))
     | (go_at_call 65;have hq:=W3;refine (kX _ _ _ _ _ _ _ _ (k+2) (k+8) z (x/z) _ ((zA hz).bw (by with_reducible first|exact W3|exact zL W3 _)) (O3.bw (by with_reducible first|exact Below.refl _ _|exact bl1 _ _)) (by omega) (by omega)).mono ?_;rintro r pA ⟨qW,TD,TE,TF,rfl,W4,fg⟩;have fh:Below pC.heap.size pC pA:=(by with_reducible first|exact fg|exact zB (bl1 _ _) fg);have ar:=zB W3 fh;(try with_reducible have fe:=(jO pC 26).bw fg);replace O3:=O3.bw fh;(try replace cr:=cr.bw fh);have eV:=ar.size)
     | (go_at_call 119;refine (yH _ _ _ _ _ _ _ _ k (k+2) x z _ ((zA Dt).bw (by with_reducible first|exact (Below.refl _ _).drew|exact (bl1 _ _).drew)) ((zA hz).bw (by with_reducible first|exact (Below.refl _ _).drew|exact (bl1 _ _).drew)) (by omega) L4).mono ?_;rintro r pC ⟨qX,TG,TH,TI,rfl,O3,fj⟩;have W3:Below wr.heap.size wr pC:=(by with_reducible first|exact zB (Below.refl _ _).drew fj|exact zB (bl1 _ _).drew fj);(try with_reducible have cr:=((jO wr 26).bw (Below.refl _ _).drew).bw fj);have eR:=W3.size))
   all_goals
    go_wp2_with fail;go_meet;refine⟨⟨_,⟨Dw,aY3,nY3,cY3⟩,rfl,?_,?_,?_,?_,?_⟩,?_⟩
    ·simp[go_sem, *]
    ·simp[go_sem, *]
    ·first|with_reducible exact IntAt.mono (po.bw (bl1 _ _)) (by omega)|with_reducible exact IntAt.mono (po.put2 (by assumption) (by assumption) _ _) (by omega)
    ·first|exact XW _|exact eR|exact eV|exact eZ
    ·simp[World.setCell];try omega
    ·repeat' (first|with_reducible exact cq|with_reducible exact ar|with_reducible exact W3|with_reducible exact Below.refl _ _|with_reducible refine Below.drew ?_|with_reducible refine zL ?_ _|with_reducible refine Below.setCell ?_ (by first|exact XW _|exact eR|exact eV|exact eZ) _)
  case rest =>
  obtain⟨⟨BY,xY,rfl,TJ,TK,LI,TL,hltY⟩,hblY⟩:=hcut;have XY:NmC wc BY xY:=⟨TJ,TK⟩;rw[zA HYV] at LI;have hC:Below wr.heap.size wr wc:=hblY;replace hX:=hX.bw hC;replace A:=A.bw hC;replace R:=R.bw hC;have Bm:∀ o,wc.frozen? ⟨BX,o,none⟩=false:=λ o=>(hC.frozen (p:=⟨BX,o,none⟩) lX).trans (hF o)
  have iz:=(zA hz).bw hC;have Dj:=(zA Dt).bw hC;replace oD:=zB oD hC;have Dh:=hX.lt;have Bn:=XY.lt;have Y1:=R.lt;have nXY:BX≠BY:=Yj (Yd lX TL);have nXY':BY≠BX:=λ e9=>nXY e9.symm
  obtain⟨k0,k1⟩:=hX;have hX:NmC wc BX X:=⟨k0,k1⟩;clear i0 i1 i2 i3 Q5 hblY hC hF hz Dt;go_wp2_with fail;refine (zU _ _ _ _ _ _ _ _ (k+20) (k+2) yv z _ LI iz).mono ?_;rintro r w5 ⟨rfl,A7⟩;have TM:=hX.bw A7;have TN:=XY.bw A7;have TP:=R.bw A7;have TQ:=A.bw A7;have hz5:=iz.bw A7;have hy5:=LI.bw A7;have HX5:=Dj.bw A7;have hF5:∀ o,w5.frozen? ⟨BX,o,none⟩=false:=λ o=>(A7.frozen (p:=⟨BX,o,none⟩) Dh).trans (Bm o)
  have M6:=zB oD A7;have l5:=TM.lt;have l6:=TN.lt;have l7:=TP.lt;obtain⟨e0,e1⟩:=TM;obtain⟨e2,e3⟩:=TN;obtain⟨e4,e5,e6⟩:=TP;clear k0 k1 TJ TK
  by_cases P9:z<=yv
  ·have t2:0<=zF yv z:=by unfold zF;rw[if_neg (by omega)];split<;>omega
   have t2':zF yv z ≥ 0:=t2;have HG:=zC P9;clear P9;go_wp2_with fail;refine bodyPost_ret (v:=.agg X.q) (by simp[results,Tryz.results189,go_sem,e4,e5]) rfl ⟨z,⟨by omega,λ h9=>by omega,λ _=>⟨zA LD (zA HG),zA HZS⟩⟩,X.neg,X.a,X.n,X.cap,rfl,?_,?_⟩
   ·exact (hz5.put2 e4 e5 _ _).mono (by omega)
   ·exact zD5 M6 (Yh _) _ _
  ·have t2:¬ 0<=zF yv z:=by unfold zF;rw[if_pos (by omega)];omega
   have t2':¬ zF yv z ≥ 0:=t2;have hylt:yv<z:=by omega
   clear P9;go_wp2_with fail
   go_roundg yv.toNat
   case rel =>
    refine⟨xY,yv,⟨by simp[go_sem,e0,e1],by simp[go_sem,e0,e1]⟩,λ o=>by rw[zO,zO];exact hF5 o,?_,tK,by omega,XW _,zA HUP,?_,?_,?_,?_⟩
    ·exact (hy5.put2 e0 e1 _ _).fit (by omega) (by omega)
    ·exact⟨by simp[go_sem,TQ.c0,nXA,vq],by simp[go_sem,TQ.c1,nXA,vq]⟩
    ·exact⟨by simp[go_sem,e4,nXR,Dv],by simp[go_sem,e5,nXR,Dv],λ o=>by rw[zO,zO];exact e6 o⟩
    ·exact HX5.put2 e0 e1 _ _
    ·exact zD5 M6 (by omega) _ _
   case measure=>omega
theorem zLJ (neg:Bool) (a:Option Addr) (n cap k:Nat) (x:Int) (w:World) (h1:IntAt w neg a n cap k x) (hk:k<=100000000) :
  Calls Tryz.prog 189 #[.agg #[.bool neg,.slice a n cap]] w λ r w'=>∃ z,RootOf x z/\zDQ w (k+10) z r w':=by
 by_cases hx:0<x
 ·exact root_pos neg a n cap k x w h1 hk hx
 ·have t1:zF x 0<=0:=by unfold zF;split<;>(try split)<;>omega
  have HX:=zC hx;clear hx
  go_enter Tryz.func189,Tryz.ntmps189
  go_wp2_with fail;refine (yA _ _ _ _ k x _ (h1.bw (bl2 _ _ _))).mono ?_;rintro r w1 ⟨rfl,b7⟩;obtain⟨C5,A9,D8⟩:=jY (w.heap.size+1+1) (by simp) b7
  go_wp2_with fail;have q0:w1.cell? ⟨w.heap.size+1,0,none⟩=some (.bool false):=by simp[A9,go_sem]
  have q1:w1.cell? ⟨w.heap.size+1,1,none⟩=some (.slice none 0 0):=by simp[A9,go_sem]
  refine bodyPost_ret (v:=.agg #[.bool false,.slice none 0 0]) (by simp[results,Tryz.results189,go_sem,q0,q1]) rfl ⟨0,⟨by omega,λ _=>rfl,λ h9=>by have h8:=zA HX;omega⟩,false,none,0,0,rfl,zE6 _ _,?_⟩
  exact zD5 (zB (bl2 _ _ _) b7) (Yh _) _ _
end Go.Proofs.YtgmnknmjainababGreat
