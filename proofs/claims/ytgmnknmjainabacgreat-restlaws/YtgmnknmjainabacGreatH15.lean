/-
  Its own texts.
-/
import Derived.Test.YtgmnknmjainabacGreatH14
set_option maxRecDepth 100000
set_option maxHeartbeats 40000000
set_option linter.unnecessarySimpa false
set_option linter.unusedSimpArgs false
set_option linter.unusedVariables false
namespace Go.Proofs.YtgmnknmjainabacGreat
open Go.RowKit
attribute [local go_sem ↓] Go.wp_at_zero Go.wp_at_succ
def BalF (n d D n' d' c:Int):Prop :=
 (d*Q D.toNat*3<n*Q (-D).toNat*2/\n'=n*Q (-D).toNat/\d'=d*Q D.toNat*2/\c=D+1)\/(¬ d*Q D.toNat*3<n*Q (-D).toNat*2/\n*Q (-D).toNat*4<d*Q D.toNat*3/\n'=n*Q (-D).toNat*2/\d'=d*Q D.toNat/\c=D-1)\/(¬ d*Q D.toNat*3<n*Q (-D).toNat*2/\¬ n*Q (-D).toNat*4<d*Q D.toNat*3/\n'=n*Q (-D).toNat/\d'=d*Q D.toNat/\c=D)
def BalD (n d n' d' c:Int):Prop:=∃ L L':Nat,Q L<=n/\n<Q (L+1)/\Q L'<=d/\d<Q (L'+1)/\BalF n d ((L:Int)-L') n' d' c
theorem len_uq {n:Int} {L M:Nat} (h1:Q L<=n) (h2:n<Q (L+1)) (h3:Q M<=n) (h4:n<Q (M+1)):L=M:=by
 rcases Nat.lt_trichotomy L M with h|h|h
 ·have:=zH (show L+1<=M by omega);omega
 ·exact h
 ·have:=zH (show M+1<=L by omega);omega
theorem BalD.uq {n d n' d' c n2 d2 c2:Int} (h:BalD n d n' d' c) (g:BalD n d n2 d2 c2):n'=n2/\d'=d2/\c=c2:=by
 obtain⟨L,L',a1,a2,a3,a4,a5⟩:=h;obtain⟨M,M',b1,b2,b3,b4,b5⟩:=g;obtain rfl:=len_uq a1 a2 b1 b2;obtain rfl:=len_uq a3 a4 b3 b4;unfold BalF at a5 b5;generalize n*Q (-((L:Int)-L')).toNat=N1 at *;generalize d*Q ((L:Int)-L').toNat=D1 at *;omega
theorem zRY {n:Int} (hn:0<n):∃ L:Nat,Q L<=n/\n<Q (L+1):=by
 have h:∀ k:Nat,n<Q k->∃ L:Nat,Q L<=n/\n<Q (L+1):=λ k=>by
  induction k with
  | zero=>intro h;simp[Q] at h;omega
  | succ k ih =>
   intro h
   by_cases h2:n<Q k
   ·exact ih h2
   ·exact⟨k,by omega,h⟩
 refine h n.toNat ?_
 have g:∀ k:Nat,(k:Int)<Q k:=λ k=>by
  induction k with
  | zero=>simp[Q]
  | succ k ih=>have e:Q (k+1)=2*Q k:=rfl;omega
 have:=g n.toNat;omega
def BalAns (w:World) (k:Nat) (n d:Int) (r:Ending) (w':World):Prop :=
 ∃ (X Y:Nm) (n' d' c:Int),r=.returned (.tuple #[.agg X.q,.agg Y.q,.int .i64 c])/\BalD n d n' d' c /\ -(16*k+1)<=c/\c<=16*k+1/\IntAt w' X.neg X.a X.n X.cap (k+k+20) n'/\IntAt w' Y.neg Y.a Y.n Y.cap (k+k+20) d'/\Below w.heap.size w w'
theorem zM0 {n d:Int} {L L':Nat} (h1:Q L<=n) (h2:n<Q (L+1)) (h3:Q L'<=d) (h4:d<Q (L'+1)) (a b:Nat) (ny:L+a=L'+b):n*Q a<2*(d*Q b)/\d*Q b<2*(n*Q a):=by
 have qa:=zE a;have qb:=zE b;have e1:Q L*Q a=Q L'*Q b:=by rw[<- jD,<- jD,ny]
 have e2:Q (L+1)=2*Q L:=rfl;have e3:Q (L'+1)=2*Q L':=rfl;have g1:=YW h1 (show 0<=Q a by omega)
 have g2:=Int.mul_lt_mul_of_pos_right h2 (show 0<Q a by omega)
 have g3:=YW h3 (show 0<=Q b by omega)
 have g4:=Int.mul_lt_mul_of_pos_right h4 (show 0<Q b by omega)
 rw[e2,Int.mul_assoc] at g2;rw[e3,Int.mul_assoc] at g4;omega
theorem bal_a {n d n1 d1 c:Int} (hn:0<n1) (hd:0<d1) (h1:0<=c->n*d1=n1*d*Q c.toNat) (h2:c<0->n*d1*Q (-c).toNat=n1*d) (g1:n1<2*d1) (g2:d1<2*n1) (hc:d1*3<n1*2):Bal n d n1 (d1*2) (c+1):=by
 refine⟨⟨hn,by omega,by omega,by omega⟩,λ h=>?_,λ h=>?_⟩
 ·by_cases h0:0<=c
  ·have e:=h1 h0
   have:(c+1).toNat=c.toNat+1:=by omega
   rw[this];have e2:Q (c.toNat+1)=2*Q c.toNat:=rfl;rw[e2];have:n*(d1*2)=2*(n*d1):=by grind
   rw[this,e];grind
  ·have hc:c = -1:=by omega
   have e:=h2 (by omega)
   subst hc;have e3:Q (-(-1:Int)).toNat=2:=rfl;rw[e3] at e;have e4:Q ((-1:Int)+1).toNat=1:=rfl;rw[e4];have:n*(d1*2)=n*d1*2:=by grind
   rw[this,e];grind
 ·have e:=h2 (by omega)
  have:(-c).toNat=(-(c+1)).toNat+1:=by omega
  rw[this] at e;have e2:Q ((-(c+1)).toNat+1)=2*Q (-(c+1)).toNat:=rfl;rw[e2] at e;rw[<- e];grind
theorem bal_b {n d n1 d1 c:Int} (hn:0<n1) (hd:0<d1) (h1:0<=c->n*d1=n1*d*Q c.toNat) (h2:c<0->n*d1*Q (-c).toNat=n1*d) (g1:n1<2*d1) (g2:d1<2*n1) (hc:n1*4<d1*3):Bal n d (n1*2) d1 (c-1):=by
 refine⟨⟨by omega,hd,by omega,by omega⟩,λ h=>?_,λ h=>?_⟩
 ·have e:=h1 (by omega)
  have:c.toNat=(c-1).toNat+1:=by omega
  rw[this] at e;have e2:Q ((c-1).toNat+1)=2*Q (c-1).toNat:=rfl;rw[e2] at e;rw[e];grind
 ·by_cases h0:0<=c
  ·have hc:c=0:=by omega
   have e:=h1 h0;subst hc;have e3:Q ((0:Int)).toNat=1:=rfl;rw[e3] at e;have e4:Q (-((0:Int)-1)).toNat=2:=rfl;rw[e4,e];grind
  ·have e:=h2 (by omega)
   have:(-(c-1)).toNat=(-c).toNat+1:=by omega
   rw[this];have e2:Q ((-c).toNat+1)=2*Q (-c).toNat:=rfl;rw[e2];have:n*d1*(2*Q (-c).toNat)=2*(n*d1*Q (-c).toNat):=by grind
   rw[this,e];grind
theorem bal_c {n d n1 d1 c:Int} (hn:0<n1) (hd:0<d1) (h1:0<=c->n*d1=n1*d*Q c.toNat) (h2:c<0->n*d1*Q (-c).toNat=n1*d) (hc:¬ d1*3<n1*2) (G3:¬ n1*4<d1*3):Bal n d n1 d1 c :=
 ⟨⟨hn,hd,by omega,by omega⟩,h1,h2⟩
theorem BalD.bal {n d n' d' c:Int} (h:BalD n d n' d' c) (hn:0<n) (hd:0<d):Bal n d n' d' c:=by
 obtain⟨L,L',a1,a2,a3,a4,a5⟩:=h;obtain⟨D,hD⟩:∃ D:Int,D=(L:Int)-L':=⟨_,rfl⟩;rw[<- hD] at a5;have qa:=zE (-D).toNat;have qc:=zE D.toNat;have h1:0<n*Q (-D).toNat:=Int.mul_pos hn (by omega)
 have h2:0<d*Q D.toNat:=Int.mul_pos hd (by omega)
 have nr:=zM0 a1 a2 a3 a4 (-D).toNat D.toNat (by omega)
 have m1:0<=D->n*(d*Q D.toNat)=n*Q (-D).toNat*d*Q D.toNat:=λ h=>by
  have e1:(-D).toNat=0:=by omega
  rw[e1];simp only[Q];grind
 have m2:D<0->n*(d*Q D.toNat)*Q (-D).toNat=n*Q (-D).toNat*d:=λ h=>by
  have e1:D.toNat=0:=by omega
  rw[e1];simp only[Q];grind
 unfold BalF at a5;generalize n*Q (-D).toNat=N1 at *;generalize d*Q D.toNat=D1 at *
 rcases a5 with⟨c1,rfl,rfl,rfl⟩|⟨c1,c2,rfl,rfl,rfl⟩|⟨c1,c2,rfl,rfl,rfl⟩
 ·exact bal_a h1 h2 m1 m2 nr.1 nr.2 c1
 ·exact bal_b h1 h2 m1 m2 nr.1 nr.2 c2
 ·exact bal_c h1 h2 m1 m2 c1 c2
theorem balD_ex {n d:Int} (hn:0<n) (hd:0<d):∃ n' d' c,BalD n d n' d' c:=by
 obtain⟨L,a1,a2⟩:=zRY hn;obtain⟨L',b1,b2⟩:=zRY hd
 have h:∃ n' d' c,BalF n d ((L:Int)-L') n' d' c:=by
  unfold BalF
  by_cases h1:d*Q ((L:Int)-L').toNat*3<n*Q (-((L:Int)-L')).toNat*2
  ·exact⟨_,_,_,Or.inl ⟨h1,rfl,rfl,rfl⟩⟩
  ·by_cases h2:n*Q (-((L:Int)-L')).toNat*4<d*Q ((L:Int)-L').toNat*3
   ·exact⟨_,_,_,Or.inr (Or.inl ⟨h1,h2,rfl,rfl,rfl⟩)⟩
   ·exact⟨_,_,_,Or.inr (Or.inr ⟨h1,h2,rfl,rfl,rfl⟩)⟩
 obtain⟨n',d',c,h⟩:=h;exact⟨n',d',c,L,L',a1,a2,b1,b2,h⟩
theorem BalD.bd {n d n' d' c:Int} {k:Nat} (h:BalD n d n' d' c) (h1:n<Q (16*k)) (h2:d<Q (16*k)) : -(16*k+1)<=c/\c<=16*k+1:=by
 obtain⟨L,L',a1,a2,a3,a4,a5⟩:=h;have e1:L<16*k:=Nat.lt_of_not_le λ h=>by have:=zH h;omega
 have e2:L'<16*k:=Nat.lt_of_not_le λ h=>by have:=zH h;omega
 unfold BalF at a5;omega
theorem zR2 {w:World} {neg:Bool} {a:Option Addr} {n cap k:Nat} {z:Int} {L:Nat} (h:IntAt w neg a n cap k z) (hL:Q L<=z) (hz:0<=z):L<16*k+1:=by
 obtain⟨d,h1,h2,h3,h4,h5⟩:=h;have hV:=zHT h1.dgs n;have hV0:=jA h1.dgs n;have hP:=zBT h4;have eP:=Q_P k
 have ao:z<Q (16*k):=by
  cases neg
  ·simp[sgn] at h5;omega
  ·simp[sgn] at h5;have:=zE (16*k);omega
 refine Nat.lt_of_not_le λ h=>?_
 have:=zH (show 16*k<=L by omega)
 omega
theorem zGN (neg:Bool) (a:Option Addr) (n cap:Nat) (κ:Int) (A k1:Nat) (x:Int) (w:World) (hκ:κ=(A:Int)) (h1:IntAt w neg a n cap k1 x) (W6:k1<=1000000000) (hk:A<=1000000000) :
  Calls Tryz.prog 116 #[.agg #[.bool neg,.slice a n cap],.int .i64 κ] w (zDP w (A/16+k1+1) (x*Q A)):=by
 subst hκ;exact zCG neg a n cap A k1 x w h1 W6 hk
theorem zLI {w wc w2:World} {x y:Nm} {K:Nat} {z1 z2:Int} (hD:Below wc.heap.size wc w2) (hx:NmC w2 w.heap.size x) (hy:NmC w2 (w.heap.size+1) y) (X Y:Nm) (iX:IntAt w2 X.neg X.a X.n X.cap K z1) (iY:IntAt w2 Y.neg Y.a Y.n Y.cap K z2) (R:NoI wc (w.heap.size+1+1)) (R2:NoI wc (w.heap.size+1+1+1)) (hB:Below w.heap.size w wc) :
  ∃ X' Y':Nm,NmC ((((w2.setCell ⟨w.heap.size,0,none⟩ (.bool X.neg)).setCell ⟨w.heap.size,1,none⟩ (.slice X.a X.n X.cap)).setCell ⟨w.heap.size+1,0,none⟩ (.bool Y.neg)).setCell ⟨w.heap.size+1,1,none⟩ (.slice Y.a Y.n Y.cap)) w.heap.size X'/\NmC ((((w2.setCell ⟨w.heap.size,0,none⟩ (.bool X.neg)).setCell ⟨w.heap.size,1,none⟩ (.slice X.a X.n X.cap)).setCell ⟨w.heap.size+1,0,none⟩ (.bool Y.neg)).setCell ⟨w.heap.size+1,1,none⟩ (.slice Y.a Y.n Y.cap)) (w.heap.size+1) Y'/\IntAt ((((w2.setCell ⟨w.heap.size,0,none⟩ (.bool X.neg)).setCell ⟨w.heap.size,1,none⟩ (.slice X.a X.n X.cap)).setCell ⟨w.heap.size+1,0,none⟩ (.bool Y.neg)).setCell ⟨w.heap.size+1,1,none⟩ (.slice Y.a Y.n Y.cap)) X'.neg X'.a X'.n X'.cap K z1/\IntAt ((((w2.setCell ⟨w.heap.size,0,none⟩ (.bool X.neg)).setCell ⟨w.heap.size,1,none⟩ (.slice X.a X.n X.cap)).setCell ⟨w.heap.size+1,0,none⟩ (.bool Y.neg)).setCell ⟨w.heap.size+1,1,none⟩ (.slice Y.a Y.n Y.cap)) Y'.neg Y'.a Y'.n Y'.cap K z2/\NoI ((((w2.setCell ⟨w.heap.size,0,none⟩ (.bool X.neg)).setCell ⟨w.heap.size,1,none⟩ (.slice X.a X.n X.cap)).setCell ⟨w.heap.size+1,0,none⟩ (.bool Y.neg)).setCell ⟨w.heap.size+1,1,none⟩ (.slice Y.a Y.n Y.cap)) (w.heap.size+1+1)/\NoI ((((w2.setCell ⟨w.heap.size,0,none⟩ (.bool X.neg)).setCell ⟨w.heap.size,1,none⟩ (.slice X.a X.n X.cap)).setCell ⟨w.heap.size+1,0,none⟩ (.bool Y.neg)).setCell ⟨w.heap.size+1,1,none⟩ (.slice Y.a Y.n Y.cap)) (w.heap.size+1+1+1)/\Below w.heap.size w ((((w2.setCell ⟨w.heap.size,0,none⟩ (.bool X.neg)).setCell ⟨w.heap.size,1,none⟩ (.slice X.a X.n X.cap)).setCell ⟨w.heap.size+1,0,none⟩ (.bool Y.neg)).setCell ⟨w.heap.size+1,1,none⟩ (.slice Y.a Y.n Y.cap)):=by
 have gF:=hy.off (B':=w.heap.size) (by omega) (.bool X.neg) (.slice X.a X.n X.cap)
 have gD:=zDA hx X;have i1:=iX.put2 hx.c0 hx.c1 (.bool X.neg) (.slice X.a X.n X.cap);have i2:=iY.put2 hx.c0 hx.c1 (.bool X.neg) (.slice X.a X.n X.cap);have r1:=(R.bw hD).off (B':=w.heap.size) (by omega) (.bool X.neg) (.slice X.a X.n X.cap)
 have r2:=(R2.bw hD).off (B':=w.heap.size) (by omega) (.bool X.neg) (.slice X.a X.n X.cap)
 have b1:=zE4 (zB hB hD) (Zb _) (.bool X.neg) (.slice X.a X.n X.cap);generalize (w2.setCell ⟨w.heap.size,0,none⟩ (.bool X.neg)).setCell ⟨w.heap.size,1,none⟩ (.slice X.a X.n X.cap)=V at *;exact⟨X,Y,gD.off (by omega) _ _,zDA gF Y,i1.put2 gF.c0 gF.c1 _ _,i2.put2 gF.c0 gF.c1 _ _,r1.off (by omega) _ _,r2.off (by omega) _ _,zE4 b1 (Nat.le_succ _) _ _⟩
theorem cmp_gtB (x y:Int):decide (0<zN x y)=decide (y<x):=by
 unfold zN
 by_cases h1:x<y
 ·have:¬ y<x:=by omega
  simp[h1,this]
 ·by_cases h2:y<x
  ·simp[h1,h2]
  ·simp[h1,h2]
theorem cmp_ltB (x y:Int):decide (zN x y<0)=decide (x<y):=by
 unfold zN
 by_cases h1:x<y
 ·simp[h1]
 ·by_cases h2:y<x
  ·simp[h1,h2]
  ·simp[h1,h2]
theorem zLH {w w1:World} {X Y:Nm} {K:Nat} {z1 z2:Int} (R:NoI w1 (w.heap.size+1+1)) (R2:NoI w1 (w.heap.size+1+1+1)) (iX:IntAt w1 X.neg X.a X.n X.cap K z1) (iY:IntAt w1 Y.neg Y.a Y.n Y.cap K z2) (hB:Below w.heap.size w w1) :
  IntAt ((((w1.setCell ⟨w.heap.size+1+1,0,none⟩ (.bool X.neg)).setCell ⟨w.heap.size+1+1,1,none⟩ (.slice X.a X.n X.cap)).setCell ⟨w.heap.size+1+1+1,0,none⟩ (.bool Y.neg)).setCell ⟨w.heap.size+1+1+1,1,none⟩ (.slice Y.a Y.n Y.cap)) X.neg X.a X.n X.cap K z1/\IntAt ((((w1.setCell ⟨w.heap.size+1+1,0,none⟩ (.bool X.neg)).setCell ⟨w.heap.size+1+1,1,none⟩ (.slice X.a X.n X.cap)).setCell ⟨w.heap.size+1+1+1,0,none⟩ (.bool Y.neg)).setCell ⟨w.heap.size+1+1+1,1,none⟩ (.slice Y.a Y.n Y.cap)) Y.neg Y.a Y.n Y.cap K z2/\Below w.heap.size w ((((w1.setCell ⟨w.heap.size+1+1,0,none⟩ (.bool X.neg)).setCell ⟨w.heap.size+1+1,1,none⟩ (.slice X.a X.n X.cap)).setCell ⟨w.heap.size+1+1+1,0,none⟩ (.bool Y.neg)).setCell ⟨w.heap.size+1+1+1,1,none⟩ (.slice Y.a Y.n Y.cap)):=by
 have r2:=R2.off (B':=w.heap.size+1+1) (by omega) (.bool X.neg) (.slice X.a X.n X.cap)
 have i1:=iX.put2 R.c0 R.c1 (.bool X.neg) (.slice X.a X.n X.cap);have i2:=iY.put2 R.c0 R.c1 (.bool X.neg) (.slice X.a X.n X.cap);have b1:=zE4 hB (show w.heap.size<=w.heap.size+1+1 by omega) (.bool X.neg) (.slice X.a X.n X.cap)
 generalize (w1.setCell ⟨w.heap.size+1+1,0,none⟩ (.bool X.neg)).setCell ⟨w.heap.size+1+1,1,none⟩ (.slice X.a X.n X.cap)=V at *;exact⟨i1.put2 r2.c0 r2.c1 _ _,i2.put2 r2.c0 r2.c1 _ _,zE4 b1 (by omega) _ _⟩
theorem zJI (w:World) (x y:Nm) (k:Nat) (n d:Int) (hx:IntAt w x.neg x.a x.n x.cap k n) (hy:IntAt w y.neg y.a y.n y.cap k d) (hn:0<n) (hd:0<d) (hk:k<=1000000) :
  Calls Tryz.prog 154 #[.agg x.q,.agg y.q] w (BalAns w k n d):=by
 obtain⟨W,hW⟩:∃ W,W=(((w.alloc (.cells x.q 29)).alloc (.cells y.q 29)).alloc (.cells #[.bool false,.slice none 0 0] 29)).alloc (.cells #[.bool false,.slice none 0 0] 29):=⟨_,rfl⟩;have j8:Below w.heap.size w W:=by rw[hW];exact bl4 _ _ _ _ _
 have X:NmC W w.heap.size x:=by rw[hW];constructor<;>simp[go_sem]
 have FX:∀ o,W.frozen? ⟨w.heap.size,o,none⟩=false:=by rw[hW];intro o;simp[go_sem]
 have Y:NmC W (w.heap.size+1) y:=by rw[hW];constructor<;>simp[go_sem]
 have FY:∀ o,W.frozen? ⟨w.heap.size+1,o,none⟩=false:=by rw[hW];intro o;simp[go_sem]
 have R:NoI W (w.heap.size+1+1):=by rw[hW];constructor<;>simp[go_sem]
 have R2:NoI W (w.heap.size+1+1+1):=by rw[hW];constructor<;>simp[go_sem]
 have HX:=zC (hx.bw j8);have HY:=zC (hy.bw j8);have lX:=X.lt;have lY:=Y.lt;have lR:=R.lt;have bg:=R2.lt;have HK:=zC (show ∀ w',Below W.heap.size W w'->(nK w' w.heap.size x (nK0 w' (w.heap.size+1) y)) from λ w' hB=>⟨(X.bw hB).c0,(X.bw hB).c1,(Y.bw hB).c0,(Y.bw hB).c1⟩)
 go_enter Tryz.func154,Tryz.ntmps154
 go_wp2;rw[<- hW];clear hW hx hy;obtain⟨x0,x1,x2,x3⟩:=zA HK _ (Below.refl _ _);have D5:Below W.heap.size W W.drew:=(Below.refl _ _).drew
 go_cut [7] (λ p wx=>∃ (L L':Nat) (D:Int),p=.int .i64 D/\D=(L:Int)-(L':Int)/\Q L<=n/\n<Q (L+1)/\Q L'<=d/\d<Q (L'+1)/\L<16*k+1/\L'<16*k+1/\Below W.heap.size W wx)
 case first =>
  go_region_held3 (λ w'=>nK w' w.heap.size x (nK0 w' (w.heap.size+1) y)) (first|exact zA HK _ (by with_reducible first|exact D5|exact p9|exact s9)|(dsimp only[cK,cK0,nK,nK0,rK,rK0];go_keep)|go_keep)
   (first
    | (go_at_call 98;have hq:=s9;refine (zE0 _ _ _ _ _ d _ ((zA HY).bw s9) (by omega)).mono ?_;rintro r' w2 ⟨l2,Cr,rfl,j7⟩;have p9:=zB s9 j7)
    | (go_at_call 98;refine (zE0 _ _ _ _ _ n _ ((zA HX).bw D5) (by omega)).mono ?_;rintro r' w1 ⟨l1,Cq,rfl,b9⟩;have s9:=zB D5 b9))
  all_goals
   obtain⟨L,e1,e2,e3⟩:=Cq.2.2 hn;obtain⟨L',f1,f2,f3⟩:=Cr.2.2 hd;have hL:=zR2 (zA HX) e2 (by omega)
   have Ip:=zR2 (zA HY) f2 (by omega)
   have HE:=zC e1;have HF:=zC f1;clear e1 f1;go_wp2_with fail;go_meet;exact⟨L,L',_,rfl,(by rw[jI _ (by have:=zA HE;have:=zA HF;omega) (by have:=zA HE;have:=zA HF;omega)];have:=zA HE;have:=zA HF;omega),e2,e3,f2,f3,hL,Ip,p9⟩
 case rest =>
 obtain⟨L,L',D,rfl,hD,e2,e3,f2,f3,hL,Ip,E8⟩:=hcut;have Of:=zC (show Q L<=n/\n<Q (L+1)/\Q L'<=d/\d<Q (L'+1)/\D=(L:Int)-L' from⟨e2,e3,f2,f3,hD⟩)
 have O9:=zM0 e2 e3 f2 f3;have Ag:=zC O9;clear O9 e2 e3 f2 f3 x0 x1 x2 x3 D5;replace X:=X.bw E8;replace Y:=Y.bw E8;replace R:=R.bw E8;replace R2:=R2.bw E8;have Ga:∀ o,wc.frozen? ⟨w.heap.size,o,none⟩=false:=λ o=>(E8.frozen (p:=⟨w.heap.size,o,none⟩) lX).trans (FX o)
 have Gb:∀ o,wc.frozen? ⟨w.heap.size+1,o,none⟩=false:=λ o=>(E8.frozen (p:=⟨w.heap.size+1,o,none⟩) lY).trans (FY o)
 replace HX:=zC ((zA HX).bw E8);replace HY:=zC ((zA HY).bw E8);replace j8:=zB j8 E8;clear HK lX lY lR bg FX FY E8;have lX:=X.lt;have lY:=Y.lt;have lR:=R.lt;have bg:=R2.lt;obtain⟨A,hA⟩:∃ A:Nat,(A:Int)=max 0 (-D):=⟨(max 0 (-D)).toNat,by omega⟩
 obtain⟨C,hC⟩:∃ C:Nat,(C:Int)=max 0 D:=⟨(max 0 D).toNat,by omega⟩
 have hwD:IntKind.i64.wrap (-D) = -D:=jI _ (by omega) (by omega)
 have Pz:D<=16*k /\ -(16*k)<=D:=by omega
 have O9:=zA Ag A C (by omega)
 have HA:=zC hA;have HC:=zC hC;have HD:=zC hD;have HW:=zC hwD;have NW:=zC Pz;have hAk:A<=16*k:=by omega
 have hCk:C<=16*k:=by omega
 have SJ:=zC O9;clear hA hC hD hwD Pz Ag hL Ip O9;go_wp2_with fail
 go_cut [7] (λ p wx=>p=.int .i64 D/\∃ X Y:Nm,NmC wx w.heap.size X/\NmC wx (w.heap.size+1) Y/\IntAt wx X.neg X.a X.n X.cap (k+k+10) (n*Q A)/\IntAt wx Y.neg Y.a Y.n Y.cap (k+k+10) (d*Q C)/\NoI wx (w.heap.size+1+1)/\NoI wx (w.heap.size+1+1+1)/\Below w.heap.size w wx)
 case first =>
  have cP:=zC X;have cQ:=zC Y;obtain⟨x0,x1⟩:=X;obtain⟨y0,y1⟩:=Y;have GM:=zC (show (if 0<IntKind.i64.wrap (-D) then IntKind.i64.wrap (-D) else 0)=(A:Int) by rw[zA HW];have:=zA HA;split<;>omega)
  have GN:=zC (show (if 0<D then D else 0)=(C:Int) by have:=zA HC;split<;>omega)
  by_cases d1:0<D
  ·have d2:IntKind.i64.wrap (-D)<=0:=by rw[zA HW];omega
   have jg:=zC (show (0:Int)=(A:Int) by have:=zA HA;omega)
   have ji:=zC (show D=(C:Int) by have:=zA HC;omega)
   go_region_with
    (first
     | (go_at_call 116;have hq:=s9;(with_reducible refine (zGN _ _ _ _ _ C k d _ (by with_reducible first|exact zA ji|exact zA GN) ((zA HY).bw s9) (by omega) (by omega)).mono ?_);rintro r' w2 ⟨j6,a2,n2,c2,rfl,A5,j7⟩;have p9:=zB s9 j7;have QT:=Zd lX p9.size;have QV:=Zd lY p9.size;replace o8:=o8.bw j7;obtain⟨x4,x5⟩:=(zA cP).bw p9;obtain⟨y4,y5⟩:=(zA cQ).bw p9;have F2:∀ o,w2.frozen? ⟨w.heap.size,o,none⟩=false:=(λ o=>(p9.frozen (p:=⟨w.heap.size,o,none⟩) lX).trans (Ga o));have G2:∀ o,w2.frozen? ⟨w.heap.size+1,o,none⟩=false:=(λ o=>(p9.frozen (p:=⟨w.heap.size+1,o,none⟩) lY).trans (Gb o)))
     | (go_at_call 116;(with_reducible refine (zGN _ _ _ _ _ A k n _ (by with_reducible first|exact zA jg|exact zA GM) ((zA HX).bw (Below.refl _ _).drew) (by omega) (by omega)).mono ?_);rintro r' w1 ⟨m9,a1,n1,c1,rfl,o8,b9⟩;have s9:Below wc.heap.size wc w1:=zB (Below.refl _ _).drew b9;obtain⟨y2,y3⟩:=(zA cQ).bw s9;obtain⟨x2,x3⟩:=(zA cP).bw s9;have QQ:=Zd lX s9.size;have QS:=Zd lY s9.size))
   all_goals
    go_wp2_with fail;go_meet;exact⟨rfl,zLI p9 (NmC.mk x4 x5) (NmC.mk y4 y5) ⟨m9,a1,n1,c1⟩ ⟨j6,a2,n2,c2⟩ (o8.mono (by omega)) (A5.mono (by omega)) R R2 j8⟩
  ·by_cases d3:D<0
   ·have d2:0<IntKind.i64.wrap (-D):=by rw[zA HW];omega
    have d4:D<=0:=by omega
    have jg:=zC (show IntKind.i64.wrap (-D)=(A:Int) by rw[zA HW];have:=zA HA;omega)
    have ji:=zC (show (0:Int)=(C:Int) by have:=zA HC;omega)
    go_region_with
     (first
      | (go_at_call 116;have hq:=s9;(with_reducible refine (zGN _ _ _ _ _ C k d _ (by with_reducible first|exact zA ji|exact zA GN) ((zA HY).bw s9) (by omega) (by omega)).mono ?_);rintro r' w2 ⟨j6,a2,n2,c2,rfl,A5,j7⟩;have p9:=zB s9 j7;have QT:=Zd lX p9.size;have QV:=Zd lY p9.size;replace o8:=o8.bw j7;obtain⟨x4,x5⟩:=(zA cP).bw p9;obtain⟨y4,y5⟩:=(zA cQ).bw p9;have F2:∀ o,w2.frozen? ⟨w.heap.size,o,none⟩=false:=(λ o=>(p9.frozen (p:=⟨w.heap.size,o,none⟩) lX).trans (Ga o));have G2:∀ o,w2.frozen? ⟨w.heap.size+1,o,none⟩=false:=(λ o=>(p9.frozen (p:=⟨w.heap.size+1,o,none⟩) lY).trans (Gb o)))
      | (go_at_call 116;(with_reducible refine (zGN _ _ _ _ _ A k n _ (by with_reducible first|exact zA jg|exact zA GM) ((zA HX).bw (Below.refl _ _).drew) (by omega) (by omega)).mono ?_);rintro r' w1 ⟨m9,a1,n1,c1,rfl,o8,b9⟩;have s9:Below wc.heap.size wc w1:=zB (Below.refl _ _).drew b9;obtain⟨y2,y3⟩:=(zA cQ).bw s9;obtain⟨x2,x3⟩:=(zA cP).bw s9;have QQ:=Zd lX s9.size;have QS:=Zd lY s9.size))
    all_goals
     go_wp2_with fail;go_meet;exact⟨rfl,zLI p9 (NmC.mk x4 x5) (NmC.mk y4 y5) ⟨m9,a1,n1,c1⟩ ⟨j6,a2,n2,c2⟩ (o8.mono (by omega)) (A5.mono (by omega)) R R2 j8⟩
   ·have d2:IntKind.i64.wrap (-D)<=0:=by rw[zA HW];omega
    have d4:D<=0:=by omega
    have jg:=zC (show (0:Int)=(A:Int) by have:=zA HA;omega)
    have ji:=zC (show (0:Int)=(C:Int) by have:=zA HC;omega)
    go_region_with
     (first
      | (go_at_call 116;have hq:=s9;(with_reducible refine (zGN _ _ _ _ _ C k d _ (by with_reducible first|exact zA ji|exact zA GN) ((zA HY).bw s9) (by omega) (by omega)).mono ?_);rintro r' w2 ⟨j6,a2,n2,c2,rfl,A5,j7⟩;have p9:=zB s9 j7;have QT:=Zd lX p9.size;have QV:=Zd lY p9.size;replace o8:=o8.bw j7;obtain⟨x4,x5⟩:=(zA cP).bw p9;obtain⟨y4,y5⟩:=(zA cQ).bw p9;have F2:∀ o,w2.frozen? ⟨w.heap.size,o,none⟩=false:=(λ o=>(p9.frozen (p:=⟨w.heap.size,o,none⟩) lX).trans (Ga o));have G2:∀ o,w2.frozen? ⟨w.heap.size+1,o,none⟩=false:=(λ o=>(p9.frozen (p:=⟨w.heap.size+1,o,none⟩) lY).trans (Gb o)))
      | (go_at_call 116;(with_reducible refine (zGN _ _ _ _ _ A k n _ (by with_reducible first|exact zA jg|exact zA GM) ((zA HX).bw (Below.refl _ _).drew) (by omega) (by omega)).mono ?_);rintro r' w1 ⟨m9,a1,n1,c1,rfl,o8,b9⟩;have s9:Below wc.heap.size wc w1:=zB (Below.refl _ _).drew b9;obtain⟨y2,y3⟩:=(zA cQ).bw s9;obtain⟨x2,x3⟩:=(zA cP).bw s9;have QQ:=Zd lX s9.size;have QS:=Zd lY s9.size))
    all_goals
     go_wp2_with fail;go_meet;exact⟨rfl,zLI p9 (NmC.mk x4 x5) (NmC.mk y4 y5) ⟨m9,a1,n1,c1⟩ ⟨j6,a2,n2,c2⟩ (o8.mono (by omega)) (A5.mono (by omega)) R R2 j8⟩
 case rest =>
 obtain⟨rfl,X,Y,hX,hY,iX,iY,R,R2,j8⟩:=hcut;have Xl:=zE A;have Xm:=zE C;have hnA:0<n*Q A:=Int.mul_pos hn (by omega)
 have hdC:0<d*Q C:=Int.mul_pos hd (by omega)
 obtain⟨N1,cF⟩:∃ N1,N1=n*Q A:=⟨_,rfl⟩;obtain⟨D1,s9⟩:∃ D1,D1=d*Q C:=⟨_,rfl⟩
 have Ah:=zC (show ∀ n' d' c,((D1*3<N1*2/\n'=N1/\d'=D1*2/\c=D+1)\/(¬ D1*3<N1*2/\N1*4<D1*3/\n'=N1*2/\d'=D1/\c=D-1)\/(¬ D1*3<N1*2/\¬ N1*4<D1*3/\n'=N1/\d'=D1/\c=D))->BalD n d n' d' c from λ n' d' c g=>by
  obtain⟨l1,l2,l3,l4,l5⟩:=zA Of;have e1:A=(-D).toNat:=by have:=zA HA;omega
  have e2:C=D.toNat:=by have:=zA HC;omega
  rw[e1] at cF;rw[e2] at s9;refine⟨L,L',l1,l2,l3,l4,?_⟩;rw[<- l5];unfold BalF;rw[<- cF,<- s9]
  exact g)
 have SL:=zA NW;rw[<- cF] at iX hnA;rw[<- s9] at iY hdC;clear HA HC HD HW NW Xl Xm cF s9 SJ Of;have nQ:=zC iX;have nS:=zC iY;have cP:=zC hX;have cQ:=zC hY;have lX:=hX.lt;have lY:=hY.lt;have lR:=R.lt;have bg:=R2.lt;have HK:=zC (show ∀ w',Below wc.heap.size wc w'->(nK w' w.heap.size X (nK0 w' (w.heap.size+1) Y)) from λ w' hB=>⟨(hX.bw hB).c0,(hX.bw hB).c1,(hY.bw hB).c0,(hY.bw hB).c1⟩)
 clear iX iY hX hY;obtain⟨x0,x1,y0,y1⟩:=zA HK _ (Below.refl _ _);have D5:Below wc.heap.size wc wc.drew:=(Below.refl _ _).drew;go_wp2_with fail
 go_cut [22] (λ p wx=>p=.bool (decide (D1*3<N1*2))/\Below wc.heap.size wc wx)
 case first =>
  go_region_held3 (λ w'=>nK w' w.heap.size X (nK0 w' (w.heap.size+1) Y)) (first|exact zA HK _ (by with_reducible first|exact D5|exact I5|exact F9|exact p9|exact s9)|(dsimp only[cK,cK0,nK,nK0,rK,rK0];go_keep)|go_keep)
   (first
    | (go_at_call 17;have hq:=F9;refine (jY _ _ _ _ _ _ _ _ _ _ (N1*2) (D1*3) _ ((o8.bw j7).bw o7) G0).mono ?_;rintro r' w4 ⟨rfl,y9⟩;have I5:=zB F9 y9)
    | (go_at_call 83;have hq:=p9;refine (zX _ _ _ _ _ _ _ _ (k+k+10) 4 D1 3 _ ((zA nS).bw p9) A5 (by omega) (by omega)).mono ?_;rintro r' w3 ⟨B8,a3,n3,c3,rfl,G0,o7⟩;have F9:=zB p9 o7)
    | (go_at_call 33;have hq:=s9;refine (zD 3 _ (by decide) (by decide)).mono ?_;rintro r' w2 ⟨j6,a2,n2,c2,rfl,A5,j7⟩;have p9:=zB s9 j7)
    | (go_at_call 116;refine (zGN _ _ _ _ _ 1 (k+k+10) N1 _ rfl ((zA nQ).bw D5) (by omega) (by omega)).mono ?_;rintro r' w1 ⟨m9,a1,n1,c1,rfl,o8,b9⟩;have s9:=zB D5 b9))
  all_goals
   go_wp2_with fail;go_meet;exact⟨congrArg _ (cmp_gtB _ _),I5⟩
 case rest =>
 obtain⟨rfl,b9⟩:=hcut;have cP:=zC ((zA cP).bw b9);have cQ:=zC ((zA cQ).bw b9);have nQ:=zC ((zA nQ).bw b9);have nS:=zC ((zA nS).bw b9);replace R:=R.bw b9;replace R2:=R2.bw b9;replace j8:=zB j8 b9;have lX:=(zA cP).lt;have lY:=(zA cQ).lt;have lR:=R.lt;have bg:=R2.lt;have HK:=zC (show ∀ w',Below wc.heap.size wc w'->(nK w' w.heap.size X (nK0 w' (w.heap.size+1) Y)) from λ w' hB=>⟨((zA cP).bw hB).c0,((zA cP).bw hB).c1,((zA cQ).bw hB).c0,((zA cQ).bw hB).c1⟩)
 clear x0 x1 y0 y1 D5;obtain⟨x0,x1,y0,y1⟩:=zA HK _ (Below.refl _ _);have D5:Below wc.heap.size wc wc.drew:=(Below.refl _ _).drew;have n1:w.heap.size≠w.heap.size+1+1:=by omega
 have n2:w.heap.size≠w.heap.size+1+1+1:=by omega
 have n3:w.heap.size+1≠w.heap.size+1+1:=by omega
 have n4:w.heap.size+1≠w.heap.size+1+1+1:=by omega
 have n5:w.heap.size+1+1≠w.heap.size+1+1+1:=by omega
 have n6:w.heap.size+1+1+1≠w.heap.size+1+1:=by omega
 have n7:w.heap.size+1+1≠w.heap.size:=by omega
 have n8:w.heap.size+1+1+1≠w.heap.size:=by omega
 have n9:w.heap.size+1+1≠w.heap.size+1:=by omega
 have Dn:w.heap.size+1+1+1≠w.heap.size+1:=by omega
 by_cases hc:D1*3<N1*2
 ·have HR:Hid (BalD n d N1 (D1*2) (D+1)):=zC (zA Ah _ _ _ (Or.inl ⟨by omega,rfl,rfl,rfl⟩))
  have na:=zC (show IntKind.i64.wrap (D+1)=D+1 from jI _ (by omega) (by omega))
  have Hc:=zC hc;go_wp2_with fail
  go_region_held3 (λ w'=>nK w' w.heap.size X (nK0 w' (w.heap.size+1) Y)) (first|exact zA HK _ (by with_reducible first|exact D5|exact s9)|(dsimp only[cK,cK0,nK,nK0,rK,rK0];go_keep)|go_keep)
   (first
    | (go_at_call 116;refine (zGN _ _ _ _ _ 1 (k+k+10) D1 _ rfl ((zA nS).bw D5) (by omega) (by omega)).mono ?_;rintro r' w1 ⟨m9,a1,oO,c1,rfl,o8,b9⟩;have s9:=zB D5 b9;obtain⟨q0,q1,q2⟩:=R.bw s9;obtain⟨p0,p1,p2⟩:=R2.bw s9;obtain⟨z0,z1,z2,z3⟩:=zA HK _ s9))
  all_goals
   have HE:=zLH (w:=w) (K:=k+k+20) (R.bw s9) (R2.bw s9) (X:=X) (Y:=⟨m9,a1,oO,c1⟩) (((zA nQ).bw s9).mono (by omega)) (o8.mono (by omega)) (zB j8 s9)
   go_wp2_with fail;refine bodyPost_ret (v:=.tuple #[.agg X.q,.agg #[.bool m9,.slice a1 oO c1],.int .i64 (IntKind.i64.wrap (D+1))]) (by simp[results,Tryz.results154,go_sem,q0,q1,p0,p1,n5,n6]) rfl ⟨X,⟨m9,a1,oO,c1⟩,N1,(D1*2),_,rfl,by rw[zA na];exact zA HR,by rw[zA na];omega,by rw[zA na];omega,HE.1,HE.2.1,HE.2.2⟩
 ·have Hc:=zC hc
  go_wp2_with fail
  go_cut [35] (λ p wx=>p=.bool (decide (N1*4<D1*3))/\Below wc.heap.size wc wx)
  case first =>
   go_region_held3 (λ w'=>nK w' w.heap.size X (nK0 w' (w.heap.size+1) Y)) (first|exact zA HK _ (by with_reducible first|exact D5|exact I5|exact F9|exact p9|exact s9)|(dsimp only[cK,cK0,nK,nK0,rK,rK0];go_keep)|go_keep)
    (first
     | (go_at_call 17;have hq:=F9;refine (jY _ _ _ _ _ _ _ _ _ _ (N1*4) (D1*3) _ ((o8.bw j7).bw o7) G0).mono ?_;rintro r' w4 ⟨rfl,y9⟩;have I5:=zB F9 y9)
     | (go_at_call 83;have hq:=p9;refine (zX _ _ _ _ _ _ _ _ (k+k+10) 4 D1 3 _ ((zA nS).bw p9) A5 (by omega) (by omega)).mono ?_;rintro r' w3 ⟨B8,a3,n3,c3,rfl,G0,o7⟩;have F9:=zB p9 o7)
     | (go_at_call 33;have hq:=s9;refine (zD 3 _ (by decide) (by decide)).mono ?_;rintro r' w2 ⟨j6,a2,n2,c2,rfl,A5,j7⟩;have p9:=zB s9 j7)
     | (go_at_call 116;refine (zGN _ _ _ _ _ 2 (k+k+10) N1 _ rfl ((zA nQ).bw D5) (by omega) (by omega)).mono ?_;rintro r' w1 ⟨m9,a1,n1,c1,rfl,o8,b9⟩;have s9:=zB D5 b9))
   all_goals
    go_wp2_with fail;go_meet;exact⟨congrArg _ (cmp_ltB _ _),I5⟩
  case rest =>
  obtain⟨rfl,b9⟩:=hcut;have cP:=zC ((zA cP).bw b9);have cQ:=zC ((zA cQ).bw b9);have nQ:=zC ((zA nQ).bw b9);have nS:=zC ((zA nS).bw b9);replace R:=R.bw b9;replace R2:=R2.bw b9;replace j8:=zB j8 b9;have lX:=(zA cP).lt;have lY:=(zA cQ).lt;have lR:=R.lt;have bg:=R2.lt;have HK:=zC (show ∀ w',Below wc.heap.size wc w'->(nK w' w.heap.size X (nK0 w' (w.heap.size+1) Y)) from λ w' hB=>⟨((zA cP).bw hB).c0,((zA cP).bw hB).c1,((zA cQ).bw hB).c0,((zA cQ).bw hB).c1⟩)
  clear x0 x1 y0 y1 D5;obtain⟨x0,x1,y0,y1⟩:=zA HK _ (Below.refl _ _);have D5:Below wc.heap.size wc wc.drew:=(Below.refl _ _).drew
  by_cases G3:N1*4<D1*3
  ·have HR:Hid (BalD n d (N1*2) D1 (D-1)):=zC (zA Ah _ _ _ (Or.inr (Or.inl ⟨by have:=zA Hc;omega,by omega,rfl,rfl,rfl⟩)))
   have na:=zC (show IntKind.i64.wrap (D-1)=D-1 from jI _ (by omega) (by omega))
   have TL:=zC G3;go_wp2_with fail
   go_region_held3 (λ w'=>nK w' w.heap.size X (nK0 w' (w.heap.size+1) Y)) (first|exact zA HK _ (by with_reducible first|exact D5|exact s9)|(dsimp only[cK,cK0,nK,nK0,rK,rK0];go_keep)|go_keep)
    (first
     | (go_at_call 116;refine (zGN _ _ _ _ _ 1 (k+k+10) N1 _ rfl ((zA nQ).bw D5) (by omega) (by omega)).mono ?_;rintro r' w1 ⟨m9,a1,oO,c1,rfl,o8,b9⟩;have s9:=zB D5 b9;obtain⟨q0,q1,q2⟩:=R.bw s9;obtain⟨p0,p1,p2⟩:=R2.bw s9;obtain⟨z0,z1,z2,z3⟩:=zA HK _ s9))
   all_goals
    have HE:=zLH (w:=w) (K:=k+k+20) (R.bw s9) (R2.bw s9) (X:=⟨m9,a1,oO,c1⟩) (Y:=Y) (o8.mono (by omega)) (((zA nS).bw s9).mono (by omega)) (zB j8 s9)
    go_wp2_with fail;refine bodyPost_ret (v:=.tuple #[.agg #[.bool m9,.slice a1 oO c1],.agg Y.q,.int .i64 (IntKind.i64.wrap (D-1))]) (by simp[results,Tryz.results154,go_sem,q0,q1,p0,p1,n5,n6]) rfl ⟨⟨m9,a1,oO,c1⟩,Y,(N1*2),D1,_,rfl,by rw[zA na];exact zA HR,by rw[zA na];omega,by rw[zA na];omega,HE.1,HE.2.1,HE.2.2⟩
  ·have HR:Hid (BalD n d N1 D1 D):=zC (zA Ah _ _ _ (Or.inr (Or.inr ⟨by have:=zA Hc;omega,by omega,rfl,rfl,rfl⟩)))
   have TL:=zC G3;go_wp2_with fail;have Av:=R;have Aw:=R2;obtain⟨q0,q1,q2⟩:=R;obtain⟨p0,p1,p2⟩:=R2
   go_region
   all_goals
    have HE:=zLH (w:=w) (K:=k+k+20) (Av.bw (Below.refl _ _).drew) (Aw.bw (Below.refl _ _).drew) (X:=X) (Y:=Y) (((zA nQ).bw (Below.refl _ _).drew).mono (by omega)) (((zA nS).bw (Below.refl _ _).drew).mono (by omega)) (zB j8 (Below.refl _ _).drew)
    go_wp2_with fail;refine bodyPost_ret (v:=.tuple #[.agg X.q,.agg Y.q,.int .i64 (D)]) (by simp[results,Tryz.results154,go_sem,q0,q1,p0,p1,n5,n6]) rfl ⟨X,Y,N1,D1,_,rfl,by exact zA HR,by omega,by omega,HE.1,HE.2.1,HE.2.2⟩
theorem zBB (w:World) (s:Sp) (x y:Nm) (k k1 k2 b:Nat) (a:Int × Int) (n d:Int) (hs:SpAt w s k a.1 a.2) (h1:IntAt w x.neg x.a x.n x.cap k1 n) (h2:IntAt w y.neg y.a y.n y.cap k2 d) (hk:k<=300000000) (W6:k1<=300000000) (hd:0<d) (hb:s.bits=(b:Int)) :
  Calls Tryz.prog 151 #[.agg s.q,.agg x.q,.agg y.q] w (zG w b (k+k1+10) (zJ a n d).1 (zJ a n d).2) :=
 (zKT w s _ _ _ _ _ _ _ _ k k1 k2 a.1 a.2 n d hs h1 h2 hk W6 hd).mono λ r w' h=>by rw[hb] at h;exact h
theorem ln1_iv (w:World) (B0:Nat) (s u:Sp) (k b:Nat) (n:Int) (a c:Int × Int) (hs:SpAt w s k a.1 a.2) (hu:SpAt w u k c.1 c.2) (hU:SpC w B0 u) (hk:k<=100000000) (hb:s.bits=(b:Int)) (pN:b<=1000000) (hn:1<=n) (bC:n<=1000000000000) :
  Calls Tryz.prog 175 #[.agg s.q,.int .i64 n,.pointer (some ⟨B0,0,none⟩)] w (zG w b (k+k+8+4+10) (zJ (zAL b a c) (2*n-1) (2*n+1)).1 (zJ (zAL b a c) (2*n-1) (2*n+1)).2):=by
 obtain⟨W,hW⟩:∃ W,W=(w.alloc (.cells s.q 31)).alloc (.cells zCq 31):=⟨_,rfl⟩;have j8:Below w.heap.size w W:=by rw[hW];exact bl2 _ _ _
 have R:NoC W (w.heap.size+1):=by rw[hW];constructor<;>simp[go_sem]
 have HS:=zC (hs.bw j8);have HU:=zC (hu.bw j8);have l0:=hU.lt;obtain⟨y0,y1,y2,y3,y4⟩:=hU;have HB:=zC hb;clear hs hu hb
 go_enter Tryz.func175,Tryz.ntmps175
 go_wp2_with fail;rw[<- hW];clear hW;refine (zKA _ s u k b a c (zA HS) (zA HU) (by omega) (zA HB) pN).mono ?_
 rintro r' w1 ⟨v,rfl,J7,J5,b9⟩;have HV:=zC J7;clear J7 y0 y1 y2 y3 y4;replace R:=R.bw b9;replace j8:=zB j8 b9;go_wp2_with fail;refine (zD (2*n-1) _ (by omega) (by omega)).mono ?_
 rintro r' w2 ⟨j6,a2,n2,c2,rfl,A5,j7⟩;replace R:=R.bw j7;replace j8:=zB j8 j7;replace J5:=J5.bw j7;go_wp2_with fail;refine (zD (2*n+1) _ (by omega) (by omega)).mono ?_
 rintro r' w3 ⟨B8,a3,n3,c3,rfl,G0,o7⟩;replace R:=R.bw o7;replace j8:=zB j8 o7;replace J5:=J5.bw o7;replace A5:=A5.bw o7;go_wp2_with fail;refine (zBB _ v ⟨j6,a2,n2,c2⟩ ⟨B8,a3,n3,c3⟩ _ _ _ b _ (2*n-1) (2*n+1) J5 A5 G0 (by omega) (by omega) (by omega) (zA HV)).mono ?_
 rintro r' w4 ⟨t,rfl,J2,P5,y9⟩;obtain⟨q0,q1,q2,q3,q4,q5⟩:=R.bw y9;replace j8:=zB j8 y9;have HT:=zC J2;clear J2;go_wp2_with fail;refine bodyPost_ret (v:=.agg t.q) (by simp[results,Tryz.results175,go_sem,q0,q1,q2,q3,q4]) rfl ⟨t,rfl,zA HT,?_,?_⟩
 ·exact SpAt.put5 (P5.mono (by omega)) q0 q1 q2 q3 q4 _ _ _ _ _
 ·exact jS j8 (Nat.le_succ _) _ _ _ _ _
theorem en_ln (args:Array Value) (w:World):(callFunc 175 args).run Tryz.prog w=.ok (.enter 175 args) w:=by simp[go_sem,callFunc,Tryz.func175];kernel_rfl
theorem zHD (w:World) (x y:Nm) (k b N K:Nat) (n d:Int) (hx:IntAt w x.neg x.a x.n x.cap k n) (hy:IntAt w y.neg y.a y.n y.cap k d) (hk:k<=10000000) (h1:yS n d) (K4:16<=b) (hb:b<=1000000) (hN:zU (lnT n d b) N) (hK:Q (b+4)<P K) (gz:K<=10000000) :
  Calls Tryz.prog 155 #[.agg x.q,.agg y.q,.int .i64 b] w (zG w b (K+7) (kI (zM (lnT n d b) N) 2).1 (kI (zM (lnT n d b) N) 2).2):=by
 obtain⟨W,hW⟩:∃ W,W=((w.alloc (.cells x.q 29)).alloc (.cells y.q 29)).alloc (.cells zCq 31):=⟨_,rfl⟩;have j8:Below w.heap.size w W:=by rw[hW];exact bl3 _ _ _ _
 have X:NmC W w.heap.size x:=by rw[hW];constructor<;>simp[go_sem]
 have Y:NmC W (w.heap.size+1) y:=by rw[hW];constructor<;>simp[go_sem]
 have R:NoC W (w.heap.size+1+1):=by rw[hW];constructor<;>simp[go_sem]
 have HX:=zC (hx.bw j8);have HY:=zC (hy.bw j8);have lX:=X.lt;have lY:=Y.lt;have lR:=R.lt;have iP:0<n+d:=by have:=h1.hn;have:=h1.hd;omega
 have PJ:=zE b
 have gX:Q b*16<P K:=by
  have e:Q (b+4)=2*(2*(2*(2*Q b))):=rfl;omega
 have JX:=zML h1 K4;have hfitz : -P K<(zI n d b).1/\(zI n d b).2<P K:=by have:=JX.1;have:=JX.2.2.2;omega
 have JE:=zL8 h1 K4
 have hfitq : -P K<(zAL b (zI n d b) (zI n d b)).1/\(zAL b (zI n d b) (zI n d b)).2<P K:=by
  have:=JE.1;have:=JE.2.2.2;have:=zH (show b-3<=b by omega);omega
 have Ak:=zC hfitz;have NZ:=zC hfitq;have TH:=zC (kO (n:=n-d) iP b);have H1:=zC h1;have HN:=zC hN;have HK:=zC (show ∀ w',Below W.heap.size W w'->(nK w' w.heap.size x (nK0 w' (w.heap.size+1) y)) from λ w' hB=>⟨(X.bw hB).c0,(X.bw hB).c1,(Y.bw hB).c0,(Y.bw hB).c1⟩)
 clear hx hy JX hfitz JE hfitq h1 hN
 go_enter Tryz.func155,Tryz.ntmps155
 go_wp2;rw[<- hW];clear hW;obtain⟨x0,x1,x2,x3⟩:=zA HK _ (Below.refl _ _)
 go_cut [7] (λ p wx=>∃ (B:Nat) (u:Sp),p=.pointer (some ⟨B,0,none⟩)/\W.heap.size<=B/\VrC wx B u/\SpAt wx u K (zI n d b).1 (zI n d b).2/\u.bits=(b:Int)/\Below W.heap.size W wx)
 case first =>
  go_region_held3 (λ w'=>nK w' w.heap.size x (nK0 w' (w.heap.size+1) y)) (exact zA HK _ (by repeat' (first|with_reducible exact bZ|with_reducible exact K7|with_reducible exact G9|with_reducible exact Below.refl _ _|with_reducible refine Below.drew ?_|with_reducible refine zL ?_ _|with_reducible refine Below.setCell ?_ (by first|exact Zb _|exact T5|exact T6|exact fG) _)))
   (first
    | (go_at_call 88;have hq:=K7;refine (jL _ _ _ _ _ _ _ _ _ _ b (n-d) (n+d) _ (J6.bw (by with_reducible first|exact Below.refl _ _|exact bl1 _ _)) (W3.bw (by with_reducible first|exact Below.refl _ _|exact bl1 _ _)) (by omega) hb iP).mono ?_;rintro r wH ⟨Sj,rfl,qL,ma,eV⟩;have AY:=zC qL;clear qL;have aM:Below fX.heap.size fX wH:=(by with_reducible first|exact eV|exact zB (bl1 _ _) eV);have bZ:=zB K7 aM;(try with_reducible have rV:=(zS fX 31).bw eV);replace J6:=J6.bw aM;(try replace ag:=ag.bw aM);replace W3:=W3.bw aM;(try replace cS:=cS.bw aM);have fG:=bZ.size;(try have oM:=ag.lt);(try have Pa:=Zg oM);(try have Bn:=Zf oM);(try obtain⟨mR,mS,xl,xm,xn,DT⟩:=ag);(try have oN:=cS.lt);(try have Pb:=Zg oN);(try have Bo:=Zf oN);(try obtain⟨mV,mW,xo,xq,xw,DV⟩:=cS);(try have Dg:=rV.lt);(try have Wo:=Zg Dg);(try have Hh:=Zf Dg);(try obtain⟨DW,DX,DY,DZ,Ea,Mt⟩:=rV))
    | (go_at_call 32;have hq:=G9;refine (zA5 _ _ _ _ _ _ _ _ k k n d _ ((zA HX).bw (by with_reducible first|exact G9|exact zL G9 _)) ((zA HY).bw (by with_reducible first|exact G9|exact zL G9 _)) (by omega) (by omega)).mono ?_;rintro r fX ⟨bh,rJ,wo,rL,rfl,W3,S7⟩;have R6:Below cD.heap.size cD fX:=(by with_reducible first|exact S7|exact zB (bl1 _ _) S7);have K7:=zB G9 R6;(try with_reducible have cS:=(zS cD 31).bw S7);replace J6:=J6.bw R6;(try replace ag:=ag.bw R6);have T6:=K7.size)
    | (go_at_call 35;refine (zCR _ _ _ _ _ _ _ _ k k n d _ ((zA HX).bw (by with_reducible first|exact (Below.refl _ _).drew|exact (bl1 _ _).drew)) ((zA HY).bw (by with_reducible first|exact (Below.refl _ _).drew|exact (bl1 _ _).drew)) (by omega) (by omega)).mono ?_;rintro r cD ⟨bK,xT,Ab,xW,rfl,J6,S6⟩;have G9:Below W.heap.size W cD:=(by with_reducible first|exact zB (Below.refl _ _).drew S6|exact zB (bl1 _ _).drew S6);(try with_reducible have ag:=((zS W 31).bw (Below.refl _ _).drew).bw S6);have T5:=G9.size))
  all_goals
   have hfinU:SpAt wH Sj K (zI n d b).1 (zI n d b).2:=(ma.fits (K:=K) (zA TH) (zA Ak).1 (zA Ak).2);go_wp2_with fail;go_meet;refine⟨_,Sj,rfl,?_,⟨⟨?_,?_,?_,?_,?_⟩,?_⟩,?_,zA AY,?_⟩
   ·first|exact Zb _|exact T5|exact T6|exact fG
   ·simp[go_sem, *]
   ·simp[go_sem, *]
   ·simp[go_sem, *]
   ·simp[go_sem, *]
   ·simp[go_sem, *]
   ·intro o;simp[go_sem, *]
   ·first|with_reducible exact hfinU.bw (bl1 _ _)|with_reducible exact SpAt.put5 hfinU (by assumption) (by assumption) (by assumption) (by assumption) (by assumption) _ _ _ _ _
   ·repeat' (first|with_reducible exact bZ|with_reducible exact K7|with_reducible exact G9|with_reducible exact Below.refl _ _|with_reducible refine Below.drew ?_|with_reducible refine zL ?_ _|with_reducible refine Below.setCell ?_ (by first|exact Zb _|exact T5|exact T6|exact fG) _)
 case rest =>
 obtain⟨BU,xU,rfl,BG,XU,hpU,hxbU,hblU⟩:=hcut;replace R:=R.bw hblU;replace j8:=zB j8 hblU;have lU:=XU.lt;have nRU:w.heap.size+1+1<BU:=by omega
 have bg:=R.lt;have oc:=zC hxbU;have cO:=zC hpU;have FU:=XU.fz;obtain⟨z0,z1,z2,z3,z4⟩:=XU.c;clear hxbU hpU HX HY HK x0 x1 x2 x3 hblU X Y;go_wp2_with fail;refine (zKA _ xU xU K b (zI n d b) (zI n d b) (zA cO) (zA cO) (by omega) (zA oc) hb).mono ?_
 rintro r w1 ⟨v1,rfl,J3,T8,b9⟩;replace T8:=T8.fits (K:=K) (zB2 b) (zA NZ).1 (zA NZ).2;replace XU:=XU.bw b9;replace cO:=zC ((zA cO).bw b9);replace R:=R.bw b9;replace j8:=zB j8 b9;have rG:=zC J3;clear b9 J3 z0 z1 z2 z3 z4 FU;obtain⟨V,hV⟩:∃ V,V=w1.alloc (.cells v1.q 31):=⟨_,rfl⟩;have bV:Below w1.heap.size w1 V:=by rw[hV];exact bl1 _ _
 have S1:SpC V w1.heap.size v1:=by rw[hV];exact yW w1 v1 _
 have nZ:=zC (T8.bw bV);have lU3:=XU.lt;have Z:=zC (XU.c);obtain⟨z0,z1,z2,z3,z4⟩:=XU.c;replace XU:=XU.bw bV;have iz:=R.lt;replace R:=R.bw bV;replace cO:=zC ((zA cO).bw bV);replace j8:=zB j8 bV;clear T8 bV;have az:=zC (zF8 (zA H1) K4);have rC:=zC (zNK (zA H1) b)
 have gL:Hid (∀ j,j<=N -> -P K<(lnT n d b j).1/\(lnT n d b j).2<P K):=zC (λ j _=>by
  obtain⟨g1,g2,g3,g4⟩:=zA az j;have:=zH (show b-3*j<=b by omega)
  omega)
 have cM:Hid (∀ j,j<=N -> -P K<(jE (lnT n d b) j).1/\(jE (lnT n d b) j).2<P K):=zC (λ j hj=>by
  obtain⟨g1,g2,g3,g4⟩:=zFQ (s:=3) (by omega) (zA az) (zA HN) j hj
  have:=zE (b-3*j)
  omega)
 have ym:N<=1000000000:=by
  obtain⟨N',n1,n2⟩:=zB7 (s:=3) (by omega) (zA az)
  have:N<=N':=Nat.not_lt.1 λ E2=>by have:=(zA HN).2 N' E2;have:=n2.1;omega
  omega
 go_wp2_with fail;rw[<- hV];clear hV;refine (zMB _ _ en_ln (lnT n d b) N b K (K+K+8+4+10) xU _ (zA cO) (zA oc) hb (by omega) (by omega) (zA HN) ym (zA rC) (zA gL) (zA cM) (λ j u w' hj A8 C7 M8=>?_)).mono ?_
 ·have e:=ln1_iv w' w1.heap.size u v1 K b ((j:Int)+1) (lnT n d b j) (zAL b (zI n d b) (zI n d b)) C7 ((zA nZ).bw M8) (S1.bw M8) (by omega) A8 hb (by omega) (by omega)
  have e1:2*((j:Int)+1)-1=2*(j:Int)+1:=by omega
  have e2:2*((j:Int)+1)+1=2*(j:Int)+3:=by omega
  rw[e1,e2] at e;exact e
 rintro r w2 ⟨v2,rfl,P6,Z3,j7⟩;replace R:=R.bw j7;replace j8:=zB j8 j7;have mZ:=zC P6;clear P6 j7;have lR4:=R.lt;obtain⟨V2,P8⟩:∃ V2,V2=w2.alloc (.cells v2.q 31):=⟨_,rfl⟩;have O6:Below w2.heap.size w2 V2:=by rw[P8];exact bl1 _ _
 replace Z3:=Z3.bw O6;replace R:=R.bw O6;replace j8:=zB j8 O6;go_wp2_with fail;rw[<- P8];clear P8 O6;refine (zDK _ v2 (K+3) b 2 _ Z3 (by omega) (zA mZ) (by omega) (by omega)).mono ?_
 rintro r w3 ⟨v,rfl,J7,J5,o7⟩;obtain⟨q0,q1,q2,q3,q4,q5⟩:=R.bw o7;replace j8:=zB j8 o7;have HV:=zC J7;clear J7;go_wp2_with fail;refine bodyPost_ret (v:=.agg v.q) (by simp[results,Tryz.results155,go_sem,q0,q1,q2,q3,q4]) rfl ⟨v,rfl,zA HV,?_,?_⟩
 ·exact SpAt.put5 (J5.mono (by omega)) q0 q1 q2 q3 q4 _ _ _ _ _
 ·exact jS j8 (by omega) _ _ _ _ _
theorem NoC.offI {w:World} {B B':Nat} (h:NoC w B) (hne:B≠B') (u0 u1:Value):NoC ((w.setCell ⟨B',0,none⟩ u0).setCell ⟨B',1,none⟩ u1) B:=by
 obtain⟨q0,q1,q2,q3,q4,q5⟩:=h;exact⟨by simp[go_sem,q0,hne,Ne.symm hne],by simp[go_sem,q1,hne,Ne.symm hne],by simp[go_sem,q2,hne,Ne.symm hne],by simp[go_sem,q3,hne,Ne.symm hne],by simp[go_sem,q4,hne,Ne.symm hne],zAE q5 _ _⟩
theorem zPQ (w:World) (x y:Nm) (k b K:Nat) (n d n' d' c:Int) (N N2:Nat) (hx:IntAt w x.neg x.a x.n x.cap k n) (hy:IntAt w y.neg y.a y.n y.cap k d) (hk:k<=100000) (hn:0<n) (hd:0<d) (K4:16<=b) (hb:b<=1000000) (hK:Q (b+4)<P K) (gz:K<=10000000) (oy:BalD n d n' d' c) (bj:zU (lnT n' d' b) N) (BN:zU (lnT 2 1 b) N2) :
  Calls Tryz.prog 125 #[.agg x.q,.agg y.q,.int .i64 b] w (zG w b (K+20) (zIF (zM (lnT n' d' b) N) (zM (lnT 2 1 b) N2) c).1 (zIF (zM (lnT n' d' b) N) (zM (lnT 2 1 b) N2) c).2):=by
 have Ah:=zC oy;have Gd:=zC (oy.bal hn hd);have To:=zC bj;have Et:=zC BN;clear oy bj BN;obtain⟨W,hW⟩:∃ W,W=((w.alloc (.cells x.q 29)).alloc (.cells y.q 29)).alloc (.cells zCq 31):=⟨_,rfl⟩;have j8:Below w.heap.size w W:=by rw[hW];exact bl3 _ _ _ _
 have X:NmC W w.heap.size x:=by rw[hW];constructor<;>simp[go_sem]
 have FX:∀ o,W.frozen? ⟨w.heap.size,o,none⟩=false:=by rw[hW];intro o;simp[go_sem]
 have Y:NmC W (w.heap.size+1) y:=by rw[hW];constructor<;>simp[go_sem]
 have FY:∀ o,W.frozen? ⟨w.heap.size+1,o,none⟩=false:=by rw[hW];intro o;simp[go_sem]
 have R:NoC W (w.heap.size+1+1):=by rw[hW];constructor<;>simp[go_sem]
 have HX:=zC (hx.bw j8);have HY:=zC (hy.bw j8);have lX:=X.lt;have lY:=Y.lt;clear hx hy
 go_enter Tryz.func125,Tryz.ntmps125
 go_wp2_with fail;rw[<- hW];clear hW;refine (zJI _ x y k n d (zA HX) (zA HY) hn hd (by omega)).mono ?_
 rintro r w1 ⟨U,T,n1,d1,c1,rfl,O9,E4,G3,iU,iT,b9⟩;obtain⟨rfl,rfl,rfl⟩:=(zA Ah).uq O9;have SF:∀ o,w1.frozen? ⟨w.heap.size,o,none⟩=false:=λ o=>(b9.frozen (p:=⟨w.heap.size,o,none⟩) lX).trans (FX o)
 have SG:∀ o,w1.frozen? ⟨w.heap.size+1,o,none⟩=false:=λ o=>(b9.frozen (p:=⟨w.heap.size+1,o,none⟩) lY).trans (FY o)
 replace X:=X.bw b9;replace Y:=Y.bw b9;replace R:=R.bw b9;replace j8:=zB j8 b9;clear b9 FX FY HX HY O9;obtain⟨V,hV⟩:∃ V,V=(((w1.setCell ⟨w.heap.size,0,none⟩ (.bool U.neg)).setCell ⟨w.heap.size,1,none⟩ (.slice U.a U.n U.cap)).setCell ⟨w.heap.size+1,0,none⟩ (.bool T.neg)).setCell ⟨w.heap.size+1,1,none⟩ (.slice T.a T.n T.cap):=⟨_,rfl⟩
 have hE:IntAt V U.neg U.a U.n U.cap (k+k+20) n'/\IntAt V T.neg T.a T.n T.cap (k+k+20) d'/\NoC V (w.heap.size+1+1)/\Below w.heap.size w V:=by
  rw[hV];have gF:=Y.off (B':=w.heap.size) (by omega) (.bool U.neg) (.slice U.a U.n U.cap)
  have i1:=iU.put2 X.c0 X.c1 (.bool U.neg) (.slice U.a U.n U.cap);have i2:=iT.put2 X.c0 X.c1 (.bool U.neg) (.slice U.a U.n U.cap);have r1:=R.offI (B':=w.heap.size) (by omega) (.bool U.neg) (.slice U.a U.n U.cap)
  have b1:=zE4 j8 (Zb _) (.bool U.neg) (.slice U.a U.n U.cap);generalize (w1.setCell ⟨w.heap.size,0,none⟩ (.bool U.neg)).setCell ⟨w.heap.size,1,none⟩ (.slice U.a U.n U.cap)=V0 at *;exact⟨i1.put2 gF.c0 gF.c1 _ _,i2.put2 gF.c0 gF.c1 _ _,r1.offI (by omega) _ _,zE4 b1 (Nat.le_succ _) _ _⟩
 obtain⟨jU,jT,R2,o9⟩:=hE;have Ob:=zC jU;have Oa:=zC jT;obtain⟨x0,x1⟩:=X;obtain⟨y0,y1⟩:=Y;have QX:w.heap.size<w1.heap.size:=World.block_lt_of_cell? w1 ⟨w.heap.size,0,none⟩ x0;have lY1:w.heap.size+1<w1.heap.size:=World.block_lt_of_cell? w1 ⟨w.heap.size+1,0,none⟩ y0;clear iU iT R j8 jU jT;go_wp2_with fail;rw[<- hV];clear hV x0 x1 y0 y1 SF SG;refine (zHD _ U T (k+k+20) b N K n' d' (zA Ob) (zA Oa) (by omega) (zA Gd).1 K4 hb (zA To) hK gz).mono ?_
 rintro r w3 ⟨v3,rfl,I0,O5,o7⟩;replace R2:=R2.bw o7;have lw3:=R2.lt;replace o9:=zB o9 o7;have iH:=zC I0;clear o7 I0 Ob Oa;obtain⟨V3,I6⟩:∃ V3,V3=w3.alloc (.cells v3.q 31):=⟨_,rfl⟩;have ED:Below w3.heap.size w3 V3:=by rw[I6];exact bl1 _ _
 have C3:SpC V3 w3.heap.size v3:=by rw[I6];exact yW w3 v3 _
 replace O5:=O5.bw ED;replace R2:=R2.bw ED;replace o9:=zB o9 ED;clear ED;go_wp2_with fail;rw[<- I6];clear I6;refine (zD 2 _ (by decide) (by decide)).mono ?_
 rintro r w4 ⟨E6,a4,n4,c4,rfl,I2,y9⟩;replace C3:=C3.bw y9;replace O5:=O5.bw y9;replace R2:=R2.bw y9;replace o9:=zB o9 y9;clear y9;go_wp2_with fail;refine (zD 1 _ (by decide) (by decide)).mono ?_
 rintro r w5 ⟨L4,a5,n5,c5,rfl,P9,D8⟩;replace C3:=C3.bw D8;replace O5:=O5.bw D8;replace R2:=R2.bw D8;replace o9:=zB o9 D8;replace I2:=I2.bw D8;clear D8;go_wp2_with fail;refine (zHD _ ⟨E6,a4,n4,c4⟩ ⟨L4,a5,n5,c5⟩ 4 b N2 K 2 1 I2 P9 (by omega) zSP K4 hb (zA Et) hK gz).mono ?_
 rintro r w6 ⟨v6,rfl,CN,CQ,K8⟩;have lC3:=C3.lt;have l36:w3.heap.size<w6.heap.size:=Zd lC3 K8.size;replace C3:=C3.bw K8;replace O5:=O5.bw K8;replace R2:=R2.bw K8;replace o9:=zB o9 K8;have Oq:=zC CN;clear K8 CN I2 P9;obtain⟨V6,yn⟩:∃ V6,V6=w6.alloc (.cells v6.q 31):=⟨_,rfl⟩;have xV:Below w6.heap.size w6 V6:=by rw[yn];exact bl1 _ _
 have C6:SpC V6 w6.heap.size v6:=by rw[yn];exact yW w6 v6 _
 replace C3:=C3.bw xV;have Oj:=zC (CQ.bw xV);have Oi:=zC (O5.bw xV);replace R2:=R2.bw xV;replace o9:=zB o9 xV;have bg:=R2.lt;have aq:=zC (show ∀ w',Below V6.heap.size V6 w'->(cK w' w3.heap.size v3 (cK0 w' w6.heap.size v6)) from λ w' hB=>⟨(C3.bw hB).c0,(C3.bw hB).c1,(C3.bw hB).c2,(C3.bw hB).c3,(C3.bw hB).c4,(C6.bw hB).c0,(C6.bw hB).c1,(C6.bw hB).c2,(C6.bw hB).c3,(C6.bw hB).c4⟩)
 have D5:Below V6.heap.size V6 V6.drew:=(Below.refl _ _).drew;have l3:=C3.lt;have l6:=C6.lt;have m1:w.heap.size+1+1≠w3.heap.size:=by omega
 have m2:w.heap.size+1+1≠w6.heap.size:=by omega
 have m3:w3.heap.size≠w.heap.size+1+1:=by omega
 have m4:w6.heap.size≠w.heap.size+1+1:=by omega
 clear O5 CQ xV C3 C6;have hkk:k<=100000:=hk
 by_cases XN:c<0
 ·go_wp2_with fail
  rw[<- yn];clear yn;obtain⟨e0,e1,e2,e3,e4,e5,e6,e7,e8,e9⟩:=zA aq _ (Below.refl _ _);have TA:=zC (show IntKind.i64.wrap (-c) = -c from jI _ (by omega) (by omega))
  go_region_held3 (λ w'=>cK w' w3.heap.size v3 (cK0 w' w6.heap.size v6)) (first|exact zA aq _ (by with_reducible first|exact D5|exact p9|exact s9)|(dsimp only[cK,cK0,nK,nK0,rK,rK0];go_keep)|go_keep)
   (first
    | (go_at_call 92;have hq:=s9;refine (zHM _ v3 v7 (K+11) b (kI (zM (lnT n' d' b) N) 2) (kI (kI (zM (lnT 2 1 b) N2) 2) (-c)) (((zA Oi).bw s9).mono (by omega)) (iq.mono (by omega)) (by omega) (zA iH)).mono ?_;rintro r' w8 ⟨v,rfl,J7,J5,Z7⟩;have p9:=zB s9 Z7;have HV:=zC J7;clear J7;obtain⟨q0,q1,q2,q3,q4,q5⟩:=R2.bw p9;obtain⟨z0,z1,z2,z3,z4,z5,z6,z7,z8,z9⟩:=zA aq _ p9)
    | (go_at_call 156;rw[zA TA];refine (zDK _ v6 (K+7) b (-c) (kI (zM (lnT 2 1 b) N2) 2) ((zA Oj).bw D5) (by omega) (zA Oq) (by omega) (by omega)).mono ?_;rintro r' w7 ⟨v7,rfl,dy,iq,W5⟩;have Ey:=zC dy;clear dy;have s9:=zB D5 W5))
  all_goals
   go_wp2_with fail;refine bodyPost_ret (v:=.agg v.q) (by simp[results,Tryz.results125,go_sem,q0,q1,q2,q3,q4]) rfl ⟨v,rfl,zA HV,?_,?_⟩
   ·refine SpAt.put5 ?_ q0 q1 q2 q3 q4 _ _ _ _ _
    unfold zIF;rw[if_pos XN];exact J5.mono (by omega)
   ·exact jS (zB o9 p9) (by omega) _ _ _ _ _
 ·go_wp2_with fail
  rw[<- yn];clear yn;obtain⟨e0,e1,e2,e3,e4,e5,e6,e7,e8,e9⟩:=zA aq _ (Below.refl _ _);have XQ:¬ c<0:=by omega
  go_region_held3 (λ w'=>cK w' w3.heap.size v3 (cK0 w' w6.heap.size v6)) (first|exact zA aq _ (by with_reducible first|exact D5|exact p9|exact s9)|(dsimp only[cK,cK0,nK,nK0,rK,rK0];go_keep)|go_keep)
   (first
    | (go_at_call 51;have hq:=s9;refine (zCT _ v3 v7 (K+11) b (kI (zM (lnT n' d' b) N) 2) (kI (kI (zM (lnT 2 1 b) N2) 2) c) (((zA Oi).bw s9).mono (by omega)) (iq.mono (by omega)) (by omega) (zA iH)).mono ?_;rintro r' w8 ⟨v,rfl,J7,J5,Z7⟩;have p9:=zB s9 Z7;have HV:=zC J7;clear J7;obtain⟨q0,q1,q2,q3,q4,q5⟩:=R2.bw p9;obtain⟨z0,z1,z2,z3,z4,z5,z6,z7,z8,z9⟩:=zA aq _ p9)
    | (go_at_call 156;refine (zDK _ v6 (K+7) b c (kI (zM (lnT 2 1 b) N2) 2) ((zA Oj).bw D5) (by omega) (zA Oq) (by omega) (by omega)).mono ?_;rintro r' w7 ⟨v7,rfl,dy,iq,W5⟩;have Ey:=zC dy;clear dy;have s9:=zB D5 W5))
  all_goals
   go_wp2_with fail;refine bodyPost_ret (v:=.agg v.q) (by simp[results,Tryz.results125,go_sem,q0,q1,q2,q3,q4]) rfl ⟨v,rfl,zA HV,?_,?_⟩
   ·refine SpAt.put5 ?_ q0 q1 q2 q3 q4 _ _ _ _ _
    unfold zIF;rw[if_neg (show ¬ c<0 by omega)]
    exact J5.mono (by omega)
   ·exact jS (zB o9 p9) (by omega) _ _ _ _ _
def LogX (k:Nat) (n d:Int) (b K:Nat) (o:Int × Int):Prop:=∀ (w:World) (x y:Nm),IntAt w x.neg x.a x.n x.cap k n->IntAt w y.neg y.a y.n y.cap k d->Calls Tryz.prog 125 #[.agg x.q,.agg y.q,.int .i64 b] w (zG w b K o.1 o.2)
theorem zBH (k b K:Nat) (n d:Int) (h1:n<Q (16*k)) (h2:d<Q (16*k)) (hk:k<=100000) (hn:0<n) (hd:0<d) (K4:16<=b) (hb:b<=1000000) (hK:Q (b+4)<P K) (gz:K<=10000000) :
  ∃ (n' d' c:Int) (N N2:Nat),Bal n d n' d' c /\ -(16*k+1)<=c/\c<=16*k+1/\zU (lnT n' d' b) N/\zU (lnT 2 1 b) N2/\LogX k n d b (K+20) (zIF (zM (lnT n' d' b) N) (zM (lnT 2 1 b) N2) c):=by
 obtain⟨n',d',c,oy⟩:=balD_ex hn hd;obtain⟨c1,c2⟩:=oy.bd h1 h2;have O9:=oy.bal hn hd;obtain⟨N,cF,bj⟩:=zB7 (s:=3) (by omega) (zF8 O9.1 K4)
 obtain⟨N2,Iw,BN⟩:=zB7 (s:=3) (by omega) (zF8 zSP K4)
 exact⟨n',d',c,N,N2,O9,c1,c2,bj,BN,λ w x y hx hy=>zPQ w x y k b K n d n' d' c N N2 hx hy hk hn hd K4 hb hK gz oy bj BN⟩
def zGS (bits:Nat) (p q:Int) (B:Nat) (lo hi:Int):Prop :=
 (∃ l,Ex.IsLog l (λ _=>(p:Rat)/(q:Rat))/\Iv B (lo,hi) l)/\lo<=hi/\hi-lo<=Q 30 /\ -(P 200*Q (B-bits))<=lo/\hi<=P 200*Q (B-bits)
theorem log_ends (bits:Nat) (p q:Int):zBU bits 30 (zGS bits p q):=λ m lo hi ⟨h1,h2,h3,h4,h5⟩=>by
 rw[show bits+m-bits=m by omega] at h4 h5
 exact⟨h2,h3,h4,h5⟩
theorem log_pr {bits m N N2:Nat} {p q n' d' c:Int} (hb:bits<=120) (hm:32<=m) (O2:m<=150) (hp:0<p) (hq:0<q) (h:Bal p q n' d' c) (E4 : -65<=c) (G3:c<=65) (hN:zU (lnT n' d' (bits+m)) N) (bj:zU (lnT 2 1 (bits+m)) N2) :
  zGS bits p q (bits+m) (zIF (zM (lnT n' d' (bits+m)) N) (zM (lnT 2 1 (bits+m)) N2) c).1 (zIF (zM (lnT n' d' (bits+m)) N) (zM (lnT 2 1 (bits+m)) N2) c).2:=by
 obtain⟨l,g1,g2⟩:=zE1 hp hq h (bits+m) N N2;obtain⟨b1,b2,b3⟩:=zEC h.1 (by omega) hN bj 65 E4 G3
 have hQ:(65+1)*(4*Q (bits+m))<=P 200*Q m:=by
  rw[P200];have e:1024*Q (bits+m)=Q (10+(bits+m)):=(jD 10 (bits+m)).symm;have:=zH (show 10+(bits+m)<=3200+m by omega)
  have:=zE (bits+m);omega
 refine⟨⟨l,g1,g2⟩,b1,?_,?_,?_⟩
 ·refine Int.le_trans b3 ?_
  have:Q 30=1073741824:=rfl;omega
 ·rw[show bits+m-bits=m by omega];have:=b2.1;omega
 ·rw[show bits+m-bits=m by omega];have:=b2.2.2.2;omega
theorem zKK (p q b:Int) (w:World) (h:¬ (rok p q/\8<=b/\b<=120)) :
  Calls Tryz.prog 38 #[.agg #[.int .i64 p,.int .i64 q],.int .i64 b] w (zB1 w 0 250 0 0 3):=by
 have d1:zFO p q b=3:=by unfold zFO;rw[if_neg h]
 clear h
 go_enter Tryz.func38,Tryz.ntmps38
 go_wp2_with (go_at_call 74;refine (yG _ _ _ (by simp) _ _ _ _).mono ?_;rintro r w1 ⟨rfl,b9⟩;rw[d1];obtain⟨C9,B9,D6⟩:=zZ (w.heap.size+1+1) (by simp) b9)
 refine bodyPost_ret (v:=.tuple #[.agg zCq,.int .i64 3]) (by simp[results,Tryz.results38,go_sem,B9]) rfl ⟨⟨false,none,0,0,false,none,0,0,0⟩,rfl,rfl,zGR _ _,?_⟩
 exact jS (zB (bl2 _ _ _) b9) (Nat.le_succ _) _ _ _ _ _
theorem zI2 (p q b:Int) (w:World) (hr:rok p q) (h5:8<=b) (h6:b<=120) (h:p<=0) :
  Calls Tryz.prog 38 #[.agg #[.int .i64 p,.int .i64 q],.int .i64 b] w (zB1 w 0 250 0 0 5):=by
 have d1:zFO p q b=0:=by unfold zFO;rw[if_pos];exact⟨hr,by omega,by omega⟩
 obtain⟨r1,r2,r3,r4⟩:=hr
 go_enter Tryz.func38,Tryz.ntmps38
 go_wp2_with (go_at_call 74;refine (yG _ _ _ (by simp) _ _ _ _).mono ?_;rintro r w1 ⟨rfl,b9⟩;rw[d1];obtain⟨C9,B9,D6⟩:=zZ (w.heap.size+1+1) (by simp) b9)
 have A:RaC w1 w.heap.size p q:=⟨by simp[B9,go_sem],by simp[B9,go_sem]⟩
 have R:NoC w1 (w.heap.size+1):=⟨by simp[B9,go_sem],by simp[B9,go_sem],by simp[B9,go_sem],by simp[B9,go_sem],by simp[B9,go_sem],λ o=>by simp[D6,go_sem]⟩
 have X9:Below w.heap.size w w1:=zB (bl2 _ _ _) b9;clear B9 D6 b9;have lA:=A.lt;have lR:=R.lt;obtain⟨x0,x1⟩:=A;obtain⟨q0,q1,q2,q3,q4,q5⟩:=R;go_wp2_with fail;refine bodyPost_ret (v:=.tuple #[.agg zCq,.int .i64 5]) (by simp[results,Tryz.results38,go_sem,q0,q1,q2,q3,q4]) rfl ⟨⟨false,none,0,0,false,none,0,0,0⟩,rfl,rfl,zGR _ _,?_⟩
 exact jS X9 (Nat.le_succ _) _ _ _ _ _
def touB (lo hi:Int) (i:Nat) (lo' hi':Int) (j:Nat):Bool:=decide (lo*Q i<=hi'*Q j) && decide (lo'*Q j<=hi*Q i)
theorem zH0 (x:Int) (a b:Int) (i:Nat) (h:b-a=(i:Int)):zA9 x (a-b)=x*Q i:=by
 unfold zA9
 by_cases h0:i=0
 ·subst h0
  have e:a-b=0:=by omega
  rw[e];simp[Q]
 ·rw[if_neg (by omega)];congr 2;omega
theorem zJS (x:Int) (a b:Int) (i:Nat) (h:b-a=(i:Int)) : -(zA9 (-x) (a-b))=x*Q i:=by
 rw[zH0 _ a b i h,Int.neg_mul,Int.neg_neg]
theorem touch_le (w:World) (s t:Sp) (k i j:Nat) (lo hi lo' hi':Int) (hs:SpAt w s k lo hi) (ht:SpAt w t k lo' hi') (hk:k<=300000000) (s0:0<=s.bits) (s1:s.bits<=1000000) (t0:0<=t.bits) (t1:t.bits<=1000000) (hc:t.bits<=s.bits) (fq:s.bits-s.bits=(i:Int)) (Cn:s.bits-t.bits=(j:Int)) :
  Calls Tryz.prog 14 #[.agg s.q,.agg t.q] w λ r w'=>r=.returned (.bool (touB lo hi i lo' hi' j))/\Below w.heap.size w w':=by
 obtain⟨W,hW⟩:∃ W,W=(w.alloc (.cells s.q 38)).alloc (.cells t.q 38):=⟨_,rfl⟩;have j8:Below w.heap.size w W:=by rw[hW];exact bl2 _ _ _
 have A:SpC W w.heap.size s:=by rw[hW];constructor<;>simp[go_sem]
 have G:SpC W (w.heap.size+1) t:=by rw[hW];constructor<;>simp[go_sem]
 have FA:∀ o,W.frozen? ⟨w.heap.size,o,none⟩=false:=by intro o;rw[hW];simp[go_sem]
 have FG:∀ o,W.frozen? ⟨w.heap.size+1,o,none⟩=false:=by intro o;rw[hW];simp[go_sem]
 have a1:=zC (zH0 lo s.bits (s.bits) i fq);have a2:=zC (zJS hi s.bits (s.bits) i fq);have a3:=zC (zH0 lo' t.bits (s.bits) j Cn);have a4:=zC (zJS hi' t.bits (s.bits) j Cn);have HS:=zC (hs.bw j8);have HT:=zC (ht.bw j8);have HA:=zC A;have HG:=zC G;have lA:=A.lt;have lG:=G.lt;have nAG:w.heap.size≠w.heap.size+1:=by omega
 clear fq Cn hs ht
 go_enter Tryz.func14,Tryz.ntmps14
 go_wp2_with fail;rw[<- hW];clear hW;obtain⟨x0,x1,x2,x3,x4⟩:=A;obtain⟨y0,y1,y2,y3,y4⟩:=G
 try go_wp2_with fail
 go_cut [] (λ wx=>∃ s2 t2:Sp,SpC wx w.heap.size s2/\SpC wx (w.heap.size+1) t2/\SpAt wx s2 (k+62505) (lo*Q i) (hi*Q i)/\SpAt wx t2 (k+62505) (lo'*Q j) (hi'*Q j)/\Below w.heap.size w wx)
 case first =>
  go_region_with
   (first
    | (go_at_call 52;have hq:=A6;refine (zGF _ t k (s.bits) lo' hi' ((zA HT).bw A6) hk t0 t1 (by omega) (by omega)).mono ?_;rintro r w2 ⟨u2,rfl,JN,CK,j7⟩;rw[zA a3,zA a4] at CK;clear JN;have o9:=zB A6 j7;replace oI:=oI.bw j7;have l2A:=Zd lA o9.size;have l2G:=Zd lG o9.size;obtain⟨a0,a1,a2,a3,a4⟩:=(zA HA).bw o9;obtain⟨g0,g1,g2,g3,g4⟩:=(zA HG).bw o9;have fA2:∀ o,w2.frozen? ⟨w.heap.size,o,none⟩=false:=(λ o=>(o9.frozen (p:=⟨w.heap.size,o,none⟩) lA).trans (FA o));have fG2:∀ o,w2.frozen? ⟨w.heap.size+1,o,none⟩=false:=(λ o=>(o9.frozen (p:=⟨w.heap.size+1,o,none⟩) lG).trans (FG o)))
    | (go_at_call 52;refine (zGF _ s k (s.bits) lo hi ((zA HS).bw (by repeat' (first|with_reducible exact Below.refl _ _|with_reducible refine Below.drew ?_))) hk s0 s1 (by omega) (by omega)).mono ?_;rintro r w1 ⟨u1,rfl,JM,oI,b9⟩;rw[zA a1,zA a2] at oI;clear JM;have A6:Below W.heap.size W w1:=zB (by repeat' (first|with_reducible exact Below.refl _ _|with_reducible refine Below.drew ?_)) b9;obtain⟨b0,b1,b2,b3,b4⟩:=(zA HA).bw A6;obtain⟨d0,d1,d2,d3,d4⟩:=(zA HG).bw A6;have l1A:=Zd lA A6.size;have l1G:=Zd lG A6.size))
  all_goals
   go_wp2_with fail;go_meet;have A2:SpC w2 w.heap.size s:=⟨a0,a1,a2,a3,a4⟩;have G2:SpC w2 (w.heap.size+1) t:=⟨g0,g1,g2,g3,g4⟩;obtain⟨p1,p2,p3,p4⟩:=two_sp A2 G2 nAG u1 u2;exact⟨u1,u2,p1,p2,p3 oI,p3 CK,jS (jS (zB j8 o9) (Zb _) _ _ _ _ _) (Nat.le_succ _) _ _ _ _ _⟩
 case rest =>
 obtain⟨s2,t2,A,G,hs,ht,j8⟩:=hcut;clear HA HG HS HT lA lG x0 x1 x2 x3 x4 y0 y1 y2 y3 y4 FA FG;have lA:=A.lt;have lG:=G.lt
 by_cases hq:lo*Q i<=hi'*Q j
 ·have c1:zN (lo*Q i) (hi'*Q j)<=0:=by unfold zN;split;omega;rw[if_neg (by omega)];omega
  have HE:=zC (show decide (zN (lo'*Q j) (hi*Q i)<=0)=touB lo hi i lo' hi' j by rw[zLN];unfold touB;rw[decide_eq_true hq,Bool.true_and])
  obtain⟨x0,x1,x2,x3,x4⟩:=A;obtain⟨y0,y1,y2,y3,y4⟩:=G;clear hq;go_wp2_with fail;refine (jY _ _ _ _ _ _ _ _ (k+62505) (k+62505) (lo*Q i) (hi'*Q j) _ hs.lo ht.hi).mono ?_;rintro r w1 ⟨rfl,b9⟩;have A:=(SpC.mk x0 x1 x2 x3 x4).bw b9;have G:=(SpC.mk y0 y1 y2 y3 y4).bw b9;replace hs:=hs.bw b9;replace ht:=ht.bw b9;replace j8:=zB j8 b9;clear x0 x1 x2 x3 x4 y0 y1 y2 y3 y4 b9;obtain⟨x0,x1,x2,x3,x4⟩:=A;obtain⟨y0,y1,y2,y3,y4⟩:=G;go_wp2_with fail;refine (jY _ _ _ _ _ _ _ _ (k+62505) (k+62505) (lo'*Q j) (hi*Q i) _ ht.lo hs.hi).mono ?_;rintro r w2 ⟨rfl,j7⟩;replace j8:=zB j8 j7;go_wp2_with fail
  go_ret
  exact⟨by rw[<- zA HE];rfl,j8⟩
 ·have c1:¬ zN (lo*Q i) (hi'*Q j)<=0:=by unfold zN;rw[if_neg (by omega),if_pos (by omega)];omega
  have HE:=zC (show touB lo hi i lo' hi' j=false by unfold touB;rw[decide_eq_false hq,Bool.false_and])
  obtain⟨x0,x1,x2,x3,x4⟩:=A;obtain⟨y0,y1,y2,y3,y4⟩:=G;clear hq;go_wp2_with fail;refine (jY _ _ _ _ _ _ _ _ (k+62505) (k+62505) (lo*Q i) (hi'*Q j) _ hs.lo ht.hi).mono ?_;rintro r w1 ⟨rfl,b9⟩;replace j8:=zB j8 b9;go_wp2_with fail
  go_ret
  exact⟨by rw[zA HE];rfl,j8⟩
open Ex in
theorem sure_exp {b Kw ee:Nat} {x:Nat->Rat} {L H:Int} (h:zAI b (zLA x Kw ee) L H):Iv b (L,H) (Ev x)/\L<=H/\zIW L H (Q b) 4=true /\ -Q (b+ee)<=L/\H<=Q (b+ee):=by
 obtain⟨m,lo,hi,⟨h1,h2,h3,h4,h5⟩,hm,e1,e2,h6⟩:=h;have h7:=zFS (m:=m) h2 h3;have h8:L<=H:=by rw[e1,e2];omega
 have q:=zE m;have e3:Q (b+m+ee)=Q (b+ee)*Q m:=by rw[<- jD];congr 1;omega
 rw[e3] at h4 h5;have r1:=jJ (x:=lo) (m:=Q (b+ee)) (q:=Q m) (by omega) (by omega) (by omega)
 have r2:=jJ (x:=hi) (m:=Q (b+ee)) (q:=Q m) (by omega) (by omega) (by omega)
 refine⟨?_,h8,?_,by rw[e1];exact r1.1,by rw[e2];exact r2.2.2.2⟩
 ·have:=Iv.to (B:=b) (m:=m) h1
  rw[e1,e2];exact this
 ·rcases h6 with h6|h6
  ·exact zDI h8 (by omega)
  ·exact h6
open Ex in
theorem sure_log {b:Nat} {p q:Int} {L H:Int} (h:zAI b (zGS b p q) L H):(∃ l,IsLog l (λ _=>(p:Rat)/(q:Rat))/\Iv b (L,H) l)/\L<=H/\zIW L H (Q b) 4=true /\ -P 200<=L/\H<=P 200:=by
 obtain⟨m,lo,hi,⟨⟨l,h0,h1⟩,h2,h3,h4,h5⟩,hm,e1,e2,h6⟩:=h;have h7:=zFS (m:=m) h2 h3;have h8:L<=H:=by rw[e1,e2];omega
 have q:=zE m;rw[show b+m-b=m by omega] at h4 h5
 have r1:=jJ (x:=lo) (m:=P 200) (q:=Q m) (by omega) (by omega) (by omega)
 have r2:=jJ (x:=hi) (m:=P 200) (q:=Q m) (by omega) (by omega) (by omega)
 refine⟨⟨l,h0,?_⟩,h8,?_,by rw[e1];exact r1.1,by rw[e2];exact r2.2.2.2⟩
 ·have:=Iv.to (B:=b) (m:=m) h1
  rw[e1,e2];exact this
 ·rcases h6 with h6|h6
  ·exact zDI h8 (by omega)
  ·exact h6
theorem zIC (B:Nat) (z:Int):Iv B (z,z) (λ _=>(z:Rat)/(Q B:Rat)):=Ex.Has.const Rat.le_refl Rat.le_refl
theorem zQS {L H:Int} (h:Iv 20 (L,H) (Ex.Ev (λ _=>((0:Int):Rat)/((1:Int):Rat)))) (hn:zIW L H (Q 20) 4=true) (hle:L<=H):0<L:=by
 have e0:((0:Int):Rat)/((1:Int):Rat)=0:=by
  rw[Rat.div_def];exact Rat.zero_mul _
 rw[e0] at h
 have h1:Iv 20 (L,H) (λ _=>(Q 20:Rat)/(Q 20:Rat)):=by
  refine h.congr (Ex.null_zero.of_eq_from 1 λ M hM=>?_)
  obtain⟨m,rfl⟩:∃ m,M=m+1:=⟨M-1,by omega⟩
  have q:=jM 20;have e1:(Q 20:Rat)/(Q 20:Rat)=1:=by rw[Rat.div_def,Rat.mul_inv_cancel _ (by grind)]
  show (Q 20:Rat)/(Q 20:Rat)-Ex.E 0 (m+1)=0
  rw[e1,Ex.E_zero];grind
 have t:=(zIC 20 (Q 20)).touch h1;have wB:Q 20=1048576:=rfl;rw[wB] at t hn;simp only[] at t;unfold zIW at hn;rw[decide_eq_true_iff] at hn;refine Int.not_le.1 λ hL=>?_
 have hm:zGA H (-L)<=H-L:=by unfold zGA;split<;>omega
 omega
theorem zQT {L H:Int} (h:∃ l,Ex.IsLog l (λ _=>((1:Int):Rat)/((1:Int):Rat))/\Iv 20 (L,H) l):L<=0/\0<=H:=by
 obtain⟨l,h1,h2⟩:=h;have e0:(λ _:Nat=>((1:Int):Rat)/((1:Int):Rat))=λ _=>(1:Rat):=funext λ _=>by rw[Rat.div_def];exact Rat.mul_inv_cancel _ (by decide)
 rw[e0] at h1;have hn:=h1.uniq Ex.isLog_one
 have h3:Iv 20 (L,H) (λ _=>((0:Int):Rat)/(Q 20:Rat)):=by
  refine h2.congr (hn.neg.of_eq λ M=>?_)
  have e1:((0:Int):Rat)/(Q 20:Rat)=0:=by rw[Rat.div_def];exact Rat.zero_mul _
  rw[e1];grind
 have t1:=(zIC 20 0).touch h3;have t2:=h3.touch (zIC 20 0);have wB:Q 20=1048576:=rfl;rw[wB] at t1 t2;simp only[] at t1 t2;omega
theorem cmp_pos {x:Int} (h:0<x):0<zN x 0:=by unfold zN;rw[if_neg (by omega),if_pos (by omega)];omega
theorem cmp_npos {x:Int} (h:x<=0):zN x 0<=0:=by unfold zN;split<;>(try split)<;>omega
theorem cmp_nneg {x:Int} (h:0<=x):0<=zN x 0:=by unfold zN;rw[if_neg (by omega)];split<;>omega
end Go.Proofs.YtgmnknmjainabacGreat
