/-
  Its own texts.
-/
import Derived.Test.YtgmnknmjainabacGreatJ11
set_option maxRecDepth 100000
set_option maxHeartbeats 40000000
set_option linter.unnecessarySimpa false
set_option linter.unusedSimpArgs false
set_option linter.unusedVariables false
namespace Go.Proofs.YtgmnknmjainabacGreat
open Go.RowKit
attribute [local go_sem ↓] Go.wp_at_zero Go.wp_at_succ
def BalAns (w:World) (k:Nat) (n d:Int) (r:Ending) (w':World):Prop :=
 ∃ (X Y:Nm) (n' d' c:Int),r=.returned (.tuple #[.agg X.q,.agg Y.q,.int .i64 c])/\Bal n d n' d' c /\ -(16*k+1)<=c/\c<=16*k+1/\IntAt w' X.neg X.a X.n X.cap (k+k+20) n'/\IntAt w' Y.neg Y.a Y.n Y.cap (k+k+20) d'/\Below w.heap.size w w'
theorem bal_near {n d:Int} {L L':Nat} (h1:Q L<=n) (h2:n<Q (L+1)) (h3:Q L'<=d) (h4:d<Q (L'+1)) (a b:Nat) (fT:L+a=L'+b):n*Q a<2*(d*Q b)/\d*Q b<2*(n*Q a):=by
 have qa:=zF a;have qb:=zF b;have e1:Q L*Q a=Q L'*Q b:=by rw[<- jI,<- jI,fT]
 have e2:Q (L+1)=2*Q L:=rfl;have e3:Q (L'+1)=2*Q L':=rfl;have g1:=Yg h1 (show 0<=Q a by omega)
 have g2:=Int.mul_lt_mul_of_pos_right h2 (show 0<Q a by omega)
 have g3:=Yg h3 (show 0<=Q b by omega)
 have g4:=Int.mul_lt_mul_of_pos_right h4 (show 0<Q b by omega)
 rw[e2,Int.mul_assoc] at g2;rw[e3,Int.mul_assoc] at g4;omega
theorem bal_a {n d n1 d1 c:Int} (hn:0<n1) (hd:0<d1) (h1:0<=c->n*d1=n1*d*Q c.toNat) (h2:c<0->n*d1*Q (-c).toNat=n1*d) (g1:n1<2*d1) (g2:d1<2*n1) (hc:d1*3<n1*2):Bal n d n1 (d1*2) (c+1):=by
 refine⟨⟨hn,by omega,by omega,by omega⟩,λ h=>?_,λ h=>?_⟩
 ·by_cases h0:0<=c
  ·have e:=h1 h0
   have:(c+1).toNat=c.toNat+1:=by omega
   rw[this];have e2:Q (c.toNat+1)=2*Q c.toNat:=rfl;rw[e2];have:n*(d1*2)=2*(n*d1):=by grind
   rw[this,e];grind
  ·have hc:c = -1:=by omega
   have e:=h2 (by omega)
   subst hc;have e3:Q (-(-1:Int)).toNat=2:=rfl;rw[e3] at e;have e4:Q ((-1:Int)+1).toNat=1:=rfl;rw[e4];have:n*(d1*2)=n*d1*2:=by grind
   rw[this,e];grind
 ·have e:=h2 (by omega)
  have:(-c).toNat=(-(c+1)).toNat+1:=by omega
  rw[this] at e;have e2:Q ((-(c+1)).toNat+1)=2*Q (-(c+1)).toNat:=rfl;rw[e2] at e;rw[<- e];grind
theorem bal_b {n d n1 d1 c:Int} (hn:0<n1) (hd:0<d1) (h1:0<=c->n*d1=n1*d*Q c.toNat) (h2:c<0->n*d1*Q (-c).toNat=n1*d) (g1:n1<2*d1) (g2:d1<2*n1) (hc:n1*4<d1*3):Bal n d (n1*2) d1 (c-1):=by
 refine⟨⟨by omega,hd,by omega,by omega⟩,λ h=>?_,λ h=>?_⟩
 ·have e:=h1 (by omega)
  have:c.toNat=(c-1).toNat+1:=by omega
  rw[this] at e;have e2:Q ((c-1).toNat+1)=2*Q (c-1).toNat:=rfl;rw[e2] at e;rw[e];grind
 ·by_cases h0:0<=c
  ·have hc:c=0:=by omega
   have e:=h1 h0;subst hc;have e3:Q ((0:Int)).toNat=1:=rfl;rw[e3] at e;have e4:Q (-((0:Int)-1)).toNat=2:=rfl;rw[e4,e];grind
  ·have e:=h2 (by omega)
   have:(-(c-1)).toNat=(-c).toNat+1:=by omega
   rw[this];have e2:Q ((-c).toNat+1)=2*Q (-c).toNat:=rfl;rw[e2];have:n*d1*(2*Q (-c).toNat)=2*(n*d1*Q (-c).toNat):=by grind
   rw[this,e];grind
theorem bal_c {n d n1 d1 c:Int} (hn:0<n1) (hd:0<d1) (h1:0<=c->n*d1=n1*d*Q c.toNat) (h2:c<0->n*d1*Q (-c).toNat=n1*d) (hc:¬ d1*3<n1*2) (o9:¬ n1*4<d1*3):Bal n d n1 d1 c :=
 ⟨⟨hn,hd,by omega,by omega⟩,h1,h2⟩
theorem zPY {w:World} {neg:Bool} {a:Option Addr} {n cap k:Nat} {z:Int} {L:Nat} (h:IntAt w neg a n cap k z) (hL:Q L<=z) (hz:0<=z):L<16*k+1:=by
 obtain⟨d,h1,h2,h3,h4,h5⟩:=h;have hV:=zGX h1.dgs n;have hV0:=jD h1.dgs n;have hP:=zBD h4;have eP:=Q_P k
 have K6:z<Q (16*k):=by
  cases neg
  ·simp[sgn] at h5;omega
  ·simp[sgn] at h5;have:=zF (16*k);omega
 refine Nat.lt_of_not_le λ h=>?_
 have:=zK (show 16*k<=L by omega)
 omega
theorem zF2 (neg:Bool) (a:Option Addr) (n cap:Nat) (κ:Int) (A k1:Nat) (x:Int) (w:World) (hκ:κ=(A:Int)) (h1:IntAt w neg a n cap k1 x) (V5:k1<=1000000000) (hk:A<=1000000000) :
  Calls Tryz.prog 116 #[.agg #[.bool neg,.slice a n cap],.int .i64 κ] w (zEO w (A/16+k1+1) (x*Q A)):=by
 subst hκ;exact zB2 neg a n cap A k1 x w h1 V5 hk
theorem zJQ {w wc w2:World} {x y:Nm} {K:Nat} {z1 z2:Int} (hD:Below wc.heap.size wc w2) (hx:NmC w2 w.heap.size x) (hy:NmC w2 (w.heap.size+1) y) (X Y:Nm) (iX:IntAt w2 X.neg X.a X.n X.cap K z1) (iY:IntAt w2 Y.neg Y.a Y.n Y.cap K z2) (R:NoI wc (w.heap.size+1+1)) (R2:NoI wc (w.heap.size+1+1+1)) (hB:Below w.heap.size w wc) :
  ∃ X' Y':Nm,NmC ((((w2.setCell ⟨w.heap.size,0,none⟩ (.bool X.neg)).setCell ⟨w.heap.size,1,none⟩ (.slice X.a X.n X.cap)).setCell ⟨w.heap.size+1,0,none⟩ (.bool Y.neg)).setCell ⟨w.heap.size+1,1,none⟩ (.slice Y.a Y.n Y.cap)) w.heap.size X'/\NmC ((((w2.setCell ⟨w.heap.size,0,none⟩ (.bool X.neg)).setCell ⟨w.heap.size,1,none⟩ (.slice X.a X.n X.cap)).setCell ⟨w.heap.size+1,0,none⟩ (.bool Y.neg)).setCell ⟨w.heap.size+1,1,none⟩ (.slice Y.a Y.n Y.cap)) (w.heap.size+1) Y'/\IntAt ((((w2.setCell ⟨w.heap.size,0,none⟩ (.bool X.neg)).setCell ⟨w.heap.size,1,none⟩ (.slice X.a X.n X.cap)).setCell ⟨w.heap.size+1,0,none⟩ (.bool Y.neg)).setCell ⟨w.heap.size+1,1,none⟩ (.slice Y.a Y.n Y.cap)) X'.neg X'.a X'.n X'.cap K z1/\IntAt ((((w2.setCell ⟨w.heap.size,0,none⟩ (.bool X.neg)).setCell ⟨w.heap.size,1,none⟩ (.slice X.a X.n X.cap)).setCell ⟨w.heap.size+1,0,none⟩ (.bool Y.neg)).setCell ⟨w.heap.size+1,1,none⟩ (.slice Y.a Y.n Y.cap)) Y'.neg Y'.a Y'.n Y'.cap K z2/\NoI ((((w2.setCell ⟨w.heap.size,0,none⟩ (.bool X.neg)).setCell ⟨w.heap.size,1,none⟩ (.slice X.a X.n X.cap)).setCell ⟨w.heap.size+1,0,none⟩ (.bool Y.neg)).setCell ⟨w.heap.size+1,1,none⟩ (.slice Y.a Y.n Y.cap)) (w.heap.size+1+1)/\NoI ((((w2.setCell ⟨w.heap.size,0,none⟩ (.bool X.neg)).setCell ⟨w.heap.size,1,none⟩ (.slice X.a X.n X.cap)).setCell ⟨w.heap.size+1,0,none⟩ (.bool Y.neg)).setCell ⟨w.heap.size+1,1,none⟩ (.slice Y.a Y.n Y.cap)) (w.heap.size+1+1+1)/\Below w.heap.size w ((((w2.setCell ⟨w.heap.size,0,none⟩ (.bool X.neg)).setCell ⟨w.heap.size,1,none⟩ (.slice X.a X.n X.cap)).setCell ⟨w.heap.size+1,0,none⟩ (.bool Y.neg)).setCell ⟨w.heap.size+1,1,none⟩ (.slice Y.a Y.n Y.cap)):=by
 have fg:=hy.off (B':=w.heap.size) (by omega) (.bool X.neg) (.slice X.a X.n X.cap)
 have cn:=zCZ hx X;have i1:=iX.put2 hx.c0 hx.c1 (.bool X.neg) (.slice X.a X.n X.cap);have i2:=iY.put2 hx.c0 hx.c1 (.bool X.neg) (.slice X.a X.n X.cap);have r1:=(R.bw hD).off (B':=w.heap.size) (by omega) (.bool X.neg) (.slice X.a X.n X.cap)
 have r2:=(R2.bw hD).off (B':=w.heap.size) (by omega) (.bool X.neg) (.slice X.a X.n X.cap)
 have b1:=zFZ (zB hB hD) (Yj _) (.bool X.neg) (.slice X.a X.n X.cap);generalize (w2.setCell ⟨w.heap.size,0,none⟩ (.bool X.neg)).setCell ⟨w.heap.size,1,none⟩ (.slice X.a X.n X.cap)=V at *;exact⟨X,Y,cn.off (by omega) _ _,zCZ fg Y,i1.put2 fg.c0 fg.c1 _ _,i2.put2 fg.c0 fg.c1 _ _,r1.off (by omega) _ _,r2.off (by omega) _ _,zFZ b1 (Nat.le_succ _) _ _⟩
theorem cmp_gtB (x y:Int):decide (0<zP x y)=decide (y<x):=by
 unfold zP
 by_cases h1:x<y
 ·have:¬ y<x:=by omega
  simp[h1,this]
 ·by_cases h2:y<x
  ·simp[h1,h2]
  ·simp[h1,h2]
theorem cmp_ltB (x y:Int):decide (zP x y<0)=decide (x<y):=by
 unfold zP
 by_cases h1:x<y
 ·simp[h1]
 ·by_cases h2:y<x
  ·simp[h1,h2]
  ·simp[h1,h2]
theorem zJP {w w1:World} {X Y:Nm} {K:Nat} {z1 z2:Int} (R:NoI w1 (w.heap.size+1+1)) (R2:NoI w1 (w.heap.size+1+1+1)) (iX:IntAt w1 X.neg X.a X.n X.cap K z1) (iY:IntAt w1 Y.neg Y.a Y.n Y.cap K z2) (hB:Below w.heap.size w w1) :
  IntAt ((((w1.setCell ⟨w.heap.size+1+1,0,none⟩ (.bool X.neg)).setCell ⟨w.heap.size+1+1,1,none⟩ (.slice X.a X.n X.cap)).setCell ⟨w.heap.size+1+1+1,0,none⟩ (.bool Y.neg)).setCell ⟨w.heap.size+1+1+1,1,none⟩ (.slice Y.a Y.n Y.cap)) X.neg X.a X.n X.cap K z1/\IntAt ((((w1.setCell ⟨w.heap.size+1+1,0,none⟩ (.bool X.neg)).setCell ⟨w.heap.size+1+1,1,none⟩ (.slice X.a X.n X.cap)).setCell ⟨w.heap.size+1+1+1,0,none⟩ (.bool Y.neg)).setCell ⟨w.heap.size+1+1+1,1,none⟩ (.slice Y.a Y.n Y.cap)) Y.neg Y.a Y.n Y.cap K z2/\Below w.heap.size w ((((w1.setCell ⟨w.heap.size+1+1,0,none⟩ (.bool X.neg)).setCell ⟨w.heap.size+1+1,1,none⟩ (.slice X.a X.n X.cap)).setCell ⟨w.heap.size+1+1+1,0,none⟩ (.bool Y.neg)).setCell ⟨w.heap.size+1+1+1,1,none⟩ (.slice Y.a Y.n Y.cap)):=by
 have r2:=R2.off (B':=w.heap.size+1+1) (by omega) (.bool X.neg) (.slice X.a X.n X.cap)
 have i1:=iX.put2 R.c0 R.c1 (.bool X.neg) (.slice X.a X.n X.cap);have i2:=iY.put2 R.c0 R.c1 (.bool X.neg) (.slice X.a X.n X.cap);have b1:=zFZ hB (show w.heap.size<=w.heap.size+1+1 by omega) (.bool X.neg) (.slice X.a X.n X.cap)
 generalize (w1.setCell ⟨w.heap.size+1+1,0,none⟩ (.bool X.neg)).setCell ⟨w.heap.size+1+1,1,none⟩ (.slice X.a X.n X.cap)=V at *;exact⟨i1.put2 r2.c0 r2.c1 _ _,i2.put2 r2.c0 r2.c1 _ _,zFZ b1 (by omega) _ _⟩
theorem zH6 (w:World) (x y:Nm) (k:Nat) (n d:Int) (hx:IntAt w x.neg x.a x.n x.cap k n) (hy:IntAt w y.neg y.a y.n y.cap k d) (hn:0<n) (hd:0<d) (hk:k<=1000000) :
  Calls Tryz.prog 154 #[.agg x.q,.agg y.q] w (BalAns w k n d):=by
 obtain⟨W,hW⟩:∃ W,W=(((w.alloc (.cells x.q 29)).alloc (.cells y.q 29)).alloc (.cells #[.bool false,.slice none 0 0] 29)).alloc (.cells #[.bool false,.slice none 0 0] 29):=⟨_,rfl⟩;have j6:Below w.heap.size w W:=by rw[hW];exact bl4 _ _ _ _ _
 have X:NmC W w.heap.size x:=by rw[hW];constructor<;>simp[go_sem]
 have FX:∀ o,W.frozen? ⟨w.heap.size,o,none⟩=false:=by rw[hW];intro o;simp[go_sem]
 have Y:NmC W (w.heap.size+1) y:=by rw[hW];constructor<;>simp[go_sem]
 have FY:∀ o,W.frozen? ⟨w.heap.size+1,o,none⟩=false:=by rw[hW];intro o;simp[go_sem]
 have R:NoI W (w.heap.size+1+1):=by rw[hW];constructor<;>simp[go_sem]
 have R2:NoI W (w.heap.size+1+1+1):=by rw[hW];constructor<;>simp[go_sem]
 have HX:=zC (hx.bw j6);have HY:=zC (hy.bw j6);have lX:=X.lt;have lY:=Y.lt;have lR:=R.lt;have W5:=R2.lt;have HK:=zC (show ∀ w',Below W.heap.size W w'->(nK w' w.heap.size x (nK0 w' (w.heap.size+1) y)) from λ w' hB=>⟨(X.bw hB).c0,(X.bw hB).c1,(Y.bw hB).c0,(Y.bw hB).c1⟩)
 go_enter Tryz.func154,Tryz.ntmps154
 go_wp2;rw[<- hW];clear hW hx hy;obtain⟨x0,x1,x2,x3⟩:=zA HK _ (Below.refl _ _);have D8:Below W.heap.size W W.drew:=(Below.refl _ _).drew
 go_cut [7] (λ p wx=>∃ (L L':Nat) (D:Int),p=.int .i64 D/\D=(L:Int)-(L':Int)/\Q L<=n/\n<Q (L+1)/\Q L'<=d/\d<Q (L'+1)/\L<16*k+1/\L'<16*k+1/\Below W.heap.size W wx)
 case first =>
  go_region_held3 (λ w'=>nK w' w.heap.size x (nK0 w' (w.heap.size+1) y)) (first|exact zA HK _ (by with_reducible first|exact D8|exact A6|exact y9)|(dsimp only[cK,cK0,nK,nK0,rK,rK0];go_keep)|go_keep)
   (first
    | (go_at_call 98;have hq:=y9;refine (zDL _ _ _ _ _ d _ ((zA HY).bw y9) (by omega)).mono ?_;rintro r' w2 ⟨l2,AK,rfl,j5⟩;have A6:=zB y9 j5)
    | (go_at_call 98;refine (zDL _ _ _ _ _ n _ ((zA HX).bw D8) (by omega)).mono ?_;rintro r' w1 ⟨l1,AJ,rfl,b9⟩;have y9:=zB D8 b9))
  all_goals
   obtain⟨L,e1,e2,e3⟩:=AJ.2.2 hn;obtain⟨L',f1,f2,f3⟩:=AK.2.2 hd;have hL:=zPY (zA HX) e2 (by omega)
   have FI:=zPY (zA HY) f2 (by omega)
   have HE:=zC e1;have HF:=zC f1;clear e1 f1;go_wp2_with fail;go_meet;exact⟨L,L',_,rfl,(by rw[jC _ (by have:=zA HE;have:=zA HF;omega) (by have:=zA HE;have:=zA HF;omega)];have:=zA HE;have:=zA HF;omega),e2,e3,f2,f3,hL,FI,A6⟩
 case rest =>
 obtain⟨L,L',D,rfl,hD,e2,e3,f2,f3,hL,FI,E6⟩:=hcut;have J8:=bal_near e2 e3 f2 f3;have xk:=zC J8;clear J8 e2 e3 f2 f3 x0 x1 x2 x3 D8;replace X:=X.bw E6;replace Y:=Y.bw E6;replace R:=R.bw E6;replace R2:=R2.bw E6;have Ee:∀ o,wc.frozen? ⟨w.heap.size,o,none⟩=false:=λ o=>(E6.frozen (p:=⟨w.heap.size,o,none⟩) lX).trans (FX o)
 have Ef:∀ o,wc.frozen? ⟨w.heap.size+1,o,none⟩=false:=λ o=>(E6.frozen (p:=⟨w.heap.size+1,o,none⟩) lY).trans (FY o)
 replace HX:=zC ((zA HX).bw E6);replace HY:=zC ((zA HY).bw E6);replace j6:=zB j6 E6;clear HK lX lY lR W5 FX FY E6;have lX:=X.lt;have lY:=Y.lt;have lR:=R.lt;have W5:=R2.lt;obtain⟨A,hA⟩:∃ A:Nat,(A:Int)=max 0 (-D):=⟨(max 0 (-D)).toNat,by omega⟩
 obtain⟨C,hC⟩:∃ C:Nat,(C:Int)=max 0 D:=⟨(max 0 D).toNat,by omega⟩
 have hwD:IntKind.i64.wrap (-D) = -D:=jC _ (by omega) (by omega)
 have Nc:D<=16*k /\ -(16*k)<=D:=by omega
 have J8:=zA xk A C (by omega)
 have HA:=zC hA;have HC:=zC hC;have HD:=zC hD;have HW:=zC hwD;have LO:=zC Nc;have hAk:A<=16*k:=by omega
 have hCk:C<=16*k:=by omega
 have LK:=zC J8;clear hA hC hD hwD Nc xk hL FI J8;go_wp2_with fail
 go_cut [7] (λ p wx=>p=.int .i64 D/\∃ X Y:Nm,NmC wx w.heap.size X/\NmC wx (w.heap.size+1) Y/\IntAt wx X.neg X.a X.n X.cap (k+k+10) (n*Q A)/\IntAt wx Y.neg Y.a Y.n Y.cap (k+k+10) (d*Q C)/\NoI wx (w.heap.size+1+1)/\NoI wx (w.heap.size+1+1+1)/\Below w.heap.size w wx)
 case first =>
  have bg:=zC X;have bh:=zC Y;obtain⟨x0,x1⟩:=X;obtain⟨y0,y1⟩:=Y;have EM:=zC (show (if 0<IntKind.i64.wrap (-D) then IntKind.i64.wrap (-D) else 0)=(A:Int) by rw[zA HW];have:=zA HA;split<;>omega)
  have EN:=zC (show (if 0<D then D else 0)=(C:Int) by have:=zA HC;split<;>omega)
  by_cases d1:0<D
  ·have d2:IntKind.i64.wrap (-D)<=0:=by rw[zA HW];omega
   have gC:=zC (show (0:Int)=(A:Int) by have:=zA HA;omega)
   have gD:=zC (show D=(C:Int) by have:=zA HC;omega)
   go_region_with
    (first
     | (go_at_call 116;have hq:=y9;(with_reducible refine (zF2 _ _ _ _ _ C k d _ (by with_reducible first|exact zA gD|exact zA EN) ((zA HY).bw y9) (by omega) (by omega)).mono ?_);rintro r' w2 ⟨j7,a2,n2,c2,rfl,A8,j5⟩;have A6:=zB y9 j5;have Oz:=Yn lX A6.size;have OA:=Yn lY A6.size;replace s9:=s9.bw j5;obtain⟨x4,x5⟩:=(zA bg).bw A6;obtain⟨y4,y5⟩:=(zA bh).bw A6;have F2:∀ o,w2.frozen? ⟨w.heap.size,o,none⟩=false:=(λ o=>(A6.frozen (p:=⟨w.heap.size,o,none⟩) lX).trans (Ee o));have G2:∀ o,w2.frozen? ⟨w.heap.size+1,o,none⟩=false:=(λ o=>(A6.frozen (p:=⟨w.heap.size+1,o,none⟩) lY).trans (Ef o)))
     | (go_at_call 116;(with_reducible refine (zF2 _ _ _ _ _ A k n _ (by with_reducible first|exact zA gC|exact zA EM) ((zA HX).bw (Below.refl _ _).drew) (by omega) (by omega)).mono ?_);rintro r' w1 ⟨o7,a1,n1,c1,rfl,s9,b9⟩;have y9:Below wc.heap.size wc w1:=zB (Below.refl _ _).drew b9;obtain⟨y2,y3⟩:=(zA bh).bw y9;obtain⟨x2,x3⟩:=(zA bg).bw y9;have Ox:=Yn lX y9.size;have Oy:=Yn lY y9.size))
   all_goals
    go_wp2_with fail;go_meet;exact⟨rfl,zJQ A6 (NmC.mk x4 x5) (NmC.mk y4 y5) ⟨o7,a1,n1,c1⟩ ⟨j7,a2,n2,c2⟩ (s9.mono (by omega)) (A8.mono (by omega)) R R2 j6⟩
  ·by_cases d3:D<0
   ·have d2:0<IntKind.i64.wrap (-D):=by rw[zA HW];omega
    have d4:D<=0:=by omega
    have gC:=zC (show IntKind.i64.wrap (-D)=(A:Int) by rw[zA HW];have:=zA HA;omega)
    have gD:=zC (show (0:Int)=(C:Int) by have:=zA HC;omega)
    go_region_with
     (first
      | (go_at_call 116;have hq:=y9;(with_reducible refine (zF2 _ _ _ _ _ C k d _ (by with_reducible first|exact zA gD|exact zA EN) ((zA HY).bw y9) (by omega) (by omega)).mono ?_);rintro r' w2 ⟨j7,a2,n2,c2,rfl,A8,j5⟩;have A6:=zB y9 j5;have Oz:=Yn lX A6.size;have OA:=Yn lY A6.size;replace s9:=s9.bw j5;obtain⟨x4,x5⟩:=(zA bg).bw A6;obtain⟨y4,y5⟩:=(zA bh).bw A6;have F2:∀ o,w2.frozen? ⟨w.heap.size,o,none⟩=false:=(λ o=>(A6.frozen (p:=⟨w.heap.size,o,none⟩) lX).trans (Ee o));have G2:∀ o,w2.frozen? ⟨w.heap.size+1,o,none⟩=false:=(λ o=>(A6.frozen (p:=⟨w.heap.size+1,o,none⟩) lY).trans (Ef o)))
      | (go_at_call 116;(with_reducible refine (zF2 _ _ _ _ _ A k n _ (by with_reducible first|exact zA gC|exact zA EM) ((zA HX).bw (Below.refl _ _).drew) (by omega) (by omega)).mono ?_);rintro r' w1 ⟨o7,a1,n1,c1,rfl,s9,b9⟩;have y9:Below wc.heap.size wc w1:=zB (Below.refl _ _).drew b9;obtain⟨y2,y3⟩:=(zA bh).bw y9;obtain⟨x2,x3⟩:=(zA bg).bw y9;have Ox:=Yn lX y9.size;have Oy:=Yn lY y9.size))
    all_goals
     go_wp2_with fail;go_meet;exact⟨rfl,zJQ A6 (NmC.mk x4 x5) (NmC.mk y4 y5) ⟨o7,a1,n1,c1⟩ ⟨j7,a2,n2,c2⟩ (s9.mono (by omega)) (A8.mono (by omega)) R R2 j6⟩
   ·have d2:IntKind.i64.wrap (-D)<=0:=by rw[zA HW];omega
    have d4:D<=0:=by omega
    have gC:=zC (show (0:Int)=(A:Int) by have:=zA HA;omega)
    have gD:=zC (show (0:Int)=(C:Int) by have:=zA HC;omega)
    go_region_with
     (first
      | (go_at_call 116;have hq:=y9;(with_reducible refine (zF2 _ _ _ _ _ C k d _ (by with_reducible first|exact zA gD|exact zA EN) ((zA HY).bw y9) (by omega) (by omega)).mono ?_);rintro r' w2 ⟨j7,a2,n2,c2,rfl,A8,j5⟩;have A6:=zB y9 j5;have Oz:=Yn lX A6.size;have OA:=Yn lY A6.size;replace s9:=s9.bw j5;obtain⟨x4,x5⟩:=(zA bg).bw A6;obtain⟨y4,y5⟩:=(zA bh).bw A6;have F2:∀ o,w2.frozen? ⟨w.heap.size,o,none⟩=false:=(λ o=>(A6.frozen (p:=⟨w.heap.size,o,none⟩) lX).trans (Ee o));have G2:∀ o,w2.frozen? ⟨w.heap.size+1,o,none⟩=false:=(λ o=>(A6.frozen (p:=⟨w.heap.size+1,o,none⟩) lY).trans (Ef o)))
      | (go_at_call 116;(with_reducible refine (zF2 _ _ _ _ _ A k n _ (by with_reducible first|exact zA gC|exact zA EM) ((zA HX).bw (Below.refl _ _).drew) (by omega) (by omega)).mono ?_);rintro r' w1 ⟨o7,a1,n1,c1,rfl,s9,b9⟩;have y9:Below wc.heap.size wc w1:=zB (Below.refl _ _).drew b9;obtain⟨y2,y3⟩:=(zA bh).bw y9;obtain⟨x2,x3⟩:=(zA bg).bw y9;have Ox:=Yn lX y9.size;have Oy:=Yn lY y9.size))
    all_goals
     go_wp2_with fail;go_meet;exact⟨rfl,zJQ A6 (NmC.mk x4 x5) (NmC.mk y4 y5) ⟨o7,a1,n1,c1⟩ ⟨j7,a2,n2,c2⟩ (s9.mono (by omega)) (A8.mono (by omega)) R R2 j6⟩
 case rest =>
 obtain⟨rfl,X,Y,hX,hY,iX,iY,R,R2,j6⟩:=hcut;have TP:=zF A;have TQ:=zF C;have hnA:0<n*Q A:=Int.mul_pos hn (by omega)
 have hdC:0<d*Q C:=Int.mul_pos hd (by omega)
 obtain⟨N1,P1⟩:∃ N1,N1=n*Q A:=⟨_,rfl⟩;obtain⟨D1,y9⟩:∃ D1,D1=d*Q C:=⟨_,rfl⟩
 have NP:0<=D->n*D1=N1*d*Q D.toNat:=λ h=>by
  have e1:A=0:=by have:=zA HA;omega
  have e2:D.toNat=C:=by have:=zA HC;omega
  rw[P1,y9,e1,e2];simp only[Q];grind
 have P6:D<0->n*D1*Q (-D).toNat=N1*d:=λ h=>by
  have e1:C=0:=by have:=zA HC;omega
  have e2:(-D).toNat=A:=by have:=zA HA;omega
  rw[P1,y9,e1,e2];simp only[Q];grind
 have Ez:=zC NP;have EA:=zC P6;have Qw:=zA LO;have Cw:Hid (N1<2*D1/\D1<2*N1):=zC (by rw[P1,y9];exact zA LK)
 rw[<- P1] at iX hnA;rw[<- y9] at iY hdC;clear NP P6 HA HC HD HW LO TP TQ P1 y9 LK;have lT:=zC iX;have ma:=zC iY;have bg:=zC hX;have bh:=zC hY;have lX:=hX.lt;have lY:=hY.lt;have lR:=R.lt;have W5:=R2.lt;have HK:=zC (show ∀ w',Below wc.heap.size wc w'->(nK w' w.heap.size X (nK0 w' (w.heap.size+1) Y)) from λ w' hB=>⟨(hX.bw hB).c0,(hX.bw hB).c1,(hY.bw hB).c0,(hY.bw hB).c1⟩)
 clear iX iY hX hY;obtain⟨x0,x1,y0,y1⟩:=zA HK _ (Below.refl _ _);have D8:Below wc.heap.size wc wc.drew:=(Below.refl _ _).drew;go_wp2_with fail
 go_cut [22] (λ p wx=>p=.bool (decide (D1*3<N1*2))/\Below wc.heap.size wc wx)
 case first =>
  go_region_held3 (λ w'=>nK w' w.heap.size X (nK0 w' (w.heap.size+1) Y)) (first|exact zA HK _ (by with_reducible first|exact D8|exact J0|exact G6|exact A6|exact y9)|(dsimp only[cK,cK0,nK,nK0,rK,rK0];go_keep)|go_keep)
   (first
    | (go_at_call 17;have hq:=G6;refine (yS _ _ _ _ _ _ _ _ _ _ (N1*2) (D1*3) _ ((s9.bw j5).bw m8) E8).mono ?_;rintro r' w4 ⟨rfl,A5⟩;have J0:=zB G6 A5)
    | (go_at_call 83;have hq:=A6;refine (jA _ _ _ _ _ _ _ _ (k+k+10) 4 D1 3 _ ((zA ma).bw A6) A8 (by omega) (by omega)).mono ?_;rintro r' w3 ⟨C7,a3,n3,c3,rfl,E8,m8⟩;have G6:=zB A6 m8)
    | (go_at_call 33;have hq:=y9;refine (zE 3 _ (by decide) (by decide)).mono ?_;rintro r' w2 ⟨j7,a2,n2,c2,rfl,A8,j5⟩;have A6:=zB y9 j5)
    | (go_at_call 116;refine (zF2 _ _ _ _ _ 1 (k+k+10) N1 _ rfl ((zA lT).bw D8) (by omega) (by omega)).mono ?_;rintro r' w1 ⟨o7,a1,n1,c1,rfl,s9,b9⟩;have y9:=zB D8 b9))
  all_goals
   go_wp2_with fail;go_meet;exact⟨congrArg _ (cmp_gtB _ _),J0⟩
 case rest =>
 obtain⟨rfl,b9⟩:=hcut;have bg:=zC ((zA bg).bw b9);have bh:=zC ((zA bh).bw b9);have lT:=zC ((zA lT).bw b9);have ma:=zC ((zA ma).bw b9);replace R:=R.bw b9;replace R2:=R2.bw b9;replace j6:=zB j6 b9;have lX:=(zA bg).lt;have lY:=(zA bh).lt;have lR:=R.lt;have W5:=R2.lt;have HK:=zC (show ∀ w',Below wc.heap.size wc w'->(nK w' w.heap.size X (nK0 w' (w.heap.size+1) Y)) from λ w' hB=>⟨((zA bg).bw hB).c0,((zA bg).bw hB).c1,((zA bh).bw hB).c0,((zA bh).bw hB).c1⟩)
 clear x0 x1 y0 y1 D8;obtain⟨x0,x1,y0,y1⟩:=zA HK _ (Below.refl _ _);have D8:Below wc.heap.size wc wc.drew:=(Below.refl _ _).drew;have n1:w.heap.size≠w.heap.size+1+1:=by omega
 have n2:w.heap.size≠w.heap.size+1+1+1:=by omega
 have n3:w.heap.size+1≠w.heap.size+1+1:=by omega
 have n4:w.heap.size+1≠w.heap.size+1+1+1:=by omega
 have n5:w.heap.size+1+1≠w.heap.size+1+1+1:=by omega
 have n6:w.heap.size+1+1+1≠w.heap.size+1+1:=by omega
 have n7:w.heap.size+1+1≠w.heap.size:=by omega
 have n8:w.heap.size+1+1+1≠w.heap.size:=by omega
 have n9:w.heap.size+1+1≠w.heap.size+1:=by omega
 have Pf:w.heap.size+1+1+1≠w.heap.size+1:=by omega
 by_cases hc:D1*3<N1*2
 ·have HR:Hid (Bal n d N1 (D1*2) (D+1)):=zC (by
   exact bal_a hnA hdC (zA Ez) (zA EA) (zA Cw).1 (zA Cw).2 hc)
  have ki:=zC (show IntKind.i64.wrap (D+1)=D+1 from jC _ (by omega) (by omega))
  have Hc:=zC hc;go_wp2_with fail
  go_region_held3 (λ w'=>nK w' w.heap.size X (nK0 w' (w.heap.size+1) Y)) (first|exact zA HK _ (by with_reducible first|exact D8|exact y9)|(dsimp only[cK,cK0,nK,nK0,rK,rK0];go_keep)|go_keep)
   (first
    | (go_at_call 116;refine (zF2 _ _ _ _ _ 1 (k+k+10) D1 _ rfl ((zA ma).bw D8) (by omega) (by omega)).mono ?_;rintro r' w1 ⟨o7,a1,lv,c1,rfl,s9,b9⟩;have y9:=zB D8 b9;obtain⟨q0,q1,q2⟩:=R.bw y9;obtain⟨p0,p1,p2⟩:=R2.bw y9;obtain⟨z0,z1,z2,z3⟩:=zA HK _ y9))
  all_goals
   have HE:=zJP (w:=w) (K:=k+k+20) (R.bw y9) (R2.bw y9) (X:=X) (Y:=⟨o7,a1,lv,c1⟩) (((zA lT).bw y9).mono (by omega)) (s9.mono (by omega)) (zB j6 y9)
   go_wp2_with fail;refine bodyPost_ret (v:=.tuple #[.agg X.q,.agg #[.bool o7,.slice a1 lv c1],.int .i64 (IntKind.i64.wrap (D+1))]) (by simp[results,Tryz.results154,go_sem,q0,q1,p0,p1,n5,n6]) rfl ⟨X,⟨o7,a1,lv,c1⟩,N1,(D1*2),_,rfl,by rw[zA ki];exact zA HR,by rw[zA ki];omega,by rw[zA ki];omega,HE.1,HE.2.1,HE.2.2⟩
 ·have Hc:=zC hc
  go_wp2_with fail
  go_cut [35] (λ p wx=>p=.bool (decide (N1*4<D1*3))/\Below wc.heap.size wc wx)
  case first =>
   go_region_held3 (λ w'=>nK w' w.heap.size X (nK0 w' (w.heap.size+1) Y)) (first|exact zA HK _ (by with_reducible first|exact D8|exact J0|exact G6|exact A6|exact y9)|(dsimp only[cK,cK0,nK,nK0,rK,rK0];go_keep)|go_keep)
    (first
     | (go_at_call 17;have hq:=G6;refine (yS _ _ _ _ _ _ _ _ _ _ (N1*4) (D1*3) _ ((s9.bw j5).bw m8) E8).mono ?_;rintro r' w4 ⟨rfl,A5⟩;have J0:=zB G6 A5)
     | (go_at_call 83;have hq:=A6;refine (jA _ _ _ _ _ _ _ _ (k+k+10) 4 D1 3 _ ((zA ma).bw A6) A8 (by omega) (by omega)).mono ?_;rintro r' w3 ⟨C7,a3,n3,c3,rfl,E8,m8⟩;have G6:=zB A6 m8)
     | (go_at_call 33;have hq:=y9;refine (zE 3 _ (by decide) (by decide)).mono ?_;rintro r' w2 ⟨j7,a2,n2,c2,rfl,A8,j5⟩;have A6:=zB y9 j5)
     | (go_at_call 116;refine (zF2 _ _ _ _ _ 2 (k+k+10) N1 _ rfl ((zA lT).bw D8) (by omega) (by omega)).mono ?_;rintro r' w1 ⟨o7,a1,n1,c1,rfl,s9,b9⟩;have y9:=zB D8 b9))
   all_goals
    go_wp2_with fail;go_meet;exact⟨congrArg _ (cmp_ltB _ _),J0⟩
  case rest =>
  obtain⟨rfl,b9⟩:=hcut;have bg:=zC ((zA bg).bw b9);have bh:=zC ((zA bh).bw b9);have lT:=zC ((zA lT).bw b9);have ma:=zC ((zA ma).bw b9);replace R:=R.bw b9;replace R2:=R2.bw b9;replace j6:=zB j6 b9;have lX:=(zA bg).lt;have lY:=(zA bh).lt;have lR:=R.lt;have W5:=R2.lt;have HK:=zC (show ∀ w',Below wc.heap.size wc w'->(nK w' w.heap.size X (nK0 w' (w.heap.size+1) Y)) from λ w' hB=>⟨((zA bg).bw hB).c0,((zA bg).bw hB).c1,((zA bh).bw hB).c0,((zA bh).bw hB).c1⟩)
  clear x0 x1 y0 y1 D8;obtain⟨x0,x1,y0,y1⟩:=zA HK _ (Below.refl _ _);have D8:Below wc.heap.size wc wc.drew:=(Below.refl _ _).drew
  by_cases o9:N1*4<D1*3
  ·have HR:Hid (Bal n d (N1*2) D1 (D-1)):=zC (by
     exact bal_b hnA hdC (zA Ez) (zA EA) (zA Cw).1 (zA Cw).2 o9)
   have ki:=zC (show IntKind.i64.wrap (D-1)=D-1 from jC _ (by omega) (by omega))
   have RB:=zC o9;go_wp2_with fail
   go_region_held3 (λ w'=>nK w' w.heap.size X (nK0 w' (w.heap.size+1) Y)) (first|exact zA HK _ (by with_reducible first|exact D8|exact y9)|(dsimp only[cK,cK0,nK,nK0,rK,rK0];go_keep)|go_keep)
    (first
     | (go_at_call 116;refine (zF2 _ _ _ _ _ 1 (k+k+10) N1 _ rfl ((zA lT).bw D8) (by omega) (by omega)).mono ?_;rintro r' w1 ⟨o7,a1,lv,c1,rfl,s9,b9⟩;have y9:=zB D8 b9;obtain⟨q0,q1,q2⟩:=R.bw y9;obtain⟨p0,p1,p2⟩:=R2.bw y9;obtain⟨z0,z1,z2,z3⟩:=zA HK _ y9))
   all_goals
    have HE:=zJP (w:=w) (K:=k+k+20) (R.bw y9) (R2.bw y9) (X:=⟨o7,a1,lv,c1⟩) (Y:=Y) (s9.mono (by omega)) (((zA ma).bw y9).mono (by omega)) (zB j6 y9)
    go_wp2_with fail;refine bodyPost_ret (v:=.tuple #[.agg #[.bool o7,.slice a1 lv c1],.agg Y.q,.int .i64 (IntKind.i64.wrap (D-1))]) (by simp[results,Tryz.results154,go_sem,q0,q1,p0,p1,n5,n6]) rfl ⟨⟨o7,a1,lv,c1⟩,Y,(N1*2),D1,_,rfl,by rw[zA ki];exact zA HR,by rw[zA ki];omega,by rw[zA ki];omega,HE.1,HE.2.1,HE.2.2⟩
  ·have HR:Hid (Bal n d N1 D1 D):=zC (by
     exact bal_c hnA hdC (zA Ez) (zA EA) (by have:=zA Hc;omega) o9)
   have RB:=zC o9;go_wp2_with fail;have QZ:=R;have Ra:=R2;obtain⟨q0,q1,q2⟩:=R;obtain⟨p0,p1,p2⟩:=R2
   go_region
   all_goals
    have HE:=zJP (w:=w) (K:=k+k+20) (QZ.bw (Below.refl _ _).drew) (Ra.bw (Below.refl _ _).drew) (X:=X) (Y:=Y) (((zA lT).bw (Below.refl _ _).drew).mono (by omega)) (((zA ma).bw (Below.refl _ _).drew).mono (by omega)) (zB j6 (Below.refl _ _).drew)
    go_wp2_with fail;refine bodyPost_ret (v:=.tuple #[.agg X.q,.agg Y.q,.int .i64 (D)]) (by simp[results,Tryz.results154,go_sem,q0,q1,p0,p1,n5,n6]) rfl ⟨X,Y,N1,D1,_,rfl,by exact zA HR,by omega,by omega,HE.1,HE.2.1,HE.2.2⟩
theorem zA4 (w:World) (s:Sp) (x y:Nm) (k k1 k2 b:Nat) (a:Int × Int) (n d:Int) (hs:SpAt w s k a.1 a.2) (h1:IntAt w x.neg x.a x.n x.cap k1 n) (h2:IntAt w y.neg y.a y.n y.cap k2 d) (hk:k<=300000000) (V5:k1<=300000000) (hd:0<d) (hb:s.bits=(b:Int)) :
  Calls Tryz.prog 151 #[.agg s.q,.agg x.q,.agg y.q] w (zL w b (k+k1+10) (zJ a n d).1 (zJ a n d).2) :=
 (zI0 w s _ _ _ _ _ _ _ _ k k1 k2 a.1 a.2 n d hs h1 h2 hk V5 hd).mono λ r w' h=>by rw[hb] at h;exact h
theorem ln1_iv (w:World) (B0:Nat) (s u:Sp) (k b:Nat) (n:Int) (a c:Int × Int) (hs:SpAt w s k a.1 a.2) (hu:SpAt w u k c.1 c.2) (hU:SpC w B0 u) (hk:k<=100000000) (hb:s.bits=(b:Int)) (rN:b<=1000000) (hn:1<=n) (bL:n<=1000000000000) :
  Calls Tryz.prog 175 #[.agg s.q,.int .i64 n,.pointer (some ⟨B0,0,none⟩)] w (zL w b (k+k+8+4+10) (zJ (yZ b a c) (2*n-1) (2*n+1)).1 (zJ (yZ b a c) (2*n-1) (2*n+1)).2):=by
 obtain⟨W,hW⟩:∃ W,W=(w.alloc (.cells s.q 31)).alloc (.cells zCq 31):=⟨_,rfl⟩;have j6:Below w.heap.size w W:=by rw[hW];exact bl2 _ _ _
 have R:NoC W (w.heap.size+1):=by rw[hW];constructor<;>simp[go_sem]
 have HS:=zC (hs.bw j6);have HU:=zC (hu.bw j6);have l0:=hU.lt;obtain⟨y0,y1,y2,y3,y4⟩:=hU;have HB:=zC hb;clear hs hu hb
 go_enter Tryz.func175,Tryz.ntmps175
 go_wp2_with fail;rw[<- hW];clear hW;refine (zIQ _ s u k b a c (zA HS) (zA HU) (by omega) (zA HB) rN).mono ?_
 rintro r' w1 ⟨v,rfl,J1,I6,b9⟩;have HV:=zC J1;clear J1 y0 y1 y2 y3 y4;replace R:=R.bw b9;replace j6:=zB j6 b9;go_wp2_with fail;refine (zE (2*n-1) _ (by omega) (by omega)).mono ?_
 rintro r' w2 ⟨j7,a2,n2,c2,rfl,A8,j5⟩;replace R:=R.bw j5;replace j6:=zB j6 j5;replace I6:=I6.bw j5;go_wp2_with fail;refine (zE (2*n+1) _ (by omega) (by omega)).mono ?_
 rintro r' w3 ⟨C7,a3,n3,c3,rfl,E8,m8⟩;replace R:=R.bw m8;replace j6:=zB j6 m8;replace I6:=I6.bw m8;replace A8:=A8.bw m8;go_wp2_with fail;refine (zA4 _ v ⟨j7,a2,n2,c2⟩ ⟨C7,a3,n3,c3⟩ _ _ _ b _ (2*n-1) (2*n+1) I6 A8 E8 (by omega) (by omega) (by omega) (zA HV)).mono ?_
 rintro r' w4 ⟨t,rfl,G8,K4,A5⟩;obtain⟨q0,q1,q2,q3,q4,q5⟩:=R.bw A5;replace j6:=zB j6 A5;have HT:=zC G8;clear G8;go_wp2_with fail;refine bodyPost_ret (v:=.agg t.q) (by simp[results,Tryz.results175,go_sem,q0,q1,q2,q3,q4]) rfl ⟨t,rfl,zA HT,?_,?_⟩
 ·exact SpAt.put5 (K4.mono (by omega)) q0 q1 q2 q3 q4 _ _ _ _ _
 ·exact kM j6 (Nat.le_succ _) _ _ _ _ _
theorem en_ln (args:Array Value) (w:World):(callFunc 175 args).run Tryz.prog w=.ok (.enter 175 args) w:=by simp[go_sem,callFunc,Tryz.func175];kernel_rfl
theorem zGJ (w:World) (x y:Nm) (k b N K:Nat) (n d:Int) (hx:IntAt w x.neg x.a x.n x.cap k n) (hy:IntAt w y.neg y.a y.n y.cap k d) (hk:k<=10000000) (h1:yI n d) (M3:16<=b) (hb:b<=1000000) (hN:zT (lnT n d b) N) (hK:Q (b+4)<P K) (kr:K<=10000000) :
  Calls Tryz.prog 155 #[.agg x.q,.agg y.q,.int .i64 b] w (zL w b (K+7) (kF (zM (lnT n d b) N) 2).1 (kF (zM (lnT n d b) N) 2).2):=by
 obtain⟨W,hW⟩:∃ W,W=((w.alloc (.cells x.q 29)).alloc (.cells y.q 29)).alloc (.cells zCq 31):=⟨_,rfl⟩;have j6:Below w.heap.size w W:=by rw[hW];exact bl3 _ _ _ _
 have X:NmC W w.heap.size x:=by rw[hW];constructor<;>simp[go_sem]
 have Y:NmC W (w.heap.size+1) y:=by rw[hW];constructor<;>simp[go_sem]
 have R:NoC W (w.heap.size+1+1):=by rw[hW];constructor<;>simp[go_sem]
 have HX:=zC (hx.bw j6);have HY:=zC (hy.bw j6);have lX:=X.lt;have lY:=Y.lt;have lR:=R.lt;have lf:0<n+d:=by have:=h1.hn;have:=h1.hd;omega
 have Nr:=zF b
 have ft:Q b*16<P K:=by
  have e:Q (b+4)=2*(2*(2*(2*Q b))):=rfl;omega
 have Hp:=zKN h1 M3;have hfitz : -P K<(zI n d b).1/\(zI n d b).2<P K:=by have:=Hp.1;have:=Hp.2.2.2;omega
 have GW:=zKB h1 M3
 have hfitq : -P K<(yZ b (zI n d b) (zI n d b)).1/\(yZ b (zI n d b) (zI n d b)).2<P K:=by
  have:=GW.1;have:=GW.2.2.2;have:=zK (show b-3<=b by omega);omega
 have xq:=zC hfitz;have LR:=zC hfitq;have Rx:=zC (yU (n:=n-d) lf b);have H1:=zC h1;have HN:=zC hN;have HK:=zC (show ∀ w',Below W.heap.size W w'->(nK w' w.heap.size x (nK0 w' (w.heap.size+1) y)) from λ w' hB=>⟨(X.bw hB).c0,(X.bw hB).c1,(Y.bw hB).c0,(Y.bw hB).c1⟩)
 clear hx hy Hp hfitz GW hfitq h1 hN
 go_enter Tryz.func155,Tryz.ntmps155
 go_wp2;rw[<- hW];clear hW;obtain⟨x0,x1,x2,x3⟩:=zA HK _ (Below.refl _ _)
 go_cut [7] (λ p wx=>∃ (B:Nat) (u:Sp),p=.pointer (some ⟨B,0,none⟩)/\W.heap.size<=B/\VrC wx B u/\SpAt wx u K (zI n d b).1 (zI n d b).2/\u.bits=(b:Int)/\Below W.heap.size W wx)
 case first =>
  go_region_held3 (λ w'=>nK w' w.heap.size x (nK0 w' (w.heap.size+1) y)) (exact zA HK _ (by repeat' (first|with_reducible exact aC|with_reducible exact J6|with_reducible exact E9|with_reducible exact Below.refl _ _|with_reducible refine Below.drew ?_|with_reducible refine zO ?_ _|with_reducible refine Below.setCell ?_ (by first|exact Yj _|exact O6|exact O7|exact dP) _)))
   (first
    | (go_at_call 88;have hq:=J6;refine (jL _ _ _ _ _ _ _ _ _ _ b (n-d) (n+d) _ (I8.bw (by with_reducible first|exact Below.refl _ _|exact bl1 _ _)) (P2.bw (by with_reducible first|exact Below.refl _ _|exact bl1 _ _)) (by omega) hb lf).mono ?_;rintro r tI ⟨PO,rfl,oI,iI,cX⟩;have ye:=zC oI;clear oI;have X8:Below eA.heap.size eA tI:=(by with_reducible first|exact cX|exact zB (bl1 _ _) cX);have aC:=zB J6 X8;(try with_reducible have pQ:=(zS eA 31).bw cX);replace I8:=I8.bw X8;(try replace S6:=S6.bw X8);replace P2:=P2.bw X8;(try replace bo:=bo.bw X8);have dP:=aC.size;(try have mO:=S6.lt);(try have MJ:=Yo mO);(try have zg:=Nat.ne_of_gt mO);(try obtain⟨jv,jw,vy,vz,vA,Cf⟩:=S6);(try have mP:=bo.lt);(try have MK:=Yo mP);(try have zh:=Nat.ne_of_gt mP);(try obtain⟨jx,jy,vB,vC,vD,Cg⟩:=bo);(try have Bm:=pQ.lt);(try have SZ:=Yo Bm);(try have Fh:=Nat.ne_of_gt Bm);(try obtain⟨Ch,Ci,Cj,Ck,Cl,Ko⟩:=pQ))
    | (go_at_call 32;have hq:=E9;refine (zBN _ _ _ _ _ _ _ _ k k n d _ ((zA HX).bw (by with_reducible first|exact E9|exact zO E9 _)) ((zA HY).bw (by with_reducible first|exact E9|exact zO E9 _)) (by omega) (by omega)).mono ?_;rintro r eA ⟨Y8,pG,tx,pH,rfl,P2,O4⟩;have M9:Below aQ.heap.size aQ eA:=(by with_reducible first|exact O4|exact zB (bl1 _ _) O4);have J6:=zB E9 M9;(try with_reducible have bo:=(zS aQ 31).bw O4);replace I8:=I8.bw M9;(try replace S6:=S6.bw M9);have O7:=J6.size)
    | (go_at_call 35;refine (zBR _ _ _ _ _ _ _ _ k k n d _ ((zA HX).bw (by with_reducible first|exact (Below.refl _ _).drew|exact (bl1 _ _).drew)) ((zA HY).bw (by with_reducible first|exact (Below.refl _ _).drew|exact (bl1 _ _).drew)) (by omega) (by omega)).mono ?_;rintro r aQ ⟨aq,vN,wZ,vP,rfl,I8,O3⟩;have E9:Below W.heap.size W aQ:=(by with_reducible first|exact zB (Below.refl _ _).drew O3|exact zB (bl1 _ _).drew O3);(try with_reducible have S6:=((zS W 31).bw (Below.refl _ _).drew).bw O3);have O6:=E9.size))
  all_goals
   have hfinU:SpAt tI PO K (zI n d b).1 (zI n d b).2:=(iI.fits (K:=K) (zA Rx) (zA xq).1 (zA xq).2);go_wp2_with fail;go_meet;refine⟨_,PO,rfl,?_,⟨⟨?_,?_,?_,?_,?_⟩,?_⟩,?_,zA ye,?_⟩
   ·first|exact Yj _|exact O6|exact O7|exact dP
   ·simp[go_sem, *]
   ·simp[go_sem, *]
   ·simp[go_sem, *]
   ·simp[go_sem, *]
   ·simp[go_sem, *]
   ·intro o;simp[go_sem, *]
   ·first|with_reducible exact hfinU.bw (bl1 _ _)|with_reducible exact SpAt.put5 hfinU (by assumption) (by assumption) (by assumption) (by assumption) (by assumption) _ _ _ _ _
   ·repeat' (first|with_reducible exact aC|with_reducible exact J6|with_reducible exact E9|with_reducible exact Below.refl _ _|with_reducible refine Below.drew ?_|with_reducible refine zO ?_ _|with_reducible refine Below.setCell ?_ (by first|exact Yj _|exact O6|exact O7|exact dP) _)
 case rest =>
 obtain⟨BU,xU,rfl,Ac,XU,hpU,hxbU,hblU⟩:=hcut;replace R:=R.bw hblU;replace j6:=zB j6 hblU;have lU:=XU.lt;have nRU:w.heap.size+1+1<BU:=by omega
 have W5:=R.lt;have mg:=zC hxbU;have ba:=zC hpU;have FU:=XU.fz;obtain⟨z0,z1,z2,z3,z4⟩:=XU.c;clear hxbU hpU HX HY HK x0 x1 x2 x3 hblU X Y;go_wp2_with fail;refine (zIQ _ xU xU K b (zI n d b) (zI n d b) (zA ba) (zA ba) (by omega) (zA mg) hb).mono ?_
 rintro r w1 ⟨v1,rfl,I3,O8,b9⟩;replace O8:=O8.fits (K:=K) (zBO b) (zA LR).1 (zA LR).2;replace XU:=XU.bw b9;replace ba:=zC ((zA ba).bw b9);replace R:=R.bw b9;replace j6:=zB j6 b9;have pE:=zC I3;clear b9 I3 z0 z1 z2 z3 z4 FU;obtain⟨V,hV⟩:∃ V,V=w1.alloc (.cells v1.q 31):=⟨_,rfl⟩;have bV:Below w1.heap.size w1 V:=by rw[hV];exact bl1 _ _
 have S1:SpC V w1.heap.size v1:=by rw[hV];exact zDM w1 v1 _
 have mf:=zC (O8.bw bV);have WK:=XU.lt;have Z:=zC (XU.c);obtain⟨z0,z1,z2,z3,z4⟩:=XU.c;replace XU:=XU.bw bV;have fJ:=R.lt;replace R:=R.bw bV;replace ba:=zC ((zA ba).bw bV);replace j6:=zB j6 bV;clear O8 bV;have S5:=zC (zFQ (zA H1) M3);have pj:=zC (zLL (zA H1) b)
 have fj:Hid (∀ j,j<=N -> -P K<(lnT n d b j).1/\(lnT n d b j).2<P K):=zC (λ j _=>by
  obtain⟨g1,g2,g3,g4⟩:=zA S5 j;have:=zK (show b-3*j<=b by omega)
  omega)
 have aZ:Hid (∀ j,j<=N -> -P K<(jH (lnT n d b) j).1/\(jH (lnT n d b) j).2<P K):=zC (λ j hj=>by
  obtain⟨g1,g2,g3,g4⟩:=zFC (s:=3) (by omega) (zA S5) (zA HN) j hj
  have:=zF (b-3*j)
  omega)
 have wk:N<=1000000000:=by
  obtain⟨N',n1,n2⟩:=zBQ (s:=3) (by omega) (zA S5)
  have:N<=N':=Nat.not_lt.1 λ E2=>by have:=(zA HN).2 N' E2;have:=n2.1;omega
  omega
 go_wp2_with fail;rw[<- hV];clear hV;refine (zKE _ _ en_ln (lnT n d b) N b K (K+K+8+4+10) xU _ (zA ba) (zA mg) hb (by omega) (by omega) (zA HN) wk (zA pj) (zA fj) (zA aZ) (λ j u w' hj D5 B9 M4=>?_)).mono ?_
 ·have e:=ln1_iv w' w1.heap.size u v1 K b ((j:Int)+1) (lnT n d b j) (yZ b (zI n d b) (zI n d b)) B9 ((zA mf).bw M4) (S1.bw M4) (by omega) D5 hb (by omega) (by omega)
  have e1:2*((j:Int)+1)-1=2*(j:Int)+1:=by omega
  have e2:2*((j:Int)+1)+1=2*(j:Int)+3:=by omega
  rw[e1,e2] at e;exact e
 rintro r w2 ⟨v2,rfl,Q8,Q9,j5⟩;replace R:=R.bw j5;replace j6:=zB j6 j5;have ni:=zC Q8;clear Q8 j5;have WI:=R.lt;obtain⟨V2,Y9⟩:∃ V2,V2=w2.alloc (.cells v2.q 31):=⟨_,rfl⟩;have P9:Below w2.heap.size w2 V2:=by rw[Y9];exact bl1 _ _
 replace Q9:=Q9.bw P9;replace R:=R.bw P9;replace j6:=zB j6 P9;go_wp2_with fail;rw[<- Y9];clear Y9 P9;refine (zDA _ v2 (K+3) b 2 _ Q9 (by omega) (zA ni) (by omega) (by omega)).mono ?_
 rintro r w3 ⟨v,rfl,J1,I6,m8⟩;obtain⟨q0,q1,q2,q3,q4,q5⟩:=R.bw m8;replace j6:=zB j6 m8;have HV:=zC J1;clear J1;go_wp2_with fail;refine bodyPost_ret (v:=.agg v.q) (by simp[results,Tryz.results155,go_sem,q0,q1,q2,q3,q4]) rfl ⟨v,rfl,zA HV,?_,?_⟩
 ·exact SpAt.put5 (I6.mono (by omega)) q0 q1 q2 q3 q4 _ _ _ _ _
 ·exact kM j6 (by omega) _ _ _ _ _
theorem NoC.offI {w:World} {B B':Nat} (h:NoC w B) (hne:B≠B') (u0 u1:Value):NoC ((w.setCell ⟨B',0,none⟩ u0).setCell ⟨B',1,none⟩ u1) B:=by
 obtain⟨q0,q1,q2,q3,q4,q5⟩:=h;exact⟨by simp[go_sem,q0,hne,Ne.symm hne],by simp[go_sem,q1,hne,Ne.symm hne],by simp[go_sem,q2,hne,Ne.symm hne],by simp[go_sem,q3,hne,Ne.symm hne],by simp[go_sem,q4,hne,Ne.symm hne],yY q5 _ _⟩
theorem zA7 (w:World) (x y:Nm) (k b K:Nat) (n d:Int) (hx:IntAt w x.neg x.a x.n x.cap k n) (hy:IntAt w y.neg y.a y.n y.cap k d) (hk:k<=100000) (hn:0<n) (hd:0<d) (M3:16<=b) (hb:b<=1000000) (hK:Q (b+4)<P K) (kr:K<=10000000) :
  Calls Tryz.prog 125 #[.agg x.q,.agg y.q,.int .i64 b] w (λ r w'=>∃ (n' d' c:Int) (N N2:Nat),Bal n d n' d' c /\ -(16*k+1)<=c/\c<=16*k+1/\zT (lnT n' d' b) N/\zT (lnT 2 1 b) N2/\zL w b (K+20) (zF7 (zM (lnT n' d' b) N) (zM (lnT 2 1 b) N2) c).1 (zF7 (zM (lnT n' d' b) N) (zM (lnT 2 1 b) N2) c).2 r w'):=by
 obtain⟨W,hW⟩:∃ W,W=((w.alloc (.cells x.q 29)).alloc (.cells y.q 29)).alloc (.cells zCq 31):=⟨_,rfl⟩;have j6:Below w.heap.size w W:=by rw[hW];exact bl3 _ _ _ _
 have X:NmC W w.heap.size x:=by rw[hW];constructor<;>simp[go_sem]
 have FX:∀ o,W.frozen? ⟨w.heap.size,o,none⟩=false:=by rw[hW];intro o;simp[go_sem]
 have Y:NmC W (w.heap.size+1) y:=by rw[hW];constructor<;>simp[go_sem]
 have FY:∀ o,W.frozen? ⟨w.heap.size+1,o,none⟩=false:=by rw[hW];intro o;simp[go_sem]
 have R:NoC W (w.heap.size+1+1):=by rw[hW];constructor<;>simp[go_sem]
 have HX:=zC (hx.bw j6);have HY:=zC (hy.bw j6);have lX:=X.lt;have lY:=Y.lt;clear hx hy
 go_enter Tryz.func125,Tryz.ntmps125
 go_wp2_with fail;rw[<- hW];clear hW;refine (zH6 _ x y k n d (zA HX) (zA HY) hn hd (by omega)).mono ?_
 rintro r w1 ⟨U,T,n',d',c,rfl,J8,o8,o9,iU,iT,b9⟩;have Qn:∀ o,w1.frozen? ⟨w.heap.size,o,none⟩=false:=λ o=>(b9.frozen (p:=⟨w.heap.size,o,none⟩) lX).trans (FX o)
 have Qo:∀ o,w1.frozen? ⟨w.heap.size+1,o,none⟩=false:=λ o=>(b9.frozen (p:=⟨w.heap.size+1,o,none⟩) lY).trans (FY o)
 replace X:=X.bw b9;replace Y:=Y.bw b9;replace R:=R.bw b9;replace j6:=zB j6 b9;have lK:=zC J8;clear b9 FX FY HX HY J8;obtain⟨V,hV⟩:∃ V,V=(((w1.setCell ⟨w.heap.size,0,none⟩ (.bool U.neg)).setCell ⟨w.heap.size,1,none⟩ (.slice U.a U.n U.cap)).setCell ⟨w.heap.size+1,0,none⟩ (.bool T.neg)).setCell ⟨w.heap.size+1,1,none⟩ (.slice T.a T.n T.cap):=⟨_,rfl⟩
 have hE:IntAt V U.neg U.a U.n U.cap (k+k+20) n'/\IntAt V T.neg T.a T.n T.cap (k+k+20) d'/\NoC V (w.heap.size+1+1)/\Below w.heap.size w V:=by
  rw[hV];have fg:=Y.off (B':=w.heap.size) (by omega) (.bool U.neg) (.slice U.a U.n U.cap)
  have i1:=iU.put2 X.c0 X.c1 (.bool U.neg) (.slice U.a U.n U.cap);have i2:=iT.put2 X.c0 X.c1 (.bool U.neg) (.slice U.a U.n U.cap);have r1:=R.offI (B':=w.heap.size) (by omega) (.bool U.neg) (.slice U.a U.n U.cap)
  have b1:=zFZ j6 (Yj _) (.bool U.neg) (.slice U.a U.n U.cap);generalize (w1.setCell ⟨w.heap.size,0,none⟩ (.bool U.neg)).setCell ⟨w.heap.size,1,none⟩ (.slice U.a U.n U.cap)=V0 at *;exact⟨i1.put2 fg.c0 fg.c1 _ _,i2.put2 fg.c0 fg.c1 _ _,r1.offI (by omega) _ _,zFZ b1 (Nat.le_succ _) _ _⟩
 obtain⟨jU,jT,R2,A7⟩:=hE;have LV:=zC jU;have LS:=zC jT;obtain⟨x0,x1⟩:=X;obtain⟨y0,y1⟩:=Y;have OB:w.heap.size<w1.heap.size:=World.block_lt_of_cell? w1 ⟨w.heap.size,0,none⟩ x0;have lY1:w.heap.size+1<w1.heap.size:=World.block_lt_of_cell? w1 ⟨w.heap.size+1,0,none⟩ y0;clear iU iT R j6 jU jT;go_wp2_with fail;rw[<- hV];clear hV x0 x1 y0 y1 Qn Qo;obtain⟨N,P1,T7⟩:=zBQ (s:=3) (by omega) (zFQ (zA lK).1 M3)
 obtain⟨N2,wa,Db⟩:=zBQ (s:=3) (by omega) (zFQ zQQ M3)
 have EG:=zC T7;have xI:=zC Db;clear P1 T7 wa Db;refine (zGJ _ U T (k+k+20) b N K n' d' (zA LV) (zA LS) (by omega) (zA lK).1 M3 hb (zA EG) hK kr).mono ?_
 rintro r w3 ⟨v3,rfl,H7,L6,m8⟩;replace R2:=R2.bw m8;have lw3:=R2.lt;replace A7:=zB A7 m8;have kg:=zC H7;clear m8 H7 LV LS;obtain⟨V3,G9⟩:∃ V3,V3=w3.alloc (.cells v3.q 31):=⟨_,rfl⟩;have CD:Below w3.heap.size w3 V3:=by rw[G9];exact bl1 _ _
 have C3:SpC V3 w3.heap.size v3:=by rw[G9];exact zDM w3 v3 _
 replace L6:=L6.bw CD;replace R2:=R2.bw CD;replace A7:=zB A7 CD;clear CD;go_wp2_with fail;rw[<- G9];clear G9;refine (zE 2 _ (by decide) (by decide)).mono ?_
 rintro r w4 ⟨E5,a4,n4,c4,rfl,H8,A5⟩;replace C3:=C3.bw A5;replace L6:=L6.bw A5;replace R2:=R2.bw A5;replace A7:=zB A7 A5;clear A5;go_wp2_with fail;refine (zE 1 _ (by decide) (by decide)).mono ?_
 rintro r w5 ⟨L8,a5,n5,c5,rfl,T8,E4⟩;replace C3:=C3.bw E4;replace L6:=L6.bw E4;replace R2:=R2.bw E4;replace A7:=zB A7 E4;replace H8:=H8.bw E4;clear E4;go_wp2_with fail;refine (zGJ _ ⟨E5,a4,n4,c4⟩ ⟨L8,a5,n5,c5⟩ 4 b N2 K 2 1 H8 T8 (by omega) zQQ M3 hb (zA xI) hK kr).mono ?_
 rintro r w6 ⟨v6,rfl,AY,Ba,R7⟩;have WC:=C3.lt;have l36:w3.heap.size<w6.heap.size:=Yn WC R7.size;replace C3:=C3.bw R7;replace L6:=L6.bw R7;replace R2:=R2.bw R7;replace A7:=zB A7 R7;have Mh:=zC AY;clear R7 AY H8 T8;obtain⟨V6,wo⟩:∃ V6,V6=w6.alloc (.cells v6.q 31):=⟨_,rfl⟩;have vO:Below w6.heap.size w6 V6:=by rw[wo];exact bl1 _ _
 have C6:SpC V6 w6.heap.size v6:=by rw[wo];exact zDM w6 v6 _
 replace C3:=C3.bw vO;have Mb:=zC (Ba.bw vO);have Ma:=zC (L6.bw vO);replace R2:=R2.bw vO;replace A7:=zB A7 vO;have W5:=R2.lt;have T6:=zC (show ∀ w',Below V6.heap.size V6 w'->(cK w' w3.heap.size v3 (cK0 w' w6.heap.size v6)) from λ w' hB=>⟨(C3.bw hB).c0,(C3.bw hB).c1,(C3.bw hB).c2,(C3.bw hB).c3,(C3.bw hB).c4,(C6.bw hB).c0,(C6.bw hB).c1,(C6.bw hB).c2,(C6.bw hB).c3,(C6.bw hB).c4⟩)
 have D8:Below V6.heap.size V6 V6.drew:=(Below.refl _ _).drew;have l3:=C3.lt;have l6:=C6.lt;have m1:w.heap.size+1+1≠w3.heap.size:=by omega
 have m2:w.heap.size+1+1≠w6.heap.size:=by omega
 have m3:w3.heap.size≠w.heap.size+1+1:=by omega
 have m4:w6.heap.size≠w.heap.size+1+1:=by omega
 clear L6 Ba vO C3 C6;have hkk:k<=100000:=hk
 by_cases Vl:c<0
 ·go_wp2_with fail
  rw[<- wo];clear wo;obtain⟨e0,e1,e2,e3,e4,e5,e6,e7,e8,e9⟩:=zA T6 _ (Below.refl _ _);have Rm:=zC (show IntKind.i64.wrap (-c) = -c from jC _ (by omega) (by omega))
  go_region_held3 (λ w'=>cK w' w3.heap.size v3 (cK0 w' w6.heap.size v6)) (first|exact zA T6 _ (by with_reducible first|exact D8|exact A6|exact y9)|(dsimp only[cK,cK0,nK,nK0,rK,rK0];go_keep)|go_keep)
   (first
    | (go_at_call 92;have hq:=y9;refine (zGR _ v3 v7 (K+11) b (kF (zM (lnT n' d' b) N) 2) (kF (kF (zM (lnT 2 1 b) N2) 2) (-c)) (((zA Ma).bw y9).mono (by omega)) (fG.mono (by omega)) (by omega) (zA kg)).mono ?_;rintro r' w8 ⟨v,rfl,J1,I6,bC⟩;have A6:=zB y9 bC;have HV:=zC J1;clear J1;obtain⟨q0,q1,q2,q3,q4,q5⟩:=R2.bw A6;obtain⟨z0,z1,z2,z3,z4,z5,z6,z7,z8,z9⟩:=zA T6 _ A6)
    | (go_at_call 156;rw[zA Rm];refine (zDA _ v6 (K+7) b (-c) (kF (zM (lnT 2 1 b) N2) 2) ((zA Mb).bw D8) (by omega) (zA Mh) (by omega) (by omega)).mono ?_;rintro r' w7 ⟨v7,rfl,bO,fG,bA⟩;have Cz:=zC bO;clear bO;have y9:=zB D8 bA))
  all_goals
   go_wp2_with fail;refine bodyPost_ret (v:=.agg v.q) (by simp[results,Tryz.results125,go_sem,q0,q1,q2,q3,q4]) rfl ⟨n',d',c,N,N2,zA lK,o8,o9,zA EG,zA xI,v,rfl,zA HV,?_,?_⟩
   ·refine SpAt.put5 ?_ q0 q1 q2 q3 q4 _ _ _ _ _
    unfold zF7;rw[if_pos Vl];exact I6.mono (by omega)
   ·exact kM (zB A7 A6) (by omega) _ _ _ _ _
 ·go_wp2_with fail
  rw[<- wo];clear wo;obtain⟨e0,e1,e2,e3,e4,e5,e6,e7,e8,e9⟩:=zA T6 _ (Below.refl _ _);have Vm:¬ c<0:=by omega
  go_region_held3 (λ w'=>cK w' w3.heap.size v3 (cK0 w' w6.heap.size v6)) (first|exact zA T6 _ (by with_reducible first|exact D8|exact A6|exact y9)|(dsimp only[cK,cK0,nK,nK0,rK,rK0];go_keep)|go_keep)
   (first
    | (go_at_call 51;have hq:=y9;refine (zCI _ v3 v7 (K+11) b (kF (zM (lnT n' d' b) N) 2) (kF (kF (zM (lnT 2 1 b) N2) 2) c) (((zA Ma).bw y9).mono (by omega)) (fG.mono (by omega)) (by omega) (zA kg)).mono ?_;rintro r' w8 ⟨v,rfl,J1,I6,bC⟩;have A6:=zB y9 bC;have HV:=zC J1;clear J1;obtain⟨q0,q1,q2,q3,q4,q5⟩:=R2.bw A6;obtain⟨z0,z1,z2,z3,z4,z5,z6,z7,z8,z9⟩:=zA T6 _ A6)
    | (go_at_call 156;refine (zDA _ v6 (K+7) b c (kF (zM (lnT 2 1 b) N2) 2) ((zA Mb).bw D8) (by omega) (zA Mh) (by omega) (by omega)).mono ?_;rintro r' w7 ⟨v7,rfl,bO,fG,bA⟩;have Cz:=zC bO;clear bO;have y9:=zB D8 bA))
  all_goals
   go_wp2_with fail;refine bodyPost_ret (v:=.agg v.q) (by simp[results,Tryz.results125,go_sem,q0,q1,q2,q3,q4]) rfl ⟨n',d',c,N,N2,zA lK,o8,o9,zA EG,zA xI,v,rfl,zA HV,?_,?_⟩
   ·refine SpAt.put5 ?_ q0 q1 q2 q3 q4 _ _ _ _ _
    unfold zF7;rw[if_neg (show ¬ c<0 by omega)]
    exact I6.mono (by omega)
   ·exact kM (zB A7 A6) (by omega) _ _ _ _ _
theorem cmp_gt {x y:Int} (h:y<x):0<zP x y:=by unfold zP;rw[if_neg (by omega),if_pos h];omega
theorem cmp_le {x y:Int} (h:x<=y):¬ 0<zP x y:=by unfold zP;split<;>(try split)<;>omega
theorem er1_iv (w:World) (B0 B1:Nat) (s:Sp) (x y:Nm) (k k1 k2 b:Nat) (n:Int) (a:Int × Int) (u v:Int) (hs:SpAt w s k a.1 a.2) (hx:IntAt w x.neg x.a x.n x.cap k1 u) (hy:IntAt w y.neg y.a y.n y.cap k2 v) (X:NmC w B0 x) (Y:NmC w B1 y) (hk:k<=100000000) (V5:k1<=1000000) (kx:k2<=1000000) (hb:s.bits=(b:Int)) (hn:0<=n) (bL:n<=1000000000000) (hv:0<v) :
  Calls Tryz.prog 198 #[.agg s.q,.int .i64 n,.pointer (some ⟨B0,0,none⟩),.pointer (some ⟨B1,0,none⟩)] w (zL w b (k+k1+10) (zJ a u (v*(2*n+1))).1 (zJ a u (v*(2*n+1))).2):=by
 obtain⟨W,hW⟩:∃ W,W=(w.alloc (.cells s.q 31)).alloc (.cells zCq 31):=⟨_,rfl⟩;have j6:Below w.heap.size w W:=by rw[hW];exact bl2 _ _ _
 have A:SpC W w.heap.size s:=by rw[hW];constructor<;>simp[go_sem]
 have R:NoC W (w.heap.size+1):=by rw[hW];constructor<;>simp[go_sem]
 have HS:=zC (hs.bw j6);have HX:=zC (hx.bw j6);have HY:=zC (hy.bw j6);have l0:=X.lt;have l1:=Y.lt;replace X:=X.bw j6;replace Y:=Y.bw j6;have HB:=zC hb;have HP:=zC (show 0<v*(2*n+1) from Int.mul_pos hv (by omega))
 have lR:=R.lt;have lA:=A.lt;have M5:=zC (show IntKind.i64.wrap (2*n)=2*n from jC _ (by omega) (by omega))
 have S3:=zC (show IntKind.i64.wrap (2*n+1)=2*n+1 from jC _ (by omega) (by omega))
 clear hs hx hy hb;have D9:Below W.heap.size W W.drew:=(Below.refl _ _).drew;have HK:=zC (show ∀ w',Below W.heap.size W w'->(cK w' w.heap.size s (nK w' B0 x (nK0 w' B1 y))) from λ w' hB=>⟨(A.bw hB).c0,(A.bw hB).c1,(A.bw hB).c2,(A.bw hB).c3,(A.bw hB).c4,(X.bw hB).c0,(X.bw hB).c1,(Y.bw hB).c0,(Y.bw hB).c1⟩)
 go_enter Tryz.func198,Tryz.ntmps198
 go_wp2;rw[<- hW];clear hW;have Bv:w.heap.size+1≠B0:=by omega
 have DC:w.heap.size+1≠B1:=by omega
 obtain⟨x0,x1,x2,x3,x4,x5,x6,x7,x8⟩:=zA HK _ (Below.refl _ _)
 go_region_held3 (λ w'=>cK w' w.heap.size s (nK w' B0 x (nK0 w' B1 y))) (first|exact zA HK _ (by with_reducible first|exact D9|exact D6|exact A7|exact C9)|(dsimp only[cK,cK0,nK,nK0,rK,rK0];go_keep)|go_keep)
  (first
   | (go_at_call 151;have hq:=A7;refine (zA4 _ s ⟨x.neg,x.a,x.n,x.cap⟩ ⟨j7,a2,n2,c2⟩ k k1 _ b a u (v*(2*n+1)) ((zA HS).bw A7) ((zA HX).bw A7) A8 (by omega) (by omega) (zA HP) (zA HB)).mono ?_;rintro r w3 ⟨t,rfl,G8,K4,m8⟩;have HT:=zC G8;clear G8;have D6:=zB A7 m8;obtain⟨q0,q1,q2,q3,q4,q5⟩:=R.bw D6;obtain⟨i0,i1,i2,i3,i4,i5,i6,i7,i8⟩:=zA HK _ D6)
   | (go_at_call 83;have hq:=C9;refine (jA _ _ _ _ _ _ _ _ k2 4 v (2*n+1) _ ((zA HY).bw C9) s9 (by omega) (by omega)).mono ?_;rintro r w2 ⟨j7,a2,n2,c2,rfl,A8,j5⟩;have A7:=zB C9 j5)
   | (go_at_call 33;rw[zA M5,zA S3];refine (zE (2*n+1) _ (by omega) (by omega)).mono ?_;rintro r w1 ⟨o7,a1,n1,c1,rfl,s9,b9⟩;have C9:=zB D9 b9))
 all_goals
  go_wp2;refine bodyPost_ret (v:=.agg t.q) (by simp[results,Tryz.results198,go_sem,q0,q1,q2,q3,q4]) rfl ⟨t,rfl,zA HT,?_,?_⟩
  ·exact SpAt.put5 K4 q0 q1 q2 q3 q4 _ _ _ _ _
  ·exact kM (zB j6 D6) (Nat.le_succ _) _ _ _ _ _
theorem zD4 (ff:Nat) (cs:Array Value) (Gp:∀ (args:Array Value) (w:World),(callFunc ff args).run Tryz.prog w=.ok (.enter ff args) w) (f:Nat->Int × Int) (turn N b K KF:Nat) (s:Sp) (W:World) (hs:SpAt W s K (f 0).1 (f 0).2) (hbits:s.bits=(b:Int)) (hb:b<=1000000) (hK:K<=100000000) (TH:4<=K) (TI:KF<=900000000) (hN:yG f turn N) (wk:N<=1000000000) (We:turn<=1000000000)
  (hle:∀ n,(f n).1<=(f n).2) (h0:∀ n,0<=(f n).1) (T3:∀ n,n<=N -> -P K<(f n).1/\(f n).2<P K) (hfitS:∀ n,n<=N -> -P K<(jH f n).1/\(jH f n).2<P K)
  (hF:∀ (n:Nat) (u:Sp) w',n<N->u.bits=(b:Int)->SpAt w' u K (f n).1 (f n).2->Below W.heap.size W w'->Calls Tryz.prog ff (#[.agg u.q,.int .i64 ((n:Int)+1)] ++ cs) w' (zL w' b KF (f (n+1)).1 (f (n+1)).2)) :
  Calls Tryz.prog 182 #[.agg s.q,.int .i64 turn,.func (.func ff) #[] cs] W (zL W b (K+3) (kT f N).1 (kT f N).2):=by
 have HF:=zC hF;have HN:=zC hN;have aY:=zC hbits;have H0:=zC h0;clear hF hN hbits h0;obtain⟨V,hV⟩:∃ V,V=(W.alloc (.cells s.q 31)).alloc (.cells zCq 31):=⟨_,rfl⟩;have qf:Below W.heap.size W V:=by rw[hV];exact bl2 _ _ _
 have A:SpC V W.heap.size s:=by rw[hV];constructor<;>simp[go_sem]
 have R:NoC V (W.heap.size+1):=by rw[hV];constructor<;>simp[go_sem]
 have HS:=zC (hs.bw qf);have lA:=A.lt;have lR:=R.lt;clear hs
 go_enter Tryz.func182,Tryz.ntmps182
 go_wp2;rw[<- hV];clear hV
 go_cut [7,8] (λ p q wx=>TwoS V wx s s p q)
 case first =>
  obtain⟨x0,x1,x2,x3,x4⟩:=A
  go_region
  all_goals
   go_wp2_with fail;go_meet
   first
    | with_reducible exact zR3 _ _ _ _
    | with_reducible exact twoS_b _ _ _ _
 case rest =>
 obtain⟨B5,B6,rfl,rfl,l5,l6,hne,X,Y,hB⟩:=hcut;have n5:W.heap.size+1<B5:=by omega
 have n6:W.heap.size+1<B6:=by omega
 have tF:SumSt W wc B5 B6 b K s s s f 0:=⟨X,Y,(zA HS).bw hB,(zA HS).bw hB,zA aY,zA aY,A.bw hB,R.bw hB,zB qf hB,n5,n6,hne⟩;clear X Y hB A R HS l5 l6 n5 n6 hne qf lA lR;go_wp2_with fail
 go_loopw [9] (λ nn wr=>∃ (i:Nat) (X Y:Sp),nn=.int .i64 ((i:Int)+1)/\i<=N/\SumSt W wr B5 B6 b K s X Y f i) (λ nn _=>N+1-(intOf nn).toNat)
 case atStart=>exact⟨0,s,s,rfl,Nat.zero_le _,tF⟩
 case round =>
  obtain⟨i,X,Y,rfl,hi,st⟩:=hrel
  by_cases hit:i<turn
  ·have I5:i<N:=by have:=(zA HN).1;omega
   have GA:((i:Int)+1<=(turn:Int)):=by omega
   obtain⟨⟨y0,y1,y2,y3,y4⟩,y5⟩:=st.y;go_wp2_with fail;refine (zA HF i Y _ I5 st.yb st.yp st.be).mono ?_;rintro r w3 ⟨u,rfl,D5,B9,m8⟩;replace st:=st.bw m8;replace B9:=B9.fits (K:=K) (hle _) (T3 _ (by omega)).1 (T3 _ (by omega)).2
   have HU:=zC D5;clear m8 y0 y1 y2 y3 y4 y5 D5;obtain⟨V3,G9⟩:∃ V3,V3=yP w3 B6 u:=⟨_,rfl⟩;have X3:VrC V3 B5 X:=by rw[G9];exact st.x.off st.ne u
   have Y3:VrC V3 B6 u:=by rw[G9];exact st.y.put u
   have P3:SpAt V3 X K (jH f i).1 (jH f i).2:=by rw[G9];exact st.xp.put st.y.c u
   have U3:SpAt V3 u K (f (i+1)).1 (f (i+1)).2:=by rw[G9];exact B9.put st.y.c u
   have F3:SpC V3 W.heap.size s:=by rw[G9];exact st.fs.off (by have:=st.l6;omega) u
   have R3:NoC V3 (W.heap.size+1):=by rw[G9];exact st.no.off (by have:=st.l6;omega) u
   have B3:Below W.heap.size W V3:=by rw[G9];exact zAL st.be (by have:=st.l6;omega) u
   have xb:=zC st.xb;have l5:=st.l5;have l6:=st.l6;have hne:=st.ne;have lY:=st.y.lt;have lX:=st.x.lt;obtain⟨⟨y0,y1,y2,y3,y4⟩,y5⟩:=st.y;obtain⟨⟨x0,x1,x2,x3,x4⟩,x5⟩:=st.x;clear st B9;go_wp2_with fail;have O0:V3=yP w3 B6 u:=G9;unfold yP at O0;rw[<- O0];clear O0 y0 y1 y2 y3 y4 y5 x0 x1 x2 x3 x4 x5;have DB:B5<V3.heap.size:=X3.lt;refine (zCI _ X u K b (jH f i) (f (i+1)) P3 U3 (by omega) (zA xb)).mono ?_
   rintro r w4 ⟨v,rfl,J1,I6,A5⟩;have X4:=X3.bw A5;have Y4:=Y3.bw A5;have U4:=U3.bw A5;have F4:=F3.bw A5;have R4:=R3.bw A5;have B4:=zB B3 A5;have e:zBT (jH f i) (f (i+1))=jH f (i+1):=rfl;rw[e] at I6;replace I6:=I6.fits (K:=K) (zF0 hle _) (hfitS _ (by omega)).1 (hfitS _ (by omega)).2
   have HV:=zC J1;clear A5 J1 X3 Y3 P3 U3 F3 R3 B3 G9;have stn:SumSt W (yP w4 B5 v) B5 B6 b K s v u f (i+1):=⟨X4.put v,Y4.off (Ne.symm hne) v,I6.put X4.c v,U4.put X4.c v,zA HV,zA HU,F4.off (by omega) v,R4.off (by omega) v,zAL B4 (by omega) v,l5,l6,hne⟩
   unfold yP at stn;obtain⟨⟨x0,x1,x2,x3,x4⟩,x5⟩:=X4;go_wp2_with fail
   go_roundw
   case rel=>exact⟨i+1,v,u,by go_num,by omega,stn⟩
   case measure=>simp[intOf];omega
  ·have GA:¬ ((i:Int)+1<=(turn:Int)):=by omega
   obtain⟨⟨y0,y1,y2,y3,y4⟩,y5⟩:=st.y;go_wp2_with fail;have fX:0<=(f i).2:=by have:=zA H0 i;have:=hle i;omega
   refine (zDL _ _ _ _ _ (f i).2 _ st.yp.hi fX).mono ?_;rintro r w2 ⟨l,hlen,rfl,j5⟩;replace st:=st.bw j5;clear j5 y0 y1 y2 y3 y4 y5
   by_cases I5:i<N
   ·have hl:2<l:=by
     have h3:=(zA HN).2.2 i I5;refine Int.not_le.1 λ hl=>?_
     obtain⟨g1,g2,g3⟩:=hlen;obtain⟨L,e1,e2,e3⟩:=g3 (by omega)
     have:=zK (show L+1<=2 by omega)
     have:Q 2=4:=rfl;omega
    clear hlen fX;obtain⟨⟨y0,y1,y2,y3,y4⟩,y5⟩:=st.y;go_wp2_with fail;refine (zA HF i Y _ I5 st.yb st.yp st.be).mono ?_;rintro r w3 ⟨u,rfl,D5,B9,m8⟩;replace st:=st.bw m8;replace B9:=B9.fits (K:=K) (hle _) (T3 _ (by omega)).1 (T3 _ (by omega)).2
    have HU:=zC D5;clear m8 y0 y1 y2 y3 y4 y5 D5;obtain⟨V3,G9⟩:∃ V3,V3=yP w3 B6 u:=⟨_,rfl⟩;have X3:VrC V3 B5 X:=by rw[G9];exact st.x.off st.ne u
    have Y3:VrC V3 B6 u:=by rw[G9];exact st.y.put u
    have P3:SpAt V3 X K (jH f i).1 (jH f i).2:=by rw[G9];exact st.xp.put st.y.c u
    have U3:SpAt V3 u K (f (i+1)).1 (f (i+1)).2:=by rw[G9];exact B9.put st.y.c u
    have F3:SpC V3 W.heap.size s:=by rw[G9];exact st.fs.off (by have:=st.l6;omega) u
    have R3:NoC V3 (W.heap.size+1):=by rw[G9];exact st.no.off (by have:=st.l6;omega) u
    have B3:Below W.heap.size W V3:=by rw[G9];exact zAL st.be (by have:=st.l6;omega) u
    have xb:=zC st.xb;have l5:=st.l5;have l6:=st.l6;have hne:=st.ne;have lY:=st.y.lt;have lX:=st.x.lt;obtain⟨⟨y0,y1,y2,y3,y4⟩,y5⟩:=st.y;obtain⟨⟨x0,x1,x2,x3,x4⟩,x5⟩:=st.x;clear st B9;go_wp2_with fail;have O0:V3=yP w3 B6 u:=G9;unfold yP at O0;rw[<- O0];clear O0 y0 y1 y2 y3 y4 y5 x0 x1 x2 x3 x4 x5;have DB:B5<V3.heap.size:=X3.lt;refine (zCI _ X u K b (jH f i) (f (i+1)) P3 U3 (by omega) (zA xb)).mono ?_
    rintro r w4 ⟨v,rfl,J1,I6,A5⟩;have X4:=X3.bw A5;have Y4:=Y3.bw A5;have U4:=U3.bw A5;have F4:=F3.bw A5;have R4:=R3.bw A5;have B4:=zB B3 A5;have e:zBT (jH f i) (f (i+1))=jH f (i+1):=rfl;rw[e] at I6;replace I6:=I6.fits (K:=K) (zF0 hle _) (hfitS _ (by omega)).1 (hfitS _ (by omega)).2
    have HV:=zC J1;clear A5 J1 X3 Y3 P3 U3 F3 R3 B3 G9;have stn:SumSt W (yP w4 B5 v) B5 B6 b K s v u f (i+1):=⟨X4.put v,Y4.off (Ne.symm hne) v,I6.put X4.c v,U4.put X4.c v,zA HV,zA HU,F4.off (by omega) v,R4.off (by omega) v,zAL B4 (by omega) v,l5,l6,hne⟩
    unfold yP at stn;obtain⟨⟨x0,x1,x2,x3,x4⟩,x5⟩:=X4;go_wp2_with fail
    go_roundw
    case rel=>exact⟨i+1,v,u,by go_num,by omega,stn⟩
    case measure=>simp[intOf];omega
   ·have fB:i=N:=by omega
    subst fB
    have hl:¬ 2<l:=by
     have h1:=(zA HN).2.1
     intro hl
     obtain⟨g1,g2,g3⟩:=hlen
     by_cases hp:0<(f i).2
     ·obtain⟨L,e1,e2,e3⟩:=g3 hp
      have:=zK (show 2<=L by omega)
      have:Q 2=4:=rfl;omega
     ·have:=g2 (by omega);omega
    clear hlen;have l5:=st.l5;have lX:=st.x.lt;have T6:=zC (show ∀ w',Below w2.heap.size w2 w'->(cK w' B5 X (w'.cell? ⟨W.heap.size,4,none⟩=some (.int .i64 s.bits))) from λ w' hB=>⟨(st.x.c.bw hB).c0,(st.x.c.bw hB).c1,(st.x.c.bw hB).c2,(st.x.c.bw hB).c3,(st.x.c.bw hB).c4,(st.fs.bw hB).c4⟩)
    have R3:=st.no;have fJ:=R3.lt;have ST:=zC st;clear st;go_wp2_with fail;obtain⟨x0,x1,x2,x3,x4,x5⟩:=zA T6 _ (Below.refl _ _);have D8:Below w2.heap.size w2 w2.drew:=(Below.refl _ _).drew;have Bw:W.heap.size+1≠B5:=by omega
    have DE:W.heap.size+1≠W.heap.size:=by omega
    go_region_held3 (λ w'=>cK w' B5 X (w'.cell? ⟨W.heap.size,4,none⟩=some (.int .i64 s.bits))) (first|exact zA T6 _ (by with_reducible first|exact D8|exact A6|exact y9)|(dsimp only[cK,cK0,nK,nK0,rK,rK0];go_keep)|go_keep)
     (first
      | (go_at_call 51;have hq:=y9;refine (zCI _ X ⟨false,none,0,0,E5,a4,n4,c4,s.bits⟩ K b (jH f i) (0,9) ((zA ST).xp.bw y9) ⟨zEN _ _,H8.mono TH⟩ (by omega) (zA ST).xb).mono ?_;rintro r' w5 ⟨v,rfl,J1,I6,E4⟩;have A6:=zB y9 E4;have HV:=zC J1;clear J1;obtain⟨q0,q1,q2,q3,q4,q5⟩:=R3.bw A6;obtain⟨y0,y1,y2,y3,y4,y5⟩:=zA T6 _ A6)
      | (go_at_call 33;refine (zE 9 _ (by omega) (by omega)).mono ?_;rintro r' w4 ⟨E5,a4,n4,c4,rfl,H8,A5⟩;have y9:=zB D8 A5))
    all_goals
     go_wp2_with fail;refine bodyPost_ret (v:=.agg v.q) (by simp[results,Tryz.results182,go_sem,q0,q1,q2,q3,q4]) rfl ⟨v,rfl,zA HV,?_,?_⟩
     ·exact SpAt.put5 (I6.mono (by omega)) q0 q1 q2 q3 q4 _ _ _ _ _
     ·exact kM (zB (zA ST).be A6) (Nat.le_succ _) _ _ _ _ _
theorem en_erf (args:Array Value) (w:World):(callFunc 198 args).run Tryz.prog w=.ok (.enter 198 args) w:=by simp[go_sem,callFunc,Tryz.func198];kernel_rfl
end Go.Proofs.YtgmnknmjainabacGreat
