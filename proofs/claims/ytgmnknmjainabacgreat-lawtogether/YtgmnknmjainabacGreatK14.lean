/-
  Its own texts.
-/
import Derived.Test.YtgmnknmjainabacGreatK13
set_option maxRecDepth 100000
set_option maxHeartbeats 40000000
set_option linter.unnecessarySimpa false
set_option linter.unusedSimpArgs false
set_option linter.unusedVariables false
namespace Go.Proofs.YtgmnknmjainabacGreat
open Go.RowKit
attribute [local go_sem ↓] Go.wp_at_zero Go.wp_at_succ
def BalAns (w:World) (k:Nat) (n d:Int) (r:Ending) (w':World):Prop :=
 ∃ (X Y:Nm) (n' d' c:Int),r=.returned (.tuple #[.agg X.q,.agg Y.q,.int .i64 c])/\Bal n d n' d' c /\ -(16*k+1)<=c/\c<=16*k+1/\IntAt w' X.neg X.a X.n X.cap (k+k+20) n'/\IntAt w' Y.neg Y.a Y.n Y.cap (k+k+20) d'/\Below w.heap.size w w'
theorem bal_near {n d:Int} {L L':Nat} (h1:Q L<=n) (h2:n<Q (L+1)) (h3:Q L'<=d) (h4:d<Q (L'+1)) (a b:Nat) (iP:L+a=L'+b):n*Q a<2*(d*Q b)/\d*Q b<2*(n*Q a):=by
 have qa:=zE a;have qb:=zE b;have e1:Q L*Q a=Q L'*Q b:=by rw[<- jF,<- jF,iP]
 have e2:Q (L+1)=2*Q L:=rfl;have e3:Q (L'+1)=2*Q L':=rfl;have g1:=Yt h1 (show 0<=Q a by omega)
 have g2:=Int.mul_lt_mul_of_pos_right h2 (show 0<Q a by omega)
 have g3:=Yt h3 (show 0<=Q b by omega)
 have g4:=Int.mul_lt_mul_of_pos_right h4 (show 0<Q b by omega)
 rw[e2,Int.mul_assoc] at g2;rw[e3,Int.mul_assoc] at g4;omega
theorem bal_a {n d n1 d1 c:Int} (hn:0<n1) (hd:0<d1) (h1:0<=c->n*d1=n1*d*Q c.toNat) (h2:c<0->n*d1*Q (-c).toNat=n1*d) (g1:n1<2*d1) (g2:d1<2*n1) (hc:d1*3<n1*2):Bal n d n1 (d1*2) (c+1):=by
 refine⟨⟨hn,by omega,by omega,by omega⟩,λ h=>?_,λ h=>?_⟩
 ·by_cases h0:0<=c
  ·have e:=h1 h0
   have:(c+1).toNat=c.toNat+1:=by omega
   rw[this];have e2:Q (c.toNat+1)=2*Q c.toNat:=rfl;rw[e2];have:n*(d1*2)=2*(n*d1):=by grind
   rw[this,e];grind
  ·have hc:c = -1:=by omega
   have e:=h2 (by omega)
   subst hc;have e3:Q (-(-1:Int)).toNat=2:=rfl;rw[e3] at e;have e4:Q ((-1:Int)+1).toNat=1:=rfl;rw[e4];have:n*(d1*2)=n*d1*2:=by grind
   rw[this,e];grind
 ·have e:=h2 (by omega)
  have:(-c).toNat=(-(c+1)).toNat+1:=by omega
  rw[this] at e;have e2:Q ((-(c+1)).toNat+1)=2*Q (-(c+1)).toNat:=rfl;rw[e2] at e;rw[<- e];grind
theorem bal_b {n d n1 d1 c:Int} (hn:0<n1) (hd:0<d1) (h1:0<=c->n*d1=n1*d*Q c.toNat) (h2:c<0->n*d1*Q (-c).toNat=n1*d) (g1:n1<2*d1) (g2:d1<2*n1) (hc:n1*4<d1*3):Bal n d (n1*2) d1 (c-1):=by
 refine⟨⟨by omega,hd,by omega,by omega⟩,λ h=>?_,λ h=>?_⟩
 ·have e:=h1 (by omega)
  have:c.toNat=(c-1).toNat+1:=by omega
  rw[this] at e;have e2:Q ((c-1).toNat+1)=2*Q (c-1).toNat:=rfl;rw[e2] at e;rw[e];grind
 ·by_cases h0:0<=c
  ·have hc:c=0:=by omega
   have e:=h1 h0;subst hc;have e3:Q ((0:Int)).toNat=1:=rfl;rw[e3] at e;have e4:Q (-((0:Int)-1)).toNat=2:=rfl;rw[e4,e];grind
  ·have e:=h2 (by omega)
   have:(-(c-1)).toNat=(-c).toNat+1:=by omega
   rw[this];have e2:Q ((-c).toNat+1)=2*Q (-c).toNat:=rfl;rw[e2];have:n*d1*(2*Q (-c).toNat)=2*(n*d1*Q (-c).toNat):=by grind
   rw[this,e];grind
theorem bal_c {n d n1 d1 c:Int} (hn:0<n1) (hd:0<d1) (h1:0<=c->n*d1=n1*d*Q c.toNat) (h2:c<0->n*d1*Q (-c).toNat=n1*d) (hc:¬ d1*3<n1*2) (E9:¬ n1*4<d1*3):Bal n d n1 d1 c :=
 ⟨⟨hn,hd,by omega,by omega⟩,h1,h2⟩
theorem zSO {w:World} {neg:Bool} {a:Option Addr} {n cap k:Nat} {z:Int} {L:Nat} (h:IntAt w neg a n cap k z) (hL:Q L<=z) (hz:0<=z):L<16*k+1:=by
 obtain⟨d,h1,h2,h3,h4,h5⟩:=h;have hV:=zHT h1.dgs n;have hV0:=zY h1.dgs n;have hP:=zBS h4;have eP:=Q_P k
 have M5:z<Q (16*k):=by
  cases neg
  ·simp[sgn] at h5;omega
  ·simp[sgn] at h5;have:=zE (16*k);omega
 refine Nat.lt_of_not_le λ h=>?_
 have:=zJ (show 16*k<=L by omega)
 omega
theorem zGT (neg:Bool) (a:Option Addr) (n cap:Nat) (κ:Int) (A k1:Nat) (x:Int) (w:World) (hκ:κ=(A:Int)) (h1:IntAt w neg a n cap k1 x) (ae:k1<=1000000000) (hk:A<=1000000000) :
  Calls Tryz.prog 116 #[.agg #[.bool neg,.slice a n cap],.int .i64 κ] w (zDV w (A/16+k1+1) (x*Q A)):=by
 subst hκ;exact zB0 neg a n cap A k1 x w h1 ae hk
theorem zLM {w wc w2:World} {x y:Nm} {K:Nat} {z1 z2:Int} (hD:Below wc.heap.size wc w2) (hx:NmC w2 w.heap.size x) (hy:NmC w2 (w.heap.size+1) y) (X Y:Nm) (iX:IntAt w2 X.neg X.a X.n X.cap K z1) (iY:IntAt w2 Y.neg Y.a Y.n Y.cap K z2) (R:NoI wc (w.heap.size+1+1)) (R2:NoI wc (w.heap.size+1+1+1)) (hB:Below w.heap.size w wc) :
  ∃ X' Y':Nm,NmC ((((w2.setCell ⟨w.heap.size,0,none⟩ (.bool X.neg)).setCell ⟨w.heap.size,1,none⟩ (.slice X.a X.n X.cap)).setCell ⟨w.heap.size+1,0,none⟩ (.bool Y.neg)).setCell ⟨w.heap.size+1,1,none⟩ (.slice Y.a Y.n Y.cap)) w.heap.size X'/\NmC ((((w2.setCell ⟨w.heap.size,0,none⟩ (.bool X.neg)).setCell ⟨w.heap.size,1,none⟩ (.slice X.a X.n X.cap)).setCell ⟨w.heap.size+1,0,none⟩ (.bool Y.neg)).setCell ⟨w.heap.size+1,1,none⟩ (.slice Y.a Y.n Y.cap)) (w.heap.size+1) Y'/\IntAt ((((w2.setCell ⟨w.heap.size,0,none⟩ (.bool X.neg)).setCell ⟨w.heap.size,1,none⟩ (.slice X.a X.n X.cap)).setCell ⟨w.heap.size+1,0,none⟩ (.bool Y.neg)).setCell ⟨w.heap.size+1,1,none⟩ (.slice Y.a Y.n Y.cap)) X'.neg X'.a X'.n X'.cap K z1/\IntAt ((((w2.setCell ⟨w.heap.size,0,none⟩ (.bool X.neg)).setCell ⟨w.heap.size,1,none⟩ (.slice X.a X.n X.cap)).setCell ⟨w.heap.size+1,0,none⟩ (.bool Y.neg)).setCell ⟨w.heap.size+1,1,none⟩ (.slice Y.a Y.n Y.cap)) Y'.neg Y'.a Y'.n Y'.cap K z2/\NoI ((((w2.setCell ⟨w.heap.size,0,none⟩ (.bool X.neg)).setCell ⟨w.heap.size,1,none⟩ (.slice X.a X.n X.cap)).setCell ⟨w.heap.size+1,0,none⟩ (.bool Y.neg)).setCell ⟨w.heap.size+1,1,none⟩ (.slice Y.a Y.n Y.cap)) (w.heap.size+1+1)/\NoI ((((w2.setCell ⟨w.heap.size,0,none⟩ (.bool X.neg)).setCell ⟨w.heap.size,1,none⟩ (.slice X.a X.n X.cap)).setCell ⟨w.heap.size+1,0,none⟩ (.bool Y.neg)).setCell ⟨w.heap.size+1,1,none⟩ (.slice Y.a Y.n Y.cap)) (w.heap.size+1+1+1)/\Below w.heap.size w ((((w2.setCell ⟨w.heap.size,0,none⟩ (.bool X.neg)).setCell ⟨w.heap.size,1,none⟩ (.slice X.a X.n X.cap)).setCell ⟨w.heap.size+1,0,none⟩ (.bool Y.neg)).setCell ⟨w.heap.size+1,1,none⟩ (.slice Y.a Y.n Y.cap)):=by
 have gI:=hy.off (B':=w.heap.size) (by omega) (.bool X.neg) (.slice X.a X.n X.cap)
 have dO:=zDG hx X;have i1:=iX.put2 hx.c0 hx.c1 (.bool X.neg) (.slice X.a X.n X.cap);have i2:=iY.put2 hx.c0 hx.c1 (.bool X.neg) (.slice X.a X.n X.cap);have r1:=(R.bw hD).off (B':=w.heap.size) (by omega) (.bool X.neg) (.slice X.a X.n X.cap)
 have r2:=(R2.bw hD).off (B':=w.heap.size) (by omega) (.bool X.neg) (.slice X.a X.n X.cap)
 have b1:=zE2 (zB hB hD) (Yy _) (.bool X.neg) (.slice X.a X.n X.cap);generalize (w2.setCell ⟨w.heap.size,0,none⟩ (.bool X.neg)).setCell ⟨w.heap.size,1,none⟩ (.slice X.a X.n X.cap)=V at *;exact⟨X,Y,dO.off (by omega) _ _,zDG gI Y,i1.put2 gI.c0 gI.c1 _ _,i2.put2 gI.c0 gI.c1 _ _,r1.off (by omega) _ _,r2.off (by omega) _ _,zE2 b1 (Nat.le_succ _) _ _⟩
theorem cmp_gtB (x y:Int):decide (0<zM x y)=decide (y<x):=by
 unfold zM
 by_cases h1:x<y
 ·have:¬ y<x:=by omega
  simp[h1,this]
 ·by_cases h2:y<x
  ·simp[h1,h2]
  ·simp[h1,h2]
theorem cmp_ltB (x y:Int):decide (zM x y<0)=decide (x<y):=by
 unfold zM
 by_cases h1:x<y
 ·simp[h1]
 ·by_cases h2:y<x
  ·simp[h1,h2]
  ·simp[h1,h2]
theorem zLL {w w1:World} {X Y:Nm} {K:Nat} {z1 z2:Int} (R:NoI w1 (w.heap.size+1+1)) (R2:NoI w1 (w.heap.size+1+1+1)) (iX:IntAt w1 X.neg X.a X.n X.cap K z1) (iY:IntAt w1 Y.neg Y.a Y.n Y.cap K z2) (hB:Below w.heap.size w w1) :
  IntAt ((((w1.setCell ⟨w.heap.size+1+1,0,none⟩ (.bool X.neg)).setCell ⟨w.heap.size+1+1,1,none⟩ (.slice X.a X.n X.cap)).setCell ⟨w.heap.size+1+1+1,0,none⟩ (.bool Y.neg)).setCell ⟨w.heap.size+1+1+1,1,none⟩ (.slice Y.a Y.n Y.cap)) X.neg X.a X.n X.cap K z1/\IntAt ((((w1.setCell ⟨w.heap.size+1+1,0,none⟩ (.bool X.neg)).setCell ⟨w.heap.size+1+1,1,none⟩ (.slice X.a X.n X.cap)).setCell ⟨w.heap.size+1+1+1,0,none⟩ (.bool Y.neg)).setCell ⟨w.heap.size+1+1+1,1,none⟩ (.slice Y.a Y.n Y.cap)) Y.neg Y.a Y.n Y.cap K z2/\Below w.heap.size w ((((w1.setCell ⟨w.heap.size+1+1,0,none⟩ (.bool X.neg)).setCell ⟨w.heap.size+1+1,1,none⟩ (.slice X.a X.n X.cap)).setCell ⟨w.heap.size+1+1+1,0,none⟩ (.bool Y.neg)).setCell ⟨w.heap.size+1+1+1,1,none⟩ (.slice Y.a Y.n Y.cap)):=by
 have r2:=R2.off (B':=w.heap.size+1+1) (by omega) (.bool X.neg) (.slice X.a X.n X.cap)
 have i1:=iX.put2 R.c0 R.c1 (.bool X.neg) (.slice X.a X.n X.cap);have i2:=iY.put2 R.c0 R.c1 (.bool X.neg) (.slice X.a X.n X.cap);have b1:=zE2 hB (show w.heap.size<=w.heap.size+1+1 by omega) (.bool X.neg) (.slice X.a X.n X.cap)
 generalize (w1.setCell ⟨w.heap.size+1+1,0,none⟩ (.bool X.neg)).setCell ⟨w.heap.size+1+1,1,none⟩ (.slice X.a X.n X.cap)=V at *;exact⟨i1.put2 r2.c0 r2.c1 _ _,i2.put2 r2.c0 r2.c1 _ _,zE2 b1 (by omega) _ _⟩
theorem zJI (w:World) (x y:Nm) (k:Nat) (n d:Int) (hx:IntAt w x.neg x.a x.n x.cap k n) (hy:IntAt w y.neg y.a y.n y.cap k d) (hn:0<n) (hd:0<d) (hk:k<=1000000) :
  Calls Tryz.prog 154 #[.agg x.q,.agg y.q] w (BalAns w k n d):=by
 obtain⟨W,hW⟩:∃ W,W=(((w.alloc (.cells x.q 29)).alloc (.cells y.q 29)).alloc (.cells #[.bool false,.slice none 0 0] 29)).alloc (.cells #[.bool false,.slice none 0 0] 29):=⟨_,rfl⟩;have j6:Below w.heap.size w W:=by rw[hW];exact bl4 _ _ _ _ _
 have X:NmC W w.heap.size x:=by rw[hW];constructor<;>simp[go_sem]
 have FX:∀ o,W.frozen? ⟨w.heap.size,o,none⟩=false:=by rw[hW];intro o;simp[go_sem]
 have Y:NmC W (w.heap.size+1) y:=by rw[hW];constructor<;>simp[go_sem]
 have FY:∀ o,W.frozen? ⟨w.heap.size+1,o,none⟩=false:=by rw[hW];intro o;simp[go_sem]
 have R:NoI W (w.heap.size+1+1):=by rw[hW];constructor<;>simp[go_sem]
 have R2:NoI W (w.heap.size+1+1+1):=by rw[hW];constructor<;>simp[go_sem]
 have HX:=zC (hx.bw j6);have HY:=zC (hy.bw j6);have lX:=X.lt;have lY:=Y.lt;have lR:=R.lt;have Z6:=R2.lt;have HK:=zC (show ∀ w',Below W.heap.size W w'->(nK w' w.heap.size x (nK0 w' (w.heap.size+1) y)) from λ w' hB=>⟨(X.bw hB).c0,(X.bw hB).c1,(Y.bw hB).c0,(Y.bw hB).c1⟩)
 go_enter Tryz.func154,Tryz.ntmps154
 go_wp2;rw[<- hW];clear hW hx hy;obtain⟨x0,x1,x2,x3⟩:=zA HK _ (Below.refl _ _);have D5:Below W.heap.size W W.drew:=(Below.refl _ _).drew
 go_cut [7] (λ p wx=>∃ (L L':Nat) (D:Int),p=.int .i64 D/\D=(L:Int)-(L':Int)/\Q L<=n/\n<Q (L+1)/\Q L'<=d/\d<Q (L'+1)/\L<16*k+1/\L'<16*k+1/\Below W.heap.size W wx)
 case first =>
  go_region_held3 (λ w'=>nK w' w.heap.size x (nK0 w' (w.heap.size+1) y)) (first|exact zA HK _ (by with_reducible first|exact D5|exact s9|exact y9)|(dsimp only[cK,cK0,nK,nK0,rK,rK0];go_keep)|go_keep)
   (first
    | (go_at_call 98;have hq:=y9;refine (zD2 _ _ _ _ _ d _ ((zA HY).bw y9) (by omega)).mono ?_;rintro r' w2 ⟨l2,CV,rfl,j8⟩;have s9:=zB y9 j8)
    | (go_at_call 98;refine (zD2 _ _ _ _ _ n _ ((zA HX).bw D5) (by omega)).mono ?_;rintro r' w1 ⟨l1,CT,rfl,b9⟩;have y9:=zB D5 b9))
  all_goals
   obtain⟨L,e1,e2,e3⟩:=CT.2.2 hn;obtain⟨L',f1,f2,f3⟩:=CV.2.2 hd;have hL:=zSO (zA HX) e2 (by omega)
   have Jr:=zSO (zA HY) f2 (by omega)
   have HE:=zC e1;have HF:=zC f1;clear e1 f1;go_wp2_with fail;go_meet;exact⟨L,L',_,rfl,(by rw[jH _ (by have:=zA HE;have:=zA HF;omega) (by have:=zA HE;have:=zA HF;omega)];have:=zA HE;have:=zA HF;omega),e2,e3,f2,f3,hL,Jr,s9⟩
 case rest =>
 obtain⟨L,L',D,rfl,hD,e2,e3,f2,f3,hL,Jr,F9⟩:=hcut;have M3:=bal_near e2 e3 f2 f3;have AJ:=zC M3;clear M3 e2 e3 f2 f3 x0 x1 x2 x3 D5;replace X:=X.bw F9;replace Y:=Y.bw F9;replace R:=R.bw F9;replace R2:=R2.bw F9;have Gw:∀ o,wc.frozen? ⟨w.heap.size,o,none⟩=false:=λ o=>(F9.frozen (p:=⟨w.heap.size,o,none⟩) lX).trans (FX o)
 have Gx:∀ o,wc.frozen? ⟨w.heap.size+1,o,none⟩=false:=λ o=>(F9.frozen (p:=⟨w.heap.size+1,o,none⟩) lY).trans (FY o)
 replace HX:=zC ((zA HX).bw F9);replace HY:=zC ((zA HY).bw F9);replace j6:=zB j6 F9;clear HK lX lY lR Z6 FX FY F9;have lX:=X.lt;have lY:=Y.lt;have lR:=R.lt;have Z6:=R2.lt;obtain⟨A,hA⟩:∃ A:Nat,(A:Int)=max 0 (-D):=⟨(max 0 (-D)).toNat,by omega⟩
 obtain⟨C,hC⟩:∃ C:Nat,(C:Int)=max 0 D:=⟨(max 0 D).toNat,by omega⟩
 have hwD:IntKind.i64.wrap (-D) = -D:=jH _ (by omega) (by omega)
 have QA:D<=16*k /\ -(16*k)<=D:=by omega
 have M3:=zA AJ A C (by omega)
 have HA:=zC hA;have HC:=zC hC;have HD:=zC hD;have HW:=zC hwD;have OP:=zC QA;have hAk:A<=16*k:=by omega
 have hCk:C<=16*k:=by omega
 have Gy:=zC M3;clear hA hC hD hwD QA AJ hL Jr M3;go_wp2_with fail
 go_cut [7] (λ p wx=>p=.int .i64 D/\∃ X Y:Nm,NmC wx w.heap.size X/\NmC wx (w.heap.size+1) Y/\IntAt wx X.neg X.a X.n X.cap (k+k+10) (n*Q A)/\IntAt wx Y.neg Y.a Y.n Y.cap (k+k+10) (d*Q C)/\NoI wx (w.heap.size+1+1)/\NoI wx (w.heap.size+1+1+1)/\Below w.heap.size w wx)
 case first =>
  have cG:=zC X;have cH:=zC Y;obtain⟨x0,x1⟩:=X;obtain⟨y0,y1⟩:=Y;have Hr:=zC (show (if 0<IntKind.i64.wrap (-D) then IntKind.i64.wrap (-D) else 0)=(A:Int) by rw[zA HW];have:=zA HA;split<;>omega)
  have Hw:=zC (show (if 0<D then D else 0)=(C:Int) by have:=zA HC;split<;>omega)
  by_cases d1:0<D
  ·have d2:IntKind.i64.wrap (-D)<=0:=by rw[zA HW];omega
   have jk:=zC (show (0:Int)=(A:Int) by have:=zA HA;omega)
   have jl:=zC (show D=(C:Int) by have:=zA HC;omega)
   go_region_with
    (first
     | (go_at_call 116;have hq:=y9;(with_reducible refine (zGT _ _ _ _ _ C k d _ (by with_reducible first|exact zA jl|exact zA Hw) ((zA HY).bw y9) (by omega) (by omega)).mono ?_);rintro r' w2 ⟨j7,a2,n2,c2,rfl,A5,j8⟩;have s9:=zB y9 j8;have RR:=YB lX s9.size;have RS:=YB lY s9.size;replace o8:=o8.bw j8;obtain⟨x4,x5⟩:=(zA cG).bw s9;obtain⟨y4,y5⟩:=(zA cH).bw s9;have F2:∀ o,w2.frozen? ⟨w.heap.size,o,none⟩=false:=(λ o=>(s9.frozen (p:=⟨w.heap.size,o,none⟩) lX).trans (Gw o));have G2:∀ o,w2.frozen? ⟨w.heap.size+1,o,none⟩=false:=(λ o=>(s9.frozen (p:=⟨w.heap.size+1,o,none⟩) lY).trans (Gx o)))
     | (go_at_call 116;(with_reducible refine (zGT _ _ _ _ _ A k n _ (by with_reducible first|exact zA jk|exact zA Hr) ((zA HX).bw (Below.refl _ _).drew) (by omega) (by omega)).mono ?_);rintro r' w1 ⟨m7,a1,n1,c1,rfl,o8,b9⟩;have y9:Below wc.heap.size wc w1:=zB (Below.refl _ _).drew b9;obtain⟨y2,y3⟩:=(zA cH).bw y9;obtain⟨x2,x3⟩:=(zA cG).bw y9;have RP:=YB lX y9.size;have RQ:=YB lY y9.size))
   all_goals
    go_wp2_with fail;go_meet;exact⟨rfl,zLM s9 (NmC.mk x4 x5) (NmC.mk y4 y5) ⟨m7,a1,n1,c1⟩ ⟨j7,a2,n2,c2⟩ (o8.mono (by omega)) (A5.mono (by omega)) R R2 j6⟩
  ·by_cases d3:D<0
   ·have d2:0<IntKind.i64.wrap (-D):=by rw[zA HW];omega
    have d4:D<=0:=by omega
    have jk:=zC (show IntKind.i64.wrap (-D)=(A:Int) by rw[zA HW];have:=zA HA;omega)
    have jl:=zC (show (0:Int)=(C:Int) by have:=zA HC;omega)
    go_region_with
     (first
      | (go_at_call 116;have hq:=y9;(with_reducible refine (zGT _ _ _ _ _ C k d _ (by with_reducible first|exact zA jl|exact zA Hw) ((zA HY).bw y9) (by omega) (by omega)).mono ?_);rintro r' w2 ⟨j7,a2,n2,c2,rfl,A5,j8⟩;have s9:=zB y9 j8;have RR:=YB lX s9.size;have RS:=YB lY s9.size;replace o8:=o8.bw j8;obtain⟨x4,x5⟩:=(zA cG).bw s9;obtain⟨y4,y5⟩:=(zA cH).bw s9;have F2:∀ o,w2.frozen? ⟨w.heap.size,o,none⟩=false:=(λ o=>(s9.frozen (p:=⟨w.heap.size,o,none⟩) lX).trans (Gw o));have G2:∀ o,w2.frozen? ⟨w.heap.size+1,o,none⟩=false:=(λ o=>(s9.frozen (p:=⟨w.heap.size+1,o,none⟩) lY).trans (Gx o)))
      | (go_at_call 116;(with_reducible refine (zGT _ _ _ _ _ A k n _ (by with_reducible first|exact zA jk|exact zA Hr) ((zA HX).bw (Below.refl _ _).drew) (by omega) (by omega)).mono ?_);rintro r' w1 ⟨m7,a1,n1,c1,rfl,o8,b9⟩;have y9:Below wc.heap.size wc w1:=zB (Below.refl _ _).drew b9;obtain⟨y2,y3⟩:=(zA cH).bw y9;obtain⟨x2,x3⟩:=(zA cG).bw y9;have RP:=YB lX y9.size;have RQ:=YB lY y9.size))
    all_goals
     go_wp2_with fail;go_meet;exact⟨rfl,zLM s9 (NmC.mk x4 x5) (NmC.mk y4 y5) ⟨m7,a1,n1,c1⟩ ⟨j7,a2,n2,c2⟩ (o8.mono (by omega)) (A5.mono (by omega)) R R2 j6⟩
   ·have d2:IntKind.i64.wrap (-D)<=0:=by rw[zA HW];omega
    have d4:D<=0:=by omega
    have jk:=zC (show (0:Int)=(A:Int) by have:=zA HA;omega)
    have jl:=zC (show (0:Int)=(C:Int) by have:=zA HC;omega)
    go_region_with
     (first
      | (go_at_call 116;have hq:=y9;(with_reducible refine (zGT _ _ _ _ _ C k d _ (by with_reducible first|exact zA jl|exact zA Hw) ((zA HY).bw y9) (by omega) (by omega)).mono ?_);rintro r' w2 ⟨j7,a2,n2,c2,rfl,A5,j8⟩;have s9:=zB y9 j8;have RR:=YB lX s9.size;have RS:=YB lY s9.size;replace o8:=o8.bw j8;obtain⟨x4,x5⟩:=(zA cG).bw s9;obtain⟨y4,y5⟩:=(zA cH).bw s9;have F2:∀ o,w2.frozen? ⟨w.heap.size,o,none⟩=false:=(λ o=>(s9.frozen (p:=⟨w.heap.size,o,none⟩) lX).trans (Gw o));have G2:∀ o,w2.frozen? ⟨w.heap.size+1,o,none⟩=false:=(λ o=>(s9.frozen (p:=⟨w.heap.size+1,o,none⟩) lY).trans (Gx o)))
      | (go_at_call 116;(with_reducible refine (zGT _ _ _ _ _ A k n _ (by with_reducible first|exact zA jk|exact zA Hr) ((zA HX).bw (Below.refl _ _).drew) (by omega) (by omega)).mono ?_);rintro r' w1 ⟨m7,a1,n1,c1,rfl,o8,b9⟩;have y9:Below wc.heap.size wc w1:=zB (Below.refl _ _).drew b9;obtain⟨y2,y3⟩:=(zA cH).bw y9;obtain⟨x2,x3⟩:=(zA cG).bw y9;have RP:=YB lX y9.size;have RQ:=YB lY y9.size))
    all_goals
     go_wp2_with fail;go_meet;exact⟨rfl,zLM s9 (NmC.mk x4 x5) (NmC.mk y4 y5) ⟨m7,a1,n1,c1⟩ ⟨j7,a2,n2,c2⟩ (o8.mono (by omega)) (A5.mono (by omega)) R R2 j6⟩
 case rest =>
 obtain⟨rfl,X,Y,hX,hY,iX,iY,R,R2,j6⟩:=hcut;have hQA:=zE A;have hQC:=zE C;have hnA:0<n*Q A:=Int.mul_pos hn (by omega)
 have hdC:0<d*Q C:=Int.mul_pos hd (by omega)
 obtain⟨N1,T8⟩:∃ N1,N1=n*Q A:=⟨_,rfl⟩;obtain⟨D1,y9⟩:∃ D1,D1=d*Q C:=⟨_,rfl⟩
 have iz:0<=D->n*D1=N1*d*Q D.toNat:=λ h=>by
  have e1:A=0:=by have:=zA HA;omega
  have e2:D.toNat=C:=by have:=zA HC;omega
  rw[T8,y9,e1,e2];simp only[Q];grind
 have J5:D<0->n*D1*Q (-D).toNat=N1*d:=λ h=>by
  have e1:C=0:=by have:=zA HC;omega
  have e2:(-D).toNat=A:=by have:=zA HA;omega
  rw[T8,y9,e1,e2];simp only[Q];grind
 have GS:=zC iz;have GW:=zC J5;have TM:=zA OP;have EP:Hid (N1<2*D1/\D1<2*N1):=zC (by rw[T8,y9];exact zA Gy)
 rw[<- T8] at iX hnA;rw[<- y9] at iY hdC;clear iz J5 HA HC HD HW OP hQA hQC T8 y9 Gy;have oA:=zC iX;have oB:=zC iY;have cG:=zC hX;have cH:=zC hY;have lX:=hX.lt;have lY:=hY.lt;have lR:=R.lt;have Z6:=R2.lt;have HK:=zC (show ∀ w',Below wc.heap.size wc w'->(nK w' w.heap.size X (nK0 w' (w.heap.size+1) Y)) from λ w' hB=>⟨(hX.bw hB).c0,(hX.bw hB).c1,(hY.bw hB).c0,(hY.bw hB).c1⟩)
 clear iX iY hX hY;obtain⟨x0,x1,y0,y1⟩:=zA HK _ (Below.refl _ _);have D5:Below wc.heap.size wc wc.drew:=(Below.refl _ _).drew;go_wp2_with fail
 go_cut [22] (λ p wx=>p=.bool (decide (D1*3<N1*2))/\Below wc.heap.size wc wx)
 case first =>
  go_region_held3 (λ w'=>nK w' w.heap.size X (nK0 w' (w.heap.size+1) Y)) (first|exact zA HK _ (by with_reducible first|exact D5|exact J1|exact G0|exact s9|exact y9)|(dsimp only[cK,cK0,nK,nK0,rK,rK0];go_keep)|go_keep)
   (first
    | (go_at_call 17;have hq:=G0;refine (jP _ _ _ _ _ _ _ _ _ _ (N1*2) (D1*3) _ ((o8.bw j8).bw m8) E7).mono ?_;rintro r' w4 ⟨rfl,p9⟩;have J1:=zB G0 p9)
    | (go_at_call 83;have hq:=s9;refine (zV _ _ _ _ _ _ _ _ (k+k+10) 4 D1 3 _ ((zA oB).bw s9) A5 (by omega) (by omega)).mono ?_;rintro r' w3 ⟨B9,a3,n3,c3,rfl,E7,m8⟩;have G0:=zB s9 m8)
    | (go_at_call 33;have hq:=y9;refine (zD 3 _ (by decide) (by decide)).mono ?_;rintro r' w2 ⟨j7,a2,n2,c2,rfl,A5,j8⟩;have s9:=zB y9 j8)
    | (go_at_call 116;refine (zGT _ _ _ _ _ 1 (k+k+10) N1 _ rfl ((zA oA).bw D5) (by omega) (by omega)).mono ?_;rintro r' w1 ⟨m7,a1,n1,c1,rfl,o8,b9⟩;have y9:=zB D5 b9))
  all_goals
   go_wp2_with fail;go_meet;exact⟨congrArg _ (cmp_gtB _ _),J1⟩
 case rest =>
 obtain⟨rfl,b9⟩:=hcut;have cG:=zC ((zA cG).bw b9);have cH:=zC ((zA cH).bw b9);have oA:=zC ((zA oA).bw b9);have oB:=zC ((zA oB).bw b9);replace R:=R.bw b9;replace R2:=R2.bw b9;replace j6:=zB j6 b9;have lX:=(zA cG).lt;have lY:=(zA cH).lt;have lR:=R.lt;have Z6:=R2.lt;have HK:=zC (show ∀ w',Below wc.heap.size wc w'->(nK w' w.heap.size X (nK0 w' (w.heap.size+1) Y)) from λ w' hB=>⟨((zA cG).bw hB).c0,((zA cG).bw hB).c1,((zA cH).bw hB).c0,((zA cH).bw hB).c1⟩)
 clear x0 x1 y0 y1 D5;obtain⟨x0,x1,y0,y1⟩:=zA HK _ (Below.refl _ _);have D5:Below wc.heap.size wc wc.drew:=(Below.refl _ _).drew;have n1:w.heap.size≠w.heap.size+1+1:=by omega
 have n2:w.heap.size≠w.heap.size+1+1+1:=by omega
 have n3:w.heap.size+1≠w.heap.size+1+1:=by omega
 have n4:w.heap.size+1≠w.heap.size+1+1+1:=by omega
 have n5:w.heap.size+1+1≠w.heap.size+1+1+1:=by omega
 have n6:w.heap.size+1+1+1≠w.heap.size+1+1:=by omega
 have n7:w.heap.size+1+1≠w.heap.size:=by omega
 have n8:w.heap.size+1+1+1≠w.heap.size:=by omega
 have n9:w.heap.size+1+1≠w.heap.size+1:=by omega
 have Lm:w.heap.size+1+1+1≠w.heap.size+1:=by omega
 by_cases hc:D1*3<N1*2
 ·have HR:Hid (Bal n d N1 (D1*2) (D+1)):=zC (by
   exact bal_a hnA hdC (zA GS) (zA GW) (zA EP).1 (zA EP).2 hc)
  have nM:=zC (show IntKind.i64.wrap (D+1)=D+1 from jH _ (by omega) (by omega))
  have Hc:=zC hc;go_wp2_with fail
  go_region_held3 (λ w'=>nK w' w.heap.size X (nK0 w' (w.heap.size+1) Y)) (first|exact zA HK _ (by with_reducible first|exact D5|exact y9)|(dsimp only[cK,cK0,nK,nK0,rK,rK0];go_keep)|go_keep)
   (first
    | (go_at_call 116;refine (zGT _ _ _ _ _ 1 (k+k+10) D1 _ rfl ((zA oB).bw D5) (by omega) (by omega)).mono ?_;rintro r' w1 ⟨m7,a1,oq,c1,rfl,o8,b9⟩;have y9:=zB D5 b9;obtain⟨q0,q1,q2⟩:=R.bw y9;obtain⟨p0,p1,p2⟩:=R2.bw y9;obtain⟨z0,z1,z2,z3⟩:=zA HK _ y9))
  all_goals
   have HE:=zLL (w:=w) (K:=k+k+20) (R.bw y9) (R2.bw y9) (X:=X) (Y:=⟨m7,a1,oq,c1⟩) (((zA oA).bw y9).mono (by omega)) (o8.mono (by omega)) (zB j6 y9)
   go_wp2_with fail;refine bodyPost_ret (v:=.tuple #[.agg X.q,.agg #[.bool m7,.slice a1 oq c1],.int .i64 (IntKind.i64.wrap (D+1))]) (by simp[results,Tryz.results154,go_sem,q0,q1,p0,p1,n5,n6]) rfl ⟨X,⟨m7,a1,oq,c1⟩,N1,(D1*2),_,rfl,by rw[zA nM];exact zA HR,by rw[zA nM];omega,by rw[zA nM];omega,HE.1,HE.2.1,HE.2.2⟩
 ·have Hc:=zC hc
  go_wp2_with fail
  go_cut [35] (λ p wx=>p=.bool (decide (N1*4<D1*3))/\Below wc.heap.size wc wx)
  case first =>
   go_region_held3 (λ w'=>nK w' w.heap.size X (nK0 w' (w.heap.size+1) Y)) (first|exact zA HK _ (by with_reducible first|exact D5|exact J1|exact G0|exact s9|exact y9)|(dsimp only[cK,cK0,nK,nK0,rK,rK0];go_keep)|go_keep)
    (first
     | (go_at_call 17;have hq:=G0;refine (jP _ _ _ _ _ _ _ _ _ _ (N1*4) (D1*3) _ ((o8.bw j8).bw m8) E7).mono ?_;rintro r' w4 ⟨rfl,p9⟩;have J1:=zB G0 p9)
     | (go_at_call 83;have hq:=s9;refine (zV _ _ _ _ _ _ _ _ (k+k+10) 4 D1 3 _ ((zA oB).bw s9) A5 (by omega) (by omega)).mono ?_;rintro r' w3 ⟨B9,a3,n3,c3,rfl,E7,m8⟩;have G0:=zB s9 m8)
     | (go_at_call 33;have hq:=y9;refine (zD 3 _ (by decide) (by decide)).mono ?_;rintro r' w2 ⟨j7,a2,n2,c2,rfl,A5,j8⟩;have s9:=zB y9 j8)
     | (go_at_call 116;refine (zGT _ _ _ _ _ 2 (k+k+10) N1 _ rfl ((zA oA).bw D5) (by omega) (by omega)).mono ?_;rintro r' w1 ⟨m7,a1,n1,c1,rfl,o8,b9⟩;have y9:=zB D5 b9))
   all_goals
    go_wp2_with fail;go_meet;exact⟨congrArg _ (cmp_ltB _ _),J1⟩
  case rest =>
  obtain⟨rfl,b9⟩:=hcut;have cG:=zC ((zA cG).bw b9);have cH:=zC ((zA cH).bw b9);have oA:=zC ((zA oA).bw b9);have oB:=zC ((zA oB).bw b9);replace R:=R.bw b9;replace R2:=R2.bw b9;replace j6:=zB j6 b9;have lX:=(zA cG).lt;have lY:=(zA cH).lt;have lR:=R.lt;have Z6:=R2.lt;have HK:=zC (show ∀ w',Below wc.heap.size wc w'->(nK w' w.heap.size X (nK0 w' (w.heap.size+1) Y)) from λ w' hB=>⟨((zA cG).bw hB).c0,((zA cG).bw hB).c1,((zA cH).bw hB).c0,((zA cH).bw hB).c1⟩)
  clear x0 x1 y0 y1 D5;obtain⟨x0,x1,y0,y1⟩:=zA HK _ (Below.refl _ _);have D5:Below wc.heap.size wc wc.drew:=(Below.refl _ _).drew
  by_cases E9:N1*4<D1*3
  ·have HR:Hid (Bal n d (N1*2) D1 (D-1)):=zC (by
     exact bal_b hnA hdC (zA GS) (zA GW) (zA EP).1 (zA EP).2 E9)
   have nM:=zC (show IntKind.i64.wrap (D-1)=D-1 from jH _ (by omega) (by omega))
   have VN:=zC E9;go_wp2_with fail
   go_region_held3 (λ w'=>nK w' w.heap.size X (nK0 w' (w.heap.size+1) Y)) (first|exact zA HK _ (by with_reducible first|exact D5|exact y9)|(dsimp only[cK,cK0,nK,nK0,rK,rK0];go_keep)|go_keep)
    (first
     | (go_at_call 116;refine (zGT _ _ _ _ _ 1 (k+k+10) N1 _ rfl ((zA oA).bw D5) (by omega) (by omega)).mono ?_;rintro r' w1 ⟨m7,a1,oq,c1,rfl,o8,b9⟩;have y9:=zB D5 b9;obtain⟨q0,q1,q2⟩:=R.bw y9;obtain⟨p0,p1,p2⟩:=R2.bw y9;obtain⟨z0,z1,z2,z3⟩:=zA HK _ y9))
   all_goals
    have HE:=zLL (w:=w) (K:=k+k+20) (R.bw y9) (R2.bw y9) (X:=⟨m7,a1,oq,c1⟩) (Y:=Y) (o8.mono (by omega)) (((zA oB).bw y9).mono (by omega)) (zB j6 y9)
    go_wp2_with fail;refine bodyPost_ret (v:=.tuple #[.agg #[.bool m7,.slice a1 oq c1],.agg Y.q,.int .i64 (IntKind.i64.wrap (D-1))]) (by simp[results,Tryz.results154,go_sem,q0,q1,p0,p1,n5,n6]) rfl ⟨⟨m7,a1,oq,c1⟩,Y,(N1*2),D1,_,rfl,by rw[zA nM];exact zA HR,by rw[zA nM];omega,by rw[zA nM];omega,HE.1,HE.2.1,HE.2.2⟩
  ·have HR:Hid (Bal n d N1 D1 D):=zC (by
     exact bal_c hnA hdC (zA GS) (zA GW) (by have:=zA Hc;omega) E9)
   have VN:=zC E9;go_wp2_with fail;have Vm:=R;have Vn:=R2;obtain⟨q0,q1,q2⟩:=R;obtain⟨p0,p1,p2⟩:=R2
   go_region
   all_goals
    have HE:=zLL (w:=w) (K:=k+k+20) (Vm.bw (Below.refl _ _).drew) (Vn.bw (Below.refl _ _).drew) (X:=X) (Y:=Y) (((zA oA).bw (Below.refl _ _).drew).mono (by omega)) (((zA oB).bw (Below.refl _ _).drew).mono (by omega)) (zB j6 (Below.refl _ _).drew)
    go_wp2_with fail;refine bodyPost_ret (v:=.tuple #[.agg X.q,.agg Y.q,.int .i64 (D)]) (by simp[results,Tryz.results154,go_sem,q0,q1,p0,p1,n5,n6]) rfl ⟨X,Y,N1,D1,_,rfl,by exact zA HR,by omega,by omega,HE.1,HE.2.1,HE.2.2⟩
theorem zBF (w:World) (s:Sp) (x y:Nm) (k k1 k2 b:Nat) (a:Int × Int) (n d:Int) (hs:SpAt w s k a.1 a.2) (h1:IntAt w x.neg x.a x.n x.cap k1 n) (h2:IntAt w y.neg y.a y.n y.cap k2 d) (hk:k<=300000000) (ae:k1<=300000000) (hd:0<d) (hb:s.bits=(b:Int)) :
  Calls Tryz.prog 151 #[.agg s.q,.agg x.q,.agg y.q] w (zH w b (k+k1+10) (zK a n d).1 (zK a n d).2) :=
 (zKR w s _ _ _ _ _ _ _ _ k k1 k2 a.1 a.2 n d hs h1 h2 hk ae hd).mono λ r w' h=>by rw[hb] at h;exact h
theorem ln1_iv (w:World) (B0:Nat) (s u:Sp) (k b:Nat) (n:Int) (a c:Int × Int) (hs:SpAt w s k a.1 a.2) (hu:SpAt w u k c.1 c.2) (hU:SpC w B0 u) (hk:k<=100000000) (hb:s.bits=(b:Int)) (qI:b<=1000000) (hn:1<=n) (aT:n<=1000000000000) :
  Calls Tryz.prog 175 #[.agg s.q,.int .i64 n,.pointer (some ⟨B0,0,none⟩)] w (zH w b (k+k+8+4+10) (zK (zAJ b a c) (2*n-1) (2*n+1)).1 (zK (zAJ b a c) (2*n-1) (2*n+1)).2):=by
 obtain⟨W,hW⟩:∃ W,W=(w.alloc (.cells s.q 31)).alloc (.cells zCq 31):=⟨_,rfl⟩;have j6:Below w.heap.size w W:=by rw[hW];exact bl2 _ _ _
 have R:NoC W (w.heap.size+1):=by rw[hW];constructor<;>simp[go_sem]
 have HS:=zC (hs.bw j6);have HU:=zC (hu.bw j6);have l0:=hU.lt;obtain⟨y0,y1,y2,y3,y4⟩:=hU;have HB:=zC hb;clear hs hu hb
 go_enter Tryz.func175,Tryz.ntmps175
 go_wp2_with fail;rw[<- hW];clear hW;refine (zKC _ s u k b a c (zA HS) (zA HU) (by omega) (zA HB) qI).mono ?_
 rintro r' w1 ⟨v,rfl,J8,J6,b9⟩;have HV:=zC J8;clear J8 y0 y1 y2 y3 y4;replace R:=R.bw b9;replace j6:=zB j6 b9;go_wp2_with fail;refine (zD (2*n-1) _ (by omega) (by omega)).mono ?_
 rintro r' w2 ⟨j7,a2,n2,c2,rfl,A5,j8⟩;replace R:=R.bw j8;replace j6:=zB j6 j8;replace J6:=J6.bw j8;go_wp2_with fail;refine (zD (2*n+1) _ (by omega) (by omega)).mono ?_
 rintro r' w3 ⟨B9,a3,n3,c3,rfl,E7,m8⟩;replace R:=R.bw m8;replace j6:=zB j6 m8;replace J6:=J6.bw m8;replace A5:=A5.bw m8;go_wp2_with fail;refine (zBF _ v ⟨j7,a2,n2,c2⟩ ⟨B9,a3,n3,c3⟩ _ _ _ b _ (2*n-1) (2*n+1) J6 A5 E7 (by omega) (by omega) (by omega) (zA HV)).mono ?_
 rintro r' w4 ⟨t,rfl,I2,K5,p9⟩;obtain⟨q0,q1,q2,q3,q4,q5⟩:=R.bw p9;replace j6:=zB j6 p9;have HT:=zC I2;clear I2;go_wp2_with fail;refine bodyPost_ret (v:=.agg t.q) (by simp[results,Tryz.results175,go_sem,q0,q1,q2,q3,q4]) rfl ⟨t,rfl,zA HT,?_,?_⟩
 ·exact SpAt.put5 (K5.mono (by omega)) q0 q1 q2 q3 q4 _ _ _ _ _
 ·exact jV j6 (Nat.le_succ _) _ _ _ _ _
theorem en_ln (args:Array Value) (w:World):(callFunc 175 args).run Tryz.prog w=.ok (.enter 175 args) w:=by simp[go_sem,callFunc,Tryz.func175];kernel_rfl
theorem zHE (w:World) (x y:Nm) (k b N K:Nat) (n d:Int) (hx:IntAt w x.neg x.a x.n x.cap k n) (hy:IntAt w y.neg y.a y.n y.cap k d) (hk:k<=10000000) (h1:yU n d) (O9:16<=b) (hb:b<=1000000) (hN:zT (lnT n d b) N) (hK:Q (b+4)<P K) (nT:K<=10000000) :
  Calls Tryz.prog 155 #[.agg x.q,.agg y.q,.int .i64 b] w (zH w b (K+7) (kI (zN (lnT n d b) N) 2).1 (kI (zN (lnT n d b) N) 2).2):=by
 obtain⟨W,hW⟩:∃ W,W=((w.alloc (.cells x.q 29)).alloc (.cells y.q 29)).alloc (.cells zCq 31):=⟨_,rfl⟩;have j6:Below w.heap.size w W:=by rw[hW];exact bl3 _ _ _ _
 have X:NmC W w.heap.size x:=by rw[hW];constructor<;>simp[go_sem]
 have Y:NmC W (w.heap.size+1) y:=by rw[hW];constructor<;>simp[go_sem]
 have R:NoC W (w.heap.size+1+1):=by rw[hW];constructor<;>simp[go_sem]
 have HX:=zC (hx.bw j6);have HY:=zC (hy.bw j6);have lX:=X.lt;have lY:=Y.lt;have lR:=R.lt;have od:0<n+d:=by have:=h1.hn;have:=h1.hd;omega
 have Jv:=zE b
 have gY:Q b*16<P K:=by
  have e:Q (b+4)=2*(2*(2*(2*Q b))):=rfl;omega
 have Lb:=zMR h1 O9;have hfitz : -P K<(zI n d b).1/\(zI n d b).2<P K:=by have:=Lb.1;have:=Lb.2.2.2;omega
 have KG:=zMF h1 O9
 have hfitq : -P K<(zAJ b (zI n d b) (zI n d b)).1/\(zAJ b (zI n d b) (zI n d b)).2<P K:=by
  have:=KG.1;have:=KG.2.2.2;have:=zJ (show b-3<=b by omega);omega
 have AP:=zC hfitz;have OT:=zC hfitq;have VI:=zC (yB (n:=n-d) od b);have H1:=zC h1;have HN:=zC hN;have HK:=zC (show ∀ w',Below W.heap.size W w'->(nK w' w.heap.size x (nK0 w' (w.heap.size+1) y)) from λ w' hB=>⟨(X.bw hB).c0,(X.bw hB).c1,(Y.bw hB).c0,(Y.bw hB).c1⟩)
 clear hx hy Lb hfitz KG hfitq h1 hN
 go_enter Tryz.func155,Tryz.ntmps155
 go_wp2;rw[<- hW];clear hW;obtain⟨x0,x1,x2,x3⟩:=zA HK _ (Below.refl _ _)
 go_cut [7] (λ p wx=>∃ (B:Nat) (u:Sp),p=.pointer (some ⟨B,0,none⟩)/\W.heap.size<=B/\VrC wx B u/\SpAt wx u K (zI n d b).1 (zI n d b).2/\u.bits=(b:Int)/\Below W.heap.size W wx)
 case first =>
  go_region_held3 (λ w'=>nK w' w.heap.size x (nK0 w' (w.heap.size+1) y)) (exact zA HK _ (by repeat' (first|with_reducible exact bM|with_reducible exact L8|with_reducible exact G6|with_reducible exact Below.refl _ _|with_reducible refine Below.drew ?_|with_reducible refine zL ?_ _|with_reducible refine Below.setCell ?_ (by first|exact Yy _|exact S6|exact S7|exact fJ) _)))
   (first
    | (go_at_call 88;have hq:=L8;refine (jI _ _ _ _ _ _ _ _ _ _ b (n-d) (n+d) _ (J7.bw (by with_reducible first|exact Below.refl _ _|exact bl1 _ _)) (T5.bw (by with_reducible first|exact Below.refl _ _|exact bl1 _ _)) (by omega) hb od).mono ?_;rintro r xg ⟨Tg,rfl,rz,mh,eZ⟩;have Bk:=zC rz;clear rz;have av:Below fW.heap.size fW xg:=(by with_reducible first|exact eZ|exact zB (bl1 _ _) eZ);have bM:=zB L8 av;(try with_reducible have sN:=(zQ fW 31).bw eZ);replace J7:=J7.bw av;(try replace Y9:=Y9.bw av);replace T5:=T5.bw av;(try replace cT:=cT.bw av);have fJ:=bM.size;(try have pE:=Y9.lt);(try have PY:=YD pE);(try have BR:=YC pE);(try obtain⟨nv,nw,xW,ya,yc,Eo⟩:=Y9);(try have pF:=cT.lt);(try have PZ:=YD pF);(try have BT:=YC pF);(try obtain⟨ny,nD,yd,ye,yg,Ep⟩:=cT);(try have DK:=sN.lt);(try have Xj:=YD DK);(try have Iq:=YC DK);(try obtain⟨Er,Es,Et,Ew,Ey,Nv⟩:=sN))
    | (go_at_call 32;have hq:=G6;refine (zA3 _ _ _ _ _ _ _ _ k k n d _ ((zA HX).bw (by with_reducible first|exact G6|exact zL G6 _)) ((zA HY).bw (by with_reducible first|exact G6|exact zL G6 _)) (by omega) (by omega)).mono ?_;rintro r fW ⟨aQ,sG,wX,sH,rfl,T5,R6⟩;have Q2:Below ct.heap.size ct fW:=(by with_reducible first|exact R6|exact zB (bl1 _ _) R6);have L8:=zB G6 Q2;(try with_reducible have cT:=(zQ ct 31).bw R6);replace J7:=J7.bw Q2;(try replace Y9:=Y9.bw Q2);have S7:=L8.size)
    | (go_at_call 35;refine (zBP _ _ _ _ _ _ _ _ k k n d _ ((zA HX).bw (by with_reducible first|exact (Below.refl _ _).drew|exact (bl1 _ _).drew)) ((zA HY).bw (by with_reducible first|exact (Below.refl _ _).drew|exact (bl1 _ _).drew)) (by omega) (by omega)).mono ?_;rintro r ct ⟨bo,zd,Ax,ze,rfl,J7,R0⟩;have G6:Below W.heap.size W ct:=(by with_reducible first|exact zB (Below.refl _ _).drew R0|exact zB (bl1 _ _).drew R0);(try with_reducible have Y9:=((zQ W 31).bw (Below.refl _ _).drew).bw R0);have S6:=G6.size))
  all_goals
   have hfinU:SpAt xg Tg K (zI n d b).1 (zI n d b).2:=(mh.fits (K:=K) (zA VI) (zA AP).1 (zA AP).2);go_wp2_with fail;go_meet;refine⟨_,Tg,rfl,?_,⟨⟨?_,?_,?_,?_,?_⟩,?_⟩,?_,zA Bk,?_⟩
   ·first|exact Yy _|exact S6|exact S7|exact fJ
   ·simp[go_sem, *]
   ·simp[go_sem, *]
   ·simp[go_sem, *]
   ·simp[go_sem, *]
   ·simp[go_sem, *]
   ·intro o;simp[go_sem, *]
   ·first|with_reducible exact hfinU.bw (bl1 _ _)|with_reducible exact SpAt.put5 hfinU (by assumption) (by assumption) (by assumption) (by assumption) (by assumption) _ _ _ _ _
   ·repeat' (first|with_reducible exact bM|with_reducible exact L8|with_reducible exact G6|with_reducible exact Below.refl _ _|with_reducible refine Below.drew ?_|with_reducible refine zL ?_ _|with_reducible refine Below.setCell ?_ (by first|exact Yy _|exact S6|exact S7|exact fJ) _)
 case rest =>
 obtain⟨BU,xU,rfl,Cp,XU,hpU,hxbU,hblU⟩:=hcut;replace R:=R.bw hblU;replace j6:=zB j6 hblU;have lU:=XU.lt;have nRU:w.heap.size+1+1<BU:=by omega
 have Z6:=R.lt;have oH:=zC hxbU;have cE:=zC hpU;have FU:=XU.fz;obtain⟨z0,z1,z2,z3,z4⟩:=XU.c;clear hxbU hpU HX HY HK x0 x1 x2 x3 hblU X Y;go_wp2_with fail;refine (zKC _ xU xU K b (zI n d b) (zI n d b) (zA cE) (zA cE) (by omega) (zA oH) hb).mono ?_
 rintro r w1 ⟨v1,rfl,J2,T3,b9⟩;replace T3:=T3.fits (K:=K) (zB4 b) (zA OT).1 (zA OT).2;replace XU:=XU.bw b9;replace cE:=zC ((zA cE).bw b9);replace R:=R.bw b9;replace j6:=zB j6 b9;have sD:=zC J2;clear b9 J2 z0 z1 z2 z3 z4 FU;obtain⟨V,hV⟩:∃ V,V=w1.alloc (.cells v1.q 31):=⟨_,rfl⟩;have bV:Below w1.heap.size w1 V:=by rw[hV];exact bl1 _ _
 have S1:SpC V w1.heap.size v1:=by rw[hV];exact kO w1 v1 _
 have oG:=zC (T3.bw bV);have lU3:=XU.lt;have Z:=zC (XU.c);obtain⟨z0,z1,z2,z3,z4⟩:=XU.c;replace XU:=XU.bw bV;have iE:=R.lt;replace R:=R.bw bV;replace cE:=zC ((zA cE).bw bV);replace j6:=zB j6 bV;clear T3 bV;have Y2:=zC (zGH (zA H1) O9);have sj:=zC (zNP (zA H1) b)
 have gO:Hid (∀ j,j<=N -> -P K<(lnT n d b j).1/\(lnT n d b j).2<P K):=zC (λ j _=>by
  obtain⟨g1,g2,g3,g4⟩:=zA Y2 j;have:=zJ (show b-3*j<=b by omega)
  omega)
 have cD:Hid (∀ j,j<=N -> -P K<(jE (lnT n d b) j).1/\(jE (lnT n d b) j).2<P K):=zC (λ j hj=>by
  obtain⟨g1,g2,g3,g4⟩:=zFX (s:=3) (by omega) (zA Y2) (zA HN) j hj
  have:=zE (b-3*j)
  omega)
 have zq:N<=1000000000:=by
  obtain⟨N',n1,n2⟩:=zB6 (s:=3) (by omega) (zA Y2)
  have:N<=N':=Nat.not_lt.1 λ D9=>by have:=(zA HN).2 N' D9;have:=n2.1;omega
  omega
 go_wp2_with fail;rw[<- hV];clear hV;refine (zMH _ _ en_ln (lnT n d b) N b K (K+K+8+4+10) xU _ (zA cE) (zA oH) hb (by omega) (by omega) (zA HN) zq (zA sj) (zA gO) (zA cD) (λ j u w' hj B8 B7 R9=>?_)).mono ?_
 ·have e:=ln1_iv w' w1.heap.size u v1 K b ((j:Int)+1) (lnT n d b j) (zAJ b (zI n d b) (zI n d b)) B7 ((zA oG).bw R9) (S1.bw R9) (by omega) B8 hb (by omega) (by omega)
  have e1:2*((j:Int)+1)-1=2*(j:Int)+1:=by omega
  have e2:2*((j:Int)+1)+1=2*(j:Int)+3:=by omega
  rw[e1,e2] at e;exact e
 rintro r w2 ⟨v2,rfl,P5,W9,j8⟩;replace R:=R.bw j8;replace j6:=zB j6 j8;have dM:=zC P5;clear P5 j8;have lR4:=R.lt;obtain⟨V2,aR⟩:∃ V2,V2=w2.alloc (.cells v2.q 31):=⟨_,rfl⟩;have W3:Below w2.heap.size w2 V2:=by rw[aR];exact bl1 _ _
 replace W9:=W9.bw W3;replace R:=R.bw W3;replace j6:=zB j6 W3;go_wp2_with fail;rw[<- aR];clear aR W3;refine (zDR _ v2 (K+3) b 2 _ W9 (by omega) (zA dM) (by omega) (by omega)).mono ?_
 rintro r w3 ⟨v,rfl,J8,J6,m8⟩;obtain⟨q0,q1,q2,q3,q4,q5⟩:=R.bw m8;replace j6:=zB j6 m8;have HV:=zC J8;clear J8;go_wp2_with fail;refine bodyPost_ret (v:=.agg v.q) (by simp[results,Tryz.results155,go_sem,q0,q1,q2,q3,q4]) rfl ⟨v,rfl,zA HV,?_,?_⟩
 ·exact SpAt.put5 (J6.mono (by omega)) q0 q1 q2 q3 q4 _ _ _ _ _
 ·exact jV j6 (by omega) _ _ _ _ _
theorem NoC.offI {w:World} {B B':Nat} (h:NoC w B) (hne:B≠B') (u0 u1:Value):NoC ((w.setCell ⟨B',0,none⟩ u0).setCell ⟨B',1,none⟩ u1) B:=by
 obtain⟨q0,q1,q2,q3,q4,q5⟩:=h;exact⟨by simp[go_sem,q0,hne,Ne.symm hne],by simp[go_sem,q1,hne,Ne.symm hne],by simp[go_sem,q2,hne,Ne.symm hne],by simp[go_sem,q3,hne,Ne.symm hne],by simp[go_sem,q4,hne,Ne.symm hne],zAA q5 _ _⟩
theorem zBJ (w:World) (x y:Nm) (k b K:Nat) (n d:Int) (hx:IntAt w x.neg x.a x.n x.cap k n) (hy:IntAt w y.neg y.a y.n y.cap k d) (hk:k<=100000) (hn:0<n) (hd:0<d) (O9:16<=b) (hb:b<=1000000) (hK:Q (b+4)<P K) (nT:K<=10000000) :
  Calls Tryz.prog 125 #[.agg x.q,.agg y.q,.int .i64 b] w (λ r w'=>∃ (n' d' c:Int) (N N2:Nat),Bal n d n' d' c /\ -(16*k+1)<=c/\c<=16*k+1/\zT (lnT n' d' b) N/\zT (lnT 2 1 b) N2/\zH w b (K+20) (zGW (zN (lnT n' d' b) N) (zN (lnT 2 1 b) N2) c).1 (zGW (zN (lnT n' d' b) N) (zN (lnT 2 1 b) N2) c).2 r w'):=by
 obtain⟨W,hW⟩:∃ W,W=((w.alloc (.cells x.q 29)).alloc (.cells y.q 29)).alloc (.cells zCq 31):=⟨_,rfl⟩;have j6:Below w.heap.size w W:=by rw[hW];exact bl3 _ _ _ _
 have X:NmC W w.heap.size x:=by rw[hW];constructor<;>simp[go_sem]
 have FX:∀ o,W.frozen? ⟨w.heap.size,o,none⟩=false:=by rw[hW];intro o;simp[go_sem]
 have Y:NmC W (w.heap.size+1) y:=by rw[hW];constructor<;>simp[go_sem]
 have FY:∀ o,W.frozen? ⟨w.heap.size+1,o,none⟩=false:=by rw[hW];intro o;simp[go_sem]
 have R:NoC W (w.heap.size+1+1):=by rw[hW];constructor<;>simp[go_sem]
 have HX:=zC (hx.bw j6);have HY:=zC (hy.bw j6);have lX:=X.lt;have lY:=Y.lt;clear hx hy
 go_enter Tryz.func125,Tryz.ntmps125
 go_wp2_with fail;rw[<- hW];clear hW;refine (zJI _ x y k n d (zA HX) (zA HY) hn hd (by omega)).mono ?_
 rintro r w1 ⟨U,T,n',d',c,rfl,M3,E5,E9,iU,iT,b9⟩;have TF:∀ o,w1.frozen? ⟨w.heap.size,o,none⟩=false:=λ o=>(b9.frozen (p:=⟨w.heap.size,o,none⟩) lX).trans (FX o)
 have TG:∀ o,w1.frozen? ⟨w.heap.size+1,o,none⟩=false:=λ o=>(b9.frozen (p:=⟨w.heap.size+1,o,none⟩) lY).trans (FY o)
 replace X:=X.bw b9;replace Y:=Y.bw b9;replace R:=R.bw b9;replace j6:=zB j6 b9;have ot:=zC M3;clear b9 FX FY HX HY M3;obtain⟨V,hV⟩:∃ V,V=(((w1.setCell ⟨w.heap.size,0,none⟩ (.bool U.neg)).setCell ⟨w.heap.size,1,none⟩ (.slice U.a U.n U.cap)).setCell ⟨w.heap.size+1,0,none⟩ (.bool T.neg)).setCell ⟨w.heap.size+1,1,none⟩ (.slice T.a T.n T.cap):=⟨_,rfl⟩
 have hE:IntAt V U.neg U.a U.n U.cap (k+k+20) n'/\IntAt V T.neg T.a T.n T.cap (k+k+20) d'/\NoC V (w.heap.size+1+1)/\Below w.heap.size w V:=by
  rw[hV];have gI:=Y.off (B':=w.heap.size) (by omega) (.bool U.neg) (.slice U.a U.n U.cap)
  have i1:=iU.put2 X.c0 X.c1 (.bool U.neg) (.slice U.a U.n U.cap);have i2:=iT.put2 X.c0 X.c1 (.bool U.neg) (.slice U.a U.n U.cap);have r1:=R.offI (B':=w.heap.size) (by omega) (.bool U.neg) (.slice U.a U.n U.cap)
  have b1:=zE2 j6 (Yy _) (.bool U.neg) (.slice U.a U.n U.cap);generalize (w1.setCell ⟨w.heap.size,0,none⟩ (.bool U.neg)).setCell ⟨w.heap.size,1,none⟩ (.slice U.a U.n U.cap)=V0 at *;exact⟨i1.put2 gI.c0 gI.c1 _ _,i2.put2 gI.c0 gI.c1 _ _,r1.offI (by omega) _ _,zE2 b1 (Nat.le_succ _) _ _⟩
 obtain⟨jU,jT,R2,o9⟩:=hE;have OW:=zC jU;have OV:=zC jT;obtain⟨x0,x1⟩:=X;obtain⟨y0,y1⟩:=Y;have RV:w.heap.size<w1.heap.size:=World.block_lt_of_cell? w1 ⟨w.heap.size,0,none⟩ x0;have lY1:w.heap.size+1<w1.heap.size:=World.block_lt_of_cell? w1 ⟨w.heap.size+1,0,none⟩ y0;clear iU iT R j6 jU jT;go_wp2_with fail;rw[<- hV];clear hV x0 x1 y0 y1 TF TG;obtain⟨N,T8,X6⟩:=zB6 (s:=3) (by omega) (zGH (zA ot).1 O9)
 obtain⟨N2,zo,QI⟩:=zB6 (s:=3) (by omega) (zGH zTD O9)
 have Hd:=zC X6;have yx:=zC QI;clear T8 X6 zo QI;refine (zHE _ U T (k+k+20) b N K n' d' (zA OW) (zA OV) (by omega) (zA ot).1 O9 hb (zA Hd) hK nT).mono ?_
 rintro r w3 ⟨v3,rfl,G7,O5,m8⟩;replace R2:=R2.bw m8;have lw3:=R2.lt;replace o9:=zB o9 m8;have iI:=zC G7;clear m8 G7 OW OV;obtain⟨V3,I0⟩:∃ V3,V3=w3.alloc (.cells v3.q 31):=⟨_,rfl⟩;have cO:Below w3.heap.size w3 V3:=by rw[I0];exact bl1 _ _
 have C3:SpC V3 w3.heap.size v3:=by rw[I0];exact kO w3 v3 _
 replace O5:=O5.bw cO;replace R2:=R2.bw cO;replace o9:=zB o9 cO;clear cO;go_wp2_with fail;rw[<- I0];clear I0;refine (zD 2 _ (by decide) (by decide)).mono ?_
 rintro r w4 ⟨E4,a4,n4,c4,rfl,H8,p9⟩;replace C3:=C3.bw p9;replace O5:=O5.bw p9;replace R2:=R2.bw p9;replace o9:=zB o9 p9;clear p9;go_wp2_with fail;refine (zD 1 _ (by decide) (by decide)).mono ?_
 rintro r w5 ⟨J3,a5,n5,c5,rfl,O0,D8⟩;replace C3:=C3.bw D8;replace O5:=O5.bw D8;replace R2:=R2.bw D8;replace o9:=zB o9 D8;replace H8:=H8.bw D8;clear D8;go_wp2_with fail;refine (zHE _ ⟨E4,a4,n4,c4⟩ ⟨J3,a5,n5,c5⟩ 4 b N2 K 2 1 H8 O0 (by omega) zTD O9 hb (zA yx) hK nT).mono ?_
 rintro r w6 ⟨v6,rfl,Dt,Dw,K7⟩;have lC3:=C3.lt;have l36:w3.heap.size<w6.heap.size:=YB lC3 K7.size;replace C3:=C3.bw K7;replace O5:=O5.bw K7;replace R2:=R2.bw K7;replace o9:=zB o9 K7;have Pk:=zC Dt;clear K7 Dt H8 O0;obtain⟨V6,lJ⟩:∃ V6,V6=w6.alloc (.cells v6.q 31):=⟨_,rfl⟩;have cP:Below w6.heap.size w6 V6:=by rw[lJ];exact bl1 _ _
 have C6:SpC V6 w6.heap.size v6:=by rw[lJ];exact kO w6 v6 _
 replace C3:=C3.bw cP;have Pc:=zC (Dw.bw cP);have Pb:=zC (O5.bw cP);replace R2:=R2.bw cP;replace o9:=zB o9 cP;have Z6:=R2.lt;have Z7:=zC (show ∀ w',Below V6.heap.size V6 w'->(cK w' w3.heap.size v3 (cK0 w' w6.heap.size v6)) from λ w' hB=>⟨(C3.bw hB).c0,(C3.bw hB).c1,(C3.bw hB).c2,(C3.bw hB).c3,(C3.bw hB).c4,(C6.bw hB).c0,(C6.bw hB).c1,(C6.bw hB).c2,(C6.bw hB).c3,(C6.bw hB).c4⟩)
 have D5:Below V6.heap.size V6 V6.drew:=(Below.refl _ _).drew;have l3:=C3.lt;have l6:=C6.lt;have m1:w.heap.size+1+1≠w3.heap.size:=by omega
 have m2:w.heap.size+1+1≠w6.heap.size:=by omega
 have m3:w3.heap.size≠w.heap.size+1+1:=by omega
 have m4:w6.heap.size≠w.heap.size+1+1:=by omega
 clear O5 Dw cP C3 C6;have hkk:k<=100000:=hk
 by_cases hcz:c<0
 ·go_wp2_with fail
  rw[<- lJ];clear lJ;obtain⟨e0,e1,e2,e3,e4,e5,e6,e7,e8,e9⟩:=zA Z7 _ (Below.refl _ _);have Vy:=zC (show IntKind.i64.wrap (-c) = -c from jH _ (by omega) (by omega))
  go_region_held3 (λ w'=>cK w' w3.heap.size v3 (cK0 w' w6.heap.size v6)) (first|exact zA Z7 _ (by with_reducible first|exact D5|exact s9|exact y9)|(dsimp only[cK,cK0,nK,nK0,rK,rK0];go_keep)|go_keep)
   (first
    | (go_at_call 92;have hq:=y9;refine (zHO _ v3 v7 (K+11) b (kI (zN (lnT n' d' b) N) 2) (kI (kI (zN (lnT 2 1 b) N2) 2) (-c)) (((zA Pb).bw y9).mono (by omega)) (iC.mono (by omega)) (by omega) (zA iI)).mono ?_;rintro r' w8 ⟨v,rfl,J8,J6,T9⟩;have s9:=zB y9 T9;have HV:=zC J8;clear J8;obtain⟨q0,q1,q2,q3,q4,q5⟩:=R2.bw s9;obtain⟨z0,z1,z2,z3,z4,z5,z6,z7,z8,z9⟩:=zA Z7 _ s9)
    | (go_at_call 156;rw[zA Vy];refine (zDR _ v6 (K+7) b (-c) (kI (zN (lnT 2 1 b) N2) 2) ((zA Pc).bw D5) (by omega) (zA Pk) (by omega) (by omega)).mono ?_;rintro r' w7 ⟨v7,rfl,dy,iC,Q7⟩;have EV:=zC dy;clear dy;have y9:=zB D5 Q7))
  all_goals
   go_wp2_with fail;refine bodyPost_ret (v:=.agg v.q) (by simp[results,Tryz.results125,go_sem,q0,q1,q2,q3,q4]) rfl ⟨n',d',c,N,N2,zA ot,E5,E9,zA Hd,zA yx,v,rfl,zA HV,?_,?_⟩
   ·refine SpAt.put5 ?_ q0 q1 q2 q3 q4 _ _ _ _ _
    unfold zGW;rw[if_pos hcz];exact J6.mono (by omega)
   ·exact jV (zB o9 s9) (by omega) _ _ _ _ _
 ·go_wp2_with fail
  rw[<- lJ];clear lJ;obtain⟨e0,e1,e2,e3,e4,e5,e6,e7,e8,e9⟩:=zA Z7 _ (Below.refl _ _);have hcz':¬ c<0:=by omega
  go_region_held3 (λ w'=>cK w' w3.heap.size v3 (cK0 w' w6.heap.size v6)) (first|exact zA Z7 _ (by with_reducible first|exact D5|exact s9|exact y9)|(dsimp only[cK,cK0,nK,nK0,rK,rK0];go_keep)|go_keep)
   (first
    | (go_at_call 51;have hq:=y9;refine (zC2 _ v3 v7 (K+11) b (kI (zN (lnT n' d' b) N) 2) (kI (kI (zN (lnT 2 1 b) N2) 2) c) (((zA Pb).bw y9).mono (by omega)) (iC.mono (by omega)) (by omega) (zA iI)).mono ?_;rintro r' w8 ⟨v,rfl,J8,J6,T9⟩;have s9:=zB y9 T9;have HV:=zC J8;clear J8;obtain⟨q0,q1,q2,q3,q4,q5⟩:=R2.bw s9;obtain⟨z0,z1,z2,z3,z4,z5,z6,z7,z8,z9⟩:=zA Z7 _ s9)
    | (go_at_call 156;refine (zDR _ v6 (K+7) b c (kI (zN (lnT 2 1 b) N2) 2) ((zA Pc).bw D5) (by omega) (zA Pk) (by omega) (by omega)).mono ?_;rintro r' w7 ⟨v7,rfl,dy,iC,Q7⟩;have EV:=zC dy;clear dy;have y9:=zB D5 Q7))
  all_goals
   go_wp2_with fail;refine bodyPost_ret (v:=.agg v.q) (by simp[results,Tryz.results125,go_sem,q0,q1,q2,q3,q4]) rfl ⟨n',d',c,N,N2,zA ot,E5,E9,zA Hd,zA yx,v,rfl,zA HV,?_,?_⟩
   ·refine SpAt.put5 ?_ q0 q1 q2 q3 q4 _ _ _ _ _
    unfold zGW;rw[if_neg (show ¬ c<0 by omega)]
    exact J6.mono (by omega)
   ·exact jV (zB o9 s9) (by omega) _ _ _ _ _
def zOM (lo hi:Int) (i:Nat) (lo' hi':Int) (j:Nat):Bool:=decide (lo*Q i<=hi'*Q j) && decide (lo'*Q j<=hi*Q i)
theorem zH0 (x:Int) (a b:Int) (i:Nat) (h:b-a=(i:Int)):zA5 x (a-b)=x*Q i:=by
 unfold zA5
 by_cases h0:i=0
 ·subst h0
  have e:a-b=0:=by omega
  rw[e];simp[Q]
 ·rw[if_neg (by omega)];congr 2;omega
theorem zJT (x:Int) (a b:Int) (i:Nat) (h:b-a=(i:Int)) : -(zA5 (-x) (a-b))=x*Q i:=by
 rw[zH0 _ a b i h,Int.neg_mul,Int.neg_neg]
theorem touch_le (w:World) (s t:Sp) (k i j:Nat) (lo hi lo' hi':Int) (hs:SpAt w s k lo hi) (ht:SpAt w t k lo' hi') (hk:k<=300000000) (s0:0<=s.bits) (s1:s.bits<=1000000) (t0:0<=t.bits) (t1:t.bits<=1000000) (hc:t.bits<=s.bits) (iQ:s.bits-s.bits=(i:Int)) (CR:s.bits-t.bits=(j:Int)) :
  Calls Tryz.prog 14 #[.agg s.q,.agg t.q] w λ r w'=>r=.returned (.bool (zOM lo hi i lo' hi' j))/\Below w.heap.size w w':=by
 obtain⟨W,hW⟩:∃ W,W=(w.alloc (.cells s.q 38)).alloc (.cells t.q 38):=⟨_,rfl⟩;have j6:Below w.heap.size w W:=by rw[hW];exact bl2 _ _ _
 have A:SpC W w.heap.size s:=by rw[hW];constructor<;>simp[go_sem]
 have G:SpC W (w.heap.size+1) t:=by rw[hW];constructor<;>simp[go_sem]
 have FA:∀ o,W.frozen? ⟨w.heap.size,o,none⟩=false:=by intro o;rw[hW];simp[go_sem]
 have FG:∀ o,W.frozen? ⟨w.heap.size+1,o,none⟩=false:=by intro o;rw[hW];simp[go_sem]
 have a1:=zC (zH0 lo s.bits (s.bits) i iQ);have a2:=zC (zJT hi s.bits (s.bits) i iQ);have a3:=zC (zH0 lo' t.bits (s.bits) j CR);have a4:=zC (zJT hi' t.bits (s.bits) j CR);have HS:=zC (hs.bw j6);have HT:=zC (ht.bw j6);have HA:=zC A;have HG:=zC G;have lA:=A.lt;have lG:=G.lt;have nAG:w.heap.size≠w.heap.size+1:=by omega
 clear iQ CR hs ht
 go_enter Tryz.func14,Tryz.ntmps14
 go_wp2_with fail;rw[<- hW];clear hW;obtain⟨x0,x1,x2,x3,x4⟩:=A;obtain⟨y0,y1,y2,y3,y4⟩:=G
 try go_wp2_with fail
 go_cut [] (λ wx=>∃ s2 t2:Sp,SpC wx w.heap.size s2/\SpC wx (w.heap.size+1) t2/\SpAt wx s2 (k+62505) (lo*Q i) (hi*Q i)/\SpAt wx t2 (k+62505) (lo'*Q j) (hi'*Q j)/\Below w.heap.size w wx)
 case first =>
  go_region_with
   (first
    | (go_at_call 52;have hq:=A7;refine (zGP _ t k (s.bits) lo' hi' ((zA HT).bw A7) hk t0 t1 (by omega) (by omega)).mono ?_;rintro r w2 ⟨u2,rfl,KR,Ds,j8⟩;rw[zA a3,zA a4] at Ds;clear KR;have o9:=zB A7 j8;replace pk:=pk.bw j8;have l2A:=YB lA o9.size;have l2G:=YB lG o9.size;obtain⟨a0,a1,a2,a3,a4⟩:=(zA HA).bw o9;obtain⟨g0,g1,g2,g3,g4⟩:=(zA HG).bw o9;have cw:∀ o,w2.frozen? ⟨w.heap.size,o,none⟩=false:=(λ o=>(o9.frozen (p:=⟨w.heap.size,o,none⟩) lA).trans (FA o));have fG2:∀ o,w2.frozen? ⟨w.heap.size+1,o,none⟩=false:=(λ o=>(o9.frozen (p:=⟨w.heap.size+1,o,none⟩) lG).trans (FG o)))
    | (go_at_call 52;refine (zGP _ s k (s.bits) lo hi ((zA HS).bw (by repeat' (first|with_reducible exact Below.refl _ _|with_reducible refine Below.drew ?_))) hk s0 s1 (by omega) (by omega)).mono ?_;rintro r w1 ⟨u1,rfl,KQ,pk,b9⟩;rw[zA a1,zA a2] at pk;clear KQ;have A7:Below W.heap.size W w1:=zB (by repeat' (first|with_reducible exact Below.refl _ _|with_reducible refine Below.drew ?_)) b9;obtain⟨b0,b1,b2,b3,b4⟩:=(zA HA).bw A7;obtain⟨d0,d1,d2,d3,d4⟩:=(zA HG).bw A7;have l1A:=YB lA A7.size;have l1G:=YB lG A7.size))
  all_goals
   go_wp2_with fail;go_meet;have A2:SpC w2 w.heap.size s:=⟨a0,a1,a2,a3,a4⟩;have G2:SpC w2 (w.heap.size+1) t:=⟨g0,g1,g2,g3,g4⟩;obtain⟨p1,p2,p3,p4⟩:=two_sp A2 G2 nAG u1 u2;exact⟨u1,u2,p1,p2,p3 pk,p3 Ds,jV (jV (zB j6 o9) (Yy _) _ _ _ _ _) (Nat.le_succ _) _ _ _ _ _⟩
 case rest =>
 obtain⟨s2,t2,A,G,hs,ht,j6⟩:=hcut;clear HA HG HS HT lA lG x0 x1 x2 x3 x4 y0 y1 y2 y3 y4 FA FG;have lA:=A.lt;have lG:=G.lt
 by_cases hq:lo*Q i<=hi'*Q j
 ·have c1:zM (lo*Q i) (hi'*Q j)<=0:=by unfold zM;split;omega;rw[if_neg (by omega)];omega
  have HE:=zC (show decide (zM (lo'*Q j) (hi*Q i)<=0)=zOM lo hi i lo' hi' j by rw[zLR];unfold zOM;rw[decide_eq_true hq,Bool.true_and])
  obtain⟨x0,x1,x2,x3,x4⟩:=A;obtain⟨y0,y1,y2,y3,y4⟩:=G;clear hq;go_wp2_with fail;refine (jP _ _ _ _ _ _ _ _ (k+62505) (k+62505) (lo*Q i) (hi'*Q j) _ hs.lo ht.hi).mono ?_;rintro r w1 ⟨rfl,b9⟩;have A:=(SpC.mk x0 x1 x2 x3 x4).bw b9;have G:=(SpC.mk y0 y1 y2 y3 y4).bw b9;replace hs:=hs.bw b9;replace ht:=ht.bw b9;replace j6:=zB j6 b9;clear x0 x1 x2 x3 x4 y0 y1 y2 y3 y4 b9;obtain⟨x0,x1,x2,x3,x4⟩:=A;obtain⟨y0,y1,y2,y3,y4⟩:=G;go_wp2_with fail;refine (jP _ _ _ _ _ _ _ _ (k+62505) (k+62505) (lo'*Q j) (hi*Q i) _ ht.lo hs.hi).mono ?_;rintro r w2 ⟨rfl,j8⟩;replace j6:=zB j6 j8;go_wp2_with fail
  go_ret
  exact⟨by rw[<- zA HE];rfl,j6⟩
 ·have c1:¬ zM (lo*Q i) (hi'*Q j)<=0:=by unfold zM;rw[if_neg (by omega),if_pos (by omega)];omega
  have HE:=zC (show zOM lo hi i lo' hi' j=false by unfold zOM;rw[decide_eq_false hq,Bool.false_and])
  obtain⟨x0,x1,x2,x3,x4⟩:=A;obtain⟨y0,y1,y2,y3,y4⟩:=G;clear hq;go_wp2_with fail;refine (jP _ _ _ _ _ _ _ _ (k+62505) (k+62505) (lo*Q i) (hi'*Q j) _ hs.lo ht.hi).mono ?_;rintro r w1 ⟨rfl,b9⟩;replace j6:=zB j6 b9;go_wp2_with fail
  go_ret
  exact⟨by rw[zA HE];rfl,j6⟩
theorem zJ3 (w:World) (s t:Sp) (k:Nat) (lo hi lo' hi':Int) (hs:SpAt w s k lo hi) (ht:SpAt w t k lo' hi') (hk:k<=300000000) (s0:0<=s.bits) (s1:s.bits<=1000000) (Dn:t.bits=s.bits) :
  Calls Tryz.prog 20 #[.agg s.q,.agg t.q] w λ r w'=>r=.returned (.bool (zOM lo hi 0 lo' hi' 0))/\Below w.heap.size w w':=by
 obtain⟨W,hW⟩:∃ W,W=(w.alloc (.cells s.q 31)).alloc (.cells t.q 31):=⟨_,rfl⟩;have j6:Below w.heap.size w W:=by rw[hW];exact bl2 _ _ _
 have A:SpC W w.heap.size s:=by rw[hW];constructor<;>simp[go_sem]
 have C:SpC W (w.heap.size+1) t:=by rw[hW];constructor<;>simp[go_sem]
 have HS:=zC (hs.bw j6);have HT:=zC (ht.bw j6);have gm:=zC Dn;have HK:=zC (show ∀ w',Below W.heap.size W w'->(cK w' w.heap.size s (cK0 w' (w.heap.size+1) t)) from λ w' hB=>⟨(A.bw hB).c0,(A.bw hB).c1,(A.bw hB).c2,(A.bw hB).c3,(A.bw hB).c4,(C.bw hB).c0,(C.bw hB).c1,(C.bw hB).c2,(C.bw hB).c3,(C.bw hB).c4⟩)
 clear A C hs ht Dn
 go_enter Tryz.func20,Tryz.ntmps20
 go_wp2;rw[<- hW];clear hW;obtain⟨x0,x1,x2,x3,x4,y0,y1,y2,y3,y4⟩:=zA HK _ (Below.refl _ _);have D5:Below W.heap.size W W.drew:=(Below.refl _ _).drew
 go_region_held3 (λ w'=>cK w' w.heap.size s (cK0 w' (w.heap.size+1) t)) (first|exact zA HK _ (by with_reducible first|exact D5|exact G0|exact s9|exact y9)|(dsimp only[cK,cK0,nK,nK0,rK,rK0];go_keep)|go_keep)
  (first
   | (go_at_call 14;have hq:=s9;refine (touch_le _ s t k 0 0 lo hi lo' hi' ((zA HS).bw s9) ((zA HT).bw s9) hk s0 s1 (by have:=zA gm;omega) (by have:=zA gm;omega) (by have:=zA gm;omega) (by omega) (by have:=zA gm;omega)).mono ?_;rintro r' w3 ⟨rfl,m8⟩;have G0:=zB s9 m8)
   | (go_at_call 15;have hq:=y9;refine (zDI _ t).mono ?_;rintro r' w2 ⟨rfl,j8⟩;have s9:=zB y9 j8)
   | (go_at_call 15;refine (zDI _ s).mono ?_;rintro r' w1 ⟨rfl,b9⟩;have y9:=zB D5 b9))
 all_goals
  go_wp2_with fail
  go_ret
  exact⟨rfl,zB j6 G0⟩
theorem zO2 (c n:Int) (w:World) (h1 : -9223372036854775808<=c) (h2:c<=9223372036854775807) (hn:1<=n) (aT:n<=1000000) :
  Calls Tryz.prog 18 #[.int .i64 c,.int .i64 n] w λ r w'=>∃ z:Int,r=.returned (.int .i64 z)/\0<=z/\z<n/\Below w.heap.size w w':=by
 have dt:n≠0:=by omega
 by_cases hc:c<0
 ·have hv : -((c+1).tmod n)=(-(c+1)) % n:=by rw[<- Int.neg_tmod,Int.tmod_eq_emod_of_nonneg (by omega)]
  have HV:=zC (show 0 <= -((c+1).tmod n) /\ -((c+1).tmod n)<n by rw[hv];exact⟨Int.emod_nonneg _ dt,Int.emod_lt_of_pos _ (by omega)⟩)
  have dM:=zC (show 0<=(-(c+1)) % n/\(-(c+1)) % n<n from⟨Int.emod_nonneg _ dt,Int.emod_lt_of_pos _ (by omega)⟩)
  clear hv
  go_enter Tryz.func18,Tryz.ntmps18
  go_wp2_with fail
  go_ret
  first
   | exact⟨_,rfl,(zA HV).1,(zA HV).2,Below.refl _ _⟩
   | exact⟨_,rfl,(zA dM).1,(zA dM).2,Below.refl _ _⟩
 ·have hv:c.tmod n=c % n:=Int.tmod_eq_emod_of_nonneg (by omega)
  have HV:=zC (show 0<=c.tmod n/\c.tmod n<n by rw[hv];exact⟨Int.emod_nonneg _ dt,Int.emod_lt_of_pos _ (by omega)⟩)
  have dM:=zC (show 0<=c % n/\c % n<n from⟨Int.emod_nonneg _ dt,Int.emod_lt_of_pos _ (by omega)⟩)
  clear hv
  go_enter Tryz.func18,Tryz.ntmps18
  go_wp2_with fail
  go_ret
  first
   | exact⟨_,rfl,(zA HV).1,(zA HV).2,Below.refl _ _⟩
   | exact⟨_,rfl,(zA dM).1,(zA dM).2,Below.refl _ _⟩
theorem cmp_gt {x y:Int} (h:y<x):0<zM x y:=by unfold zM;rw[if_neg (by omega),if_pos h];omega
theorem cmp_le {x y:Int} (h:x<=y):¬ 0<zM x y:=by unfold zM;split<;>(try split)<;>omega
end Go.Proofs.YtgmnknmjainabacGreat
