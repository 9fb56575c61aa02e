/-
  Its own texts.
-/
import Derived.Test.YtgmnknmjainababGreatK17
set_option maxRecDepth 100000
set_option maxHeartbeats 8000000
set_option linter.unnecessarySimpa false
set_option linter.unusedSimpArgs false
set_option linter.unusedVariables false
namespace Go.Proofs.YtgmnknmjainababGreat
open Go.RowKit
attribute [local go_sem ↓] Go.wp_at_zero Go.wp_at_succ
def BalAns (w:World) (k:Nat) (n d:Int) (r:Ending) (w':World):Prop :=
 ∃ (X Y:Nm) (n' d' c:Int),r=.returned (.tuple #[.agg #[.bool X.neg,.slice X.a X.n X.cap],.agg #[.bool Y.neg,.slice Y.a Y.n Y.cap],.int .i64 c])∧Bal n d n' d' c ∧ -(16*k+1)≤c∧c≤16*k+1∧IntAt w' X.neg X.a X.n X.cap (k+k+20) n'∧IntAt w' Y.neg Y.a Y.n Y.cap (k+k+20) d'∧Below w.heap.size w w'
theorem bal_near {n d:Int} {L L':Nat} (h1:Q L≤n) (h2:n<Q (L+1)) (h3:Q L'≤d) (h4:d<Q (L'+1)) (a b:Nat) (hab:L+a=L'+b):n*Q a<2*(d*Q b)∧d*Q b<2*(n*Q a):=by
 have qa:=zG a;have qb:=zG b;have e1:Q L*Q a=Q L'*Q b:=by rw[← jC,← jC,hab]
 have e2:Q (L+1)=2*Q L:=rfl;have e3:Q (L'+1)=2*Q L':=rfl;have g1:=Int.mul_le_mul_of_nonneg_right h1 (show 0≤Q a by omega)
 have g2:=Int.mul_lt_mul_of_pos_right h2 (show 0<Q a by omega)
 have g3:=Int.mul_le_mul_of_nonneg_right h3 (show 0≤Q b by omega)
 have g4:=Int.mul_lt_mul_of_pos_right h4 (show 0<Q b by omega)
 rw[e2,Int.mul_assoc] at g2;rw[e3,Int.mul_assoc] at g4;omega
theorem bal_a {n d n1 d1 c:Int} (hn:0<n1) (hd:0<d1) (h1:0≤c→n*d1=n1*d*Q c.toNat) (h2:c<0→n*d1*Q (-c).toNat=n1*d) (g1:n1<2*d1) (g2:d1<2*n1) (hc:d1*3<n1*2):Bal n d n1 (d1*2) (c+1):=by
 refine ⟨⟨hn,by omega,by omega,by omega⟩,fun h=>?_,fun h=>?_⟩
 ·by_cases h0:0≤c
  ·have e:=h1 h0
   have:(c+1).toNat=c.toNat+1:=by omega
   rw[this];have e2:Q (c.toNat+1)=2*Q c.toNat:=rfl;rw[e2];have:n*(d1*2)=2*(n*d1):=by grind
   rw[this,e];grind
  ·have hc:c = -1:=by omega
   have e:=h2 (by omega)
   subst hc;have e3:Q (-(-1:Int)).toNat=2:=rfl;rw[e3] at e;have e4:Q ((-1:Int)+1).toNat=1:=rfl;rw[e4];have:n*(d1*2)=n*d1*2:=by grind
   rw[this,e];grind
 ·have e:=h2 (by omega)
  have:(-c).toNat=(-(c+1)).toNat+1:=by omega
  rw[this] at e;have e2:Q ((-(c+1)).toNat+1)=2*Q (-(c+1)).toNat:=rfl;rw[e2] at e;rw[← e];grind
theorem bal_b {n d n1 d1 c:Int} (hn:0<n1) (hd:0<d1) (h1:0≤c→n*d1=n1*d*Q c.toNat) (h2:c<0→n*d1*Q (-c).toNat=n1*d) (g1:n1<2*d1) (g2:d1<2*n1) (hc:n1*4<d1*3):Bal n d (n1*2) d1 (c-1):=by
 refine ⟨⟨by omega,hd,by omega,by omega⟩,fun h=>?_,fun h=>?_⟩
 ·have e:=h1 (by omega)
  have:c.toNat=(c-1).toNat+1:=by omega
  rw[this] at e;have e2:Q ((c-1).toNat+1)=2*Q (c-1).toNat:=rfl;rw[e2] at e;rw[e];grind
 ·by_cases h0:0≤c
  ·have hc:c=0:=by omega
   have e:=h1 h0;subst hc;have e3:Q ((0:Int)).toNat=1:=rfl;rw[e3] at e;have e4:Q (-((0:Int)-1)).toNat=2:=rfl;rw[e4,e];grind
  ·have e:=h2 (by omega)
   have:(-(c-1)).toNat=(-c).toNat+1:=by omega
   rw[this];have e2:Q ((-c).toNat+1)=2*Q (-c).toNat:=rfl;rw[e2];have:n*d1*(2*Q (-c).toNat)=2*(n*d1*Q (-c).toNat):=by grind
   rw[this,e];grind
theorem bal_c {n d n1 d1 c:Int} (hn:0<n1) (hd:0<d1) (h1:0≤c→n*d1=n1*d*Q c.toNat) (h2:c<0→n*d1*Q (-c).toNat=n1*d) (hc:¬ d1*3<n1*2) (hc2:¬ n1*4<d1*3):Bal n d n1 d1 c :=
 ⟨⟨hn,hd,by omega,by omega⟩,h1,h2⟩
theorem zPW {w:World} {neg:Bool} {a:Option Addr} {n cap k:Nat} {z:Int} {L:Nat} (h:IntAt w neg a n cap k z) (hL:Q L≤z) (hz:0≤z):L<16*k+1:=by
 obtain ⟨d,h1,h2,h3,h4,h5⟩:=h;have hV:=zGU h1.dgs n;have hV0:=jB h1.dgs n;have hP:=zA0 h4;have eP:=Q_P k
 have hz2:z<Q (16*k):=by
  cases neg
  ·simp[sgn] at h5;omega
  ·simp[sgn] at h5;have:=zG (16*k);omega
 refine Nat.lt_of_not_le fun h=>?_
 have:=zJ (show 16*k≤L by omega)
 omega
theorem zE3 (neg:Bool) (a:Option Addr) (n cap:Nat) (κ:Int) (A k1:Nat) (x:Int) (w:World) (hκ:κ=(A:Int)) (h1:IntAt w neg a n cap k1 x) (hk1:k1≤1000000000) (hk:A≤1000000000) :
  Calls Tryz.prog 95 #[.agg #[.bool neg,.slice a n cap],.int .i64 κ] w (zDF w (A/16+k1+1) (x*Q A)):=by
 subst hκ;exact zAS neg a n cap A k1 x w h1 hk1 hk
theorem zJY {w wc w2:World} {x y:Nm} {K:Nat} {z1 z2:Int} (hD:Below wc.heap.size wc w2) (hx:NmC w2 w.heap.size x) (hy:NmC w2 (w.heap.size+1) y) (X Y:Nm) (iX:IntAt w2 X.neg X.a X.n X.cap K z1) (iY:IntAt w2 Y.neg Y.a Y.n Y.cap K z2) (R:NoI wc (w.heap.size+1+1)) (R2:NoI wc (w.heap.size+1+1+1)) (hB:Below w.heap.size w wc) :
  ∃ X' Y':Nm,NmC ((((w2.setCell ⟨w.heap.size,0,none⟩ (.bool X.neg)).setCell ⟨w.heap.size,1,none⟩ (.slice X.a X.n X.cap)).setCell ⟨w.heap.size+1,0,none⟩ (.bool Y.neg)).setCell ⟨w.heap.size+1,1,none⟩ (.slice Y.a Y.n Y.cap)) w.heap.size X'∧NmC ((((w2.setCell ⟨w.heap.size,0,none⟩ (.bool X.neg)).setCell ⟨w.heap.size,1,none⟩ (.slice X.a X.n X.cap)).setCell ⟨w.heap.size+1,0,none⟩ (.bool Y.neg)).setCell ⟨w.heap.size+1,1,none⟩ (.slice Y.a Y.n Y.cap)) (w.heap.size+1) Y'∧IntAt ((((w2.setCell ⟨w.heap.size,0,none⟩ (.bool X.neg)).setCell ⟨w.heap.size,1,none⟩ (.slice X.a X.n X.cap)).setCell ⟨w.heap.size+1,0,none⟩ (.bool Y.neg)).setCell ⟨w.heap.size+1,1,none⟩ (.slice Y.a Y.n Y.cap)) X'.neg X'.a X'.n X'.cap K z1∧IntAt ((((w2.setCell ⟨w.heap.size,0,none⟩ (.bool X.neg)).setCell ⟨w.heap.size,1,none⟩ (.slice X.a X.n X.cap)).setCell ⟨w.heap.size+1,0,none⟩ (.bool Y.neg)).setCell ⟨w.heap.size+1,1,none⟩ (.slice Y.a Y.n Y.cap)) Y'.neg Y'.a Y'.n Y'.cap K z2∧NoI ((((w2.setCell ⟨w.heap.size,0,none⟩ (.bool X.neg)).setCell ⟨w.heap.size,1,none⟩ (.slice X.a X.n X.cap)).setCell ⟨w.heap.size+1,0,none⟩ (.bool Y.neg)).setCell ⟨w.heap.size+1,1,none⟩ (.slice Y.a Y.n Y.cap)) (w.heap.size+1+1)∧NoI ((((w2.setCell ⟨w.heap.size,0,none⟩ (.bool X.neg)).setCell ⟨w.heap.size,1,none⟩ (.slice X.a X.n X.cap)).setCell ⟨w.heap.size+1,0,none⟩ (.bool Y.neg)).setCell ⟨w.heap.size+1,1,none⟩ (.slice Y.a Y.n Y.cap)) (w.heap.size+1+1+1)∧Below w.heap.size w ((((w2.setCell ⟨w.heap.size,0,none⟩ (.bool X.neg)).setCell ⟨w.heap.size,1,none⟩ (.slice X.a X.n X.cap)).setCell ⟨w.heap.size+1,0,none⟩ (.bool Y.neg)).setCell ⟨w.heap.size+1,1,none⟩ (.slice Y.a Y.n Y.cap)):=by
 have hy1:=hy.off (B':=w.heap.size) (by omega) (.bool X.neg) (.slice X.a X.n X.cap)
 have hx1:=zFJ hx X;have i1:=iX.put2 hx.c0 hx.c1 (.bool X.neg) (.slice X.a X.n X.cap);have i2:=iY.put2 hx.c0 hx.c1 (.bool X.neg) (.slice X.a X.n X.cap);have r1:=(R.bw hD).off (B':=w.heap.size) (by omega) (.bool X.neg) (.slice X.a X.n X.cap)
 have r2:=(R2.bw hD).off (B':=w.heap.size) (by omega) (.bool X.neg) (.slice X.a X.n X.cap)
 have b1:=zDN (zB hB hD) (Nat.le_refl _) (.bool X.neg) (.slice X.a X.n X.cap);generalize (w2.setCell ⟨w.heap.size,0,none⟩ (.bool X.neg)).setCell ⟨w.heap.size,1,none⟩ (.slice X.a X.n X.cap)=V at *;exact ⟨X,Y,hx1.off (by omega) _ _,zFJ hy1 Y,i1.put2 hy1.c0 hy1.c1 _ _,i2.put2 hy1.c0 hy1.c1 _ _,r1.off (by omega) _ _,r2.off (by omega) _ _,zDN b1 (Nat.le_succ _) _ _⟩
theorem cmp_gtB (x y:Int):decide (0<zF x y)=decide (y<x):=by
 unfold zF
 by_cases h1:x<y
 ·have:¬ y<x:=by omega
  simp[h1,this]
 ·by_cases h2:y<x
  ·simp[h1,h2]
  ·simp[h1,h2]
theorem cmp_ltB (x y:Int):decide (zF x y<0)=decide (x<y):=by
 unfold zF
 by_cases h1:x<y
 ·simp[h1]
 ·by_cases h2:y<x
  ·simp[h1,h2]
  ·simp[h1,h2]
theorem zIT {w w1:World} {X Y:Nm} {K:Nat} {z1 z2:Int} (R:NoI w1 (w.heap.size+1+1)) (R2:NoI w1 (w.heap.size+1+1+1)) (iX:IntAt w1 X.neg X.a X.n X.cap K z1) (iY:IntAt w1 Y.neg Y.a Y.n Y.cap K z2) (hB:Below w.heap.size w w1) :
  IntAt ((((w1.setCell ⟨w.heap.size+1+1,0,none⟩ (.bool X.neg)).setCell ⟨w.heap.size+1+1,1,none⟩ (.slice X.a X.n X.cap)).setCell ⟨w.heap.size+1+1+1,0,none⟩ (.bool Y.neg)).setCell ⟨w.heap.size+1+1+1,1,none⟩ (.slice Y.a Y.n Y.cap)) X.neg X.a X.n X.cap K z1∧IntAt ((((w1.setCell ⟨w.heap.size+1+1,0,none⟩ (.bool X.neg)).setCell ⟨w.heap.size+1+1,1,none⟩ (.slice X.a X.n X.cap)).setCell ⟨w.heap.size+1+1+1,0,none⟩ (.bool Y.neg)).setCell ⟨w.heap.size+1+1+1,1,none⟩ (.slice Y.a Y.n Y.cap)) Y.neg Y.a Y.n Y.cap K z2∧Below w.heap.size w ((((w1.setCell ⟨w.heap.size+1+1,0,none⟩ (.bool X.neg)).setCell ⟨w.heap.size+1+1,1,none⟩ (.slice X.a X.n X.cap)).setCell ⟨w.heap.size+1+1+1,0,none⟩ (.bool Y.neg)).setCell ⟨w.heap.size+1+1+1,1,none⟩ (.slice Y.a Y.n Y.cap)):=by
 have r2:=R2.off (B':=w.heap.size+1+1) (by omega) (.bool X.neg) (.slice X.a X.n X.cap)
 have i1:=iX.put2 R.c0 R.c1 (.bool X.neg) (.slice X.a X.n X.cap);have i2:=iY.put2 R.c0 R.c1 (.bool X.neg) (.slice X.a X.n X.cap);have b1:=zDN hB (show w.heap.size≤w.heap.size+1+1 by omega) (.bool X.neg) (.slice X.a X.n X.cap)
 generalize (w1.setCell ⟨w.heap.size+1+1,0,none⟩ (.bool X.neg)).setCell ⟨w.heap.size+1+1,1,none⟩ (.slice X.a X.n X.cap)=V at *;exact ⟨i1.put2 r2.c0 r2.c1 _ _,i2.put2 r2.c0 r2.c1 _ _,zDN b1 (by omega) _ _⟩
theorem zIM (w:World) (x y:Nm) (k:Nat) (n d:Int) (hx:IntAt w x.neg x.a x.n x.cap k n) (hy:IntAt w y.neg y.a y.n y.cap k d) (hn:0<n) (hd:0<d) (hk:k≤1000000) :
  Calls Tryz.prog 166 #[.agg #[.bool x.neg,.slice x.a x.n x.cap],.agg #[.bool y.neg,.slice y.a y.n y.cap]] w (BalAns w k n d):=by
 obtain ⟨W,hW⟩:∃ W,W=(((w.alloc (.cells #[.bool x.neg,.slice x.a x.n x.cap] 26)).alloc (.cells #[.bool y.neg,.slice y.a y.n y.cap] 26)).alloc (.cells #[.bool false,.slice none 0 0] 26)).alloc (.cells #[.bool false,.slice none 0 0] 26):=⟨_,rfl⟩;have hBW:Below w.heap.size w W:=by rw[hW];exact bl4 _ _ _ _ _
 have X:NmC W w.heap.size x:=by rw[hW];constructor <;> simp[go_sem]
 have FX:∀ o,W.frozen? ⟨w.heap.size,o,none⟩=false:=by rw[hW];intro o;simp[go_sem]
 have Y:NmC W (w.heap.size+1) y:=by rw[hW];constructor <;> simp[go_sem]
 have FY:∀ o,W.frozen? ⟨w.heap.size+1,o,none⟩=false:=by rw[hW];intro o;simp[go_sem]
 have R:NoI W (w.heap.size+1+1):=by rw[hW];constructor <;> simp[go_sem]
 have R2:NoI W (w.heap.size+1+1+1):=by rw[hW];constructor <;> simp[go_sem]
 have HX:=zC (hx.bw hBW);have HY:=zC (hy.bw hBW);have lX:=X.lt;have lY:=Y.lt;have lR:=R.lt;have lR2:=R2.lt;have HK:=zC (show ∀ w',Below W.heap.size W w'→(w'.cell? ⟨w.heap.size,0,none⟩=some (.bool x.neg)∧w'.cell? ⟨w.heap.size,1,none⟩=some (.slice x.a x.n x.cap)∧w'.cell? ⟨w.heap.size+1,0,none⟩=some (.bool y.neg)∧w'.cell? ⟨w.heap.size+1,1,none⟩=some (.slice y.a y.n y.cap)) from fun w' hB=>⟨(X.bw hB).c0,(X.bw hB).c1,(Y.bw hB).c0,(Y.bw hB).c1⟩)
 go_enter Tryz.func166,Tryz.ntmps166
 go_wp2;rw[← hW];clear hW hx hy;obtain ⟨x0,x1,x2,x3⟩:=zA HK _ (Below.refl _ _);have hD0:Below W.heap.size W W.drew:=(Below.refl _ _).drew
 go_cut [7] (fun p wx=>∃ (L L':Nat) (D:Int),p=.int .i64 D∧D=(L:Int)-(L':Int)∧Q L≤n∧n<Q (L+1)∧Q L'≤d∧d<Q (L'+1)∧L<16*k+1∧L'<16*k+1∧Below W.heap.size W wx)
 case first =>
  go_region_held3 (fun w'=>w'.cell? ⟨w.heap.size,0,none⟩=some (.bool x.neg)∧w'.cell? ⟨w.heap.size,1,none⟩=some (.slice x.a x.n x.cap)∧w'.cell? ⟨w.heap.size+1,0,none⟩=some (.bool y.neg)∧w'.cell? ⟨w.heap.size+1,1,none⟩=some (.slice y.a y.n y.cap)) (first|exact zA HK _ (by with_reducible first|exact hD0|exact hD2|exact hD1)|go_keep)
   (first
    | (go_at_call 120;have hq:=hD1;refine (zBM _ _ _ _ _ d _ ((zA HY).bw hD1) (by omega)).mono ?_;rintro r' w2 ⟨l2,hlen2,rfl,hb2⟩;have hD2:=zB hD1 hb2)
    | (go_at_call 120;refine (zBM _ _ _ _ _ n _ ((zA HX).bw hD0) (by omega)).mono ?_;rintro r' w1 ⟨l1,hlen1,rfl,hb1⟩;have hD1:=zB hD0 hb1))
  all_goals
   obtain ⟨L,e1,e2,e3⟩:=hlen1.2.2 hn;obtain ⟨L',f1,f2,f3⟩:=hlen2.2.2 hd;have hL:=zPW (zA HX) e2 (by omega)
   have hL':=zPW (zA HY) f2 (by omega)
   have HE:=zC e1;have HF:=zC f1;clear e1 f1;go_wp2_with fail;go_meet;exact ⟨L,L',_,rfl,(by rw[jO _ (by have:=zA HE;have:=zA HF;omega) (by have:=zA HE;have:=zA HF;omega)];have:=zA HE;have:=zA HF;omega),e2,e3,f2,f3,hL,hL',hD2⟩
 case rest =>
 obtain ⟨L,L',D,rfl,hD,e2,e3,f2,f3,hL,hL',hb0⟩:=hcut;have hbal:=bal_near e2 e3 f2 f3;have HBAL:=zC hbal;clear hbal e2 e3 f2 f3 x0 x1 x2 x3 hD0;replace X:=X.bw hb0;replace Y:=Y.bw hb0;replace R:=R.bw hb0;replace R2:=R2.bw hb0;have FX0:∀ o,wc.frozen? ⟨w.heap.size,o,none⟩=false:=fun o=>(hb0.frozen (p:=⟨w.heap.size,o,none⟩) lX).trans (FX o)
 have FY0:∀ o,wc.frozen? ⟨w.heap.size+1,o,none⟩=false:=fun o=>(hb0.frozen (p:=⟨w.heap.size+1,o,none⟩) lY).trans (FY o)
 replace HX:=zC ((zA HX).bw hb0);replace HY:=zC ((zA HY).bw hb0);replace hBW:=zB hBW hb0;clear HK lX lY lR lR2 FX FY hb0;have lX:=X.lt;have lY:=Y.lt;have lR:=R.lt;have lR2:=R2.lt;obtain ⟨A,hA⟩:∃ A:Nat,(A:Int)=max 0 (-D):=⟨(max 0 (-D)).toNat,by omega⟩
 obtain ⟨C,hC⟩:∃ C:Nat,(C:Int)=max 0 D:=⟨(max 0 D).toNat,by omega⟩
 have hwD:IntKind.i64.wrap (-D) = -D:=jO _ (by omega) (by omega)
 have hDA:D≤16*k ∧ -(16*k)≤D:=by omega
 have hbal:=zA HBAL A C (by omega)
 have HA:=zC hA;have HC:=zC hC;have HD:=zC hD;have HW:=zC hwD;have HDA:=zC hDA;have hAk:A≤16*k:=by omega
 have hCk:C≤16*k:=by omega
 have HB2:=zC hbal;clear hA hC hD hwD hDA HBAL hL hL' hbal;go_wp2_with fail
 go_cut [7] (fun p wx=>p=.int .i64 D∧∃ X Y:Nm,NmC wx w.heap.size X∧NmC wx (w.heap.size+1) Y∧IntAt wx X.neg X.a X.n X.cap (k+k+10) (n*Q A)∧IntAt wx Y.neg Y.a Y.n Y.cap (k+k+10) (d*Q C)∧NoI wx (w.heap.size+1+1)∧NoI wx (w.heap.size+1+1+1)∧Below w.heap.size w wx)
 case first =>
  have HXC:=zC X;have HYC:=zC Y;obtain ⟨x0,x1⟩:=X;obtain ⟨y0,y1⟩:=Y;have HZA:=zC (show (if 0<IntKind.i64.wrap (-D) then IntKind.i64.wrap (-D) else 0)=(A:Int) by rw[zA HW];have:=zA HA;split <;> omega)
  have HZC:=zC (show (if 0<D then D else 0)=(C:Int) by have:=zA HC;split <;> omega)
  by_cases d1:0<D
  ·have d2:IntKind.i64.wrap (-D)≤0:=by rw[zA HW];omega
   have HZA1:=zC (show (0:Int)=(A:Int) by have:=zA HA;omega)
   have HZC1:=zC (show D=(C:Int) by have:=zA HC;omega)
   go_region_with
    (first
     | (go_at_call 95;have hq:=hD1;(with_reducible refine (zE3 _ _ _ _ _ C k d _ (by with_reducible first|exact zA HZC1|exact zA HZC) ((zA HY).bw hD1) (by omega) (by omega)).mono ?_);rintro r' w2 ⟨neg2,a2,n2,c2,rfl,hZ2,hb2⟩;have hD2:=zB hD1 hb2;have l2X:=Nat.lt_of_lt_of_le lX hD2.size;have l2Y:=Nat.lt_of_lt_of_le lY hD2.size;replace hZ1:=hZ1.bw hb2;obtain ⟨x4,x5⟩:=(zA HXC).bw hD2;obtain ⟨y4,y5⟩:=(zA HYC).bw hD2;have F2:∀ o,w2.frozen? ⟨w.heap.size,o,none⟩=false:=(fun o=>(hD2.frozen (p:=⟨w.heap.size,o,none⟩) lX).trans (FX0 o));have G2:∀ o,w2.frozen? ⟨w.heap.size+1,o,none⟩=false:=(fun o=>(hD2.frozen (p:=⟨w.heap.size+1,o,none⟩) lY).trans (FY0 o)))
     | (go_at_call 95;(with_reducible refine (zE3 _ _ _ _ _ A k n _ (by with_reducible first|exact zA HZA1|exact zA HZA) ((zA HX).bw (Below.refl _ _).drew) (by omega) (by omega)).mono ?_);rintro r' w1 ⟨neg1,a1,n1,c1,rfl,hZ1,hb1⟩;have hD1:Below wc.heap.size wc w1:=zB (Below.refl _ _).drew hb1;obtain ⟨y2,y3⟩:=(zA HYC).bw hD1;obtain ⟨x2,x3⟩:=(zA HXC).bw hD1;have l1X:=Nat.lt_of_lt_of_le lX hD1.size;have l1Y:=Nat.lt_of_lt_of_le lY hD1.size))
   all_goals
    go_wp2_with fail;go_meet;exact ⟨rfl,zJY hD2 (NmC.mk x4 x5) (NmC.mk y4 y5) ⟨neg1,a1,n1,c1⟩ ⟨neg2,a2,n2,c2⟩ (hZ1.mono (by omega)) (hZ2.mono (by omega)) R R2 hBW⟩
  ·by_cases d3:D<0
   ·have d2:0<IntKind.i64.wrap (-D):=by rw[zA HW];omega
    have d4:D≤0:=by omega
    have HZA1:=zC (show IntKind.i64.wrap (-D)=(A:Int) by rw[zA HW];have:=zA HA;omega)
    have HZC1:=zC (show (0:Int)=(C:Int) by have:=zA HC;omega)
    go_region_with
     (first
      | (go_at_call 95;have hq:=hD1;(with_reducible refine (zE3 _ _ _ _ _ C k d _ (by with_reducible first|exact zA HZC1|exact zA HZC) ((zA HY).bw hD1) (by omega) (by omega)).mono ?_);rintro r' w2 ⟨neg2,a2,n2,c2,rfl,hZ2,hb2⟩;have hD2:=zB hD1 hb2;have l2X:=Nat.lt_of_lt_of_le lX hD2.size;have l2Y:=Nat.lt_of_lt_of_le lY hD2.size;replace hZ1:=hZ1.bw hb2;obtain ⟨x4,x5⟩:=(zA HXC).bw hD2;obtain ⟨y4,y5⟩:=(zA HYC).bw hD2;have F2:∀ o,w2.frozen? ⟨w.heap.size,o,none⟩=false:=(fun o=>(hD2.frozen (p:=⟨w.heap.size,o,none⟩) lX).trans (FX0 o));have G2:∀ o,w2.frozen? ⟨w.heap.size+1,o,none⟩=false:=(fun o=>(hD2.frozen (p:=⟨w.heap.size+1,o,none⟩) lY).trans (FY0 o)))
      | (go_at_call 95;(with_reducible refine (zE3 _ _ _ _ _ A k n _ (by with_reducible first|exact zA HZA1|exact zA HZA) ((zA HX).bw (Below.refl _ _).drew) (by omega) (by omega)).mono ?_);rintro r' w1 ⟨neg1,a1,n1,c1,rfl,hZ1,hb1⟩;have hD1:Below wc.heap.size wc w1:=zB (Below.refl _ _).drew hb1;obtain ⟨y2,y3⟩:=(zA HYC).bw hD1;obtain ⟨x2,x3⟩:=(zA HXC).bw hD1;have l1X:=Nat.lt_of_lt_of_le lX hD1.size;have l1Y:=Nat.lt_of_lt_of_le lY hD1.size))
    all_goals
     go_wp2_with fail;go_meet;exact ⟨rfl,zJY hD2 (NmC.mk x4 x5) (NmC.mk y4 y5) ⟨neg1,a1,n1,c1⟩ ⟨neg2,a2,n2,c2⟩ (hZ1.mono (by omega)) (hZ2.mono (by omega)) R R2 hBW⟩
   ·have d2:IntKind.i64.wrap (-D)≤0:=by rw[zA HW];omega
    have d4:D≤0:=by omega
    have HZA1:=zC (show (0:Int)=(A:Int) by have:=zA HA;omega)
    have HZC1:=zC (show (0:Int)=(C:Int) by have:=zA HC;omega)
    go_region_with
     (first
      | (go_at_call 95;have hq:=hD1;(with_reducible refine (zE3 _ _ _ _ _ C k d _ (by with_reducible first|exact zA HZC1|exact zA HZC) ((zA HY).bw hD1) (by omega) (by omega)).mono ?_);rintro r' w2 ⟨neg2,a2,n2,c2,rfl,hZ2,hb2⟩;have hD2:=zB hD1 hb2;have l2X:=Nat.lt_of_lt_of_le lX hD2.size;have l2Y:=Nat.lt_of_lt_of_le lY hD2.size;replace hZ1:=hZ1.bw hb2;obtain ⟨x4,x5⟩:=(zA HXC).bw hD2;obtain ⟨y4,y5⟩:=(zA HYC).bw hD2;have F2:∀ o,w2.frozen? ⟨w.heap.size,o,none⟩=false:=(fun o=>(hD2.frozen (p:=⟨w.heap.size,o,none⟩) lX).trans (FX0 o));have G2:∀ o,w2.frozen? ⟨w.heap.size+1,o,none⟩=false:=(fun o=>(hD2.frozen (p:=⟨w.heap.size+1,o,none⟩) lY).trans (FY0 o)))
      | (go_at_call 95;(with_reducible refine (zE3 _ _ _ _ _ A k n _ (by with_reducible first|exact zA HZA1|exact zA HZA) ((zA HX).bw (Below.refl _ _).drew) (by omega) (by omega)).mono ?_);rintro r' w1 ⟨neg1,a1,n1,c1,rfl,hZ1,hb1⟩;have hD1:Below wc.heap.size wc w1:=zB (Below.refl _ _).drew hb1;obtain ⟨y2,y3⟩:=(zA HYC).bw hD1;obtain ⟨x2,x3⟩:=(zA HXC).bw hD1;have l1X:=Nat.lt_of_lt_of_le lX hD1.size;have l1Y:=Nat.lt_of_lt_of_le lY hD1.size))
    all_goals
     go_wp2_with fail;go_meet;exact ⟨rfl,zJY hD2 (NmC.mk x4 x5) (NmC.mk y4 y5) ⟨neg1,a1,n1,c1⟩ ⟨neg2,a2,n2,c2⟩ (hZ1.mono (by omega)) (hZ2.mono (by omega)) R R2 hBW⟩
 case rest =>
 obtain ⟨rfl,X,Y,hX,hY,iX,iY,R,R2,hBW⟩:=hcut;have hQA:=zG A;have hQC:=zG C;have hnA:0<n*Q A:=Int.mul_pos hn (by omega)
 have hdC:0<d*Q C:=Int.mul_pos hd (by omega)
 obtain ⟨N1,hN1⟩:∃ N1,N1=n*Q A:=⟨_,rfl⟩;obtain ⟨D1,hD1⟩:∃ D1,D1=d*Q C:=⟨_,rfl⟩
 have hm1:0≤D→n*D1=N1*d*Q D.toNat:=fun h=>by
  have e1:A=0:=by have:=zA HA;omega
  have e2:D.toNat=C:=by have:=zA HC;omega
  rw[hN1,hD1,e1,e2];simp only[Q];grind
 have hm2:D<0→n*D1*Q (-D).toNat=N1*d:=fun h=>by
  have e1:C=0:=by have:=zA HC;omega
  have e2:(-D).toNat=A:=by have:=zA HA;omega
  rw[hN1,hD1,e1,e2];simp only[Q];grind
 have HM1:=zC hm1;have HM2:=zC hm2;have HDA2:=zA HDA;have HB3:Hid (N1<2*D1∧D1<2*N1):=zC (by rw[hN1,hD1];exact zA HB2)
 rw[← hN1] at iX hnA;rw[← hD1] at iY hdC;clear hm1 hm2 HA HC HD HW HDA hQA hQC hN1 hD1 HB2;have HIX:=zC iX;have HIY:=zC iY;have HXC:=zC hX;have HYC:=zC hY;have lX:=hX.lt;have lY:=hY.lt;have lR:=R.lt;have lR2:=R2.lt;have HK:=zC (show ∀ w',Below wc.heap.size wc w'→(w'.cell? ⟨w.heap.size,0,none⟩=some (.bool X.neg)∧w'.cell? ⟨w.heap.size,1,none⟩=some (.slice X.a X.n X.cap)∧w'.cell? ⟨w.heap.size+1,0,none⟩=some (.bool Y.neg)∧w'.cell? ⟨w.heap.size+1,1,none⟩=some (.slice Y.a Y.n Y.cap)) from fun w' hB=>⟨(hX.bw hB).c0,(hX.bw hB).c1,(hY.bw hB).c0,(hY.bw hB).c1⟩)
 clear iX iY hX hY;obtain ⟨x0,x1,y0,y1⟩:=zA HK _ (Below.refl _ _);have hD0:Below wc.heap.size wc wc.drew:=(Below.refl _ _).drew;go_wp2_with fail
 go_cut [22] (fun p wx=>p=.bool (decide (D1*3<N1*2))∧Below wc.heap.size wc wx)
 case first =>
  go_region_held3 (fun w'=>w'.cell? ⟨w.heap.size,0,none⟩=some (.bool X.neg)∧w'.cell? ⟨w.heap.size,1,none⟩=some (.slice X.a X.n X.cap)∧w'.cell? ⟨w.heap.size+1,0,none⟩=some (.bool Y.neg)∧w'.cell? ⟨w.heap.size+1,1,none⟩=some (.slice Y.a Y.n Y.cap)) (first|exact zA HK _ (by with_reducible first|exact hD0|exact hD4|exact hD3|exact hD2|exact hD1)|go_keep)
   (first
    | (go_at_call 46;have hq:=hD3;refine (zS _ _ _ _ _ _ _ _ _ _ (N1*2) (D1*3) _ ((hZ1.bw hb2).bw hb3) hZ3).mono ?_;rintro r' w4 ⟨rfl,hb4⟩;have hD4:=zB hD3 hb4)
    | (go_at_call 66;have hq:=hD2;refine (zX _ _ _ _ _ _ _ _ (k+k+10) 4 D1 3 _ ((zA HIY).bw hD2) hZ2 (by omega) (by omega)).mono ?_;rintro r' w3 ⟨neg3,a3,n3,c3,rfl,hZ3,hb3⟩;have hD3:=zB hD2 hb3)
    | (go_at_call 43;have hq:=hD1;refine (zD 3 _ (by decide) (by decide)).mono ?_;rintro r' w2 ⟨neg2,a2,n2,c2,rfl,hZ2,hb2⟩;have hD2:=zB hD1 hb2)
    | (go_at_call 95;refine (zE3 _ _ _ _ _ 1 (k+k+10) N1 _ rfl ((zA HIX).bw hD0) (by omega) (by omega)).mono ?_;rintro r' w1 ⟨neg1,a1,n1,c1,rfl,hZ1,hb1⟩;have hD1:=zB hD0 hb1))
  all_goals
   go_wp2_with fail;go_meet;exact ⟨congrArg _ (cmp_gtB _ _),hD4⟩
 case rest =>
 obtain ⟨rfl,hb1⟩:=hcut;have HXC:=zC ((zA HXC).bw hb1);have HYC:=zC ((zA HYC).bw hb1);have HIX:=zC ((zA HIX).bw hb1);have HIY:=zC ((zA HIY).bw hb1);replace R:=R.bw hb1;replace R2:=R2.bw hb1;replace hBW:=zB hBW hb1;have lX:=(zA HXC).lt;have lY:=(zA HYC).lt;have lR:=R.lt;have lR2:=R2.lt;have HK:=zC (show ∀ w',Below wc.heap.size wc w'→(w'.cell? ⟨w.heap.size,0,none⟩=some (.bool X.neg)∧w'.cell? ⟨w.heap.size,1,none⟩=some (.slice X.a X.n X.cap)∧w'.cell? ⟨w.heap.size+1,0,none⟩=some (.bool Y.neg)∧w'.cell? ⟨w.heap.size+1,1,none⟩=some (.slice Y.a Y.n Y.cap)) from fun w' hB=>⟨((zA HXC).bw hB).c0,((zA HXC).bw hB).c1,((zA HYC).bw hB).c0,((zA HYC).bw hB).c1⟩)
 clear x0 x1 y0 y1 hD0;obtain ⟨x0,x1,y0,y1⟩:=zA HK _ (Below.refl _ _);have hD0:Below wc.heap.size wc wc.drew:=(Below.refl _ _).drew;have n1:w.heap.size≠w.heap.size+1+1:=by omega
 have n2:w.heap.size≠w.heap.size+1+1+1:=by omega
 have n3:w.heap.size+1≠w.heap.size+1+1:=by omega
 have n4:w.heap.size+1≠w.heap.size+1+1+1:=by omega
 have n5:w.heap.size+1+1≠w.heap.size+1+1+1:=by omega
 have n6:w.heap.size+1+1+1≠w.heap.size+1+1:=by omega
 have n7:w.heap.size+1+1≠w.heap.size:=by omega
 have n8:w.heap.size+1+1+1≠w.heap.size:=by omega
 have n9:w.heap.size+1+1≠w.heap.size+1:=by omega
 have n10:w.heap.size+1+1+1≠w.heap.size+1:=by omega
 by_cases hc:D1*3<N1*2
 ·have HR:Hid (Bal n d N1 (D1*2) (D+1)):=zC (by
   exact bal_a hnA hdC (zA HM1) (zA HM2) (zA HB3).1 (zA HB3).2 hc)
  have HW1:=zC (show IntKind.i64.wrap (D+1)=D+1 from jO _ (by omega) (by omega))
  have Hc:=zC hc;go_wp2_with fail
  go_region_held3 (fun w'=>w'.cell? ⟨w.heap.size,0,none⟩=some (.bool X.neg)∧w'.cell? ⟨w.heap.size,1,none⟩=some (.slice X.a X.n X.cap)∧w'.cell? ⟨w.heap.size+1,0,none⟩=some (.bool Y.neg)∧w'.cell? ⟨w.heap.size+1,1,none⟩=some (.slice Y.a Y.n Y.cap)) (first|exact zA HK _ (by with_reducible first|exact hD0|exact hD1)|go_keep)
   (first
    | (go_at_call 95;refine (zE3 _ _ _ _ _ 1 (k+k+10) D1 _ rfl ((zA HIY).bw hD0) (by omega) (by omega)).mono ?_;rintro r' w1 ⟨neg1,a1,n1',c1,rfl,hZ1,hb1⟩;have hD1:=zB hD0 hb1;obtain ⟨q0,q1,q2⟩:=R.bw hD1;obtain ⟨p0,p1,p2⟩:=R2.bw hD1;obtain ⟨z0,z1,z2,z3⟩:=zA HK _ hD1))
  all_goals
   have HE:=zIT (w:=w) (K:=k+k+20) (R.bw hD1) (R2.bw hD1) (X:=X) (Y:=⟨neg1,a1,n1',c1⟩) (((zA HIX).bw hD1).mono (by omega)) (hZ1.mono (by omega)) (zB hBW hD1)
   go_wp2_with fail;refine bodyPost_ret (v:=.tuple #[.agg #[.bool X.neg,.slice X.a X.n X.cap],.agg #[.bool neg1,.slice a1 n1' c1],.int .i64 (IntKind.i64.wrap (D+1))]) (by simp[results,Tryz.results166,go_sem,q0,q1,p0,p1,n5,n6]) rfl ⟨X,⟨neg1,a1,n1',c1⟩,N1,(D1*2),_,rfl,by rw[zA HW1];exact zA HR,by rw[zA HW1];omega,by rw[zA HW1];omega,HE.1,HE.2.1,HE.2.2⟩
 ·have Hc:=zC hc
  go_wp2_with fail
  go_cut [35] (fun p wx=>p=.bool (decide (N1*4<D1*3))∧Below wc.heap.size wc wx)
  case first =>
   go_region_held3 (fun w'=>w'.cell? ⟨w.heap.size,0,none⟩=some (.bool X.neg)∧w'.cell? ⟨w.heap.size,1,none⟩=some (.slice X.a X.n X.cap)∧w'.cell? ⟨w.heap.size+1,0,none⟩=some (.bool Y.neg)∧w'.cell? ⟨w.heap.size+1,1,none⟩=some (.slice Y.a Y.n Y.cap)) (first|exact zA HK _ (by with_reducible first|exact hD0|exact hD4|exact hD3|exact hD2|exact hD1)|go_keep)
    (first
     | (go_at_call 46;have hq:=hD3;refine (zS _ _ _ _ _ _ _ _ _ _ (N1*4) (D1*3) _ ((hZ1.bw hb2).bw hb3) hZ3).mono ?_;rintro r' w4 ⟨rfl,hb4⟩;have hD4:=zB hD3 hb4)
     | (go_at_call 66;have hq:=hD2;refine (zX _ _ _ _ _ _ _ _ (k+k+10) 4 D1 3 _ ((zA HIY).bw hD2) hZ2 (by omega) (by omega)).mono ?_;rintro r' w3 ⟨neg3,a3,n3,c3,rfl,hZ3,hb3⟩;have hD3:=zB hD2 hb3)
     | (go_at_call 43;have hq:=hD1;refine (zD 3 _ (by decide) (by decide)).mono ?_;rintro r' w2 ⟨neg2,a2,n2,c2,rfl,hZ2,hb2⟩;have hD2:=zB hD1 hb2)
     | (go_at_call 95;refine (zE3 _ _ _ _ _ 2 (k+k+10) N1 _ rfl ((zA HIX).bw hD0) (by omega) (by omega)).mono ?_;rintro r' w1 ⟨neg1,a1,n1,c1,rfl,hZ1,hb1⟩;have hD1:=zB hD0 hb1))
   all_goals
    go_wp2_with fail;go_meet;exact ⟨congrArg _ (cmp_ltB _ _),hD4⟩
  case rest =>
  obtain ⟨rfl,hb1⟩:=hcut;have HXC:=zC ((zA HXC).bw hb1);have HYC:=zC ((zA HYC).bw hb1);have HIX:=zC ((zA HIX).bw hb1);have HIY:=zC ((zA HIY).bw hb1);replace R:=R.bw hb1;replace R2:=R2.bw hb1;replace hBW:=zB hBW hb1;have lX:=(zA HXC).lt;have lY:=(zA HYC).lt;have lR:=R.lt;have lR2:=R2.lt;have HK:=zC (show ∀ w',Below wc.heap.size wc w'→(w'.cell? ⟨w.heap.size,0,none⟩=some (.bool X.neg)∧w'.cell? ⟨w.heap.size,1,none⟩=some (.slice X.a X.n X.cap)∧w'.cell? ⟨w.heap.size+1,0,none⟩=some (.bool Y.neg)∧w'.cell? ⟨w.heap.size+1,1,none⟩=some (.slice Y.a Y.n Y.cap)) from fun w' hB=>⟨((zA HXC).bw hB).c0,((zA HXC).bw hB).c1,((zA HYC).bw hB).c0,((zA HYC).bw hB).c1⟩)
  clear x0 x1 y0 y1 hD0;obtain ⟨x0,x1,y0,y1⟩:=zA HK _ (Below.refl _ _);have hD0:Below wc.heap.size wc wc.drew:=(Below.refl _ _).drew
  by_cases hc2:N1*4<D1*3
  ·have HR:Hid (Bal n d (N1*2) D1 (D-1)):=zC (by
     exact bal_b hnA hdC (zA HM1) (zA HM2) (zA HB3).1 (zA HB3).2 hc2)
   have HW1:=zC (show IntKind.i64.wrap (D-1)=D-1 from jO _ (by omega) (by omega))
   have Hc2:=zC hc2;go_wp2_with fail
   go_region_held3 (fun w'=>w'.cell? ⟨w.heap.size,0,none⟩=some (.bool X.neg)∧w'.cell? ⟨w.heap.size,1,none⟩=some (.slice X.a X.n X.cap)∧w'.cell? ⟨w.heap.size+1,0,none⟩=some (.bool Y.neg)∧w'.cell? ⟨w.heap.size+1,1,none⟩=some (.slice Y.a Y.n Y.cap)) (first|exact zA HK _ (by with_reducible first|exact hD0|exact hD1)|go_keep)
    (first
     | (go_at_call 95;refine (zE3 _ _ _ _ _ 1 (k+k+10) N1 _ rfl ((zA HIX).bw hD0) (by omega) (by omega)).mono ?_;rintro r' w1 ⟨neg1,a1,n1',c1,rfl,hZ1,hb1⟩;have hD1:=zB hD0 hb1;obtain ⟨q0,q1,q2⟩:=R.bw hD1;obtain ⟨p0,p1,p2⟩:=R2.bw hD1;obtain ⟨z0,z1,z2,z3⟩:=zA HK _ hD1))
   all_goals
    have HE:=zIT (w:=w) (K:=k+k+20) (R.bw hD1) (R2.bw hD1) (X:=⟨neg1,a1,n1',c1⟩) (Y:=Y) (hZ1.mono (by omega)) (((zA HIY).bw hD1).mono (by omega)) (zB hBW hD1)
    go_wp2_with fail;refine bodyPost_ret (v:=.tuple #[.agg #[.bool neg1,.slice a1 n1' c1],.agg #[.bool Y.neg,.slice Y.a Y.n Y.cap],.int .i64 (IntKind.i64.wrap (D-1))]) (by simp[results,Tryz.results166,go_sem,q0,q1,p0,p1,n5,n6]) rfl ⟨⟨neg1,a1,n1',c1⟩,Y,(N1*2),D1,_,rfl,by rw[zA HW1];exact zA HR,by rw[zA HW1];omega,by rw[zA HW1];omega,HE.1,HE.2.1,HE.2.2⟩
  ·have HR:Hid (Bal n d N1 D1 D):=zC (by
     exact bal_c hnA hdC (zA HM1) (zA HM2) (by have:=zA Hc;omega) hc2)
   have Hc2:=zC hc2;go_wp2_with fail;have HR1:=R;have HR2:=R2;obtain ⟨q0,q1,q2⟩:=R;obtain ⟨p0,p1,p2⟩:=R2
   go_region
   all_goals
    have HE:=zIT (w:=w) (K:=k+k+20) (HR1.bw (Below.refl _ _).drew) (HR2.bw (Below.refl _ _).drew) (X:=X) (Y:=Y) (((zA HIX).bw (Below.refl _ _).drew).mono (by omega)) (((zA HIY).bw (Below.refl _ _).drew).mono (by omega)) (zB hBW (Below.refl _ _).drew)
    go_wp2_with fail;refine bodyPost_ret (v:=.tuple #[.agg #[.bool X.neg,.slice X.a X.n X.cap],.agg #[.bool Y.neg,.slice Y.a Y.n Y.cap],.int .i64 (D)]) (by simp[results,Tryz.results166,go_sem,q0,q1,p0,p1,n5,n6]) rfl ⟨X,Y,N1,D1,_,rfl,by exact zA HR,by omega,by omega,HE.1,HE.2.1,HE.2.2⟩
structure StSt (w wr:World) (BX BY:Nat) (X Y:Nm) (k:Nat) (p q:Int):Prop where
 x:VnC wr BX X
 y:VnC wr BY Y
 ix:IntAt wr X.neg X.a X.n X.cap k p
 iy:IntAt wr Y.neg Y.a Y.n Y.cap k q
 n1:NoI wr w.heap.size
 n2:NoI wr (w.heap.size+1)
 be:Below w.heap.size w wr
 l1:w.heap.size+1<BX
 l2:w.heap.size+1<BY
 ne:BX≠BY
theorem StSt.bw {w wr wr':World} {BX BY:Nat} {X Y:Nm} {k:Nat} {p q:Int} (h:StSt w wr BX BY X Y k p q) (hb:Below wr.heap.size wr wr'):StSt w wr' BX BY X Y k p q :=
 ⟨h.x.bw hb,h.y.bw hb,h.ix.bw hb,h.iy.bw hb,h.n1.bw hb,h.n2.bw hb,zB h.be hb,h.l1,h.l2,h.ne⟩
theorem NoI.offs {w:World} {B B':Nat} (h:NoI w B) (hne:B≠B') (y:Nm):NoI (zAM w B' y) B:=by
 obtain ⟨q0,q1,q2⟩:=h;exact ⟨by simp[go_sem,q0,hne,Ne.symm hne],by simp[go_sem,q1,hne,Ne.symm hne],zAT q2 _ _⟩
theorem StSt.put {w wr:World} {BX BY:Nat} {X Y X' Y':Nm} {k k':Nat} {p q p' q':Int} (h:StSt w wr BX BY X Y k p q) (hx:IntAt wr X'.neg X'.a X'.n X'.cap k' p') (hy:IntAt wr Y'.neg Y'.a Y'.n Y'.cap k' q'):StSt w (zAM (zAM wr BX X') BY Y') BX BY X' Y' k' p' q' :=
 have x1:=h.x.put X';have y1:=h.y.off (Ne.symm h.ne) X'
 ⟨x1.off h.ne Y',y1.put Y',(hx.putv h.x X').putv y1 Y',(hy.putv h.x X').putv y1 Y',(h.n1.offs (by have:=h.l1;omega) X').offs (by have:=h.l2;omega) Y',(h.n2.offs (by have:=h.l1;omega) X').offs (by have:=h.l2;omega) Y',zDN (zDN h.be (by have:=h.l1;omega) _ _) (by have:=h.l2;omega) _ _,h.l1,h.l2,h.ne⟩
theorem st_end {w wr:World} {BX BY:Nat} {X Y:Nm} {k:Nat} {p q:Int} (h:StSt w wr BX BY X Y k p q):IntAt (zAM (zAM wr w.heap.size X) (w.heap.size+1) Y) X.neg X.a X.n X.cap k p∧IntAt (zAM (zAM wr w.heap.size X) (w.heap.size+1) Y) Y.neg Y.a Y.n Y.cap k q∧Below w.heap.size w (zAM (zAM wr w.heap.size X) (w.heap.size+1) Y):=by
 have n2:=h.n2.offs (B':=w.heap.size) (by omega) X
 obtain ⟨a0,a1,af⟩:=h.n1;obtain ⟨b0,b1,bf⟩:=n2;exact ⟨(h.ix.put2 a0 a1 _ _).put2 b0 b1 _ _,(h.iy.put2 a0 a1 _ _).put2 b0 b1 _ _,zDN (zDN h.be (Nat.le_refl _) _ _) (Nat.le_succ _) _ _⟩
theorem zN7 (w:World) (n d:Int) (h:StIn n d) (hn:n≤4611686018427387904) :
  Calls Tryz.prog 112 #[.int .i64 n,.int .i64 d] w (fun r w'=>∃ X Y:Nm,r=.returned (.tuple #[.int .i64 (n-(stN n d:Int)*d),.agg #[.bool X.neg,.slice X.a X.n X.cap],.agg #[.bool Y.neg,.slice Y.a Y.n Y.cap]])∧IntAt w' X.neg X.a X.n X.cap (4*stN n d+4) (stP n d (stN n d))∧IntAt w' Y.neg Y.a Y.n Y.cap (4*stN n d+4) (stQ d (stN n d))∧Below w.heap.size w w'):=by
 obtain ⟨W,hW⟩:∃ W,W=(w.alloc (.cells #[.bool false,.slice none 0 0] 26)).alloc (.cells #[.bool false,.slice none 0 0] 26):=⟨_,rfl⟩;have hBW:Below w.heap.size w W:=by rw[hW];exact bl2 _ _ _
 have R1:NoI W w.heap.size:=by rw[hW];exact (jW w _).bw (bl1 _ _)
 have R2:NoI W (w.heap.size+1):=by rw[hW];constructor <;> simp[go_sem]
 have d0:=h.d0;have dd:=h.dd;have k200:=h.rest.2.2;have H:=zC h;clear h
 go_enter Tryz.func112,Tryz.ntmps112
 go_wp2_with fail;rw[← hW];clear hW;refine (zD 1 _ (by decide) (by decide)).mono ?_
 rintro r' w1 ⟨neg1,a1,n1,c1,rfl,hZ1,hb1⟩;replace R1:=R1.bw hb1;replace R2:=R2.bw hb1;replace hBW:=zB hBW hb1;clear hb1;go_wp2_with fail;refine (zD 1 _ (by decide) (by decide)).mono ?_
 rintro r' w2 ⟨neg2,a2,n2,c2,rfl,hZ2,hb2⟩;replace R1:=R1.bw hb2;replace R2:=R2.bw hb2;replace hBW:=zB hBW hb2;replace hZ1:=hZ1.bw hb2;clear hb2;have lR:=R2.lt;obtain ⟨V1,hV1⟩:∃ V1,V1=(w2.alloc (.cells #[.bool neg1,.slice a1 n1 c1] 26)).alloc (.cells #[.bool neg2,.slice a2 n2 c2] 26):=⟨_,rfl⟩;have bV1:Below w2.heap.size w2 V1:=by rw[hV1];exact bl2 _ _ _
 have st0:StSt w V1 w2.heap.size (w2.heap.size+1) ⟨neg1,a1,n1,c1⟩ ⟨neg2,a2,n2,c2⟩ (4*0+4) (stP n d 0) (stQ d 0):=⟨by rw[hV1];exact (vnc_new w2 ⟨neg1,a1,n1,c1⟩ _).bw (bl1 _ _),by rw[hV1];exact ⟨⟨by simp[go_sem],by simp[go_sem]⟩,fun o=>by simp[go_sem]⟩,hZ1.bw bV1,hZ2.bw bV1,R1.bw bV1,R2.bw bV1,zB hBW bV1,lR,by omega,by omega⟩
 go_wp2_with fail;rw[← hV1];clear hV1 bV1 hZ1 hZ2 R1 R2 hBW;obtain ⟨BX,hBX⟩:∃ B,B=w2.heap.size:=⟨_,rfl⟩;obtain ⟨BY,hBY⟩:∃ B',B'=w2.heap.size+1:=⟨_,rfl⟩;rw[← hBY,← hBX] at st0 ⊢;clear hBX hBY lR
 go_loopw [0] (fun nn wr=>∃ (i:Nat) (X Y:Nm),nn=.int .i64 (n-(i:Int)*d)∧i≤stN n d∧StSt w wr BX BY X Y (4*i+4) (stP n d i) (stQ d i)) (fun nn _=>(intOf nn).toNat)
 case atStart=>exact ⟨0,_,_,by simp,Nat.zero_le _,st0⟩
 case round =>
  obtain ⟨i,X,Y,rfl,hi,st⟩:=hrel;clear st0;have p0:=(st_at (zA H) hi).1;have id0:=Int.mul_nonneg (show (0:Int)≤(i:Int) by omega) (show 0≤d by omega)
  by_cases hin:i<stN n d
  ·have hin1:d<n-(i:Int)*d:=(st_at (zA H) hi).2 hin
   have HX:=zC st.x;have HY:=zC st.y;have HI:=zC st.ix;have HJ:=zC st.iy;have HST:=zC st;have HE1:=zC (show IntKind.i64.wrap (n-(i:Int)*d-d)=n-(i:Int)*d-d from jO _ (by omega) (by omega))
   have HR:=zC (show -9223372036854775808≤n-(i:Int)*d-d∧n-(i:Int)*d-d≤9223372036854775807 from ⟨by omega,by omega⟩)
   clear st;go_wp2_with fail;have hD0:Below wr.heap.size wr wr.drew:=(Below.refl _ _).drew;have HK7:=zC (show ∀ w',Below wr.heap.size wr w'→(w'.cell? ⟨BX,0,none⟩=some (.bool X.neg)∧w'.cell? ⟨BX,1,none⟩=some (.slice X.a X.n X.cap)) from fun w' hB=>⟨((zA HX).bw hB).c.c0,((zA HX).bw hB).c.c1⟩)
   have HK8:=zC (show ∀ w',Below wr.heap.size wr w'→(w'.cell? ⟨BY,0,none⟩=some (.bool Y.neg)∧w'.cell? ⟨BY,1,none⟩=some (.slice Y.a Y.n Y.cap)) from fun w' hB=>⟨((zA HY).bw hB).c.c0,((zA HY).bw hB).c.c1⟩)
   refine AnyS.start (S:=fun j w'=>(j=6∨j=7∨j=10∨j=11∨(w'.cell? ⟨BX,0,none⟩=some (.bool X.neg)∧w'.cell? ⟨BX,1,none⟩=some (.slice X.a X.n X.cap)))∧(j=11∨(w'.cell? ⟨BY,0,none⟩=some (.bool Y.neg)∧w'.cell? ⟨BY,1,none⟩=some (.slice Y.a Y.n Y.cap)))) (by kernel_rfl) ?_
   refine AnyS.take (i:=6) (oi:={ dst:=some 23,op:=Go.Op.load 26 (Go.Operand.tmp 8),type:=26,pos := "gamma.go:37",after:=#[],guard:=none }) (v:=.agg #[.bool Y.neg,.slice Y.a Y.n Y.cap]) (T:=fun w'=>w'.cell? ⟨BY,0,none⟩=some (.bool Y.neg)∧w'.cell? ⟨BY,1,none⟩=some (.slice Y.a Y.n Y.cap)) rfl (by kernel_rfl) (by kernel_rfl) (by kernel_rfl) (fun _ _ _ h=>h) 11 1 (fun j hl hj w h=>h.2.elim (fun e=>absurd e (by omega)) id) (by kernel_rfl) (fun w h=>⟨Or.inl rfl,Or.inr h⟩) (Or.inl ⟨by rfl,fun w hSw=>?_⟩) (zA HK8 _ hD0) ?_
   ·obtain ⟨s0,s1⟩:=hSw;go_simp
   try simp only[Act.put,List.setIfInBounds_toArray,List.set_cons_zero,List.set_cons_succ]
   refine AnyS.take (i:=7) (oi:={ dst:=some 24,op:=Go.Op.move (Go.Operand.tmp 1),type:=3,pos := "gamma.go:37",after:=#[],guard:=none }) (v:=.int .i64 d) (T:=fun w'=>w'.cell? ⟨BY,0,none⟩=some (.bool Y.neg)∧w'.cell? ⟨BY,1,none⟩=some (.slice Y.a Y.n Y.cap)) rfl (by kernel_rfl) (by kernel_rfl) (by kernel_rfl) (fun _ _ _ h=>h) 11 1 (fun j hl hj w h=>h.2.elim (fun e=>absurd e (by omega)) id) (by kernel_rfl) (fun w h=>⟨Or.inr (Or.inl rfl),Or.inr h⟩) (Or.inl ⟨by rfl,fun w hSw=>?_⟩) (zA HK8 _ hD0) ?_
   ·go_simp
   try simp only[Act.put,List.setIfInBounds_toArray,List.set_cons_zero,List.set_cons_succ]
   refine AnyS.take (i:=0) (oi:={ dst:=some 17,op:=Go.Op.load 26 (Go.Operand.tmp 7),type:=26,pos := "gamma.go:37",after:=#[],guard:=none }) (v:=.agg #[.bool X.neg,.slice X.a X.n X.cap]) (T:=fun w'=>(w'.cell? ⟨BX,0,none⟩=some (.bool X.neg)∧w'.cell? ⟨BX,1,none⟩=some (.slice X.a X.n X.cap))∧(w'.cell? ⟨BY,0,none⟩=some (.bool Y.neg)∧w'.cell? ⟨BY,1,none⟩=some (.slice Y.a Y.n Y.cap))) rfl (by kernel_rfl) (by kernel_rfl) (by kernel_rfl) (fun _ _ _ h=>h) 10 2 (fun j hl hj w h=>⟨h.1.elim (fun e=>absurd hl (by rw[e];decide)) (fun h=>h.elim (fun e=>absurd hl (by rw[e];decide)) (fun h=>h.elim (fun e=>absurd e (by omega)) (fun h=>h.elim (fun e=>absurd e (by omega)) id))),h.2.elim (fun e=>absurd e (by omega)) id⟩) (by kernel_rfl) (fun w h=>⟨Or.inr (Or.inr (Or.inr (Or.inr h.1))),Or.inr h.2⟩) (Or.inl ⟨by rfl,fun w hSw=>?_⟩) ⟨zA HK7 _ hD0,zA HK8 _ hD0⟩ ?_
   ·obtain ⟨⟨s0,s1⟩,_⟩:=hSw;go_simp
   try simp only[Act.put,List.setIfInBounds_toArray,List.set_cons_zero,List.set_cons_succ]
   refine AnyS.take (i:=1) (oi:={ dst:=some 18,op:=Go.Op.move (Go.Operand.tmp 0),type:=3,pos := "gamma.go:37",after:=#[],guard:=none }) (v:=.int .i64 (n-(i:Int)*d)) (T:=fun w'=>(w'.cell? ⟨BX,0,none⟩=some (.bool X.neg)∧w'.cell? ⟨BX,1,none⟩=some (.slice X.a X.n X.cap))∧(w'.cell? ⟨BY,0,none⟩=some (.bool Y.neg)∧w'.cell? ⟨BY,1,none⟩=some (.slice Y.a Y.n Y.cap))) rfl (by kernel_rfl) (by kernel_rfl) (by kernel_rfl) (fun _ _ _ h=>h) 10 2 (fun j hl hj w h=>⟨h.1.elim (fun e=>absurd hl (by rw[e];decide)) (fun h=>h.elim (fun e=>absurd hl (by rw[e];decide)) (fun h=>h.elim (fun e=>absurd e (by omega)) (fun h=>h.elim (fun e=>absurd e (by omega)) id))),h.2.elim (fun e=>absurd e (by omega)) id⟩) (by kernel_rfl) (fun w h=>⟨Or.inr (Or.inr (Or.inr (Or.inr h.1))),Or.inr h.2⟩) (Or.inl ⟨by rfl,fun w hSw=>?_⟩) ⟨zA HK7 _ hD0,zA HK8 _ hD0⟩ ?_
   ·go_simp
   try simp only[Act.put,List.setIfInBounds_toArray,List.set_cons_zero,List.set_cons_succ]
   refine AnyS.take (i:=2) (oi:={ dst:=some 19,op:=Go.Op.move (Go.Operand.tmp 1),type:=3,pos := "gamma.go:37",after:=#[],guard:=none }) (v:=.int .i64 d) (T:=fun w'=>(w'.cell? ⟨BX,0,none⟩=some (.bool X.neg)∧w'.cell? ⟨BX,1,none⟩=some (.slice X.a X.n X.cap))∧(w'.cell? ⟨BY,0,none⟩=some (.bool Y.neg)∧w'.cell? ⟨BY,1,none⟩=some (.slice Y.a Y.n Y.cap))) rfl (by kernel_rfl) (by kernel_rfl) (by kernel_rfl) (fun _ _ _ h=>h) 10 2 (fun j hl hj w h=>⟨h.1.elim (fun e=>absurd hl (by rw[e];decide)) (fun h=>h.elim (fun e=>absurd hl (by rw[e];decide)) (fun h=>h.elim (fun e=>absurd e (by omega)) (fun h=>h.elim (fun e=>absurd e (by omega)) id))),h.2.elim (fun e=>absurd e (by omega)) id⟩) (by kernel_rfl) (fun w h=>⟨Or.inr (Or.inr (Or.inr (Or.inr h.1))),Or.inr h.2⟩) (Or.inl ⟨by rfl,fun w hSw=>?_⟩) ⟨zA HK7 _ hD0,zA HK8 _ hD0⟩ ?_
   ·go_simp
   try simp only[Act.put,List.setIfInBounds_toArray,List.set_cons_zero,List.set_cons_succ]
   refine AnyS.take (i:=3) (oi:={ dst:=some 20,op:=Go.Op.binOp Go.BinOp.sub 3 (Go.Operand.tmp 18) (Go.Operand.tmp 19) 3,type:=3,pos := "gamma.go:37",after:=#[{ on:=1,ground:=Go.Ground.data },{ on:=2,ground:=Go.Ground.data }],guard:=none }) (v:=.int .i64 (n-(i:Int)*d-d)) (T:=fun w'=>(w'.cell? ⟨BX,0,none⟩=some (.bool X.neg)∧w'.cell? ⟨BX,1,none⟩=some (.slice X.a X.n X.cap))∧(w'.cell? ⟨BY,0,none⟩=some (.bool Y.neg)∧w'.cell? ⟨BY,1,none⟩=some (.slice Y.a Y.n Y.cap))) rfl (by kernel_rfl) (by kernel_rfl) (by kernel_rfl) (fun _ _ _ h=>h) 10 2 (fun j hl hj w h=>⟨h.1.elim (fun e=>absurd hl (by rw[e];decide)) (fun h=>h.elim (fun e=>absurd hl (by rw[e];decide)) (fun h=>h.elim (fun e=>absurd e (by omega)) (fun h=>h.elim (fun e=>absurd e (by omega)) id))),h.2.elim (fun e=>absurd e (by omega)) id⟩) (by kernel_rfl) (fun w h=>⟨Or.inr (Or.inr (Or.inr (Or.inr h.1))),Or.inr h.2⟩) (Or.inl ⟨by rfl,fun w hSw=>?_⟩) ⟨zA HK7 _ hD0,zA HK8 _ hD0⟩ ?_
   ·go_simp;rw[zA HE1]
   try simp only[Act.put,List.setIfInBounds_toArray,List.set_cons_zero,List.set_cons_succ]
   refine AnyS.one (i:=4) (o:={ dst:=some 21,op:=Go.Op.call { callee:=Go.Callee.value (Go.Operand.func 43),args:=#[Go.Operand.tmp 20],argTypes:=#[3] },type:=26,pos := "gamma.go:37",after:=#[{ on:=3,ground:=Go.Ground.data }],guard:=none }) (by kernel_rfl) rfl (fun Kc hKc=>?_)
   go_simp
   refine (zD (n-(i:Int)*d-d) _ (zA HR).1 (zA HR).2).mono ?_;rintro r' w1 ⟨neg1,a1,n1,c1,rfl,hZ1,hb1⟩;have hD1:=zB hD0 hb1;clear hb1;go_wp2_with fail;refine hKc.out _ _ ⟨Or.inr (Or.inr (Or.inr (Or.inr (zA HK7 _ hD1)))),Or.inr (zA HK8 _ hD1)⟩ (fun _=>?_)
   clear hKc Kc
   try simp only[Act.put,List.setIfInBounds_toArray,List.set_cons_zero,List.set_cons_succ]
   refine AnyS.one (i:=5) (o:={ dst:=some 22,op:=Go.Op.call { callee:=Go.Callee.value (Go.Operand.func 66),args:=#[Go.Operand.tmp 17,Go.Operand.tmp 21],argTypes:=#[26,26] },type:=26,pos := "gamma.go:37",after:=#[{ on:=0,ground:=Go.Ground.data },{ on:=4,ground:=Go.Ground.data },{ on:=4,ground:=Go.Ground.chain }],guard:=none }) (by kernel_rfl) rfl (fun Kc hKc=>?_)
   go_simp
   refine (zX _ _ _ _ _ _ _ _ (4*i+4) 4 (stP n d i) (n-(i:Int)*d-d) _ ((zA HI).bw hD1) hZ1 (by omega) (by omega)).mono ?_
   rintro r' w2 ⟨neg2,a2,n2,c2,rfl,hZ2,hb2⟩;have hD2:=zB hD1 hb2;clear hb2 hZ1;go_wp2_with fail;refine hKc.out _ _ ⟨Or.inr (Or.inr (Or.inr (Or.inr (zA HK7 _ hD2)))),Or.inr (zA HK8 _ hD2)⟩ (fun _=>?_)
   clear hKc Kc
   try simp only[Act.put,List.setIfInBounds_toArray,List.set_cons_zero,List.set_cons_succ]
   refine AnyS.one (i:=8) (o:={ dst:=some 25,op:=Go.Op.call { callee:=Go.Callee.value (Go.Operand.func 43),args:=#[Go.Operand.tmp 24],argTypes:=#[3] },type:=26,pos := "gamma.go:37",after:=#[{ on:=7,ground:=Go.Ground.data },{ on:=5,ground:=Go.Ground.chain }],guard:=none }) (by kernel_rfl) rfl (fun Kc hKc=>?_)
   go_simp
   refine (zD d _ (by omega) (by omega)).mono ?_
   rintro r' w3 ⟨neg3,a3,n3,c3,rfl,hZ3,hb3⟩;have hD3:=zB hD2 hb3;replace hZ2:=hZ2.bw hb3;clear hb3;go_wp2_with fail;refine hKc.out _ _ ⟨Or.inr (Or.inr (Or.inr (Or.inr (zA HK7 _ hD3)))),Or.inr (zA HK8 _ hD3)⟩ (fun _=>?_)
   clear hKc Kc
   try simp only[Act.put,List.setIfInBounds_toArray,List.set_cons_zero,List.set_cons_succ]
   refine AnyS.one (i:=9) (o:={ dst:=some 26,op:=Go.Op.call { callee:=Go.Callee.value (Go.Operand.func 66),args:=#[Go.Operand.tmp 23,Go.Operand.tmp 25],argTypes:=#[26,26] },type:=26,pos := "gamma.go:37",after:=#[{ on:=6,ground:=Go.Ground.data },{ on:=8,ground:=Go.Ground.data },{ on:=8,ground:=Go.Ground.chain }],guard:=none }) (by kernel_rfl) rfl (fun Kc hKc=>?_)
   go_simp
   refine (zX _ _ _ _ _ _ _ _ (4*i+4) 4 (stQ d i) d _ ((zA HJ).bw hD3) hZ3 (by omega) (by omega)).mono ?_
   rintro r' w4 ⟨neg4,a4,n4,c4,rfl,hZ4,hb4⟩;have hD4:=zB hD3 hb4;replace hZ2:=hZ2.bw hb4;clear hb4 hZ3;go_wp2_with fail;refine hKc.out _ _ ⟨Or.inr (Or.inr (Or.inr (Or.inr (zA HK7 _ hD4)))),Or.inr (zA HK8 _ hD4)⟩ (fun _=>?_)
   clear hKc Kc
   try simp only[Act.put,List.setIfInBounds_toArray,List.set_cons_zero,List.set_cons_succ]
   have VX:=(zA HX).bw hD4;have VY:=(zA HY).bw hD4;have lX:=VX.lt;have lY:=VY.lt;have VY2:VnC (zAM w4 BX ⟨neg2,a2,n2,c2⟩) BY Y:=VY.off (Ne.symm (zA HST).ne) ⟨neg2,a2,n2,c2⟩;unfold zAM at VY2;obtain ⟨⟨z0,z1⟩,zf⟩:=VX;refine AnyS.one (i:=10) (o:={ dst:=none,op:=Go.Op.store 26 (Go.Operand.tmp 7) (Go.Operand.tmp 22),type:=0,pos := "gamma.go:37",after:=#[{ on:=5,ground:=Go.Ground.data },{ on:=9,ground:=Go.Ground.chain },{ on:=0,ground:=Go.Ground.phase },{ on:=1,ground:=Go.Ground.phase },{ on:=2,ground:=Go.Ground.phase },{ on:=3,ground:=Go.Ground.phase },{ on:=4,ground:=Go.Ground.phase },{ on:=5,ground:=Go.Ground.phase },{ on:=6,ground:=Go.Ground.textOnly Go.Departure.lateStores },{ on:=7,ground:=Go.Ground.textOnly Go.Departure.lateStores },{ on:=8,ground:=Go.Ground.textOnly Go.Departure.lateStoresUnsure },{ on:=9,ground:=Go.Ground.textOnly Go.Departure.lateStoresUnsure }],guard:=none }) (by kernel_rfl) rfl (fun Kc hKc=>?_)
   go_simp
   refine hKc.out _ _ ⟨Or.inr (Or.inr (Or.inl rfl)),Or.inr ⟨VY2.c.c0,VY2.c.c1⟩⟩ (fun _=>?_)
   clear hKc Kc z0 z1 zf
   try simp only[Act.put,List.setIfInBounds_toArray,List.set_cons_zero,List.set_cons_succ]
   have lY2:=VY2.lt;obtain ⟨⟨z0,z1⟩,zf⟩:=VY2;refine AnyS.last (o:={ dst:=none,op:=Go.Op.store 26 (Go.Operand.tmp 8) (Go.Operand.tmp 26),type:=0,pos := "gamma.go:37",after:=#[{ on:=9,ground:=Go.Ground.data },{ on:=10,ground:=Go.Ground.chain },{ on:=0,ground:=Go.Ground.phase },{ on:=1,ground:=Go.Ground.phase },{ on:=2,ground:=Go.Ground.phase },{ on:=3,ground:=Go.Ground.phase },{ on:=4,ground:=Go.Ground.phase },{ on:=5,ground:=Go.Ground.phase },{ on:=6,ground:=Go.Ground.phase },{ on:=7,ground:=Go.Ground.phase },{ on:=8,ground:=Go.Ground.phase },{ on:=9,ground:=Go.Ground.phase },{ on:=10,ground:=Go.Ground.phase }],guard:=none }) (by kernel_rfl) rfl (by kernel_rfl) (fun _=>⟨Or.inr (Or.inr (Or.inr (Or.inl rfl))),Or.inl rfl⟩) (fun Kc hKc=>?_)
   go_simp
   refine hKc.out _ _ ?_;clear hKc Kc z0 z1 zf HK7 HK8;have stn:=((zA HST).bw hD4).put (X':=⟨neg2,a2,n2,c2⟩) (Y':=⟨neg4,a4,n4,c4⟩) hZ2 hZ4;unfold zAM at stn
   have e1:stP n d i*(n-(i:Int)*d-d)=stP n d (i+1):=by
    show _=stP n d i*(n-((i:Int)+1)*d)
    congr 1;grind
   have e2:stQ d i*d=stQ d (i+1):=rfl
   have e3:n-(i:Int)*d-d=n-((i+1:Nat):Int)*d:=by
    have:((i+1:Nat):Int)=(i:Int)+1:=by omega
    rw[this];grind
   rw[e1,e2,show 4*i+4+4=4*(i+1)+4 by omega] at stn
   have E3:=zC e3;clear e1 e2 e3;go_wp2_with fail
   go_roundw
   case rel=>exact ⟨i+1,_,_,congrArg _ (zA E3),by omega,stn⟩
   case measure=>simp[intOf];omega
  ·have hin1:¬ d<n-(i:Int)*d:=by
    have:=(zA H).rest.2.1;have e:i=stN n d:=by omega
    rw[e];omega
   have hik:i=stN n d:=by omega
   subst hik;have lX:=st.x.lt;have lY:=st.y.lt;have q1:=st.n1;have q2:=st.n2;have l1:=st.l1;have l2:=st.l2;have lq1:=q1.lt;have lq2:=q2.lt;have HST:=zC st;obtain ⟨⟨x0,x1⟩,xf⟩:=st.x;obtain ⟨⟨y0,y1⟩,yf⟩:=st.y;obtain ⟨q10,q11,q1f⟩:=q1;obtain ⟨q20,q21,q2f⟩:=q2;clear st;have m1:w.heap.size≠BX:=by omega
   have m2:w.heap.size≠BY:=by omega
   have m3:w.heap.size+1≠BX:=by omega
   have m4:w.heap.size+1≠BY:=by omega
   go_wp2_with fail;have HE:=st_end (zA HST);unfold zAM at HE
   go_region
   all_goals
    go_wp2_with fail;refine bodyPost_ret (v:=.tuple #[.int .i64 (n-(stN n d:Int)*d),.agg #[.bool X.neg,.slice X.a X.n X.cap],.agg #[.bool Y.neg,.slice Y.a Y.n Y.cap]]) (by simp[results,Tryz.results112,go_sem,q10,q11,q20,q21]) rfl ⟨X,Y,rfl,?_,?_,?_⟩
    ·exact HE.1.bw (Below.refl _ _).drew
    ·exact HE.2.1.bw (Below.refl _ _).drew
    ·exact HE.2.2.drew
end Go.Proofs.YtgmnknmjainababGreat
