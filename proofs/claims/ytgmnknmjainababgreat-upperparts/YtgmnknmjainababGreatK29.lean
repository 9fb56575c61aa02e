/-
  Its own texts.
-/
import Derived.Test.YtgmnknmjainababGreatK28
set_option maxRecDepth 100000
set_option maxHeartbeats 8000000
set_option linter.unnecessarySimpa false
set_option linter.unusedSimpArgs false
set_option linter.unusedVariables false
namespace Go.Proofs.YtgmnknmjainababGreat
open Go.RowKit
attribute [local go_sem ↓] Go.wp_at_zero Go.wp_at_succ
open Ex
theorem zLN (L:Rat→Nat→Rat) (hL:Lns L) (w:World) (x y:Nm) (p q n d:Int) (b:Nat) (g X:Nat→Rat) (hx:IntAt w x.neg x.a x.n x.cap 4 n) (hy:IntAt w y.neg y.a y.n y.cap 4 d) (h:LwAr p q n d b) (h0:n=0) :
  Calls Tryz.prog 132 #[.agg #[.int .i64 p,.int .i64 q],.agg #[.bool x.neg,.slice x.a x.n x.cap],.agg #[.bool y.neg,.slice y.a y.n y.cap],.int .i64 b] w (fun r w'=>∃ lo hi,zE4 (lwX L p q n d g) b lo hi∧zH w b 30 lo hi r w'):=by
 obtain ⟨W,hW⟩:∃ W,W=(((w.alloc (.cells #[.int .i64 p,.int .i64 q] 23)).alloc (.cells #[.bool x.neg,.slice x.a x.n x.cap] 26)).alloc (.cells #[.bool y.neg,.slice y.a y.n y.cap] 26)).alloc (.cells #[.bool false,.slice none 0 0,.bool false,.slice none 0 0,.int .i64 0] 28):=⟨_,rfl⟩;have hBW:Below w.heap.size w W:=by rw[hW];exact bl4 _ _ _ _ _
 have A:RaC W (w.heap.size) p q:=by rw[hW];constructor <;> simp[go_sem]
 have X0:NmC W (w.heap.size+1) x:=by rw[hW];constructor <;> simp[go_sem]
 have Y0:NmC W (w.heap.size+1+1) y:=by rw[hW];constructor <;> simp[go_sem]
 have R:NoC W (w.heap.size+1+1+1):=by rw[hW];constructor <;> simp[go_sem]
 have HX:=zC (hx.bw hBW);have HY:=zC (hy.bw hBW);have fX0:=X0.c0;have fX1:=X0.c1;have lX:=X0.lt;clear hx hy;have d0:=h.d0;have b1:=h.b1;have HC0:=zC (show zF n 0=0 by rw[h0];rfl)
 have HV:=zC (show zE4 (lwX L p q n d g) b 0 0 by
  have q:=zG b;have q2:=zG 89;refine ⟨Int.le_refl _,Int.le_refl _,by omega,by omega,?_⟩
  unfold lwX;rw[if_pos h0];have e:((0:Int):Rat)/(Q b:Rat)=0:=by rw[show ((0:Int):Rat)=0 from rfl,Rat.div_def,Rat.zero_mul]
  exact Has.const (by rw[e];exact Rat.le_refl) (by rw[e];exact Rat.le_refl))
 have HZ:=zC (show n*Q b/d=0 ∧ -(-(n*Q b)/d)=0 by rw[h0,Int.zero_mul];simp)
 clear h h0 hL
 go_enter Tryz.func132,Tryz.ntmps132
 go_wp2_with fail;rw[← hW];clear hW fX0 fX1 lX;refine (jZ _ _ _ _ _ n _ (zA HX)).mono ?_;rintro r w1 ⟨rfl,hb1⟩;rw[zA HC0];replace A:=A.bw hb1;replace X0:=X0.bw hb1;replace Y0:=Y0.bw hb1;replace R:=R.bw hb1;replace HX:=zC ((zA HX).bw hb1);replace HY:=zC ((zA HY).bw hb1);replace hBW:=zB hBW hb1;clear hb1;obtain ⟨x0,x1⟩:=X0;obtain ⟨y0,y1⟩:=Y0;have lR:=R.lt;have lX:=NmC.lt ⟨x0,x1⟩;have lY:=NmC.lt ⟨y0,y1⟩;go_wp2_with fail;refine (zAR _ _ _ _ _ _ _ _ 4 4 b n d _ (zA HX) (zA HY) (by omega) (by omega) d0).mono ?_
 rintro r w2 ⟨t,rfl,htb,htp,hb2⟩;rw[(zA HZ).1,(zA HZ).2] at htp;have HT:=zC htb;replace hBW:=zB hBW hb2;obtain ⟨q0,q1,q2,q3,q4,q5⟩:=R.bw hb2;have lR2:=R.lt;clear htb hb2 x0 x1 y0 y1;have fit:=htp.fits (K:=30) (Int.le_refl _) (by have:=kN 30;omega) (kN 30)
 go_wp2_with fail;refine bodyPost_ret (v:=.agg #[.bool t.ln,.slice t.la t.lN t.lc,.bool t.hn,.slice t.ha t.hN t.hc,.int .i64 t.bits]) (by simp[results,Tryz.results132,go_sem,q0,q1,q2,q3,q4]) rfl ⟨_,_,zA HV,t,rfl,zA HT,?_,?_⟩
 ·exact SpAt.put5 fit q0 q1 q2 q3 q4 _ _ _ _ _
 ·exact jV hBW (by omega) _ _ _ _ _
theorem zNL (L:Rat→Nat→Rat) (hL:Lns L) (w:World) (x y:Nm) (p q n d:Int) (b:Nat) (g X:Nat→Rat) (hx:IntAt w x.neg x.a x.n x.cap 4 n) (hy:IntAt w y.neg y.a y.n y.cap 4 d) (h:LwAr p q n d b) (h0:0<n) (hf:d*(2*((b:Int)+p/q+1))≤n) (ig:IsGam L ((p:Rat)/(q:Rat)) g) :
  Calls Tryz.prog 132 #[.agg #[.int .i64 p,.int .i64 q],.agg #[.bool x.neg,.slice x.a x.n x.cap],.agg #[.bool y.neg,.slice y.a y.n y.cap],.int .i64 b] w (fun r w'=>∃ lo hi,zE4 (lwX L p q n d g) b lo hi∧zH w b 30 lo hi r w'):=by
 obtain ⟨W,hW⟩:∃ W,W=(((w.alloc (.cells #[.int .i64 p,.int .i64 q] 23)).alloc (.cells #[.bool x.neg,.slice x.a x.n x.cap] 26)).alloc (.cells #[.bool y.neg,.slice y.a y.n y.cap] 26)).alloc (.cells #[.bool false,.slice none 0 0,.bool false,.slice none 0 0,.int .i64 0] 28):=⟨_,rfl⟩;have hBW:Below w.heap.size w W:=by rw[hW];exact bl4 _ _ _ _ _
 have A:RaC W (w.heap.size) p q:=by rw[hW];constructor <;> simp[go_sem]
 have X0:NmC W (w.heap.size+1) x:=by rw[hW];constructor <;> simp[go_sem]
 have Y0:NmC W (w.heap.size+1+1) y:=by rw[hW];constructor <;> simp[go_sem]
 have R:NoC W (w.heap.size+1+1+1):=by rw[hW];constructor <;> simp[go_sem]
 have HX:=zC (hx.bw hBW);have HY:=zC (hy.bw hBW);have fX0:=X0.c0;have fX1:=X0.c1;have lX:=X0.lt;clear hx hy;have d0:=h.d0;have b0:=h.b0;have b1:=h.b1;have HC0:=zC (show zF n 0=1 by unfold zF;rw[if_neg (by omega),if_pos (by omega)])
 have HPQ:=zC (show 0<p∧0<q∧p≤1152921504606846976 by have:=h.p0;have:=h.q0;have:=h.pq;have:=h.qq;exact ⟨h.p0,h.q0,by omega⟩)
 have HFB:=zC (show -9223372036854775808≤2*((b:Int)+p/q+1)∧2*((b:Int)+p/q+1)≤9223372036854775807 by
  have:=Int.ediv_nonneg (Int.le_of_lt h.p0) (Int.le_of_lt h.q0);have:p/q≤100:=Int.ediv_le_of_le_mul h.q0 h.pq;have:=h.b1
  exact ⟨by omega,by omega⟩)
 have HV:=zC (show zE4 (lwX L p q n d g) b (Q b-1) (Q b) by
  unfold lwX;rw[if_neg (by omega)]
  exact zM1 hL h.p0 h.q0 d0 hf (by omega) ig)
 have HFT:=zC (zLJ (zA HV) b1);obtain ⟨cc,hc0,hc1⟩:∃ cc:Int,0≤cc∧zF n (d*(2*((b:Int)+p/q+1)))=cc:=⟨_,by unfold zF;split;omega;split <;> omega,rfl⟩
 have HC:=zC hc1;clear h h0 hf hL ig hc1
 go_enter Tryz.func132,Tryz.ntmps132
 go_wp2_with fail;rw[← hW];clear hW fX0 fX1 lX;refine (jZ _ _ _ _ _ n _ (zA HX)).mono ?_;rintro r w1 ⟨rfl,hb1⟩;rw[zA HC0];replace A:=A.bw hb1;replace X0:=X0.bw hb1;replace Y0:=Y0.bw hb1;replace R:=R.bw hb1;replace HX:=zC ((zA HX).bw hb1);replace HY:=zC ((zA HY).bw hb1);replace hBW:=zB hBW hb1;clear hb1;have lA:=A.lt;have lX:=X0.lt;have lY:=Y0.lt;have lR:=R.lt;have HK:=zC (show ∀ w',Below w1.heap.size w1 w'→(w'.cell? ⟨w.heap.size,0,none⟩=some (.int .i64 p)∧w'.cell? ⟨w.heap.size,1,none⟩=some (.int .i64 q)∧w'.cell? ⟨w.heap.size+1,0,none⟩=some (.bool x.neg)∧w'.cell? ⟨w.heap.size+1,1,none⟩=some (.slice x.a x.n x.cap)∧w'.cell? ⟨w.heap.size+1+1,0,none⟩=some (.bool y.neg)∧w'.cell? ⟨w.heap.size+1+1,1,none⟩=some (.slice y.a y.n y.cap)) from fun w' hB=>⟨(A.bw hB).c0,(A.bw hB).c1,(X0.bw hB).c0,(X0.bw hB).c1,(Y0.bw hB).c0,(Y0.bw hB).c1⟩)
 have hB0:Below w1.heap.size w1 w1.drew:=(Below.refl _ _).drew;go_wp2_with fail;obtain ⟨x0,x1,x2,x3,x4,x5⟩:=zA HK _ (Below.refl _ _)
 go_region_held3 (fun w'=>w'.cell? ⟨w.heap.size,0,none⟩=some (.int .i64 p)∧w'.cell? ⟨w.heap.size,1,none⟩=some (.int .i64 q)∧w'.cell? ⟨w.heap.size+1,0,none⟩=some (.bool x.neg)∧w'.cell? ⟨w.heap.size+1,1,none⟩=some (.slice x.a x.n x.cap)∧w'.cell? ⟨w.heap.size+1+1,0,none⟩=some (.bool y.neg)∧w'.cell? ⟨w.heap.size+1+1,1,none⟩=some (.slice y.a y.n y.cap)) (first|exact zA HK _ (by with_reducible first|exact hB0|exact hB4|exact hB3|exact hB2|exact hB1)|go_keep)
  (first
   | (go_at_call 46;have hq:=hB3;refine (zS _ _ _ _ _ _ _ _ 4 (4+4) n (d*(2*((b:Int)+p/q+1))) _ ((zA HX).bw hB3) hZ3).mono ?_;rintro r w5 ⟨rfl,hb5⟩;rw[zA HC];have hB4:=zB hB3 hb5;have i0:=zA HK _ hB4)
   | (go_at_call 66;have hq:=hB2;refine (zX _ _ _ _ _ _ _ _ 4 4 d (2*((b:Int)+p/q+1)) _ ((zA HY).bw hB2) hZ2 (by omega) (by omega)).mono ?_;rintro r w4 ⟨neg3,a3,n3,c3,rfl,hZ3,hb4⟩;have hB3:=zB hB2 hb4)
   | (go_at_call 43;have hq:=hB1;refine (zD (2*((b:Int)+p/q+1)) _ (zA HFB).1 (zA HFB).2).mono ?_;rintro r w3 ⟨neg2,a2,n2,c2,rfl,hZ2,hb3⟩;have hB2:=zB hB1 hb3)
   | (go_at_call 171;refine (zD2 _ p q b (zA HPQ).1 (zA HPQ).2.1 (zA HPQ).2.2 (by omega)).mono ?_;rintro r w2 ⟨rfl,hb2⟩;have hB1:=zB hB0 hb2))
 all_goals
  have R3:=R.bw hB4;replace hBW:=zB hBW hB4;have lR3:=R3.lt;clear x0 x1 x2 x3 x4 x5 i0 hZ2 hZ3;go_wp2_with fail;refine (zGN _ b (by omega)).mono ?_
  rintro r w6 ⟨t,rfl,htb,htp,hb6⟩;obtain ⟨q0,q1,q2,q3,q4,q5⟩:=R3.bw hb6;replace hBW:=zB hBW hb6;have HT:=zC htb;clear htb;have fit:=htp.fits (K:=30) (zA HFT).1 (zA HFT).2.1 (zA HFT).2.2;go_wp2_with fail;refine bodyPost_ret (v:=.agg #[.bool t.ln,.slice t.la t.lN t.lc,.bool t.hn,.slice t.ha t.hN t.hc,.int .i64 t.bits]) (by simp[results,Tryz.results132,go_sem,q0,q1,q2,q3,q4]) rfl ⟨_,_,zA HV,t,rfl,zA HT,?_,?_⟩
  ·exact SpAt.put5 fit q0 q1 q2 q3 q4 _ _ _ _ _
  ·exact jV hBW (by omega) _ _ _ _ _
theorem zME (L:Rat→Nat→Rat) (hL:Lns L) (w:World) (x y:Nm) (p q n d:Int) (b:Nat) (g X:Nat→Rat) (hx:IntAt w x.neg x.a x.n x.cap 4 n) (hy:IntAt w y.neg y.a y.n y.cap 4 d) (h:zJ4 p q n d b) (ig:IsGam L ((p:Rat)/(q:Rat)) g) (hX:IsLog X (fun M=>(p:Rat)/(q:Rat)*g M)) (hLG:∀ w',Calls Tryz.prog 61 #[.int .i64 (p+q),.int .i64 q,.int .i64 b] w' (fun r w''=>∃ lo hi,LgP2 X b lo hi∧zH w' b 521 lo hi r w'')) :
  Calls Tryz.prog 132 #[.agg #[.int .i64 p,.int .i64 q],.agg #[.bool x.neg,.slice x.a x.n x.cap],.agg #[.bool y.neg,.slice y.a y.n y.cap],.int .i64 b] w (fun r w'=>∃ lo hi,zE4 (lwX L p q n d g) b lo hi∧zH w b 30 lo hi r w'):=by
 obtain ⟨W,hW⟩:∃ W,W=(((w.alloc (.cells #[.int .i64 p,.int .i64 q] 23)).alloc (.cells #[.bool x.neg,.slice x.a x.n x.cap] 26)).alloc (.cells #[.bool y.neg,.slice y.a y.n y.cap] 26)).alloc (.cells #[.bool false,.slice none 0 0,.bool false,.slice none 0 0,.int .i64 0] 28):=⟨_,rfl⟩;have hBW:Below w.heap.size w W:=by rw[hW];exact bl4 _ _ _ _ _
 have A:RaC W (w.heap.size) p q:=by rw[hW];constructor <;> simp[go_sem]
 have X0:NmC W (w.heap.size+1) x:=by rw[hW];constructor <;> simp[go_sem]
 have Y0:NmC W (w.heap.size+1+1) y:=by rw[hW];constructor <;> simp[go_sem]
 have R:NoC W (w.heap.size+1+1+1):=by rw[hW];constructor <;> simp[go_sem]
 have HX:=zC (hx.bw hBW);have HY:=zC (hy.bw hBW);have fX0:=X0.c0;have fX1:=X0.c1;have lX:=X0.lt;clear hx hy;have d0:=h.d0;have q0':=h.q0;have p0':=h.p0;have n0':=h.n0;have b0:=h.b0;have b1:=h.b1;have HC0:=zC (show zF n 0=1 by unfold zF;rw[if_neg (by omega),if_pos (by omega)])
 have HPQ:=zC (show 0<p∧0<q∧p≤1152921504606846976 by have:=h.p0;have:=h.q0;have:=h.pq;have:=h.qq;exact ⟨h.p0,h.q0,by omega⟩)
 have HFB:=zC (show -9223372036854775808≤2*((b:Int)+p/q+1)∧2*((b:Int)+p/q+1)≤9223372036854775807 by
  have:=Int.ediv_nonneg (Int.le_of_lt h.p0) (Int.le_of_lt h.q0);have:p/q≤100:=Int.ediv_le_of_le_mul h.q0 h.pq;have:=h.b1
  exact ⟨by omega,by omega⟩)
 have HC:=zC (show zF n (d*(2*((b:Int)+p/q+1))) = -1 by unfold zF;rw[if_pos h.nx])
 have H:=zC h;have HL:=zC hL;have HG:=zC (And.intro ig hX);have HLG:=zC hLG;have hq2:q≤1048576:=h.qq;have hp2:p≤104857600:=by have:=h.pq;omega
 obtain ⟨NS,hNS,hNS2⟩:=lu_set h;have xx:=lu_x h;have hTN:=xx.2.2
 have PK:Q 20461<P 1300:=by
  rw[← Q_P];have h1:=zJ (show 20461+1≤16*1300 by omega)
  have g2:∀ j,Q (j+1)=2*Q j:=fun _=>rfl
  rw[g2] at h1;have:=zG 20461;generalize Q 20461=z at *;omega
 have HQB:=zC (show -P 1300<Q b∧Q b<P 1300 by
  have:=zG b;have:=zJ (show b≤20461 by omega)
  have:=kN 1300
  exact ⟨by omega,by omega⟩)
 have HTF:=zC (show ∀ j,j≤NS → -P 1300<(luT p q n d b j).1∧(luT p q n d b j).2<P 1300 from fun j _=>by
  have e:0≤(luT p q n d b j).1:=(zBU (zGJ h) j).1;have u:=lu_hi h j;have:=kN 1300
  exact ⟨by omega,by omega⟩)
 have HTS:=zC (show ∀ j,j≤NS → -P 1300<(jG (luT p q n d b) j).1∧(jG (luT p q n d b) j).2<P 1300 from fun j hj=>by
  have u:=lu_fit h j (by omega)
  have l:Q b≤(jG (luT p q n d b) j).1:=(zLD (zGJ h) j).2.2;have:=zG b;have:=kN 1300
  exact ⟨by omega,by omega⟩)
 have HTL:=zC (fun j=>show (luT p q n d b j).1≤(luT p q n d b j).2 from (zBU (zGJ h) j).2)
 have HT0:=zC (fun j=>show 0≤(luT p q n d b j).1 from (zBU (zGJ h) j).1)
 have HM:=zC hNS2
 have HZ:=zC (show 2*n/d=(luN n d:Int)∧0≤2*n/d∧2*n/d<P 1 ∧ -P 1<2*n/d by
  have p1:P 1=65536:=rfl;have:=xx.2.1
  exact ⟨by omega,by omega,by omega,by omega⟩)
 have HQ4:=zC (show Q (b+4)<P 500 by
  rw[← Q_P];have h1:=zJ (show b+4+1≤16*500 by omega)
  have h2:Q (b+4+1)=2*Q (b+4):=rfl;have:=zG (b+4)
  omega)
 clear h hL ig hX hLG hNS2 PK xx
 go_enter Tryz.func132,Tryz.ntmps132
 go_wp2_with fail;rw[← hW];clear hW fX0 fX1 lX;refine (jZ _ _ _ _ _ n _ (zA HX)).mono ?_;rintro r w1 ⟨rfl,hb1⟩;rw[zA HC0];replace A:=A.bw hb1;replace X0:=X0.bw hb1;replace Y0:=Y0.bw hb1;replace R:=R.bw hb1;replace HX:=zC ((zA HX).bw hb1);replace HY:=zC ((zA HY).bw hb1);replace hBW:=zB hBW hb1;clear hb1;have lA:=A.lt;have lX:=X0.lt;have lY:=Y0.lt;have lR:=R.lt;have HK:=zC (show ∀ w',Below w1.heap.size w1 w'→(w'.cell? ⟨w.heap.size,0,none⟩=some (.int .i64 p)∧w'.cell? ⟨w.heap.size,1,none⟩=some (.int .i64 q)∧w'.cell? ⟨w.heap.size+1,0,none⟩=some (.bool x.neg)∧w'.cell? ⟨w.heap.size+1,1,none⟩=some (.slice x.a x.n x.cap)∧w'.cell? ⟨w.heap.size+1+1,0,none⟩=some (.bool y.neg)∧w'.cell? ⟨w.heap.size+1+1,1,none⟩=some (.slice y.a y.n y.cap)) from fun w' hB=>⟨(A.bw hB).c0,(A.bw hB).c1,(X0.bw hB).c0,(X0.bw hB).c1,(Y0.bw hB).c0,(Y0.bw hB).c1⟩)
 have hB0:Below w1.heap.size w1 w1.drew:=(Below.refl _ _).drew;go_wp2_with fail;obtain ⟨x0,x1,x2,x3,x4,x5⟩:=zA HK _ (Below.refl _ _)
 go_region_held3 (fun w'=>w'.cell? ⟨w.heap.size,0,none⟩=some (.int .i64 p)∧w'.cell? ⟨w.heap.size,1,none⟩=some (.int .i64 q)∧w'.cell? ⟨w.heap.size+1,0,none⟩=some (.bool x.neg)∧w'.cell? ⟨w.heap.size+1,1,none⟩=some (.slice x.a x.n x.cap)∧w'.cell? ⟨w.heap.size+1+1,0,none⟩=some (.bool y.neg)∧w'.cell? ⟨w.heap.size+1+1,1,none⟩=some (.slice y.a y.n y.cap)) (first|exact zA HK _ (by with_reducible first|exact hB0|exact hB4|exact hB3|exact hB2|exact hB1)|go_keep)
  (first
   | (go_at_call 46;have hq:=hB3;refine (zS _ _ _ _ _ _ _ _ 4 (4+4) n (d*(2*((b:Int)+p/q+1))) _ ((zA HX).bw hB3) hZ3).mono ?_;rintro r w5 ⟨rfl,hb5⟩;rw[zA HC];have hB4:=zB hB3 hb5;have i0:=zA HK _ hB4)
   | (go_at_call 66;have hq:=hB2;refine (zX _ _ _ _ _ _ _ _ 4 4 d (2*((b:Int)+p/q+1)) _ ((zA HY).bw hB2) hZ2 (by omega) (by omega)).mono ?_;rintro r w4 ⟨neg3,a3,n3,c3,rfl,hZ3,hb4⟩;have hB3:=zB hB2 hb4)
   | (go_at_call 43;have hq:=hB1;refine (zD (2*((b:Int)+p/q+1)) _ (zA HFB).1 (zA HFB).2).mono ?_;rintro r w3 ⟨neg2,a2,n2,c2,rfl,hZ2,hb3⟩;have hB2:=zB hB1 hb3)
   | (go_at_call 171;refine (zD2 _ p q b (zA HPQ).1 (zA HPQ).2.1 (zA HPQ).2.2 (by omega)).mono ?_;rintro r w2 ⟨rfl,hb2⟩;have hB1:=zB hB0 hb2))
 all_goals
  replace A:=A.bw hB4;replace X0:=X0.bw hB4;replace Y0:=Y0.bw hB4;replace R:=R.bw hB4;replace HX:=zC ((zA HX).bw hB4);replace HY:=zC ((zA HY).bw hB4);replace hBW:=zB hBW hB4;clear x0 x1 x2 x3 x4 x5 i0 hZ2 hZ3 lA lX lY lR;have lA:=A.lt;have lX:=X0.lt;have lY:=Y0.lt;have lR:=R.lt;have HKU:=zC (show ∀ w',Below w5.heap.size w5 w'→(w'.cell? ⟨w.heap.size,0,none⟩=some (.int .i64 p)∧w'.cell? ⟨w.heap.size,1,none⟩=some (.int .i64 q)∧w'.cell? ⟨w.heap.size+1,0,none⟩=some (.bool x.neg)∧w'.cell? ⟨w.heap.size+1,1,none⟩=some (.slice x.a x.n x.cap)∧w'.cell? ⟨w.heap.size+1+1,0,none⟩=some (.bool y.neg)∧w'.cell? ⟨w.heap.size+1+1,1,none⟩=some (.slice y.a y.n y.cap)) from fun w' hB=>⟨(A.bw hB).c0,(A.bw hB).c1,(X0.bw hB).c0,(X0.bw hB).c1,(Y0.bw hB).c0,(Y0.bw hB).c1⟩)
  go_wp2_with fail
  go_cut [9] (fun p wx=>∃ (B:Nat) (u:Nm),p=.pointer (some ⟨B,0,none⟩)∧w5.heap.size≤B∧NmC wx B u∧IntAt wx u.neg u.a u.n u.cap 8 (n*q)∧Below w5.heap.size w5 wx)
  case first =>
   go_region_held3 (fun w'=>w'.cell? ⟨w.heap.size,0,none⟩=some (.int .i64 p)∧w'.cell? ⟨w.heap.size,1,none⟩=some (.int .i64 q)∧w'.cell? ⟨w.heap.size+1,0,none⟩=some (.bool x.neg)∧w'.cell? ⟨w.heap.size+1,1,none⟩=some (.slice x.a x.n x.cap)∧w'.cell? ⟨w.heap.size+1+1,0,none⟩=some (.bool y.neg)∧w'.cell? ⟨w.heap.size+1+1,1,none⟩=some (.slice y.a y.n y.cap)) (exact zA HKU _ (by repeat' (first|with_reducible exact hBU2|with_reducible exact hBU1|with_reducible exact Below.refl _ _|with_reducible refine Below.drew ?_|with_reducible refine zK ?_ _|with_reducible refine Below.setCell ?_ (by first|exact Nat.le_refl _|exact hlU1|exact hlU2) _)))
    (first
     | (go_at_call 66;have hq:=hBU1;refine (zX _ _ _ _ _ _ _ _ 4 4 n q _ ((zA HX).bw (by with_reducible first|exact hBU1|exact zK hBU1 _)) (hZU1.bw (by with_reducible first|exact Below.refl _ _|exact bl1 _ _)) (by omega) (by omega)).mono ?_;rintro r wU2 ⟨negU2,aU2,nU2,cU2,rfl,hZU2,hbU2⟩;have hCU2:Below wU1.heap.size wU1 wU2:=(by with_reducible first|exact hbU2|exact zB (bl1 _ _) hbU2);have hBU2:=zB hBU1 hCU2;(try with_reducible have gU2:=(jW wU1 26).bw hbU2);replace hZU1:=hZU1.bw hCU2;(try replace gU1:=gU1.bw hCU2);have hlU2:=hBU2.size;(try have mU1:=gU1.lt);(try obtain ⟨zU10,zU11,zU1f⟩:=gU1);(try have mU2:=gU2.lt);(try obtain ⟨zU20,zU21,zU2f⟩:=gU2))
     | (go_at_call 43;refine (zD q _ (by omega) (by omega)).mono ?_;rintro r wU1 ⟨negU1,aU1,nU1,cU1,rfl,hZU1,hbU1⟩;have hBU1:Below w5.heap.size w5 wU1:=(by with_reducible first|exact zB (Below.refl _ _).drew hbU1|exact zB (bl1 _ _).drew hbU1);(try with_reducible have gU1:=((jW w5 26).bw (Below.refl _ _).drew).bw hbU1);have hlU1:=hBU1.size))
   all_goals
    have hfinU:IntAt wU2 negU2 aU2 nU2 cU2 8 (n*q):=hZU2.mono (by omega)
    go_wp2_with fail;go_meet;refine ⟨_,⟨negU2,aU2,nU2,cU2⟩,rfl,?_,⟨?_,?_⟩,?_,?_⟩
    ·first|exact Nat.le_refl _|exact hlU1|exact hlU2
    ·simp[go_sem, *]
    ·simp[go_sem, *]
    ·first|with_reducible exact hfinU.put2 zU20 zU21 _ _|with_reducible exact hfinU.put2 zU10 zU11 _ _|with_reducible exact hfinU.bw (bl1 _ _)
    ·repeat' (first|with_reducible exact hBU2|with_reducible exact hBU1|with_reducible exact Below.refl _ _|with_reducible refine Below.drew ?_|with_reducible refine zK ?_ _|with_reducible refine Below.setCell ?_ (by first|exact Nat.le_refl _|exact hlU1|exact hlU2) _)
  case rest =>
  obtain ⟨BU,xU,rfl,hHU,XU,hpU,hblU⟩:=hcut;obtain ⟨V1,hV1⟩:∃ V,V=wc:=⟨_,rfl⟩;subst hV1;replace A:=A.bw hblU;replace X0:=X0.bw hblU;replace Y0:=Y0.bw hblU;replace R:=R.bw hblU;replace HX:=zC ((zA HX).bw hblU);replace HY:=zC ((zA HY).bw hblU);replace hBW:=zB hBW hblU;clear HKU lA lX lY lR hHU;have HPU:=zC hpU;clear hpU;have lA:=A.lt;have lX:=X0.lt;have lY:=Y0.lt;have lR:=R.lt;have lU:=XU.lt;have HK6:=zC (show ∀ w',Below V1.heap.size V1 w'→(w'.cell? ⟨w.heap.size,0,none⟩=some (.int .i64 p)∧w'.cell? ⟨w.heap.size,1,none⟩=some (.int .i64 q)∧w'.cell? ⟨w.heap.size+1,0,none⟩=some (.bool x.neg)∧w'.cell? ⟨w.heap.size+1,1,none⟩=some (.slice x.a x.n x.cap)∧w'.cell? ⟨w.heap.size+1+1,0,none⟩=some (.bool y.neg)∧w'.cell? ⟨w.heap.size+1+1,1,none⟩=some (.slice y.a y.n y.cap)) from fun w' hB=>⟨(A.bw hB).c0,(A.bw hB).c1,(X0.bw hB).c0,(X0.bw hB).c1,(Y0.bw hB).c0,(Y0.bw hB).c1⟩)
  have hE0:Below V1.heap.size V1 V1.drew:=(Below.refl _ _).drew;go_wp2_with fail;obtain ⟨x0,x1,x2,x3,x4,x5⟩:=zA HK6 _ (Below.refl _ _)
  go_region_held3 (fun w'=>w'.cell? ⟨w.heap.size,0,none⟩=some (.int .i64 p)∧w'.cell? ⟨w.heap.size,1,none⟩=some (.int .i64 q)∧w'.cell? ⟨w.heap.size+1,0,none⟩=some (.bool x.neg)∧w'.cell? ⟨w.heap.size+1,1,none⟩=some (.slice x.a x.n x.cap)∧w'.cell? ⟨w.heap.size+1+1,0,none⟩=some (.bool y.neg)∧w'.cell? ⟨w.heap.size+1+1,1,none⟩=some (.slice y.a y.n y.cap)) (first|exact zA HK6 _ (by with_reducible first|exact hE0|exact hE3|exact hE2|exact hE1)|go_keep)
   (first
    | (go_at_call 158;have hq:=hE2;refine (zOY _ _ _ _ (2*n/d) _ (hZ7.fits (zA HZ).2.2.2 (zA HZ).2.2.1) (zA HZ).2.1).mono ?_;rintro r w8 ⟨rfl,hb8⟩;rw[(zA HZ).1];have hE3:=zB hE2 hb8;have i0:=zA HK6 _ hE3)
    | (go_at_call 119;have hq:=hE1;refine (kO _ _ _ _ _ _ _ _ 5 4 (2*n) d _ hZ6 ((zA HY).bw hE1) (by omega) d0).mono ?_;rintro r w7 ⟨neg7,a7,n7,c7,rfl,hZ7,hb7⟩;have hE2:=zB hE1 hb7)
    | (go_at_call 95;refine (up_one _ _ _ _ 4 n _ ((zA HX).bw hE0) (by omega)).mono ?_;rintro r w6 ⟨neg6,a6,n6,c6,rfl,hZ6,hb6⟩;have hE1:=zB hE0 hb6))
  all_goals
   replace A:=A.bw hE3;replace X0:=X0.bw hE3;replace Y0:=Y0.bw hE3;replace R:=R.bw hE3;replace HX:=zC ((zA HX).bw hE3);replace HY:=zC ((zA HY).bw hE3);replace hBW:=zB hBW hE3;replace XU:=XU.bw hE3;replace HPU:=zC ((zA HPU).bw hE3);clear x0 x1 x2 x3 x4 x5 i0 hZ6 hZ7 lA lX lY lR lU HK6;have lA:=A.lt;have lX:=X0.lt;have lY:=Y0.lt;have lR:=R.lt;have lU:=XU.lt;go_wp2_with fail;refine (zE7 _ b (by omega)).mono ?_
   rintro r w9 ⟨v9,rfl,hvb9,hvp9,hb9⟩;rw[show 1*Q b/1=Q b by rw[Int.ediv_one,Int.one_mul],show -(-(1*Q b)/1)=Q b by rw[Int.ediv_one,Int.one_mul,Int.neg_neg]] at hvp9
   have HV9:=zC hvb9;have HP9:=zC (hvp9.fits (K:=1300) (Int.le_refl _) (zA HQB).1 (zA HQB).2);replace A:=A.bw hb9;replace X0:=X0.bw hb9;replace Y0:=Y0.bw hb9;replace R:=R.bw hb9;replace HX:=zC ((zA HX).bw hb9);replace HY:=zC ((zA HY).bw hb9);replace hBW:=zB hBW hb9;replace XU:=XU.bw hb9;replace HPU:=zC ((zA HPU).bw hb9);clear hb9 hvb9 hvp9 lA lX lY lR lU
   have HFN:=zC (show ∀ (j:Nat) (u:Sp) w',j<NS→u.bits=(b:Int)→SpAt w' u 1300 (luT p q n d b j).1 (luT p q n d b j).2→Below w9.heap.size w9 w'→Calls Tryz.prog 172 #[.agg #[.bool u.ln,.slice u.la u.lN u.lc,.bool u.hn,.slice u.ha u.hN u.hc,.int .i64 u.bits],.int .i64 ((j:Int)+1),.pointer (some ⟨BU,0,none⟩),.pointer (some ⟨w.heap.size+1+1,0,none⟩),.pointer (some ⟨w.heap.size,0,none⟩)] w' (zH w' b 1318 (luT p q n d b (j+1)).1 (luT p q n d b (j+1)).2) from fun j u w' hj hub hup hbw=>by
    have e:=lo1_iv w' BU (w.heap.size+1+1) (w.heap.size) u xU y 1300 8 4 b ((j:Int)+1) (luT p q n d b j) (n*q) d p q hup ((zA HPU).bw hbw) ((zA HY).bw hbw) (XU.bw hbw) (Y0.bw hbw) (A.bw hbw) (by omega) (by omega) (by omega) hub (Int.mul_nonneg (by omega) (by omega)) (by
     have:=mulle (show (j:Int)+1≤70001 by omega) hq2 (by omega) (by omega)
     omega) p0' (by omega) d0
    have ec:((j+1:Nat):Int)=(j:Int)+1:=by omega
    have e2:luT p q n d b (j+1)=zE (luT p q n d b j) (n*q) (d*(p+((j+1:Nat):Int)*q)):=rfl;rw[e2,ec]
    exact e)
   go_wp2_with fail;refine (rise_lo _ _ _ (luT p q n d b) (luN n d) NS b 1300 1318 v9 _ (zA HP9) (zA HV9) (by omega) (by omega) (by omega) (by omega) (zA HM) (by omega) (by omega) (zA HTL) (zA HT0) (zA HTF) (zA HTS) (zA HFN)).mono ?_
   rintro r w10 ⟨v,rfl,hvb10,hvp10,hb10⟩;have HV:=zC hvb10;replace A:=A.bw hb10;replace X0:=X0.bw hb10;replace Y0:=Y0.bw hb10;replace R:=R.bw hb10;replace HX:=zC ((zA HX).bw hb10);replace HY:=zC ((zA HY).bw hb10);replace hBW:=zB hBW hb10;have lR10:=R.lt;obtain ⟨V2,hV2⟩:∃ V,V=w10.alloc (.cells #[.bool v.ln,.slice v.la v.lN v.lc,.bool v.hn,.slice v.ha v.hN v.hc,.int .i64 v.bits] 28):=⟨_,rfl⟩;have bV2:Below w10.heap.size w10 V2:=by rw[hV2];exact bl1 _ _
   have S2:SpC V2 w10.heap.size v:=by rw[hV2];exact yP w10 v _
   have HPV:=zC (show SpAt V2 v 1303 (zAI p q n d b NS).1 (zAI p q n d b NS).2 from hvp10.bw bV2)
   clear hvb10 hvp10 hb10 HP9 HV9 HFN HTL HT0 HTF HTS XU HPU;replace A:=A.bw bV2;replace X0:=X0.bw bV2;replace Y0:=Y0.bw bV2;replace R:=R.bw bV2;replace HX:=zC ((zA HX).bw bV2);replace HY:=zC ((zA HY).bw bV2);replace hBW:=zB hBW bV2;clear bV2;have lA:=A.lt;have lX:=X0.lt;have lY:=Y0.lt;have lR:=R.lt;have lS:=S2.lt;have HKP:=zC (show ∀ w',Below V2.heap.size V2 w'→(w'.cell? ⟨w.heap.size,0,none⟩=some (.int .i64 p)∧w'.cell? ⟨w.heap.size,1,none⟩=some (.int .i64 q)∧w'.cell? ⟨w.heap.size+1,0,none⟩=some (.bool x.neg)∧w'.cell? ⟨w.heap.size+1,1,none⟩=some (.slice x.a x.n x.cap)∧w'.cell? ⟨w.heap.size+1+1,0,none⟩=some (.bool y.neg)∧w'.cell? ⟨w.heap.size+1+1,1,none⟩=some (.slice y.a y.n y.cap)∧w'.cell? ⟨w10.heap.size,0,none⟩=some (.bool v.ln)∧w'.cell? ⟨w10.heap.size,1,none⟩=some (.slice v.la v.lN v.lc)∧w'.cell? ⟨w10.heap.size,2,none⟩=some (.bool v.hn)∧w'.cell? ⟨w10.heap.size,3,none⟩=some (.slice v.ha v.hN v.hc)∧w'.cell? ⟨w10.heap.size,4,none⟩=some (.int .i64 v.bits)) from fun w' hB=>⟨(A.bw hB).c0,(A.bw hB).c1,(X0.bw hB).c0,(X0.bw hB).c1,(Y0.bw hB).c0,(Y0.bw hB).c1,(S2.bw hB).c0,(S2.bw hB).c1,(S2.bw hB).c2,(S2.bw hB).c3,(S2.bw hB).c4⟩)
   go_wp2_with fail;rw[← hV2];clear hV2
   go_cut [12] (fun pz wx=>∃ (B:Nat) (u:Sp) (o:Int × Int),pz=.pointer (some ⟨B,0,none⟩)∧zM0 L ((n:Rat)/(d:Rat)) b o∧V2.heap.size≤B∧VrC wx B u∧SpAt wx u 541 (yH (ofI n d b) (zE o p q)).1 (yH (ofI n d b) (zE o p q)).2∧u.bits=(b:Int)∧Below V2.heap.size V2 wx)
   case first =>
    go_region_held3 (fun w'=>w'.cell? ⟨w.heap.size,0,none⟩=some (.int .i64 p)∧w'.cell? ⟨w.heap.size,1,none⟩=some (.int .i64 q)∧w'.cell? ⟨w.heap.size+1,0,none⟩=some (.bool x.neg)∧w'.cell? ⟨w.heap.size+1,1,none⟩=some (.slice x.a x.n x.cap)∧w'.cell? ⟨w.heap.size+1+1,0,none⟩=some (.bool y.neg)∧w'.cell? ⟨w.heap.size+1+1,1,none⟩=some (.slice y.a y.n y.cap)∧w'.cell? ⟨w10.heap.size,0,none⟩=some (.bool v.ln)∧w'.cell? ⟨w10.heap.size,1,none⟩=some (.slice v.la v.lN v.lc)∧w'.cell? ⟨w10.heap.size,2,none⟩=some (.bool v.hn)∧w'.cell? ⟨w10.heap.size,3,none⟩=some (.slice v.ha v.hN v.hc)∧w'.cell? ⟨w10.heap.size,4,none⟩=some (.int .i64 v.bits)) (exact zA HKP _ (by repeat' (first|with_reducible exact hBP4|with_reducible exact hBP3|with_reducible exact hBP2|with_reducible exact hBP1|with_reducible exact Below.refl _ _|with_reducible refine Below.drew ?_|with_reducible refine zK ?_ _|with_reducible refine Below.setCell ?_ (by first|exact Nat.le_refl _|exact hlP1|exact hlP2|exact hlP3|exact hlP4) _)))
     (first
      | (go_at_call 118;have hq:=hBP3;refine (zKY _ vP1 vP3 540 b (ofI n d b) (zE (zFS (zQ (lnT n' d' b) N1) (zQ (lnT 2 1 b) N2) cc) p q) ((hZP1.bw (by with_reducible first|exact Below.refl _ _|exact bl1 _ _)).mono (by omega)) ((hZP3.bw (by with_reducible first|exact Below.refl _ _|exact bl1 _ _)).mono (by omega)) (by omega) (zA HVBP1)).mono ?_;rintro r wP4 ⟨vP4,rfl,hvbP4,hZP4,hbP4⟩;have HVBP4:=zC hvbP4;clear hvbP4;have hCP4:Below wP3.heap.size wP3 wP4:=(by with_reducible first|exact hbP4|exact zB (bl1 _ _) hbP4);have hBP4:=zB hBP3 hCP4;(try with_reducible have gP4:=(zO wP3 28).bw hbP4);replace hZP1:=hZP1.bw hCP4;(try replace gP1:=gP1.bw hCP4);(try replace gP2:=gP2.bw hCP4);replace hZP3:=hZP3.bw hCP4;(try replace gP3:=gP3.bw hCP4);have hlP4:=hBP4.size;(try have mP1:=gP1.lt);(try have eP1:=Nat.ne_of_lt mP1);(try have eP1':=Nat.ne_of_gt mP1);(try obtain ⟨zP10,zP11,zP12,zP13,zP14,zP15⟩:=gP1);(try have mP2:=gP2.lt);(try have eP2:=Nat.ne_of_lt mP2);(try have eP2':=Nat.ne_of_gt mP2);(try obtain ⟨zP20,zP21,zP22,zP23,zP24,zP25⟩:=gP2);(try have mP3:=gP3.lt);(try have eP3:=Nat.ne_of_lt mP3);(try have eP3':=Nat.ne_of_gt mP3);(try obtain ⟨zP30,zP31,zP32,zP33,zP34,zP35⟩:=gP3);(try have mP4:=gP4.lt);(try have eP4:=Nat.ne_of_lt mP4);(try have eP4':=Nat.ne_of_gt mP4);(try obtain ⟨zP40,zP41,zP42,zP43,zP44,zP45⟩:=gP4))
      | (go_at_call 144;have hq:=hBP2;refine (zHD _ vP2 520 b (zFS (zQ (lnT n' d' b) N1) (zQ (lnT 2 1 b) N2) cc) p q (hZP2.bw (by with_reducible first|exact Below.refl _ _|exact bl1 _ _)) (by omega) (zA HVBP2) (by omega) (by omega) q0' (by omega)).mono ?_;rintro r wP3 ⟨vP3,rfl,hvbP3,hZP3,hbP3⟩;have HVBP3:=zC hvbP3;clear hvbP3;have hCP3:Below wP2.heap.size wP2 wP3:=(by with_reducible first|exact hbP3|exact zB (bl1 _ _) hbP3);have hBP3:=zB hBP2 hCP3;(try with_reducible have gP3:=(zO wP2 28).bw hbP3);replace hZP1:=hZP1.bw hCP3;(try replace gP1:=gP1.bw hCP3);(try replace gP2:=gP2.bw hCP3);have hlP3:=hBP3.size)
      | (go_at_call 116;have hq:=hBP1;refine (zBC _ x y 4 b 500 n d ((zA HX).bw (by with_reducible first|exact hBP1|exact zK hBP1 _)) ((zA HY).bw (by with_reducible first|exact hBP1|exact zK hBP1 _)) (by omega) (by omega) (by omega) (by omega) (by omega) (zA HQ4) (by omega)).mono ?_;rintro r wP2 ⟨n',d',cc,N1,N2,hbal,hc1,hc2,hN1,hN2,vP2,rfl,hvbP2,hZP2,hbP2⟩;have HVBP2:=zC hvbP2;have HLO:=zC (lwLog_of (zA HL) n0' d0 (by omega) hbal (by omega) (by omega) hN1 hN2);clear hvbP2 hbal hc1 hc2 hN1 hN2;have hCP2:Below wP1.heap.size wP1 wP2:=(by with_reducible first|exact hbP2|exact zB (bl1 _ _) hbP2);have hBP2:=zB hBP1 hCP2;(try with_reducible have gP2:=(zO wP1 28).bw hbP2);replace hZP1:=hZP1.bw hCP2;(try replace gP1:=gP1.bw hCP2);have hlP2:=hBP2.size)
      | (go_at_call 140;refine (zAR _ _ _ _ _ _ _ _ 4 4 b n d _ ((zA HX).bw (by with_reducible first|exact (Below.refl _ _).drew|exact (bl1 _ _).drew)) ((zA HY).bw (by with_reducible first|exact (Below.refl _ _).drew|exact (bl1 _ _).drew)) (by omega) (by omega) d0).mono ?_;rintro r wP1 ⟨vP1,rfl,hvbP1,hZP1,hbP1⟩;have HVBP1:=zC hvbP1;clear hvbP1;have hBP1:Below V2.heap.size V2 wP1:=(by with_reducible first|exact zB (Below.refl _ _).drew hbP1|exact zB (bl1 _ _).drew hbP1);(try with_reducible have gP1:=((zO V2 28).bw (Below.refl _ _).drew).bw hbP1);have hlP1:=hBP1.size))
    all_goals
     have hfinP:SpAt wP4 vP4 541 (yH (ofI n d b) (zE (zFS (zQ (lnT n' d' b) N1) (zQ (lnT 2 1 b) N2) cc) p q)).1 (yH (ofI n d b) (zE (zFS (zQ (lnT n' d' b) N1) (zQ (lnT 2 1 b) N2) cc) p q)).2:=hZP4;go_wp2_with fail;go_meet;refine ⟨_,vP4,_,rfl,zA HLO,?_,⟨⟨?_,?_,?_,?_,?_⟩,?_⟩,?_,zA HVBP4,?_⟩
     ·first|exact Nat.le_refl _|exact hlP1|exact hlP2|exact hlP3|exact hlP4
     ·simp[go_sem, *]
     ·simp[go_sem, *]
     ·simp[go_sem, *]
     ·simp[go_sem, *]
     ·simp[go_sem, *]
     ·intro o;simp[go_sem, *]
     ·first|with_reducible exact SpAt.put5 hfinP zP40 zP41 zP42 zP43 zP44 _ _ _ _ _|with_reducible exact SpAt.put5 hfinP zP30 zP31 zP32 zP33 zP34 _ _ _ _ _|with_reducible exact SpAt.put5 hfinP zP20 zP21 zP22 zP23 zP24 _ _ _ _ _|with_reducible exact SpAt.put5 hfinP zP10 zP11 zP12 zP13 zP14 _ _ _ _ _|with_reducible exact hfinP.bw (bl1 _ _)
     ·repeat' (first|with_reducible exact hBP4|with_reducible exact hBP3|with_reducible exact hBP2|with_reducible exact hBP1|with_reducible exact Below.refl _ _|with_reducible refine Below.drew ?_|with_reducible refine zK ?_ _|with_reducible refine Below.setCell ?_ (by first|exact Nat.le_refl _|exact hlP1|exact hlP2|exact hlP3|exact hlP4) _)
   case rest =>
   obtain ⟨BP,xP,o,rfl,hLO,hHP,XP,hpP,hxbP,hblP⟩:=hcut;obtain ⟨V3,hV3⟩:∃ V,V=wc:=⟨_,rfl⟩;subst hV3;have lRP:=Nat.lt_of_lt_of_le lR hHP;replace A:=A.bw hblP;replace X0:=X0.bw hblP;replace Y0:=Y0.bw hblP;replace R:=R.bw hblP;replace HX:=zC ((zA HX).bw hblP);replace HY:=zC ((zA HY).bw hblP);replace hBW:=zB hBW hblP;replace S2:=S2.bw hblP;replace HPV:=zC ((zA HPV).bw hblP);have HPP:=zC hpP;have HPB:=zC hxbP;have HLO:=zC hLO;have XPC:=XP.c;clear hpP hxbP hLO XP HKP lA lX lY lR lS hHP;have lA:=A.lt;have lX:=X0.lt;have lY:=Y0.lt;have lR:=R.lt;have lS:=S2.lt;have lP:=XPC.lt;have HK9:=zC (show ∀ w',Below V3.heap.size V3 w'→(w'.cell? ⟨w.heap.size,0,none⟩=some (.int .i64 p)∧w'.cell? ⟨w.heap.size,1,none⟩=some (.int .i64 q)∧w'.cell? ⟨w.heap.size+1,0,none⟩=some (.bool x.neg)∧w'.cell? ⟨w.heap.size+1,1,none⟩=some (.slice x.a x.n x.cap)∧w'.cell? ⟨w.heap.size+1+1,0,none⟩=some (.bool y.neg)∧w'.cell? ⟨w.heap.size+1+1,1,none⟩=some (.slice y.a y.n y.cap)∧w'.cell? ⟨w10.heap.size,0,none⟩=some (.bool v.ln)∧w'.cell? ⟨w10.heap.size,1,none⟩=some (.slice v.la v.lN v.lc)∧w'.cell? ⟨w10.heap.size,2,none⟩=some (.bool v.hn)∧w'.cell? ⟨w10.heap.size,3,none⟩=some (.slice v.ha v.hN v.hc)∧w'.cell? ⟨w10.heap.size,4,none⟩=some (.int .i64 v.bits)∧w'.cell? ⟨BP,0,none⟩=some (.bool xP.ln)∧w'.cell? ⟨BP,1,none⟩=some (.slice xP.la xP.lN xP.lc)∧w'.cell? ⟨BP,2,none⟩=some (.bool xP.hn)∧w'.cell? ⟨BP,3,none⟩=some (.slice xP.ha xP.hN xP.hc)∧w'.cell? ⟨BP,4,none⟩=some (.int .i64 xP.bits)) from fun w' hB=>⟨(A.bw hB).c0,(A.bw hB).c1,(X0.bw hB).c0,(X0.bw hB).c1,(Y0.bw hB).c0,(Y0.bw hB).c1,(S2.bw hB).c0,(S2.bw hB).c1,(S2.bw hB).c2,(S2.bw hB).c3,(S2.bw hB).c4,(XPC.bw hB).c0,(XPC.bw hB).c1,(XPC.bw hB).c2,(XPC.bw hB).c3,(XPC.bw hB).c4⟩)
   have hF0:Below V3.heap.size V3 V3.drew:=(Below.refl _ _).drew;have HPA:=zC (show IntKind.i64.wrap (p+q)=p+q from jO _ (by omega) (by omega))
   have nR1:w.heap.size+1+1+1≠w10.heap.size:=by omega
   have nR2:w.heap.size+1+1+1≠BP:=by omega
   have nR3:w.heap.size+1+1+1≠w.heap.size+1+1:=by omega
   have nR4:w.heap.size+1+1+1≠w.heap.size+1:=by omega
   have nR5:w.heap.size+1+1+1≠w.heap.size:=by omega
   have nR6:w.heap.size+1+1≠w.heap.size:=by omega
   go_wp2_with fail;obtain ⟨x0,x1,x2,x3,x4,x5,x6,x7,x8,x9,x10,x11,x12,x13,x14,x15⟩:=zA HK9 _ (Below.refl _ _)
   go_region_held3 (fun w'=>w'.cell? ⟨w.heap.size,0,none⟩=some (.int .i64 p)∧w'.cell? ⟨w.heap.size,1,none⟩=some (.int .i64 q)∧w'.cell? ⟨w.heap.size+1,0,none⟩=some (.bool x.neg)∧w'.cell? ⟨w.heap.size+1,1,none⟩=some (.slice x.a x.n x.cap)∧w'.cell? ⟨w.heap.size+1+1,0,none⟩=some (.bool y.neg)∧w'.cell? ⟨w.heap.size+1+1,1,none⟩=some (.slice y.a y.n y.cap)∧w'.cell? ⟨w10.heap.size,0,none⟩=some (.bool v.ln)∧w'.cell? ⟨w10.heap.size,1,none⟩=some (.slice v.la v.lN v.lc)∧w'.cell? ⟨w10.heap.size,2,none⟩=some (.bool v.hn)∧w'.cell? ⟨w10.heap.size,3,none⟩=some (.slice v.ha v.hN v.hc)∧w'.cell? ⟨w10.heap.size,4,none⟩=some (.int .i64 v.bits)∧w'.cell? ⟨BP,0,none⟩=some (.bool xP.ln)∧w'.cell? ⟨BP,1,none⟩=some (.slice xP.la xP.lN xP.lc)∧w'.cell? ⟨BP,2,none⟩=some (.bool xP.hn)∧w'.cell? ⟨BP,3,none⟩=some (.slice xP.ha xP.hN xP.hc)∧w'.cell? ⟨BP,4,none⟩=some (.int .i64 xP.bits)) (first|exact zA HK9 _ (by with_reducible first|exact hF0|exact hF5|exact hF4|exact hF3|exact hF2|exact hF1)|go_keep)
    (first
     | (go_at_call 145;have hq:=hF4;refine (zI4 _ f4 _ b _ _ hfp4 (zA F4) (by omega) (by omega) (by omega)).mono ?_;rintro r g5 ⟨f5,rfl,hfb5,hfp5,hg5⟩;rw[minZ_cap] at hfp5;have F5:=zC hfb5;clear hfb5;have hF5:=zB hF4 hg5;obtain ⟨q0,q1,q2,q3,q4,q5⟩:=R.bw hF5)
     | (go_at_call 146;have hq:=hF3;refine (zE9 _ v f3 49300 b (zAI p q n d b NS).1 (zAI p q n d b NS).2 (luE p q n d b o (lg,ug) t NE).1 (luE p q n d b o (lg,ug) t NE).2 (((zA HPV).bw hF3).mono (by omega)) hfp3 (by omega) (by omega) (zA HV) (zA HRES).2.2.2.1 (fun hh=>absurd hh.1 (Int.not_le.2 (zA HRES).1)) (zA HRES).2.1).mono ?_;rintro r g4 ⟨f4,rfl,hfb4,hfp4,hg4⟩;have F4:=zC hfb4;clear hfb4;have hF4:=zB hF3 hg4)
     | (go_at_call 147;have hq:=hF2;refine (zF0 _ f2 49300 b t NE (luY p q n d b o (lg,ug)) l (SpAt.mono (show SpAt _ f2 542 (luY p q n d b o (lg,ug)).1 (luY p q n d b o (lg,ug)).2 from hfp2) (by omega)) (zA F2) (zA HYL) (by omega) (by omega) (zA HE1) (zA HE2) (by omega) (zA HE4) (zA HE5) (zA HQE) (by omega)).mono ?_;rintro r g3 ⟨f3,rfl,hfb3,hfp3,hg3⟩;clear hfb3;have hF3:=zB hF2 hg3)
     | (go_at_call 113;have hq:=hF1;refine (zA8 _ xP f1 541 b (yH (ofI n d b) (zE o p q)) (lg,ug) ((zA HPP).bw hF1) (hfp1.mono (by omega)) (by omega) (zA HPB)).mono ?_;rintro r g2 ⟨f2,rfl,hfb2,hfp2,hg2⟩;have F2:=zC hfb2;clear hfb2;have hF2:=zB hF1 hg2)
     | (go_at_call 61;(try rw[zA HPA]);refine (zA HLG _).mono ?_;rintro r g1 ⟨lg,ug,hlg,f1,rfl,hfb1,hfp1,hg1⟩;clear hfb1;have hF1:=zB hF0 hg1;obtain ⟨l,t,NE,e1,e2,e3,e4,e5,e6,e7,e8⟩:=lu_exp (zA H) (zA HLO) hlg (zA HL) (zA HG).1 (zA HG).2 hNS (zA HM);have HE1:=zC e1;have HE2:=zC e2;have HE4:=zC e4;have HE5:=zC e5;have HQE:=zC e6;have HYL:=zC e7;have HRES:=zC e8;clear e1 e2 e4 e5 e6 e7 e8 hlg))
   all_goals
    have fit:=SpAt.fits (K:=30) (show SpAt g5 f5 _ (zEB (zAI p q n d b NS).1 (zAI p q n d b NS).2 (luE p q n d b o (lg,ug) t NE).1 (luE p q n d b o (lg,ug) t NE).2 b) (luHi (zAI p q n d b NS) (luE p q n d b o (lg,ug) t NE) b) from hfp5) (zLJ (zA HRES).2.2.2.2 b1).1 (zLJ (zA HRES).2.2.2.2 b1).2.1 (zLJ (zA HRES).2.2.2.2 b1).2.2
    have HVAL:=zC (show zE4 (lwX L p q n d g) b (zEB (zAI p q n d b NS).1 (zAI p q n d b NS).2 (luE p q n d b o (lg,ug) t NE).1 (luE p q n d b o (lg,ug) t NE).2 b) (luHi (zAI p q n d b NS) (luE p q n d b o (lg,ug) t NE) b) by unfold lwX;rw[if_neg (by omega)];exact (zA HRES).2.2.2.2)
    go_wp2_with fail;refine bodyPost_ret (v:=.agg #[.bool f5.ln,.slice f5.la f5.lN f5.lc,.bool f5.hn,.slice f5.ha f5.hN f5.hc,.int .i64 f5.bits]) (by simp[results,Tryz.results132,go_sem,q0,q1,q2,q3,q4]) rfl ⟨_,_,zA HVAL,f5,rfl,zA F5,?_,?_⟩
    ·exact SpAt.put5 fit q0 q1 q2 q3 q4 _ _ _ _ _
    ·exact jV (zB hBW hF5) (by omega) _ _ _ _ _
theorem zIG (L:Rat→Nat→Rat) (hL:Lns L) (w:World) (n d:Int) (b:Nat) (g x:Nat→Rat) (h:StIn n d) (hn:n≤4611686018427387904) (hb0:40≤b) (hb:b≤1000) (hg:Gam1 L (((n-(stN n d:Int)*d):Int)/(d:Rat)) g) (hgp:∃ c:Rat,0<c∧∃ N:Nat,∀ M,N≤M→c≤g M) (hx:IsLog x (gmV n d g)) :
  Calls Tryz.prog 61 #[.int .i64 n,.int .i64 d,.int .i64 b] w (fun r w'=>∃ lo hi,LgP2 x b lo hi∧zH w b 521 lo hi r w'):=by
 have HI:=zC (h.in_ (B:=b) (by omega) (by omega))
 have k200:=h.rest.2.2;have HPQ:=zC (show 0<stP n d (stN n d)∧0<stQ d (stN n d) from ⟨zNI h (Nat.le_refl _),zIU h.d0 _⟩)
 have H:=zC h;have HL:=zC hL;have HG:=zC hg;have HGP:=zC hgp;have HX0:=zC hx
 have HQ4:=zC (show Q (b+4)<P 500 by
  rw[← Q_P];have h1:=zJ (show b+4+1≤16*500 by omega)
  have h2:Q (b+4+1)=2*Q (b+4):=rfl;have:=zG (b+4)
  omega)
 clear h hL hg hgp hx;have R:=zO w 28;have hBW:Below w.heap.size w (w.alloc (.cells #[.bool false,.slice none 0 0,.bool false,.slice none 0 0,.int .i64 0] 28)):=bl1 _ _
 go_enter Tryz.func61,Tryz.ntmps61
 go_wp2_with fail;refine (zN7 _ n d (zA H) hn).mono ?_;rintro r w1 ⟨X,Y,rfl,hX,hY,hb1⟩;replace R:=R.bw hb1;replace hBW:=zB hBW hb1;clear hb1;have lR:=R.lt;obtain ⟨V,hV⟩:∃ V,V=(w1.alloc (.cells #[.bool X.neg,.slice X.a X.n X.cap] 26)).alloc (.cells #[.bool Y.neg,.slice Y.a Y.n Y.cap] 26):=⟨_,rfl⟩;have bV:Below w1.heap.size w1 V:=by rw[hV];exact bl2 _ _ _
 have CX:NmC V w1.heap.size X:=by rw[hV];constructor <;> simp[go_sem]
 have CY:NmC V (w1.heap.size+1) Y:=by rw[hV];constructor <;> simp[go_sem]
 have HX:=zC ((hX.mono (show 4*stN n d+4≤804 by omega)).bw bV)
 have HY:=zC ((hY.mono (show 4*stN n d+4≤804 by omega)).bw bV)
 replace R:=R.bw bV;replace hBW:=zB hBW bV;have lX:=CX.lt;have lY:=CY.lt;have lR2:=R.lt;have HK:=zC (show ∀ w',Below V.heap.size V w'→(w'.cell? ⟨w1.heap.size,0,none⟩=some (.bool X.neg)∧w'.cell? ⟨w1.heap.size,1,none⟩=some (.slice X.a X.n X.cap)∧w'.cell? ⟨(w1.heap.size+1),0,none⟩=some (.bool Y.neg)∧w'.cell? ⟨(w1.heap.size+1),1,none⟩=some (.slice Y.a Y.n Y.cap)) from fun w' hB=>⟨(CX.bw hB).c0,(CX.bw hB).c1,(CY.bw hB).c0,(CY.bw hB).c1⟩)
 clear hX hY bV CX CY;go_wp2_with fail;rw[← hV];clear hV;have hD0:Below V.heap.size V V.drew:=(Below.refl _ _).drew;obtain ⟨x0,x1,x2,x3⟩:=zA HK _ (Below.refl _ _);have m1:w.heap.size≠w1.heap.size:=by omega
 have m2:w.heap.size≠w1.heap.size+1:=by omega
 go_region_held3 (fun w'=>w'.cell? ⟨w1.heap.size,0,none⟩=some (.bool X.neg)∧w'.cell? ⟨w1.heap.size,1,none⟩=some (.slice X.a X.n X.cap)∧w'.cell? ⟨(w1.heap.size+1),0,none⟩=some (.bool Y.neg)∧w'.cell? ⟨(w1.heap.size+1),1,none⟩=some (.slice Y.a Y.n Y.cap)) (first|exact zA HK _ (by with_reducible first|exact hD0|exact hD4|exact hD3|exact hD2|exact hD1)|go_keep)
  (first
   | (go_at_call 113;have hqq:=hD3;refine (zA8 _ v2 v3 520 b (p1,r2) (zFS (zQ (lnT n' d' b) N1) (zQ (lnT 2 1 b) N2) cc) (hZ2.bw hb3) hZ3 (by omega) (zA F2)).mono ?_;rintro r' w4 ⟨t,rfl,htb,htp,hb4⟩;have HT:=zC htb;clear htb;have hD4:=zB hD3 hb4;obtain ⟨q0,q1,q2,q3,q4,q5⟩:=R.bw hD4;obtain ⟨i0,i1,i2,i3⟩:=zA HK _ hD4)
   | (go_at_call 116;have hqq:=hD2;refine (zBC _ X Y 804 b 500 (stP n d (stN n d)) (stQ d (stN n d)) ((zA HX).bw hD2) ((zA HY).bw hD2) (by omega) (zA HPQ).1 (zA HPQ).2 (by omega) (by omega) (zA HQ4) (by omega)).mono ?_;rintro r' w3 ⟨n',d',cc,N1,N2,hbal,hc1,hc2,hN1,hN2,v3,rfl,hvb3,hZ3,hb3⟩;clear hvb3;have hD3:=zB hD2 hb3;have HX3:=zC (And.intro hbal (And.intro hc1 (And.intro hc2 (And.intro hN1 hN2))));clear hbal hc1 hc2 hN1 hN2)
   | (go_at_call 114;have hqq:=hD1;refine (zL8 _ v1 b (lo,hi) hZ1 (zA F1) (by omega) (by omega) (zA HGV).pos (zA HGV).le).mono ?_;rintro r' w2 ⟨p1,p2,r1,r2,l1,l2,hls,hk1,hk2,v2,rfl,hvb2,hZ2,hb2⟩;have F2:=zC hvb2;have HLS:=zC (And.intro hls (And.intro hk1 hk2));clear hvb2 hls hk1 hk2;have hD2:=zB hD1 hb2)
   | (go_at_call 115;refine (zG4 L (zA HL) _ (n-(stN n d:Int)*d) d b g (zA HI) (zA HG)).mono ?_;rintro r' wg ⟨lo,hi,hgv,v1,rfl,hvb1,hZ1,hb1⟩;have F1:=zC hvb1;have HGV:=zC hgv;clear hvb1 hgv;have hD1:=zB hD0 hb1))
 all_goals
  go_wp2_with fail;obtain ⟨ls,k1,k2⟩:=zA HLS;obtain ⟨bal,c1,c2,s1,s2⟩:=zA HX3;obtain ⟨lp,g1,i1'⟩:=zFB (zA HPQ).1 (zA HPQ).2 bal b N1 N2;refine bodyPost_ret (v:=.agg #[.bool t.ln,.slice t.la t.lN t.lc,.bool t.hn,.slice t.ha t.hN t.hc,.int .i64 t.bits]) (by simp[results,Tryz.results61,go_sem,q0,q1,q2,q3,q4]) rfl ⟨_,_,lgam_ok2 (zA H) hb0 hb (zA HGV) ls g1 i1' k1 k2 (lb_of (by omega) hb bal.1 s1 s2 804 (by omega) c1 c2) (zA HX0) (zA HGP) (zA HL),t,rfl,zA HT,?_,?_⟩
  ·exact SpAt.put5 htp q0 q1 q2 q3 q4 _ _ _ _ _
  ·exact jV (zB hBW hD4) (by omega) _ _ _ _ _
theorem zJ3 (L G:Rat→Nat→Rat) (X:Int→Int→Nat→Rat) (hE:zIP L G X) (w:World) (x y:Nm) (p q n d:Int) (b:Nat) (hx:IntAt w x.neg x.a x.n x.cap 4 n) (hy:IntAt w y.neg y.a y.n y.cap 4 d) (h:LwAr p q n d b) :
  Calls Tryz.prog 132 #[.agg #[.int .i64 p,.int .i64 q],.agg #[.bool x.neg,.slice x.a x.n x.cap],.agg #[.bool y.neg,.slice y.a y.n y.cap],.int .i64 b] w (fun r w'=>∃ lo hi,zE4 (lwX L p q n d (gmV p q (G (gA p q)))) b lo hi∧zH w b 30 lo hi r w'):=by
 have p0:=h.p0;have q0:=h.q0;have pq:=h.pq;have qq:=h.qq;have st:StIn p q:=⟨p0,q0,by omega,by omega⟩
 have st2:StIn (p+q) q:=⟨by omega,q0,by omega,by omega⟩
 have ig:=zCF hE st;have n0:=h.n0
 by_cases h0:n=0
 ·exact zLN L hE.lns w x y p q n d b _ (X p q) hx hy h h0
 ·by_cases hf:d*(2*((b:Int)+p/q+1))≤n
  ·exact zNL L hE.lns w x y p q n d b _ (X p q) hx hy h (by omega) hf ig
  ·refine zME L hE.lns w x y p q n d b _ (X (p+q) q) hx hy ⟨p0,q0,pq,qq,by omega,h.d0,h.nn,h.dd,by omega,h.b0,h.b1⟩ ig ?_ ?_
   ·have k:=hE.lg (p+q) q st2
    have e:gmV (p+q) q (G (gA (p+q) q))=fun M=>(p:Rat)/(q:Rat)*gmV p q (G (gA p q)) M:=by
     funext M
     rw[gA_next p0 q0,zLF p0 q0,Rat.mul_comm]
    rw[e] at k;exact k
   ·intro w'
    have g:=hE.gam _ (zH3 st2).1 (zH3 st2).2;have b1:=h.b1;exact zIG L hE.lns w' (p+q) q b (G (gA (p+q) q)) (X (p+q) q) st2 (by omega) h.b0 (by omega) g (g.isGam hE.lns (zH3 st2).1).pos (hE.lg (p+q) q st2)
def uE (p q n d bt:Int):Int:=if ¬ ((rok p q∧rok n d)∧8≤bt∧bt≤120) then 3 else if n<0 then 5 else if p≤0 then 5 else if 100*q<p then 2 else 0
theorem zAV {p q n d bt:Int} (h:uE p q n d bt=0):rok p q∧rok n d∧(8≤bt∧bt≤120)∧0≤n∧0<p∧p≤100*q:=by
 unfold uE at h;split at h
 ·omega
 ·rename_i k
  have k:=Classical.not_not.1 k;split at h
  ·omega
  ·split at h
   ·omega
   ·split at h
    ·omega
    ·exact ⟨k.1.1,k.1.2,k.2,by omega,by omega,by omega⟩
theorem zPA {p q n d bt:Int} (h:uE p q n d bt=0) {B:Nat} (h0:40≤B) (h1:B≤400):LwAr p q n d B:=by
 obtain ⟨⟨a1,a2,a3,a4⟩,⟨c1,c2,c3,c4⟩,_,e1,e2,e3⟩:=zAV h;exact ⟨e2,by omega,e3,by omega,e1,by omega,by omega,by omega,h0,h1⟩
theorem rf2 {bt p q n d z:Int} (h:RFlt bt (fun j=>if j=0 then p else n) (fun j=>if j=0 then q else d) 2 z):(z=0∧(rok p q∧rok n d)∧8≤bt∧bt≤120)∨(z=3∧¬ ((rok p q∧rok n d)∧8≤bt∧bt≤120)):=by
 rcases h with ⟨rfl,h1,h2⟩|⟨rfl,h1⟩
 ·exact Or.inl ⟨rfl,⟨h2 0 (by omega),h2 1 (by omega)⟩,h1⟩
 ·refine Or.inr ⟨rfl,fun k=>h1 ⟨k.2,fun j hj=>?_⟩⟩
  match j with
  | 0=>exact k.1.1
  | 1=>exact k.1.2
  | j+2=>omega
theorem shf1 {p q z:Int} (h:ShF (fun _=>p) (fun _=>q) 1 z):z=if p≤0 then 5 else if 100*q<p then 2 else 0:=by
 rcases h with ⟨rfl,j,_,hj⟩|⟨rfl,hp,j,_,hj⟩|⟨rfl,hp⟩
 ·rw[if_pos (show p≤0 from hj)]
 ·have h0:0<p:=hp 0 (by omega)
  rw[if_neg (by omega),if_pos (show 100*q<p from hj)]
 ·have h0:0<p∧p≤100*q:=hp 0 (by omega)
  rw[if_neg (by omega),if_neg (by omega)]
theorem zPV (x:Nat→Rat) {bits:Nat} (hb:bits≤120):zKB bits 89 (zE4 x):=fun m lo hi h=>by
 have q:Q (bits+m)≤P 200*Q m:=Q_fit (b:=bits) (m:=m) (k:=0) (by omega)
 have:=h.hi;have:=h.lo;have p:=Int.mul_nonneg (show 0≤P 200 by have:=kN 200;omega) (show 0≤Q m by have:=zG m;omega)
 exact ⟨h.le,h.wd,by omega,by omega⟩
theorem zN2 {x:Nat→Rat} {b:Nat} {L H:Int} (h:zMX b (zE4 x) L H):SuV x b L H∧0≤L∧H≤Q b:=by
 refine ⟨sure_su h fun B lo hi p=>⟨p.le,p.iv⟩,?_⟩
 obtain ⟨m,lo,hi,pr,hm,e1,e2,h6⟩:=h;have q:=zG m;refine ⟨by rw[e1];exact Int.ediv_nonneg pr.lo (by omega),?_⟩
 have e:Q (b+m)=Q b*Q m:=jC b m;have hh:=pr.hi;have p0:=pr.lo;have pl:=pr.le
 have r:=(jD (x:=hi) (m:=Q b) (q:=Q m) (by omega) (by
  have:=Int.mul_nonneg (show 0≤Q b by have:=zG b;omega) (show 0≤Q m by omega)
  omega) (by omega)).2.2.2
 rw[e2];exact r
theorem lw_rest {x:Nat→Rat} {B:Nat} {l u:Int} (h:zE4 x B l u):zE4 (fun M=>1-x M) B (zHK B (l,u)).1 (zHK B (l,u)).2:=by
 have i:Iv B (yH (Q B,Q B) (l,u)) (fun M=>1-x M):=(zNY B).sub h.iv
 have h1:=h.lo;have h2:=h.le;have h3:=h.hi;have h4:=h.wd;have e1:(zHK B (l,u)).1=Q B-u:=rfl;have e2:(zHK B (l,u)).2=Q B-l:=rfl;exact ⟨by omega,by omega,by omega,by omega,i⟩
theorem zJ6 (w:World) (p q n d bt:Int) :
  Calls Tryz.prog 130 #[.agg #[.int .i64 p,.int .i64 q],.agg #[.int .i64 n,.int .i64 d],.int .i64 bt] w (fun r w'=>r=.returned (.int .i64 (uE p q n d bt))∧Below w.heap.size w w'):=by
 obtain ⟨W,hW⟩:∃ W,W=(w.alloc (.cells #[.int .i64 p,.int .i64 q] 23)).alloc (.cells #[.int .i64 n,.int .i64 d] 23):=⟨_,rfl⟩;have hBW:Below w.heap.size w W:=by rw[hW];exact bl2 _ _ _
 have A:RaC W w.heap.size p q:=by rw[hW];constructor <;> simp[go_sem]
 have D:RaC W (w.heap.size+1) n d:=by rw[hW];constructor <;> simp[go_sem]
 have hsz:W.heap.size=w.heap.size+1+1:=by rw[hW];simp
 have a0:=A.c0;have a1:=A.c1;have d0:=D.c0;have d1:=D.c1
 go_enter Tryz.func130,Tryz.ntmps130
 go_wp2_with fail;rw[← hW];clear hW a0 a1 d0 d1;refine (zFQ bt _ 2 _ (fun j=>if j=0 then p else n) (fun j=>if j=0 then q else d) _ (rats2' W _ hsz p q n d _) (by omega)).mono ?_
 rintro r w1 ⟨z1,rfl,hf,hb1⟩;have hb1':Below W.heap.size W w1:=zB (bl1 _ _) hb1;replace A:=A.bw hb1';replace D:=D.bw hb1';replace hBW:=zB hBW hb1';clear hb1 hb1' hsz
 rcases rf2 hf with ⟨rfl,hok⟩|⟨rfl,hbad⟩
 ·have HOK:=zC hok
  clear hf hok;have a0:=A.c0;have a1:=A.c1;have d0:=D.c0;have lA:=A.lt;have lD:=D.lt
  by_cases hn:n<0
  ·go_wp2_with fail
   refine bodyPost_ret (v:=.int .i64 5) (by simp[results,Tryz.results130,go_sem]) rfl ⟨?_,hBW⟩
   unfold uE;rw[if_neg (fun k=>k (zA HOK)),if_pos hn]
  ·go_wp2_with fail
   refine (zFR _ 1 _ (fun _=>p) (fun _=>q) _ (rats1' w1 _ rfl p q _) (by omega) (fun _ _=>(zA HOK).1.1)).mono ?_
   rintro r w2 ⟨z2,rfl,hf2,hb2⟩;obtain rfl:=shf1 hf2;replace hBW:=zB (zB hBW (bl1 _ _)) hb2;obtain ⟨e,he⟩:∃ e:Int,e=(if p≤0 then 5 else if 100*q<p then 2 else 0):=⟨_,rfl⟩
   have HV:=zC (show uE p q n d bt=e by
    rw[he];unfold uE
    rw[if_neg (fun k=>k (zA HOK)),if_neg (by omega)])
   rw[← he];clear he hf2 hb2 a0 a1 d0;go_wp2_with fail;exact bodyPost_ret (v:=.int .i64 e) (by simp[results,Tryz.results130,go_sem]) rfl ⟨by rw[zA HV],hBW⟩
 ·have HB:=zC hbad
  clear hf hbad;go_wp2_with fail;refine bodyPost_ret (v:=.int .i64 3) (by simp[results,Tryz.results130,go_sem]) rfl ⟨?_,hBW⟩
  unfold uE;rw[if_pos (zA HB)]
end Go.Proofs.YtgmnknmjainababGreat
