/-
  Its own texts.
-/
import Derived.Deep.CutBlock
import Derived.Test.YtgmnknmjainababGreatK27
set_option maxRecDepth 100000
set_option maxHeartbeats 8000000
set_option linter.unnecessarySimpa false
set_option linter.unusedSimpArgs false
set_option linter.unusedVariables false
namespace Go.Proofs.YtgmnknmjainababGreat
open Go.RowKit
attribute [local go_sem ↓] Go.wp_at_zero Go.wp_at_succ
open Ex
def RefLh (n d:Int) (b:Nat) (X:Nat→Rat):Prop:=∀ (w':World) (x y:Nm),IntAt w' x.neg x.a x.n x.cap 20 n→IntAt w' y.neg y.a y.n y.cap 20 d→Calls Tryz.prog 64 #[.agg #[.bool x.neg,.slice x.a x.n x.cap],.agg #[.bool y.neg,.slice y.a y.n y.cap],.int .i64 b] w' (fun r w''=>∃ lo hi,(Iv b (lo,hi) X∧Abs (lo,hi) (30000*Q b))∧zH w' b 70000 lo hi r w'')
theorem zFP (w:World) (p q:Int) (b:Nat) (X:Nat→Rat) (hr:rok p q) (h:RefLh p q b X) :
  Calls Tryz.prog 19 #[.agg #[.int .i64 p,.int .i64 q],.int .i64 b] w (fun r w'=>∃ lo hi,(Iv b (lo,hi) X∧Abs (lo,hi) (30000*Q b))∧zH w b 70000 lo hi r w'):=by
 obtain ⟨W,hW⟩:∃ W,W=(w.alloc (.cells #[.int .i64 p,.int .i64 q] 23)).alloc (.cells #[.bool false,.slice none 0 0,.bool false,.slice none 0 0,.int .i64 0] 36):=⟨_,rfl⟩;have hBW:Below w.heap.size w W:=by rw[hW];exact bl2 _ _ _
 have A:RaC W w.heap.size p q:=by rw[hW];constructor <;> simp[go_sem]
 have R:NoC W (w.heap.size+1):=by rw[hW];constructor <;> simp[go_sem]
 obtain ⟨r1,r2,r3,r4⟩:=hr;have HL:=zC h;have lR:=R.lt;have lA:=A.lt;have HK:=zC (show ∀ w',Below W.heap.size W w'→(w'.cell? ⟨w.heap.size,0,none⟩=some (.int .i64 p)∧w'.cell? ⟨w.heap.size,1,none⟩=some (.int .i64 q)) from fun w' hB=>⟨(A.bw hB).c0,(A.bw hB).c1⟩)
 clear A h
 go_enter Tryz.func19,Tryz.ntmps19
 go_wp2;rw[← hW];clear hW;have n10:w.heap.size+1≠w.heap.size:=by omega
 obtain ⟨x0,x1⟩:=zA HK _ (Below.refl _ _);have hD0:Below W.heap.size W W.drew:=(Below.refl _ _).drew
 go_region_held3 (fun w'=>w'.cell? ⟨w.heap.size,0,none⟩=some (.int .i64 p)∧w'.cell? ⟨w.heap.size,1,none⟩=some (.int .i64 q)) (first|exact zA HK _ (by with_reducible first|exact hD0|exact hD3|exact hD2|exact hD1)|go_keep)
  (first
   | (go_at_call 64;have hqq:=hD2;refine (zA HL _ ⟨neg1,a1,n1,c1⟩ ⟨neg2,a2,n2,c2⟩ ((hZ1.bw hb2).mono (by omega)) (hZ2.mono (by omega))).mono ?_;rintro r' w3 ⟨lo,hi,hiv,t,rfl,htb,htp,hb3⟩;have HT:=zC htb;have HI:=zC hiv;clear htb hiv;have hD3:=zB hD2 hb3;obtain ⟨q0,q1,q2,q3,q4,q5⟩:=R.bw hD3;obtain ⟨i0,i1⟩:=zA HK _ hD3)
   | (go_at_call 43;have hqq:=hD1;refine (zD q _ (by omega) (by omega)).mono ?_;rintro r' w2 ⟨neg2,a2,n2,c2,rfl,hZ2,hb2⟩;have hD2:=zB hD1 hb2)
   | (go_at_call 43;refine (zD p _ (by omega) (by omega)).mono ?_;rintro r' w1 ⟨neg1,a1,n1,c1,rfl,hZ1,hb1⟩;have hD1:=zB hD0 hb1))
 all_goals
  go_wp2_with fail;refine bodyPost_ret (v:=.agg #[.bool t.ln,.slice t.la t.lN t.lc,.bool t.hn,.slice t.ha t.hN t.hc,.int .i64 t.bits]) (by simp[results,Tryz.results19,go_sem,q0,q1,q2,q3,q4]) rfl ⟨lo,hi,zA HI,t,rfl,zA HT,?_,?_⟩
  ·exact SpAt.put5 htp q0 q1 q2 q3 q4 _ _ _ _ _
  ·exact jV (zB hBW hD3) (Nat.le_succ _) _ _ _ _ _
theorem refLh_of {L G:Rat→Nat→Rat} {X:Int→Int→Nat→Rat} (hE:zIP L G X) {n d:Int} (h:StIn n d) {b:Nat} (b0:8≤b) (b1:b≤400):RefLh n d b (X n d):=by
 have d0:=h.d0;have n0:=h.n0;have q0:0≤n/d:=Int.ediv_nonneg (by omega) (by omega)
 have q1:n/d<202:=Int.ediv_lt_of_lt_mul d0 (by have:=h.up;omega)
 obtain ⟨z,hz⟩:∃ z:Nat,(z:Int)=2*(n/d)+2*(b:Int)+64:=⟨(2*(n/d)+2*(b:Int)+64).toNat,by omega⟩
 have x2:2*n≤(z:Int)*d:=by
  have f:=kE n d0;have m:=Int.mul_le_mul_of_nonneg_right (show 2*(n/d+1)≤(z:Int) by omega) (show 0≤d by omega)
  have r:2*(n/d+1)*d=2*((n/d+1)*d):=by grind
  omega
 intro w' x y hx hy
 exact (zJO w' x y n d b z hx hy ⟨n0,d0,h.dd,h.up,b0,b1,x2,by omega,by omega⟩ hE.lns (zCF hE h) (hE.lg n d h) hz).mono fun r w'' ⟨lo,hi,h1,h3,h2⟩=>⟨lo,hi,⟨h1,h3⟩,h2⟩
theorem lo_ref {L:Rat→Nat→Rat} (hL:Lns L) {p q x:Int} {B m wh N:Nat} {g Y:Nat→Rat} {a:Int × Int} (h:zFN p q x B m wh) (hN:zKQ x B m wh N) (ig:IsGam L ((p:Rat)/(q:Rat)) g) (hY:IsLog Y g) (a0:(0:Rat)<(p:Rat)/(q:Rat)) (x0:(0:Rat)<(x:Rat)/(Q B:Rat)) (ha:Iv m a (Ev (fun M=>(p:Rat)/(q:Rat)*L ((x:Rat)/(Q B:Rat)) M-Y M))):Iv m (kJ m a (jJ (rsT p q x B m N) (-2,2))) (lw L ((p:Rat)/(q:Rat)) ((x:Rat)/(Q B:Rat)) g):=by
 have k:=rw_has h hN;have e:loX x B=(x:Rat)/(Q B:Rat):=rfl;rw[e] at k;exact (ha.mul k).congr (lw_ref hL a0 x0 ig hY)
theorem zEX {b:Nat} (z:Int) (hz:z=(b:Int)) (w:World) (p q:Int) (X:Nat→Rat) (hr:rok p q) (h:RefLh p q b X) :
  Calls Tryz.prog 19 #[.agg #[.int .i64 p,.int .i64 q],.int .i64 z] w (fun r w'=>∃ lo hi,(Iv b (lo,hi) X∧Abs (lo,hi) (30000*Q b))∧zH w b 70000 lo hi r w'):=by
 subst hz;exact zFP w p q b X hr h
theorem rs_le {p q x:Int} {B m wh:Nat} (h:zFN p q x B m wh) (n:Nat):(rsT p q x B m n).1≤(rsT p q x B m n).2:=(zOW h n).le
theorem zGQ (L:Rat→Nat→Rat) (g Y:Nat→Rat) (w:World) (x:Nm) (pa qa X:Int) (B:Nat) (hx:IntAt w x.neg x.a x.n x.cap 100 X) (m wh N J:Nat) (hL:Lns L) (ig:IsGam L ((pa:Rat)/(qa:Rat)) g) (hY:IsLog Y g) (hg:RefLh pa qa (B+64) Y) (hr:rok pa qa) (h:zFN pa qa X B m wh) (hf:X≤2*(ofI pa qa B).2+(2*(B:Int)+41)*Q B) (hN:zKQ X B m wh N) (hN1:N<8*wh+4*m) (hN2:N≤20000) (hJ1:Q B≤X*Q J) (hJ2:X<Q B*Q (J+1)) (hJ:J≤200) :
  Calls Tryz.prog 71 #[.agg #[.int .i64 pa,.int .i64 qa],.agg #[.bool x.neg,.slice x.a x.n x.cap],.int .i64 B] w (fun r w'=>∃ lo hi,RlOk L pa qa X B g lo hi∧zH w B 600000 lo hi r w'):=by
 have b0:=h.b0;have b1:=h.b1;have wb:=h.wb;have em:=h.em;have X0:=h.x0;have p0:=h.p0;have q0':=h.q0;have r1:pa≤102400:=by have:=h.pq;have:=h.qq;omega
 have r2:qa≤1024:=h.qq;have HM:=zC (show 2*(B:Int)+4*(wh:Int)+160=(m:Int) by omega)
 have HH:=zC h;have HN:=zC hN;have HJ:=zC (And.intro hJ1 hJ2);have HFAR:=zC hf
 have HXB:Hid (X<Q (B+20)):=zC (by
  have k:=rw_x h;have e:Q (B+20)=Q B*Q 20:=jC B 20;have e2:Q 20=1048576:=rfl;have q:=zG B;have:=Int.mul_le_mul_of_nonneg_right (show (wh:Int)+1≤1048576 by omega) (show 0≤Q B by omega)
  rw[e,e2];omega)
 have HFIT:Hid (∀ j,-P 800<(rpT X B m j).1∧(rpT X B m j).2<P 800):=zC (fun j=>by
  have a:=zCT h j;have u:=rp_up h j;have e:Q (m+10*(wh+1))<P 800:=zI1 (by omega)
  have:=zG (m+10*(wh+1))
  exact ⟨by omega,by omega⟩)
 have HFITS:Hid (∀ j,j≤N → -P 800<(rsT pa qa X B m j).1∧(rsT pa qa X B m j).2<P 800):=zC (fun j hj=>by
  obtain ⟨g1,g2,g3,g4⟩:=rs_abs h j;have q:=zG (m+10*(wh+1));have e:Q (m+10*(wh+1)+15)<P 800:=zI1 (by omega)
  have e2:Q (m+10*(wh+1)+15)=Q (m+10*(wh+1))*Q 15:=jC _ 15;have e3:Q 15=32768:=rfl;rw[e2,e3] at e;have:=Int.mul_le_mul_of_nonneg_right (show (j:Int)+1≤32768 by omega) (show 0≤Q (m+10*(wh+1)) by omega)
  exact ⟨by omega,by omega⟩)
 have HXW:=zC h.xw;clear h hN hJ1 hJ2 hf;obtain ⟨W,hW⟩:∃ W,W=((w.alloc (.cells #[.int .i64 pa,.int .i64 qa] 23)).alloc (.cells #[.bool x.neg,.slice x.a x.n x.cap] 26)).alloc (.cells #[.bool false,.slice none 0 0,.bool false,.slice none 0 0,.int .i64 0] 36):=⟨_,rfl⟩;have hBW:Below w.heap.size w W:=by rw[hW];exact bl3 _ _ _ _
 have st:RlB w W x pa qa X:=by
  refine ⟨?_,?_,?_,hx.bw hBW,hBW⟩ <;> rw[hW]
  ·constructor <;> simp[go_sem]
  ·constructor <;> simp[go_sem]
  ·constructor <;> simp[go_sem]
 clear hx hBW
 go_enter Tryz.func71,Tryz.ntmps71
 go_wp2_with fail;rw[← hW];clear hW;refine (jZ _ _ _ _ _ X _ st.xp).mono ?_;rintro r w1 ⟨rfl,hb1⟩;replace st:=st.bw hb1;clear hb1;rw[show zF X 0=1 by unfold zF;rw[if_neg (by omega),if_pos (by omega)]]
 have a0:=st.a.c0;have a1:=st.a.c1;have x0:=st.c.c0;have x1:=st.c.c1;have lA:=st.a.lt;have lC:=st.c.lt;have lR:=st.no.lt;go_wp2_with fail;clear a0 a1 x0 x1 lA lC lR;refine (zA4 pa qa B _ hr (by omega)).mono ?_
 rintro r w2 ⟨v2,rfl,hvb2,hvp2,hb2⟩;replace st:=st.bw hb2;have HV2:=zC hvb2;clear hb2 hvb2;go_wp2_with fail;refine (zD 2 _ (by decide) (by decide)).mono ?_
 rintro r w3 ⟨neg3,a3,n3,c3,rfl,hZ3,hb3⟩;replace st:=st.bw hb3;replace hvp2:=hvp2.bw hb3;clear hb3;go_wp2_with fail;refine (zD 1 _ (by decide) (by decide)).mono ?_
 rintro r w4 ⟨neg4,a4,n4,c4,rfl,hZ4,hb4⟩;replace st:=st.bw hb4;replace hvp2:=hvp2.bw hb4;replace hZ3:=hZ3.bw hb4;clear hb4;go_wp2_with fail;refine (zEA _ v2 ⟨neg3,a3,n3,c3⟩ ⟨neg4,a4,n4,c4⟩ _ _ _ B (ofI pa qa B) 2 1 hvp2 hZ3 hZ4 (by omega) (by omega) (by omega) (by omega) (zA HV2)).mono ?_
 rintro r w5 ⟨v5,rfl,hvb5,hvp5,hb5⟩;replace st:=st.bw hb5;have HV5:=zC hvb5;clear hb5 hvb5 hvp2 hZ3 hZ4 HV2;go_wp2_with fail;refine (zDQ _ (2*(B:Int)+41) (by first|rfl|exact jO _ (by omega) (by omega)) _ B (by omega) (by omega) (by omega)).mono ?_
 rintro r w6 ⟨v6,rfl,hvb6,hvp6,hb6⟩;replace st:=st.bw hb6;replace hvp5:=hvp5.bw hb6;clear hb6 hvb6;go_wp2_with fail;refine (yB _ v5 v6 (B/16+40) B (byI (ofI pa qa B) 2 1) ((2*(B:Int)+41)*Q B,(2*(B:Int)+41)*Q B) (hvp5.mono (by omega)) (hvp6.mono (by omega)) (by omega) (zA HV5)).mono ?_
 rintro r w7 ⟨v7,rfl,hvb7,hvp7,hb7⟩;replace st:=st.bw hb7;clear hb7 hvb7 hvp5 hvp6 HV5;obtain ⟨V7,hV7⟩:∃ V,V=w7.alloc (.cells #[.bool v7.ln,.slice v7.la v7.lN v7.lc,.bool v7.hn,.slice v7.ha v7.hN v7.hc,.int .i64 v7.bits] 36):=⟨_,rfl⟩;have bV7:Below w7.heap.size w7 V7:=by rw[hV7];exact bl1 _ _
 have HP7:=zC (hvp7.bw bV7);clear hvp7;have a0:=st.a.c0;have a1:=st.a.c1;have x0:=st.c.c0;have x1:=st.c.c1;have lA:=st.a.lt;have lC:=st.c.lt;have lR:=st.no.lt;go_wp2_with fail;rw[← hV7];clear a0 a1 x0 x1 lA lC lR;clear hV7;replace st:=st.bw bV7;clear bV7;refine (zS _ _ _ _ _ _ _ _ _ _ X _ _ st.xp (zA HP7).hi).mono ?_;rintro r w8 ⟨rfl,hb8⟩;replace st:=st.bw hb8;clear hb8 HP7;rw[far_eq (by have:=hr.2.2.1;omega) B (2*(B:Int)+41)]
 obtain ⟨cc,hc0,hc⟩:∃ cc:Int,cc≤0∧zF X (2*(ofI pa qa B).2+(2*(B:Int)+41)*Q B)=cc:=⟨_,by have:=zA HFAR;unfold zF;split <;> (try split) <;> omega,rfl⟩
 rw[hc];clear hc;have a0:=st.a.c0;have a1:=st.a.c1;have x0:=st.c.c0;have x1:=st.c.c1;have lA:=st.a.lt;have lC:=st.c.lt;have lR:=st.no.lt;go_wp2_with fail;clear a0 a1 x0 x1 lA lC lR;clear hc0;refine (zA2 _ _ _ _ B 100 X _ st.xp (by omega) (by omega)).mono ?_
 rintro r w9 ⟨neg9,a9,n9,c9,rfl,hZ9,hb9⟩;replace st:=st.bw hb9;rw[zA HXW] at hZ9;clear hb9;go_wp2_with fail;refine (zKM _ ⟨neg9,a9,n9,c9⟩ _ (wh:Int) hZ9 (by omega) (by omega)).mono ?_
 rintro r w10 ⟨rfl,hb10⟩;replace st:=st.bw hb10;clear hb10 hZ9;have a0:=st.a.c0;have a1:=st.a.c1;have x0:=st.c.c0;have x1:=st.c.c1;have lA:=st.a.lt;have lC:=st.c.lt;have lR:=st.no.lt;have HK:=zC (show ∀ w',Below w10.heap.size w10 w'→(w'.cell? ⟨w.heap.size,0,none⟩=some (.int .i64 pa)∧w'.cell? ⟨w.heap.size,1,none⟩=some (.int .i64 qa)) from fun w' hB=>⟨(st.a.bw hB).c0,(st.a.bw hB).c1⟩)
 go_wp2_with fail
 go_cut [11,12] (fun p q wx=>TwoP w10 wx m 800 800 (rpT X B m 0) (rsT pa qa X B m 0) p q)
 case first =>
  go_region_held3 (fun w'=>w'.cell? ⟨w.heap.size,0,none⟩=some (.int .i64 pa)∧w'.cell? ⟨w.heap.size,1,none⟩=some (.int .i64 qa)) (exact zA HK _ (by repeat' (first|with_reducible exact hBU4|with_reducible exact hBU3|with_reducible exact hBU2|with_reducible exact hBU1|with_reducible exact Below.refl _ _|with_reducible refine Below.drew ?_|with_reducible refine zK ?_ _|with_reducible refine Below.setCell ?_ (by with_reducible first|exact Nat.le_refl _|exact Nat.le_succ _|exact hlU1|exact Nat.le_succ_of_le hlU1|exact hlU2|exact Nat.le_succ_of_le hlU2|exact hlU3|exact Nat.le_succ_of_le hlU3|exact hlU4|exact Nat.le_succ_of_le hlU4) _)))
   (first
    | (go_at_call 54;have hq:=hBU3;refine (zGF _ (zA HM) ⟨negU2,aU2,nU2,cU2⟩ ⟨negU3,aU3,nU3,cU3⟩ 4 4 qa pa _ (hZU2.bw (by repeat' (first|with_reducible exact Below.refl _ _|with_reducible refine Below.drew ?_|with_reducible refine zK ?_ _))) (hZU3.bw (by repeat' (first|with_reducible exact Below.refl _ _|with_reducible refine Below.drew ?_|with_reducible refine zK ?_ _))) (by omega) (by omega) (by omega) (by omega)).mono ?_;rintro r wU4 ⟨vU4,rfl,hvbU4,hZU4,hbU4⟩;have HVBU4:=zC hvbU4;clear hvbU4;have hCU4:Below wU3.heap.size wU3 wU4:=(by with_reducible first|exact hbU4|exact zB (bl1 _ _) hbU4|exact zB (bl2 _ _ _) hbU4);have hBU4:=zB hBU3 hCU4;(first|with_reducible have gaU4:=(zO wU3 36).bw hbU4|with_reducible have gaU4:=((zO wU3 36).bw (bl1 _ _)).bw hbU4|skip);(try with_reducible have gbU4:=(zBN (wU3.alloc _) (wU3.heap.size+1) (hs1 _ _) 36).bw hbU4);replace hZU1:=hZU1.bw hCU4;(try have maU1:=gaU1.lt);(try have mbU1:=gbU1.lt);(try replace gaU1:=gaU1.bw hCU4);(try replace gbU1:=gbU1.bw hCU4);replace hZU2:=hZU2.bw hCU4;(try have maU2:=gaU2.lt);(try have mbU2:=gbU2.lt);(try replace gaU2:=gaU2.bw hCU4);(try replace gbU2:=gbU2.bw hCU4);replace hZU3:=hZU3.bw hCU4;(try have maU3:=gaU3.lt);(try have mbU3:=gbU3.lt);(try replace gaU3:=gaU3.bw hCU4);(try replace gbU3:=gbU3.bw hCU4);have hlU4:=hBU4.size;(try have eaU1:=gaU1);(try obtain ⟨zaU10,zaU11,zaU12,zaU13,zaU14,zaU15⟩:=eaU1);(try have yaU1:=gaU1.lt);(try have ebU1:=gbU1);(try obtain ⟨zbU10,zbU11,zbU12,zbU13,zbU14,zbU15⟩:=ebU1);(try have ybU1:=gbU1.lt);(try have eaU2:=gaU2);(try obtain ⟨zaU20,zaU21,zaU22,zaU23,zaU24,zaU25⟩:=eaU2);(try have yaU2:=gaU2.lt);(try have ebU2:=gbU2);(try obtain ⟨zbU20,zbU21,zbU22,zbU23,zbU24,zbU25⟩:=ebU2);(try have ybU2:=gbU2.lt);(try have eaU3:=gaU3);(try obtain ⟨zaU30,zaU31,zaU32,zaU33,zaU34,zaU35⟩:=eaU3);(try have yaU3:=gaU3.lt);(try have ebU3:=gbU3);(try obtain ⟨zbU30,zbU31,zbU32,zbU33,zbU34,zbU35⟩:=ebU3);(try have ybU3:=gbU3.lt);(try have eaU4:=gaU4);(try obtain ⟨zaU40,zaU41,zaU42,zaU43,zaU44,zaU45⟩:=eaU4);(try have yaU4:=gaU4.lt);(try have ebU4:=gbU4);(try obtain ⟨zbU40,zbU41,zbU42,zbU43,zbU44,zbU45⟩:=ebU4);(try have ybU4:=gbU4.lt))
    | (go_at_call 43;have hq:=hBU2;refine (zD pa _ (by omega) (by omega)).mono ?_;rintro r wU3 ⟨negU3,aU3,nU3,cU3,rfl,hZU3,hbU3⟩;have hCU3:Below wU2.heap.size wU2 wU3:=(by with_reducible first|exact hbU3|exact zB (bl1 _ _) hbU3|exact zB (bl2 _ _ _) hbU3);have hBU3:=zB hBU2 hCU3;(first|with_reducible have gaU3:=(zO wU2 36).bw hbU3|with_reducible have gaU3:=((zO wU2 36).bw (bl1 _ _)).bw hbU3|skip);(try with_reducible have gbU3:=(zBN (wU2.alloc _) (wU2.heap.size+1) (hs1 _ _) 36).bw hbU3);replace hZU1:=hZU1.bw hCU3;(try have maU1:=gaU1.lt);(try have mbU1:=gbU1.lt);(try replace gaU1:=gaU1.bw hCU3);(try replace gbU1:=gbU1.bw hCU3);replace hZU2:=hZU2.bw hCU3;(try have maU2:=gaU2.lt);(try have mbU2:=gbU2.lt);(try replace gaU2:=gaU2.bw hCU3);(try replace gbU2:=gbU2.bw hCU3);have hlU3:=hBU3.size)
    | (go_at_call 43;have hq:=hBU1;refine (zD qa _ (by omega) (by omega)).mono ?_;rintro r wU2 ⟨negU2,aU2,nU2,cU2,rfl,hZU2,hbU2⟩;have hCU2:Below wU1.heap.size wU1 wU2:=(by with_reducible first|exact hbU2|exact zB (bl1 _ _) hbU2|exact zB (bl2 _ _ _) hbU2);have hBU2:=zB hBU1 hCU2;(first|with_reducible have gaU2:=(zO wU1 36).bw hbU2|with_reducible have gaU2:=((zO wU1 36).bw (bl1 _ _)).bw hbU2|skip);(try with_reducible have gbU2:=(zBN (wU1.alloc _) (wU1.heap.size+1) (hs1 _ _) 36).bw hbU2);replace hZU1:=hZU1.bw hCU2;(try have maU1:=gaU1.lt);(try have mbU1:=gbU1.lt);(try replace gaU1:=gaU1.bw hCU2);(try replace gbU1:=gbU1.bw hCU2);have hlU2:=hBU2.size)
    | (go_at_call 27;refine (zBE _ (zA HM) _ 1 (by omega) (by decide) (by decide)).mono ?_;rintro r wU1 ⟨vU1,rfl,hvbU1,hZU1,hbU1⟩;have HVBU1:=zC hvbU1;clear hvbU1;have hBU1:Below w10.heap.size w10 wU1:=(by with_reducible first|exact zB (Below.refl _ _).drew hbU1|exact zB (bl1 _ _).drew hbU1|exact zB (bl2 _ _ _).drew hbU1);(first|with_reducible have gaU1:=((zO w10 36).bw (Below.refl _ _).drew).bw hbU1|with_reducible have gaU1:=((zO w10 36).bw (bl1 _ _).drew).bw hbU1|skip);(try with_reducible have gbU1:=((zBN (w10.alloc _) (w10.heap.size+1) (hs1 _ _) 36).bw (Below.refl _ _).drew).bw hbU1);have hlU1:=hBU1.size))
  all_goals
   have hiXU:=(show SpAt wU4 vU1 800 (rpT X B m 0).1 (rpT X B m 0).2 by have h:=hZU1.mono (show m/16+18≤800 by omega);rw[Int.one_mul] at h;exact h)
   have hiYU:=(show SpAt wU4 vU4 800 (rsT pa qa X B m 0).1 (rsT pa qa X B m 0).2 from hZU4.mono (by omega))
   go_wp2_with fail;go_meet
   first
    | with_reducible exact zER (x:=vU1) (y:=vU4) hBU4 hiXU hiYU (zA HVBU1) (zA HVBU4)
    | with_reducible exact zEI (x:=vU1) (y:=vU4) hBU4 hiXU hiYU (zA HVBU1) (zA HVBU4)
    | with_reducible exact zGV (x:=vU1) (y:=vU4) hBU4 hiXU hiYU (zA HVBU1) (zA HVBU4) (by assumption) (by with_reducible first|exact Nat.le_refl _|exact Nat.le_succ _|exact hlU1|exact Nat.le_succ_of_le hlU1|exact hlU2|exact Nat.le_succ_of_le hlU2|exact hlU3|exact Nat.le_succ_of_le hlU3|exact hlU4|exact Nat.le_succ_of_le hlU4)
    | with_reducible exact zJF (x:=vU1) (y:=vU4) hBU4 hiXU hiYU (zA HVBU1) (zA HVBU4) (by assumption) (by with_reducible first|exact Nat.le_refl _|exact Nat.le_succ _|exact hlU1|exact Nat.le_succ_of_le hlU1|exact hlU2|exact Nat.le_succ_of_le hlU2|exact hlU3|exact Nat.le_succ_of_le hlU3|exact hlU4|exact Nat.le_succ_of_le hlU4)
    | with_reducible exact zIS (x:=vU1) (y:=vU4) hBU4 hiXU hiYU (zA HVBU1) (zA HVBU4) (by assumption) (by assumption) (by with_reducible first|exact Nat.le_refl _|exact Nat.le_succ _|exact hlU1|exact Nat.le_succ_of_le hlU1|exact hlU2|exact Nat.le_succ_of_le hlU2|exact hlU3|exact Nat.le_succ_of_le hlU3|exact hlU4|exact Nat.le_succ_of_le hlU4) (by with_reducible first|exact Nat.le_refl _|exact Nat.le_succ _|exact hlU1|exact Nat.le_succ_of_le hlU1|exact hlU2|exact Nat.le_succ_of_le hlU2|exact hlU3|exact Nat.le_succ_of_le hlU3|exact hlU4|exact Nat.le_succ_of_le hlU4) (by omega)
 case rest =>
 obtain ⟨BU,CU,xU,yU,rfl,rfl,hHU,hJU,hneU,XU,YU,hxU,hyU,bxU,byU,hblU⟩:=hcut;clear a0 a1 x0 x1 lA lC lR;have lR0:=st.no.lt;have st0:RlSt w wc x pa qa X BU CU m 800 xU yU (rpT X B m 0) (rsT pa qa X B m 0):=⟨st.bw hblU,XU,YU,hxU,hyU,bxU,byU,by omega,by omega,hneU⟩
 clear st XU YU hxU hyU bxU byU hblU hHU hJU hneU lR0 HK;have hN0:1≤N:=by have:=(zA HN).1;omega
 go_upto_block 0 with fail
 go_cut [13] (fun nn wx=>∃ (U Sm:Sp),RlSt w wx x pa qa X BU CU m 800 U Sm (rpT X B m N) (rsT pa qa X B m N))
 case first =>
  go_wp2_with fail
  go_loopw [13] (fun nn wr=>∃ (i:Nat) (U Sm:Sp),nn=.int .i64 ((i:Int)+1)∧i<N∧RlSt w wr x pa qa X BU CU m 800 U Sm (rpT X B m i) (rsT pa qa X B m i)) (fun nn _=>N+1-(intOf nn).toNat)
  case atStart=>exact ⟨0,xU,yU,rfl,hN0,st0⟩
  case round =>
   obtain ⟨i,U,Sm,rfl,hi,st⟩:=hrel;clear st0;have hlim:(i:Int)+1<8*(wh:Int)+4*(2*(B:Int)+4*(wh:Int)+160):=by omega
   have a0:=st.b.a.c0;have a1:=st.b.a.c1;have x0:=st.b.c.c0;have x1:=st.b.c.c1;have lA:=st.b.a.lt;have lC:=st.b.c.lt;have lR:=st.b.no.lt;obtain ⟨⟨y0,y1,y2,y3,y4⟩,y5⟩:=st.y;obtain ⟨⟨z0,z1,z2,z3,z4⟩,z5⟩:=st.s;have lY:=st.y.lt;have lS:=st.s.lt;have nYS:=st.n;go_wp2_with fail;clear a0 a1 x0 x1 lA lC lR y0 y1 y2 y3 y4 y5 z0 z1 z2 z3 z4 z5 lY lS nYS;clear hlim;refine (zEV _ _ U x 800 100 B m rfl (rpT X B m i) X st.yp st.b.xp (zCT (zA HH) i).2 (by omega) (by omega) (by omega) (by omega) st.yb).mono ?_
   rintro r w1 ⟨v1,rfl,hvb1,hvp1,hb1⟩;replace st:=st.bw hb1;have HV1:=zC hvb1;clear hb1 hvb1;go_wp2_with fail;refine (zD 1 _ (by decide) (by decide)).mono ?_
   rintro r w2 ⟨neg2,a2,n2,c2,rfl,hZ2,hb2⟩;replace st:=st.bw hb2;replace hvp1:=hvp1.bw hb2;clear hb2;go_wp2_with fail;refine (zD ((i:Int)+1) _ (by omega) (by omega)).mono ?_
   rintro r w4 ⟨neg4,a4,n4,c4,rfl,hZ4,hb4⟩;replace st:=st.bw hb4;replace hvp1:=hvp1.bw hb4;replace hZ2:=hZ2.bw hb4;clear hb4;go_wp2_with fail;refine (zEA _ v1 ⟨neg2,a2,n2,c2⟩ ⟨neg4,a4,n4,c4⟩ _ _ _ m _ 1 ((i:Int)+1) hvp1 hZ2 hZ4 (by omega) (by omega) (by omega) (by omega) (zA HV1)).mono ?_
   rintro r w5 ⟨v5,rfl,hvb5,hvp5,hb5⟩;have hq2:=zG B;rw[kP (jQ (zCT (zA HH) i).2 (by omega) (by omega)) (by omega)] at hvp5
   have e5:zE (zE (rpT X B m i) X (Q B)) 1 ((i:Int)+1)=rpT X B m (i+1):=rfl;rw[e5] at hvp5;replace hvp5:=hvp5.fits (K:=800) (zCT (zA HH) _).2 (zA HFIT _).1 (zA HFIT _).2;replace st:=st.bw hb5;clear hb5 hvp1 hZ2 hZ4 e5 hq2;obtain ⟨V5,hV5⟩:∃ V,V=zP w5 BU v5:=⟨_,rfl⟩;have st5:RlSt w V5 x pa qa X BU CU m 800 v5 Sm (rpT X B m (i+1)) (rsT pa qa X B m i):=by rw[hV5];exact st.put1 v5 hvp5 hvb5
   have lY:=st.y.lt;obtain ⟨⟨y0,y1,y2,y3,y4⟩,y5⟩:=st.y;clear st hvp5 hvb5 HV1;unfold zP at hV5;go_wp2_with fail;rw[← hV5];clear hV5 y0 y1 y2 y3 y4 y5 lY;have E2:=zC (show IntKind.i64.wrap (((i:Int)+1)*qa)=((i:Int)+1)*qa from jO _ (by have:=Int.mul_nonneg (show 0≤(i:Int)+1 by omega) (show 0≤qa by omega);omega) (by have:=Int.mul_le_mul (show (i:Int)+1≤20001 by omega) r2 (by omega) (by omega);omega))
   have hpr:0≤((i:Int)+1)*qa∧((i:Int)+1)*qa≤20001*1024:=⟨Int.mul_nonneg (by omega) (by omega),Int.mul_le_mul (by omega) r2 (by omega) (by omega)⟩
   have E3:=zC (show IntKind.i64.wrap (pa+((i:Int)+1)*qa)=pa+((i:Int)+1)*qa from jO _ (by omega) (by omega))
   have E4:=zC (show pa+((i:Int)+1)*qa=pa+((i+1:Nat):Int)*qa by rw[show ((i+1:Nat):Int)=(i:Int)+1 by omega])
   have HPR:=zC (show -9223372036854775808≤pa+((i+1:Nat):Int)*qa∧pa+((i+1:Nat):Int)*qa≤9223372036854775807∧0<pa+((i+1:Nat):Int)*qa by rw[← zA E4];omega)
   clear hpr;have HK9:=zC (show ∀ w',Below V5.heap.size V5 w'→(w'.cell? ⟨BU,0,none⟩=some (.bool v5.ln)∧w'.cell? ⟨BU,1,none⟩=some (.slice v5.la v5.lN v5.lc)∧w'.cell? ⟨BU,2,none⟩=some (.bool v5.hn)∧w'.cell? ⟨BU,3,none⟩=some (.slice v5.ha v5.hN v5.hc)∧w'.cell? ⟨BU,4,none⟩=some (.int .i64 v5.bits)∧w'.cell? ⟨w.heap.size,0,none⟩=some (.int .i64 pa)∧w'.cell? ⟨w.heap.size,1,none⟩=some (.int .i64 qa)) from fun w' hB=>⟨(st5.y.bw hB).c.c0,(st5.y.bw hB).c.c1,(st5.y.bw hB).c.c2,(st5.y.bw hB).c.c3,(st5.y.bw hB).c.c4,(st5.b.a.bw hB).c0,(st5.b.a.bw hB).c1⟩)
   have ST5:=zC st5;have lRR:=st5.b.no.lt;clear st5
   go_cut [14] (fun p wx=>∃ (Bz:Nat) (u:Sp),p=.pointer (some ⟨Bz,0,none⟩)∧V5.heap.size≤Bz∧VrC wx Bz u∧SpAt wx u 813 (byI (rpT X B m (i+1)) qa (pa+((i+1:Nat):Int)*qa)).1 (byI (rpT X B m (i+1)) qa (pa+((i+1:Nat):Int)*qa)).2∧u.bits=(m:Int)∧Below V5.heap.size V5 wx)
   case first =>
    go_region_held3 (fun w'=>w'.cell? ⟨BU,0,none⟩=some (.bool v5.ln)∧w'.cell? ⟨BU,1,none⟩=some (.slice v5.la v5.lN v5.lc)∧w'.cell? ⟨BU,2,none⟩=some (.bool v5.hn)∧w'.cell? ⟨BU,3,none⟩=some (.slice v5.ha v5.hN v5.hc)∧w'.cell? ⟨BU,4,none⟩=some (.int .i64 v5.bits)∧w'.cell? ⟨w.heap.size,0,none⟩=some (.int .i64 pa)∧w'.cell? ⟨w.heap.size,1,none⟩=some (.int .i64 qa)) (exact zA HK9 _ (by repeat' (first|with_reducible exact hBT3|with_reducible exact hBT2|with_reducible exact hBT1|with_reducible exact Below.refl _ _|with_reducible refine Below.drew ?_|with_reducible refine zK ?_ _|with_reducible refine Below.setCell ?_ (by first|exact Nat.le_refl _|exact hlT1|exact hlT2|exact hlT3) _)))
     (first
      | (go_at_call 56;have hq:=hBT2;refine (zEA _ v5 ⟨negT1,aT1,nT1,cT1⟩ ⟨negT2,aT2,nT2,cT2⟩ 800 4 4 m (rpT X B m (i+1)) qa (pa+((i+1:Nat):Int)*qa) ((zA ST5).yp.bw (by with_reducible first|exact hBT2|exact zK hBT2 _)) (hZT1.bw (by with_reducible first|exact Below.refl _ _|exact bl1 _ _)) (hZT2.bw (by with_reducible first|exact Below.refl _ _|exact bl1 _ _)) (by omega) (by omega) (by omega) (zA HPR).2.2 (zA ST5).yb).mono ?_;rintro r wT3 ⟨vT3,rfl,hvbT3,hZT3,hbT3⟩;have HVBT3:=zC hvbT3;clear hvbT3;have hCT3:Below wT2.heap.size wT2 wT3:=(by with_reducible first|exact hbT3|exact zB (bl1 _ _) hbT3);have hBT3:=zB hBT2 hCT3;(try with_reducible have gT3:=(zO wT2 36).bw hbT3);replace hZT1:=hZT1.bw hCT3;(try replace gT1:=gT1.bw hCT3);replace hZT2:=hZT2.bw hCT3;(try replace gT2:=gT2.bw hCT3);have hlT3:=hBT3.size;(try have mT1:=gT1.lt);(try have eT1:=Nat.ne_of_lt mT1);(try have eT1':=Nat.ne_of_gt mT1);(try obtain ⟨zT10,zT11,zT12,zT13,zT14,zT15⟩:=gT1);(try have mT2:=gT2.lt);(try have eT2:=Nat.ne_of_lt mT2);(try have eT2':=Nat.ne_of_gt mT2);(try obtain ⟨zT20,zT21,zT22,zT23,zT24,zT25⟩:=gT2);(try have mT3:=gT3.lt);(try have eT3:=Nat.ne_of_lt mT3);(try have eT3':=Nat.ne_of_gt mT3);(try obtain ⟨zT30,zT31,zT32,zT33,zT34,zT35⟩:=gT3))
      | (go_at_call 43;have hq:=hBT1;refine (numOf_z _ (pa+((i+1:Nat):Int)*qa) (by first|exact zA E4|(rw[zA E2,zA E3];exact zA E4)|(rw[zA E3];exact zA E4)|(rw[zA E2];exact zA E4)) _ (zA HPR).1 (zA HPR).2.1).mono ?_;rintro r wT2 ⟨negT2,aT2,nT2,cT2,rfl,hZT2,hbT2⟩;have hCT2:Below wT1.heap.size wT1 wT2:=(by with_reducible first|exact hbT2|exact zB (bl1 _ _) hbT2);have hBT2:=zB hBT1 hCT2;(try with_reducible have gT2:=(zO wT1 36).bw hbT2);replace hZT1:=hZT1.bw hCT2;(try replace gT1:=gT1.bw hCT2);have hlT2:=hBT2.size)
      | (go_at_call 43;refine (zD qa _ (by omega) (by omega)).mono ?_;rintro r wT1 ⟨negT1,aT1,nT1,cT1,rfl,hZT1,hbT1⟩;have hBT1:Below V5.heap.size V5 wT1:=(by with_reducible first|exact zB (Below.refl _ _).drew hbT1|exact zB (bl1 _ _).drew hbT1);(try with_reducible have gT1:=((zO V5 36).bw (Below.refl _ _).drew).bw hbT1);have hlT1:=hBT1.size))
    all_goals
     have hfinT:SpAt wT3 vT3 813 (byI (rpT X B m (i+1)) qa (pa+((i+1:Nat):Int)*qa)).1 (byI (rpT X B m (i+1)) qa (pa+((i+1:Nat):Int)*qa)).2:=hZT3;go_wp2_with fail;go_meet;refine ⟨_,vT3,rfl,?_,⟨⟨?_,?_,?_,?_,?_⟩,?_⟩,?_,(zA HVBT3),?_⟩
     ·first|exact Nat.le_refl _|exact hlT1|exact hlT2|exact hlT3
     ·simp[go_sem, *]
     ·simp[go_sem, *]
     ·simp[go_sem, *]
     ·simp[go_sem, *]
     ·simp[go_sem, *]
     ·intro o;simp[go_sem, *]
     ·first|with_reducible exact SpAt.put5 hfinT zT30 zT31 zT32 zT33 zT34 _ _ _ _ _|with_reducible exact SpAt.put5 hfinT zT20 zT21 zT22 zT23 zT24 _ _ _ _ _|with_reducible exact SpAt.put5 hfinT zT10 zT11 zT12 zT13 zT14 _ _ _ _ _|with_reducible exact hfinT.bw (bl1 _ _)
     ·repeat' (first|with_reducible exact hBT3|with_reducible exact hBT2|with_reducible exact hBT1|with_reducible exact Below.refl _ _|with_reducible refine Below.drew ?_|with_reducible refine zK ?_ _|with_reducible refine Below.setCell ?_ (by first|exact Nat.le_refl _|exact hlT1|exact hlT2|exact hlT3) _)
   case rest =>
   obtain ⟨BT,xT,rfl,hHT,XT,hpT,hxbT,hblT⟩:=hcut;have st:=(zA ST5).bw hblT;have e6:byI (rpT X B m (i+1)) qa (pa+((i+1:Nat):Int)*qa)=rtT pa qa X B m (i+1):=kP (zCT (zA HH) _).2 (by omega)
   rw[e6] at hpT;have n8T:BU≠BT:=by have:=(zA ST5).y.lt;omega
   have n9T:CU≠BT:=by have:=(zA ST5).s.lt;omega
   have HXT:=zC hpT;have HBT:=zC hxbT;clear hpT hxbT HK9 ST5 hblT e6 E2 E3 E4 HPR hHT lRR
   go_upto_if 98 with fail
   go_cut [13] (fun nn wx=>nn=.int .i64 ((i:Int)+1)∧∃ v7:Sp,RlSt w wx x pa qa X BU CU m 800 v5 v7 (rpT X B m (i+1)) (rsT pa qa X B m (i+1)))
   case first =>
    by_cases hpar:(i+1) % 2=1
    ·have htm:(((i:Int)+1) % 2 == 1)=true:=by simp;omega
     rw[htm]
     have eG:yH (rsT pa qa X B m i) (rtT pa qa X B m (i+1))=rsT pa qa X B m (i+1):=by
      show _=(if (i+1) % 2=1 then yH (rsT pa qa X B m i) (rtT pa qa X B m (i+1)) else jJ (rsT pa qa X B m i) (rtT pa qa X B m (i+1)))
      rw[if_pos hpar]
     have HPAR:=zC hpar;clear hpar;obtain ⟨⟨y0,y1,y2,y3,y4⟩,y5⟩:=st.s;obtain ⟨⟨z0,z1,z2,z3,z4⟩,z5⟩:=XT;have lS:=st.s.lt;go_wp2_with fail;clear y0 y1 y2 y3 y4 z0 z1 z2 z3 z4 y5 z5 lS htm;refine (zC1 _ Sm xT 813 m (rsT pa qa X B m i) (rtT pa qa X B m (i+1)) (st.sp.mono (by omega)) (zA HXT) (by omega) st.sb).mono ?_
     rintro r w7 ⟨v7,rfl,hvb7,hvp7,hb7⟩;rw[eG] at hvp7;replace hvp7:=hvp7.fits (K:=800) (rs_le (zA HH) _) (zA HFITS _ (by omega)).1 (zA HFITS _ (by omega)).2
     replace st:=st.bw hb7;clear hb7 HXT HBT eG;obtain ⟨V7,hV7⟩:∃ V,V=zP w7 CU v7:=⟨_,rfl⟩;have stn:RlSt w V7 x pa qa X BU CU m 800 v5 v7 (rpT X B m (i+1)) (rsT pa qa X B m (i+1)):=by rw[hV7];exact st.put2 v7 hvp7 hvb7 (Nat.le_refl _)
     have lS:=st.s.lt;obtain ⟨⟨z0,z1,z2,z3,z4⟩,z5⟩:=st.s;clear st hvp7 hvb7;unfold zP at hV7;go_wp2_with fail;rw[← hV7];clear hV7 z0 z1 z2 z3 z4 z5 lS;go_meet;exact ⟨rfl,v7,stn⟩
    ·have htm:(((i:Int)+1) % 2 == 1)=false:=by simp;omega
     rw[htm]
     have eG:jJ (rsT pa qa X B m i) (rtT pa qa X B m (i+1))=rsT pa qa X B m (i+1):=by
      show _=(if (i+1) % 2=1 then yH (rsT pa qa X B m i) (rtT pa qa X B m (i+1)) else jJ (rsT pa qa X B m i) (rtT pa qa X B m (i+1)))
      rw[if_neg hpar]
     have HPAR:=zC hpar;clear hpar;obtain ⟨⟨y0,y1,y2,y3,y4⟩,y5⟩:=st.s;obtain ⟨⟨z0,z1,z2,z3,z4⟩,z5⟩:=XT;have lS:=st.s.lt;go_wp2_with fail;clear y0 y1 y2 y3 y4 z0 z1 z2 z3 z4 y5 z5 lS htm;refine (yB _ Sm xT 813 m (rsT pa qa X B m i) (rtT pa qa X B m (i+1)) (st.sp.mono (by omega)) (zA HXT) (by omega) st.sb).mono ?_
     rintro r w7 ⟨v7,rfl,hvb7,hvp7,hb7⟩;rw[eG] at hvp7;replace hvp7:=hvp7.fits (K:=800) (rs_le (zA HH) _) (zA HFITS _ (by omega)).1 (zA HFITS _ (by omega)).2
     replace st:=st.bw hb7;clear hb7 HXT HBT eG;obtain ⟨V7,hV7⟩:∃ V,V=zP w7 CU v7:=⟨_,rfl⟩;have stn:RlSt w V7 x pa qa X BU CU m 800 v5 v7 (rpT X B m (i+1)) (rsT pa qa X B m (i+1)):=by rw[hV7];exact st.put2 v7 hvp7 hvb7 (Nat.le_refl _)
     have lS:=st.s.lt;obtain ⟨⟨z0,z1,z2,z3,z4⟩,z5⟩:=st.s;clear st hvp7 hvb7;unfold zP at hV7;go_wp2_with fail;rw[← hV7];clear hV7 z0 z1 z2 z3 z4 z5 lS;go_meet;exact ⟨rfl,v7,stn⟩
   case rest =>
   obtain ⟨rfl,v7,stn⟩:=hcut;clear st HXT HBT XT n8T n9T
   by_cases hn:(i:Int)+1 > 2*(wh:Int)+2
   ·have st:=stn
    clear stn;have a0:=st.b.a.c0;have a1:=st.b.a.c1;have x0:=st.b.c.c0;have x1:=st.b.c.c1;have lA:=st.b.a.lt;have lC:=st.b.c.lt;have lR:=st.b.no.lt;obtain ⟨⟨y0,y1,y2,y3,y4⟩,y5⟩:=st.y;obtain ⟨⟨z0,z1,z2,z3,z4⟩,z5⟩:=st.s;have lY:=st.y.lt;have lS:=st.s.lt;have nYS:=st.n;go_wp2_with fail;clear a0 a1 x0 x1 lA lC lR y0 y1 y2 y3 y4 y5 z0 z1 z2 z3 z4 z5 lY lS nYS;refine (zC9 _ v5 800 1 _ _ st.yp (by omega) (by omega)).mono ?_
    rintro r w8 ⟨rfl,hb8⟩;replace st:=st.bw hb8;clear hb8
    have esm:zAK (rpT X B m (i+1)).1 (rpT X B m (i+1)).2 1=decide ((rpT X B m (i+1)).2≤1):=by
     have a:=zCT (zA HH) (i+1);rw[zC0]
     congr 1
     have:zT ((rpT X B m (i+1)).1,(rpT X B m (i+1)).2)=(rpT X B m (i+1)).2:=by unfold zT zEE;simp only[];split <;> omega
     rw[this]
    rw[esm];clear esm
    by_cases hin:i+1<N
    ·have hr':¬ (rpT X B m (i+1)).2≤1:=by have:=(zA HN).2.2 (i+1) (by omega) hin;omega
     rw[decide_eq_false hr'];clear hr';go_wp2_with fail
     go_roundw
     case rel=>exact ⟨i+1,v5,v7,by go_num,hin,st⟩
     case measure=>simp[intOf];omega
    ·have hie:i+1=N:=by omega
     have hr':(rpT X B m (i+1)).2≤1:=by rw[hie];exact (zA HN).2.1
     rw[decide_eq_true hr'];have HIE:=zC hie;clear hr' hie;go_wp2_with fail;go_meet;exact ⟨v5,v7,by rw[← zA HIE];exact st⟩
   ·have hin:i+1<N:=by have:=(zA HN).1;omega
    have st:=stn;clear stn;have a0:=st.b.a.c0;have a1:=st.b.a.c1;have x0:=st.b.c.c0;have x1:=st.b.c.c1;have lA:=st.b.a.lt;have lC:=st.b.c.lt;have lR:=st.b.no.lt;obtain ⟨⟨y0,y1,y2,y3,y4⟩,y5⟩:=st.y;obtain ⟨⟨z0,z1,z2,z3,z4⟩,z5⟩:=st.s;have lY:=st.y.lt;have lS:=st.s.lt;have nYS:=st.n;go_wp2_with fail;clear a0 a1 x0 x1 lA lC lR y0 y1 y2 y3 y4 y5 z0 z1 z2 z3 z4 z5 lY lS nYS
    go_roundw
    case rel=>exact ⟨i+1,v5,v7,by go_num,hin,st⟩
    case measure=>simp[intOf];omega
 case rest =>
 obtain ⟨U,Sm,st⟩:=hcut;clear st0 hN0;have a0:=st.b.a.c0;have a1:=st.b.a.c1;have x0:=st.b.c.c0;have x1:=st.b.c.c1;have lA:=st.b.a.lt;have lC:=st.b.c.lt;have lR:=st.b.no.lt;obtain ⟨⟨y0,y1,y2,y3,y4⟩,y5⟩:=st.y;obtain ⟨⟨z0,z1,z2,z3,z4⟩,z5⟩:=st.s;have lY:=st.y.lt;have lS:=st.s.lt;have nYS:=st.n;go_wp2_with fail;clear a0 a1 x0 x1 lA lC lR y0 y1 y2 y3 y4 y5 z0 z1 z2 z3 z4 z5 lY lS nYS;refine (zFA _ Sm 800 2 _ _ st.sp (by omega) (by omega) (by omega) (by omega)).mono ?_
 rintro r w3 ⟨v3,rfl,hvb3,hvp3,hb3⟩;have hvb3':v3.bits=(m:Int):=hvb3.trans st.sb;replace st:=st.bw hb3;obtain ⟨V3,hV3⟩:∃ V,V=zP w3 CU v3:=⟨_,rfl⟩;have st3:RlSt w V3 x pa qa X BU CU m 801 U v3 (rpT X B m N) (jJ (rsT pa qa X B m N) (-2,2)):=by rw[hV3];exact st.put2 (c':=jJ (rsT pa qa X B m N) (-2,2)) v3 hvp3 hvb3' (by omega)
 have lS:=st.s.lt;obtain ⟨⟨z0,z1,z2,z3,z4⟩,z5⟩:=st.s;clear st hvp3 hvb3 hvb3' hb3;unfold zP at hV3;go_wp2_with fail;rw[← hV3];clear hV3 z0 z1 z2 z3 z4 z5 lS;have xr:(0:Rat)<(X:Rat):=by exact_mod_cast X0
 have pr0:(0:Rat)<(pa:Rat):=by exact_mod_cast p0
 have qr0:(0:Rat)<(qa:Rat):=by exact_mod_cast q0'
 have HXP:=zC (zL xr (zV B));have HAP:=zC (zL pr0 qr0);clear xr pr0 qr0;have HREF:=zC (show ∀ a,Iv m a (Ev (fun M=>(pa:Rat)/(qa:Rat)*L ((X:Rat)/(Q B:Rat)) M-Y M))→Iv m (kJ m a (jJ (rsT pa qa X B m N) (-2,2))) (lw L ((pa:Rat)/(qa:Rat)) ((X:Rat)/(Q B:Rat)) g) from fun a ha=>lo_ref hL (zA HH) (zA HN) ig hY (zA HAP) (zA HXP) ha)
 have HK20:=zC (show ∀ w',Below V3.heap.size V3 w'→(w'.cell? ⟨w.heap.size,0,none⟩=some (.int .i64 pa)∧w'.cell? ⟨w.heap.size,1,none⟩=some (.int .i64 qa)∧w'.cell? ⟨w.heap.size+1,0,none⟩=some (.bool x.neg)∧w'.cell? ⟨w.heap.size+1,1,none⟩=some (.slice x.a x.n x.cap)) from fun w' hB=>⟨(st3.b.a.bw hB).c0,(st3.b.a.bw hB).c1,(st3.b.c.bw hB).c0,(st3.b.c.bw hB).c1⟩)
 have ST3:=zC st3;have lRR:=st3.b.no.lt;clear st3
 go_cut [15] (fun p wx=>∃ (Bz:Nat) (u:Sp) (a1 a2:Int × Int) (l1:Nat→Rat),p=.pointer (some ⟨Bz,0,none⟩)∧((IsLog l1 (fun _=>(X:Rat)/(Q B:Rat))∧Iv (B+64) a1 l1∧Abs a1 (3*((J:Int)+1)*Q (B+64)))∧Iv (B+64) a2 Y∧Abs a2 (30000*Q (B+64)))∧V3.heap.size≤Bz∧VrC wx Bz u∧SpAt wx u 70001 (yH (byI a1 pa qa) a2).1 (yH (byI a1 pa qa) a2).2∧u.bits=((B+64:Nat):Int)∧Below V3.heap.size V3 wx)
 case first =>
  go_region_held3 (fun w'=>w'.cell? ⟨w.heap.size,0,none⟩=some (.int .i64 pa)∧w'.cell? ⟨w.heap.size,1,none⟩=some (.int .i64 qa)∧w'.cell? ⟨w.heap.size+1,0,none⟩=some (.bool x.neg)∧w'.cell? ⟨w.heap.size+1,1,none⟩=some (.slice x.a x.n x.cap)) (exact zA HK20 _ (by repeat' (first|with_reducible exact hBZ3|with_reducible exact hBZ2|with_reducible exact hBZ1|with_reducible exact Below.refl _ _|with_reducible refine Below.drew ?_|with_reducible refine zK ?_ _|with_reducible refine Below.setCell ?_ (by first|exact Nat.le_refl _|exact hlZ1|exact hlZ2|exact hlZ3) _)))
   (first
    | (go_at_call 26;have hq:=hBZ2;refine (zC1 _ vZ1 vZ2 70000 (B+64) (byI (lo1,hi1) pa qa) (lo2,hi2) (((hZZ1.bw hCZ2).bw (by with_reducible first|exact Below.refl _ _|exact bl1 _ _)).mono (by omega)) (hZZ2.bw (by with_reducible first|exact Below.refl _ _|exact bl1 _ _)) (by omega) (zA HVBZ1)).mono ?_;rintro r wZ3 ⟨vZ3,rfl,hvbZ3,hZZ3,hbZ3⟩;have HVBZ3:=zC hvbZ3;clear hvbZ3;have hCZ3:Below wZ2.heap.size wZ2 wZ3:=(by with_reducible first|exact hbZ3|exact zB (bl1 _ _) hbZ3);have hBZ3:=zB hBZ2 hCZ3;(try with_reducible have gZ3:=(zO wZ2 36).bw hbZ3);(try replace gZ1:=gZ1.bw hCZ3);(try replace gZ2:=gZ2.bw hCZ3);have hlZ3:=hBZ3.size;(try have mZ1:=gZ1.lt);(try have eZ1:=Nat.ne_of_lt mZ1);(try have eZ1':=Nat.ne_of_gt mZ1);(try obtain ⟨zZ10,zZ11,zZ12,zZ13,zZ14,zZ15⟩:=gZ1);(try have mZ2:=gZ2.lt);(try have eZ2:=Nat.ne_of_lt mZ2);(try have eZ2':=Nat.ne_of_gt mZ2);(try obtain ⟨zZ20,zZ21,zZ22,zZ23,zZ24,zZ25⟩:=gZ2);(try have mZ3:=gZ3.lt);(try have eZ3:=Nat.ne_of_lt mZ3);(try have eZ3':=Nat.ne_of_gt mZ3);(try obtain ⟨zZ30,zZ31,zZ32,zZ33,zZ34,zZ35⟩:=gZ3))
    | (go_at_call 19;have hq:=hBZ1;refine (zEX (b:=B+64) _ (by first|exact (jO _ (by omega) (by omega)).trans (by omega)|omega) _ pa qa Y hr hg).mono ?_;rintro r wZ2 ⟨lo2,hi2,ia2,vZ2,rfl,hvbZ2,hZZ2,hbZ2⟩;have HG2:=zC ia2;clear hvbZ2 ia2;have hCZ2:Below wZ1.heap.size wZ1 wZ2:=(by with_reducible first|exact hbZ2|exact zB (bl1 _ _) hbZ2);have hBZ2:=zB hBZ1 hCZ2;(try with_reducible have gZ2:=(zO wZ1 36).bw hbZ2);(try replace gZ1:=gZ1.bw hCZ2);have hlZ2:=hBZ2.size)
    | (go_at_call 136;refine (zJQ _ x B J pa qa X ((zA ST3).b.xp.bw (by with_reducible first|exact (Below.refl _ _).drew|exact (bl1 _ _).drew)) (by omega) X0 (zA HXB) (zA HJ).1 (zA HJ).2 (by omega) p0 q0' (by omega) (by omega)).mono ?_;rintro r wZ1 ⟨lo1,hi1,l1,gl1,ia1,vZ1,rfl,hvbZ1,hZZ1,hbZ1⟩;have HVBZ1:=zC hvbZ1;have HG1:=zC (And.intro gl1 ia1);clear hvbZ1 gl1 ia1;have hBZ1:Below V3.heap.size V3 wZ1:=(by with_reducible first|exact zB (Below.refl _ _).drew hbZ1|exact zB (bl1 _ _).drew hbZ1);(try with_reducible have gZ1:=((zO V3 36).bw (Below.refl _ _).drew).bw hbZ1);have hlZ1:=hBZ1.size))
  all_goals
   have hfinZ:SpAt wZ3 vZ3 70001 (yH (byI (lo1,hi1) pa qa) (lo2,hi2)).1 (yH (byI (lo1,hi1) pa qa) (lo2,hi2)).2:=hZZ3;go_wp2_with fail;go_meet;refine ⟨_,vZ3,(lo1,hi1),(lo2,hi2),l1,rfl,⟨zA HG1,zA HG2⟩,?_,⟨⟨?_,?_,?_,?_,?_⟩,?_⟩,?_,(zA HVBZ3),?_⟩
   ·first|exact Nat.le_refl _|exact hlZ1|exact hlZ2|exact hlZ3
   ·simp[go_sem, *]
   ·simp[go_sem, *]
   ·simp[go_sem, *]
   ·simp[go_sem, *]
   ·simp[go_sem, *]
   ·intro o;simp[go_sem, *]
   ·first|with_reducible exact SpAt.put5 hfinZ zZ30 zZ31 zZ32 zZ33 zZ34 _ _ _ _ _|with_reducible exact SpAt.put5 hfinZ zZ20 zZ21 zZ22 zZ23 zZ24 _ _ _ _ _|with_reducible exact SpAt.put5 hfinZ zZ10 zZ11 zZ12 zZ13 zZ14 _ _ _ _ _|with_reducible exact hfinZ.bw (bl1 _ _)
   ·repeat' (first|with_reducible exact hBZ3|with_reducible exact hBZ2|with_reducible exact hBZ1|with_reducible exact Below.refl _ _|with_reducible refine Below.drew ?_|with_reducible refine zK ?_ _|with_reducible refine Below.setCell ?_ (by first|exact Nat.le_refl _|exact hlZ1|exact hlZ2|exact hlZ3) _)
 case rest =>
 obtain ⟨BZ,xZ,a1,a2,l1,rfl,hLL,hHZ,XZ,hpZ,hxbZ,hblZ⟩:=hcut;have st:=(zA ST3).bw hblZ;have HY4:=zC (And.intro (show Iv (B+64) ((yH (byI a1 pa qa) a2).1,(yH (byI a1 pa qa) a2).2) (fun M=>(pa:Rat)/(qa:Rat)*L ((X:Rat)/(Q B:Rat)) M-Y M) from lo_arg hL q0' (zA HXP) hLL.1.1 hLL.1.2.1 hLL.2.1) (show Abs ((yH (byI a1 pa qa) a2).1,(yH (byI a1 pa qa) a2).2) (91000*Q (B+64)) from lo_abs (m:=0) p0 q0' (zA HH).pq hJ hLL.1.2.1.le hLL.1.2.2 hLL.2.2))
 have HPZ:=zC hpZ;have HBZ:=zC hxbZ;have HK21:=zC (show ∀ w',Below wc.heap.size wc w'→(w'.cell? ⟨BZ,0,none⟩=some (.bool xZ.ln)∧w'.cell? ⟨BZ,1,none⟩=some (.slice xZ.la xZ.lN xZ.lc)∧w'.cell? ⟨BZ,2,none⟩=some (.bool xZ.hn)∧w'.cell? ⟨BZ,3,none⟩=some (.slice xZ.ha xZ.hN xZ.hc)∧w'.cell? ⟨BZ,4,none⟩=some (.int .i64 xZ.bits)∧w'.cell? ⟨CU,0,none⟩=some (.bool v3.ln)∧w'.cell? ⟨CU,1,none⟩=some (.slice v3.la v3.lN v3.lc)∧w'.cell? ⟨CU,2,none⟩=some (.bool v3.hn)∧w'.cell? ⟨CU,3,none⟩=some (.slice v3.ha v3.hN v3.hc)∧w'.cell? ⟨CU,4,none⟩=some (.int .i64 v3.bits)) from fun w' hB=>⟨(XZ.bw hB).c.c0,(XZ.bw hB).c.c1,(XZ.bw hB).c.c2,(XZ.bw hB).c.c3,(XZ.bw hB).c.c4,(st.s.bw hB).c.c0,(st.s.bw hB).c.c1,(st.s.bw hB).c.c2,(st.s.bw hB).c.c3,(st.s.bw hB).c.c4⟩)
 have hD0:Below wc.heap.size wc wc.drew:=(Below.refl _ _).drew;have R:=st.b.no;have hBE:=st.b.be;have lR:=R.lt;have l2:=st.l2;have nR1:w.heap.size+1+1≠BZ:=by omega
 have nR2:w.heap.size+1+1≠CU:=by omega
 have lZ:=XZ.lt;have lS:=st.s.lt;have HST:=zC st;clear st hLL hpZ hxbZ XZ HK20 ST3 hblZ hHZ lRR;go_wp2_with fail;obtain ⟨x0,x1,x2,x3,x4,y0,y1,y2,y3,y4⟩:=zA HK21 _ (Below.refl _ _)
 go_region_held3 (fun w'=>w'.cell? ⟨BZ,0,none⟩=some (.bool xZ.ln)∧w'.cell? ⟨BZ,1,none⟩=some (.slice xZ.la xZ.lN xZ.lc)∧w'.cell? ⟨BZ,2,none⟩=some (.bool xZ.hn)∧w'.cell? ⟨BZ,3,none⟩=some (.slice xZ.ha xZ.hN xZ.hc)∧w'.cell? ⟨BZ,4,none⟩=some (.int .i64 xZ.bits)∧w'.cell? ⟨CU,0,none⟩=some (.bool v3.ln)∧w'.cell? ⟨CU,1,none⟩=some (.slice v3.la v3.lN v3.lc)∧w'.cell? ⟨CU,2,none⟩=some (.bool v3.hn)∧w'.cell? ⟨CU,3,none⟩=some (.slice v3.ha v3.hN v3.hc)∧w'.cell? ⟨CU,4,none⟩=some (.int .i64 v3.bits)) (first|exact zA HK21 _ (by with_reducible first|exact hD0|exact hD5|exact hD4|exact hD3|exact hD2|exact hD1)|go_keep)
  (first
   | (go_at_call 55;have hqq:=hD4;refine (zPE _ f4 587523 B l4 u4 hZ4 (zA F4) (by omega) (by omega) (by omega)).mono ?_;rintro r' g5 ⟨f5,rfl,hvb5,hZ5,hg5⟩;have F5:=zC hvb5;clear hvb5;have hD5:=zB hD4 hg5;obtain ⟨q0,q1,q2,q3,q4,q5⟩:=R.bw hD5)
   | (go_at_call 90;have hqq:=hD3;refine (zFY _ _ f3 525018 m B _ _ _ rfl hZ3 (zA F3) (by omega) (by omega) (by omega) (show Iv m ((kJ m (l2',u2) (jJ (rsT pa qa X B m N) (-2,2))).1,(kJ m (l2',u2) (jJ (rsT pa qa X B m N) (-2,2))).2) _ from zA HREF _ (zA HI2))).mono ?_;rintro r' g4 ⟨l4,u4,i4,f4,rfl,hvb4,hZ4,hg4⟩;have F4:=zC hvb4;have HI4:=zC i4;clear hvb4 i4;have hD4:=zB hD3 hg4)
   | (go_at_call 52;have hqq:=hD2;refine (yO _ f2 v3 262505 m (l2',u2) (jJ (rsT pa qa X B m N) (-2,2)) hZ2 (((zA HST).sp.bw hD2).mono (by omega)) (by omega) (zA F2) (by omega)).mono ?_;rintro r' g3 ⟨f3,rfl,hvb3,hZ3,hg3⟩;have F3:=zC hvb3;clear hvb3;have hD3:=zB hD2 hg3)
   | (go_at_call 90;have hqq:=hD1;refine (zFY _ _ f1 200000 (B+64+i1) m l1' u1 _ (zA HM) hZ1 (zA F1) (by omega) (by omega) (by omega) (zA HI1)).mono ?_;rintro r' g2 ⟨l2',u2,i2,f2,rfl,hvb2,hZ2,hg2⟩;have F2:=zC hvb2;have HI2:=zC i2;clear hvb2 i2;have hD2:=zB hD1 hg2)
   | (go_at_call 137;refine (zMK _ xZ 70001 (B+64) _ _ _ ((zA HPZ).bw hD0) (zA HBZ) (by omega) (by omega) (by omega) (zA HY4).1 (zA HY4).2).mono ?_;rintro r' g1 ⟨i1,l1',u1,hi1,ii1,f1,rfl,hvb1,hZ1,hg1⟩;have F1:=zC hvb1;have HI1:=zC ii1;clear hvb1 ii1;have hD1:=zB hD0 hg1))
 all_goals
  have HOK:=zC (lo_end hL p0 q0' X0 ig (zA HI4));go_wp2_with fail;refine bodyPost_ret (v:=.agg #[.bool f5.ln,.slice f5.la f5.lN f5.lc,.bool f5.hn,.slice f5.ha f5.hN f5.hc,.int .i64 f5.bits]) (by simp[results,Tryz.results71,go_sem,q0,q1,q2,q3,q4]) rfl ⟨_,_,zA HOK,f5,rfl,zA F5,?_,?_⟩
  ·exact SpAt.put5 (hZ5.mono (by omega)) q0 q1 q2 q3 q4 _ _ _ _ _
  ·exact jV (zB hBE hD5) (by omega) _ _ _ _ _
theorem Null.of_zero {f:Nat→Rat} (h:∀ M,f M=0):Null f:=fun e he=>⟨0,fun M _=>by rw[h M];constructor <;> grind⟩
theorem ofI_near {n d:Int} (d0:0<d) (B:Nat):((ofI n d B).1:Rat)/(Q B:Rat)≤(n:Rat)/(d:Rat)∧(n:Rat)/(d:Rat)≤((ofI n d B).2:Rat)/(Q B:Rat):=by
 have qB:=zG B;have QR:=zV B;have dr:(0:Rat)<(d:Rat):=by exact_mod_cast d0
 have f:(ofI n d B).1*d≤n*Q B:=Int.ediv_mul_le _ (by omega)
 have c:n*Q B≤(ofI n d B).2*d:=zAW (n*Q B) d0;constructor
 ·refine jS QR ?_
  refine Rat.le_of_mul_le_mul_right (c:=(d:Rat)) ?_ dr;have k:=zW f;rw[Rat.intCast_mul,Rat.intCast_mul] at k;have r:=rdm (a:=(n:Rat)) dr;have e:(n:Rat)/(d:Rat)*(Q B:Rat)*(d:Rat)=(n:Rat)/(d:Rat)*(d:Rat)*(Q B:Rat):=by grind
  rw[e,r];exact k
 ·refine jS dr ?_
  refine Rat.le_of_mul_le_mul_right (c:=(Q B:Rat)) ?_ QR;have k:=zW c;rw[Rat.intCast_mul,Rat.intCast_mul] at k;have r:=rdm (a:=((ofI n d B).2:Rat)) QR;have e:((ofI n d B).2:Rat)/(Q B:Rat)*(d:Rat)*(Q B:Rat)=((ofI n d B).2:Rat)/(Q B:Rat)*(Q B:Rat)*(d:Rat):=by grind
  rw[e,r];exact k
theorem lo_of {L:Rat→Nat→Rat} (hL:Lns L) {pa qa n d:Int} {B:Nat} {g:Nat→Rat} {l1 u1 l2 u2:Int} (p0:0<pa) (q0:0<qa) (n0:0≤n) (d0:0<d) (ig:IsGam L ((pa:Rat)/(qa:Rat)) g) (h1:RlOk L pa qa (ofI n d B).1 B g l1 u1) (h2:RlOk L pa qa (ofI n d B).2 B g l2 u2):Iv B (l1,u2) (lwX L pa qa n d g):=by
 have pr:(0:Rat)<(pa:Rat):=by exact_mod_cast p0
 have qr:(0:Rat)<(qa:Rat):=by exact_mod_cast q0
 have dr:(0:Rat)<(d:Rat):=by exact_mod_cast d0
 have a0:=zL pr qr;have QR:=zV B;have qB:=zG B;obtain ⟨k1,k2⟩:=ofI_near (n:=n) d0 B
 by_cases hn:n=0
 ·subst hn
  have e1:(ofI 0 d B).1=0:=by show 0*Q B/d=0;rw[Int.zero_mul,Int.zero_ediv]
  have e2:(ofI 0 d B).2=0:=by show -(-(0*Q B)/d)=0;rw[Int.zero_mul,Int.neg_zero,Int.zero_ediv];rfl
  rw[(h1.z e1).1,(h2.z e2).2];unfold lwX;rw[if_pos rfl];have k:=zGR B 0;refine k.congr ?_;have:(((0:Int):Rat)/(Q B:Rat))=0:=by have r:=rdm (a:=((0:Int):Rat)) QR;exact zU (c:=(Q B:Rat)) QR (by have:((0:Int):Rat)=0:=rfl;grind)
  refine Null.of_zero fun M=>?_
  rw[this];grind
 ·have nr:(0:Rat)<(n:Rat):=by exact_mod_cast (show 0<n by omega)
  have x0:=zL nr dr
  have hi0:0<(ofI n d B).2:=by
   have c:n*Q B≤(ofI n d B).2*d:=zAW (n*Q B) d0;have p:=Int.mul_pos (show 0<n by omega) (show 0<Q B by omega)
   refine Int.not_le.1 fun hh=>?_
   have:=Int.mul_le_mul_of_nonneg_right hh (show 0≤d by omega)
   omega
  have lo0:0≤(ofI n d B).1:=Int.ediv_nonneg (Int.mul_nonneg n0 (by omega)) (by omega)
  unfold lwX;rw[if_neg hn];have m2:=zND hL a0 x0 k2 ig
  by_cases hl:(ofI n d B).1=0
  ·rw[(h1.z hl).1]
   obtain ⟨N0,hN0⟩:=lw_nn hL a0 x0 ig;have zz:(((0:Int):Rat)/(Q B:Rat))=0:=by exact zU (c:=(Q B:Rat)) QR (by have r:=rdm (a:=((0:Int):Rat)) QR;have:((0:Int):Rat)=0:=rfl;grind)
   have z1:LeN (fun _=>(((0:Int):Rat)/(Q B:Rat))) (lw L ((pa:Rat)/(qa:Rat)) ((n:Rat)/(d:Rat)) g):=LeN.of_le N0 fun M hM=>by
    have h0:=hN0 M hM;rw[zz];exact h0
   have g2:=h2.iv hi0;have r:=zCM (a:=(0,0)) (c:=(l2,u2)) (zGR B 0) g2 z1 m2;exact r
  ·have lr:(0:Rat)<((ofI n d B).1:Rat):=by exact_mod_cast (show 0<(ofI n d B).1 by omega)
   have g1:=h1.iv (by omega)
   have g2:=h2.iv hi0;have m1:=zND hL a0 (zL lr QR) k1 ig;have r:=zCM (a:=(l1,u1)) (c:=(l2,u2)) g1 g2 m1 m2;exact r
theorem zKH {L G:Rat→Nat→Rat} {Xs:Int→Int→Nat→Rat} (hE:zIP L G Xs) (z:Int) (w:World) (x:Nm) (pa qa X:Int) (B:Nat) (hx:IntAt w x.neg x.a x.n x.cap 100 X) (hz:z=(B:Int)) (b0:40≤B) (b1:B≤200) (hr:rok pa qa) (p0:0<pa) (pq:pa≤100*qa) (X0:0≤X) :
  Calls Tryz.prog 71 #[.agg #[.int .i64 pa,.int .i64 qa],.agg #[.bool x.neg,.slice x.a x.n x.cap],.int .i64 z] w (fun r w'=>∃ lo hi,RlOk L pa qa X B (gmV pa qa (G (gA pa qa))) lo hi∧zH w B 600000 lo hi r w'):=by
 subst hz;have hL:=hE.lns;obtain ⟨r1,r2,r3,r4⟩:=id hr;have q0:0<qa:=by omega
 have hS:StIn pa qa:=⟨p0,q0,by omega,by omega⟩
 have ig:=zCF hE hS;have qB:=zG B
 by_cases h0:X=0
 ·exact zGK L _ w x pa qa X B hx (by omega) h0
 by_cases hf:X≤2*(ofI pa qa B).2+(2*(B:Int)+41)*Q B
 ·have o:(ofI pa qa B).2≤100*Q B:=by
   show -(-(pa*Q B)/qa)≤100*Q B
   have k:=Int.mul_le_mul_of_nonneg_right pq (show 0≤Q B by omega)
   have : -(100*Q B) ≤ -(pa*Q B)/qa:=(Int.le_ediv_iff_mul_le q0).2 (by
    have e : -(100*Q B)*qa = -(100*qa*Q B):=by grind
    rw[e];omega)
   omega
  obtain ⟨wh,hwh⟩:∃ wh:Nat,X/Q B=(wh:Int):=⟨(X/Q B).toNat,by have:=Int.ediv_nonneg X0 (show 0≤Q B by omega);omega⟩
  have hm:X≤(2*(B:Int)+241)*Q B:=by
   have e:(2*(B:Int)+241)*Q B=200*Q B+(2*(B:Int)+41)*Q B:=by grind
   omega
  have hw:wh≤2*B+242:=by
   have:X/Q B≤2*(B:Int)+241:=Int.ediv_le_of_le_mul (by omega) hm
   omega
  have h:zFN pa qa X B (2*B+4*wh+160) wh:=⟨p0,q0,pq,by omega,by omega,hwh,hw,rfl,b0,b1⟩
  obtain ⟨N,n1,n2,n3⟩:=rw_ends h
  have e1:X<Q B*Q (B+1):=by
   have k1:=Int.mul_le_mul_of_nonneg_right (show 2*(B:Int)+241≤1023 by omega) (show 0≤Q B by omega)
   have k2:=zJ (show 10≤B+1 by omega)
   have k3:Q 10=1024:=rfl;have k4:=Int.mul_le_mul_of_nonneg_left (show 1024≤Q (B+1) by omega) (show 0≤Q B by omega)
   omega
  have e2:Q B≤X*Q B:=by
   have:=Int.mul_le_mul_of_nonneg_right (show 1≤X by omega) (show 0≤Q B by omega)
   omega
  exact zGQ L _ (Xs pa qa) w x pa qa X B hx _ wh N B hL ig (hE.lg pa qa hS) (refLh_of hE hS (by omega) (by omega)) hr h hf n1 n2 n3 e2 e1 b1
 ·exact zHX L _ w x pa qa X B hx hL (by omega) (by omega) p0 hr (by omega) ig (by omega)
theorem zL5 {L G:Rat→Nat→Rat} {Xs:Int→Int→Nat→Rat} (hE:zIP L G Xs) (w:World) (s:Sp) (pa qa n d:Int) (B:Nat) (hs:SpAt w s 100 (ofI n d B).1 (ofI n d B).2) (hbits:s.bits=(B:Int)) (b0:40≤B) (b1:B≤200) (hr:rok pa qa) (p0:0<pa) (pq:pa≤100*qa) (n0:0≤n) (d0:0<d) :
  Calls Tryz.prog 25 #[.agg #[.int .i64 pa,.int .i64 qa],.agg #[.bool s.ln,.slice s.la s.lN s.lc,.bool s.hn,.slice s.ha s.hN s.hc,.int .i64 s.bits]] w (fun r w'=>∃ lo hi,(Iv B (lo,hi) (lwX L pa qa n d (gmV pa qa (G (gA pa qa))))∧0≤lo∧hi≤Q B)∧zH w B 600000 lo hi r w'):=by
 obtain ⟨W,hW⟩:∃ W,W=((w.alloc (.cells #[.int .i64 pa,.int .i64 qa] 23)).alloc (.cells #[.bool s.ln,.slice s.la s.lN s.lc,.bool s.hn,.slice s.ha s.hN s.hc,.int .i64 s.bits] 36)).alloc (.cells #[.bool false,.slice none 0 0,.bool false,.slice none 0 0,.int .i64 0] 36):=⟨_,rfl⟩;have hBW:Below w.heap.size w W:=by rw[hW];exact bl3 _ _ _ _
 have A:RaC W w.heap.size pa qa:=by rw[hW];constructor <;> simp[go_sem]
 have D:SpC W (w.heap.size+1) s:=by rw[hW];constructor <;> simp[go_sem]
 have R:NoC W (w.heap.size+1+1):=by rw[hW];constructor <;> simp[go_sem]
 have HS:=zC (hs.bw hBW);have HB:=zC hbits;have lA:=A.lt;have lD:=D.lt;have lR:=R.lt;have HK:=zC (show ∀ w',Below W.heap.size W w'→(w'.cell? ⟨w.heap.size,0,none⟩=some (.int .i64 pa)∧w'.cell? ⟨w.heap.size,1,none⟩=some (.int .i64 qa)∧w'.cell? ⟨w.heap.size+1,0,none⟩=some (.bool s.ln)∧w'.cell? ⟨w.heap.size+1,1,none⟩=some (.slice s.la s.lN s.lc)∧w'.cell? ⟨w.heap.size+1,2,none⟩=some (.bool s.hn)∧w'.cell? ⟨w.heap.size+1,3,none⟩=some (.slice s.ha s.hN s.hc)∧w'.cell? ⟨w.heap.size+1,4,none⟩=some (.int .i64 s.bits)) from fun w' hB=>⟨(A.bw hB).c0,(A.bw hB).c1,(D.bw hB).c0,(D.bw hB).c1,(D.bw hB).c2,(D.bw hB).c3,(D.bw hB).c4⟩)
 have qB:=zG B;have lo0:0≤(ofI n d B).1:=Int.ediv_nonneg (Int.mul_nonneg n0 (by omega)) (by omega)
 have le0:=zDA (n:=n) d0 B;have HL0:=zC (And.intro lo0 (show 0≤(ofI n d B).2 by omega))
 have HRR:=zC hr;have HBB:=zC (And.intro b0 b1);have HPP:=zC (And.intro p0 (And.intro pq (And.intro n0 d0)));clear hs hbits A D lo0 le0 hr b0 b1 p0 pq n0 d0 qB
 go_enter Tryz.func25,Tryz.ntmps25
 go_wp2_with fail;rw[← hW];clear hW;have n1:w.heap.size+1+1≠w.heap.size:=by omega
 have n2:w.heap.size+1+1≠w.heap.size+1:=by omega
 obtain ⟨x0,x1,x2,x3,x4,x5,x6⟩:=zA HK _ (Below.refl _ _);have hD0:Below W.heap.size W W.drew:=(Below.refl _ _).drew;have hf0:=zCA;have hf1:=zGP
 go_region_held3 (fun w'=>w'.cell? ⟨w.heap.size,0,none⟩=some (.int .i64 pa)∧w'.cell? ⟨w.heap.size,1,none⟩=some (.int .i64 qa)∧w'.cell? ⟨w.heap.size+1,0,none⟩=some (.bool s.ln)∧w'.cell? ⟨w.heap.size+1,1,none⟩=some (.slice s.la s.lN s.lc)∧w'.cell? ⟨w.heap.size+1,2,none⟩=some (.bool s.hn)∧w'.cell? ⟨w.heap.size+1,3,none⟩=some (.slice s.ha s.hN s.hc)∧w'.cell? ⟨w.heap.size+1,4,none⟩=some (.int .i64 s.bits)) (first|exact zA HK _ (by with_reducible first|exact hD0|exact hD2|exact hD1)|go_keep)
  (first
   | (go_at_call 71;have hqq:=hD1;refine (zKH hE _ _ ⟨s.hn,s.ha,s.hN,s.hc⟩ pa qa (ofI n d B).2 B ((zA HS).hi.bw hD1) (zA HB) (zA HBB).1 (zA HBB).2 (zA HRR) (zA HPP).1 (zA HPP).2.1 (zA HL0).2).mono ?_;rintro r' w2 ⟨lo2,hi2,k2,v2,rfl,hvb2,hZ2,hb2⟩;have hD2:=zB hD1 hb2;have HG2:=zC k2;clear hvb2 k2;replace hZ1:=hZ1.bw hb2;obtain ⟨q0,q1,q2,q3,q4,q5⟩:=R.bw hD2)
   | (go_at_call 71;refine (zKH hE _ _ ⟨s.ln,s.la,s.lN,s.lc⟩ pa qa (ofI n d B).1 B ((zA HS).lo.bw hD0) (zA HB) (zA HBB).1 (zA HBB).2 (zA HRR) (zA HPP).1 (zA HPP).2.1 (zA HL0).1).mono ?_;rintro r' w1 ⟨lo1,hi1,k1,v1,rfl,hvb1,hZ1,hb1⟩;have hD1:=zB hD0 hb1;have HG1:=zC k1;clear hvb1 k1))
 all_goals
  have HO:=zC (show Iv B (lo1,hi2) (lwX L pa qa n d (gmV pa qa (G (gA pa qa))))∧0≤lo1∧hi2≤Q B from ⟨lo_of hE.lns (zA HPP).1 (by have:=(zA HRR).2.2.1;omega) (zA HPP).2.2.1 (zA HPP).2.2.2 (zCF hE ⟨(zA HPP).1,by have:=(zA HRR).2.2.1;omega,by have:=(zA HRR).2.2.2;omega,by have:=(zA HPP).2.1;have:=(zA HRR).2.2.1;omega⟩) (zA HG1) (zA HG2),(zA HG1).l0,(zA HG2).h1⟩)
  go_wp2_with fail;refine bodyPost_ret (v:=.agg #[.bool v1.ln,.slice v1.la v1.lN v1.lc,.bool v2.hn,.slice v2.ha v2.hN v2.hc,.int .i64 s.bits]) (by simp[results,Tryz.results25,go_sem,q0,q1,q2,q3,q4]) rfl ⟨lo1,hi2,zA HO,⟨v1.ln,v1.la,v1.lN,v1.lc,v2.hn,v2.ha,v2.hN,v2.hc,s.bits⟩,rfl,zA HB,?_,?_⟩
  ·exact SpAt.put5 (show SpAt _ (⟨v1.ln,v1.la,v1.lN,v1.lc,v2.hn,v2.ha,v2.hN,v2.hc,s.bits⟩:Sp) _ lo1 hi2 from ⟨hZ1.lo,hZ2.hi⟩) q0 q1 q2 q3 q4 _ _ _ _ _
  ·exact jV (zB hBW hD2) (by omega) _ _ _ _ _
end Go.Proofs.YtgmnknmjainababGreat
