/-
  Its own texts.
-/
import Derived.Test.YtgmnknmjainababGreatK22
set_option maxRecDepth 100000
set_option maxHeartbeats 8000000
set_option linter.unnecessarySimpa false
set_option linter.unusedSimpArgs false
set_option linter.unusedVariables false
namespace Go.Proofs.YtgmnknmjainababGreat
open Go.RowKit
attribute [local go_sem ↓] Go.wp_at_zero Go.wp_at_succ
structure LgSt (w wr:World) (X Y:Nm) (k:Nat) (n d:Int):Prop where
 x:NmC wr w.heap.size X
 fx:∀ o,wr.frozen? ⟨w.heap.size,o,none⟩=false
 y:NmC wr (w.heap.size+1) Y
 fy:∀ o,wr.frozen? ⟨w.heap.size+1,o,none⟩=false
 ix:IntAt wr X.neg X.a X.n X.cap k n
 iy:IntAt wr Y.neg Y.a Y.n Y.cap k d
 no:NoC wr (w.heap.size+1+1)
 be:Below w.heap.size w wr
theorem LgSt.bw {w wr wr':World} {X Y:Nm} {k:Nat} {n d:Int} (h:LgSt w wr X Y k n d) (hb:Below wr.heap.size wr wr'):LgSt w wr' X Y k n d :=
 ⟨h.x.bw hb,fun o=>(hb.frozen (p:=⟨w.heap.size,o,none⟩) h.x.lt).trans (h.fx o),h.y.bw hb,fun o=>(hb.frozen (p:=⟨w.heap.size+1,o,none⟩) h.y.lt).trans (h.fy o),h.ix.bw hb,h.iy.bw hb,h.no.bw hb,zB h.be hb⟩
theorem NoC.offN {w:World} {B B':Nat} (h:NoC w B) (hne:B≠B') (u0 u1:Value):NoC ((w.setCell ⟨B',0,none⟩ u0).setCell ⟨B',1,none⟩ u1) B:=by
 obtain ⟨q0,q1,q2,q3,q4,q5⟩:=h;exact ⟨by simp[go_sem,q0,hne,Ne.symm hne],by simp[go_sem,q1,hne,Ne.symm hne],by simp[go_sem,q2,hne,Ne.symm hne],by simp[go_sem,q3,hne,Ne.symm hne],by simp[go_sem,q4,hne,Ne.symm hne],zAT q5 _ _⟩
theorem LgSt.putX {w wr:World} {X Y Z:Nm} {k:Nat} {n d m:Int} (h:LgSt w wr X Y k n d) (hz:IntAt wr Z.neg Z.a Z.n Z.cap k m) :
  LgSt w ((wr.setCell ⟨w.heap.size,0,none⟩ (.bool Z.neg)).setCell ⟨w.heap.size,1,none⟩ (.slice Z.a Z.n Z.cap)) Z Y k m d :=
 ⟨zFJ h.x Z,zAT h.fx _ _,h.y.off (by omega) _ _,zAT h.fy _ _,hz.put2 h.x.c0 h.x.c1 _ _,h.iy.put2 h.x.c0 h.x.c1 _ _,h.no.offN (by omega) _ _,zDN h.be (Nat.le_refl _) _ _⟩
theorem LgSt.putY {w wr:World} {X Y Z:Nm} {k:Nat} {n d m:Int} (h:LgSt w wr X Y k n d) (hz:IntAt wr Z.neg Z.a Z.n Z.cap k m) :
  LgSt w ((wr.setCell ⟨w.heap.size+1,0,none⟩ (.bool Z.neg)).setCell ⟨w.heap.size+1,1,none⟩ (.slice Z.a Z.n Z.cap)) X Z k n m :=
 ⟨h.x.off (by omega) _ _,zAT h.fx _ _,zFJ h.y Z,zAT h.fy _ _,h.ix.put2 h.y.c0 h.y.c1 _ _,hz.put2 h.y.c0 h.y.c1 _ _,h.no.offN (by omega) _ _,zDN h.be (Nat.le_succ _) _ _⟩
theorem zD3 (x y:Nm) (k k2 b:Nat) (n d:Int) (w:World) (h1:IntAt w x.neg x.a x.n x.cap k n) (h2:IntAt w y.neg y.a y.n y.cap k2 d) (hk:k≤600000000) (hk2:k2≤100000000) (hb:b≤100000) (hy:0<d) :
  Calls Tryz.prog 54 #[.agg #[.bool x.neg,.slice x.a x.n x.cap],.agg #[.bool y.neg,.slice y.a y.n y.cap],.int .i64 b] w (zH w b (k+b/16+14) (ofI n d b).1 (ofI n d b).2) :=
 zBO _ _ _ _ _ _ _ _ k k2 b n d _ h1 h2 (by omega) (by omega) hb hy (fun neg' a' n' cap' w' p1 p2=>kO _ _ _ _ _ _ _ _ _ k2 _ _ w' p1 p2 (by omega) hy)
theorem zJV {n d:Int} (b:Nat) (hd:0<d) (h1:d≤n) (h2:n<2*d):Q b≤(ofI n d b).1∧(ofI n d b).1≤(ofI n d b).2∧(ofI n d b).2≤2*Q b:=by
 have q:=zG b;have g1:=Int.mul_le_mul_of_nonneg_right h1 (show 0≤Q b by omega)
 have g2:=Int.mul_le_mul_of_nonneg_right (show n≤2*d by omega) (show 0≤Q b by omega)
 have e1:d*Q b=Q b*d:=Int.mul_comm _ _;have e2:2*d*Q b=2*Q b*d:=by grind
 refine ⟨?_,(Iv.of b hd).le,?_⟩
 ·show Q b≤n*Q b/d
  exact Int.le_ediv_of_mul_le hd (by omega)
 ·show -(-(n*Q b)/d)≤2*Q b
  have : -(2*Q b) ≤ -(n*Q b)/d:=Int.le_ediv_of_mul_le hd (by rw[Int.neg_mul];omega)
  omega
theorem cge {x y:Int} (h:y≤x):0≤zF x y:=by unfold zF;rw[if_neg (by omega)];split <;> omega
theorem clt {x y:Int} (h:x<y):zF x y<0:=by unfold zF;rw[if_pos h];omega
theorem iv_exp {b:Nat} {n d:Int} (hd:0<d) {l:Nat→Rat} (hl:Ex.IsLog l (fun _=>(n:Rat)/(d:Rat))):Iv b (ofI n d b) (Ex.Ev l):=(Iv.of b hd).congr hl.2
theorem whole_iv {b:Nat}:Iv b (2*Q b,2*Q b) (Ex.Ev (fun M=>2*Ex.Az (zR 2 1) M)):=by
 have h:=(Iv.of b (n:=2) (d:=1) (by decide))
 have e:ofI 2 1 b=(2*Q b,2*Q b):=by unfold ofI;simp only[Int.ediv_one,Int.neg_neg]
 rw[e] at h;refine h.congr ((isLog_two.2).of_eq fun M=>?_)
 have e2:((2:Int):Rat)/((1:Int):Rat)=2:=by decide +kernel
 rw[e2]
theorem zM7 (w:World) (x y:Nm) (k b J:Nat) (n d:Int) (hx:IntAt w x.neg x.a x.n x.cap k n) (hy:IntAt w y.neg y.a y.n y.cap k d) (hk:k≤10000000) (hb:b≤50000) (hn:0<n) (hd:0<d) (hnk:n<P k) (hdk:2*d<P k) (hJ1:d≤n*Q J) (hJ2:n<d*Q (J+1)) (hJ:J≤1000) :
  Calls Tryz.prog 124 #[.agg #[.bool x.neg,.slice x.a x.n x.cap],.agg #[.bool y.neg,.slice y.a y.n y.cap],.int .i64 b] w (fun r w'=>∃ (o:Int × Int) (l:Nat→Rat),Ex.IsLog l (fun _=>(n:Rat)/(d:Rat))∧Iv b o l∧Abs o (3*((J:Int)+1)*Q b)∧zH w b (b/16+10) o.1 o.2 r w'):=by
 obtain ⟨W,hW⟩:∃ W,W=((w.alloc (.cells #[.bool x.neg,.slice x.a x.n x.cap] 26)).alloc (.cells #[.bool y.neg,.slice y.a y.n y.cap] 26)).alloc (.cells #[.bool false,.slice none 0 0,.bool false,.slice none 0 0,.int .i64 0] 36):=⟨_,rfl⟩;have hBW:Below w.heap.size w W:=by rw[hW];exact bl3 _ _ _ _
 have st0:LgSt w W x y k (n*Q 0) d:=⟨by rw[hW];exact ⟨by simp[go_sem],by simp[go_sem]⟩,fun o=>by rw[hW];simp[go_sem],by rw[hW];exact ⟨by simp[go_sem],by simp[go_sem]⟩,fun o=>by rw[hW];simp[go_sem],by rw[show n*Q 0=n by show n*1=n;omega];exact hx.bw hBW,hy.bw hBW,by rw[hW];exact ⟨by simp[go_sem],by simp[go_sem],by simp[go_sem],by simp[go_sem],by simp[go_sem],fun o=>by simp[go_sem]⟩,hBW⟩
 clear hx hy hBW;obtain ⟨m,hm⟩:∃ m:Nat,(b:Int)+48=(m:Int):=⟨b+48,by omega⟩
 have HM:=zC (show m=b+48 by omega)
 have HJ:=zC (And.intro hJ1 hJ2);have HN:=zC (And.intro hn hd);have HK:=zC (And.intro hnk hdk);have HMB:=zC hm;have hm1:m≤100000:=by omega
 have hm2:48≤m:=by omega
 clear hJ1 hJ2 hn hd hnk hdk hm
 go_enter Tryz.func124,Tryz.ntmps124
 go_wp2_with fail;rw[← hW,zA HMB];clear hW
 go_loopw [8] (fun kk wr=>∃ (j:Nat) (X:Nm),kk=.int .i64 (-(j:Int))∧j≤J∧(j=0∨n*Q j<2*d)∧LgSt w wr X y k (n*Q j) d) (fun kk _=>J+1-(-(intOf kk)).toNat)
 case atStart=>exact ⟨0,x,rfl,by omega,Or.inl rfl,st0⟩
 case round =>
  obtain ⟨j,X,rfl,hj,hj2,st⟩:=hrel;clear st0;have HJ2:=zC hj2;clear hj2;have lX:=st.x.lt;have lY:=st.y.lt;obtain ⟨x0,x1⟩:=st.x;obtain ⟨y0,y1⟩:=st.y;go_wp2_with fail;refine (zS _ _ _ _ _ _ _ _ _ _ (n*Q j) d _ st.ix st.iy).mono ?_;rintro r w1 ⟨rfl,hb1⟩;replace st:=st.bw hb1;clear hb1 x0 x1 y0 y1 lX lY
  by_cases hlt:n*Q j<d
  ·have hc:=clt hlt
   have HLT:=zC hlt;have lX:=st.x.lt;have fx:=st.fx;obtain ⟨x0,x1⟩:=st.x;clear hlt;go_wp2_with fail;refine (zAS _ _ _ _ 1 k (n*Q j) _ st.ix (by omega) (by omega)).mono ?_
   rintro r w2 ⟨neg2,a2,n2,c2,rfl,hZ2,hb2⟩;replace st:=st.bw hb2;have hj3:=steps_lo (zA HN).1 (zA HLT) (zA HJ).1
   have he:n*Q j*Q 1=n*Q (j+1):=by
    have e1:Q 1=2:=rfl;have e2:Q (j+1)=2*Q j:=rfl;rw[e1,e2];grind
   have hlt2:n*Q (j+1)<2*d:=by
    have e1:Q 1=2:=rfl;have:=zA HLT;rw[← he,e1];omega
   have hpos:0<n*Q (j+1):=Int.mul_pos (zA HN).1 (by have:=zG (j+1);omega)
   rw[he] at hZ2;have stn:=st.putX (Z:=⟨neg2,a2,n2,c2⟩) (hZ2.fits (K:=k) (by have:=kN k;omega) (by have:=(zA HK).2;omega))
   have HST:=zC stn;have HS2:=zC hlt2;clear hb2 x0 x1 fx lX hc he hlt2 hpos stn;have lX:=st.x.lt;have fx:=st.fx;obtain ⟨x0,x1⟩:=st.x;go_wp2_with fail
   go_roundw
   case rel=>exact ⟨j+1,_,by go_num,by omega,Or.inr (zA HS2),zA HST⟩
   case measure=>simp[intOf];omega
  ·have hc:¬ zF (n*Q j) d<0:=fun h=>by have:=cge (Int.not_lt.1 hlt);omega
   have hge:=Int.not_lt.1 hlt;have HGE:=zC hge;clear hlt hge;go_wp2_with fail;clear hc;have st1:LgSt w w1 X y k (n*Q j) (d*Q 0):=by rw[show d*Q 0=d by show d*1=d;omega];exact st
   clear st
   go_loopw [8] (fun kk wr=>∃ (i:Nat) (Y:Nm),kk=.int .i64 ((i:Int)-(j:Int))∧i≤J∧(j=0∨i=0)∧d*Q i≤n*Q j∧LgSt w wr X Y k (n*Q j) (d*Q i)) (fun kk _=>J+1-(intOf kk+j).toNat)
   case atStart=>exact ⟨0,y,by go_num,by omega,Or.inr rfl,by rw[show d*Q 0=d by show d*1=d;omega];exact zA HGE,st1⟩
   case round =>
    obtain ⟨i,Y,rfl,hi,hi2,hle,st⟩:=hrel;clear st1;have HI:=zC (And.intro hi2 hle);clear hi2 hle;have e1:d*Q i*Q 1=2*(d*Q i):=by have e1:Q 1=2:=rfl;rw[e1];omega
    have HE1:=zC e1;clear e1;have HKr:=zC (show ∀ w',Below wr.heap.size wr w'→(w'.cell? ⟨w.heap.size,0,none⟩=some (.bool X.neg)∧w'.cell? ⟨w.heap.size,1,none⟩=some (.slice X.a X.n X.cap)∧w'.cell? ⟨w.heap.size+1,0,none⟩=some (.bool Y.neg)∧w'.cell? ⟨w.heap.size+1,1,none⟩=some (.slice Y.a Y.n Y.cap)) from fun w' hB=>⟨(st.x.bw hB).c0,(st.x.bw hB).c1,(st.y.bw hB).c0,(st.y.bw hB).c1⟩)
    have lX:=st.x.lt;have lY:=st.y.lt;obtain ⟨x0,x1,y0,y1⟩:=zA HKr _ (Below.refl _ _);have hD0:Below wr.heap.size wr wr.drew:=(Below.refl _ _).drew;have HST:=zC st;clear st
    by_cases hge:2*(d*Q i)≤n*Q j
    ·have hc:0≤zF (n*Q j) (d*Q i*Q 1):=by rw[zA HE1];exact cge hge
     have hc2:¬ zF (n*Q j) (d*Q i*Q 1)<0:=by omega
     have HGE2:=zC hge;clear hge;go_wp2_with fail
     go_region_held3 (fun w'=>w'.cell? ⟨w.heap.size,0,none⟩=some (.bool X.neg)∧w'.cell? ⟨w.heap.size,1,none⟩=some (.slice X.a X.n X.cap)∧w'.cell? ⟨w.heap.size+1,0,none⟩=some (.bool Y.neg)∧w'.cell? ⟨w.heap.size+1,1,none⟩=some (.slice Y.a Y.n Y.cap)) (first|exact zA HKr _ (by with_reducible first|exact hD0|exact hD2|exact hD1)|go_keep)
      (first
       | (go_at_call 46;have hq:=hD1;refine (zS _ _ _ _ _ _ _ _ _ _ (n*Q j) (d*Q i*Q 1) _ ((zA HST).ix.bw hD1) hZ1).mono ?_;rintro r' w3 ⟨rfl,hb3⟩;have hD2:=zB hD1 hb3)
       | (go_at_call 95;refine (zAS _ _ _ _ 1 k (d*Q i) _ ((zA HST).iy.bw hD0) (by omega) (by omega)).mono ?_;rintro r' w2 ⟨neg2,a2,n2,c2,rfl,hZ1,hb2⟩;have hD1:=zB hD0 hb2))
     all_goals
      have st:=(zA HST).bw hD2;have lY2:=st.y.lt;have fy:=st.fy;clear x0 x1 y0 y1 hZ1;obtain ⟨y0,y1⟩:=st.y;go_wp2_with fail;refine (zAS _ _ _ _ 1 k (d*Q i) _ st.iy (by omega) (by omega)).mono ?_
      rintro r w4 ⟨neg4,a4,n4,c4,rfl,hZ4,hb4⟩;replace st:=st.bw hb4;clear y0 y1 fy lY2
      have he:d*Q i*Q 1=d*Q (i+1):=by
       have e1:Q 1=2:=rfl;have e2:Q (i+1)=2*Q i:=rfl;rw[e1,e2];grind
      have hle2:d*Q (i+1)≤n*Q j:=by
       have:=zA HGE2;rw[← he,zA HE1];exact this
      have hj0:j=0:=by
       rcases zA HJ2 with h|h
       ·exact h
       ·have q1:=zG i
        have q2:=Int.mul_le_mul_of_nonneg_left (show 1≤Q i by omega) (show 0≤d by have:=(zA HN).2;omega)
        have:=zA HGE2;omega
      have hi3:i<J:=by
       have h1:=(zA HJ).2;have e0:n*Q j=n:=by rw[hj0];show n*1=n;omega
       refine Nat.lt_of_not_le fun hn'=>?_
       have:=Int.mul_le_mul_of_nonneg_left (zJ (show J+1≤i+1 by omega)) (show 0≤d by have:=(zA HN).2;omega)
       omega
      have hpos:0<d*Q (i+1):=Int.mul_pos (zA HN).2 (by have:=zG (i+1);omega)
      have hfit:d*Q (i+1)<P k:=by
       have h1:=(zA HK).1;have e0:n*Q j=n:=by rw[hj0];show n*1=n;omega
       omega
      rw[he] at hZ4;have stn:=st.putY (Z:=⟨neg4,a4,n4,c4⟩) (hZ4.fits (K:=k) (by have:=kN k;omega) hfit)
      have HSN:=zC stn;have HL2:=zC hle2;have HJ0:=zC hj0;clear stn hle2 hj0 he hpos hfit;have lY2:=st.y.lt;have fy:=st.fy;obtain ⟨y0,y1⟩:=st.y;go_wp2_with fail
      go_roundw
      case rel=>exact ⟨i+1,_,by go_num,by omega,Or.inl (zA HJ0),zA HL2,zA HSN⟩
      case measure=>simp[intOf];omega
    ·have hc2:zF (n*Q j) (d*Q i*Q 1)<0:=by rw[zA HE1];exact clt (by omega)
     have hc:¬ 0≤zF (n*Q j) (d*Q i*Q 1):=by omega
     have HLT2:=zC (Int.not_le.1 hge);clear hge;go_wp2_with fail
     go_region_held3 (fun w'=>w'.cell? ⟨w.heap.size,0,none⟩=some (.bool X.neg)∧w'.cell? ⟨w.heap.size,1,none⟩=some (.slice X.a X.n X.cap)∧w'.cell? ⟨w.heap.size+1,0,none⟩=some (.bool Y.neg)∧w'.cell? ⟨w.heap.size+1,1,none⟩=some (.slice Y.a Y.n Y.cap)) (first|exact zA HKr _ (by with_reducible first|exact hD0|exact hD2|exact hD1)|go_keep)
      (first
       | (go_at_call 46;have hq:=hD1;refine (zS _ _ _ _ _ _ _ _ _ _ (n*Q j) (d*Q i*Q 1) _ ((zA HST).ix.bw hD1) hZ1).mono ?_;rintro r' w3 ⟨rfl,hb3⟩;have hD2:=zB hD1 hb3)
       | (go_at_call 95;refine (zAS _ _ _ _ 1 k (d*Q i) _ ((zA HST).iy.bw hD0) (by omega) (by omega)).mono ?_;rintro r' w2 ⟨neg2,a2,n2,c2,rfl,hZ1,hb2⟩;have hD1:=zB hD0 hb2))
     all_goals
      have st:=(zA HST).bw hD2;have lX2:=st.x.lt;have lY2:=st.y.lt;have lR2:=st.no.lt;clear x0 x1 y0 y1 hZ1;obtain ⟨y0,y1⟩:=st.y;obtain ⟨x0,x1⟩:=st.x;have hpd:0<d*Q i:=Int.mul_pos (zA HN).2 (by have:=zG i;omega)
      have hbal:=zJ9 (zA HN).1 (zA HN).2 rfl rfl (zA HI).2 (zA HLT2) (zA HI).1;have hbt:=zJV m hpd (zA HI).2 (zA HLT2);have hl1:=zDC hbal.1;have HBAL:=zC hbal;have HBT:=zC hbt;have HL1:=zC hl1
      have hKK:Q (m+20)<P (m/16+20):=by
       rw[← Q_P];have h1:=zJ (show m+20+1≤16*(m/16+20) by omega)
       have h2:Q (m+20+1)=2*Q (m+20):=rfl;have:=zG (m+20);omega
      have h2K:2*Q m<P (m/16+20):=by
       have h1:=zJ (show m+1≤m+20 by omega)
       have h2:Q (m+1)=2*Q m:=rfl;omega
      have hqm:=zG m;have HKK:=zC hKK;have H2K:=zC h2K;clear hbal hbt hl1 hKK h2K;go_wp2_with fail;refine (zD3 X Y k k m (n*Q j) (d*Q i) _ st.ix st.iy (by omega) (by omega) hm1 hpd).mono ?_
      rintro r w5 ⟨v5,rfl,hvb5,hvp5,hb5⟩;replace st:=st.bw hb5;have HV5:=zC hvb5;replace hvp5:=hvp5.fits (K:=m/16+20) (zA HBT).2.1 (by have:=(zA HBT).1;have:=kN (m/16+20);omega) (by have:=(zA HBT).2.2;have:=zA H2K;omega)
      clear hb5 hvb5 x0 x1 y0 y1 lX2 lY2 lR2;go_wp2_with fail;refine (zFZ _ v5 (m/16+20) m (m/16+20) (ofI (n*Q j) (d*Q i) m) _ hvp5 (zA HV5) (Nat.le_refl _) (zA HL1).1 (iv_exp hpd (zA HL1)) (zA HBT).1 (zA HBT).2.1 (zA HBT).2.2 hm1 (by omega) (zA HKK) (by omega) (by omega)).mono ?_
      rintro r w6 ⟨o6,hi6,ha6,v6,rfl,hvb6,hvp6,hb6⟩;replace st:=st.bw hb6;have HV6:=zC hvb6;have HI6:=zC hi6;have HA6:=zC ha6;clear hb6 hvb6 hi6 ha6 hvp5;go_wp2_with fail;refine (zDE _ 2 m hm1 (by decide) (by decide)).mono ?_
      rintro r w7 ⟨v7,rfl,hvb7,hvp7,hb7⟩;replace st:=st.bw hb7;replace hvp6:=hvp6.bw hb7;have HV7:=zC hvb7;clear hb7 hvb7;go_wp2_with fail;refine (zFZ _ v7 (m/16+18) m (m/16+20) (2*Q m,2*Q m) _ hvp7 (zA HV7) (by omega) isLog_two.1 whole_iv (by simp only[];omega) (Int.le_refl _) (Int.le_refl _) hm1 (by omega) (zA HKK) (by omega) (by omega)).mono ?_
      rintro r w8 ⟨o8,hi8,ha8,v8,rfl,hvb8,hvp8,hb8⟩;replace st:=st.bw hb8;replace hvp6:=hvp6.bw hb8;have HV8:=zC hvb8;have HI8:=zC hi8;have HA8:=zC ha8;clear hb8 hvb8 hi8 ha8 hvp7;go_wp2_with fail;refine (zD ((i:Int)-(j:Int)) _ (by omega) (by omega)).mono ?_
      rintro r w9 ⟨neg9,a9,n9,c9,rfl,hZ9,hb9⟩;replace st:=st.bw hb9;replace hvp6:=hvp6.bw hb9;replace hvp8:=hvp8.bw hb9;clear hb9;go_wp2_with fail;refine (zD 1 _ (by decide) (by decide)).mono ?_
      rintro r w10 ⟨neg10,a10,n10,c10,rfl,hZ10,hb10⟩;replace st:=st.bw hb10;replace hvp6:=hvp6.bw hb10;replace hvp8:=hvp8.bw hb10;replace hZ9:=hZ9.bw hb10;clear hb10;go_wp2_with fail;refine (zEA _ v8 ⟨neg9,a9,n9,c9⟩ ⟨neg10,a10,n10,c10⟩ (m/16+20+30) 4 4 m o8 ((i:Int)-(j:Int)) 1 hvp8 hZ9 hZ10 (by omega) (by omega) (by omega) (by omega) (zA HV8)).mono ?_
      rintro r w11 ⟨v11,rfl,hvb11,hvp11,hb11⟩;replace st:=st.bw hb11;replace hvp6:=hvp6.bw hb11;have HV11:=zC hvb11;clear hb11 hvb11 hvp8 hZ9 hZ10;go_wp2_with fail;refine (yB _ v6 v11 (m/16+20+30+4+9) m o6 (byI o8 ((i:Int)-(j:Int)) 1) (hvp6.mono (by omega)) hvp11 (by omega) (zA HV6)).mono ?_
      rintro r w12 ⟨v12,rfl,hvb12,hvp12,hb12⟩;replace st:=st.bw hb12;have HV12:=zC hvb12;clear hb12 hvb12 hvp6 hvp11;obtain ⟨z,hz⟩:∃ z:Int × Int,jJ o6 (byI o8 ((i:Int)-(j:Int)) 1)=z:=⟨_,rfl⟩;rw[hz] at hvp12
      have hziv:Iv b (zN z 48) (fun M=>2*Ex.Az (zR (n*Q j) (d*Q i)) M+(((i:Int)-(j:Int):Int):Rat)*(2*Ex.Az (zR 2 1) M)):=by
       have h1:=(zA HI6).add ((zA HI8).by_ ((i:Int)-(j:Int)) (d:=1) (by omega))
       rw[hz,zA HM] at h1;refine h1.to.congr (Ex.null_zero.of_eq fun M=>?_)
       have e:(((i:Int)-(j:Int):Int):Rat)/((1:Int):Rat)=(((i:Int)-(j:Int):Int):Rat):=by rw[Rat.div_def,show ((1:Int):Rat)⁻¹=1 from by decide +kernel,Rat.mul_one]
       rw[e];grind
      have hzl:=zH0 (zA HN).2 (zA HBAL) (zA HL1) isLog_two
      have hza:Abs z (3*((J:Int)+1)*Q m):=by
       have h1:=zIX (p:=3*Q m*(J:Int)) (n:=(i:Int)-(j:Int)) (d:=1) (c:=(J:Int)) (zA HA8) (by omega) (by omega) (by omega) (by omega)
       have h2:=(zA HA6).add h1;rw[hz] at h2;exact h2.mono (by rw[show 3*((J:Int)+1)*Q m=3*Q m+3*Q m*(J:Int) by grind];omega)
      have hqm2:Q m=Q b*Q 48:=by rw[zA HM,jC]
      have hda:Abs (zN z 48) (3*((J:Int)+1)*Q b):=zPR 48 hza (by rw[hqm2,← Int.mul_assoc];omega)
      have HZI:=zC hziv;have HZL:=zC hzl;have HDA:=zC hda
      have hkb:3*((J:Int)+1)*Q b<P (b/16+10):=by
       rw[← Q_P];have h1:=zJ (show b+13≤16*(b/16+10) by omega)
       have h2:Q (b+13)=Q b*8192:=by rw[jC];rfl
       have hq:=zG b;have h3:=Int.mul_le_mul_of_nonneg_right (show 3*((J:Int)+1)≤8191 by omega) (show 0≤Q b by omega)
       omega
      have HKB:=zC hkb;clear hziv hzl hza hqm2 hda hz hkb hpd;obtain ⟨V,hV⟩:∃ V,V=w12.alloc (.cells #[.bool v12.ln,.slice v12.la v12.lN v12.lc,.bool v12.hn,.slice v12.ha v12.hN v12.hc,.int .i64 v12.bits] 36):=⟨_,rfl⟩;have bV:Below w12.heap.size w12 V:=by rw[hV];exact bl1 _ _
      replace st:=st.bw bV;replace hvp12:=hvp12.bw bV;have lR:=st.no.lt;go_wp2_with fail;rw[← hV];clear hV bV;refine (kY _ v12 (m/16+20+30+4+9+1) b z.1 z.2 hvp12 (by omega) (by have:=zA HV12;omega) (by have:=zA HV12;omega) (by omega) (by omega)).mono ?_
      rintro r w13 ⟨v13,rfl,hvb13,hvp13,hb13⟩;rw[zA HV12,show (m:Int)-(b:Int)=((48:Nat):Int) by have:=zA HM;omega,kG,kG] at hvp13
      replace st:=st.bw hb13;have HV13:=zC hvb13;clear hb13 hvb13;have hd4:=(zA HDA).1;have hd5:=(zA HDA).2.2.2;have hd6:=zA HKB;have hvf:SpAt w13 v13 (b/16+10) (zN z 48).1 (zN z 48).2:=SpAt.fits (k:=m/16+20+30+4+9+1+62505) hvp13 (zA HZI).le (by omega) (by omega)
      have hBf:=st.be;obtain ⟨q0,q1,q2,q3,q4,q5⟩:=st.no;clear hvp13 hd4 hd5 hd6 st;go_wp2_with fail;refine bodyPost_ret (v:=.agg #[.bool v13.ln,.slice v13.la v13.lN v13.lc,.bool v13.hn,.slice v13.ha v13.hN v13.hc,.int .i64 v13.bits]) (by simp[results,Tryz.results124,go_sem,q0,q1,q2,q3,q4]) rfl ⟨zN z 48,_,zA HZL,zA HZI,zA HDA,v13,rfl,zA HV13,?_,?_⟩
      ·exact SpAt.put5 hvf q0 q1 q2 q3 q4 _ _ _ _ _
      ·exact jV hBf (by omega) _ _ _ _ _
theorem zAG {b:Nat} (z:Int) (hz:z=(b:Int)) (w:World) (n:Int) (hb:b≤100000) (h0 : -9223372036854775808≤n) (h1:n≤9223372036854775807) :
  Calls Tryz.prog 27 #[.int .i64 n,.int .i64 z] w (zH w b (b/16+18) (n*Q b) (n*Q b)):=by
 subst hz;exact zDE w n b hb h0 h1
theorem ins_aa (w:World) (s:Sp) (K b:Nat) (lo hi m1 m2:Int) (hs:SpAt w s K lo hi) (hbits:s.bits=(b:Int)) (hb:b≤10000) (hm1 : -1000≤m1) (hm2:m1≤1000) (hm3 : -1000≤m2) (hm4:m2≤1000) (h1:zF lo (m1*Q b)=0) (h2:zF hi (m2*Q b) = -1) :
  Calls Tryz.prog 15 #[.agg #[.bool s.ln,.slice s.la s.lN s.lc,.bool s.hn,.slice s.ha s.hN s.hc,.int .i64 s.bits],.int .i64 m1,.int .i64 m2] w fun r w'=>r=.returned (.bool true)∧Below w.heap.size w w':=by
 obtain ⟨W,hW⟩:∃ W,W=w.alloc (.cells #[.bool s.ln,.slice s.la s.lN s.lc,.bool s.hn,.slice s.ha s.hN s.hc,.int .i64 s.bits] 28):=⟨_,rfl⟩;have hBW:Below w.heap.size w W:=by rw[hW];exact bl1 _ _
 have A:SpC W w.heap.size s:=by rw[hW];constructor <;> simp[go_sem]
 have HS:=zC (hs.bw hBW);have HB:=zC hbits;have H1:=zC h1;have H2:=zC h2;have HK:=zC (show ∀ w',Below W.heap.size W w'→(w'.cell? ⟨w.heap.size,0,none⟩=some (.bool s.ln)∧w'.cell? ⟨w.heap.size,1,none⟩=some (.slice s.la s.lN s.lc)∧w'.cell? ⟨w.heap.size,2,none⟩=some (.bool s.hn)∧w'.cell? ⟨w.heap.size,3,none⟩=some (.slice s.ha s.hN s.hc)∧w'.cell? ⟨w.heap.size,4,none⟩=some (.int .i64 s.bits)) from fun w' hB=>⟨(A.bw hB).c0,(A.bw hB).c1,(A.bw hB).c2,(A.bw hB).c3,(A.bw hB).c4⟩)
 clear hs hbits h1 h2 A;have hf0:=zCA
 go_enter Tryz.func15,Tryz.ntmps15
 go_wp2;rw[← hW];clear hW;obtain ⟨x0,x1,x2,x3,x4⟩:=zA HK _ (Below.refl _ _);have hD0:Below W.heap.size W W.drew:=(Below.refl _ _).drew
 go_region_held3 (fun w'=>w'.cell? ⟨w.heap.size,0,none⟩=some (.bool s.ln)∧w'.cell? ⟨w.heap.size,1,none⟩=some (.slice s.la s.lN s.lc)∧w'.cell? ⟨w.heap.size,2,none⟩=some (.bool s.hn)∧w'.cell? ⟨w.heap.size,3,none⟩=some (.slice s.ha s.hN s.hc)∧w'.cell? ⟨w.heap.size,4,none⟩=some (.int .i64 s.bits)) (first|exact zA HK _ (by with_reducible first|exact hD0|exact hD4|exact hD3|exact hD2|exact hD1)|go_keep)
  (first
   | (go_at_call 46;have hqq:=hD3;refine (zS _ _ _ _ _ _ _ _ _ _ hi (m2*Q b) _ ((zA HS).hi.bw hD3) hs3.lo).mono ?_;rintro r' w4 ⟨rfl,hb4⟩;rw[zA H2];have hD4:=zB hD3 hb4)
   | (go_at_call 27;have hqq:=hD2;refine (zAG s.bits (zA HB) _ m2 (by omega) (by omega) (by omega)).mono ?_;rintro r' w3 ⟨v3,rfl,hvb3,hs3,hb3⟩;clear hvb3;have hD3:=zB hD2 hb3)
   | (go_at_call 46;have hqq:=hD1;refine (zS _ _ _ _ _ _ _ _ _ _ lo (m1*Q b) _ ((zA HS).lo.bw hD1) hs1.lo).mono ?_;rintro r' w2 ⟨rfl,hb2⟩;rw[zA H1];have hD2:=zB hD1 hb2)
   | (go_at_call 27;refine (zAG s.bits (zA HB) _ m1 (by omega) (by omega) (by omega)).mono ?_;rintro r' w1 ⟨v1,rfl,hvb1,hs1,hb1⟩;clear hvb1;have hD1:=zB hD0 hb1))
 all_goals
  go_wp2_with fail
  go_ret
  exact ⟨rfl,zB hBW hD4⟩
theorem ins_ab (w:World) (s:Sp) (K b:Nat) (lo hi m1 m2:Int) (hs:SpAt w s K lo hi) (hbits:s.bits=(b:Int)) (hb:b≤10000) (hm1 : -1000≤m1) (hm2:m1≤1000) (hm3 : -1000≤m2) (hm4:m2≤1000) (h1:zF lo (m1*Q b)=0) (h2:zF hi (m2*Q b)=0) :
  Calls Tryz.prog 15 #[.agg #[.bool s.ln,.slice s.la s.lN s.lc,.bool s.hn,.slice s.ha s.hN s.hc,.int .i64 s.bits],.int .i64 m1,.int .i64 m2] w fun r w'=>r=.returned (.bool true)∧Below w.heap.size w w':=by
 obtain ⟨W,hW⟩:∃ W,W=w.alloc (.cells #[.bool s.ln,.slice s.la s.lN s.lc,.bool s.hn,.slice s.ha s.hN s.hc,.int .i64 s.bits] 28):=⟨_,rfl⟩;have hBW:Below w.heap.size w W:=by rw[hW];exact bl1 _ _
 have A:SpC W w.heap.size s:=by rw[hW];constructor <;> simp[go_sem]
 have HS:=zC (hs.bw hBW);have HB:=zC hbits;have H1:=zC h1;have H2:=zC h2;have HK:=zC (show ∀ w',Below W.heap.size W w'→(w'.cell? ⟨w.heap.size,0,none⟩=some (.bool s.ln)∧w'.cell? ⟨w.heap.size,1,none⟩=some (.slice s.la s.lN s.lc)∧w'.cell? ⟨w.heap.size,2,none⟩=some (.bool s.hn)∧w'.cell? ⟨w.heap.size,3,none⟩=some (.slice s.ha s.hN s.hc)∧w'.cell? ⟨w.heap.size,4,none⟩=some (.int .i64 s.bits)) from fun w' hB=>⟨(A.bw hB).c0,(A.bw hB).c1,(A.bw hB).c2,(A.bw hB).c3,(A.bw hB).c4⟩)
 clear hs hbits h1 h2 A;have hf0:=zCA
 go_enter Tryz.func15,Tryz.ntmps15
 go_wp2;rw[← hW];clear hW;obtain ⟨x0,x1,x2,x3,x4⟩:=zA HK _ (Below.refl _ _);have hD0:Below W.heap.size W W.drew:=(Below.refl _ _).drew
 go_region_held3 (fun w'=>w'.cell? ⟨w.heap.size,0,none⟩=some (.bool s.ln)∧w'.cell? ⟨w.heap.size,1,none⟩=some (.slice s.la s.lN s.lc)∧w'.cell? ⟨w.heap.size,2,none⟩=some (.bool s.hn)∧w'.cell? ⟨w.heap.size,3,none⟩=some (.slice s.ha s.hN s.hc)∧w'.cell? ⟨w.heap.size,4,none⟩=some (.int .i64 s.bits)) (first|exact zA HK _ (by with_reducible first|exact hD0|exact hD4|exact hD3|exact hD2|exact hD1)|go_keep)
  (first
   | (go_at_call 46;have hqq:=hD3;refine (zS _ _ _ _ _ _ _ _ _ _ hi (m2*Q b) _ ((zA HS).hi.bw hD3) hs3.lo).mono ?_;rintro r' w4 ⟨rfl,hb4⟩;rw[zA H2];have hD4:=zB hD3 hb4)
   | (go_at_call 27;have hqq:=hD2;refine (zAG s.bits (zA HB) _ m2 (by omega) (by omega) (by omega)).mono ?_;rintro r' w3 ⟨v3,rfl,hvb3,hs3,hb3⟩;clear hvb3;have hD3:=zB hD2 hb3)
   | (go_at_call 46;have hqq:=hD1;refine (zS _ _ _ _ _ _ _ _ _ _ lo (m1*Q b) _ ((zA HS).lo.bw hD1) hs1.lo).mono ?_;rintro r' w2 ⟨rfl,hb2⟩;rw[zA H1];have hD2:=zB hD1 hb2)
   | (go_at_call 27;refine (zAG s.bits (zA HB) _ m1 (by omega) (by omega) (by omega)).mono ?_;rintro r' w1 ⟨v1,rfl,hvb1,hs1,hb1⟩;clear hvb1;have hD1:=zB hD0 hb1))
 all_goals
  go_wp2_with fail
  go_ret
  exact ⟨rfl,zB hBW hD4⟩
theorem ins_ba (w:World) (s:Sp) (K b:Nat) (lo hi m1 m2:Int) (hs:SpAt w s K lo hi) (hbits:s.bits=(b:Int)) (hb:b≤10000) (hm1 : -1000≤m1) (hm2:m1≤1000) (hm3 : -1000≤m2) (hm4:m2≤1000) (h1:zF lo (m1*Q b)=1) (h2:zF hi (m2*Q b) = -1) :
  Calls Tryz.prog 15 #[.agg #[.bool s.ln,.slice s.la s.lN s.lc,.bool s.hn,.slice s.ha s.hN s.hc,.int .i64 s.bits],.int .i64 m1,.int .i64 m2] w fun r w'=>r=.returned (.bool true)∧Below w.heap.size w w':=by
 obtain ⟨W,hW⟩:∃ W,W=w.alloc (.cells #[.bool s.ln,.slice s.la s.lN s.lc,.bool s.hn,.slice s.ha s.hN s.hc,.int .i64 s.bits] 28):=⟨_,rfl⟩;have hBW:Below w.heap.size w W:=by rw[hW];exact bl1 _ _
 have A:SpC W w.heap.size s:=by rw[hW];constructor <;> simp[go_sem]
 have HS:=zC (hs.bw hBW);have HB:=zC hbits;have H1:=zC h1;have H2:=zC h2;have HK:=zC (show ∀ w',Below W.heap.size W w'→(w'.cell? ⟨w.heap.size,0,none⟩=some (.bool s.ln)∧w'.cell? ⟨w.heap.size,1,none⟩=some (.slice s.la s.lN s.lc)∧w'.cell? ⟨w.heap.size,2,none⟩=some (.bool s.hn)∧w'.cell? ⟨w.heap.size,3,none⟩=some (.slice s.ha s.hN s.hc)∧w'.cell? ⟨w.heap.size,4,none⟩=some (.int .i64 s.bits)) from fun w' hB=>⟨(A.bw hB).c0,(A.bw hB).c1,(A.bw hB).c2,(A.bw hB).c3,(A.bw hB).c4⟩)
 clear hs hbits h1 h2 A;have hf0:=zCA
 go_enter Tryz.func15,Tryz.ntmps15
 go_wp2;rw[← hW];clear hW;obtain ⟨x0,x1,x2,x3,x4⟩:=zA HK _ (Below.refl _ _);have hD0:Below W.heap.size W W.drew:=(Below.refl _ _).drew
 go_region_held3 (fun w'=>w'.cell? ⟨w.heap.size,0,none⟩=some (.bool s.ln)∧w'.cell? ⟨w.heap.size,1,none⟩=some (.slice s.la s.lN s.lc)∧w'.cell? ⟨w.heap.size,2,none⟩=some (.bool s.hn)∧w'.cell? ⟨w.heap.size,3,none⟩=some (.slice s.ha s.hN s.hc)∧w'.cell? ⟨w.heap.size,4,none⟩=some (.int .i64 s.bits)) (first|exact zA HK _ (by with_reducible first|exact hD0|exact hD4|exact hD3|exact hD2|exact hD1)|go_keep)
  (first
   | (go_at_call 46;have hqq:=hD3;refine (zS _ _ _ _ _ _ _ _ _ _ hi (m2*Q b) _ ((zA HS).hi.bw hD3) hs3.lo).mono ?_;rintro r' w4 ⟨rfl,hb4⟩;rw[zA H2];have hD4:=zB hD3 hb4)
   | (go_at_call 27;have hqq:=hD2;refine (zAG s.bits (zA HB) _ m2 (by omega) (by omega) (by omega)).mono ?_;rintro r' w3 ⟨v3,rfl,hvb3,hs3,hb3⟩;clear hvb3;have hD3:=zB hD2 hb3)
   | (go_at_call 46;have hqq:=hD1;refine (zS _ _ _ _ _ _ _ _ _ _ lo (m1*Q b) _ ((zA HS).lo.bw hD1) hs1.lo).mono ?_;rintro r' w2 ⟨rfl,hb2⟩;rw[zA H1];have hD2:=zB hD1 hb2)
   | (go_at_call 27;refine (zAG s.bits (zA HB) _ m1 (by omega) (by omega) (by omega)).mono ?_;rintro r' w1 ⟨v1,rfl,hvb1,hs1,hb1⟩;clear hvb1;have hD1:=zB hD0 hb1))
 all_goals
  go_wp2_with fail
  go_ret
  exact ⟨rfl,zB hBW hD4⟩
theorem ins_bb (w:World) (s:Sp) (K b:Nat) (lo hi m1 m2:Int) (hs:SpAt w s K lo hi) (hbits:s.bits=(b:Int)) (hb:b≤10000) (hm1 : -1000≤m1) (hm2:m1≤1000) (hm3 : -1000≤m2) (hm4:m2≤1000) (h1:zF lo (m1*Q b)=1) (h2:zF hi (m2*Q b)=0) :
  Calls Tryz.prog 15 #[.agg #[.bool s.ln,.slice s.la s.lN s.lc,.bool s.hn,.slice s.ha s.hN s.hc,.int .i64 s.bits],.int .i64 m1,.int .i64 m2] w fun r w'=>r=.returned (.bool true)∧Below w.heap.size w w':=by
 obtain ⟨W,hW⟩:∃ W,W=w.alloc (.cells #[.bool s.ln,.slice s.la s.lN s.lc,.bool s.hn,.slice s.ha s.hN s.hc,.int .i64 s.bits] 28):=⟨_,rfl⟩;have hBW:Below w.heap.size w W:=by rw[hW];exact bl1 _ _
 have A:SpC W w.heap.size s:=by rw[hW];constructor <;> simp[go_sem]
 have HS:=zC (hs.bw hBW);have HB:=zC hbits;have H1:=zC h1;have H2:=zC h2;have HK:=zC (show ∀ w',Below W.heap.size W w'→(w'.cell? ⟨w.heap.size,0,none⟩=some (.bool s.ln)∧w'.cell? ⟨w.heap.size,1,none⟩=some (.slice s.la s.lN s.lc)∧w'.cell? ⟨w.heap.size,2,none⟩=some (.bool s.hn)∧w'.cell? ⟨w.heap.size,3,none⟩=some (.slice s.ha s.hN s.hc)∧w'.cell? ⟨w.heap.size,4,none⟩=some (.int .i64 s.bits)) from fun w' hB=>⟨(A.bw hB).c0,(A.bw hB).c1,(A.bw hB).c2,(A.bw hB).c3,(A.bw hB).c4⟩)
 clear hs hbits h1 h2 A;have hf0:=zCA
 go_enter Tryz.func15,Tryz.ntmps15
 go_wp2;rw[← hW];clear hW;obtain ⟨x0,x1,x2,x3,x4⟩:=zA HK _ (Below.refl _ _);have hD0:Below W.heap.size W W.drew:=(Below.refl _ _).drew
 go_region_held3 (fun w'=>w'.cell? ⟨w.heap.size,0,none⟩=some (.bool s.ln)∧w'.cell? ⟨w.heap.size,1,none⟩=some (.slice s.la s.lN s.lc)∧w'.cell? ⟨w.heap.size,2,none⟩=some (.bool s.hn)∧w'.cell? ⟨w.heap.size,3,none⟩=some (.slice s.ha s.hN s.hc)∧w'.cell? ⟨w.heap.size,4,none⟩=some (.int .i64 s.bits)) (first|exact zA HK _ (by with_reducible first|exact hD0|exact hD4|exact hD3|exact hD2|exact hD1)|go_keep)
  (first
   | (go_at_call 46;have hqq:=hD3;refine (zS _ _ _ _ _ _ _ _ _ _ hi (m2*Q b) _ ((zA HS).hi.bw hD3) hs3.lo).mono ?_;rintro r' w4 ⟨rfl,hb4⟩;rw[zA H2];have hD4:=zB hD3 hb4)
   | (go_at_call 27;have hqq:=hD2;refine (zAG s.bits (zA HB) _ m2 (by omega) (by omega) (by omega)).mono ?_;rintro r' w3 ⟨v3,rfl,hvb3,hs3,hb3⟩;clear hvb3;have hD3:=zB hD2 hb3)
   | (go_at_call 46;have hqq:=hD1;refine (zS _ _ _ _ _ _ _ _ _ _ lo (m1*Q b) _ ((zA HS).lo.bw hD1) hs1.lo).mono ?_;rintro r' w2 ⟨rfl,hb2⟩;rw[zA H1];have hD2:=zB hD1 hb2)
   | (go_at_call 27;refine (zAG s.bits (zA HB) _ m1 (by omega) (by omega) (by omega)).mono ?_;rintro r' w1 ⟨v1,rfl,hvb1,hs1,hb1⟩;clear hvb1;have hD1:=zB hD0 hb1))
 all_goals
  go_wp2_with fail
  go_ret
  exact ⟨rfl,zB hBW hD4⟩
theorem ins_ok (w:World) (s:Sp) (K b:Nat) (lo hi m1 m2:Int) (hs:SpAt w s K lo hi) (hbits:s.bits=(b:Int)) (hb:b≤10000) (hm1 : -1000≤m1) (hm2:m1≤1000) (hm3 : -1000≤m2) (hm4:m2≤1000) (h1:m1*Q b≤lo) (h2:hi≤m2*Q b) :
  Calls Tryz.prog 15 #[.agg #[.bool s.ln,.slice s.la s.lN s.lc,.bool s.hn,.slice s.ha s.hN s.hc,.int .i64 s.bits],.int .i64 m1,.int .i64 m2] w fun r w'=>r=.returned (.bool true)∧Below w.heap.size w w':=by
 rcases cmp3 lo (m1*Q b) with ⟨e1,g1⟩|⟨e1,g1⟩|⟨e1,g1⟩
 ·omega
 ·rcases cmp3 hi (m2*Q b) with ⟨e2,g2⟩|⟨e2,g2⟩|⟨e2,g2⟩
  ·exact ins_aa w s K b lo hi m1 m2 hs hbits hb hm1 hm2 hm3 hm4 e1 e2
  ·exact ins_ab w s K b lo hi m1 m2 hs hbits hb hm1 hm2 hm3 hm4 e1 e2
  ·omega
 ·rcases cmp3 hi (m2*Q b) with ⟨e2,g2⟩|⟨e2,g2⟩|⟨e2,g2⟩
  ·exact ins_ba w s K b lo hi m1 m2 hs hbits hb hm1 hm2 hm3 hm4 e1 e2
  ·exact ins_bb w s K b lo hi m1 m2 hs hbits hb hm1 hm2 hm3 hm4 e1 e2
  ·omega
open Ex
theorem zGF {b:Nat} (z:Int) (hz:z=(b:Int)) (x y:Nm) (k k2:Nat) (n d:Int) (w:World) (h1:IntAt w x.neg x.a x.n x.cap k n) (h2:IntAt w y.neg y.a y.n y.cap k2 d) (hk:k≤600000000) (hk2:k2≤100000000) (hb:b≤100000) (hy:0<d) :
  Calls Tryz.prog 54 #[.agg #[.bool x.neg,.slice x.a x.n x.cap],.agg #[.bool y.neg,.slice y.a y.n y.cap],.int .i64 z] w (zH w b (k+b/16+14) (ofI n d b).1 (ofI n d b).2):=by
 subst hz;exact zD3 x y k k2 b n d w h1 h2 hk hk2 hb hy
theorem zLC {n d:Int} {x m k:Nat} {s:LmSt} (o:LmOk n d x m k s) (hm:m≤1000):s.T.2<P 100∧s.U.2<P 100 ∧ -P 100<s.T.1 ∧ -P 100<s.U.1:=by
 have h1:=zJ (show m+128+1≤16*100 by omega)
 have h2:=zG (m+128);have h3:Q (m+128+1)=2*Q (m+128):=rfl;rw[Q_P] at h1;have:=o.us;have:=o.tu;have:=o.t0;have:=o.u1;omega
theorem lm_great {n d:Int} {x m k:Nat} (hg:Q (m+128)≤(jJ (lmS n d x m k).U (lmT n d x k (lmS n d x m k).T)).2):lmS n d x m (k+1)=⟨zE (lmT n d x k (lmS n d x m k).T) 1 (Q 64),zE (jJ (lmS n d x m k).U (lmT n d x k (lmS n d x m k).T)) 1 (Q 64),(lmS n d x m k).e+1⟩:=by
 show zBA n d x m k (lmS n d x m k)=_
 unfold zBA;rw[if_pos hg]
theorem zOM {n d:Int} {x m k:Nat} (hg:¬ Q (m+128)≤(jJ (lmS n d x m k).U (lmT n d x k (lmS n d x m k).T)).2):lmS n d x m (k+1)=⟨lmT n d x k (lmS n d x m k).T,jJ (lmS n d x m k).U (lmT n d x k (lmS n d x m k).T),(lmS n d x m k).e⟩:=by
 show zBA n d x m k (lmS n d x m k)=_
 unfold zBA;rw[if_neg hg]
theorem zCL {b:Nat} (z:Int) (hz:z=(b:Int)) (w:World) (x y:Nm) (k J:Nat) (n d:Int) (hx:IntAt w x.neg x.a x.n x.cap k n) (hy:IntAt w y.neg y.a y.n y.cap k d) (hk:k≤10000000) (hb:b≤50000) (hn:0<n) (hd:0<d) (hnk:n<P k) (hdk:2*d<P k) (hJ1:d≤n*Q J) (hJ2:n<d*Q (J+1)) (hJ:J≤1000) :
  Calls Tryz.prog 124 #[.agg #[.bool x.neg,.slice x.a x.n x.cap],.agg #[.bool y.neg,.slice y.a y.n y.cap],.int .i64 z] w (fun r w'=>∃ (lo hi:Int) (l:Nat→Rat),Ex.IsLog l (fun _=>(n:Rat)/(d:Rat))∧(Iv b (lo,hi) l∧Abs (lo,hi) (3*((J:Int)+1)*Q b))∧zH w b (b/16+10) lo hi r w'):=by
 subst hz;exact (zM7 w x y k b J n d hx hy hk hb hn hd hnk hdk hJ1 hJ2 hJ).mono fun r w' ⟨o,l,h1,h2,h3,h4⟩=>⟨o.1,o.2,l,h1,⟨h2,h3⟩,h4⟩
structure LnW (w wr:World) (X Y:Nm) (n d:Int) (BU:Nat) (U:Sp) (m K:Nat) (c:Int × Int):Prop where
 x:NmC wr w.heap.size X
 y:NmC wr (w.heap.size+1) Y
 ix:IntAt wr X.neg X.a X.n X.cap 20 n
 iy:IntAt wr Y.neg Y.a Y.n Y.cap 20 d
 u:VrC wr BU U
 ub:U.bits=(m:Int)
 up:SpAt wr U K c.1 c.2
 r:NoC wr (w.heap.size+1+1)
 be:Below w.heap.size w wr
 l2:w.heap.size+1+1<BU
theorem LmW.ln {w wr:World} {X Y:Nm} {n d:Int} {BT BU BA:Nat} {T U:Sp} {A:Nm} {m k K:Nat} {a c:Int × Int} (h:LmW w wr X Y n d BT BU BA T U A m k K a c):LnW w wr X Y n d BU U m K c:=⟨h.x,h.y,h.ix,h.iy,h.u,h.ub,h.up,h.r,h.be,h.l2⟩
theorem LnW.bw {w wr:World} {X Y:Nm} {n d:Int} {BU:Nat} {U:Sp} {m K:Nat} {c:Int × Int} (h:LnW w wr X Y n d BU U m K c) {wr':World} (hb:Below wr.heap.size wr wr'):LnW w wr' X Y n d BU U m K c :=
 ⟨h.x.bw hb,h.y.bw hb,h.ix.bw hb,h.iy.bw hb,h.u.bw hb,h.ub,h.up.bw hb,h.r.bw hb,zB h.be hb,h.l2⟩
theorem LnW.putU {w wr:World} {X Y:Nm} {n d:Int} {BU:Nat} {U:Sp} {m K:Nat} {c:Int × Int} (h:LnW w wr X Y n d BU U m K c) {U':Sp} {K':Nat} {c':Int × Int} (hb:U'.bits=(m:Int)) (hp:SpAt wr U' K' c'.1 c'.2):LnW w (zP wr BU U') X Y n d BU U' m K' c' :=
 have l2:=h.l2
 ⟨h.x.offP (by omega) _,h.y.offP (by omega) _,h.ix.put h.u.c _,h.iy.put h.u.c _,h.u.put _,hb,hp.put h.u.c _,h.r.off (by omega) _,jV h.be (by omega) _ _ _ _ _,h.l2⟩
theorem NmC.offH {w:World} {B B':Nat} {x:Nm} (h:NmC w B x) (hne:B≠B') (u0 u1:Value):NmC ((w.setCell ⟨B',2,none⟩ u0).setCell ⟨B',3,none⟩ u1) B x:=by
 obtain ⟨q0,q1⟩:=h;exact ⟨by simp[go_sem,q0,hne,Ne.symm hne],by simp[go_sem,q1,hne,Ne.symm hne]⟩
theorem LnW.putH {w wr:World} {X Y:Nm} {n d:Int} {BU:Nat} {U:Sp} {m K:Nat} {c:Int × Int} (h:LnW w wr X Y n d BU U m K c) {H:Nm} {z:Int} {K':Nat} (hK:K≤K') (hp:IntAt wr H.neg H.a H.n H.cap K' z):LnW w ((wr.setCell ⟨BU,2,none⟩ (.bool H.neg)).setCell ⟨BU,3,none⟩ (.slice H.a H.n H.cap)) X Y n d BU ⟨U.ln,U.la,U.lN,U.lc,H.neg,H.a,H.n,H.cap,U.bits⟩ m K' (c.1,z) :=
 have l2:=h.l2
 ⟨h.x.offH (by omega) _ _,h.y.offH (by omega) _ _,h.ix.putH h.u.c.c2 h.u.c.c3 _ _,h.iy.putH h.u.c.c2 h.u.c.c3 _ _,zG0 h.u H,h.ub,⟨(h.up.lo.mono hK).putH h.u.c.c2 h.u.c.c3 _ _,hp.putH h.u.c.c2 h.u.c.c3 _ _⟩,h.r.offH (by omega) _ _,(h.be.setCell (p:=⟨BU,2,none⟩) (by show w.heap.size≤BU;omega) _).setCell (p:=⟨BU,3,none⟩) (by show w.heap.size≤BU;omega) _,h.l2⟩
theorem lg_end {L:Rat→Nat→Rat} (hL:Lns L) {n d:Int} {b x K:Nat} (h:zIV n d b x) (hK:2*x<K) (hK2:K≤25000) (hT:(lmS n d x (b+128) K).T.2≤1) {g X l1 l2 l3 l4:Nat→Rat} {a1 b1 a2 b2 a3 b3 a4 b4:Int} (hg:IsGam L ((n:Rat)/(d:Rat)) g) (hX:IsLog X g)
  (g1:IsLog l1 (fun _=>(lmL (lmS n d x (b+128) K).U:Rat)/(Q (b+128):Rat))) (g2:IsLog l2 (fun _=>(lmH (b+128) (lmS n d x (b+128) K).e (lmS n d x (b+128) K).U:Rat)/(Q (b+128):Rat))) (g3:IsLog l3 (fun _=>((2:Int):Rat)/((1:Int):Rat))) (g4:IsLog l4 (fun _=>((x:Int):Rat)/((1:Int):Rat)))
  (i1:Iv (b+40) (a1,b1) l1) (i2:Iv (b+40) (a2,b2) l2) (i3:Iv (b+40) (a3,b3) l3) (i4:Iv (b+40) (a4,b4) l4):Iv b (zN (lgR (b+40) n d ((64*(lmS n d x (b+128) K).e:Nat):Int) (x:Int) (a1,b1) (a2,b2) (a3,b3) (a4,b4)) 40) X:=by
 have inv1:(1:Rat)⁻¹=1:=by decide +kernel
 have e3:((2:Int):Rat)/((1:Int):Rat)=2:=by decide +kernel
 have e4:((x:Int):Rat)/((1:Int):Rat)=(x:Rat):=by
  have e1:((1:Int):Rat)=1:=rfl;have e2:((x:Int):Rat)=(x:Rat):=rfl;rw[e1,e2,Rat.div_def,inv1,Rat.mul_one]
 rw[e3] at g3;rw[e4] at g4;have x0:(0:Rat)<(x:Rat):=by exact_mod_cast (show 0<x by have:=h.xb;omega)
 obtain ⟨low,up⟩:=lm_log hL h rfl hK hK2 hT hg hX g1 g2 g3;exact (lgR_has h.d0 i1 i2 i3 (i4.congr ((hL _ x0).uniq g4)) low up).to
theorem lm_lg {n d:Int} {x b k:Nat} {s:LmSt} (o:LmOk n d x (b+128) k s) (hb0:8≤b) (hb:b≤400):0<lmL s.U∧0<Q (b+128)∧lmL s.U<P 110∧2*Q (b+128)<P 110∧Q (b+128)≤lmL s.U*Q (b+128)∧lmL s.U<Q (b+128)*Q (b+128+1)∧0<lmH (b+128) s.e s.U∧lmH (b+128) s.e s.U<P 110∧Q (b+128)≤lmH (b+128) s.e s.U*Q (b+128)∧lmH (b+128) s.e s.U<Q (b+128)*Q (b+128+1):=by
 have u1:=o.u1;have ul:=o.ul;have us:=o.us;have q:=zG (b+128);have qe:=zG (64*s.e);have q1:=zG (b+128+1)
 have c0:0 ≤ -(-(Q (b+128+1))/Q (64*s.e)) ∧ -(-(Q (b+128+1))/Q (64*s.e))≤Q (b+128+1):=by
  have m:=Int.mul_le_mul_of_nonneg_left qe (show 0≤Q (b+128+1) by omega)
  have r:=jD (x:=Q (b+128+1)) (m:=Q (b+128+1)) (q:=Q (64*s.e)) (by omega) (by omega) (by omega)
  have c:=zAW (Q (b+128+1)) (show 0<Q (64*s.e) by omega)
  refine ⟨Int.not_lt.1 fun hn=>?_,r.2.2.2⟩
  have:=Int.mul_le_mul_of_nonneg_right (show -(-(Q (b+128+1))/Q (64*s.e)) ≤ -1 by omega) (show 0≤Q (64*s.e) by omega)
  omega
 have eL:lmL s.U=s.U.1-2:=rfl;have eH:lmH (b+128) s.e s.U=s.U.2+2 + -(-(Q (b+128+1))/Q (64*s.e)):=rfl;have m1:=zJ (show b+128+128+2≤b+128+(b+128+1) by omega)
 rw[jC (b+128) (b+128+1)] at m1;have m2:=zJ (show b+128+(b+128+1)≤16*110 by omega)
 rw[Q_P,jC (b+128) (b+128+1)] at m2;have m3:=zJ (show b+128+1≤b+128+128 by omega)
 have e2:Q (b+128+128+2)=4*Q (b+128+128):=by
  have e:=jC (b+128+128) 2;have e4:Q 2=4:=rfl;rw[e4] at e;omega
 have e3:Q (b+128+1)=2*Q (b+128):=rfl;have k1:=Int.mul_le_mul_of_nonneg_right (show 1≤lmL s.U by omega) (show 0≤Q (b+128) by omega)
 have k2:=Int.mul_le_mul_of_nonneg_right (show 1≤lmH (b+128) s.e s.U by omega) (show 0≤Q (b+128) by omega)
 refine ⟨by omega,by omega,by omega,by omega,by omega,by omega,by omega,by omega,by omega,by omega⟩
theorem lm_x4 {z:Int} (h0:0<z) (h1:z≤1300):z<P 4∧1≤z*Q 11∧z<1*Q (11+1):=by
 have e1:P 4=18446744073709551616:=by decide +kernel
 have e2:Q 11=2048:=rfl;have e3:Q (11+1)=4096:=rfl;rw[e1,e2,e3];omega
namespace Ex
theorem ex1_le (M:Nat):ex 1 M≤3:=by
 have key:∀ m:Nat,E 1 (m+2)≤3-tm 1 (m+1):=fun m=>by
  induction m with
  | zero=>decide +kernel
  | succ m ih =>
   have e:E 1 (m+1+2)=E 1 (m+2)+tm 1 (m+2):=rfl;have s:=kB 1 (m+1);have p:(0:Rat)≤tm 1 (m+2):=kT (by grind) _
   have c:(((m+1:Nat):Rat)+1)=(m:Rat)+2:=by push_cast;grind
   have m0:(0:Rat)≤(m:Rat):=by exact_mod_cast Nat.zero_le m
   rw[c] at s;have q:=Rat.mul_le_mul_of_nonneg_right (show (2:Rat)≤(m:Rat)+2 by grind) p
   rw[e]
   show E 1 (m+2)+tm 1 (m+2)≤3-tm 1 (m+2)
   grind
 match M with
 | 0=>decide +kernel
 | 1=>decide +kernel
 | m+2 =>
  have p:(0:Rat)≤tm 1 (m+1):=kT (by grind) _
  have:=key m
  show E 1 (m+2)≤3
  grind
theorem ex_four (n:Nat):LeN (ex (n:Rat)) (fun _=>(Q (2*n):Rat)):=by
 induction n with
 | zero =>
  refine LeN.of_le 1 fun M hM=>?_
  obtain ⟨m,rfl⟩:∃ m,M=m+1:=⟨M-1,by omega⟩
  have:ex ((0:Nat):Rat) (m+1)=1:=zA9 m;rw[this];exact Rat.le_refl
 | succ n ih =>
  have c:((n+1:Nat):Rat)=(n:Rat)+1:=by push_cast;rfl
  rw[c];have s:=zGA (n:Rat) 1;have l:LeN (ex 1) (fun _=>3):=LeN.of_le 0 fun M _=>ex1_le M
  have q0:=zV (2*n);have m:=ih.mul l (kS 1) (zCQ 1) (Bdd.const _) (Nn.const (Rat.le_of_lt q0));refine (LeN.of_eqN s.symm).trans (m.trans (LeN.of_le 0 fun M _=>?_))
  have e:Q (2*(n+1))=4*Q (2*n):=by
   have h1:=jC (2*n) 2;have h2:Q 2=4:=rfl;have h3:2*n+2=2*(n+1):=by omega
   rw[h2,h3] at h1;omega
  rw[e,Rat.intCast_mul];have c4:((4:Int):Rat)=4:=rfl;rw[c4];generalize (Q (2*n):Rat)=y at *;grind
end Ex
theorem leN_cst {a b:Rat} (h:LeN (fun _=>a) (fun _=>b)):a≤b:=by
 refine Rat.not_lt.1 fun hlt=>?_
 obtain ⟨N,k⟩:=h ((a-b)/2) (by grind)
 have:=k N (Nat.le_refl _);grind
theorem lm_eb {n d:Int} {b x K:Nat} (h:zIV n d b x) (hK:2*x<K) (hK2:K≤25000) (hT:(lmS n d x (b+128) K).T.2≤1):64*(lmS n d x (b+128) K).e≤b+128+2*x+22:=by
 obtain ⟨s1,s2⟩:=zNR (m:=b+128) h hK hT;have ok:=zD5 (m:=b+128) h rfl K hK2;obtain ⟨s,hs⟩:∃ s,s=lmS n d x (b+128) K:=⟨_,rfl⟩;rw[← hs] at s1 ok ⊢;have nr:(0:Rat)<(n:Rat):=by exact_mod_cast h.n0
 have dr:(0:Rat)<(d:Rat):=by exact_mod_cast h.d0
 have a0:=zL nr dr;have x0:(0:Rat)≤(x:Rat):=by exact_mod_cast Nat.zero_le x
 have Qe:=zV (64*s.e);have Qm:=zV (b+128);have hq:=zPS s.e;have hp:0<h64 s.e:=zL (by grind) Qe
 have l1:LeN (fun _=>(n:Rat)/(d:Rat)*((lmL s.U:Rat)/(Q (b+128):Rat))) (fun _=>h64 s.e*(Q (2*x):Rat)):=by
  refine ((s1.cmul (c:=(n:Rat)/(d:Rat)) (Rat.le_of_lt a0)).trans ?_);refine LeN.trans (LeN.of_le 0 fun M _=>?_) ((ex_four x).cmul (c:=h64 s.e) (Rat.le_of_lt hp))
  have u:=uS_E a0 x0 M;have m:=Rat.mul_le_mul_of_nonneg_left u (Rat.le_of_lt hp)
  show (n:Rat)/(d:Rat)*(h64 s.e*uS ((n:Rat)/(d:Rat)) (x:Rat) M)≤h64 s.e*E (x:Rat) M
  grind
 have k:=leN_cst l1;have k2:=Rat.mul_le_mul_of_nonneg_right k (Rat.le_of_lt (Rat.mul_pos (Rat.mul_pos dr Qm) Qe));have dm:=rdm (a:=(n:Rat)) dr;have dl:=rdm (a:=(lmL s.U:Rat)) Qm
 have k3:(n:Rat)*(lmL s.U:Rat)*(Q (64*s.e):Rat)≤(Q (2*x):Rat)*((d:Rat)*(Q (b+128):Rat)):=by
  have r1:(n:Rat)/(d:Rat)*((lmL s.U:Rat)/(Q (b+128):Rat))*((d:Rat)*(Q (b+128):Rat)*(Q (64*s.e):Rat))=(n:Rat)/(d:Rat)*(d:Rat)*((lmL s.U:Rat)/(Q (b+128):Rat)*(Q (b+128):Rat))*(Q (64*s.e):Rat):=by grind
  have r2:h64 s.e*(Q (2*x):Rat)*((d:Rat)*(Q (b+128):Rat)*(Q (64*s.e):Rat))=h64 s.e*(Q (64*s.e):Rat)*((Q (2*x):Rat)*((d:Rat)*(Q (b+128):Rat))):=by grind
  rw[r1,r2,dm,dl,hq] at k2;grind
 have k4:n*lmL s.U*Q (64*s.e)≤Q (2*x)*(d*Q (b+128)):=by exact_mod_cast k3
 have q1:=zG (64*s.e);have q2:=zG (2*x);have q3:=zG (b+128);have u1:=ok.u1;have eL:lmL s.U=s.U.1-2:=rfl;have n0:=h.n0
 have nl:524288≤n*lmL s.U:=by
  have:=Int.mul_le_mul_of_nonneg_right (show 1≤n by omega) (show 0≤lmL s.U by omega)
  omega
 have m1:=Int.mul_le_mul_of_nonneg_right nl (show 0≤Q (64*s.e) by omega)
 have m2:=Int.mul_le_mul_of_nonneg_left (Int.mul_le_mul_of_nonneg_right h.dd (show 0≤Q (b+128) by omega)) (show 0≤Q (2*x) by omega)
 refine Nat.not_lt.1 fun hlt=>?_
 have g:=zJ (show b+128+2*x+23≤64*s.e by omega)
 have e1:Q (b+128+2*x+23)=Q (2*x)*Q (b+128)*8388608:=by
  have h1:=jC (b+128+2*x) 23;have h2:=jC (b+128) (2*x);have h3:Q 23=8388608:=rfl;rw[h1,h2,h3,Int.mul_comm (Q (b+128))]
 have pp:=Int.mul_pos (show 0<Q (2*x) by omega) (show 0<Q (b+128) by omega)
 have r1:Q (2*x)*(2199023255552*Q (b+128))=2199023255552*(Q (2*x)*Q (b+128)):=by grind
 generalize Q (2*x)*Q (b+128)=y at *;omega
theorem lg_abs {n d:Int} {b z e:Nat} (h:zIV n d b z) (he:64*e≤b+128+2*z+22) {a1 b1 a2 b2 a3 b3 a4 b4 zz:Int} (hz:(z:Int)=zz) (h1:Abs (a1,b1) (3*(((b+128:Nat):Int)+1)*Q (b+40))) (h2:Abs (a2,b2) (3*(((b+128:Nat):Int)+1)*Q (b+40))) (h3:Abs (a3,b3) (3*(((1:Nat):Int)+1)*Q (b+40))) (h4:Abs (a4,b4) (3*(((11:Nat):Int)+1)*Q (b+40))) :
  Abs (zN (yH (jJ (jJ (a1,b2) (byI (a3,b3) (64*(e:Int)) 1)) (byI (a4,b4) n d)) (zz*Q (b+40),zz*Q (b+40))) 40) (30000*Q b):=by
 have q:=zG (b+40);have qb:=zG b;have b1':=h.b1;have z1:=h.x1;have n0:=h.n0;have d0:=h.d0
 have A3:=zIX (n:=64*(e:Int)) (d:=1) (c:=64*(e:Int)) (p:=19200*Q (b+40)) h3 (by decide) (by omega) (Int.le_refl _) (by
  have m:=Int.mul_le_mul_of_nonneg_left (show 64*(e:Int)≤3200 by omega) (show 0≤3*(((1:Nat):Int)+1)*Q (b+40) by omega)
  omega)
 have A4:=zIX (n:=n) (d:=d) (c:=n) (p:=7236*Q (b+40)) h4 d0 (by omega) (Int.le_refl _) (by
  have m:=Int.mul_le_mul_of_nonneg_left h.up (show 0≤3*(((11:Nat):Int)+1)*Q (b+40) by omega)
  have r:3*(((11:Nat):Int)+1)*Q (b+40)*(201*d)=7236*Q (b+40)*d:=by
   have:(((11:Nat):Int)+1)=12:=rfl;rw[this];grind
  omega)
 obtain ⟨x1,x2,x3,x4⟩:=h1;obtain ⟨y1,y2,y3,y4⟩:=h2;obtain ⟨s1,s2,s3,s4⟩:=A3;obtain ⟨t1,t2,t3,t4⟩:=A4;simp only[] at x1 x2 x3 x4 y1 y2 y3 y4;have m1:=Int.mul_le_mul_of_nonneg_right (show 3*(((b+128:Nat):Int)+1)≤1587 by omega) (show 0≤Q (b+40) by omega)
 have m2:=Int.mul_le_mul_of_nonneg_right (show zz≤1300 by omega) (show 0≤Q (b+40) by omega)
 have m3:=Int.mul_nonneg (show 0≤zz by omega) (show 0≤Q (b+40) by omega)
 have e40:Q (b+40)=Q b*Q 40:=jC b 40;obtain ⟨P,hP⟩:∃ P,P=yH (jJ (jJ (a1,b2) (byI (a3,b3) (64*(e:Int)) 1)) (byI (a4,b4) n d)) (zz*Q (b+40),zz*Q (b+40)):=⟨_,rfl⟩;have p1:P.1=a1+(byI (a3,b3) (64*(e:Int)) 1).1+(byI (a4,b4) n d).1-zz*Q (b+40):=by rw[hP];rfl
 have p2:P.2=b2+(byI (a3,b3) (64*(e:Int)) 1).2+(byI (a4,b4) n d).2-zz*Q (b+40):=by rw[hP];rfl
 rw[← hP];have q40:=zG 40;have e3:30000*Q b*Q 40=30000*Q (b+40):=by rw[e40];grind
 have r1:=jD (x:=P.1) (m:=30000*Q b) (q:=Q 40) (by omega) (by rw[e3];omega) (by rw[e3];omega)
 have r2:=jD (x:=P.2) (m:=30000*Q b) (q:=Q 40) (by omega) (by rw[e3];omega) (by rw[e3];omega)
 exact ⟨r1.1,r1.2.1,r2.2.2.1,r2.2.2.2⟩
end Go.Proofs.YtgmnknmjainababGreat
