/-
  Its own texts.
-/
import Derived.Test.YtgmnknmjainababGreatK19
set_option maxRecDepth 100000
set_option maxHeartbeats 8000000
set_option linter.unnecessarySimpa false
set_option linter.unusedSimpArgs false
set_option linter.unusedVariables false
namespace Go.Proofs.YtgmnknmjainababGreat
open Go.RowKit
attribute [local go_sem ↓] Go.wp_at_zero Go.wp_at_succ
open Ex
theorem zG4 (L:Rat→Nat→Rat) (hL:Lns L) (w:World) (n d:Int) (b:Nat) (g:Nat→Rat) (h:zGI n d b) (hg:Gam1 L ((n:Rat)/(d:Rat)) g) :
  Calls Tryz.prog 115 #[.int .i64 n,.int .i64 d,.int .i64 b] w (fun r w'=>∃ lo hi:Int,GaV g b (lo,hi)∧zH w b 70 lo hi r w'):=by
 obtain ⟨W,hW⟩:∃ W,W=(((w.alloc (.cells #[.int .i64 n] 3)).alloc (.cells #[.int .i64 d] 3)).alloc (.cells #[.bool false,.slice none 0 0,.bool false,.slice none 0 0,.int .i64 0] 28)).alloc (.cells #[.int .i64 (b:Int)] 3):=⟨_,rfl⟩;have hBW:Below w.heap.size w W:=by rw[hW];exact bl4 _ _ _ _ _
 have N0:IcC W (w.heap.size) n:=by rw[hW];exact ⟨by simp[go_sem]⟩
 have D0:IcC W (w.heap.size+1) d:=by rw[hW];exact ⟨by simp[go_sem]⟩
 have X0:IcC W (w.heap.size+1+1+1) (b:Int):=by rw[hW];exact ⟨by simp[go_sem]⟩
 have R:NoC W (w.heap.size+1+1):=by rw[hW];constructor <;> simp[go_sem]
 have n0:=h.n0;have nd:=h.nd;have dd:=h.dd;have b0:=h.b0;have b1:=h.b1;have bd0:0≤(b:Int)*d:=Int.mul_nonneg (by omega) (by omega)
 have bd1:(b:Int)*d≤1000*2199023255552:=Int.mul_le_mul (by omega) dd (by omega) (by omega)
 have lX:=X0.lt;have H:=zC h;have HL:=zC hL;have HG:=zC hg;obtain ⟨NS,hNS,hNS2⟩:=ga_set h;obtain ⟨f1,f2,f3,f4⟩:=zBL h
 have PK:∀ j:Nat,j≤22000→Q j<P 1400:=fun j hj=>by
  rw[← Q_P];have h1:=zJ (show j+1≤16*1400 by omega)
  have h2:Q (j+1)=2*Q j:=rfl;have:=zG j;omega
 have HF0:=zC (show (ofI d n b).1≤(ofI d n b).2 ∧ -P 1400<(ofI d n b).1∧(ofI d n b).2<P 1400 by
  have:=PK (b+41) (by omega)
  have:=zG b
  exact ⟨f2,by omega,by omega⟩)
 have HTF:=zC (show ∀ j,j≤NS → -P 1400<(gaT n d b j).1∧(gaT n d b j).2<P 1400 from fun j _=>by
  have e:=zBP h j;have u:=ga_hi h j;have:=PK (21*b+41) (by omega)
  have:=zG (21*b+41)
  exact ⟨by omega,by omega⟩)
 have HTS:=zC (show ∀ j,j≤NS → -P 1400<(jG (gaT n d b) j).1∧(jG (gaT n d b) j).2<P 1400 from fun j hj=>by
  have u:=ga_fit h j (by omega)
  have l:=(zKA h j).2.2.2;have:=PK (21*b+60) (by omega)
  have:=zG b;have:=zG (21*b+60)
  exact ⟨by omega,by omega⟩)
 have HTL:=zC (fun j=>(zBP h j).2)
 have HT0:=zC (fun j=>(zBP h j).1)
 have HM:=zC hNS2
 have HFN:=zC (show ∀ (j:Nat) (u:Sp) w',j<NS→u.bits=(b:Int)→SpAt w' u 1400 (gaT n d b j).1 (gaT n d b j).2→Below W.heap.size W w'→Calls Tryz.prog 165 #[.agg #[.bool u.ln,.slice u.la u.lN u.lc,.bool u.hn,.slice u.ha u.hN u.hc,.int .i64 u.bits],.int .i64 ((j:Int)+1),.pointer (some ⟨w.heap.size+1+1+1,0,none⟩),.pointer (some ⟨w.heap.size+1,0,none⟩),.pointer (some ⟨w.heap.size,0,none⟩)] w' (zH w' b 1414 (gaT n d b (j+1)).1 (gaT n d b (j+1)).2) from fun j u w' hj hub hup hbw=>by
  have e:=ga1_iv w' (w.heap.size+1+1+1) (w.heap.size+1) (w.heap.size) u (b:Int) d n 1400 b ((j:Int)+1) (gaT n d b j) hup (X0.bw hbw) (D0.bw hbw) (N0.bw hbw) (by omega) hub bd0 (by omega) (Int.mul_nonneg (by omega) (by omega)) (by
   have:=Int.mul_le_mul (show (j:Int)+1≤70000 by omega) dd (by omega) (by omega)
   omega) n0 (by omega)
  have ec:((j+1:Nat):Int)=(j:Int)+1:=by omega
  have e2:gaT n d b (j+1)=zE (gaT n d b j) ((b:Int)*d) (n+((j+1:Nat):Int)*d):=rfl;rw[e2,ec]
  exact e)
 have HE1:=zC (show IntKind.i64.wrap (2*(b:Int))=((2*b:Nat):Int) from (jO _ (by omega) (by omega)).trans (by omega))
 have HK:=zC (show ∀ w',Below W.heap.size W w'→(w'.cell? ⟨w.heap.size,0,none⟩=some (.int .i64 n)∧w'.cell? ⟨w.heap.size+1,0,none⟩=some (.int .i64 d)∧w'.cell? ⟨w.heap.size+1+1+1,0,none⟩=some (.int .i64 (b:Int))) from fun w' hB=>⟨(N0.bw hB).c0,(D0.bw hB).c0,(X0.bw hB).c0⟩)
 clear h hL hg hNS2 PK f1 f2 f3 f4;have lR:=R.lt
 go_enter Tryz.func115,Tryz.ntmps115
 go_wp2;rw[← hW];clear hW
 go_cut [8] (fun p wx=>∃ (B:Nat) (u:Sp),p=.pointer (some ⟨B,0,none⟩)∧W.heap.size≤B∧VrC wx B u∧SpAt wx u 1403 (jR n d b NS).1 (jR n d b NS).2∧u.bits=(b:Int)∧Below W.heap.size W wx)
 case first =>
  go_region_held3 (fun w'=>w'.cell? ⟨w.heap.size,0,none⟩=some (.int .i64 n)∧w'.cell? ⟨w.heap.size+1,0,none⟩=some (.int .i64 d)∧w'.cell? ⟨w.heap.size+1+1+1,0,none⟩=some (.int .i64 (b:Int))) (exact zA HK _ (by repeat' (first|with_reducible exact hBS4|with_reducible exact hBS3|with_reducible exact hBS2|with_reducible exact hBS1|with_reducible exact Below.refl _ _|with_reducible refine Below.drew ?_|with_reducible refine zK ?_ _|with_reducible refine Below.setCell ?_ (by first|exact Nat.le_refl _|exact hlS1|exact hlS2|exact hlS3|exact hlS4) _)))
   (first
    | (go_at_call 141;have hq:=hBS3;rw[zA HE1];refine (rise_ga _ _ _ (gaT n d b) (2*b) NS b 1400 1414 vS3 _ ((hZS3.bw (by with_reducible first|exact Below.refl _ _|exact bl1 _ _)).fits (K:=1400) (zA HF0).1 (zA HF0).2.1 (zA HF0).2.2) (zA HVBS3) (by omega) (by omega) (by omega) (by omega) (zA HM) (by omega) (by omega) (zA HTL) (zA HT0) (zA HTF) (zA HTS) (fun j u w' hj hub hup hbw=>zA HFN j u w' hj hub hup (zB (by with_reducible first|exact hBS3|exact zK hBS3 _) hbw))).mono ?_;rintro r wS4 ⟨vS4,rfl,hvbS4,hZS4,hbS4⟩;have HVBS4:=zC hvbS4;clear hvbS4;have hCS4:Below wS3.heap.size wS3 wS4:=(by with_reducible first|exact hbS4|exact zB (bl1 _ _) hbS4);have hBS4:=zB hBS3 hCS4;(try with_reducible have gS4:=(zO wS3 28).bw hbS4);replace hZS1:=hZS1.bw hCS4;(try replace gS1:=gS1.bw hCS4);replace hZS2:=hZS2.bw hCS4;(try replace gS2:=gS2.bw hCS4);replace hZS3:=hZS3.bw hCS4;(try replace gS3:=gS3.bw hCS4);have hlS4:=hBS4.size;(try have mS1:=gS1.lt);(try have eS1:=Nat.ne_of_lt mS1);(try have eS1':=Nat.ne_of_gt mS1);(try obtain ⟨zS10,zS11,zS12,zS13,zS14,zS15⟩:=gS1);(try have mS2:=gS2.lt);(try have eS2:=Nat.ne_of_lt mS2);(try have eS2':=Nat.ne_of_gt mS2);(try obtain ⟨zS20,zS21,zS22,zS23,zS24,zS25⟩:=gS2);(try have mS3:=gS3.lt);(try have eS3:=Nat.ne_of_lt mS3);(try have eS3':=Nat.ne_of_gt mS3);(try obtain ⟨zS30,zS31,zS32,zS33,zS34,zS35⟩:=gS3);(try have mS4:=gS4.lt);(try have eS4:=Nat.ne_of_lt mS4);(try have eS4':=Nat.ne_of_gt mS4);(try obtain ⟨zS40,zS41,zS42,zS43,zS44,zS45⟩:=gS4))
    | (go_at_call 140;have hq:=hBS2;refine (zAR _ _ _ _ _ _ _ _ 4 4 b d n _ (hZS1.bw (by with_reducible first|exact Below.refl _ _|exact bl1 _ _)) (hZS2.bw (by with_reducible first|exact Below.refl _ _|exact bl1 _ _)) (by omega) (by omega) n0).mono ?_;rintro r wS3 ⟨vS3,rfl,hvbS3,hZS3,hbS3⟩;have HVBS3:=zC hvbS3;clear hvbS3;have hCS3:Below wS2.heap.size wS2 wS3:=(by with_reducible first|exact hbS3|exact zB (bl1 _ _) hbS3);have hBS3:=zB hBS2 hCS3;(try with_reducible have gS3:=(zO wS2 28).bw hbS3);replace hZS1:=hZS1.bw hCS3;(try replace gS1:=gS1.bw hCS3);replace hZS2:=hZS2.bw hCS3;(try replace gS2:=gS2.bw hCS3);have hlS3:=hBS3.size)
    | (go_at_call 43;have hq:=hBS1;refine (zD n _ (by omega) (by omega)).mono ?_;rintro r wS2 ⟨negS2,aS2,nS2,cS2,rfl,hZS2,hbS2⟩;have hCS2:Below wS1.heap.size wS1 wS2:=(by with_reducible first|exact hbS2|exact zB (bl1 _ _) hbS2);have hBS2:=zB hBS1 hCS2;(try with_reducible have gS2:=(zO wS1 28).bw hbS2);replace hZS1:=hZS1.bw hCS2;(try replace gS1:=gS1.bw hCS2);have hlS2:=hBS2.size)
    | (go_at_call 43;refine (zD d _ (by omega) (by omega)).mono ?_;rintro r wS1 ⟨negS1,aS1,nS1,cS1,rfl,hZS1,hbS1⟩;have hBS1:Below W.heap.size W wS1:=(by with_reducible first|exact zB (Below.refl _ _).drew hbS1|exact zB (bl1 _ _).drew hbS1);(try with_reducible have gS1:=((zO W 28).bw (Below.refl _ _).drew).bw hbS1);have hlS1:=hBS1.size))
  all_goals
   have hfinS:SpAt wS4 vS4 1403 (jR n d b NS).1 (jR n d b NS).2:=hZS4;go_wp2_with fail;go_meet;refine ⟨_,vS4,rfl,?_,⟨⟨?_,?_,?_,?_,?_⟩,?_⟩,?_,zA HVBS4,?_⟩
   ·first|exact Nat.le_refl _|exact hlS1|exact hlS2|exact hlS3|exact hlS4
   ·simp[go_sem, *]
   ·simp[go_sem, *]
   ·simp[go_sem, *]
   ·simp[go_sem, *]
   ·simp[go_sem, *]
   ·intro o;simp[go_sem, *]
   ·first|with_reducible exact SpAt.put5 hfinS zS40 zS41 zS42 zS43 zS44 _ _ _ _ _|with_reducible exact SpAt.put5 hfinS zS30 zS31 zS32 zS33 zS34 _ _ _ _ _|with_reducible exact SpAt.put5 hfinS zS20 zS21 zS22 zS23 zS24 _ _ _ _ _|with_reducible exact SpAt.put5 hfinS zS10 zS11 zS12 zS13 zS14 _ _ _ _ _|with_reducible exact hfinS.bw (bl1 _ _)
   ·repeat' (first|with_reducible exact hBS4|with_reducible exact hBS3|with_reducible exact hBS2|with_reducible exact hBS1|with_reducible exact Below.refl _ _|with_reducible refine Below.drew ?_|with_reducible refine zK ?_ _|with_reducible refine Below.setCell ?_ (by first|exact Nat.le_refl _|exact hlS1|exact hlS2|exact hlS3|exact hlS4) _)
 case rest =>
 obtain ⟨BS,xS,rfl,hHS,XS,hpS,hxbS,hblS⟩:=hcut;obtain ⟨V1,hV1⟩:∃ V,V=wc:=⟨_,rfl⟩;subst hV1;replace N0:=N0.bw hblS;replace D0:=D0.bw hblS;replace X0:=X0.bw hblS;replace R:=R.bw hblS;replace hBW:=zB hBW hblS;have HSB:=zC hxbS;have HSP:=zC hpS;have lS:=XS.lt;clear hxbS hpS HK HTF HTS HTL HT0 HFN HF0 HE1;have HK:=zC (show ∀ w',Below V1.heap.size V1 w'→(w'.cell? ⟨w.heap.size,0,none⟩=some (.int .i64 n)∧w'.cell? ⟨w.heap.size+1,0,none⟩=some (.int .i64 d)∧w'.cell? ⟨w.heap.size+1+1+1,0,none⟩=some (.int .i64 (b:Int))) from fun w' hB=>⟨(N0.bw hB).c0,(D0.bw hB).c0,(X0.bw hB).c0⟩)
 have HQ4:=zC (show Q (b+4)<P 500 by
  rw[← Q_P];have h1:=zJ (show b+4+1≤16*500 by omega)
  have h2:Q (b+4+1)=2*Q (b+4):=rfl;have:=zG (b+4)
  omega)
 have d0:0<d:=by omega
 go_wp2_with fail
 go_cut [9] (fun p wx=>∃ (B:Nat) (u:Sp) (o:Int × Int),p=.pointer (some ⟨B,0,none⟩)∧zO2 L b o∧V1.heap.size≤B∧VrC wx B u∧SpAt wx u 534 (zE o n d).1 (zE o n d).2∧u.bits=(b:Int)∧Below V1.heap.size V1 wx)
 case first =>
  go_region_held3 (fun w'=>w'.cell? ⟨w.heap.size,0,none⟩=some (.int .i64 n)∧w'.cell? ⟨w.heap.size+1,0,none⟩=some (.int .i64 d)∧w'.cell? ⟨w.heap.size+1+1+1,0,none⟩=some (.int .i64 (b:Int))) (exact zA HK _ (by repeat' (first|with_reducible exact hBY6|with_reducible exact hBY5|with_reducible exact hBY4|with_reducible exact hBY3|with_reducible exact hBY2|with_reducible exact hBY1|with_reducible exact Below.refl _ _|with_reducible refine Below.drew ?_|with_reducible refine zK ?_ _|with_reducible refine Below.setCell ?_ (by first|exact Nat.le_refl _|exact hlY1|exact hlY2|exact hlY3|exact hlY4|exact hlY5|exact hlY6) _)))
   (first
    | (go_at_call 143;have hq:=hBY5;refine (zC8 _ vY3 ⟨negY4,aY4,nY4,cY4⟩ ⟨negY5,aY5,nY5,cY5⟩ 520 4 4 b (zFS (zQ (lnT n' d' b) N1) (zQ (lnT 2 1 b) N2) cc) n d ((hZY3.bw (zB hCY4 hCY5)).bw (by with_reducible first|exact Below.refl _ _|exact bl1 _ _)) (hZY4.bw (by with_reducible first|exact Below.refl _ _|exact bl1 _ _)) (hZY5.bw (by with_reducible first|exact Below.refl _ _|exact bl1 _ _)) (by omega) (by omega) d0 (zA HVBY3)).mono ?_;rintro r wY6 ⟨vY6,rfl,hvbY6,hZY6,hbY6⟩;have HVBY6:=zC hvbY6;clear hvbY6;have hCY6:Below wY5.heap.size wY5 wY6:=(by with_reducible first|exact hbY6|exact zB (bl1 _ _) hbY6);have hBY6:=zB hBY5 hCY6;(try with_reducible have gY6:=(zO wY5 28).bw hbY6);replace hZY1:=hZY1.bw hCY6;(try replace gY1:=gY1.bw hCY6);replace hZY2:=hZY2.bw hCY6;(try replace gY2:=gY2.bw hCY6);(try replace gY3:=gY3.bw hCY6);replace hZY4:=hZY4.bw hCY6;(try replace gY4:=gY4.bw hCY6);replace hZY5:=hZY5.bw hCY6;(try replace gY5:=gY5.bw hCY6);have hlY6:=hBY6.size;(try have mY1:=gY1.lt);(try have eY1:=Nat.ne_of_lt mY1);(try have eY1':=Nat.ne_of_gt mY1);(try obtain ⟨zY10,zY11,zY12,zY13,zY14,zY15⟩:=gY1);(try have mY2:=gY2.lt);(try have eY2:=Nat.ne_of_lt mY2);(try have eY2':=Nat.ne_of_gt mY2);(try obtain ⟨zY20,zY21,zY22,zY23,zY24,zY25⟩:=gY2);(try have mY3:=gY3.lt);(try have eY3:=Nat.ne_of_lt mY3);(try have eY3':=Nat.ne_of_gt mY3);(try obtain ⟨zY30,zY31,zY32,zY33,zY34,zY35⟩:=gY3);(try have mY4:=gY4.lt);(try have eY4:=Nat.ne_of_lt mY4);(try have eY4':=Nat.ne_of_gt mY4);(try obtain ⟨zY40,zY41,zY42,zY43,zY44,zY45⟩:=gY4);(try have mY5:=gY5.lt);(try have eY5:=Nat.ne_of_lt mY5);(try have eY5':=Nat.ne_of_gt mY5);(try obtain ⟨zY50,zY51,zY52,zY53,zY54,zY55⟩:=gY5);(try have mY6:=gY6.lt);(try have eY6:=Nat.ne_of_lt mY6);(try have eY6':=Nat.ne_of_gt mY6);(try obtain ⟨zY60,zY61,zY62,zY63,zY64,zY65⟩:=gY6))
    | (go_at_call 43;have hq:=hBY4;refine (zD d _ (by omega) (by omega)).mono ?_;rintro r wY5 ⟨negY5,aY5,nY5,cY5,rfl,hZY5,hbY5⟩;have hCY5:Below wY4.heap.size wY4 wY5:=(by with_reducible first|exact hbY5|exact zB (bl1 _ _) hbY5);have hBY5:=zB hBY4 hCY5;(try with_reducible have gY5:=(zO wY4 28).bw hbY5);replace hZY1:=hZY1.bw hCY5;(try replace gY1:=gY1.bw hCY5);replace hZY2:=hZY2.bw hCY5;(try replace gY2:=gY2.bw hCY5);(try replace gY3:=gY3.bw hCY5);replace hZY4:=hZY4.bw hCY5;(try replace gY4:=gY4.bw hCY5);have hlY5:=hBY5.size)
    | (go_at_call 43;have hq:=hBY3;refine (zD n _ (by omega) (by omega)).mono ?_;rintro r wY4 ⟨negY4,aY4,nY4,cY4,rfl,hZY4,hbY4⟩;have hCY4:Below wY3.heap.size wY3 wY4:=(by with_reducible first|exact hbY4|exact zB (bl1 _ _) hbY4);have hBY4:=zB hBY3 hCY4;(try with_reducible have gY4:=(zO wY3 28).bw hbY4);replace hZY1:=hZY1.bw hCY4;(try replace gY1:=gY1.bw hCY4);replace hZY2:=hZY2.bw hCY4;(try replace gY2:=gY2.bw hCY4);(try replace gY3:=gY3.bw hCY4);have hlY4:=hBY4.size)
    | (go_at_call 116;have hq:=hBY2;refine (zBC _ ⟨negY1,aY1,nY1,cY1⟩ ⟨negY2,aY2,nY2,cY2⟩ 4 b 500 (b:Int) 1 (hZY1.bw (by with_reducible first|exact Below.refl _ _|exact bl1 _ _)) (hZY2.bw (by with_reducible first|exact Below.refl _ _|exact bl1 _ _)) (by omega) (by omega) (by omega) (by omega) (by omega) (zA HQ4) (by omega)).mono ?_;rintro r wY3 ⟨n',d',cc,N1,N2,hbal,hc1,hc2,hN1,hN2,vY3,rfl,hvbY3,hZY3,hbY3⟩;have HVBY3:=zC hvbY3;clear hvbY3;have HGL:=zC (gaLog_of (zA HL) (by omega) (by omega) hbal hN1 hN2);clear hbal hc1 hc2 hN1 hN2;have hCY3:Below wY2.heap.size wY2 wY3:=(by with_reducible first|exact hbY3|exact zB (bl1 _ _) hbY3);have hBY3:=zB hBY2 hCY3;(try with_reducible have gY3:=(zO wY2 28).bw hbY3);replace hZY1:=hZY1.bw hCY3;(try replace gY1:=gY1.bw hCY3);replace hZY2:=hZY2.bw hCY3;(try replace gY2:=gY2.bw hCY3);have hlY3:=hBY3.size)
    | (go_at_call 43;have hq:=hBY1;refine (zD 1 _ (by omega) (by omega)).mono ?_;rintro r wY2 ⟨negY2,aY2,nY2,cY2,rfl,hZY2,hbY2⟩;have hCY2:Below wY1.heap.size wY1 wY2:=(by with_reducible first|exact hbY2|exact zB (bl1 _ _) hbY2);have hBY2:=zB hBY1 hCY2;(try with_reducible have gY2:=(zO wY1 28).bw hbY2);replace hZY1:=hZY1.bw hCY2;(try replace gY1:=gY1.bw hCY2);have hlY2:=hBY2.size)
    | (go_at_call 43;refine (zD (b:Int) _ (by omega) (by omega)).mono ?_;rintro r wY1 ⟨negY1,aY1,nY1,cY1,rfl,hZY1,hbY1⟩;have hBY1:Below V1.heap.size V1 wY1:=(by with_reducible first|exact zB (Below.refl _ _).drew hbY1|exact zB (bl1 _ _).drew hbY1);(try with_reducible have gY1:=((zO V1 28).bw (Below.refl _ _).drew).bw hbY1);have hlY1:=hBY1.size))
  all_goals
   have hfinY:SpAt wY6 vY6 534 (zE (zFS (zQ (lnT n' d' b) N1) (zQ (lnT 2 1 b) N2) cc) n d).1 (zE (zFS (zQ (lnT n' d' b) N1) (zQ (lnT 2 1 b) N2) cc) n d).2:=hZY6;go_wp2_with fail;go_meet;refine ⟨_,vY6,_,rfl,zA HGL,?_,⟨⟨?_,?_,?_,?_,?_⟩,?_⟩,?_,zA HVBY6,?_⟩
   ·first|exact Nat.le_refl _|exact hlY1|exact hlY2|exact hlY3|exact hlY4|exact hlY5|exact hlY6
   ·simp[go_sem, *]
   ·simp[go_sem, *]
   ·simp[go_sem, *]
   ·simp[go_sem, *]
   ·simp[go_sem, *]
   ·intro o;simp[go_sem, *]
   ·first|with_reducible exact SpAt.put5 hfinY zY60 zY61 zY62 zY63 zY64 _ _ _ _ _|with_reducible exact SpAt.put5 hfinY zY50 zY51 zY52 zY53 zY54 _ _ _ _ _|with_reducible exact SpAt.put5 hfinY zY40 zY41 zY42 zY43 zY44 _ _ _ _ _|with_reducible exact SpAt.put5 hfinY zY30 zY31 zY32 zY33 zY34 _ _ _ _ _|with_reducible exact SpAt.put5 hfinY zY20 zY21 zY22 zY23 zY24 _ _ _ _ _|with_reducible exact SpAt.put5 hfinY zY10 zY11 zY12 zY13 zY14 _ _ _ _ _|with_reducible exact hfinY.bw (bl1 _ _)
   ·repeat' (first|with_reducible exact hBY6|with_reducible exact hBY5|with_reducible exact hBY4|with_reducible exact hBY3|with_reducible exact hBY2|with_reducible exact hBY1|with_reducible exact Below.refl _ _|with_reducible refine Below.drew ?_|with_reducible refine zK ?_ _|with_reducible refine Below.setCell ?_ (by first|exact Nat.le_refl _|exact hlY1|exact hlY2|exact hlY3|exact hlY4|exact hlY5|exact hlY6) _)
 case rest =>
 obtain ⟨BY,xY,oY,rfl,hGL,hHY,XY,hpY,hxbY,hblY⟩:=hcut;obtain ⟨V2,hV2⟩:∃ V,V=wc:=⟨_,rfl⟩;subst hV2;have XS2:=XS.bw hblY;replace N0:=N0.bw hblY;replace D0:=D0.bw hblY;replace X0:=X0.bw hblY;replace R:=R.bw hblY;replace hBW:=zB hBW hblY;replace HSP:=zC ((zA HSP).bw hblY);have HYB:=zC hxbY;have HYP:=zC hpY;clear hxbY hpY HK XS;have lY:=XY.lt;have lS2:=XS2.lt;have GE:=gaY_ok (zA H) hGL;obtain ⟨l,t,NE,e1,e2,e3,e4,e5⟩:=zNB (B:=b) (e:=11) (by omega) GE.2.1 GE.2.2.2.1
 have GV:=gaG_ok (zA HL) (zA H) (zA HG) hGL (by omega) e4 e5 hNS (zA HM)
 have EO:=gaE_ok (zA H) hGL (show t≤19 by omega) e4 e5
 have SO:=zKG (zA H) hNS
 have HQE:=zC (show Q (b+eb t)<P 500 by
  rw[← Q_P];have ebm:=zEP (show t≤19 by omega)
  have eb19:eb 19=6144:=by decide
  rw[eb19] at ebm;have h1:=zJ (show b+eb t+1≤16*500 by omega)
  have h2:Q (b+eb t+1)=2*Q (b+eb t):=rfl;have:=zG (b+eb t)
  omega)
 have HYF:=zC (show (gaY n d b oY).1≤(gaY n d b oY).2 ∧ -P 500<(gaY n d b oY).1∧(gaY n d b oY).2<P 500 by
  have r:=GE.2.2.2.1;have ra:=zDI GE.2.1;obtain ⟨r1,r2,r3,r4⟩:=ra;have h1:=zJ (show b+11≤16*500 by omega)
  rw[Q_P] at h1
  exact ⟨GE.2.1,by omega,by omega⟩)
 have HGV:=zC GV;have HE5:=zC e1;have HE6:=zC e2;have HE7:=zC e4;have HE8:=zC e5;have ht:t≤1000000:=by omega
 have HDN:=zC (show ¬ ((gaE n d b oY t NE).1≤0∧0≤(gaE n d b oY t NE).2)∧(gaE n d b oY t NE).1≤(gaE n d b oY t NE).2∧(jR n d b NS).1≤(jR n d b NS).2 by
  have:=zG b
  exact ⟨by omega,EO.2.1,SO.2.1⟩)
 clear GE GV EO SO e1 e2 e3 e4 e5 hGL;have HK:=zC (show ∀ w',Below V2.heap.size V2 w'→(w'.cell? ⟨w.heap.size,0,none⟩=some (.int .i64 n)∧w'.cell? ⟨w.heap.size+1,0,none⟩=some (.int .i64 d)∧w'.cell? ⟨w.heap.size+1+1+1,0,none⟩=some (.int .i64 (b:Int))∧w'.cell? ⟨BS,0,none⟩=some (.bool xS.ln)∧w'.cell? ⟨BS,1,none⟩=some (.slice xS.la xS.lN xS.lc)∧w'.cell? ⟨BS,2,none⟩=some (.bool xS.hn)∧w'.cell? ⟨BS,3,none⟩=some (.slice xS.ha xS.hN xS.hc)∧w'.cell? ⟨BS,4,none⟩=some (.int .i64 xS.bits)∧w'.cell? ⟨BY,0,none⟩=some (.bool xY.ln)∧w'.cell? ⟨BY,1,none⟩=some (.slice xY.la xY.lN xY.lc)∧w'.cell? ⟨BY,2,none⟩=some (.bool xY.hn)∧w'.cell? ⟨BY,3,none⟩=some (.slice xY.ha xY.hN xY.hc)∧w'.cell? ⟨BY,4,none⟩=some (.int .i64 xY.bits)) from fun w' hB=>⟨(N0.bw hB).c0,(D0.bw hB).c0,(X0.bw hB).c0,(XS2.c.bw hB).c0,(XS2.c.bw hB).c1,(XS2.c.bw hB).c2,(XS2.c.bw hB).c3,(XS2.c.bw hB).c4,(XY.c.bw hB).c0,(XY.c.bw hB).c1,(XY.c.bw hB).c2,(XY.c.bw hB).c3,(XY.c.bw hB).c4⟩)
 go_wp2_with fail
 go_cut [10] (fun p wx=>∃ (B:Nat) (u:Sp),p=.pointer (some ⟨B,0,none⟩)∧V2.heap.size≤B∧VrC wx B u∧SpAt wx u 1600 (((zEB (jR n d b NS).1 (jR n d b NS).2 (gaE n d b oY t NE).1 (gaE n d b oY t NE).2 b,zE1 (jR n d b NS).1 (jR n d b NS).2 (gaE n d b oY t NE).1 (gaE n d b oY t NE).2 b):Int × Int)).1 (((zEB (jR n d b NS).1 (jR n d b NS).2 (gaE n d b oY t NE).1 (gaE n d b oY t NE).2 b,zE1 (jR n d b NS).1 (jR n d b NS).2 (gaE n d b oY t NE).1 (gaE n d b oY t NE).2 b):Int × Int)).2∧u.bits=(b:Int)∧Below V2.heap.size V2 wx)
 case first =>
  go_region_held3 (fun w'=>w'.cell? ⟨w.heap.size,0,none⟩=some (.int .i64 n)∧w'.cell? ⟨w.heap.size+1,0,none⟩=some (.int .i64 d)∧w'.cell? ⟨w.heap.size+1+1+1,0,none⟩=some (.int .i64 (b:Int))∧w'.cell? ⟨BS,0,none⟩=some (.bool xS.ln)∧w'.cell? ⟨BS,1,none⟩=some (.slice xS.la xS.lN xS.lc)∧w'.cell? ⟨BS,2,none⟩=some (.bool xS.hn)∧w'.cell? ⟨BS,3,none⟩=some (.slice xS.ha xS.hN xS.hc)∧w'.cell? ⟨BS,4,none⟩=some (.int .i64 xS.bits)∧w'.cell? ⟨BY,0,none⟩=some (.bool xY.ln)∧w'.cell? ⟨BY,1,none⟩=some (.slice xY.la xY.lN xY.lc)∧w'.cell? ⟨BY,2,none⟩=some (.bool xY.hn)∧w'.cell? ⟨BY,3,none⟩=some (.slice xY.ha xY.hN xY.hc)∧w'.cell? ⟨BY,4,none⟩=some (.int .i64 xY.bits)) (exact zA HK _ (by repeat' (first|with_reducible exact hBO6|with_reducible exact hBO5|with_reducible exact hBO4|with_reducible exact hBO3|with_reducible exact hBO2|with_reducible exact hBO1|with_reducible exact Below.refl _ _|with_reducible refine Below.drew ?_|with_reducible refine zK ?_ _|with_reducible refine Below.setCell ?_ (by first|exact Nat.le_refl _|exact hlO1|exact hlO2|exact hlO3|exact hlO4|exact hlO5|exact hlO6) _)))
   (first
    | (go_at_call 146;have hq:=hBO5;refine (zE9 _ xS vO5 1403 b _ _ _ _ ((zA HSP).bw (by with_reducible first|exact hBO5|exact zK hBO5 _)) ((show SpAt _ vO5 500 (gaE n d b oY t NE).1 (gaE n d b oY t NE).2 from (hZO5.bw (by with_reducible first|exact Below.refl _ _|exact bl1 _ _))).mono (by omega)) (by omega) (by omega) (zA HSB) (zA HDN).2.2 (zA HDN).1 (zA HDN).2.1).mono ?_;rintro r wO6 ⟨vO6,rfl,hvbO6,hZO6,hbO6⟩;have HVBO6:=zC hvbO6;clear hvbO6;have hCO6:Below wO5.heap.size wO5 wO6:=(by with_reducible first|exact hbO6|exact zB (bl1 _ _) hbO6);have hBO6:=zB hBO5 hCO6;(try with_reducible have gO6:=(zO wO5 28).bw hbO6);replace hZO1:=hZO1.bw hCO6;(try replace gO1:=gO1.bw hCO6);replace hZO2:=hZO2.bw hCO6;(try replace gO2:=gO2.bw hCO6);replace hZO3:=hZO3.bw hCO6;(try replace gO3:=gO3.bw hCO6);replace hZO4:=hZO4.bw hCO6;(try replace gO4:=gO4.bw hCO6);replace hZO5:=hZO5.bw hCO6;(try replace gO5:=gO5.bw hCO6);have hlO6:=hBO6.size;(try have mO1:=gO1.lt);(try have eO1:=Nat.ne_of_lt mO1);(try have eO1':=Nat.ne_of_gt mO1);(try obtain ⟨zO10,zO11,zO12,zO13,zO14,zO15⟩:=gO1);(try have mO2:=gO2.lt);(try have eO2:=Nat.ne_of_lt mO2);(try have eO2':=Nat.ne_of_gt mO2);(try obtain ⟨zO20,zO21,zO22,zO23,zO24,zO25⟩:=gO2);(try have mO3:=gO3.lt);(try have eO3:=Nat.ne_of_lt mO3);(try have eO3':=Nat.ne_of_gt mO3);(try obtain ⟨zO30,zO31,zO32,zO33,zO34,zO35⟩:=gO3);(try have mO4:=gO4.lt);(try have eO4:=Nat.ne_of_lt mO4);(try have eO4':=Nat.ne_of_gt mO4);(try obtain ⟨zO40,zO41,zO42,zO43,zO44,zO45⟩:=gO4);(try have mO5:=gO5.lt);(try have eO5:=Nat.ne_of_lt mO5);(try have eO5':=Nat.ne_of_gt mO5);(try obtain ⟨zO50,zO51,zO52,zO53,zO54,zO55⟩:=gO5);(try have mO6:=gO6.lt);(try have eO6:=Nat.ne_of_lt mO6);(try have eO6':=Nat.ne_of_gt mO6);(try obtain ⟨zO60,zO61,zO62,zO63,zO64,zO65⟩:=gO6))
    | (go_at_call 147;have hq:=hBO4;refine (zF0 _ vO4 500 b t NE (gaY n d b oY) l (SpAt.fits (K:=500) (show SpAt _ vO4 541 (gaY n d b oY).1 (gaY n d b oY).2 from (hZO4.bw (by with_reducible first|exact Below.refl _ _|exact bl1 _ _))) (zA HYF).1 (zA HYF).2.1 (zA HYF).2.2) (zA HVBO4) (zA HYF).1 (by omega) (by omega) (zA HE5) (zA HE6) ht (zA HE7) (zA HE8) (zA HQE) (by omega)).mono ?_;rintro r wO5 ⟨vO5,rfl,hvbO5,hZO5,hbO5⟩;have HVBO5:=zC hvbO5;clear hvbO5;have hCO5:Below wO4.heap.size wO4 wO5:=(by with_reducible first|exact hbO5|exact zB (bl1 _ _) hbO5);have hBO5:=zB hBO4 hCO5;(try with_reducible have gO5:=(zO wO4 28).bw hbO5);replace hZO1:=hZO1.bw hCO5;(try replace gO1:=gO1.bw hCO5);replace hZO2:=hZO2.bw hCO5;(try replace gO2:=gO2.bw hCO5);replace hZO3:=hZO3.bw hCO5;(try replace gO3:=gO3.bw hCO5);replace hZO4:=hZO4.bw hCO5;(try replace gO4:=gO4.bw hCO5);have hlO5:=hBO5.size)
    | (go_at_call 118;have hq:=hBO3;refine (zKY _ vO3 xY 540 b (ofI (b:Int) 1 b) (zE oY n d) ((hZO3.bw (by with_reducible first|exact Below.refl _ _|exact bl1 _ _)).mono (by omega)) (((zA HYP).bw (by with_reducible first|exact hBO3|exact zK hBO3 _)).mono (by omega)) (by omega) (zA HVBO3)).mono ?_;rintro r wO4 ⟨vO4,rfl,hvbO4,hZO4,hbO4⟩;have HVBO4:=zC hvbO4;clear hvbO4;have hCO4:Below wO3.heap.size wO3 wO4:=(by with_reducible first|exact hbO4|exact zB (bl1 _ _) hbO4);have hBO4:=zB hBO3 hCO4;(try with_reducible have gO4:=(zO wO3 28).bw hbO4);replace hZO1:=hZO1.bw hCO4;(try replace gO1:=gO1.bw hCO4);replace hZO2:=hZO2.bw hCO4;(try replace gO2:=gO2.bw hCO4);replace hZO3:=hZO3.bw hCO4;(try replace gO3:=gO3.bw hCO4);have hlO4:=hBO4.size)
    | (go_at_call 140;have hq:=hBO2;refine (zAR _ _ _ _ _ _ _ _ 4 4 b (b:Int) 1 _ (hZO1.bw (by with_reducible first|exact Below.refl _ _|exact bl1 _ _)) (hZO2.bw (by with_reducible first|exact Below.refl _ _|exact bl1 _ _)) (by omega) (by omega) (by omega)).mono ?_;rintro r wO3 ⟨vO3,rfl,hvbO3,hZO3,hbO3⟩;have HVBO3:=zC hvbO3;clear hvbO3;have hCO3:Below wO2.heap.size wO2 wO3:=(by with_reducible first|exact hbO3|exact zB (bl1 _ _) hbO3);have hBO3:=zB hBO2 hCO3;(try with_reducible have gO3:=(zO wO2 28).bw hbO3);replace hZO1:=hZO1.bw hCO3;(try replace gO1:=gO1.bw hCO3);replace hZO2:=hZO2.bw hCO3;(try replace gO2:=gO2.bw hCO3);have hlO3:=hBO3.size)
    | (go_at_call 43;have hq:=hBO1;refine (zD 1 _ (by omega) (by omega)).mono ?_;rintro r wO2 ⟨negO2,aO2,nO2,cO2,rfl,hZO2,hbO2⟩;have hCO2:Below wO1.heap.size wO1 wO2:=(by with_reducible first|exact hbO2|exact zB (bl1 _ _) hbO2);have hBO2:=zB hBO1 hCO2;(try with_reducible have gO2:=(zO wO1 28).bw hbO2);replace hZO1:=hZO1.bw hCO2;(try replace gO1:=gO1.bw hCO2);have hlO2:=hBO2.size)
    | (go_at_call 43;refine (zD (b:Int) _ (by omega) (by omega)).mono ?_;rintro r wO1 ⟨negO1,aO1,nO1,cO1,rfl,hZO1,hbO1⟩;have hBO1:Below V2.heap.size V2 wO1:=(by with_reducible first|exact zB (Below.refl _ _).drew hbO1|exact zB (bl1 _ _).drew hbO1);(try with_reducible have gO1:=((zO V2 28).bw (Below.refl _ _).drew).bw hbO1);have hlO1:=hBO1.size))
  all_goals
   have hfinO:SpAt wO6 vO6 1600 (((zEB (jR n d b NS).1 (jR n d b NS).2 (gaE n d b oY t NE).1 (gaE n d b oY t NE).2 b,zE1 (jR n d b NS).1 (jR n d b NS).2 (gaE n d b oY t NE).1 (gaE n d b oY t NE).2 b):Int × Int)).1 (((zEB (jR n d b NS).1 (jR n d b NS).2 (gaE n d b oY t NE).1 (gaE n d b oY t NE).2 b,zE1 (jR n d b NS).1 (jR n d b NS).2 (gaE n d b oY t NE).1 (gaE n d b oY t NE).2 b):Int × Int)).2:=hZO6.mono (by omega)
   go_wp2_with fail;go_meet;refine ⟨_,vO6,rfl,?_,⟨⟨?_,?_,?_,?_,?_⟩,?_⟩,?_,zA HVBO6,?_⟩
   ·first|exact Nat.le_refl _|exact hlO1|exact hlO2|exact hlO3|exact hlO4|exact hlO5|exact hlO6
   ·simp[go_sem, *]
   ·simp[go_sem, *]
   ·simp[go_sem, *]
   ·simp[go_sem, *]
   ·simp[go_sem, *]
   ·intro o;simp[go_sem, *]
   ·first|with_reducible exact SpAt.put5 hfinO zO60 zO61 zO62 zO63 zO64 _ _ _ _ _|with_reducible exact SpAt.put5 hfinO zO50 zO51 zO52 zO53 zO54 _ _ _ _ _|with_reducible exact SpAt.put5 hfinO zO40 zO41 zO42 zO43 zO44 _ _ _ _ _|with_reducible exact SpAt.put5 hfinO zO30 zO31 zO32 zO33 zO34 _ _ _ _ _|with_reducible exact SpAt.put5 hfinO zO20 zO21 zO22 zO23 zO24 _ _ _ _ _|with_reducible exact SpAt.put5 hfinO zO10 zO11 zO12 zO13 zO14 _ _ _ _ _|with_reducible exact hfinO.bw (bl1 _ _)
   ·repeat' (first|with_reducible exact hBO6|with_reducible exact hBO5|with_reducible exact hBO4|with_reducible exact hBO3|with_reducible exact hBO2|with_reducible exact hBO1|with_reducible exact Below.refl _ _|with_reducible refine Below.drew ?_|with_reducible refine zK ?_ _|with_reducible refine Below.setCell ?_ (by first|exact Nat.le_refl _|exact hlO1|exact hlO2|exact hlO3|exact hlO4|exact hlO5|exact hlO6) _)
 case rest =>
 obtain ⟨BO,xO,rfl,hHO,XO,hpO,hxbO,hblO⟩:=hcut;obtain ⟨V3,hV3⟩:∃ V,V=wc:=⟨_,rfl⟩;subst hV3;have lO:=XO.lt;replace R:=R.bw hblO;replace hBW:=zB hBW hblO;have HOB:=zC hxbO;have HOP:=zC hpO;have HXO:=zC XO;clear hxbO hpO HK X0 N0 D0 XS2 XY;have lR2:=R.lt;have nRO:w.heap.size+1+1<BO:=by omega
 have HKO:=zC (show ∀ w',Below V3.heap.size V3 w'→(w'.cell? ⟨BO,2,none⟩=some (.bool xO.hn)∧w'.cell? ⟨BO,3,none⟩=some (.slice xO.ha xO.hN xO.hc)) from fun w' hB=>⟨(XO.c.bw hB).c2,(XO.c.bw hB).c3⟩)
 have hD0:Below V3.heap.size V3 V3.drew:=(Below.refl _ _).drew;clear XO;go_wp2_with fail;refine AnyL.start (S:=fun w'=>w'.cell? ⟨BO,2,none⟩=some (.bool xO.hn)∧w'.cell? ⟨BO,3,none⟩=some (.slice xO.ha xO.hN xO.hc)) (l:=5) (by kernel_rfl) (zA HKO _ hD0) (fun hHeld=>?_)
 refine AnyL.take (i:=0) (oi:={ dst:=some 42,op:=Go.Op.fieldAddr 28 (Go.Operand.tmp 10) 1,type:=0,pos := "gamma.go:50",after:=#[],guard:=none }) (v:=.pointer (some ⟨BO,2,none⟩)) rfl (by kernel_rfl) (by kernel_rfl) (by kernel_rfl) (by kernel_rfl) (fun _ _ _ h=>h) (Or.inl ⟨by rfl,fun w hSw=>?_⟩) hHeld ?_
 ·obtain ⟨s0,s1⟩:=hSw;go_simp
 try simp only[Act.put,List.setIfInBounds_toArray,List.set_cons_zero,List.set_cons_succ]
 refine AnyL.take (i:=1) (oi:={ dst:=some 43,op:=Go.Op.load 26 (Go.Operand.tmp 42),type:=26,pos := "gamma.go:50",after:=#[{ on:=0,ground:=Go.Ground.data }],guard:=none }) (v:=.agg #[.bool xO.hn,.slice xO.ha xO.hN xO.hc]) rfl (by kernel_rfl) (by kernel_rfl) (by kernel_rfl) (by kernel_rfl) (fun _ _ _ h=>h) (Or.inl ⟨by rfl,fun w hSw=>?_⟩) hHeld ?_
 ·obtain ⟨s0,s1⟩:=hSw;go_simp
 try simp only[Act.put,List.setIfInBounds_toArray,List.set_cons_zero,List.set_cons_succ]
 refine AnyL.one (i:=2) (o:={ dst:=some 44,op:=Go.Op.call { callee:=Go.Callee.value (Go.Operand.func 43),args:=#[Go.Operand.const (Go.Value.int Go.IntKind.i64 1)],argTypes:=#[3] },type:=26,pos := "gamma.go:50",after:=#[],guard:=none }) (by kernel_rfl) rfl (fun Kc hKc=>?_)
 go_simp
 refine (zD 1 _ (by omega) (by omega)).mono ?_
 rintro r' w1 ⟨neg1,a1,n1,c1,rfl,hZ1,hb1⟩;have hD1:=zB hD0 hb1;clear hb1;go_wp2_with fail;refine hKc.out _ _ (zA HKO _ hD1) (fun hHeld=>?_)
 clear hKc Kc
 try simp only[Act.put,List.setIfInBounds_toArray,List.set_cons_zero,List.set_cons_succ]
 refine AnyL.one (i:=3) (o:={ dst:=some 45,op:=Go.Op.call { callee:=Go.Callee.value (Go.Operand.func 65),args:=#[Go.Operand.tmp 43,Go.Operand.tmp 44],argTypes:=#[26,26] },type:=26,pos := "gamma.go:50",after:=#[{ on:=1,ground:=Go.Ground.data },{ on:=2,ground:=Go.Ground.data },{ on:=2,ground:=Go.Ground.chain }],guard:=none }) (by kernel_rfl) rfl (fun Kc hKc=>?_)
 go_simp
 refine (yQ _ _ _ _ _ _ _ _ 1600 4 _ 1 _ ((zA HOP).hi.bw hD1) hZ1 (by omega) (by omega)).mono ?_
 rintro r' w2 ⟨neg2,a2,n2,c2,rfl,hZ2,hb2⟩;have hD2:=zB hD1 hb2;clear hb2 hZ1;go_wp2_with fail;refine hKc.out _ _ (zA HKO _ hD2) (fun hHeld=>?_)
 clear hKc Kc
 try simp only[Act.put,List.setIfInBounds_toArray,List.set_cons_zero,List.set_cons_succ]
 refine AnyL.take (i:=4) (oi:={ dst:=some 46,op:=Go.Op.fieldAddr 28 (Go.Operand.tmp 10) 1,type:=0,pos := "gamma.go:50",after:=#[{ on:=0,ground:=Go.Ground.phase },{ on:=1,ground:=Go.Ground.phase },{ on:=2,ground:=Go.Ground.phase },{ on:=3,ground:=Go.Ground.phase }],guard:=none }) (v:=.pointer (some ⟨BO,2,none⟩)) rfl (by kernel_rfl) (by kernel_rfl) (by kernel_rfl) (by kernel_rfl) (fun _ _ _ h=>h) (Or.inl ⟨by rfl,fun w hSw=>?_⟩) hHeld ?_
 ·obtain ⟨s0,s1⟩:=hSw;go_simp
 try simp only[Act.put,List.setIfInBounds_toArray,List.set_cons_zero,List.set_cons_succ]
 refine AnyL.last (o:={ dst:=none,op:=Go.Op.store 26 (Go.Operand.tmp 46) (Go.Operand.tmp 45),type:=0,pos := "gamma.go:50",after:=#[{ on:=4,ground:=Go.Ground.data },{ on:=3,ground:=Go.Ground.data },{ on:=3,ground:=Go.Ground.chain },{ on:=0,ground:=Go.Ground.phase },{ on:=1,ground:=Go.Ground.phase },{ on:=2,ground:=Go.Ground.phase },{ on:=3,ground:=Go.Ground.phase }],guard:=none }) (by kernel_rfl) rfl (by kernel_rfl) (fun Kc hKc=>?_)
 have V2:=(zA HXO).bw hD2;have lA:=V2.lt;obtain ⟨⟨y0,y1,y2,y3,y4⟩,y5⟩:=V2
 go_simp
 refine hKc.out _ _ ?_;clear hKc Kc;have R2:=R.bw hD2;obtain ⟨V,hV⟩:∃ V,V=((w2.setCell ⟨BO,2,none⟩ (.bool neg2)).setCell ⟨BO,3,none⟩ (.slice a2 n2 c2)):=⟨_,rfl⟩;have R3:NoC V (w.heap.size+1+1):=by rw[hV];exact R2.offH (by omega) _ _
 have A3:VrC V BO ⟨xO.ln,xO.la,xO.lN,xO.lc,neg2,a2,n2,c2,xO.bits⟩:=by rw[hV];exact zG0 ((zA HXO).bw hD2) ⟨neg2,a2,n2,c2⟩
 have i1:IntAt V xO.ln xO.la xO.lN xO.lc 1600 (gaG n d b oY t NE NS).1:=by rw[hV];exact ((zA HOP).lo.bw hD2).putH y2 y3 _ _
 have i2:IntAt V neg2 a2 n2 c2 1601 (gaG n d b oY t NE NS).2:=by rw[hV];exact (show IntAt w2 neg2 a2 n2 c2 1601 (gaG n d b oY t NE NS).2 from hZ2).putH y2 y3 _ _
 have hB3:Below w.heap.size w V:=by rw[hV];exact ((zB hBW hD2).setCell (p:=⟨BO,2,none⟩) (by show w.heap.size≤BO;omega) _).setCell (p:=⟨BO,3,none⟩) (by show w.heap.size≤BO;omega) _
 rw[← hV];clear hV y0 y1 y2 y3 y4 y5 lA;have gv:=zA HGV
 have fit:=SpAt.fits (K:=70) (show SpAt V ⟨xO.ln,xO.la,xO.lN,xO.lc,neg2,a2,n2,c2,xO.bits⟩ 1601 (gaG n d b oY t NE NS).1 (gaG n d b oY t NE NS).2 from ⟨i1.mono (by omega),i2⟩) gv.le (by
  have:=gv.lo;have:=zG b;have:0<P 70:=kN 70;omega) (by
  have h1:=zJ (show b+43+1≤16*70 by omega)
  rw[Q_P] at h1;have h2:Q (b+43+1)=2*Q (b+43):=rfl;have:=zG (b+43);have:=gv.hi
  omega)
 clear gv i1 i2;have lA:=A3.lt;have lR3:=R3.lt;obtain ⟨⟨y0,y1,y2,y3,y4⟩,y5⟩:=A3;obtain ⟨q0,q1,q2,q3,q4,q5⟩:=R3;go_wp2_with fail;refine bodyPost_ret (v:=.agg #[.bool xO.ln,.slice xO.la xO.lN xO.lc,.bool neg2,.slice a2 n2 c2,.int .i64 xO.bits]) (by simp[results,Tryz.results115,go_sem,q0,q1,q2,q3,q4]) rfl ⟨_,_,zA HGV,⟨xO.ln,xO.la,xO.lN,xO.lc,neg2,a2,n2,c2,xO.bits⟩,rfl,zA HOB,?_,?_⟩
 ·exact SpAt.put5 fit q0 q1 q2 q3 q4 _ _ _ _ _
 ·exact jV hB3 (by omega) _ _ _ _ _
theorem fieldG0 (x y:Bool) (a a':Option Addr) (n c n' c':Nat) (b:Int) (w:World):(Instr.field 28 (.agg #[.bool x,.slice a n c,.bool y,.slice a' n' c',.int .i64 b]) 0).run Tryz.prog w=.ok (.agg #[.bool x,.slice a n c]) w:=by kernel_rfl
theorem fieldG1 (x y:Bool) (a a':Option Addr) (n c n' c':Nat) (b:Int) (w:World):(Instr.field 28 (.agg #[.bool x,.slice a n c,.bool y,.slice a' n' c',.int .i64 b]) 1).run Tryz.prog w=.ok (.agg #[.bool y,.slice a' n' c']) w:=by kernel_rfl
theorem zL8 (w:World) (s:Sp) (b:Nat) (a:Int × Int) (hs:SpAt w s 70 a.1 a.2) (hbits:s.bits=(b:Int)) (hb16:40≤b) (hb:b≤1000) (ha:0<a.1) (hal:a.1≤a.2) :
  Calls Tryz.prog 114 #[.agg #[.bool s.ln,.slice s.la s.lN s.lc,.bool s.hn,.slice s.ha s.hN s.hc,.int .i64 s.bits]] w (fun r w'=>∃ (p1 p2 r1 r2:Int) (l1 l2:Nat→Rat),LsIn a b (p1,p2) (r1,r2) l1 l2∧LbOk b (p1,p2)∧LbOk b (r1,r2)∧zH w b 520 p1 r2 r w'):=by
 obtain ⟨W,hW⟩:∃ W,W=(w.alloc (.cells #[.bool s.ln,.slice s.la s.lN s.lc,.bool s.hn,.slice s.ha s.hN s.hc,.int .i64 s.bits] 28)).alloc (.cells #[.bool false,.slice none 0 0,.bool false,.slice none 0 0,.int .i64 0] 28):=⟨_,rfl⟩;have hBW:Below w.heap.size w W:=by rw[hW];exact bl2 _ _ _
 have A:SpC W w.heap.size s:=by rw[hW];constructor <;> simp[go_sem]
 have R:NoC W (w.heap.size+1):=by rw[hW];constructor <;> simp[go_sem]
 have HS:=zC (hs.bw hBW);have HB:=zC hbits;have lR:=R.lt;have lA:=A.lt
 have HQ4:=zC (show Q (b+4)<P 500 by
  rw[← Q_P];have h1:=zJ (show b+4+1≤16*500 by omega)
  have h2:Q (b+4+1)=2*Q (b+4):=rfl;have:=zG (b+4)
  omega)
 have HQ1:=zC (show 0<Q b by have:=zG b;omega)
 have HO:=zC (show 1*Q b=Q b by omega)
 have HA:=zC (show 0<a.1∧0<a.2∧a.1≤a.2 from ⟨ha,by omega,hal⟩)
 have HK:=zC (show ∀ w',Below W.heap.size W w'→(w'.cell? ⟨w.heap.size,0,none⟩=some (.bool s.ln)∧w'.cell? ⟨w.heap.size,1,none⟩=some (.slice s.la s.lN s.lc)∧w'.cell? ⟨w.heap.size,2,none⟩=some (.bool s.hn)∧w'.cell? ⟨w.heap.size,3,none⟩=some (.slice s.ha s.hN s.hc)∧w'.cell? ⟨w.heap.size,4,none⟩=some (.int .i64 s.bits)) from fun w' hB=>⟨(A.bw hB).c0,(A.bw hB).c1,(A.bw hB).c2,(A.bw hB).c3,(A.bw hB).c4⟩)
 clear hs hbits ha hal;have hf0:=fieldG0;have hf1:=fieldG1
 go_enter Tryz.func114,Tryz.ntmps114
 go_wp2;rw[← hW];clear hW lR
 go_cut [3] (fun p wx=>∃ (B:Nat) (u:Nm),p=.pointer (some ⟨B,0,none⟩)∧W.heap.size≤B∧NmC wx B u∧IntAt wx u.neg u.a u.n u.cap 70 (Q b)∧Below W.heap.size W wx)
 case first =>
  have hD0:Below W.heap.size W W.drew:=(Below.refl _ _).drew
  go_region_held3 (fun w'=>w'.cell? ⟨w.heap.size,0,none⟩=some (.bool s.ln)∧w'.cell? ⟨w.heap.size,1,none⟩=some (.slice s.la s.lN s.lc)∧w'.cell? ⟨w.heap.size,2,none⟩=some (.bool s.hn)∧w'.cell? ⟨w.heap.size,3,none⟩=some (.slice s.ha s.hN s.hc)∧w'.cell? ⟨w.heap.size,4,none⟩=some (.int .i64 s.bits)) (exact zA HK _ (by repeat' (first|with_reducible exact hB2|with_reducible exact hB1|with_reducible exact Below.refl _ _|with_reducible refine Below.drew ?_|with_reducible refine zK ?_ _|with_reducible refine Below.setCell ?_ (by first|exact Nat.le_refl _|exact hl1|exact hl2) _)))
   (first
    | (go_at_call 95;have hq:=hB1;refine (zE3 _ _ _ _ _ b 4 1 _ (zA HB) (hZ1.bw (by with_reducible first|exact Below.refl _ _|exact bl1 _ _)) (by omega) (by omega)).mono ?_;rintro r w2 ⟨neg2,a2,n2,c2,rfl,hZ2,hb2⟩;have hC2:Below w1.heap.size w1 w2:=(by with_reducible first|exact hb2|exact zB (bl1 _ _) hb2);have hB2:=zB hB1 hC2;(try with_reducible have g2:=(jW w1 26).bw hb2);(try replace g1:=g1.bw hC2);have hl2:=hB2.size;(try have m1:=g1.lt);(try have m2:=g2.lt);(try obtain ⟨z10,z11,z1f⟩:=g1);(try obtain ⟨z20,z21,z2f⟩:=g2))
    | (go_at_call 43;refine (zD 1 _ (by omega) (by omega)).mono ?_;rintro r w1 ⟨neg1,a1,n1,c1,rfl,hZ1,hb1⟩;have hB1:Below W.heap.size W w1:=(by with_reducible first|exact zB (Below.refl _ _).drew hb1|exact zB (bl1 _ _).drew hb1);(try with_reducible have g1:=((jW W 26).bw (Below.refl _ _).drew).bw hb1);have hl1:=hB1.size))
  all_goals
   have hfin:IntAt w2 neg2 a2 n2 c2 70 (Q b):=by rw[zA HO] at hZ2;exact hZ2.mono (by omega)
   go_wp2_with fail;go_meet;refine ⟨_,⟨neg2,a2,n2,c2⟩,rfl,?_,⟨?_,?_⟩,?_,?_⟩
   ·first|exact Nat.le_refl _|exact hl1|exact hl2
   ·simp[go_sem, *]
   ·simp[go_sem, *]
   ·first|with_reducible exact hfin.put2 z20 z21 _ _|with_reducible exact hfin.put2 z10 z11 _ _|with_reducible exact hfin.bw (bl1 _ _)
   ·repeat' (first|with_reducible exact hB2|with_reducible exact hB1|with_reducible exact Below.refl _ _|with_reducible refine Below.drew ?_|with_reducible refine zK ?_ _|with_reducible refine Below.setCell ?_ (by first|exact Nat.le_refl _|exact hl1|exact hl2) _)
 case rest =>
 obtain ⟨BU,U,rfl,hHU,CU,hU,hblU⟩:=hcut;have lR:=R.lt;have A2:=A.bw hblU;replace R:=R.bw hblU;replace HS:=zC ((zA HS).bw hblU);replace hBW:=zB hBW hblU;have nRU:w.heap.size+1<BU:=by omega
 have HU:=zC hU;have HK2:=zC (show ∀ w',Below wc.heap.size wc w'→(w'.cell? ⟨w.heap.size,0,none⟩=some (.bool s.ln)∧w'.cell? ⟨w.heap.size,1,none⟩=some (.slice s.la s.lN s.lc)∧w'.cell? ⟨w.heap.size,2,none⟩=some (.bool s.hn)∧w'.cell? ⟨w.heap.size,3,none⟩=some (.slice s.ha s.hN s.hc)∧w'.cell? ⟨w.heap.size,4,none⟩=some (.int .i64 s.bits)∧w'.cell? ⟨BU,0,none⟩=some (.bool U.neg)∧w'.cell? ⟨BU,1,none⟩=some (.slice U.a U.n U.cap)) from fun w' hB=>⟨(A2.bw hB).c0,(A2.bw hB).c1,(A2.bw hB).c2,(A2.bw hB).c3,(A2.bw hB).c4,(CU.bw hB).c0,(CU.bw hB).c1⟩)
 have lU:=CU.lt;clear hU HK hblU A2 CU;have n1:w.heap.size+1≠w.heap.size:=by omega
 have n2:w.heap.size+1≠BU:=by omega
 have hD0:Below wc.heap.size wc wc.drew:=(Below.refl _ _).drew;obtain ⟨x0,x1,x2,x3,x4,y0,y1⟩:=zA HK2 _ (Below.refl _ _);go_wp2_with fail
 go_region_held3 (fun w'=>w'.cell? ⟨w.heap.size,0,none⟩=some (.bool s.ln)∧w'.cell? ⟨w.heap.size,1,none⟩=some (.slice s.la s.lN s.lc)∧w'.cell? ⟨w.heap.size,2,none⟩=some (.bool s.hn)∧w'.cell? ⟨w.heap.size,3,none⟩=some (.slice s.ha s.hN s.hc)∧w'.cell? ⟨w.heap.size,4,none⟩=some (.int .i64 s.bits)∧w'.cell? ⟨BU,0,none⟩=some (.bool U.neg)∧w'.cell? ⟨BU,1,none⟩=some (.slice U.a U.n U.cap)) (first|exact zA HK2 _ (by with_reducible first|exact hD0|exact hD2|exact hD1)|go_keep)
  (first
   | (go_at_call 116;have hqq:=hD1;(try rw[zA HB]);refine (zBC _ ⟨s.hn,s.ha,s.hN,s.hc⟩ U 70 b 500 a.2 (Q b) ((zA HS).hi.bw hD1) ((zA HU).bw hD1) (by omega) (zA HA).2.1 (zA HQ1) (by omega) (by omega) (zA HQ4) (by omega)).mono ?_;rintro r' w2 ⟨n2',d2',cc2,N21,N22,hbal2,hc21,hc22,hN21,hN22,v2,rfl,hvb2,hZ2,hb2⟩;have hD2:=zB hD1 hb2;clear hvb2;replace hZ1:=hZ1.bw hb2;have HX2:=zC (And.intro hbal2 (And.intro hc21 (And.intro hc22 (And.intro hN21 hN22))));clear hbal2 hc21 hc22 hN21 hN22;obtain ⟨q0,q1,q2,q3,q4,q5⟩:=R.bw hD2;obtain ⟨i0,i1,i2,i3,i4,j0,j1⟩:=zA HK2 _ hD2)
   | (go_at_call 116;(try rw[zA HB]);refine (zBC _ ⟨s.ln,s.la,s.lN,s.lc⟩ U 70 b 500 a.1 (Q b) ((zA HS).lo.bw hD0) ((zA HU).bw hD0) (by omega) (zA HA).1 (zA HQ1) (by omega) (by omega) (zA HQ4) (by omega)).mono ?_;rintro r' w1 ⟨n1',d1',cc1,N11,N12,hbal1,hc11,hc12,hN11,hN12,v1,rfl,hvb1,hZ1,hb1⟩;have hD1:=zB hD0 hb1;clear hvb1;have HX1:=zC (And.intro hbal1 (And.intro hc11 (And.intro hc12 (And.intro hN11 hN12))));clear hbal1 hc11 hc12 hN11 hN12))
 all_goals
  go_wp2_with fail;have hbb:=zA HB;obtain ⟨bal1,c11,c12,s11,s12⟩:=zA HX1;obtain ⟨bal2,c21,c22,s21,s22⟩:=zA HX2;obtain ⟨l1,g1,i1⟩:=zFB (zA HA).1 (zA HQ1) bal1 b N11 N12;obtain ⟨l2,g2,i2⟩:=zFB (zA HA).2.1 (zA HQ1) bal2 b N21 N22;refine bodyPost_ret (v:=.agg #[.bool v1.ln,.slice v1.la v1.lN v1.lc,.bool v2.hn,.slice v2.ha v2.hN v2.hc,.int .i64 (b:Int)]) (by simp[results,Tryz.results114,go_sem,q0,q1,q2,q3,q4]) rfl ⟨_,_,_,_,l1,l2,⟨(zA HA).1,(zA HA).2.2,g1,g2,i1,i2⟩,lb_of (by omega) hb bal1.1 s11 s12 70 (by omega) c11 c12,lb_of (by omega) hb bal2.1 s21 s22 70 (by omega) c21 c22,⟨v1.ln,v1.la,v1.lN,v1.lc,v2.hn,v2.ha,v2.hN,v2.hc,(b:Int)⟩,rfl,rfl,?_,?_⟩
  ·exact SpAt.put5 (show SpAt _ (⟨v1.ln,v1.la,v1.lN,v1.lc,v2.hn,v2.ha,v2.hN,v2.hc,(b:Int)⟩:Sp) 520 _ _ from ⟨hZ1.lo,hZ2.hi⟩) q0 q1 q2 q3 q4 _ _ _ _ _
  ·exact jV (zB hBW hD2) (Nat.le_succ _) _ _ _ _ _
theorem GaV.pos {g:Nat→Rat} {B:Nat} {a:Int × Int} (h:GaV g B a):0<a.1:=by have:=h.lo;have:=zG B;omega
theorem dbl {b:Int} (m:Nat):∀ {a:Int},0<a→a≤b→b-a≤(m:Int)→∃ i,a*Q i≤b∧b<2*(a*Q i):=by
 have e0:Q 0=1:=rfl
 induction m with
 | zero =>
  intro a h1 h2 h3
  exact ⟨0,by rw[e0];omega,by rw[e0];omega⟩
 | succ m ih =>
  intro a h1 h2 h3
  by_cases h:b<2*a
  ·exact ⟨0,by rw[e0];omega,by rw[e0];omega⟩
  ·obtain ⟨i,g1,g2⟩:=ih (a:=2*a) (by omega) (by omega) (by omega)
   have e:a*Q (i+1)=2*a*Q i:=by show a*(2*Q i)=_;grind
   exact ⟨i+1,by rw[e];exact g1,by rw[e];exact g2⟩
theorem bal_ex {n d:Int} (hn:0<n) (hd:0<d):∃ n' d' k,Bal n d n' d' k:=by
 have e0:Q 0=1:=rfl
 by_cases h:d≤n
 ·obtain ⟨i,h1,h2⟩:=dbl (n-d).toNat hd h (by omega)
  exact ⟨n,_,_,zJ9 (j:=0) (i:=i) hn hd (by rw[e0];omega) rfl h1 h2 (Or.inl rfl)⟩
 ·obtain ⟨i,h1,h2⟩:=dbl (d-n).toNat hn (Int.le_of_lt (Int.not_le.1 h)) (by omega)
  by_cases h3:n*Q i=d
  ·exact ⟨_,d,_,zJ9 (j:=i) (i:=0) hn hd rfl (by rw[e0];omega) (by omega) (by omega) (Or.inr rfl)⟩
  ·have e:n*Q (i+1)=2*(n*Q i):=by show n*(2*Q i)=_;grind
   exact ⟨_,d,_,zJ9 (j:=i+1) (i:=0) hn hd rfl (by rw[e0];omega) (by omega) (by omega) (Or.inr rfl)⟩
theorem log_ex {n d:Int} (hn:0<n) (hd:0<d):∃ l,IsLog l (fun _=>(n:Rat)/(d:Rat)):=by
 obtain ⟨n',d',k,h⟩:=bal_ex hn hd;exact ⟨_,zH0 hd h (zDC h.1) isLog_two⟩
theorem zM6 (a:Int) (h0:0≤a) (h1:a<65536):bits .or .i64 0 a=a:=by
 simp[bits];have e0:(2:Int) ^ IntKind.i64.bits=18446744073709551616:=rfl;have e:a % 2 ^ IntKind.i64.bits=a:=Int.emod_eq_of_lt h0 (by rw[e0];omega)
 rw[e,show max a 0=a by omega]
 exact jO _ (by omega) (by omega)
theorem zOY (neg:Bool) (a:Option Addr) (n cap:Nat) (z:Int) (w:World) (h:IntAt w neg a n cap 1 z) (h0:0≤z) :
  Calls Tryz.prog 158 #[.agg #[.bool neg,.slice a n cap]] w fun r w'=>r=.returned (.int .i64 z)∧Below w.heap.size w w':=by
 obtain ⟨d,g1,g2,g3,g4,g5⟩:=h;have hd:=g1.dgs
 rcases (show n=0∨n=1 by omega) with rfl|rfl
 ·have hz:z=0:=by rw[g5];unfold sgn;split <;> rfl
  subst hz;clear g1 g2 g3 g4 g5 hd h0
  go_enter Tryz.func158,Tryz.ntmps158
  go_wp2_with fail
  go_loopw [3,4] (fun oo ii wr=>oo=.int .i64 0∧ii=.int .i64 (-1)∧Below w.heap.size w wr) (fun _ ii _=>0)
  case atStart=>exact ⟨rfl,by go_num,bl1 _ _⟩
  case round =>
   obtain ⟨rfl,rfl,hB⟩:=hrel;go_wp2_with fail;exact bodyPost_ret (v:=.int .i64 0) (by simp[results,Tryz.results158]) rfl ⟨rfl,hB⟩
 ·have hv:V d 1=d 0:=by show V d 0+d 0*P 0=d 0;show 0+d 0*1=d 0;omega
  have hneg:neg=false:=by
   cases neg
   ·rfl
   ·have h1:=(hd 0).1
    rw[hv] at g5;have:z = -d 0:=g5;have:d 0≠0:=by rcases g2 with g|g;exact absurd g (by omega);exact g
    omega
  subst hneg;have hz:z=d 0:=by rw[g5,hv];rfl
  subst hz;obtain ⟨b1,o1,rfl,l1,hc1⟩:=g1.at_ (by omega)
  have c0:=hc1 0 (by omega)
  have hd0:=(hd 0).1;have hd1:=(hd 0).2;have HO:=zC (zM6 (d 0) hd0 hd1);have H0:=zC (show IntKind.i64.wrap (d 0)=d 0 from jO _ (by omega) (by omega))
  simp only[Nat.add_zero] at c0;clear hc1 g2 g3 g4 g5 hv h0 hd g1
  go_enter Tryz.func158,Tryz.ntmps158
  go_wp2_with fail
  go_loopw [3,4] (fun oo ii wr=>((oo=.int .i64 0∧ii=.int .i64 0)∨(oo=.int .i64 (d 0)∧ii=.int .i64 (-1)))∧Below w.heap.size w wr∧wr.cell? ⟨w.heap.size,1,none⟩=some (.slice (some ⟨b1,o1,none⟩) 1 cap)) (fun _ ii _=>(intOf ii+1).toNat)
  case atStart=>exact ⟨Or.inl ⟨rfl,by go_num⟩,bl1 _ _,by simp[go_sem]⟩
  case round =>
   obtain ⟨hh,hB,hx⟩:=hrel;have c1:wr.cell? ⟨b1,o1,none⟩=some (.int .u16 (d 0)):=(hB.cell (p:=⟨b1,o1,none⟩) l1).trans c0
   rcases hh with ⟨rfl,rfl⟩|⟨rfl,rfl⟩
   ·go_wp2_with fail
    first
     | rw[zA HO]
     | skip
    go_roundw
    case rel=>exact ⟨Or.inr ⟨by first|rfl|(rw[zA HO])|(simp[zA HO]),by go_num⟩,hB,hx⟩
    case measure=>simp[intOf]
   ·go_wp2_with fail
    exact bodyPost_ret (v:=.int .i64 (d 0)) (by simp[results,Tryz.results158]) rfl ⟨rfl,hB⟩
theorem zMY {w:World} {B:Nat} {s:Sp} (h:VrC w B s) (x:Nm):VrC ((w.setCell ⟨B,0,none⟩ (.bool x.neg)).setCell ⟨B,1,none⟩ (.slice x.a x.n x.cap)) B ⟨x.neg,x.a,x.n,x.cap,s.hn,s.ha,s.hN,s.hc,s.bits⟩:=by
 obtain ⟨⟨q0,q1,q2,q3,q4⟩,q5⟩:=h;exact ⟨⟨by simp[go_sem,q0],by simp[go_sem,q1],by simp[go_sem,q2],by simp[go_sem,q3],by simp[go_sem,q4]⟩,fun o=>by rw[zM,zM];exact q5 o⟩
theorem NoC.offLE {w:World} {B B':Nat} (h:NoC w B) (hne:B≠B') (u0 u1:Value):NoC ((w.setCell ⟨B',0,none⟩ u0).setCell ⟨B',1,none⟩ u1) B:=by
 obtain ⟨q0,q1,q2,q3,q4,q5⟩:=h;exact ⟨by simp[go_sem,q0,hne,Ne.symm hne],by simp[go_sem,q1,hne,Ne.symm hne],by simp[go_sem,q2,hne,Ne.symm hne],by simp[go_sem,q3,hne,Ne.symm hne],by simp[go_sem,q4,hne,Ne.symm hne],fun o=>by rw[zM,zM];exact q5 o⟩
theorem IntAt.putLE {w:World} {neg:Bool} {a:Option Addr} {n cap k:Nat} {z:Int} (h:IntAt w neg a n cap k z) {B:Nat} {x0:Bool} {y0:Option Addr} {y1 y2:Nat} (h0:w.cell? ⟨B,0,none⟩=some (.bool x0))
  (h1:w.cell? ⟨B,1,none⟩=some (.slice y0 y1 y2)) (u0 u1:Value):IntAt ((w.setCell ⟨B,0,none⟩ u0).setCell ⟨B,1,none⟩ u1) neg a n cap k z:=by
 have hne:(⟨B,0,none⟩:Addr)≠⟨B,1,none⟩:=by simp
 have h2:(w.setCell ⟨B,0,none⟩ u0).cell? ⟨B,1,none⟩=some (.slice y0 y1 y2):=(World.cell?_setCell_other _ _ _ _ hne).trans h1;exact (h.store h0 (fun _ e=>by cases e) u0).store h2 (fun _ e=>by cases e) u1
theorem zGN (w:World) (b:Nat) (hb:b≤100000) :
  Calls Tryz.prog 157 #[.int .i64 b] w (zH w b (b/16+30) (Q b-1) (Q b)):=by
 obtain ⟨W,hW⟩:∃ W,W=w.alloc (.cells #[.bool false,.slice none 0 0,.bool false,.slice none 0 0,.int .i64 0] 28):=⟨_,rfl⟩;have hBW:Below w.heap.size w W:=by rw[hW];exact bl1 _ _
 have R:NoC W w.heap.size:=by rw[hW];constructor <;> simp[go_sem]
 have HO1:=zC (show 1*Q b/1=Q b by rw[Int.ediv_one];omega)
 have HO2:=zC (show -(-(1*Q b)/1)=Q b by rw[Int.ediv_one];omega)
 go_enter Tryz.func157,Tryz.ntmps157
 go_wp2_with fail;rw[← hW];clear hW;refine (zE7 _ b (by omega)).mono ?_
 rintro r' w1 ⟨v1,rfl,hvb1,hs1,hb1⟩;replace R:=R.bw hb1;replace hBW:=zB hBW hb1;have lR1:=R.lt;have HB:=zC hvb1;clear hvb1 hb1;obtain ⟨V1,hV1⟩:∃ V,V=w1.alloc (.cells #[.bool v1.ln,.slice v1.la v1.lN v1.lc,.bool v1.hn,.slice v1.ha v1.hN v1.hc,.int .i64 v1.bits] 28):=⟨_,rfl⟩;have bV:Below w1.heap.size w1 V1:=by rw[hV1];exact bl1 _ _
 have A:VrC V1 w1.heap.size v1:=by rw[hV1];exact ⟨yP _ _ _,fun o=>by simp[go_sem]⟩
 have HS:=zC (show SpAt V1 v1 (b/16+24) (Q b) (Q b) from by have:=hs1.bw bV;rw[zA HO1,zA HO2] at this;exact this)
 replace R:=R.bw bV;replace hBW:=zB hBW bV;have HBW:=zC hBW;have HA:=zC A;have HR:=zC R;have hD0:Below V1.heap.size V1 V1.drew:=(Below.refl _ _).drew;have HK:=zC (show ∀ w',Below V1.heap.size V1 w'→(w'.cell? ⟨w1.heap.size,0,none⟩=some (.bool v1.ln)∧w'.cell? ⟨w1.heap.size,1,none⟩=some (.slice v1.la v1.lN v1.lc)) from fun w' hB=>⟨(A.bw hB).c.c0,(A.bw hB).c.c1⟩)
 clear hs1 A R hBW bV;go_wp2_with fail;rw[← hV1];clear hV1;refine AnyL.start (S:=fun w'=>w'.cell? ⟨w1.heap.size,0,none⟩=some (.bool v1.ln)∧w'.cell? ⟨w1.heap.size,1,none⟩=some (.slice v1.la v1.lN v1.lc)) (l:=5) (by kernel_rfl) (zA HK _ hD0) (fun hHeld=>?_)
 refine AnyL.take (i:=0) (oi:={ dst:=some 6,op:=Go.Op.fieldAddr 28 (Go.Operand.tmp 3) 0,type:=0,pos := "part.go:60",after:=#[],guard:=none }) (v:=.pointer (some ⟨w1.heap.size,0,none⟩)) rfl (by kernel_rfl) (by kernel_rfl) (by kernel_rfl) (by kernel_rfl) (fun _ _ _ h=>h) (Or.inl ⟨by rfl,fun w hSw=>?_⟩) hHeld ?_
 ·obtain ⟨s0,s1⟩:=hSw;go_simp
 try simp only[Act.put,List.setIfInBounds_toArray,List.set_cons_zero,List.set_cons_succ]
 refine AnyL.take (i:=1) (oi:={ dst:=some 7,op:=Go.Op.load 26 (Go.Operand.tmp 6),type:=26,pos := "part.go:60",after:=#[{ on:=0,ground:=Go.Ground.data }],guard:=none }) (v:=.agg #[.bool v1.ln,.slice v1.la v1.lN v1.lc]) rfl (by kernel_rfl) (by kernel_rfl) (by kernel_rfl) (by kernel_rfl) (fun _ _ _ h=>h) (Or.inl ⟨by rfl,fun w hSw=>?_⟩) hHeld ?_
 ·obtain ⟨s0,s1⟩:=hSw;go_simp
 try simp only[Act.put,List.setIfInBounds_toArray,List.set_cons_zero,List.set_cons_succ]
 refine AnyL.one (i:=2) (o:={ dst:=some 8,op:=Go.Op.call { callee:=Go.Callee.value (Go.Operand.func 43),args:=#[Go.Operand.const (Go.Value.int Go.IntKind.i64 1)],argTypes:=#[3] },type:=26,pos := "part.go:60",after:=#[],guard:=none }) (by kernel_rfl) rfl (fun Kc hKc=>?_)
 go_simp
 refine (zD 1 _ (by omega) (by omega)).mono ?_
 rintro r' w2 ⟨neg2,a2,n2,c2,rfl,hZ2,hb2⟩;have hD1:=zB hD0 hb2;clear hb2;go_wp2_with fail;refine hKc.out _ _ (zA HK _ hD1) (fun hHeld=>?_)
 clear hKc Kc
 try simp only[Act.put,List.setIfInBounds_toArray,List.set_cons_zero,List.set_cons_succ]
 refine AnyL.one (i:=3) (o:={ dst:=some 9,op:=Go.Op.call { callee:=Go.Callee.value (Go.Operand.func 72),args:=#[Go.Operand.tmp 7,Go.Operand.tmp 8],argTypes:=#[26,26] },type:=26,pos := "part.go:60",after:=#[{ on:=1,ground:=Go.Ground.data },{ on:=2,ground:=Go.Ground.data },{ on:=2,ground:=Go.Ground.chain }],guard:=none }) (by kernel_rfl) rfl (fun Kc hKc=>?_)
 go_simp
 refine (zAL _ _ _ _ _ _ _ _ (b/16+24) 4 (Q b) 1 _ ((zA HS).lo.bw hD1) hZ2 (by omega) (by omega)).mono ?_
 rintro r' w3 ⟨neg3,a3,n3,c3,rfl,hZ3,hb3⟩;have hD2:=zB hD1 hb3;clear hb3;go_wp2_with fail;refine hKc.out _ _ (zA HK _ hD2) (fun hHeld=>?_)
 clear hKc Kc
 try simp only[Act.put,List.setIfInBounds_toArray,List.set_cons_zero,List.set_cons_succ]
 refine AnyL.take (i:=4) (oi:={ dst:=some 10,op:=Go.Op.fieldAddr 28 (Go.Operand.tmp 3) 0,type:=0,pos := "part.go:60",after:=#[{ on:=0,ground:=Go.Ground.phase },{ on:=1,ground:=Go.Ground.phase },{ on:=2,ground:=Go.Ground.phase },{ on:=3,ground:=Go.Ground.phase }],guard:=none }) (v:=.pointer (some ⟨w1.heap.size,0,none⟩)) rfl (by kernel_rfl) (by kernel_rfl) (by kernel_rfl) (by kernel_rfl) (fun _ _ _ h=>h) (Or.inl ⟨by rfl,fun w hSw=>?_⟩) hHeld ?_
 ·obtain ⟨s0,s1⟩:=hSw;go_simp
 try simp only[Act.put,List.setIfInBounds_toArray,List.set_cons_zero,List.set_cons_succ]
 refine AnyL.last (o:={ dst:=none,op:=Go.Op.store 26 (Go.Operand.tmp 10) (Go.Operand.tmp 9),type:=0,pos := "part.go:60",after:=#[{ on:=4,ground:=Go.Ground.data },{ on:=3,ground:=Go.Ground.data },{ on:=3,ground:=Go.Ground.chain },{ on:=0,ground:=Go.Ground.phase },{ on:=1,ground:=Go.Ground.phase },{ on:=2,ground:=Go.Ground.phase },{ on:=3,ground:=Go.Ground.phase }],guard:=none }) (by kernel_rfl) rfl (by kernel_rfl) (fun Kc hKc=>?_)
 have V2:=(zA HA).bw hD2;have lA:=V2.lt;obtain ⟨⟨y0,y1,y2,y3,y4⟩,y5⟩:=V2
 go_simp
 refine hKc.out _ _ ?_;clear hKc Kc;have R2:=(zA HR).bw hD2;obtain ⟨V,hV⟩:∃ V,V=((w3.setCell ⟨w1.heap.size,0,none⟩ (.bool neg3)).setCell ⟨w1.heap.size,1,none⟩ (.slice a3 n3 c3)):=⟨_,rfl⟩;have R3:NoC V w.heap.size:=by rw[hV];exact R2.offLE (by omega) _ _
 have A3:VrC V w1.heap.size ⟨neg3,a3,n3,c3,v1.hn,v1.ha,v1.hN,v1.hc,v1.bits⟩:=by rw[hV];exact zMY ((zA HA).bw hD2) ⟨neg3,a3,n3,c3⟩
 have i1:IntAt V neg3 a3 n3 c3 (b/16+30) (Q b-1):=by rw[hV];exact (hZ3.mono (by omega)).putLE y0 y1 _ _
 have i2:IntAt V v1.hn v1.ha v1.hN v1.hc (b/16+30) (Q b):=by rw[hV];exact (((zA HS).hi.bw hD2).mono (by omega)).putLE y0 y1 _ _
 have hB3:Below w.heap.size w V:=by rw[hV];exact ((zB (zA HBW) hD2).setCell (p:=⟨w1.heap.size,0,none⟩) (Nat.le_of_lt lR1) _).setCell (p:=⟨w1.heap.size,1,none⟩) (Nat.le_of_lt lR1) _
 rw[← hV];clear hV y0 y1 y2 y3 y4 y5 lA;have lA:=A3.lt;have lR:=R3.lt;obtain ⟨⟨y0,y1,y2,y3,y4⟩,y5⟩:=A3;obtain ⟨q0,q1,q2,q3,q4,q5⟩:=R3;go_wp2_with fail;refine bodyPost_ret (v:=.agg #[.bool neg3,.slice a3 n3 c3,.bool v1.hn,.slice v1.ha v1.hN v1.hc,.int .i64 v1.bits]) (by simp[results,Tryz.results157,go_sem,q0,q1,q2,q3,q4]) rfl ⟨⟨neg3,a3,n3,c3,v1.hn,v1.ha,v1.hN,v1.hc,v1.bits⟩,rfl,zA HB,?_,?_⟩
 ·exact SpAt.put5 (show SpAt V ⟨neg3,a3,n3,c3,v1.hn,v1.ha,v1.hN,v1.hc,v1.bits⟩ (b/16+30) (Q b-1) (Q b) from ⟨i1,i2⟩) q0 q1 q2 q3 q4 _ _ _ _ _
 ·exact jV hB3 (Nat.le_refl _) _ _ _ _ _
theorem up_one (neg:Bool) (a:Option Addr) (n cap k1:Nat) (x:Int) (w:World) (h1:IntAt w neg a n cap k1 x) (hk1:k1≤1000000000) :
  Calls Tryz.prog 95 #[.agg #[.bool neg,.slice a n cap],.int .i64 1] w fun r w' =>
   ∃ neg' a' n' cap',r=.returned (.agg #[.bool neg',.slice a' n' cap'])∧IntAt w' neg' a' n' cap' (k1+1) (2*x)∧Below w.heap.size w w' :=
 (zAS neg a n cap 1 k1 x w h1 hk1 (by omega)).mono fun r w' ⟨q1,q2,q3,q4,e,h,hb⟩=>⟨q1,q2,q3,q4,e,by
  have e1:x*Q 1=2*x:=by have:Q 1=2:=rfl;rw[this];omega
  have e2:1/16+k1+1=k1+1:=by omega
  rw[e1,e2] at h;exact h,hb⟩
def zHK (B:Nat) (a:Int × Int):Int × Int:=(Q B-a.2,Q B-a.1)
theorem one_z {b:Nat} (z:Int) (hz:z=(b:Int)) (w:World) (hb:b≤1000000):Calls Tryz.prog 133 #[.int .i64 z] w (zH w b (b/16+24) (1*Q b/1) (-(-(1*Q b)/1))):=by
 subst hz;exact zE7 w b hb
theorem rest_iv (w:World) (s:Sp) (k b:Nat) (a:Int × Int) (hs:SpAt w s k a.1 a.2) (hbits:s.bits=(b:Int)) (hb:b≤100000) (hk0:b/16+24≤k) (hk:k≤100000000) :
  Calls Tryz.prog 70 #[.agg #[.bool s.ln,.slice s.la s.lN s.lc,.bool s.hn,.slice s.ha s.hN s.hc,.int .i64 s.bits]] w (zH w b (k+1) (zHK b a).1 (zHK b a).2):=by
 obtain ⟨W,hW⟩:∃ W,W=(w.alloc (.cells #[.bool s.ln,.slice s.la s.lN s.lc,.bool s.hn,.slice s.ha s.hN s.hc,.int .i64 s.bits] 28)).alloc (.cells #[.bool false,.slice none 0 0,.bool false,.slice none 0 0,.int .i64 0] 28):=⟨_,rfl⟩;have hBW:Below w.heap.size w W:=by rw[hW];exact bl2 _ _ _
 have A:SpC W w.heap.size s:=by rw[hW];constructor <;> simp[go_sem]
 have R:NoC W (w.heap.size+1):=by rw[hW];constructor <;> simp[go_sem]
 have HS:=zC (hs.bw hBW);have HB:=zC hbits;have lA:=A.lt;have lR:=R.lt;have HO:=zC (show (1*Q b/1,-(-(1*Q b)/1))=(Q b,Q b) by rw[Int.ediv_one,Int.ediv_one];simp)
 have hB0:Below W.heap.size W W.drew:=(Below.refl _ _).drew;have HK:=zC (show ∀ w',Below W.heap.size W w'→(w'.cell? ⟨w.heap.size,0,none⟩=some (.bool s.ln)∧w'.cell? ⟨w.heap.size,1,none⟩=some (.slice s.la s.lN s.lc)∧w'.cell? ⟨w.heap.size,2,none⟩=some (.bool s.hn)∧w'.cell? ⟨w.heap.size,3,none⟩=some (.slice s.ha s.hN s.hc)∧w'.cell? ⟨w.heap.size,4,none⟩=some (.int .i64 s.bits)) from fun w' hB=>⟨(A.bw hB).c0,(A.bw hB).c1,(A.bw hB).c2,(A.bw hB).c3,(A.bw hB).c4⟩)
 clear hs hbits
 go_enter Tryz.func70,Tryz.ntmps70
 go_wp2;rw[← hW];clear hW;obtain ⟨x0,x1,x2,x3,x4⟩:=A
 go_region_held3 (fun w'=>w'.cell? ⟨w.heap.size,0,none⟩=some (.bool s.ln)∧w'.cell? ⟨w.heap.size,1,none⟩=some (.slice s.la s.lN s.lc)∧w'.cell? ⟨w.heap.size,2,none⟩=some (.bool s.hn)∧w'.cell? ⟨w.heap.size,3,none⟩=some (.slice s.ha s.hN s.hc)∧w'.cell? ⟨w.heap.size,4,none⟩=some (.int .i64 s.bits)) (first|exact zA HK _ (by with_reducible first|exact hB0|exact hB2|exact hB1)|go_keep)
  (first
   | (go_at_call 118;have hq:=hB1;refine (zKY _ v1 s k b (1*Q b/1,-(-(1*Q b)/1)) a (hvp1.mono hk0) ((zA HS).bw hB1) (by omega) (zA HV)).mono ?_;rintro r w2 ⟨t,rfl,htb,htp,hb2⟩;have HT:=zC htb;clear htb;have hB2:=zB hB1 hb2;obtain ⟨q0,q1,q2,q3,q4,q5⟩:=R.bw hB2;obtain ⟨i0,i1,i2,i3,i4⟩:=zA HK _ hB2)
   | (go_at_call 133;refine (one_z _ (zA HB) _ (by omega)).mono ?_;rintro r w1 ⟨v1,rfl,hvb1,hvp1,hb1⟩;have HV:=zC hvb1;clear hvb1;have hB1:=zB hB0 hb1))
 all_goals
  go_wp2;refine bodyPost_ret (v:=.agg #[.bool t.ln,.slice t.la t.lN t.lc,.bool t.hn,.slice t.ha t.hN t.hc,.int .i64 t.bits]) (by simp[results,Tryz.results70,go_sem,q0,q1,q2,q3,q4]) rfl ⟨t,rfl,zA HT,?_,?_⟩
  ·rw[zA HO] at htp
   exact SpAt.put5 htp q0 q1 q2 q3 q4 _ _ _ _ _
  ·exact jV (zB hBW hB2) (Nat.le_succ _) _ _ _ _ _
theorem sure_nar {b m:Nat} {lo hi L H:Int} (hle:lo≤hi) (e1:L=lo/Q m) (e2:H = -(-hi/Q m)) (h6:H-L≤1∨zID L H (Q b) 4=true):L≤H∧zID L H (Q b) 4=true:=by
 have h7:=zKJ (m:=m) (Kw:=(hi-lo).toNat) hle (by
  have:∀ k:Nat,(k:Int)≤Q k:=fun k=>by
   induction k with
   | zero=>decide
   | succ k ih=>have e:Q (k+1)=2*Q k:=rfl;have:=zG k;omega
  have:=this (hi-lo).toNat
  omega)
 have h8:L≤H:=by rw[e1,e2];omega
 refine ⟨h8,?_⟩
 rcases h6 with h6|h6
 ·exact zF8 h8 (by omega)
 ·exact h6
end Go.Proofs.YtgmnknmjainababGreat
