/-
  Its own texts.
-/
import Derived.Deep.CutBlock
import Derived.Test.YtgmnknmjainababGreatK29
set_option maxRecDepth 100000
set_option maxHeartbeats 8000000
set_option linter.unnecessarySimpa false
set_option linter.unusedSimpArgs false
set_option linter.unusedVariables false
namespace Go.Proofs.YtgmnknmjainababGreat
open Go.RowKit
attribute [local go_sem ↓] Go.wp_at_zero Go.wp_at_succ
open Ex
theorem upId (w:World) (s:Sp) (k b:Nat) (lo hi:Int) (hs:SpAt w s k lo hi) (hbits:s.bits=(b:Int)) :
  Calls Tryz.prog 69 #[.agg #[.bool s.ln,.slice s.la s.lN s.lc,.bool s.hn,.slice s.ha s.hN s.hc,.int .i64 s.bits]] w (zH w b k lo hi):=by
 obtain ⟨W,hW⟩:∃ W,W=(w.alloc (.cells #[.bool s.ln,.slice s.la s.lN s.lc,.bool s.hn,.slice s.ha s.hN s.hc,.int .i64 s.bits] 28)).alloc (.cells #[.bool false,.slice none 0 0,.bool false,.slice none 0 0,.int .i64 0] 28):=⟨_,rfl⟩;have hBW:Below w.heap.size w W:=by rw[hW];exact bl2 _ _ _
 have A:SpC W w.heap.size s:=by rw[hW];constructor <;> simp[go_sem]
 have R:NoC W (w.heap.size+1):=by rw[hW];constructor <;> simp[go_sem]
 have HP:=zC (hs.bw hBW);have HB:=zC hbits;have lA:=A.lt;have lR:=R.lt;obtain ⟨a0,a1,a2,a3,a4⟩:=A;obtain ⟨q0,q1,q2,q3,q4,q5⟩:=R;clear hs hbits
 go_enter Tryz.func69,Tryz.ntmps69
 go_upto_region 1 with fail
 rw[← hW];clear hW;go_wp2_with fail;refine bodyPost_ret (v:=.agg #[.bool s.ln,.slice s.la s.lN s.lc,.bool s.hn,.slice s.ha s.hN s.hc,.int .i64 s.bits]) (by simp[results,Tryz.results69,go_sem,q0,q1,q2,q3,q4]) rfl ⟨s,rfl,zA HB,?_,?_⟩
 ·exact SpAt.put5 (zA HP) q0 q1 q2 q3 q4 _ _ _ _ _
 ·exact jV hBW (Nat.le_succ _) _ _ _ _ _
theorem upm_lo (L G:Rat→Nat→Rat) (X:Int→Int→Nat→Rat) (hE:zIP L G X) (w:World) (B0 B1 B2:Nat) (p q n d bt:Int) (b:Nat) (C0:w.cell? ⟨B0,0,none⟩=some (.func (.func 69) #[] #[])) (A:RaC w B1 p q) (D:RaC w B2 n d) (h:uE p q n d bt=0) (b0:40≤b) (b1:b≤400) :
  Calls Tryz.prog 131 #[.int .i64 (b:Int),.pointer (some ⟨B0,0,none⟩),.pointer (some ⟨B1,0,none⟩),.pointer (some ⟨B2,0,none⟩)] w (fun r w'=>∃ lo hi,zE4 (lwX L p q n d (gmV p q (G (gA p q)))) b lo hi∧zH w b 100 lo hi r w'):=by
 have R:=zO w 28;have l0:B0<w.heap.size:=World.block_lt_of_cell? w ⟨B0,0,none⟩ C0;have l1:=A.lt;have l2:=D.lt;obtain ⟨W,hW⟩:∃ W,W=w.alloc (.cells #[.bool false,.slice none 0 0,.bool false,.slice none 0 0,.int .i64 0] 28):=⟨_,rfl⟩;rw[← hW] at R;have hBW:Below w.heap.size w W:=by rw[hW];exact bl1 _ _
 have C1:W.cell? ⟨B0,0,none⟩=some (.func (.func 69) #[] #[]):=(hBW.cell (p:=⟨B0,0,none⟩) l0).trans C0;have l0':B0<W.heap.size:=World.block_lt_of_cell? W ⟨B0,0,none⟩ C1;replace A:=A.bw hBW;replace D:=D.bw hBW;have HK:=zC (show ∀ w',Below W.heap.size W w'→(w'.cell? ⟨B0,0,none⟩=some (.func (.func 69) #[] #[])∧w'.cell? ⟨B1,0,none⟩=some (.int .i64 p)∧w'.cell? ⟨B1,1,none⟩=some (.int .i64 q)∧w'.cell? ⟨B2,0,none⟩=some (.int .i64 n)∧w'.cell? ⟨B2,1,none⟩=some (.int .i64 d)) from fun w' hB=>⟨(hB.cell (p:=⟨B0,0,none⟩) l0').trans C1,(A.bw hB).c0,(A.bw hB).c1,(D.bw hB).c0,(D.bw hB).c1⟩)
 have HAR:=zC (zPA h b0 b1);have HE:=zC hE;obtain ⟨_,⟨r1,r2,r3,r4⟩,_⟩:=zAV h;have hB0:Below W.heap.size W W.drew:=(Below.refl _ _).drew;have n0:w.heap.size≠B0:=by omega
 have n1:w.heap.size≠B1:=by omega
 have n2:w.heap.size≠B2:=by omega
 have lR:=R.lt;clear C0 C1 A D h hE
 go_enter Tryz.func131,Tryz.ntmps131
 go_wp2_with fail;rw[← hW];clear hW;obtain ⟨x0,x1,x2,x3,x4⟩:=zA HK _ (Below.refl _ _)
 go_region_held3 (fun w'=>w'.cell? ⟨B0,0,none⟩=some (.func (.func 69) #[] #[])∧w'.cell? ⟨B1,0,none⟩=some (.int .i64 p)∧w'.cell? ⟨B1,1,none⟩=some (.int .i64 q)∧w'.cell? ⟨B2,0,none⟩=some (.int .i64 n)∧w'.cell? ⟨B2,1,none⟩=some (.int .i64 d)) (first|exact zA HK _ (by with_reducible first|exact hB0|exact hB4|exact hB3|exact hB2|exact hB1)|go_keep)
  (first
   | (go_at_call 69;have hq:=hB3;refine (upId _ v3 30 b lo hi hZ3 (zA F3)).mono ?_;rintro r w4 ⟨v4,rfl,hvb4,hZ4,hb4⟩;have HPR:=zC (zA HLP);have HFIN:=zC (hZ4.mono (show 30≤100 by omega));have HT:=zC hvb4;clear hvb4 hZ4;have hB4:=zB hB3 hb4;replace HFIN:=zC (zA HFIN);obtain ⟨q0,q1,q2,q3,q4,q5⟩:=R.bw hB4)
   | (go_at_call 132;have hq:=hB2;refine (zJ3 L G X (zA HE) _ ⟨neg1,a1,m1,c1⟩ ⟨neg2,a2,m2,c2⟩ p q n d b (hZ1.bw hb2) hZ2 (zA HAR)).mono ?_;rintro r w3 ⟨lo,hi,hlp,v3,rfl,hvb3,hZ3,hb3⟩;have HLP:=zC hlp;have F3:=zC hvb3;clear hlp hvb3;have hB3:=zB hB2 hb3)
   | (go_at_call 43;have hq:=hB1;refine (zD d _ (by omega) (by omega)).mono ?_;rintro r w2 ⟨neg2,a2,m2,c2,rfl,hZ2,hb2⟩;have hB2:=zB hB1 hb2)
   | (go_at_call 43;refine (zD n _ (by omega) (by omega)).mono ?_;rintro r w1 ⟨neg1,a1,m1,c1,rfl,hZ1,hb1⟩;have hB1:=zB hB0 hb1))
 all_goals
  go_wp2_with fail;refine bodyPost_ret (v:=.agg #[.bool v4.ln,.slice v4.la v4.lN v4.lc,.bool v4.hn,.slice v4.ha v4.hN v4.hc,.int .i64 v4.bits]) (by simp[results,Tryz.results131,go_sem,q0,q1,q2,q3,q4]) rfl ⟨lo,hi,zA HPR,v4,rfl,zA HT,?_,?_⟩
  ·exact SpAt.put5 (zA HFIN) q0 q1 q2 q3 q4 _ _ _ _ _
  ·exact jV (zB hBW hB4) (Nat.le_refl _) _ _ _ _ _
theorem upm_up (L G:Rat→Nat→Rat) (X:Int→Int→Nat→Rat) (hE:zIP L G X) (w:World) (B0 B1 B2:Nat) (p q n d bt:Int) (b:Nat) (C0:w.cell? ⟨B0,0,none⟩=some (.func (.func 70) #[] #[])) (A:RaC w B1 p q) (D:RaC w B2 n d) (h:uE p q n d bt=0) (b0:40≤b) (b1:b≤400) :
  Calls Tryz.prog 131 #[.int .i64 (b:Int),.pointer (some ⟨B0,0,none⟩),.pointer (some ⟨B1,0,none⟩),.pointer (some ⟨B2,0,none⟩)] w (fun r w'=>∃ lo hi,zE4 (fun M=>1-(lwX L p q n d (gmV p q (G (gA p q)))) M) b lo hi∧zH w b 100 lo hi r w'):=by
 have R:=zO w 28;have l0:B0<w.heap.size:=World.block_lt_of_cell? w ⟨B0,0,none⟩ C0;have l1:=A.lt;have l2:=D.lt;obtain ⟨W,hW⟩:∃ W,W=w.alloc (.cells #[.bool false,.slice none 0 0,.bool false,.slice none 0 0,.int .i64 0] 28):=⟨_,rfl⟩;rw[← hW] at R;have hBW:Below w.heap.size w W:=by rw[hW];exact bl1 _ _
 have C1:W.cell? ⟨B0,0,none⟩=some (.func (.func 70) #[] #[]):=(hBW.cell (p:=⟨B0,0,none⟩) l0).trans C0;have l0':B0<W.heap.size:=World.block_lt_of_cell? W ⟨B0,0,none⟩ C1;replace A:=A.bw hBW;replace D:=D.bw hBW;have HK:=zC (show ∀ w',Below W.heap.size W w'→(w'.cell? ⟨B0,0,none⟩=some (.func (.func 70) #[] #[])∧w'.cell? ⟨B1,0,none⟩=some (.int .i64 p)∧w'.cell? ⟨B1,1,none⟩=some (.int .i64 q)∧w'.cell? ⟨B2,0,none⟩=some (.int .i64 n)∧w'.cell? ⟨B2,1,none⟩=some (.int .i64 d)) from fun w' hB=>⟨(hB.cell (p:=⟨B0,0,none⟩) l0').trans C1,(A.bw hB).c0,(A.bw hB).c1,(D.bw hB).c0,(D.bw hB).c1⟩)
 have HAR:=zC (zPA h b0 b1);have HE:=zC hE;obtain ⟨_,⟨r1,r2,r3,r4⟩,_⟩:=zAV h;have hB0:Below W.heap.size W W.drew:=(Below.refl _ _).drew;have n0:w.heap.size≠B0:=by omega
 have n1:w.heap.size≠B1:=by omega
 have n2:w.heap.size≠B2:=by omega
 have lR:=R.lt;clear C0 C1 A D h hE
 go_enter Tryz.func131,Tryz.ntmps131
 go_wp2_with fail;rw[← hW];clear hW;obtain ⟨x0,x1,x2,x3,x4⟩:=zA HK _ (Below.refl _ _)
 go_region_held3 (fun w'=>w'.cell? ⟨B0,0,none⟩=some (.func (.func 70) #[] #[])∧w'.cell? ⟨B1,0,none⟩=some (.int .i64 p)∧w'.cell? ⟨B1,1,none⟩=some (.int .i64 q)∧w'.cell? ⟨B2,0,none⟩=some (.int .i64 n)∧w'.cell? ⟨B2,1,none⟩=some (.int .i64 d)) (first|exact zA HK _ (by with_reducible first|exact hB0|exact hB4|exact hB3|exact hB2|exact hB1)|go_keep)
  (first
   | (go_at_call 70;have hq:=hB3;refine (rest_iv _ v3 60 b (lo,hi) (hZ3.mono (by omega)) (zA F3) (by omega) (by omega) (by omega)).mono ?_;rintro r w4 ⟨v4,rfl,hvb4,hZ4,hb4⟩;have HPR:=zC (lw_rest (zA HLP));have HFIN:=zC (hZ4.mono (show 60+1≤100 by omega));have HT:=zC hvb4;clear hvb4 hZ4;have hB4:=zB hB3 hb4;replace HFIN:=zC (zA HFIN);obtain ⟨q0,q1,q2,q3,q4,q5⟩:=R.bw hB4)
   | (go_at_call 132;have hq:=hB2;refine (zJ3 L G X (zA HE) _ ⟨neg1,a1,m1,c1⟩ ⟨neg2,a2,m2,c2⟩ p q n d b (hZ1.bw hb2) hZ2 (zA HAR)).mono ?_;rintro r w3 ⟨lo,hi,hlp,v3,rfl,hvb3,hZ3,hb3⟩;have HLP:=zC hlp;have F3:=zC hvb3;clear hlp hvb3;have hB3:=zB hB2 hb3)
   | (go_at_call 43;have hq:=hB1;refine (zD d _ (by omega) (by omega)).mono ?_;rintro r w2 ⟨neg2,a2,m2,c2,rfl,hZ2,hb2⟩;have hB2:=zB hB1 hb2)
   | (go_at_call 43;refine (zD n _ (by omega) (by omega)).mono ?_;rintro r w1 ⟨neg1,a1,m1,c1,rfl,hZ1,hb1⟩;have hB1:=zB hB0 hb1))
 all_goals
  go_wp2_with fail;refine bodyPost_ret (v:=.agg #[.bool v4.ln,.slice v4.la v4.lN v4.lc,.bool v4.hn,.slice v4.ha v4.hN v4.hc,.int .i64 v4.bits]) (by simp[results,Tryz.results131,go_sem,q0,q1,q2,q3,q4]) rfl ⟨(zHK b (lo,hi)).1,(zHK b (lo,hi)).2,zA HPR,v4,rfl,zA HT,?_,?_⟩
  ·exact SpAt.put5 (zA HFIN) q0 q1 q2 q3 q4 _ _ _ _ _
  ·exact jV (zB hBW hB4) (Nat.le_refl _) _ _ _ _ _
theorem zKL (p1 p2 p3:Value) (bits Kw KD:Nat) (Pr:Nat→Int→Int→Prop) (W:World) (hb:bits≤120) (hKw:Kw≤900000) (hKD:KD≤100000000) (hE:zKB bits Kw Pr)
  (hF:∀ (m:Nat) w',32≤m→m≤Kw+120→Below W.heap.size W w'→Calls Tryz.prog 131 #[.int .i64 ((bits:Int)+m),p1,p2,p3] w' (fun r w''=>∃ lo hi,Pr (bits+m) lo hi∧zH w' ((bits:Int)+m) KD lo hi r w'')) :
  Calls Tryz.prog 74 #[.int .i64 bits,.func (.func 131) #[] #[p1,p2,p3]] W (fun r w'=>∃ L H,zMX bits Pr L H∧zH W bits 250 L H r w'):=by
 have HF:=zC hF;have HE:=zC hE;clear hF hE;have hR0:=zO W 28
 go_enter Tryz.func74,Tryz.ntmps74
 go_wp2_with fail
 go_loopw [5,6] (fun mm tt wr=>∃ m t:Nat,mm=.int .i64 (m:Int)∧tt=.int .i64 (t:Int)∧SureInv Kw m t∧NoC wr W.heap.size∧Below W.heap.size W wr) (fun mm _ _=>Kw+200-(intOf mm).toNat)
 case atStart=>exact ⟨32,1,rfl,rfl,⟨Nat.le_refl _,Nat.le_refl _,by omega,Or.inl ⟨by omega,by omega⟩⟩,hR0,bl1 _ _⟩
 case round =>
  obtain ⟨m,t,rfl,rfl,hinv,R,hB⟩:=hrel;obtain ⟨hm,ht,htm,hmt⟩:=hinv;have hmK:m≤Kw+120:=by omega
  have HI:=zC hmt;clear hmt;go_wp2_with fail;refine (zA HF m _ hm hmK hB).mono ?_;rintro r w1 ⟨lo,hi,hPr,s,rfl,hsb,hsp,hb1⟩;replace R:=R.bw hb1;replace hB:=zB hB hb1;clear hb1;obtain ⟨e1,e2,e3,e4⟩:=zA HE m lo hi hPr;obtain ⟨v1,v2,v3⟩:=zKJ (m:=m) e1 e2;obtain ⟨f1,f2⟩:=to_fit e3 e4;have HPr:=zC hPr;have HV:=zC (And.intro v2 v3);have hs0:0≤s.bits:=by omega
  have hs1:s.bits≤1000000:=by omega
  have d1:zAU lo (s.bits-bits)=lo/Q m:=by unfold zAU;rw[hsb,if_pos (by omega)];congr 2;omega
  have d2:zAU (-hi) (s.bits-bits) = -hi/Q m:=by unfold zAU;rw[hsb,if_pos (by omega)];congr 2;omega
  have HD1:=zC d1;have HD2:=zC d2;clear hPr e1 e2 e3 e4 v2 v3 d1 d2 hsb;go_wp2_with fail;refine (zMH _ s KD bits lo hi hsp (by omega) hs0 hs1 (by omega) (by omega)).mono ?_
  rintro r w2 ⟨u,rfl,hub,hup,hb2⟩;rw[zA HD1,zA HD2] at hup;obtain ⟨L,hL⟩:∃ L,L=lo/Q m:=⟨_,rfl⟩;obtain ⟨H,hH⟩:∃ H,H = -(-hi/Q m):=⟨_,rfl⟩;rw[← hL,← hH] at hup v1;rw[← hL] at f1;rw[← hH] at f2;have HV2:=zC (show (Kw≤m→H-L≤2)∧(m≤Kw→H-L≤Q (Kw-m)+1) by rw[hL,hH];exact zA HV)
  have HL:=zC hL;have HH:=zC hH;replace hup:=hup.fits (K:=250) (by omega) f1 f2
  replace R:=R.bw hb2;replace hB:=zB hB hb2;have HUB:=zC hub;clear hb2 hL hH hub hs0 hs1 HD1 HD2 HV hsp;have lR:=R.lt;obtain ⟨V,hV⟩:∃ V,V=w2.alloc (.cells #[.bool u.ln,.slice u.la u.lN u.lc,.bool u.hn,.slice u.ha u.hN u.hc,.int .i64 u.bits] 28):=⟨_,rfl⟩;have bV:Below w2.heap.size w2 V:=by rw[hV];exact bl1 _ _
  have U:SpC V w2.heap.size u:=by rw[hV];exact ⟨by simp,by simp,by simp,by simp,by simp⟩
  replace R:=R.bw bV;replace hB:=zB hB bV;replace hup:=hup.bw bV;clear bV;go_wp2_with fail;rw[← hV];clear hV;refine (zAL _ _ _ _ _ _ _ _ 250 250 H L _ hup.hi hup.lo (by omega) (by omega)).mono ?_
  rintro r w3 ⟨neg3,a3,n3,c3,rfl,hZ3,hb3⟩;replace U:=U.bw hb3;replace R:=R.bw hb3;replace hB:=zB hB hb3;replace hup:=hup.bw hb3;clear hb3;go_wp2_with fail;refine (zBM _ _ _ _ _ (H-L) _ hZ3 v1).mono ?_;rintro r w4 ⟨l,hlen,rfl,hb4⟩;replace U:=U.bw hb4;replace R:=R.bw hb4;replace hB:=zB hB hb4;replace hup:=hup.bw hb4;clear hb4 hZ3
  have hlb:0≤l∧l≤Kw+2∧(m≤Kw→l≤Kw-m+2)∧(Kw≤m→l≤2):=by
   obtain ⟨g1,g2⟩:=zA HV2;refine ⟨hlen.1,?_,fun h=>?_,fun h=>?_⟩
   ·rcases Nat.le_total m Kw with h|h
    ·have:=zNQ (K:=Kw-m) hlen (g2 h) v1;omega
    ·have:=zNN hlen (g1 h) v1;omega
   ·have:=zNQ (K:=Kw-m) hlen (g2 h) v1;omega
   ·exact zNN hlen (g1 h) v1
  obtain ⟨hl0,hl1,hl2,hl3⟩:=hlb;have HL2:=zC (And.intro hl2 hl3);have HLen:=zC hlen;clear hl2 hl3 hlen;have lU:=U.lt;have lR2:=R.lt;have nRU:W.heap.size≠w2.heap.size:=by omega
  have nRU':w2.heap.size≠W.heap.size:=by omega
  have HU:=zC U;obtain ⟨x0,x1,x2,x3,x4⟩:=U
  by_cases hc:l≤1
  ·have hN:=R
   obtain ⟨q0,q1,q2,q3,q4,q5⟩:=R;have Hc:=zC hc;go_wp2_with fail;refine bodyPost_ret (v:=.agg #[.bool u.ln,.slice u.la u.lN u.lc,.bool u.hn,.slice u.ha u.hN u.hc,.int .i64 u.bits]) (by simp[results,Tryz.results74,go_sem,q0,q1,q2,q3,q4]) rfl ⟨L,H,⟨m,lo,hi,zA HPr,hm,zA HL,zA HH,Or.inl (zI7 (zA HLen) (zA Hc) v1)⟩,u,rfl,zA HUB,?_,?_⟩
   ·exact SpAt.put5 hup q0 q1 q2 q3 q4 _ _ _ _ _
   ·exact jV hB (Nat.le_refl _) _ _ _ _ _
  ·by_cases ht3:3≤t
   ·have ht3':(3:Int)≤(t:Int):=by omega
    cases hn:zID L H (Q bits) 4
    ·have hmK2:m<Kw:=by
      refine Nat.lt_of_not_le fun h=>?_
      have h5:=(zA HV2).1 h;rw[zF8 (by omega) (by omega)] at hn
      cases hn
     go_wp2_with fail;refine (zF9 _ u bits 4 L H hup (zA HUB) hb (by omega)).mono ?_
     rintro r w5 ⟨rfl,hb5⟩;rw[show zID L H (Q bits) ((4:Nat):Int)=false from hn]
     replace R:=R.bw hb5;replace hB:=zB hB hb5;go_wp2_with fail
     go_roundw
     case rel=>exact ⟨m+l.toNat+32,t+1,by congr 1;omega,by congr 1,⟨by omega,by omega,by omega,Or.inr (by have:=(zA HL2).1;omega)⟩,R,hB⟩
     case measure=>simp[intOf];omega
    ·go_wp2_with fail
     refine (zF9 _ u bits 4 L H hup (zA HUB) hb (by omega)).mono ?_
     rintro r w5 ⟨rfl,hb5⟩;rw[show zID L H (Q bits) ((4:Nat):Int)=true from hn]
     replace R:=R.bw hb5;replace hB:=zB hB hb5;replace hup:=hup.bw hb5;obtain ⟨y0,y1,y2,y3,y4⟩:=(zA HU).bw hb5;obtain ⟨q0,q1,q2,q3,q4,q5⟩:=R;have lU2:=Nat.lt_of_lt_of_le lU hb5.size;have lR3:=Nat.lt_of_lt_of_le lR2 hb5.size;clear hb5 x0 x1 x2 x3 x4;go_wp2_with fail;refine bodyPost_ret (v:=.agg #[.bool u.ln,.slice u.la u.lN u.lc,.bool u.hn,.slice u.ha u.hN u.hc,.int .i64 u.bits]) (by simp[results,Tryz.results74,go_sem,q0,q1,q2,q3,q4]) rfl ⟨L,H,⟨m,lo,hi,zA HPr,hm,zA HL,zA HH,Or.inr hn⟩,u,rfl,zA HUB,?_,?_⟩
     ·exact SpAt.put5 hup q0 q1 q2 q3 q4 _ _ _ _ _
     ·exact jV hB (Nat.le_refl _) _ _ _ _ _
   ·have ht3':¬ (3:Int)≤(t:Int):=by omega
    go_wp2_with fail
    go_roundw
    case rel=>exact ⟨m+l.toNat+32,t+1,by congr 1;omega,by congr 1,⟨by omega,by omega,by omega,by
     have g1:=(zA HL2).1;have g2:=(zA HL2).2;have g3:=zA HI
     rcases Nat.le_total m Kw with h|h
     ·have:=g1 h;exact Or.inr (by omega)
     ·have:=g2 h;exact Or.inl ⟨by omega,by omega⟩⟩,R,hB⟩
    case measure=>simp[intOf];omega
theorem zHI (L G:Rat→Nat→Rat) (X:Int→Int→Nat→Rat) (hE:zIP L G X) (w:World) (p q n d:Int) (b:Nat) (h:uE p q n d b=0) :
  Calls Tryz.prog 68 #[.agg #[.int .i64 p,.int .i64 q],.agg #[.int .i64 n,.int .i64 d],.int .i64 b,.func (.func 69) #[] #[]] w (fun r w'=>∃ LL HH,(SuV (lwX L p q n d (gmV p q (G (gA p q)))) b LL HH∧0≤LL∧HH≤Q b)∧zBX w b 250 LL HH 0 r w'):=by
 obtain ⟨W,hW⟩:∃ W,W=(((w.alloc (.cells #[.int .i64 p,.int .i64 q] 23)).alloc (.cells #[.int .i64 n,.int .i64 d] 23)).alloc (.cells #[.func (.func 69) #[] #[]] 80)).alloc (.cells #[.bool false,.slice none 0 0,.bool false,.slice none 0 0,.int .i64 0] 28):=⟨_,rfl⟩;have hBW:Below w.heap.size w W:=by rw[hW];exact bl4 _ _ _ _ _
 have A:RaC W w.heap.size p q:=by rw[hW];constructor <;> simp[go_sem]
 have D:RaC W (w.heap.size+1) n d:=by rw[hW];constructor <;> simp[go_sem]
 have C0:W.cell? ⟨w.heap.size+1+1,0,none⟩=some (.func (.func 69) #[] #[]):=by rw[hW];simp[go_sem]
 have R:NoC W (w.heap.size+1+1+1):=by rw[hW];constructor <;> simp[go_sem]
 have a0:=A.c0;have a1:=A.c1;have d0:=D.c0;have d1:=D.c1;have HE:=zC hE;have HH0:=zC h;have b5:8≤b:=by have:=(zAV h).2.2.1;omega
 have b6:b≤120:=by have:=(zAV h).2.2.1;omega
 clear h hE
 go_enter Tryz.func68,Tryz.ntmps68
 go_wp2_with fail;rw[← hW];clear hW a0 a1 d0 d1;refine (zJ6 _ p q n d (b:Int)).mono ?_;rintro r w1 ⟨rfl,hb1⟩;rw[zA HH0];have lC:w.heap.size+1+1<W.heap.size:=World.block_lt_of_cell? W ⟨w.heap.size+1+1,0,none⟩ C0;have C1:w1.cell? ⟨w.heap.size+1+1,0,none⟩=some (.func (.func 69) #[] #[]):=(hb1.cell (p:=⟨w.heap.size+1+1,0,none⟩) lC).trans C0;replace A:=A.bw hb1;replace D:=D.bw hb1;replace R:=R.bw hb1;replace hBW:=zB hBW hb1;have HC:=zC C1;have lC1:w.heap.size+1+1<w1.heap.size:=World.block_lt_of_cell? w1 ⟨w.heap.size+1+1,0,none⟩ C1;clear C0 C1 hb1 lC
 have HF:=zC (show ∀ (m:Nat) w',32≤m→m≤89+120→Below w1.heap.size w1 w'→Calls Tryz.prog 131 #[.int .i64 ((b:Int)+m),.pointer (some ⟨w.heap.size+1+1,0,none⟩),.pointer (some ⟨w.heap.size,0,none⟩),.pointer (some ⟨w.heap.size+1,0,none⟩)] w' (fun r w''=>∃ lo hi,zE4 (lwX L p q n d (gmV p q (G (gA p q)))) (b+m) lo hi∧zH w' ((b:Int)+m) 100 lo hi r w'') from fun m w' h1 h2 hbw=>by
  have e:(b:Int)+(m:Int)=((b+m:Nat):Int):=by omega
  rw[e]
  exact upm_lo L G X (zA HE) w' (w.heap.size+1+1) w.heap.size (w.heap.size+1) p q n d (b:Int) (b+m) ((hbw.cell (p:=⟨w.heap.size+1+1,0,none⟩) lC1).trans (zA HC)) (A.bw hbw) (D.bw hbw) (zA HH0) (by omega) (by omega))
 go_wp2_with fail;refine (zKL _ _ _ b 89 100 (zE4 (lwX L p q n d (gmV p q (G (gA p q))))) _ b6 (by omega) (by omega) (zPV _ b6) (zA HF)).mono ?_
 rintro r' w3 ⟨LL,HH,hLH,u,rfl,hub,hup,hb3⟩;have HLH:=zC (zN2 hLH);have HU:=zC hub;have lR:=R.lt;obtain ⟨q0,q1,q2,q3,q4,q5⟩:=R.bw hb3;replace hBW:=zB hBW hb3;clear hub hLH hb3 HF;go_wp2_with fail;refine bodyPost_ret (v:=.tuple #[.agg #[.bool u.ln,.slice u.la u.lN u.lc,.bool u.hn,.slice u.ha u.hN u.hc,.int .i64 u.bits],.int .i64 0]) (by simp[results,Tryz.results68,go_sem,q0,q1,q2,q3,q4]) rfl ⟨LL,HH,zA HLH,u,rfl,zA HU,?_,?_⟩
 ·exact SpAt.put5 hup q0 q1 q2 q3 q4 _ _ _ _ _
 ·exact jV hBW (by omega) _ _ _ _ _
theorem zG2 (w:World) (p q n d bt e:Int) (h:uE p q n d bt=e) (he:e≠0) :
  Calls Tryz.prog 68 #[.agg #[.int .i64 p,.int .i64 q],.agg #[.int .i64 n,.int .i64 d],.int .i64 bt,.func (.func 69) #[] #[]] w (zBX w 0 250 0 0 e):=by
 obtain ⟨W,hW⟩:∃ W,W=(((w.alloc (.cells #[.int .i64 p,.int .i64 q] 23)).alloc (.cells #[.int .i64 n,.int .i64 d] 23)).alloc (.cells #[.func (.func 69) #[] #[]] 80)).alloc (.cells #[.bool false,.slice none 0 0,.bool false,.slice none 0 0,.int .i64 0] 28):=⟨_,rfl⟩;have hBW:Below w.heap.size w W:=by rw[hW];exact bl4 _ _ _ _ _
 have A:RaC W w.heap.size p q:=by rw[hW];constructor <;> simp[go_sem]
 have D:RaC W (w.heap.size+1) n d:=by rw[hW];constructor <;> simp[go_sem]
 have C0:W.cell? ⟨w.heap.size+1+1,0,none⟩=some (.func (.func 69) #[] #[]):=by rw[hW];simp[go_sem]
 have R:NoC W (w.heap.size+1+1+1):=by rw[hW];constructor <;> simp[go_sem]
 have a0:=A.c0;have a1:=A.c1;have d0:=D.c0;have d1:=D.c1;have HH0:=zC h;have c1:(e != 0)=true:=by simp[he]
 clear h
 go_enter Tryz.func68,Tryz.ntmps68
 go_wp2_with fail;rw[← hW];clear hW a0 a1 d0 d1 C0;refine (zJ6 _ p q n d bt).mono ?_;rintro r w1 ⟨rfl,hb1⟩;rw[zA HH0];have lR:=R.lt;obtain ⟨q0,q1,q2,q3,q4,q5⟩:=R.bw hb1;replace hBW:=zB hBW hb1;clear hb1 A D;go_wp2_with fail;refine bodyPost_ret (v:=.tuple #[.agg #[.bool false,.slice none 0 0,.bool false,.slice none 0 0,.int .i64 0],.int .i64 e]) (by simp[results,Tryz.results68,go_sem,q0,q1,q2,q3,q4]) rfl ⟨⟨false,none,0,0,false,none,0,0,0⟩,rfl,rfl,?_,?_⟩
 ·exact SpAt.put5 (⟨zBJ _ _,zBJ _ _⟩) q0 q1 q2 q3 q4 _ _ _ _ _
 ·exact jV hBW (by omega) _ _ _ _ _
theorem zPK (L G:Rat→Nat→Rat) (X:Int→Int→Nat→Rat) (hE:zIP L G X) (w:World) (p q n d:Int) (b:Nat) (h:uE p q n d b=0) :
  Calls Tryz.prog 22 #[.agg #[.int .i64 p,.int .i64 q],.agg #[.int .i64 n,.int .i64 d],.int .i64 b] w (fun r w'=>∃ LL HH,(SuV (lwX L p q n d (gmV p q (G (gA p q)))) b LL HH∧0≤LL∧HH≤Q b)∧zBX w b 250 LL HH 0 r w'):=by
 obtain ⟨W,hW⟩:∃ W,W=((w.alloc (.cells #[.int .i64 p,.int .i64 q] 23)).alloc (.cells #[.int .i64 n,.int .i64 d] 23)).alloc (.cells #[.bool false,.slice none 0 0,.bool false,.slice none 0 0,.int .i64 0] 28):=⟨_,rfl⟩;have hBW:Below w.heap.size w W:=by rw[hW];exact bl3 _ _ _ _
 have a0:W.cell? ⟨w.heap.size,0,none⟩=some (.int .i64 p):=by rw[hW];simp[go_sem]
 have a1:W.cell? ⟨w.heap.size,1,none⟩=some (.int .i64 q):=by rw[hW];simp[go_sem]
 have d0:W.cell? ⟨w.heap.size+1,0,none⟩=some (.int .i64 n):=by rw[hW];simp[go_sem]
 have d1:W.cell? ⟨w.heap.size+1,1,none⟩=some (.int .i64 d):=by rw[hW];simp[go_sem]
 have R:NoC W (w.heap.size+1+1):=by rw[hW];constructor <;> simp[go_sem]
 have HE:=zC hE;have HH0:=zC h;clear h hE
 go_enter Tryz.func22,Tryz.ntmps22
 go_wp2_with fail;rw[← hW];clear hW a0 a1 d0 d1;refine (zHI L G X (zA HE) _ p q n d b (zA HH0)).mono ?_;rintro r' w3 ⟨LL,HH,hLH,u,rfl,hub,hup,hb3⟩;have HLH:=zC hLH;clear hLH;have HU:=zC hub;have lR:=R.lt;obtain ⟨q0,q1,q2,q3,q4,q5⟩:=R.bw hb3;replace hBW:=zB hBW hb3;clear hub hb3;go_wp2_with fail;refine bodyPost_ret (v:=.tuple #[.agg #[.bool u.ln,.slice u.la u.lN u.lc,.bool u.hn,.slice u.ha u.hN u.hc,.int .i64 u.bits],.int .i64 0]) (by simp[results,Tryz.results22,go_sem,q0,q1,q2,q3,q4]) rfl ⟨LL,HH,zA HLH,u,rfl,zA HU,?_,?_⟩
 ·exact SpAt.put5 hup q0 q1 q2 q3 q4 _ _ _ _ _
 ·exact jV hBW (by omega) _ _ _ _ _
theorem culo_bad (w:World) (p q n d bt e:Int) (h:uE p q n d bt=e) (he:e≠0) :
  Calls Tryz.prog 22 #[.agg #[.int .i64 p,.int .i64 q],.agg #[.int .i64 n,.int .i64 d],.int .i64 bt] w (zBX w 0 250 0 0 e):=by
 obtain ⟨W,hW⟩:∃ W,W=((w.alloc (.cells #[.int .i64 p,.int .i64 q] 23)).alloc (.cells #[.int .i64 n,.int .i64 d] 23)).alloc (.cells #[.bool false,.slice none 0 0,.bool false,.slice none 0 0,.int .i64 0] 28):=⟨_,rfl⟩;have hBW:Below w.heap.size w W:=by rw[hW];exact bl3 _ _ _ _
 have a0:W.cell? ⟨w.heap.size,0,none⟩=some (.int .i64 p):=by rw[hW];simp[go_sem]
 have a1:W.cell? ⟨w.heap.size,1,none⟩=some (.int .i64 q):=by rw[hW];simp[go_sem]
 have d0:W.cell? ⟨w.heap.size+1,0,none⟩=some (.int .i64 n):=by rw[hW];simp[go_sem]
 have d1:W.cell? ⟨w.heap.size+1,1,none⟩=some (.int .i64 d):=by rw[hW];simp[go_sem]
 have R:NoC W (w.heap.size+1+1):=by rw[hW];constructor <;> simp[go_sem]
 have HH0:=zC h;clear h
 go_enter Tryz.func22,Tryz.ntmps22
 go_wp2_with fail;rw[← hW];clear hW a0 a1 d0 d1;refine (zG2 _ p q n d bt e (zA HH0) he).mono ?_;rintro r' w3 ⟨u,rfl,hub,hup,hb3⟩;have HU:=zC hub;have lR:=R.lt;obtain ⟨q0,q1,q2,q3,q4,q5⟩:=R.bw hb3;replace hBW:=zB hBW hb3;clear hub hb3;go_wp2_with fail;refine bodyPost_ret (v:=.tuple #[.agg #[.bool u.ln,.slice u.la u.lN u.lc,.bool u.hn,.slice u.ha u.hN u.hc,.int .i64 u.bits],.int .i64 e]) (by simp[results,Tryz.results22,go_sem,q0,q1,q2,q3,q4]) rfl ⟨u,rfl,zA HU,?_,?_⟩
 ·exact SpAt.put5 hup q0 q1 q2 q3 q4 _ _ _ _ _
 ·exact jV hBW (by omega) _ _ _ _ _
theorem zHH (L G:Rat→Nat→Rat) (X:Int→Int→Nat→Rat) (hE:zIP L G X) (w:World) (p q n d:Int) (b:Nat) (h:uE p q n d b=0) :
  Calls Tryz.prog 68 #[.agg #[.int .i64 p,.int .i64 q],.agg #[.int .i64 n,.int .i64 d],.int .i64 b,.func (.func 70) #[] #[]] w (fun r w'=>∃ LL HH,(SuV (fun M=>1-(lwX L p q n d (gmV p q (G (gA p q)))) M) b LL HH∧0≤LL∧HH≤Q b)∧zBX w b 250 LL HH 0 r w'):=by
 obtain ⟨W,hW⟩:∃ W,W=(((w.alloc (.cells #[.int .i64 p,.int .i64 q] 23)).alloc (.cells #[.int .i64 n,.int .i64 d] 23)).alloc (.cells #[.func (.func 70) #[] #[]] 80)).alloc (.cells #[.bool false,.slice none 0 0,.bool false,.slice none 0 0,.int .i64 0] 28):=⟨_,rfl⟩;have hBW:Below w.heap.size w W:=by rw[hW];exact bl4 _ _ _ _ _
 have A:RaC W w.heap.size p q:=by rw[hW];constructor <;> simp[go_sem]
 have D:RaC W (w.heap.size+1) n d:=by rw[hW];constructor <;> simp[go_sem]
 have C0:W.cell? ⟨w.heap.size+1+1,0,none⟩=some (.func (.func 70) #[] #[]):=by rw[hW];simp[go_sem]
 have R:NoC W (w.heap.size+1+1+1):=by rw[hW];constructor <;> simp[go_sem]
 have a0:=A.c0;have a1:=A.c1;have d0:=D.c0;have d1:=D.c1;have HE:=zC hE;have HH0:=zC h;have b5:8≤b:=by have:=(zAV h).2.2.1;omega
 have b6:b≤120:=by have:=(zAV h).2.2.1;omega
 clear h hE
 go_enter Tryz.func68,Tryz.ntmps68
 go_wp2_with fail;rw[← hW];clear hW a0 a1 d0 d1;refine (zJ6 _ p q n d (b:Int)).mono ?_;rintro r w1 ⟨rfl,hb1⟩;rw[zA HH0];have lC:w.heap.size+1+1<W.heap.size:=World.block_lt_of_cell? W ⟨w.heap.size+1+1,0,none⟩ C0;have C1:w1.cell? ⟨w.heap.size+1+1,0,none⟩=some (.func (.func 70) #[] #[]):=(hb1.cell (p:=⟨w.heap.size+1+1,0,none⟩) lC).trans C0;replace A:=A.bw hb1;replace D:=D.bw hb1;replace R:=R.bw hb1;replace hBW:=zB hBW hb1;have HC:=zC C1;have lC1:w.heap.size+1+1<w1.heap.size:=World.block_lt_of_cell? w1 ⟨w.heap.size+1+1,0,none⟩ C1;clear C0 C1 hb1 lC
 have HF:=zC (show ∀ (m:Nat) w',32≤m→m≤89+120→Below w1.heap.size w1 w'→Calls Tryz.prog 131 #[.int .i64 ((b:Int)+m),.pointer (some ⟨w.heap.size+1+1,0,none⟩),.pointer (some ⟨w.heap.size,0,none⟩),.pointer (some ⟨w.heap.size+1,0,none⟩)] w' (fun r w''=>∃ lo hi,zE4 (fun M=>1-(lwX L p q n d (gmV p q (G (gA p q)))) M) (b+m) lo hi∧zH w' ((b:Int)+m) 100 lo hi r w'') from fun m w' h1 h2 hbw=>by
  have e:(b:Int)+(m:Int)=((b+m:Nat):Int):=by omega
  rw[e]
  exact upm_up L G X (zA HE) w' (w.heap.size+1+1) w.heap.size (w.heap.size+1) p q n d (b:Int) (b+m) ((hbw.cell (p:=⟨w.heap.size+1+1,0,none⟩) lC1).trans (zA HC)) (A.bw hbw) (D.bw hbw) (zA HH0) (by omega) (by omega))
 go_wp2_with fail;refine (zKL _ _ _ b 89 100 (zE4 (fun M=>1-(lwX L p q n d (gmV p q (G (gA p q)))) M)) _ b6 (by omega) (by omega) (zPV _ b6) (zA HF)).mono ?_
 rintro r' w3 ⟨LL,HH,hLH,u,rfl,hub,hup,hb3⟩;have HLH:=zC (zN2 hLH);have HU:=zC hub;have lR:=R.lt;obtain ⟨q0,q1,q2,q3,q4,q5⟩:=R.bw hb3;replace hBW:=zB hBW hb3;clear hub hLH hb3 HF;go_wp2_with fail;refine bodyPost_ret (v:=.tuple #[.agg #[.bool u.ln,.slice u.la u.lN u.lc,.bool u.hn,.slice u.ha u.hN u.hc,.int .i64 u.bits],.int .i64 0]) (by simp[results,Tryz.results68,go_sem,q0,q1,q2,q3,q4]) rfl ⟨LL,HH,zA HLH,u,rfl,zA HU,?_,?_⟩
 ·exact SpAt.put5 hup q0 q1 q2 q3 q4 _ _ _ _ _
 ·exact jV hBW (by omega) _ _ _ _ _
theorem zG6 (w:World) (p q n d bt e:Int) (h:uE p q n d bt=e) (he:e≠0) :
  Calls Tryz.prog 68 #[.agg #[.int .i64 p,.int .i64 q],.agg #[.int .i64 n,.int .i64 d],.int .i64 bt,.func (.func 70) #[] #[]] w (zBX w 0 250 0 0 e):=by
 obtain ⟨W,hW⟩:∃ W,W=(((w.alloc (.cells #[.int .i64 p,.int .i64 q] 23)).alloc (.cells #[.int .i64 n,.int .i64 d] 23)).alloc (.cells #[.func (.func 70) #[] #[]] 80)).alloc (.cells #[.bool false,.slice none 0 0,.bool false,.slice none 0 0,.int .i64 0] 28):=⟨_,rfl⟩;have hBW:Below w.heap.size w W:=by rw[hW];exact bl4 _ _ _ _ _
 have A:RaC W w.heap.size p q:=by rw[hW];constructor <;> simp[go_sem]
 have D:RaC W (w.heap.size+1) n d:=by rw[hW];constructor <;> simp[go_sem]
 have C0:W.cell? ⟨w.heap.size+1+1,0,none⟩=some (.func (.func 70) #[] #[]):=by rw[hW];simp[go_sem]
 have R:NoC W (w.heap.size+1+1+1):=by rw[hW];constructor <;> simp[go_sem]
 have a0:=A.c0;have a1:=A.c1;have d0:=D.c0;have d1:=D.c1;have HH0:=zC h;have c1:(e != 0)=true:=by simp[he]
 clear h
 go_enter Tryz.func68,Tryz.ntmps68
 go_wp2_with fail;rw[← hW];clear hW a0 a1 d0 d1 C0;refine (zJ6 _ p q n d bt).mono ?_;rintro r w1 ⟨rfl,hb1⟩;rw[zA HH0];have lR:=R.lt;obtain ⟨q0,q1,q2,q3,q4,q5⟩:=R.bw hb1;replace hBW:=zB hBW hb1;clear hb1 A D;go_wp2_with fail;refine bodyPost_ret (v:=.tuple #[.agg #[.bool false,.slice none 0 0,.bool false,.slice none 0 0,.int .i64 0],.int .i64 e]) (by simp[results,Tryz.results68,go_sem,q0,q1,q2,q3,q4]) rfl ⟨⟨false,none,0,0,false,none,0,0,0⟩,rfl,rfl,?_,?_⟩
 ·exact SpAt.put5 (⟨zBJ _ _,zBJ _ _⟩) q0 q1 q2 q3 q4 _ _ _ _ _
 ·exact jV hBW (by omega) _ _ _ _ _
theorem cuup_ok (L G:Rat→Nat→Rat) (X:Int→Int→Nat→Rat) (hE:zIP L G X) (w:World) (p q n d:Int) (b:Nat) (h:uE p q n d b=0) :
  Calls Tryz.prog 23 #[.agg #[.int .i64 p,.int .i64 q],.agg #[.int .i64 n,.int .i64 d],.int .i64 b] w (fun r w'=>∃ LL HH,(SuV (fun M=>1-(lwX L p q n d (gmV p q (G (gA p q)))) M) b LL HH∧0≤LL∧HH≤Q b)∧zBX w b 250 LL HH 0 r w'):=by
 obtain ⟨W,hW⟩:∃ W,W=((w.alloc (.cells #[.int .i64 p,.int .i64 q] 23)).alloc (.cells #[.int .i64 n,.int .i64 d] 23)).alloc (.cells #[.bool false,.slice none 0 0,.bool false,.slice none 0 0,.int .i64 0] 28):=⟨_,rfl⟩;have hBW:Below w.heap.size w W:=by rw[hW];exact bl3 _ _ _ _
 have a0:W.cell? ⟨w.heap.size,0,none⟩=some (.int .i64 p):=by rw[hW];simp[go_sem]
 have a1:W.cell? ⟨w.heap.size,1,none⟩=some (.int .i64 q):=by rw[hW];simp[go_sem]
 have d0:W.cell? ⟨w.heap.size+1,0,none⟩=some (.int .i64 n):=by rw[hW];simp[go_sem]
 have d1:W.cell? ⟨w.heap.size+1,1,none⟩=some (.int .i64 d):=by rw[hW];simp[go_sem]
 have R:NoC W (w.heap.size+1+1):=by rw[hW];constructor <;> simp[go_sem]
 have HE:=zC hE;have HH0:=zC h;clear h hE
 go_enter Tryz.func23,Tryz.ntmps23
 go_wp2_with fail;rw[← hW];clear hW a0 a1 d0 d1;refine (zHH L G X (zA HE) _ p q n d b (zA HH0)).mono ?_;rintro r' w3 ⟨LL,HH,hLH,u,rfl,hub,hup,hb3⟩;have HLH:=zC hLH;clear hLH;have HU:=zC hub;have lR:=R.lt;obtain ⟨q0,q1,q2,q3,q4,q5⟩:=R.bw hb3;replace hBW:=zB hBW hb3;clear hub hb3;go_wp2_with fail;refine bodyPost_ret (v:=.tuple #[.agg #[.bool u.ln,.slice u.la u.lN u.lc,.bool u.hn,.slice u.ha u.hN u.hc,.int .i64 u.bits],.int .i64 0]) (by simp[results,Tryz.results23,go_sem,q0,q1,q2,q3,q4]) rfl ⟨LL,HH,zA HLH,u,rfl,zA HU,?_,?_⟩
 ·exact SpAt.put5 hup q0 q1 q2 q3 q4 _ _ _ _ _
 ·exact jV hBW (by omega) _ _ _ _ _
theorem cuup_bad (w:World) (p q n d bt e:Int) (h:uE p q n d bt=e) (he:e≠0) :
  Calls Tryz.prog 23 #[.agg #[.int .i64 p,.int .i64 q],.agg #[.int .i64 n,.int .i64 d],.int .i64 bt] w (zBX w 0 250 0 0 e):=by
 obtain ⟨W,hW⟩:∃ W,W=((w.alloc (.cells #[.int .i64 p,.int .i64 q] 23)).alloc (.cells #[.int .i64 n,.int .i64 d] 23)).alloc (.cells #[.bool false,.slice none 0 0,.bool false,.slice none 0 0,.int .i64 0] 28):=⟨_,rfl⟩;have hBW:Below w.heap.size w W:=by rw[hW];exact bl3 _ _ _ _
 have a0:W.cell? ⟨w.heap.size,0,none⟩=some (.int .i64 p):=by rw[hW];simp[go_sem]
 have a1:W.cell? ⟨w.heap.size,1,none⟩=some (.int .i64 q):=by rw[hW];simp[go_sem]
 have d0:W.cell? ⟨w.heap.size+1,0,none⟩=some (.int .i64 n):=by rw[hW];simp[go_sem]
 have d1:W.cell? ⟨w.heap.size+1,1,none⟩=some (.int .i64 d):=by rw[hW];simp[go_sem]
 have R:NoC W (w.heap.size+1+1):=by rw[hW];constructor <;> simp[go_sem]
 have HH0:=zC h;clear h
 go_enter Tryz.func23,Tryz.ntmps23
 go_wp2_with fail;rw[← hW];clear hW a0 a1 d0 d1;refine (zG6 _ p q n d bt e (zA HH0) he).mono ?_;rintro r' w3 ⟨u,rfl,hub,hup,hb3⟩;have HU:=zC hub;have lR:=R.lt;obtain ⟨q0,q1,q2,q3,q4,q5⟩:=R.bw hb3;replace hBW:=zB hBW hb3;clear hub hb3;go_wp2_with fail;refine bodyPost_ret (v:=.tuple #[.agg #[.bool u.ln,.slice u.la u.lN u.lc,.bool u.hn,.slice u.ha u.hN u.hc,.int .i64 u.bits],.int .i64 e]) (by simp[results,Tryz.results23,go_sem,q0,q1,q2,q3,q4]) rfl ⟨u,rfl,zA HU,?_,?_⟩
 ·exact SpAt.put5 hup q0 q1 q2 q3 q4 _ _ _ _ _
 ·exact jV hBW (by omega) _ _ _ _ _
theorem cmp_le3 {x y:Int} (h:x≤y):zF x y = -1∨zF x y=0:=by
 rcases cmp3 x y with h1|h1|h1
 ·exact Or.inl h1.1
 ·exact Or.inr h1.1
 ·omega
theorem cmp_ge3 {x y:Int} (h:y≤x):zF x y=1∨zF x y=0:=by
 rcases cmp3 x y with h1|h1|h1
 ·omega
 ·exact Or.inr h1.1
 ·exact Or.inl h1.1
theorem zCU (w:World) :
  Calls Tryz.prog 24 #[] w fun r w'=>r=.returned (.bool true)∧Below w.heap.size w w':=by
 obtain ⟨L0,GG,X,hE⟩:=zPO
 go_enter Tryz.func24,Tryz.ntmps24
 go_wp2_with fail;refine (zPK L0 GG X hE _ 1 1 1 1 20 (by decide)).mono ?_
 rintro r' w1 ⟨L,H,⟨v,_⟩,s,rfl,hsb,hs,hb1⟩;obtain ⟨o1,o2⟩:=up_begun hE v;have hle:=v.le;have HN:=zC v.nar;have hc1:=cmp_le3 o1;have hc2:=cmp_ge3 o2;have HSB:=zC hsb;clear hsb o1 o2 v hE;obtain ⟨V,hV⟩:∃ V,V=w1.alloc (.cells #[.bool s.ln,.slice s.la s.lN s.lc,.bool s.hn,.slice s.ha s.hN s.hc,.int .i64 s.bits] 28):=⟨_,rfl⟩;have bV:Below w1.heap.size w1 V:=by rw[hV];exact bl1 _ _
 have A:SpC V w1.heap.size s:=by rw[hV];exact yP w1 s _
 have HS:=zC (hs.bw bV);have hBW:Below w.heap.size w V:=zB hb1 bV;have lA:=A.lt;have HK:=zC (show ∀ w',Below V.heap.size V w'→(w'.cell? ⟨w1.heap.size,0,none⟩=some (.bool s.ln)∧w'.cell? ⟨w1.heap.size,1,none⟩=some (.slice s.la s.lN s.lc)∧w'.cell? ⟨w1.heap.size,2,none⟩=some (.bool s.hn)∧w'.cell? ⟨w1.heap.size,3,none⟩=some (.slice s.ha s.hN s.hc)∧w'.cell? ⟨w1.heap.size,4,none⟩=some (.int .i64 s.bits)) from fun w' hB=>⟨(A.bw hB).c0,(A.bw hB).c1,(A.bw hB).c2,(A.bw hB).c3,(A.bw hB).c4⟩)
 have hD0:Below V.heap.size V V.drew:=(Below.refl _ _).drew;have HC1':=zC hc1;have HC2':=zC hc2;clear hs hb1 bV hc1 hc2;go_wp2_with fail;rw[← hV];clear hV;obtain ⟨x0,x1,x2,x3,x4⟩:=A
 rcases zA HC1' with hc1|hc1 <;> rcases zA HC2' with hc2|hc2
 ·have HC1:=zC hc1
  have HC2:=zC hc2;clear hc1 hc2 HC1' HC2'
  go_region_held3 (fun w'=>w'.cell? ⟨w1.heap.size,0,none⟩=some (.bool s.ln)∧w'.cell? ⟨w1.heap.size,1,none⟩=some (.slice s.la s.lN s.lc)∧w'.cell? ⟨w1.heap.size,2,none⟩=some (.bool s.hn)∧w'.cell? ⟨w1.heap.size,3,none⟩=some (.slice s.ha s.hN s.hc)∧w'.cell? ⟨w1.heap.size,4,none⟩=some (.int .i64 s.bits)) (first|exact zA HK _ (by with_reducible first|exact hD0|exact hD5|exact hD4|exact hD3|exact hD2|exact hD1)|go_keep)
   (first
    | (go_at_call 47;have hq:=hD4;refine (yD _ s 20 L H ((zA HS).bw hD4) (zA HSB) (by omega) hle (zA HN)).mono ?_;rintro r g5 ⟨rfl,hg5⟩;have hD5:=zB hD4 hg5;have i0:=zA HK _ hD5)
    | (go_at_call 46;have hq:=hD3;refine (zS _ _ _ _ _ _ _ _ 250 4 H 662825 _ ((zA HS).hi.bw hD3) hZ3).mono ?_;rintro r g4 ⟨rfl,hg4⟩;rw[zA HC2];have hD4:=zB hD3 hg4)
    | (go_at_call 43;have hq:=hD2;refine (zD 662825 _ (by omega) (by omega)).mono ?_;rintro r g3 ⟨neg3,a3,n3,c3,rfl,hZ3,hg3⟩;have hD3:=zB hD2 hg3)
    | (go_at_call 46;have hq:=hD1;refine (zS _ _ _ _ _ _ _ _ 250 4 L 662826 _ ((zA HS).lo.bw hD1) hZ1).mono ?_;rintro r g2 ⟨rfl,hg2⟩;rw[zA HC1];have hD2:=zB hD1 hg2)
    | (go_at_call 43;refine (zD 662826 _ (by omega) (by omega)).mono ?_;rintro r g1 ⟨neg1,a1,n1,c1,rfl,hZ1,hg1⟩;have hD1:=zB hD0 hg1))
  all_goals
   go_wp2_with fail;exact bodyPost_ret (v:=.bool true) (by simp[results,Tryz.results24]) rfl ⟨rfl,zB hBW hD5⟩
 ·have HC1:=zC hc1
  have HC2:=zC hc2;clear hc1 hc2 HC1' HC2'
  go_region_held3 (fun w'=>w'.cell? ⟨w1.heap.size,0,none⟩=some (.bool s.ln)∧w'.cell? ⟨w1.heap.size,1,none⟩=some (.slice s.la s.lN s.lc)∧w'.cell? ⟨w1.heap.size,2,none⟩=some (.bool s.hn)∧w'.cell? ⟨w1.heap.size,3,none⟩=some (.slice s.ha s.hN s.hc)∧w'.cell? ⟨w1.heap.size,4,none⟩=some (.int .i64 s.bits)) (first|exact zA HK _ (by with_reducible first|exact hD0|exact hD5|exact hD4|exact hD3|exact hD2|exact hD1)|go_keep)
   (first
    | (go_at_call 47;have hq:=hD4;refine (yD _ s 20 L H ((zA HS).bw hD4) (zA HSB) (by omega) hle (zA HN)).mono ?_;rintro r g5 ⟨rfl,hg5⟩;have hD5:=zB hD4 hg5;have i0:=zA HK _ hD5)
    | (go_at_call 46;have hq:=hD3;refine (zS _ _ _ _ _ _ _ _ 250 4 H 662825 _ ((zA HS).hi.bw hD3) hZ3).mono ?_;rintro r g4 ⟨rfl,hg4⟩;rw[zA HC2];have hD4:=zB hD3 hg4)
    | (go_at_call 43;have hq:=hD2;refine (zD 662825 _ (by omega) (by omega)).mono ?_;rintro r g3 ⟨neg3,a3,n3,c3,rfl,hZ3,hg3⟩;have hD3:=zB hD2 hg3)
    | (go_at_call 46;have hq:=hD1;refine (zS _ _ _ _ _ _ _ _ 250 4 L 662826 _ ((zA HS).lo.bw hD1) hZ1).mono ?_;rintro r g2 ⟨rfl,hg2⟩;rw[zA HC1];have hD2:=zB hD1 hg2)
    | (go_at_call 43;refine (zD 662826 _ (by omega) (by omega)).mono ?_;rintro r g1 ⟨neg1,a1,n1,c1,rfl,hZ1,hg1⟩;have hD1:=zB hD0 hg1))
  all_goals
   go_wp2_with fail;exact bodyPost_ret (v:=.bool true) (by simp[results,Tryz.results24]) rfl ⟨rfl,zB hBW hD5⟩
 ·have HC1:=zC hc1
  have HC2:=zC hc2;clear hc1 hc2 HC1' HC2'
  go_region_held3 (fun w'=>w'.cell? ⟨w1.heap.size,0,none⟩=some (.bool s.ln)∧w'.cell? ⟨w1.heap.size,1,none⟩=some (.slice s.la s.lN s.lc)∧w'.cell? ⟨w1.heap.size,2,none⟩=some (.bool s.hn)∧w'.cell? ⟨w1.heap.size,3,none⟩=some (.slice s.ha s.hN s.hc)∧w'.cell? ⟨w1.heap.size,4,none⟩=some (.int .i64 s.bits)) (first|exact zA HK _ (by with_reducible first|exact hD0|exact hD5|exact hD4|exact hD3|exact hD2|exact hD1)|go_keep)
   (first
    | (go_at_call 47;have hq:=hD4;refine (yD _ s 20 L H ((zA HS).bw hD4) (zA HSB) (by omega) hle (zA HN)).mono ?_;rintro r g5 ⟨rfl,hg5⟩;have hD5:=zB hD4 hg5;have i0:=zA HK _ hD5)
    | (go_at_call 46;have hq:=hD3;refine (zS _ _ _ _ _ _ _ _ 250 4 H 662825 _ ((zA HS).hi.bw hD3) hZ3).mono ?_;rintro r g4 ⟨rfl,hg4⟩;rw[zA HC2];have hD4:=zB hD3 hg4)
    | (go_at_call 43;have hq:=hD2;refine (zD 662825 _ (by omega) (by omega)).mono ?_;rintro r g3 ⟨neg3,a3,n3,c3,rfl,hZ3,hg3⟩;have hD3:=zB hD2 hg3)
    | (go_at_call 46;have hq:=hD1;refine (zS _ _ _ _ _ _ _ _ 250 4 L 662826 _ ((zA HS).lo.bw hD1) hZ1).mono ?_;rintro r g2 ⟨rfl,hg2⟩;rw[zA HC1];have hD2:=zB hD1 hg2)
    | (go_at_call 43;refine (zD 662826 _ (by omega) (by omega)).mono ?_;rintro r g1 ⟨neg1,a1,n1,c1,rfl,hZ1,hg1⟩;have hD1:=zB hD0 hg1))
  all_goals
   go_wp2_with fail;exact bodyPost_ret (v:=.bool true) (by simp[results,Tryz.results24]) rfl ⟨rfl,zB hBW hD5⟩
 ·have HC1:=zC hc1
  have HC2:=zC hc2;clear hc1 hc2 HC1' HC2'
  go_region_held3 (fun w'=>w'.cell? ⟨w1.heap.size,0,none⟩=some (.bool s.ln)∧w'.cell? ⟨w1.heap.size,1,none⟩=some (.slice s.la s.lN s.lc)∧w'.cell? ⟨w1.heap.size,2,none⟩=some (.bool s.hn)∧w'.cell? ⟨w1.heap.size,3,none⟩=some (.slice s.ha s.hN s.hc)∧w'.cell? ⟨w1.heap.size,4,none⟩=some (.int .i64 s.bits)) (first|exact zA HK _ (by with_reducible first|exact hD0|exact hD5|exact hD4|exact hD3|exact hD2|exact hD1)|go_keep)
   (first
    | (go_at_call 47;have hq:=hD4;refine (yD _ s 20 L H ((zA HS).bw hD4) (zA HSB) (by omega) hle (zA HN)).mono ?_;rintro r g5 ⟨rfl,hg5⟩;have hD5:=zB hD4 hg5;have i0:=zA HK _ hD5)
    | (go_at_call 46;have hq:=hD3;refine (zS _ _ _ _ _ _ _ _ 250 4 H 662825 _ ((zA HS).hi.bw hD3) hZ3).mono ?_;rintro r g4 ⟨rfl,hg4⟩;rw[zA HC2];have hD4:=zB hD3 hg4)
    | (go_at_call 43;have hq:=hD2;refine (zD 662825 _ (by omega) (by omega)).mono ?_;rintro r g3 ⟨neg3,a3,n3,c3,rfl,hZ3,hg3⟩;have hD3:=zB hD2 hg3)
    | (go_at_call 46;have hq:=hD1;refine (zS _ _ _ _ _ _ _ _ 250 4 L 662826 _ ((zA HS).lo.bw hD1) hZ1).mono ?_;rintro r g2 ⟨rfl,hg2⟩;rw[zA HC1];have hD2:=zB hD1 hg2)
    | (go_at_call 43;refine (zD 662826 _ (by omega) (by omega)).mono ?_;rintro r g1 ⟨neg1,a1,n1,c1,rfl,hZ1,hg1⟩;have hD1:=zB hD0 hg1))
  all_goals
   go_wp2_with fail;exact bodyPost_ret (v:=.bool true) (by simp[results,Tryz.results24]) rfl ⟨rfl,zB hBW hD5⟩
end Go.Proofs.YtgmnknmjainababGreat
