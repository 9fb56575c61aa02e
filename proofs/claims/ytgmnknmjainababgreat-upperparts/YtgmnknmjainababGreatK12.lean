/-
  Its own texts.
-/
import Derived.Test.YtgmnknmjainababGreatK11
set_option maxRecDepth 100000
set_option maxHeartbeats 8000000
set_option linter.unnecessarySimpa false
set_option linter.unusedSimpArgs false
set_option linter.unusedVariables false
namespace Go.Proofs.YtgmnknmjainababGreat
open Go.RowKit
attribute [local go_sem ↓] Go.wp_at_zero Go.wp_at_succ
def ovLo (l h p q:Int):Int:=if l<0 then l/p else l/q
def zKD (l h p q:Int):Int:=if h<0 then -(-h/q) else -(-h/p)
structure OVs (w wr:World) (s t:Sp) (k k1 k2 BL CL BM CM:Nat) (xL yL xM yM:Nm) (lo' hi' l h m n:Int):Prop where
 A:SpC wr w.heap.size s
 G:SpC wr (w.heap.size+1) t
 R:NoC wr (w.heap.size+1+1)
 XL:NmC wr BL xL
 YL:NmC wr CL yL
 XM:NmC wr BM xM
 YM:NmC wr CM yM
 il:IntAt wr xL.neg xL.a xL.n xL.cap k1 l
 ih:IntAt wr yL.neg yL.a yL.n yL.cap k1 h
 im:IntAt wr xM.neg xM.a xM.n xM.cap k2 m
 jn:IntAt wr yM.neg yM.a yM.n yM.cap k2 n
 ht:SpAt wr t k lo' hi'
 fM:∀ o,wr.frozen? ⟨BM,o,none⟩=false
 fN:∀ o,wr.frozen? ⟨CM,o,none⟩=false
 hB:Below w.heap.size w wr
structure OVd (w:World) (BL CL BM CM:Nat):Prop where
 m1:w.heap.size≠BM
 m2:w.heap.size+1≠BM
 m3:w.heap.size+1+1≠BM
 m4:BL≠BM
 m5:CL≠BM
 n1:w.heap.size≠CM
 n2:w.heap.size+1≠CM
 n3:w.heap.size+1+1≠CM
 n4:BL≠CM
 n5:CL≠CM
 mn:BM≠CM
 le:w.heap.size≤BM∧w.heap.size≤CM
variable {w wr w' : World} {s t : Sp} {k k1 k2 BL CL BM CM : Nat} {xL yL xM yM : Nm} {lo' hi' l h m n : Int}
theorem OVs.bw (D:OVs w wr s t k k1 k2 BL CL BM CM xL yL xM yM lo' hi' l h m n) (hb:Below wr.heap.size wr w'):OVs w w' s t k k1 k2 BL CL BM CM xL yL xM yM lo' hi' l h m n :=
 ⟨D.A.bw hb,D.G.bw hb,D.R.bw hb,D.XL.bw hb,D.YL.bw hb,D.XM.bw hb,D.YM.bw hb,D.il.bw hb,D.ih.bw hb,D.im.bw hb,D.jn.bw hb,D.ht.bw hb,fun o=>(hb.frozen (p:=⟨BM,o,none⟩) D.XM.lt).trans (D.fM o),fun o=>(hb.frozen (p:=⟨CM,o,none⟩) D.YM.lt).trans (D.fN o),zB D.hB hb⟩
theorem nm_put {w:World} {B:Nat} {y:Nm} (h:NmC w B y) (x:Nm):NmC ((w.setCell ⟨B,0,none⟩ (.bool x.neg)).setCell ⟨B,1,none⟩ (.slice x.a x.n x.cap)) B x:=by
 obtain ⟨q0,q1⟩:=h;constructor <;> simp[go_sem,q0,q1]
theorem OVs.setM (D:OVs w wr s t k k1 k2 BL CL BM CM xL yL xM yM lo' hi' l h m n) (E:OVd w BL CL BM CM) (x:Nm) {z:Int} (hz:IntAt wr x.neg x.a x.n x.cap k2 z) :
  OVs w ((wr.setCell ⟨BM,0,none⟩ (.bool x.neg)).setCell ⟨BM,1,none⟩ (.slice x.a x.n x.cap)) s t k k1 k2 BL CL BM CM xL yL x yM lo' hi' l h z n:=by
 have c0:=D.XM.c0;have c1:=D.XM.c1;exact ⟨D.A.put2 E.m1 _ _,D.G.put2 E.m2 _ _,D.R.put2 E.m3 _ _,D.XL.put2 E.m4 _ _,D.YL.put2 E.m5 _ _,nm_put D.XM x,D.YM.put2 (fun e=>E.mn e.symm) _ _,D.il.put2 c0 c1 _ _,D.ih.put2 c0 c1 _ _,hz.put2 c0 c1 _ _,D.jn.put2 c0 c1 _ _,D.ht.put2 c0 c1 _ _,zDK D.fM _ _,zDK D.fN _ _,zDN D.hB E.le.1 _ _⟩
theorem OVs.setN (D:OVs w wr s t k k1 k2 BL CL BM CM xL yL xM yM lo' hi' l h m n) (E:OVd w BL CL BM CM) (x:Nm) {z:Int} (hz:IntAt wr x.neg x.a x.n x.cap k2 z) :
  OVs w ((wr.setCell ⟨CM,0,none⟩ (.bool x.neg)).setCell ⟨CM,1,none⟩ (.slice x.a x.n x.cap)) s t k k1 k2 BL CL BM CM xL yL xM x lo' hi' l h m z:=by
 have c0:=D.YM.c0;have c1:=D.YM.c1;exact ⟨D.A.put2 E.n1 _ _,D.G.put2 E.n2 _ _,D.R.put2 E.n3 _ _,D.XL.put2 E.n4 _ _,D.YL.put2 E.n5 _ _,D.XM.put2 E.mn _ _,nm_put D.YM x,D.il.put2 c0 c1 _ _,D.ih.put2 c0 c1 _ _,D.im.put2 c0 c1 _ _,hz.put2 c0 c1 _ _,D.ht.put2 c0 c1 _ _,zDK D.fM _ _,zDK D.fN _ _,zDN D.hB E.le.2 _ _⟩
theorem zFL (w:World) (s t:Sp) (k b:Nat) (lo hi lo' hi':Int) (hs:SpAt w s k lo hi) (ht:SpAt w t k lo' hi') (hk:k≤50000000) (hb:b≤1000000) (hbits:s.bits=b) (hp:0<lo') (hp2:lo'≤hi') :
  Calls Tryz.prog 91 #[.agg #[.bool s.ln,.slice s.la s.lN s.lc,.bool s.hn,.slice s.ha s.hN s.hc,.int .i64 s.bits],.agg #[.bool t.ln,.slice t.la t.lN t.lc,.bool t.hn,.slice t.ha t.hN t.hc,.int .i64 t.bits]] w (zH w b (k+b/16+20) (ovLo (lo*Q b) (hi*Q b) lo' hi') (zKD (lo*Q b) (hi*Q b) lo' hi')):=by
 have HBT:=zC hbits;have t1:¬ zF hi' 0<0:=by unfold zF;rw[if_neg (by omega)];split <;> omega
 clear hbits;obtain ⟨W,hW⟩:∃ W,W=((w.alloc (.cells #[.bool s.ln,.slice s.la s.lN s.lc,.bool s.hn,.slice s.ha s.hN s.hc,.int .i64 s.bits] 36)).alloc (.cells #[.bool t.ln,.slice t.la t.lN t.lc,.bool t.hn,.slice t.ha t.hN t.hc,.int .i64 t.bits] 36)).alloc (.cells #[.bool false,.slice none 0 0,.bool false,.slice none 0 0,.int .i64 0] 36):=⟨_,rfl⟩;have hBW:Below w.heap.size w W:=by rw[hW];exact bl3 _ _ _ _
 have A:SpC W w.heap.size s:=by rw[hW];constructor <;> simp[go_sem]
 have G:SpC W (w.heap.size+1) t:=by rw[hW];constructor <;> simp[go_sem]
 have R:NoC W (w.heap.size+1+1):=by rw[hW];constructor <;> simp[go_sem]
 replace hs:=zC (hs.bw hBW);replace ht:=zC (ht.bw hBW)
 go_enter Tryz.func91,Tryz.ntmps91
 go_wp2_with fail;rw[← hW];clear hW;refine (jZ _ _ _ _ k hi' _ (zA ht).hi).mono ?_;rintro r w0 ⟨rfl,hb0⟩;replace hBW:=zB hBW hb0;replace A:=A.bw hb0;replace G:=G.bw hb0;replace R:=R.bw hb0;replace hs:=zC ((zA hs).bw hb0);replace ht:=zC ((zA ht).bw hb0);clear hb0;have lA:=A.lt;obtain ⟨x0,x1,x2,x3,x4⟩:=A;have A:SpC w0 w.heap.size s:=⟨x0,x1,x2,x3,x4⟩;go_wp2_with fail;clear x0 x1 x2 x3 x4 lA;rw[zA HBT];refine (kC b _ (by omega)).mono ?_
 rintro r w1 ⟨neg1,a1,n1,c1,rfl,hZ1,hb1⟩;replace hBW:=zB hBW hb1;replace A:=A.bw hb1;replace G:=G.bw hb1;replace R:=R.bw hb1;replace hs:=zC ((zA hs).bw hb1);replace ht:=zC ((zA ht).bw hb1);clear hb1;obtain ⟨W1,hW1⟩:∃ W',W'=w1.alloc (.cells #[.bool neg1,.slice a1 n1 c1] 26):=⟨_,rfl⟩;have hc1:Below w1.heap.size w1 W1:=by rw[hW1];exact bl1 _ _
 have X1:NmC W1 w1.heap.size ⟨neg1,a1,n1,c1⟩:=by rw[hW1];exact yS w1 ⟨neg1,a1,n1,c1⟩ _
 replace hBW:=zB hBW hc1;replace A:=A.bw hc1;replace G:=G.bw hc1;replace R:=R.bw hc1;replace hs:=zC ((zA hs).bw hc1);replace ht:=zC ((zA ht).bw hc1);replace hZ1:=zC (hZ1.bw hc1);have lA:=A.lt;have lX:=X1.lt;have lR1:=R.lt;have hBW0:=hBW;have HK:=zC (show ∀ w',Below W1.heap.size W1 w'→(w'.cell? ⟨w.heap.size,0,none⟩=some (.bool s.ln)∧w'.cell? ⟨w.heap.size,1,none⟩=some (.slice s.la s.lN s.lc)∧w'.cell? ⟨w.heap.size,2,none⟩=some (.bool s.hn)∧w'.cell? ⟨w.heap.size,3,none⟩=some (.slice s.ha s.hN s.hc)∧w'.cell? ⟨w1.heap.size,0,none⟩=some (.bool neg1)∧w'.cell? ⟨w1.heap.size,1,none⟩=some (.slice a1 n1 c1)) from fun w' hB=>⟨(A.bw hB).c0,(A.bw hB).c1,(A.bw hB).c2,(A.bw hB).c3,(X1.bw hB).c0,(X1.bw hB).c1⟩)
 obtain ⟨x0,x1,x2,x3,z0,z1⟩:=zA HK _ (Below.refl _ _);go_wp2_with fail;rw[← hW1];clear hW1
 go_cut [6,7] (fun p q wx=>TwoV W1 wx (k+b/16+5) (k+b/16+5) (lo*Q b) (hi*Q b) p q)
 case first =>
  go_region_held3 (fun w'=>w'.cell? ⟨w.heap.size,0,none⟩=some (.bool s.ln)∧w'.cell? ⟨w.heap.size,1,none⟩=some (.slice s.la s.lN s.lc)∧w'.cell? ⟨w.heap.size,2,none⟩=some (.bool s.hn)∧w'.cell? ⟨w.heap.size,3,none⟩=some (.slice s.ha s.hN s.hc)∧w'.cell? ⟨w1.heap.size,0,none⟩=some (.bool neg1)∧w'.cell? ⟨w1.heap.size,1,none⟩=some (.slice a1 n1 c1)) (exact zA HK _ (by repeat' (first|with_reducible exact hBL2|with_reducible exact hBL1|with_reducible exact Below.refl _ _|with_reducible refine Below.drew ?_|with_reducible refine zK ?_ _|with_reducible refine Below.setCell ?_ (by with_reducible first|exact Nat.le_refl _|exact Nat.le_succ _|exact hlL1|exact Nat.le_succ_of_le hlL1|exact hlL2|exact Nat.le_succ_of_le hlL2) _)))
   (first
    | (go_at_call 66;have hq:=hBL1;refine (zX _ _ _ _ _ _ _ _ k (b/16+5) hi (Q b) _ ((zA hs).hi.bw (by repeat' (first|with_reducible exact hBL1|with_reducible exact Below.refl _ _|with_reducible refine Below.drew ?_|with_reducible refine zK ?_ _))) ((zA hZ1).bw (by repeat' (first|with_reducible exact hBL1|with_reducible exact Below.refl _ _|with_reducible refine Below.drew ?_|with_reducible refine zK ?_ _))) (by omega) (by omega)).mono ?_;rintro r wL2 ⟨negL2,aL2,nL2,cL2,rfl,hZL2,hbL2⟩;have hCL2:Below wL1.heap.size wL1 wL2:=(by with_reducible first|exact hbL2|exact zB (bl1 _ _) hbL2|exact zB (bl2 _ _ _) hbL2);have hBL2:=zB hBL1 hCL2;(first|with_reducible have gaL2:=(jW wL1 26).bw hbL2|with_reducible have gaL2:=((jW wL1 26).bw (bl1 _ _)).bw hbL2|skip);(try with_reducible have gbL2:=(zEH (wL1.alloc _) (wL1.heap.size+1) (hs1 _ _) 26).bw hbL2);replace hZL1:=hZL1.bw hCL2;(try have maL1:=gaL1.lt);(try have mbL1:=gbL1.lt);(try replace gaL1:=gaL1.bw hCL2);(try replace gbL1:=gbL1.bw hCL2);have hlL2:=hBL2.size;(try have eaL1:=gaL1);(try obtain ⟨zaL10,zaL11,zaL12⟩:=eaL1);(try have yaL1:=gaL1.lt);(try have ebL1:=gbL1);(try obtain ⟨zbL10,zbL11,zbL12⟩:=ebL1);(try have ybL1:=gbL1.lt);(try have eaL2:=gaL2);(try obtain ⟨zaL20,zaL21,zaL22⟩:=eaL2);(try have yaL2:=gaL2.lt);(try have ebL2:=gbL2);(try obtain ⟨zbL20,zbL21,zbL22⟩:=ebL2);(try have ybL2:=gbL2.lt))
    | (go_at_call 66;refine (zX _ _ _ _ _ _ _ _ k (b/16+5) lo (Q b) _ ((zA hs).lo.bw (by repeat' (first|with_reducible exact Below.refl _ _|with_reducible refine Below.drew ?_|with_reducible refine zK ?_ _))) ((zA hZ1).bw (by repeat' (first|with_reducible exact Below.refl _ _|with_reducible refine Below.drew ?_|with_reducible refine zK ?_ _))) (by omega) (by omega)).mono ?_;rintro r wL1 ⟨negL1,aL1,nL1,cL1,rfl,hZL1,hbL1⟩;have hBL1:Below W1.heap.size W1 wL1:=(by with_reducible first|exact zB (Below.refl _ _).drew hbL1|exact zB (bl1 _ _).drew hbL1|exact zB (bl2 _ _ _).drew hbL1);(first|with_reducible have gaL1:=((jW W1 26).bw (Below.refl _ _).drew).bw hbL1|with_reducible have gaL1:=((jW W1 26).bw (bl1 _ _).drew).bw hbL1|skip);(try with_reducible have gbL1:=((zEH (W1.alloc _) (W1.heap.size+1) (hs1 _ _) 26).bw (Below.refl _ _).drew).bw hbL1);have hlL1:=hBL1.size))
  all_goals
   go_wp2_with fail;go_meet
   first
    | with_reducible exact two_aa (x:=(Nm.mk negL1 aL1 nL1 cL1)) (y:=(Nm.mk negL2 aL2 nL2 cL2)) hBL2 (IntAt.mono hZL1 (by omega)) (IntAt.mono hZL2 (by omega))
    | with_reducible exact zO8 (x:=(Nm.mk negL1 aL1 nL1 cL1)) (y:=(Nm.mk negL2 aL2 nL2 cL2)) hBL2 (IntAt.mono hZL1 (by omega)) (IntAt.mono hZL2 (by omega))
    | with_reducible exact zPH (x:=(Nm.mk negL1 aL1 nL1 cL1)) (y:=(Nm.mk negL2 aL2 nL2 cL2)) hBL2 (IntAt.mono hZL1 (by omega)) (IntAt.mono hZL2 (by omega)) (by assumption) (by with_reducible first|exact Nat.le_refl _|exact Nat.le_succ _|exact hlL1|exact Nat.le_succ_of_le hlL1|exact hlL2|exact Nat.le_succ_of_le hlL2)
    | with_reducible exact two_as (x:=(Nm.mk negL1 aL1 nL1 cL1)) (y:=(Nm.mk negL2 aL2 nL2 cL2)) hBL2 (IntAt.mono hZL1 (by omega)) (IntAt.mono hZL2 (by omega)) (by assumption) (by with_reducible first|exact Nat.le_refl _|exact Nat.le_succ _|exact hlL1|exact Nat.le_succ_of_le hlL1|exact hlL2|exact Nat.le_succ_of_le hlL2)
    | with_reducible exact two_ss (x:=(Nm.mk negL1 aL1 nL1 cL1)) (y:=(Nm.mk negL2 aL2 nL2 cL2)) hBL2 (IntAt.mono hZL1 (by omega)) (IntAt.mono hZL2 (by omega)) (by assumption) (by assumption) (by with_reducible first|exact Nat.le_refl _|exact Nat.le_succ _|exact hlL1|exact Nat.le_succ_of_le hlL1|exact hlL2|exact Nat.le_succ_of_le hlL2) (by with_reducible first|exact Nat.le_refl _|exact Nat.le_succ _|exact hlL1|exact Nat.le_succ_of_le hlL1|exact hlL2|exact Nat.le_succ_of_le hlL2) (by omega)
 case rest =>
 obtain ⟨⟨BL,xL,rfl,jL0,jL1,hZL,hHL,hltL⟩,⟨CL,yL,rfl,jL2,jL3,hjntL,hJL,hjtL⟩,hneL,hfzL,hfyL,hblL⟩:=hcut;have XL:NmC wc BL xL:=⟨jL0,jL1⟩;have YL:NmC wc CL yL:=⟨jL2,jL3⟩;replace hneL:BL≠CL:=fun e9=>hneL (by rw[e9])
 replace hfzL:∀ o,wc.frozen? ⟨BL,o,none⟩=false:=hfzL _ rfl;replace hfyL:∀ o,wc.frozen? ⟨CL,o,none⟩=false:=hfyL _ rfl;replace hBW:=zB hBW hblL;replace A:=A.bw hblL;replace G:=G.bw hblL;replace R:=R.bw hblL;replace hs:=zC ((zA hs).bw hblL);replace ht:=zC ((zA ht).bw hblL);replace hZL:=zC hZL;replace hjntL:=zC hjntL;have nRL:w.heap.size+1+1≠BL:=Nat.ne_of_lt (Nat.lt_of_lt_of_le lR1 hHL);clear x0 x1 x2 x3 z0 z1 HK lA lX X1 hZ1 hblL hfzL hfyL hneL hc1;obtain ⟨W2,hW2⟩:∃ W',W'=wc:=⟨_,rfl⟩;subst hW2;have HK:=zC (show ∀ w',Below W2.heap.size W2 w'→(w'.cell? ⟨w.heap.size+1,0,none⟩=some (.bool t.ln)∧w'.cell? ⟨w.heap.size+1,1,none⟩=some (.slice t.la t.lN t.lc)∧w'.cell? ⟨w.heap.size+1,2,none⟩=some (.bool t.hn)∧w'.cell? ⟨w.heap.size+1,3,none⟩=some (.slice t.ha t.hN t.hc)∧w'.cell? ⟨BL,0,none⟩=some (.bool xL.neg)∧w'.cell? ⟨BL,1,none⟩=some (.slice xL.a xL.n xL.cap)∧w'.cell? ⟨CL,0,none⟩=some (.bool yL.neg)∧w'.cell? ⟨CL,1,none⟩=some (.slice yL.a yL.n yL.cap)) from fun w' hB=>⟨(G.bw hB).c0,(G.bw hB).c1,(G.bw hB).c2,(G.bw hB).c3,(XL.bw hB).c0,(XL.bw hB).c1,(YL.bw hB).c0,(YL.bw hB).c1⟩)
 have lG:=G.lt;have lX:=XL.lt;have lY:=YL.lt;have lR2:=R.lt;obtain ⟨x0,x1,x2,x3,z0,z1,z2,z3⟩:=zA HK _ (Below.refl _ _);go_wp2_with fail
 go_cut [8,9] (fun p q wx=>TwoV W2 wx (k+b/16+14) (k+b/16+14) (lo*Q b/hi') (-(-(hi*Q b)/lo')) p q)
 case first =>
  go_region_held3 (fun w'=>w'.cell? ⟨w.heap.size+1,0,none⟩=some (.bool t.ln)∧w'.cell? ⟨w.heap.size+1,1,none⟩=some (.slice t.la t.lN t.lc)∧w'.cell? ⟨w.heap.size+1,2,none⟩=some (.bool t.hn)∧w'.cell? ⟨w.heap.size+1,3,none⟩=some (.slice t.ha t.hN t.hc)∧w'.cell? ⟨BL,0,none⟩=some (.bool xL.neg)∧w'.cell? ⟨BL,1,none⟩=some (.slice xL.a xL.n xL.cap)∧w'.cell? ⟨CL,0,none⟩=some (.bool yL.neg)∧w'.cell? ⟨CL,1,none⟩=some (.slice yL.a yL.n yL.cap)) (exact zA HK _ (by repeat' (first|with_reducible exact hBM2|with_reducible exact hBM1|with_reducible exact Below.refl _ _|with_reducible refine Below.drew ?_|with_reducible refine zK ?_ _|with_reducible refine Below.setCell ?_ (by with_reducible first|exact Nat.le_refl _|exact Nat.le_succ _|exact hlM1|exact Nat.le_succ_of_le hlM1|exact hlM2|exact Nat.le_succ_of_le hlM2) _)))
   (first
    | (go_at_call 109;have hq:=hBM1;refine (zB6 _ _ _ _ _ _ _ _ (k+b/16+5) k (hi*Q b) lo' _ ((zA hjntL).bw (by repeat' (first|with_reducible exact hBM1|with_reducible exact Below.refl _ _|with_reducible refine Below.drew ?_|with_reducible refine zK ?_ _))) ((zA ht).lo.bw (by repeat' (first|with_reducible exact hBM1|with_reducible exact Below.refl _ _|with_reducible refine Below.drew ?_|with_reducible refine zK ?_ _))) (by omega) (by omega) (by omega)).mono ?_;rintro r wM2 ⟨negM2,aM2,nM2,cM2,rfl,hZM2,hbM2⟩;have hCM2:Below wM1.heap.size wM1 wM2:=(by with_reducible first|exact hbM2|exact zB (bl1 _ _) hbM2|exact zB (bl2 _ _ _) hbM2);have hBM2:=zB hBM1 hCM2;(first|with_reducible have gaM2:=(jW wM1 26).bw hbM2|with_reducible have gaM2:=((jW wM1 26).bw (bl1 _ _)).bw hbM2|skip);(try with_reducible have gbM2:=(zEH (wM1.alloc _) (wM1.heap.size+1) (hs1 _ _) 26).bw hbM2);replace hZM1:=hZM1.bw hCM2;(try have maM1:=gaM1.lt);(try have mbM1:=gbM1.lt);(try replace gaM1:=gaM1.bw hCM2);(try replace gbM1:=gbM1.bw hCM2);have hlM2:=hBM2.size;(try have eaM1:=gaM1);(try obtain ⟨zaM10,zaM11,zaM12⟩:=eaM1);(try have yaM1:=gaM1.lt);(try have ebM1:=gbM1);(try obtain ⟨zbM10,zbM11,zbM12⟩:=ebM1);(try have ybM1:=gbM1.lt);(try have eaM2:=gaM2);(try obtain ⟨zaM20,zaM21,zaM22⟩:=eaM2);(try have yaM2:=gaM2.lt);(try have ebM2:=gbM2);(try obtain ⟨zbM20,zbM21,zbM22⟩:=ebM2);(try have ybM2:=gbM2.lt))
    | (go_at_call 108;refine (zCZ _ _ _ _ _ _ _ _ (k+b/16+5) k (lo*Q b) hi' _ ((zA hZL).bw (by repeat' (first|with_reducible exact Below.refl _ _|with_reducible refine Below.drew ?_|with_reducible refine zK ?_ _))) ((zA ht).hi.bw (by repeat' (first|with_reducible exact Below.refl _ _|with_reducible refine Below.drew ?_|with_reducible refine zK ?_ _))) (by omega) (by omega) (by omega)).mono ?_;rintro r wM1 ⟨negM1,aM1,nM1,cM1,rfl,hZM1,hbM1⟩;have hBM1:Below W2.heap.size W2 wM1:=(by with_reducible first|exact zB (Below.refl _ _).drew hbM1|exact zB (bl1 _ _).drew hbM1|exact zB (bl2 _ _ _).drew hbM1);(first|with_reducible have gaM1:=((jW W2 26).bw (Below.refl _ _).drew).bw hbM1|with_reducible have gaM1:=((jW W2 26).bw (bl1 _ _).drew).bw hbM1|skip);(try with_reducible have gbM1:=((zEH (W2.alloc _) (W2.heap.size+1) (hs1 _ _) 26).bw (Below.refl _ _).drew).bw hbM1);have hlM1:=hBM1.size))
  all_goals
   go_wp2_with fail;go_meet
   first
    | with_reducible exact two_aa (x:=(Nm.mk negM1 aM1 nM1 cM1)) (y:=(Nm.mk negM2 aM2 nM2 cM2)) hBM2 (IntAt.mono hZM1 (by omega)) (IntAt.mono hZM2 (by omega))
    | with_reducible exact zO8 (x:=(Nm.mk negM1 aM1 nM1 cM1)) (y:=(Nm.mk negM2 aM2 nM2 cM2)) hBM2 (IntAt.mono hZM1 (by omega)) (IntAt.mono hZM2 (by omega))
    | with_reducible exact zPH (x:=(Nm.mk negM1 aM1 nM1 cM1)) (y:=(Nm.mk negM2 aM2 nM2 cM2)) hBM2 (IntAt.mono hZM1 (by omega)) (IntAt.mono hZM2 (by omega)) (by assumption) (by with_reducible first|exact Nat.le_refl _|exact Nat.le_succ _|exact hlM1|exact Nat.le_succ_of_le hlM1|exact hlM2|exact Nat.le_succ_of_le hlM2)
    | with_reducible exact two_as (x:=(Nm.mk negM1 aM1 nM1 cM1)) (y:=(Nm.mk negM2 aM2 nM2 cM2)) hBM2 (IntAt.mono hZM1 (by omega)) (IntAt.mono hZM2 (by omega)) (by assumption) (by with_reducible first|exact Nat.le_refl _|exact Nat.le_succ _|exact hlM1|exact Nat.le_succ_of_le hlM1|exact hlM2|exact Nat.le_succ_of_le hlM2)
    | with_reducible exact two_ss (x:=(Nm.mk negM1 aM1 nM1 cM1)) (y:=(Nm.mk negM2 aM2 nM2 cM2)) hBM2 (IntAt.mono hZM1 (by omega)) (IntAt.mono hZM2 (by omega)) (by assumption) (by assumption) (by with_reducible first|exact Nat.le_refl _|exact Nat.le_succ _|exact hlM1|exact Nat.le_succ_of_le hlM1|exact hlM2|exact Nat.le_succ_of_le hlM2) (by with_reducible first|exact Nat.le_refl _|exact Nat.le_succ _|exact hlM1|exact Nat.le_succ_of_le hlM1|exact hlM2|exact Nat.le_succ_of_le hlM2) (by omega)
 case rest =>
 obtain ⟨⟨BM,xM,rfl,jM0,jM1,hZM,hHM,hltM⟩,⟨CM,yM,rfl,jM2,jM3,hjntM,hJM,hjtM⟩,hneM,hfzM,hfyM,hblM⟩:=hcut;have XM:NmC wc BM xM:=⟨jM0,jM1⟩;have YM:NmC wc CM yM:=⟨jM2,jM3⟩;replace hneM:BM≠CM:=fun e9=>hneM (by rw[e9])
 replace hfzM:∀ o,wc.frozen? ⟨BM,o,none⟩=false:=hfzM _ rfl;replace hfyM:∀ o,wc.frozen? ⟨CM,o,none⟩=false:=hfyM _ rfl;replace hBW:=zB hBW hblM;replace A:=A.bw hblM;replace G:=G.bw hblM;replace R:=R.bw hblM;replace XL:=XL.bw hblM;replace YL:=YL.bw hblM;replace ht:=(zA ht).bw hblM;replace hZL:=(zA hZL).bw hblM;replace hjntL:=(zA hjntL).bw hblM;have D:OVs w wc s t k (k+b/16+5) (k+b/16+14) BL CL BM CM xL yL xM yM lo' hi' (lo*Q b) (hi*Q b) (lo*Q b/hi') (-(-(hi*Q b)/lo')):=⟨A,G,R,XL,YL,XM,YM,hZL,hjntL,hZM,hjntM,ht,hfzM,hfyM,hBW⟩
 have E:OVd w BL CL BM CM:=by
  have a1:=hBW0.size;exact ⟨by omega,by omega,by omega,by omega,by omega,by omega,by omega,by omega,by omega,by omega,by omega,by omega⟩
 clear x0 x1 x2 x3 z0 z1 z2 z3 HK lG lX lY hblM hs A G R XL YL XM YM hZL hjntL hZM hjntM ht hfzM hfyM hBW jM0 jM1 jM2 jM3 jL0 jL1 jL2 jL3 lR2 lR1 hltL hjtL hltM hjtM nRL hneM hHL hJL hHM hJM hBW0;have lL:=D.XL.lt;have lC:=D.YL.lt;have lM:=D.XM.lt;have lN:=D.YM.lt;have lG:=D.G.lt;have lA:=D.A.lt;obtain ⟨i0,i1⟩:=D.XL;obtain ⟨i2,i3⟩:=D.YL;obtain ⟨i4,i5⟩:=D.XM;obtain ⟨i6,i7⟩:=D.YM;obtain ⟨y0,y1,y2,y3,y4⟩:=D.G;obtain ⟨e0,e1,e2,e3,e4⟩:=D.A;have fM:=D.fM;have fN:=D.fN;go_wp2_with fail;refine (jZ _ _ _ _ (k+b/16+5) (lo*Q b) _ D.il).mono ?_;rintro r w3 ⟨rfl,hb3⟩;replace D:=D.bw hb3;clear hb3 i0 i1 i2 i3 i4 i5 i6 i7 y0 y1 y2 y3 y4 e0 e1 e2 e3 e4 fM fN lL lC lM lN lG lA
 by_cases c1:lo*Q b<0
 ·have t2:zF (lo*Q b) 0<0:=by unfold zF;rw[if_pos c1];omega
  have HO1:=zC (show ovLo (lo*Q b) (hi*Q b) lo' hi'=lo*Q b/lo' by unfold ovLo;rw[if_pos c1])
  clear c1;have lL:=D.XL.lt;have lC:=D.YL.lt;have lM:=D.XM.lt;have lN:=D.YM.lt;have lG:=D.G.lt;have lA:=D.A.lt;obtain ⟨i0,i1⟩:=D.XL;obtain ⟨i2,i3⟩:=D.YL;obtain ⟨i4,i5⟩:=D.XM;obtain ⟨i6,i7⟩:=D.YM;obtain ⟨y0,y1,y2,y3,y4⟩:=D.G;obtain ⟨e0,e1,e2,e3,e4⟩:=D.A;have fM:=D.fM;have fN:=D.fN;go_wp2_with fail;refine (zCZ _ _ _ _ _ _ _ _ (k+b/16+5) k (lo*Q b) lo' _ D.il D.ht.lo (by omega) (by omega) (by omega)).mono ?_
  rintro r w4 ⟨neg4,a4,n4,c4,rfl,hZ4,hb4⟩;replace D:=D.bw hb4;clear hb4 i0 i1 i2 i3 i4 i5 i6 i7 y0 y1 y2 y3 y4 e0 e1 e2 e3 e4 fM fN lL lC lM lN lG lA;have lL:=D.XL.lt;have lC:=D.YL.lt;have lM:=D.XM.lt;have lN:=D.YM.lt;have lG:=D.G.lt;have lA:=D.A.lt;obtain ⟨i0,i1⟩:=D.XL;obtain ⟨i2,i3⟩:=D.YL;obtain ⟨i4,i5⟩:=D.XM;obtain ⟨i6,i7⟩:=D.YM;obtain ⟨y0,y1,y2,y3,y4⟩:=D.G;obtain ⟨e0,e1,e2,e3,e4⟩:=D.A;have fM:=D.fM;have fN:=D.fN;have D2:=D.setM E ⟨neg4,a4,n4,c4⟩ (hZ4.mono (by omega))
  obtain ⟨V4,hV4⟩:∃ V',V'=(w4.setCell ⟨BM,0,none⟩ (.bool neg4)).setCell ⟨BM,1,none⟩ (.slice a4 n4 c4):=⟨_,rfl⟩;rw[← hV4] at D2
  go_upto_region 8 with fail
  rw[← hV4];clear hV4 D i0 i1 i2 i3 i4 i5 i6 i7 y0 y1 y2 y3 y4 e0 e1 e2 e3 e4 fM fN lL lC lM lN lG lA;have D:=D2;clear D2;have lL:=D.XL.lt;have lC:=D.YL.lt;have lM:=D.XM.lt;have lN:=D.YM.lt;have lG:=D.G.lt;have lA:=D.A.lt;obtain ⟨i0,i1⟩:=D.XL;obtain ⟨i2,i3⟩:=D.YL;obtain ⟨i4,i5⟩:=D.XM;obtain ⟨i6,i7⟩:=D.YM;obtain ⟨y0,y1,y2,y3,y4⟩:=D.G;obtain ⟨e0,e1,e2,e3,e4⟩:=D.A;have fM:=D.fM;have fN:=D.fN;go_wp2_with fail;refine (jZ _ _ _ _ (k+b/16+5) (hi*Q b) _ D.ih).mono ?_;rintro r w5 ⟨rfl,hb5⟩;replace D:=D.bw hb5;clear hb5 i0 i1 i2 i3 i4 i5 i6 i7 y0 y1 y2 y3 y4 e0 e1 e2 e3 e4 fM fN lL lC lM lN lG lA
  by_cases c2:hi*Q b<0
  ·have t3:zF (hi*Q b) 0<0:=by unfold zF;rw[if_pos c2];omega
   have HO2:=zC (show zKD (lo*Q b) (hi*Q b) lo' hi' = -(-(hi*Q b)/hi') by unfold zKD;rw[if_pos c2])
   clear c2;have lL:=D.XL.lt;have lC:=D.YL.lt;have lM:=D.XM.lt;have lN:=D.YM.lt;have lG:=D.G.lt;have lA:=D.A.lt;obtain ⟨i0,i1⟩:=D.XL;obtain ⟨i2,i3⟩:=D.YL;obtain ⟨i4,i5⟩:=D.XM;obtain ⟨i6,i7⟩:=D.YM;obtain ⟨y0,y1,y2,y3,y4⟩:=D.G;obtain ⟨e0,e1,e2,e3,e4⟩:=D.A;have fM:=D.fM;have fN:=D.fN;go_wp2_with fail;refine (zB6 _ _ _ _ _ _ _ _ (k+b/16+5) k (hi*Q b) hi' _ D.ih D.ht.hi (by omega) (by omega) (by omega)).mono ?_
   rintro r w6 ⟨neg6,a6,n6,c6,rfl,hZ6,hb6⟩;replace D:=D.bw hb6;clear hb6 i0 i1 i2 i3 i4 i5 i6 i7 y0 y1 y2 y3 y4 e0 e1 e2 e3 e4 fM fN lL lC lM lN lG lA;have lL:=D.XL.lt;have lC:=D.YL.lt;have lM:=D.XM.lt;have lN:=D.YM.lt;have lG:=D.G.lt;have lA:=D.A.lt;obtain ⟨i0,i1⟩:=D.XL;obtain ⟨i2,i3⟩:=D.YL;obtain ⟨i4,i5⟩:=D.XM;obtain ⟨i6,i7⟩:=D.YM;obtain ⟨y0,y1,y2,y3,y4⟩:=D.G;obtain ⟨e0,e1,e2,e3,e4⟩:=D.A;have fM:=D.fM;have fN:=D.fN;have D2:=D.setN E ⟨neg6,a6,n6,c6⟩ (hZ6.mono (by omega))
   obtain ⟨V6,hV6⟩:∃ V',V'=(w6.setCell ⟨CM,0,none⟩ (.bool neg6)).setCell ⟨CM,1,none⟩ (.slice a6 n6 c6):=⟨_,rfl⟩;rw[← hV6] at D2
   go_upto_region 10 with fail
   rw[← hV6];clear hV6 D i0 i1 i2 i3 i4 i5 i6 i7 y0 y1 y2 y3 y4 e0 e1 e2 e3 e4 fM fN lL lC lM lN lG lA;have D:=D2;have lL:=D.XL.lt;have lC:=D.YL.lt;have lM:=D.XM.lt;have lN:=D.YM.lt;have lG:=D.G.lt;have lA:=D.A.lt;obtain ⟨i0,i1⟩:=D.XL;obtain ⟨i2,i3⟩:=D.YL;obtain ⟨i4,i5⟩:=D.XM;obtain ⟨i6,i7⟩:=D.YM;obtain ⟨y0,y1,y2,y3,y4⟩:=D.G;obtain ⟨e0,e1,e2,e3,e4⟩:=D.A;have fM:=D.fM;have fN:=D.fN;have hR:=D.R;have lR:=hR.lt;obtain ⟨q0,q1,q2,q3,q4,q5⟩:=hR;go_wp2_with fail;refine bodyPost_ret (v:=.agg #[.bool (Nm.mk neg4 a4 n4 c4).neg,.slice (Nm.mk neg4 a4 n4 c4).a (Nm.mk neg4 a4 n4 c4).n (Nm.mk neg4 a4 n4 c4).cap,.bool (Nm.mk neg6 a6 n6 c6).neg,.slice (Nm.mk neg6 a6 n6 c6).a (Nm.mk neg6 a6 n6 c6).n (Nm.mk neg6 a6 n6 c6).cap,.int .i64 s.bits]) (by simp[results,Tryz.results91,go_sem,lR,q0,q1,q2,q3,q4]) rfl ⟨⟨(Nm.mk neg4 a4 n4 c4).neg,(Nm.mk neg4 a4 n4 c4).a,(Nm.mk neg4 a4 n4 c4).n,(Nm.mk neg4 a4 n4 c4).cap,(Nm.mk neg6 a6 n6 c6).neg,(Nm.mk neg6 a6 n6 c6).a,(Nm.mk neg6 a6 n6 c6).n,(Nm.mk neg6 a6 n6 c6).cap,s.bits⟩,rfl,zA HBT,?_,?_⟩
   ·rw[zA HO1,zA HO2];exact SpAt.put5 ⟨D.im.mono (by omega),D.jn.mono (by omega)⟩ q0 q1 q2 q3 q4 _ _ _ _ _
   ·exact jV D.hB (by omega) _ _ _ _ _
  ·have t3:¬ zF (hi*Q b) 0<0:=by unfold zF;rw[if_neg c2];split <;> omega
   have HO2:=zC (show zKD (lo*Q b) (hi*Q b) lo' hi' = -(-(hi*Q b)/lo') by unfold zKD;rw[if_neg c2])
   clear c2;have lL:=D.XL.lt;have lC:=D.YL.lt;have lM:=D.XM.lt;have lN:=D.YM.lt;have lG:=D.G.lt;have lA:=D.A.lt;obtain ⟨i0,i1⟩:=D.XL;obtain ⟨i2,i3⟩:=D.YL;obtain ⟨i4,i5⟩:=D.XM;obtain ⟨i6,i7⟩:=D.YM;obtain ⟨y0,y1,y2,y3,y4⟩:=D.G;obtain ⟨e0,e1,e2,e3,e4⟩:=D.A;have fM:=D.fM;have fN:=D.fN;have hR:=D.R;have lR:=hR.lt;obtain ⟨q0,q1,q2,q3,q4,q5⟩:=hR;go_wp2_with fail;refine bodyPost_ret (v:=.agg #[.bool (Nm.mk neg4 a4 n4 c4).neg,.slice (Nm.mk neg4 a4 n4 c4).a (Nm.mk neg4 a4 n4 c4).n (Nm.mk neg4 a4 n4 c4).cap,.bool yM.neg,.slice yM.a yM.n yM.cap,.int .i64 s.bits]) (by simp[results,Tryz.results91,go_sem,lR,q0,q1,q2,q3,q4]) rfl ⟨⟨(Nm.mk neg4 a4 n4 c4).neg,(Nm.mk neg4 a4 n4 c4).a,(Nm.mk neg4 a4 n4 c4).n,(Nm.mk neg4 a4 n4 c4).cap,yM.neg,yM.a,yM.n,yM.cap,s.bits⟩,rfl,zA HBT,?_,?_⟩
   ·rw[zA HO1,zA HO2];exact SpAt.put5 ⟨D.im.mono (by omega),D.jn.mono (by omega)⟩ q0 q1 q2 q3 q4 _ _ _ _ _
   ·exact jV D.hB (by omega) _ _ _ _ _
 ·have t2:¬ zF (lo*Q b) 0<0:=by unfold zF;rw[if_neg c1];split <;> omega
  have HO1:=zC (show ovLo (lo*Q b) (hi*Q b) lo' hi'=lo*Q b/hi' by unfold ovLo;rw[if_neg c1])
  clear c1;have lL:=D.XL.lt;have lC:=D.YL.lt;have lM:=D.XM.lt;have lN:=D.YM.lt;have lG:=D.G.lt;have lA:=D.A.lt;obtain ⟨i0,i1⟩:=D.XL;obtain ⟨i2,i3⟩:=D.YL;obtain ⟨i4,i5⟩:=D.XM;obtain ⟨i6,i7⟩:=D.YM;obtain ⟨y0,y1,y2,y3,y4⟩:=D.G;obtain ⟨e0,e1,e2,e3,e4⟩:=D.A;have fM:=D.fM;have fN:=D.fN;go_wp2_with fail;refine (jZ _ _ _ _ (k+b/16+5) (hi*Q b) _ D.ih).mono ?_;rintro r w5 ⟨rfl,hb5⟩;replace D:=D.bw hb5;clear hb5 i0 i1 i2 i3 i4 i5 i6 i7 y0 y1 y2 y3 y4 e0 e1 e2 e3 e4 fM fN lL lC lM lN lG lA
  by_cases c2:hi*Q b<0
  ·have t3:zF (hi*Q b) 0<0:=by unfold zF;rw[if_pos c2];omega
   have HO2:=zC (show zKD (lo*Q b) (hi*Q b) lo' hi' = -(-(hi*Q b)/hi') by unfold zKD;rw[if_pos c2])
   clear c2;have lL:=D.XL.lt;have lC:=D.YL.lt;have lM:=D.XM.lt;have lN:=D.YM.lt;have lG:=D.G.lt;have lA:=D.A.lt;obtain ⟨i0,i1⟩:=D.XL;obtain ⟨i2,i3⟩:=D.YL;obtain ⟨i4,i5⟩:=D.XM;obtain ⟨i6,i7⟩:=D.YM;obtain ⟨y0,y1,y2,y3,y4⟩:=D.G;obtain ⟨e0,e1,e2,e3,e4⟩:=D.A;have fM:=D.fM;have fN:=D.fN;go_wp2_with fail;refine (zB6 _ _ _ _ _ _ _ _ (k+b/16+5) k (hi*Q b) hi' _ D.ih D.ht.hi (by omega) (by omega) (by omega)).mono ?_
   rintro r w6 ⟨neg6,a6,n6,c6,rfl,hZ6,hb6⟩;replace D:=D.bw hb6;clear hb6 i0 i1 i2 i3 i4 i5 i6 i7 y0 y1 y2 y3 y4 e0 e1 e2 e3 e4 fM fN lL lC lM lN lG lA;have lL:=D.XL.lt;have lC:=D.YL.lt;have lM:=D.XM.lt;have lN:=D.YM.lt;have lG:=D.G.lt;have lA:=D.A.lt;obtain ⟨i0,i1⟩:=D.XL;obtain ⟨i2,i3⟩:=D.YL;obtain ⟨i4,i5⟩:=D.XM;obtain ⟨i6,i7⟩:=D.YM;obtain ⟨y0,y1,y2,y3,y4⟩:=D.G;obtain ⟨e0,e1,e2,e3,e4⟩:=D.A;have fM:=D.fM;have fN:=D.fN;have D2:=D.setN E ⟨neg6,a6,n6,c6⟩ (hZ6.mono (by omega))
   obtain ⟨V6,hV6⟩:∃ V',V'=(w6.setCell ⟨CM,0,none⟩ (.bool neg6)).setCell ⟨CM,1,none⟩ (.slice a6 n6 c6):=⟨_,rfl⟩;rw[← hV6] at D2
   go_upto_region 10 with fail
   rw[← hV6];clear hV6 D i0 i1 i2 i3 i4 i5 i6 i7 y0 y1 y2 y3 y4 e0 e1 e2 e3 e4 fM fN lL lC lM lN lG lA;have D:=D2;have lL:=D.XL.lt;have lC:=D.YL.lt;have lM:=D.XM.lt;have lN:=D.YM.lt;have lG:=D.G.lt;have lA:=D.A.lt;obtain ⟨i0,i1⟩:=D.XL;obtain ⟨i2,i3⟩:=D.YL;obtain ⟨i4,i5⟩:=D.XM;obtain ⟨i6,i7⟩:=D.YM;obtain ⟨y0,y1,y2,y3,y4⟩:=D.G;obtain ⟨e0,e1,e2,e3,e4⟩:=D.A;have fM:=D.fM;have fN:=D.fN;have hR:=D.R;have lR:=hR.lt;obtain ⟨q0,q1,q2,q3,q4,q5⟩:=hR;go_wp2_with fail;refine bodyPost_ret (v:=.agg #[.bool xM.neg,.slice xM.a xM.n xM.cap,.bool (Nm.mk neg6 a6 n6 c6).neg,.slice (Nm.mk neg6 a6 n6 c6).a (Nm.mk neg6 a6 n6 c6).n (Nm.mk neg6 a6 n6 c6).cap,.int .i64 s.bits]) (by simp[results,Tryz.results91,go_sem,lR,q0,q1,q2,q3,q4]) rfl ⟨⟨xM.neg,xM.a,xM.n,xM.cap,(Nm.mk neg6 a6 n6 c6).neg,(Nm.mk neg6 a6 n6 c6).a,(Nm.mk neg6 a6 n6 c6).n,(Nm.mk neg6 a6 n6 c6).cap,s.bits⟩,rfl,zA HBT,?_,?_⟩
   ·rw[zA HO1,zA HO2];exact SpAt.put5 ⟨D.im.mono (by omega),D.jn.mono (by omega)⟩ q0 q1 q2 q3 q4 _ _ _ _ _
   ·exact jV D.hB (by omega) _ _ _ _ _
  ·have t3:¬ zF (hi*Q b) 0<0:=by unfold zF;rw[if_neg c2];split <;> omega
   have HO2:=zC (show zKD (lo*Q b) (hi*Q b) lo' hi' = -(-(hi*Q b)/lo') by unfold zKD;rw[if_neg c2])
   clear c2;have lL:=D.XL.lt;have lC:=D.YL.lt;have lM:=D.XM.lt;have lN:=D.YM.lt;have lG:=D.G.lt;have lA:=D.A.lt;obtain ⟨i0,i1⟩:=D.XL;obtain ⟨i2,i3⟩:=D.YL;obtain ⟨i4,i5⟩:=D.XM;obtain ⟨i6,i7⟩:=D.YM;obtain ⟨y0,y1,y2,y3,y4⟩:=D.G;obtain ⟨e0,e1,e2,e3,e4⟩:=D.A;have fM:=D.fM;have fN:=D.fN;have hR:=D.R;have lR:=hR.lt;obtain ⟨q0,q1,q2,q3,q4,q5⟩:=hR;go_wp2_with fail;refine bodyPost_ret (v:=.agg #[.bool xM.neg,.slice xM.a xM.n xM.cap,.bool yM.neg,.slice yM.a yM.n yM.cap,.int .i64 s.bits]) (by simp[results,Tryz.results91,go_sem,lR,q0,q1,q2,q3,q4]) rfl ⟨⟨xM.neg,xM.a,xM.n,xM.cap,yM.neg,yM.a,yM.n,yM.cap,s.bits⟩,rfl,zA HBT,?_,?_⟩
   ·rw[zA HO1,zA HO2];exact SpAt.put5 ⟨D.im.mono (by omega),D.jn.mono (by omega)⟩ q0 q1 q2 q3 q4 _ _ _ _ _
   ·exact jV D.hB (by omega) _ _ _ _ _
theorem zI9 (w:World) (s t:Sp) (k b:Nat) (lo hi lo' hi':Int) (hs:SpAt w s k lo hi) (ht:SpAt w t k lo' hi') (hk:k≤50000000) (hb:b≤1000000) (hbits:s.bits=b) (hp:hi'<0) (hp2:lo'≤hi') :
  Calls Tryz.prog 91 #[.agg #[.bool s.ln,.slice s.la s.lN s.lc,.bool s.hn,.slice s.ha s.hN s.hc,.int .i64 s.bits],.agg #[.bool t.ln,.slice t.la t.lN t.lc,.bool t.hn,.slice t.ha t.hN t.hc,.int .i64 t.bits]] w (zH w b (k+b/16+20) (ovLo (-hi*Q b) (-lo*Q b) (-hi') (-lo')) (zKD (-hi*Q b) (-lo*Q b) (-hi') (-lo'))):=by
 have HBT:=zC hbits;have t1:zF hi' 0<0:=by unfold zF;rw[if_pos (by omega)];omega
 clear hbits;obtain ⟨W,hW⟩:∃ W,W=((w.alloc (.cells #[.bool s.ln,.slice s.la s.lN s.lc,.bool s.hn,.slice s.ha s.hN s.hc,.int .i64 s.bits] 36)).alloc (.cells #[.bool t.ln,.slice t.la t.lN t.lc,.bool t.hn,.slice t.ha t.hN t.hc,.int .i64 t.bits] 36)).alloc (.cells #[.bool false,.slice none 0 0,.bool false,.slice none 0 0,.int .i64 0] 36):=⟨_,rfl⟩;have hBW:Below w.heap.size w W:=by rw[hW];exact bl3 _ _ _ _
 have A:SpC W w.heap.size s:=by rw[hW];constructor <;> simp[go_sem]
 have G:SpC W (w.heap.size+1) t:=by rw[hW];constructor <;> simp[go_sem]
 have R:NoC W (w.heap.size+1+1):=by rw[hW];constructor <;> simp[go_sem]
 replace hs:=zC (hs.bw hBW);replace ht:=zC (ht.bw hBW)
 go_enter Tryz.func91,Tryz.ntmps91
 go_wp2_with fail;rw[← hW];clear hW;refine (jZ _ _ _ _ k hi' _ (zA ht).hi).mono ?_;rintro r w0 ⟨rfl,hb0⟩;replace hBW:=zB hBW hb0;replace A:=A.bw hb0;replace G:=G.bw hb0;replace R:=R.bw hb0;replace hs:=zC ((zA hs).bw hb0);replace ht:=zC ((zA ht).bw hb0);clear hb0;have lA:=A.lt;have lG:=G.lt;have hsl:=zC (zA hs).lo;have hsh:=zC (zA hs).hi;have htl:=zC (zA ht).lo;have hth:=zC (zA ht).hi;have nq1:w.heap.size≠w.heap.size+1+1:=by omega
 have nq2:w.heap.size+1≠w.heap.size+1+1:=by omega
 have HK:=zC (show ∀ w',Below w0.heap.size w0 w'→(w'.cell? ⟨w.heap.size,0,none⟩=some (.bool s.ln)∧w'.cell? ⟨w.heap.size,1,none⟩=some (.slice s.la s.lN s.lc)∧w'.cell? ⟨w.heap.size,2,none⟩=some (.bool s.hn)∧w'.cell? ⟨w.heap.size,3,none⟩=some (.slice s.ha s.hN s.hc)∧w'.cell? ⟨w.heap.size,4,none⟩=some (.int .i64 s.bits)∧w'.cell? ⟨w.heap.size+1,0,none⟩=some (.bool t.ln)∧w'.cell? ⟨w.heap.size+1,1,none⟩=some (.slice t.la t.lN t.lc)∧w'.cell? ⟨w.heap.size+1,2,none⟩=some (.bool t.hn)∧w'.cell? ⟨w.heap.size+1,3,none⟩=some (.slice t.ha t.hN t.hc)∧w'.cell? ⟨w.heap.size+1,4,none⟩=some (.int .i64 t.bits)) from fun w' hB=>⟨(A.bw hB).c0,(A.bw hB).c1,(A.bw hB).c2,(A.bw hB).c3,(A.bw hB).c4,(G.bw hB).c0,(G.bw hB).c1,(G.bw hB).c2,(G.bw hB).c3,(G.bw hB).c4⟩)
 obtain ⟨x0,x1,x2,x3,x4,y0,y1,y2,y3,y4⟩:=zA HK _ (Below.refl _ _);go_wp2_with fail
 go_region_held3 (fun w'=>w'.cell? ⟨w.heap.size,0,none⟩=some (.bool s.ln)∧w'.cell? ⟨w.heap.size,1,none⟩=some (.slice s.la s.lN s.lc)∧w'.cell? ⟨w.heap.size,2,none⟩=some (.bool s.hn)∧w'.cell? ⟨w.heap.size,3,none⟩=some (.slice s.ha s.hN s.hc)∧w'.cell? ⟨w.heap.size,4,none⟩=some (.int .i64 s.bits)∧w'.cell? ⟨w.heap.size+1,0,none⟩=some (.bool t.ln)∧w'.cell? ⟨w.heap.size+1,1,none⟩=some (.slice t.la t.lN t.lc)∧w'.cell? ⟨w.heap.size+1,2,none⟩=some (.bool t.hn)∧w'.cell? ⟨w.heap.size+1,3,none⟩=some (.slice t.ha t.hN t.hc)∧w'.cell? ⟨w.heap.size+1,4,none⟩=some (.int .i64 t.bits)) (first|exact zA HK _ (by with_reducible first|exact hB5|exact hB4|exact hB3|exact hB2|exact hB1|exact (Below.refl _ _).drew|exact Below.refl _ _)|exact ⟨jE e0 nq1 _ _ _ _ _,jE e1 nq1 _ _ _ _ _,jE e2 nq1 _ _ _ _ _,jE e3 nq1 _ _ _ _ _,jE e4 nq1 _ _ _ _ _,jE f0 nq2 _ _ _ _ _,jE f1 nq2 _ _ _ _ _,jE f2 nq2 _ _ _ _ _,jE f3 nq2 _ _ _ _ _,jE f4 nq2 _ _ _ _ _⟩)
  (first
   | (go_at_call 91;refine (zFL _ ⟨neg1,a1,n1,c1,neg2,a2,n2,c2,s.bits⟩ ⟨neg3,a3,n3,c3,neg4,a4,n4,c4,t.bits⟩ k b (-hi) (-lo) (-hi') (-lo') ⟨hZ1,hZ2⟩ ⟨hZ3,hZ4⟩ hk hb (zA HBT) (by omega) (by omega)).mono ?_;rintro r w5 ⟨u,rfl,hub,hup,hb5⟩;have hB5:=zB hB4 hb5;have R5:=R.bw hB5;have l5:=R5.lt;obtain ⟨q0,q1,q2,q3,q4,q5⟩:=R5;obtain ⟨e0,e1,e2,e3,e4,f0,f1,f2,f3,f4⟩:=zA HK _ hB5;have HUB:=zC hub;clear hub)
   | (go_at_call 103;have hq:=hB3;refine (jY _ _ _ _ k lo' _ ((zA htl).bw hB3) (by omega)).mono ?_;rintro r w4 ⟨neg4,a4,n4,c4,rfl,hZ4,hb4⟩;have hB4:=zB hB3 hb4;replace hZ1:=hZ1.bw hb4;replace hZ2:=hZ2.bw hb4;replace hZ3:=hZ3.bw hb4)
   | (go_at_call 103;have hq:=hB2;refine (jY _ _ _ _ k hi' _ ((zA hth).bw hB2) (by omega)).mono ?_;rintro r w3 ⟨neg3,a3,n3,c3,rfl,hZ3,hb3⟩;have hB3:=zB hB2 hb3;replace hZ1:=hZ1.bw hb3;replace hZ2:=hZ2.bw hb3)
   | (go_at_call 103;have hq:=hB1;refine (jY _ _ _ _ k lo _ ((zA hsl).bw hB1) (by omega)).mono ?_;rintro r w2 ⟨neg2,a2,n2,c2,rfl,hZ2,hb2⟩;have hB2:=zB hB1 hb2;replace hZ1:=hZ1.bw hb2)
   | (go_at_call 103;refine (jY _ _ _ _ k hi _ ((zA hsh).bw (Below.refl _ _).drew) (by omega)).mono ?_;rintro r w1 ⟨neg1,a1,n1,c1,rfl,hZ1,hb1⟩;have hB1:Below w0.heap.size w0 w1:=zB (Below.refl _ _).drew hb1))
 all_goals
  go_wp2_with fail;refine bodyPost_ret (v:=.agg #[.bool u.ln,.slice u.la u.lN u.lc,.bool u.hn,.slice u.ha u.hN u.hc,.int .i64 u.bits]) (by simp[results,Tryz.results91,go_sem,l5,q0,q1,q2,q3,q4]) rfl ⟨u,rfl,zA HUB,?_,?_⟩
  ·exact SpAt.put5 hup q0 q1 q2 q3 q4 _ _ _ _ _
  ·exact jV (zB hBW hB5) (by omega) _ _ _ _ _
def zEB (lo hi lo' hi':Int) (b:Nat):Int:=if hi'<0 then ovLo (-hi*Q b) (-lo*Q b) (-hi') (-lo') else ovLo (lo*Q b) (hi*Q b) lo' hi'
def zE1 (lo hi lo' hi':Int) (b:Nat):Int:=if hi'<0 then zKD (-hi*Q b) (-lo*Q b) (-hi') (-lo') else zKD (lo*Q b) (hi*Q b) lo' hi'
theorem zIY (w:World) (s t:Sp) (k b:Nat) (lo hi lo' hi':Int) (hs:SpAt w s k lo hi) (ht:SpAt w t k lo' hi') (hk:k≤50000000) (hb:b≤1000000) (hbits:s.bits=b) (hp:¬ (lo'≤0∧0≤hi')) (hp2:lo'≤hi') :
  Calls Tryz.prog 91 #[.agg #[.bool s.ln,.slice s.la s.lN s.lc,.bool s.hn,.slice s.ha s.hN s.hc,.int .i64 s.bits],.agg #[.bool t.ln,.slice t.la t.lN t.lc,.bool t.hn,.slice t.ha t.hN t.hc,.int .i64 t.bits]] w (zH w b (k+b/16+20) (zEB lo hi lo' hi' b) (zE1 lo hi lo' hi' b)):=by
 unfold zEB zE1
 by_cases h:hi'<0
 ·rw[if_pos h,if_pos h];exact zI9 w s t k b lo hi lo' hi' hs ht hk hb hbits h hp2
 ·rw[if_neg h,if_neg h];exact zFL w s t k b lo hi lo' hi' hs ht hk hb hbits (by omega) hp2
open Ex
namespace Ex
theorem lin_le {L y c d a t:Rat} (h1:L*c≤a) (h2:L*d≤a) (g1:c-t≤y) (g2:y≤d+t) (k:Rat) (k1:L≤k) (k2 : -L≤k) (ht:0≤t):L*y≤a+k*t:=by
 by_cases hL:0≤L
 ·have:=Rat.mul_nonneg hL (show 0≤d+t-y by grind)
  have:=Rat.mul_nonneg (show 0≤k-L by grind) ht
  grind
 ·have:=Rat.mul_nonneg (show 0 ≤ -L by grind) (show 0≤y-(c-t) by grind)
  have:=Rat.mul_nonneg (show 0≤k+L by grind) ht
  grind
theorem Has.div {a b c d L U:Rat} {x y:Nat→Rat} (h:Has a b x) (k:Has c d y) (hc:0<c) (h1:L*c≤a) (h2:L*d≤a) (h3:b≤U*c) (h4:b≤U*d):Has L U (fun M=>x M/y M):=fun e he=>by
 obtain ⟨m,m0,m1,m2,m3,m4⟩:∃ m:Rat,0<m∧L≤m ∧ -L≤m∧U≤m ∧ -U≤m:=by
  refine ⟨1+(if 0≤L then L else -L)+(if 0≤U then U else -U),?_,?_,?_,?_,?_⟩ <;> split <;> split <;> grind
 have m5:(0:Rat)<2*(1+m):=by grind
 have hec:0<e*c:=Rat.mul_pos he hc
 obtain ⟨t,t0,t1,t2⟩:∃ t:Rat,0<t∧2*t≤c∧t*(2*(1+m))≤e*c:=by
  have f:=rdm (a:=e*c) m5;have f0:=zL hec m5
  by_cases hh:e*c/(2*(1+m))≤c/2
  ·exact ⟨e*c/(2*(1+m)),f0,by grind,by grind⟩
  ·refine ⟨c/2,by grind,by grind,?_⟩
   have:=Rat.mul_nonneg (show 0≤e*c/(2*(1+m))-c/2 by grind) (show 0≤2*(1+m) by grind)
   grind
 obtain ⟨N1,g1⟩:=h t t0;obtain ⟨N2,g2⟩:=k t t0;refine ⟨N1+N2,fun M hM=>?_⟩
 obtain ⟨p1,p2⟩:=g1 M (by omega)
 obtain ⟨q1,q2⟩:=g2 M (by omega)
 have y0:0<y M:=by grind
 have ey:e*c≤2*(e*y M):=by
  have:=Rat.mul_nonneg (Rat.le_of_lt he) (show 0≤2*y M-c by grind)
  grind
 constructor
 ·refine kR y0 ?_
  have:=lin_le h1 h2 q1 q2 m m1 m2 (Rat.le_of_lt t0);grind
 ·refine jS y0 ?_
  have:=lin_le (L := -U) (a := -b) (by grind) (by grind) q1 q2 m (by grind) (by grind) (Rat.le_of_lt t0)
  grind
end Ex
theorem Iv.div {B:Nat} {s t:Int × Int} {x y:Nat→Rat} (h:Iv B s x) (k:Iv B t y) (h0:0<t.1) {lo hi:Int} (h1:lo*t.1≤s.1*Q B) (h2:lo*t.2≤s.1*Q B) (h3:s.2*Q B≤hi*t.1) (h4:s.2*Q B≤hi*t.2):Iv B (lo,hi) (fun M=>x M/y M):=by
 have q:=zV B;have t0:(0:Rat)<(t.1:Rat):=by exact_mod_cast h0
 have key:∀ {u v z:Int},u*v≤z*Q B→(u:Rat)/(Q B:Rat)*((v:Rat)/(Q B:Rat))≤(z:Rat)/(Q B:Rat):=fun {u v z} hh=>zIH (by have:=zG B;omega) hh
 have key2:∀ {u v z:Int},z*Q B≤u*v→(z:Rat)/(Q B:Rat)≤(u:Rat)/(Q B:Rat)*((v:Rat)/(Q B:Rat)):=fun {u v z} hh=>zHG (by have:=zG B;omega) hh
 exact Has.div h k (zL t0 q) (key h1) (key h2) (key2 h3) (key2 h4)
theorem zNM {lo hi lo' hi':Int} {b:Nat} (h0:0≤lo) (h1:lo≤hi) (h2:0<lo') (h3:lo'≤hi'):zEB lo hi lo' hi' b=lo*Q b/hi'∧zE1 lo hi lo' hi' b = -(-(hi*Q b)/lo'):=by
 have q:=zG b;have p1:=Int.mul_nonneg h0 (show 0≤Q b by omega)
 have p2:=Int.mul_nonneg (show 0≤hi by omega) (show 0≤Q b by omega)
 unfold zEB zE1 ovLo zKD;rw[if_neg (by omega),if_neg (by omega),if_neg (by omega),if_neg (by omega)]
 exact ⟨rfl,rfl⟩
theorem zAW (a:Int) {d:Int} (hd:0<d):a ≤ -(-a/d)*d:=by
 have:=Int.ediv_mul_le (-a) (show d≠0 by omega)
 rw[Int.neg_mul];omega
theorem zJ5 (a:Int) {d:Int} (hd:0<d):a/d*d≤a:=Int.ediv_mul_le a (by omega)
theorem Iv.dv {B:Nat} {s t:Int × Int} {x y:Nat→Rat} (h:Iv B s x) (k:Iv B t y) (hs:0≤s.1) (h0:0<t.1):Iv B (zEB s.1 s.2 t.1 t.2 B,zE1 s.1 s.2 t.1 t.2 B) (fun M=>x M/y M):=by
 have hs2:=h.le;have ht2:=k.le;have q:=zG B;obtain ⟨e1,e2⟩:=zNM (b:=B) hs hs2 h0 ht2;rw[e1,e2];have p1:=Int.mul_nonneg hs (show 0≤Q B by omega)
 have l0:0≤s.1*Q B/t.2:=Int.ediv_nonneg p1 (by omega)
 have f1:=zJ5 (s.1*Q B) (show 0<t.2 by omega)
 have f2:=zAW (s.2*Q B) h0;have p2:=Int.mul_nonneg (show 0≤s.2 by omega) (show 0≤Q B by omega)
 have u0:0 ≤ -(-(s.2*Q B)/t.1):=by
  have : -(s.2*Q B)/t.1≤0:=Int.ediv_nonpos_of_nonpos_of_neg (by omega) h0
  omega
 have g1:=Int.mul_le_mul_of_nonneg_left ht2 l0;have g2:=Int.mul_le_mul_of_nonneg_left ht2 u0;exact h.div k h0 (by omega) f1 f2 (by omega)
open Ex
theorem zJL {B:Nat} {a b:Int × Int} (ha:0≤a.1) (ha2:0≤a.2) (hb:0≤b.1) (hb2:0≤b.2):0≤(kJ B a b).1:=by
 have q:=zG B;obtain ⟨_,_,_,_,h⟩:=zCS (a.1*b.1) (a.1*b.2) (a.2*b.1) (a.2*b.2);have p1:=Int.mul_nonneg ha hb;have p2:=Int.mul_nonneg ha hb2;have p3:=Int.mul_nonneg ha2 hb;have p4:=Int.mul_nonneg ha2 hb2;exact Int.ediv_nonneg (by omega) (by omega)
theorem zJ1 {B:Nat} {sm:Int × Int} (h:0≤sm.1) (h2:sm.1≤sm.2) (n:Nat):0≤(zY B sm n).1:=by
 induction n with
 | zero=>have:=zG B;show 0≤Q B;omega
 | succ n ih =>
  have hl:=kX B sm n;have h3:=zJL (B:=B) (a:=zY B sm n) (b:=sm) ih (by omega) h (by omega)
  show 0≤(zE (kJ B (zY B sm n) sm) 1 ((n:Int)+1)).1
  unfold zE;exact Int.ediv_nonneg (by omega) (by omega)
theorem sumI_low {B:Nat} {sm:Int × Int} (h:0≤sm.1) (h2:sm.1≤sm.2) (n:Nat):Q B≤(jG (zY B sm) n).1:=by
 induction n with
 | zero=>exact Int.le_refl _
 | succ n ih =>
  have:=zJ1 (B:=B) h h2 (n+1)
  show Q B≤(jJ (jG (zY B sm) n) (zY B sm (n+1))).1
  unfold jJ;simp only[];omega
theorem done_low {B N:Nat} {sm:Int × Int} (h:0≤sm.1) (h2:sm.1≤sm.2) (hN:jX (zY B sm) N):Q B-1≤(zQ (zY B sm) N).1:=by
 have h3:=sumI_low (B:=B) h h2 N;have h4:=hN.1;unfold zQ jJ;simp only[];omega
theorem zNZ {B:Nat} {d:Int × Int} (hd:d.1≤d.2) (t:Nat) (hq:Q t≤Q B) (h:Q B-1≤d.1):Q B-Q t≤(sqI B d t).1∧(sqI B d t).1≤(sqI B d t).2:=by
 have q:=zG B
 induction t with
 | zero=>exact ⟨h,hd⟩
 | succ t ih =>
  have e:Q (t+1)=2*Q t:=rfl;have qt:=zG t;obtain ⟨i1,i2⟩:=ih (by omega)
  refine ⟨?_,kV B⟩
  show Q B-Q (t+1)≤(kJ B (sqI B d t) (sqI B d t)).1
  generalize sqI B d t=a at *;obtain ⟨_,_,_,_,hh⟩:=zCS (a.1*a.1) (a.1*a.2) (a.2*a.1) (a.2*a.2);have c0:0≤a.1:=by omega
  have m1:=Int.mul_le_mul_of_nonneg_left i2 c0;have m2:=Int.mul_le_mul_of_nonneg_right i2 c0;have m3:=Int.mul_le_mul i2 i2 c0 (by omega)
  have m4:=Int.mul_le_mul i1 i1 (by omega) c0
  have e2:(Q B-Q t)*(Q B-Q t)=(Q B-2*Q t)*Q B+Q t*Q t:=by grind
  have m5:=Int.mul_nonneg (show 0≤Q t by omega) (show 0≤Q t by omega)
  have m6:(Q B-Q (t+1))*Q B≤jA (pr4 (a.1*a.1) (a.1*a.2) (a.2*a.1) (a.2*a.2)) 3:=by rw[e];omega
  exact Int.le_ediv_of_mul_le (by omega) m6
theorem zNY (B:Nat):Iv B (Q B,Q B) (fun _=>1):=by
 have h:=(Iv.of B (n:=1) (d:=1) (by decide))
 have e:ofI 1 1 B=(Q B,Q B):=by unfold ofI;simp only[Int.ediv_one,Int.neg_neg,Int.one_mul]
 rw[e] at h;have e2:((1:Int):Rat)/((1:Int):Rat)=1:=by decide +kernel
 rw[e2] at h;exact h
theorem Iv.bottom {B:Nat} {a:Int × Int} {x:Nat→Rat} (h:Iv B a x) (N0:Nat) (hx:∀ M,N0≤M→0≤x M):Iv B (if a.1<0 then 0 else a.1,a.2) x:=by
 split
 ·intro e he
  obtain ⟨N,hN⟩:=h e he;refine ⟨N+N0,fun M hM=>?_⟩
  have g:=(hN M (by omega)).2
  have g2:=hx M (by omega)
  have e1:((0:Int):Rat)/(Q B:Rat)=0:=by rw[show ((0:Int):Rat)=0 from rfl,Rat.div_def,Rat.zero_mul]
  simp only[];rw[e1];constructor <;> grind
 ·exact h
namespace Ex
end Ex
theorem zF3 {p q:Int} (hp:0≤p) (hq:0<q):(0:Rat)≤(p:Rat)/(q:Rat):=by
 have q0:(0:Rat)<(q:Rat):=by exact_mod_cast hq
 have p0:(0:Rat)≤(p:Rat):=by exact_mod_cast hp
 refine kR q0 ?_;grind
open Ex
def riT (a:Int × Int) (u d:Nat→Int):Nat→Int × Int
 | 0=>a
 | n+1=>zE (riT a u d n) (u (n+1)) (d (n+1))
def zBV (f:Nat→Int × Int) (turn N:Nat):Prop:=turn≤N∧(f N).2≤3∧∀ j,j<N→j<turn∨3<(f j).2
def zAY (f:Nat→Int × Int) (N:Nat):Int × Int:=jJ (jG f N) (0,9)
structure RiOk (u d:Nat→Int):Prop where
 u0:∀ n,0≤u n
 d0:∀ n,0<d n
theorem zK3 {a:Int × Int} {u d:Nat→Int} (h:RiOk u d) (ha:a.1≤a.2) (n:Nat):(riT a u d n).1≤(riT a u d n).2:=by
 induction n with
 | zero=>exact ha
 | succ n ih=>exact jQ ih (h.d0 _) (h.u0 _)
theorem zCJ {a:Int × Int} {u d:Nat→Int} (h:RiOk u d) (ha:0≤a.1) (n:Nat):0≤(riT a u d n).1:=by
 induction n with
 | zero=>exact ha
 | succ n ih=>exact Int.ediv_nonneg (Int.mul_nonneg ih (h.u0 _)) (by have:=h.d0 (n+1);omega)
theorem kE (a:Int) {d:Int} (hd:0<d):a<(a/d+1)*d:=Int.lt_ediv_add_one_mul_self _ hd
theorem zNK {x u d:Int} (hd:0<d) (hx:0≤x) (h:4*u≤3*d):4 * -(-(x*u)/d)≤3*x+3:=by
 have h1:=Int.mul_le_mul_of_nonneg_left h hx;have h2:=kE (-(x*u)) hd;refine Int.not_lt.1 fun hn=>?_
 obtain ⟨c,hc⟩:∃ c,c = -(-(x*u)/d):=⟨_,rfl⟩
 have h3:(c-1)*d<x*u:=by
  have e:(-(x*u)/d+1)*d = -((c-1)*d):=by rw[hc];grind
  omega
 rw[← hc] at hn;have h4:=Int.mul_le_mul_of_nonneg_right (show 3*x+4≤4*c by omega) (show 0≤d by omega)
 have e1:(3*x+4)*d=3*x*d+4*d:=by grind
 have e2:4*c*d=4*((c-1)*d)+4*d:=by grind
 have e3:x*(4*u)=4*(x*u):=by grind
 have e4:x*(3*d)=3*x*d:=by grind
 omega
theorem zL7 {g:Nat→Int} (h:∀ j,4*g (j+1)≤3*g j+3):∀ (H j:Nat),g j-3<Q H→∃ i,i≤j+3*H∧j≤i∧g i≤3:=by
 intro H
 induction H with
 | zero =>
  intro j hj
  have e:Q 0=1:=rfl;exact ⟨j,by omega,Nat.le_refl _,by omega⟩
 | succ H ih =>
  intro j hj
  have e:Q (H+1)=2*Q H:=rfl;have q:=zG H;have h1:=h j;have h2:=h (j+1);have h3:=h (j+2);obtain ⟨i,i1,i2,i3⟩:=ih (j+3) (by rw[show j+3=j+2+1 by omega];rw[show j+2=j+1+1 by omega] at *;omega)
  exact ⟨i,by omega,by omega,i3⟩
theorem zNE {a:Int × Int} {u d:Nat→Int} {turn H:Nat} (h:RiOk u d) (ha:0≤a.1) (hl:a.1≤a.2) (h34:∀ n,turn≤n→4*u (n+1)≤3*d (n+1)) (hH:(riT a u d turn).2-3<Q H):∃ N,N≤turn+3*H∧zBV (riT a u d) turn N:=by
 have hg:∀ j,4*(riT a u d (turn+(j+1))).2≤3*(riT a u d (turn+j)).2+3:=fun j=>by
  have h0:=zCJ h ha (turn+j);have h1:=zK3 h hl (turn+j);exact zNK (x:=(riT a u d (turn+j)).2) (h.d0 (turn+j+1)) (by omega) (h34 (turn+j) (by omega))
 obtain ⟨i,i1,i2,i3⟩:=zL7 hg H 0 hH;obtain ⟨N,n1,n2,n3⟩:=zAE (p:=fun N=>turn≤N∧(riT a u d N).2≤3) (K:=turn+i) ⟨by omega,i3⟩
 refine ⟨N,by omega,n2.1,n2.2,fun j hj=>?_⟩
 have:=n3 j hj
 by_cases ht:j<turn
 ·exact Or.inl ht
 ·exact Or.inr (Int.not_le.1 fun hh=>this ⟨by omega,hh⟩)
def riV (x:Nat→Rat) (u d:Nat→Int):Nat→Nat→Rat
 | 0,M=>x M
 | n+1,M=>(u (n+1):Rat)/(d (n+1):Rat)*riV x u d n M
theorem riT_has {B:Nat} {a:Int × Int} {x:Nat→Rat} {u d:Nat→Int} (h:RiOk u d) (hx:Iv B a x) (n:Nat):Iv B (riT a u d n) (fun M=>riV x u d n M):=by
 induction n with
 | zero=>exact hx
 | succ n ih=>exact ih.scale (h.u0 _) (h.d0 _)
theorem zGG {x:Nat→Rat} {u d:Nat→Int} (h:RiOk u d) {M:Nat} (hx:0≤x M) (n:Nat):0≤riV x u d n M:=by
 induction n with
 | zero=>exact hx
 | succ n ih =>
  have h1:=zF3 (h.u0 (n+1)) (h.d0 (n+1));exact Rat.mul_nonneg h1 ih
theorem riV_fall {x:Nat→Rat} {u d:Nat→Int} (h:RiOk u d) {M:Nat} (hx:0≤x M) {n:Nat} (h34:4*u (n+1)≤3*d (n+1)):4*riV x u d (n+1) M≤3*riV x u d n M:=by
 have h0:=zGG h hx n;have d0:(0:Rat)<(d (n+1):Rat):=by exact_mod_cast h.d0 (n+1)
 have h1:(u (n+1):Rat)/(d (n+1):Rat)≤3/4:=by
  refine jS d0 ?_;have:=zW h34;rw[Rat.intCast_mul,Rat.intCast_mul,show ((4:Int):Rat)=4 from rfl,show ((3:Int):Rat)=3 from rfl] at this
  grind
 have h2:=Rat.mul_nonneg (show 0≤3/4-(u (n+1):Rat)/(d (n+1):Rat) by grind) h0
 show 4*((u (n+1):Rat)/(d (n+1):Rat)*riV x u d n M)≤_
 grind
theorem rise_has {B N:Nat} {f:Nat→Int × Int} {g:Nat→Nat→Rat} (h:∀ n,Iv B (f n) (fun M=>g n M)) (hN:(f N).2≤3) (M0:Nat) (h0:∀ M,M0≤M→∀ n,0≤g n M) (hh:∀ M,M0≤M→∀ n,N≤n→4*g (n+1) M≤3*g n M):Iv B (zAY f N) (fun M=>S (fun k=>g k M) M):=by
 have hs:∀ n,Iv B (jG f n) (fun M=>S (fun k=>g k M) (n+1)):=fun n=>by
  induction n with
  | zero =>
   refine (h 0).congr (null_zero.of_eq fun M=>?_)
   show S (fun k=>g k M) 1-g 0 M=0
   have e:S (fun k=>g k M) 1=0+g 0 M:=rfl
   rw[e];grind
  | succ n ih=>exact ih.add (h (n+1))
 have ht:∀ M,M0≤M→∀ i,0≤S (fun k=>g k M) (N+1+i)-S (fun k=>g k M) (N+1)∧S (fun k=>g k M) (N+1+i)-S (fun k=>g k M) (N+1)+3*g (N+i) M≤3*g N M:=fun M hM i=>by
  induction i with
  | zero=>constructor <;> (show _≤_;simp only[Nat.add_zero];grind)
  | succ i ih =>
   have e:S (fun k=>g k M) (N+1+(i+1))=S (fun k=>g k M) (N+1+i)+g (N+1+i) M:=rfl
   have h1:=h0 M hM (N+1+i);have h2:=hh M hM (N+i) (by omega)
   rw[show N+i+1=N+1+i by omega] at h2
   rw[e,show N+(i+1)=N+1+i by omega]
   constructor <;> grind
 have q:=zV B
 intro e he
 obtain ⟨N1,g1⟩:=hs N (e/4) (by grind)
 obtain ⟨N2,g2⟩:=h N (e/4) (by grind)
 refine ⟨M0+N1+N2+N+1,fun M hM=>?_⟩
 obtain ⟨a1,a2⟩:=g1 M (by omega)
 obtain ⟨b1,b2⟩:=g2 M (by omega)
 obtain ⟨t1,t2⟩:=ht M (by omega) (M-(N+1))
 have t3:=h0 M (by omega) (N+(M-(N+1)))
 rw[show N+1+(M-(N+1))=M by omega] at t1 t2
 have c2:((f N).2:Rat)/(Q B:Rat)≤((3:Int):Rat)/(Q B:Rat):=jS q (by rw[rdm q];exact zW hN)
 have e1:(((zAY f N).1:Int):Rat)/(Q B:Rat)=((jG f N).1:Rat)/(Q B:Rat):=by
  unfold zAY jJ;simp only[];rw[Int.add_zero]
 have e2:(((zAY f N).2:Int):Rat)/(Q B:Rat)=((jG f N).2:Rat)/(Q B:Rat)+3*(((3:Int):Rat)/(Q B:Rat)):=by
  unfold zAY jJ;simp only[];rw[Rat.intCast_add,yC]
  congr 1
  have e9:((9:Int):Rat)=3*((3:Int):Rat):=by decide +kernel
  rw[e9,Rat.div_def,Rat.div_def,Rat.mul_assoc]
 simp only[] at a1 a2 b1 b2;rw[e1,e2];constructor <;> grind
def riS (x:Nat→Rat) (u d:Nat→Int) (M:Nat):Rat:=S (fun k=>riV x u d k M) M
theorem zGE {B N turn:Nat} {a:Int × Int} {x:Nat→Rat} {u d:Nat→Int} (h:RiOk u d) (hx:Iv B a x) (M0:Nat) (hx0:∀ M,M0≤M→0≤x M) (h34:∀ n,turn≤n→4*u (n+1)≤3*d (n+1)) (hN:zBV (riT a u d) turn N):Iv B (zAY (riT a u d) N) (riS x u d) :=
 rise_has (fun n=>riT_has h hx n) hN.2.1 M0 (fun M hM n=>zGG h (hx0 M hM) n) (fun M hM n hn=>riV_fall h (hx0 M hM) (h34 n (Nat.le_trans hN.1 hn)))
theorem zLA {a:Int × Int} {u d:Nat→Int} (h:RiOk u d) (ha:0≤a.1) (hl:a.1≤a.2) (h0:0<a.2) {D:Int} (hD:a.2-a.1≤D) (hmono:∀ n,d (n+1)≤u (n+1)→a.2≤(riT a u d n).2) (n:Nat) :
  ((riT a u d n).2-(riT a u d n).1)*a.2≤(D+2*n)*(if a.2≤(riT a u d n).2 then (riT a u d n).2 else a.2):=by
 have D0:0≤D:=by omega
 induction n with
 | zero =>
  show (a.2-a.1)*a.2≤(D+2*((0:Nat):Int))*(if a.2≤a.2 then a.2 else a.2)
  rw[if_pos (Int.le_refl _)];exact Int.mul_le_mul_of_nonneg_right (by omega) (by omega)
 | succ n ih =>
  have hd:=h.d0 (n+1);have hu:=h.u0 (n+1);have n1:=zCJ h ha n;have n2:=zK3 h hl n;have hmn:=hmono n
  show ((zE (riT a u d n) (u (n+1)) (d (n+1))).2-(zE (riT a u d n) (u (n+1)) (d (n+1))).1)*a.2≤(D+2*((n+1:Nat):Int))*(if a.2≤(zE (riT a u d n) (u (n+1)) (d (n+1))).2 then (zE (riT a u d n) (u (n+1)) (d (n+1))).2 else a.2)
  generalize riT a u d n=t at *;generalize u (n+1)=U at *;generalize d (n+1)=V at *;obtain ⟨hi,ehi⟩:∃ hi,hi=(zE t U V).2:=⟨_,rfl⟩;obtain ⟨lo,elo⟩:∃ lo,lo=(zE t U V).1:=⟨_,rfl⟩;rw[← ehi,← elo];have c1:t.2*U≤hi*V:=by rw[ehi];exact zAW (t.2*U) hd
  have c2:(hi-1)*V<t.2*U:=by
   have h2:=kE (-(t.2*U)) hd;have e:(-(t.2*U)/V+1)*V = -((hi-1)*V):=by rw[ehi];unfold zE;grind
   omega
  have c3:t.1*U<(lo+1)*V:=by rw[elo];exact kE (t.1*U) hd
  have tw:(hi-lo-2)*V≤(t.2-t.1)*U:=by
   have e1:(hi-lo-2)*V=(hi-1)*V-(lo+1)*V:=by grind
   have e2:(t.2-t.1)*U=t.2*U-t.1*U:=by grind
   omega
  have m1:=Int.mul_le_mul_of_nonneg_right tw (show 0≤a.2 by omega)
  have m2:=Int.mul_le_mul_of_nonneg_right ih hu;have C0:0≤D+2*(n:Int):=by omega
  refine Int.le_of_mul_le_mul_right (a:=V) ?_ hd;have e3:(hi-lo)*a.2*V=(hi-lo-2)*V*a.2+2*a.2*V:=by grind
  have e4:(t.2-t.1)*U*a.2=(t.2-t.1)*a.2*U:=by grind
  have cN:(D+2*((n+1:Nat):Int))=(D+2*(n:Int))+2:=by omega
  rw[cN]
  by_cases ht:a.2≤t.2
  ·rw[if_pos ht] at m2
   have m3:=Int.mul_le_mul_of_nonneg_left c1 C0;have e5:(D+2*(n:Int))*t.2*U=(D+2*(n:Int))*(t.2*U):=by grind
   by_cases hh:a.2≤hi
   ·rw[if_pos hh]
    have m4:=Int.mul_le_mul_of_nonneg_right hh (show 0≤V by omega)
    have e6:(D+2*(n:Int)+2)*hi*V=(D+2*(n:Int))*(hi*V)+2*(hi*V):=by grind
    have e7:2*a.2*V=2*(a.2*V):=by grind
    omega
   ·rw[if_neg hh]
    have m4:=Int.mul_le_mul_of_nonneg_right (show hi≤a.2 by omega) (show 0≤V by omega)
    have m5:=Int.mul_le_mul_of_nonneg_left m4 C0;have e6:(D+2*(n:Int)+2)*a.2*V=(D+2*(n:Int))*(a.2*V)+2*(a.2*V):=by grind
    have e7:2*a.2*V=2*(a.2*V):=by grind
    omega
  ·rw[if_neg ht] at m2
   have hUV:U≤V:=by
    refine Int.not_lt.1 fun hlt=>?_
    exact ht (hmn (by omega))
   have m4:=Int.mul_le_mul_of_nonneg_left hUV (show 0≤(D+2*(n:Int))*a.2 from Int.mul_nonneg C0 (by omega))
   have hge:a.2≤(if a.2≤hi then hi else a.2):=by split <;> omega
   have m5:=Int.mul_le_mul_of_nonneg_left hge (show 0≤D+2*(n:Int)+2 by omega)
   have m6:=Int.mul_le_mul_of_nonneg_right m5 (show 0≤V by omega)
   have e6:(D+2*(n:Int)+2)*a.2*V=(D+2*(n:Int))*a.2*V+2*a.2*V:=by grind
   omega
end Go.Proofs.YtgmnknmjainababGreat
