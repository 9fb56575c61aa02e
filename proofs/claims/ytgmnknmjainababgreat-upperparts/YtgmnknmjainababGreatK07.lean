/-
  Its own texts.
-/
import Derived.Test.YtgmnknmjainababGreatK06
set_option maxRecDepth 100000
set_option maxHeartbeats 8000000
set_option linter.unnecessarySimpa false
set_option linter.unusedSimpArgs false
set_option linter.unusedVariables false
namespace Go.Proofs.YtgmnknmjainababGreat
open Go.RowKit
attribute [local go_sem ↓] Go.wp_at_zero Go.wp_at_succ
def zO3 (b:Int):Bool:=decide (8≤b) && decide (b≤120)
theorem zD7 (b:Int) (w:World) :
  Calls Tryz.prog 37 #[.int .i64 b] w fun r w'=>r=.returned (.bool (zO3 b))∧w'=w:=by
 go_enter Tryz.func37,Tryz.ntmps37
 go_wp2_with fail;refine (zBT _ _ _ _).mono ?_;rintro r w1 ⟨rfl,hw⟩;subst hw;go_wp2_with fail
 go_ret
 exact ⟨rfl,rfl⟩
theorem zDB (p q:Int) (w:World) :
  Calls Tryz.prog 44 #[.agg #[.int .i64 p,.int .i64 q]] w fun r w'=>r=.returned (.bool (decide (rok p q)))∧Below w.heap.size w w':=by
 by_cases h : -1048576≤p∧p≤1048576
 ·have h1:(decide (-1048576≤p) && decide (p≤1048576))=true:=by simp;omega
  have h2:(decide (1≤q) && decide (q≤1024))=decide (rok p q):=by
   rw[Bool.eq_iff_iff,Bool.and_eq_true,decide_eq_true_iff,decide_eq_true_iff,decide_eq_true_iff];exact ⟨fun ⟨a,b⟩=>⟨h.1,h.2,a,b⟩,fun ⟨_,_,a,b⟩=>⟨a,b⟩⟩
  have HE:=zC h2;clear h2
  go_enter Tryz.func44,Tryz.ntmps44
  go_wp2_with fail;refine (zBT _ _ _ _).mono ?_;rintro r w1 ⟨rfl,hw⟩;subst hw;rw[h1];go_wp2_with fail;refine (zBT _ _ _ _).mono ?_;rintro r w2 ⟨rfl,hw⟩;subst hw;rw[zA HE];go_wp2_with fail
  go_ret
  exact ⟨rfl,bl1 _ _⟩
 ·have h1:(decide (-1048576≤p) && decide (p≤1048576))=false:=by
   rw[Bool.and_eq_false_iff];simp;omega
  have h2:decide (rok p q)=false:=zLE (by omega)
  have HE:=zC h2;clear h2 h
  go_enter Tryz.func44,Tryz.ntmps44
  go_wp2_with fail;refine (zBT _ _ _ _).mono ?_;rintro r w1 ⟨rfl,hw⟩;subst hw;rw[h1];go_wp2_with fail
  go_ret
  exact ⟨by rw[zA HE];rfl,bl1 _ _⟩
theorem zA4 (p q:Int) (b:Nat) (w:World) (h:rok p q) (hb:b≤100000) :
  Calls Tryz.prog 14 #[.agg #[.int .i64 p,.int .i64 q],.int .i64 b] w (zH w b (b/16+18) (p*Q b/q) (-(-(p*Q b)/q))):=by
 obtain ⟨r1,r2,r3,r4⟩:=h;obtain ⟨W,hW⟩:∃ W,W=(w.alloc (.cells #[.int .i64 p,.int .i64 q] 23)).alloc (.cells #[.bool false,.slice none 0 0,.bool false,.slice none 0 0,.int .i64 0] 36):=⟨_,rfl⟩;have hBW:Below w.heap.size w W:=by rw[hW];exact bl2 _ _ _
 have k0:W.cell? ⟨w.heap.size,0,none⟩=some (.int .i64 p):=by rw[hW];simp[go_sem]
 have k1:W.cell? ⟨w.heap.size,1,none⟩=some (.int .i64 q):=by rw[hW];simp[go_sem]
 have lw:w.heap.size<W.heap.size:=by rw[hW];simp;omega
 have R:NoC W (w.heap.size+1):=by rw[hW];constructor <;> simp[go_sem]
 have lR:=R.lt;have hB0:Below W.heap.size W W.drew:=(Below.refl _ _).drew;have HK:=zC (show ∀ w',Below W.heap.size W w'→(w'.cell? ⟨w.heap.size,0,none⟩=some (.int .i64 p)∧w'.cell? ⟨w.heap.size,1,none⟩=some (.int .i64 q)) from fun w' hB=>⟨(hB.cell (p:=⟨w.heap.size,0,none⟩) lw).trans k0,(hB.cell (p:=⟨w.heap.size,1,none⟩) lw).trans k1⟩)
 go_enter Tryz.func14,Tryz.ntmps14
 go_wp2;rw[← hW];clear hW
 go_region_held3 (fun w'=>w'.cell? ⟨w.heap.size,0,none⟩=some (.int .i64 p)∧w'.cell? ⟨w.heap.size,1,none⟩=some (.int .i64 q)) (first|exact zA HK _ (by with_reducible first|exact hB0|exact hB3|exact hB2|exact hB1)|go_keep)
  (first
   | (go_at_call 43;have hq:=hB1;refine (zD q _ (by omega) (by omega)).mono ?_;rintro r w2 ⟨neg2,a2,n2,c2,rfl,hZ2,hb2⟩;replace hZ1:=hZ1.bw hb2;have hB2:=zB hB1 hb2)
   | (go_at_call 43;refine (zD p _ (by omega) (by omega)).mono ?_;rintro r w1 ⟨neg1,a1,n1,c1,rfl,hZ1,hb1⟩;have hB1:=zB hB0 hb1)
   | (go_at_call 54;refine (zBO _ _ _ _ _ _ _ _ 4 4 b p q _ hZ1 hZ2 (by omega) (by omega) hb (by omega) (fun neg' a' n' cap' w' p1 p2=>zJB neg' _ a' _ n' _ cap' _ _ 4 (p*Q b) q w' p1 p2 (by omega) (by omega) (by omega))).mono ?_;rintro r w3 ⟨s,rfl,hsb,hsp,hb3⟩;have HSB:=zC hsb;clear hsb;have hB3:=zB hB2 hb3;obtain ⟨q0,q1,q2,q3,q4,q5⟩:=R.bw hB3;obtain ⟨i0,i1⟩:=zA HK _ hB3))
 go_wp2;refine bodyPost_ret (v:=.agg #[.bool s.ln,.slice s.la s.lN s.lc,.bool s.hn,.slice s.ha s.hN s.hc,.int .i64 s.bits]) (by simp[results,Tryz.results14,go_sem,q0,q1,q2,q3,q4]) rfl ⟨s,rfl,zA HSB,?_,?_⟩
 ·exact SpAt.put5 (hsp.mono (by omega)) q0 q1 q2 q3 q4 _ _ _ _ _
 ·exact jV (zB hBW hB3) (Nat.le_succ _) _ _ _ _ _
theorem zMH (w:World) (s:Sp) (k:Nat) (bt lo hi:Int) (hs:SpAt w s k lo hi) (hk:k≤300000000) (hb0:0≤s.bits) (hbm:s.bits≤1000000) (hc0:0≤bt) (hcm:bt≤1000000) :
  Calls Tryz.prog 138 #[.agg #[.bool s.ln,.slice s.la s.lN s.lc,.bool s.hn,.slice s.ha s.hN s.hc,.int .i64 s.bits],.int .i64 bt] w (zH w bt (k+62505) (zAU lo (s.bits-bt)) (-(zAU (-hi) (s.bits-bt)))):=by
 obtain ⟨W,hW⟩:∃ W,W=(w.alloc (.cells #[.bool s.ln,.slice s.la s.lN s.lc,.bool s.hn,.slice s.ha s.hN s.hc,.int .i64 s.bits] 28)).alloc (.cells #[.bool false,.slice none 0 0,.bool false,.slice none 0 0,.int .i64 0] 28):=⟨_,rfl⟩;have hBW:Below w.heap.size w W:=by rw[hW];exact bl2 _ _ _
 have A:SpC W w.heap.size s:=by rw[hW];constructor <;> simp[go_sem]
 have R:NoC W (w.heap.size+1):=by rw[hW];constructor <;> simp[go_sem]
 have HS:=zC (hs.bw hBW);have lA:=A.lt;have lR:=R.lt;have hB0:Below W.heap.size W W.drew:=(Below.refl _ _).drew
 have HK:=zC (show ∀ w',Below W.heap.size W w'→(w'.cell? ⟨w.heap.size,0,none⟩=some (.bool s.ln)∧w'.cell? ⟨w.heap.size,1,none⟩=some (.slice s.la s.lN s.lc)∧w'.cell? ⟨w.heap.size,2,none⟩=some (.bool s.hn)∧w'.cell? ⟨w.heap.size,3,none⟩=some (.slice s.ha s.hN s.hc)) from fun w' hB=>by
  obtain ⟨x0,x1,x2,x3,x4⟩:=A.bw hB
  exact ⟨x0,x1,x2,x3⟩)
 go_enter Tryz.func138,Tryz.ntmps138
 go_wp2;obtain ⟨x0,x1,x2,x3,x4⟩:=A;rw[← hW];clear hW
 go_region_held3 (fun w'=>w'.cell? ⟨w.heap.size,0,none⟩=some (.bool s.ln)∧w'.cell? ⟨w.heap.size,1,none⟩=some (.slice s.la s.lN s.lc)∧w'.cell? ⟨w.heap.size,2,none⟩=some (.bool s.hn)∧w'.cell? ⟨w.heap.size,3,none⟩=some (.slice s.ha s.hN s.hc)) (first|exact zA HK _ (by with_reducible first|exact hB0|exact hB2|exact hB1)|go_keep)
  (first
   | (go_at_call 105;refine (zD6 _ _ _ _ k (s.bits-bt) lo _ ((zA HS).lo.bw hB0) (by omega) (by omega) (by omega)).mono ?_;rintro r w1 ⟨neg1,a1,n1,c1,rfl,hZ1,hb1⟩;have hB1:=zB hB0 hb1)
   | (go_at_call 174;refine (zDR _ _ _ _ k (s.bits-bt) hi _ ((zA HS).hi.bw hB1) (by omega) (by omega) (by omega)).mono ?_;rintro r w2 ⟨neg2,a2,n2,c2,rfl,hZ2,hb2⟩;replace hZ1:=hZ1.bw hb2;have hB2:=zB hB1 hb2;obtain ⟨q0,q1,q2,q3,q4,q5⟩:=R.bw hB2;obtain ⟨i0,i1,i2,i3⟩:=zA HK _ hB2))
 go_wp2;refine bodyPost_ret (v:=.agg #[.bool neg1,.slice a1 n1 c1,.bool neg2,.slice a2 n2 c2,.int .i64 bt]) (by simp[results,Tryz.results138,go_sem,q0,q1,q2,q3,q4]) rfl ⟨⟨neg1,a1,n1,c1,neg2,a2,n2,c2,bt⟩,rfl,rfl,?_,?_⟩
 ·exact SpAt.put5 ⟨hZ1.mono (by omega),hZ2.mono (by omega)⟩ q0 q1 q2 q3 q4 _ _ _ _ _
 ·exact jV (zB hBW hB2) (Nat.le_succ _) _ _ _ _ _
theorem kY (w:World) (s:Sp) (k:Nat) (bt lo hi:Int) (hs:SpAt w s k lo hi) (hk:k≤300000000) (hb0:0≤s.bits) (hbm:s.bits≤1000000) (hc0:0≤bt) (hcm:bt≤1000000) :
  Calls Tryz.prog 90 #[.agg #[.bool s.ln,.slice s.la s.lN s.lc,.bool s.hn,.slice s.ha s.hN s.hc,.int .i64 s.bits],.int .i64 bt] w (zH w bt (k+62505) (zAU lo (s.bits-bt)) (-(zAU (-hi) (s.bits-bt)))):=by
 by_cases hge:s.bits≤bt
 ·obtain ⟨K,hK⟩:∃ K:Nat,bt-s.bits=K:=⟨(bt-s.bits).toNat,by omega⟩
  have e1:∀ x,zAU x (s.bits-bt)=x*Q K:=by
   intro x;unfold zAU
   by_cases h0:0≤s.bits-bt
   ·have hz:s.bits-bt=0:=by omega
    have hz2:K=0:=by omega
    rw[if_pos h0,hz,hz2];simp[Q]
   ·rw[if_neg h0,show (-(s.bits-bt)).toNat=K by omega]
  have HL:=zC (e1 lo);have HH:=zC (show -(zAU (-hi) (s.bits-bt))=hi*Q K by rw[e1,Int.neg_mul,Int.neg_neg])
  clear e1;have hK1:K≤1000000:=by omega
  rw[zA HL,zA HH];obtain ⟨W,hW⟩:∃ W,W=(w.alloc (.cells #[.bool s.ln,.slice s.la s.lN s.lc,.bool s.hn,.slice s.ha s.hN s.hc,.int .i64 s.bits] 36)).alloc (.cells #[.bool false,.slice none 0 0,.bool false,.slice none 0 0,.int .i64 0] 36):=⟨_,rfl⟩;have hBW:Below w.heap.size w W:=by rw[hW];exact bl2 _ _ _
  have A:SpC W w.heap.size s:=by rw[hW];constructor <;> simp[go_sem]
  have R:NoC W (w.heap.size+1):=by rw[hW];constructor <;> simp[go_sem]
  have HS:=zC (hs.bw hBW);have lA:=A.lt;have lR:=R.lt;have hB0:Below W.heap.size W W.drew:=(Below.refl _ _).drew
  have HK:=zC (show ∀ w',Below W.heap.size W w'→(w'.cell? ⟨w.heap.size,0,none⟩=some (.bool s.ln)∧w'.cell? ⟨w.heap.size,1,none⟩=some (.slice s.la s.lN s.lc)∧w'.cell? ⟨w.heap.size,2,none⟩=some (.bool s.hn)∧w'.cell? ⟨w.heap.size,3,none⟩=some (.slice s.ha s.hN s.hc)) from fun w' hB=>by
   obtain ⟨x0,x1,x2,x3,x4⟩:=A.bw hB
   exact ⟨x0,x1,x2,x3⟩)
  go_enter Tryz.func90,Tryz.ntmps90
  go_wp2_with fail;rw[← hW];clear hW;refine (kC K _ (by omega)).mono ?_
  rintro r w1 ⟨neg1,a1,n1,c1,rfl,hZ1,hb1⟩;obtain ⟨W1,hW1⟩:∃ W',W'=w1.alloc (.cells #[.bool neg1,.slice a1 n1 c1] 26):=⟨_,rfl⟩;have hc1:Below w1.heap.size w1 W1:=by rw[hW1];exact bl1 _ _
  have X:NmC W1 w1.heap.size ⟨neg1,a1,n1,c1⟩:=by rw[hW1];exact yS w1 ⟨neg1,a1,n1,c1⟩ _
  have nR:w1.heap.size≠w.heap.size+1:=Nat.ne_of_gt (R.bw hb1).lt;have nR':w.heap.size+1≠w1.heap.size:=fun e=>nR e.symm
  have hB1:=zB hb1 hc1;have R1:=R.bw hB1;have A1:=A.bw hB1;have lA1:=A1.lt;have lR1:=R1.lt;have lX:=X.lt;replace hZ1:=zC (hZ1.bw hc1);replace HS:=zC ((zA HS).bw hB1);have hD0:Below W1.heap.size W1 W1.drew:=(Below.refl _ _).drew
  have HK1:=zC (show ∀ w',Below W1.heap.size W1 w'→(w'.cell? ⟨w.heap.size,0,none⟩=some (.bool s.ln)∧w'.cell? ⟨w.heap.size,1,none⟩=some (.slice s.la s.lN s.lc)∧w'.cell? ⟨w.heap.size,2,none⟩=some (.bool s.hn)∧w'.cell? ⟨w.heap.size,3,none⟩=some (.slice s.ha s.hN s.hc)∧w'.cell? ⟨w1.heap.size,0,none⟩=some (.bool neg1)∧w'.cell? ⟨w1.heap.size,1,none⟩=some (.slice a1 n1 c1)) from fun w' hB=>by
   obtain ⟨x0,x1,x2,x3,x4⟩:=A1.bw hB
   exact ⟨x0,x1,x2,x3,(X.bw hB).c0,(X.bw hB).c1⟩)
  clear HK hB0;go_wp2;rw[← hW1];clear hW1;obtain ⟨i0,i1,i2,i3,i4,i5⟩:=zA HK1 _ (Below.refl _ _)
  go_region_held3 (fun w'=>w'.cell? ⟨w.heap.size,0,none⟩=some (.bool s.ln)∧w'.cell? ⟨w.heap.size,1,none⟩=some (.slice s.la s.lN s.lc)∧w'.cell? ⟨w.heap.size,2,none⟩=some (.bool s.hn)∧w'.cell? ⟨w.heap.size,3,none⟩=some (.slice s.ha s.hN s.hc)∧w'.cell? ⟨w1.heap.size,0,none⟩=some (.bool neg1)∧w'.cell? ⟨w1.heap.size,1,none⟩=some (.slice a1 n1 c1)) (first|exact zA HK1 _ (by with_reducible first|exact hD0|exact hD3|exact hD2)|go_keep)
   (first
    | (go_at_call 66;have hq:=hD2;refine (zX _ _ _ _ _ _ _ _ k (K/16+5) hi (Q K) _ ((zA HS).hi.bw hD2) ((zA hZ1).bw hD2) (by omega) (by omega)).mono ?_;rintro r w3 ⟨neg3,a3,n3,c3,rfl,hZ3,hb3⟩;replace hZ2:=hZ2.bw hb3;have hD3:=zB hD2 hb3;obtain ⟨q0,q1,q2,q3,q4,q5⟩:=R1.bw hD3;obtain ⟨d0,d1,d2,d3,d4,d5⟩:=zA HK1 _ hD3)
    | (go_at_call 66;refine (zX _ _ _ _ _ _ _ _ k (K/16+5) lo (Q K) _ ((zA HS).lo.bw hD0) ((zA hZ1).bw hD0) (by omega) (by omega)).mono ?_;rintro r w2 ⟨neg2,a2,n2,c2,rfl,hZ2,hb2⟩;have hD2:=zB hD0 hb2))
  clear i0 i1 i2 i3 i4 i5;go_wp2;refine bodyPost_ret (v:=.agg #[.bool neg2,.slice a2 n2 c2,.bool neg3,.slice a3 n3 c3,.int .i64 bt]) (by simp[results,Tryz.results90,go_sem,q0,q1,q2,q3,q4]) rfl ⟨⟨neg2,a2,n2,c2,neg3,a3,n3,c3,bt⟩,rfl,rfl,?_,?_⟩
  ·exact SpAt.put5 ⟨hZ2.mono (by omega),hZ3.mono (by omega)⟩ q0 q1 q2 q3 q4 _ _ _ _ _
  ·exact jV (zB (zB hBW hB1) hD3) (Nat.le_succ _) _ _ _ _ _
 ·have e0:¬ bt ≥ s.bits:=hge
  obtain ⟨W,hW⟩:∃ W,W=(w.alloc (.cells #[.bool s.ln,.slice s.la s.lN s.lc,.bool s.hn,.slice s.ha s.hN s.hc,.int .i64 s.bits] 36)).alloc (.cells #[.bool false,.slice none 0 0,.bool false,.slice none 0 0,.int .i64 0] 36):=⟨_,rfl⟩;have hBW:Below w.heap.size w W:=by rw[hW];exact bl2 _ _ _
  have A:SpC W w.heap.size s:=by rw[hW];constructor <;> simp[go_sem]
  have R:NoC W (w.heap.size+1):=by rw[hW];constructor <;> simp[go_sem]
  have HS:=zC (hs.bw hBW);have lA:=A.lt;have lR:=R.lt;have hB0:Below W.heap.size W W.drew:=(Below.refl _ _).drew
  have HK:=zC (show ∀ w',Below W.heap.size W w'→(w'.cell? ⟨w.heap.size,0,none⟩=some (.bool s.ln)∧w'.cell? ⟨w.heap.size,1,none⟩=some (.slice s.la s.lN s.lc)∧w'.cell? ⟨w.heap.size,2,none⟩=some (.bool s.hn)∧w'.cell? ⟨w.heap.size,3,none⟩=some (.slice s.ha s.hN s.hc)) from fun w' hB=>by
   obtain ⟨x0,x1,x2,x3,x4⟩:=A.bw hB
   exact ⟨x0,x1,x2,x3⟩)
  go_enter Tryz.func90,Tryz.ntmps90
  go_wp2;obtain ⟨x0,x1,x2,x3,x4⟩:=A;rw[← hW];clear hW
  go_region_held3 (fun w'=>w'.cell? ⟨w.heap.size,0,none⟩=some (.bool s.ln)∧w'.cell? ⟨w.heap.size,1,none⟩=some (.slice s.la s.lN s.lc)∧w'.cell? ⟨w.heap.size,2,none⟩=some (.bool s.hn)∧w'.cell? ⟨w.heap.size,3,none⟩=some (.slice s.ha s.hN s.hc)) (first|exact zA HK _ (by with_reducible first|exact hB0|exact hB4|exact hB3|exact hB2|exact hB1)|go_keep)
   (first
    | (go_at_call 103;have hq:=hB3;refine (jY _ _ _ _ (k+62505) _ _ (hZ3.mono (by omega)) (by omega)).mono ?_;rintro r w4 ⟨neg4,a4,n4,c4,rfl,hZ4,hb4⟩;replace hZ1:=hZ1.bw hb4;have hB4:=zB hB3 hb4;obtain ⟨q0,q1,q2,q3,q4,q5⟩:=R.bw hB4;obtain ⟨i0,i1,i2,i3⟩:=zA HK _ hB4)
    | (go_at_call 105;have hq:=hB2;refine (zD6 _ _ _ _ k (s.bits-bt) (-hi) _ hZ2 (by omega) (by omega) (by omega)).mono ?_;rintro r w3 ⟨neg3,a3,n3,c3,rfl,hZ3,hb3⟩;replace hZ1:=hZ1.bw hb3;have hB3:=zB hB2 hb3)
    | (go_at_call 103;have hq:=hB1;refine (jY _ _ _ _ k hi _ ((zA HS).hi.bw hB1) (by omega)).mono ?_;rintro r w2 ⟨neg2,a2,n2,c2,rfl,hZ2,hb2⟩;replace hZ1:=hZ1.bw hb2;have hB2:=zB hB1 hb2)
    | (go_at_call 105;refine (zD6 _ _ _ _ k (s.bits-bt) lo _ ((zA HS).lo.bw hB0) (by omega) (by omega) (by omega)).mono ?_;rintro r w1 ⟨neg1,a1,n1,c1,rfl,hZ1,hb1⟩;have hB1:=zB hB0 hb1))
  go_wp2;refine bodyPost_ret (v:=.agg #[.bool neg1,.slice a1 n1 c1,.bool neg4,.slice a4 n4 c4,.int .i64 bt]) (by simp[results,Tryz.results90,go_sem,q0,q1,q2,q3,q4]) rfl ⟨⟨neg1,a1,n1,c1,neg4,a4,n4,c4,bt⟩,rfl,rfl,?_,?_⟩
  ·exact SpAt.put5 ⟨hZ1.mono (by omega),hZ4.mono (by omega)⟩ q0 q1 q2 q3 q4 _ _ _ _ _
  ·exact jV (zB hBW hB4) (Nat.le_succ _) _ _ _ _ _
theorem IntAt.fits {w:World} {neg:Bool} {a:Option Addr} {n cap k K:Nat} {z:Int} (h:IntAt w neg a n cap k z) (h0 : -P K<z) (hz:z<P K):IntAt w neg a n cap K z:=by
 obtain ⟨d,h1,h2,h3,h4,h5⟩:=h;refine ⟨d,h1,h2,h3,?_,h5⟩;refine zFI h1.dgs h2 ?_;have:=jB h1.dgs n
 cases neg
 ·simp[sgn] at h5;omega
 ·simp[sgn] at h5;omega
theorem SpAt.fits {w:World} {s:Sp} {k K:Nat} {lo hi:Int} (h:SpAt w s k lo hi) (hle:lo≤hi) (h0 : -P K<lo) (hz:hi<P K):SpAt w s K lo hi:=⟨h.lo.fits h0 (by omega),h.hi.fits (by omega) hz⟩
def zDW (z l:Int):Prop:=0≤l∧(z=0→l=0)∧(0<z→∃ L:Nat,l=(L:Int)+1∧Q L≤z∧z<Q (L+1))
theorem zBM (neg:Bool) (a:Option Addr) (n cap k:Nat) (z:Int) (w:World) (h:IntAt w neg a n cap k z) (hz:0≤z) :
  Calls Tryz.prog 120 #[.agg #[.bool neg,.slice a n cap]] w fun r w'=>∃ l,zDW z l∧r=.returned (.int .i64 l)∧Below w.heap.size w w':=by
 obtain ⟨d,h1,h2,h3,h4,h5⟩:=h;refine (zPP neg a n cap d w h1).mono fun r w' ⟨e1,e2⟩=>⟨lenZ n d,?_,e1,e2⟩
 have hV:=jB h1.dgs n
 have hv:V d n=z:=by
  cases neg
  ·simp[sgn] at h5;exact h5.symm
  ·simp[sgn] at h5;omega
 rcases Nat.eq_zero_or_pos n with h0|h0
 ·subst h0
  have:z=0:=by simp[V] at hv;omega
  subst this;exact ⟨by simp[lenZ],fun _=>by simp[lenZ],fun h=>by omega⟩
 ·obtain ⟨L,l1,l2,l3⟩:=lenZ_Q h1.dgs h0 (by rcases h2 with h2|h2;omega;exact h2)
  have:=zG L;exact ⟨by omega,fun h=>by omega,fun _=>⟨L,l1,by omega,by omega⟩⟩
def zMX (bits:Nat) (Pr:Nat→Int→Int→Prop) (L H:Int):Prop :=
 ∃ (m:Nat) (lo hi:Int),Pr (bits+m) lo hi∧32≤m∧L=lo/Q m∧H = -(-hi/Q m)∧(H-L≤1∨zID L H (Q bits) 4=true)
def zKB (bits Kw:Nat) (Pr:Nat→Int→Int→Prop):Prop :=
 ∀ (m:Nat) (lo hi:Int),Pr (bits+m) lo hi→lo≤hi∧hi-lo≤Q Kw ∧ -(P 200*Q m)≤lo∧hi≤P 200*Q m
theorem zBQ (x q:Int) (hq:0<q):x ≤ -(-x/q)*q:=by
 have h:=Int.emod_add_mul_ediv (-x) q;have:=Int.emod_nonneg (-x) (show q≠0 by omega)
 have e : -(-x/q)*q = -(q*(-x/q)):=by rw[Int.neg_mul,Int.mul_comm]
 rw[e];omega
theorem zPM (x q:Int) (hq:0<q) : -(-x/q)*q<x+q:=by
 have h:=Int.emod_add_mul_ediv (-x) q;have:=Int.emod_lt_of_pos (-x) hq;have e : -(-x/q)*q = -(q*(-x/q)):=by rw[Int.neg_mul,Int.mul_comm]
 rw[e];omega
theorem zDH (x q:Int) (hq:0<q):x/q*q≤x:=Int.ediv_mul_le _ (by omega)
theorem flo_gt (x q:Int) (hq:0<q):x<x/q*q+q:=by
 have h:=Int.emod_add_mul_ediv x q;have:=Int.emod_lt_of_pos x hq;rw[Int.mul_comm];omega
theorem zKJ {lo hi:Int} {m Kw:Nat} (hle:lo≤hi) (hw:hi-lo≤Q Kw):0 ≤ -(-hi/Q m)-lo/Q m∧(Kw≤m → -(-hi/Q m)-lo/Q m≤2)∧(m≤Kw → -(-hi/Q m)-lo/Q m≤Q (Kw-m)+1):=by
 have hq:=zG m;have a1:=zBQ hi (Q m) (by omega)
 have a2:=zPM hi (Q m) (by omega)
 have a3:=zDH lo (Q m) (by omega)
 have a4:=flo_gt lo (Q m) (by omega)
 have hs:(-(-hi/Q m)-lo/Q m)*Q m = -(-hi/Q m)*Q m-lo/Q m*Q m:=Int.sub_mul _ _ _;refine ⟨?_,fun h=>?_,fun h=>?_⟩
 ·refine Int.not_lt.1 fun hn=>?_
  have:=Int.mul_le_mul_of_nonneg_right (show -(-hi/Q m)-lo/Q m ≤ -1 by omega) (show 0≤Q m by omega)
  omega
 ·have hk:=zJ h
  refine Int.not_lt.1 fun hn=>?_
  have:=Int.mul_le_mul_of_nonneg_right (show 3 ≤ -(-hi/Q m)-lo/Q m by omega) (show 0≤Q m by omega)
  omega
 ·have hk:Q Kw=Q (Kw-m)*Q m:=by rw[← jC];congr 1;omega
  refine Int.not_lt.1 fun hn=>?_
  have h5:=Int.mul_le_mul_of_nonneg_right (show Q (Kw-m)+2 ≤ -(-hi/Q m)-lo/Q m by omega) (show 0≤Q m by omega)
  have h6:(Q (Kw-m)+2)*Q m=Q (Kw-m)*Q m+2*Q m:=Int.add_mul _ _ _;omega
theorem zF8 {L H:Int} {b:Nat} (hle:L≤H) (h:H-L≤4):zID L H (Q b) 4=true:=by
 unfold zID;rw[decide_eq_true_iff];have hq:=zG b;have h1:(H-L)*Q b≤4*Q b:=Int.mul_le_mul_of_nonneg_right h (by omega)
 have h2:0≤zEE H (-L):=by unfold zEE;split <;> omega
 have:4*(Q b+zEE H (-L))=4*Q b+4*zEE H (-L):=Int.mul_add _ _ _;omega
theorem to_fit {lo hi:Int} {m:Nat} (h1 : -(P 200*Q m)≤lo) (h2:hi≤P 200*Q m) : -P 250<lo/Q m ∧ -(-hi/Q m)<P 250:=by
 have hq:=zG m
 have hp:P 200<P 250:=by
  have e:P 250=P 200*P 50:=P_add 200 50;have h3:=kN 200;have h4:P 200*65536≤P 200*P 50:=Int.mul_le_mul_of_nonneg_left (zA0 (show 1≤50 by omega)) (by omega)
  omega
 have a1 : -P 200≤lo/Q m:=by rw[Int.le_ediv_iff_mul_le (by omega),Int.neg_mul];exact h1
 have a2 : -P 200 ≤ -hi/Q m:=by rw[Int.le_ediv_iff_mul_le (by omega),Int.neg_mul];omega
 omega
def SureInv (Kw m t:Nat):Prop:=32≤m∧1≤t∧t≤m∧((t≤3∧m≤Kw+40*t)∨m≤Kw+40)
theorem zNQ {z l:Int} {K:Nat} (h:zDW z l) (hz:z≤Q K+1) (h0:0≤z):l≤K+2:=by
 obtain ⟨h1,h2,h3⟩:=h
 by_cases hp:0<z
 ·obtain ⟨L,e1,e2,e3⟩:=h3 hp
  by_cases hL:L≤K+1
  ·omega
  ·have:=zJ (show K+2≤L by omega)
   have e:Q (K+2)=2*(2*Q K):=rfl;have:=zG K;omega
 ·have:=h2 (by omega);omega
theorem zNN {z l:Int} (h:zDW z l) (hz:z≤2) (h0:0≤z):l≤2:=by
 have:=zNQ (K:=0) h (by simp[Q];omega) h0
 omega
theorem zI7 {z l:Int} (h:zDW z l) (hl:l≤1) (h0:0≤z):z≤1:=by
 obtain ⟨h1,h2,h3⟩:=h
 by_cases hp:0<z
 ·obtain ⟨L,e1,e2,e3⟩:=h3 hp
  have:L=0:=by omega
  subst this;simp[Q] at e3;omega
 ·omega
end Go.Proofs.YtgmnknmjainababGreat
namespace Go.Proofs.YtgmnknmjainababGreat.Ex
def S (f:Nat→Rat):Nat→Rat
 | 0=>0
 | n+1=>S f n+f n
theorem S_add (f g:Nat→Rat) (n:Nat):S (fun i=>f i+g i) n=S f n+S g n:=by
 induction n with
 | zero=>simp[S];try grind
 | succ n ih=>simp only[S,ih];grind
theorem zLR (c:Rat) (f:Nat→Rat) (n:Nat):S (fun i=>c*f i) n=c*S f n:=by
 induction n with
 | zero=>simp[S];try grind
 | succ n ih=>simp only[S,ih];grind
theorem zCE {f g:Nat→Rat} (n:Nat) (h:∀ i,i<n→f i=g i):S f n=S g n:=by
 induction n with
 | zero=>rfl
 | succ n ih=>simp only[S];rw[ih (fun i hi=>h i (by omega)),h n (by omega)]
theorem S_first (f:Nat→Rat) (n:Nat):S f (n+1)=f 0+S (fun i=>f (i+1)) n:=by
 induction n with
 | zero=>simp[S];grind
 | succ n ih=>rw[S,ih];simp only[S];grind
def tm (x:Rat):Nat→Rat
 | 0=>1
 | n+1=>tm x n*x/((n:Rat)+1)
theorem zCD (n:Nat):(0:Rat)<(n:Rat)+1:=by
 have:(0:Rat)≤(n:Rat):=by exact_mod_cast Nat.zero_le n
 grind
theorem kB (x:Rat) (n:Nat):((n:Rat)+1)*tm x (n+1)=x*tm x n:=by
 simp only[tm];have:=zCD n;grind
def cv (a b:Nat→Rat) (n:Nat):Rat:=S (fun i=>a i*b (n-i)) (n+1)
theorem cv_tm (x y:Rat) (n:Nat):cv (tm x) (tm y) n=tm (x+y) n:=by
 induction n with
 | zero=>simp[cv,S,tm];grind
 | succ n ih =>
  have h:=zCD n
  have h1:((n:Rat)+1)*cv (tm x) (tm y) (n+1)=(x+y)*cv (tm x) (tm y) n:=by
   have e1:((n:Rat)+1)*cv (tm x) (tm y) (n+1)=S (fun i=>(i:Rat)*tm x i*tm y (n+1-i)+tm x i*((n+1-i:Nat):Rat)*tm y (n+1-i)) (n+2):=by
    unfold cv;rw[← zLR];refine zCE _ fun i hi=>?_
    have:((n:Rat)+1)=(i:Rat)+((n+1-i:Nat):Rat):=by
     have:(n+1:Nat)=i+(n+1-i):=by omega
     have:=congrArg (fun k:Nat=>(k:Rat)) this
     simp at this;grind
    rw[this];grind
   rw[e1,S_add]
   have e2:S (fun i=>(i:Rat)*tm x i*tm y (n+1-i)) (n+2)=x*cv (tm x) (tm y) n:=by
    rw[S_first];simp;rw[Rat.zero_add];unfold cv;rw[← zLR];refine zCE _ fun i hi=>?_
    have:=kB x i;grind
   have e3:S (fun i=>tm x i*((n+1-i:Nat):Rat)*tm y (n+1-i)) (n+2)=y*cv (tm x) (tm y) n:=by
    rw[S];simp;rw[Rat.add_zero];unfold cv;rw[← zLR];refine zCE _ fun i hi=>?_
    have e:n+1-i=(n-i)+1:=by omega
    rw[e];have:=kB y (n-i);simp;grind
   rw[e2,e3];grind
  have h2:=kB (x+y) n;rw[ih] at h1;have:((n:Rat)+1)*cv (tm x) (tm y) (n+1)=((n:Rat)+1)*tm (x+y) (n+1):=by rw[h1,h2]
  have hz:((n:Rat)+1)≠0:=by grind
  have h5:((n:Rat)+1)*(cv (tm x) (tm y) (n+1)-tm (x+y) (n+1))=0:=by grind
  rcases Rat.mul_eq_zero.1 h5 with h6|h6
  ·exact absurd h6 hz
  ·grind
def E (x:Rat) (M:Nat):Rat:=S (tm x) M
theorem E_add (x y:Rat) (M:Nat):E (x+y) M=S (fun i=>tm x i*E y (M-i)) M:=by
 induction M with
 | zero=>rfl
 | succ M ih =>
  have h1:E (x+y) (M+1)=E (x+y) M+tm (x+y) M:=rfl;rw[h1,ih,← cv_tm]
  have h2:S (fun i=>tm x i*E y (M+1-i)) (M+1)=S (fun i=>tm x i*E y (M-i)+tm x i*tm y (M-i)) (M+1):=by
   refine zCE _ fun i hi=>?_
   have e:M+1-i=(M-i)+1:=by omega
   have e2:E y ((M-i)+1)=E y (M-i)+tm y (M-i):=rfl;rw[e,e2];grind
  rw[h2,S_add]
  have h3:S (fun i=>tm x i*E y (M-i)) (M+1)=S (fun i=>tm x i*E y (M-i)) M:=by
   simp only[S];have:M-M=0:=by omega
   rw[this];have:E y 0=0:=rfl;rw[this];grind
  rw[h3];rfl
theorem E_diff (x y:Rat) (M:Nat):E x M*E y M-E (x+y) M=S (fun i=>tm x i*(E y M-E y (M-i))) M:=by
 rw[E_add];have h1:E x M*E y M=S (fun i=>E y M*tm x i) M:=by rw[zLR];unfold E;grind
 rw[h1]
 have h2:S (fun i=>E y M*tm x i) M=S (fun i=>tm x i*(E y M-E y (M-i))) M+S (fun i=>tm x i*E y (M-i)) M:=by
  rw[← S_add];refine zCE _ fun i hi=>?_
  grind
 rw[h2];grind
def AB (t b:Rat):Prop := -b≤t∧t≤b
theorem AB.nonneg {t b:Rat} (h:AB t b):0≤b:=by obtain ⟨h1,h2⟩:=h;grind
theorem AB.mul {s t a b:Rat} (h:AB s a) (k:AB t b):AB (s*t) (a*b):=by
 obtain ⟨h1,h2⟩:=h;obtain ⟨k1,k2⟩:=k;have p1:=Rat.mul_nonneg (show 0≤a-s by grind) (show 0≤b+t by grind)
 have p2:=Rat.mul_nonneg (show 0≤a+s by grind) (show 0≤b-t by grind)
 have p3:=Rat.mul_nonneg (show 0≤a-s by grind) (show 0≤b-t by grind)
 have p4:=Rat.mul_nonneg (show 0≤a+s by grind) (show 0≤b+t by grind)
 constructor <;> grind
theorem AB.add {s t a b:Rat} (h:AB s a) (k:AB t b):AB (s+t) (a+b):=by
 obtain ⟨h1,h2⟩:=h;obtain ⟨k1,k2⟩:=k;constructor <;> grind
theorem AB.mono {s a b:Rat} (h:AB s a) (k:a≤b):AB s b:=by
 obtain ⟨h1,h2⟩:=h;constructor <;> grind
theorem AB.neg {s a:Rat} (h:AB s a):AB (-s) a:=by
 obtain ⟨h1,h2⟩:=h;constructor <;> grind
theorem S_AB {f g:Nat→Rat} (n:Nat) (h:∀ i,i<n→AB (f i) (g i)):AB (S f n) (S g n):=by
 induction n with
 | zero=>simp only[S];constructor <;> grind
 | succ n ih=>simp only[S];exact (ih (fun i hi=>h i (by omega))).add (h n (by omega))
def q4:Nat→Rat
 | 0=>1
 | n+1=>q4 n/4
theorem yI (n:Nat):0<q4 n:=by
 induction n with
 | zero=>simp only[q4];grind
 | succ n ih=>simp only[q4];grind
theorem q4_add (a b:Nat):q4 (a+b)=q4 a*q4 b:=by
 induction b with
 | zero=>simp only[q4,Nat.add_zero];grind
 | succ b ih=>rw[← Nat.add_assoc];simp only[q4,ih];grind
theorem E_sub (y:Rat) (K:Rat) (hK:∀ i,AB (tm y i) (K*q4 i)) (a i:Nat):AB (E y (a+i)-E y a) (2*K*(q4 a-q4 (a+i))):=by
 induction i with
 | zero=>simp only[Nat.add_zero];constructor <;> grind
 | succ i ih =>
  have e:E y (a+(i+1))=E y (a+i)+tm y (a+i):=rfl;have e2:q4 (a+(i+1))=q4 (a+i)/4:=rfl;rw[e,e2];have h:=hK (a+i);have hn:=h.nonneg;have:=ih.add h;have h3:E y (a+i)+tm y (a+i)-E y a=E y (a+i)-E y a+tm y (a+i):=by grind
  rw[h3];refine this.mono ?_;grind
theorem zM3 (c:Rat) (n:Nat):S (fun _=>c) n=n*c:=by
 induction n with
 | zero=>simp[S]
 | succ n ih =>
  simp only[S,ih];have:((n+1:Nat):Rat)=(n:Rat)+1:=by simp
  rw[this];grind
theorem E_mul (x y K L:Rat) (hK:∀ i,AB (tm x i) (K*q4 i)) (hL:∀ i,AB (tm y i) (L*q4 i)) (M:Nat):AB (E x M*E y M-E (x+y) M) (M*(2*K*L*q4 M)):=by
 rw[E_diff,← zM3];refine S_AB _ fun i hi=>?_
 have h1:=E_sub y L hL (M-i) i;rw[show M-i+i=M by omega] at h1
 have h2:=(hK i).mul h1;refine h2.mono ?_;have e:q4 M=q4 i*q4 (M-i):=by rw[← q4_add];congr 1;omega
 have hL0:=(hL M).nonneg;have hK0:=(hK M).nonneg;have p:=yI M
 have pK:0≤K:=by
  have:=(hK 0).nonneg;simp only[q4] at this;grind
 have pL:0≤L:=by
  have:=(hL 0).nonneg;simp only[q4] at this;grind
 have p5:=Rat.mul_nonneg (Rat.mul_nonneg pK pL) (Rat.mul_nonneg (Rat.le_of_lt (yI i)) (Rat.le_of_lt p));rw[e] at p5 ⊢;grind
theorem tm_step (x:Rat) (n:Nat) (c:Rat) (hx:AB (4*x) ((n:Rat)+1)) (h:AB (tm x n) (c*q4 n)):AB (tm x (n+1)) (c*q4 (n+1)):=by
 have hp:=zCD n;have e:=kB x n;have h2:=hx.mul h;have q:=yI n;have e2:q4 (n+1)=q4 n/4:=rfl;rw[e2];have h3:4*x*tm x n=4*((n:Rat)+1)*tm x (n+1):=by grind
 rw[h3] at h2;obtain ⟨g1,g2⟩:=h2;constructor
 ·refine Rat.not_lt.1 fun hn=>?_
  have:=Rat.mul_pos hp (show 0 < -(c*(q4 n/4))-tm x (n+1) by grind)
  grind
 ·refine Rat.not_lt.1 fun hn=>?_
  have:=Rat.mul_pos hp (show 0<tm x (n+1)-c*(q4 n/4) by grind)
  grind
theorem AB.self (t:Rat):∃ b,AB t b:=by
 by_cases h:0≤t
 ·exact ⟨t,by constructor <;> grind⟩
 ·exact ⟨-t,by constructor <;> grind⟩
theorem tm_upto (x:Rat) (n:Nat):∃ K,0≤K∧∀ i,i≤n→AB (tm x i) (K*q4 i):=by
 induction n with
 | zero=>exact ⟨1,by grind,fun i hi=>by
   have:i=0:=by omega
   subst this
   simp only[tm,q4];constructor <;> grind⟩
 | succ n ih =>
  obtain ⟨K,h0,h⟩:=ih;obtain ⟨b,hb⟩:=AB.self (tm x (n+1));have q:=yI (n+1);have hb0:=hb.nonneg;have hq:b/q4 (n+1)*q4 (n+1)=b:=by grind
  have hd:0≤b/q4 (n+1):=by
   refine Rat.not_lt.1 fun hn=>?_
   have:=Rat.mul_pos q (show 0 < -(b/q4 (n+1)) by grind)
   grind
  refine ⟨K+b/q4 (n+1),by grind,fun i hi=>?_⟩
  have qi:=yI i
  by_cases hin:i=n+1
  ·subst hin
   refine hb.mono ?_;have:=Rat.mul_nonneg h0 (Rat.le_of_lt q);grind
  ·refine (h i (by omega)).mono ?_
   have:=Rat.mul_nonneg hd (Rat.le_of_lt qi);grind
theorem zB8 (x:Rat):∃ n:Nat,AB x (n:Rat):=by
 refine ⟨x.floor.natAbs+1,?_⟩;have h1:=Rat.lt_floor_add_one x;have h2:=Rat.floor_le x
 have h3:((x.floor+1:Int):Rat)≤((x.floor.natAbs+1:Nat):Rat):=by
  have:x.floor+1≤((x.floor.natAbs+1:Nat):Int):=by omega
  exact_mod_cast this
 have h4 : -((x.floor.natAbs+1:Nat):Rat)≤(x.floor:Rat):=by
  have:(0:Int)≤x.floor+((x.floor.natAbs+1:Nat):Int):=by omega
  have h5:(0:Rat)≤((x.floor+((x.floor.natAbs+1:Nat):Int):Int):Rat):=by exact_mod_cast this
  have h6:((x.floor+((x.floor.natAbs+1:Nat):Int):Int):Rat)=(x.floor:Rat)+((x.floor.natAbs+1:Nat):Rat):=by rw[Rat.intCast_add];rfl
  grind
 constructor <;> grind
theorem zMF (x:Rat):∃ K,0≤K∧∀ i,AB (tm x i) (K*q4 i):=by
 obtain ⟨n,hn⟩:=zB8 (4*x);obtain ⟨K,h0,h⟩:=tm_upto x n;refine ⟨K,h0,fun i=>?_⟩
 by_cases hi:i≤n
 ·exact h i hi
 ·obtain ⟨j,rfl⟩:∃ j,i=n+j:=⟨i-n,by omega⟩
  clear hi
  induction j with
  | zero=>exact h n (Nat.le_refl _)
  | succ j ih =>
   refine tm_step x (n+j) K (hn.mono ?_) ih;have h1:((n+j:Nat):Rat)=(n:Rat)+j:=by simp
   have h2:(0:Rat)≤(j:Rat):=by exact_mod_cast Nat.zero_le j
   rw[h1];grind
theorem near_bd (M:Nat):0≤(M:Rat)*q4 M:=Rat.mul_nonneg (by exact_mod_cast Nat.zero_le M) (Rat.le_of_lt (yI M))
theorem nat_q4 (M:Nat):(M:Rat)*((M:Rat)+1)*q4 M≤1:=by
 induction M with
 | zero=>simp only[q4];grind
 | succ M ih =>
  have e:((M+1:Nat):Rat)=(M:Rat)+1:=by simp
  have e2:q4 (M+1)=q4 M/4:=rfl;have q:=yI M;have hM:(0:Rat)≤(M:Rat):=by exact_mod_cast Nat.zero_le M
  rw[e,e2]
  rcases Nat.eq_zero_or_pos M with h|h
  ·subst h
   simp only[q4];grind
  ·have h1:(1:Rat)≤(M:Rat):=by exact_mod_cast h
   have p:=Rat.mul_nonneg (Rat.mul_nonneg (show 0≤(M:Rat)+1 by grind) (show 0≤3*(M:Rat)-2 by grind)) (Rat.le_of_lt q)
   grind
theorem kT {x:Rat} (h:0≤x) (n:Nat):0≤tm x n:=by
 induction n with
 | zero=>simp only[tm];grind
 | succ n ih =>
  have e:=kB x n;have hp:=zCD n;refine Rat.not_lt.1 fun hn=>?_
  have h1:=Rat.mul_pos hp (show 0 < -tm x (n+1) by grind)
  have h2:=Rat.mul_nonneg h ih;grind
theorem E_one {x:Rat} (h:0≤x) {M:Nat} (hM:1≤M):1≤E x M:=by
 obtain ⟨n,rfl⟩:∃ n,M=n+1:=⟨M-1,by omega⟩
 clear hM
 induction n with
 | zero=>simp only[E,S,tm];grind
 | succ n ih =>
  have e:E x (n+1+1)=E x (n+1)+tm x (n+1):=rfl;have:=kT h (n+1);rw[e];grind
end Go.Proofs.YtgmnknmjainababGreat.Ex
namespace Go.Proofs.YtgmnknmjainababGreat.Ex
def Null (f:Nat→Rat):Prop:=∀ e:Rat,0<e→∃ N:Nat,∀ M,N≤M→AB (f M) e
def Has (a b:Rat) (x:Nat→Rat):Prop:=∀ e:Rat,0<e→∃ N:Nat,∀ M,N≤M→a-e≤x M∧x M≤b+e
def Bdd (f:Nat→Rat):Prop:=∃ K N,0≤K∧∀ M:Nat,N≤M→AB (f M) K
theorem AB.sub {s t a b:Rat} (h:AB s a) (k:AB t b):AB (s-t) (a+b):=by
 obtain ⟨h1,h2⟩:=h;obtain ⟨k1,k2⟩:=k;constructor <;> grind
theorem AB.zero {b:Rat} (h:0≤b):AB 0 b:=by constructor <;> grind
theorem rdm {a b:Rat} (h:0<b):a/b*b=a:=Rat.div_mul_cancel (by grind)
theorem zL {a b:Rat} (ha:0<a) (hb:0<b):0<a/b:=by
 refine Rat.not_le.1 fun hn=>?_
 have h1:=Rat.mul_nonneg (show 0 ≤ -(a/b) by grind) (Rat.le_of_lt hb)
 have h2:=rdm (a:=a) hb;generalize a/b=q at *;grind
theorem null_zero:Null (fun _=>0):=fun e he=>⟨0,fun M _=>AB.zero (Rat.le_of_lt he)⟩
theorem Null.add {f g:Nat→Rat} (h:Null f) (k:Null g):Null (fun M=>f M+g M):=fun e he=>by
 obtain ⟨N1,h1⟩:=h (e/2) (by grind)
 obtain ⟨N2,h2⟩:=k (e/2) (by grind)
 exact ⟨N1+N2,fun M hM=>((h1 M (by omega)).add (h2 M (by omega))).mono (by grind)⟩
theorem Null.neg {f:Nat→Rat} (h:Null f):Null (fun M => -f M):=fun e he=>by
 obtain ⟨N1,h1⟩:=h e he;exact ⟨N1,fun M hM=>(h1 M hM).neg⟩
theorem Null.sub {f g:Nat→Rat} (h:Null f) (k:Null g):Null (fun M=>f M-g M):=fun e he=>by
 obtain ⟨N1,h1⟩:=h (e/2) (by grind)
 obtain ⟨N2,h2⟩:=k (e/2) (by grind)
 exact ⟨N1+N2,fun M hM=>((h1 M (by omega)).sub (h2 M (by omega))).mono (by grind)⟩
theorem Null.bmul {f g:Nat→Rat} (h:Null f) (k:Bdd g):Null (fun M=>f M*g M):=fun e he=>by
 obtain ⟨K,N2,k0,h2⟩:=k;have hp:0<K+1:=by grind
 have h3:=rdm (a:=e) hp;have h4:=zL he hp;obtain ⟨N1,h1⟩:=h (e/(K+1)) h4;generalize e/(K+1)=q at *;refine ⟨N1+N2,fun M hM=>((h1 M (by omega)).mul (h2 M (by omega))).mono ?_⟩
 grind
theorem Null.of_eq {f g:Nat→Rat} (h:Null f) (e:∀ M,g M=f M):Null g:=by
 have:g=f:=funext e;rw[this];exact h
theorem Null.of_eq_from {f g:Nat→Rat} (h:Null f) (N:Nat) (e:∀ M,N≤M→g M=f M):Null g:=fun d hd=>by
 obtain ⟨N1,h1⟩:=h d hd;exact ⟨N+N1,fun M hM=>by rw[e M (by omega)];exact h1 M (by omega)⟩
theorem Null.of_le {f g:Nat→Rat} (h:Null f) (N:Nat) (e:∀ M,N≤M→AB (g M) (f M)):Null g:=fun d hd=>by
 obtain ⟨N1,h1⟩:=h d hd;exact ⟨N+N1,fun M hM=>(e M (by omega)).mono (h1 M (by omega)).2⟩
theorem Null.bdd {f:Nat→Rat} (h:Null f):Bdd f:=by
 obtain ⟨N,h1⟩:=h 1 (by grind)
 exact ⟨1,N,by grind,h1⟩
theorem zA6 (K:Rat) (k0:0≤K):Null (fun M=>K*((M:Rat)*q4 M)):=fun e he=>by
 obtain ⟨n,hn1,hn2⟩:=zB8 (K/e);refine ⟨n+1,fun M hM=>?_⟩
 have hM0:(0:Rat)≤(M:Rat):=by exact_mod_cast Nat.zero_le M
 have hMn:(n:Rat)≤(M:Rat):=by exact_mod_cast (show n≤M by omega)
 have u:=nat_q4 M;have q:=near_bd M;have e1:K/e*e=K:=by grind
 have s1:=Rat.mul_nonneg (show 0≤(M:Rat)-K/e by grind) (Rat.le_of_lt he)
 have s2:=Rat.mul_nonneg (show 0≤(M:Rat)*e-K by grind) q
 have s3:=Rat.mul_nonneg (Rat.le_of_lt he) (show 0≤1-(M:Rat)*((M:Rat)+1)*q4 M by grind)
 have s4:=Rat.mul_nonneg (Rat.le_of_lt he) q;have s5:=Rat.mul_nonneg k0 q;constructor <;> grind
theorem Bdd.add {f g:Nat→Rat} (h:Bdd f) (k:Bdd g):Bdd (fun M=>f M+g M):=by
 obtain ⟨K,N,k0,h⟩:=h;obtain ⟨L,N',l0,k⟩:=k;exact ⟨K+L,N+N',by grind,fun M hM=>(h M (by omega)).add (k M (by omega))⟩
theorem Bdd.neg {f:Nat→Rat} (h:Bdd f):Bdd (fun M => -f M):=by
 obtain ⟨K,N,k0,h⟩:=h;exact ⟨K,N,k0,fun M hM=>(h M hM).neg⟩
theorem Bdd.sub {f g:Nat→Rat} (h:Bdd f) (k:Bdd g):Bdd (fun M=>f M-g M):=by
 obtain ⟨K,N,k0,h⟩:=h;obtain ⟨L,N',l0,k⟩:=k;exact ⟨K+L,N+N',by grind,fun M hM=>(h M (by omega)).sub (k M (by omega))⟩
theorem Bdd.mul {f g:Nat→Rat} (h:Bdd f) (k:Bdd g):Bdd (fun M=>f M*g M):=by
 obtain ⟨K,N,k0,h⟩:=h;obtain ⟨L,N',l0,k⟩:=k;exact ⟨K*L,N+N',Rat.mul_nonneg k0 l0,fun M hM=>(h M (by omega)).mul (k M (by omega))⟩
theorem Bdd.const (c:Rat):Bdd (fun _=>c):=by
 obtain ⟨b,hb⟩:=AB.self c;exact ⟨b,0,hb.nonneg,fun _ _=>hb⟩
theorem Bdd.of_le {f:Nat→Rat} (K:Rat) (N:Nat) (h:∀ M,N≤M→AB (f M) K):Bdd f:=⟨K,N,(h N (Nat.le_refl _)).nonneg,h⟩
theorem Has.le {a b:Rat} {x:Nat→Rat} (h:Has a b x):a≤b:=by
 refine Rat.not_lt.1 fun hn=>?_
 obtain ⟨N,h1⟩:=h ((a-b)/4) (by grind)
 have:=h1 N (Nat.le_refl _);grind
theorem Has.touch {a b c d:Rat} {x:Nat→Rat} (h:Has a b x) (k:Has c d x):a≤d:=by
 refine Rat.not_lt.1 fun hn=>?_
 obtain ⟨N,h1⟩:=h ((a-d)/4) (by grind)
 obtain ⟨N',h2⟩:=k ((a-d)/4) (by grind)
 have:=h1 (N+N') (by omega)
 have:=h2 (N+N') (by omega)
 grind
theorem Has.mono {a b a' b':Rat} {x:Nat→Rat} (h:Has a b x) (h1:a'≤a) (h2:b≤b'):Has a' b' x:=fun e he=>by
 obtain ⟨N,h⟩:=h e he;exact ⟨N,fun M hM=>by have:=h M hM;constructor <;> grind⟩
theorem Has.congr {a b:Rat} {x y:Nat→Rat} (h:Has a b x) (k:Null (fun M=>y M-x M)):Has a b y:=fun e he=>by
 obtain ⟨N,h⟩:=h (e/2) (by grind)
 obtain ⟨N',k⟩:=k (e/2) (by grind)
 refine ⟨N+N',fun M hM=>?_⟩
 have:=h M (by omega)
 obtain ⟨k1,k2⟩:=k M (by omega)
 constructor <;> grind
theorem Has.bdd {a b:Rat} {x:Nat→Rat} (h:Has a b x):Bdd x:=by
 obtain ⟨N,h1⟩:=h 1 (by grind)
 obtain ⟨p,hp⟩:=AB.self a;obtain ⟨q,hq⟩:=AB.self b;have:=hp.nonneg;have:=hq.nonneg;refine ⟨p+q+1,N,by grind,fun M hM=>?_⟩
 have:=h1 M hM;obtain ⟨_,_⟩:=hp;obtain ⟨_,_⟩:=hq;constructor <;> grind
theorem Has.const {a b c:Rat} (h1:a≤c) (h2:c≤b):Has a b (fun _=>c):=fun e he=>⟨0,fun M _=>by constructor <;> grind⟩
theorem Has.of_from {a b:Rat} {x:Nat→Rat} (N:Nat) (h:∀ M,N≤M→a≤x M∧x M≤b):Has a b x:=fun e he=>⟨N,fun M hM=>by have:=h M hM;constructor <;> grind⟩
theorem Has.add {a b c d:Rat} {x y:Nat→Rat} (h:Has a b x) (k:Has c d y):Has (a+c) (b+d) (fun M=>x M+y M):=fun e he=>by
 obtain ⟨N,h⟩:=h (e/2) (by grind)
 obtain ⟨N',k⟩:=k (e/2) (by grind)
 refine ⟨N+N',fun M hM=>?_⟩
 have:=h M (by omega)
 have:=k M (by omega)
 constructor <;> grind
theorem Has.sub {a b c d:Rat} {x y:Nat→Rat} (h:Has a b x) (k:Has c d y):Has (a-d) (b-c) (fun M=>x M-y M):=fun e he=>by
 obtain ⟨N,h⟩:=h (e/2) (by grind)
 obtain ⟨N',k⟩:=k (e/2) (by grind)
 refine ⟨N+N',fun M hM=>?_⟩
 have:=h M (by omega)
 have:=k M (by omega)
 constructor <;> grind
theorem clamp {a b x e:Rat} (hab:a≤b) (he:0≤e) (h1:a-e≤x) (h2:x≤b+e):∃ x0,a≤x0∧x0≤b∧AB (x-x0) e:=by
 by_cases h:x<a
 ·exact ⟨a,by grind,hab,by constructor <;> grind⟩
 ·by_cases h':b<x
  ·exact ⟨b,hab,by grind,by constructor <;> grind⟩
  ·exact ⟨x,by grind,by grind,by constructor <;> grind⟩
theorem corner {a b c d L U x y:Rat} (hx1:a≤x) (hx2:x≤b) (hy1:c≤y) (hy2:y≤d)
  (l1:L≤a*c) (l2:L≤a*d) (l3:L≤b*c) (l4:L≤b*d) (u1:a*c≤U) (u2:a*d≤U) (u3:b*c≤U) (u4:b*d≤U):L≤x*y∧x*y≤U:=by
 have p1:=Rat.mul_nonneg (show 0≤x-a by grind) (show 0≤y-c by grind)
 have p2:=Rat.mul_nonneg (show 0≤x-a by grind) (show 0≤d-y by grind)
 have p3:=Rat.mul_nonneg (show 0≤b-x by grind) (show 0≤y-c by grind)
 have p4:=Rat.mul_nonneg (show 0≤b-x by grind) (show 0≤d-y by grind)
 rcases Rat.le_total (a:=0) (b:=y) with hy|hy
 ·have g1:=Rat.mul_nonneg (show 0≤x-a by grind) hy
  have g2:=Rat.mul_nonneg (show 0≤b-x by grind) hy
  rcases Rat.le_total (a:=0) (b:=a) with ha|ha
  ·have:=Rat.mul_nonneg ha (show 0≤y-c by grind)
   rcases Rat.le_total (a:=0) (b:=b) with hb|hb
   ·have:=Rat.mul_nonneg hb (show 0≤d-y by grind);constructor <;> grind
   ·have:=Rat.mul_nonneg (show 0 ≤ -b by grind) (show 0≤y-c by grind);constructor <;> grind
  ·have:=Rat.mul_nonneg (show 0 ≤ -a by grind) (show 0≤d-y by grind)
   rcases Rat.le_total (a:=0) (b:=b) with hb|hb
   ·have:=Rat.mul_nonneg hb (show 0≤d-y by grind);constructor <;> grind
   ·have:=Rat.mul_nonneg (show 0 ≤ -b by grind) (show 0≤y-c by grind);constructor <;> grind
 ·have g1:=Rat.mul_nonneg (show 0≤x-a by grind) (show 0 ≤ -y by grind)
  have g2:=Rat.mul_nonneg (show 0≤b-x by grind) (show 0 ≤ -y by grind)
  rcases Rat.le_total (a:=0) (b:=a) with ha|ha
  ·have:=Rat.mul_nonneg ha (show 0≤d-y by grind)
   rcases Rat.le_total (a:=0) (b:=b) with hb|hb
   ·have:=Rat.mul_nonneg hb (show 0≤y-c by grind);constructor <;> grind
   ·have:=Rat.mul_nonneg (show 0 ≤ -b by grind) (show 0≤d-y by grind);constructor <;> grind
  ·have:=Rat.mul_nonneg (show 0 ≤ -a by grind) (show 0≤y-c by grind)
   rcases Rat.le_total (a:=0) (b:=b) with hb|hb
   ·have:=Rat.mul_nonneg hb (show 0≤y-c by grind);constructor <;> grind
   ·have:=Rat.mul_nonneg (show 0 ≤ -b by grind) (show 0≤d-y by grind);constructor <;> grind
theorem AB.between {c d y p q:Rat} (hp:AB c p) (hq:AB d q) (h1:c≤y) (h2:y≤d):AB y (p+q):=by
 have:=hp.nonneg;have:=hq.nonneg;obtain ⟨_,_⟩:=hp;obtain ⟨_,_⟩:=hq;constructor <;> grind
theorem Has.mul {a b c d L U:Rat} {x y:Nat→Rat} (h:Has a b x) (k:Has c d y)
  (l1:L≤a*c) (l2:L≤a*d) (l3:L≤b*c) (l4:L≤b*d) (u1:a*c≤U) (u2:a*d≤U) (u3:b*c≤U) (u4:b*d≤U):Has L U (fun M=>x M*y M):=fun e he=>by
 obtain ⟨R,N0,r0,hR⟩:=h.bdd;obtain ⟨p,hp1⟩:=AB.self c;obtain ⟨q,hq1⟩:=AB.self d;have p0:=hp1.nonneg;have q0:=hq1.nonneg;have hp:0<R+(p+q)+1:=by grind
 have hd:=zL he hp;have hab:=h.le;have hcd:=k.le;obtain ⟨N,h⟩:=h _ hd;obtain ⟨N',k⟩:=k _ hd;refine ⟨N+N'+N0,fun M hM=>?_⟩
 have h1:=h M (by omega)
 have k1:=k M (by omega)
 have hr:=hR M (by omega)
 have hδ:=rdm (a:=e) hp;generalize e/(R+(p+q)+1)=δ at *;obtain ⟨x0,a1,a2,a3⟩:=clamp hab (Rat.le_of_lt hd) h1.1 h1.2;obtain ⟨y0,b1,b2,b3⟩:=clamp hcd (Rat.le_of_lt hd) k1.1 k1.2;have hc:=corner a1 a2 b1 b2 l1 l2 l3 l4 u1 u2 u3 u4;have g:=(hr.mul b3).add (a3.mul (AB.between hp1 hq1 b1 b2));have e1:x M*(y M-y0)+(x M-x0)*y0=x M*y M-x0*y0:=by grind
 rw[e1] at g;obtain ⟨g1,g2⟩:=g
 show L-e≤x M*y M∧x M*y M≤U+e
 generalize x M*y M=X at *;generalize x0*y0=Y at *;constructor <;> grind
theorem Has.scale {a b c:Rat} {x:Nat→Rat} (h:Has a b x) (hc:0≤c):Has (c*a) (c*b) (fun M=>c*x M):=by
 have hab:=h.le;have:=Rat.mul_nonneg hc (show 0≤b-a by grind)
 exact Has.mul (Has.const (Rat.le_refl) (Rat.le_refl) (c:=c)) h (by grind) (by grind) (by grind) (by grind) (by grind) (by grind) (by grind) (by grind)
theorem Has.of_eq {a b:Rat} {x y:Nat→Rat} (h:Has a b x) (e:∀ M,y M=x M):Has a b y:=by
 have:y=x:=funext e;rw[this];exact h
end Go.Proofs.YtgmnknmjainababGreat.Ex
namespace Go.Proofs.YtgmnknmjainababGreat.Ex
theorem tm_AB {x R:Rat} (h:AB x R) (n:Nat):AB (tm x n) (tm R n):=by
 induction n with
 | zero=>simp only[tm];constructor <;> grind
 | succ n ih =>
  have hp:=zCD n;have g:=ih.mul h;have e1:=kB x n;have e2:=kB R n;have e3:tm x n*x=((n:Rat)+1)*tm x (n+1):=by grind
  have e4:tm R n*R=((n:Rat)+1)*tm R (n+1):=by grind
  rw[e3,e4] at g;obtain ⟨g1,g2⟩:=g;generalize (n:Rat)+1=m at *;constructor
  ·refine Rat.not_lt.1 fun hn=>?_
   have:=Rat.mul_pos hp (show 0 < -tm R (n+1)-tm x (n+1) by grind)
   grind
  ·refine Rat.not_lt.1 fun hn=>?_
   have:=Rat.mul_pos hp (show 0<tm x (n+1)-tm R (n+1) by grind)
   grind
theorem zJS (R:Rat):∃ K,0≤K∧∀ x,AB x R→∀ i,AB (tm x i) (K*q4 i):=by
 obtain ⟨K,k0,h⟩:=zMF R;exact ⟨K,k0,fun x hx i=>(tm_AB hx i).mono (h i).2⟩
theorem zK2 (R:Rat):∃ K,0≤K∧∀ M x y,AB x R→AB y R→AB (E x M*E y M-E (x+y) M) (K*((M:Rat)*q4 M)):=by
 obtain ⟨K,k0,h⟩:=zJS R;refine ⟨2*K*K,?_,fun M x y hx hy=>(E_mul x y K K (h x hx) (h y hy) M).mono (by grind)⟩
 have:=Rat.mul_nonneg k0 k0;grind
theorem zET (R:Rat):∃ K,0≤K∧∀ M x,AB x R→AB (E x M) K:=by
 obtain ⟨K,k0,h⟩:=zJS R;refine ⟨2*K,by grind,fun M x hx=>?_⟩
 have:=E_sub x K (h x hx) 0 M;have e:E x 0=0:=rfl;rw[Nat.zero_add,e] at this;have e1:E x M-0=E x M:=by grind
 rw[e1] at this;refine this.mono ?_;have:=yI M;have:=Rat.mul_nonneg k0 (Rat.le_of_lt this);simp only[q4];grind
theorem tm_zero (n:Nat):tm 0 (n+1)=0:=by
 have:=kB 0 n;have hp:=zCD n;have h5:((n:Rat)+1)*tm 0 (n+1)=0:=by grind
 rcases Rat.mul_eq_zero.1 h5 with h6|h6
 ·grind
 ·exact h6
theorem zA9 (M:Nat):E 0 (M+1)=1:=by
 induction M with
 | zero=>simp only[E,S,tm];grind
 | succ M ih =>
  have e:E 0 (M+1+1)=E 0 (M+1)+tm 0 (M+1):=rfl;rw[e,ih,tm_zero];grind
theorem yT (x:Rat):0≤x*x:=by
 rcases Rat.le_total (a:=0) (b:=x) with h|h
 ·exact Rat.mul_nonneg h h
 ·have:=Rat.mul_nonneg (show 0 ≤ -x by grind) (show 0 ≤ -x by grind);grind
theorem E_low (R:Rat):∃ c,0<c∧∃ N,∀ M,N≤M→∀ x,AB x R→c≤E x M:=by
 obtain ⟨K,k0,hK⟩:=zK2 R;obtain ⟨L,l0,hL⟩:=zET R;have hp:0<4*(L+1):=by grind
 have hc:=zL (show (0:Rat)<1 by grind) hp
 have hcL:=rdm (a:=1) hp;refine ⟨_,hc,?_⟩;generalize 1/(4*(L+1))=c at *;obtain ⟨N,hN⟩:=zA6 K k0 c hc;refine ⟨N+1,fun M hM x hx=>?_⟩
 obtain ⟨n1,n2⟩:AB (K*((M:Rat)*q4 M)) c:=hN M (by omega)
 have hx2:AB (x/2) R:=by obtain ⟨a,b⟩:=hx;constructor <;> grind
 have h1:=hK M (x/2) (x/2) hx2 hx2;rw[show x/2+x/2=x by grind] at h1
 have h2:=hK M x (-x) hx hx.neg;rw[show x + -x=0 by grind] at h2
 obtain ⟨m,rfl⟩:∃ m,M=m+1:=⟨M-1,by omega⟩
 rw[zA9] at h2;have h3:=hL (m+1) (-x) hx.neg;have h4:=yT (E (x/2) (m+1));obtain ⟨a1,a2⟩:=h1;obtain ⟨b1,b2⟩:=h2;generalize K*(((m+1:Nat):Rat)*q4 (m+1))=η at *;generalize E (x/2) (m+1)*E (x/2) (m+1)=s at *;refine Rat.not_lt.1 fun hn=>?_
 have h5:AB (E x (m+1)) c:=by constructor <;> grind
 have h6:=h5.mul h3;obtain ⟨c1,c2⟩:=h6;generalize E x (m+1)*E (-x) (m+1)=t at *;have:c*L≤1/4:=by grind
 have:c≤1/4:=by
  have:=Rat.mul_nonneg (Rat.le_of_lt hc) l0;grind
 grind
theorem zII {h b:Rat} (hb:AB h b) (h4:b≤1/4) (k:Nat):AB (tm h (k+1)) (b*q4 k):=by
 have b0:=hb.nonneg
 induction k with
 | zero=>simp only[tm,q4];obtain ⟨_,_⟩:=hb;simp;constructor <;> grind
 | succ k ih =>
  have e:=kB h (k+1);have hp:=zCD (k+1)
  have hp1:(1:Rat)≤((k+1:Nat):Rat)+1:=by
   have:(0:Rat)≤((k+1:Nat):Rat):=by exact_mod_cast Nat.zero_le (k+1)
   grind
  have g:=hb.mul ih;rw[← e] at g;have q:=yI k;have e2:q4 (k+1)=q4 k/4:=rfl;rw[e2];generalize ((k+1:Nat):Rat)+1=m at *
  have g2:AB (m*tm h (k+1+1)) (b*(q4 k/4)):=by
   refine g.mono ?_;have:=Rat.mul_nonneg (Rat.mul_nonneg b0 (Rat.le_of_lt q)) (show 0≤1/4-b by grind)
   grind
  obtain ⟨g3,g4⟩:=g2;have hn:=Rat.mul_nonneg b0 (Rat.le_of_lt q);generalize b*(q4 k/4)=r at *;have hr:0≤r:=by grind
  constructor
  ·refine Rat.not_lt.1 fun hn=>?_
   have:=Rat.mul_nonneg (show 0≤m-1 by grind) (show 0 ≤ -r-tm h (k+1+1) by grind)
   have:=Rat.mul_nonneg (show 0≤m-1 by grind) hr
   grind
  ·refine Rat.not_lt.1 fun hn=>?_
   have:=Rat.mul_nonneg (show 0≤m-1 by grind) (show 0≤tm h (k+1+1)-r by grind)
   have:=Rat.mul_nonneg (show 0≤m-1 by grind) hr
   grind
theorem zOO {h b:Rat} (hb:AB h b) (h4:b≤1/4) (M:Nat):AB (E h (M+1)-1) (2*b*(1-q4 M)):=by
 have b0:=hb.nonneg
 induction M with
 | zero=>simp only[E,S,tm,q4];constructor <;> grind
 | succ M ih =>
  have e:E h (M+1+1)=E h (M+1)+tm h (M+1):=rfl;have g:=ih.add (zII hb h4 M);rw[e];have e2:q4 (M+1)=q4 M/4:=rfl;have q:=Rat.mul_nonneg b0 (Rat.le_of_lt (yI M));have e3:E h (M+1)-1+tm h (M+1)=E h (M+1)+tm h (M+1)-1:=by grind
  rw[e3] at g;rw[e2];exact g.mono (by grind)
theorem zKN {h b:Rat} (hb:AB h b) (h4:b≤1/4) {M:Nat} (hM:1≤M):AB (E h M-1) (2*b):=by
 obtain ⟨m,rfl⟩:∃ m,M=m+1:=⟨M-1,by omega⟩
 refine (zOO hb h4 m).mono ?_;have q:=Rat.mul_nonneg hb.nonneg (Rat.le_of_lt (yI m));grind
theorem zLQ {h b:Rat} (hb:AB h b) (h4:b≤1/4) (M:Nat):AB (E h (M+2)-1-h) (2*(b*b)*(1-q4 M)):=by
 have b0:=hb.nonneg;have bb:=Rat.mul_nonneg b0 b0
 induction M with
 | zero =>
  have:E h 2=1+h:=by simp[E,S,tm];grind
  rw[this];simp only[q4];constructor <;> grind
 | succ M ih =>
  have e:E h (M+1+2)=E h (M+2)+tm h (M+2):=rfl;have hp:=zCD (M+1)
  have g0:AB (tm h (M+2)) (b*b*q4 M):=by
   have e:=kB h (M+1)
   have hp1:(1:Rat)≤((M+1:Nat):Rat)+1:=by
    have:(0:Rat)≤((M+1:Nat):Rat):=by exact_mod_cast Nat.zero_le (M+1)
    grind
   have g:=hb.mul (zII hb h4 M);rw[← e] at g;have hr:=Rat.mul_nonneg bb (Rat.le_of_lt (yI M));rw[show b*(b*q4 M)=b*b*q4 M by grind] at g
   obtain ⟨g3,g4⟩:=g;generalize ((M+1:Nat):Rat)+1=m at *;generalize b*b*q4 M=r at *;rw[show M+1+1=M+2 by omega] at *
   constructor
   ·refine Rat.not_lt.1 fun hn=>?_
    have:=Rat.mul_nonneg (show 0≤m-1 by grind) (show 0 ≤ -r-tm h (M+2) by grind)
    have:=Rat.mul_nonneg (show 0≤m-1 by grind) hr
    grind
   ·refine Rat.not_lt.1 fun hn=>?_
    have:=Rat.mul_nonneg (show 0≤m-1 by grind) (show 0≤tm h (M+2)-r by grind)
    have:=Rat.mul_nonneg (show 0≤m-1 by grind) hr
    grind
  have g:=ih.add g0;rw[e];have e2:q4 (M+1)=q4 M/4:=rfl;have q:=Rat.mul_nonneg bb (Rat.le_of_lt (yI M));have e3:E h (M+2)-1-h+tm h (M+2)=E h (M+2)+tm h (M+2)-1-h:=by grind
  rw[e3] at g;rw[e2];exact g.mono (by grind)
theorem zEY {h b:Rat} (hb:AB h b) (h4:b≤1/4) {M:Nat} (hM:2≤M):AB (E h M-1-h) (2*(b*b)):=by
 obtain ⟨m,rfl⟩:∃ m,M=m+2:=⟨M-2,by omega⟩
 refine (zLQ hb h4 m).mono ?_;have q:=Rat.mul_nonneg (Rat.mul_nonneg hb.nonneg hb.nonneg) (Rat.le_of_lt (yI m));grind
def Ev (x:Nat→Rat) (M:Nat):Rat:=E (x M) M
theorem zBG {x:Nat→Rat} (h:Bdd x):Bdd (Ev x):=by
 obtain ⟨R,N,r0,h⟩:=h;obtain ⟨K,k0,hK⟩:=zET R;exact ⟨K,N,k0,fun M hM=>hK M _ (h M hM)⟩
theorem zA1 {x y:Nat→Rat} (hx:Bdd x) (hy:Bdd y):Null (fun M=>Ev x M*Ev y M-Ev (fun M=>x M+y M) M):=by
 obtain ⟨R,N,r0,hx⟩:=hx;obtain ⟨R',N',r0',hy⟩:=hy;obtain ⟨K,k0,hK⟩:=zK2 (R+R');exact (zA6 K k0).of_le (N+N') fun M hM=>hK M _ _ ((hx M (by omega)).mono (by grind)) ((hy M (by omega)).mono (by grind))
theorem zC5 {x:Nat→Rat} (hx:Bdd x):∃ c,0<c∧∃ N,∀ M,N≤M→c≤Ev x M:=by
 obtain ⟨R,N,r0,hx⟩:=hx;obtain ⟨c,hc,N',h⟩:=E_low R;exact ⟨c,hc,N+N',fun M hM=>h M (by omega) _ (hx M (by omega))⟩
theorem zMZ {h:Nat→Rat} (hn:Null h):Null (fun M=>Ev h M-1):=fun e he=>by
 obtain ⟨N,h1⟩:=hn (1/4) (by grind)
 obtain ⟨N',h2⟩:=hn (e/2) (by grind)
 refine ⟨N+N'+1,fun M hM=>?_⟩
 rcases Rat.le_total (a:=e/2) (b:=1/4) with hc|hc
 ·exact (zKN (h2 M (by omega)) hc (by omega)).mono (by grind)
 ·exact (zKN (h1 M (by omega)) (by grind) (by omega)).mono (by grind)
theorem zK5 {x y:Nat→Rat} (hx:Bdd x) (hy:Bdd y) (h:Null (fun M=>x M-y M)):Null (fun M=>Ev x M-Ev y M):=by
 have h1:=zA1 hy (hx.sub hy);have h2:=(zMZ h).bmul (zBG hy);have e:(fun M=>y M+(x M-y M))=x:=funext fun M=>by grind
 rw[e] at h1;refine (h2.sub h1).of_eq fun M=>?_
 grind
theorem zK0 {x:Nat→Rat} (hx:Bdd x):Null (fun M=>Ev x M*Ev (fun M => -x M) M-1):=by
 have h1:=zA1 hx hx.neg;refine h1.of_eq_from 1 fun M hM=>?_
 obtain ⟨m,rfl⟩:∃ m,M=m+1:=⟨M-1,by omega⟩
 have:Ev (fun M=>x M + -x M) (m+1)=1:=by
  show E (x (m+1) + -x (m+1)) (m+1)=1
  rw[show x (m+1) + -x (m+1)=0 by grind,zA9]
 rw[this]
theorem zCW {x y z:Nat→Rat} (hx:Bdd x) (hy:Bdd y) (hz:Null z) (N0:Nat) (h:∀ M,N0≤M→x M≤y M+z M):∃ v,Null v∧∃ N,∀ M,N≤M→Ev x M≤Ev y M+v M:=by
 have b1:Bdd (fun M=>y M+z M):=hy.add hz.bdd
 have n1:=zK5 b1 hy (hz.of_eq fun M=>by grind)
 have n2:=zA1 hx (b1.sub hx);have e:(fun M=>x M+(y M+z M-x M))=fun M=>y M+z M:=funext fun M=>by grind
 rw[e] at n2;obtain ⟨c,hc,N1,hl⟩:=zC5 hx;refine ⟨_,n1.add n2,N0+N1+1,fun M hM=>?_⟩
 have h1:=E_one (show 0≤y M+z M-x M by have:=h M (by omega);grind) (show 1≤M by omega)
 have h2:=hl M (by omega)
 have h3:=Rat.mul_nonneg (show 0≤Ev x M by grind) (show 0≤Ev (fun M=>y M+z M-x M) M-1 by have:Ev (fun M=>y M+z M-x M) M=E (y M+z M-x M) M:=rfl;rw[this];grind)
 grind
theorem zKK {x:Rat} (h:0≤x) {M:Nat} (hM:2≤M):1+x≤E x M:=by
 obtain ⟨m,rfl⟩:∃ m,M=m+2:=⟨M-2,by omega⟩
 clear hM
 induction m with
 | zero=>simp[E,S,tm];grind
 | succ m ih =>
  have e1:E x (m+1+2)=E x (m+2)+tm x (m+2):=rfl;have:=kT h (m+2);grind
theorem zOC {x y z:Nat→Rat} (hx:Bdd x) (hy:Bdd y) (hz:Null z) (N0:Nat) (h:∀ M,N0≤M→Ev x M≤Ev y M+z M) (e:Rat) (he:0<e):∃ N,∀ M,N≤M→x M≤y M+e:=by
 obtain ⟨R,N1,r0,hx⟩:=hx;obtain ⟨R',N2,r0',hy⟩:=hy;obtain ⟨K,k0,hK⟩:=zK2 (R+R'+R+R'+e);obtain ⟨c,hc,N3,hl⟩:=E_low (R+R'+R+R'+e);have hce:=Rat.mul_pos hc he;obtain ⟨N4,hn⟩:=zA6 K k0 (c*e/4) (by grind)
 obtain ⟨N5,hz⟩:=hz (c*e/4) (by grind)
 refine ⟨N0+N1+N2+N3+N4+N5+2,fun M hM=>?_⟩
 refine Rat.not_lt.1 fun hlt=>?_
 have a1:=hx M (by omega)
 have a2:=hy M (by omega)
 have a3:=h M (by omega)
 obtain ⟨a4,a5⟩:AB (K*((M:Rat)*q4 M)) (c*e/4):=hn M (by omega)
 obtain ⟨a6,a7⟩:=hz M (by omega)
 have hye:AB (y M+e) (R+R'+R+R'+e):=by obtain ⟨_,_⟩:=a2;constructor <;> grind
 have hu:AB (x M-(y M+e)) (R+R'+R+R'+e):=by obtain ⟨_,_⟩:=a2;obtain ⟨_,_⟩:=a1;constructor <;> grind
 have hy':AB (y M) (R+R'+R+R'+e):=a2.mono (by grind)
 have he':AB e (R+R'+R+R'+e):=by constructor <;> grind
 obtain ⟨b1,b2⟩:=hK M _ _ hye hu;obtain ⟨b3,b4⟩:=hK M _ _ hy' he';rw[show y M+e+(x M-(y M+e))=x M by grind] at b1 b2
 have l1:=hl M (by omega) _ hye
 have l2:=hl M (by omega) _ hy'
 have o1:=E_one (show 0≤x M-(y M+e) by grind) (show 1≤M by omega)
 have o2:=zKK (Rat.le_of_lt he) (show 2≤M by omega)
 have p1:=Rat.mul_nonneg (show 0≤E (y M+e) M by grind) (show 0≤E (x M-(y M+e)) M-1 by grind)
 have p2:=Rat.mul_nonneg (show 0≤E (y M) M by grind) (show 0≤E e M-(1+e) by grind)
 have p3:=Rat.mul_nonneg (show 0≤E (y M) M-c by grind) (Rat.le_of_lt he)
 have a3':E (x M) M≤E (y M) M+z M:=a3;generalize E (x M) M=X at *;generalize E (y M) M=Y at *;generalize K*((M:Rat)*q4 M)=η at *;grind
end Go.Proofs.YtgmnknmjainababGreat.Ex
