/-
  Its own texts.
-/
import Derived.Deep.CutBlock
import Derived.Test.YtgmnknmjainababGreatK23
set_option maxRecDepth 100000
set_option maxHeartbeats 8000000
set_option linter.unnecessarySimpa false
set_option linter.unusedSimpArgs false
set_option linter.unusedVariables false
namespace Go.Proofs.YtgmnknmjainababGreat
open Go.RowKit
attribute [local go_sem ↓] Go.wp_at_zero Go.wp_at_succ
open Ex
theorem lp_facts {B J:Nat} {Y:Int} (hB:B≤300) (hY:0<Y) (hYb:Y<Q (B+20)) (hJ1:Q B≤Y*Q J) (hJ2:Y<Q B*Q (J+1)):0<Y*Q 64∧Y*Q 64<P 120∧2*Q (B+64)<P 120∧Q (B+64)≤Y*Q 64*Q J∧Y*Q 64<Q (B+64)*Q (J+1)∧True:=by
 have q:=zG 64;have e:Q (B+64)=Q B*Q 64:=jC B 64;have m1:=Int.mul_lt_mul_of_pos_right hYb (show 0<Q 64 by omega)
 have e2:Q (B+20)*Q 64=Q (B+84):=by rw[← jC]
 have m2:=zJ (show B+84≤16*120 by omega)
 have m3:=zJ (show B+64+1≤16*120 by omega)
 have e3:Q (B+64+1)=2*Q (B+64):=rfl;have m3':=zJ (show B+64+1+1≤16*120 by omega)
 have e4:Q (B+64+1+1)=2*Q (B+64+1):=rfl;have qq:=zG (B+64);rw[Q_P] at m2 m3 m3';have m4:=Int.mul_le_mul_of_nonneg_right hJ1 (show 0≤Q 64 by omega)
 have m5:=Int.mul_lt_mul_of_pos_right hJ2 (show 0<Q 64 by omega)
 have r1:Y*Q J*Q 64=Y*Q 64*Q J:=by grind
 have r2:Q B*Q (J+1)*Q 64=Q B*Q 64*Q (J+1):=by grind
 exact ⟨Int.mul_pos hY (by omega),by omega,by omega,by omega,by rw[e];omega,trivial⟩
theorem lp_log {B:Nat} {Y:Int} {l:Nat→Rat} (h:IsLog l (fun _=>((Y*Q 64:Int):Rat)/(Q (B+64):Rat))):IsLog l (fun _=>(Y:Rat)/(Q B:Rat)):=by
 have q:=zV B;have q64:=zV 64;have q2:=zV (B+64)
 have e:((Y*Q 64:Int):Rat)/(Q (B+64):Rat)=(Y:Rat)/(Q B:Rat):=by
  have e1:(Q (B+64):Rat)=(Q B:Rat)*(Q 64:Rat):=by rw[jC,Rat.intCast_mul]
  have a:=rdm (a:=((Y*Q 64:Int):Rat)) q2;have b:=rdm (a:=(Y:Rat)) q;refine zU (c:=(Q (B+64):Rat)) q2 ?_;have r1:(Q (B+64):Rat)*(((Y*Q 64:Int):Rat)/(Q (B+64):Rat))=((Y*Q 64:Int):Rat)/(Q (B+64):Rat)*(Q (B+64):Rat):=by grind
  rw[r1,a,e1,Rat.intCast_mul];have r2:(Q B:Rat)*(Q 64:Rat)*((Y:Rat)/(Q B:Rat))=(Y:Rat)/(Q B:Rat)*(Q B:Rat)*(Q 64:Rat):=by grind
  rw[r2,b]
 rw[e] at h;exact h
theorem zKM (w:World) (x:Nm) (k:Nat) (z:Int) (hx:IntAt w x.neg x.a x.n x.cap k z) (h0:0≤z) (h1:z≤1000000000) :
  Calls Tryz.prog 134 #[.agg #[.bool x.neg,.slice x.a x.n x.cap]] w (fun r w'=>r=.returned (.int .i64 z)∧Below w.heap.size w w'):=by
 obtain ⟨g,dg,dtop,dneg,dk,dz⟩:=hx
 have hV:V g x.n=z:=by
  have hv:=jB dg.dgs x.n
  cases hneg:x.neg
  ·rw[hneg] at dz;simp[sgn] at dz;omega
  ·rw[hneg] at dz;simp[sgn] at dz;omega
 obtain ⟨W,hW⟩:∃ W,W=w.alloc (.cells #[.bool x.neg,.slice x.a x.n x.cap] 26):=⟨_,rfl⟩;have hBW:Below w.heap.size w W:=by rw[hW];exact bl1 _ _
 have D:NmC W w.heap.size x:=by rw[hW];exact yS w x _
 have dg2:=dg.bw hBW;have HDG:=zC dg2;have hdgs:=zC dg.dgs;have hroom:=dg.room;have HV:=zC hV;have lD:=D.lt;have d0':=D.c0;have d1':=D.c1;clear dg dg2 dtop dneg dk dz hV;obtain ⟨xneg,xa,xn,xcap⟩:=x;simp only[] at HDG HV hroom d0' d1' D hW
 go_enter Tryz.func134,Tryz.ntmps134
 go_wp2_with fail;rw[← hW];clear hW
 go_loop [3,4] (fun nn ii=>∃ j:Nat,nn=.int .i64 (Tp g j xn)∧ii=.int .i64 ((j:Int)-1)∧j≤xn) (fun _ ii=>(intOf ii+1).toNat)
 case atStart=>exact ⟨xn,by rw[zFH],rfl,Nat.le_refl _⟩
 case round =>
  obtain ⟨j,rfl,rfl,hj⟩:=hrel
  by_cases hj0:0<j
  ·obtain ⟨m,rfl⟩:∃ m,j=m+1:=⟨j-1,by omega⟩
   have em:(((m+1:Nat):Int)-1)=(m:Int):=by omega
   rw[em];obtain ⟨bb,off,ha,hlt,hcell⟩:=(zA HDG).at_ (by omega)
   have hc:=hcell m (by omega)
   have hm2:(m:Int)<(xn:Int):=by omega
   have t1:=zAD (zA hdgs) (m+1) xn;have t2:=Tp_le (zA hdgs) (m+1) xn (by omega)
   have t3:=zA HV;obtain ⟨g1,g2⟩:=zA hdgs m;have t4:=zB5 g m xn (by omega)
   have HT4:=zC t4;have t5:Tp g (m+1) xn≤1000000000:=by omega
   subst ha;clear hcell em t2 t3 t4;go_wp2_with fail
   go_round
   case rel =>
    refine ⟨m,?_,?_,by omega⟩
    ·rw[zA HT4,Int.add_comm]
    ·rfl
   case measure=>simp[intOf]
  ·have hj1:j=0:=by omega
   subst hj1;rw[zCH,zA HV];clear d0' d1' hj hj0;go_wp2_with fail;exact bodyPost_ret (v:=.int .i64 z) (by simp[results,Tryz.results134,go_sem]) rfl ⟨rfl,hBW⟩
theorem refLogOf (w:World) (s:Sp) (k B J:Nat) (Y:Int) (hs:SpAt w s k Y Y) (hbits:s.bits=(B:Int)) (hk:k≤1000000) (hB:B≤1000) (hk2:B/16+8≤k) (hY:0<Y) (hYk:Y<P k) (hBk:2*Q B<P k) (hJ1:Q B≤Y*Q J) (hJ2:Y<Q B*Q (J+1)) (hJ:J≤1000) :
  Calls Tryz.prog 173 #[.agg #[.bool s.ln,.slice s.la s.lN s.lc,.bool s.hn,.slice s.ha s.hN s.hc,.int .i64 s.bits]] w (fun r w'=>∃ (lo hi:Int) (l:Nat→Rat),Ex.IsLog l (fun _=>(Y:Rat)/(Q B:Rat))∧(Iv B (lo,hi) l∧Abs (lo,hi) (3*((J:Int)+1)*Q B))∧zH w B (B/16+10) lo hi r w'):=by
 obtain ⟨W,hW⟩:∃ W,W=(w.alloc (.cells #[.bool s.ln,.slice s.la s.lN s.lc,.bool s.hn,.slice s.ha s.hN s.hc,.int .i64 s.bits] 36)).alloc (.cells #[.bool false,.slice none 0 0,.bool false,.slice none 0 0,.int .i64 0] 36):=⟨_,rfl⟩;have hBW:Below w.heap.size w W:=by rw[hW];exact bl2 _ _ _
 have A:SpC W w.heap.size s:=by rw[hW];constructor <;> simp[go_sem]
 have R:NoC W (w.heap.size+1):=by rw[hW];constructor <;> simp[go_sem]
 have HS:=zC (hs.bw hBW);have HB:=zC hbits;have lA:=A.lt;have lR:=R.lt;have a4:=A.c4;have hf0:=zCA;have hf1:=zGP;have HY:=zC (And.intro hYk (And.intro hBk (And.intro hJ1 hJ2)));have qB:=zG B;clear hs hbits hYk hBk hJ1 hJ2
 go_enter Tryz.func173,Tryz.ntmps173
 go_wp2_with fail;rw[← hW];clear hW a4;refine (zCP (e:=B) s.bits (zA HB) _ (by omega)).mono ?_
 rintro r' w6 ⟨neg6,a6,n6,c6,rfl,hZ6,hb6⟩;obtain ⟨V3,hV3⟩:∃ V,V=w6.alloc (.cells #[.bool neg6,.slice a6 n6 c6] 26):=⟨_,rfl⟩;have bV3:Below w6.heap.size w6 V3:=by rw[hV3];exact bl1 _ _
 have Pc:NmC V3 w6.heap.size ⟨neg6,a6,n6,c6⟩:=by rw[hV3];exact yS w6 ⟨neg6,a6,n6,c6⟩ _
 have HIP:=zC (hZ6.bw bV3);replace R:=R.bw hb6;have lR6:=R.lt;replace A:=(A.bw hb6).bw bV3;replace R:=R.bw bV3;replace hBW:=zB (zB hBW hb6) bV3;replace HS:=zC (((zA HS).bw hb6).bw bV3);clear hZ6 hb6 bV3;go_wp2_with fail;rw[← hV3];clear hV3;obtain ⟨BP,hBP⟩:∃ B',B'=w6.heap.size:=⟨_,rfl⟩;rw[← hBP] at Pc lR6 ⊢;clear hBP;have lP:=Pc.lt;have lA2:=A.lt;have lR2:=R.lt;have nR1:w.heap.size+1≠BP:=by omega
 have nR2:w.heap.size+1≠w.heap.size:=by omega
 have HK:=zC (show ∀ w',Below V3.heap.size V3 w'→(w'.cell? ⟨w.heap.size,0,none⟩=some (.bool s.ln)∧w'.cell? ⟨w.heap.size,1,none⟩=some (.slice s.la s.lN s.lc)∧w'.cell? ⟨w.heap.size,2,none⟩=some (.bool s.hn)∧w'.cell? ⟨w.heap.size,3,none⟩=some (.slice s.ha s.hN s.hc)∧w'.cell? ⟨w.heap.size,4,none⟩=some (.int .i64 s.bits)∧w'.cell? ⟨BP,0,none⟩=some (.bool (⟨neg6,a6,n6,c6⟩:Nm).neg)∧w'.cell? ⟨BP,1,none⟩=some (.slice (⟨neg6,a6,n6,c6⟩:Nm).a (⟨neg6,a6,n6,c6⟩:Nm).n (⟨neg6,a6,n6,c6⟩:Nm).cap)) from fun w' hB=>⟨(A.bw hB).c0,(A.bw hB).c1,(A.bw hB).c2,(A.bw hB).c3,(A.bw hB).c4,(Pc.bw hB).c0,(Pc.bw hB).c1⟩)
 clear A Pc;obtain ⟨x0,x1,x2,x3,x4,x5,x6⟩:=zA HK _ (Below.refl _ _);have hD0:Below V3.heap.size V3 V3.drew:=(Below.refl _ _).drew
 go_region_held3 (fun w'=>w'.cell? ⟨w.heap.size,0,none⟩=some (.bool s.ln)∧w'.cell? ⟨w.heap.size,1,none⟩=some (.slice s.la s.lN s.lc)∧w'.cell? ⟨w.heap.size,2,none⟩=some (.bool s.hn)∧w'.cell? ⟨w.heap.size,3,none⟩=some (.slice s.ha s.hN s.hc)∧w'.cell? ⟨w.heap.size,4,none⟩=some (.int .i64 s.bits)∧w'.cell? ⟨BP,0,none⟩=some (.bool (⟨neg6,a6,n6,c6⟩:Nm).neg)∧w'.cell? ⟨BP,1,none⟩=some (.slice (⟨neg6,a6,n6,c6⟩:Nm).a (⟨neg6,a6,n6,c6⟩:Nm).n (⟨neg6,a6,n6,c6⟩:Nm).cap)) (first|exact zA HK _ (by with_reducible first|exact hD0|exact hD2|exact hD1)|go_keep)
  (first
   | (go_at_call 124;have hqq:=hD1;refine (zCL (b:=B) s.bits (zA HB) _ ⟨s.hn,s.ha,s.hN,s.hc⟩ ⟨neg6,a6,n6,c6⟩ k J Y (Q B) ((zA HS).hi.bw hD1) (((zA HIP).bw hD1).mono hk2) (by omega) (by omega) hY (by omega) (zA HY).1 (zA HY).2.1 (zA HY).2.2.1 (zA HY).2.2.2 hJ).mono ?_;rintro r' w2 ⟨lo2,hi2,l2,g2,i2,v2,rfl,hvb2,hZ2,hb2⟩;have hD2:=zB hD1 hb2;have HG2:=zC (And.intro g2 i2);clear hvb2 g2 i2;replace hZ1:=hZ1.bw hb2;obtain ⟨q0,q1,q2,q3,q4,q5⟩:=R.bw hD2)
   | (go_at_call 124;refine (zCL (b:=B) s.bits (zA HB) _ ⟨s.ln,s.la,s.lN,s.lc⟩ ⟨neg6,a6,n6,c6⟩ k J Y (Q B) ((zA HS).lo.bw hD0) (((zA HIP).bw hD0).mono hk2) (by omega) (by omega) hY (by omega) (zA HY).1 (zA HY).2.1 (zA HY).2.2.1 (zA HY).2.2.2 hJ).mono ?_;rintro r' w1 ⟨lo1,hi1,l1,g1,i1,v1,rfl,hvb1,hZ1,hb1⟩;have hD1:=zB hD0 hb1;have HG1:=zC (And.intro g1 i1);clear hvb1 g1 i1))
 all_goals
  have HO:=zC (zCM (zA HG1).2.1 ((zA HG2).2.1.congr (((zA HG1).1).uniq (zA HG2).1)) (LeN.refl l1) (LeN.refl l1));have HAB:=zC (show Abs (lo1,hi2) (3*((J:Int)+1)*Q B) from ⟨(zA HG1).2.2.1,(zA HG1).2.2.2.1,(zA HG2).2.2.2.2.1,(zA HG2).2.2.2.2.2⟩)
  go_wp2_with fail;refine bodyPost_ret (v:=.agg #[.bool v1.ln,.slice v1.la v1.lN v1.lc,.bool v2.hn,.slice v2.ha v2.hN v2.hc,.int .i64 s.bits]) (by simp[results,Tryz.results173,go_sem,q0,q1,q2,q3,q4]) rfl ⟨lo1,hi2,l1,(zA HG1).1,⟨zA HO,zA HAB⟩,⟨v1.ln,v1.la,v1.lN,v1.lc,v2.hn,v2.ha,v2.hN,v2.hc,s.bits⟩,rfl,zA HB,?_,?_⟩
  ·exact SpAt.put5 (show SpAt _ (⟨v1.ln,v1.la,v1.lN,v1.lc,v2.hn,v2.ha,v2.hN,v2.hc,s.bits⟩:Sp) _ lo1 hi2 from ⟨hZ1.lo,hZ2.hi⟩) q0 q1 q2 q3 q4 _ _ _ _ _
  ·exact jV (zB hBW hD2) (Nat.le_succ _) _ _ _ _ _
theorem zJQ (w:World) (x:Nm) (B J:Nat) (p q Y:Int) (hx:IntAt w x.neg x.a x.n x.cap 100 Y) (hB:B≤300) (hY:0<Y) (hYb:Y<Q (B+20)) (hJ1:Q B≤Y*Q J) (hJ2:Y<Q B*Q (J+1)) (hJ:J≤1000) (hp:0<p) (hq:0<q) (hp2:p≤1048576) (hq2:q≤1048576) :
  Calls Tryz.prog 136 #[.agg #[.bool x.neg,.slice x.a x.n x.cap],.agg #[.int .i64 p,.int .i64 q],.int .i64 B] w (fun r w'=>∃ (lo hi:Int) (l:Nat→Rat),Ex.IsLog l (fun _=>(Y:Rat)/(Q B:Rat))∧(Iv (B+64) (lo,hi) l∧Abs (lo,hi) (3*((J:Int)+1)*Q (B+64)))∧zH w ((B+64:Nat):Int) 60 (byI (lo,hi) p q).1 (byI (lo,hi) p q).2 r w'):=by
 obtain ⟨W,hW⟩:∃ W,W=((w.alloc (.cells #[.bool x.neg,.slice x.a x.n x.cap] 26)).alloc (.cells #[.int .i64 p,.int .i64 q] 23)).alloc (.cells #[.bool false,.slice none 0 0,.bool false,.slice none 0 0,.int .i64 0] 36):=⟨_,rfl⟩;have hBW:Below w.heap.size w W:=by rw[hW];exact bl3 _ _ _ _
 have A:NmC W w.heap.size x:=by rw[hW];constructor <;> simp[go_sem]
 have D:RaC W (w.heap.size+1) p q:=by rw[hW];constructor <;> simp[go_sem]
 have R:NoC W (w.heap.size+1+1):=by rw[hW];constructor <;> simp[go_sem]
 have HX:=zC (hx.bw hBW);have lA:=A.lt;have lD:=D.lt;have lR:=R.lt;have HK:=zC (show ∀ w',Below W.heap.size W w'→(w'.cell? ⟨w.heap.size,0,none⟩=some (.bool x.neg)∧w'.cell? ⟨w.heap.size,1,none⟩=some (.slice x.a x.n x.cap)∧w'.cell? ⟨w.heap.size+1,0,none⟩=some (.int .i64 p)∧w'.cell? ⟨w.heap.size+1,1,none⟩=some (.int .i64 q)) from fun w' hB=>⟨(A.bw hB).c0,(A.bw hB).c1,(D.bw hB).c0,(D.bw hB).c1⟩)
 have H64:=zC (lp_facts (J:=J) hB hY hYb hJ1 hJ2);have HE:=zC (show IntKind.i64.wrap ((B:Int)+64)=((B+64:Nat):Int) from (jO _ (by omega) (by omega)).trans (by omega))
 have HE2:=zC (show ((B:Int)+64)=((B+64:Nat):Int) by omega)
 clear hx A D hJ1 hJ2 hYb
 go_enter Tryz.func136,Tryz.ntmps136
 go_wp2_with fail;rw[← hW];clear hW;have n1:w.heap.size+1+1≠w.heap.size:=by omega
 have n2:w.heap.size+1+1≠w.heap.size+1:=by omega
 obtain ⟨x0,x1,x2,x3⟩:=zA HK _ (Below.refl _ _);have hD0:Below W.heap.size W W.drew:=(Below.refl _ _).drew
 go_region_held3 (fun w'=>w'.cell? ⟨w.heap.size,0,none⟩=some (.bool x.neg)∧w'.cell? ⟨w.heap.size,1,none⟩=some (.slice x.a x.n x.cap)∧w'.cell? ⟨w.heap.size+1,0,none⟩=some (.int .i64 p)∧w'.cell? ⟨w.heap.size+1,1,none⟩=some (.int .i64 q)) (first|exact zA HK _ (by with_reducible first|exact hD0|exact hD8|exact hD7|exact hD6|exact hD5|exact hD4|exact hD3|exact hD2|exact hD1)|go_keep)
  (first
   | (go_at_call 56;have hqq:=hD7;refine (zEA _ v5 ⟨neg6,a6,n6,c6⟩ ⟨neg7,a7,n7,c7⟩ 40 4 4 (B+64) (lo,hi) p q (((hZ5.bw hb6).bw hb7).mono (by omega)) (hZ6.bw hb7) hZ7 (by omega) (by omega) (by omega) hq (zA HB5)).mono ?_;rintro r' w8 ⟨v8,rfl,hvb8,hZ8,hb8⟩;have hD8:=zB hD7 hb8;have HB8:=zC hvb8;clear hvb8;obtain ⟨q0,q1,q2,q3,q4,q5⟩:=R.bw hD8)
   | (go_at_call 43;have hqq:=hD6;refine (zD q _ (by omega) (by omega)).mono ?_;rintro r' w7 ⟨neg7,a7,n7,c7,rfl,hZ7,hb7⟩;have hD7:=zB hD6 hb7)
   | (go_at_call 43;have hqq:=hD5;refine (zD p _ (by omega) (by omega)).mono ?_;rintro r' w6 ⟨neg6,a6,n6,c6,rfl,hZ6,hb6⟩;have hD6:=zB hD5 hb6)
   | (go_at_call 173;have hqq:=hD4;(first|rw[zA HE]|rw[zA HE2]|skip);refine (refLogOf _ ⟨neg2,a2,n2',c2,neg4,a4,n4',c4,((B+64:Nat):Int)⟩ 120 (B+64) J (Y*Q 64) ⟨((hZ2.bw hb3).bw hb4).mono (by omega),hZ4.mono (by omega)⟩ rfl (by omega) (by omega) (by omega) (zA H64).1 (zA H64).2.1 (zA H64).2.2.1 (zA H64).2.2.2.1 (zA H64).2.2.2.2.1 hJ).mono ?_;rintro r' w5 ⟨lo,hi,l,gl,il,v5,rfl,hvb5,hZ5,hb5⟩;have hD5:=zB hD4 hb5;have HB5:=zC hvb5;have HGL:=zC (And.intro gl il);clear hvb5 gl il)
   | (go_at_call 66;have hqq:=hD3;refine (zX _ _ _ _ _ _ _ _ 100 (64/16+8) Y (Q 64) _ ((zA HX).bw hD3) hZ3 (by omega) (by omega)).mono ?_;rintro r' w4 ⟨neg4,a4,n4',c4,rfl,hZ4,hb4⟩;have hD4:=zB hD3 hb4)
   | (go_at_call 104;have hqq:=hD2;refine (zCP (e:=64) 64 rfl _ (by omega)).mono ?_;rintro r' w3 ⟨neg3,a3,n3',c3,rfl,hZ3,hb3⟩;have hD3:=zB hD2 hb3)
   | (go_at_call 66;have hqq:=hD1;refine (zX _ _ _ _ _ _ _ _ 100 (64/16+8) Y (Q 64) _ ((zA HX).bw hD1) hZ1 (by omega) (by omega)).mono ?_;rintro r' w2 ⟨neg2,a2,n2',c2,rfl,hZ2,hb2⟩;have hD2:=zB hD1 hb2)
   | (go_at_call 104;refine (zCP (e:=64) 64 rfl _ (by omega)).mono ?_;rintro r' w1 ⟨neg1,a1,n1',c1,rfl,hZ1,hb1⟩;have hD1:=zB hD0 hb1))
 all_goals
  have HGF:=zC (lp_log (zA HGL).1);go_wp2_with fail;refine bodyPost_ret (v:=.agg #[.bool v8.ln,.slice v8.la v8.lN v8.lc,.bool v8.hn,.slice v8.ha v8.hN v8.hc,.int .i64 v8.bits]) (by simp[results,Tryz.results136,go_sem,q0,q1,q2,q3,q4]) rfl ⟨lo,hi,l,zA HGF,(zA HGL).2,v8,rfl,zA HB8,?_,?_⟩
  ·exact SpAt.put5 (hZ8.mono (by omega)) q0 q1 q2 q3 q4 _ _ _ _ _
  ·exact jV (zB hBW hD8) (by omega) _ _ _ _ _
theorem wh_ab {B:Nat} {x c:Int} (h1 : -(c*Q B)≤x) (h2:x≤c*Q B):wh x B≤c:=by
 have q:=zG B;unfold wh;split
 ·exact Int.ediv_le_of_le_mul (by omega) h2
 ·exact Int.ediv_le_of_le_mul (by omega) (by omega)
theorem Iv.up {B:Nat} {a:Int × Int} {x:Nat→Rat} (h:Iv B a x) (i:Nat):Iv (B+i) (a.1*Q i,a.2*Q i) x:=by
 have q:=zV B;have qi:=zV i;have q2:=zV (B+i);have e1:(Q (B+i):Rat)=(Q B:Rat)*(Q i:Rat):=by rw[jC,Rat.intCast_mul]
 have e:∀ z:Int,((z*Q i:Int):Rat)/(Q (B+i):Rat)=(z:Rat)/(Q B:Rat):=fun z=>by
  have a:=rdm (a:=((z*Q i:Int):Rat)) q2;have b:=rdm (a:=(z:Rat)) q;refine zU (c:=(Q (B+i):Rat)) q2 ?_;have r1:(Q (B+i):Rat)*(((z*Q i:Int):Rat)/(Q (B+i):Rat))=((z*Q i:Int):Rat)/(Q (B+i):Rat)*(Q (B+i):Rat):=by grind
  rw[r1,a,e1,Rat.intCast_mul];have r2:(Q B:Rat)*(Q i:Rat)*((z:Rat)/(Q B:Rat))=(z:Rat)/(Q B:Rat)*(Q B:Rat)*(Q i:Rat):=by grind
  rw[r2,b]
 show Has (((a.1*Q i:Int):Rat)/(Q (B+i):Rat)) (((a.2*Q i:Int):Rat)/(Q (B+i):Rat)) x
 rw[e,e];exact h
theorem wh_up {B i:Nat} {x c:Int} (h1 : -(c*Q B)≤x) (h2:x≤c*Q B):wh (x*Q i) (B+i)≤c:=by
 have qi:=zG i;have qB:=zG B;have e:Q (B+i)=Q B*Q i:=jC B i;refine wh_ab (B:=B+i) ?_ ?_
 ·have m:=Int.mul_le_mul_of_nonneg_right h1 (show 0≤Q i by omega)
  have r : -(c*Q B)*Q i = -(c*Q (B+i)):=by rw[e];grind
  omega
 ·have m:=Int.mul_le_mul_of_nonneg_right h2 (show 0≤Q i by omega)
  have r:c*Q B*Q i=c*Q (B+i):=by rw[e];grind
  omega
theorem down_at {K:Nat} (z:Int) (hz:z=(K:Int)) (neg:Bool) (a:Option Addr) (n cap k1:Nat) (x:Int) (w:World) (h1:IntAt w neg a n cap k1 x) (hk1:k1≤1000000000) (hk:K≤1000000000) :
  Calls Tryz.prog 105 #[.agg #[.bool neg,.slice a n cap],.int .i64 z] w fun r w' =>
   ∃ neg' a' n' cap',r=.returned (.agg #[.bool neg',.slice a' n' cap'])∧IntAt w' neg' a' n' cap' (k1+5) (x/Q K)∧Below w.heap.size w w':=by
 subst hz;exact zA2 neg a n cap K k1 x w h1 hk1 hk
theorem zI1 {e K:Nat} (h:e+1≤16*K):Q e<P K:=by
 rw[← Q_P];have g1:=zJ h;have g2:Q (e+1)=2*Q e:=rfl;have g3:=zG e;omega
theorem ew_fit {B i:Nat} (hB:B≤1000) (hi:i≤182016):Q (B+i+40+4*(2*91000+1)+20)<P 200000:=zI1 (by omega)
theorem zMK (w:World) (s:Sp) (k B:Nat) (lo hi:Int) (y:Nat→Rat) (hs:SpAt w s k lo hi) (hbits:s.bits=(B:Int)) (hk:k≤100000) (hB0:20≤B) (hB:B≤1000) (hy:Iv B (lo,hi) y) (ha:Abs (lo,hi) (91000*Q B)) :
  Calls Tryz.prog 137 #[.agg #[.bool s.ln,.slice s.la s.lN s.lc,.bool s.hn,.slice s.ha s.hN s.hc,.int .i64 s.bits]] w (fun r w'=>∃ (i:Nat) (lo hi:Int),i≤2*91000+16∧Iv (B+i) (lo,hi) (Ev y)∧zH w ((B+i:Nat):Int) 200000 lo hi r w'):=by
 obtain ⟨W,hW⟩:∃ W,W=(w.alloc (.cells #[.bool s.ln,.slice s.la s.lN s.lc,.bool s.hn,.slice s.ha s.hN s.hc,.int .i64 s.bits] 36)).alloc (.cells #[.bool false,.slice none 0 0,.bool false,.slice none 0 0,.int .i64 0] 36):=⟨_,rfl⟩;have hBW:Below w.heap.size w W:=by rw[hW];exact bl2 _ _ _
 have A:SpC W w.heap.size s:=by rw[hW];constructor <;> simp[go_sem]
 have R:NoC W (w.heap.size+1):=by rw[hW];constructor <;> simp[go_sem]
 have HS:=zC (hs.bw hBW);have HB:=zC hbits;have HY:=zC (And.intro hy ha);have lA:=A.lt;have lR:=R.lt;have a0:=A.c0;have a1:=A.c1;have a4:=A.c4;have qB:=zG B;clear hs hbits hy ha
 go_enter Tryz.func137,Tryz.ntmps137
 go_wp2_with fail;rw[← hW];clear hW a0 a1 a4;have hbv:=zA HB;refine (jZ _ _ _ _ _ lo _ (zA HS).lo).mono ?_;rintro r w1 ⟨rfl,hb1⟩;replace A:=A.bw hb1;replace R:=R.bw hb1;replace hBW:=zB hBW hb1;replace HS:=zC ((zA HS).bw hb1);clear hb1 lA lR
 by_cases h0:lo<0
 ·have hc:zF lo 0 = -1:=by unfold zF;rw[if_pos h0]
  rw[hc];clear hc;obtain ⟨v,hv⟩:∃ v:Nat,(v:Int) = -lo/Q B:=⟨(-lo/Q B).toNat,by have:=Int.ediv_nonneg (show 0 ≤ -lo by omega) (show 0≤Q B by omega);omega⟩
  have hvc:v≤91000:=by
   have t:=(zA HY).2.1;simp only[] at t;have : -lo/Q B≤91000:=Int.ediv_le_of_le_mul (by omega) (by omega)
   omega
  have HV:=zC hv;have HE:=zC (show IntKind.i64.wrap (s.bits+(2*(v:Int)+16))=((B+(2*v+16):Nat):Int) by rw[hbv];exact (jO _ (by omega) (by omega)).trans (by omega))
  have HE1:=zC (show IntKind.i64.wrap (2*(v:Int)+16)=2*(v:Int)+16 from jO _ (by omega) (by omega))
  have HE0:=zC (show IntKind.i64.wrap (2*(v:Int))=2*(v:Int) from jO _ (by omega) (by omega))
  clear hv hbv;go_wp2_with fail
  go_cut [3] (fun bb wx=>bb=.int .i64 ((B+(2*v+16):Nat):Int)∧Below w1.heap.size w1 wx)
  case first =>
   have HK:=zC (show ∀ w',Below w1.heap.size w1 w'→(w'.cell? ⟨w.heap.size,0,none⟩=some (.bool s.ln)∧w'.cell? ⟨w.heap.size,1,none⟩=some (.slice s.la s.lN s.lc)∧w'.cell? ⟨w.heap.size,2,none⟩=some (.bool s.hn)∧w'.cell? ⟨w.heap.size,3,none⟩=some (.slice s.ha s.hN s.hc)∧w'.cell? ⟨w.heap.size,4,none⟩=some (.int .i64 s.bits)) from fun w' hB=>⟨(A.bw hB).c0,(A.bw hB).c1,(A.bw hB).c2,(A.bw hB).c3,(A.bw hB).c4⟩)
   have hD0:Below w1.heap.size w1 w1.drew:=(Below.refl _ _).drew;have lA:=A.lt;obtain ⟨x0,x1,x2,x3,x4⟩:=zA HK _ (Below.refl _ _)
   go_region_held3 (fun w'=>w'.cell? ⟨w.heap.size,0,none⟩=some (.bool s.ln)∧w'.cell? ⟨w.heap.size,1,none⟩=some (.slice s.la s.lN s.lc)∧w'.cell? ⟨w.heap.size,2,none⟩=some (.bool s.hn)∧w'.cell? ⟨w.heap.size,3,none⟩=some (.slice s.ha s.hN s.hc)∧w'.cell? ⟨w.heap.size,4,none⟩=some (.int .i64 s.bits)) (first|exact zA HK _ (by with_reducible first|exact hD0|exact hD3|exact hD2|exact hD1)|go_keep)
    (first
     | (go_at_call 134;have hqq:=hD2;refine (zKM _ ⟨neg3,a3,n3,c3⟩ (k+5) (v:Int) (by rw[zA HV];exact hZ3) (by omega) (by omega)).mono ?_;rintro r' w4 ⟨rfl,hb4⟩;have hD3:=zB hD2 hb4)
     | (go_at_call 105;have hqq:=hD1;refine (down_at (K:=B) s.bits (zA HB) _ _ _ _ k (-lo) _ hZ2 (by omega) (by omega)).mono ?_;rintro r' w3 ⟨neg3,a3,n3,c3,rfl,hZ3,hb3⟩;have hD2:=zB hD1 hb3)
     | (go_at_call 103;refine (jY _ _ _ _ k lo _ ((zA HS).lo.bw hD0) (by omega)).mono ?_;rintro r' w2 ⟨neg2,a2,n2,c2,rfl,hZ2,hb2⟩;have hD1:=zB hD0 hb2))
   all_goals
    go_wp2_with fail;go_meet;refine ⟨?_,hD3⟩
    first|rw[zA HE0,zA HE1,zA HE]|rw[zA HE1,zA HE]|rw[zA HE]|(have hbv:=zA HB;rw[hbv];congr 1;omega)
  case rest =>
  obtain ⟨rfl,hbc⟩:=hcut;obtain ⟨V3,h3x⟩:∃ V,V=wc:=⟨_,rfl⟩;subst h3x;replace A:=A.bw hbc;replace R:=R.bw hbc;replace hBW:=zB hBW hbc;replace HS:=zC ((zA HS).bw hbc);have lA:=A.lt;obtain ⟨x0,x1,x2,x3,x4⟩:=A;clear hbc HE HE1 HE0;go_wp2_with fail;refine (kY _ s k (((B+(2*v+16):Nat):Int)) lo hi (zA HS) (by omega) (by have:=zA HB;omega) (by have:=zA HB;omega) (by omega) (by omega)).mono ?_
  rintro r wt ⟨vt,rfl,hvbt,hZt,hbt⟩;rw[zA HB,zCK _ _ _ (2*v+16) (by omega),zB0 _ _ _ (2*v+16) (by omega)] at hZt
  have HBT:=zC hvbt;have HPT:=zC hZt;replace R:=R.bw hbt;replace hBW:=zB hBW hbt;clear hvbt hZt hbt;have HQK:=zC (ew_fit (B:=B) (i:=(2*v+16)) (by omega) (by omega))
  go_wp2_with fail;refine (zEU _ vt (k+62505) (B+(2*v+16)) 200000 91000 (lo*Q (2*v+16),hi*Q (2*v+16)) y (zA HY).1.bdd (zA HPT) (zA HBT) ((zA HY).1.up (2*v+16)) (wh_up (zA HY).2.1 (zA HY).2.2.1) (wh_up (zA HY).2.2.2.1 (zA HY).2.2.2.2) (by omega) (by omega) (by omega) (zA HQK) (by omega) (by omega) (by omega)).mono ?_
  rintro r we ⟨o,io,_,ve,rfl,hvbe,hZe,hbe⟩;have HIO:=zC io;have HBE:=zC hvbe;have lR:=R.lt;obtain ⟨q0,q1,q2,q3,q4,q5⟩:=R.bw hbe;replace hBW:=zB hBW hbe;clear io hvbe hbe;go_wp2_with fail;refine bodyPost_ret (v:=.agg #[.bool ve.ln,.slice ve.la ve.lN ve.lc,.bool ve.hn,.slice ve.ha ve.hN ve.hc,.int .i64 ve.bits]) (by simp[results,Tryz.results137,go_sem,q0,q1,q2,q3,q4]) rfl ⟨(2*v+16),o.1,o.2,by omega,zA HIO,ve,rfl,zA HBE,?_,?_⟩
  ·exact SpAt.put5 hZe q0 q1 q2 q3 q4 _ _ _ _ _
  ·exact jV hBW (by omega) _ _ _ _ _
 ·obtain ⟨cc,hc0,hc⟩:∃ cc:Int,0≤cc∧zF lo 0=cc:=⟨_,by unfold zF;rw[if_neg h0];split <;> omega,rfl⟩
  rw[hc];clear hc;have lA:=A.lt;obtain ⟨x0,x1,x2,x3,x4⟩:=A;have hz0:s.bits=((B+0:Nat):Int):=by rw[hbv];omega
  have HZ0:=zC hz0;clear hbv hz0;go_wp2_with fail;refine (kY _ s k s.bits lo hi (zA HS) (by omega) (by have:=zA HB;omega) (by have:=zA HB;omega) (by have:=zA HB;omega) (by have:=zA HB;omega)).mono ?_
  rintro r wt ⟨vt,rfl,hvbt,hZt,hbt⟩;rw[zCK _ _ _ 0 (by omega),zB0 _ _ _ 0 (by omega)] at hZt
  have HBT:=zC (hvbt.trans (zA HZ0));have HPT:=zC hZt;replace R:=R.bw hbt;replace hBW:=zB hBW hbt;clear hvbt hZt hbt;have HQK:=zC (ew_fit (B:=B) (i:=0) (by omega) (by omega))
  go_wp2_with fail;refine (zEU _ vt (k+62505) (B+0) 200000 91000 (lo*Q 0,hi*Q 0) y (zA HY).1.bdd (zA HPT) (zA HBT) ((zA HY).1.up 0) (wh_up (zA HY).2.1 (zA HY).2.2.1) (wh_up (zA HY).2.2.2.1 (zA HY).2.2.2.2) (by omega) (by omega) (by omega) (zA HQK) (by omega) (by omega) (by omega)).mono ?_
  rintro r we ⟨o,io,_,ve,rfl,hvbe,hZe,hbe⟩;have HIO:=zC io;have HBE:=zC hvbe;have lR:=R.lt;obtain ⟨q0,q1,q2,q3,q4,q5⟩:=R.bw hbe;replace hBW:=zB hBW hbe;clear io hvbe hbe;go_wp2_with fail;refine bodyPost_ret (v:=.agg #[.bool ve.ln,.slice ve.la ve.lN ve.lc,.bool ve.hn,.slice ve.ha ve.hN ve.hc,.int .i64 ve.bits]) (by simp[results,Tryz.results137,go_sem,q0,q1,q2,q3,q4]) rfl ⟨0,o.1,o.2,by omega,zA HIO,ve,rfl,zA HBE,?_,?_⟩
  ·exact SpAt.put5 hZe q0 q1 q2 q3 q4 _ _ _ _ _
  ·exact jV hBW (by omega) _ _ _ _ _
namespace Ex
def lw (L:Rat→Nat→Rat) (a x:Rat) (g:Nat→Rat) (M:Nat):Rat:=uG L a x M*(1/g M)
theorem zCR {g:Nat→Rat} (h:∃ c:Rat,0<c∧∃ N:Nat,∀ M,N≤M→c≤g M):Bdd (fun M=>1/g M)∧Nn (fun M=>1/g M)∧∃ N:Nat,∀ M,N≤M→g M*(1/g M)=1∧0<g M∧0≤1/g M:=by
 obtain ⟨c,c0,N,hc⟩:=h
 have one:∀ M,N≤M→g M*(1/g M)=1∧0<g M∧0≤1/g M:=fun M hM=>by
  have g0:0<g M:=by have:=hc M hM;grind
  have:=rdm (a:=1) g0;exact ⟨by grind,g0,kM g0 (by grind)⟩
 refine ⟨Bdd.of_le (1/c) N fun M hM=>?_,⟨N,fun M hM=>(one M hM).2.2⟩,N,one⟩
 obtain ⟨e1,e2,e3⟩:=one M hM;have ic:0≤1/c:=kM c0 (by grind)
 refine ⟨by grind,zA5 e2 ?_⟩
 have m:=Rat.mul_le_mul_of_nonneg_left (hc M hM) ic;have:=rdm (a:=1) c0;grind
theorem lw_bdd {L:Rat→Nat→Rat} (hL:Lns L) {a x:Rat} {g:Nat→Rat} (ha:0<a) (hx:0<x) (h:IsGam L a g):Bdd (lw L a x g):=(zN9 hL ha hx).mul (zCR h.pos).1
theorem lw_nn {L:Rat→Nat→Rat} (hL:Lns L) {a x:Rat} {g:Nat→Rat} (ha:0<a) (hx:0<x) (h:IsGam L a g):Nn (lw L a x g):=(uG_nn hL ha hx).mul (zCR h.pos).2.1
theorem zND {L:Rat→Nat→Rat} (hL:Lns L) {a x y:Rat} {g:Nat→Rat} (ha:0<a) (hx:0<x) (hxy:x≤y) (h:IsGam L a g):LeN (lw L a x g) (lw L a y g) :=
 (zI8 hL ha hx hxy).bmul (zCR h.pos).1 (zCR h.pos).2.1
theorem zLB {L:Rat→Nat→Rat} {a x:Rat} {g:Nat→Rat} (hx:0<x) (h:IsGam L a g):LeN (lw L a x g) (fun _=>1):=by
 obtain ⟨i1,i2,N,i3⟩:=zCR h.pos;exact ((h.lo x hx).bmul i1 i2).trans (LeN.of_le N fun M hM=>by have:=(i3 M hM).1;grind)
theorem lw_far {L:Rat→Nat→Rat} (hL:Lns L) {a x:Rat} {g:Nat→Rat} {k:Rat} (ha:0<a) (hx1:1≤x) (hx2:2*a≤x+2) (hk:0<k) (N0:Nat) (hs:∀ M,N0≤M→2*k≤x*uS a x M) (h:IsGam L a g):LeN (fun _=>1-1/k) (lw L a x g):=by
 have hx:0<x:=by grind
 obtain ⟨i1,i2,N,i3⟩:=zCR h.pos;have n1:=(zK4 hL hx a).bmul (zCG ha (Rat.le_of_lt hx));obtain ⟨N2,e2⟩:=zLO hL hx a
 have l1:LeN (fun M=>2*k*uE L a x M) (uG L a x):=by
  refine LeN.of_null n1 (N0+N2) fun M hM=>?_
  have u0:=e2 M (by omega)
  have m:=Rat.mul_le_mul_of_nonneg_right (hs M (by omega)) u0
  unfold uG;generalize uE L a x M=ue at *;generalize uS a x M=s at *;generalize pr L a x M=p at *;generalize ex (-x) M=y at *;grind
 have l2:=l1.trans (h.lo x hx);have l3:=h.hi x hx1 hx2;have ik:0≤1/k:=kM hk (by grind)
 have dk:=rdm (a:=1) hk
 have l4:LeN g (fun M=>uG L a x M+1/k*g M):=by
  refine l3.trans (LeN.trans ?_ ((LeN.refl (uG L a x)).add (l2.cmul ik)));refine LeN.of_le 0 fun M _=>?_
  generalize uE L a x M=ue;generalize uG L a x M=u;generalize 1/k=i at *;have:i*(2*k*ue)=2*(i*k*ue):=by grind
  rw[this,dk];grind
 have l5:=l4.bmul i1 i2;refine LeN.trans ?_ (LeN.trans (l5.add (LeN.refl (fun _ => -(1/k)))) ?_)
 ·refine LeN.of_le N fun M hM=>?_
  have:=(i3 M hM).1;grind
 ·refine LeN.of_le N fun M hM=>?_
  have:=(i3 M hM).1;unfold lw;generalize 1/g M=j at *;generalize uG L a x M=u at *;generalize 1/k=i at *;have:(u+i*g M)*j=u*j+i*(g M*j):=by grind
  rw[this,(show g M*j=1 by grind)]
  grind
theorem null_div {F l s:Nat→Rat} (hF:∃ c:Rat,0<c∧∃ N:Nat,∀ M,N≤M→c≤F M) (h:Null (fun M=>F M*l M-s M)):Null (fun M=>l M-s M/F M):=by
 obtain ⟨i1,i2,N,i3⟩:=zCR hF;refine (h.bmul i1).of_eq_from N fun M hM=>?_
 obtain ⟨e1,e2,e3⟩:=i3 M hM;have d:=rdm (a:=s M) e2;refine zU (c:=F M) e2 ?_;have r1:F M*(l M-s M/F M)=F M*l M-s M/F M*F M:=by grind
 have r2:F M*((F M*l M-s M)*(1/F M))=(F M*l M-s M)*(F M*(1/F M)):=by grind
 rw[r1,r2,d,e1];grind
def lwY (L:Rat→Nat→Rat) (a x:Rat) (X:Nat→Rat) (M:Nat):Rat:=x-a*L x M+X M
theorem zO7 {L:Rat→Nat→Rat} (hL:Lns L) {a x:Rat} (hx:0<x) {X g1:Nat→Rat} (hX:IsLog X g1):Bdd (lwY L a x X):=((Bdd.const x).sub (zAP hL hx a)).add hX.1
theorem zOE {L:Rat→Nat→Rat} (hL:Lns L) {a x:Rat} {g X:Nat→Rat} (ha:0<a) (hx:0<x) (h:IsGam L a g) (hX:IsLog X (fun M=>a*g M)):Null (fun M=>Ev (lwY L a x X) M*lw L a x g M-a*uS a x M):=by
 obtain ⟨i1,i2,N,i3⟩:=zCR h.pos;have by_:Bdd (fun M=>x-a*L x M):=(Bdd.const x).sub (zAP hL hx a)
 have n1:=(zA1 by_ hX.1).bmul (lw_bdd hL ha hx h);have n2:=(hX.2.bmul (zBG by_)).bmul (lw_bdd hL ha hx h);have n3:=(zNO hL ha hx).bmul ((zBG by_).mul (Bdd.const a));obtain ⟨c,c0,N2,hc⟩:=zC5 by_;refine (((n1.neg).add n2).add n3).of_eq_from (N+N2) fun M hM=>?_
 obtain ⟨e1,e2,e3⟩:=i3 M (by omega)
 have ep:0<Ev (fun M=>x-a*L x M) M:=by have:=hc M (by omega);grind
 have d:=rdm (a:=uS a x M) ep;have eY:Ev (lwY L a x X) M=Ev (fun M=>x-a*L x M+X M) M:=rfl
 dsimp only
 rw[eY];unfold lw;generalize Ev (fun M=>x-a*L x M+X M) M=v at *
 generalize Ev (fun M=>x-a*L x M) M=y at *
 generalize Ev X M=xx at *;generalize uG L a x M=u at *;generalize uS a x M=s at *;generalize 1/g M=j at *;generalize s/y=t at *;generalize g M=gg at *;clear n1 n2 n3 i1 i2 i3 h hX hc;have r1:y*(a*gg)*(u*j)=a*y*u*(gg*j):=by grind
 have r2:a*(t*y)=a*s:=by rw[d]
 rw[e1] at r1;grind
theorem lw_quot {L:Rat→Nat→Rat} (hL:Lns L) {a x:Rat} {g X:Nat→Rat} (ha:0<a) (hx:0<x) (h:IsGam L a g) (hX:IsLog X (fun M=>a*g M)):Null (fun M=>lw L a x g M-a*uS a x M/Ev (lwY L a x X) M) :=
 null_div (zC5 (zO7 hL hx hX)) (zOE hL ha hx h hX)
theorem zMG {L:Rat→Nat→Rat} (hL:Lns L) {a x:Rat} {g X:Nat→Rat} (ha:0<a) (hx:0<x) (h:IsGam L a g) (hX:IsLog X (fun M=>a*g M)):LeN (fun _=>0) (lwY L a x X):=by
 have bY:=zO7 (a:=a) hL hx hX
 have l1:LeN (fun M=>a*uS a x M) (Ev (lwY L a x X)):=by
  refine (LeN.of_eqN (Null.symm (zOE hL ha hx h hX))).trans ?_;have l:=(zLB hx h).bmul (zBG bY) (Ev_nn bY);exact LeN.trans (LeN.of_le 0 fun M _=>by grind) (l.trans (LeN.of_le 0 fun M _=>by grind))
 have l2:LeN (fun _=>1) (Ev (lwY L a x X)):=by
  refine LeN.trans (LeN.of_le 1 fun M hM=>?_) l1
  obtain ⟨m,rfl⟩:∃ m,M=m+1:=⟨M-1,by omega⟩
  have f:=zGL ha (Rat.le_of_lt hx) m;have k:=Rat.mul_le_mul_of_nonneg_left f (Rat.le_of_lt ha);have d:=rdm (a:=1) ha;grind
 obtain ⟨z,hz,kz⟩:=l2.null
 intro e he
 exact zOC (Bdd.const 0) bY hz 1 (fun M hM=>by
  obtain ⟨m,rfl⟩:∃ m,M=m+1:=⟨M-1,by omega⟩
  have e0:Ev (fun _=>(0:Rat)) (m+1)=1:=zA9 m
  rw[e0];exact kz (m+1)) e he
end Ex
open Ex
namespace Ex
def vL (a x:Rat) (n:Nat):Rat:=tm x n/(a+(n:Rat))
def tF (a x:Rat) (M:Nat):Rat:=S (fun k=>sg k*vL a x k) M
theorem zK9 {a:Rat} (ha:0<a) (n:Nat):0<a+(n:Rat):=by
 have:(0:Rat)≤(n:Rat):=by exact_mod_cast Nat.zero_le n
 grind
theorem zFD {a:Rat} (ha:0<a) (x:Rat) (n:Nat):(a+(n:Rat))*vL a x n=tm x n:=by
 have:=rdm (a:=tm x n) (zK9 ha n);unfold vL;grind
theorem zHW {a x:Rat} (ha:0<a) (hx:0≤x) (n:Nat):0≤vL a x n:=kM (zK9 ha n) (by have:=kT hx n;grind)
theorem tm_neg (x:Rat) (n:Nat):tm (-x) n=sg n*tm x n:=by
 induction n with
 | zero=>show (1:Rat)=1*1;grind
 | succ n ih =>
  have h1:=kB (-x) n;have h2:=kB x n;have p:=zCD n;refine zU (c:=(n:Rat)+1) p ?_;have e:sg (n+1) = -sg n:=rfl;rw[h1,ih,e];have:((n:Rat)+1)*(-sg n*tm x (n+1)) = -sg n*(((n:Rat)+1)*tm x (n+1)):=by grind
  rw[this,h2];grind
theorem tF_next {a:Rat} (ha:0<a) (x:Rat) (M:Nat):a*tF a x (M+1)=E (-x) (M+1)+x*tF (a+1) x M:=by
 induction M with
 | zero =>
  show a*(0+sg 0*vL a x 0)=0+tm (-x) 0+x*0
  have v:=zFD ha x 0;have e:sg 0=1:=rfl;have t:tm (-x) 0=1:=rfl;have t2:tm x 0=1:=rfl;have c:((0:Nat):Rat)=0:=rfl;rw[t2,c] at v;rw[e,t];grind
 | succ M ih =>
  have e1:tF a x (M+1+1)=tF a x (M+1)+sg (M+1)*vL a x (M+1):=rfl;have e2:E (-x) (M+1+1)=E (-x) (M+1)+tm (-x) (M+1):=rfl;have e3:tF (a+1) x (M+1)=tF (a+1) x M+sg M*vL (a+1) x M:=rfl;rw[e1,e2,e3,tm_neg];have v1:=zFD ha x (M+1);have v2:=zFD (show 0<a+1 by grind) x M
  have t:=kB x M;have s:sg (M+1) = -sg M:=rfl;have c:((M+1:Nat):Rat)=(M:Rat)+1:=by push_cast;rfl
  rw[c] at v1;have pp:=zK9 (show 0<a+1 by grind) M
  have k:((M:Rat)+1)*vL a x (M+1)=x*vL (a+1) x M:=by
   refine zU (c:=a+1+(M:Rat)) pp ?_;have r1:(a+1+(M:Rat))*(((M:Rat)+1)*vL a x (M+1))=((M:Rat)+1)*((a+((M:Rat)+1))*vL a x (M+1)):=by grind
   have r2:(a+1+(M:Rat))*(x*vL (a+1) x M)=x*((a+1+(M:Rat))*vL (a+1) x M):=by grind
   rw[r1,r2,v1,v2,t]
  have r3:a*vL a x (M+1)=tm x (M+1)-x*vL (a+1) x M:=by rw[← v1,← k];grind
  have r4:a*(tF a x (M+1)+sg (M+1)*vL a x (M+1))=a*tF a x (M+1)+sg (M+1)*(a*vL a x (M+1)):=by grind
  rw[r4,ih,r3,s];grind
theorem tF_AB {a x K:Rat} (ha:0<a) (hx:0≤x) (hK:∀ M,E x M≤K) (M:Nat):AB (a*tF a x M) K:=by
 have key:∀ m,AB (a*tF a x m) (E x m):=fun m=>by
  induction m with
  | zero=>show AB (a*0) 0;constructor <;> grind
  | succ m ih =>
   have e1:tF a x (m+1)=tF a x m+sg m*vL a x m:=rfl;have e2:E x (m+1)=E x m+tm x m:=rfl;have v:=zFD ha x m;have v0:=zHW ha hx m;have m0:(0:Rat)≤(m:Rat):=by exact_mod_cast Nat.zero_le m
   have mv:=Rat.mul_nonneg m0 v0;have av:=Rat.mul_nonneg (Rat.le_of_lt ha) v0;obtain ⟨h1,h2⟩:=ih;rw[e1,e2]
   rcases sg_one m with s|s
   ·rw[s];constructor <;> grind
   ·rw[s];constructor <;> grind
 exact (key M).mono (hK M)
def dF (a x:Rat) (M:Nat):Rat:=tF a x M-ex (-x) M*uS a x M
theorem zOJ {a x:Rat} (ha:0<a) (hx:0≤x):Null (fun M=>a*dF a x (M+1)-x*dF (a+1) x M):=by
 obtain ⟨K,k0,hK⟩:=zMF (-x)
 have tn:Null (tm (-x)):=(zA6 K k0).of_le 1 fun M hM=>(hK M).mono (by
  have m1:(1:Rat)≤(M:Rat):=by exact_mod_cast hM
  have:=Rat.mul_le_mul_of_nonneg_left m1 (Rat.mul_nonneg k0 (Rat.le_of_lt (yI M)))
  grind)
 have n:=(tn.bmul (zCG (show 0<a+1 by grind) hx)).bmul (Bdd.const (-x))
 refine n.of_eq fun M=>?_
 have t:=tF_next ha x M;have u:=zOK ha x M;have e:ex (-x) (M+1)=ex (-x) M+tm (-x) M:=rfl;have e2:E (-x) (M+1)=ex (-x) (M+1):=rfl;unfold dF;have r:a*(tF a x (M+1)-ex (-x) (M+1)*uS a x (M+1))=a*tF a x (M+1)-ex (-x) (M+1)*(a*uS a x (M+1)):=by grind
 rw[r,t,u,e2,e];generalize tF (a+1) x M=y1;generalize uS (a+1) x M=y2;generalize ex (-x) M=y3;generalize tm (-x) M=y4;grind
theorem E_all (x:Rat):∃ K,0≤K∧∀ M,AB (E x M) K:=by
 obtain ⟨K,k0,h⟩:=zET (if 0≤x then x else -x)
 refine ⟨K,k0,fun M=>h M x ?_⟩
 split <;> constructor <;> grind
theorem dF_bd {x:Rat} (hx:0≤x):∃ C,0≤C∧∀ a M,0<a→AB (a*dF a x M) C:=by
 obtain ⟨K,k0,hK⟩:=E_all x;obtain ⟨J,j0,hJ⟩:=E_all (-x);have JK:=Rat.mul_nonneg j0 k0;refine ⟨K+J*K,by grind,fun a M ha=>?_⟩
 have t:=tF_AB ha hx (fun M=>(hK M).2) M
 have u:=uS_E ha hx M;have u0:=Rat.mul_nonneg (Rat.le_of_lt ha) (zA7 ha hx M);have uK:a*uS a x M≤K:=Rat.le_trans u (hK M).2;have j:AB (ex (-x) M) J:=hJ M
 have pr:AB (ex (-x) M*(a*uS a x M)) (J*K):=by
  obtain ⟨g1,g2⟩:=j;have m1:=Rat.mul_le_mul_of_nonneg_right g2 u0;have m2:=Rat.mul_le_mul_of_nonneg_right g1 u0;have m3:=Rat.mul_le_mul_of_nonneg_left uK j0;constructor <;> grind
 have r:a*dF a x M=a*tF a x M-ex (-x) M*(a*uS a x M):=by unfold dF;grind
 rw[r];exact t.sub pr
def aQ (f:Nat→Rat) (M:Nat):Rat:=if 0≤f M then f M else -f M
theorem aQ_AB (f:Nat→Rat) (M:Nat):AB (f M) (aQ f M):=by unfold aQ;split <;> constructor <;> grind
theorem zMR {f:Nat→Rat} (h:Null f):Null (aQ f):=fun e he=>by
 obtain ⟨N,hN⟩:=h e he;refine ⟨N,fun M hM=>?_⟩
 obtain ⟨h1,h2⟩:=hN M hM;unfold aQ;split <;> constructor <;> grind
theorem dF_step {x:Rat} (hx:0≤x) (k:Nat):∀ {a:Rat},0<a→∃ z,Null z∧∀ M,AB (dF a x (M+(k+1))-x*upT a x k*dF (a+((k:Rat)+1)) x M) (z M):=by
 induction k with
 | zero =>
  intro a ha
  have n:=(zOJ ha hx).bmul (Bdd.const (1/a));have d:=rdm (a:=1) ha;have u:=yK ha x;obtain ⟨f,hf⟩:∃ f:Nat→Rat,f=fun M=>(a*dF a x (M+1)-x*dF (a+1) x M)*(1/a):=⟨_,rfl⟩
  rw[← hf] at n;refine ⟨aQ f,zMR n,fun M=>?_⟩
  have c:a+(((0:Nat):Rat)+1)=a+1:=by have:((0:Nat):Rat)=0:=rfl;rw[this];grind
  rw[c]
  have e:dF a x (M+(0+1))-x*upT a x 0*dF (a+1) x M=f M:=by
   have fm:f M=(a*dF a x (M+1)-x*dF (a+1) x M)*(1/a):=by rw[hf]
   have e0:upT a x 0=1/a:=by
    refine zU ha ?_;rw[u];grind
   rw[fm,e0];generalize 1/a=i at *;have:(a*dF a x (M+1)-x*dF (a+1) x M)*i=i*a*dF a x (M+1)-x*i*dF (a+1) x M:=by grind
   rw[this,d]
   show dF a x (M+1)-_=_
   grind
  rw[e];exact aQ_AB f M
 | succ k ih =>
  intro a ha
  obtain ⟨z1,hz1,k1⟩:=ih ha;have ha':0<a+((k:Rat)+1):=zDG ha k;have n:=zOJ ha' hx;have u:=kD ha x k;have c:a+((k:Rat)+1)+1=a+(((k+1:Nat):Rat)+1):=by push_cast;grind
  rw[c] at n;have n2:=n.bmul (Bdd.const (x*upT a x k*(1/(a+((k:Rat)+1)))));have d:=rdm (a:=1) ha';obtain ⟨i,hi⟩:∃ i,i=1/(a+((k:Rat)+1)):=⟨_,rfl⟩;rw[← hi] at n2 d
  have eu:upT a x (k+1)=x*upT a x k*i:=by
   refine zU ha' ?_;rw[u];have:(a+((k:Rat)+1))*(x*upT a x k*i)=x*upT a x k*(i*(a+((k:Rat)+1))):=by grind
   rw[this,d];grind
  have sh:Null (fun M=>z1 (M+1)):=fun e he=>by
   obtain ⟨N,hN⟩:=hz1 e he;exact ⟨N,fun M hM=>hN (M+1) (by omega)⟩
  obtain ⟨f,hf⟩:∃ f:Nat→Rat,f=fun M=>((a+((k:Rat)+1))*dF (a+((k:Rat)+1)) x (M+1)-x*dF (a+(((k+1:Nat):Rat)+1)) x M)*(x*upT a x k*i):=⟨_,rfl⟩
  rw[← hf] at n2;refine ⟨fun M=>z1 (M+1)+aQ f M,sh.add (zMR n2),fun M=>?_⟩
  have k1':=k1 (M+1);have e0:M+(k+1+1)=M+1+(k+1):=by omega
  have fm0:f M=((a+((k:Rat)+1))*dF (a+((k:Rat)+1)) x (M+1)-x*dF (a+(((k+1:Nat):Rat)+1)) x M)*(x*upT a x k*i):=by rw[hf]
  have fm:f M=x*upT a x k*dF (a+((k:Rat)+1)) x (M+1)-x*(x*upT a x k*i)*dF (a+(((k+1:Nat):Rat)+1)) x M:=by
   rw[fm0];have:((a+((k:Rat)+1))*dF (a+((k:Rat)+1)) x (M+1)-x*dF (a+(((k+1:Nat):Rat)+1)) x M)*(x*upT a x k*i)=x*upT a x k*(i*(a+((k:Rat)+1)))*dF (a+((k:Rat)+1)) x (M+1)-x*(x*upT a x k*i)*dF (a+(((k+1:Nat):Rat)+1)) x M:=by grind
   rw[this,d];grind
  have ab:=aQ_AB f M
  show AB (dF a x (M+(k+1+1))-x*upT a x (k+1)*dF (a+(((k+1:Nat):Rat)+1)) x M) (z1 (M+1)+aQ f M)
  rw[e0,eu];have t:=k1'.add ab;have e:dF a x (M+1+(k+1))-x*upT a x k*dF (a+((k:Rat)+1)) x (M+1)+f M=dF a x (M+1+(k+1))-x*(x*upT a x k*i)*dF (a+(((k+1:Nat):Rat)+1)) x M:=by rw[fm];grind
  rw[e] at t;exact t
theorem tF_eq {a x:Rat} (ha:0<a) (hx:0≤x):Null (fun M=>tF a x M-ex (-x) M*uS a x M):=by
 obtain ⟨C,C0,hC⟩:=dF_bd hx
 intro e he
 obtain ⟨i,hi⟩:∃ i,i=1/a:=⟨_,rfl⟩;have ia:i*a=1:=by rw[hi];exact rdm ha
 have i0:0≤i:=by rw[hi];exact kM ha (by grind)
 have D0:0≤x*C*i:=Rat.mul_nonneg (Rat.mul_nonneg hx C0) i0;obtain ⟨t,ht⟩:∃ t,t=e/2/(x*C*i+1):=⟨_,rfl⟩;have tD:t*(x*C*i+1)=e/2:=by rw[ht];exact rdm (by grind)
 have t0:0<t:=by rw[ht];exact zL (by grind) (by grind)
 obtain ⟨k,hk⟩:=zGT ha hx t t0;have uk:=(hk k (Nat.le_refl _)).2;have u0:=jL ha hx k;obtain ⟨z,hz,kz⟩:=dF_step hx k ha;obtain ⟨N,hN⟩:=hz (e/2) (by grind)
 refine ⟨N+(k+1),fun M hM=>?_⟩
 obtain ⟨m,rfl⟩:∃ m,M=m+(k+1):=⟨M-(k+1),by omega⟩
 have z2:=(hN m (by omega)).2
 obtain ⟨d1,d2⟩:=kz m;have ha':0<a+((k:Rat)+1):=zDG ha k;obtain ⟨c1,c2⟩:=hC (a+((k:Rat)+1)) m ha';obtain ⟨y,hy⟩:∃ y,y=dF (a+((k:Rat)+1)) x m:=⟨_,rfl⟩;rw[← hy] at c1 c2 d1 d2;have k0:(0:Rat)≤(k:Rat)+1:=Rat.le_of_lt (zCD k)
 have yb:AB y (C*i):=by
  have Ci:=Rat.mul_nonneg C0 i0;constructor
  ·refine Rat.not_lt.1 fun hlt=>?_
   have m1:=Rat.mul_lt_mul_of_pos_left (show y < -(C*i) by grind) ha'
   have m2:=Rat.mul_nonneg Ci k0;have r:(a+((k:Rat)+1)) * -(C*i) = -(C*(i*a))-C*i*((k:Rat)+1):=by grind
   rw[r,ia] at m1;grind
  ·refine Rat.not_lt.1 fun hlt=>?_
   have m1:=Rat.mul_lt_mul_of_pos_left hlt ha';have m2:=Rat.mul_nonneg Ci k0;have r:(a+((k:Rat)+1))*(C*i)=C*(i*a)+C*i*((k:Rat)+1):=by grind
   rw[r,ia] at m1;grind
 obtain ⟨y1,y2⟩:=yb;have xu:=Rat.mul_nonneg hx u0;have m3:=Rat.mul_le_mul_of_nonneg_left y2 xu;have m4:=Rat.mul_le_mul_of_nonneg_left y1 xu;have m5:=Rat.mul_le_mul_of_nonneg_right uk D0;have r5:x*upT a x k*(C*i)=upT a x k*(x*C*i):=by grind
 show AB (dF a x (m+(k+1))) e
 constructor <;> grind
end Ex
open Ex
structure SeOk (a:Int × Int) (u d:Nat→Int):Prop where
 ok:RiOk u d
 a0:0<a.1
 al:a.1≤a.2
 aw:a.2-a.1≤1
 mono:∀ n,d (n+2)≤u (n+2)→d (n+1)≤u (n+1)
theorem zBU {a:Int × Int} {u d:Nat→Int} (h:SeOk a u d) (k:Nat):0≤(riT a u d k).1∧(riT a u d k).1≤(riT a u d k).2:=⟨zCJ h.ok (by have:=h.a0;omega) k,zK3 h.ok h.al k⟩
theorem se_rise {a:Int × Int} {u d:Nat→Int} (h:SeOk a u d) (k:Nat) (hk:d (k+1)≤u (k+1)):a.2≤(riT a u d k).2:=by
 induction k with
 | zero=>exact Int.le_refl _
 | succ k ih =>
  have hk':=h.mono k hk;have i:=ih hk';obtain ⟨e1,e2⟩:=zBU h k;have p:=h.ok.d0 (k+1);have c:=zAW ((riT a u d k).2*u (k+1)) p;have m:=Int.mul_le_mul_of_nonneg_left hk' (show 0≤(riT a u d k).2 by omega)
  refine Int.le_trans i ?_;refine Int.le_of_mul_le_mul_right (a:=d (k+1)) ?_ p;exact Int.le_trans m c
theorem zKC {a:Int × Int} {u d:Nat→Int} (h:SeOk a u d) (k:Nat):((riT a u d k).2-(riT a u d k).1)*a.2≤(1+2*(k:Int))*((riT a u d k).2+a.2):=by
 have a0:=h.a0;have al:=h.al;obtain ⟨e1,e2⟩:=zBU h k;have w:=zLA h.ok (show 0≤a.1 by omega) al (by omega) h.aw (fun k hk=>se_rise h k hk) k
 refine Int.le_trans w (Int.mul_le_mul_of_nonneg_left ?_ (by omega))
 split <;> omega
theorem zLD {a:Int × Int} {u d:Nat→Int} (h:SeOk a u d) (k:Nat):((jG (riT a u d) k).2-(jG (riT a u d) k).1)*a.2≤(1+2*(k:Int))*((jG (riT a u d) k).2+((k:Int)+1)*a.2)∧a.2≤(jG (riT a u d) k).2∧a.1≤(jG (riT a u d) k).1:=by
 have a0:=h.a0;have al:=h.al;have a2:0≤a.2:=by omega
 induction k with
 | zero =>
  have w:=zKC h 0;refine ⟨?_,Int.le_refl _,Int.le_refl _⟩
  show ((riT a u d 0).2-(riT a u d 0).1)*a.2≤(1+2*((0:Nat):Int))*((riT a u d 0).2+(((0:Nat):Int)+1)*a.2)
  have e:((0:Nat):Int)=0:=rfl;rw[e] at w ⊢;generalize ((riT a u d 0).2-(riT a u d 0).1)*a.2=z at *;omega
 | succ k ih =>
  obtain ⟨i1,i3,i4⟩:=ih;have w:=zKC h (k+1);obtain ⟨e1,e2⟩:=zBU h (k+1);have es1:(jG (riT a u d) (k+1)).1=(jG (riT a u d) k).1+(riT a u d (k+1)).1:=rfl;have es2:(jG (riT a u d) (k+1)).2=(jG (riT a u d) k).2+(riT a u d (k+1)).2:=rfl;have ec:((k+1:Nat):Int)=(k:Int)+1:=by omega
  refine ⟨?_,by omega,by omega⟩
  rw[es1,es2];rw[ec] at w ⊢;generalize (jG (riT a u d) k).2=S2 at *;generalize (jG (riT a u d) k).1=S1 at *;generalize (riT a u d (k+1)).2=T2 at *;generalize (riT a u d (k+1)).1=T1 at *;generalize a.2=A at *;have k0:(0:Int)≤(k:Int):=by omega
  have m1:=Int.mul_nonneg k0 a2;have r0:((k:Int)+1)*A=(k:Int)*A+A:=by grind
  have m2:(1+2*(k:Int))*(S2+((k:Int)+1)*A)≤(1+2*((k:Int)+1))*(S2+((k:Int)+1)*A):=Int.mul_le_mul_of_nonneg_right (by omega) (by omega)
  have r1:(S2+T2-(S1+T1))*A=(S2-S1)*A+(T2-T1)*A:=by grind
  have r2:(1+2*((k:Int)+1))*(S2+T2+((k:Int)+1+1)*A)=(1+2*((k:Int)+1))*(S2+((k:Int)+1)*A)+(1+2*((k:Int)+1))*(T2+A):=by grind
  rw[r1,r2];omega
theorem se_ok {a:Int × Int} {u d:Nat→Int} (h:SeOk a u d) (N:Nat):a.1≤(zAY (riT a u d) N).1∧(zAY (riT a u d) N).1≤(zAY (riT a u d) N).2∧((zAY (riT a u d) N).2-(zAY (riT a u d) N).1)*a.2≤((1+2*(N:Int))*((N:Int)+2)+9)*(zAY (riT a u d) N).2:=by
 obtain ⟨w1,w3,w4⟩:=zLD h N;have a0:=h.a0;have al:=h.al;have e1:(zAY (riT a u d) N).1=(jG (riT a u d) N).1+0:=rfl;have e2:(zAY (riT a u d) N).2=(jG (riT a u d) N).2+9:=rfl;have sl:(jG (riT a u d) N).1≤(jG (riT a u d) N).2:=zCB (fun k=>(zBU h k).2) N
 refine ⟨by omega,by omega,?_⟩
 rw[e1,e2];generalize (jG (riT a u d) N).2=S2 at *;generalize (jG (riT a u d) N).1=S1 at *;generalize a.2=A at *
 have m1:(1+2*(N:Int))*(S2+((N:Int)+1)*A)≤(1+2*(N:Int))*(((N:Int)+2)*(S2+9)):=Int.mul_le_mul_of_nonneg_left (by
  have a:=Int.mul_le_mul_of_nonneg_left (show A≤S2+9 by omega) (show 0≤(N:Int)+1 by omega)
  have e:((N:Int)+2)*(S2+9)=((N:Int)+1)*(S2+9)+(S2+9):=by grind
  omega) (by omega)
 have r:(S2+9-(S1+0))*A=(S2-S1)*A+9*A:=by grind
 have r2:((1+2*(N:Int))*((N:Int)+2)+9)*(S2+9)=(1+2*(N:Int))*(((N:Int)+2)*(S2+9))+9*(S2+9):=by grind
 rw[r,r2];omega
theorem se_hi1 {a:Int × Int} {u d:Nat→Int} (h:SeOk a u d) {H c:Nat} (h0:a.2≤Q H) (hc:∀ k,u (k+1)≤Q c*d (k+1)) (k:Nat):(riT a u d k).2≤Q (H+c*k):=by
 induction k with
 | zero=>exact h0
 | succ k ih =>
  obtain ⟨e1,e2⟩:=zBU h k;have m:=zDJ (x:=(riT a u d k).2) (u:=u (k+1)) (v:=d (k+1)) (c:=Q c) (h.ok.d0 (k+1)) (by omega) (hc k)
  have e:Q (H+c*(k+1))=Q c*Q (H+c*k):=by rw[← jC];congr 1;rw[Nat.mul_succ];omega
  have m2:=Int.mul_le_mul_of_nonneg_left ih (show 0≤Q c by have:=zG c;omega)
  show -(-((riT a u d k).2*u (k+1))/d (k+1))≤_
  omega
theorem se_hi {a:Int × Int} {u d:Nat→Int} (h:SeOk a u d) {H c turn:Nat} (h0:a.2≤Q H) (hH:2≤H) (hc:∀ k,u (k+1)≤Q c*d (k+1)) (h34:∀ k,turn≤k→4*u (k+1)≤3*d (k+1)) (k:Nat):(riT a u d k).2≤Q (H+c*turn):=by
 by_cases hk:k≤turn
 ·exact Int.le_trans (se_hi1 h h0 hc k) (zJ (Nat.add_le_add_left (Nat.mul_le_mul_left c hk) H))
 ·obtain ⟨j,rfl⟩:∃ j,k=turn+j:=⟨k-turn,by omega⟩
  have big:3≤Q (H+c*turn):=by have:=zJ (show 2≤H+c*turn by omega);have:Q 2=4:=rfl;omega
  clear hk
  induction j with
  | zero=>exact se_hi1 h h0 hc _
  | succ j ih =>
   obtain ⟨e1,e2⟩:=zBU h (turn+j);have f:=zNK (x:=(riT a u d (turn+j)).2) (h.ok.d0 (turn+j+1)) (by omega) (h34 (turn+j) (by omega))
   have e:(riT a u d (turn+(j+1))).2 = -(-((riT a u d (turn+j)).2*u (turn+j+1))/d (turn+j+1)):=rfl;rw[e];omega
theorem se_set {a:Int × Int} {u d:Nat→Int} (h:SeOk a u d) {H c turn:Nat} (h0:a.2≤Q H) (hH:2≤H) (hc:∀ k,u (k+1)≤Q c*d (k+1)) (h34:∀ k,turn≤k→4*u (k+1)≤3*d (k+1)):∃ N,N≤turn+3*(H+c*turn+1)∧zBV (riT a u d) turn N :=
 zNE h.ok (show 0≤a.1 by have:=h.a0;omega) h.al h34 (by
  have a':=se_hi h h0 hH hc h34 turn;have e:Q (H+c*turn+1)=2*Q (H+c*turn):=rfl;have:=zG (H+c*turn)
  omega)
theorem se_fit {a:Int × Int} {u d:Nat→Int} (h:SeOk a u d) {H c turn:Nat} (h0:a.2≤Q H) (hH:4≤H) (hc:∀ k,u (k+1)≤Q c*d (k+1)) (h34:∀ k,turn≤k→4*u (k+1)≤3*d (k+1)) (k:Nat) (hk:k≤1000000):(jG (riT a u d) k).2+9≤Q (H+c*turn+21):=by
 obtain ⟨F,hF⟩:∃ F,F=H+c*turn:=⟨_,rfl⟩;have hi:∀ j,(riT a u d j).2≤Q F:=fun j=>by rw[hF];exact se_hi h h0 (by omega) hc h34 j
 have s:∀ j:Nat,(jG (riT a u d) j).2≤((j:Int)+1)*Q F:=fun j=>by
  induction j with
  | zero =>
   have:=hi 0
   show (riT a u d 0).2≤(((0:Nat):Int)+1)*Q F
   have e:((0:Nat):Int)=0:=rfl;rw[e];omega
  | succ j ih =>
   have:=hi (j+1);have e:(jG (riT a u d) (j+1)).2=(jG (riT a u d) j).2+(riT a u d (j+1)).2:=rfl;have ec:((j+1:Nat):Int)+1=((j:Int)+1)+1:=by omega
   have r:(((j:Int)+1)+1)*Q F=((j:Int)+1)*Q F+Q F:=by grind
   rw[e,ec,r];omega
 have a':=s k;have q:=zG F;have big:9≤Q F:=by have:=zJ (show 4≤F by omega);have:Q 4=16:=rfl;omega
 have m:=Int.mul_le_mul_of_nonneg_right (show (k:Int)+1≤1000001 by omega) (show 0≤Q F by omega)
 have e:Q (F+21)=Q F*Q 21:=jC F 21;have e19:Q 21=2097152:=rfl;rw[e19] at e;rw[← hF];omega
theorem zJP {B:Nat} {d:Int × Int} {c:Int} (hd:d.1≤d.2) (hc:0≤c) (t:Nat) (hq:Q t*c≤Q B) (h:Q B-c≤d.1):Q B-Q t*c≤(sqI B d t).1∧(sqI B d t).1≤(sqI B d t).2:=by
 have q:=zG B
 induction t with
 | zero=>exact ⟨by show Q B-1*c≤d.1;omega,hd⟩
 | succ t ih =>
  have e:Q (t+1)=2*Q t:=rfl;have qt:=zG t;have ec:Q (t+1)*c=2*(Q t*c):=by rw[e];grind
  have tc:=Int.mul_nonneg (show 0≤Q t by omega) hc
  obtain ⟨i1,i2⟩:=ih (by omega)
  refine ⟨?_,kV B⟩
  show Q B-Q (t+1)*c≤(kJ B (sqI B d t) (sqI B d t)).1
  rw[ec];generalize sqI B d t=a at *;generalize Q t*c=y at *;obtain ⟨_,_,_,_,hh⟩:=zCS (a.1*a.1) (a.1*a.2) (a.2*a.1) (a.2*a.2);have c0:0≤a.1:=by omega
  have m1:=Int.mul_le_mul_of_nonneg_left i2 c0;have m2:=Int.mul_le_mul_of_nonneg_right i2 c0;have m3:=Int.mul_le_mul i2 i2 c0 (by omega)
  have m4:=Int.mul_le_mul i1 i1 (by omega) c0
  have e2:(Q B-y)*(Q B-y)=(Q B-2*y)*Q B+y*y:=by grind
  have m5:=Int.mul_nonneg tc tc;have m6:(Q B-2*y)*Q B≤jA (pr4 (a.1*a.1) (a.1*a.2) (a.2*a.1) (a.2*a.2)) 3:=by omega
  exact Int.le_ediv_of_mul_le (by omega) m6
theorem sqs_rel2 {B:Nat} {d:Int × Int} {C c:Int} (hd:d.1≤d.2) (hc:0≤c) (hl:Q B-c≤d.1) (hC:0≤C) (h:(d.2-d.1)*Q B≤C*d.2) (i:Nat) (hi:2*(Q i*c)≤Q B) :
  ((sqI B d i).2-(sqI B d i).1)*Q B≤(Q i*(C+4)-4)*(sqI B d i).2:=by
 induction i with
 | zero =>
  show (d.2-d.1)*Q B≤(1*(C+4)-4)*d.2
  have:1*(C+4)-4=C:=by omega
  rw[this];exact h
 | succ i ih =>
  have es:Q (i+1)=2*Q i:=rfl;have q0:=zG i;have ec:Q (i+1)*c=2*(Q i*c):=by rw[es];grind
  have tc:=Int.mul_nonneg (show 0≤Q i by omega) hc
  have i1:=ih (by omega)
  obtain ⟨l1,l2⟩:=zJP (B:=B) hd hc i (by omega) hl
  obtain ⟨l3,l4⟩:=zJP (B:=B) hd hc (i+1) (by omega) hl
  have m:=Int.mul_le_mul_of_nonneg_right q0 (show 0≤C+4 by omega)
  have r:=sq_rel (B:=B) (a:=sqI B d i) (C:=Q i*(C+4)-4) (by omega) l2 (by omega) i1 (by
   have e:(kJ B (sqI B d i) (sqI B d i)).2=(sqI B d (i+1)).2:=rfl
   rw[e];omega)
  have ec:2*(Q i*(C+4)-4)+4=Q (i+1)*(C+4)-4:=by rw[es];grind
  rw[ec] at r;exact r
theorem zPN {B:Nat} {a:Int × Int} {x:Nat→Rat} (h:Iv B a x) (k:LeN (fun _=>1) x):Q B≤a.2:=by
 have q:=zV B;refine Int.not_lt.1 fun hlt=>?_
 have d:(0:Rat)<1/(Q B:Rat):=zL (by grind) q
 obtain ⟨e,he⟩:∃ e,e=1/(Q B:Rat)/4:=⟨_,rfl⟩;have e0:0<e:=by grind
 obtain ⟨N1,k1⟩:=h e e0;obtain ⟨N2,k2⟩:=k e e0;have a1:=(k1 (N1+N2) (by omega)).2
 have a2:=k2 (N1+N2) (by omega)
 simp only[] at a2;have c:=zW (show a.2+1≤Q B by omega)
 rw[Rat.intCast_add] at c;have c1:((1:Int):Rat)=1:=rfl;rw[c1] at c;have m:((a.2:Rat)+1)/(Q B:Rat)≤1:=zA5 q (by grind)
 rw[yC] at m;generalize 1/(Q B:Rat)=i at *;grind
theorem zNC {x:Nat→Rat} (hb:Bdd x) (h:LeN (fun _=>0) x):LeN (fun _=>1) (Ev x):=by
 obtain ⟨z,hz,kz⟩:=h.null;obtain ⟨v,hv,N,k⟩:=zCW (Bdd.const 0) hb hz 0 (fun M _=>kz M)
 refine LeN.of_null hv (N+1) fun M hM=>?_
 obtain ⟨m,rfl⟩:∃ m,M=m+1:=⟨M-1,by omega⟩
 have e0:Ev (fun _=>(0:Rat)) (m+1)=1:=zA9 m
 have:=k (m+1) (by omega)
 rw[e0] at this;exact this
def exD (B:Nat) (ws:Int) (t:Nat):Int:=((B:Int)/8+2)*(2*ws+8*Q t)+6*Q t
theorem exq_ok {B t N:Nat} {a:Int × Int} {x:Nat→Rat} {ws:Int} (hB:16≤B) (ha:Iv B a x) (hx:LeN (fun _=>0) x) (hw:a.2-a.1≤ws) (hA:Abs (zN a t) (Q (B-8))) (hN:jX (zY B (zN a t)) N) (hD:2*exD B ws t≤Q B) :
  Q B≤2*(sqI B (zQ (zY B (zN a t)) N) t).1∧(sqI B (zQ (zY B (zN a t)) N) t).1≤(sqI B (zQ (zY B (zN a t)) N) t).2∧(sqI B (zQ (zY B (zN a t)) N) t).2≤Q (B+eb t)∧((sqI B (zQ (zY B (zN a t)) N) t).2-(sqI B (zQ (zY B (zN a t)) N) t).1)*Q B≤exD B ws t*(sqI B (zQ (zY B (zN a t)) N) t).2∧Iv B (sqI B (zQ (zY B (zN a t)) N) t) (Ev x):=by
 have q:=zG t;have qB:=zG B;have al:=ha.le;have ws0:0≤ws:=by omega
 obtain ⟨u,hu⟩:∃ u,u=ws/Q t+1:=⟨_,rfl⟩
 have wu:ws≤u*Q t:=by
  have:=kE ws (show 0<Q t by omega)
  rw[← hu] at this;omega
 have uw:u*Q t≤ws+Q t:=by
  have:=Int.ediv_mul_le ws (show Q t≠0 by omega)
  have r:u*Q t=ws/Q t*Q t+Q t:=by rw[hu];grind
  omega
 have u0:0≤u:=by have:=Int.ediv_nonneg ws0 (show 0≤Q t by omega);omega
 obtain ⟨g1,g2,g3,g4⟩:=zIK (ws:=u) hB hA al (by omega) hN
 have hsl:(zN a t).1≤(zN a t).2:=by
  have:=jQ (a:=a) (n:=1) (d:=Q t) al (by omega) (by omega)
  simpa [zE,zN] using this
 have dle:=zFE (kX B (zN a t)) N;have wd:(zN a t).2-(zN a t).1≤u+1:=zCN (by omega) (by omega)
 have wD:=zC4 (zFK (by omega) hA hsl wd) hN
 have hx2:Bdd (fun M=>x M/(Q t:Rat)):=Has.bdd (ha.down t)
 have qr:=zV t
 have l0:LeN (fun _=>0) (fun M=>x M/(Q t:Rat)):=by
  obtain ⟨z,hz,kz⟩:=hx.null;refine LeN.of_null (hz.bmul (Bdd.const (1/(Q t:Rat)))) 0 fun M _=>?_
  have k:=kz M;have ip:(0:Rat)≤1/(Q t:Rat):=kM qr (by grind)
  have m:=Rat.mul_le_mul_of_nonneg_right k ip;have e:x M/(Q t:Rat)=x M*(1/(Q t:Rat)):=by rw[Rat.div_def,Rat.div_def,Rat.one_mul]
  rw[e];grind
 have up:=zPN (zF2 (N:=N) (by omega) (ha.down t) hA) (zNC hx2 l0)
 obtain ⟨D,hDD⟩:∃ D,D=zQ (zY B (zN a t)) N:=⟨_,rfl⟩;rw[← hDD] at dle wD up;obtain ⟨c,hc⟩:∃ c,c=((B:Int)/8+2)*(2*(u+1)+4)+2:=⟨_,rfl⟩;have c0:0≤c:=by have:=Int.mul_nonneg (show 0≤(B:Int)/8+2 by omega) (show 0≤2*(u+1)+4 by omega);omega
 have wC:D.2-D.1≤c:=by
  have m:=Int.mul_le_mul_of_nonneg_right (show (N:Int)+1≤(B:Int)/8+2 by omega) (show 0≤2*(u+1)+4 by omega)
  omega
 have tc:Q t*(c+4)≤exD B ws t:=by
  have m:=Int.mul_le_mul_of_nonneg_left uw (show 0≤2*((B:Int)/8+2) by omega)
  unfold exD;rw[hc];generalize (B:Int)/8+2=β at *;have r:Q t*(β*(2*(u+1)+4)+2+4)=2*β*(u*Q t)+6*(Q t*β)+6*Q t:=by grind
  have r2:2*β*(ws+Q t)=2*(β*ws)+2*(Q t*β):=by grind
  have r3:β*(2*ws+8*Q t)+6*Q t=2*(β*ws)+8*(Q t*β)+6*Q t:=by grind
  omega
 have r4:Q t*(c+4)=Q t*c+4*Q t:=by grind
 have low:Q B-c≤D.1:=by omega
 have rel:(D.2-D.1)*Q B≤c*D.2:=Int.le_trans (Int.mul_le_mul_of_nonneg_right wC (by omega)) (Int.mul_le_mul_of_nonneg_left up c0)
 have sl:=zJP (B:=B) dle c0 t (by omega) low
 have rs:=sqs_rel2 (B:=B) dle c0 low c0 rel t (by omega)
 have iv:=zNH (N:=N) (by omega) ha hA
 rw[← hDD] at g1 g2 iv ⊢;refine ⟨by omega,g1,g2.2.2.2,?_,iv⟩
 refine Int.le_trans rs (Int.mul_le_mul_of_nonneg_right (by omega) ?_)
 omega
end Go.Proofs.YtgmnknmjainababGreat
