/-
  Its own texts.
-/
import Derived.Test.YtgmnknmjainababGreatK09
set_option maxRecDepth 100000
set_option maxHeartbeats 8000000
set_option linter.unnecessarySimpa false
set_option linter.unusedSimpArgs false
set_option linter.unusedVariables false
namespace Go.Proofs.YtgmnknmjainababGreat
open Go.RowKit
attribute [local go_sem ↓] Go.wp_at_zero Go.wp_at_succ
theorem zDE (w:World) (n:Int) (b:Nat) (hb:b≤100000) (h0 : -9223372036854775808≤n) (h1:n≤9223372036854775807) :
  Calls Tryz.prog 27 #[.int .i64 n,.int .i64 b] w (zH w b (b/16+18) (n*Q b) (n*Q b)):=by
 have R:=zO w 36
 go_enter Tryz.func27,Tryz.ntmps27
 go_wp2_with fail;refine (zD n _ h0 h1).mono ?_;rintro r' w1 ⟨neg1,a1,n1,c1,rfl,hZ1,hb1⟩;replace R:=R.bw hb1;have hB:Below w.heap.size w w1:=zB (bl1 _ _) hb1;clear hb1;go_wp2_with fail;refine (zD 1 _ (by decide) (by decide)).mono ?_
 rintro r' w2 ⟨neg2,a2,n2,c2,rfl,hZ2,hb2⟩;replace R:=R.bw hb2;replace hB:=zB hB hb2;replace hZ1:=hZ1.bw hb2;clear hb2;go_wp2_with fail;refine (zBO _ _ _ _ _ _ _ _ 4 4 b n 1 _ hZ1 hZ2 (by omega) (by omega) hb (by decide) (fun neg' a' n' cap' w' p1 p2=>kO _ _ _ _ _ _ _ _ _ 4 _ _ w' p1 p2 (by omega) (by decide))).mono ?_
 rintro r' w3 ⟨u,rfl,hub,hup,hb3⟩;have e1:n*Q b/1=n*Q b:=Int.ediv_one _;have e2 : -(-(n*Q b)/1)=n*Q b:=by rw[Int.ediv_one];omega
 rw[e1,e2] at hup;obtain ⟨q0,q1,q2,q3,q4,q5⟩:=R.bw hb3;replace hB:=zB hB hb3;have HU:=zC hub;clear hub e1 e2;go_wp2_with fail;refine bodyPost_ret (v:=.agg #[.bool u.ln,.slice u.la u.lN u.lc,.bool u.hn,.slice u.ha u.hN u.hc,.int .i64 u.bits]) (by simp[results,Tryz.results27,go_sem,q0,q1,q2,q3,q4]) rfl ⟨u,rfl,zA HU,?_,?_⟩
 ·exact SpAt.put5 (hup.mono (by omega)) q0 q1 q2 q3 q4 _ _ _ _ _
 ·exact jV hB (Nat.le_refl _) _ _ _ _ _
theorem zFA (w:World) (s:Sp) (k:Nat) (n lo hi:Int) (hs:SpAt w s k lo hi) (hk:k≤300000000) (hk4:4≤k) (h0 : -9223372036854775808≤n) (h1:n≤9223372036854775807) :
  Calls Tryz.prog 123 #[.agg #[.bool s.ln,.slice s.la s.lN s.lc,.bool s.hn,.slice s.ha s.hN s.hc,.int .i64 s.bits],.int .i64 n] w (zH w s.bits (k+1) (lo-n) (hi+n)):=by
 obtain ⟨W,hW⟩:∃ W,W=(w.alloc (.cells #[.bool s.ln,.slice s.la s.lN s.lc,.bool s.hn,.slice s.ha s.hN s.hc,.int .i64 s.bits] 36)).alloc (.cells #[.bool false,.slice none 0 0,.bool false,.slice none 0 0,.int .i64 0] 36):=⟨_,rfl⟩;have hBW:Below w.heap.size w W:=by rw[hW];exact bl2 _ _ _
 have A:SpC W w.heap.size s:=by rw[hW];constructor <;> simp[go_sem]
 have R:NoC W (w.heap.size+1):=by rw[hW];constructor <;> simp[go_sem]
 have HS:=zC (hs.bw hBW);have lR:=R.lt;have HK:=zC (show ∀ w',Below W.heap.size W w'→(w'.cell? ⟨w.heap.size,0,none⟩=some (.bool s.ln)∧w'.cell? ⟨w.heap.size,1,none⟩=some (.slice s.la s.lN s.lc)∧w'.cell? ⟨w.heap.size,2,none⟩=some (.bool s.hn)∧w'.cell? ⟨w.heap.size,3,none⟩=some (.slice s.ha s.hN s.hc)∧w'.cell? ⟨w.heap.size,4,none⟩=some (.int .i64 s.bits)) from fun w' hB=>⟨(A.bw hB).c0,(A.bw hB).c1,(A.bw hB).c2,(A.bw hB).c3,(A.bw hB).c4⟩)
 clear A hs
 go_enter Tryz.func123,Tryz.ntmps123
 go_wp2;rw[← hW];clear hW;have n01:w.heap.size≠w.heap.size+1:=by omega
 have n10:w.heap.size+1≠w.heap.size:=by omega
 obtain ⟨x0,x1,x2,x3,x4⟩:=zA HK _ (Below.refl _ _);have hD0:Below W.heap.size W W.drew:=(Below.refl _ _).drew
 go_region_held3 (fun w'=>w'.cell? ⟨w.heap.size,0,none⟩=some (.bool s.ln)∧w'.cell? ⟨w.heap.size,1,none⟩=some (.slice s.la s.lN s.lc)∧w'.cell? ⟨w.heap.size,2,none⟩=some (.bool s.hn)∧w'.cell? ⟨w.heap.size,3,none⟩=some (.slice s.ha s.hN s.hc)∧w'.cell? ⟨w.heap.size,4,none⟩=some (.int .i64 s.bits)) (first|exact zA HK _ (by with_reducible first|exact hD0|exact hD4|exact hD3|exact hD2|exact hD1)|go_keep)
  (first
   | (go_at_call 65;have hq:=hD3;refine (yQ _ _ _ _ _ _ _ _ k 4 hi n _ ((zA HS).hi.bw hD3) hZ3 (by omega) (by omega)).mono ?_;rintro r' w4 ⟨neg4,a4,n4,c4,rfl,hZ4,hb4⟩;have hD4:=zB hD3 hb4;replace hZ2:=(hZ2.bw hb3).bw hb4;obtain ⟨q0,q1,q2,q3,q4,q5⟩:=R.bw hD4;obtain ⟨y0,y1,y2,y3,y4⟩:=zA HK _ hD4)
   | (go_at_call 43;have hq:=hD2;refine (zD n _ h0 h1).mono ?_;rintro r' w3 ⟨neg3,a3,n3,c3,rfl,hZ3,hb3⟩;have hD3:=zB hD2 hb3)
   | (go_at_call 72;have hq:=hD1;refine (zAL _ _ _ _ _ _ _ _ k 4 lo n _ ((zA HS).lo.bw hD1) hZ1 (by omega) (by omega)).mono ?_;rintro r' w2 ⟨neg2,a2,n2,c2,rfl,hZ2,hb2⟩;have hD2:=zB hD1 hb2)
   | (go_at_call 43;refine (zD n _ h0 h1).mono ?_;rintro r' w1 ⟨neg1,a1,n1,c1,rfl,hZ1,hb1⟩;have hD1:=zB hD0 hb1))
 all_goals
  go_wp2_with fail;refine bodyPost_ret (v:=.agg #[.bool neg2,.slice a2 n2 c2,.bool neg4,.slice a4 n4 c4,.int .i64 s.bits]) (by simp[results,Tryz.results123,go_sem,q0,q1,q2,q3,q4]) rfl ⟨⟨neg2,a2,n2,c2,neg4,a4,n4,c4,s.bits⟩,rfl,rfl,?_,?_⟩
  ·exact SpAt.put5 ⟨hZ2.mono (by omega),hZ4.mono (by omega)⟩ q0 q1 q2 q3 q4 _ _ _ _ _
  ·exact jV (zB hBW hD4) (Nat.le_succ _) _ _ _ _ _
def zAK (lo hi n:Int):Bool:=decide (hi≤n) && decide (-n≤lo)
theorem cmp3 (x y:Int):(zF x y = -1∧x<y)∨(zF x y=0∧x=y)∨(zF x y=1∧y<x):=by
 unfold zF;split
 ·exact Or.inl ⟨rfl,by assumption⟩
 ·split
  ·exact Or.inr (Or.inr ⟨rfl,by assumption⟩)
  ·exact Or.inr (Or.inl ⟨rfl,by omega⟩)
theorem zLP (w:World) (s:Sp) (k:Nat) (n lo hi:Int) (hs:SpAt w s k lo hi) (h0 : -1000000000≤n) (h1:n≤1000000000) (hc:zF hi n = -1) (hh:hi≤n) :
  Calls Tryz.prog 122 #[.agg #[.bool s.ln,.slice s.la s.lN s.lc,.bool s.hn,.slice s.ha s.hN s.hc,.int .i64 s.bits],.int .i64 n] w fun r w'=>r=.returned (.bool (zAK lo hi n))∧Below w.heap.size w w':=by
 obtain ⟨W,hW⟩:∃ W,W=w.alloc (.cells #[.bool s.ln,.slice s.la s.lN s.lc,.bool s.hn,.slice s.ha s.hN s.hc,.int .i64 s.bits] 36):=⟨_,rfl⟩;have hBW:Below w.heap.size w W:=by rw[hW];exact bl1 _ _
 have A:SpC W w.heap.size s:=by rw[hW];exact yP w s _
 have HS:=zC (hs.bw hBW);have HK:=zC (show ∀ w',Below W.heap.size W w'→(w'.cell? ⟨w.heap.size,0,none⟩=some (.bool s.ln)∧w'.cell? ⟨w.heap.size,1,none⟩=some (.slice s.la s.lN s.lc)∧w'.cell? ⟨w.heap.size,2,none⟩=some (.bool s.hn)∧w'.cell? ⟨w.heap.size,3,none⟩=some (.slice s.ha s.hN s.hc)∧w'.cell? ⟨w.heap.size,4,none⟩=some (.int .i64 s.bits)) from fun w' hB=>⟨(A.bw hB).c0,(A.bw hB).c1,(A.bw hB).c2,(A.bw hB).c3,(A.bw hB).c4⟩)
 clear A hs
 have HE:=zC (show decide (0≤zF lo (-n))=zAK lo hi n by
  unfold zAK;rw[Bool.eq_iff_iff,Bool.and_eq_true,decide_eq_true_iff,decide_eq_true_iff,decide_eq_true_iff];unfold zF;constructor
  ·intro h;refine ⟨hh,?_⟩;split at h <;> omega
  ·intro h;rw[if_neg (by omega)];split <;> omega)
 have HW:=zC (show IntKind.i64.wrap (-n) = -n from jO _ (by omega) (by omega))
 have HC:=zC hc;clear hh hc
 go_enter Tryz.func122,Tryz.ntmps122
 go_wp2;rw[← hW];clear hW;obtain ⟨x0,x1,x2,x3,x4⟩:=zA HK _ (Below.refl _ _);have hD0:Below W.heap.size W W.drew:=(Below.refl _ _).drew
 go_region_held3 (fun w'=>w'.cell? ⟨w.heap.size,0,none⟩=some (.bool s.ln)∧w'.cell? ⟨w.heap.size,1,none⟩=some (.slice s.la s.lN s.lc)∧w'.cell? ⟨w.heap.size,2,none⟩=some (.bool s.hn)∧w'.cell? ⟨w.heap.size,3,none⟩=some (.slice s.ha s.hN s.hc)∧w'.cell? ⟨w.heap.size,4,none⟩=some (.int .i64 s.bits)) (first|exact zA HK _ (by with_reducible first|exact hD0|exact hD4|exact hD3|exact hD2|exact hD1)|go_keep)
  (first
   | (go_at_call 46;have hq:=hD3;refine (zS _ _ _ _ _ _ _ _ _ _ lo (-n) _ ((zA HS).lo.bw hD3) hZ3).mono ?_;rintro r' w4 ⟨rfl,hb4⟩;have hD4:=zB hD3 hb4)
   | (go_at_call 43;have hq:=hD2;rw[zA HW];refine (zD (-n) _ (by omega) (by omega)).mono ?_;rintro r' w3 ⟨neg3,a3,n3,c3,rfl,hZ3,hb3⟩;have hD3:=zB hD2 hb3)
   | (go_at_call 46;have hq:=hD1;refine (zS _ _ _ _ _ _ _ _ _ _ hi n _ ((zA HS).hi.bw hD1) hZ1).mono ?_;rintro r' w2 ⟨rfl,hb2⟩;rw[zA HC];have hD2:=zB hD1 hb2)
   | (go_at_call 43;refine (zD n _ (by omega) (by omega)).mono ?_;rintro r' w1 ⟨neg1,a1,n1,c1,rfl,hZ1,hb1⟩;have hD1:=zB hD0 hb1))
 all_goals
  go_wp2_with fail
  go_ret
  exact ⟨by rw[← zA HE];rfl,zB hBW hD4⟩
theorem zMB (w:World) (s:Sp) (k:Nat) (n lo hi:Int) (hs:SpAt w s k lo hi) (h0 : -1000000000≤n) (h1:n≤1000000000) (hc:zF hi n=0) (hh:hi≤n) :
  Calls Tryz.prog 122 #[.agg #[.bool s.ln,.slice s.la s.lN s.lc,.bool s.hn,.slice s.ha s.hN s.hc,.int .i64 s.bits],.int .i64 n] w fun r w'=>r=.returned (.bool (zAK lo hi n))∧Below w.heap.size w w':=by
 obtain ⟨W,hW⟩:∃ W,W=w.alloc (.cells #[.bool s.ln,.slice s.la s.lN s.lc,.bool s.hn,.slice s.ha s.hN s.hc,.int .i64 s.bits] 36):=⟨_,rfl⟩;have hBW:Below w.heap.size w W:=by rw[hW];exact bl1 _ _
 have A:SpC W w.heap.size s:=by rw[hW];exact yP w s _
 have HS:=zC (hs.bw hBW);have HK:=zC (show ∀ w',Below W.heap.size W w'→(w'.cell? ⟨w.heap.size,0,none⟩=some (.bool s.ln)∧w'.cell? ⟨w.heap.size,1,none⟩=some (.slice s.la s.lN s.lc)∧w'.cell? ⟨w.heap.size,2,none⟩=some (.bool s.hn)∧w'.cell? ⟨w.heap.size,3,none⟩=some (.slice s.ha s.hN s.hc)∧w'.cell? ⟨w.heap.size,4,none⟩=some (.int .i64 s.bits)) from fun w' hB=>⟨(A.bw hB).c0,(A.bw hB).c1,(A.bw hB).c2,(A.bw hB).c3,(A.bw hB).c4⟩)
 clear A hs
 have HE:=zC (show decide (0≤zF lo (-n))=zAK lo hi n by
  unfold zAK;rw[Bool.eq_iff_iff,Bool.and_eq_true,decide_eq_true_iff,decide_eq_true_iff,decide_eq_true_iff];unfold zF;constructor
  ·intro h;refine ⟨hh,?_⟩;split at h <;> omega
  ·intro h;rw[if_neg (by omega)];split <;> omega)
 have HW:=zC (show IntKind.i64.wrap (-n) = -n from jO _ (by omega) (by omega))
 have HC:=zC hc;clear hh hc
 go_enter Tryz.func122,Tryz.ntmps122
 go_wp2;rw[← hW];clear hW;obtain ⟨x0,x1,x2,x3,x4⟩:=zA HK _ (Below.refl _ _);have hD0:Below W.heap.size W W.drew:=(Below.refl _ _).drew
 go_region_held3 (fun w'=>w'.cell? ⟨w.heap.size,0,none⟩=some (.bool s.ln)∧w'.cell? ⟨w.heap.size,1,none⟩=some (.slice s.la s.lN s.lc)∧w'.cell? ⟨w.heap.size,2,none⟩=some (.bool s.hn)∧w'.cell? ⟨w.heap.size,3,none⟩=some (.slice s.ha s.hN s.hc)∧w'.cell? ⟨w.heap.size,4,none⟩=some (.int .i64 s.bits)) (first|exact zA HK _ (by with_reducible first|exact hD0|exact hD4|exact hD3|exact hD2|exact hD1)|go_keep)
  (first
   | (go_at_call 46;have hq:=hD3;refine (zS _ _ _ _ _ _ _ _ _ _ lo (-n) _ ((zA HS).lo.bw hD3) hZ3).mono ?_;rintro r' w4 ⟨rfl,hb4⟩;have hD4:=zB hD3 hb4)
   | (go_at_call 43;have hq:=hD2;rw[zA HW];refine (zD (-n) _ (by omega) (by omega)).mono ?_;rintro r' w3 ⟨neg3,a3,n3,c3,rfl,hZ3,hb3⟩;have hD3:=zB hD2 hb3)
   | (go_at_call 46;have hq:=hD1;refine (zS _ _ _ _ _ _ _ _ _ _ hi n _ ((zA HS).hi.bw hD1) hZ1).mono ?_;rintro r' w2 ⟨rfl,hb2⟩;rw[zA HC];have hD2:=zB hD1 hb2)
   | (go_at_call 43;refine (zD n _ (by omega) (by omega)).mono ?_;rintro r' w1 ⟨neg1,a1,n1,c1,rfl,hZ1,hb1⟩;have hD1:=zB hD0 hb1))
 all_goals
  go_wp2_with fail
  go_ret
  exact ⟨by rw[← zA HE];rfl,zB hBW hD4⟩
theorem zL1 (w:World) (s:Sp) (k:Nat) (n lo hi:Int) (hs:SpAt w s k lo hi) (h0 : -1000000000≤n) (h1:n≤1000000000) (hc:zF hi n=1) (hh:¬ hi≤n) :
  Calls Tryz.prog 122 #[.agg #[.bool s.ln,.slice s.la s.lN s.lc,.bool s.hn,.slice s.ha s.hN s.hc,.int .i64 s.bits],.int .i64 n] w fun r w'=>r=.returned (.bool (zAK lo hi n))∧Below w.heap.size w w':=by
 obtain ⟨W,hW⟩:∃ W,W=w.alloc (.cells #[.bool s.ln,.slice s.la s.lN s.lc,.bool s.hn,.slice s.ha s.hN s.hc,.int .i64 s.bits] 36):=⟨_,rfl⟩;have hBW:Below w.heap.size w W:=by rw[hW];exact bl1 _ _
 have A:SpC W w.heap.size s:=by rw[hW];exact yP w s _
 have HS:=zC (hs.bw hBW);have HK:=zC (show ∀ w',Below W.heap.size W w'→(w'.cell? ⟨w.heap.size,0,none⟩=some (.bool s.ln)∧w'.cell? ⟨w.heap.size,1,none⟩=some (.slice s.la s.lN s.lc)∧w'.cell? ⟨w.heap.size,2,none⟩=some (.bool s.hn)∧w'.cell? ⟨w.heap.size,3,none⟩=some (.slice s.ha s.hN s.hc)∧w'.cell? ⟨w.heap.size,4,none⟩=some (.int .i64 s.bits)) from fun w' hB=>⟨(A.bw hB).c0,(A.bw hB).c1,(A.bw hB).c2,(A.bw hB).c3,(A.bw hB).c4⟩)
 clear A hs;have HE:=zC (show zAK lo hi n=false by unfold zAK;rw[decide_eq_false hh];rfl)
 have HC:=zC hc;clear hh hc
 go_enter Tryz.func122,Tryz.ntmps122
 go_wp2;rw[← hW];clear hW;obtain ⟨x0,x1,x2,x3,x4⟩:=zA HK _ (Below.refl _ _);have hD0:Below W.heap.size W W.drew:=(Below.refl _ _).drew;refine wp_region_held_drew (S:=fun w'=>w'.cell? ⟨w.heap.size,0,none⟩=some (.bool s.ln)∧w'.cell? ⟨w.heap.size,1,none⟩=some (.slice s.la s.lN s.lc)∧w'.cell? ⟨w.heap.size,2,none⟩=some (.bool s.hn)∧w'.cell? ⟨w.heap.size,3,none⟩=some (.slice s.ha s.hN s.hc)∧w'.cell? ⟨w.heap.size,4,none⟩=some (.int .i64 s.bits)) (by kernel_rfl) ⟨(zA HK _ hD0).1,(zA HK _ hD0).2.1,(zA HK _ hD0).2.2.1,(zA HK _ hD0).2.2.2.1,(zA HK _ hD0).2.2.2.2⟩ (fun hHeld=>?_)
 refine wpAnyH_take (i:=0) (oi:={ dst:=some 5,op:=Go.Op.fieldAddr 36 (Go.Operand.tmp 2) 1,type:=0,pos := "func.go:26",after:=#[],guard:=none }) (v:=.pointer (some ⟨w.heap.size,2,none⟩)) rfl (by kernel_rfl) (by kernel_rfl) (by kernel_rfl) (fun _ _ _ h=>h) (Or.inl ⟨by rfl,fun w hSw=>?_⟩) hHeld ?_
 ·obtain ⟨s0,s1,s2,s3,s4⟩:=hSw;go_simp
 try simp only[Act.put,List.setIfInBounds_toArray,List.set_cons_zero,List.set_cons_succ]
 refine wpAnyH_take (i:=1) (oi:={ dst:=some 6,op:=Go.Op.load 26 (Go.Operand.tmp 5),type:=26,pos := "func.go:26",after:=#[{ on:=0,ground:=Go.Ground.data }],guard:=none }) (v:=.agg #[.bool s.hn,.slice s.ha s.hN s.hc]) rfl (by kernel_rfl) (by kernel_rfl) (by kernel_rfl) (fun _ _ _ h=>h) (Or.inl ⟨by rfl,fun w hSw=>?_⟩) hHeld ?_
 ·obtain ⟨s0,s1,s2,s3,s4⟩:=hSw;go_simp
 try simp only[Act.put,List.setIfInBounds_toArray,List.set_cons_zero,List.set_cons_succ]
 refine wpAnyH_take (i:=2) (oi:={ dst:=some 7,op:=Go.Op.move (Go.Operand.tmp 1),type:=3,pos := "func.go:26",after:=#[],guard:=none }) (v:=.int .i64 n) rfl (by kernel_rfl) (by kernel_rfl) (by kernel_rfl) (fun _ _ _ h=>h) (Or.inl ⟨by rfl,fun w hSw=>?_⟩) hHeld ?_
 ·obtain ⟨s0,s1,s2,s3,s4⟩:=hSw;go_simp
 try simp only[Act.put,List.setIfInBounds_toArray,List.set_cons_zero,List.set_cons_succ]
 refine wpAnyH_ready (rs:=[3]) (by kernel_rfl) (by simp) ?_
 refine AllReadyH.cons (o:={ dst:=some 8,op:=Go.Op.call { callee:=Go.Callee.value (Go.Operand.func 43),args:=#[Go.Operand.tmp 7],argTypes:=#[3] },type:=26,pos := "func.go:26",after:=#[{ on:=2,ground:=Go.Ground.data }],guard:=none }) rfl (fun K hK=>?_) AllReadyH.nil
 go_simp
 refine (zD n _ (by omega) (by omega)).mono ?_
 rintro r' w1 ⟨neg1,a1,n1,c1,rfl,hZ1,hb1⟩;have hD1:Below W.heap.size W w1:=zB hD0 hb1;go_wp2_with fail;refine hK.out _ _ ⟨(zA HK _ hD1).1,(zA HK _ hD1).2.1,(zA HK _ hD1).2.2.1,(zA HK _ hD1).2.2.2.1,(zA HK _ hD1).2.2.2.2⟩ (fun hHeld=>?_)
 clear hK K
 try simp only[Act.put,List.setIfInBounds_toArray,List.set_cons_zero,List.set_cons_succ]
 refine wpAnyH_ready (rs:=[4]) (by kernel_rfl) (by simp) ?_
 refine AllReadyH.cons (o:={ dst:=some 9,op:=Go.Op.call { callee:=Go.Callee.value (Go.Operand.func 46),args:=#[Go.Operand.tmp 6,Go.Operand.tmp 8],argTypes:=#[26,26] },type:=3,pos := "func.go:26",after:=#[{ on:=1,ground:=Go.Ground.data },{ on:=3,ground:=Go.Ground.data },{ on:=3,ground:=Go.Ground.chain }],guard:=none }) rfl (fun K hK=>?_) AllReadyH.nil
 go_simp
 refine (zS _ _ _ _ _ _ _ _ _ _ hi n _ ((zA HS).hi.bw hD1) hZ1).mono ?_;rintro r' w2 ⟨rfl,hb2⟩;rw[zA HC];have hD2:=zB hD1 hb2;go_wp2_with fail;refine hK.out _ _ ⟨(zA HK _ hD2).1,(zA HK _ hD2).2.1,(zA HK _ hD2).2.2.1,(zA HK _ hD2).2.2.2.1,(zA HK _ hD2).2.2.2.2⟩ (fun hHeld=>?_)
 clear hK K
 try simp only[Act.put,List.setIfInBounds_toArray,List.set_cons_zero,List.set_cons_succ]
 refine wpAnyH_take (i:=5) (oi:={ dst:=some 10,op:=Go.Op.binOp Go.BinOp.leq 3 (Go.Operand.tmp 9) (Go.Operand.const (Go.Value.int Go.IntKind.i64 0)) 3,type:=4,pos := "func.go:26",after:=#[{ on:=4,ground:=Go.Ground.data }],guard:=none }) (v:=.bool false) rfl (by kernel_rfl) (by kernel_rfl) (by kernel_rfl) (fun _ _ _ h=>h) (Or.inl ⟨by rfl,fun w hSw=>?_⟩) hHeld ?_
 ·obtain ⟨s0,s1,s2,s3,s4⟩:=hSw;go_simp
 try simp only[Act.put,List.setIfInBounds_toArray,List.set_cons_zero,List.set_cons_succ]
 refine wpAnyH_take (i:=6) (oi:={ dst:=some 11,op:=Go.Op.move (Go.Operand.tmp 10),type:=4,pos := "func.go:26",after:=#[{ on:=5,ground:=Go.Ground.data },{ on:=4,ground:=Go.Ground.chain }],guard:=none }) (v:=.bool false) rfl (by kernel_rfl) (by kernel_rfl) (by kernel_rfl) (fun _ _ _ h=>h) (Or.inl ⟨by rfl,fun w hSw=>?_⟩) hHeld ?_
 ·obtain ⟨s0,s1,s2,s3,s4⟩:=hSw;go_simp
 try simp only[Act.put,List.setIfInBounds_toArray,List.set_cons_zero,List.set_cons_succ]
 refine wpAnyH_take (i:=7) (oi:={ dst:=some 12,op:=Go.Op.fieldAddr 36 (Go.Operand.tmp 2) 0,type:=0,pos := "func.go:26",after:=#[{ on:=6,ground:=Go.Ground.guard }],guard:=some (6,true) }) (v:=undef) rfl (by kernel_rfl) (by kernel_rfl) (by kernel_rfl) (fun _ _ _ h=>h) (Or.inr ⟨by rfl,rfl⟩) hHeld ?_
 try simp only[Act.put,List.setIfInBounds_toArray,List.set_cons_zero,List.set_cons_succ]
 refine wpAnyH_take (i:=8) (oi:={ dst:=some 13,op:=Go.Op.load 26 (Go.Operand.tmp 12),type:=26,pos := "func.go:26",after:=#[{ on:=7,ground:=Go.Ground.data },{ on:=6,ground:=Go.Ground.guard }],guard:=some (6,true) }) (v:=undef) rfl (by kernel_rfl) (by kernel_rfl) (by kernel_rfl) (fun _ _ _ h=>h) (Or.inr ⟨by rfl,rfl⟩) hHeld ?_
 try simp only[Act.put,List.setIfInBounds_toArray,List.set_cons_zero,List.set_cons_succ]
 refine wpAnyH_take (i:=9) (oi:={ dst:=some 14,op:=Go.Op.move (Go.Operand.tmp 1),type:=3,pos := "func.go:26",after:=#[{ on:=6,ground:=Go.Ground.guard }],guard:=some (6,true) }) (v:=undef) rfl (by kernel_rfl) (by kernel_rfl) (by kernel_rfl) (fun _ _ _ h=>h) (Or.inr ⟨by rfl,rfl⟩) hHeld ?_
 try simp only[Act.put,List.setIfInBounds_toArray,List.set_cons_zero,List.set_cons_succ]
 refine wpAnyH_take (i:=10) (oi:={ dst:=some 15,op:=Go.Op.unOp Go.UnOp.neg 3 (Go.Operand.tmp 14),type:=3,pos := "func.go:26",after:=#[{ on:=9,ground:=Go.Ground.data },{ on:=6,ground:=Go.Ground.guard }],guard:=some (6,true) }) (v:=undef) rfl (by kernel_rfl) (by kernel_rfl) (by kernel_rfl) (fun _ _ _ h=>h) (Or.inr ⟨by rfl,rfl⟩) hHeld ?_
 try simp only[Act.put,List.setIfInBounds_toArray,List.set_cons_zero,List.set_cons_succ]
 refine wpAnyH_take (i:=11) (oi:={ dst:=some 16,op:=Go.Op.call { callee:=Go.Callee.value (Go.Operand.func 43),args:=#[Go.Operand.tmp 15],argTypes:=#[3] },type:=26,pos := "func.go:26",after:=#[{ on:=10,ground:=Go.Ground.data },{ on:=6,ground:=Go.Ground.chain },{ on:=6,ground:=Go.Ground.guard }],guard:=some (6,true) }) (v:=undef) rfl (by kernel_rfl) (by kernel_rfl) (by kernel_rfl) (fun _ _ _ h=>h) (Or.inr ⟨by rfl,rfl⟩) hHeld ?_
 try simp only[Act.put,List.setIfInBounds_toArray,List.set_cons_zero,List.set_cons_succ]
 refine wpAnyH_take (i:=12) (oi:={ dst:=some 17,op:=Go.Op.call { callee:=Go.Callee.value (Go.Operand.func 46),args:=#[Go.Operand.tmp 13,Go.Operand.tmp 16],argTypes:=#[26,26] },type:=3,pos := "func.go:26",after:=#[{ on:=8,ground:=Go.Ground.data },{ on:=11,ground:=Go.Ground.data },{ on:=11,ground:=Go.Ground.chain },{ on:=6,ground:=Go.Ground.guard }],guard:=some (6,true) }) (v:=undef) rfl (by kernel_rfl) (by kernel_rfl) (by kernel_rfl) (fun _ _ _ h=>h) (Or.inr ⟨by rfl,rfl⟩) hHeld ?_
 try simp only[Act.put,List.setIfInBounds_toArray,List.set_cons_zero,List.set_cons_succ]
 refine wpAnyH_take (i:=13) (oi:={ dst:=some 18,op:=Go.Op.binOp Go.BinOp.geq 3 (Go.Operand.tmp 17) (Go.Operand.const (Go.Value.int Go.IntKind.i64 0)) 3,type:=4,pos := "func.go:26",after:=#[{ on:=12,ground:=Go.Ground.data },{ on:=6,ground:=Go.Ground.guard }],guard:=some (6,true) }) (v:=undef) rfl (by kernel_rfl) (by kernel_rfl) (by kernel_rfl) (fun _ _ _ h=>h) (Or.inr ⟨by rfl,rfl⟩) hHeld ?_
 try simp only[Act.put,List.setIfInBounds_toArray,List.set_cons_zero,List.set_cons_succ]
 refine wpAnyH_take (i:=14) (oi:={ dst:=some 19,op:=Go.Op.pick (Go.Operand.tmp 11) (Go.Operand.tmp 18) (Go.Operand.const (Go.Value.bool false)),type:=4,pos := "func.go:26",after:=#[{ on:=6,ground:=Go.Ground.data },{ on:=13,ground:=Go.Ground.data }],guard:=none }) (v:=.bool false) rfl (by kernel_rfl) (by kernel_rfl) (by kernel_rfl) (fun _ _ _ h=>h) (Or.inl ⟨by rfl,fun w hSw=>?_⟩) hHeld ?_
 ·obtain ⟨s0,s1,s2,s3,s4⟩:=hSw;go_simp
 try simp only[Act.put,List.setIfInBounds_toArray,List.set_cons_zero,List.set_cons_succ]
 refine wpAnyH_take (i:=15) (oi:={ dst:=some 4,op:=Go.Op.assign (Go.Operand.tmp 19),type:=4,pos := "func.go:26",after:=#[{ on:=14,ground:=Go.Ground.data },{ on:=12,ground:=Go.Ground.chain },{ on:=0,ground:=Go.Ground.phase },{ on:=1,ground:=Go.Ground.phase },{ on:=2,ground:=Go.Ground.phase },{ on:=3,ground:=Go.Ground.phase },{ on:=4,ground:=Go.Ground.phase },{ on:=5,ground:=Go.Ground.phase },{ on:=6,ground:=Go.Ground.phase },{ on:=7,ground:=Go.Ground.phase },{ on:=8,ground:=Go.Ground.phase },{ on:=9,ground:=Go.Ground.phase },{ on:=10,ground:=Go.Ground.phase },{ on:=11,ground:=Go.Ground.phase },{ on:=12,ground:=Go.Ground.phase },{ on:=13,ground:=Go.Ground.phase },{ on:=14,ground:=Go.Ground.phase }],guard:=none }) (v:=.bool false) rfl (by kernel_rfl) (by kernel_rfl) (by kernel_rfl) (fun _ _ _ h=>h) (Or.inl ⟨by rfl,fun w hSw=>?_⟩) hHeld ?_
 ·obtain ⟨s0,s1,s2,s3,s4⟩:=hSw;go_simp
 try simp only[Act.put,List.setIfInBounds_toArray,List.set_cons_zero,List.set_cons_succ]
 refine wpAnyH_done (by kernel_rfl) ?_ _
 go_wp2_with fail
 go_ret
 exact ⟨by rw[zA HE];rfl,zB hBW hD2⟩
theorem zC9 (w:World) (s:Sp) (k:Nat) (n lo hi:Int) (hs:SpAt w s k lo hi) (h0 : -1000000000≤n) (h1:n≤1000000000) :
  Calls Tryz.prog 122 #[.agg #[.bool s.ln,.slice s.la s.lN s.lc,.bool s.hn,.slice s.ha s.hN s.hc,.int .i64 s.bits],.int .i64 n] w fun r w'=>r=.returned (.bool (zAK lo hi n))∧Below w.heap.size w w':=by
 rcases cmp3 hi n with ⟨h2,h3⟩|⟨h2,h3⟩|⟨h2,h3⟩
 ·exact zLP w s k n lo hi hs h0 h1 h2 (by omega)
 ·exact zMB w s k n lo hi hs h0 h1 h2 (by omega)
 ·exact zL1 w s k n lo hi hs h0 h1 h2 (by omega)
def byI (a:Int × Int) (n d:Int):Int × Int:=(jA (pr (a.1*n) (a.2*n)) 1/d,-(-(jM (pr (a.1*n) (a.2*n)) 1)/d))
theorem kP {a:Int × Int} {n d:Int} (ha:a.1≤a.2) (hn:0≤n):byI a n d=zE a n d:=by
 have h:=Int.mul_le_mul_of_nonneg_right ha hn
 have e1:jA (pr (a.1*n) (a.2*n)) 1=a.1*n:=by
  simp only[jA,pr];simp;omega
 have e2:jM (pr (a.1*n) (a.2*n)) 1=a.2*n:=by
  simp only[jM,pr];simp;omega
 unfold byI zE;rw[e1,e2]
theorem zEA (w:World) (s:Sp) (x y:Nm) (k k1 k2 b:Nat) (a:Int × Int) (n d:Int) (hs:SpAt w s k a.1 a.2) (hx:IntAt w x.neg x.a x.n x.cap k1 n) (hy:IntAt w y.neg y.a y.n y.cap k2 d) (hk:k≤100000000) (hk1:k1≤100000000) (hk2:k2≤100000000) (hd:0<d) (hbits:s.bits=(b:Int)) :
  Calls Tryz.prog 56 #[.agg #[.bool s.ln,.slice s.la s.lN s.lc,.bool s.hn,.slice s.ha s.hN s.hc,.int .i64 s.bits],.agg #[.bool x.neg,.slice x.a x.n x.cap],.agg #[.bool y.neg,.slice y.a y.n y.cap]] w (zH w b (k+k1+9) (byI a n d).1 (byI a n d).2):=by
 obtain ⟨W,hW⟩:∃ W,W=(((w.alloc (.cells #[.bool s.ln,.slice s.la s.lN s.lc,.bool s.hn,.slice s.ha s.hN s.hc,.int .i64 s.bits] 36)).alloc (.cells #[.bool x.neg,.slice x.a x.n x.cap] 26)).alloc (.cells #[.bool y.neg,.slice y.a y.n y.cap] 26)).alloc (.cells #[.bool false,.slice none 0 0,.bool false,.slice none 0 0,.int .i64 0] 36):=⟨_,rfl⟩;have hBW:Below w.heap.size w W:=by rw[hW];exact bl4 _ _ _ _ _
 have A:SpC W w.heap.size s:=by rw[hW];constructor <;> simp[go_sem]
 have X:NmC W (w.heap.size+1) x:=by rw[hW];constructor <;> simp[go_sem]
 have Y:NmC W (w.heap.size+1+1) y:=by rw[hW];constructor <;> simp[go_sem]
 have R:NoC W (w.heap.size+1+1+1):=by rw[hW];constructor <;> simp[go_sem]
 have HS:=zC (hs.bw hBW);have HX:=zC (hx.bw hBW);have HY:=zC (hy.bw hBW);have HB:=zC hbits;have HK:=zC (show ∀ w',Below W.heap.size W w'→(w'.cell? ⟨w.heap.size,0,none⟩=some (.bool s.ln)∧w'.cell? ⟨w.heap.size,1,none⟩=some (.slice s.la s.lN s.lc)∧w'.cell? ⟨w.heap.size,2,none⟩=some (.bool s.hn)∧w'.cell? ⟨w.heap.size,3,none⟩=some (.slice s.ha s.hN s.hc)∧w'.cell? ⟨w.heap.size+1,0,none⟩=some (.bool x.neg)∧w'.cell? ⟨w.heap.size+1,1,none⟩=some (.slice x.a x.n x.cap)) from fun w' hB=>⟨(A.bw hB).c0,(A.bw hB).c1,(A.bw hB).c2,(A.bw hB).c3,(X.bw hB).c0,(X.bw hB).c1⟩)
 clear hs hx hy hbits
 go_enter Tryz.func56,Tryz.ntmps56
 go_wp2;rw[← hW];clear hW;obtain ⟨x0,x1,x2,x3,x4,x5⟩:=zA HK _ (Below.refl _ _);have hB0:Below W.heap.size W W.drew:=(Below.refl _ _).drew
 go_region_held3 (fun w'=>w'.cell? ⟨w.heap.size,0,none⟩=some (.bool s.ln)∧w'.cell? ⟨w.heap.size,1,none⟩=some (.slice s.la s.lN s.lc)∧w'.cell? ⟨w.heap.size,2,none⟩=some (.bool s.hn)∧w'.cell? ⟨w.heap.size,3,none⟩=some (.slice s.ha s.hN s.hc)∧w'.cell? ⟨w.heap.size+1,0,none⟩=some (.bool x.neg)∧w'.cell? ⟨w.heap.size+1,1,none⟩=some (.slice x.a x.n x.cap)) (exact zA HK _ (by with_reducible first|exact hB0|exact zK hB2 _|exact hB2|exact hB1))
  (first
   | (go_at_call 66;have hq:=hB1;refine (zX _ _ _ _ _ _ _ _ k k1 a.2 n _ ((zA HS).hi.bw hB1) ((zA HX).bw hB1) (by omega) (by omega)).mono ?_;rintro r w2 ⟨neg2,a2,n2,c2,rfl,hZ2,hb2⟩;have hZ1:=hZ1.bw hb2;have hB2:=zB hB1 hb2)
   | (go_at_call 66;refine (zX _ _ _ _ _ _ _ _ k k1 a.1 n _ ((zA HS).lo.bw hB0) ((zA HX).bw hB0) (by omega) (by omega)).mono ?_;rintro r w1 ⟨neg1,a1,n1,c1,rfl,hZ1,hb1⟩;have hB1:=zB hB0 hb1))
 obtain ⟨w5,hw5⟩:∃ w5,w5=w2.alloc (.cells #[.bool neg1,.slice a1 n1 c1,.bool neg2,.slice a2 n2 c2] 26):=⟨_,rfl⟩;have hB5:Below W.heap.size W w5:=by rw[hw5];exact zK hB2 _
 have hN:Nums w5 w2.heap.size 2 (k+k1) (pr ⟨neg1,a1,n1,c1⟩ ⟨neg2,a2,n2,c2⟩) (pr (a.1*n) (a.2*n)):=by rw[hw5];exact nums2' w2 _ rfl ⟨neg1,a1,n1,c1⟩ ⟨neg2,a2,n2,c2⟩ _ _ _ _ hZ1 hZ2
 have R5:=R.bw hB5;have hl1:=R5.lt;have A5:=A.bw hB5;have Y5:=Y.bw hB5;have HY5:=zC ((zA HY).bw hB5);have lA:=A5.lt;have lY:=Y5.lt;have HK1:=zC (show ∀ w',Below w5.heap.size w5 w'→(w'.cell? ⟨w.heap.size+1+1,0,none⟩=some (.bool y.neg)∧w'.cell? ⟨w.heap.size+1+1,1,none⟩=some (.slice y.a y.n y.cap)∧w'.cell? ⟨w.heap.size,4,none⟩=some (.int .i64 s.bits)) from fun w' hB=>⟨(Y5.bw hB).c0,(Y5.bw hB).c1,(A5.bw hB).c4⟩)
 have hD0:Below w5.heap.size w5 w5.drew:=(Below.refl _ _).drew;clear x0 x1 x2 x3 x4 x5 hb1 hb2 hZ1 hZ2 hB1 hB2 hB0 HK HS HX HY A X Y R;go_wp2;rw[← hw5];clear hw5;obtain ⟨x0,x1,x2⟩:=zA HK1 _ (Below.refl _ _);have n1:w.heap.size+1+1+1≠w.heap.size+1+1:=by omega
 have n2:w.heap.size+1+1≠w.heap.size+1+1+1:=by omega
 have n3:w.heap.size+1+1+1≠w.heap.size:=by omega
 have n4:w.heap.size≠w.heap.size+1+1+1:=by omega
 go_region_held3 (fun w'=>w'.cell? ⟨w.heap.size+1+1,0,none⟩=some (.bool y.neg)∧w'.cell? ⟨w.heap.size+1+1,1,none⟩=some (.slice y.a y.n y.cap)∧w'.cell? ⟨w.heap.size,4,none⟩=some (.int .i64 s.bits)) (first|exact zA HK1 _ (by with_reducible first|exact hD0|exact hD4|exact hD3|exact hD2|exact hD1)|go_keep)
  (first
   | (go_at_call 109;have hq:=hD3;refine (zB6 _ _ _ _ _ _ _ _ (k+k1) k2 _ d _ hZ8 ((zA HY5).bw hD3) (by omega) (by omega) hd).mono ?_;rintro r w9 ⟨neg9,a9,n9,c9,rfl,hZ9,hb9⟩;have hZ7:=(hZ7.bw hb8).bw hb9;have hD4:=zB hD3 hb9;obtain ⟨q0,q1,q2,q3,q4,q5⟩:=R5.bw hD4;obtain ⟨y0,y1,y2⟩:=zA HK1 _ hD4)
   | (go_at_call 102;have hq:=hD2;refine (zAF _ 1 _ (k+k1) _ _ _ (hN.bw hD2) (by omega)).mono ?_;rintro r w8 ⟨neg8,a8,n8,c8,rfl,hZ8,hb8⟩;have hD3:=zB hD2 hb8)
   | (go_at_call 108;have hq:=hD1;refine (zCZ _ _ _ _ _ _ _ _ (k+k1) k2 _ d _ hZ6 ((zA HY5).bw hD1) (by omega) (by omega) hd).mono ?_;rintro r w7 ⟨neg7,a7,n7,c7,rfl,hZ7,hb7⟩;have hD2:=zB hD1 hb7)
   | (go_at_call 106;refine (zEN _ 1 _ (k+k1) _ _ _ (hN.bw hD0) (by omega)).mono ?_;rintro r w6 ⟨neg6,a6,n6,c6,rfl,hZ6,hb6⟩;have hD1:=zB hD0 hb6))
 all_goals
  go_wp2_with fail;refine bodyPost_ret (v:=.agg #[.bool neg7,.slice a7 n7 c7,.bool neg9,.slice a9 n9 c9,.int .i64 s.bits]) (by simp[results,Tryz.results56,go_sem,q0,q1,q2,q3,q4]) rfl ⟨⟨neg7,a7,n7,c7,neg9,a9,n9,c9,s.bits⟩,rfl,zA HB,?_,?_⟩
  ·exact SpAt.put5 ⟨hZ7.mono (by omega),hZ9.mono (by omega)⟩ q0 q1 q2 q3 q4 _ _ _ _ _
  ·exact jV (zB (zB hBW hB5) hD4) (by omega) _ _ _ _ _
theorem zPQ (w:World) (s:Sp) (x:Nm) (k k1 e b:Nat) (a:Int × Int) (n:Int) (hs:SpAt w s k a.1 a.2) (hx:IntAt w x.neg x.a x.n x.cap k1 n) (hle:a.1≤a.2) (hn:0≤n) (hk:k≤100000000) (hk1:k1≤100000000) (he:e≤1000000) (hbits:s.bits=(b:Int)) :
  Calls Tryz.prog 135 #[.agg #[.bool s.ln,.slice s.la s.lN s.lc,.bool s.hn,.slice s.ha s.hN s.hc,.int .i64 s.bits],.agg #[.bool x.neg,.slice x.a x.n x.cap],.int .i64 e] w (zH w b (k+k1+30) (zE a n (Q e)).1 (zE a n (Q e)).2):=by
 obtain ⟨W,hW⟩:∃ W,W=((w.alloc (.cells #[.bool s.ln,.slice s.la s.lN s.lc,.bool s.hn,.slice s.ha s.hN s.hc,.int .i64 s.bits] 36)).alloc (.cells #[.bool x.neg,.slice x.a x.n x.cap] 26)).alloc (.cells #[.bool false,.slice none 0 0,.bool false,.slice none 0 0,.int .i64 0] 36):=⟨_,rfl⟩;have hBW:Below w.heap.size w W:=by rw[hW];exact bl3 _ _ _ _
 have A:SpC W w.heap.size s:=by rw[hW];constructor <;> simp[go_sem]
 have X:NmC W (w.heap.size+1) x:=by rw[hW];constructor <;> simp[go_sem]
 have R:NoC W (w.heap.size+1+1):=by rw[hW];constructor <;> simp[go_sem]
 have HS:=zC (hs.bw hBW);have HX:=zC (hx.bw hBW);have HB:=zC hbits;have HB2:=zC (kP (d:=Q e) hle hn);have HK:=zC (show ∀ w',Below W.heap.size W w'→(w'.cell? ⟨w.heap.size,0,none⟩=some (.bool s.ln)∧w'.cell? ⟨w.heap.size,1,none⟩=some (.slice s.la s.lN s.lc)∧w'.cell? ⟨w.heap.size,2,none⟩=some (.bool s.hn)∧w'.cell? ⟨w.heap.size,3,none⟩=some (.slice s.ha s.hN s.hc)∧w'.cell? ⟨w.heap.size+1,0,none⟩=some (.bool x.neg)∧w'.cell? ⟨w.heap.size+1,1,none⟩=some (.slice x.a x.n x.cap)) from fun w' hB=>⟨(A.bw hB).c0,(A.bw hB).c1,(A.bw hB).c2,(A.bw hB).c3,(X.bw hB).c0,(X.bw hB).c1⟩)
 clear hs hx hbits hle hn
 go_enter Tryz.func135,Tryz.ntmps135
 go_wp2;rw[← hW];clear hW;obtain ⟨x0,x1,x2,x3,x4,x5⟩:=zA HK _ (Below.refl _ _);have hB0:Below W.heap.size W W.drew:=(Below.refl _ _).drew
 go_region_held3 (fun w'=>w'.cell? ⟨w.heap.size,0,none⟩=some (.bool s.ln)∧w'.cell? ⟨w.heap.size,1,none⟩=some (.slice s.la s.lN s.lc)∧w'.cell? ⟨w.heap.size,2,none⟩=some (.bool s.hn)∧w'.cell? ⟨w.heap.size,3,none⟩=some (.slice s.ha s.hN s.hc)∧w'.cell? ⟨w.heap.size+1,0,none⟩=some (.bool x.neg)∧w'.cell? ⟨w.heap.size+1,1,none⟩=some (.slice x.a x.n x.cap)) (exact zA HK _ (by with_reducible first|exact hB0|exact zK hB2 _|exact hB2|exact hB1))
  (first
   | (go_at_call 66;have hq:=hB1;refine (zX _ _ _ _ _ _ _ _ k k1 a.2 n _ ((zA HS).hi.bw hB1) ((zA HX).bw hB1) (by omega) (by omega)).mono ?_;rintro r w2 ⟨neg2,a2,n2,c2,rfl,hZ2,hb2⟩;have hZ1:=hZ1.bw hb2;have hB2:=zB hB1 hb2)
   | (go_at_call 66;refine (zX _ _ _ _ _ _ _ _ k k1 a.1 n _ ((zA HS).lo.bw hB0) ((zA HX).bw hB0) (by omega) (by omega)).mono ?_;rintro r w1 ⟨neg1,a1,n1,c1,rfl,hZ1,hb1⟩;have hB1:=zB hB0 hb1))
 obtain ⟨w5,hw5⟩:∃ w5,w5=w2.alloc (.cells #[.bool neg1,.slice a1 n1 c1,.bool neg2,.slice a2 n2 c2] 26):=⟨_,rfl⟩;have hB5:Below W.heap.size W w5:=by rw[hw5];exact zK hB2 _
 have hN:Nums w5 w2.heap.size 2 (k+k1) (pr ⟨neg1,a1,n1,c1⟩ ⟨neg2,a2,n2,c2⟩) (pr (a.1*n) (a.2*n)):=by rw[hw5];exact nums2' w2 _ rfl ⟨neg1,a1,n1,c1⟩ ⟨neg2,a2,n2,c2⟩ _ _ _ _ hZ1 hZ2
 have R5:=R.bw hB5;have hl1:=R5.lt;have A5:=A.bw hB5;have lA:=A5.lt;have HK1:=zC (show ∀ w',Below w5.heap.size w5 w'→(w'.cell? ⟨w.heap.size,4,none⟩=some (.int .i64 s.bits)) from fun w' hB=>(A5.bw hB).c4)
 have hD0:Below w5.heap.size w5 w5.drew:=(Below.refl _ _).drew;clear x0 x1 x2 x3 x4 x5 hb1 hb2 hZ1 hZ2 hB1 hB2 hB0 HK HS HX A X R;go_wp2;rw[← hw5];clear hw5;have x0:=zA HK1 _ (Below.refl _ _);have n3:w.heap.size+1+1≠w.heap.size:=by omega
 have n4:w.heap.size≠w.heap.size+1+1:=by omega
 go_region_held3 (fun w'=>w'.cell? ⟨w.heap.size,4,none⟩=some (.int .i64 s.bits)) (first|exact zA HK1 _ (by with_reducible first|exact hD0|exact hD6|exact hD5|exact hD4|exact hD3|exact hD2|exact hD1)|go_keep)
  (first
   | (go_at_call 103;have hq:=hD5;refine (jY _ _ _ _ (k+k1+5+2) _ _ (hZ10.mono (by omega)) (by omega)).mono ?_;rintro r w11 ⟨neg11,a11,n11,c11,rfl,hZ11,hb11⟩;have hZ7:=((((hZ7.bw hb8).bw hb9).bw hb10).bw hb11);have hD6:=zB hD5 hb11;obtain ⟨q0,q1,q2,q3,q4,q5⟩:=R5.bw hD6;have y0:=zA HK1 _ hD6)
   | (go_at_call 105;have hq:=hD4;refine (zA2 _ _ _ _ e _ _ _ hZ9 (by omega) (by omega)).mono ?_;rintro r w10 ⟨neg10,a10,n10,c10,rfl,hZ10,hb10⟩;have hD5:=zB hD4 hb10)
   | (go_at_call 103;have hq:=hD3;refine (jY _ _ _ _ (k+k1) _ _ hZ8 (by omega)).mono ?_;rintro r w9 ⟨neg9,a9,n9,c9,rfl,hZ9,hb9⟩;have hD4:=zB hD3 hb9)
   | (go_at_call 102;have hq:=hD2;refine (zAF _ 1 _ (k+k1) _ _ _ (hN.bw hD2) (by omega)).mono ?_;rintro r w8 ⟨neg8,a8,n8,c8,rfl,hZ8,hb8⟩;have hD3:=zB hD2 hb8)
   | (go_at_call 105;have hq:=hD1;refine (zA2 _ _ _ _ e _ _ _ hZ6 (by omega) (by omega)).mono ?_;rintro r w7 ⟨neg7,a7,n7,c7,rfl,hZ7,hb7⟩;have hD2:=zB hD1 hb7)
   | (go_at_call 106;refine (zEN _ 1 _ (k+k1) _ _ _ (hN.bw hD0) (by omega)).mono ?_;rintro r w6 ⟨neg6,a6,n6,c6,rfl,hZ6,hb6⟩;have hD1:=zB hD0 hb6))
 all_goals
  go_wp2_with fail;refine bodyPost_ret (v:=.agg #[.bool neg7,.slice a7 n7 c7,.bool neg11,.slice a11 n11 c11,.int .i64 s.bits]) (by simp[results,Tryz.results135,go_sem,q0,q1,q2,q3,q4]) rfl ⟨⟨neg7,a7,n7,c7,neg11,a11,n11,c11,s.bits⟩,rfl,zA HB,?_,?_⟩
  ·rw[← zA HB2]
   exact SpAt.put5 ⟨hZ7.mono (by omega),hZ11.mono (by omega)⟩ q0 q1 q2 q3 q4 _ _ _ _ _
  ·exact jV (zB (zB hBW hB5) hD6) (by omega) _ _ _ _ _
open Ex
def zBS (f:Nat→Int × Int) (N:Nat):Int × Int:=jJ (jG f N) (-1,1)
theorem Iv.mono {B:Nat} {a b:Int × Int} {x:Nat→Rat} (h:Iv B a x) (h1:b.1≤a.1) (h2:a.2≤b.2):Iv B b x:=by
 have q:=zV B;exact Has.mono h (jS q (by rw[rdm q];exact zW h1)) (jS q (by rw[rdm q];exact zW h2))
theorem zPU {B N:Nat} {f:Nat→Int × Int} {x:Nat→Rat} (h:Iv B (zQ f N) x) (hr:zT (f N)≤1):Iv B (zBS f N) x:=by
 refine h.mono ?_ ?_ <;> simp only[zBS,zQ,jJ] <;> omega
theorem zE6 {b:Nat} {X:Int} (h0:0≤X) (h1:X≤Q b) (n:Nat):Abs (zY b (X,X) (n+1)) (Q (b-n)):=by
 have hX:Abs (X,X) (Q b):=⟨by simp only[];omega,by simp only[];omega,by simp only[];omega,by simp only[];omega⟩
 induction n with
 | zero =>
  have h2:Abs (zY b (X,X) 0) (Q b):=by have:=zG b;exact ⟨by simp[zY];omega,by simp[zY],by simp[zY];omega,by simp[zY]⟩
  exact yR (yW h2 hX (Int.le_refl _)) (by omega) (by omega) (by omega)
 | succ n ih =>
  have h2:Abs (kJ b (zY b (X,X) (n+1)) (X,X)) (Q (b-n)):=yW ih hX (Int.le_refl _);obtain ⟨g1,g2,g3,g4⟩:=h2;have q:=zG (b-(n+1))
  have hq:Q (b-n)≤Q (b-(n+1))*((n+1:Nat)+1:Int):=by
   by_cases hb:b-n=0
   ·have e:b-(n+1)=0:=by omega
    rw[hb,e];simp[Q];omega
   ·have e:b-n=b-(n+1)+1:=by omega
    rw[e];have e2:Q (b-(n+1)+1)=2*Q (b-(n+1)):=rfl;rw[e2];have:=Int.mul_le_mul_of_nonneg_left (show (2:Int)≤((n+1:Nat)+1:Int) by omega) (show 0≤Q (b-(n+1)) by omega)
    omega
  have d0:(0:Int)<((n+1:Nat)+1:Int):=by omega
  have r1:=jD (x:=(kJ b (zY b (X,X) (n+1)) (X,X)).1*1) (m:=Q (b-(n+1))) d0 (by omega) (by omega)
  have r2:=jD (x:=(kJ b (zY b (X,X) (n+1)) (X,X)).2*1) (m:=Q (b-(n+1))) d0 (by omega) (by omega)
  exact ⟨r1.1,r1.2.1,r2.2.2.1,r2.2.2.2⟩
theorem zED {b:Nat} {X:Int} (h0:0≤X) (h1:X≤Q b) (n:Nat):Abs (zY b (X,X) n) (Q b):=by
 cases n with
 | zero=>have:=zG b;exact ⟨by simp[zY];omega,by simp[zY],by simp[zY];omega,by simp[zY]⟩
 | succ n=>exact (zE6 h0 h1 n).mono (zJ (by omega))
def zC2 (f:Nat→Int × Int) (N:Nat):Prop:=3≤N∧zT (f N)≤1∧∀ n,3≤n→n<N→1<zT (f n)
theorem zLI {b:Nat} {X:Int} (h0:0≤X) (h1:X≤Q b):∃ N,N≤b+4∧zC2 (zY b (X,X)) N:=by
 have h2:3≤b+4∧zT (zY b (X,X) (b+4))≤1:=by
  refine ⟨by omega,?_⟩
  have:=zAJ (zE6 h0 h1 (b+3));have e:b-(b+3)=0:=by omega
  rw[e] at this;exact this
 obtain ⟨N,n1,n2,n3⟩:=zAE (p:=fun n=>3≤n∧zT (zY b (X,X) n)≤1) h2
 exact ⟨N,n1,n2.1,n2.2,fun n h3 hn=>by have:=n3 n hn;simp at this;have:=this h3;omega⟩
theorem zLT {b:Nat} {X:Int} (h0:0≤X) (n:Nat):0≤(zY b (X,X) n).1:=by
 induction n with
 | zero=>have:=zG b;simp only[zY];omega
 | succ n ih =>
  have hle:=kX b (X,X) n;have q:=zG b;have l:=(zCS ((zY b (X,X) n).1*X) ((zY b (X,X) n).1*X) ((zY b (X,X) n).2*X) ((zY b (X,X) n).2*X)).2.2.2.2;have p1:=Int.mul_nonneg ih h0;have p2:=Int.mul_nonneg (show 0≤(zY b (X,X) n).2 by omega) h0
  have h3:0≤(kJ b (zY b (X,X) n) (X,X)).1:=by
   simp only[kJ];refine Int.ediv_nonneg ?_ (by omega)
   rcases l with l|l|l|l <;> rw[l] <;> assumption
  simp only[zY,zE];exact Int.ediv_nonneg (by omega) (by omega)
theorem low_sum {b:Nat} {X:Int} (h0:0≤X) (n:Nat):Q b≤(jG (zY b (X,X)) n).1:=by
 induction n with
 | zero=>simp[jG,zY]
 | succ n ih=>simp only[jG,jJ];have:=zLT (b:=b) h0 (n+1);omega
theorem zL3 {b:Nat} {X:Int} (h0:0≤X) (h1:X≤Q b) (n:Nat):Abs (jG (zY b (X,X)) n) (((n:Int)+1)*Q b):=by
 induction n with
 | zero=>simp only[jG];exact (zED h0 h1 0).mono (by simp)
 | succ n ih =>
  simp only[jG];refine (ih.add (zED h0 h1 (n+1))).mono ?_
  have:(((n+1:Nat):Int)+1)*Q b=((n:Int)+1)*Q b+Q b:=by
   have e:(((n+1:Nat):Int)+1)=((n:Int)+1)+1:=by omega
   rw[e,Int.add_mul,Int.one_mul]
  omega
theorem tm_half1 {x b:Rat} (hx:AB x 1) {n:Nat} (hn:1≤n) (h:AB (tm x n) b):AB (tm x (n+1)) (b/2):=by
 have e:=kB x n;have hp:=zCD n;have g:=hx.mul h;rw[← e] at g;have e3:tm x (n+1)=((n:Rat)+1)*tm x (n+1)/((n:Rat)+1):=by grind
 rw[e3];refine zAO hp (g.mono ?_);have hn':(1:Rat)≤(n:Rat):=by exact_mod_cast hn
 have:=Rat.mul_nonneg (show 0≤(n:Rat)-1 by grind) h.nonneg
 grind
theorem zNS {b N:Nat} {X:Int} (h0:0≤X) (h1:X≤Q b) (hN:zC2 (zY b (X,X)) N):Iv b (zBS (zY b (X,X)) N) (Ev (fun _=>(X:Rat)/(Q b:Rat))):=by
 have q:=zV b;have hX:Iv b (X,X) (fun _=>(X:Rat)/(Q b:Rat)):=Has.const Rat.le_refl Rat.le_refl
 have hx:AB ((X:Rat)/(Q b:Rat)) 1:=by
  refine zAO q ?_;have c1:((0:Int):Rat)≤(X:Rat):=zW h0;have c2:=zW h1;have c0:((0:Int):Rat)=0:=rfl;rw[c0] at c1;constructor <;> grind
 refine zPU ?_ hN.2.1;exact zGX (kX b (X,X)) (fun n _=>zKW hX n) 0 (fun M _ n c hn hc=>tm_half1 hx (by have:=hN.1;omega) hc)
theorem zC7 {f:Nat→Int × Int} (hle:∀ n,(f n).1≤(f n).2) (n:Nat):(zBS f n).1≤(zBS f n).2:=by
 have:=zCB hle n;simp only[zBS,jJ];omega
theorem zI3 {b:Nat} {X:Int} (h0:0≤X) (N:Nat):Q b-1≤(zBS (zY b (X,X)) N).1:=by
 have:=low_sum (b:=b) h0 N;simp only[zBS,jJ];omega
theorem low_up {b N:Nat} {X:Int} (h0:0≤X) (h1:X≤Q b) (hN:zC2 (zY b (X,X)) N):(jG (zY b (X,X)) N).2+Q (b-(N-1))≤3*Q b+3:=by
 have key:∀ n,n+1≤N→(jG (zY b (X,X)) (n+1)).2+Q (b-n)≤3*Q b+(if n ≥ 3 then 3 else n):=fun n=>by
  induction n with
  | zero =>
   intro _
   have g0:=(zED h0 h1 0).2.2.2;have g1:(zY b (X,X) 1).2≤Q b:=(zE6 h0 h1 0).2.2.2;simp only[jG,jJ,Nat.sub_zero];simp;omega
  | succ n ih =>
   intro hn
   have ih:=ih (by omega)
   have g:=(zE6 h0 h1 (n+1)).2.2.2;have e:(jG (zY b (X,X)) (n+1+1)).2=(jG (zY b (X,X)) (n+1)).2+(zY b (X,X) (n+1+1)).2:=rfl;rw[e]
   by_cases hb:1≤b-n
   ·have e2:Q (b-n)=2*Q (b-(n+1)):=by
     have:b-n=b-(n+1)+1:=by omega
     rw[this];rfl
    split at ih <;> split <;> omega
   ·-- then what came last was within 1 already
    have e3:b-n=0:=by omega
    have e4:b-(n+1)=0:=by omega
    rw[e3] at ih;rw[e4] at g ⊢;have h2:Q 0=1:=rfl
    by_cases h3:3≤n+1
    ·exfalso
     have:=hN.2.2 (n+1) h3 (by omega)
     have h4:=zAJ (zE6 h0 h1 n);rw[e3] at h4;omega
    ·split at ih <;> split <;> omega
 obtain ⟨n,rfl⟩:∃ n,N=n+1:=⟨N-1,by have:=hN.1;omega⟩
 have:=key n (Nat.le_refl _);simp only[Nat.add_sub_cancel];split at this <;> omega
theorem zG8 {b N:Nat} {X:Int} (hb:4≤b) (h0:0≤X) (h1:X≤Q b) (hN:zC2 (zY b (X,X)) N):Abs (zBS (zY b (X,X)) N) (Q (b+2)):=by
 have g1:=zI3 (b:=b) h0 N;have g2:=low_up h0 h1 hN;have g3:=zC7 (kX b (X,X)) N;have q:=zG (b-(N-1));have q2:=zJ hb;have e:Q 4=16:=rfl;have e2:Q (b+2)=2*(2*Q b):=rfl;have g4:(zBS (zY b (X,X)) N).2=(jG (zY b (X,X)) N).2+1:=rfl;exact ⟨by omega,by omega,by omega,by omega⟩
theorem zJA {B:Nat} {a c:Int × Int} {α β:Int} (ha:Q B-α≤a.1) (hc:Q B-β≤c.1) (la:a.1≤a.2) (lc:c.1≤c.2) (a0:0≤Q B-α) (c0:0≤Q B-β) (hα:0≤α) (hβ:0≤β):Q B-α-β≤(kJ B a c).1:=by
 have q:=zG B;have l:=(zCS (a.1*c.1) (a.1*c.2) (a.2*c.1) (a.2*c.2)).2.2.2.2;have p1:=Int.mul_le_mul ha hc c0 (by omega)
 have p2:=Int.mul_le_mul ha (show Q B-β≤c.2 by omega) c0 (by omega)
 have p3:=Int.mul_le_mul (show Q B-α≤a.2 by omega) hc c0 (by omega)
 have p4:=Int.mul_le_mul (show Q B-α≤a.2 by omega) (show Q B-β≤c.2 by omega) c0 (by omega)
 have e:(Q B-α)*(Q B-β)=(Q B-α-β)*Q B+α*β:=by grind
 have ab:=Int.mul_nonneg hα hβ;simp only[kJ];rw[Int.le_ediv_iff_mul_le (by omega)]
 omega
def EInv (B n:Nat) (m:Nat) (o c:Int × Int):Prop :=
 ∃ j e:Nat,j+e*m=n∧1≤e∧e≤2*n+1∧Iv B o (Ev (fun _=>(j:Rat)))∧Iv B c (Ev (fun _=>(e:Rat)))∧Abs o (Q (B+2*j))∧Abs c (Q (B+2*e))∧o.1≤o.2∧c.1≤c.2∧Q B-2*(j:Int)≤o.1∧Q B-(2*(e:Int)-1)≤c.1
theorem ev_nat (i j:Nat):Null (fun M=>Ev (fun _=>(i:Rat)) M*Ev (fun _=>(j:Rat)) M-Ev (fun _=>((i+j:Nat):Rat)) M):=by
 have n:=zA1 (Bdd.const (i:Rat)) (Bdd.const (j:Rat));have e:(fun _:Nat=>(i:Rat)+(j:Rat))=fun _=>((i+j:Nat):Rat):=funext fun _=>by simp
 rw[e] at n;exact n
theorem zOI {B n m:Nat} {o c:Int × Int} (hB:20≤B) (hn:n≤100000) (hm:0<m) (h:EInv B n m o c) :
  EInv B n (m/2) (if m % 2=1 then kJ B o c else o) (kJ B c c)∧Abs (kJ B c c) (Q (B+4*(2*n+1)))∧(m % 2=1→Abs (kJ B o c) (Q (B+2*n))):=by
 obtain ⟨j,e,h1,h2,h3,h4,h5,h6,h7,h8,h9,h10,h11⟩:=h
 have hem:e≤n:=by
  have:=Nat.mul_le_mul_left e hm;omega
 have hQ:1048576≤Q B:=by have:=zJ hB;have e:Q 20=1048576:=rfl;omega
 have habs:∀ p q r:Nat,∀ u v:Int × Int,p+q=r→Abs u (Q (B+2*p))→Abs v (Q (B+2*q))→Abs (kJ B u v) (Q (B+2*r)):=fun p q r u v hr hu hv=>by
  refine yW hu hv ?_;rw[← jC,← jC];exact zJ (by omega)
 have hcc:=habs e e (2*e) c c (by omega) h7 h7
 have hsq:Iv B (kJ B c c) (Ev (fun _=>((2*e:Nat):Rat))):=by
  have:Iv B (kJ B c c) (Ev (fun _=>((e+e:Nat):Rat))):=(h5.mul h5).congr ((ev_nat e e).neg.of_eq fun M=>by grind)
  rw[show e+e=2*e by omega] at this
  exact this
 have hlow:Q B-(2*((2*e:Nat):Int)-1)≤(kJ B c c).1:=by
  have:=zJA (B:=B) h11 h11 h9 h9 (by omega) (by omega) (by omega) (by omega)
  omega
 refine ⟨?_,hcc.mono (zJ (by omega)),fun hodd=>?_⟩
 ·by_cases hodd:m % 2=1
  ·rw[if_pos hodd]
   have hme:e*m=2*e*(m/2)+e:=by
    have:m=2*(m/2)+1:=by omega
    have e1:e*m=e*(2*(m/2)+1):=by rw[← this]
    rw[e1,Nat.mul_add,Nat.mul_one,← Nat.mul_assoc,Nat.mul_comm e 2]
   refine ⟨j+e,2*e,by omega,by omega,by omega,?_,hsq,habs j e (j+e) o c rfl h6 h7,hcc,kV B,kV B,?_,hlow⟩
   ·exact (h4.mul h5).congr ((ev_nat j e).neg.of_eq fun M=>by grind)
   ·have hj:j≤n:=by omega
    have:=zJA (B:=B) h10 h11 h8 h9 (by omega) (by omega) (by omega) (by omega)
    omega
  ·rw[if_neg hodd]
   have hme:e*m=2*e*(m/2):=by
    have:m=2*(m/2):=by omega
    have e1:e*m=e*(2*(m/2)):=by rw[← this]
    rw[e1,← Nat.mul_assoc,Nat.mul_comm e 2]
   exact ⟨j,2*e,by omega,by omega,by omega,h4,hsq,h6,hcc,h8,kV B,h10,hlow⟩
 ·have hje:j+e≤n:=by
   have:=Nat.mul_le_mul_left e (show 1≤m by omega)
   omega
  exact (habs j e (j+e) o c rfl h6 h7).mono (zJ (by omega))
theorem zLW {B N n:Nat} (hB:20≤B) (hN:zC2 (zY B (Q B,Q B)) N):EInv B n n (Q B,Q B) (zBS (zY B (Q B,Q B)) N):=by
 have q:=zG B;have qr:=zV B;have e1:(Q B:Rat)/(Q B:Rat)=1:=by rw[Rat.div_def,Rat.mul_inv_cancel _ (by grind)]
 refine ⟨0,1,by omega,by omega,by omega,?_,?_,?_,zG8 (by omega) (by omega) (Int.le_refl _) hN,Int.le_refl _,zC7 (kX _ _) N,by simp,?_⟩
 ·have h:Iv B (Q B,Q B) (fun _=>(1:Rat)):=by
   have:=Has.const (a:=(Q B:Rat)/(Q B:Rat)) (b:=(Q B:Rat)/(Q B:Rat)) (c:=1) (by rw[e1];exact Rat.le_refl) (by rw[e1];exact Rat.le_refl)
   exact this
  refine h.congr (null_zero.of_eq_from 1 fun M hM=>?_)
  obtain ⟨m,rfl⟩:∃ m,M=m+1:=⟨M-1,by omega⟩
  show E ((0:Nat):Rat) (m+1)-1=0
  have:((0:Nat):Rat)=0:=by simp
  rw[this,zA9];grind
 ·have:=zNS (b:=B) (X:=Q B) (by omega) (Int.le_refl _) hN
  rw[e1] at this;have e2:((1:Nat):Rat)=1:=rfl;rw[e2];exact this
 ·exact ⟨by simp;omega,by simp,by simp;omega,by simp⟩
 ·have:=zI3 (b:=B) (X:=Q B) (by omega) N
  simp;omega
theorem einv_end {B n:Nat} {o c:Int × Int} (h:EInv B n 0 o c):Iv B o (Ev (fun _=>(n:Rat)))∧Abs o (Q (B+2*n))∧o.1≤o.2∧Q B-2*(n:Int)≤o.1:=by
 obtain ⟨j,e,h1,h2,h3,h4,h5,h6,h7,h8,h9,h10,h11⟩:=h;have:j=n:=by omega
 subst this;exact ⟨h4,h6,h8,h10⟩
theorem expR_has {B n N:Nat} {X:Int} {o:Int × Int} (hB:20≤B) (hX:X/Q B=(n:Int)) (h0:0≤X) (hn:n≤100000) (ho:Iv (B+40) o (Ev (fun _=>(n:Rat)))) (ha:Abs o (Q (B+40+2*n))) (hle:o.1≤o.2) (hlo:Q (B+40)-2*(n:Int)≤o.1)
  (hN:zC2 (zY (B+40) ((X-n*Q B)*Q 40,(X-n*Q B)*Q 40)) N) (hY0:0≤(X-n*Q B)*Q 40) (hY1:(X-n*Q B)*Q 40≤Q (B+40)) :
  let p:=kJ (B+40) o (zBS (zY (B+40) ((X-n*Q B)*Q 40,(X-n*Q B)*Q 40)) N)
  Iv B (zN p 40) (Ev (fun _=>(X:Rat)/(Q B:Rat)))∧Abs p (Q (B+40+2*(n+1)))∧p.1≤p.2∧Q B-1≤(zN p 40).1:=by
 intro p
 have qB:=zV B;have q40:=zV 40;have hl:=zNS hY0 hY1 hN;have hm:=ho.mul hl;have n1:=zA1 (Bdd.const (n:Rat)) (Bdd.const (((X-n*Q B)*Q 40:Int)/(Q (B+40):Rat)))
 have e:(fun _:Nat=>(n:Rat)+(((X-n*Q B)*Q 40:Int):Rat)/(Q (B+40):Rat))=fun _=>(X:Rat)/(Q B:Rat):=funext fun _=>by
  have e1:(Q (B+40):Rat)=(Q B:Rat)*(Q 40:Rat):=by rw[jC,Rat.intCast_mul]
  have e2:(((X-n*Q B)*Q 40:Int):Rat)=((X:Rat)-(n:Rat)*(Q B:Rat))*(Q 40:Rat):=by
   rw[Rat.intCast_mul,Rat.intCast_sub,Rat.intCast_mul];rfl
  have f1:=rdm (a:=(X:Rat)) qB;have f2:=rdm (a:=(((X-n*Q B)*Q 40:Int):Rat)) (show (0:Rat)<(Q (B+40):Rat) from zV _)
  rw[e1,e2] at f2 ⊢;generalize (X:Rat)/(Q B:Rat)=x at *;generalize ((X:Rat)-(n:Rat)*(Q B:Rat))*(Q 40:Rat)/((Q B:Rat)*(Q 40:Rat))=y at *;have f3:(Q 40:Rat)*((Q B:Rat)*(y-(x-n)))=0:=by rw[← f1] at f2;grind
  rcases Rat.mul_eq_zero.1 f3 with h|h
  ·grind
  ·rcases Rat.mul_eq_zero.1 h with h|h
   ·grind
   ·grind
 rw[e] at n1;have hp:Iv (B+40) p (Ev (fun _=>(X:Rat)/(Q B:Rat))):=hm.congr (n1.neg.of_eq fun M=>by grind)
 have hd:=zI3 (b:=B+40) hY0 N;have hdl:=zC7 (kX (B+40) ((X-n*Q B)*Q 40,(X-n*Q B)*Q 40)) N;have hq:1048576≤Q (B+40):=by have:=zJ (show 20≤B+40 by omega);have e:Q 20=1048576:=rfl;omega
 have hlow:Q (B+40)-2*(n:Int)-1≤p.1:=zJA hlo hd hle hdl (by omega) (by omega) (by omega) (by omega)
 refine ⟨hp.to,?_,kV _,?_⟩
 ·refine yW ha (zG8 (by omega) hY0 hY1 hN) ?_
  rw[← jC,← jC];exact zJ (by omega)
 ·show Q B-1≤p.1/Q 40
  have e40:Q 40=1099511627776:=rfl;have eB:Q (B+40)=Q B*Q 40:=jC B 40;rw[Int.le_ediv_iff_mul_le (by rw[e40];omega),Int.sub_mul,← eB]
  omega
namespace Ex
theorem has_inv {a b L H:Rat} {y z:Nat→Rat} (hy:Has a b y) (ha:0<a) (hz:Null (fun M=>z M*y M-1)) (N0:Nat) (hz0:∀ M,N0≤M→0≤z M) (h1:L*b≤1) (h2:1≤H*a):Has L H z:=fun e he=>by
 have hab:=hy.le;have hb:0<b:=by grind
 obtain ⟨l,hl⟩:=AB.self L;obtain ⟨h,hh⟩:=AB.self H;have l0:=hl.nonneg;have h0:=hh.nonneg;obtain ⟨hl1,hl2⟩:=hl;obtain ⟨hh1,hh2⟩:=hh;have hK:0<2*(l+h+e+1):=by grind
 have hae:=Rat.mul_pos he ha;have hδ:=zL hae hK;have hδe:=rdm (a:=e*a) hK;obtain ⟨N1,k1⟩:=hy _ hδ;obtain ⟨N2,k2⟩:=hz _ hδ;refine ⟨N0+N1+N2,fun M hM=>?_⟩
 obtain ⟨y1,y2⟩:=k1 M (by omega)
 obtain ⟨z1,z2⟩:AB (z M*y M-1) (e*a/(2*(l+h+e+1))):=k2 M (by omega)
 have zp:=hz0 M (by omega)
 generalize e*a/(2*(l+h+e+1))=δ at *;generalize z M=Z at *;generalize y M=Y at *;have hd2:δ*(2*(l+h+e+1))=2*(δ*l)+2*(δ*h)+2*(δ*e)+2*δ:=by grind
 rw[hd2] at hδe;have p1:=Rat.mul_nonneg (Rat.le_of_lt hδ) l0;have p2:=Rat.mul_nonneg (Rat.le_of_lt hδ) h0;have p3:=Rat.mul_pos hδ he;have p4:=Rat.mul_nonneg (Rat.le_of_lt he) (show 0≤b-a by grind)
 constructor
 ·refine Rat.not_lt.1 fun hn=>?_
  have q1:=Rat.mul_nonneg zp (show 0≤b+δ-Y by grind)
  have q2:=Rat.mul_pos (show 0<L-e-Z by grind) (show 0<b+δ by grind)
  have q3:L*δ≤δ*l:=by
   have:=Rat.mul_nonneg (Rat.le_of_lt hδ) (show 0≤l-L by grind)
   grind
  grind
 ·refine Rat.not_lt.1 fun hn=>?_
  have q1:=Rat.mul_nonneg zp (show 0≤Y-(a-δ) by grind)
  have q4:δ<a:=by
   refine Rat.not_le.1 fun hc=>?_
   have:=Rat.mul_nonneg (show 0≤δ-a by grind) (Rat.le_of_lt he)
   grind
  have q2:=Rat.mul_pos (show 0<Z-(H+e) by grind) (show 0<a-δ by grind)
  have q3:H*δ≤δ*h:=by
   have:=Rat.mul_nonneg (Rat.le_of_lt hδ) (show 0≤h-H by grind)
   grind
  grind
theorem zJR {a b c d:Rat} {u v x m n:Nat→Rat} (hu:Has a b u) (hv:Has c d v) (hm:Null m) (hn:Null n) (N:Nat) (h1:∀ M,N≤M→u M≤x M+m M) (N':Nat) (h2:∀ M,N'≤M→x M≤v M+n M):Has a d x:=fun e he=>by
 obtain ⟨N1,k1⟩:=hu (e/2) (by grind)
 obtain ⟨N2,k2⟩:=hv (e/2) (by grind)
 obtain ⟨N3,k3⟩:=hm (e/2) (by grind)
 obtain ⟨N4,k4⟩:=hn (e/2) (by grind)
 refine ⟨N+N'+N1+N2+N3+N4,fun M hM=>?_⟩
 have g1:=k1 M (by omega)
 have g2:=k2 M (by omega)
 obtain ⟨g3,g4⟩:=k3 M (by omega)
 obtain ⟨g5,g6⟩:=k4 M (by omega)
 have g7:=h1 M (by omega)
 have g8:=h2 M (by omega)
 constructor <;> grind
end Ex
theorem inv_has {B:Nat} {p:Int × Int} {x:Rat} {lo hi:Int} (hp:0<p.1) (h:Iv B p (Ev (fun _ => -x))) (h1:lo*p.2≤Q B*Q B) (h2:Q B*Q B≤hi*p.1):Iv B (lo,hi) (Ev (fun _=>x)):=by
 have q:=zV B;obtain ⟨c,hc,N,hN⟩:=zC5 (Bdd.const x);have hz:=zK0 (Bdd.const x);have q2:=Rat.mul_pos q q;have hp':(0:Rat)<(p.1:Rat):=by exact_mod_cast hp
 refine has_inv h (zL hp' q) hz N (fun M hM=>by have:=hN M hM;grind) ?_ ?_
 ·have e1:=rdm (a:=(lo:Rat)) q
  have e2:=rdm (a:=(p.2:Rat)) q;have g:=zW h1;rw[Rat.intCast_mul,Rat.intCast_mul] at g;simp only[];generalize (lo:Rat)/(Q B:Rat)=u at *;generalize (p.2:Rat)/(Q B:Rat)=v at *;rw[← e1,← e2] at g;refine Rat.not_lt.1 fun hn=>?_
  have:=Rat.mul_pos (show 0<u*v-1 by grind) q2
  grind
 ·have e1:=rdm (a:=(hi:Rat)) q
  have e2:=rdm (a:=(p.1:Rat)) q;have g:=zW h2;rw[Rat.intCast_mul,Rat.intCast_mul] at g;simp only[];generalize (hi:Rat)/(Q B:Rat)=u at *;generalize (p.1:Rat)/(Q B:Rat)=v at *;rw[← e1,← e2] at g;refine Rat.not_lt.1 fun hn=>?_
  have:=Rat.mul_pos (show 0<1-u*v by grind) q2
  grind
end Go.Proofs.YtgmnknmjainababGreat
