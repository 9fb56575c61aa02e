/-
  Its own texts.
-/
import Derived.Test.YtgmnknmjainababGreatK14
set_option maxRecDepth 100000
set_option maxHeartbeats 8000000
set_option linter.unnecessarySimpa false
set_option linter.unusedSimpArgs false
set_option linter.unusedVariables false
namespace Go.Proofs.YtgmnknmjainababGreat
open Go.RowKit
attribute [local go_sem ↓] Go.wp_at_zero Go.wp_at_succ
theorem over_one {B:Nat} {o:Int × Int} (h1:0<o.1) (h2:o.1≤o.2):zEB (Q B) (Q B) o.1 o.2 B=Q B*Q B/o.2∧zE1 (Q B) (Q B) o.1 o.2 B = -(-(Q B*Q B)/o.1):=by
 have q:=zG B;have p:=Int.mul_nonneg (show 0≤Q B by omega) (show 0≤Q B by omega)
 unfold zEB zE1 ovLo zKD;rw[if_neg (by omega),if_neg (by omega),if_neg (by omega),if_neg (by omega)]
 exact ⟨rfl,rfl⟩
theorem over_fit {B:Nat} {o:Int × Int} (hB:20≤B) (h1:Q B-1≤o.1) (h2:o.1≤o.2):0≤Q B*Q B/o.2∧Q B*Q B/o.2 ≤ -(-(Q B*Q B)/o.1) ∧ -(-(Q B*Q B)/o.1)≤Q B+2∧Q B*Q B/o.2*o.2≤Q B*Q B∧Q B*Q B ≤ -(-(Q B*Q B)/o.1)*o.1:=by
 have q:1048576≤Q B:=by have:=zJ hB;have e:Q 20=1048576:=rfl;omega
 have p:=Int.mul_nonneg (show 0≤Q B by omega) (show 0≤Q B by omega)
 have a1:=zDH (Q B*Q B) o.2 (by omega)
 have a2:=zBQ (Q B*Q B) o.1 (by omega)
 have a3:0≤Q B*Q B/o.2:=Int.ediv_nonneg p (by omega)
 have a4:=(jD (x:=Q B*Q B) (m:=Q B+2) (q:=o.1) (by omega) (by have:=Int.mul_nonneg (show 0≤Q B+2 by omega) (show 0≤o.1 by omega);omega) (by
  have:=Int.mul_le_mul_of_nonneg_left h1 (show 0≤Q B+2 by omega)
  grind)).2.2.2
 refine ⟨a3,?_,a4,a1,a2⟩;refine Int.not_lt.1 fun hn=>?_
 have h3:=Int.mul_lt_mul_of_pos_right hn (show 0<o.1 by omega)
 have h4:=Int.mul_le_mul_of_nonneg_left h2 a3;omega
theorem zMS (X:Int) (B:Nat):((-X:Int):Rat)/(Q B:Rat) = -((X:Rat)/(Q B:Rat)):=by rw[Rat.intCast_neg,Rat.div_def,Rat.div_def,Rat.neg_mul]
theorem zLL (w:World) (x:Nm) (k B K n:Nat) (X:Int) (hx:IntAt w x.neg x.a x.n x.cap k X) (h0:X<0) (hXn : -X/Q B=(n:Int)) (hn:n≤100000) (hB:20≤B) (hB2:B≤400000) (hK:Q (B+40+4*(2*n+1)+20)<P K) (hK2:K≤1000000) (hkK:k≤K) (hK3:(B+40)/16+30≤K) :
  Calls Tryz.prog 156 #[.agg #[.bool x.neg,.slice x.a x.n x.cap],.int .i64 B] w (fun r w'=>∃ o:Int × Int,Iv B o (Ex.Ev (fun _=>(X:Rat)/(Q B:Rat)))∧o.1≤o.2∧zH w B K o.1 o.2 r w'):=by
 obtain ⟨W,hW⟩:∃ W,W=(w.alloc (.cells #[.bool x.neg,.slice x.a x.n x.cap] 26)).alloc (.cells #[.bool false,.slice none 0 0,.bool false,.slice none 0 0,.int .i64 0] 36):=⟨_,rfl⟩;have hBW:Below w.heap.size w W:=by rw[hW];exact bl2 _ _ _
 have A:NmC W w.heap.size x:=by rw[hW];constructor <;> simp[go_sem]
 have R:NoC W (w.heap.size+1):=by rw[hW];constructor <;> simp[go_sem]
 have HX:=zC ((hx.bw hBW).mono hkK);have hs0:zF X 0<0:=by unfold zF;rw[if_pos h0];omega
 have HXN:=zC hXn;clear hx hXn
 go_enter Tryz.func156,Tryz.ntmps156
 go_wp2_with fail;rw[← hW];clear hW;refine (jZ _ _ _ _ _ X _ (zA HX)).mono ?_;rintro r w1 ⟨rfl,hb1⟩;replace A:=A.bw hb1;replace R:=R.bw hb1;replace hBW:=zB hBW hb1;replace HX:=zC ((zA HX).bw hb1);have lA:=A.lt;have lR:=R.lt;have HK:=zC (show ∀ w',Below w1.heap.size w1 w'→(w'.cell? ⟨w.heap.size,0,none⟩=some (.bool x.neg)∧w'.cell? ⟨w.heap.size,1,none⟩=some (.slice x.a x.n x.cap)) from fun w' hB=>⟨(A.bw hB).c0,(A.bw hB).c1⟩)
 clear hb1;obtain ⟨x0,x1⟩:=zA HK _ (Below.refl _ _);have hD0:Below w1.heap.size w1 w1.drew:=(Below.refl _ _).drew;have m1:w.heap.size+1≠w.heap.size:=by omega
 have m2:w.heap.size≠w.heap.size+1:=by omega
 have hq:1048576≤Q B:=by have:=zJ hB;have e:Q 20=1048576:=rfl;omega
 go_wp2_with fail
 go_region_held3 (fun w'=>w'.cell? ⟨w.heap.size,0,none⟩=some (.bool x.neg)∧w'.cell? ⟨w.heap.size,1,none⟩=some (.slice x.a x.n x.cap)) (first|exact zA HK _ (by with_reducible first|exact hD0|exact hD4|exact hD3|exact hD2|exact hD1)|go_keep)
  (first
   | (go_at_call 91;have hqq:=hD3;refine (zIY _ v2 v4 K B (Q B) (Q B) o4.1 o4.2 ((((hZ2.mono (by omega)).bw hb3).bw hb4)) hZ4 (by omega) (by omega) (zA HVB2) (by have:=(zA HI4).2.2.1;omega) (zA HI4).2.1).mono ?_;rintro r' w5 ⟨v5,rfl,hvb5,hvp5,hb5⟩;have hD4:=zB hD3 hb5;have HV5:=zC hvb5;clear hvb5;obtain ⟨q0,q1,q2,q3,q4,q5⟩:=R.bw hD4;obtain ⟨y0,y1⟩:=zA HK _ hD4)
   | (go_at_call 156;have hqq:=hD2;refine (zFX _ ⟨neg3,a3,n3,c3⟩ K B K n (-X) hZ3 (by omega) (zA HXN) hn hB hB2 hK hK2 (Nat.le_refl _) hK3).mono ?_;rintro r' w4 ⟨o4,i1,i2,i3,i4,v4,rfl,hvb4,hZ4,hb4⟩;have hD3:=zB hD2 hb4;have HI4:=zC (And.intro i1 (And.intro i2 (And.intro i3 i4)));have HVB4:=zC hvb4;clear hvb4 i1 i2 i3 i4)
   | (go_at_call 103;have hqq:=hD1;refine (jY _ _ _ _ K X _ ((zA HX).bw hD1) (by omega)).mono ?_;rintro r' w3 ⟨neg3,a3,n3,c3,rfl,hZ3,hb3⟩;have hD2:=zB hD1 hb3)
   | (go_at_call 27;refine (zBZ _ 1 B (by omega) (by decide) (by decide)).mono ?_;rintro r' w2 ⟨v2,rfl,hvb2,hZ2,hb2⟩;rw[Int.one_mul] at hZ2;have hD1:=zB hD0 hb2;have HVB2:=zC hvb2;clear hvb2))
 all_goals
  obtain ⟨i1,i2,i3,i4⟩:=zA HI4;obtain ⟨e1,e2⟩:=over_one (B:=B) (o:=o4) (by omega) i2
  obtain ⟨f1,f2,f3,f4,f5⟩:=over_fit hB i3 i2;rw[e1,e2] at hvp5
  have hPK:Q B+2<P K:=by
   have h1:=zJ (show B+1≤B+40+4*(2*n+1)+20 by omega)
   have h2:Q (B+1)=2*Q B:=rfl;omega
  replace hvp5:=hvp5.fits (K:=K) f2 (by have:=kN K;omega) (by omega)
  rw[zMS] at i1;have HO:=zC (And.intro (inv_has (x:=(X:Rat)/(Q B:Rat)) (by omega) i1 f4 f5) f2)
  clear i1 i2 i3 i4 e1 e2 f1 f2 f3 f4 f5 hPK;go_wp2_with fail;refine bodyPost_ret (v:=.agg #[.bool v5.ln,.slice v5.la v5.lN v5.lc,.bool v5.hn,.slice v5.ha v5.hN v5.hc,.int .i64 v5.bits]) (by simp[results,Tryz.results156,go_sem,q0,q1,q2,q3,q4]) rfl ⟨(Q B*Q B/o4.2,-(-(Q B*Q B)/o4.1)),(zA HO).1,(zA HO).2,v5,rfl,zA HV5,?_,?_⟩
  ·exact SpAt.put5 hvp5 q0 q1 q2 q3 q4 _ _ _ _ _
  ·exact jV (zB hBW hD4) (Nat.le_succ _) _ _ _ _ _
def wh (X:Int) (B:Nat):Int:=(if 0≤X then X else -X)/Q B
theorem zGC (w:World) (x:Nm) (k B K n:Nat) (X:Int) (hx:IntAt w x.neg x.a x.n x.cap k X) (hXn:wh X B≤(n:Int)) (hn:n≤100000) (hB:20≤B) (hB2:B≤400000) (hK:Q (B+40+4*(2*n+1)+20)<P K) (hK2:K≤1000000) (hkK:k≤K) (hK3:(B+40)/16+30≤K) :
  Calls Tryz.prog 156 #[.agg #[.bool x.neg,.slice x.a x.n x.cap],.int .i64 B] w (fun r w'=>∃ o:Int × Int,Iv B o (Ex.Ev (fun _=>(X:Rat)/(Q B:Rat)))∧o.1≤o.2∧(0≤X→Q B-1≤o.1)∧zH w B K o.1 o.2 r w'):=by
 have q:=zG B;have h0:0≤wh X B:=by unfold wh;split <;> exact Int.ediv_nonneg (by omega) (by omega)
 obtain ⟨m,hm⟩:∃ m:Nat,wh X B=(m:Int):=⟨(wh X B).toNat,by omega⟩
 have hK':Q (B+40+4*(2*m+1)+20)<P K:=Int.lt_of_le_of_lt (zJ (by omega)) hK
 have hmn:m≤n:=by omega
 by_cases hX:0≤X
 ·unfold wh at hm
  rw[if_pos hX] at hm;refine (zFX w x k B K m X hx hX hm (by omega) hB hB2 hK' hK2 hkK hK3).mono ?_
  rintro r w' ⟨o,g1,g2,g3,g4,h⟩;exact ⟨o,g1,g2,fun _=>g3,h⟩
 ·unfold wh at hm
  rw[if_neg hX] at hm;exact (zLL w x k B K m X hx (by omega) hm (by omega) hB hB2 hK' hK2 hkK hK3).mono fun r w' ⟨o,g1,g2,h⟩=>⟨o,g1,g2,fun h0=>absurd h0 hX,h⟩
theorem zCA (x y:Bool) (a a':Option Addr) (n c n' c':Nat) (b:Int) (w:World):(Instr.field 36 (.agg #[.bool x,.slice a n c,.bool y,.slice a' n' c',.int .i64 b]) 0).run Tryz.prog w=.ok (.agg #[.bool x,.slice a n c]) w:=by kernel_rfl
theorem zGP (x y:Bool) (a a':Option Addr) (n c n' c':Nat) (b:Int) (w:World):(Instr.field 36 (.agg #[.bool x,.slice a n c,.bool y,.slice a' n' c',.int .i64 b]) 1).run Tryz.prog w=.ok (.agg #[.bool y,.slice a' n' c']) w:=by kernel_rfl
theorem zEU (w:World) (s:Sp) (k B K n:Nat) (a:Int × Int) (x:Nat→Rat) (hbx:Ex.Bdd x) (hs:SpAt w s k a.1 a.2) (hbits:s.bits=(B:Int)) (hx:Iv B a x) (h1:wh a.1 B≤(n:Int)) (h2:wh a.2 B≤(n:Int)) (hn:n≤100000) (hB:20≤B) (hB2:B≤400000) (hK:Q (B+40+4*(2*n+1)+20)<P K) (hK2:K≤1000000) (hkK:k≤K) (hK3:(B+40)/16+30≤K) :
  Calls Tryz.prog 92 #[.agg #[.bool s.ln,.slice s.la s.lN s.lc,.bool s.hn,.slice s.ha s.hN s.hc,.int .i64 s.bits]] w (fun r w'=>∃ o:Int × Int,Iv B o (Ex.Ev x)∧(0≤a.1→Q B-1≤o.1)∧zH w B K o.1 o.2 r w'):=by
 obtain ⟨W,hW⟩:∃ W,W=(w.alloc (.cells #[.bool s.ln,.slice s.la s.lN s.lc,.bool s.hn,.slice s.ha s.hN s.hc,.int .i64 s.bits] 36)).alloc (.cells #[.bool false,.slice none 0 0,.bool false,.slice none 0 0,.int .i64 0] 36):=⟨_,rfl⟩;have hBW:Below w.heap.size w W:=by rw[hW];exact bl2 _ _ _
 have A:SpC W w.heap.size s:=by rw[hW];constructor <;> simp[go_sem]
 have R:NoC W (w.heap.size+1):=by rw[hW];constructor <;> simp[go_sem]
 have HS:=zC (hs.bw hBW);have HB:=zC hbits;have HXX:=zC hx;have lR:=R.lt;have HK:=zC (show ∀ w',Below W.heap.size W w'→(w'.cell? ⟨w.heap.size,0,none⟩=some (.bool s.ln)∧w'.cell? ⟨w.heap.size,1,none⟩=some (.slice s.la s.lN s.lc)∧w'.cell? ⟨w.heap.size,2,none⟩=some (.bool s.hn)∧w'.cell? ⟨w.heap.size,3,none⟩=some (.slice s.ha s.hN s.hc)∧w'.cell? ⟨w.heap.size,4,none⟩=some (.int .i64 s.bits)) from fun w' hB=>⟨(A.bw hB).c0,(A.bw hB).c1,(A.bw hB).c2,(A.bw hB).c3,(A.bw hB).c4⟩)
 clear A hs hbits hx;have hf0:=zCA;have hf1:=zGP
 go_enter Tryz.func92,Tryz.ntmps92
 go_wp2;rw[← hW];clear hW;have n01:w.heap.size≠w.heap.size+1:=by omega
 have n10:w.heap.size+1≠w.heap.size:=by omega
 obtain ⟨x0,x1,x2,x3,x4⟩:=zA HK _ (Below.refl _ _);have hD0:Below W.heap.size W W.drew:=(Below.refl _ _).drew
 go_region_held3 (fun w'=>w'.cell? ⟨w.heap.size,0,none⟩=some (.bool s.ln)∧w'.cell? ⟨w.heap.size,1,none⟩=some (.slice s.la s.lN s.lc)∧w'.cell? ⟨w.heap.size,2,none⟩=some (.bool s.hn)∧w'.cell? ⟨w.heap.size,3,none⟩=some (.slice s.ha s.hN s.hc)∧w'.cell? ⟨w.heap.size,4,none⟩=some (.int .i64 s.bits)) (first|exact zA HK _ (by with_reducible first|exact hD0|exact hD2|exact hD1)|go_keep)
  (first
   | (go_at_call 156;have hqq:=hD1;(try rw[zA HB]);refine (zGC _ ⟨s.hn,s.ha,s.hN,s.hc⟩ k B K n a.2 ((zA HS).hi.bw hD1) h2 hn hB hB2 hK hK2 hkK hK3).mono ?_;rintro r' w2 ⟨o2,i2,j2,_,v2,rfl,hvb2,hZ2,hb2⟩;have hD2:=zB hD1 hb2;have HI2:=zC i2;clear i2 hvb2;replace hZ1:=hZ1.bw hb2;obtain ⟨q0,q1,q2,q3,q4,q5⟩:=R.bw hD2;obtain ⟨y0,y1,y2,y3,y4⟩:=zA HK _ hD2)
   | (go_at_call 156;rw[zA HB];refine (zGC _ ⟨s.ln,s.la,s.lN,s.lc⟩ k B K n a.1 ((zA HS).lo.bw hD0) h1 hn hB hB2 hK hK2 hkK hK3).mono ?_;rintro r' w1 ⟨o1,i1,j1,k1,v1,rfl,hvb1,hZ1,hb1⟩;have hD1:=zB hD0 hb1;have HI1:=zC i1;have HK1:=zC k1;clear k1;clear i1 hvb1))
 all_goals
  have HO:=zC (zMN hbx (zA HXX) (zA HI1) (zA HI2));go_wp2_with fail;refine bodyPost_ret (v:=.agg #[.bool v1.ln,.slice v1.la v1.lN v1.lc,.bool v2.hn,.slice v2.ha v2.hN v2.hc,.int .i64 (B:Int)]) (by simp[results,Tryz.results92,go_sem,q0,q1,q2,q3,q4]) rfl ⟨(o1.1,o2.2),zA HO,zA HK1,⟨v1.ln,v1.la,v1.lN,v1.lc,v2.hn,v2.ha,v2.hN,v2.hc,(B:Int)⟩,rfl,rfl,?_,?_⟩
  ·exact SpAt.put5 (show SpAt _ (⟨v1.ln,v1.la,v1.lN,v1.lc,v2.hn,v2.ha,v2.hN,v2.hc,(B:Int)⟩:Sp) K o1.1 o2.2 from ⟨hZ1.lo,hZ2.hi⟩) q0 q1 q2 q3 q4 _ _ _ _ _
  ·exact jV (zB hBW hD2) (Nat.le_succ _) _ _ _ _ _
def zEW (lo:Int):Int:=if lo<0 then 0 else lo
def zDS (b:Nat) (hi:Int):Int:=if Q b<hi then Q b else hi
theorem zBE {b:Nat} (z:Int) (hz:z=(b:Int)) (w:World) (n:Int) (hb:b≤100000) (h0 : -9223372036854775808≤n) (h1:n≤9223372036854775807) :
  Calls Tryz.prog 27 #[.int .i64 n,.int .i64 z] w (zH w b (b/16+18) (n*Q b) (n*Q b)):=by
 subst hz;exact zDE w n b hb h0 h1
theorem sp_putLo {w:World} {B:Nat} {s:Sp} (h:VrC w B s) (x:Nm):VrC (zAM w B x) B ⟨x.neg,x.a,x.n,x.cap,s.hn,s.ha,s.hN,s.hc,s.bits⟩:=by
 obtain ⟨⟨q0,q1,q2,q3,q4⟩,q5⟩:=h;exact ⟨⟨by simp[go_sem,q0],by simp[go_sem,q1],by simp[go_sem,q2],by simp[go_sem,q3],by simp[go_sem,q4]⟩,fun o=>by rw[zM,zM];exact q5 o⟩
theorem VrC.offv {w:World} {B B':Nat} {s:Sp} (h:VrC w B s) (hne:B≠B') (y:Nm):VrC (zAM w B' y) B s:=by
 obtain ⟨⟨q0,q1,q2,q3,q4⟩,q5⟩:=h;exact ⟨⟨by simp[go_sem,q0,hne,Ne.symm hne],by simp[go_sem,q1,hne,Ne.symm hne],by simp[go_sem,q2,hne,Ne.symm hne],by simp[go_sem,q3,hne,Ne.symm hne],by simp[go_sem,q4,hne,Ne.symm hne]⟩,fun o=>by rw[zM,zM];exact q5 o⟩
structure ClSt (w wr:World) (B C:Nat) (ss xx yy:Sp) (K b:Nat) (lo hi:Int):Prop where
 s:VrC wr w.heap.size ss
 x:VrC wr B xx
 y:VrC wr C yy
 ps:SpAt wr ss K lo hi
 px:SpAt wr xx K 0 0
 py:SpAt wr yy K (Q b) (Q b)
 no:NoC wr (w.heap.size+1)
 be:Below w.heap.size w wr
 l:w.heap.size+1<B
 l':w.heap.size+1<C
theorem ClSt.bw {w wr wr':World} {B C:Nat} {s x y:Sp} {K b:Nat} {lo hi:Int} (h:ClSt w wr B C s x y K b lo hi) (hb:Below wr.heap.size wr wr'):ClSt w wr' B C s x y K b lo hi :=
 ⟨h.s.bw hb,h.x.bw hb,h.y.bw hb,h.ps.bw hb,h.px.bw hb,h.py.bw hb,h.no.bw hb,zB h.be hb,h.l,h.l'⟩
theorem ClSt.putL {w wr:World} {B C:Nat} {s x y:Sp} {K b:Nat} {lo hi:Int} (h:ClSt w wr B C s x y K b lo hi):ClSt w (zAM wr w.heap.size ⟨x.ln,x.la,x.lN,x.lc⟩) B C ⟨x.ln,x.la,x.lN,x.lc,s.hn,s.ha,s.hN,s.hc,s.bits⟩ x y K b 0 hi:=by
 have c0:=h.s.c.c0;have c1:=h.s.c.c1;exact ⟨sp_putLo h.s ⟨x.ln,x.la,x.lN,x.lc⟩,h.x.offv (by have:=h.l;omega) _,h.y.offv (by have:=h.l';omega) _,⟨h.px.lo.put2 c0 c1 _ _,h.ps.hi.put2 c0 c1 _ _⟩,⟨h.px.lo.put2 c0 c1 _ _,h.px.hi.put2 c0 c1 _ _⟩,⟨h.py.lo.put2 c0 c1 _ _,h.py.hi.put2 c0 c1 _ _⟩,h.no.offv (by omega) _,zDN h.be (Nat.le_refl _) _ _,h.l,h.l'⟩
theorem zPE (w:World) (s:Sp) (K b:Nat) (lo hi:Int) (hs:SpAt w s K lo hi) (hbits:s.bits=(b:Int)) (hb:b≤10000) (hk0:b/16+18≤K) (hK:K≤100000000) :
  Calls Tryz.prog 55 #[.agg #[.bool s.ln,.slice s.la s.lN s.lc,.bool s.hn,.slice s.ha s.hN s.hc,.int .i64 s.bits],.int .i64 0,.int .i64 1] w (zH w b K (zEW lo) (zDS b hi)):=by
 have qb:=zG b;obtain ⟨W,hW⟩:∃ W,W=(w.alloc (.cells #[.bool s.ln,.slice s.la s.lN s.lc,.bool s.hn,.slice s.ha s.hN s.hc,.int .i64 s.bits] 36)).alloc (.cells #[.bool false,.slice none 0 0,.bool false,.slice none 0 0,.int .i64 0] 36):=⟨_,rfl⟩;have hBW:Below w.heap.size w W:=by rw[hW];exact bl2 _ _ _
 have A:VrC W w.heap.size s:=by rw[hW];exact ⟨⟨by simp[go_sem],by simp[go_sem],by simp[go_sem],by simp[go_sem],by simp[go_sem]⟩,fun o=>by simp[go_sem]⟩
 have R:NoC W (w.heap.size+1):=by rw[hW];constructor <;> simp[go_sem]
 have HS:=zC (hs.bw hBW);have HB:=zC hbits;have lA:=A.lt;have lR:=R.lt;clear hs hbits
 go_enter Tryz.func55,Tryz.ntmps55
 go_wp2;rw[← hW];clear hW;have HK:=zC (show ∀ w',Below W.heap.size W w'→(w'.cell? ⟨w.heap.size,4,none⟩=some (.int .i64 s.bits)) from fun w' hB=>(A.bw hB).c.c4)
 have x4:=zA HK _ (Below.refl _ _)
 go_cut [7,8] (fun p q wx=>TwoP W wx b K K (0,0) (Q b,Q b) p q)
 case first =>
  go_region_held3 (fun w'=>w'.cell? ⟨w.heap.size,4,none⟩=some (.int .i64 s.bits)) (exact zA HK _ (by repeat' (first|with_reducible exact hBU2|with_reducible exact hBU1|with_reducible exact Below.refl _ _|with_reducible refine Below.drew ?_|with_reducible refine zK ?_ _|with_reducible refine Below.setCell ?_ (by with_reducible first|exact Nat.le_refl _|exact Nat.le_succ _|exact hlU1|exact Nat.le_succ_of_le hlU1|exact hlU2|exact Nat.le_succ_of_le hlU2) _)))
   (first
    | (go_at_call 27;have hq:=hBU1;refine (zBE s.bits (zA HB) _ 1 (by omega) (by decide) (by decide)).mono ?_;rintro r wU2 ⟨vU2,rfl,hvbU2,hZU2,hbU2⟩;have HVBU2:=zC hvbU2;clear hvbU2;have hCU2:Below wU1.heap.size wU1 wU2:=(by with_reducible first|exact hbU2|exact zB (bl1 _ _) hbU2|exact zB (bl2 _ _ _) hbU2);have hBU2:=zB hBU1 hCU2;(first|with_reducible have gaU2:=(zO wU1 36).bw hbU2|with_reducible have gaU2:=((zO wU1 36).bw (bl1 _ _)).bw hbU2|skip);(try with_reducible have gbU2:=(zBN (wU1.alloc _) (wU1.heap.size+1) (hs1 _ _) 36).bw hbU2);replace hZU1:=hZU1.bw hCU2;(try have maU1:=gaU1.lt);(try have mbU1:=gbU1.lt);(try replace gaU1:=gaU1.bw hCU2);(try replace gbU1:=gbU1.bw hCU2);have hlU2:=hBU2.size;(try have eaU1:=gaU1);(try obtain ⟨zaU10,zaU11,zaU12,zaU13,zaU14,zaU15⟩:=eaU1);(try have yaU1:=gaU1.lt);(try have ebU1:=gbU1);(try obtain ⟨zbU10,zbU11,zbU12,zbU13,zbU14,zbU15⟩:=ebU1);(try have ybU1:=gbU1.lt);(try have eaU2:=gaU2);(try obtain ⟨zaU20,zaU21,zaU22,zaU23,zaU24,zaU25⟩:=eaU2);(try have yaU2:=gaU2.lt);(try have ebU2:=gbU2);(try obtain ⟨zbU20,zbU21,zbU22,zbU23,zbU24,zbU25⟩:=ebU2);(try have ybU2:=gbU2.lt))
    | (go_at_call 27;refine (zBE s.bits (zA HB) _ 0 (by omega) (by decide) (by decide)).mono ?_;rintro r wU1 ⟨vU1,rfl,hvbU1,hZU1,hbU1⟩;have HVBU1:=zC hvbU1;clear hvbU1;have hBU1:Below W.heap.size W wU1:=(by with_reducible first|exact zB (Below.refl _ _).drew hbU1|exact zB (bl1 _ _).drew hbU1|exact zB (bl2 _ _ _).drew hbU1);(first|with_reducible have gaU1:=((zO W 36).bw (Below.refl _ _).drew).bw hbU1|with_reducible have gaU1:=((zO W 36).bw (bl1 _ _).drew).bw hbU1|skip);(try with_reducible have gbU1:=((zBN (W.alloc _) (W.heap.size+1) (hs1 _ _) 36).bw (Below.refl _ _).drew).bw hbU1);have hlU1:=hBU1.size))
  all_goals
   have hiXU:=(show SpAt wU2 vU1 K 0 0 by have h:=hZU1.mono hk0;rw[Int.zero_mul] at h;exact h)
   have hiYU:=(show SpAt wU2 vU2 K (Q b) (Q b) by have h:=hZU2.mono hk0;rw[Int.one_mul] at h;exact h)
   go_wp2_with fail;go_meet
   first
    | with_reducible exact zER (x:=vU1) (y:=vU2) hBU2 hiXU hiYU (zA HVBU1) (zA HVBU2)
    | with_reducible exact zEI (x:=vU1) (y:=vU2) hBU2 hiXU hiYU (zA HVBU1) (zA HVBU2)
    | with_reducible exact zGV (x:=vU1) (y:=vU2) hBU2 hiXU hiYU (zA HVBU1) (zA HVBU2) (by assumption) (by with_reducible first|exact Nat.le_refl _|exact Nat.le_succ _|exact hlU1|exact Nat.le_succ_of_le hlU1|exact hlU2|exact Nat.le_succ_of_le hlU2)
    | with_reducible exact zJF (x:=vU1) (y:=vU2) hBU2 hiXU hiYU (zA HVBU1) (zA HVBU2) (by assumption) (by with_reducible first|exact Nat.le_refl _|exact Nat.le_succ _|exact hlU1|exact Nat.le_succ_of_le hlU1|exact hlU2|exact Nat.le_succ_of_le hlU2)
    | with_reducible exact zIS (x:=vU1) (y:=vU2) hBU2 hiXU hiYU (zA HVBU1) (zA HVBU2) (by assumption) (by assumption) (by with_reducible first|exact Nat.le_refl _|exact Nat.le_succ _|exact hlU1|exact Nat.le_succ_of_le hlU1|exact hlU2|exact Nat.le_succ_of_le hlU2) (by with_reducible first|exact Nat.le_refl _|exact Nat.le_succ _|exact hlU1|exact Nat.le_succ_of_le hlU1|exact hlU2|exact Nat.le_succ_of_le hlU2) (by omega)
 case rest =>
 obtain ⟨BU,CU,xU,yU,rfl,rfl,hHU,hJU,hneU,XU,YU,hxU,hyU,bxU,byU,hblU⟩:=hcut;have st:ClSt w wc BU CU s xU yU K b lo hi:=⟨A.bw hblU,XU,YU,(zA HS).bw hblU,hxU,hyU,R.bw hblU,zB hBW hblU,by omega,by omega⟩
 have hsb:=zA HB;have HXB:=zC bxU;clear A R HS x4 HK XU YU hxU hyU bxU byU hBW hblU lA lR;have lz0:=st.s.lt;have lz1:=st.x.lt;obtain ⟨⟨t0,t1,t2,t3,t4⟩,t5⟩:=st.s;obtain ⟨⟨u0,u1,u2,u3,u4⟩,u5⟩:=st.x;have HSB:=zC hsb;clear hsb;go_wp2_with fail;refine (zS _ _ _ _ _ _ _ _ _ _ lo 0 _ st.ps.lo st.px.lo).mono ?_;rintro r' w4 ⟨rfl,hb4⟩;replace st:=st.bw hb4;clear hb4 t0 t1 t2 t3 t4 t5 u0 u1 u2 u3 u4 u5 lz0 lz1
 by_cases hl:lo<0
 ·have hc1:zF lo 0<0:=by unfold zF;rw[if_pos (by omega)];omega
  have HEL:=zC (show zEW lo=0 by unfold zEW;rw[if_pos hl])
  have lz0:=st.s.lt;have lz1:=st.x.lt;have stn:=st.putL;have HSY:=zC st.y;obtain ⟨⟨t0,t1,t2,t3,t4⟩,t5⟩:=st.s;obtain ⟨⟨u0,u1,u2,u3,u4⟩,u5⟩:=st.x;obtain ⟨V,hV⟩:∃ V,V=zAM w4 w.heap.size ⟨xU.ln,xU.la,xU.lN,xU.lc⟩:=⟨_,rfl⟩;rw[← hV] at stn;unfold zAM at hV;rw[zA HEL];clear st hl;have st:=stn;clear stn;have lz0':=st.s.lt;have lz2:=st.y.lt;have n02:w.heap.size≠CU:=by have:=st.l';omega
  have n20:CU≠w.heap.size:=by have:=st.l';omega
  have y4:=(zA HSY);obtain ⟨⟨v0,v1,v2,v3,v4⟩,v5⟩:=y4;go_wp2_with fail;rw[← hV];clear hV u0 u1 u2 u3 u4 u5 hc1 lz1 lz0';refine (zS _ _ _ _ _ _ _ _ _ _ hi (Q b) _ st.ps.hi st.py.lo).mono ?_;rintro r' w5 ⟨rfl,hb5⟩;replace st:=st.bw hb5;clear hb5 t0 t1 t2 t3 t4 t5 v0 v1 v2 v3 v4 v5 lz0 lz2;have lz0:=st.s.lt;have lz2:=st.y.lt;have lzR:=st.no.lt;have HST:=zC st
  by_cases hh:Q b<hi
  ·have hc2:0<zF hi (Q b):=by unfold zF;rw[if_neg (by omega),if_pos (by omega)];omega
   have HEH:=zC (show zDS b hi=Q b by unfold zDS;rw[if_pos (by omega)])
   obtain ⟨⟨t0,t1,t2,t3,t4⟩,t5⟩:=st.s;obtain ⟨⟨v0,v1,v2,v3,v4⟩,v5⟩:=st.y;obtain ⟨q0,q1,q2,q3,q4,q5⟩:=st.no;have hBf:=st.be;have i1:=st.ps.lo;have i2:=st.py.lo;clear st hh;go_wp2_with fail;rw[zA HEH]
   (try rw[zA HEL])
   obtain ⟨p0,p1,p2,p3,p4,p5⟩:=NoC.offH ⟨q0,q1,q2,q3,q4,q5⟩ (show w.heap.size+1≠w.heap.size by omega) (.bool yU.ln) (.slice yU.la yU.lN yU.lc)
   refine bodyPost_ret (v:=.agg #[.bool xU.ln,.slice xU.la xU.lN xU.lc,.bool yU.ln,.slice yU.la yU.lN yU.lc,.int .i64 s.bits]) (by simp[results,Tryz.results55,go_sem,q0,q1,q2,q3,q4]) rfl ⟨⟨xU.ln,xU.la,xU.lN,xU.lc,yU.ln,yU.la,yU.lN,yU.lc,s.bits⟩,rfl,zA HSB,?_,?_⟩
   ·exact SpAt.put5 (show SpAt _ (⟨xU.ln,xU.la,xU.lN,xU.lc,yU.ln,yU.la,yU.lN,yU.lc,s.bits⟩:Sp) K _ _ from ⟨i1.putH t2 t3 _ _,i2.putH t2 t3 _ _⟩) p0 p1 p2 p3 p4 _ _ _ _ _
   ·exact jV ((hBf.setCell (p:=⟨w.heap.size,2,none⟩) (Nat.le_refl _) _).setCell (p:=⟨w.heap.size,3,none⟩) (Nat.le_refl _) _) (Nat.le_succ _) _ _ _ _ _
  ·have hc2:¬ 0<zF hi (Q b):=by unfold zF;split <;> (try split) <;> omega
   have HEH:=zC (show zDS b hi=hi by unfold zDS;rw[if_neg (by omega)])
   obtain ⟨⟨t0,t1,t2,t3,t4⟩,t5⟩:=st.s;obtain ⟨q0,q1,q2,q3,q4,q5⟩:=st.no;have hBf:=st.be;have i1:=st.ps;clear st hh;go_wp2_with fail;rw[zA HEH]
   (try rw[zA HEL])
   refine bodyPost_ret (v:=.agg #[.bool xU.ln,.slice xU.la xU.lN xU.lc,.bool s.hn,.slice s.ha s.hN s.hc,.int .i64 s.bits]) (by simp[results,Tryz.results55,go_sem,q0,q1,q2,q3,q4]) rfl ⟨⟨xU.ln,xU.la,xU.lN,xU.lc,s.hn,s.ha,s.hN,s.hc,s.bits⟩,rfl,zA HSB,?_,?_⟩
   ·exact SpAt.put5 i1 q0 q1 q2 q3 q4 _ _ _ _ _
   ·exact jV hBf (Nat.le_succ _) _ _ _ _ _
 ·have hc1:¬ zF lo 0<0:=by unfold zF;rw[if_neg (by omega)];split <;> omega
  have HEL:=zC (show zEW lo=lo by unfold zEW;rw[if_neg hl])
  rw[zA HEL];clear hl;have lz0:=st.s.lt;have lz2:=st.y.lt;obtain ⟨⟨t0,t1,t2,t3,t4⟩,t5⟩:=st.s;obtain ⟨⟨v0,v1,v2,v3,v4⟩,v5⟩:=st.y;go_wp2_with fail;refine (zS _ _ _ _ _ _ _ _ _ _ hi (Q b) _ st.ps.hi st.py.lo).mono ?_;rintro r' w5 ⟨rfl,hb5⟩;replace st:=st.bw hb5;clear hb5 t0 t1 t2 t3 t4 t5 v0 v1 v2 v3 v4 v5 lz0 lz2;have lz0:=st.s.lt;have lz2:=st.y.lt;have lzR:=st.no.lt;have HST:=zC st
  by_cases hh:Q b<hi
  ·have hc2:0<zF hi (Q b):=by unfold zF;rw[if_neg (by omega),if_pos (by omega)];omega
   have HEH:=zC (show zDS b hi=Q b by unfold zDS;rw[if_pos (by omega)])
   obtain ⟨⟨t0,t1,t2,t3,t4⟩,t5⟩:=st.s;obtain ⟨⟨v0,v1,v2,v3,v4⟩,v5⟩:=st.y;obtain ⟨q0,q1,q2,q3,q4,q5⟩:=st.no;have hBf:=st.be;have i1:=st.ps.lo;have i2:=st.py.lo;clear st hh;go_wp2_with fail;rw[zA HEH]
   (try rw[zA HEL])
   obtain ⟨p0,p1,p2,p3,p4,p5⟩:=NoC.offH ⟨q0,q1,q2,q3,q4,q5⟩ (show w.heap.size+1≠w.heap.size by omega) (.bool yU.ln) (.slice yU.la yU.lN yU.lc)
   refine bodyPost_ret (v:=.agg #[.bool s.ln,.slice s.la s.lN s.lc,.bool yU.ln,.slice yU.la yU.lN yU.lc,.int .i64 s.bits]) (by simp[results,Tryz.results55,go_sem,q0,q1,q2,q3,q4]) rfl ⟨⟨s.ln,s.la,s.lN,s.lc,yU.ln,yU.la,yU.lN,yU.lc,s.bits⟩,rfl,zA HSB,?_,?_⟩
   ·exact SpAt.put5 (show SpAt _ (⟨s.ln,s.la,s.lN,s.lc,yU.ln,yU.la,yU.lN,yU.lc,s.bits⟩:Sp) K _ _ from ⟨i1.putH t2 t3 _ _,i2.putH t2 t3 _ _⟩) p0 p1 p2 p3 p4 _ _ _ _ _
   ·exact jV ((hBf.setCell (p:=⟨w.heap.size,2,none⟩) (Nat.le_refl _) _).setCell (p:=⟨w.heap.size,3,none⟩) (Nat.le_refl _) _) (Nat.le_succ _) _ _ _ _ _
  ·have hc2:¬ 0<zF hi (Q b):=by unfold zF;split <;> (try split) <;> omega
   have HEH:=zC (show zDS b hi=hi by unfold zDS;rw[if_neg (by omega)])
   obtain ⟨⟨t0,t1,t2,t3,t4⟩,t5⟩:=st.s;obtain ⟨q0,q1,q2,q3,q4,q5⟩:=st.no;have hBf:=st.be;have i1:=st.ps;clear st hh;go_wp2_with fail;rw[zA HEH]
   (try rw[zA HEL])
   refine bodyPost_ret (v:=.agg #[.bool s.ln,.slice s.la s.lN s.lc,.bool s.hn,.slice s.ha s.hN s.hc,.int .i64 s.bits]) (by simp[results,Tryz.results55,go_sem,q0,q1,q2,q3,q4]) rfl ⟨⟨s.ln,s.la,s.lN,s.lc,s.hn,s.ha,s.hN,s.hc,s.bits⟩,rfl,zA HSB,?_,?_⟩
   ·exact SpAt.put5 i1 q0 q1 q2 q3 q4 _ _ _ _ _
   ·exact jV hBf (Nat.le_succ _) _ _ _ _ _
open Ex
def loX (x:Int) (B:Nat):Rat:=(x:Rat)/(Q B:Rat)
theorem zDT {x:Int} {B:Nat} (h:0≤x):0≤loX x B:=kR (zV B) (by
 have:(0:Rat)≤(x:Rat):=by exact_mod_cast h
 grind)
theorem sg_par (n:Nat):sg (n+1)=if (n+1) % 2=1 then -1 else 1:=by
 induction n with
 | zero=>rfl
 | succ n ih =>
  show -sg (n+1)=_
  rw[ih]
  by_cases h:(n+1) % 2=1
  ·rw[if_pos h,if_neg (by omega)];grind
  ·rw[if_neg h,if_pos (by omega)]
theorem zCP {e : Nat} (z : Int) (hz : z = (e : Int)) (w : World) (hk : e ≤ 1000000000) : Calls Tryz.prog 104 #[.int .i64 z] w fun r w' =>
      ∃ neg' a' n' cap', r = .returned (.agg #[.bool neg', .slice a' n' cap']) ∧ IntAt w' neg' a' n' cap' (e / 16 + 8) (Q e) ∧ Below w.heap.size w w' := by
  subst hz
  exact (kC e w hk).mono fun r w' ⟨q1, q2, q3, q4, h1, h2, h3⟩ => ⟨q1, q2, q3, q4, h1, h2.mono (by omega), h3⟩
theorem zEV (z:Int) (w:World) (s:Sp) (x:Nm) (k k1 e b:Nat) (hz:z=(e:Int)) (a:Int × Int) (n:Int) (hs:SpAt w s k a.1 a.2) (hx:IntAt w x.neg x.a x.n x.cap k1 n) (hle:a.1≤a.2) (hn:0≤n) (hk:k≤100000000) (hk1:k1≤100000000) (he:e≤1000000) (hbits:s.bits=(b:Int)) :
  Calls Tryz.prog 135 #[.agg #[.bool s.ln,.slice s.la s.lN s.lc,.bool s.hn,.slice s.ha s.hN s.hc,.int .i64 s.bits],.agg #[.bool x.neg,.slice x.a x.n x.cap],.int .i64 z] w (zH w b (k+k1+30) (zE a n (Q e)).1 (zE a n (Q e)).2):=by
 subst hz;exact zPQ w s x k k1 e b a n hs hx hle hn hk hk1 he hbits
theorem zC1 (w:World) (s t:Sp) (k b:Nat) (a c:Int × Int) (hs:SpAt w s k a.1 a.2) (ht:SpAt w t k c.1 c.2) (hk:k≤700000000) (hb:s.bits=(b:Int)) :
  Calls Tryz.prog 26 #[.agg #[.bool s.ln,.slice s.la s.lN s.lc,.bool s.hn,.slice s.ha s.hN s.hc,.int .i64 s.bits],.agg #[.bool t.ln,.slice t.la t.lN t.lc,.bool t.hn,.slice t.ha t.hN t.hc,.int .i64 t.bits]] w (zH w b (k+1) (yH a c).1 (yH a c).2) :=
 (zEM w s t k a.1 a.2 c.1 c.2 hs ht hk).mono fun r w' h=>by rw[hb] at h;exact h
theorem NmC.offP {w:World} {B B':Nat} {x:Nm} (h:NmC w B x) (hne:B≠B') (u:Sp):NmC (zP w B' u) B x:=⟨kI h.c0 hne _ _ _ _ _,kI h.c1 hne _ _ _ _ _⟩
def ShF (p q:Nat→Int) (n:Nat) (z:Int):Prop:=(z=5∧∃ j,j<n∧p j≤0)∨(z=2∧(∀ j,j<n→0<p j)∧∃ j,j<n∧100*q j<p j)∨(z=0∧∀ j,j<n→0<p j∧p j≤100*q j)
def ShW (p q:Nat→Int) (i:Nat) (z:Int):Prop:=(∀ j,j<i→0<p j)∧((z=0∧∀ j,j<i→p j≤100*q j)∨(z=2∧∃ j,j<i∧100*q j<p j))
theorem ShW.ok {p q:Nat→Int} {i:Nat} {z:Int} (h:ShW p q i z) (h0:0<p i) (h1:p i≤100*q i):ShW p q (i+1) z:=by
 obtain ⟨a,b⟩:=h;refine ⟨fun j hj=>?_,?_⟩
 ·by_cases e:j=i
  ·subst e;exact h0
  ·exact a j (by omega)
 ·rcases b with ⟨e,b⟩|⟨e,j,hj,b⟩
  ·refine Or.inl ⟨e,fun j hj=>?_⟩
   by_cases e:j=i
   ·subst e;exact h1
   ·exact b j (by omega)
  ·exact Or.inr ⟨e,j,by omega,b⟩
theorem ShW.many {p q:Nat→Int} {i:Nat} {z:Int} (h:ShW p q i z) (h0:0<p i) (h1:100*q i<p i):ShW p q (i+1) 2:=by
 refine ⟨fun j hj=>?_,Or.inr ⟨rfl,i,by omega,h1⟩⟩
 by_cases e:j=i
 ·subst e;exact h0
 ·exact h.1 j (by omega)
theorem ShW.fin {p q:Nat→Int} {n:Nat} {z:Int} (h:ShW p q n z):ShF p q n z:=by
 obtain ⟨a,b⟩:=h
 rcases b with ⟨e,b⟩|⟨e,b⟩
 ·exact Or.inr (Or.inr ⟨e,fun j hj=>⟨a j hj,b j hj⟩⟩)
 ·exact Or.inr (Or.inl ⟨e,a,b⟩)
theorem zFR (b n cap:Nat) (p q:Nat→Int) (w:World) (h:Rats w b n p q) (hn:n≤1000) (hr:∀ j,j<n→rok (p j) (q j)) :
  Calls Tryz.prog 111 #[.slice (some ⟨b,0,none⟩) n cap] w fun r w'=>∃ z,r=.returned (.int .i64 z)∧ShF p q n z∧Below w.heap.size w w':=by
 have hblt:=h.lt;have HH:=zC h;have HR:=zC hr;clear h hr
 go_enter Tryz.func111,Tryz.ntmps111
 go_wp2
 go_loopw [3,8] (fun ee ii wr=>∃ (i:Nat) (z:Int),i≤n∧ii=.int .i64 i∧ee=.int .i64 z∧ShW p q i z∧Below w.heap.size w wr) (fun _ ii _=>n-(intOf ii).toNat)
 case atStart=>exact ⟨0,0,by omega,rfl,rfl,⟨fun j hj=>by omega,Or.inl ⟨rfl,fun j hj=>by omega⟩⟩,Below.refl _ _⟩
 case round =>
  obtain ⟨i,z,hi,rfl,rfl,hz,hB⟩:=hrel
  by_cases hin:i<n
  ·have H2:=(zA HH).bw hB
   have g0:=H2.c0 i hin;have g1:=H2.c1 i hin;have hi1:(i:Int)<(n:Int):=by omega
   have HZ:=zC hz;have rk:=zA HR i hin;clear hz H2
   by_cases hp:p i≤0
   ·go_wp2_with fail
    go_ret
    exact ⟨5,rfl,Or.inl ⟨rfl,i,hin,hp⟩,zK hB _⟩
   ·obtain ⟨r1,r2,r3,r4⟩:=rk
    by_cases hc:p i≤100*q i
    ·have hc':zCX (p i) (q i) 100=true:=by unfold zCX;simp;omega
     have HC:=zC (And.intro hp hc);have hp':¬ p i≤0:=hp;clear hc;go_wp2_with (go_at_call 151;refine (zFT _ _ 100 _ (by omega) (by omega) (by omega) (by omega)).mono ?_;rintro r w1 ⟨rfl,hb1⟩;rw[hc'])
     go_roundw
     case rel=>exact ⟨i+1,z,by omega,by go_num,rfl,(zA HZ).ok (by have:=(zA HC).1;omega) (zA HC).2,zB (zK hB _) hb1⟩
     case measure=>simp[intOf];omega
    ·have hc':zCX (p i) (q i) 100=false:=by unfold zCX;simp;omega
     have HC:=zC (And.intro hp hc);have hp':¬ p i≤0:=hp;clear hc;go_wp2_with (go_at_call 151;refine (zFT _ _ 100 _ (by omega) (by omega) (by omega) (by omega)).mono ?_;rintro r w1 ⟨rfl,hb1⟩;rw[hc'])
     go_roundw
     case rel=>exact ⟨i+1,2,by omega,by go_num,rfl,(zA HZ).many (by have:=(zA HC).1;omega) (by have:=(zA HC).2;omega),zB (zK hB _) hb1⟩
     case measure=>simp[intOf];omega
  ·have hiE:i=n:=by omega
   subst hiE;have hi1:¬ (i:Int)<(i:Int):=by omega
   have HZ:=zC hz;clear hz;go_wp2_with fail
   go_ret
   exact ⟨z,rfl,(zA HZ).fin,hB⟩
end Go.Proofs.YtgmnknmjainababGreat
namespace Go.Proofs.YtgmnknmjainababGreat.Ex
def Nn (f:Nat→Rat):Prop:=∃ N:Nat,∀ M,N≤M→0≤f M
theorem Nn.mul {f g:Nat→Rat} (h:Nn f) (k:Nn g):Nn (fun M=>f M*g M):=by
 obtain ⟨N1,h1⟩:=h;obtain ⟨N2,h2⟩:=k;exact ⟨N1+N2,fun M hM=>Rat.mul_nonneg (h1 M (by omega)) (h2 M (by omega))⟩
theorem Nn.const {c:Rat} (h:0≤c):Nn (fun _=>c):=⟨0,fun _ _=>h⟩
theorem Ev_nn {x:Nat→Rat} (h:Bdd x):Nn (Ev x):=by
 obtain ⟨c,c0,N,k⟩:=zC5 h;exact ⟨N,fun M hM=>Rat.le_trans (Rat.le_of_lt c0) (k M hM)⟩
theorem zCQ (a:Rat):Nn (ex a):=Ev_nn (Bdd.const a)
theorem LeN.bmul {f g k:Nat→Rat} (h:LeN f g) (hk:Bdd k) (hn:Nn k):LeN (fun M=>f M*k M) (fun M=>g M*k M):=by
 obtain ⟨z,hz,kz⟩:=h.null;obtain ⟨N,hN⟩:=hn;refine LeN.of_null (hz.bmul hk) N fun M hM=>?_
 have:=Rat.mul_le_mul_of_nonneg_right (kz M) (hN M hM);grind
theorem LeN.cmul {f g:Nat→Rat} (h:LeN f g) {c:Rat} (hc:0≤c):LeN (fun M=>c*f M) (fun M=>c*g M):=by
 obtain ⟨z,hz,kz⟩:=h.null;refine LeN.of_null (hz.bmul (Bdd.const c)) 0 fun M _=>?_
 have:=Rat.mul_le_mul_of_nonneg_left (kz M) hc;grind
theorem LeN.of_eqN {f g:Nat→Rat} (h:Null (fun M=>f M-g M)):LeN f g:=h.leN
theorem LeN.mul {f g f' g':Nat→Rat} (h:LeN f g) (h':LeN f' g') (b:Bdd f') (n:Nn f') (b2:Bdd g) (n2:Nn g):LeN (fun M=>f M*f' M) (fun M=>g M*g' M) :=
 (h.bmul b n).trans ((LeN.of_le 0 fun M _=>by show g M*f' M≤f' M*g M;grind).trans ((h'.bmul b2 n2).trans (LeN.of_le 0 fun M _=>by show g' M*g M≤g M*g' M;grind)))
theorem kM {a b c:Rat} (hc:0<c) (h:a*c≤b):a≤b/c:=Rat.le_of_mul_le_mul_right (by rw[rdm hc];exact h) hc
theorem zA5 {a b c:Rat} (hc:0<c) (h:a≤b*c):a/c≤b:=Rat.le_of_mul_le_mul_right (by rw[rdm hc];exact h) hc
theorem zU {c a b:Rat} (hc:0<c) (h:c*a=c*b):a=b:=Rat.le_antisymm (Rat.le_of_mul_le_mul_left (by rw[h];exact Rat.le_refl) hc) (Rat.le_of_mul_le_mul_left (by rw[h];exact Rat.le_refl) hc)
def upT (a x:Rat):Nat→Rat
 | 0=>1/a
 | n+1=>x/(a+((n:Rat)+1))*upT a x n
theorem zDG {a:Rat} (ha:0<a) (n:Nat):0<a+((n:Rat)+1):=by have:=zCD n;grind
theorem yK {a:Rat} (ha:0<a) (x:Rat):a*upT a x 0=1:=by
 have:=rdm (a:=1) ha
 show a*(1/a)=1
 grind
theorem kD {a:Rat} (ha:0<a) (x:Rat) (n:Nat):(a+((n:Rat)+1))*upT a x (n+1)=x*upT a x n:=by
 have e:=rdm (a:=x) (zDG ha n)
 show (a+((n:Rat)+1))*(x/(a+((n:Rat)+1))*upT a x n)=_
 have:(a+((n:Rat)+1))*(x/(a+((n:Rat)+1))*upT a x n)=x/(a+((n:Rat)+1))*(a+((n:Rat)+1))*upT a x n:=by grind
 rw[this,e]
theorem jL {a x:Rat} (ha:0<a) (h:0≤x) (n:Nat):0≤upT a x n:=by
 induction n with
 | zero=>exact kM ha (by grind)
 | succ n ih=>exact Rat.mul_nonneg (kM (zDG ha n) (by grind)) ih
theorem upT_next {a:Rat} (ha:0<a) (x:Rat) (n:Nat):a*upT a x (n+1)=x*upT (a+1) x n:=by
 induction n with
 | zero =>
  have e1:=kD ha x 0;have e2:=yK ha x;have e3:=yK (show 0<a+1 by grind) x
  refine zU (show 0<a+1 by grind) ?_
  have c:((0:Nat):Rat)=0:=rfl;rw[c] at e1;have k1:(a+1)*(a*upT a x (0+1))=a*((a+(0+1))*upT a x (0+1)):=by grind
  have k2:(a+1)*(x*upT (a+1) x 0)=x*((a+1)*upT (a+1) x 0):=by grind
  rw[k1,k2,e1,e3];have k3:a*(x*upT a x 0)=x*(a*upT a x 0):=by grind
  rw[k3,e2]
 | succ n ih =>
  have e1:=kD ha x (n+1);have e2:=kD (show 0<a+1 by grind) x n
  have c:((n+1:Nat):Rat)=(n:Rat)+1:=by push_cast;rfl
  rw[c] at e1;refine zU (show 0<a+((n:Rat)+1+1) by have:=zCD n;grind) ?_
  have k1:(a+((n:Rat)+1+1))*(a*upT a x (n+1+1))=a*((a+((n:Rat)+1+1))*upT a x (n+1+1)):=by grind
  have k2:(a+((n:Rat)+1+1))*(x*upT (a+1) x (n+1))=x*((a+1+((n:Rat)+1))*upT (a+1) x (n+1)):=by grind
  rw[k1,k2,e1,e2,← ih];grind
def uS (a x:Rat) (M:Nat):Rat:=S (upT a x) M
theorem yF (a x:Rat) (M:Nat):uS a x (M+1)=uS a x M+upT a x M:=rfl
theorem zA7 {a x:Rat} (ha:0<a) (h:0≤x) (M:Nat):0≤uS a x M:=by
 induction M with
 | zero=>show (0:Rat)≤0;grind
 | succ n ih=>have:=jL ha h n;rw[yF];grind
theorem zGL {a x:Rat} (ha:0<a) (h:0≤x) (M:Nat):1/a≤uS a x (M+1):=by
 induction M with
 | zero=>show 1/a≤0+1/a;grind
 | succ n ih=>have:=jL ha h (n+1);rw[yF];grind
theorem zOK {a:Rat} (ha:0<a) (x:Rat) (M:Nat):a*uS a x (M+1)=1+x*uS (a+1) x M:=by
 induction M with
 | zero =>
  have:=yK ha x
  show a*(0+upT a x 0)=1+x*0
  grind
 | succ n ih =>
  have:=upT_next ha x n;rw[yF a x (n+1),yF (a+1) x n];grind
theorem upT_tan {a x u:Rat} (ha:0<a) (hx:0≤x) (hu : -1≤u) (n:Nat):upT a x n+(n:Rat)*u*upT a x n≤upT a (x*(1+u)) n:=by
 induction n with
 | zero =>
  have c:((0:Nat):Rat)=0:=rfl
  show 1/a+((0:Nat):Rat)*u*(1/a)≤1/a
  rw[c];grind
 | succ n ih =>
  have e1:=kD ha x n;have e2:=kD ha (x*(1+u)) n;have c:((n+1:Nat):Rat)=(n:Rat)+1:=by push_cast;rfl
  have y0:=Rat.mul_nonneg hx (show 0≤1+u by grind)
  have m:=Rat.mul_le_mul_of_nonneg_left ih y0;have p:=zDG ha n;refine Rat.le_of_mul_le_mul_left (c:=a+((n:Rat)+1)) ?_ p;rw[e2,c];have k:(a+((n:Rat)+1))*(upT a x (n+1)+((n:Rat)+1)*u*upT a x (n+1))=(1+((n:Rat)+1)*u)*((a+((n:Rat)+1))*upT a x (n+1)):=by grind
  rw[k,e1];have n0:(0:Rat)≤(n:Rat):=by exact_mod_cast Nat.zero_le n
  have q:=Rat.mul_nonneg (Rat.mul_nonneg n0 (yT u)) (Rat.mul_nonneg hx (jL ha hx n));grind
theorem uS_tan {a x u:Rat} (ha:0<a) (hx:0≤x) (hu : -1≤u) (M:Nat):uS a x (M+1)+u*(1+x*uS a x M-a*uS a x (M+1))≤uS a (x*(1+u)) (M+1):=by
 induction M with
 | zero =>
  have e:=yK ha x;have e2:upT a (x*(1+u)) 0=upT a x 0:=rfl
  show 0+upT a x 0+u*(1+x*0-a*(0+upT a x 0))≤0+upT a (x*(1+u)) 0
  rw[e2];have:a*(0+upT a x 0)=1:=by rw[← e];grind
  rw[this];grind
 | succ n ih =>
  have t:=upT_tan ha hx hu (n+1);have e1:=kD ha x n;have c:((n+1:Nat):Rat)=(n:Rat)+1:=by push_cast;rfl
  rw[c] at t;rw[yF a x (n+1),yF a (x*(1+u)) (n+1)];have e3:uS a x (n+1)=uS a x n+upT a x n:=rfl;have k:((n:Rat)+1)*u*upT a x (n+1)=u*(x*upT a x n)-u*(a*upT a x (n+1)):=by rw[← e1];grind
  rw[k] at t;rw[e3] at ih ⊢;grind
theorem uS_mono {a x y:Rat} (ha:0<a) (hx:0≤x) (hxy:x≤y) (M:Nat):uS a x M≤uS a y M:=by
 have t:∀ n,upT a x n≤upT a y n:=by
  intro n
  induction n with
  | zero=>exact Rat.le_refl
  | succ n ih =>
   have e1:=kD ha x n;have e2:=kD ha y n;refine Rat.le_of_mul_le_mul_left (c:=a+((n:Rat)+1)) ?_ (zDG ha n);rw[e1,e2];exact Rat.le_trans (Rat.mul_le_mul_of_nonneg_left ih hx) (Rat.mul_le_mul_of_nonneg_right hxy (jL ha (by grind) n))
 induction M with
 | zero=>exact Rat.le_refl
 | succ n ih=>have:=t n;rw[yF,yF];grind
theorem zOR {a x:Rat} (ha:0<a) (hx:0≤x) (n:Nat):a*upT a x n≤tm x n:=by
 induction n with
 | zero=>rw[yK ha];exact Rat.le_refl
 | succ n ih =>
  have e1:=kD ha x n;have e2:=kB x n;have p:=zCD n;have q:=Rat.mul_nonneg (Rat.mul_nonneg (Rat.le_of_lt ha) (Rat.le_of_lt ha)) (jL ha hx (n+1));refine Rat.le_of_mul_le_mul_left (c:=(n:Rat)+1) ?_ p;have m:=Rat.mul_le_mul_of_nonneg_left ih hx;have k:((n:Rat)+1)*(a*upT a x (n+1))=a*((a+((n:Rat)+1))*upT a x (n+1))-a*a*upT a x (n+1):=by grind
  rw[k,e1,e2];grind
theorem zGT {a x:Rat} (ha:0<a) (hx:0≤x):Null (upT a x):=by
 obtain ⟨K,k0,hK⟩:=zMF x;have h1:Null (fun M=>K/a*((M:Rat)*q4 M)):=zA6 (K/a) (kM ha (by grind))
 refine h1.of_le 1 fun M hM=>?_
 have a1:=zOR ha hx M;have a2:=(hK M).2;have a3:=jL ha hx M;have m1:(1:Rat)≤(M:Rat):=by exact_mod_cast hM
 have q:=yI M;have d:=rdm (a:=K) ha;have m2:=Rat.mul_le_mul_of_nonneg_left m1 (Rat.mul_nonneg k0 (Rat.le_of_lt q))
 have key:upT a x M≤K/a*((M:Rat)*q4 M):=by
  refine Rat.le_of_mul_le_mul_left (c:=a) ?_ ha;have k:a*(K/a*((M:Rat)*q4 M))=K/a*a*((M:Rat)*q4 M):=by grind
  rw[k,d];grind
 exact ⟨by grind,key⟩
theorem zNF {a x:Rat} (ha:0<a) (hx:0≤x):∃ K,0≤K∧∀ M,uS a x M≤K:=by
 obtain ⟨K,k0,hK⟩:=zET x;refine ⟨K/a,kM ha (by grind),fun M=>?_⟩
 have h:=(hK M x ⟨by grind,Rat.le_refl⟩).2
 have s:a*uS a x M≤E x M:=by
  induction M with
  | zero=>show a*0≤0;grind
  | succ n ih =>
   have t:=zOR ha hx n;have h':=(hK n x ⟨by grind,Rat.le_refl⟩).2
   have i:=ih h';have e:E x (n+1)=E x n+tm x n:=rfl;rw[yF,e];grind
 refine Rat.le_of_mul_le_mul_left (c:=a) ?_ ha;have d:=rdm (a:=K) ha;grind
theorem zCG {a x:Rat} (ha:0<a) (hx:0≤x):Bdd (uS a x):=by
 obtain ⟨K,k0,hK⟩:=zNF ha hx;exact Bdd.of_le K 0 fun M _=>⟨by have:=zA7 ha hx M;grind,hK M⟩
end Go.Proofs.YtgmnknmjainababGreat.Ex
namespace Go.Proofs.YtgmnknmjainababGreat.Ex
def Lns (L:Rat→Nat→Rat):Prop:=∀ x,0<x→IsLog (L x) (fun _=>x)
def pr (L:Rat→Nat→Rat) (c x:Rat) (M:Nat):Rat:=Ev (fun M=>c*L x M) M
theorem zAP {L:Rat→Nat→Rat} (hL:Lns L) {x:Rat} (hx:0<x) (c:Rat):Bdd (fun M=>c*L x M):=(Bdd.const c).mul (hL x hx).1
theorem zBW {L:Rat→Nat→Rat} (hL:Lns L) {x:Rat} (hx:0<x) (c:Rat):Bdd (pr L c x):=zBG (zAP hL hx c)
theorem zGO {L:Rat→Nat→Rat} (hL:Lns L) {x:Rat} (hx:0<x) (c:Rat):Nn (pr L c x):=Ev_nn (zAP hL hx c)
theorem pr_add {L:Rat→Nat→Rat} (hL:Lns L) {x:Rat} (hx:0<x) (c d:Rat):Null (fun M=>pr L c x M*pr L d x M-pr L (c+d) x M):=by
 have h:=zA1 (zAP hL hx c) (zAP hL hx d);refine h.of_eq fun M=>?_
 have e:Ev (fun M=>c*L x M+d*L x M) M=pr L (c+d) x M:=by unfold pr Ev;congr 1;grind
 rw[e];rfl
theorem zO6 {L:Rat→Nat→Rat} (hL:Lns L) {x:Rat} (hx:0<x):Null (fun M=>pr L 1 x M-x):=by
 refine (hL x hx).2.of_eq fun M=>?_
 show E (1*L x M) M-x=E (L x M) M-x
 rw[Rat.one_mul]
theorem log_quot {L : Rat → Nat → Rat} (hL : Lns L) {x r : Rat} (hx : 0 < x) (hr : 0 < r) : IsLog (fun M => L (x * r) M - L x M) (fun _ => r) := by
  have h1 := hL (x * r) (Rat.mul_pos hx hr)
  have d := rdm (a := 1) hx
  have h2 := (hL x hx).neg (s := fun _ => 1 / x) (Bdd.const _) 0 (fun M _ => d)
  have h3 := h1.add h2
  have e : (fun (_ : Nat) => x * r * (1 / x)) = fun _ => r := by funext _; have : x * r * (1 / x) = 1 / x * x * r := by grind
                                                                 rw [this, d]; grind
  rw [e] at h3
  have e2 : (fun M => L (x * r) M + -L x M) = fun M => L (x * r) M - L x M := by funext M; grind
  rw [e2] at h3
  exact h3
theorem E_two {h:Rat} (hb:AB h (1/4)) {M:Nat} (hM:2≤M):AB (E h M-1-h) (2*(h*h)):=by
 by_cases c:0≤h
 ·exact zEY (b:=h) ⟨by grind,Rat.le_refl⟩ hb.2 hM
 ·have:=zEY (h:=h) (b := -h) ⟨by grind,by grind⟩ (by have:=hb.1;grind) hM
  have e : -h * -h=h*h:=by grind
  rw[e] at this;exact this
theorem zC3 (c:Rat):IsLog (fun _=>c) (ex c):=⟨Bdd.const c,null_zero.of_eq fun M=>by unfold ex;grind⟩
theorem dlog_low {d:Nat→Rat} {u:Rat} (h:IsLog d (fun _=>1+u)) (hu:AB u (1/16)):LeN (fun _=>u-4*(u*u)) d:=by
 have uu:=yT u
 have a1:u*u≤1/256:=by
  by_cases c:0≤u
  ·have:=Rat.mul_le_mul_of_nonneg_left hu.2 c;have:=hu.2;grind
  ·have:=Rat.mul_le_mul_of_nonneg_left (show -u≤1/16 by have:=hu.1;grind) (show 0 ≤ -u by grind);have:=hu.1;grind
 intro e he
 have hb:AB (u-4*(u*u)) (1/4):=⟨by have:=hu.1;grind,by have:=hu.2;grind⟩
 refine (zC3 (u-4*(u*u))).le h null_zero 2 (fun M hM=>?_) e he
 have k:=(E_two hb (M:=M) hM).2
 show E (u-4*(u*u)) M≤1+u+0
 have q:(u-4*(u*u))*(u-4*(u*u))=u*u*((1-4*u)*(1-4*u)):=by grind
 have r:(1-4*u)*(1-4*u)≤2:=by have:=hu.1;grind
 have m:=Rat.mul_le_mul_of_nonneg_left r uu;grind
theorem pr_tan {L:Rat→Nat→Rat} (hL:Lns L) {a x u:Rat} (ha:0≤a) (hx:0<x) (hu:AB u (1/16)) (hau:AB (a*u) (1/8)):LeN (fun M=>(1+a*u-(4*a+4*(a*a))*(u*u))*pr L a x M) (pr L a (x*(1+u))):=by
 have r0:0<1+u:=by have:=hu.1;grind
 have hd:=log_quot hL hx r0;have low:=dlog_low hd hu;obtain ⟨z,hz,kz⟩:=(low.cmul ha).null;have bd:Bdd (fun M=>a*(L (x*(1+u)) M-L x M)):=(Bdd.const a).mul hd.1
 obtain ⟨v,hv,N,kv⟩:=zCW (x:=fun _=>a*(u-4*(u*u))) (Bdd.const _) bd hz 0 (fun M _=>kz M)
 have uu:=yT u
 have hb:AB (a*(u-4*(u*u))) (1/4):=by
  have e:a*(u-4*(u*u))=a*u*(1-4*u):=by grind
  rw[e];exact (hau.mul (show AB (1-4*u) 2 from ⟨by have:=hu.2;grind,by have:=hu.1;grind⟩)).mono (by grind)
 have l1:LeN (fun _=>1+a*u-(4*a+4*(a*a))*(u*u)) (Ev (fun M=>a*(L (x*(1+u)) M-L x M))):=by
  refine LeN.of_null hv (N+2) fun M hM=>?_
  have k:=(E_two hb (M:=M) (by omega)).1
  have k2:=kv M (by omega)
  have e2:Ev (fun _=>a*(u-4*(u*u))) M=E (a*(u-4*(u*u))) M:=rfl
  rw[e2] at k2;have q:a*(u-4*(u*u))*(a*(u-4*(u*u)))=a*a*(u*u)*((1-4*u)*(1-4*u)):=by grind
  have r:(1-4*u)*(1-4*u)≤2:=by
   have a1:u*u≤1/256:=by
    by_cases c:0≤u
    ·have:=Rat.mul_le_mul_of_nonneg_left hu.2 c;have:=hu.2;grind
    ·have:=Rat.mul_le_mul_of_nonneg_left (show -u≤1/16 by have:=hu.1;grind) (show 0 ≤ -u by grind);have:=hu.1;grind
   have:=hu.1;grind
  have m:=Rat.mul_le_mul_of_nonneg_left r (Rat.mul_nonneg (Rat.mul_nonneg ha ha) uu);rw[q] at k;generalize a*a*(u*u)*((1-4*u)*(1-4*u))=w at *;generalize Ev (fun M=>a*(L (x*(1+u)) M-L x M)) M=w2 at *
  generalize E (a*(u-4*(u*u))) M=w3 at *;grind
 refine (l1.bmul (zBW hL hx a) (zGO hL hx a)).trans ?_;have s:=zA1 bd (zAP hL hx a);refine LeN.of_eqN (s.of_eq fun M=>?_)
 have e:Ev (fun M=>a*(L (x*(1+u)) M-L x M)+a*L x M) M=pr L a (x*(1+u)) M:=by unfold pr Ev;congr 1;grind
 rw[e];rfl
theorem ex_tan {x u:Rat} (hu:AB (x*u) (1/4)):LeN (fun M=>(1-x*u-2*(x*x)*(u*u))*ex (-x) M) (ex (-(x*(1+u)))):=by
 have l1:LeN (fun _=>1-x*u-2*(x*x)*(u*u)) (ex (-(x*u))):=LeN.of_le 2 fun M hM=>by
  have k:=(E_two (h := -(x*u)) hu.neg hM).1
  show _≤E (-(x*u)) M
  grind
 refine (l1.bmul (kS _) (zCQ _)).trans ?_;have s:=zGA (-(x*u)) (-x);refine LeN.of_eqN (s.of_eq fun M=>?_)
 have e : -(x*u) + -x = -(x*(1+u)):=by grind
 rw[e]
def uG (L:Rat→Nat→Rat) (a x:Rat) (M:Nat):Rat:=pr L a x M*ex (-x) M*uS a x M
theorem tan_poly {a x u s c q1 q2 q3:Rat} (h1:q1=1+a*u-c*(u*u)) (h2:q2=1-x*u-2*(x*x)*(u*u)) (h3:q3=s+u*(1+x*s-a*s)):q1*q2*q3-(s+u)=u*u*((a-x)*(1+x*s-a*s)+(-(a*x)-2*(x*x)-c+u*(c*x-2*(a*(x*x)))+u*u*(2*(c*(x*x))))*q3):=by
 rw[h1,h2,h3];grind
theorem zHV {a x u s c Y K:Rat} (ha:0≤a) (hc:0≤c) (hx:AB x Y) (hs:AB s K) (hu:AB u 1):AB ((a-x)*(1+x*s-a*s)+(-(a*x)-2*(x*x)-c+u*(c*x-2*(a*(x*x)))+u*u*(2*(c*(x*x))))*(s+u*(1+x*s-a*s))) ((a+Y)*(1+Y*K+a*K)+(a*Y+2*(Y*Y)+c+1*(c*Y+2*(a*(Y*Y)))+1*1*(2*(c*(Y*Y))))*(K+1*(1+Y*K+a*K))):=by
 have A:AB a a:=⟨by grind,Rat.le_refl⟩
 have C:AB c c:=⟨by grind,Rat.le_refl⟩
 have one:AB (1:Rat) 1:=⟨by grind,Rat.le_refl⟩
 have two:AB (2:Rat) 2:=⟨by grind,Rat.le_refl⟩
 have p1:=(one.add (hx.mul hs)).sub (A.mul hs);have p2:=(((((A.mul hx).neg.sub (two.mul (hx.mul hx))).sub C).add (hu.mul ((C.mul hx).sub (two.mul (A.mul (hx.mul hx)))))).add ((hu.mul hu).mul (two.mul (C.mul (hx.mul hx)))));exact ((A.sub hx).mul p1).add (p2.mul (hs.add (hu.mul p1)))
theorem zL4 {f:Nat→Rat} (h:Null f):Null (fun M=>f (M-1)):=fun e he=>by
 obtain ⟨N,hN⟩:=h e he;exact ⟨N+1,fun M hM=>hN (M-1) (by omega)⟩
theorem uS_tanN {a x u:Rat} (ha:0<a) (hx:0≤x) (hu : -1≤u):LeN (fun M=>uS a x M+u*(1+x*uS a x M-a*uS a x M)) (uS a (x*(1+u))):=by
 have z:=(zL4 (zGT ha hx)).bmul (Bdd.const (u*x));refine LeN.of_null z 1 fun M hM=>?_
 obtain ⟨m,rfl⟩:∃ m,M=m+1:=⟨M-1,by omega⟩
 have t:=uS_tan ha hx hu m;have e:uS a x (m+1)=uS a x m+upT a x m:=rfl;simp only[Nat.add_sub_cancel];have e2:uS a x m=uS a x (m+1)-upT a x m:=by grind
 rw[e2] at t;grind
theorem uG_tan {L:Rat→Nat→Rat} (hL:Lns L) {a Y:Rat} (ha:0<a) (hY:0<Y):∃ C D,0≤C∧0<D∧D≤1/16∧∀ x u,0<x→x≤Y→AB u D→LeN (fun M=>uG L a x M+u*(pr L a x M*ex (-x) M)) (fun M=>uG L a (x*(1+u)) M+C*(u*u)):=by
 obtain ⟨K,k0,hK⟩:=zNF ha (Rat.le_of_lt hY);obtain ⟨V,N0,v0,hV⟩:=zBW hL hY a;obtain ⟨c,hc⟩:∃ c,c=4*a+4*(a*a):=⟨_,rfl⟩;have a0:=Rat.le_of_lt ha;have aa:=Rat.mul_nonneg a0 a0;have y0:=Rat.le_of_lt hY;have c0:0≤c:=by grind
 obtain ⟨C1,hC1⟩:∃ C1,C1=(a+Y)*(1+Y*K+a*K)+(a*Y+2*(Y*Y)+c+1*(c*Y+2*(a*(Y*Y)))+1*1*(2*(c*(Y*Y))))*(K+1*(1+Y*K+a*K)):=⟨_,rfl⟩;have D0:0<16*(1+a+Y):=by grind
 have dm:=rdm (a:=1) D0;have dp:0<1/(16*(1+a+Y)):=zL (by grind) D0
 obtain ⟨D,hD⟩:∃ D,D=1/(16*(1+a+Y)):=⟨_,rfl⟩;rw[← hD] at dm dp;have Da:=Rat.mul_nonneg (Rat.le_of_lt dp) a0;have Dy:=Rat.mul_nonneg (Rat.le_of_lt dp) y0
 have C10:0≤C1:=by
  have:=(zHV (x:=0) (u:=0) (s:=0) (Y:=Y) (K:=K) a0 c0 ⟨by grind,y0⟩ ⟨by grind,k0⟩ ⟨by grind,by grind⟩).nonneg
  rw[hC1];exact this
 refine ⟨C1*((V+1)*2),D,Rat.mul_nonneg C10 (by grind),dp,by grind,fun x u hx hxY hu=>?_⟩
 have D16:D≤1/16:=by grind
 have u16:AB u (1/16):=hu.mono D16;have au:AB (a*u) (1/8):=((show AB a a from ⟨by grind,Rat.le_refl⟩).mul hu).mono (by grind)
 have x0:=Rat.le_of_lt hx;have xu:AB (x*u) (1/4):=((show AB x Y from ⟨by grind,hxY⟩).mul hu).mono (by grind)
 have r0:0<1+u:=by have:=u16.1;grind
 have hx':0<x*(1+u):=Rat.mul_pos hx r0;have l1:=pr_tan hL a0 hx u16 au;have l2:=ex_tan xu;have l3:=uS_tanN ha x0 (show -1≤u by have:=u16.1;grind)
 obtain ⟨q1,h1⟩:∃ q1,q1=1+a*u-c*(u*u):=⟨_,rfl⟩;obtain ⟨q2,h2⟩:∃ q2,q2=1-x*u-2*(x*x)*(u*u):=⟨_,rfl⟩;rw[← hc,← h1] at l1;rw[← h2] at l2;have uu16:u*u≤1/16*(1/16):=(u16.mul u16).2
 have q20:0≤q2:=by
  have:=(xu.mul xu).2;have:=xu.2;grind
 have l12:=l1.mul l2 ((Bdd.const q2).mul (kS (-x))) ((Nn.const q20).mul (zCQ (-x))) (zBW hL hx' a) (zGO hL hx' a);have sB:=zCG ha x0;have q3B:Bdd (fun M=>uS a x M+u*(1+x*uS a x M-a*uS a x M)):=sB.add ((Bdd.const u).mul (((Bdd.const 1).add ((Bdd.const x).mul sB)).sub ((Bdd.const a).mul sB)))
 have q3n:Nn (fun M=>uS a x M+u*(1+x*uS a x M-a*uS a x M)):=⟨1,fun M hM=>by
  obtain ⟨m,rfl⟩:∃ m,M=m+1:=⟨M-1,by omega⟩
  have f:=zGL ha x0 m;have d:=rdm (a:=1) ha
  have s1:1≤a*uS a x (m+1):=by
   have:=Rat.mul_le_mul_of_nonneg_left f a0;grind
  show 0≤uS a x (m+1)+u*(1+x*uS a x (m+1)-a*uS a x (m+1))
  generalize uS a x (m+1)=s at *;have s0:0≤s:=by have:=kM (a:=0) (b:=1) ha (by grind);grind
  have t1:=Rat.mul_le_mul_of_nonneg_right (xu.1) s0;have t2:=Rat.mul_le_mul_of_nonneg_right (au.2) s0
  have t3 : -(1/2)*s≤u:=by
   have m1:=Rat.mul_le_mul_of_nonneg_right au.1 s0
   by_cases cu:0≤u
   ·grind
   ·have:=Rat.mul_le_mul_of_nonneg_left s1 (show 0 ≤ -u by grind)
    grind
  grind⟩
 have px:Bdd (fun M=>pr L a (x*(1+u)) M*ex (-(x*(1+u))) M):=(zBW hL hx' a).mul (kS _)
 have pn:Nn (fun M=>pr L a (x*(1+u)) M*ex (-(x*(1+u))) M):=(zGO hL hx' a).mul (zCQ _)
 have l:=l12.mul l3 q3B q3n px pn
 have pmono:LeN (pr L a x) (pr L a Y):=by
  have le:=fun e he=>(hL x hx).le (hL Y hY) null_zero 0 (fun M _=>by grind) e he
  have lz:LeN (fun M=>a*L x M) (fun M=>a*L Y M):=LeN.cmul le a0
  obtain ⟨z,hz,kz⟩:=lz.null;obtain ⟨v,hv,N,kv⟩:=zCW (zAP hL hx a) (zAP hL hY a) hz 0 (fun M _=>kz M)
  exact LeN.of_null hv N kv
 obtain ⟨N1,n1⟩:=pmono 1 (by grind)
 obtain ⟨N2,n2⟩:=(ex_mono (a := -x) (b:=0) (by grind)) (1/2) (by grind)
 obtain ⟨N3,n3⟩:=zGO hL hx a;obtain ⟨N4,n4⟩:=zCQ (-x);refine LeN.trans (LeN.of_le (N0+N1+N2+N3+N4+2) fun M hM=>?_) (l.add (LeN.refl fun _=>C1*((V+1)*2)*(u*u)))
 have a1:=n1 M (by omega)
 have a2:=n2 M (by omega)
 have a3:=n3 M (by omega)
 have a4:=n4 M (by omega)
 have a5:=(hV M (by omega)).2
 have e0:ex 0 M=1:=by
  obtain ⟨m,rfl⟩:∃ m,M=m+1:=⟨M-1,by omega⟩
  exact zA9 m
 rw[e0] at a2;have sK:AB (uS a x M) K:=⟨by have:=zA7 ha x0 M;grind,Rat.le_trans (uS_mono ha x0 hxY M) (hK M)⟩
 have tb:=zHV (x:=x) (u:=u) (s:=uS a x M) (Y:=Y) (K:=K) a0 c0 ⟨by grind,hxY⟩ sK (hu.mono (by grind))
 rw[← hC1] at tb;have tp:=tan_poly (a:=a) (x:=x) (u:=u) (s:=uS a x M) (c:=c) h1 h2 rfl;have uu:=yT u;have m1:=Rat.mul_le_mul_of_nonneg_left tb.1 uu;have pX:=Rat.mul_nonneg a3 a4;have pV:pr L a x M*ex (-x) M≤(V+1)*2:=Rat.le_trans (Rat.mul_le_mul_of_nonneg_right (show pr L a x M≤V+1 by grind) a4) (Rat.mul_le_mul_of_nonneg_left (by grind) (by grind))
 have key:uS a x M+u≤q1*q2*(uS a x M+u*(1+x*uS a x M-a*uS a x M))+C1*(u*u):=by
  rw[← tp] at m1;grind
 have m2:=Rat.mul_le_mul_of_nonneg_right key pX;have m3:=Rat.mul_le_mul_of_nonneg_left pV (Rat.mul_nonneg C10 uu)
 show uG L a x M+u*(pr L a x M*ex (-x) M)≤_
 unfold uG;generalize uS a x M+u*(1+x*uS a x M-a*uS a x M)=q3 at *;clear tb tp m1 key l l1 l2 l3 l12 q3B q3n px pn pmono hC1 h1 h2 hc;generalize uS a x M=s at *;generalize pr L a x M=p at *;generalize ex (-x) M=xx at *;have r1:q1*p*(q2*xx)*q3=q1*q2*q3*(p*xx):=by grind
 rw[r1];have r2:(s+u)*(p*xx)=p*xx*s+u*(p*xx):=by grind
 have r3:(q1*q2*q3+C1*(u*u))*(p*xx)=q1*q2*q3*(p*xx)+C1*(u*u)*(p*xx):=by grind
 rw[r2,r3] at m2;have r4:C1*((V+1)*2)*(u*u)=C1*(u*u)*((V+1)*2):=by grind
 rw[r4];exact Rat.le_trans m2 (Rat.add_le_add_left.2 m3)
end Go.Proofs.YtgmnknmjainababGreat.Ex
