/-
  Its own texts.
-/
import Derived.Deep.RegionHeld3
import Derived.Test.YtgmnknmjainababGreatK13
set_option maxRecDepth 100000
set_option maxHeartbeats 8000000
set_option linter.unnecessarySimpa false
set_option linter.unusedSimpArgs false
set_option linter.unusedVariables false
namespace Go.Proofs.YtgmnknmjainababGreat
open Go.RowKit
attribute [local go_sem ↓] Go.wp_at_zero Go.wp_at_succ
theorem yO (w:World) (s t:Sp) (k b:Nat) (a c:Int × Int) (hs:SpAt w s k a.1 a.2) (ht:SpAt w t k c.1 c.2) (hk:k≤300000000) (hb:s.bits=(b:Int)) (hbm:b≤1000000) :
  Calls Tryz.prog 52 #[.agg #[.bool s.ln,.slice s.la s.lN s.lc,.bool s.hn,.slice s.ha s.hN s.hc,.int .i64 s.bits],.agg #[.bool t.ln,.slice t.la t.lN t.lc,.bool t.hn,.slice t.ha t.hN t.hc,.int .i64 t.bits]] w (zH w b (k+k+8) (kJ b a c).1 (kJ b a c).2) :=
 (zHM w s t k a.1 a.2 c.1 c.2 hs ht hk (by omega) (by omega)).mono fun r w' h=>by
  rw[hb,kG,kG] at h;exact h
theorem yB (w:World) (s t:Sp) (k b:Nat) (a c:Int × Int) (hs:SpAt w s k a.1 a.2) (ht:SpAt w t k c.1 c.2) (hk:k≤700000000) (hb:s.bits=(b:Int)) :
  Calls Tryz.prog 57 #[.agg #[.bool s.ln,.slice s.la s.lN s.lc,.bool s.hn,.slice s.ha s.hN s.hc,.int .i64 s.bits],.agg #[.bool t.ln,.slice t.la t.lN t.lc,.bool t.hn,.slice t.ha t.hN t.hc,.int .i64 t.bits]] w (zH w b (k+1) (jJ a c).1 (jJ a c).2) :=
 (zI6 w s t k a.1 a.2 c.1 c.2 hs ht hk).mono fun r w' h=>by rw[hb] at h;exact h
theorem zC0 {lo hi:Int}:zAK lo hi 1=decide (zT (lo,hi)≤1):=by
 unfold zAK zT zEE;rw[Bool.eq_iff_iff,Bool.and_eq_true,decide_eq_true_iff,decide_eq_true_iff,decide_eq_true_iff];simp only[];split <;> omega
structure LowSt (w wr:World) (B5 B6 B7 b K:Nat) (U Pp Sm:Sp) (f:Nat→Int × Int) (X:Int) (i:Nat):Prop where
 u:VrC wr B5 U
 p:VrC wr B6 Pp
 s:VrC wr B7 Sm
 up:SpAt wr U K (f i).1 (f i).2
 pp:SpAt wr Pp K X X
 sp:SpAt wr Sm K (jG f i).1 (jG f i).2
 ub:U.bits=(b:Int)
 pb:Pp.bits=(b:Int)
 sb:Sm.bits=(b:Int)
 no:NoC wr (w.heap.size+1)
 be:Below w.heap.size w wr
 l5:w.heap.size+1<B5
 l6:w.heap.size+1<B6
 l7:w.heap.size+1<B7
 n56:B5≠B6
 n57:B5≠B7
 n67:B6≠B7
theorem LowSt.bw {w wr wr':World} {B5 B6 B7 b K:Nat} {U Pp Sm:Sp} {f:Nat→Int × Int} {X:Int} {i:Nat} (h:LowSt w wr B5 B6 B7 b K U Pp Sm f X i) (hb:Below wr.heap.size wr wr'):LowSt w wr' B5 B6 B7 b K U Pp Sm f X i :=
 ⟨h.u.bw hb,h.p.bw hb,h.s.bw hb,h.up.bw hb,h.pp.bw hb,h.sp.bw hb,h.ub,h.pb,h.sb,h.no.bw hb,zB h.be hb,h.l5,h.l6,h.l7,h.n56,h.n57,h.n67⟩
theorem zHR (w:World) (x:Nm) (k b N K:Nat) (X:Int) (hx:IntAt w x.neg x.a x.n x.cap k X) (hkK:k≤K) (h0:0≤X) (h1:X≤Q b) (hb:b≤900000) (hN:zC2 (zY b (X,X)) N) (hNb:N≤b+4) (hK:Q (b+20)<P K) (hK2:K≤10000000) (hK3:b/16+18≤K) :
  Calls Tryz.prog 188 #[.agg #[.bool x.neg,.slice x.a x.n x.cap],.int .i64 b] w (zH w b (K+1) (zBS (zY b (X,X)) N).1 (zBS (zY b (X,X)) N).2):=by
 obtain ⟨W,hW⟩:∃ W,W=(w.alloc (.cells #[.bool x.neg,.slice x.a x.n x.cap] 26)).alloc (.cells #[.bool false,.slice none 0 0,.bool false,.slice none 0 0,.int .i64 0] 36):=⟨_,rfl⟩;have hBW:Below w.heap.size w W:=by rw[hW];exact bl2 _ _ _
 have A:NmC W w.heap.size x:=by rw[hW];constructor <;> simp[go_sem]
 have R:NoC W (w.heap.size+1):=by rw[hW];constructor <;> simp[go_sem]
 have HX:=zC ((hx.bw hBW).mono hkK);have lR:=R.lt;have hQb:=zG b
 have hQK:Q b*1048576<P K:=by
  have e:Q (b+20)=Q b*Q 20:=jC b 20;have e2:Q 20=1048576:=rfl;rw[e,e2] at hK;exact hK
 have HFIT:Hid (∀ j,j≤N → -P K<(zY b (X,X) j).1∧(zY b (X,X) j).2<P K):=zC (fun j _=>by
  obtain ⟨g1,g2,g3,g4⟩:=zED h0 h1 j
  omega)
 have HFITS:Hid (∀ j,j≤N → -P K<(jG (zY b (X,X)) j).1∧(jG (zY b (X,X)) j).2<P K):=zC (fun j hj=>by
  obtain ⟨g1,g2,g3,g4⟩:=zL3 h0 h1 j;have:=Int.mul_le_mul_of_nonneg_right (show (j:Int)+1≤1048575 by omega) (show 0≤Q b by omega)
  omega)
 have HN:=zC hN;have HK:=zC (show ∀ w',Below W.heap.size W w'→(w'.cell? ⟨w.heap.size,0,none⟩=some (.bool x.neg)∧w'.cell? ⟨w.heap.size,1,none⟩=some (.slice x.a x.n x.cap)) from fun w' hB=>⟨(A.bw hB).c0,(A.bw hB).c1⟩)
 clear hx hN hQK
 go_enter Tryz.func188,Tryz.ntmps188
 go_wp2;rw[← hW];clear hW;obtain ⟨x0,x1⟩:=zA HK _ (Below.refl _ _)
 go_cut [5,6] (fun p q wx=>TwoP W wx b K K (zY b (X,X) 0) (X,X) p q)
 case first =>
  go_region_held3 (fun w'=>w'.cell? ⟨w.heap.size,0,none⟩=some (.bool x.neg)∧w'.cell? ⟨w.heap.size,1,none⟩=some (.slice x.a x.n x.cap)) (exact zA HK _ (by repeat' (first|with_reducible exact hBU1|with_reducible exact Below.refl _ _|with_reducible refine Below.drew ?_|with_reducible refine zK ?_ _|with_reducible refine Below.setCell ?_ (by with_reducible first|exact Nat.le_refl _|exact Nat.le_succ _|exact hlU1|exact Nat.le_succ_of_le hlU1) _)))
   (first
    | (go_at_call 27;refine (zBZ _ 1 b hb (by decide) (by decide)).mono ?_;rintro r wU1 ⟨vU1,rfl,hvbU1,hZU1,hbU1⟩;have HVBU1:=zC hvbU1;clear hvbU1;have hBU1:Below W.heap.size W wU1:=(by with_reducible first|exact zB (Below.refl _ _).drew hbU1|exact zB (bl1 _ _).drew hbU1|exact zB (bl2 _ _ _).drew hbU1);(first|with_reducible have gaU1:=((zO W 36).bw (Below.refl _ _).drew).bw hbU1|with_reducible have gaU1:=((zO W 36).bw (bl1 _ _).drew).bw hbU1|skip);(try with_reducible have gbU1:=((zBN (W.alloc _) (W.heap.size+1) (hs1 _ _) 36).bw (Below.refl _ _).drew).bw hbU1);have hlU1:=hBU1.size;(try have eaU1:=gaU1);(try obtain ⟨zaU10,zaU11,zaU12,zaU13,zaU14,zaU15⟩:=eaU1);(try have yaU1:=gaU1.lt);(try have ebU1:=gbU1);(try obtain ⟨zbU10,zbU11,zbU12,zbU13,zbU14,zbU15⟩:=ebU1);(try have ybU1:=gbU1.lt)))
  all_goals
   have hiXU:=(show SpAt wU1 vU1 K (zY b (X,X) 0).1 (zY b (X,X) 0).2 by rw[show (zY b (X,X) 0).1=1*Q b from (Int.one_mul _).symm,show (zY b (X,X) 0).2=1*Q b from (Int.one_mul _).symm];exact hZU1.mono hK3)
   have hiYU:=(show SpAt wU1 ⟨x.neg,x.a,x.n,x.cap,x.neg,x.a,x.n,x.cap,(b:Int)⟩ K X X from ⟨(zA HX).bw hBU1,(zA HX).bw hBU1⟩)
   go_wp2_with fail;go_meet
   first
    | with_reducible exact zER (x:=vU1) (y:=⟨x.neg,x.a,x.n,x.cap,x.neg,x.a,x.n,x.cap,(b:Int)⟩) hBU1 hiXU hiYU (zA HVBU1) rfl
    | with_reducible exact zEI (x:=vU1) (y:=⟨x.neg,x.a,x.n,x.cap,x.neg,x.a,x.n,x.cap,(b:Int)⟩) hBU1 hiXU hiYU (zA HVBU1) rfl
    | with_reducible exact zGV (x:=vU1) (y:=⟨x.neg,x.a,x.n,x.cap,x.neg,x.a,x.n,x.cap,(b:Int)⟩) hBU1 hiXU hiYU (zA HVBU1) rfl (by assumption) (by with_reducible first|exact Nat.le_refl _|exact Nat.le_succ _|exact hlU1|exact Nat.le_succ_of_le hlU1)
    | with_reducible exact zJF (x:=vU1) (y:=⟨x.neg,x.a,x.n,x.cap,x.neg,x.a,x.n,x.cap,(b:Int)⟩) hBU1 hiXU hiYU (zA HVBU1) rfl (by assumption) (by with_reducible first|exact Nat.le_refl _|exact Nat.le_succ _|exact hlU1|exact Nat.le_succ_of_le hlU1)
    | with_reducible exact zIS (x:=vU1) (y:=⟨x.neg,x.a,x.n,x.cap,x.neg,x.a,x.n,x.cap,(b:Int)⟩) hBU1 hiXU hiYU (zA HVBU1) rfl (by assumption) (by assumption) (by with_reducible first|exact Nat.le_refl _|exact Nat.le_succ _|exact hlU1|exact Nat.le_succ_of_le hlU1) (by with_reducible first|exact Nat.le_refl _|exact Nat.le_succ _|exact hlU1|exact Nat.le_succ_of_le hlU1) (by omega)
 case rest =>
 obtain ⟨BU,CU,xU,yU,rfl,rfl,hHU,hJU,hneU,XU,YU,hxU,hyU,bxU,byU,hblU⟩:=hcut;replace R:=R.bw hblU;replace hBW:=zB hBW hblU;have lx:=XU.lt;have ly:=YU.lt;have lR2:=R.lt;obtain ⟨⟨y0,y1,y2,y3,y4⟩,y5⟩:=XU;have XU:VrC wc BU xU:=⟨⟨y0,y1,y2,y3,y4⟩,y5⟩;have st0:LowSt w (wc.alloc (.cells #[.bool xU.ln,.slice xU.la xU.lN xU.lc,.bool xU.hn,.slice xU.ha xU.hN xU.hc,.int .i64 xU.bits] 36)) BU CU wc.heap.size b K xU yU xU (zY b (X,X)) X 0:=⟨XU.bw (bl1 _ _),YU.bw (bl1 _ _),zIA wc xU _,hxU.bw (bl1 _ _),hyU.bw (bl1 _ _),hxU.bw (bl1 _ _),bxU,byU,bxU,R.bw (bl1 _ _),zK hBW _,by omega,by omega,by omega,hneU,by omega,by omega⟩
 have HBX:=zC bxU;clear bxU byU hxU hyU HX HK A x0 x1;go_wp2_with fail
 go_loopw [8] (fun nn wr=>∃ (i:Nat) (U Pp Sm:Sp),nn=.int .i64 ((i:Int)+1)∧i<N∧LowSt w wr BU CU wc.heap.size b K U Pp Sm (zY b (X,X)) X i) (fun nn _=>N+1-(intOf nn).toNat)
 case atStart=>exact ⟨0,xU,yU,xU,rfl,by have:=(zA HN).1;omega,st0⟩
 case round =>
  obtain ⟨i,U,Pp,Sm,rfl,hi,st⟩:=hrel;have hlim:(i:Int)+1<3*(b:Int)+20:=by omega
  clear y0 y1 y2 y3 y4 y5 XU;obtain ⟨⟨y0,y1,y2,y3,y4⟩,y5⟩:=st.u;obtain ⟨⟨z0,z1,z2,z3,z4⟩,z5⟩:=st.p;go_wp2_with fail;refine (yO _ U Pp K b (zY b (X,X) i) (X,X) st.up st.pp (by omega) st.ub (by omega)).mono ?_
  rintro r w1 ⟨v1,rfl,hvb1,hvp1,hb1⟩;replace st:=st.bw hb1;have HV1:=zC hvb1;clear hb1 hvb1 y0 y1 y2 y3 y4 y5 z0 z1 z2 z3 z4 z5;go_wp2_with fail;refine (zD 1 _ (by decide) (by decide)).mono ?_
  rintro r w2 ⟨neg2,a2,n2,c2,rfl,hZ2,hb2⟩;replace st:=st.bw hb2;replace hvp1:=hvp1.bw hb2;clear hb2;go_wp2_with fail;refine (zD ((i:Int)+1) _ (by omega) (by omega)).mono ?_
  rintro r w3 ⟨neg3,a3,n3,c3,rfl,hZ3,hb3⟩;replace st:=st.bw hb3;replace hvp1:=hvp1.bw hb3;replace hZ2:=hZ2.bw hb3;clear hb3;go_wp2_with fail;refine (zEA _ v1 ⟨neg2,a2,n2,c2⟩ ⟨neg3,a3,n3,c3⟩ _ _ _ b _ 1 ((i:Int)+1) hvp1 hZ2 hZ3 (by omega) (by omega) (by omega) (by omega) (zA HV1)).mono ?_
  rintro r w4 ⟨v4,rfl,hvb4,hvp4,hb4⟩;rw[kP (kV b) (by omega)] at hvp4
  have e4:zE (kJ b (zY b (X,X) i) (X,X)) 1 ((i:Int)+1)=zY b (X,X) (i+1):=rfl;rw[e4] at hvp4;replace hvp4:=hvp4.fits (K:=K) (kX b (X,X) _) (zA HFIT _ (by omega)).1 (zA HFIT _ (by omega)).2
  replace st:=st.bw hb4;have HV4:=zC hvb4;clear hb4 hvb4 hvp1 hZ2 hZ3 e4;obtain ⟨V4,hV4⟩:∃ V4,V4=zP w4 BU v4:=⟨_,rfl⟩;have U4:VrC V4 BU v4:=by rw[hV4];exact st.u.put v4
  have P4:VrC V4 CU Pp:=by rw[hV4];exact st.p.off (Ne.symm st.n56) v4
  have S4:VrC V4 wc.heap.size Sm:=by rw[hV4];exact st.s.off (Ne.symm st.n57) v4
  have up4:SpAt V4 v4 K (zY b (X,X) (i+1)).1 (zY b (X,X) (i+1)).2:=by rw[hV4];exact hvp4.put st.u.c v4
  have pp4:SpAt V4 Pp K X X:=by rw[hV4];exact st.pp.put st.u.c v4
  have sp4:SpAt V4 Sm K (jG (zY b (X,X)) i).1 (jG (zY b (X,X)) i).2:=by rw[hV4];exact st.sp.put st.u.c v4
  have R4:NoC V4 (w.heap.size+1):=by rw[hV4];exact st.no.off (by have:=st.l5;omega) v4
  have B4:Below w.heap.size w V4:=by rw[hV4];exact zZ st.be (by have:=st.l5;omega) v4
  have hpb:=zC st.pb;have hsb:=zC st.sb;have l5:=st.l5;have l6:=st.l6;have l7:=st.l7;have n56:=st.n56;have n57:=st.n57;have n67:=st.n67;have lu:=st.u.lt;have ls:=st.s.lt;obtain ⟨⟨y0,y1,y2,y3,y4⟩,y5⟩:=st.u;obtain ⟨⟨z0,z1,z2,z3,z4⟩,z5⟩:=st.s;clear st hvp4;go_wp2_with fail;have hV4':V4=zP w4 BU v4:=hV4;unfold zP at hV4';rw[← hV4'];clear hV4' hV4 y0 y1 y2 y3 y4 y5 z0 z1 z2 z3 z4 z5;refine (yB _ Sm v4 K b (jG (zY b (X,X)) i) (zY b (X,X) (i+1)) sp4 up4 (by omega) (zA hsb)).mono ?_
  rintro r w5 ⟨v5,rfl,hvb5,hvp5,hb5⟩;have e5:jJ (jG (zY b (X,X)) i) (zY b (X,X) (i+1))=jG (zY b (X,X)) (i+1):=rfl;rw[e5] at hvp5;replace hvp5:=hvp5.fits (K:=K) (zCB (kX b (X,X)) _) (zA HFITS _ (by omega)).1 (zA HFITS _ (by omega)).2
  have U5:=U4.bw hb5;have P5:=P4.bw hb5;have S5:=S4.bw hb5;have up5:=up4.bw hb5;have pp5:=pp4.bw hb5;have R5:=R4.bw hb5;have B5:=zB B4 hb5;have HV5:=zC hvb5;clear hb5 hvb5 U4 P4 S4 up4 pp4 sp4 R4 B4 e5;have stn:LowSt w (zP w5 wc.heap.size v5) BU CU wc.heap.size b K v4 Pp v5 (zY b (X,X)) X (i+1):=⟨U5.off n57 v5,P5.off n67 v5,S5.put v5,up5.put S5.c v5,pp5.put S5.c v5,hvp5.put S5.c v5,zA HV4,zA hpb,zA HV5,R5.off (by omega) v5,zZ B5 (by omega) v5,l5,l6,l7,n56,n57,n67⟩
  have lu5:=U5.lt;have ls5:=S5.lt;obtain ⟨⟨y0,y1,y2,y3,y4⟩,y5⟩:=U5;obtain ⟨⟨z0,z1,z2,z3,z4⟩,z5⟩:=S5;clear P5 up5 pp5 R5 B5 hvp5;obtain ⟨V5,hV5⟩:∃ V5,V5=zP w5 wc.heap.size v5:=⟨_,rfl⟩;rw[← hV5] at stn;unfold zP at hV5;go_wp2_with fail;rw[← hV5];clear hV5 y0 y1 y2 y3 y4 y5 z0 z1 z2 z3 z4 z5;refine (zC9 _ v4 K 1 _ _ stn.up (by omega) (by omega)).mono ?_
  rintro r w6 ⟨rfl,hb6⟩;rw[zC0];replace stn:=stn.bw hb6;clear hb6;have er:zT ((zY b (X,X) (i+1)).1,(zY b (X,X) (i+1)).2)=zT (zY b (X,X) (i+1)):=rfl;rw[er];clear er
  by_cases hin:i+1<N
  ·by_cases hr:zT (zY b (X,X) (i+1))≤1
   ·have h3:¬ (2:Int)<(i:Int)+1:=by
     intro h3
     have:=(zA HN).2.2 (i+1) (by omega) hin
     omega
    rw[decide_eq_true hr];clear hr;go_wp2_with fail
    go_roundw
    case rel=>exact ⟨i+1,v4,Pp,v5,by go_num,hin,stn⟩
    case measure=>simp[intOf];omega
   ·rw[decide_eq_false hr]
    clear hr;go_wp2_with fail
    go_roundw
    case rel=>exact ⟨i+1,v4,Pp,v5,by go_num,hin,stn⟩
    case measure=>simp[intOf];omega
  ·have hie:i+1=N:=by omega
   have hr:zT (zY b (X,X) (i+1))≤1:=by rw[hie];exact (zA HN).2.1
   have h3:(2:Int)<(i:Int)+1:=by have:=(zA HN).1;omega
   rw[decide_eq_true hr];have HIE:=zC hie;clear hr hie;have ls6:=stn.s.lt;obtain ⟨⟨z0,z1,z2,z3,z4⟩,z5⟩:=stn.s;go_wp2_with fail;refine (zFA _ v5 K 1 _ _ stn.sp (by omega) (by omega) (by omega) (by omega)).mono ?_
   rintro r w7 ⟨v7,rfl,hvb7,hvp7,hb7⟩;obtain ⟨q0,q1,q2,q3,q4,q5⟩:=stn.no.bw hb7;have hBf:=zB stn.be hb7;have HV7:=zC (hvb7.trans stn.sb);rw[zA HIE] at hvp7;clear hvb7 hb7;go_wp2_with fail;refine bodyPost_ret (v:=.agg #[.bool v7.ln,.slice v7.la v7.lN v7.lc,.bool v7.hn,.slice v7.ha v7.hN v7.hc,.int .i64 v7.bits]) (by simp[results,Tryz.results188,go_sem,q0,q1,q2,q3,q4]) rfl ⟨v7,rfl,zA HV7,?_,?_⟩
   ·exact SpAt.put5 hvp7 q0 q1 q2 q3 q4 _ _ _ _ _
   ·exact jV hBf (Nat.le_succ _) _ _ _ _ _
open Go
section
variable {Pg : Program} {ops : Array Oper} {Q : Exit → Act → World → Prop} {md : Region.Mode} {S : World → Prop} {l : Nat}
def AnyL (Pg:Program) (md:Region.Mode) (ops:Array Oper) (Q:Exit→Act→World→Prop) (S:World→Prop) (l:Nat):Nat→Array Bool→Act→World→Prop
 | 0,listed,a,w=>Region.ready md ops listed=[]∧Q .normal a w
 | fuel+1,listed,a,w =>
  (Region.ready md ops listed=[]→Q .normal a w) ∧
  ∀ i ∈ Region.ready md ops listed,wpOp Pg ops Q i (fun a' w'=>(i≠l→S w')∧AnyL Pg md ops Q S l fuel (listed.setIfInBounds i true) a' w') a w
theorem AnyL.any:∀ (fuel:Nat) (listed:Array Bool) (a:Act) (w:World),AnyL Pg md ops Q S l fuel listed a w→wpAny Pg md ops Q fuel listed a w
 | 0,_,_,_,h=>h
 | fuel+1,_,_,_,h=>⟨h.1,fun i hi=>wpOp_mono (fun a' w' h'=>AnyL.any fuel _ a' w' h'.2) (h.2 i hi)⟩
def zIW (md:Region.Mode) (ops:Array Oper) (l i:Nat):Bool :=
 match ops[l]? with
 | some o=>o.after.any (fun e=>Region.binds md e && e.on == i)
 | none=>false
theorem zHS {i:Nat} {listed:Array Bool} (hw:zIW md ops l i=true) (hi:i ∈ Region.ready md ops listed) (hl:l ∈ Region.ready md ops listed):False:=by
 obtain ⟨_,ol,hol,hall⟩:=mem_ready.1 hl;obtain ⟨h0,oi,hoi,_⟩:=mem_ready.1 hi;unfold zIW at hw;rw[hol] at hw;simp only[Array.any_eq_true'] at hw;obtain ⟨e,he,h2⟩:=hw;simp only[Bool.and_eq_true,beq_iff_eq] at h2;have h1:=hall e he h2.1;rw[h2.2] at h1
 rcases Nat.lt_or_ge i listed.size with h'|h'
 ·simp[h'] at h0 h1;rw[h0] at h1;cases h1
 ·simp[Array.getElem?_eq_none h'] at h1
theorem AnyL.first {i:Nat} {oi:Oper} {v:Value} (hi:ops[i]?=some oi) (hsel:∀ (j:Nat) (o:Oper) cs b,ops[j]?=some o→o.op≠.select cs b)
  (hQ:∀ c a w,Q (.panic c) (a.put oi.dst v) w→Q (.panic c) a w) (hwt:zIW md ops l i=true) :
  ∀ (fuel:Nat) (listed:Array Bool) (a:Act) (w:World),
   (∀ j oj,ops[j]?=some oj→j≠i→listed.getD j true=false→(∀ e ∈ oj.after,Region.binds md e=true→e.on≠i)→oi.apart ops oj=true) →
   i ∈ Region.ready md ops listed→YieldsIf Pg ops S oi v a→S w →
   AnyL Pg md ops Q S l fuel (listed.setIfInBounds i true) (a.put oi.dst v) w→AnyL Pg md ops Q S l (fuel+1) listed a w:=by
 intro fuel
 induction fuel with
 | zero =>
  intro listed a w _ hr hy hS H
  refine ⟨fun h=>(by rw[h] at hr;cases hr),fun j hj=>?_⟩
  by_cases hji:j=i
  ·subst hji;exact hy.wpOp hi hS ⟨fun _=>hS,H⟩
  ·have:=ready_mono hj hji
   rw[H.1] at this
   cases this
 | succ fuel ih =>
  intro listed a w hfree hr hy hS H
  refine ⟨fun h=>(by rw[h] at hr;cases hr),fun j hj=>?_⟩
  by_cases hji:j=i
  ·subst hji;exact hy.wpOp hi hS ⟨fun _=>hS,H⟩
  ·have hjl:j≠l:=fun h=>zHS hwt hr (h ▸ hj)
   have h1:=H.2 j (ready_mono hj hji);obtain ⟨hjun,oj,hoj,hall⟩:=mem_ready.1 hj
   have hnot:∀ e ∈ oj.after,Region.binds md e=true→e.on≠i:=fun e he hb heq=>by
    have h1:=hall e he hb;have h0:=(mem_ready.1 hr).1;rw[heq] at h1
    rcases Nat.lt_or_ge i listed.size with h'|h'
    ·simp[h'] at h0 h1;rw[h0] at h1;cases h1
    ·simp[Array.getElem?_eq_none h'] at h1
   have h2:=wpOp_putIf hoj (hfree j oj hoj hji hjun hnot) (fun cs b=>hsel i oi cs b hi) (fun cs b=>hsel j oj cs b hoj) hQ hy h1
   have hfree':∀ k ok,ops[k]?=some ok→k≠i→(listed.setIfInBounds j true).getD k true=false →
     (∀ e ∈ ok.after,Region.binds md e=true→e.on≠i)→oi.apart ops ok=true:=fun k ok hk hki hun hno=>by
    refine hfree k ok hk hki ?_ hno
    by_cases hjk:j=k
    ·subst hjk;exact hjun
    ·rw[getD_set_ne true hjk] at hun;exact hun
   refine wpOp_mono (fun a' w' h3=>⟨fun _=>h3.2.1 hjl,ih (listed.setIfInBounds j true) a' w' hfree' (ready_mono hr (Ne.symm hji)) h3.1 (h3.2.1 hjl) ?_⟩) h2
   rw[Array.setIfInBounds_comm _ _ hji];exact h3.2.2
theorem AnyL.take {i:Nat} {oi:Oper} {v:Value} {fuel:Nat} {listed:Array Bool} {a:Act} {w:World} (hi:ops[i]?=some oi)
  (hs:Region.noSelect ops=true) (hf:Region.free md ops listed i=true) (hr:(Region.ready md ops listed).contains i=true) (hwt:zIW md ops l i=true)
  (hQ:∀ c a w,Q (.panic c) (a.put oi.dst v) w→Q (.panic c) a w) (hy:YieldsIf Pg ops S oi v a) (hS:S w)
  (h:AnyL Pg md ops Q S l fuel (listed.setIfInBounds i true) (a.put oi.dst v) w):AnyL Pg md ops Q S l (fuel+1) listed a w :=
 AnyL.first hi (Region.noSelect_spec hs) hQ hwt fuel listed a w (Region.free_spec hi hf) (by simpa using hr) hy hS h
theorem AnyL.one {i:Nat} {o:Oper} {fuel:Nat} {listed:Array Bool} {a:Act} {w:World} (hr:Region.ready md ops listed=[i]) (ho:ops[i]?=some o)
  (h:∀ K':Act→World→Prop,Shut (∀ a w,S w→(S w→AnyL Pg md ops Q S l fuel (listed.setIfInBounds i true) a w)→K' a w)→if Region.wanted o (yielded ops a.tmps)=true then Oper.wp Pg o a w K' Q else K' (a.put o.dst undef) w) :
  AnyL Pg md ops Q S l (fuel+1) listed a w :=
 ⟨fun h0=>absurd (hr ▸ h0) (by simp),fun j hj=>by
  rw[hr] at hj;have hj':j=i:=by simpa using hj
  subst hj'
  exact wpOp_step ho (fun K' hK=>h K' (fun a w hS hW=>hK a w ⟨fun _=>hS,hW hS⟩))⟩
theorem AnyL.last {o:Oper} {fuel:Nat} {listed:Array Bool} {a:Act} {w:World} (hr:Region.ready md ops listed=[l]) (ho:ops[l]?=some o)
  (hd:Region.ready md ops (listed.setIfInBounds l true)=[])
  (h:∀ K':Act→World→Prop,Shut (∀ a w,Q .normal a w→K' a w)→if Region.wanted o (yielded ops a.tmps)=true then Oper.wp Pg o a w K' Q else K' (a.put o.dst undef) w) :
  AnyL Pg md ops Q S l (fuel+1) listed a w :=
 ⟨fun h0=>absurd (hr ▸ h0) (by simp),fun j hj=>by
  rw[hr] at hj;have hj':j=l:=by simpa using hj
  subst hj';refine wpOp_step ho (fun K' hK=>h K' (fun a w hW=>hK a w ⟨fun h=>absurd rfl h,?_⟩))
  cases fuel with
  | zero=>exact ⟨hd,hW⟩
  | succ fuel=>exact ⟨fun _=>hW,by rw[hd];simp⟩⟩
theorem AnyL.start {id:Nat} {a:Act} {w:World} (hm:Pg.follows .mixedOrders=true) (hS:S w.drew)
  (h:S w.drew→AnyL Pg .any ops Q S l ops.size (Array.replicate ops.size false) a w.drew):(Code.region id ops true).wp Pg Q a w :=
 wp_region_any hm (AnyL.any _ _ _ _ (h hS))
end
open Go.RowKit
attribute [local go_sem ↓] Go.wp_at_zero Go.wp_at_succ
theorem minZ_cap (x q:Int):minZ x q=if x≤q then x else q:=by unfold minZ;split <;> split <;> omega
theorem fieldP1 (x y:Bool) (a a':Option Addr) (n c n' c':Nat) (b:Int) (w:World):(Instr.field 28 (.agg #[.bool x,.slice a n c,.bool y,.slice a' n' c',.int .i64 b]) 1).run Tryz.prog w=.ok (.agg #[.bool y,.slice a' n' c']) w:=by kernel_rfl
theorem zG0 {w:World} {B:Nat} {s:Sp} (h:VrC w B s) (x:Nm):VrC ((w.setCell ⟨B,2,none⟩ (.bool x.neg)).setCell ⟨B,3,none⟩ (.slice x.a x.n x.cap)) B ⟨s.ln,s.la,s.lN,s.lc,x.neg,x.a,x.n,x.cap,s.bits⟩:=by
 obtain ⟨⟨q0,q1,q2,q3,q4⟩,q5⟩:=h;exact ⟨⟨by simp[go_sem,q0],by simp[go_sem,q1],by simp[go_sem,q2],by simp[go_sem,q3],by simp[go_sem,q4]⟩,fun o=>by rw[zM,zM];exact q5 o⟩
theorem NoC.offH {w:World} {B B':Nat} (h:NoC w B) (hne:B≠B') (u0 u1:Value):NoC ((w.setCell ⟨B',2,none⟩ u0).setCell ⟨B',3,none⟩ u1) B:=by
 obtain ⟨q0,q1,q2,q3,q4,q5⟩:=h;exact ⟨by simp[go_sem,q0,hne,Ne.symm hne],by simp[go_sem,q1,hne,Ne.symm hne],by simp[go_sem,q2,hne,Ne.symm hne],by simp[go_sem,q3,hne,Ne.symm hne],by simp[go_sem,q4,hne,Ne.symm hne],fun o=>by rw[zM,zM];exact q5 o⟩
theorem IntAt.putH {w:World} {neg:Bool} {a:Option Addr} {n cap k:Nat} {z:Int} (h:IntAt w neg a n cap k z) {B:Nat} {x0:Bool} {y0:Option Addr} {y1 y2:Nat} (h0:w.cell? ⟨B,2,none⟩=some (.bool x0))
  (h1:w.cell? ⟨B,3,none⟩=some (.slice y0 y1 y2)) (u0 u1:Value):IntAt ((w.setCell ⟨B,2,none⟩ u0).setCell ⟨B,3,none⟩ u1) neg a n cap k z:=by
 have hne:(⟨B,2,none⟩:Addr)≠⟨B,3,none⟩:=by simp
 have h2:(w.setCell ⟨B,2,none⟩ u0).cell? ⟨B,3,none⟩=some (.slice y0 y1 y2):=(World.cell?_setCell_other _ _ _ _ hne).trans h1;exact (h.store h0 (fun _ e=>by cases e) u0).store h2 (fun _ e=>by cases e) u1
theorem zI4 (w:World) (s:Sp) (k b:Nat) (lo hi:Int) (hs:SpAt w s k lo hi) (hbits:s.bits=(b:Int)) (hb:b≤100000) (hk0:b/16+24≤k) (hk:k≤100000000) :
  Calls Tryz.prog 145 #[.agg #[.bool s.ln,.slice s.la s.lN s.lc,.bool s.hn,.slice s.ha s.hN s.hc,.int .i64 s.bits]] w (zH w b (k+1) lo (minZ hi (Q b))):=by
 obtain ⟨W,hW⟩:∃ W,W=(w.alloc (.cells #[.bool s.ln,.slice s.la s.lN s.lc,.bool s.hn,.slice s.ha s.hN s.hc,.int .i64 s.bits] 28)).alloc (.cells #[.bool false,.slice none 0 0,.bool false,.slice none 0 0,.int .i64 0] 28):=⟨_,rfl⟩;have hBW:Below w.heap.size w W:=by rw[hW];exact bl2 _ _ _
 have A:VrC W w.heap.size s:=by rw[hW];exact ⟨⟨by simp[go_sem],by simp[go_sem],by simp[go_sem],by simp[go_sem],by simp[go_sem]⟩,fun o=>by simp[go_sem]⟩
 have R:NoC W (w.heap.size+1):=by rw[hW];constructor <;> simp[go_sem]
 have HBW:=zC hBW;have HS:=zC (hs.bw hBW);have HB:=zC hbits;have HA:=zC A;have HR:=zC R;have HO:=zC (show -(-(1*Q b)/1)=Q b by rw[Int.ediv_one];omega)
 have HK:=zC (show ∀ w',Below W.heap.size W w'→(w'.cell? ⟨w.heap.size,2,none⟩=some (.bool s.hn)∧w'.cell? ⟨w.heap.size,3,none⟩=some (.slice s.ha s.hN s.hc)∧w'.cell? ⟨w.heap.size,4,none⟩=some (.int .i64 s.bits)) from fun w' hB=>⟨(A.bw hB).c.c2,(A.bw hB).c.c3,(A.bw hB).c.c4⟩)
 have hD0:Below W.heap.size W W.drew:=(Below.refl _ _).drew;clear hs hbits hBW A R
 go_enter Tryz.func145,Tryz.ntmps145
 go_wp2;rw[← hW];clear hW;refine AnyL.start (S:=fun w'=>w'.cell? ⟨w.heap.size,2,none⟩=some (.bool s.hn)∧w'.cell? ⟨w.heap.size,3,none⟩=some (.slice s.ha s.hN s.hc)∧w'.cell? ⟨w.heap.size,4,none⟩=some (.int .i64 s.bits)) (l:=9) (by kernel_rfl) (zA HK _ hD0) (fun hHeld=>?_)
 refine AnyL.take (i:=0) (oi:={ dst:=some 3,op:=Go.Op.fieldAddr 28 (Go.Operand.tmp 1) 1,type:=0,pos := "part.go:53",after:=#[],guard:=none }) (v:=.pointer (some ⟨w.heap.size,2,none⟩)) rfl (by kernel_rfl) (by kernel_rfl) (by kernel_rfl) (by kernel_rfl) (fun _ _ _ h=>h) (Or.inl ⟨by rfl,fun w hSw=>?_⟩) hHeld ?_
 ·obtain ⟨s0,s1,s2⟩:=hSw;go_simp
 try simp only[Act.put,List.setIfInBounds_toArray,List.set_cons_zero,List.set_cons_succ]
 refine AnyL.take (i:=1) (oi:={ dst:=some 4,op:=Go.Op.load 26 (Go.Operand.tmp 3),type:=26,pos := "part.go:53",after:=#[{ on:=0,ground:=Go.Ground.data }],guard:=none }) (v:=.agg #[.bool s.hn,.slice s.ha s.hN s.hc]) rfl (by kernel_rfl) (by kernel_rfl) (by kernel_rfl) (by kernel_rfl) (fun _ _ _ h=>h) (Or.inl ⟨by rfl,fun w hSw=>?_⟩) hHeld ?_
 ·obtain ⟨s0,s1,s2⟩:=hSw;go_simp
 try simp only[Act.put,List.setIfInBounds_toArray,List.set_cons_zero,List.set_cons_succ]
 refine AnyL.take (i:=2) (oi:={ dst:=some 5,op:=Go.Op.fieldAddr 28 (Go.Operand.tmp 1) 2,type:=0,pos := "part.go:53",after:=#[],guard:=none }) (v:=.pointer (some ⟨w.heap.size,4,none⟩)) rfl (by kernel_rfl) (by kernel_rfl) (by kernel_rfl) (by kernel_rfl) (fun _ _ _ h=>h) (Or.inl ⟨by rfl,fun w hSw=>?_⟩) hHeld ?_
 ·obtain ⟨s0,s1,s2⟩:=hSw;go_simp
 try simp only[Act.put,List.setIfInBounds_toArray,List.set_cons_zero,List.set_cons_succ]
 refine AnyL.take (i:=3) (oi:={ dst:=some 6,op:=Go.Op.load 3 (Go.Operand.tmp 5),type:=3,pos := "part.go:53",after:=#[{ on:=2,ground:=Go.Ground.data }],guard:=none }) (v:=.int .i64 s.bits) rfl (by kernel_rfl) (by kernel_rfl) (by kernel_rfl) (by kernel_rfl) (fun _ _ _ h=>h) (Or.inl ⟨by rfl,fun w hSw=>?_⟩) hHeld ?_
 ·obtain ⟨s0,s1,s2⟩:=hSw;go_simp
 try simp only[Act.put,List.setIfInBounds_toArray,List.set_cons_zero,List.set_cons_succ]
 refine AnyL.one (i:=4) (o:={ dst:=some 7,op:=Go.Op.call { callee:=Go.Callee.value (Go.Operand.func 133),args:=#[Go.Operand.tmp 6],argTypes:=#[3] },type:=28,pos := "part.go:53",after:=#[{ on:=3,ground:=Go.Ground.data }],guard:=none }) (by kernel_rfl) rfl (fun Kc hKc=>?_)
 go_simp
 rw[zA HB];refine (zE7 _ b (by omega)).mono ?_
 rintro r' w1 ⟨v1,rfl,hvb1,hs1,hb⟩;have hD1:=zB hD0 hb;clear hb hvb1;go_wp2_with fail;refine hKc.out _ _ (zA HK _ hD1) (fun hHeld=>?_)
 clear hKc Kc
 try simp only[Act.put,List.setIfInBounds_toArray,List.set_cons_zero,List.set_cons_succ]
 refine AnyL.take (i:=5) (oi:={ dst:=some 8,op:=Go.Op.field 28 (Go.Operand.tmp 7) 1,type:=26,pos := "part.go:53",after:=#[{ on:=4,ground:=Go.Ground.data }],guard:=none }) (v:=.agg #[.bool v1.hn,.slice v1.ha v1.hN v1.hc]) rfl (by kernel_rfl) (by kernel_rfl) (by kernel_rfl) (by kernel_rfl) (fun _ _ _ h=>h) (Or.inl ⟨by rfl,fun w hSw=>?_⟩) hHeld ?_
 ·obtain ⟨s0,s1,s2⟩:=hSw;(have hf1:=fieldP1;go_simp)
 try simp only[Act.put,List.setIfInBounds_toArray,List.set_cons_zero,List.set_cons_succ]
 refine AnyL.one (i:=6) (o:={ dst:=some 9,op:=Go.Op.buildSlice 104 2 #[(0,Go.Operand.tmp 4),(1,Go.Operand.tmp 8)],type:=104,pos := "part.go:53",after:=#[{ on:=1,ground:=Go.Ground.data },{ on:=5,ground:=Go.Ground.data }],guard:=none }) (by kernel_rfl) rfl (fun Kc hKc=>?_)
 go_simp
 refine hKc.out _ _ (zA HK _ (zK hD1 _)) (fun hHeld=>?_)
 clear hKc Kc
 try simp only[Act.put,List.setIfInBounds_toArray,List.set_cons_zero,List.set_cons_succ]
 refine AnyL.one (i:=7) (o:={ dst:=some 10,op:=Go.Op.call { callee:=Go.Callee.value (Go.Operand.func 177),args:=#[Go.Operand.tmp 9],argTypes:=#[104] },type:=26,pos := "part.go:53",after:=#[{ on:=6,ground:=Go.Ground.data },{ on:=4,ground:=Go.Ground.chain }],guard:=none }) (by kernel_rfl) rfl (fun Kc hKc=>?_)
 go_simp
 refine (least2 w1 _ rfl ⟨s.hn,s.ha,s.hN,s.hc⟩ ⟨v1.hn,v1.ha,v1.hN,v1.hc⟩ k hi (Q b) _ _ ((zA HS).hi.bw hD1) ((zA HO ▸ hs1.hi).mono hk0) (by omega)).mono ?_
 rintro r' w2 ⟨neg2,a2,n2,c2,rfl,hZ2,hb2⟩;have hD2:=zB hD1 hb2;clear hb2;go_wp2_with fail;refine hKc.out _ _ (zA HK _ hD2) (fun hHeld=>?_)
 clear hKc Kc
 try simp only[Act.put,List.setIfInBounds_toArray,List.set_cons_zero,List.set_cons_succ]
 refine AnyL.take (i:=8) (oi:={ dst:=some 11,op:=Go.Op.fieldAddr 28 (Go.Operand.tmp 1) 1,type:=0,pos := "part.go:53",after:=#[{ on:=0,ground:=Go.Ground.phase },{ on:=1,ground:=Go.Ground.phase },{ on:=2,ground:=Go.Ground.phase },{ on:=3,ground:=Go.Ground.phase },{ on:=4,ground:=Go.Ground.phase },{ on:=5,ground:=Go.Ground.phase },{ on:=6,ground:=Go.Ground.phase },{ on:=7,ground:=Go.Ground.phase }],guard:=none }) (v:=.pointer (some ⟨w.heap.size,2,none⟩)) rfl (by kernel_rfl) (by kernel_rfl) (by kernel_rfl) (by kernel_rfl) (fun _ _ _ h=>h) (Or.inl ⟨by rfl,fun w hSw=>?_⟩) hHeld ?_
 ·obtain ⟨s0,s1,s2⟩:=hSw;go_simp
 try simp only[Act.put,List.setIfInBounds_toArray,List.set_cons_zero,List.set_cons_succ]
 have V2:=(zA HA).bw hD2;have lA:=V2.lt;obtain ⟨⟨y0,y1,y2,y3,y4⟩,y5⟩:=V2;refine AnyL.last (o:={ dst:=none,op:=Go.Op.store 26 (Go.Operand.tmp 11) (Go.Operand.tmp 10),type:=0,pos := "part.go:53",after:=#[{ on:=8,ground:=Go.Ground.data },{ on:=7,ground:=Go.Ground.data },{ on:=7,ground:=Go.Ground.chain },{ on:=0,ground:=Go.Ground.phase },{ on:=1,ground:=Go.Ground.phase },{ on:=2,ground:=Go.Ground.phase },{ on:=3,ground:=Go.Ground.phase },{ on:=4,ground:=Go.Ground.phase },{ on:=5,ground:=Go.Ground.phase },{ on:=6,ground:=Go.Ground.phase },{ on:=7,ground:=Go.Ground.phase }],guard:=none }) (by kernel_rfl) rfl (by kernel_rfl) (fun Kc hKc=>?_)
 go_simp
 refine hKc.out _ _ ?_;clear hKc Kc;have R2:=(zA HR).bw hD2;obtain ⟨V,hV⟩:∃ V,V=((w2.setCell ⟨w.heap.size,2,none⟩ (.bool neg2)).setCell ⟨w.heap.size,3,none⟩ (.slice a2 n2 c2)):=⟨_,rfl⟩;have R3:NoC V (w.heap.size+1):=by rw[hV];exact R2.offH (by omega) _ _
 have A3:VrC V w.heap.size ⟨s.ln,s.la,s.lN,s.lc,neg2,a2,n2,c2,s.bits⟩:=by rw[hV];exact zG0 ((zA HA).bw hD2) ⟨neg2,a2,n2,c2⟩
 have i1:IntAt V s.ln s.la s.lN s.lc k lo:=by rw[hV];exact ((zA HS).lo.bw hD2).putH y2 y3 _ _
 have i2:IntAt V neg2 a2 n2 c2 (k+1) (minZ hi (Q b)):=by rw[hV];exact hZ2.putH y2 y3 _ _
 have hB3:Below w.heap.size w V:=by rw[hV];exact ((zB (zA HBW) hD2).setCell (p:=⟨w.heap.size,2,none⟩) (Nat.le_refl _) _).setCell (p:=⟨w.heap.size,3,none⟩) (Nat.le_refl _) _
 rw[← hV];clear hV y0 y1 y2 y3 y4 y5 lA;have lA:=A3.lt;have lR:=R3.lt;obtain ⟨⟨y0,y1,y2,y3,y4⟩,y5⟩:=A3;obtain ⟨q0,q1,q2,q3,q4,q5⟩:=R3;go_wp2_with fail;refine bodyPost_ret (v:=.agg #[.bool s.ln,.slice s.la s.lN s.lc,.bool neg2,.slice a2 n2 c2,.int .i64 s.bits]) (by simp[results,Tryz.results145,go_sem,q0,q1,q2,q3,q4]) rfl ⟨⟨s.ln,s.la,s.lN,s.lc,neg2,a2,n2,c2,s.bits⟩,rfl,zA HB,?_,?_⟩
 ·exact SpAt.put5 (show SpAt V ⟨s.ln,s.la,s.lN,s.lc,neg2,a2,n2,c2,s.bits⟩ (k+1) lo (minZ hi (Q b)) from ⟨i1.mono (by omega),i2⟩) q0 q1 q2 q3 q4 _ _ _ _ _
 ·exact jV hB3 (Nat.le_succ _) _ _ _ _ _
structure VnC (w:World) (B:Nat) (x:Nm):Prop where
 c:NmC w B x
 fz:∀ o,w.frozen? ⟨B,o,none⟩=false
theorem VnC.lt {w:World} {B:Nat} {x:Nm} (h:VnC w B x):B<w.heap.size:=h.c.lt
theorem VnC.bw {w w':World} {B:Nat} {x:Nm} (h:VnC w B x) (hb:Below w.heap.size w w'):VnC w' B x :=
 ⟨h.c.bw hb,fun o=>(hb.frozen (p:=⟨B,o,none⟩) h.lt).trans (h.fz o)⟩
abbrev zAM (w:World) (B:Nat) (x:Nm):World:=(w.setCell ⟨B,0,none⟩ (.bool x.neg)).setCell ⟨B,1,none⟩ (.slice x.a x.n x.cap)
theorem VnC.put {w:World} {B:Nat} {x:Nm} (h:VnC w B x) (y:Nm):VnC (zAM w B y) B y:=⟨zFJ h.c y,zAT h.fz _ _⟩
theorem VnC.off {w:World} {B B':Nat} {x:Nm} (h:VnC w B x) (hne:B≠B') (y:Nm):VnC (zAM w B' y) B x:=⟨h.c.off hne _ _,zAT h.fz _ _⟩
theorem IntAt.putv {w:World} {neg:Bool} {a:Option Addr} {n cap k:Nat} {z:Int} (h:IntAt w neg a n cap k z) {B:Nat} {x:Nm} (hx:VnC w B x) (y:Nm):IntAt (zAM w B y) neg a n cap k z:=h.put2 hx.c.c0 hx.c.c1 _ _
theorem NoC.offv {w:World} {B B':Nat} (h:NoC w B) (hne:B≠B') (y:Nm):NoC (zAM w B' y) B:=by
 obtain ⟨q0,q1,q2,q3,q4,q5⟩:=h;exact ⟨by simp[go_sem,q0,hne,Ne.symm hne],by simp[go_sem,q1,hne,Ne.symm hne],by simp[go_sem,q2,hne,Ne.symm hne],by simp[go_sem,q3,hne,Ne.symm hne],by simp[go_sem,q4,hne,Ne.symm hne],zAT q5 _ _⟩
theorem vnc_new (w:World) (x:Nm) (T:TypeId):VnC (w.alloc (.cells #[.bool x.neg,.slice x.a x.n x.cap] T)) w.heap.size x:=⟨⟨by simp,by simp⟩,fun o=>by simp[go_sem]⟩
structure RaiSt2 (w wr:World) (B5 b K:Nat) (O S:Sp) (o s:Int × Int):Prop where
 u:VrC wr B5 O
 v:VrC wr w.heap.size S
 up:SpAt wr O K o.1 o.2
 vp:SpAt wr S K s.1 s.2
 ub:O.bits=(b:Int)
 vb:S.bits=(b:Int)
 no:NoC wr (w.heap.size+1)
 be:Below w.heap.size w wr
 l5:w.heap.size+1<B5
theorem RaiSt2.bw {w wr wr':World} {B5 b K:Nat} {O S:Sp} {o s:Int × Int} (h:RaiSt2 w wr B5 b K O S o s) (hb:Below wr.heap.size wr wr'):RaiSt2 w wr' B5 b K O S o s :=
 ⟨h.u.bw hb,h.v.bw hb,h.up.bw hb,h.vp.bw hb,h.ub,h.vb,h.no.bw hb,zB h.be hb,h.l5⟩
theorem zIC (w:World) (s:Sp) (b K n:Nat) (a:Int × Int) (Inv:Nat→Int × Int→Int × Int→Prop) (hs:SpAt w s K a.1 a.2) (hbits:s.bits=(b:Int)) (hb:b≤900000) (hn:n≤1000000) (hK2:K≤10000000) (hK3:b/16+18≤K)
  (hI0:Inv n (Q b,Q b) a)
  (hI1:∀ m o c,0<m→Inv m o c→Inv (m/2) (if m % 2=1 then kJ b o c else o) (kJ b c c)∧(-P K<(kJ b o c).1∧(kJ b o c).2<P K∨m % 2≠1) ∧ -P K<(kJ b c c).1∧(kJ b c c).2<P K) :
  Calls Tryz.prog 187 #[.agg #[.bool s.ln,.slice s.la s.lN s.lc,.bool s.hn,.slice s.ha s.hN s.hc,.int .i64 s.bits],.int .i64 n] w (fun r w'=>∃ o c,Inv 0 o c∧zH w b K o.1 o.2 r w'):=by
 obtain ⟨W,hW⟩:∃ W,W=(w.alloc (.cells #[.bool s.ln,.slice s.la s.lN s.lc,.bool s.hn,.slice s.ha s.hN s.hc,.int .i64 s.bits] 36)).alloc (.cells #[.bool false,.slice none 0 0,.bool false,.slice none 0 0,.int .i64 0] 36):=⟨_,rfl⟩;have hBW:Below w.heap.size w W:=by rw[hW];exact bl2 _ _ _
 have A:VrC W w.heap.size s:=by rw[hW];exact ⟨⟨by simp[go_sem],by simp[go_sem],by simp[go_sem],by simp[go_sem],by simp[go_sem]⟩,fun o=>by simp[go_sem]⟩
 have R:NoC W (w.heap.size+1):=by rw[hW];constructor <;> simp[go_sem]
 have HS:=zC (hs.bw hBW);have HI0:=zC hI0;have HI1:=zC hI1;have HB:=zC hbits;clear hs hI0 hI1 hbits
 go_enter Tryz.func187,Tryz.ntmps187
 go_wp2_with fail;rw[← hW,zA HB];clear hW;refine (zBZ _ 1 b hb (by decide) (by decide)).mono ?_
 rintro r w1 ⟨v1,rfl,hvb1,hvp1,hb1⟩;rw[Int.one_mul] at hvp1;replace hvp1:=hvp1.mono hK3;replace A:=A.bw hb1;replace R:=R.bw hb1;replace hBW:=zB hBW hb1;replace HS:=zC ((zA HS).bw hb1);have lR:=R.lt;have st0:RaiSt2 w (w1.alloc (.cells #[.bool v1.ln,.slice v1.la v1.lN v1.lc,.bool v1.hn,.slice v1.ha v1.hN v1.hc,.int .i64 v1.bits] 36)) w1.heap.size b K v1 s (Q b,Q b) a:=⟨zIA w1 v1 _,A.bw (bl1 _ _),hvp1.bw (bl1 _ _),(zA HS).bw (bl1 _ _),hvb1,zA HB,R.bw (bl1 _ _),zK hBW _,by omega⟩
 have HV1:=zC hvb1;clear hvb1 hvp1 A R hBW HS hb1;go_wp2_with fail
 go_loopw [1] (fun mm wr=>∃ (m:Nat) (O S:Sp) (o c:Int × Int),mm=.int .i64 (m:Int)∧m≤n∧Inv m o c∧RaiSt2 w wr w1.heap.size b K O S o c) (fun mm _=>(intOf mm).toNat)
 case atStart=>exact ⟨n,v1,s,(Q b,Q b),a,rfl,Nat.le_refl _,zA HI0,st0⟩
 case round =>
  obtain ⟨m,O,S,o,c,rfl,hmn,hInv,st⟩:=hrel;have HInv:=zC hInv;clear hInv
  by_cases hm:0<m
  ·have hm':(0:Int)<(m:Int):=by omega
   have q1:((m:Int)).tdiv 2=((m/2:Nat):Int):=by rw[Int.tdiv_eq_ediv_of_nonneg (by omega)];omega
   have HQ:=zC q1;obtain ⟨k1,k2,k3⟩:=zA HI1 m o c hm (zA HInv);have HN:=zC k1;have HF:=zC k2;have HG:=zC k3;clear k1 k2 k3 q1;have lv:=st.v.lt;have lu:=st.u.lt
   by_cases hodd:m % 2=1
   ·have q2:((m:Int)).tmod 2=1:=by rw[Int.tmod_eq_emod_of_nonneg (by omega)];omega
    have q3:(m:Int) % 2=1:=by omega
    have HO:=zC hodd;obtain ⟨⟨y0,y1,y2,y3,y4⟩,y5⟩:=st.u;obtain ⟨⟨z0,z1,z2,z3,z4⟩,z5⟩:=st.v;clear hodd;go_wp2_with fail;refine (yO _ O S K b o c st.up st.vp (by omega) st.ub (by omega)).mono ?_
    rintro r w2 ⟨v2,rfl,hvb2,hvp2,hb2⟩;have hf:=(zA HF).resolve_right (fun h=>h (zA HO))
    replace hvp2:=hvp2.fits (K:=K) (kV b) hf.1 hf.2;replace st:=st.bw hb2;have HV2:=zC hvb2;clear hvb2 hb2 hf y0 y1 y2 y3 y4 y5 z0 z1 z2 z3 z4 z5;have ne5:w.heap.size≠w1.heap.size:=by have:=st.l5;omega
    have st2:RaiSt2 w (zP w2 w1.heap.size v2) w1.heap.size b K v2 S (kJ b o c) c:=⟨st.u.put v2,st.v.off ne5 v2,hvp2.put st.u.c v2,st.vp.put st.u.c v2,zA HV2,st.vb,st.no.off (by have:=st.l5;omega) v2,zZ st.be (by have:=st.l5;omega) v2,st.l5⟩
    have lv2:=st.v.lt;have lu2:=st.u.lt;obtain ⟨⟨y0,y1,y2,y3,y4⟩,y5⟩:=st.u;obtain ⟨⟨z0,z1,z2,z3,z4⟩,z5⟩:=st.v;obtain ⟨V2,hV2⟩:∃ V2,V2=zP w2 w1.heap.size v2:=⟨_,rfl⟩;rw[← hV2] at st2;unfold zP at hV2;clear st hvp2;go_wp2_with fail;rw[← hV2];clear hV2 y0 y1 y2 y3 y4 y5 z0 z1 z2 z3 z4 z5;refine (yO _ S S K b c c st2.vp st2.vp (by omega) st2.vb (by omega)).mono ?_
    rintro r w3 ⟨v3,rfl,hvb3,hvp3,hb3⟩;replace hvp3:=hvp3.fits (K:=K) (kV b) (zA HG).1 (zA HG).2;replace st2:=st2.bw hb3;have HV3:=zC hvb3;clear hvb3 hb3;have st3:RaiSt2 w (zP w3 w.heap.size v3) w1.heap.size b K v2 v3 (kJ b o c) (kJ b c c):=⟨st2.u.off (Ne.symm ne5) v3,st2.v.put v3,st2.up.put st2.v.c v3,hvp3.put st2.v.c v3,st2.ub,zA HV3,st2.no.off (by omega) v3,zZ st2.be (Nat.le_refl _) v3,st2.l5⟩
    unfold zP at st3;have lv3:=st2.v.lt;obtain ⟨⟨z0,z1,z2,z3,z4⟩,z5⟩:=st2.v;clear st2 hvp3;go_wp2_with fail
    go_roundw
    case rel =>
     refine ⟨m/2,v2,v3,kJ b o c,kJ b c c,?_,by omega,?_,st3⟩
     ·first|exact congrArg _ (zA HQ)|(congr 1;omega)
     ·have:=zA HN
      rw[if_pos (zA HO)] at this;exact this
    case measure=>have:=zA HQ;simp[intOf];omega
   ·have q2:((m:Int)).tmod 2=0:=by rw[Int.tmod_eq_emod_of_nonneg (by omega)];omega
    have q3:(m:Int) % 2=0:=by omega
    have HO:=zC hodd;obtain ⟨⟨z0,z1,z2,z3,z4⟩,z5⟩:=st.v;clear hodd;go_wp2_with fail;refine (yO _ S S K b c c st.vp st.vp (by omega) st.vb (by omega)).mono ?_
    rintro r w3 ⟨v3,rfl,hvb3,hvp3,hb3⟩;replace hvp3:=hvp3.fits (K:=K) (kV b) (zA HG).1 (zA HG).2;replace st:=st.bw hb3;have HV3:=zC hvb3;clear hvb3 hb3 z0 z1 z2 z3 z4 z5;have ne5:w.heap.size≠w1.heap.size:=by have:=st.l5;omega
    have st3:RaiSt2 w (zP w3 w.heap.size v3) w1.heap.size b K O v3 o (kJ b c c):=⟨st.u.off (Ne.symm ne5) v3,st.v.put v3,st.up.put st.v.c v3,hvp3.put st.v.c v3,st.ub,zA HV3,st.no.off (by omega) v3,zZ st.be (Nat.le_refl _) v3,st.l5⟩
    unfold zP at st3;have lv3:=st.v.lt;obtain ⟨⟨z0,z1,z2,z3,z4⟩,z5⟩:=st.v;clear st hvp3;go_wp2_with fail
    go_roundw
    case rel =>
     refine ⟨m/2,O,v3,o,kJ b c c,?_,by omega,?_,st3⟩
     ·first|exact congrArg _ (zA HQ)|(congr 1;omega)
     ·have:=zA HN
      rw[if_neg (zA HO)] at this;exact this
    case measure=>have:=zA HQ;simp[intOf];omega
  ·have hm0:m=0:=by omega
   subst hm0;have lu:=st.u.lt;obtain ⟨⟨y0,y1,y2,y3,y4⟩,y5⟩:=st.u;obtain ⟨q0,q1,q2,q3,q4,q5⟩:=st.no;have hub:=zC st.ub;go_wp2_with fail;refine bodyPost_ret (v:=.agg #[.bool O.ln,.slice O.la O.lN O.lc,.bool O.hn,.slice O.ha O.hN O.hc,.int .i64 O.bits]) (by simp[results,Tryz.results187,go_sem,q0,q1,q2,q3,q4]) rfl ⟨o,c,zA HInv,O,rfl,zA hub,?_,?_⟩
   ·exact SpAt.put5 st.up q0 q1 q2 q3 q4 _ _ _ _ _
   ·exact jV st.be (Nat.le_succ _) _ _ _ _ _
theorem Tp_le {d:Nat→Int} (hd:Dgs d) (j n:Nat) (h:j≤n):Tp d j n≤V d n:=by
 have e:=zE2 d j (n-j);rw[show j+(n-j)=n by omega] at e
 have h1:=jB hd j;have h2:=zAD hd j n;have h3:=kN j
 have h4:Tp d j n≤P j*Tp d j n:=by
  have:=Int.mul_le_mul_of_nonneg_right h3 h2;omega
 unfold Tp at *;omega
theorem zFX (w:World) (x:Nm) (k B K n:Nat) (X:Int) (hx:IntAt w x.neg x.a x.n x.cap k X) (h0:0≤X) (hXn:X/Q B=(n:Int)) (hn:n≤100000) (hB:20≤B) (hB2:B≤400000) (hK:Q (B+40+4*(2*n+1)+20)<P K) (hK2:K≤1000000) (hkK:k≤K) (hK3:(B+40)/16+30≤K) :
  Calls Tryz.prog 156 #[.agg #[.bool x.neg,.slice x.a x.n x.cap],.int .i64 B] w (fun r w'=>∃ o:Int × Int,Iv B o (Ex.Ev (fun _=>(X:Rat)/(Q B:Rat)))∧o.1≤o.2∧Q B-1≤o.1∧o.2<P K∧zH w B K o.1 o.2 r w'):=by
 obtain ⟨W,hW⟩:∃ W,W=(w.alloc (.cells #[.bool x.neg,.slice x.a x.n x.cap] 26)).alloc (.cells #[.bool false,.slice none 0 0,.bool false,.slice none 0 0,.int .i64 0] 36):=⟨_,rfl⟩;have hBW:Below w.heap.size w W:=by rw[hW];exact bl2 _ _ _
 have A:NmC W w.heap.size x:=by rw[hW];constructor <;> simp[go_sem]
 have R:NoC W (w.heap.size+1):=by rw[hW];constructor <;> simp[go_sem]
 have HX:=zC ((hx.bw hBW).mono hkK);have lA:=A.lt;have lR:=R.lt;have hs0:¬ zF X 0<0:=by unfold zF;rw[if_neg (by omega)];split <;> omega
 have HXN:=zC hXn;clear hx hXn
 go_enter Tryz.func156,Tryz.ntmps156
 go_wp2_with fail;rw[← hW];clear hW;refine (jZ _ _ _ _ _ X _ (zA HX)).mono ?_;rintro r w1 ⟨rfl,hb1⟩;replace A:=A.bw hb1;replace R:=R.bw hb1;replace hBW:=zB hBW hb1;replace HX:=zC ((zA HX).bw hb1);have lA1:=A.lt;clear hb1;have x0:=A.c0;have x1:=A.c1;go_wp2_with fail;refine (zA2 _ _ _ _ B K X _ (zA HX) (by omega) (by omega)).mono ?_
 rintro r w2 ⟨neg2,a2,n2,c2,rfl,hZ2,hb2⟩;rw[zA HXN] at hZ2;replace A:=A.bw hb2;replace R:=R.bw hb2;replace hBW:=zB hBW hb2;replace HX:=zC ((zA HX).bw hb2);have lR2:=R.lt;clear hb2 x0 x1 hs0;have HI2:=zC hZ2;obtain ⟨d,dg,dtop,dneg,dk,dz⟩:=hZ2
 have hV:V d n2=(n:Int):=by
  have hv:=jB dg.dgs n2
  cases neg2
  ·simp[sgn] at dz;omega
  ·simp[sgn] at dz;omega
 obtain ⟨V2,hV2⟩:∃ V2,V2=w2.alloc (.cells #[.bool neg2,.slice a2 n2 c2] 26):=⟨_,rfl⟩;have bV2:Below w2.heap.size w2 V2:=by rw[hV2];exact bl1 _ _
 have D2:NmC V2 w2.heap.size ⟨neg2,a2,n2,c2⟩:=by rw[hV2];exact yS w2 ⟨neg2,a2,n2,c2⟩ _
 have dg2:=dg.bw bV2;have HDG:=zC dg2;replace A:=A.bw bV2;replace R:=R.bw bV2;replace hBW:=zB hBW bV2;replace HX:=zC ((zA HX).bw bV2);replace HI2:=zC ((zA HI2).bw bV2);have hdgs:=zC dg.dgs;have hroom:=dg.room;have HV:=zC hV;have lD:=D2.lt;have HD2:=zC D2;have d0':=D2.c0;have d1':=D2.c1;clear dg dg2 dtop dneg dk dz hV bV2 D2;go_wp2_with fail;rw[← hV2];clear hV2
 go_loop [6,7] (fun nn ii=>∃ j:Nat,nn=.int .i64 (Tp d j n2)∧ii=.int .i64 ((j:Int)-1)∧j≤n2) (fun _ ii=>(intOf ii+1).toNat)
 case atStart=>exact ⟨n2,by rw[zFH],rfl,Nat.le_refl _⟩
 case round =>
  obtain ⟨j,rfl,rfl,hj⟩:=hrel
  by_cases hj0:0<j
  ·obtain ⟨m,rfl⟩:∃ m,j=m+1:=⟨j-1,by omega⟩
   have em:(((m+1:Nat):Int)-1)=(m:Int):=by omega
   rw[em];obtain ⟨bb,off,ha,hlt,hcell⟩:=(zA HDG).at_ (by omega)
   have hc:=hcell m (by omega)
   have hm2:(m:Int)<(n2:Int):=by omega
   have t1:=zAD (zA hdgs) (m+1) n2;have t2:=Tp_le (zA hdgs) (m+1) n2 (by omega)
   have t3:=zA HV;obtain ⟨g1,g2⟩:=zA hdgs m;have t4:=zB5 d m n2 (by omega)
   have HT4:=zC t4;have t5:Tp d (m+1) n2≤100000:=by omega
   subst ha;clear hcell em t2 t3 t4;go_wp2_with fail
   go_round
   case rel =>
    refine ⟨m,?_,?_,by omega⟩
    ·rw[zA HT4,Int.add_comm]
    ·rfl
   case measure=>simp[intOf]
  ·have hj1:j=0:=by omega
   subst hj1;rw[zCH,zA HV];have lA3:=A.lt;have lR3:=R.lt;clear d0' d1' hj hj0;have hQK:Q (B+40+20)<P K:=Int.lt_of_le_of_lt (zJ (by omega)) hK
   have hq40:=zG (B+40);obtain ⟨N1,n11,n12⟩:=zLI (b:=B+40) (X:=Q (B+40)) (by omega) (Int.le_refl _)
   have hE0:=zLW (n:=n) (by omega) n12
   have hbox:=zG8 (by omega) (by omega) (Int.le_refl _) n12
   have hfit1 : -P K<(zBS (zY (B+40) (Q (B+40),Q (B+40))) N1).1∧(zBS (zY (B+40) (Q (B+40),Q (B+40))) N1).2<P K:=by
    have h2:=zJ (show B+40+2≤B+40+20 by omega)
    have:=hbox.1;have:=hbox.2.2.2;omega
   have HST:=zC n12;have HE0:=zC hE0;have HF1:=zC hfit1;have HLE1:=zC (zC7 (kX (B+40) (Q (B+40),Q (B+40))) N1);clear n12 hE0 hbox hfit1;go_wp2_with fail;rw[show ((B:Int)+40)=((B+40:Nat):Int) by omega]
   refine (kC (B+40) _ (by omega)).mono ?_
   rintro r w3 ⟨neg3,a3,n3,c3,rfl,hZ3,hb3⟩;replace A:=A.bw hb3;replace R:=R.bw hb3;replace hBW:=zB hBW hb3;replace HX:=zC ((zA HX).bw hb3);replace HI2:=zC ((zA HI2).bw hb3);replace HD2:=zC ((zA HD2).bw hb3);clear hb3;go_wp2_with fail;refine (zHR _ ⟨neg3,a3,n3,c3⟩ _ (B+40) N1 K (Q (B+40)) hZ3 (by omega) (by omega) (Int.le_refl _) (by omega) (zA HST) n11 hQK (by omega) (by omega)).mono ?_
   rintro r w4 ⟨v4,rfl,hvb4,hvp4,hb4⟩;replace hvp4:=hvp4.fits (K:=K) (zA HLE1) (zA HF1).1 (zA HF1).2;replace A:=A.bw hb4;replace R:=R.bw hb4;replace hBW:=zB hBW hb4;replace HX:=zC ((zA HX).bw hb4);replace HI2:=zC ((zA HI2).bw hb4);replace HD2:=zC ((zA HD2).bw hb4);have HV4:=zC hvb4;clear hb4 hvb4 hZ3;go_wp2_with fail;refine (zIC _ v4 (B+40) K n _ (EInv (B+40) n) hvp4 (zA HV4) (by omega) (by omega) (by omega) (by omega) (zA HE0) (fun m o c hm hI=>?_)).mono ?_
   ·obtain ⟨g1,g2,g3⟩:=zOI (by omega) hn hm hI
    have h2:=zJ (show B+40+4*(2*n+1)≤B+40+4*(2*n+1)+20 by omega)
    have h3:=zJ (show B+40+2*n≤B+40+4*(2*n+1)+20 by omega)
    have:=g2.1;have:=g2.2.2.2;refine ⟨g1,?_,by omega,by omega⟩
    by_cases hodd:m % 2=1
    ·have g4:=g3 hodd
     have:=g4.1;have:=g4.2.2.2;exact Or.inl ⟨by omega,by omega⟩
    ·exact Or.inr hodd
   rintro r we ⟨oe,ce,hEI,ve,rfl,hveb,hvep,hb5⟩;obtain ⟨i1,i2,i3,i4⟩:=einv_end hEI;have HI:=zC (And.intro i1 (And.intro i2 (And.intro i3 i4)));have HVE:=zC hveb;replace A:=A.bw hb5;replace R:=R.bw hb5;replace hBW:=zB hBW hb5;replace HX:=zC ((zA HX).bw hb5);replace HI2:=zC ((zA HI2).bw hb5);replace HD2:=zC ((zA HD2).bw hb5);have lA5:=A.lt;have lR5:=R.lt;have lD5:=(zA HD2).lt;clear hb5 hveb hEI i1 i2 i3 i4 hvp4;obtain ⟨Ve,hVe⟩:∃ Ve,Ve=we.alloc (.cells #[.bool ve.ln,.slice ve.la ve.lN ve.lc,.bool ve.hn,.slice ve.ha ve.hN ve.hc,.int .i64 ve.bits] 36):=⟨_,rfl⟩;have bVe:Below we.heap.size we Ve:=by rw[hVe];exact bl1 _ _
   have E5:SpC Ve we.heap.size ve:=by rw[hVe];exact yP we ve _
   replace A:=A.bw bVe;replace R:=R.bw bVe;replace hBW:=zB hBW bVe;replace HX:=zC ((zA HX).bw bVe);replace HI2:=zC ((zA HI2).bw bVe);have D5:=(zA HD2).bw bVe;have HVEP:=zC (hvep.bw bVe);clear bVe HD2 hvep;have HK:=zC (show ∀ w',Below Ve.heap.size Ve w'→(w'.cell? ⟨we.heap.size,0,none⟩=some (.bool ve.ln)∧w'.cell? ⟨we.heap.size,1,none⟩=some (.slice ve.la ve.lN ve.lc)∧w'.cell? ⟨we.heap.size,2,none⟩=some (.bool ve.hn)∧w'.cell? ⟨we.heap.size,3,none⟩=some (.slice ve.ha ve.hN ve.hc)∧w'.cell? ⟨we.heap.size,4,none⟩=some (.int .i64 ve.bits)∧w'.cell? ⟨w.heap.size,0,none⟩=some (.bool x.neg)∧w'.cell? ⟨w.heap.size,1,none⟩=some (.slice x.a x.n x.cap)∧w'.cell? ⟨w2.heap.size,0,none⟩=some (.bool neg2)∧w'.cell? ⟨w2.heap.size,1,none⟩=some (.slice a2 n2 c2)) from fun w' hB=>⟨(E5.bw hB).c0,(E5.bw hB).c1,(E5.bw hB).c2,(E5.bw hB).c3,(E5.bw hB).c4,(A.bw hB).c0,(A.bw hB).c1,(D5.bw hB).c0,(D5.bw hB).c1⟩)
   have lE:=E5.lt;have hQB:=zG B
   have hmod:X-n*Q B=X % Q B:=by
    have h1:=Int.emod_add_mul_ediv X (Q B);rw[zA HXN] at h1;rw[Int.mul_comm (n:Int)];omega
   have hY0:0≤(X-n*Q B)*Q 40:=by
    rw[hmod];exact Int.mul_nonneg (Int.emod_nonneg _ (by omega)) (by have:=zG 40;omega)
   have hY1:(X-n*Q B)*Q 40≤Q (B+40):=by
    rw[hmod,jC];exact Int.mul_le_mul_of_nonneg_right (by have:=Int.emod_lt_of_pos X (show 0<Q B by omega);omega) (by have:=zG 40;omega)
   obtain ⟨N2,n21,n22⟩:=zLI hY0 hY1;have hR:=expR_has hB (zA HXN) h0 hn (zA HI).1 (zA HI).2.1 (zA HI).2.2.1 (zA HI).2.2.2 n22 hY0 hY1;have hbox2:=zG8 (by omega) hY0 hY1 n22
   have hle2:=zC7 (kX (B+40) ((X-n*Q B)*Q 40,(X-n*Q B)*Q 40)) N2;have HST2:=zC n22;have HR:=zC hR
   have HF2:=zC (show -P K<(zBS (zY (B+40) ((X-n*Q B)*Q 40,(X-n*Q B)*Q 40)) N2).1∧(zBS (zY (B+40) ((X-n*Q B)*Q 40,(X-n*Q B)*Q 40)) N2).2<P K by
    have h2:=zJ (show B+40+2≤B+40+20 by omega)
    have:=hbox2.1;have:=hbox2.2.2.2
    omega)
   have HLE2:=zC hle2;have HY:=zC (And.intro hY0 hY1);clear n22 hR hbox2 hle2 hmod hY0 hY1;obtain ⟨p,hp⟩:∃ p,p=kJ (B+40) oe (zBS (zY (B+40) ((X-n*Q B)*Q 40,(X-n*Q B)*Q 40)) N2):=⟨_,rfl⟩;have HP:=zC hp;have HRP:Hid (Iv B (zN p 40) (Ex.Ev (fun _=>(X:Rat)/(Q B:Rat)))∧Abs p (Q (B+40+2*(n+1)))∧p.1≤p.2∧Q B-1≤(zN p 40).1):=zC (by rw[hp];exact zA HR)
   clear hp HR;go_wp2_with fail;rw[← hVe];clear hVe;obtain ⟨x0,x1,x2,x3,x4,x5,x6,x7,x8⟩:=zA HK _ (Below.refl _ _);have hD0:Below Ve.heap.size Ve Ve.drew:=(Below.refl _ _).drew;have m1:w.heap.size+1≠we.heap.size:=by omega
   have m2:w.heap.size+1≠w.heap.size:=by omega
   have m3:w.heap.size+1≠w2.heap.size:=by omega
   have m4:we.heap.size≠w.heap.size+1:=by omega
   have m5:w.heap.size≠w.heap.size+1:=by omega
   have m6:w2.heap.size≠w.heap.size+1:=by omega
   have eBB:((B+40:Nat):Int)-(B:Int)=((40:Nat):Int):=by omega
   have HBB:=zC eBB;clear eBB
   go_region_held3 (fun w'=>w'.cell? ⟨we.heap.size,0,none⟩=some (.bool ve.ln)∧w'.cell? ⟨we.heap.size,1,none⟩=some (.slice ve.la ve.lN ve.lc)∧w'.cell? ⟨we.heap.size,2,none⟩=some (.bool ve.hn)∧w'.cell? ⟨we.heap.size,3,none⟩=some (.slice ve.ha ve.hN ve.hc)∧w'.cell? ⟨we.heap.size,4,none⟩=some (.int .i64 ve.bits)∧w'.cell? ⟨w.heap.size,0,none⟩=some (.bool x.neg)∧w'.cell? ⟨w.heap.size,1,none⟩=some (.slice x.a x.n x.cap)∧w'.cell? ⟨w2.heap.size,0,none⟩=some (.bool neg2)∧w'.cell? ⟨w2.heap.size,1,none⟩=some (.slice a2 n2 c2)) (first|exact zA HK _ (by with_reducible first|exact hD0|exact hD8|exact hD7|exact hD6|exact hD5|exact hD4|exact hD3|exact hD2|exact hD1)|go_keep)
    (first
     | (go_at_call 90;have hq:=hD7;refine (kY _ v17 (K+K+8) B p.1 p.2 (by rw[zA HP];exact hvp17) (by omega) (by have:=zA HV17;omega) (by have:=zA HV17;omega) (by omega) (by omega)).mono ?_;rintro r' w18 ⟨v18,rfl,hvb18,hvp18,hb18⟩;have hD8:=zB hD7 hb18;rw[zA HV17,zA HBB,kG,kG] at hvp18;have HV18:=zC hvb18;clear hvb18;obtain ⟨q0,q1,q2,q3,q4,q5⟩:=R.bw hD8;obtain ⟨y0,y1,y2,y3,y4,y5,y6,y7,y8⟩:=zA HK _ hD8)
     | (go_at_call 52;have hq:=hD6;refine (yO _ ve v16 K (B+40) oe _ ((zA HVEP).bw hD6) hvp16 (by omega) (zA HVE) (by omega)).mono ?_;rintro r' w17 ⟨v17,rfl,hvb17,hvp17,hb17⟩;have hD7:=zB hD6 hb17;have HV17:=zC hvb17;clear hvb17)
     | (go_at_call 188;have hq:=hD5;refine (zHR _ ⟨neg15,a15,n15,c15⟩ _ (B+40) N2 K ((X-n*Q B)*Q 40) (hZ15.fits (K:=K) (by have:=(zA HY).1;have:=kN K;omega) (Int.lt_of_le_of_lt (zA HY).2 (Int.lt_of_le_of_lt (zJ (by omega)) hQK))) (Nat.le_refl _) (zA HY).1 (zA HY).2 (by omega) (zA HST2) n21 hQK (by omega) (by omega)).mono ?_;rintro r' w16 ⟨v16,rfl,hvb16,hvp16,hb16⟩;replace hvp16:=hvp16.fits (K:=K) (zA HLE2) (zA HF2).1 (zA HF2).2;have hD6:=zB hD5 hb16;have HV16:=zC hvb16;clear hvb16)
     | (go_at_call 66;have hq:=hD4;refine (zX _ _ _ _ _ _ _ _ (K+(K+5+(B/16+5))+5) 7 (X-n*Q B) (Q 40) _ ((hZ13.bw hb14).mono (by omega)) hZ14 (by omega) (by omega)).mono ?_;rintro r' w15 ⟨neg15,a15,n15,c15,rfl,hZ15,hb15⟩;have hD5:=zB hD4 hb15)
     | (go_at_call 104;have hq:=hD3;refine (kC 40 _ (by omega)).mono ?_;rintro r' w14 ⟨neg14,a14,n14,c14,rfl,hZ14,hb14⟩;have hD4:=zB hD3 hb14)
     | (go_at_call 72;have hq:=hD2;refine (zAL _ _ _ _ _ _ _ _ K (K+5+(B/16+5)) X (n*Q B) _ ((zA HX).bw hD2) hZ12 (by omega) (by omega)).mono ?_;rintro r' w13 ⟨neg13,a13,n13,c13,rfl,hZ13,hb13⟩;have hD3:=zB hD2 hb13)
     | (go_at_call 66;have hq:=hD1;refine (zX _ _ _ _ _ _ _ _ (K+5) (B/16+5) n (Q B) _ ((zA HI2).bw hD1) hZ11 (by omega) (by omega)).mono ?_;rintro r' w12 ⟨neg12,a12,n12,c12,rfl,hZ12,hb12⟩;have hD2:=zB hD1 hb12)
     | (go_at_call 104;refine (kC B _ (by omega)).mono ?_;rintro r' w11 ⟨neg11,a11,n11',c11,rfl,hZ11,hb11⟩;have hD1:=zB hD0 hb11))
   all_goals
    obtain ⟨z1,z2,z3,z4⟩:=zA HRP
    have hzd:Abs (zN p 40) (Q (B+2*(n+1))):=by
     obtain ⟨k1,k2,k3,k4⟩:=z2;have e:Q (B+40+2*(n+1))=Q (B+2*(n+1))*Q 40:=by rw[← jC];congr 1;omega
     rw[e] at k1 k2 k3 k4;have r1:=jD (q:=Q 40) (by have:=zG 40;omega) k1 k2
     have r2:=jD (q:=Q 40) (by have:=zG 40;omega) k3 k4
     exact ⟨r1.1,r1.2.1,r2.2.2.1,r2.2.2.2⟩
    have hzP:Q (B+2*(n+1))<P K:=Int.lt_of_le_of_lt (zJ (by omega)) hK
    have hzle:(zN p 40).1≤(zN p 40).2:=by
     have:=jQ (a:=p) (n:=1) (d:=Q 40) z3 (by have:=zG 40;omega) (by omega)
     simpa [zE,zN] using this
    have e1:p.1/Q 40=(zN p 40).1:=rfl;have e2 : -(-p.2/Q 40)=(zN p 40).2:=rfl;rw[e1,e2] at hvp18;replace hvp18:=hvp18.fits (K:=K) hzle (by have:=hzd.1;omega) (by have:=hzd.2.2.2;omega)
    have HZ:=zC (And.intro z1 (And.intro hzle (And.intro z4 (show (zN p 40).2<P K by have:=hzd.2.2.2;omega))))
    clear z1 z2 z3 z4 hzd hzP hzle e1 e2;go_wp2_with fail;refine bodyPost_ret (v:=.agg #[.bool v18.ln,.slice v18.la v18.lN v18.lc,.bool v18.hn,.slice v18.ha v18.hN v18.hc,.int .i64 v18.bits]) (by simp[results,Tryz.results156,go_sem,q0,q1,q2,q3,q4]) rfl ⟨zN p 40,(zA HZ).1,(zA HZ).2.1,(zA HZ).2.2.1,(zA HZ).2.2.2,v18,rfl,zA HV18,?_,?_⟩
    ·exact SpAt.put5 hvp18 q0 q1 q2 q3 q4 _ _ _ _ _
    ·exact jV (zB hBW hD8) (Nat.le_succ _) _ _ _ _ _
end Go.Proofs.YtgmnknmjainababGreat
