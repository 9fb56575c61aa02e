/-
  Its own texts.
-/
import Derived.Test.YtgmnknmjainabacGreatI08
set_option maxRecDepth 100000
set_option maxHeartbeats 40000000
set_option linter.unnecessarySimpa false
set_option linter.unusedSimpArgs false
set_option linter.unusedVariables false
namespace Go.Proofs.YtgmnknmjainabacGreat
open Go.RowKit
attribute [local go_sem ↓] Go.wp_at_zero Go.wp_at_succ
theorem yU {w:World} {B B' o:Nat} {v:Option Value} (h:w.cell? ⟨B,o,none⟩=v) (hne:B≠B') (u0 u1:Value):((w.setCell ⟨B',0,none⟩ u0).setCell ⟨B',1,none⟩ u1).cell? ⟨B,o,none⟩=v:=by
 have ne:∀ i:Nat,(⟨B',i,none⟩:Addr)≠⟨B,o,none⟩:=λ i e=>hne (by injection e with e1;exact e1.symm)
 rw[World.cell?_setCell_other _ _ _ _ (ne 1),World.cell?_setCell_other _ _ _ _ (ne 0)];exact h
theorem jG {w:World} {B B' o:Nat} {v:Option Value} (h:w.cell? ⟨B,o,none⟩=v) (hne:B≠B') (u0 u1 u2 u3 u4:Value) :
  (((((w.setCell ⟨B',0,none⟩ u0).setCell ⟨B',1,none⟩ u1).setCell ⟨B',2,none⟩ u2).setCell ⟨B',3,none⟩ u3).setCell ⟨B',4,none⟩ u4).cell? ⟨B,o,none⟩=v:=by
 have ne:∀ i:Nat,(⟨B',i,none⟩:Addr)≠⟨B,o,none⟩:=λ i e=>hne (by injection e with e1;exact e1.symm)
 rw[World.cell?_setCell_other _ _ _ _ (ne 4),World.cell?_setCell_other _ _ _ _ (ne 3),World.cell?_setCell_other _ _ _ _ (ne 2),World.cell?_setCell_other _ _ _ _ (ne 1),World.cell?_setCell_other _ _ _ _ (ne 0)];exact h
theorem SpC.put2 {w:World} {B B':Nat} {s:Sp} (h:SpC w B s) (hne:B≠B') (u0 u1:Value):SpC ((w.setCell ⟨B',0,none⟩ u0).setCell ⟨B',1,none⟩ u1) B s :=
 ⟨yU h.c0 hne _ _,yU h.c1 hne _ _,yU h.c2 hne _ _,yU h.c3 hne _ _,yU h.c4 hne _ _⟩
theorem NoC.put2 {w:World} {B B':Nat} (h:NoC w B) (hne:B≠B') (u0 u1:Value):NoC ((w.setCell ⟨B',0,none⟩ u0).setCell ⟨B',1,none⟩ u1) B:=by
 obtain⟨q0,q1,q2,q3,q4,q5⟩:=h;exact⟨yU q0 hne _ _,yU q1 hne _ _,yU q2 hne _ _,yU q3 hne _ _,yU q4 hne _ _,λ o=>by rw[zS,zS];exact q5 o⟩
theorem SpAt.put2 {w:World} {s:Sp} {k:Nat} {lo hi:Int} (h:SpAt w s k lo hi) {B:Nat} {x0:Bool} {y0:Option Addr} {y1 y2:Nat} (h0:w.cell? ⟨B,0,none⟩=some (.bool x0)) (h1:w.cell? ⟨B,1,none⟩=some (.slice y0 y1 y2)) (u0 u1:Value) :
  SpAt ((w.setCell ⟨B,0,none⟩ u0).setCell ⟨B,1,none⟩ u1) s k lo hi:=⟨h.lo.put2 h0 h1 _ _,h.hi.put2 h0 h1 _ _⟩
theorem zON (x y:Int):decide (zM x y<0)=decide (x<y):=by unfold zM;split<;>(try split)<;>simp<;>omega
theorem zFB (w:World) (s:Sp) (k b:Nat) (lo hi:Int) (hs:SpAt w s k lo hi) (hk:k<=30000000) (hb:b<=1000000) (hbits:s.bits=b) :
  Calls Tryz.prog 197 #[.agg s.q] w (zH w b (b/16+k+20) (rtZ (lo*Q b)) (rtU (hi*Q b))):=by
 have fY:=zC hbits;clear hbits;obtain⟨W,hW⟩:∃ W,W=(w.alloc (.cells s.q 31)).alloc (.cells zCq 31):=⟨_,rfl⟩;have j7:Below w.heap.size w W:=by rw[hW];exact bl2 _ _ _
 have A:SpC W w.heap.size s:=by rw[hW];constructor<;>simp[go_sem]
 have R:NoC W (w.heap.size+1):=by rw[hW];constructor<;>simp[go_sem]
 replace hs:=hs.bw j7
 go_enter Tryz.func197,Tryz.ntmps197
 go_wp2_with fail;rw[<- hW];clear hW;rw[zA fY];refine (zBU _ _ _ _ b k hi _ hs.hi (by omega) (by omega)).mono ?_
 rintro r w1 ⟨m7,a1,n1,c1,rfl,o8,b9⟩;replace j7:=zB j7 b9;replace A:=A.bw b9;replace R:=R.bw b9;replace hs:=hs.bw b9;clear b9;obtain⟨x1,cW⟩:∃ x:Nm,x=⟨m7,a1,n1,c1⟩:=⟨_,rfl⟩;obtain⟨W1,T5⟩:∃ W',W'=w1.alloc (.cells #[.bool m7,.slice a1 n1 c1] 29):=⟨_,rfl⟩;have D7:Below w1.heap.size w1 W1:=by rw[T5];exact bl1 _ _
 have X1:NmC W1 w1.heap.size ⟨m7,a1,n1,c1⟩:=by rw[T5];exact zBZ w1 ⟨m7,a1,n1,c1⟩ _
 have DW:w1.heap.size≠w.heap.size+1:=YI R.lt;obtain⟨u0,u1⟩:=X1;have X1:NmC W1 w1.heap.size ⟨m7,a1,n1,c1⟩:=⟨u0,u1⟩;have RI:=X1.lt;go_wp2_with fail;rw[<- T5];clear T5 u0 u1 RI cW x1;replace j7:=zB j7 D7;replace A:=A.bw D7;replace R:=R.bw D7;replace hs:=hs.bw D7;replace o8:=o8.bw D7;clear D7;refine (zTK _ _ _ _ _ (hi*Q b) _ o8 (by omega)).mono ?_
 rintro r w2 ⟨j6,a2,n2,c2,rfl,A5,j8⟩;replace j7:=zB j7 j8;replace A:=A.bw j8;replace R:=R.bw j8;replace hs:=hs.bw j8;replace o8:=o8.bw j8;replace X1:=X1.bw j8;clear j8;obtain⟨W2,nv⟩:∃ W',W'=w2.alloc (.cells #[.bool j6,.slice a2 n2 c2] 29):=⟨_,rfl⟩;have E7:Below w2.heap.size w2 W2:=by rw[nv];exact bl1 _ _
 have X2:NmC W2 w2.heap.size ⟨j6,a2,n2,c2⟩:=by rw[nv];exact zBZ w2 ⟨j6,a2,n2,c2⟩ _
 have F2:∀ o,W2.frozen? ⟨w2.heap.size,o,none⟩=false:=by intro o;rw[nv];simp[go_sem]
 have n12:w1.heap.size≠w2.heap.size:=YJ X1.lt;have rA:w2.heap.size≠w.heap.size+1:=YI R.lt;have DX:w.heap.size+1≠w2.heap.size:=YJ R.lt;have nAR:w.heap.size≠w.heap.size+1:=YJ (Nat.lt_succ_self _);have nA:w.heap.size≠w2.heap.size:=YJ A.lt;have hwB:w.heap.size<=w2.heap.size:=Nat.le_of_lt A.lt;replace j7:=zB j7 E7;replace A:=A.bw E7;replace R:=R.bw E7;replace hs:=hs.bw E7;replace o8:=zC (o8.bw E7);replace A5:=zC (A5.bw E7);replace X1:=X1.bw E7;clear E7;go_wp2_with fail;rw[<- nv];clear nv;have GS:=zC (show ∀ w',Below W2.heap.size W2 w'->(nK w' w1.heap.size (Nm.mk m7 a1 n1 c1) (nK0 w' w2.heap.size (Nm.mk j6 a2 n2 c2))) from λ w' hB=>⟨(X1.bw hB).c0,(X1.bw hB).c1,(X2.bw hB).c0,(X2.bw hB).c1⟩)
 have l1:=X1.lt;have l2:=X2.lt;obtain⟨v0,v1,v2,v3⟩:=zA GS _ (Below.refl _ _);go_wp2_with fail
 go_cut [17] (λ p wx=>p=.bool (decide (rtZ (hi*Q b)*rtZ (hi*Q b)<(hi*Q b)))/\Below W2.heap.size W2 wx)
 case first =>
  go_region_held3 (λ w'=>nK w' w1.heap.size (Nm.mk m7 a1 n1 c1) (nK0 w' w2.heap.size (Nm.mk j6 a2 n2 c2))) (exact zA GS _ (by (repeat' (first|with_reducible exact G0|with_reducible exact A8|with_reducible exact Below.refl _ _|with_reducible refine Below.drew ?_|with_reducible refine zL ?_ _))<;>fail))
   (first
    | (go_at_call 17;have hq:=A8;refine (jO _ _ _ _ _ _ _ _ _ _ (rtZ (hi*Q b)*rtZ (hi*Q b)) (hi*Q b) _ (E5.bw (by (repeat' (first|with_reducible exact Below.refl _ _|with_reducible refine Below.drew ?_|with_reducible refine zL ?_ _))<;>fail)) ((zA o8).bw (by (repeat' (first|with_reducible exact A8|with_reducible exact Below.refl _ _|with_reducible refine Below.drew ?_|with_reducible refine zL ?_ _))<;>fail))).mono ?_;rintro r w4 ⟨rfl,y9⟩;have G0:=zB A8 y9)
    | (go_at_call 83;refine (zT _ _ _ _ _ _ _ _ _ _ (rtZ (hi*Q b)) (rtZ (hi*Q b)) _ ((zA A5).bw (by (repeat' (first|with_reducible exact Below.refl _ _|with_reducible refine Below.drew ?_|with_reducible refine zL ?_ _))<;>fail)) ((zA A5).bw (by (repeat' (first|with_reducible exact Below.refl _ _|with_reducible refine Below.drew ?_|with_reducible refine zL ?_ _))<;>fail)) (by omega) (by omega)).mono ?_;rintro r w3 ⟨A7,a3,n3,c3,rfl,E5,m9⟩;have A8:Below W2.heap.size W2 w3:=zB (by (repeat' (first|with_reducible exact Below.refl _ _|with_reducible refine Below.drew ?_|with_reducible refine zL ?_ _))<;>fail) m9))
  all_goals
   go_wp2_with fail;go_meet;refine⟨?_,(by (repeat' (first|with_reducible exact G0|with_reducible exact Below.refl _ _|with_reducible refine Below.drew ?_|with_reducible refine zL ?_ _))<;>fail)⟩
   congr 1
   exact zON _ _
 case rest =>
 obtain⟨rfl,B9⟩:=hcut;replace A:=A.bw B9;replace R:=R.bw B9;replace hs:=hs.bw B9;replace F2:∀ o,wc.frozen? ⟨w2.heap.size,o,none⟩=false:=λ o=>(B9.frozen (p:=⟨w2.heap.size,o,none⟩) X2.lt).trans (F2 o)
 replace X2:=X2.bw B9;replace A5:=zC ((zA A5).bw B9);replace j7:=zB j7 B9;clear o8 X1 B9;clear v0 v1 v2 v3 GS l1 l2
 go_upto_if 17 with fail
 go_cut [18] (λ _ wx=>∃ x:Nm,NmC wx w2.heap.size x/\IntAt wx x.neg x.a x.n x.cap (b/16+k+20) (rtU (hi*Q b))/\SpC wx w.heap.size s/\NoC wx (w.heap.size+1)/\SpAt wx s k lo hi/\Below w.heap.size w wx)
 case first =>
  have l2:=X2.lt;have po:=zC X2;obtain⟨v2,v3⟩:=X2
  by_cases D5:rtZ (hi*Q b)*rtZ (hi*Q b)<(hi*Q b)
  ·have hd:decide (rtZ (hi*Q b)*rtZ (hi*Q b)<(hi*Q b))=true:=decide_eq_true D5
   have HU:=zC (show rtU (hi*Q b)=rtZ (hi*Q b)+1 by unfold rtU;rw[if_pos D5])
   clear D5;rw[hd];go_wp2_with fail
   go_region_with
    (first
     | (go_at_call 32;have hq:=D6;refine (zAE _ _ _ _ _ _ _ _ _ 4 (rtZ (hi*Q b)) 1 _ ((zA A5).bw J2) P6 (by omega) (by omega)).mono ?_;rintro r w6 ⟨bO,a6,n6,c6,rfl,bC,K7⟩;have gi:=zB J2 K7;have F6:∀ o,w6.frozen? ⟨w2.heap.size,o,none⟩=false:=(λ o=>(gi.frozen (p:=⟨w2.heap.size,o,none⟩) l2).trans (F2 o));have l6:=YH l2 gi.size;obtain⟨v7,v8⟩:=(zA po).bw gi)
     | (go_at_call 33;refine (zD 1 _ (by decide) (by decide)).mono ?_;rintro r w5 ⟨M7,a5,n5,c5,rfl,P6,D6⟩;have J2:Below wc.heap.size wc w5:=zB (by (repeat' (first|with_reducible exact Below.refl _ _|with_reducible refine Below.drew ?_|with_reducible refine zL ?_ _))<;>fail) D6;have l5:=J2.size;obtain⟨v5,v6⟩:=(zA po).bw J2))
   all_goals
    go_wp2_with fail;go_meet;rw[zA HU];exact⟨⟨bO,a6,n6,c6⟩,⟨by simp[go_sem,v7,v8],by simp[go_sem,v7,v8]⟩,(bC.put2 v7 v8 _ _).mono (by omega),(A.bw gi).put2 nA _ _,(R.bw gi).put2 DX _ _,(hs.bw gi).put2 v7 v8 _ _,zD2 (zB j7 gi) hwB _ _⟩
  ·have hd:decide (rtZ (hi*Q b)*rtZ (hi*Q b)<(hi*Q b))=false:=decide_eq_false D5
   have HU:=zC (show rtU (hi*Q b)=rtZ (hi*Q b) by unfold rtU;rw[if_neg D5])
   clear D5;rw[hd];go_wp2_with fail;go_meet;rw[zA HU];exact⟨⟨j6,a2,n2,c2⟩,⟨v2,v3⟩,(zA A5).mono (by omega),A,R,hs,j7⟩
 case rest =>
 obtain⟨x,X2,hint,A,R,hs,j7⟩:=hcut;clear F2 A5;have nS:=zC (show ∀ w',Below wc.heap.size wc w'->(w'.cell? ⟨w.heap.size,0,none⟩=some (.bool s.ln)/\w'.cell? ⟨w.heap.size,1,none⟩=some (.slice s.la s.lN s.lc)/\w'.cell? ⟨w.heap.size,2,none⟩=some (.bool s.hn)/\w'.cell? ⟨w.heap.size,3,none⟩=some (.slice s.ha s.hN s.hc)/\w'.cell? ⟨w.heap.size,4,none⟩=some (.int .i64 (b:Int))/\nK0 w' w2.heap.size x) from λ w' hB=>⟨(A.bw hB).c0,(A.bw hB).c1,(A.bw hB).c2,(A.bw hB).c3,by rw[<- zA fY];exact (A.bw hB).c4,(X2.bw hB).c0,(X2.bw hB).c1⟩)
 have GW:=zC (show ∀ w' u0 u1 u2 u3 u4,Below wc.heap.size wc w'->((((((w'.setCell ⟨w.heap.size+1,0,none⟩ u0).setCell ⟨w.heap.size+1,1,none⟩ u1).setCell ⟨w.heap.size+1,2,none⟩ u2).setCell ⟨w.heap.size+1,3,none⟩ u3).setCell ⟨w.heap.size+1,4,none⟩ u4).cell? ⟨w.heap.size,0,none⟩=some (.bool s.ln)/\(((((w'.setCell ⟨w.heap.size+1,0,none⟩ u0).setCell ⟨w.heap.size+1,1,none⟩ u1).setCell ⟨w.heap.size+1,2,none⟩ u2).setCell ⟨w.heap.size+1,3,none⟩ u3).setCell ⟨w.heap.size+1,4,none⟩ u4).cell? ⟨w.heap.size,1,none⟩=some (.slice s.la s.lN s.lc)/\(((((w'.setCell ⟨w.heap.size+1,0,none⟩ u0).setCell ⟨w.heap.size+1,1,none⟩ u1).setCell ⟨w.heap.size+1,2,none⟩ u2).setCell ⟨w.heap.size+1,3,none⟩ u3).setCell ⟨w.heap.size+1,4,none⟩ u4).cell? ⟨w.heap.size,2,none⟩=some (.bool s.hn)/\(((((w'.setCell ⟨w.heap.size+1,0,none⟩ u0).setCell ⟨w.heap.size+1,1,none⟩ u1).setCell ⟨w.heap.size+1,2,none⟩ u2).setCell ⟨w.heap.size+1,3,none⟩ u3).setCell ⟨w.heap.size+1,4,none⟩ u4).cell? ⟨w.heap.size,3,none⟩=some (.slice s.ha s.hN s.hc)/\(((((w'.setCell ⟨w.heap.size+1,0,none⟩ u0).setCell ⟨w.heap.size+1,1,none⟩ u1).setCell ⟨w.heap.size+1,2,none⟩ u2).setCell ⟨w.heap.size+1,3,none⟩ u3).setCell ⟨w.heap.size+1,4,none⟩ u4).cell? ⟨w.heap.size,4,none⟩=some (.int .i64 (b:Int))/\(((((w'.setCell ⟨w.heap.size+1,0,none⟩ u0).setCell ⟨w.heap.size+1,1,none⟩ u1).setCell ⟨w.heap.size+1,2,none⟩ u2).setCell ⟨w.heap.size+1,3,none⟩ u3).setCell ⟨w.heap.size+1,4,none⟩ u4).cell? ⟨w2.heap.size,0,none⟩=some (.bool x.neg)/\(((((w'.setCell ⟨w.heap.size+1,0,none⟩ u0).setCell ⟨w.heap.size+1,1,none⟩ u1).setCell ⟨w.heap.size+1,2,none⟩ u2).setCell ⟨w.heap.size+1,3,none⟩ u3).setCell ⟨w.heap.size+1,4,none⟩ u4).cell? ⟨w2.heap.size,1,none⟩=some (.slice x.a x.n x.cap)) from λ w' u0 u1 u2 u3 u4 hB=>⟨jG (A.bw hB).c0 nAR _ _ _ _ _,jG (A.bw hB).c1 nAR _ _ _ _ _,jG (A.bw hB).c2 nAR _ _ _ _ _,jG (A.bw hB).c3 nAR _ _ _ _ _,jG (by rw[<- zA fY];exact (A.bw hB).c4) nAR _ _ _ _ _,jG (X2.bw hB).c0 rA _ _ _ _ _,jG (X2.bw hB).c1 rA _ _ _ _ _⟩)
 have lA:=A.lt;have lX:=X2.lt;have lR:=R.lt;replace hint:=zC hint;replace hs:=zC hs;obtain⟨x0,x1,x2,x3,x4,v2,v3⟩:=zA nS _ (Below.refl _ _);go_wp2_with fail
 go_region_held3 (λ w'=>w'.cell? ⟨w.heap.size,0,none⟩=some (.bool s.ln)/\w'.cell? ⟨w.heap.size,1,none⟩=some (.slice s.la s.lN s.lc)/\w'.cell? ⟨w.heap.size,2,none⟩=some (.bool s.hn)/\w'.cell? ⟨w.heap.size,3,none⟩=some (.slice s.ha s.hN s.hc)/\w'.cell? ⟨w.heap.size,4,none⟩=some (.int .i64 (b:Int))/\nK0 w' w2.heap.size x) (first|exact zA nS _ (by with_reducible first|exact oh|exact Ad|exact (Below.refl _ _).drew|exact Below.refl _ _)|exact zA GW _ _ _ _ _ _ oh)
  (first
   | (go_at_call 206;have hq:=Ad;refine (zTK _ _ _ _ _ (lo*Q b) _ ie (by omega)).mono ?_;rintro r w8 ⟨DZ,a8,n8,c8,rfl,Yo,Y1⟩;have oh:=zB Ad Y1;have R8:=R.bw oh;have l8:=R8.lt;obtain⟨q0,q1,q2,q3,q4,q5⟩:=R8;obtain⟨y0,y1,y2,y3,y4,y5,y6⟩:=zA nS _ oh)
   | (go_at_call 116;refine (zBU _ _ _ _ b k lo _ ((zA hs).lo.bw (by (repeat' (first|with_reducible exact Below.refl _ _|with_reducible refine Below.drew ?_|with_reducible refine zL ?_ _))<;>fail)) (by omega) (by omega)).mono ?_;rintro r w7 ⟨cP,a7,n7,c7,rfl,ie,Q4⟩;have Ad:Below wc.heap.size wc w7:=zB (by (repeat' (first|with_reducible exact Below.refl _ _|with_reducible refine Below.drew ?_|with_reducible refine zL ?_ _))<;>fail) Q4))
 all_goals
  go_wp2_with fail;refine bodyPost_ret (v:=.agg #[.bool DZ,.slice a8 n8 c8,.bool x.neg,.slice x.a x.n x.cap,.int .i64 b]) (by simp[results,Tryz.results197,go_sem,l8,q0,q1,q2,q3,q4]) rfl ⟨⟨DZ,a8,n8,c8,x.neg,x.a,x.n,x.cap,b⟩,rfl,rfl,?_,?_⟩
  ·exact SpAt.put5 ⟨Yo.mono (by omega),(zA hint).bw oh⟩ q0 q1 q2 q3 q4 _ _ _ _ _
  ·exact jY (zB j7 oh) (by omega) _ _ _ _ _
def ovLo (l h p q:Int):Int:=if l<0 then l/p else l/q
def ovHi (l h p q:Int):Int:=if h<0 then -(-h/q) else -(-h/p)
variable {w wr w' : World} {s t : Sp} {k k1 k2 BL CL BM CM : Nat} {xL yL xM yM : Nm} {lo' hi' l h m n : Int}
def zDT (lo hi lo' hi':Int) (b:Nat):Int:=if hi'<0 then ovLo (-hi*Q b) (-lo*Q b) (-hi') (-lo') else ovLo (lo*Q b) (hi*Q b) lo' hi'
def zER (lo hi lo' hi':Int) (b:Nat):Int:=if hi'<0 then ovHi (-hi*Q b) (-lo*Q b) (-hi') (-lo') else ovHi (lo*Q b) (hi*Q b) lo' hi'
open Ex
def ch:Nat->Nat->Nat
 | _,0=>1
 | 0,_+1=>0
 | n+1,k+1=>ch n k+ch n (k+1)
theorem zDX (n:Nat):ch n 0=1:=by cases n<;>rfl
theorem zC7 (n k:Nat):ch (n+1) (k+1)=ch n k+ch n (k+1):=rfl
theorem zMU {n k : Nat} (h : n < k) : ch n k = 0 := by
  induction n generalizing k with
  | zero => obtain ⟨j, rfl⟩ : ∃ j, k = j + 1 := ⟨k - 1, by omega⟩
            rfl
  | succ n ih =>
    obtain ⟨j, rfl⟩ : ∃ j, k = j + 1 := ⟨k - 1, by omega⟩
    rw [zC7, ih (by omega), ih (by omega)]
theorem ch_up (n k:Nat):(k+1)*ch (n+1) (k+1)=(n+1)*ch n k:=by
 induction n generalizing k with
 | zero =>
  rw[zC7]
  cases k with
  | zero=>rfl
  | succ k=>rw[zMU (show 0<k+1 by omega),zMU (show 0<k+1+1 by omega)];omega
 | succ n ih =>
  cases k with
  | zero =>
   have h:=ih 0;rw[zDX] at h;rw[zC7 (n+1) 0,zDX];omega
  | succ k =>
   have h1:=ih k;have h2:=ih (k+1);have e:=zC7 n k;rw[zC7 (n+1) (k+1)];generalize ch (n+1) (k+1)=X at *;generalize ch (n+1) (k+1+1)=Y at *;generalize ch n k=u at *;generalize ch n (k+1)=v at *;subst e;grind
theorem wayF_ch (b:Int) (o i:Nat):wayF b (o:Int) i=b*(ch (o+i) i:Int):=by
 induction i with
 | zero=>rw[zDX];show b=b*1;omega
 | succ i ih =>
  have h:=ch_up (o+i) i;have e:wayF b (o:Int) (i+1)=wayF b (o:Int) i*((o:Int)+((i:Int)+1))/((i:Int)+1):=rfl;rw[e,ih];have h2:(((i+1)*ch (o+i+1) (i+1):Nat):Int)=(((o+i+1)*ch (o+i) i:Nat):Int):=by rw[h]
  rw[Int.natCast_mul,Int.natCast_mul] at h2;rw[show o+(i+1)=o+i+1 by omega]
  have e2:b*(ch (o+i) i:Int)*((o:Int)+((i:Int)+1))=b*(ch (o+i+1) (i+1):Int)*((i:Int)+1):=by
   have c1:((i+1:Nat):Int)=(i:Int)+1:=rfl;have c2:((o+i+1:Nat):Int)=(o:Int)+(i:Int)+1:=rfl;rw[c1,c2] at h2;grind
  rw[e2,Int.mul_ediv_cancel _ (by omega)]
def J0:Nat->Int
 | 0=>1
 | k+1=>J0 k*((k:Int)+1)
theorem zCP (k:Nat):0<J0 k:=by
 induction k with
 | zero=>show (0:Int)<1;omega
 | succ k ih=>exact Int.mul_pos ih (by omega)
theorem ch_le (p q A:Nat):∀ n,n<=A->ch A n*p ^ n*q ^ (A-n)<=(p+q) ^ A:=by
 induction A with
 | zero =>
  intro n hn
  have:n=0:=by omega
  subst this;exact YE _
 | succ A ih =>
  intro n hn
  cases n with
  | zero =>
   rw[zDX,Nat.one_mul,Nat.pow_zero,Nat.one_mul];exact Nat.pow_le_pow_left (by omega) _
  | succ n =>
   have i1:=ih n (by omega)
   rw[zC7,show A+1-(n+1)=A-n by omega,Nat.pow_succ (m:=A)]
   have e1:(ch A n+ch A (n+1))*p ^ (n+1)*q ^ (A-n)=ch A n*p ^ n*q ^ (A-n)*p+ch A (n+1)*p ^ (n+1)*q ^ (A-n):=by
    rw[Nat.pow_succ];grind
   rw[e1,Nat.mul_add];refine Nat.add_le_add (Nat.mul_le_mul_right p i1) ?_
   by_cases hA:n+1<=A
   ·have i2:=ih (n+1) hA
    have e2:q ^ (A-n)=q ^ (A-(n+1))*q:=by rw[<- Nat.pow_succ];congr 1;omega
    rw[e2,<- Nat.mul_assoc];exact Nat.mul_le_mul_right q i2
   ·rw[zMU (show A<n+1 by omega),Nat.zero_mul,Nat.zero_mul];exact Nat.zero_le _
namespace Ex
theorem lin_le {L y c d a t:Rat} (h1:L*c<=a) (h2:L*d<=a) (g1:c-t<=y) (g2:y<=d+t) (k:Rat) (k1:L<=k) (k2 : -L<=k) (ht:0<=t):L*y<=a+k*t:=by
 by_cases hL:0<=L
 ·have:=Yz hL (show 0<=d+t-y by grind)
  have:=Yz (show 0<=k-L by grind) ht
  grind
 ·have:=Yz (show 0 <= -L by grind) (show 0<=y-(c-t) by grind)
  have:=Yz (show 0<=k+L by grind) ht
  grind
theorem Has.div {a b c d L U:Rat} {x y:Nat->Rat} (h:Has a b x) (k:Has c d y) (hc:0<c) (h1:L*c<=a) (h2:L*d<=a) (h3:b<=U*c) (h4:b<=U*d):Has L U (λ M=>x M/y M):=λ e he=>by
 obtain⟨m,m0,m1,m2,m3,m4⟩:∃ m:Rat,0<m/\L<=m /\ -L<=m/\U<=m /\ -U<=m:=by
  refine⟨1+(if 0<=L then L else -L)+(if 0<=U then U else -U),?_,?_,?_,?_,?_⟩<;>split<;>split<;>grind
 have m5:(0:Rat)<2*(1+m):=by grind
 have hec:0<e*c:=Rat.mul_pos he hc
 obtain⟨t,t0,t1,t2⟩:∃ t:Rat,0<t/\2*t<=c/\t*(2*(1+m))<=e*c:=by
  have f:=rdm (a:=e*c) m5;have f0:=zF hec m5
  by_cases hh:e*c/(2*(1+m))<=c/2
  ·exact⟨e*c/(2*(1+m)),f0,by grind,by grind⟩
  ·refine⟨c/2,by grind,by grind,?_⟩
   have:=Yz (show 0<=e*c/(2*(1+m))-c/2 by grind) (show 0<=2*(1+m) by grind)
   grind
 obtain⟨N1,g1⟩:=h t t0;obtain⟨N2,g2⟩:=k t t0;refine⟨N1+N2,λ M hM=>?_⟩
 obtain⟨p1,p2⟩:=g1 M (by omega)
 obtain⟨q1,q2⟩:=g2 M (by omega)
 have y0:0<y M:=by grind
 have ey:e*c<=2*(e*y M):=by
  have:=Yz (YC he) (show 0<=2*y M-c by grind)
  grind
 constructor
 ·refine jW y0 ?_
  have:=lin_le h1 h2 q1 q2 m m1 m2 (YC t0);grind
 ·refine jV y0 ?_
  have:=lin_le (L := -U) (a := -b) (by grind) (by grind) q1 q2 m (by grind) (by grind) (YC t0)
  grind
end Ex
theorem Iv.div {B:Nat} {s t:Int × Int} {x y:Nat->Rat} (h:Iv B s x) (k:Iv B t y) (h0:0<t.1) {lo hi:Int} (h1:lo*t.1<=s.1*Q B) (h2:lo*t.2<=s.1*Q B) (h3:s.2*Q B<=hi*t.1) (h4:s.2*Q B<=hi*t.2):Iv B (lo,hi) (λ M=>x M/y M):=by
 have q:=jH B;have t0:(0:Rat)<(t.1:Rat):=by exact_mod_cast h0
 have key:∀ {u v z:Int},u*v<=z*Q B->(u:Rat)/(Q B:Rat)*((v:Rat)/(Q B:Rat))<=(z:Rat)/(Q B:Rat):=λ {u v z} hh=>zJ0 (by have:=zE B;omega) hh
 have DJ:∀ {u v z:Int},z*Q B<=u*v->(z:Rat)/(Q B:Rat)<=(u:Rat)/(Q B:Rat)*((v:Rat)/(Q B:Rat)):=λ {u v z} hh=>zJ2 (by have:=zE B;omega) hh
 exact Has.div h k (zF t0 q) (key h1) (key h2) (DJ h3) (DJ h4)
theorem zJP {lo hi lo' hi':Int} {b:Nat} (h0:0<=lo) (h1:lo<=hi) (h2:0<lo') (h3:lo'<=hi'):zDT lo hi lo' hi' b=lo*Q b/hi'/\zER lo hi lo' hi' b = -(-(hi*Q b)/lo'):=by
 have q:=zE b;have p1:=YF h0 (show 0<=Q b by omega)
 have p2:=YF (show 0<=hi by omega) (show 0<=Q b by omega)
 unfold zDT zER ovLo ovHi;rw[if_neg (by omega),if_neg (by omega),if_neg (by omega),if_neg (by omega)]
 exact⟨rfl,rfl⟩
theorem zDY (a:Int) {d:Int} (hd:0<d):a <= -(-a/d)*d:=by
 have:=Int.ediv_mul_le (-a) (show d≠0 by omega)
 rw[Int.neg_mul];omega
theorem dv_floor (a:Int) {d:Int} (hd:0<d):a/d*d<=a:=Int.ediv_mul_le a (by omega)
theorem Iv.dv {B:Nat} {s t:Int × Int} {x y:Nat->Rat} (h:Iv B s x) (k:Iv B t y) (hs:0<=s.1) (h0:0<t.1):Iv B (zDT s.1 s.2 t.1 t.2 B,zER s.1 s.2 t.1 t.2 B) (λ M=>x M/y M):=by
 have X6:=h.le;have fT:=k.le;have q:=zE B;obtain⟨e1,e2⟩:=zJP (b:=B) hs X6 h0 fT;rw[e1,e2];have p1:=YF hs (show 0<=Q B by omega)
 have l0:0<=s.1*Q B/t.2:=Int.ediv_nonneg p1 (by omega)
 have f1:=dv_floor (s.1*Q B) (show 0<t.2 by omega)
 have f2:=zDY (s.2*Q B) h0;have p2:=YF (show 0<=s.2 by omega) (show 0<=Q B by omega)
 have u0:0 <= -(-(s.2*Q B)/t.1):=by
  have : -(s.2*Q B)/t.1<=0:=Int.ediv_nonpos_of_nonpos_of_neg (by omega) h0
  omega
 have g1:=YD fT l0;have g2:=YD fT u0;exact h.div k h0 (by omega) f1 f2 (by omega)
open Ex
theorem zGD {B:Nat} {a b:Int × Int} (ha:0<=a.1) (QG:0<=a.2) (hb:0<=b.1) (j8:0<=b.2):0<=(zAH B a b).1:=by
 have q:=zE B;obtain⟨_,_,_,_,h⟩:=zEC (a.1*b.1) (a.1*b.2) (a.2*b.1) (a.2*b.2);have p1:=YF ha hb;have p2:=YF ha j8;have p3:=YF QG hb;have p4:=YF QG j8;exact Int.ediv_nonneg (by omega) (by omega)
theorem zLM {B:Nat} {sm:Int × Int} (h:0<=sm.1) (h2:sm.1<=sm.2) (n:Nat):0<=(zV B sm n).1:=by
 induction n with
 | zero=>have:=zE B;show 0<=Q B;omega
 | succ n ih =>
  have hl:=zAF B sm n;have h3:=zGD (B:=B) (a:=zV B sm n) (b:=sm) ih (by omega) h (by omega)
  show 0<=(zK (zAH B (zV B sm n) sm) 1 ((n:Int)+1)).1
  unfold zK;exact Int.ediv_nonneg (by omega) (by omega)
theorem sumI_low {B:Nat} {sm:Int × Int} (h:0<=sm.1) (h2:sm.1<=sm.2) (n:Nat):Q B<=(jE (zV B sm) n).1:=by
 induction n with
 | zero=>exact Int.le_refl _
 | succ n ih =>
  have:=zLM (B:=B) h h2 (n+1)
  show Q B<=(zB5 (jE (zV B sm) n) (zV B sm (n+1))).1
  unfold zB5;simp only[];omega
theorem zMW {B N:Nat} {sm:Int × Int} (h:0<=sm.1) (h2:sm.1<=sm.2) (hN:zU (zV B sm) N):Q B-1<=(zN (zV B sm) N).1:=by
 have h3:=sumI_low (B:=B) h h2 N;have h4:=hN.1;unfold zN zB5;simp only[];omega
theorem zN4 {B:Nat} {d:Int × Int} (hd:d.1<=d.2) (t:Nat) (hq:Q t<=Q B) (h:Q B-1<=d.1):Q B-Q t<=(sqI B d t).1/\(sqI B d t).1<=(sqI B d t).2:=by
 have q:=zE B
 induction t with
 | zero=>exact⟨h,hd⟩
 | succ t ih =>
  have e:Q (t+1)=2*Q t:=rfl;have qt:=zE t;obtain⟨i1,i2⟩:=ih (by omega)
  refine⟨?_,zBY B⟩
  show Q B-Q (t+1)<=(zAH B (sqI B d t) (sqI B d t)).1
  generalize sqI B d t=a at *;obtain⟨_,_,_,_,hh⟩:=zEC (a.1*a.1) (a.1*a.2) (a.2*a.1) (a.2*a.2);have c0:0<=a.1:=by omega
  have m1:=YD i2 c0;have m2:=YA i2 c0;have m3:=Int.mul_le_mul i2 i2 c0 (by omega)
  have m4:=Int.mul_le_mul i1 i1 (by omega) c0
  have e2:(Q B-Q t)*(Q B-Q t)=(Q B-2*Q t)*Q B+Q t*Q t:=by grind
  have m5:=YF (show 0<=Q t by omega) (show 0<=Q t by omega)
  have m6:(Q B-Q (t+1))*Q B<=kJ (pr4 (a.1*a.1) (a.1*a.2) (a.2*a.1) (a.2*a.2)) 3:=by rw[e];omega
  exact Int.le_ediv_of_mul_le (by omega) m6
theorem zLN {B N t:Nat} {a:Int × Int} (ha:0<=a.1) (hl:a.1<=a.2) (ht:t<=17) (hB:40<=B) (hN:zU (zV B (zG a t)) N):Q B+1<=2*(sqI B (zN (zV B (zG a t)) N) t).1:=by
 have q:=zE t;have hs:0<=(zG a t).1:=Int.ediv_nonneg ha (by omega)
 have Y5:(zG a t).1<=(zG a t).2:=by
  have:=kM (a:=a) (n:=1) (d:=Q t) hl (by omega) (by omega)
  simpa [zK,zG] using this
 have h1:=zMW hs Y5 hN;have h2:=zN4 (B:=B) (zCN (zAF B (zG a t)) N) t (zJ (by omega)) h1
 have h3:=zJ (show t<=17 by omega)
 have h4:=zJ (show 40<=B by omega)
 have e1:Q 17=131072:=rfl;have e2:Q 40=1099511627776:=rfl;omega
theorem dv_wide {s1 s2 t1 t2 q W:Int} (hq:0<q) (h0:0<=s1) (h1:s2-s1<=1) (h2:s1<=t2) (h3:t1<=t2) (h4:t2-t1<=W) (h5:q+1<=2*t1) : -(-(s2*q)/t1)-s1*q/t2<=2*W+6:=by
 obtain⟨hi,ehi⟩:∃ hi,hi = -(-(s2*q)/t1):=⟨_,rfl⟩;obtain⟨lo,elo⟩:∃ lo,lo=s1*q/t2:=⟨_,rfl⟩;rw[<- ehi,<- elo];have t0:0<t1:=by omega
 have c1:(hi-1)*t1<s2*q:=by
  have:=Int.lt_ediv_add_one_mul_self (-(s2*q)) t0;have e:(hi-1)*t1 = -((-(s2*q)/t1+1)*t1):=by rw[ehi];grind
  omega
 have c2:s1*q<(lo+1)*t2:=by rw[elo];exact Int.lt_ediv_add_one_mul_self _ (by omega)
 have c3:lo<=q:=by
  rw[elo];refine Int.ediv_le_of_le_mul (by omega) ?_
  have:=YA h2 (show 0<=q by omega)
  rw[Int.mul_comm q];omega
 have c4:0<=lo:=by rw[elo];exact Int.ediv_nonneg (YF h0 (by omega)) (by omega)
 refine Int.not_lt.1 λ hn=>?_
 have W0:0<=W:=by omega
 have d1:=YA (show (lo+1)+(2*W+5)<=hi-1 by omega) (show 0<=t1 by omega)
 have d2:=YD h4 (show 0<=lo+1 by omega)
 have d3:=YA (show lo+1<=2*t1 by omega) W0
 have d4:=YA h1 (show 0<=q by omega)
 have e1:(lo+1+(2*W+5))*t1=(lo+1)*t2-(lo+1)*(t2-t1)+2*t1*W+5*t1:=by grind
 have e2:(s2-s1)*q=s2*q-s1*q:=by grind
 omega
theorem zHC (B:Nat):Iv B (Q B,Q B) (λ _=>1):=by
 have h:=(Iv.of B (n:=1) (d:=1) (by decide))
 have e:ofI 1 1 B=(Q B,Q B):=by unfold ofI;simp only[Int.ediv_one,Int.neg_neg,Int.one_mul]
 rw[e] at h;have e2:((1:Int):Rat)/((1:Int):Rat)=1:=by decide +kernel
 rw[e2] at h;exact h
theorem Iv.cap {B:Nat} {a:Int × Int} {x:Nat->Rat} (h:Iv B a x) (N0:Nat) (hx:∀ M,N0<=M->x M<=1):Iv B (a.1,if a.2<=Q B then a.2 else Q B) x:=by
 split
 ·exact h
 ·intro e he
  obtain⟨N,hN⟩:=h e he;refine⟨N+N0,λ M hM=>?_⟩
  have g:=(hN M (by omega)).1
  have g2:=hx M (by omega)
  have q:=jH B;have e1:(Q B:Rat)/(Q B:Rat)=1:=by rw[YK,Rat.mul_inv_cancel _ (by grind)]
  simp only[];rw[e1];constructor<;>grind
namespace Ex
theorem zPW {x:Rat} (hx:0<=x) (n:Nat):∀ M,n<M->tm x n<=E x M/\0<E x M:=by
 intro M hM
 obtain⟨j,rfl⟩:∃ j,M=n+1+j:=⟨M-(n+1),by omega⟩
 have nn:∀ m,0<=E x m:=λ m=>by
  induction m with
  | zero=>exact Rat.le_refl
  | succ m ih =>
   have e:E x (m+1)=E x m+tm x m:=rfl;have:=zAW hx m;rw[e];grind
 have one:∀ m,1<=E x (m+1):=λ m=>by
  induction m with
  | zero =>
   have e:E x (0+1)=E x 0+tm x 0:=rfl;have e0:E x 0=0:=rfl;have e1:tm x 0=1:=rfl;rw[e,e0,e1];decide +kernel
  | succ m ih =>
   have e:E x (m+1+1)=E x (m+1)+tm x (m+1):=rfl;have:=zAW hx (m+1);rw[e];grind
 constructor
 ·induction j with
  | zero =>
   have e:E x (n+1+0)=E x n+tm x n:=rfl;have:=nn n;rw[e];grind
  | succ j ih =>
   have e:E x (n+1+(j+1))=E x (n+1+j)+tm x (n+1+j):=rfl;have:=zAW hx (n+1+j);have:=ih (by omega)
   rw[e];grind
 ·have:=one (n+j)
  rw[show n+1+j=n+j+1 by omega];grind
end Ex
theorem zMA {p q:Int} (hq:0<q) (n:Nat):tm ((p:Rat)/(q:Rat)) n=((p ^ n:Int):Rat)/((q ^ n*J0 n:Int):Rat):=by
 have q0:(0:Rat)<(q:Rat):=by exact_mod_cast hq
 induction n with
 | zero =>
  have e:tm ((p:Rat)/(q:Rat)) 0=1:=rfl;have e2:J0 0=1:=rfl;rw[e,e2,Int.pow_zero,Int.pow_zero];decide +kernel
 | succ n ih =>
  have e:tm ((p:Rat)/(q:Rat)) (n+1)=tm ((p:Rat)/(q:Rat)) n*((p:Rat)/(q:Rat))/((n:Rat)+1):=rfl;have e2:J0 (n+1)=J0 n*((n:Int)+1):=rfl;have k1:(0:Int)<q ^ n*J0 n:=Int.mul_pos (Int.pow_pos hq) (zCP n);have k2:(0:Int)<q ^ (n+1)*J0 (n+1):=Int.mul_pos (Int.pow_pos hq) (zCP (n+1));have r1:(0:Rat)<((q ^ n*J0 n:Int):Rat):=by exact_mod_cast k1
  have r2:(0:Rat)<((q ^ (n+1)*J0 (n+1):Int):Rat):=by exact_mod_cast k2
  have r3:=zAV n;rw[e,ih];have f1:=rdm (a:=((p ^ n:Int):Rat)) r1;have f2:=rdm (a:=(p:Rat)) q0;have f3:=rdm (a:=((p ^ (n+1):Int):Rat)) r2;have c1:((p ^ (n+1):Int):Rat)=((p ^ n:Int):Rat)*(p:Rat):=by rw[Int.pow_succ,YG]
  have c2:((q ^ (n+1)*J0 (n+1):Int):Rat)=((q ^ n*J0 n:Int):Rat)*(q:Rat)*((n:Rat)+1):=by
   rw[e2,Int.pow_succ,show q ^ n*q*(J0 n*((n:Int)+1))=q ^ n*J0 n*q*((n:Int)+1) by grind,YG,YG,Rat.intCast_add]
   rfl
  generalize ((p ^ n:Int):Rat)/((q ^ n*J0 n:Int):Rat)=u at *;generalize (p:Rat)/(q:Rat)=v at *;have f4:=rdm (a:=u*v) r3;generalize u*v/((n:Rat)+1)=z at *;generalize ((p ^ (n+1):Int):Rat)/((q ^ (n+1)*J0 (n+1):Int):Rat)=y at *;rw[c2] at f3 r2;rw[c1] at f3;have:(z-y)*(((q ^ n*J0 n:Int):Rat)*(q:Rat)*((n:Rat)+1))=0:=by grind
  rcases Rat.mul_eq_zero.1 this with h|h<;>grind
def zDS (p q:Int) (n:Nat) (M:Nat):Rat:=((p ^ n:Int):Rat)/((q ^ n*J0 n:Int):Rat)/Ev (λ _=>(p:Rat)/(q:Rat)) M
theorem zAJ {p q:Int} (hp:0<=p) (hq:0<q):(0:Rat)<=(p:Rat)/(q:Rat):=by
 have q0:(0:Rat)<(q:Rat):=by exact_mod_cast hq
 have p0:(0:Rat)<=(p:Rat):=by exact_mod_cast hp
 refine jW q0 ?_;grind
theorem zNX {p q:Int} (hp:0<=p) (hq:0<q) (n M:Nat) (hM:n<M):0<=zDS p q n M/\zDS p q n M<=1:=by
 have h0:=zAJ hp hq;obtain⟨h1,h2⟩:=zPW h0 n M hM;rw[zMA hq] at h1;have h3:=zAJ (p:=p ^ n) (q:=q ^ n*J0 n) (Int.pow_nonneg hp) (Int.mul_pos (Int.pow_pos hq) (zCP n));unfold zDS Ev;constructor
 ·refine jW h2 ?_
  grind
 ·refine jV h2 ?_
  grind
open Ex
def riT (a:Int × Int) (u d:Nat->Int):Nat->Int × Int
 | 0=>a
 | n+1=>zK (riT a u d n) (u (n+1)) (d (n+1))
def yO (f:Nat->Int × Int) (turn N:Nat):Prop:=turn<=N/\(f N).2<=3/\∀ j,j<N->j<turn\/3<(f j).2
def kW (f:Nat->Int × Int) (N:Nat):Int × Int:=zB5 (jE f N) (0,9)
structure zP5 (u d:Nat->Int):Prop where
 u0:∀ n,0<=u n
 d0:∀ n,0<d n
theorem zEI {a:Int × Int} {u d:Nat->Int} (h:zP5 u d) (ha:a.1<=a.2) (n:Nat):(riT a u d n).1<=(riT a u d n).2:=by
 induction n with
 | zero=>exact ha
 | succ n ih=>exact kM ih (h.d0 _) (h.u0 _)
theorem zAL {a:Int × Int} {u d:Nat->Int} (h:zP5 u d) (ha:0<=a.1) (n:Nat):0<=(riT a u d n).1:=by
 induction n with
 | zero=>exact ha
 | succ n ih=>exact Int.ediv_nonneg (YF ih (h.u0 _)) (by have:=h.d0 (n+1);omega)
theorem kU (a:Int) {d:Int} (hd:0<d):a<(a/d+1)*d:=Int.lt_ediv_add_one_mul_self _ hd
theorem zM1 {x u d:Int} (hd:0<d) (hx:0<=x) (h:4*u<=3*d):4 * -(-(x*u)/d)<=3*x+3:=by
 have h1:=YD h hx;have h2:=kU (-(x*u)) hd;refine Int.not_lt.1 λ hn=>?_
 obtain⟨c,hc⟩:∃ c,c = -(-(x*u)/d):=⟨_,rfl⟩
 have h3:(c-1)*d<x*u:=by
  have e:(-(x*u)/d+1)*d = -((c-1)*d):=by rw[hc];grind
  omega
 rw[<- hc] at hn;have h4:=YA (show 3*x+4<=4*c by omega) (show 0<=d by omega)
 have e1:(3*x+4)*d=3*x*d+4*d:=by grind
 have e2:4*c*d=4*((c-1)*d)+4*d:=by grind
 have e3:x*(4*u)=4*(x*u):=by grind
 have e4:x*(3*d)=3*x*d:=by grind
 omega
theorem zPJ {g:Nat->Int} (h:∀ j,4*g (j+1)<=3*g j+3):∀ (H j:Nat),g j-3<Q H->∃ i,i<=j+3*H/\j<=i/\g i<=3:=by
 intro H
 induction H with
 | zero =>
  intro j hj
  have e:Q 0=1:=rfl;exact⟨j,by omega,YE _,by omega⟩
 | succ H ih =>
  intro j hj
  have e:Q (H+1)=2*Q H:=rfl;have q:=zE H;have h1:=h j;have h2:=h (j+1);have h3:=h (j+2);obtain⟨i,i1,i2,i3⟩:=ih (j+3) (by rw[show j+3=j+2+1 by omega];rw[show j+2=j+1+1 by omega] at *;omega)
  exact⟨i,by omega,by omega,i3⟩
theorem zL5 {a:Int × Int} {u d:Nat->Int} {turn H:Nat} (h:zP5 u d) (ha:0<=a.1) (hl:a.1<=a.2) (ia:∀ n,turn<=n->4*u (n+1)<=3*d (n+1)) (hH:(riT a u d turn).2-3<Q H):∃ N,N<=turn+3*H/\yO (riT a u d) turn N:=by
 have hg:∀ j,4*(riT a u d (turn+(j+1))).2<=3*(riT a u d (turn+j)).2+3:=λ j=>by
  have h0:=zAL h ha (turn+j);have h1:=zEI h hl (turn+j);exact zM1 (x:=(riT a u d (turn+j)).2) (h.d0 (turn+j+1)) (by omega) (ia (turn+j) (by omega))
 obtain⟨i,i1,i2,i3⟩:=zPJ hg H 0 hH;obtain⟨N,n1,n2,n3⟩:=zBN (p:=λ N=>turn<=N/\(riT a u d N).2<=3) (K:=turn+i) ⟨by omega,i3⟩
 refine⟨N,by omega,n2.1,n2.2,λ j hj=>?_⟩
 have:=n3 j hj
 by_cases ht:j<turn
 ·exact Or.inl ht
 ·exact Or.inr (Int.not_le.1 λ hh=>this ⟨by omega,hh⟩)
def riV (x:Nat->Rat) (u d:Nat->Int):Nat->Nat->Rat
 | 0,M=>x M
 | n+1,M=>(u (n+1):Rat)/(d (n+1):Rat)*riV x u d n M
theorem riT_has {B:Nat} {a:Int × Int} {x:Nat->Rat} {u d:Nat->Int} (h:zP5 u d) (hx:Iv B a x) (n:Nat):Iv B (riT a u d n) (λ M=>riV x u d n M):=by
 induction n with
 | zero=>exact hx
 | succ n ih=>exact ih.scale (h.u0 _) (h.d0 _)
theorem zHG {x:Nat->Rat} {u d:Nat->Int} (h:zP5 u d) {M:Nat} (hx:0<=x M) (n:Nat):0<=riV x u d n M:=by
 induction n with
 | zero=>exact hx
 | succ n ih =>
  have h1:=zAJ (h.u0 (n+1)) (h.d0 (n+1));exact Yz h1 ih
theorem riV_fall {x:Nat->Rat} {u d:Nat->Int} (h:zP5 u d) {M:Nat} (hx:0<=x M) {n:Nat} (ia:4*u (n+1)<=3*d (n+1)):4*riV x u d (n+1) M<=3*riV x u d n M:=by
 have h0:=zHG h hx n;have d0:(0:Rat)<(d (n+1):Rat):=by exact_mod_cast h.d0 (n+1)
 have h1:(u (n+1):Rat)/(d (n+1):Rat)<=3/4:=by
  refine jV d0 ?_;have:=zZ ia;rw[YG,YG,show ((4:Int):Rat)=4 from rfl,show ((3:Int):Rat)=3 from rfl] at this
  grind
 have h2:=Yz (show 0<=3/4-(u (n+1):Rat)/(d (n+1):Rat) by grind) h0
 show 4*((u (n+1):Rat)/(d (n+1):Rat)*riV x u d n M)<=_
 grind
theorem rise_has {B N:Nat} {f:Nat->Int × Int} {g:Nat->Nat->Rat} (h:∀ n,Iv B (f n) (λ M=>g n M)) (hN:(f N).2<=3) (M0:Nat) (h0:∀ M,M0<=M->∀ n,0<=g n M) (hh:∀ M,M0<=M->∀ n,N<=n->4*g (n+1) M<=3*g n M):Iv B (kW f N) (λ M=>S (λ k=>g k M) M):=by
 have hs:∀ n,Iv B (jE f n) (λ M=>S (λ k=>g k M) (n+1)):=λ n=>by
  induction n with
  | zero =>
   refine (h 0).congr (null_zero.of_eq λ M=>?_)
   show S (λ k=>g k M) 1-g 0 M=0
   have e:S (λ k=>g k M) 1=0+g 0 M:=rfl
   rw[e];grind
  | succ n ih=>exact ih.add (h (n+1))
 have ht:∀ M,M0<=M->∀ i,0<=S (λ k=>g k M) (N+1+i)-S (λ k=>g k M) (N+1)/\S (λ k=>g k M) (N+1+i)-S (λ k=>g k M) (N+1)+3*g (N+i) M<=3*g N M:=λ M hM i=>by
  induction i with
  | zero=>constructor<;>(show _<=_;simp only[Nat.add_zero];grind)
  | succ i ih =>
   have e:S (λ k=>g k M) (N+1+(i+1))=S (λ k=>g k M) (N+1+i)+g (N+1+i) M:=rfl
   have h1:=h0 M hM (N+1+i);have h2:=hh M hM (N+i) (by omega)
   rw[show N+i+1=N+1+i by omega] at h2
   rw[e,show N+(i+1)=N+1+i by omega]
   constructor<;>grind
 have q:=jH B
 intro e he
 obtain⟨N1,g1⟩:=hs N (e/4) (by grind)
 obtain⟨N2,g2⟩:=h N (e/4) (by grind)
 refine⟨M0+N1+N2+N+1,λ M hM=>?_⟩
 obtain⟨a1,a2⟩:=g1 M (by omega)
 obtain⟨b1,b2⟩:=g2 M (by omega)
 obtain⟨t1,t2⟩:=ht M (by omega) (M-(N+1))
 have t3:=h0 M (by omega) (N+(M-(N+1)))
 rw[show N+1+(M-(N+1))=M by omega] at t1 t2
 have c2:((f N).2:Rat)/(Q B:Rat)<=((3:Int):Rat)/(Q B:Rat):=jV q (by rw[rdm q];exact zZ hN)
 have e1:(((kW f N).1:Int):Rat)/(Q B:Rat)=((jE f N).1:Rat)/(Q B:Rat):=by
  unfold kW zB5;simp only[];rw[Int.add_zero]
 have e2:(((kW f N).2:Int):Rat)/(Q B:Rat)=((jE f N).2:Rat)/(Q B:Rat)+3*(((3:Int):Rat)/(Q B:Rat)):=by
  unfold kW zB5;simp only[];rw[Rat.intCast_add,zBR]
  congr 1
  have e9:((9:Int):Rat)=3*((3:Int):Rat):=by decide +kernel
  rw[e9,YK,YK,Rat.mul_assoc]
 simp only[] at a1 a2 b1 b2;rw[e1,e2];constructor<;>grind
def riS (x:Nat->Rat) (u d:Nat->Int) (M:Nat):Rat:=S (λ k=>riV x u d k M) M
theorem zCE {B N turn:Nat} {a:Int × Int} {x:Nat->Rat} {u d:Nat->Int} (h:zP5 u d) (hx:Iv B a x) (M0:Nat) (mC:∀ M,M0<=M->0<=x M) (ia:∀ n,turn<=n->4*u (n+1)<=3*d (n+1)) (hN:yO (riT a u d) turn N):Iv B (kW (riT a u d) N) (riS x u d) :=
 rise_has (λ n=>riT_has h hx n) hN.2.1 M0 (λ M hM n=>zHG h (mC M hM) n) (λ M hM n hn=>riV_fall h (mC M hM) (ia n (Nat.le_trans hN.1 hn)))
theorem zNY {a:Int × Int} {u d:Nat->Int} (h:zP5 u d) (ha:0<=a.1) (hl:a.1<=a.2) (h0:0<a.2) {D:Int} (hD:a.2-a.1<=D) (hmono:∀ n,d (n+1)<=u (n+1)->a.2<=(riT a u d n).2) (n:Nat) :
  ((riT a u d n).2-(riT a u d n).1)*a.2<=(D+2*n)*(if a.2<=(riT a u d n).2 then (riT a u d n).2 else a.2):=by
 have D0:0<=D:=by omega
 induction n with
 | zero =>
  show (a.2-a.1)*a.2<=(D+2*((0:Nat):Int))*(if a.2<=a.2 then a.2 else a.2)
  rw[if_pos (Int.le_refl _)];exact YA (by omega) (by omega)
 | succ n ih =>
  have hd:=h.d0 (n+1);have hu:=h.u0 (n+1);have n1:=zAL h ha n;have n2:=zEI h hl n;have wO:=hmono n
  show ((zK (riT a u d n) (u (n+1)) (d (n+1))).2-(zK (riT a u d n) (u (n+1)) (d (n+1))).1)*a.2<=(D+2*((n+1:Nat):Int))*(if a.2<=(zK (riT a u d n) (u (n+1)) (d (n+1))).2 then (zK (riT a u d n) (u (n+1)) (d (n+1))).2 else a.2)
  generalize riT a u d n=t at *;generalize u (n+1)=U at *;generalize d (n+1)=V at *;obtain⟨hi,ehi⟩:∃ hi,hi=(zK t U V).2:=⟨_,rfl⟩;obtain⟨lo,elo⟩:∃ lo,lo=(zK t U V).1:=⟨_,rfl⟩;rw[<- ehi,<- elo];have c1:t.2*U<=hi*V:=by rw[ehi];exact zDY (t.2*U) hd
  have c2:(hi-1)*V<t.2*U:=by
   have h2:=kU (-(t.2*U)) hd;have e:(-(t.2*U)/V+1)*V = -((hi-1)*V):=by rw[ehi];unfold zK;grind
   omega
  have c3:t.1*U<(lo+1)*V:=by rw[elo];exact kU (t.1*U) hd
  have tw:(hi-lo-2)*V<=(t.2-t.1)*U:=by
   have e1:(hi-lo-2)*V=(hi-1)*V-(lo+1)*V:=by grind
   have e2:(t.2-t.1)*U=t.2*U-t.1*U:=by grind
   omega
  have m1:=YA tw (show 0<=a.2 by omega)
  have m2:=YA ih hu;have C0:0<=D+2*(n:Int):=by omega
  refine Int.le_of_mul_le_mul_right (a:=V) ?_ hd;have e3:(hi-lo)*a.2*V=(hi-lo-2)*V*a.2+2*a.2*V:=by grind
  have e4:(t.2-t.1)*U*a.2=(t.2-t.1)*a.2*U:=by grind
  have cN:(D+2*((n+1:Nat):Int))=(D+2*(n:Int))+2:=by omega
  rw[cN]
  by_cases ht:a.2<=t.2
  ·rw[if_pos ht] at m2
   have m3:=YD c1 C0;have e5:(D+2*(n:Int))*t.2*U=(D+2*(n:Int))*(t.2*U):=by grind
   by_cases hh:a.2<=hi
   ·rw[if_pos hh]
    have m4:=YA hh (show 0<=V by omega)
    have e6:(D+2*(n:Int)+2)*hi*V=(D+2*(n:Int))*(hi*V)+2*(hi*V):=by grind
    have e7:2*a.2*V=2*(a.2*V):=by grind
    omega
   ·rw[if_neg hh]
    have m4:=YA (show hi<=a.2 by omega) (show 0<=V by omega)
    have m5:=YD m4 C0;have e6:(D+2*(n:Int)+2)*a.2*V=(D+2*(n:Int))*(a.2*V)+2*(a.2*V):=by grind
    have e7:2*a.2*V=2*(a.2*V):=by grind
    omega
  ·rw[if_neg ht] at m2
   have Yj:U<=V:=by
    refine Int.not_lt.1 λ D5=>?_
    exact ht (wO (by omega))
   have m4:=YD Yj (show 0<=(D+2*(n:Int))*a.2 from YF C0 (by omega))
   have az:a.2<=(if a.2<=hi then hi else a.2):=by split<;>omega
   have m5:=YD az (show 0<=D+2*(n:Int)+2 by omega)
   have m6:=YA m5 (show 0<=V by omega)
   have e6:(D+2*(n:Int)+2)*a.2*V=(D+2*(n:Int))*a.2*V+2*a.2*V:=by grind
   omega
end Go.Proofs.YtgmnknmjainabacGreat
namespace Go.Proofs.YtgmnknmjainabacGreat.Ex
def eT (x:Rat):Nat->Rat
 | 0=>x
 | n+1=>2*(x*x)/(2*((n:Rat)+1)+1)*eT x n
def eD (x:Rat):Nat->Rat
 | 0=>1
 | n+1=>2*x*eT x n
theorem zDC (n:Nat):(0:Rat)<2*((n:Rat)+1)+1:=by have:=zAV n;grind
theorem zDZ (x:Rat) (n:Nat):(2*((n:Rat)+1)+1)*eT x (n+1)=2*(x*x)*eT x n:=by
 have h:=zDC n
 show (2*((n:Rat)+1)+1)*(2*(x*x)/(2*((n:Rat)+1)+1)*eT x n)=_
 have e:=rdm (a:=2*(x*x)) h;have:(2*((n:Rat)+1)+1)*(2*(x*x)/(2*((n:Rat)+1)+1)*eT x n)=(2*(x*x)/(2*((n:Rat)+1)+1)*(2*((n:Rat)+1)+1))*eT x n:=by grind
 rw[this,e]
theorem zAS {x:Rat} (h:0<=x) (n:Nat):0<=eT x n:=by
 induction n with
 | zero=>exact h
 | succ n ih =>
  have h1:=zDC n;have h2:=zDZ x n;have h3:=Yz (Yz h h) ih;refine Rat.le_of_mul_le_mul_left (c:=2*((n:Rat)+1)+1) ?_ h1;grind
theorem eD_mul (x:Rat) (n:Nat):eD x n*x=(2*(n:Rat)+1)*eT x n:=by
 cases n with
 | zero=>show 1*x=(2*((0:Nat):Rat)+1)*x;grind
 | succ n =>
  have h:=zDZ x n
  show 2*x*eT x n*x=(2*((n+1:Nat):Rat)+1)*eT x (n+1)
  have e:((n+1:Nat):Rat)=(n:Rat)+1:=by push_cast;rfl
  rw[e];grind
theorem zJR {x:Rat} (h:0<=x) (n:Nat):0<=eD x n:=by
 cases n with
 | zero=>show (0:Rat)<=1;grind
 | succ n=>exact Yz (Yz (by grind) h) (zAS h n)
theorem zQ6 {x h:Rat} (hx:0<=x) (hh:0<=h) (n:Nat):eT x n+h*eD x n<=eT (x+h) n:=by
 induction n with
 | zero=>show x+h*1<=x+h;grind
 | succ n ih =>
  have p:=zDC n;have t0:=zAS hx n;have d0:=zJR hx n;have e1:=zDZ x n;have e2:=zDZ (x+h) n;have e3:=eD_mul x n;have s1:x*x+2*(x*h)<=(x+h)*(x+h):=by have:=Yz hh hh;grind
  have q0:=Yz hx hx;have q1:=Yz hx hh;have y0:0<=(x+h)*(x+h):=by have:=Yz hh hh;grind
  have m1:=Yy ih y0;have u0:0<=eT x n+h*eD x n:=by have:=Yz hh d0;grind
  have m2:=YB s1 u0;refine Rat.le_of_mul_le_mul_left (c:=2*((n:Rat)+1)+1) ?_ p
  show (2*((n:Rat)+1)+1)*(eT x (n+1)+h*(2*x*eT x n))<=_
  rw[e2];have k1:=Yz q1 (Yz hh d0);have k2:x*x*(h*eD x n)=h*x*((2*(n:Rat)+1)*eT x n):=by rw[<- e3];grind
  have k3:(x*x+2*(x*h))*(eT x n+h*eD x n)=x*x*eT x n+x*x*(h*eD x n)+2*(x*h)*eT x n+2*(x*h*(h*eD x n)):=by grind
  rw[k3,k2] at m2;have k4:(2*((n:Rat)+1)+1)*(eT x (n+1)+h*(2*x*eT x n))=2*(x*x)*eT x n+(2*((n:Rat)+1)+1)*(h*(2*x*eT x n)):=by rw[<- e1];grind
  rw[k4];grind
def eS (x:Rat) (M:Nat):Rat:=S (eT x) M
theorem jR {x:Rat} (h:0<=x) (M:Nat):0<=eS x M:=by
 induction M with
 | zero=>show (0:Rat)<=0;grind
 | succ n ih=>have:=zAS h n;show 0<=eS x n+eT x n;grind
theorem zQ4 {x h:Rat} (hx:0<=x) (hh:0<=h) (M:Nat):eS x (M+1)+h*(1+2*x*eS x M)<=eS (x+h) (M+1):=by
 induction M with
 | zero=>show (0+x)+h*(1+2*x*0)<=0+(x+h);grind
 | succ n ih =>
  have g:=zQ6 hx hh (n+1)
  show eS x (n+1)+eT x (n+1)+h*(1+2*x*(eS x n+eT x n))<=eS (x+h) (n+1)+eT (x+h) (n+1)
  have e:eD x (n+1)=2*x*eT x n:=rfl;rw[e] at g;grind
theorem zQ7 {x y:Rat} (hx:0<=x) (K6:x<=y) (n:Nat):eT x n<=eT y n:=by
 have h:=zQ6 hx (show 0<=y-x by grind) n
 have d:=Yz (show 0<=y-x by grind) (zJR hx n)
 rw[show x+(y-x)=y by grind] at h
 grind
theorem zQ5 {x y:Rat} (hx:0<=x) (K6:x<=y) (M:Nat):eS x M<=eS y M:=by
 induction M with
 | zero=>show (0:Rat)<=0;grind
 | succ n ih=>have:=zQ7 hx K6 n;show eS x n+eT x n<=eS y n+eT y n;grind
theorem eT_tm {x:Rat} (hx:0<=x) (n:Nat):eT x n<=x*tm (x*x) n:=by
 induction n with
 | zero=>show x<=x*1;grind
 | succ n ih =>
  have p:=zDC n;have p1:=zAV n;have e1:=zDZ x n;have e2:=kR (x*x) n;have q:=Yz hx hx;have m:=Yy ih q;have t:=zAW q (n+1);have xt:=Yz hx t;refine Rat.le_of_mul_le_mul_left (c:=2*((n:Rat)+1)+1) ?_ p;rw[e1];have k:x*((n:Rat)+1)*tm (x*x) (n+1)=x*(x*x*tm (x*x) n):=by rw[<- e2];grind
  grind
theorem zQ8 {x:Rat} (hx:0<=x):Null (λ M=>eT x M):=by
 obtain⟨K,k0,hK⟩:=zPO (x*x);refine Null.of_le (f:=λ M=>x*K*((M:Rat)*q4 M)) (zB0 (x*K) (Yz hx k0)) 1 λ M hM=>?_
 have h0:=zAS hx M;have h1:=eT_tm hx M;have h2:=(hK M).2;have h3:=Yy h2 hx;have hm:(1:Rat)<=(M:Rat):=by exact_mod_cast hM
 have h4:=Yz (Yz (Yz hx k0) (YC (yD M))) (show 0<=(M:Rat)-1 by grind)
 constructor<;>grind
theorem zJS {x:Rat} (hx:0<=x):∃ K,0<=K/\∀ M,eS x M<=K:=by
 obtain⟨K,k0,hK⟩:=zDW (x*x);have q:=Yz hx hx;refine⟨x*K,Yz hx k0,λ M=>?_⟩
 have h1:eS x M<=x*E (x*x) M:=by
  induction M with
  | zero=>show (0:Rat)<=x*0;grind
  | succ n ih =>
   have:=eT_tm hx n
   show eS x n+eT x n<=x*(E (x*x) n+tm (x*x) n)
   grind
 have h2:=(hK M (x*x) ⟨by grind,by grind⟩).2
 have h3:=Yy h2 hx;grind
def eF (x:Rat) (M:Nat):Rat:=eS x M*Ev (λ _ => -(x*x)) M
theorem eF_key {x h Y K s t q:Rat} (hx:0<=x) (hh:0<h) (hY:x+h<=Y) (sx:0<=s) (sK:s<=K) (h1:h<=1) (ht:t=h*(2*x+h)) (t0:0<=t) (t4:t<=1/4) (h3:2*(h*(K*(1+8*((2*Y+1)*(2*Y+1)))))<=1) (q0:1-t-2*(t*t)<=q):s<=(s+h*(1+2*x*s))*q:=by
 have A0:0<=2*Y+1:=by grind
 have tt2:t*t<=1/16:=by have:=Yy t4 t0;grind
 have p0:0<=s+h*(1+2*x*s):=by
  have:=Yz (YC hh) (show 0<=1+2*x*s by have:=Yz hx sx;grind)
  grind
 have p1:=Yy q0 p0;refine Rat.le_trans ?_ p1;obtain⟨a,ha⟩:∃ a,a=2*x+h:=⟨_,rfl⟩;have a0:0<=a:=by grind
 have aA:a<=2*Y+1:=by grind
 rw[<- ha] at ht
 have r1:(s+h*(1+2*x*s))*(1-t-2*(t*t))-s=h*((1-t-2*(t*t))-h*(s*(1+2*(a*a)+2*x*(a+2*(t*a))))):=by
  rw[ht,ha];grind
 have xa:2*x<=a:=by grind
 have b1:a*a<=(2*Y+1)*(2*Y+1):=Rat.le_trans (Yy aA a0) (YB aA A0);have b2:2*x*a<=a*a:=YB xa a0;have b3:2*x*a*t<=a*a*(1/4):=Rat.le_trans (YB b2 t0) (Yy t4 (Yz a0 a0));have aa:=Yz a0 a0
 have B:1+2*(a*a)+2*x*(a+2*(t*a))<=1+8*((2*Y+1)*(2*Y+1)):=by
  have e:2*x*(a+2*(t*a))=2*x*a+2*(2*x*a*t):=by grind
  rw[e];generalize (2*Y+1)*(2*Y+1)=YY at *;generalize a*a=AA at *;generalize 2*x*a*t=u1 at *;generalize 2*x*a=u2 at *;clear r1 p1 p0 h3 ht;grind
 have b4:=Yy B sx;have b5:s*(1+8*((2*Y+1)*(2*Y+1)))<=K*(1+8*((2*Y+1)*(2*Y+1))):=YB sK (by have:=Yz A0 A0;grind)
 have b6:=Yy (Rat.le_trans b4 b5) (YC hh)
 have b7:0<=(1-t-2*(t*t))-h*(s*(1+2*(a*a)+2*x*(a+2*(t*a)))):=by
  generalize h*(s*(1+2*(a*a)+2*x*(a+2*(t*a))))=u1 at *;generalize h*(K*(1+8*((2*Y+1)*(2*Y+1))))=u2 at *;generalize t*t=u3 at *;clear r1 p1 p0 ht b1 b2 b3 b4 b5 B;grind
 have b8:=Yz (YC hh) b7;rw[<- r1] at b8;grind
theorem eF_step {x h Y K:Rat} (hx:0<=x) (hh:0<h) (hY:x+h<=Y) (hK:0<=K) (hS:∀ M,eS x M<=K) (h1:h<=1) (h2:4*(h*(2*Y+1))<=1) (h3:2*(h*(K*(1+8*((2*Y+1)*(2*Y+1)))))<=1):∃ z,Null z/\∃ N,∀ M,N<=M->eF x M<=eF (x+h) M+z M:=by
 obtain⟨t,ht⟩:∃ t,t=h*(2*x+h):=⟨_,rfl⟩;have a0:0<=2*x+h:=by grind
 have t0:0<=t:=by rw[ht];exact Yz (YC hh) a0
 have ta:t<=h*(2*Y+1):=by rw[ht];exact Yy (by grind) (YC hh)
 have t4:t<=1/4:=by grind
 have sqe : -((x+h)*(x+h)) = -(x*x) + -t:=by rw[ht];grind
 have cx:=zAI (x:=λ _ => -(x*x)) (y:=λ _ => -t) (Bdd.const _) (Bdd.const _)
 have eb:Bdd (eS (x+h)):=by
  obtain⟨K2,k2,aJ⟩:=zJS (x:=x+h) (by grind)
  exact Bdd.of_le K2 0 λ M _=>⟨by have:=jR (x:=x+h) (by grind) M;grind,aJ M⟩
 have G7:=cx.bmul eb;obtain⟨c,c0,N0,hc⟩:=zB4 (x:=λ _ => -(x*x)) (Bdd.const _)
 have evb:=zAC (x:=λ _ => -(x*x)) (Bdd.const _)
 have hT:=(zQ8 hx)
 have M6:Null (λ M=>eT x (M-1)):=λ e he=>by
  obtain⟨N,hN⟩:=hT e he;exact⟨N+1,λ M hM=>hN (M-1) (by omega)⟩
 have fW:=(M6.bmul (Bdd.const (2*x*h))).bmul evb;refine⟨_,fW.add G7,N0+2,λ M hM=>?_⟩
 have FD:=hc M (by omega)
 have e1:eF (x+h) M=eS (x+h) M*Ev (λ _ => -(x*x) + -t) M:=by unfold eF;rw[sqe]
 obtain⟨m,rfl⟩:∃ m,M=m+1:=⟨M-1,by omega⟩
 have g:=zQ4 hx (YC hh) m;have e2:eS x (m+1)=eS x m+eT x m:=rfl;have sx:=jR hx (m+1);have sK:=hS (m+1);have lit:=(zAB (h := -t) (b:=t) ⟨by grind,by grind⟩ t4 (M:=m+1) (by omega)).1
 have Le:=(zAB (h := -t) (b:=t) ⟨by grind,by grind⟩ t4 (M:=m+1) (by omega)).2
 have e3:Ev (λ _ => -t) (m+1)=E (-t) (m+1):=rfl
 have T0:=zAS hx m;simp only[Nat.add_sub_cancel] at *;rw[e1];unfold eF;generalize Ev (λ _ => -(x*x)) (m+1)=v at *
 generalize Ev (λ _ => -(x*x) + -t) (m+1)=vt at *
 rw[e3];generalize E (-t) (m+1)=q at *;generalize eS (x+h) (m+1)=s' at *;obtain⟨s,hs⟩:∃ s,s=eS x (m+1):=⟨_,rfl⟩;have e4:eS x m=s-eT x m:=by rw[hs];grind
 rw[e4,<- hs] at g;rw[<- hs] at sx sK ⊢;generalize eT x m=T at *;have q0:1-t-2*(t*t)<=q:=by grind
 have tt:t*t<=t*(h*(2*Y+1)):=Yy ta t0;have A0:0<=2*Y+1:=by grind
 have tt2:t*t<=1/16:=by
  have:=Yy t4 t0;grind
 have q1:0<=q:=by grind
 have key:s<=(s+h*(1+2*x*s))*q:=eF_key hx hh hY sx sK h1 ht t0 t4 h3 q0;have v0:0<=v:=by grind
 have k1:=YB key v0;have g2:s+h*(1+2*x*s)<=s'+T*(2*x*h):=by grind
 have vq:=Yz v0 q1;have k2:=YB g2 vq
 have qle:q<=1:=by
  have u:=Le;have tt3:t*t<=t*(1/4):=Yy t4 t0;grind
 have w0:=Yz (Yz (Yz hx (YC hh)) T0) v0;have w1:=Yy qle w0;have r1:(s+h*(1+2*x*s))*q*v=(s+h*(1+2*x*s))*(v*q):=by grind
 have r2:(s'+T*(2*x*h))*(v*q)=s'*(v*q)+2*(x*h*T*v*q):=by grind
 rw[r1] at k1;rw[r2] at k2;have r3:T*(2*x*h)*v=2*(x*h*T*v*1):=by grind
 have r4:(v*q-vt)*s'=s'*(v*q)-s'*vt:=by grind
 show s*v<=s'*vt+(T*(2*x*h)*v+(v*q-vt)*s')
 rw[r3,r4];generalize s'*(v*q)=g1 at *;generalize x*h*T*v*q=g2 at *;generalize x*h*T*v*1=g3 at *;generalize (s+h*(1+2*x*s))*(v*q)=g4 at *;generalize s*v=g5 at *;generalize s'*vt=g6 at *;clear key r1 r2 r3 r4 g G7 M6 fW cx;grind
theorem eF_mono {x y:Rat} (hx:0<=x) (K6:x<=y):∃ z,Null z/\∃ N,∀ M,N<=M->eF x M<=eF y M+z M:=by
 by_cases heq:x=y
 ·subst heq
  exact⟨_,null_zero,0,λ M _=>by grind⟩
 have D5:0<y-x:=by grind
 have hy:0<=y:=by grind
 obtain⟨K,k0,hK⟩:=zJS hy;obtain⟨C,hC⟩:∃ C,C=(y-x)*(1+4*(2*y+1)+2*(K*(1+8*((2*y+1)*(2*y+1))))):=⟨_,rfl⟩;obtain⟨n,hn⟩:=kB C;have n0:(0:Rat)<(n:Rat)+1:=zAV n;obtain⟨h,hh⟩:∃ h,h=(y-x)/((n:Rat)+1):=⟨_,rfl⟩;have hm:h*((n:Rat)+1)=y-x:=by rw[hh];exact rdm n0
 have h0:0<h:=by rw[hh];exact zF D5 n0
 have A0:0<=2*y+1:=by grind
 have AA:=Yz A0 A0;have P0:0<=K*(1+8*((2*y+1)*(2*y+1))):=Yz k0 (by grind)
 have hc:h*(1+4*(2*y+1)+2*(K*(1+8*((2*y+1)*(2*y+1)))))<=1:=by
  have h2:=hn.2;refine Rat.le_of_mul_le_mul_left (c:=(n:Rat)+1) ?_ n0;have e:((n:Rat)+1)*(h*(1+4*(2*y+1)+2*(K*(1+8*((2*y+1)*(2*y+1))))))=C:=by rw[hC,<- hm];grind
  rw[e];grind
 have c1:=Yz (YC h0) A0;have c2:=Yz (YC h0) P0;have hs:h*(1+4*(2*y+1)+2*(K*(1+8*((2*y+1)*(2*y+1)))))=h+4*(h*(2*y+1))+2*(h*(K*(1+8*((2*y+1)*(2*y+1))))):=by grind
 rw[hs] at hc
 have step:∀ i:Nat,i<=n+1->∃ z,Null z/\∃ N,∀ M,N<=M->eF x M<=eF (x+(i:Rat)*h) M+z M:=by
  intro i
  induction i with
  | zero =>
   intro _
   refine⟨_,null_zero,0,λ M _=>?_⟩
   have e:x+((0:Nat):Rat)*h=x:=by grind
   rw[e];grind
  | succ i ih =>
   intro hi
   obtain⟨z1,G7,N1,h1⟩:=ih (by omega)
   have i0:(0:Rat)<=(i:Rat):=by exact_mod_cast Nat.zero_le i
   have i1:(i:Rat)+1<=(n:Rat)+1:=by exact_mod_cast hi
   have p0:=Yz i0 (YC h0);have p1:=YB i1 (YC h0)
   have e1:x+(i:Rat)*h+h=x+((i+1:Nat):Rat)*h:=by
    have:((i+1:Nat):Rat)=(i:Rat)+1:=by push_cast;rfl
    rw[this];grind
   have Rs:x+(i:Rat)*h+h<=y:=by grind
   obtain⟨z2,M6,N2,h2⟩:=eF_step (x:=x+(i:Rat)*h) (h:=h) (Y:=y) (K:=K) (by grind) h0 Rs k0 (λ M=>Rat.le_trans (zQ5 (by grind) (by grind) M) (hK M)) (by grind) (by grind) (by grind)
   rw[e1] at h2;refine⟨_,G7.add M6,N1+N2,λ M hM=>?_⟩
   have a:=h1 M (by omega)
   have b:=h2 M (by omega)
   grind
 obtain⟨z,hz,N,h9⟩:=step (n+1) (YE _)
 have e:x+((n+1:Nat):Rat)*h=y:=by
  have:((n+1:Nat):Rat)=(n:Rat)+1:=by push_cast;rfl
  rw[this];grind
 rw[e] at h9;exact⟨z,hz,N,h9⟩
end Go.Proofs.YtgmnknmjainabacGreat.Ex
namespace Go.Proofs.YtgmnknmjainabacGreat.Ex
def LeN (f g:Nat->Rat):Prop:=∀ e:Rat,0<e->∃ N:Nat,∀ M,N<=M->f M<=g M+e
theorem LeN.refl (f:Nat->Rat):LeN f f:=λ e he=>⟨0,λ M _=>by grind⟩
theorem LeN.trans {f g h:Nat->Rat} (a:LeN f g) (b:LeN g h):LeN f h:=λ e he=>by
 obtain⟨N1,h1⟩:=a (e/2) (by grind)
 obtain⟨N2,h2⟩:=b (e/2) (by grind)
 exact⟨N1+N2,λ M hM=>by have:=h1 M (by omega);have:=h2 M (by omega);grind⟩
theorem LeN.of_le {f g:Nat->Rat} (N:Nat) (h:∀ M,N<=M->f M<=g M):LeN f g:=λ e he=>⟨N,λ M hM=>by have:=h M hM;grind⟩
theorem LeN.of_null {f g z:Nat->Rat} (hz:Null z) (N:Nat) (h:∀ M,N<=M->f M<=g M+z M):LeN f g:=λ e he=>by
 obtain⟨N1,h1⟩:=hz e he;exact⟨N+N1,λ M hM=>by have:=h M (by omega);have:=(h1 M (by omega)).2;grind⟩
theorem LeN.null {f g:Nat->Rat} (h:LeN f g):∃ z,Null z/\∀ M,f M<=g M+z M:=by
 refine⟨λ M=>if f M<=g M then 0 else f M-g M,λ e he=>?_,λ M=>?_⟩
 ·obtain⟨N,hN⟩:=h e he
  refine⟨N,λ M hM=>?_⟩
  have:=hN M hM;simp only[];split<;>constructor<;>grind
 ·simp only[];split<;>grind
theorem LeN.add {f g f' g':Nat->Rat} (a:LeN f g) (b:LeN f' g'):LeN (λ M=>f M+f' M) (λ M=>g M+g' M):=λ e he=>by
 obtain⟨N1,h1⟩:=a (e/2) (by grind)
 obtain⟨N2,h2⟩:=b (e/2) (by grind)
 exact⟨N1+N2,λ M hM=>by have:=h1 M (by omega);have:=h2 M (by omega);grind⟩
theorem LeN.eq {f g:Nat->Rat} (h:LeN f g) (k:LeN g f):Null (λ M=>f M-g M):=λ e he=>by
 obtain⟨N1,h1⟩:=h e he;obtain⟨N2,h2⟩:=k e he;exact⟨N1+N2,λ M hM=>by have:=h1 M (by omega);have:=h2 M (by omega);constructor<;>grind⟩
theorem Null.leN {f g:Nat->Rat} (h:Null (λ M=>f M-g M)):LeN f g:=λ e he=>by
 obtain⟨N,hN⟩:=h e he;exact⟨N,λ M hM=>by have:=(hN M hM).2;grind⟩
theorem Null.symm {f g:Nat->Rat} (h:Null (λ M=>f M-g M)):Null (λ M=>g M-f M):=h.neg.of_eq λ M=>by grind
theorem LeN.lim {f g:Nat->Rat} {C:Rat} (hC:0<=C) (h:∀ n:Nat,LeN f (λ M=>g M+C*(1/((n:Rat)+1)))):LeN f g:=λ e he=>by
 obtain⟨n,hn⟩:=kB (2*C/e);have k:=h n;obtain⟨N,hN⟩:=k (e/2) (by grind)
 refine⟨N,λ M hM=>?_⟩
 have h1:=hN M hM;have n0:(0:Rat)<(n:Rat)+1:=zAV n
 have h2:C*(1/((n:Rat)+1))<=e/2:=by
  have um:1/((n:Rat)+1)*((n:Rat)+1)=1:=rdm n0;have u0:(0:Rat)<1/((n:Rat)+1):=zF (by grind) n0
  have ce:2*C/e*e=2*C:=rdm he;have h3:=YB hn.2 (YC he);rw[ce] at h3;have h4:=YB (show 2*C<=((n:Rat)+1)*e by grind) (YC u0)
  have e5:((n:Rat)+1)*e*(1/((n:Rat)+1))=(1/((n:Rat)+1)*((n:Rat)+1))*e:=by grind
  rw[e5,um] at h4;grind
 simp only[] at h1;grind
theorem zCL {f:Rat->Nat->Rat} {a b C D:Rat} (ij:a<=b) (hC:0<=C) (hD:0<D)
  (step:∀ x h,a<=x->0<h->h<=D->x+h<=b->∃ z,Null z/\∃ N:Nat,∀ M,N<=M->f (x+h) M<=f x M+C*(h*h)+z M):LeN (f b) (f a):=by
 by_cases heq:a=b
 ·subst heq;exact LeN.refl _
 have D5:0<b-a:=by grind
 refine LeN.lim (C:=C*((b-a)*(b-a))) (Yz hC (Yz (YC D5) (YC D5))) λ n0=>?_
 obtain⟨m,hm⟩:=kB ((b-a)/D);obtain⟨n,hn⟩:∃ n,n=n0+m:=⟨_,rfl⟩;have Li:(0:Rat)<(n:Rat)+1:=zAV n;obtain⟨h,hh⟩:∃ h,h=(b-a)/((n:Rat)+1):=⟨_,rfl⟩;have hmul:h*((n:Rat)+1)=b-a:=by rw[hh];exact rdm Li
 have h0:0<h:=by rw[hh];exact zF D5 Li
 have mn:(m:Rat)<=(n:Rat):=by exact_mod_cast (show m<=n by omega)
 have nn:(n0:Rat)<=(n:Rat):=by exact_mod_cast (show n0<=n by omega)
 have s9:h<=D:=by
  have e1:(b-a)/D*D=b-a:=rdm hD;have h1:=YB hm.2 (YC hD);rw[e1] at h1;refine Rat.le_of_mul_le_mul_right (c:=(n:Rat)+1) ?_ Li;rw[hmul];have:=YB mn (YC hD);grind
 have go:∀ i:Nat,i<=n+1->∃ z,Null z/\∃ N:Nat,∀ M,N<=M->f (a+(i:Rat)*h) M<=f a M+(i:Rat)*(C*(h*h))+z M:=by
  intro i
  induction i with
  | zero =>
   intro _
   refine⟨_,null_zero,0,λ M _=>?_⟩
   have e:a+((0:Nat):Rat)*h=a:=by grind
   rw[e];grind
  | succ i ih =>
   intro hi
   obtain⟨z1,G7,N1,k1⟩:=ih (by omega)
   have i0:(0:Rat)<=(i:Rat):=by exact_mod_cast Nat.zero_le i
   have i1:(i:Rat)+1<=(n:Rat)+1:=by exact_mod_cast hi
   have p0:=Yz i0 (YC h0);have p1:=YB i1 (YC h0);have ec:((i+1:Nat):Rat)=(i:Rat)+1:=by push_cast;rfl
   have e1:a+(i:Rat)*h+h=a+((i+1:Nat):Rat)*h:=by rw[ec];grind
   obtain⟨z2,M6,N2,k2⟩:=step (a+(i:Rat)*h) h (by grind) h0 s9 (by grind)
   rw[e1] at k2;refine⟨_,G7.add M6,N1+N2,λ M hM=>?_⟩
   have a1:=k1 M (by omega)
   have a2:=k2 M (by omega)
   rw[ec] at a2 ⊢;grind
 obtain⟨z,hz,N,k⟩:=go (n+1) (YE _);have ec:((n+1:Nat):Rat)=(n:Rat)+1:=by push_cast;rfl
 have e:a+((n+1:Nat):Rat)*h=b:=by rw[ec];grind
 rw[e,ec] at k;refine LeN.of_null hz N λ M hM=>?_
 have k1:=k M hM;have Lk:(0:Rat)<(n0:Rat)+1:=zAV n0;have um:1/((n0:Rat)+1)*((n0:Rat)+1)=1:=rdm Lk;have u0:(0:Rat)<1/((n0:Rat)+1):=zF (by grind) Lk
 have hb:((n:Rat)+1)*(C*(h*h))<=C*((b-a)*(b-a))*(1/((n0:Rat)+1)):=by
  have e2:((n:Rat)+1)*(C*(h*h))=C*(b-a)*h:=by rw[<- hmul];grind
  rw[e2]
  have hu:h<=(b-a)*(1/((n0:Rat)+1)):=by
   refine Rat.le_of_mul_le_mul_right (c:=(n0:Rat)+1) ?_ Lk;have e3:(b-a)*(1/((n0:Rat)+1))*((n0:Rat)+1)=(b-a)*(1/((n0:Rat)+1)*((n0:Rat)+1)):=by grind
   rw[e3,um];have:=Yy nn (YC h0);grind
  have:=Yy hu (Yz hC (YC D5));grind
 grind
end Go.Proofs.YtgmnknmjainabacGreat.Ex
namespace Go.Proofs.YtgmnknmjainabacGreat
open Ex
theorem Iv.opp {B:Nat} {a:Int × Int} {x:Nat->Rat} (h:Iv B a x):Iv B (-a.2,-a.1) (λ M => -x M):=by
 have q:=jH B
 intro e he
 obtain⟨N,hN⟩:=h e he;refine⟨N,λ M hM=>?_⟩
 obtain⟨g1,g2⟩:=hN M hM;have e1:((-a.2:Int):Rat)/(Q B:Rat) = -((a.2:Rat)/(Q B:Rat)):=by rw[Rat.intCast_neg,YK,YK,Rat.neg_mul]
 have e2:((-a.1:Int):Rat)/(Q B:Rat) = -((a.1:Rat)/(Q B:Rat)):=by rw[Rat.intCast_neg,YK,YK,Rat.neg_mul]
 simp only[];rw[e1,e2];constructor<;>grind
def negI (a:Int × Int):Int × Int:=(-a.2,-a.1)
theorem negI_abs {a:Int × Int} {m:Int} (h:Abs a m):Abs (negI a) m:=by obtain⟨h1,h2,h3,h4⟩:=h;exact⟨by simp only[negI];omega,by simp only[negI];omega,by simp only[negI];omega,by simp only[negI];omega⟩
def agT (m:Int) (B:Nat):Nat->Int × Int
 | 0=>ofI 1 m B
 | n+1=>negI (zK (agT m B n) (2*(n:Int)+1) ((2*(n:Int)+3)*m*m))
theorem zJD {m:Int} (hm:2<=m) (n:Nat):0<(2*(n:Int)+3)*m*m/\4*(2*(n:Int)+1)<=(2*(n:Int)+3)*m*m:=by
 have h1:=Int.mul_le_mul hm hm (by omega) (show 0<=m by omega)
 have h2:=YD h1 (show 0<=2*(n:Int)+3 by omega)
 have e:(2*(n:Int)+3)*m*m=(2*(n:Int)+3)*(m*m):=by grind
 rw[e];omega
theorem zMN {m:Int} (hm:2<=m) (B n:Nat):(agT m B n).1<=(agT m B n).2:=by
 induction n with
 | zero=>exact yA (by omega) B
 | succ n ih =>
  have:=kM ih (zJD hm n).1 (show 0<=2*(n:Int)+1 by omega)
  simp only[agT,negI];omega
theorem zHR {m:Int} (hm:2<=m) {B:Nat} (hB:2<=B) (n:Nat):Abs (agT m B n) (Q (B-2*n)):=by
 induction n with
 | zero =>
  have q:=zE B;have h2:=YD hm (show 0<=Q B by omega)
  exact zGE (by omega) B (by have:=zE B;simp only[Nat.mul_zero,Nat.sub_zero];omega) (by simp only[Nat.mul_zero,Nat.sub_zero];omega)
 | succ n ih =>
  obtain⟨d0,d1⟩:=zJD hm n;have st:=zP3 hB n;have q2:=zE (B-2)
  have eB:Q B=4*Q (B-2):=by
   have:=jF 2 (B-2);rw[show 2+(B-2)=B by omega] at this
   rw[this];rfl
  have hq:Q (B-2*n)<=4*Q (B-2*(n+1)):=by
   refine Int.le_of_mul_le_mul_right (a:=Q (B-2)) ?_ (by omega)
   rw[eB] at st;have e:4*Q (B-2*(n+1))*Q (B-2)=Q (B-2*(n+1))*(4*Q (B-2)):=by grind
   omega
  have q3:=zE (B-2*(n+1));obtain⟨a1,a2,a3,a4⟩:=ih
  have key:∀ x:Int,-Q (B-2*n)<=x->x<=Q (B-2*n) -> -(Q (B-2*(n+1))*((2*(n:Int)+3)*m*m))<=x*(2*(n:Int)+1)/\x*(2*(n:Int)+1)<=Q (B-2*(n+1))*((2*(n:Int)+3)*m*m):=λ x h1 h2=>by
   have k1:=YD d1 (show 0<=Q (B-2*(n+1)) by omega)
   have k2:=YA (show x<=4*Q (B-2*(n+1)) by omega) (show 0<=2*(n:Int)+1 by omega)
   have k3:=YA (show -(4*Q (B-2*(n+1)))<=x by omega) (show 0<=2*(n:Int)+1 by omega)
   have e:Q (B-2*(n+1))*(4*(2*(n:Int)+1))=4*Q (B-2*(n+1))*(2*(n:Int)+1):=by grind
   have e2 : -(4*Q (B-2*(n+1)))*(2*(n:Int)+1) = -(4*Q (B-2*(n+1))*(2*(n:Int)+1)):=by grind
   constructor<;>omega
  have r1:=kC d0 (key _ a1 a2).1 (key _ a1 a2).2;have r2:=kC d0 (key _ a3 a4).1 (key _ a3 a4).2;exact negI_abs ⟨r1.1,r1.2.1,r2.2.2.1,r2.2.2.2⟩
theorem agT_wide {m:Int} (hm:2<=m) (B n:Nat):(agT m B n).2-(agT m B n).1<=2:=by
 induction n with
 | zero=>have:=yB (n:=1) (show 0<m by omega) B;simp only[agT];omega
 | succ n ih =>
  obtain⟨d0,d1⟩:=zJD hm n
  have:=kI (a:=agT m B n) (n:=2*(n:Int)+1) (d:=(2*(n:Int)+3)*m*m) (c:=1) d0 (by
   have:=YA ih (show 0<=2*(n:Int)+1 by omega)
   omega)
  simp only[agT,negI];omega
def agV (m:Int):Nat->Rat
 | 0=>((1:Int):Rat)/(m:Rat)
 | n+1 => -(((2*(n:Int)+1:Int):Rat)/(((2*(n:Int)+3)*m*m:Int):Rat)*agV m n)
theorem agT_has {m:Int} (hm:2<=m) (B n:Nat):Iv B (agT m B n) (λ _=>agV m n):=by
 induction n with
 | zero=>exact Iv.of B (by omega)
 | succ n ih=>exact (ih.scale (show 0<=2*(n:Int)+1 by omega) (zJD hm n).1).opp
theorem zL2 {n d:Int} (hn:0<=n) (hd:0<d) (h:4*n<=d):0<=(n:Rat)/(d:Rat)/\(n:Rat)/(d:Rat)<=1/4:=by
 have d0:(0:Rat)<(d:Rat):=by exact_mod_cast hd
 have n0:(0:Rat)<=(n:Rat):=by exact_mod_cast hn
 refine⟨jW d0 (by grind),jV d0 ?_⟩
 have:=zZ h;rw[YG,show ((4:Int):Rat)=4 from rfl] at this
 grind
theorem zHS {m:Int} (hm:2<=m) (n:Nat) {b:Rat} (h:AB (agV m n) b):AB (agV m (n+1)) (b/2):=by
 obtain⟨d0,d1⟩:=zJD hm n;obtain⟨q0,q1⟩:=zL2 (show 0<=2*(n:Int)+1 by omega) d0 d1
 have b0:=h.nonneg;have:=(AB.mul (s:=((2*(n:Int)+1:Int):Rat)/(((2*(n:Int)+3)*m*m:Int):Rat)) (a:=1/4) ⟨by grind,q1⟩ h).neg
 exact this.mono (by grind)
def agS (m:Int) (M:Nat):Rat:=S (agV m) M
theorem zMO {m:Int} (hm:2<=m) (B N:Nat):Iv B (zN (agT m B) N) (agS m) :=
 zHW (g:=λ n _=>agV m n) (zMN hm B) (λ k _=>agT_has hm B k) 0 (λ M _ n b _ hb=>zHS hm n hb)
theorem zHT {m:Int} (hm:2<=m) {B N:Nat} (hB:2<=B) (hN:zU (agT m B) N) :
  (zN (agT m B) N).1<=(zN (agT m B) N).2/\Abs (zN (agT m B) N) (2*Q B)/\N<=B/2+1/\(zN (agT m B) N).2-(zN (agT m B) N).1<=(B:Int)+6:=by
 have hn:N<=B/2+1:=by
  obtain⟨N',n1,n2⟩:=zB3 (s:=2) (by omega) (zHR hm hB)
  refine Nat.le_trans (Nat.not_lt.1 λ D5=>?_) n1
  have:=hN.2 N' D5;have:=n2.1;omega
 refine⟨zCN (zMN hm B) N,zF1 (s:=2) (by omega) (zMN hm B) (zHR hm hB) hN,hn,?_⟩
 have:=zB7 (agT_wide hm B) hN;omega
theorem zQC {m:Int} (hm:2<=m) {B:Nat} (hB:2<=B):∃ N,zU (agT m B) N:=by
 obtain⟨N,_,h⟩:=zB3 (s:=2) (by omega) (zHR hm hB)
 exact⟨N,h⟩
def piI (B N N2:Nat):Int × Int:=zI7 (kH (zN (agT 5 B) N) 16) (kH (zN (agT 239 B) N2) 4)
def piS (M:Nat):Rat:=16*agS 5 M-4*agS 239 M
theorem pi_has (B N N2:Nat):Iv B (piI B N N2) piS :=
 Has.of_eq (((zMO (m:=5) (by omega) B N).times 16).sub ((zMO (m:=239) (by omega) B N2).times 4)) λ M=>by
  show 16*agS 5 M-4*agS 239 M=((16:Nat):Rat)*agS 5 M-((4:Nat):Rat)*agS 239 M
  rfl
theorem pi_ge {M:Nat} (hM:2<=M):3<=piS M:=by
 obtain⟨i,rfl⟩:∃ i,M=2+i:=⟨M-2,by omega⟩
 have h5:=(zP8 (g:=agV 5) (N:=1) (b:=1/375) (by rw[show agV 5 1 = -(1/375) by decide +kernel];constructor<;>grind) (λ n c _ hc=>zHS (by omega) n hc) i).2
 have h9:=(zP8 (g:=agV 239) (N:=1) (b:=1/1000) (by (have e:AB (agV 239 1) (1/1000):=(by constructor<;>decide +kernel));exact e) (λ n c _ hc=>zHS (by omega) n hc) i).2
 have e5:S (agV 5) (1+1)=1/5-1/375:=by decide +kernel
 have e9:S (agV 239) (1+1)<=1/100:=by decide +kernel
 have p:=yC i;rw[e5] at h5;obtain⟨a1,a2⟩:=h5;obtain⟨b1,b2⟩:=h9
 show 3<=16*S (agV 5) (1+1+i)-4*S (agV 239) (1+1+i)
 grind
theorem pi_bound {B N N2:Nat} (hB:32<=B) (hN:zU (agT 5 B) N) (Z7:zU (agT 239 B) N2):(piI B N N2).1<=(piI B N N2).2/\Q B<=(piI B N N2).1/\(piI B N N2).2<=64*Q B/\(piI B N N2).2-(piI B N N2).1<=20*(B:Int)+120:=by
 obtain⟨a1,a2,a3,a4⟩:=zHT (m:=5) (by omega) (by omega) hN
 obtain⟨b1,b2,b3,b4⟩:=zHT (m:=239) (by omega) (by omega) Z7
 have hw:(piI B N N2).2-(piI B N N2).1<=20*(B:Int)+120:=by
  simp only[piI,zI7,kH];omega
 have hl:(piI B N N2).1<=(piI B N N2).2:=by simp only[piI,zI7,kH];omega
 have hh:(piI B N N2).2<=64*Q B:=by
  obtain⟨_,_,_,c4⟩:=a2;obtain⟨d1,_⟩:=b2;simp only[piI,zI7,kH];omega
 refine⟨hl,?_,hh,hw⟩;have q:=jH B
 have h2:2*Q B<=(piI B N N2).2:=by
  refine Int.not_lt.1 λ D5=>?_
  obtain⟨N0,hh⟩:=pi_has B N N2 (1/2) (by grind)
  have h3:=(hh (N0+2) (by omega)).2
  have h4:=pi_ge (M:=N0+2) (by omega)
  have h5:((piI B N N2).2:Rat)/(Q B:Rat)<=2:=jV q (by
   have:=zZ (show (piI B N N2).2<=2*Q B by omega)
   rw[YG] at this
   exact this)
  grind
 have hQ:20*(B:Int)+120<=Q B:=by
  have Kg:∀ k:Nat,20*((32+k:Nat):Int)+120<=Q (32+k):=λ k=>by
   induction k with
   | zero=>decide
   | succ k ih =>
    have e:Q (32+(k+1))=2*Q (32+k):=rfl;omega
  have:=Kg (B-32);rw[show 32+(B-32)=B by omega] at this
  exact this
 omega
end Go.Proofs.YtgmnknmjainabacGreat
