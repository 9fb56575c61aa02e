/-
  Its own texts.
-/
import Derived.Test.YtgmnknmjainabacGreatJ07
set_option maxRecDepth 100000
set_option maxHeartbeats 40000000
set_option linter.unnecessarySimpa false
set_option linter.unusedSimpArgs false
set_option linter.unusedVariables false
namespace Go.Proofs.YtgmnknmjainabacGreat
open Go.RowKit
attribute [local go_sem ↓] Go.wp_at_zero Go.wp_at_succ
theorem yN {w:World} {B B' o:Nat} {v:Option Value} (h:w.cell? ⟨B,o,none⟩=v) (hne:B≠B') (u0 u1:Value):((w.setCell ⟨B',0,none⟩ u0).setCell ⟨B',1,none⟩ u1).cell? ⟨B,o,none⟩=v:=by
 have ne:∀ i:Nat,(⟨B',i,none⟩:Addr)≠⟨B,o,none⟩:=λ i e=>hne (by injection e with e1;exact e1.symm)
 rw[World.cell?_setCell_other _ _ _ _ (ne 1),World.cell?_setCell_other _ _ _ _ (ne 0)];exact h
theorem zAC {w:World} {B B' o:Nat} {v:Option Value} (h:w.cell? ⟨B,o,none⟩=v) (hne:B≠B') (u0 u1 u2 u3 u4:Value) :
  (((((w.setCell ⟨B',0,none⟩ u0).setCell ⟨B',1,none⟩ u1).setCell ⟨B',2,none⟩ u2).setCell ⟨B',3,none⟩ u3).setCell ⟨B',4,none⟩ u4).cell? ⟨B,o,none⟩=v:=by
 have ne:∀ i:Nat,(⟨B',i,none⟩:Addr)≠⟨B,o,none⟩:=λ i e=>hne (by injection e with e1;exact e1.symm)
 rw[World.cell?_setCell_other _ _ _ _ (ne 4),World.cell?_setCell_other _ _ _ _ (ne 3),World.cell?_setCell_other _ _ _ _ (ne 2),World.cell?_setCell_other _ _ _ _ (ne 1),World.cell?_setCell_other _ _ _ _ (ne 0)];exact h
theorem SpC.put2 {w:World} {B B':Nat} {s:Sp} (h:SpC w B s) (hne:B≠B') (u0 u1:Value):SpC ((w.setCell ⟨B',0,none⟩ u0).setCell ⟨B',1,none⟩ u1) B s :=
 ⟨yN h.c0 hne _ _,yN h.c1 hne _ _,yN h.c2 hne _ _,yN h.c3 hne _ _,yN h.c4 hne _ _⟩
theorem NoC.put2 {w:World} {B B':Nat} (h:NoC w B) (hne:B≠B') (u0 u1:Value):NoC ((w.setCell ⟨B',0,none⟩ u0).setCell ⟨B',1,none⟩ u1) B:=by
 obtain⟨q0,q1,q2,q3,q4,q5⟩:=h;exact⟨yN q0 hne _ _,yN q1 hne _ _,yN q2 hne _ _,yN q3 hne _ _,yN q4 hne _ _,λ o=>by rw[zV,zV];exact q5 o⟩
theorem SpAt.put2 {w:World} {s:Sp} {k:Nat} {lo hi:Int} (h:SpAt w s k lo hi) {B:Nat} {x0:Bool} {y0:Option Addr} {y1 y2:Nat} (h0:w.cell? ⟨B,0,none⟩=some (.bool x0)) (h1:w.cell? ⟨B,1,none⟩=some (.slice y0 y1 y2)) (u0 u1:Value) :
  SpAt ((w.setCell ⟨B,0,none⟩ u0).setCell ⟨B,1,none⟩ u1) s k lo hi:=⟨h.lo.put2 h0 h1 _ _,h.hi.put2 h0 h1 _ _⟩
theorem zMS (x y:Int):decide (zP x y<0)=decide (x<y):=by unfold zP;split<;>(try split)<;>simp<;>omega
theorem zEY (w:World) (s:Sp) (k b:Nat) (lo hi:Int) (hs:SpAt w s k lo hi) (hk:k<=30000000) (hb:b<=1000000) (hbits:s.bits=b) :
  Calls Tryz.prog 197 #[.agg s.q] w (zL w b (b/16+k+20) (rtZ (lo*Q b)) (rtU (hi*Q b))):=by
 have aY:=zC hbits;clear hbits;obtain⟨W,hW⟩:∃ W,W=(w.alloc (.cells s.q 31)).alloc (.cells zCq 31):=⟨_,rfl⟩;have j6:Below w.heap.size w W:=by rw[hW];exact bl2 _ _ _
 have A:SpC W w.heap.size s:=by rw[hW];constructor<;>simp[go_sem]
 have R:NoC W (w.heap.size+1):=by rw[hW];constructor<;>simp[go_sem]
 replace hs:=hs.bw j6
 go_enter Tryz.func197,Tryz.ntmps197
 go_wp2_with fail;rw[<- hW];clear hW;rw[zA aY];refine (zB2 _ _ _ _ b k hi _ hs.hi (by omega) (by omega)).mono ?_
 rintro r w1 ⟨o7,a1,n1,c1,rfl,s9,b9⟩;replace j6:=zB j6 b9;replace A:=A.bw b9;replace R:=R.bw b9;replace hs:=hs.bw b9;clear b9;obtain⟨x1,cn⟩:∃ x:Nm,x=⟨o7,a1,n1,c1⟩:=⟨_,rfl⟩;obtain⟨W1,Df⟩:∃ W',W'=w1.alloc (.cells #[.bool o7,.slice a1 n1 c1] 29):=⟨_,rfl⟩;have o8:Below w1.heap.size w1 W1:=by rw[Df];exact bl1 _ _
 have X1:NmC W1 w1.heap.size ⟨o7,a1,n1,c1⟩:=by rw[Df];exact zFW w1 ⟨o7,a1,n1,c1⟩ _
 have Bw:w1.heap.size≠w.heap.size+1:=Nat.ne_of_gt R.lt;obtain⟨u0,u1⟩:=X1;have X1:NmC W1 w1.heap.size ⟨o7,a1,n1,c1⟩:=⟨u0,u1⟩;have OB:=X1.lt;go_wp2_with fail;rw[<- Df];clear Df u0 u1 OB cn x1;replace j6:=zB j6 o8;replace A:=A.bw o8;replace R:=R.bw o8;replace hs:=hs.bw o8;replace s9:=s9.bw o8;clear o8;refine (zRK _ _ _ _ _ (hi*Q b) _ s9 (by omega)).mono ?_
 rintro r w2 ⟨j7,a2,n2,c2,rfl,A8,j5⟩;replace j6:=zB j6 j5;replace A:=A.bw j5;replace R:=R.bw j5;replace hs:=hs.bw j5;replace s9:=s9.bw j5;replace X1:=X1.bw j5;clear j5;obtain⟨W2,kt⟩:∃ W',W'=w2.alloc (.cells #[.bool j7,.slice a2 n2 c2] 29):=⟨_,rfl⟩;have o9:Below w2.heap.size w2 W2:=by rw[kt];exact bl1 _ _
 have X2:NmC W2 w2.heap.size ⟨j7,a2,n2,c2⟩:=by rw[kt];exact zFW w2 ⟨j7,a2,n2,c2⟩ _
 have F2:∀ o,W2.frozen? ⟨w2.heap.size,o,none⟩=false:=by intro o;rw[kt];simp[go_sem]
 have n12:w1.heap.size≠w2.heap.size:=Yo X1.lt;have oV:w2.heap.size≠w.heap.size+1:=Nat.ne_of_gt R.lt;have Bx:w.heap.size+1≠w2.heap.size:=Yo R.lt;have nAR:w.heap.size≠w.heap.size+1:=Yo (Nat.lt_succ_self _);have nA:w.heap.size≠w2.heap.size:=Yo A.lt;have hwB:w.heap.size<=w2.heap.size:=Nat.le_of_lt A.lt;replace j6:=zB j6 o9;replace A:=A.bw o9;replace R:=R.bw o9;replace hs:=hs.bw o9;replace s9:=zC (s9.bw o9);replace A8:=zC (A8.bw o9);replace X1:=X1.bw o9;clear o9;go_wp2_with fail;rw[<- kt];clear kt;have En:=zC (show ∀ w',Below W2.heap.size W2 w'->(nK w' w1.heap.size (Nm.mk o7 a1 n1 c1) (nK0 w' w2.heap.size (Nm.mk j7 a2 n2 c2))) from λ w' hB=>⟨(X1.bw hB).c0,(X1.bw hB).c1,(X2.bw hB).c0,(X2.bw hB).c1⟩)
 have l1:=X1.lt;have l2:=X2.lt;obtain⟨v0,v1,v2,v3⟩:=zA En _ (Below.refl _ _);go_wp2_with fail
 go_cut [17] (λ p wx=>p=.bool (decide (rtZ (hi*Q b)*rtZ (hi*Q b)<(hi*Q b)))/\Below W2.heap.size W2 wx)
 case first =>
  go_region_held3 (λ w'=>nK w' w1.heap.size (Nm.mk o7 a1 n1 c1) (nK0 w' w2.heap.size (Nm.mk j7 a2 n2 c2))) (exact zA En _ (by (repeat' (first|with_reducible exact H6|with_reducible exact D6|with_reducible exact Below.refl _ _|with_reducible refine Below.drew ?_|with_reducible refine zO ?_ _))<;>fail))
   (first
    | (go_at_call 17;have hq:=D6;refine (yS _ _ _ _ _ _ _ _ _ _ (rtZ (hi*Q b)*rtZ (hi*Q b)) (hi*Q b) _ (E8.bw (by (repeat' (first|with_reducible exact Below.refl _ _|with_reducible refine Below.drew ?_|with_reducible refine zO ?_ _))<;>fail)) ((zA s9).bw (by (repeat' (first|with_reducible exact D6|with_reducible exact Below.refl _ _|with_reducible refine Below.drew ?_|with_reducible refine zO ?_ _))<;>fail))).mono ?_;rintro r w4 ⟨rfl,A5⟩;have H6:=zB D6 A5)
    | (go_at_call 83;refine (jA _ _ _ _ _ _ _ _ _ _ (rtZ (hi*Q b)) (rtZ (hi*Q b)) _ ((zA A8).bw (by (repeat' (first|with_reducible exact Below.refl _ _|with_reducible refine Below.drew ?_|with_reducible refine zO ?_ _))<;>fail)) ((zA A8).bw (by (repeat' (first|with_reducible exact Below.refl _ _|with_reducible refine Below.drew ?_|with_reducible refine zO ?_ _))<;>fail)) (by omega) (by omega)).mono ?_;rintro r w3 ⟨C7,a3,n3,c3,rfl,E8,m8⟩;have D6:Below W2.heap.size W2 w3:=zB (by (repeat' (first|with_reducible exact Below.refl _ _|with_reducible refine Below.drew ?_|with_reducible refine zO ?_ _))<;>fail) m8))
  all_goals
   go_wp2_with fail;go_meet;refine⟨?_,(by (repeat' (first|with_reducible exact H6|with_reducible exact Below.refl _ _|with_reducible refine Below.drew ?_|with_reducible refine zO ?_ _))<;>fail)⟩
   congr 1
   exact zMS _ _
 case rest =>
 obtain⟨rfl,C8⟩:=hcut;replace A:=A.bw C8;replace R:=R.bw C8;replace hs:=hs.bw C8;replace F2:∀ o,wc.frozen? ⟨w2.heap.size,o,none⟩=false:=λ o=>(C8.frozen (p:=⟨w2.heap.size,o,none⟩) X2.lt).trans (F2 o)
 replace X2:=X2.bw C8;replace A8:=zC ((zA A8).bw C8);replace j6:=zB j6 C8;clear s9 X1 C8;clear v0 v1 v2 v3 En l1 l2
 go_upto_if 17 with fail
 go_cut [18] (λ _ wx=>∃ x:Nm,NmC wx w2.heap.size x/\IntAt wx x.neg x.a x.n x.cap (b/16+k+20) (rtU (hi*Q b))/\SpC wx w.heap.size s/\NoC wx (w.heap.size+1)/\SpAt wx s k lo hi/\Below w.heap.size w wx)
 case first =>
  have l2:=X2.lt;have nt:=zC X2;obtain⟨v2,v3⟩:=X2
  by_cases E2:rtZ (hi*Q b)*rtZ (hi*Q b)<(hi*Q b)
  ·have hd:decide (rtZ (hi*Q b)*rtZ (hi*Q b)<(hi*Q b))=true:=decide_eq_true E2
   have HU:=zC (show rtU (hi*Q b)=rtZ (hi*Q b)+1 by unfold rtU;rw[if_pos E2])
   clear E2;rw[hd];go_wp2_with fail
   go_region_with
    (first
     | (go_at_call 32;have hq:=E4;refine (zBN _ _ _ _ _ _ _ _ _ 4 (rtZ (hi*Q b)) 1 _ ((zA A8).bw W6) T8 (by omega) (by omega)).mono ?_;rintro r w6 ⟨fK,a6,n6,c6,rfl,iB,R7⟩;have kn:=zB W6 R7;have F6:∀ o,w6.frozen? ⟨w2.heap.size,o,none⟩=false:=(λ o=>(kn.frozen (p:=⟨w2.heap.size,o,none⟩) l2).trans (F2 o));have l6:=Yn l2 kn.size;obtain⟨v7,v8⟩:=(zA nt).bw kn)
     | (go_at_call 33;refine (zE 1 _ (by decide) (by decide)).mono ?_;rintro r w5 ⟨L8,a5,n5,c5,rfl,T8,E4⟩;have W6:Below wc.heap.size wc w5:=zB (by (repeat' (first|with_reducible exact Below.refl _ _|with_reducible refine Below.drew ?_|with_reducible refine zO ?_ _))<;>fail) E4;have l5:=W6.size;obtain⟨v5,v6⟩:=(zA nt).bw W6))
   all_goals
    go_wp2_with fail;go_meet;rw[zA HU];exact⟨⟨fK,a6,n6,c6⟩,⟨by simp[go_sem,v7,v8],by simp[go_sem,v7,v8]⟩,(iB.put2 v7 v8 _ _).mono (by omega),(A.bw kn).put2 nA _ _,(R.bw kn).put2 Bx _ _,(hs.bw kn).put2 v7 v8 _ _,zFZ (zB j6 kn) hwB _ _⟩
  ·have hd:decide (rtZ (hi*Q b)*rtZ (hi*Q b)<(hi*Q b))=false:=decide_eq_false E2
   have HU:=zC (show rtU (hi*Q b)=rtZ (hi*Q b) by unfold rtU;rw[if_neg E2])
   clear E2;rw[hd];go_wp2_with fail;go_meet;rw[zA HU];exact⟨⟨j7,a2,n2,c2⟩,⟨v2,v3⟩,(zA A8).mono (by omega),A,R,hs,j6⟩
 case rest =>
 obtain⟨x,X2,hint,A,R,hs,j6⟩:=hcut;clear F2 A8;have Eo:=zC (show ∀ w',Below wc.heap.size wc w'->(w'.cell? ⟨w.heap.size,0,none⟩=some (.bool s.ln)/\w'.cell? ⟨w.heap.size,1,none⟩=some (.slice s.la s.lN s.lc)/\w'.cell? ⟨w.heap.size,2,none⟩=some (.bool s.hn)/\w'.cell? ⟨w.heap.size,3,none⟩=some (.slice s.ha s.hN s.hc)/\w'.cell? ⟨w.heap.size,4,none⟩=some (.int .i64 (b:Int))/\nK0 w' w2.heap.size x) from λ w' hB=>⟨(A.bw hB).c0,(A.bw hB).c1,(A.bw hB).c2,(A.bw hB).c3,by rw[<- zA aY];exact (A.bw hB).c4,(X2.bw hB).c0,(X2.bw hB).c1⟩)
 have Ep:=zC (show ∀ w' u0 u1 u2 u3 u4,Below wc.heap.size wc w'->((((((w'.setCell ⟨w.heap.size+1,0,none⟩ u0).setCell ⟨w.heap.size+1,1,none⟩ u1).setCell ⟨w.heap.size+1,2,none⟩ u2).setCell ⟨w.heap.size+1,3,none⟩ u3).setCell ⟨w.heap.size+1,4,none⟩ u4).cell? ⟨w.heap.size,0,none⟩=some (.bool s.ln)/\(((((w'.setCell ⟨w.heap.size+1,0,none⟩ u0).setCell ⟨w.heap.size+1,1,none⟩ u1).setCell ⟨w.heap.size+1,2,none⟩ u2).setCell ⟨w.heap.size+1,3,none⟩ u3).setCell ⟨w.heap.size+1,4,none⟩ u4).cell? ⟨w.heap.size,1,none⟩=some (.slice s.la s.lN s.lc)/\(((((w'.setCell ⟨w.heap.size+1,0,none⟩ u0).setCell ⟨w.heap.size+1,1,none⟩ u1).setCell ⟨w.heap.size+1,2,none⟩ u2).setCell ⟨w.heap.size+1,3,none⟩ u3).setCell ⟨w.heap.size+1,4,none⟩ u4).cell? ⟨w.heap.size,2,none⟩=some (.bool s.hn)/\(((((w'.setCell ⟨w.heap.size+1,0,none⟩ u0).setCell ⟨w.heap.size+1,1,none⟩ u1).setCell ⟨w.heap.size+1,2,none⟩ u2).setCell ⟨w.heap.size+1,3,none⟩ u3).setCell ⟨w.heap.size+1,4,none⟩ u4).cell? ⟨w.heap.size,3,none⟩=some (.slice s.ha s.hN s.hc)/\(((((w'.setCell ⟨w.heap.size+1,0,none⟩ u0).setCell ⟨w.heap.size+1,1,none⟩ u1).setCell ⟨w.heap.size+1,2,none⟩ u2).setCell ⟨w.heap.size+1,3,none⟩ u3).setCell ⟨w.heap.size+1,4,none⟩ u4).cell? ⟨w.heap.size,4,none⟩=some (.int .i64 (b:Int))/\(((((w'.setCell ⟨w.heap.size+1,0,none⟩ u0).setCell ⟨w.heap.size+1,1,none⟩ u1).setCell ⟨w.heap.size+1,2,none⟩ u2).setCell ⟨w.heap.size+1,3,none⟩ u3).setCell ⟨w.heap.size+1,4,none⟩ u4).cell? ⟨w2.heap.size,0,none⟩=some (.bool x.neg)/\(((((w'.setCell ⟨w.heap.size+1,0,none⟩ u0).setCell ⟨w.heap.size+1,1,none⟩ u1).setCell ⟨w.heap.size+1,2,none⟩ u2).setCell ⟨w.heap.size+1,3,none⟩ u3).setCell ⟨w.heap.size+1,4,none⟩ u4).cell? ⟨w2.heap.size,1,none⟩=some (.slice x.a x.n x.cap)) from λ w' u0 u1 u2 u3 u4 hB=>⟨zAC (A.bw hB).c0 nAR _ _ _ _ _,zAC (A.bw hB).c1 nAR _ _ _ _ _,zAC (A.bw hB).c2 nAR _ _ _ _ _,zAC (A.bw hB).c3 nAR _ _ _ _ _,zAC (by rw[<- zA aY];exact (A.bw hB).c4) nAR _ _ _ _ _,zAC (X2.bw hB).c0 oV _ _ _ _ _,zAC (X2.bw hB).c1 oV _ _ _ _ _⟩)
 have lA:=A.lt;have lX:=X2.lt;have lR:=R.lt;replace hint:=zC hint;replace hs:=zC hs;obtain⟨x0,x1,x2,x3,x4,v2,v3⟩:=zA Eo _ (Below.refl _ _);go_wp2_with fail
 go_region_held3 (λ w'=>w'.cell? ⟨w.heap.size,0,none⟩=some (.bool s.ln)/\w'.cell? ⟨w.heap.size,1,none⟩=some (.slice s.la s.lN s.lc)/\w'.cell? ⟨w.heap.size,2,none⟩=some (.bool s.hn)/\w'.cell? ⟨w.heap.size,3,none⟩=some (.slice s.ha s.hN s.hc)/\w'.cell? ⟨w.heap.size,4,none⟩=some (.int .i64 (b:Int))/\nK0 w' w2.heap.size x) (first|exact zA Eo _ (by with_reducible first|exact vZ|exact FA|exact (Below.refl _ _).drew|exact Below.refl _ _)|exact zA Ep _ _ _ _ _ _ vZ)
  (first
   | (go_at_call 206;have hq:=FA;refine (zRK _ _ _ _ _ (lo*Q b) _ Di (by omega)).mono ?_;rintro r w8 ⟨BA,a8,n8,c8,rfl,Vb,bC⟩;have vZ:=zB FA bC;have R8:=R.bw vZ;have l8:=R8.lt;obtain⟨q0,q1,q2,q3,q4,q5⟩:=R8;obtain⟨y0,y1,y2,y3,y4,y5,y6⟩:=zA Eo _ vZ)
   | (go_at_call 116;refine (zB2 _ _ _ _ b k lo _ ((zA hs).lo.bw (by (repeat' (first|with_reducible exact Below.refl _ _|with_reducible refine Below.drew ?_|with_reducible refine zO ?_ _))<;>fail)) (by omega) (by omega)).mono ?_;rintro r w7 ⟨Il,a7,n7,c7,rfl,Di,bA⟩;have FA:Below wc.heap.size wc w7:=zB (by (repeat' (first|with_reducible exact Below.refl _ _|with_reducible refine Below.drew ?_|with_reducible refine zO ?_ _))<;>fail) bA))
 all_goals
  go_wp2_with fail;refine bodyPost_ret (v:=.agg #[.bool BA,.slice a8 n8 c8,.bool x.neg,.slice x.a x.n x.cap,.int .i64 b]) (by simp[results,Tryz.results197,go_sem,l8,q0,q1,q2,q3,q4]) rfl ⟨⟨BA,a8,n8,c8,x.neg,x.a,x.n,x.cap,b⟩,rfl,rfl,?_,?_⟩
  ·exact SpAt.put5 ⟨Vb.mono (by omega),(zA hint).bw vZ⟩ q0 q1 q2 q3 q4 _ _ _ _ _
  ·exact kM (zB j6 vZ) (by omega) _ _ _ _ _
def ovLo (l h p q:Int):Int:=if l<0 then l/p else l/q
def ovHi (l h p q:Int):Int:=if h<0 then -(-h/q) else -(-h/p)
variable {w wr w' : World} {s t : Sp} {k k1 k2 BL CL BM CM : Nat} {xL yL xM yM : Nm} {lo' hi' l h m n : Int}
def zEC (lo hi lo' hi':Int) (b:Nat):Int:=if hi'<0 then ovLo (-hi*Q b) (-lo*Q b) (-hi') (-lo') else ovLo (lo*Q b) (hi*Q b) lo' hi'
def zF6 (lo hi lo' hi':Int) (b:Nat):Int:=if hi'<0 then ovHi (-hi*Q b) (-lo*Q b) (-hi') (-lo') else ovHi (lo*Q b) (hi*Q b) lo' hi'
open Ex
def ch:Nat->Nat->Nat
 | _,0=>1
 | 0,_+1=>0
 | n+1,k+1=>ch n k+ch n (k+1)
theorem zDI (n:Nat):ch n 0=1:=by cases n<;>rfl
theorem zCP (n k:Nat):ch (n+1) (k+1)=ch n k+ch n (k+1):=rfl
theorem zKZ {n k : Nat} (h : n < k) : ch n k = 0 := by
  induction n generalizing k with
  | zero => obtain ⟨j, rfl⟩ : ∃ j, k = j + 1 := ⟨k - 1, by omega⟩
            rfl
  | succ n ih =>
    obtain ⟨j, rfl⟩ : ∃ j, k = j + 1 := ⟨k - 1, by omega⟩
    rw [zCP, ih (by omega), ih (by omega)]
theorem ch_up (n k:Nat):(k+1)*ch (n+1) (k+1)=(n+1)*ch n k:=by
 induction n generalizing k with
 | zero =>
  rw[zCP]
  cases k with
  | zero=>rfl
  | succ k=>rw[zKZ (show 0<k+1 by omega),zKZ (show 0<k+1+1 by omega)];omega
 | succ n ih =>
  cases k with
  | zero =>
   have h:=ih 0;rw[zDI] at h;rw[zCP (n+1) 0,zDI];omega
  | succ k =>
   have h1:=ih k;have h2:=ih (k+1);have e:=zCP n k;rw[zCP (n+1) (k+1)];generalize ch (n+1) (k+1)=X at *;generalize ch (n+1) (k+1+1)=Y at *;generalize ch n k=u at *;generalize ch n (k+1)=v at *;subst e;grind
theorem wayF_ch (b:Int) (o i:Nat):wayF b (o:Int) i=b*(ch (o+i) i:Int):=by
 induction i with
 | zero=>rw[zDI];show b=b*1;omega
 | succ i ih =>
  have h:=ch_up (o+i) i;have e:wayF b (o:Int) (i+1)=wayF b (o:Int) i*((o:Int)+((i:Int)+1))/((i:Int)+1):=rfl;rw[e,ih];have h2:(((i+1)*ch (o+i+1) (i+1):Nat):Int)=(((o+i+1)*ch (o+i) i:Nat):Int):=by rw[h]
  rw[Int.natCast_mul,Int.natCast_mul] at h2;rw[show o+(i+1)=o+i+1 by omega]
  have e2:b*(ch (o+i) i:Int)*((o:Int)+((i:Int)+1))=b*(ch (o+i+1) (i+1):Int)*((i:Int)+1):=by
   have c1:((i+1:Nat):Int)=(i:Int)+1:=rfl;have c2:((o+i+1:Nat):Int)=(o:Int)+(i:Int)+1:=rfl;rw[c1,c2] at h2;grind
  rw[e2,Int.mul_ediv_cancel _ (by omega)]
def zDE:Nat->Int
 | 0=>1
 | k+1=>zDE k*((k:Int)+1)
theorem zE5 (k:Nat):0<zDE k:=by
 induction k with
 | zero=>show (0:Int)<1;omega
 | succ k ih=>exact Int.mul_pos ih (by omega)
theorem ch_le (p q A:Nat):∀ n,n<=A->ch A n*p ^ n*q ^ (A-n)<=(p+q) ^ A:=by
 induction A with
 | zero =>
  intro n hn
  have:n=0:=by omega
  subst this;exact Yj _
 | succ A ih =>
  intro n hn
  cases n with
  | zero =>
   rw[zDI,Nat.one_mul,Nat.pow_zero,Nat.one_mul];exact Nat.pow_le_pow_left (by omega) _
  | succ n =>
   have i1:=ih n (by omega)
   rw[zCP,show A+1-(n+1)=A-n by omega,Nat.pow_succ (m:=A)]
   have e1:(ch A n+ch A (n+1))*p ^ (n+1)*q ^ (A-n)=ch A n*p ^ n*q ^ (A-n)*p+ch A (n+1)*p ^ (n+1)*q ^ (A-n):=by
    rw[Nat.pow_succ];grind
   rw[e1,Nat.mul_add];refine Nat.add_le_add (Nat.mul_le_mul_right p i1) ?_
   by_cases hA:n+1<=A
   ·have i2:=ih (n+1) hA
    have e2:q ^ (A-n)=q ^ (A-(n+1))*q:=by rw[<- Nat.pow_succ];congr 1;omega
    rw[e2,<- Nat.mul_assoc];exact Nat.mul_le_mul_right q i2
   ·rw[zKZ (show A<n+1 by omega),Nat.zero_mul,Nat.zero_mul];exact Nat.zero_le _
namespace Ex
theorem lin_le {L y c d a t:Rat} (h1:L*c<=a) (h2:L*d<=a) (g1:c-t<=y) (g2:y<=d+t) (k:Rat) (k1:L<=k) (k2 : -L<=k) (ht:0<=t):L*y<=a+k*t:=by
 by_cases hL:0<=L
 ·have:=Ye hL (show 0<=d+t-y by grind)
  have:=Ye (show 0<=k-L by grind) ht
  grind
 ·have:=Ye (show 0 <= -L by grind) (show 0<=y-(c-t) by grind)
  have:=Ye (show 0<=k+L by grind) ht
  grind
theorem Has.div {a b c d L U:Rat} {x y:Nat->Rat} (h:Has a b x) (k:Has c d y) (hc:0<c) (h1:L*c<=a) (h2:L*d<=a) (h3:b<=U*c) (h4:b<=U*d):Has L U (λ M=>x M/y M):=λ e he=>by
 obtain⟨m,m0,m1,m2,m3,m4⟩:∃ m:Rat,0<m/\L<=m /\ -L<=m/\U<=m /\ -U<=m:=by
  refine⟨1+(if 0<=L then L else -L)+(if 0<=U then U else -U),?_,?_,?_,?_,?_⟩<;>split<;>split<;>grind
 have m5:(0:Rat)<2*(1+m):=by grind
 have Vq:0<e*c:=Rat.mul_pos he hc
 obtain⟨t,t0,t1,t2⟩:∃ t:Rat,0<t/\2*t<=c/\t*(2*(1+m))<=e*c:=by
  have f:=rdm (a:=e*c) m5;have f0:=zH Vq m5
  by_cases hh:e*c/(2*(1+m))<=c/2
  ·exact⟨e*c/(2*(1+m)),f0,by grind,by grind⟩
  ·refine⟨c/2,by grind,by grind,?_⟩
   have:=Ye (show 0<=e*c/(2*(1+m))-c/2 by grind) (show 0<=2*(1+m) by grind)
   grind
 obtain⟨N1,g1⟩:=h t t0;obtain⟨N2,g2⟩:=k t t0;refine⟨N1+N2,λ M hM=>?_⟩
 obtain⟨p1,p2⟩:=g1 M (by omega)
 obtain⟨q1,q2⟩:=g2 M (by omega)
 have y0:0<y M:=by grind
 have ey:e*c<=2*(e*y M):=by
  have:=Ye (Yh he) (show 0<=2*y M-c by grind)
  grind
 constructor
 ·refine jY y0 ?_
  have:=lin_le h1 h2 q1 q2 m m1 m2 (Yh t0);grind
 ·refine jX y0 ?_
  have:=lin_le (L := -U) (a := -b) (by grind) (by grind) q1 q2 m (by grind) (by grind) (Yh t0)
  grind
end Ex
theorem Iv.div {B:Nat} {s t:Int × Int} {x y:Nat->Rat} (h:Iv B s x) (k:Iv B t y) (h0:0<t.1) {lo hi:Int} (h1:lo*t.1<=s.1*Q B) (h2:lo*t.2<=s.1*Q B) (h3:s.2*Q B<=hi*t.1) (h4:s.2*Q B<=hi*t.2):Iv B (lo,hi) (λ M=>x M/y M):=by
 have q:=jJ B;have t0:(0:Rat)<(t.1:Rat):=by exact_mod_cast h0
 have key:∀ {u v z:Int},u*v<=z*Q B->(u:Rat)/(Q B:Rat)*((v:Rat)/(Q B:Rat))<=(z:Rat)/(Q B:Rat):=λ {u v z} hh=>zIP (by have:=zF B;omega) hh
 have Bh:∀ {u v z:Int},z*Q B<=u*v->(z:Rat)/(Q B:Rat)<=(u:Rat)/(Q B:Rat)*((v:Rat)/(Q B:Rat)):=λ {u v z} hh=>zIR (by have:=zF B;omega) hh
 exact Has.div h k (zH t0 q) (key h1) (key h2) (Bh h3) (Bh h4)
theorem zK3 {lo hi lo' hi':Int} {b:Nat} (h0:0<=lo) (h1:lo<=hi) (h2:0<lo') (h3:lo'<=hi'):zEC lo hi lo' hi' b=lo*Q b/hi'/\zF6 lo hi lo' hi' b = -(-(hi*Q b)/lo'):=by
 have q:=zF b;have p1:=Yl h0 (show 0<=Q b by omega)
 have p2:=Yl (show 0<=hi by omega) (show 0<=Q b by omega)
 unfold zEC zF6 ovLo ovHi;rw[if_neg (by omega),if_neg (by omega),if_neg (by omega),if_neg (by omega)]
 exact⟨rfl,rfl⟩
theorem zED (a:Int) {d:Int} (hd:0<d):a <= -(-a/d)*d:=by
 have:=Int.ediv_mul_le (-a) (show d≠0 by omega)
 rw[Int.neg_mul];omega
theorem dv_floor (a:Int) {d:Int} (hd:0<d):a/d*d<=a:=Int.ediv_mul_le a (by omega)
theorem Iv.dv {B:Nat} {s t:Int × Int} {x y:Nat->Rat} (h:Iv B s x) (k:Iv B t y) (hs:0<=s.1) (h0:0<t.1):Iv B (zEC s.1 s.2 t.1 t.2 B,zF6 s.1 s.2 t.1 t.2 B) (λ M=>x M/y M):=by
 have ag:=h.le;have fe:=k.le;have q:=zF B;obtain⟨e1,e2⟩:=zK3 (b:=B) hs ag h0 fe;rw[e1,e2];have p1:=Yl hs (show 0<=Q B by omega)
 have l0:0<=s.1*Q B/t.2:=Int.ediv_nonneg p1 (by omega)
 have f1:=dv_floor (s.1*Q B) (show 0<t.2 by omega)
 have f2:=zED (s.2*Q B) h0;have p2:=Yl (show 0<=s.2 by omega) (show 0<=Q B by omega)
 have u0:0 <= -(-(s.2*Q B)/t.1):=by
  have : -(s.2*Q B)/t.1<=0:=Int.ediv_nonpos_of_nonpos_of_neg (by omega) h0
  omega
 have g1:=Yi fe l0;have g2:=Yi fe u0;exact h.div k h0 (by omega) f1 f2 (by omega)
open Ex
theorem zFV {B:Nat} {a b:Int × Int} (ha:0<=a.1) (Ny:0<=a.2) (hb:0<=b.1) (j5:0<=b.2):0<=(yZ B a b).1:=by
 have q:=zF B;obtain⟨_,_,_,_,h⟩:=zDX (a.1*b.1) (a.1*b.2) (a.2*b.1) (a.2*b.2);have p1:=Yl ha hb;have p2:=Yl ha j5;have p3:=Yl Ny hb;have p4:=Yl Ny j5;exact Int.ediv_nonneg (by omega) (by omega)
theorem zJW {B:Nat} {sm:Int × Int} (h:0<=sm.1) (h2:sm.1<=sm.2) (n:Nat):0<=(zW B sm n).1:=by
 induction n with
 | zero=>have:=zF B;show 0<=Q B;omega
 | succ n ih =>
  have hl:=yX B sm n;have h3:=zFV (B:=B) (a:=zW B sm n) (b:=sm) ih (by omega) h (by omega)
  show 0<=(zJ (yZ B (zW B sm n) sm) 1 ((n:Int)+1)).1
  unfold zJ;exact Int.ediv_nonneg (by omega) (by omega)
theorem sumI_low {B:Nat} {sm:Int × Int} (h:0<=sm.1) (h2:sm.1<=sm.2) (n:Nat):Q B<=(jH (zW B sm) n).1:=by
 induction n with
 | zero=>exact Int.le_refl _
 | succ n ih =>
  have:=zJW (B:=B) h h2 (n+1)
  show Q B<=(zBT (jH (zW B sm) n) (zW B sm (n+1))).1
  unfold zBT;simp only[];omega
theorem zK1 {B N:Nat} {sm:Int × Int} (h:0<=sm.1) (h2:sm.1<=sm.2) (hN:zT (zW B sm) N):Q B-1<=(zM (zW B sm) N).1:=by
 have h3:=sumI_low (B:=B) h h2 N;have h4:=hN.1;unfold zM zBT;simp only[];omega
theorem zL9 {B:Nat} {d:Int × Int} (hd:d.1<=d.2) (t:Nat) (hq:Q t<=Q B) (h:Q B-1<=d.1):Q B-Q t<=(sqI B d t).1/\(sqI B d t).1<=(sqI B d t).2:=by
 have q:=zF B
 induction t with
 | zero=>exact⟨h,hd⟩
 | succ t ih =>
  have e:Q (t+1)=2*Q t:=rfl;have qt:=zF t;obtain⟨i1,i2⟩:=ih (by omega)
  refine⟨?_,zBO B⟩
  show Q B-Q (t+1)<=(yZ B (sqI B d t) (sqI B d t)).1
  generalize sqI B d t=a at *;obtain⟨_,_,_,_,hh⟩:=zDX (a.1*a.1) (a.1*a.2) (a.2*a.1) (a.2*a.2);have c0:0<=a.1:=by omega
  have m1:=Yi i2 c0;have m2:=Yg i2 c0;have m3:=Int.mul_le_mul i2 i2 c0 (by omega)
  have m4:=Int.mul_le_mul i1 i1 (by omega) c0
  have e2:(Q B-Q t)*(Q B-Q t)=(Q B-2*Q t)*Q B+Q t*Q t:=by grind
  have m5:=Yl (show 0<=Q t by omega) (show 0<=Q t by omega)
  have m6:(Q B-Q (t+1))*Q B<=kI (pr4 (a.1*a.1) (a.1*a.2) (a.2*a.1) (a.2*a.2)) 3:=by rw[e];omega
  exact Int.le_ediv_of_mul_le (by omega) m6
theorem zPI {B N t:Nat} {a:Int × Int} (ha:0<=a.1) (hl:a.1<=a.2) (ht:t<=17) (hB:40<=B) (hN:zT (zW B (zG a t)) N):Q B+1<=2*(sqI B (zM (zW B (zG a t)) N) t).1:=by
 have q:=zF t;have hs:0<=(zG a t).1:=Int.ediv_nonneg ha (by omega)
 have W3:(zG a t).1<=(zG a t).2:=by
  have:=kK (a:=a) (n:=1) (d:=Q t) hl (by omega) (by omega)
  simpa [zJ,zG] using this
 have h1:=zK1 hs W3 hN;have h2:=zL9 (B:=B) (zB7 (yX B (zG a t)) N) t (zK (by omega)) h1
 have h3:=zK (show t<=17 by omega)
 have h4:=zK (show 40<=B by omega)
 have e1:Q 17=131072:=rfl;have e2:Q 40=1099511627776:=rfl;omega
theorem zGM (B:Nat):Iv B (Q B,Q B) (λ _=>1):=by
 have h:=(Iv.of B (n:=1) (d:=1) (by decide))
 have e:ofI 1 1 B=(Q B,Q B):=by unfold ofI;simp only[Int.ediv_one,Int.neg_neg,Int.one_mul]
 rw[e] at h;have e2:((1:Int):Rat)/((1:Int):Rat)=1:=by decide +kernel
 rw[e2] at h;exact h
namespace Ex
theorem E_term {x:Rat} (hx:0<=x) (n:Nat):∀ M,n<M->tm x n<=E x M/\0<E x M:=by
 intro M hM
 obtain⟨j,rfl⟩:∃ j,M=n+1+j:=⟨M-(n+1),by omega⟩
 have nn:∀ m,0<=E x m:=λ m=>by
  induction m with
  | zero=>exact Rat.le_refl
  | succ m ih =>
   have e:E x (m+1)=E x m+tm x m:=rfl;have:=zAR hx m;rw[e];grind
 have one:∀ m,1<=E x (m+1):=λ m=>by
  induction m with
  | zero =>
   have e:E x (0+1)=E x 0+tm x 0:=rfl;have e0:E x 0=0:=rfl;have e1:tm x 0=1:=rfl;rw[e,e0,e1];decide +kernel
  | succ m ih =>
   have e:E x (m+1+1)=E x (m+1)+tm x (m+1):=rfl;have:=zAR hx (m+1);rw[e];grind
 constructor
 ·induction j with
  | zero =>
   have e:E x (n+1+0)=E x n+tm x n:=rfl;have:=nn n;rw[e];grind
  | succ j ih =>
   have e:E x (n+1+(j+1))=E x (n+1+j)+tm x (n+1+j):=rfl;have:=zAR hx (n+1+j);have:=ih (by omega)
   rw[e];grind
 ·have:=one (n+j)
  rw[show n+1+j=n+j+1 by omega];grind
end Ex
theorem tm_frac {p q:Int} (hq:0<q) (n:Nat):tm ((p:Rat)/(q:Rat)) n=((p ^ n:Int):Rat)/((q ^ n*zDE n:Int):Rat):=by
 have q0:(0:Rat)<(q:Rat):=by exact_mod_cast hq
 induction n with
 | zero =>
  have e:tm ((p:Rat)/(q:Rat)) 0=1:=rfl;have e2:zDE 0=1:=rfl;rw[e,e2,Int.pow_zero,Int.pow_zero];decide +kernel
 | succ n ih =>
  have e:tm ((p:Rat)/(q:Rat)) (n+1)=tm ((p:Rat)/(q:Rat)) n*((p:Rat)/(q:Rat))/((n:Rat)+1):=rfl;have e2:zDE (n+1)=zDE n*((n:Int)+1):=rfl;have k1:(0:Int)<q ^ n*zDE n:=Int.mul_pos (Int.pow_pos hq) (zE5 n);have k2:(0:Int)<q ^ (n+1)*zDE (n+1):=Int.mul_pos (Int.pow_pos hq) (zE5 (n+1));have r1:(0:Rat)<((q ^ n*zDE n:Int):Rat):=by exact_mod_cast k1
  have r2:(0:Rat)<((q ^ (n+1)*zDE (n+1):Int):Rat):=by exact_mod_cast k2
  have r3:=zAT n;rw[e,ih];have f1:=rdm (a:=((p ^ n:Int):Rat)) r1;have f2:=rdm (a:=(p:Rat)) q0;have f3:=rdm (a:=((p ^ (n+1):Int):Rat)) r2;have c1:((p ^ (n+1):Int):Rat)=((p ^ n:Int):Rat)*(p:Rat):=by rw[Int.pow_succ,Ym]
  have c2:((q ^ (n+1)*zDE (n+1):Int):Rat)=((q ^ n*zDE n:Int):Rat)*(q:Rat)*((n:Rat)+1):=by
   rw[e2,Int.pow_succ,show q ^ n*q*(zDE n*((n:Int)+1))=q ^ n*zDE n*q*((n:Int)+1) by grind,Ym,Ym,Rat.intCast_add]
   rfl
  generalize ((p ^ n:Int):Rat)/((q ^ n*zDE n:Int):Rat)=u at *;generalize (p:Rat)/(q:Rat)=v at *;have f4:=rdm (a:=u*v) r3;generalize u*v/((n:Rat)+1)=z at *;generalize ((p ^ (n+1):Int):Rat)/((q ^ (n+1)*zDE (n+1):Int):Rat)=y at *;rw[c2] at f3 r2;rw[c1] at f3;have:(z-y)*(((q ^ n*zDE n:Int):Rat)*(q:Rat)*((n:Rat)+1))=0:=by grind
  rcases Rat.mul_eq_zero.1 this with h|h<;>grind
def rareX (p q:Int) (n:Nat) (M:Nat):Rat:=((p ^ n:Int):Rat)/((q ^ n*zDE n:Int):Rat)/Ev (λ _=>(p:Rat)/(q:Rat)) M
theorem zC9 {p q:Int} (hp:0<=p) (hq:0<q):(0:Rat)<=(p:Rat)/(q:Rat):=by
 have q0:(0:Rat)<(q:Rat):=by exact_mod_cast hq
 have p0:(0:Rat)<=(p:Rat):=by exact_mod_cast hp
 refine jY q0 ?_;grind
open Ex
def riT (a:Int × Int) (u d:Nat->Int):Nat->Int × Int
 | 0=>a
 | n+1=>zJ (riT a u d n) (u (n+1)) (d (n+1))
def yG (f:Nat->Int × Int) (turn N:Nat):Prop:=turn<=N/\(f N).2<=3/\∀ j,j<N->j<turn\/3<(f j).2
def kT (f:Nat->Int × Int) (N:Nat):Int × Int:=zBT (jH f N) (0,9)
structure zN6 (u d:Nat->Int):Prop where
 u0:∀ n,0<=u n
 d0:∀ n,0<d n
theorem zD3 {a:Int × Int} {u d:Nat->Int} (h:zN6 u d) (ha:a.1<=a.2) (n:Nat):(riT a u d n).1<=(riT a u d n).2:=by
 induction n with
 | zero=>exact ha
 | succ n ih=>exact kK ih (h.d0 _) (h.u0 _)
theorem zAE {a:Int × Int} {u d:Nat->Int} (h:zN6 u d) (ha:0<=a.1) (n:Nat):0<=(riT a u d n).1:=by
 induction n with
 | zero=>exact ha
 | succ n ih=>exact Int.ediv_nonneg (Yl ih (h.u0 _)) (by have:=h.d0 (n+1);omega)
theorem kR (a:Int) {d:Int} (hd:0<d):a<(a/d+1)*d:=Int.lt_ediv_add_one_mul_self _ hd
theorem zK8 {x u d:Int} (hd:0<d) (hx:0<=x) (h:4*u<=3*d):4 * -(-(x*u)/d)<=3*x+3:=by
 have h1:=Yi h hx;have h2:=kR (-(x*u)) hd;refine Int.not_lt.1 λ hn=>?_
 obtain⟨c,hc⟩:∃ c,c = -(-(x*u)/d):=⟨_,rfl⟩
 have h3:(c-1)*d<x*u:=by
  have e:(-(x*u)/d+1)*d = -((c-1)*d):=by rw[hc];grind
  omega
 rw[<- hc] at hn;have h4:=Yg (show 3*x+4<=4*c by omega) (show 0<=d by omega)
 have e1:(3*x+4)*d=3*x*d+4*d:=by grind
 have e2:4*c*d=4*((c-1)*d)+4*d:=by grind
 have e3:x*(4*u)=4*(x*u):=by grind
 have e4:x*(3*d)=3*x*d:=by grind
 omega
theorem zNL {g:Nat->Int} (h:∀ j,4*g (j+1)<=3*g j+3):∀ (H j:Nat),g j-3<Q H->∃ i,i<=j+3*H/\j<=i/\g i<=3:=by
 intro H
 induction H with
 | zero =>
  intro j hj
  have e:Q 0=1:=rfl;exact⟨j,by omega,Yj _,by omega⟩
 | succ H ih =>
  intro j hj
  have e:Q (H+1)=2*Q H:=rfl;have q:=zF H;have h1:=h j;have h2:=h (j+1);have h3:=h (j+2);obtain⟨i,i1,i2,i3⟩:=ih (j+3) (by rw[show j+3=j+2+1 by omega];rw[show j+2=j+1+1 by omega] at *;omega)
  exact⟨i,by omega,by omega,i3⟩
theorem zJ9 {a:Int × Int} {u d:Nat->Int} {turn H:Nat} (h:zN6 u d) (ha:0<=a.1) (hl:a.1<=a.2) (fR:∀ n,turn<=n->4*u (n+1)<=3*d (n+1)) (hH:(riT a u d turn).2-3<Q H):∃ N,N<=turn+3*H/\yG (riT a u d) turn N:=by
 have hg:∀ j,4*(riT a u d (turn+(j+1))).2<=3*(riT a u d (turn+j)).2+3:=λ j=>by
  have h0:=zAE h ha (turn+j);have h1:=zD3 h hl (turn+j);exact zK8 (x:=(riT a u d (turn+j)).2) (h.d0 (turn+j+1)) (by omega) (fR (turn+j) (by omega))
 obtain⟨i,i1,i2,i3⟩:=zNL hg H 0 hH;obtain⟨N,n1,n2,n3⟩:=zBF (p:=λ N=>turn<=N/\(riT a u d N).2<=3) (K:=turn+i) ⟨by omega,i3⟩
 refine⟨N,by omega,n2.1,n2.2,λ j hj=>?_⟩
 have:=n3 j hj
 by_cases ht:j<turn
 ·exact Or.inl ht
 ·exact Or.inr (Int.not_le.1 λ hh=>this ⟨by omega,hh⟩)
def riV (x:Nat->Rat) (u d:Nat->Int):Nat->Nat->Rat
 | 0,M=>x M
 | n+1,M=>(u (n+1):Rat)/(d (n+1):Rat)*riV x u d n M
theorem riT_has {B:Nat} {a:Int × Int} {x:Nat->Rat} {u d:Nat->Int} (h:zN6 u d) (hx:Iv B a x) (n:Nat):Iv B (riT a u d n) (λ M=>riV x u d n M):=by
 induction n with
 | zero=>exact hx
 | succ n ih=>exact ih.scale (h.u0 _) (h.d0 _)
theorem zGO {x:Nat->Rat} {u d:Nat->Int} (h:zN6 u d) {M:Nat} (hx:0<=x M) (n:Nat):0<=riV x u d n M:=by
 induction n with
 | zero=>exact hx
 | succ n ih =>
  have h1:=zC9 (h.u0 (n+1)) (h.d0 (n+1));exact Ye h1 ih
theorem riV_fall {x:Nat->Rat} {u d:Nat->Int} (h:zN6 u d) {M:Nat} (hx:0<=x M) {n:Nat} (fR:4*u (n+1)<=3*d (n+1)):4*riV x u d (n+1) M<=3*riV x u d n M:=by
 have h0:=zGO h hx n;have d0:(0:Rat)<(d (n+1):Rat):=by exact_mod_cast h.d0 (n+1)
 have h1:(u (n+1):Rat)/(d (n+1):Rat)<=3/4:=by
  refine jX d0 ?_;have:=jG fR;rw[Ym,Ym,show ((4:Int):Rat)=4 from rfl,show ((3:Int):Rat)=3 from rfl] at this
  grind
 have h2:=Ye (show 0<=3/4-(u (n+1):Rat)/(d (n+1):Rat) by grind) h0
 show 4*((u (n+1):Rat)/(d (n+1):Rat)*riV x u d n M)<=_
 grind
theorem rise_has {B N:Nat} {f:Nat->Int × Int} {g:Nat->Nat->Rat} (h:∀ n,Iv B (f n) (λ M=>g n M)) (hN:(f N).2<=3) (M0:Nat) (h0:∀ M,M0<=M->∀ n,0<=g n M) (hh:∀ M,M0<=M->∀ n,N<=n->4*g (n+1) M<=3*g n M):Iv B (kT f N) (λ M=>S (λ k=>g k M) M):=by
 have hs:∀ n,Iv B (jH f n) (λ M=>S (λ k=>g k M) (n+1)):=λ n=>by
  induction n with
  | zero =>
   refine (h 0).congr (null_zero.of_eq λ M=>?_)
   show S (λ k=>g k M) 1-g 0 M=0
   have e:S (λ k=>g k M) 1=0+g 0 M:=rfl
   rw[e];grind
  | succ n ih=>exact ih.add (h (n+1))
 have ht:∀ M,M0<=M->∀ i,0<=S (λ k=>g k M) (N+1+i)-S (λ k=>g k M) (N+1)/\S (λ k=>g k M) (N+1+i)-S (λ k=>g k M) (N+1)+3*g (N+i) M<=3*g N M:=λ M hM i=>by
  induction i with
  | zero=>constructor<;>(show _<=_;simp only[Nat.add_zero];grind)
  | succ i ih =>
   have e:S (λ k=>g k M) (N+1+(i+1))=S (λ k=>g k M) (N+1+i)+g (N+1+i) M:=rfl
   have h1:=h0 M hM (N+1+i);have h2:=hh M hM (N+i) (by omega)
   rw[show N+i+1=N+1+i by omega] at h2
   rw[e,show N+(i+1)=N+1+i by omega]
   constructor<;>grind
 have q:=jJ B
 intro e he
 obtain⟨N1,g1⟩:=hs N (e/4) (by grind)
 obtain⟨N2,g2⟩:=h N (e/4) (by grind)
 refine⟨M0+N1+N2+N+1,λ M hM=>?_⟩
 obtain⟨a1,a2⟩:=g1 M (by omega)
 obtain⟨b1,b2⟩:=g2 M (by omega)
 obtain⟨t1,t2⟩:=ht M (by omega) (M-(N+1))
 have t3:=h0 M (by omega) (N+(M-(N+1)))
 rw[show N+1+(M-(N+1))=M by omega] at t1 t2
 have c2:((f N).2:Rat)/(Q B:Rat)<=((3:Int):Rat)/(Q B:Rat):=jX q (by rw[rdm q];exact jG hN)
 have e1:(((kT f N).1:Int):Rat)/(Q B:Rat)=((jH f N).1:Rat)/(Q B:Rat):=by
  unfold kT zBT;simp only[];rw[Int.add_zero]
 have e2:(((kT f N).2:Int):Rat)/(Q B:Rat)=((jH f N).2:Rat)/(Q B:Rat)+3*(((3:Int):Rat)/(Q B:Rat)):=by
  unfold kT zBT;simp only[];rw[Rat.intCast_add,zBK]
  congr 1
  have e9:((9:Int):Rat)=3*((3:Int):Rat):=by decide +kernel
  rw[e9,Yp,Yp,Rat.mul_assoc]
 simp only[] at a1 a2 b1 b2;rw[e1,e2];constructor<;>grind
def riS (x:Nat->Rat) (u d:Nat->Int) (M:Nat):Rat:=S (λ k=>riV x u d k M) M
theorem zBY {B N turn:Nat} {a:Int × Int} {x:Nat->Rat} {u d:Nat->Int} (h:zN6 u d) (hx:Iv B a x) (M0:Nat) (jm:∀ M,M0<=M->0<=x M) (fR:∀ n,turn<=n->4*u (n+1)<=3*d (n+1)) (hN:yG (riT a u d) turn N):Iv B (kT (riT a u d) N) (riS x u d) :=
 rise_has (λ n=>riT_has h hx n) hN.2.1 M0 (λ M hM n=>zGO h (jm M hM) n) (λ M hM n hn=>riV_fall h (jm M hM) (fR n (Nat.le_trans hN.1 hn)))
theorem zL3 {a:Int × Int} {u d:Nat->Int} (h:zN6 u d) (ha:0<=a.1) (hl:a.1<=a.2) (h0:0<a.2) {D:Int} (hD:a.2-a.1<=D) (hmono:∀ n,d (n+1)<=u (n+1)->a.2<=(riT a u d n).2) (n:Nat) :
  ((riT a u d n).2-(riT a u d n).1)*a.2<=(D+2*n)*(if a.2<=(riT a u d n).2 then (riT a u d n).2 else a.2):=by
 have D0:0<=D:=by omega
 induction n with
 | zero =>
  show (a.2-a.1)*a.2<=(D+2*((0:Nat):Int))*(if a.2<=a.2 then a.2 else a.2)
  rw[if_pos (Int.le_refl _)];exact Yg (by omega) (by omega)
 | succ n ih =>
  have hd:=h.d0 (n+1);have hu:=h.u0 (n+1);have n1:=zAE h ha n;have n2:=zD3 h hl n;have sX:=hmono n
  show ((zJ (riT a u d n) (u (n+1)) (d (n+1))).2-(zJ (riT a u d n) (u (n+1)) (d (n+1))).1)*a.2<=(D+2*((n+1:Nat):Int))*(if a.2<=(zJ (riT a u d n) (u (n+1)) (d (n+1))).2 then (zJ (riT a u d n) (u (n+1)) (d (n+1))).2 else a.2)
  generalize riT a u d n=t at *;generalize u (n+1)=U at *;generalize d (n+1)=V at *;obtain⟨hi,ehi⟩:∃ hi,hi=(zJ t U V).2:=⟨_,rfl⟩;obtain⟨lo,elo⟩:∃ lo,lo=(zJ t U V).1:=⟨_,rfl⟩;rw[<- ehi,<- elo];have c1:t.2*U<=hi*V:=by rw[ehi];exact zED (t.2*U) hd
  have c2:(hi-1)*V<t.2*U:=by
   have h2:=kR (-(t.2*U)) hd;have e:(-(t.2*U)/V+1)*V = -((hi-1)*V):=by rw[ehi];unfold zJ;grind
   omega
  have c3:t.1*U<(lo+1)*V:=by rw[elo];exact kR (t.1*U) hd
  have tw:(hi-lo-2)*V<=(t.2-t.1)*U:=by
   have e1:(hi-lo-2)*V=(hi-1)*V-(lo+1)*V:=by grind
   have e2:(t.2-t.1)*U=t.2*U-t.1*U:=by grind
   omega
  have m1:=Yg tw (show 0<=a.2 by omega)
  have m2:=Yg ih hu;have C0:0<=D+2*(n:Int):=by omega
  refine Int.le_of_mul_le_mul_right (a:=V) ?_ hd;have e3:(hi-lo)*a.2*V=(hi-lo-2)*V*a.2+2*a.2*V:=by grind
  have e4:(t.2-t.1)*U*a.2=(t.2-t.1)*a.2*U:=by grind
  have cN:(D+2*((n+1:Nat):Int))=(D+2*(n:Int))+2:=by omega
  rw[cN]
  by_cases ht:a.2<=t.2
  ·rw[if_pos ht] at m2
   have m3:=Yi c1 C0;have e5:(D+2*(n:Int))*t.2*U=(D+2*(n:Int))*(t.2*U):=by grind
   by_cases hh:a.2<=hi
   ·rw[if_pos hh]
    have m4:=Yg hh (show 0<=V by omega)
    have e6:(D+2*(n:Int)+2)*hi*V=(D+2*(n:Int))*(hi*V)+2*(hi*V):=by grind
    have e7:2*a.2*V=2*(a.2*V):=by grind
    omega
   ·rw[if_neg hh]
    have m4:=Yg (show hi<=a.2 by omega) (show 0<=V by omega)
    have m5:=Yi m4 C0;have e6:(D+2*(n:Int)+2)*a.2*V=(D+2*(n:Int))*(a.2*V)+2*(a.2*V):=by grind
    have e7:2*a.2*V=2*(a.2*V):=by grind
    omega
  ·rw[if_neg ht] at m2
   have TX:U<=V:=by
    refine Int.not_lt.1 λ E2=>?_
    exact ht (sX (by omega))
   have m4:=Yi TX (show 0<=(D+2*(n:Int))*a.2 from Yl C0 (by omega))
   have Z7:a.2<=(if a.2<=hi then hi else a.2):=by split<;>omega
   have m5:=Yi Z7 (show 0<=D+2*(n:Int)+2 by omega)
   have m6:=Yg m5 (show 0<=V by omega)
   have e6:(D+2*(n:Int)+2)*a.2*V=(D+2*(n:Int))*a.2*V+2*a.2*V:=by grind
   omega
end Go.Proofs.YtgmnknmjainabacGreat
namespace Go.Proofs.YtgmnknmjainabacGreat.Ex
def eT (x:Rat):Nat->Rat
 | 0=>x
 | n+1=>2*(x*x)/(2*((n:Rat)+1)+1)*eT x n
def eD (x:Rat):Nat->Rat
 | 0=>1
 | n+1=>2*x*eT x n
theorem zCW (n:Nat):(0:Rat)<2*((n:Rat)+1)+1:=by have:=zAT n;grind
theorem zDK (x:Rat) (n:Nat):(2*((n:Rat)+1)+1)*eT x (n+1)=2*(x*x)*eT x n:=by
 have h:=zCW n
 show (2*((n:Rat)+1)+1)*(2*(x*x)/(2*((n:Rat)+1)+1)*eT x n)=_
 have e:=rdm (a:=2*(x*x)) h;have:(2*((n:Rat)+1)+1)*(2*(x*x)/(2*((n:Rat)+1)+1)*eT x n)=(2*(x*x)/(2*((n:Rat)+1)+1)*(2*((n:Rat)+1)+1))*eT x n:=by grind
 rw[this,e]
theorem zAM {x:Rat} (h:0<=x) (n:Nat):0<=eT x n:=by
 induction n with
 | zero=>exact h
 | succ n ih =>
  have h1:=zCW n;have h2:=zDK x n;have h3:=Ye (Ye h h) ih;refine Rat.le_of_mul_le_mul_left (c:=2*((n:Rat)+1)+1) ?_ h1;grind
theorem eD_mul (x:Rat) (n:Nat):eD x n*x=(2*(n:Rat)+1)*eT x n:=by
 cases n with
 | zero=>show 1*x=(2*((0:Nat):Rat)+1)*x;grind
 | succ n =>
  have h:=zDK x n
  show 2*x*eT x n*x=(2*((n+1:Nat):Rat)+1)*eT x (n+1)
  have e:((n+1:Nat):Rat)=(n:Rat)+1:=by push_cast;rfl
  rw[e];grind
theorem zIH {x:Rat} (h:0<=x) (n:Nat):0<=eD x n:=by
 cases n with
 | zero=>show (0:Rat)<=1;grind
 | succ n=>exact Ye (Ye (by grind) h) (zAM h n)
theorem zO6 {x h:Rat} (hx:0<=x) (hh:0<=h) (n:Nat):eT x n+h*eD x n<=eT (x+h) n:=by
 induction n with
 | zero=>show x+h*1<=x+h;grind
 | succ n ih =>
  have p:=zCW n;have t0:=zAM hx n;have d0:=zIH hx n;have e1:=zDK x n;have e2:=zDK (x+h) n;have e3:=eD_mul x n;have s1:x*x+2*(x*h)<=(x+h)*(x+h):=by have:=Ye hh hh;grind
  have q0:=Ye hx hx;have q1:=Ye hx hh;have y0:0<=(x+h)*(x+h):=by have:=Ye hh hh;grind
  have m1:=Yd ih y0;have u0:0<=eT x n+h*eD x n:=by have:=Ye hh d0;grind
  have m2:=Yf s1 u0;refine Rat.le_of_mul_le_mul_left (c:=2*((n:Rat)+1)+1) ?_ p
  show (2*((n:Rat)+1)+1)*(eT x (n+1)+h*(2*x*eT x n))<=_
  rw[e2];have k1:=Ye q1 (Ye hh d0);have k2:x*x*(h*eD x n)=h*x*((2*(n:Rat)+1)*eT x n):=by rw[<- e3];grind
  have k3:(x*x+2*(x*h))*(eT x n+h*eD x n)=x*x*eT x n+x*x*(h*eD x n)+2*(x*h)*eT x n+2*(x*h*(h*eD x n)):=by grind
  rw[k3,k2] at m2;have k4:(2*((n:Rat)+1)+1)*(eT x (n+1)+h*(2*x*eT x n))=2*(x*x)*eT x n+(2*((n:Rat)+1)+1)*(h*(2*x*eT x n)):=by rw[<- e1];grind
  rw[k4];grind
def eS (x:Rat) (M:Nat):Rat:=S (eT x) M
theorem jO {x:Rat} (h:0<=x) (M:Nat):0<=eS x M:=by
 induction M with
 | zero=>show (0:Rat)<=0;grind
 | succ n ih=>have:=zAM h n;show 0<=eS x n+eT x n;grind
theorem zO4 {x h:Rat} (hx:0<=x) (hh:0<=h) (M:Nat):eS x (M+1)+h*(1+2*x*eS x M)<=eS (x+h) (M+1):=by
 induction M with
 | zero=>show (0+x)+h*(1+2*x*0)<=0+(x+h);grind
 | succ n ih =>
  have g:=zO6 hx hh (n+1)
  show eS x (n+1)+eT x (n+1)+h*(1+2*x*(eS x n+eT x n))<=eS (x+h) (n+1)+eT (x+h) (n+1)
  have e:eD x (n+1)=2*x*eT x n:=rfl;rw[e] at g;grind
theorem zO7 {x y:Rat} (hx:0<=x) (O9:x<=y) (n:Nat):eT x n<=eT y n:=by
 have h:=zO6 hx (show 0<=y-x by grind) n
 have d:=Ye (show 0<=y-x by grind) (zIH hx n)
 rw[show x+(y-x)=y by grind] at h
 grind
theorem zO5 {x y:Rat} (hx:0<=x) (O9:x<=y) (M:Nat):eS x M<=eS y M:=by
 induction M with
 | zero=>show (0:Rat)<=0;grind
 | succ n ih=>have:=zO7 hx O9 n;show eS x n+eT x n<=eS y n+eT y n;grind
theorem eT_tm {x:Rat} (hx:0<=x) (n:Nat):eT x n<=x*tm (x*x) n:=by
 induction n with
 | zero=>show x<=x*1;grind
 | succ n ih =>
  have p:=zCW n;have p1:=zAT n;have e1:=zDK x n;have e2:=kQ (x*x) n;have q:=Ye hx hx;have m:=Yd ih q;have t:=zAR q (n+1);have xt:=Ye hx t;refine Rat.le_of_mul_le_mul_left (c:=2*((n:Rat)+1)+1) ?_ p;rw[e1];have k:x*((n:Rat)+1)*tm (x*x) (n+1)=x*(x*x*tm (x*x) n):=by rw[<- e2];grind
  grind
theorem zO8 {x:Rat} (hx:0<=x):Null (λ M=>eT x M):=by
 obtain⟨K,k0,hK⟩:=zNQ (x*x);refine Null.of_le (f:=λ M=>x*K*((M:Rat)*q4 M)) (zBP (x*K) (Ye hx k0)) 1 λ M hM=>?_
 have h0:=zAM hx M;have h1:=eT_tm hx M;have h2:=(hK M).2;have h3:=Yd h2 hx;have hm:(1:Rat)<=(M:Rat):=by exact_mod_cast hM
 have h4:=Ye (Ye (Ye hx k0) (Yh (kX M))) (show 0<=(M:Rat)-1 by grind)
 constructor<;>grind
theorem zII {x:Rat} (hx:0<=x):∃ K,0<=K/\∀ M,eS x M<=K:=by
 obtain⟨K,k0,hK⟩:=zDH (x*x);have q:=Ye hx hx;refine⟨x*K,Ye hx k0,λ M=>?_⟩
 have h1:eS x M<=x*E (x*x) M:=by
  induction M with
  | zero=>show (0:Rat)<=x*0;grind
  | succ n ih =>
   have:=eT_tm hx n
   show eS x n+eT x n<=x*(E (x*x) n+tm (x*x) n)
   grind
 have h2:=(hK M (x*x) ⟨by grind,by grind⟩).2
 have h3:=Yd h2 hx;grind
def eF (x:Rat) (M:Nat):Rat:=eS x M*Ev (λ _ => -(x*x)) M
theorem eF_key {x h Y K s t q:Rat} (hx:0<=x) (hh:0<h) (hY:x+h<=Y) (sx:0<=s) (sK:s<=K) (h1:h<=1) (ht:t=h*(2*x+h)) (t0:0<=t) (t4:t<=1/4) (h3:2*(h*(K*(1+8*((2*Y+1)*(2*Y+1)))))<=1) (q0:1-t-2*(t*t)<=q):s<=(s+h*(1+2*x*s))*q:=by
 have A0:0<=2*Y+1:=by grind
 have XK:t*t<=1/16:=by have:=Yd t4 t0;grind
 have p0:0<=s+h*(1+2*x*s):=by
  have:=Ye (Yh hh) (show 0<=1+2*x*s by have:=Ye hx sx;grind)
  grind
 have p1:=Yd q0 p0;refine Rat.le_trans ?_ p1;obtain⟨a,ha⟩:∃ a,a=2*x+h:=⟨_,rfl⟩;have a0:0<=a:=by grind
 have aA:a<=2*Y+1:=by grind
 rw[<- ha] at ht
 have r1:(s+h*(1+2*x*s))*(1-t-2*(t*t))-s=h*((1-t-2*(t*t))-h*(s*(1+2*(a*a)+2*x*(a+2*(t*a))))):=by
  rw[ht,ha];grind
 have xa:2*x<=a:=by grind
 have b1:a*a<=(2*Y+1)*(2*Y+1):=Rat.le_trans (Yd aA a0) (Yf aA A0);have b2:2*x*a<=a*a:=Yf xa a0;have b3:2*x*a*t<=a*a*(1/4):=Rat.le_trans (Yf b2 t0) (Yd t4 (Ye a0 a0));have aa:=Ye a0 a0
 have B:1+2*(a*a)+2*x*(a+2*(t*a))<=1+8*((2*Y+1)*(2*Y+1)):=by
  have e:2*x*(a+2*(t*a))=2*x*a+2*(2*x*a*t):=by grind
  rw[e];generalize (2*Y+1)*(2*Y+1)=YY at *;generalize a*a=AA at *;generalize 2*x*a*t=u1 at *;generalize 2*x*a=u2 at *;clear r1 p1 p0 h3 ht;grind
 have b4:=Yd B sx;have b5:s*(1+8*((2*Y+1)*(2*Y+1)))<=K*(1+8*((2*Y+1)*(2*Y+1))):=Yf sK (by have:=Ye A0 A0;grind)
 have b6:=Yd (Rat.le_trans b4 b5) (Yh hh)
 have b7:0<=(1-t-2*(t*t))-h*(s*(1+2*(a*a)+2*x*(a+2*(t*a)))):=by
  generalize h*(s*(1+2*(a*a)+2*x*(a+2*(t*a))))=u1 at *;generalize h*(K*(1+8*((2*Y+1)*(2*Y+1))))=u2 at *;generalize t*t=u3 at *;clear r1 p1 p0 ht b1 b2 b3 b4 b5 B;grind
 have b8:=Ye (Yh hh) b7;rw[<- r1] at b8;grind
theorem eF_step {x h Y K:Rat} (hx:0<=x) (hh:0<h) (hY:x+h<=Y) (hK:0<=K) (hS:∀ M,eS x M<=K) (h1:h<=1) (h2:4*(h*(2*Y+1))<=1) (h3:2*(h*(K*(1+8*((2*Y+1)*(2*Y+1)))))<=1):∃ z,Null z/\∃ N,∀ M,N<=M->eF x M<=eF (x+h) M+z M:=by
 obtain⟨t,ht⟩:∃ t,t=h*(2*x+h):=⟨_,rfl⟩;have a0:0<=2*x+h:=by grind
 have t0:0<=t:=by rw[ht];exact Ye (Yh hh) a0
 have ta:t<=h*(2*Y+1):=by rw[ht];exact Yd (by grind) (Yh hh)
 have t4:t<=1/4:=by grind
 have sqe : -((x+h)*(x+h)) = -(x*x) + -t:=by rw[ht];grind
 have bs:=zAB (x:=λ _ => -(x*x)) (y:=λ _ => -t) (Bdd.const _) (Bdd.const _)
 have eb:Bdd (eS (x+h)):=by
  obtain⟨K2,k2,kx⟩:=zII (x:=x+h) (by grind)
  exact Bdd.of_le K2 0 λ M _=>⟨by have:=jO (x:=x+h) (by grind) M;grind,kx M⟩
 have F9:=bs.bmul eb;obtain⟨c,c0,N0,hc⟩:=zBS (x:=λ _ => -(x*x)) (Bdd.const _)
 have evb:=yW (x:=λ _ => -(x*x)) (Bdd.const _)
 have hT:=(zO8 hx)
 have K6:Null (λ M=>eT x (M-1)):=λ e he=>by
  obtain⟨N,hN⟩:=hT e he;exact⟨N+1,λ M hM=>hN (M-1) (by omega)⟩
 have fh:=(K6.bmul (Bdd.const (2*x*h))).bmul evb;refine⟨_,fh.add F9,N0+2,λ M hM=>?_⟩
 have fV:=hc M (by omega)
 have e1:eF (x+h) M=eS (x+h) M*Ev (λ _ => -(x*x) + -t) M:=by unfold eF;rw[sqe]
 obtain⟨m,rfl⟩:∃ m,M=m+1:=⟨M-1,by omega⟩
 have g:=zO4 hx (Yh hh) m;have e2:eS x (m+1)=eS x m+eT x m:=rfl;have sx:=jO hx (m+1);have sK:=hS (m+1);have lit:=(yV (h := -t) (b:=t) ⟨by grind,by grind⟩ t4 (M:=m+1) (by omega)).1
 have Ib:=(yV (h := -t) (b:=t) ⟨by grind,by grind⟩ t4 (M:=m+1) (by omega)).2
 have e3:Ev (λ _ => -t) (m+1)=E (-t) (m+1):=rfl
 have T0:=zAM hx m;simp only[Nat.add_sub_cancel] at *;rw[e1];unfold eF;generalize Ev (λ _ => -(x*x)) (m+1)=v at *
 generalize Ev (λ _ => -(x*x) + -t) (m+1)=vt at *
 rw[e3];generalize E (-t) (m+1)=q at *;generalize eS (x+h) (m+1)=s' at *;obtain⟨s,hs⟩:∃ s,s=eS x (m+1):=⟨_,rfl⟩;have e4:eS x m=s-eT x m:=by rw[hs];grind
 rw[e4,<- hs] at g;rw[<- hs] at sx sK ⊢;generalize eT x m=T at *;have q0:1-t-2*(t*t)<=q:=by grind
 have tt:t*t<=t*(h*(2*Y+1)):=Yd ta t0;have A0:0<=2*Y+1:=by grind
 have XK:t*t<=1/16:=by
  have:=Yd t4 t0;grind
 have q1:0<=q:=by grind
 have key:s<=(s+h*(1+2*x*s))*q:=eF_key hx hh hY sx sK h1 ht t0 t4 h3 q0;have v0:0<=v:=by grind
 have k1:=Yf key v0;have g2:s+h*(1+2*x*s)<=s'+T*(2*x*h):=by grind
 have vq:=Ye v0 q1;have k2:=Yf g2 vq
 have qle:q<=1:=by
  have u:=Ib;have XN:t*t<=t*(1/4):=Yd t4 t0;grind
 have w0:=Ye (Ye (Ye hx (Yh hh)) T0) v0;have w1:=Yd qle w0;have r1:(s+h*(1+2*x*s))*q*v=(s+h*(1+2*x*s))*(v*q):=by grind
 have r2:(s'+T*(2*x*h))*(v*q)=s'*(v*q)+2*(x*h*T*v*q):=by grind
 rw[r1] at k1;rw[r2] at k2;have r3:T*(2*x*h)*v=2*(x*h*T*v*1):=by grind
 have r4:(v*q-vt)*s'=s'*(v*q)-s'*vt:=by grind
 show s*v<=s'*vt+(T*(2*x*h)*v+(v*q-vt)*s')
 rw[r3,r4];generalize s'*(v*q)=g1 at *;generalize x*h*T*v*q=g2 at *;generalize x*h*T*v*1=g3 at *;generalize (s+h*(1+2*x*s))*(v*q)=g4 at *;generalize s*v=g5 at *;generalize s'*vt=g6 at *;clear key r1 r2 r3 r4 g F9 K6 fh bs;grind
theorem eF_mono {x y:Rat} (hx:0<=x) (O9:x<=y):∃ z,Null z/\∃ N,∀ M,N<=M->eF x M<=eF y M+z M:=by
 by_cases heq:x=y
 ·subst heq
  exact⟨_,null_zero,0,λ M _=>by grind⟩
 have E2:0<y-x:=by grind
 have hy:0<=y:=by grind
 obtain⟨K,k0,hK⟩:=zII hy;obtain⟨C,hC⟩:∃ C,C=(y-x)*(1+4*(2*y+1)+2*(K*(1+8*((2*y+1)*(2*y+1))))):=⟨_,rfl⟩;obtain⟨n,hn⟩:=kC C;have n0:(0:Rat)<(n:Rat)+1:=zAT n;obtain⟨h,hh⟩:∃ h,h=(y-x)/((n:Rat)+1):=⟨_,rfl⟩;have hm:h*((n:Rat)+1)=y-x:=by rw[hh];exact rdm n0
 have h0:0<h:=by rw[hh];exact zH E2 n0
 have A0:0<=2*y+1:=by grind
 have AA:=Ye A0 A0;have P0:0<=K*(1+8*((2*y+1)*(2*y+1))):=Ye k0 (by grind)
 have hc:h*(1+4*(2*y+1)+2*(K*(1+8*((2*y+1)*(2*y+1)))))<=1:=by
  have h2:=hn.2;refine Rat.le_of_mul_le_mul_left (c:=(n:Rat)+1) ?_ n0;have e:((n:Rat)+1)*(h*(1+4*(2*y+1)+2*(K*(1+8*((2*y+1)*(2*y+1))))))=C:=by rw[hC,<- hm];grind
  rw[e];grind
 have c1:=Ye (Yh h0) A0;have c2:=Ye (Yh h0) P0;have hs:h*(1+4*(2*y+1)+2*(K*(1+8*((2*y+1)*(2*y+1)))))=h+4*(h*(2*y+1))+2*(h*(K*(1+8*((2*y+1)*(2*y+1))))):=by grind
 rw[hs] at hc
 have step:∀ i:Nat,i<=n+1->∃ z,Null z/\∃ N,∀ M,N<=M->eF x M<=eF (x+(i:Rat)*h) M+z M:=by
  intro i
  induction i with
  | zero =>
   intro _
   refine⟨_,null_zero,0,λ M _=>?_⟩
   have e:x+((0:Nat):Rat)*h=x:=by grind
   rw[e];grind
  | succ i ih =>
   intro hi
   obtain⟨z1,F9,N1,h1⟩:=ih (by omega)
   have i0:(0:Rat)<=(i:Rat):=by exact_mod_cast Nat.zero_le i
   have i1:(i:Rat)+1<=(n:Rat)+1:=by exact_mod_cast hi
   have p0:=Ye i0 (Yh h0);have p1:=Yf i1 (Yh h0)
   have e1:x+(i:Rat)*h+h=x+((i+1:Nat):Rat)*h:=by
    have:((i+1:Nat):Rat)=(i:Rat)+1:=by push_cast;rfl
    rw[this];grind
   have Oi:x+(i:Rat)*h+h<=y:=by grind
   obtain⟨z2,K6,N2,h2⟩:=eF_step (x:=x+(i:Rat)*h) (h:=h) (Y:=y) (K:=K) (by grind) h0 Oi k0 (λ M=>Rat.le_trans (zO5 (by grind) (by grind) M) (hK M)) (by grind) (by grind) (by grind)
   rw[e1] at h2;refine⟨_,F9.add K6,N1+N2,λ M hM=>?_⟩
   have a:=h1 M (by omega)
   have b:=h2 M (by omega)
   grind
 obtain⟨z,hz,N,h9⟩:=step (n+1) (Yj _)
 have e:x+((n+1:Nat):Rat)*h=y:=by
  have:((n+1:Nat):Rat)=(n:Rat)+1:=by push_cast;rfl
  rw[this];grind
 rw[e] at h9;exact⟨z,hz,N,h9⟩
end Go.Proofs.YtgmnknmjainabacGreat.Ex
namespace Go.Proofs.YtgmnknmjainabacGreat.Ex
def LeN (f g:Nat->Rat):Prop:=∀ e:Rat,0<e->∃ N:Nat,∀ M,N<=M->f M<=g M+e
theorem LeN.refl (f:Nat->Rat):LeN f f:=λ e he=>⟨0,λ M _=>by grind⟩
theorem LeN.trans {f g h:Nat->Rat} (a:LeN f g) (b:LeN g h):LeN f h:=λ e he=>by
 obtain⟨N1,h1⟩:=a (e/2) (by grind)
 obtain⟨N2,h2⟩:=b (e/2) (by grind)
 exact⟨N1+N2,λ M hM=>by have:=h1 M (by omega);have:=h2 M (by omega);grind⟩
theorem LeN.of_le {f g:Nat->Rat} (N:Nat) (h:∀ M,N<=M->f M<=g M):LeN f g:=λ e he=>⟨N,λ M hM=>by have:=h M hM;grind⟩
theorem LeN.of_null {f g z:Nat->Rat} (hz:Null z) (N:Nat) (h:∀ M,N<=M->f M<=g M+z M):LeN f g:=λ e he=>by
 obtain⟨N1,h1⟩:=hz e he;exact⟨N+N1,λ M hM=>by have:=h M (by omega);have:=(h1 M (by omega)).2;grind⟩
theorem LeN.null {f g:Nat->Rat} (h:LeN f g):∃ z,Null z/\∀ M,f M<=g M+z M:=by
 refine⟨λ M=>if f M<=g M then 0 else f M-g M,λ e he=>?_,λ M=>?_⟩
 ·obtain⟨N,hN⟩:=h e he
  refine⟨N,λ M hM=>?_⟩
  have:=hN M hM;simp only[];split<;>constructor<;>grind
 ·simp only[];split<;>grind
theorem LeN.add {f g f' g':Nat->Rat} (a:LeN f g) (b:LeN f' g'):LeN (λ M=>f M+f' M) (λ M=>g M+g' M):=λ e he=>by
 obtain⟨N1,h1⟩:=a (e/2) (by grind)
 obtain⟨N2,h2⟩:=b (e/2) (by grind)
 exact⟨N1+N2,λ M hM=>by have:=h1 M (by omega);have:=h2 M (by omega);grind⟩
theorem LeN.eq {f g:Nat->Rat} (h:LeN f g) (k:LeN g f):Null (λ M=>f M-g M):=λ e he=>by
 obtain⟨N1,h1⟩:=h e he;obtain⟨N2,h2⟩:=k e he;exact⟨N1+N2,λ M hM=>by have:=h1 M (by omega);have:=h2 M (by omega);constructor<;>grind⟩
theorem Null.leN {f g:Nat->Rat} (h:Null (λ M=>f M-g M)):LeN f g:=λ e he=>by
 obtain⟨N,hN⟩:=h e he;exact⟨N,λ M hM=>by have:=(hN M hM).2;grind⟩
theorem Null.symm {f g:Nat->Rat} (h:Null (λ M=>f M-g M)):Null (λ M=>g M-f M):=h.neg.of_eq λ M=>by grind
theorem LeN.lim {f g:Nat->Rat} {C:Rat} (hC:0<=C) (h:∀ n:Nat,LeN f (λ M=>g M+C*(1/((n:Rat)+1)))):LeN f g:=λ e he=>by
 obtain⟨n,hn⟩:=kC (2*C/e);have k:=h n;obtain⟨N,hN⟩:=k (e/2) (by grind)
 refine⟨N,λ M hM=>?_⟩
 have h1:=hN M hM;have n0:(0:Rat)<(n:Rat)+1:=zAT n
 have h2:C*(1/((n:Rat)+1))<=e/2:=by
  have um:1/((n:Rat)+1)*((n:Rat)+1)=1:=rdm n0;have u0:(0:Rat)<1/((n:Rat)+1):=zH (by grind) n0
  have ce:2*C/e*e=2*C:=rdm he;have h3:=Yf hn.2 (Yh he);rw[ce] at h3;have h4:=Yf (show 2*C<=((n:Rat)+1)*e by grind) (Yh u0)
  have e5:((n:Rat)+1)*e*(1/((n:Rat)+1))=(1/((n:Rat)+1)*((n:Rat)+1))*e:=by grind
  rw[e5,um] at h4;grind
 simp only[] at h1;grind
theorem zB6 {f:Rat->Nat->Rat} {a b C D:Rat} (fT:a<=b) (hC:0<=C) (hD:0<D)
  (step:∀ x h,a<=x->0<h->h<=D->x+h<=b->∃ z,Null z/\∃ N:Nat,∀ M,N<=M->f (x+h) M<=f x M+C*(h*h)+z M):LeN (f b) (f a):=by
 by_cases heq:a=b
 ·subst heq;exact LeN.refl _
 have E2:0<b-a:=by grind
 refine LeN.lim (C:=C*((b-a)*(b-a))) (Ye hC (Ye (Yh E2) (Yh E2))) λ n0=>?_
 obtain⟨m,hm⟩:=kC ((b-a)/D);obtain⟨n,hn⟩:∃ n,n=n0+m:=⟨_,rfl⟩;have Ig:(0:Rat)<(n:Rat)+1:=zAT n;obtain⟨h,hh⟩:∃ h,h=(b-a)/((n:Rat)+1):=⟨_,rfl⟩;have hmul:h*((n:Rat)+1)=b-a:=by rw[hh];exact rdm Ig
 have h0:0<h:=by rw[hh];exact zH E2 Ig
 have mn:(m:Rat)<=(n:Rat):=by exact_mod_cast (show m<=n by omega)
 have nn:(n0:Rat)<=(n:Rat):=by exact_mod_cast (show n0<=n by omega)
 have A6:h<=D:=by
  have e1:(b-a)/D*D=b-a:=rdm hD;have h1:=Yf hm.2 (Yh hD);rw[e1] at h1;refine Rat.le_of_mul_le_mul_right (c:=(n:Rat)+1) ?_ Ig;rw[hmul];have:=Yf mn (Yh hD);grind
 have go:∀ i:Nat,i<=n+1->∃ z,Null z/\∃ N:Nat,∀ M,N<=M->f (a+(i:Rat)*h) M<=f a M+(i:Rat)*(C*(h*h))+z M:=by
  intro i
  induction i with
  | zero =>
   intro _
   refine⟨_,null_zero,0,λ M _=>?_⟩
   have e:a+((0:Nat):Rat)*h=a:=by grind
   rw[e];grind
  | succ i ih =>
   intro hi
   obtain⟨z1,F9,N1,k1⟩:=ih (by omega)
   have i0:(0:Rat)<=(i:Rat):=by exact_mod_cast Nat.zero_le i
   have i1:(i:Rat)+1<=(n:Rat)+1:=by exact_mod_cast hi
   have p0:=Ye i0 (Yh h0);have p1:=Yf i1 (Yh h0);have ec:((i+1:Nat):Rat)=(i:Rat)+1:=by push_cast;rfl
   have e1:a+(i:Rat)*h+h=a+((i+1:Nat):Rat)*h:=by rw[ec];grind
   obtain⟨z2,K6,N2,k2⟩:=step (a+(i:Rat)*h) h (by grind) h0 A6 (by grind)
   rw[e1] at k2;refine⟨_,F9.add K6,N1+N2,λ M hM=>?_⟩
   have a1:=k1 M (by omega)
   have a2:=k2 M (by omega)
   rw[ec] at a2 ⊢;grind
 obtain⟨z,hz,N,k⟩:=go (n+1) (Yj _);have ec:((n+1:Nat):Rat)=(n:Rat)+1:=by push_cast;rfl
 have e:a+((n+1:Nat):Rat)*h=b:=by rw[ec];grind
 rw[e,ec] at k;refine LeN.of_null hz N λ M hM=>?_
 have k1:=k M hM;have Ih:(0:Rat)<(n0:Rat)+1:=zAT n0;have um:1/((n0:Rat)+1)*((n0:Rat)+1)=1:=rdm Ih;have u0:(0:Rat)<1/((n0:Rat)+1):=zH (by grind) Ih
 have hb:((n:Rat)+1)*(C*(h*h))<=C*((b-a)*(b-a))*(1/((n0:Rat)+1)):=by
  have e2:((n:Rat)+1)*(C*(h*h))=C*(b-a)*h:=by rw[<- hmul];grind
  rw[e2]
  have hu:h<=(b-a)*(1/((n0:Rat)+1)):=by
   refine Rat.le_of_mul_le_mul_right (c:=(n0:Rat)+1) ?_ Ih;have e3:(b-a)*(1/((n0:Rat)+1))*((n0:Rat)+1)=(b-a)*(1/((n0:Rat)+1)*((n0:Rat)+1)):=by grind
   rw[e3,um];have:=Yd nn (Yh h0);grind
  have:=Yd hu (Ye hC (Yh E2));grind
 grind
end Go.Proofs.YtgmnknmjainabacGreat.Ex
namespace Go.Proofs.YtgmnknmjainabacGreat
open Ex
theorem Iv.opp {B:Nat} {a:Int × Int} {x:Nat->Rat} (h:Iv B a x):Iv B (-a.2,-a.1) (λ M => -x M):=by
 have q:=jJ B
 intro e he
 obtain⟨N,hN⟩:=h e he;refine⟨N,λ M hM=>?_⟩
 obtain⟨g1,g2⟩:=hN M hM;have e1:((-a.2:Int):Rat)/(Q B:Rat) = -((a.2:Rat)/(Q B:Rat)):=by rw[Rat.intCast_neg,Yp,Yp,Rat.neg_mul]
 have e2:((-a.1:Int):Rat)/(Q B:Rat) = -((a.1:Rat)/(Q B:Rat)):=by rw[Rat.intCast_neg,Yp,Yp,Rat.neg_mul]
 simp only[];rw[e1,e2];constructor<;>grind
def negI (a:Int × Int):Int × Int:=(-a.2,-a.1)
theorem negI_abs {a:Int × Int} {m:Int} (h:Abs a m):Abs (negI a) m:=by obtain⟨h1,h2,h3,h4⟩:=h;exact⟨by simp only[negI];omega,by simp only[negI];omega,by simp only[negI];omega,by simp only[negI];omega⟩
def agT (m:Int) (B:Nat):Nat->Int × Int
 | 0=>ofI 1 m B
 | n+1=>negI (zJ (agT m B n) (2*(n:Int)+1) ((2*(n:Int)+3)*m*m))
theorem zH5 {m:Int} (hm:2<=m) (n:Nat):0<(2*(n:Int)+3)*m*m/\4*(2*(n:Int)+1)<=(2*(n:Int)+3)*m*m:=by
 have h1:=Int.mul_le_mul hm hm (by omega) (show 0<=m by omega)
 have h2:=Yi h1 (show 0<=2*(n:Int)+3 by omega)
 have e:(2*(n:Int)+3)*m*m=(2*(n:Int)+3)*(m*m):=by grind
 rw[e];omega
theorem zKR {m:Int} (hm:2<=m) (B n:Nat):(agT m B n).1<=(agT m B n).2:=by
 induction n with
 | zero=>exact yU (by omega) B
 | succ n ih =>
  have:=kK ih (zH5 hm n).1 (show 0<=2*(n:Int)+1 by omega)
  simp only[agT,negI];omega
theorem zGZ {m:Int} (hm:2<=m) {B:Nat} (hB:2<=B) (n:Nat):Abs (agT m B n) (Q (B-2*n)):=by
 induction n with
 | zero =>
  have q:=zF B;have h2:=Yi hm (show 0<=Q B by omega)
  exact zHM (by omega) B (by have:=zF B;simp only[Nat.mul_zero,Nat.sub_zero];omega) (by simp only[Nat.mul_zero,Nat.sub_zero];omega)
 | succ n ih =>
  obtain⟨d0,d1⟩:=zH5 hm n;have st:=zN4 hB n;have q2:=zF (B-2)
  have eB:Q B=4*Q (B-2):=by
   have:=jI 2 (B-2);rw[show 2+(B-2)=B by omega] at this
   rw[this];rfl
  have hq:Q (B-2*n)<=4*Q (B-2*(n+1)):=by
   refine Int.le_of_mul_le_mul_right (a:=Q (B-2)) ?_ (by omega)
   rw[eB] at st;have e:4*Q (B-2*(n+1))*Q (B-2)=Q (B-2*(n+1))*(4*Q (B-2)):=by grind
   omega
  have q3:=zF (B-2*(n+1));obtain⟨a1,a2,a3,a4⟩:=ih
  have key:∀ x:Int,-Q (B-2*n)<=x->x<=Q (B-2*n) -> -(Q (B-2*(n+1))*((2*(n:Int)+3)*m*m))<=x*(2*(n:Int)+1)/\x*(2*(n:Int)+1)<=Q (B-2*(n+1))*((2*(n:Int)+3)*m*m):=λ x h1 h2=>by
   have k1:=Yi d1 (show 0<=Q (B-2*(n+1)) by omega)
   have k2:=Yg (show x<=4*Q (B-2*(n+1)) by omega) (show 0<=2*(n:Int)+1 by omega)
   have k3:=Yg (show -(4*Q (B-2*(n+1)))<=x by omega) (show 0<=2*(n:Int)+1 by omega)
   have e:Q (B-2*(n+1))*(4*(2*(n:Int)+1))=4*Q (B-2*(n+1))*(2*(n:Int)+1):=by grind
   have e2 : -(4*Q (B-2*(n+1)))*(2*(n:Int)+1) = -(4*Q (B-2*(n+1))*(2*(n:Int)+1)):=by grind
   constructor<;>omega
  have r1:=jZ d0 (key _ a1 a2).1 (key _ a1 a2).2;have r2:=jZ d0 (key _ a3 a4).1 (key _ a3 a4).2;exact negI_abs ⟨r1.1,r1.2.1,r2.2.2.1,r2.2.2.2⟩
theorem agT_wide {m:Int} (hm:2<=m) (B n:Nat):(agT m B n).2-(agT m B n).1<=2:=by
 induction n with
 | zero=>have:=yQ (n:=1) (show 0<m by omega) B;simp only[agT];omega
 | succ n ih =>
  obtain⟨d0,d1⟩:=zH5 hm n
  have:=kH (a:=agT m B n) (n:=2*(n:Int)+1) (d:=(2*(n:Int)+3)*m*m) (c:=1) d0 (by
   have:=Yg ih (show 0<=2*(n:Int)+1 by omega)
   omega)
  simp only[agT,negI];omega
def agV (m:Int):Nat->Rat
 | 0=>((1:Int):Rat)/(m:Rat)
 | n+1 => -(((2*(n:Int)+1:Int):Rat)/(((2*(n:Int)+3)*m*m:Int):Rat)*agV m n)
theorem agT_has {m:Int} (hm:2<=m) (B n:Nat):Iv B (agT m B n) (λ _=>agV m n):=by
 induction n with
 | zero=>exact Iv.of B (by omega)
 | succ n ih=>exact (ih.scale (show 0<=2*(n:Int)+1 by omega) (zH5 hm n).1).opp
theorem zJ7 {n d:Int} (hn:0<=n) (hd:0<d) (h:4*n<=d):0<=(n:Rat)/(d:Rat)/\(n:Rat)/(d:Rat)<=1/4:=by
 have d0:(0:Rat)<(d:Rat):=by exact_mod_cast hd
 have n0:(0:Rat)<=(n:Rat):=by exact_mod_cast hn
 refine⟨jY d0 (by grind),jX d0 ?_⟩
 have:=jG h;rw[Ym,show ((4:Int):Rat)=4 from rfl] at this
 grind
theorem zG0 {m:Int} (hm:2<=m) (n:Nat) {b:Rat} (h:AB (agV m n) b):AB (agV m (n+1)) (b/2):=by
 obtain⟨d0,d1⟩:=zH5 hm n;obtain⟨q0,q1⟩:=zJ7 (show 0<=2*(n:Int)+1 by omega) d0 d1
 have b0:=h.nonneg;have:=(AB.mul (s:=((2*(n:Int)+1:Int):Rat)/(((2*(n:Int)+3)*m*m:Int):Rat)) (a:=1/4) ⟨by grind,q1⟩ h).neg
 exact this.mono (by grind)
def agS (m:Int) (M:Nat):Rat:=S (agV m) M
theorem zKS {m:Int} (hm:2<=m) (B N:Nat):Iv B (zM (agT m B) N) (agS m) :=
 zG3 (g:=λ n _=>agV m n) (zKR hm B) (λ k _=>agT_has hm B k) 0 (λ M _ n b _ hb=>zG0 hm n hb)
theorem zG1 {m:Int} (hm:2<=m) {B N:Nat} (hB:2<=B) (hN:zT (agT m B) N) :
  (zM (agT m B) N).1<=(zM (agT m B) N).2/\Abs (zM (agT m B) N) (2*Q B)/\N<=B/2+1/\(zM (agT m B) N).2-(zM (agT m B) N).1<=(B:Int)+6:=by
 have hn:N<=B/2+1:=by
  obtain⟨N',n1,n2⟩:=zBQ (s:=2) (by omega) (zGZ hm hB)
  refine Nat.le_trans (Nat.not_lt.1 λ E2=>?_) n1
  have:=hN.2 N' E2;have:=n2.1;omega
 refine⟨zB7 (zKR hm B) N,zFK (s:=2) (by omega) (zKR hm B) (zGZ hm hB) hN,hn,?_⟩
 have:=zBW (agT_wide hm B) hN;omega
theorem zOE {m:Int} (hm:2<=m) {B:Nat} (hB:2<=B):∃ N,zT (agT m B) N:=by
 obtain⟨N,_,h⟩:=zBQ (s:=2) (by omega) (zGZ hm hB)
 exact⟨N,h⟩
def piI (B N N2:Nat):Int × Int:=zHY (kF (zM (agT 5 B) N) 16) (kF (zM (agT 239 B) N2) 4)
def piS (M:Nat):Rat:=16*agS 5 M-4*agS 239 M
theorem pi_has (B N N2:Nat):Iv B (piI B N N2) piS :=
 Has.of_eq (((zKS (m:=5) (by omega) B N).times 16).sub ((zKS (m:=239) (by omega) B N2).times 4)) λ M=>by
  show 16*agS 5 M-4*agS 239 M=((16:Nat):Rat)*agS 5 M-((4:Nat):Rat)*agS 239 M
  rfl
theorem pi_ge {M : Nat} (hM : 2 ≤ M) : 3 ≤ piS M := by
  obtain ⟨i, rfl⟩ : ∃ i, M = 2 + i := ⟨M - 2, by omega⟩
  have h5 := (zN9 (g := agV 5) (N := 1) (b := 1 / 375) (by rw [show agV 5 1 = -(1 / 375) by decide +kernel]; constructor <;> grind) (fun n c _ hc => zG0 (by omega) n hc) i).2
  have h9 := (zN9 (g := agV 239) (N := 1) (b := 1 / 1000) (by (have e : AB (agV 239 1) (1 / 1000) := (by constructor <;> decide +kernel)); exact e) (fun n c _ hc => zG0 (by omega) n hc) i).2
  have e5 : S (agV 5) (1 + 1) = 1 / 5 - 1 / 375 := by decide +kernel
  have e9 : S (agV 239) (1 + 1) ≤ 1 / 100 := by decide +kernel
  have p := kW i
  rw [e5] at h5
  obtain ⟨a1, a2⟩ := h5
  obtain ⟨b1, b2⟩ := h9
  show 3 ≤ 16 * S (agV 5) (1 + 1 + i) - 4 * S (agV 239) (1 + 1 + i)
  grind
theorem pi_bound {B N N2:Nat} (hB:32<=B) (hN:zT (agT 5 B) N) (T7:zT (agT 239 B) N2):(piI B N N2).1<=(piI B N N2).2/\Q B<=(piI B N N2).1/\(piI B N N2).2<=64*Q B/\(piI B N N2).2-(piI B N N2).1<=20*(B:Int)+120:=by
 obtain⟨a1,a2,a3,a4⟩:=zG1 (m:=5) (by omega) (by omega) hN
 obtain⟨b1,b2,b3,b4⟩:=zG1 (m:=239) (by omega) (by omega) T7
 have hw:(piI B N N2).2-(piI B N N2).1<=20*(B:Int)+120:=by
  simp only[piI,zHY,kF];omega
 have hl:(piI B N N2).1<=(piI B N N2).2:=by simp only[piI,zHY,kF];omega
 have hh:(piI B N N2).2<=64*Q B:=by
  obtain⟨_,_,_,c4⟩:=a2;obtain⟨d1,_⟩:=b2;simp only[piI,zHY,kF];omega
 refine⟨hl,?_,hh,hw⟩;have q:=jJ B
 have h2:2*Q B<=(piI B N N2).2:=by
  refine Int.not_lt.1 λ E2=>?_
  obtain⟨N0,hh⟩:=pi_has B N N2 (1/2) (by grind)
  have h3:=(hh (N0+2) (by omega)).2
  have h4:=pi_ge (M:=N0+2) (by omega)
  have h5:((piI B N N2).2:Rat)/(Q B:Rat)<=2:=jX q (by
   have:=jG (show (piI B N N2).2<=2*Q B by omega)
   rw[Ym] at this
   exact this)
  grind
 have hQ:20*(B:Int)+120<=Q B:=by
  have GK:∀ k:Nat,20*((32+k:Nat):Int)+120<=Q (32+k):=λ k=>by
   induction k with
   | zero=>decide
   | succ k ih =>
    have e:Q (32+(k+1))=2*Q (32+k):=rfl;omega
  have:=GK (B-32);rw[show 32+(B-32)=B by omega] at this
  exact this
 omega
end Go.Proofs.YtgmnknmjainabacGreat
