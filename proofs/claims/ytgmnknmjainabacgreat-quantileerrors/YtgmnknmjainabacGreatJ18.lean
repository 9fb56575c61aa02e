/-
  Its own texts.
-/
import Derived.Test.YtgmnknmjainabacGreatJ17
set_option maxRecDepth 100000
set_option maxHeartbeats 40000000
set_option linter.unnecessarySimpa false
set_option linter.unusedSimpArgs false
set_option linter.unusedVariables false
namespace Go.Proofs.YtgmnknmjainabacGreat
open Go.RowKit
attribute [local go_sem ↓] Go.wp_at_zero Go.wp_at_succ
structure StSt (w wr:World) (BX BY:Nat) (X Y:Nm) (k:Nat) (p q:Int):Prop where
 x:VnC wr BX X
 y:VnC wr BY Y
 ix:IntAt wr X.neg X.a X.n X.cap k p
 iy:IntAt wr Y.neg Y.a Y.n Y.cap k q
 n1:NoI wr w.heap.size
 n2:NoI wr (w.heap.size+1)
 be:Below w.heap.size w wr
 l1:w.heap.size+1<BX
 l2:w.heap.size+1<BY
 ne:BX≠BY
theorem StSt.bw {w wr wr':World} {BX BY:Nat} {X Y:Nm} {k:Nat} {p q:Int} (h:StSt w wr BX BY X Y k p q) (hb:Below wr.heap.size wr wr'):StSt w wr' BX BY X Y k p q :=
 ⟨h.x.bw hb,h.y.bw hb,h.ix.bw hb,h.iy.bw hb,h.n1.bw hb,h.n2.bw hb,zB h.be hb,h.l1,h.l2,h.ne⟩
theorem NoI.offs {w:World} {B B':Nat} (h:NoI w B) (hne:B≠B') (y:Nm):NoI (zDD w B' y) B:=by
 obtain⟨q0,q1,q2⟩:=h;exact⟨by simp[go_sem,q0,hne,Ne.symm hne],by simp[go_sem,q1,hne,Ne.symm hne],yY q2 _ _⟩
theorem StSt.put {w wr:World} {BX BY:Nat} {X Y X' Y':Nm} {k k':Nat} {p q p' q':Int} (h:StSt w wr BX BY X Y k p q) (hx:IntAt wr X'.neg X'.a X'.n X'.cap k' p') (hy:IntAt wr Y'.neg Y'.a Y'.n Y'.cap k' q'):StSt w (zDD (zDD wr BX X') BY Y') BX BY X' Y' k' p' q' :=
 have x1:=h.x.put X';have y1:=h.y.off (Ne.symm h.ne) X'
 ⟨x1.off h.ne Y',y1.put Y',(hx.putv h.x X').putv y1 Y',(hy.putv h.x X').putv y1 Y',(h.n1.offs (by have:=h.l1;omega) X').offs (by have:=h.l2;omega) Y',(h.n2.offs (by have:=h.l1;omega) X').offs (by have:=h.l2;omega) Y',zFZ (zFZ h.be (by have:=h.l1;omega) _ _) (by have:=h.l2;omega) _ _,h.l1,h.l2,h.ne⟩
theorem st_end {w wr:World} {BX BY:Nat} {X Y:Nm} {k:Nat} {p q:Int} (h:StSt w wr BX BY X Y k p q):IntAt (zDD (zDD wr w.heap.size X) (w.heap.size+1) Y) X.neg X.a X.n X.cap k p/\IntAt (zDD (zDD wr w.heap.size X) (w.heap.size+1) Y) Y.neg Y.a Y.n Y.cap k q/\Below w.heap.size w (zDD (zDD wr w.heap.size X) (w.heap.size+1) Y):=by
 have n2:=h.n2.offs (B':=w.heap.size) (by omega) X
 obtain⟨a0,a1,af⟩:=h.n1;obtain⟨b0,b1,bf⟩:=n2;exact⟨(h.ix.put2 a0 a1 _ _).put2 b0 b1 _ _,(h.iy.put2 a0 a1 _ _).put2 b0 b1 _ _,zFZ (zFZ h.be (Yj _) _ _) (Nat.le_succ _) _ _⟩
theorem zRV (w:World) (n d:Int) (h:StIn n d) (hn:n<=4611686018427387904) :
  Calls Tryz.prog 200 #[.int .i64 n,.int .i64 d] w (λ r w'=>∃ X Y:Nm,r=.returned (.tuple #[.int .i64 (n-(stN n d:Int)*d),.agg X.q,.agg Y.q])/\IntAt w' X.neg X.a X.n X.cap (4*stN n d+4) (stP n d (stN n d))/\IntAt w' Y.neg Y.a Y.n Y.cap (4*stN n d+4) (stQ d (stN n d))/\Below w.heap.size w w'):=by
 obtain⟨W,hW⟩:∃ W,W=(w.alloc (.cells #[.bool false,.slice none 0 0] 29)).alloc (.cells #[.bool false,.slice none 0 0] 29):=⟨_,rfl⟩;have j6:Below w.heap.size w W:=by rw[hW];exact bl2 _ _ _
 have R1:NoI W w.heap.size:=by rw[hW];exact (kG w _).bw (bl1 _ _)
 have R2:NoI W (w.heap.size+1):=by rw[hW];constructor<;>simp[go_sem]
 have d0:=h.d0;have dd:=h.dd;have Hr:=h.rest.2.2;have H:=zC h;clear h
 go_enter Tryz.func200,Tryz.ntmps200
 go_wp2_with fail;rw[<- hW];clear hW;refine (zE 1 _ (by decide) (by decide)).mono ?_
 rintro r' w1 ⟨o7,a1,n1,c1,rfl,s9,b9⟩;replace R1:=R1.bw b9;replace R2:=R2.bw b9;replace j6:=zB j6 b9;clear b9;go_wp2_with fail;refine (zE 1 _ (by decide) (by decide)).mono ?_
 rintro r' w2 ⟨j7,a2,n2,c2,rfl,A8,j5⟩;replace R1:=R1.bw j5;replace R2:=R2.bw j5;replace j6:=zB j6 j5;replace s9:=s9.bw j5;clear j5;have lR:=R2.lt;obtain⟨V1,R6⟩:∃ V1,V1=(w2.alloc (.cells #[.bool o7,.slice a1 n1 c1] 29)).alloc (.cells #[.bool j7,.slice a2 n2 c2] 29):=⟨_,rfl⟩;have bj:Below w2.heap.size w2 V1:=by rw[R6];exact bl2 _ _ _
 have tF:StSt w V1 w2.heap.size (w2.heap.size+1) ⟨o7,a1,n1,c1⟩ ⟨j7,a2,n2,c2⟩ (4*0+4) (stP n d 0) (stQ d 0):=⟨by rw[R6];exact (vnc_new w2 ⟨o7,a1,n1,c1⟩ _).bw (bl1 _ _),by rw[R6];exact⟨⟨by simp[go_sem],by simp[go_sem]⟩,λ o=>by simp[go_sem]⟩,s9.bw bj,A8.bw bj,R1.bw bj,R2.bw bj,zB j6 bj,lR,by omega,by omega⟩
 go_wp2_with fail;rw[<- R6];clear R6 bj s9 A8 R1 R2 j6;obtain⟨BX,MZ⟩:∃ B,B=w2.heap.size:=⟨_,rfl⟩;obtain⟨BY,Na⟩:∃ B',B'=w2.heap.size+1:=⟨_,rfl⟩;rw[<- Na,<- MZ] at tF ⊢;clear MZ Na lR
 go_loopw [0] (λ nn wr=>∃ (i:Nat) (X Y:Nm),nn=.int .i64 (n-(i:Int)*d)/\i<=stN n d/\StSt w wr BX BY X Y (4*i+4) (stP n d i) (stQ d i)) (λ nn _=>(intOf nn).toNat)
 case atStart=>exact⟨0,_,_,by simp,Nat.zero_le _,tF⟩
 case round =>
  obtain⟨i,X,Y,rfl,hi,st⟩:=hrel;clear tF;have p0:=(st_at (zA H) hi).1;have id0:=Yl (show (0:Int)<=(i:Int) by omega) (show 0<=d by omega)
  by_cases I5:i<stN n d
  ·have rS:d<n-(i:Int)*d:=(st_at (zA H) hi).2 I5
   have HX:=zC st.x;have HY:=zC st.y;have HI:=zC st.ix;have HJ:=zC st.iy;have pC:=zC st;have M5:=zC (show IntKind.i64.wrap (n-(i:Int)*d-d)=n-(i:Int)*d-d from jC _ (by omega) (by omega))
   have HR:=zC (show -9223372036854775808<=n-(i:Int)*d-d/\n-(i:Int)*d-d<=9223372036854775807 from⟨by omega,by omega⟩)
   clear st;go_wp2_with fail;have D8:Below wr.heap.size wr wr.drew:=(Below.refl _ _).drew;have fO:=zC (show ∀ w',Below wr.heap.size wr w'->(nK0 w' BX X) from λ w' hB=>⟨((zA HX).bw hB).c.c0,((zA HX).bw hB).c.c1⟩)
   have eM:=zC (show ∀ w',Below wr.heap.size wr w'->(nK0 w' BY Y) from λ w' hB=>⟨((zA HY).bw hB).c.c0,((zA HY).bw hB).c.c1⟩)
   refine AnyS.start (S:=λ j w'=>(j=6\/j=7\/j=10\/j=11\/(w'.cell? ⟨BX,0,none⟩=some (.bool X.neg)/\w'.cell? ⟨BX,1,none⟩=some (.slice X.a X.n X.cap)))/\(j=11\/(w'.cell? ⟨BY,0,none⟩=some (.bool Y.neg)/\w'.cell? ⟨BY,1,none⟩=some (.slice Y.a Y.n Y.cap)))) (by kernel_rfl) ?_
   refine AnyS.take (i:=6) (oi:={ dst:=some 23,op:=Go.Op.load 29 (Go.Operand.tmp 8),type:=29,pos := "gamma.go:37",after:=#[],guard:=none }) (v:=.agg Y.q) (T:=λ w'=>nK0 w' BY Y) rfl (by kernel_rfl) (by kernel_rfl) (by kernel_rfl) (λ _ _ _ h=>h) 11 1 (λ j hl hj w h=>h.2.elim (λ e=>absurd e (by omega)) id) (by kernel_rfl) (λ w h=>⟨Or.inl rfl,Or.inr h⟩) (Or.inl ⟨by rfl,λ w hSw=>?_⟩) (zA eM _ D8) ?_
   ·obtain⟨s0,s1⟩:=hSw;go_simp
   try simp only[Act.put,Ya,Yb,Yc]
   refine AnyS.take (i:=7) (oi:={ dst:=some 24,op:=Go.Op.move (Go.Operand.tmp 1),type:=3,pos := "gamma.go:37",after:=#[],guard:=none }) (v:=.int .i64 d) (T:=λ w'=>nK0 w' BY Y) rfl (by kernel_rfl) (by kernel_rfl) (by kernel_rfl) (λ _ _ _ h=>h) 11 1 (λ j hl hj w h=>h.2.elim (λ e=>absurd e (by omega)) id) (by kernel_rfl) (λ w h=>⟨Or.inr (Or.inl rfl),Or.inr h⟩) (Or.inl ⟨by rfl,λ w hSw=>?_⟩) (zA eM _ D8) ?_
   ·go_simp
   try simp only[Act.put,Ya,Yb,Yc]
   refine AnyS.take (i:=0) (oi:={ dst:=some 17,op:=Go.Op.load 29 (Go.Operand.tmp 7),type:=29,pos := "gamma.go:37",after:=#[],guard:=none }) (v:=.agg X.q) (T:=λ w'=>(nK0 w' BX X)/\(nK0 w' BY Y)) rfl (by kernel_rfl) (by kernel_rfl) (by kernel_rfl) (λ _ _ _ h=>h) 10 2 (λ j hl hj w h=>⟨h.1.elim (λ e=>absurd hl (by rw[e];decide)) (λ h=>h.elim (λ e=>absurd hl (by rw[e];decide)) (λ h=>h.elim (λ e=>absurd e (by omega)) (λ h=>h.elim (λ e=>absurd e (by omega)) id))),h.2.elim (λ e=>absurd e (by omega)) id⟩) (by kernel_rfl) (λ w h=>⟨Or.inr (Or.inr (Or.inr (Or.inr h.1))),Or.inr h.2⟩) (Or.inl ⟨by rfl,λ w hSw=>?_⟩) ⟨zA fO _ D8,zA eM _ D8⟩ ?_
   ·obtain⟨⟨s0,s1⟩,_⟩:=hSw;go_simp
   try simp only[Act.put,Ya,Yb,Yc]
   refine AnyS.take (i:=1) (oi:={ dst:=some 18,op:=Go.Op.move (Go.Operand.tmp 0),type:=3,pos := "gamma.go:37",after:=#[],guard:=none }) (v:=.int .i64 (n-(i:Int)*d)) (T:=λ w'=>(nK0 w' BX X)/\(nK0 w' BY Y)) rfl (by kernel_rfl) (by kernel_rfl) (by kernel_rfl) (λ _ _ _ h=>h) 10 2 (λ j hl hj w h=>⟨h.1.elim (λ e=>absurd hl (by rw[e];decide)) (λ h=>h.elim (λ e=>absurd hl (by rw[e];decide)) (λ h=>h.elim (λ e=>absurd e (by omega)) (λ h=>h.elim (λ e=>absurd e (by omega)) id))),h.2.elim (λ e=>absurd e (by omega)) id⟩) (by kernel_rfl) (λ w h=>⟨Or.inr (Or.inr (Or.inr (Or.inr h.1))),Or.inr h.2⟩) (Or.inl ⟨by rfl,λ w hSw=>?_⟩) ⟨zA fO _ D8,zA eM _ D8⟩ ?_
   ·go_simp
   try simp only[Act.put,Ya,Yb,Yc]
   refine AnyS.take (i:=2) (oi:={ dst:=some 19,op:=Go.Op.move (Go.Operand.tmp 1),type:=3,pos := "gamma.go:37",after:=#[],guard:=none }) (v:=.int .i64 d) (T:=λ w'=>(nK0 w' BX X)/\(nK0 w' BY Y)) rfl (by kernel_rfl) (by kernel_rfl) (by kernel_rfl) (λ _ _ _ h=>h) 10 2 (λ j hl hj w h=>⟨h.1.elim (λ e=>absurd hl (by rw[e];decide)) (λ h=>h.elim (λ e=>absurd hl (by rw[e];decide)) (λ h=>h.elim (λ e=>absurd e (by omega)) (λ h=>h.elim (λ e=>absurd e (by omega)) id))),h.2.elim (λ e=>absurd e (by omega)) id⟩) (by kernel_rfl) (λ w h=>⟨Or.inr (Or.inr (Or.inr (Or.inr h.1))),Or.inr h.2⟩) (Or.inl ⟨by rfl,λ w hSw=>?_⟩) ⟨zA fO _ D8,zA eM _ D8⟩ ?_
   ·go_simp
   try simp only[Act.put,Ya,Yb,Yc]
   refine AnyS.take (i:=3) (oi:={ dst:=some 20,op:=Go.Op.binOp Go.BinOp.sub 3 (Go.Operand.tmp 18) (Go.Operand.tmp 19) 3,type:=3,pos := "gamma.go:37",after:=#[{ on:=1,ground:=Go.Ground.data },{ on:=2,ground:=Go.Ground.data }],guard:=none }) (v:=.int .i64 (n-(i:Int)*d-d)) (T:=λ w'=>(nK0 w' BX X)/\(nK0 w' BY Y)) rfl (by kernel_rfl) (by kernel_rfl) (by kernel_rfl) (λ _ _ _ h=>h) 10 2 (λ j hl hj w h=>⟨h.1.elim (λ e=>absurd hl (by rw[e];decide)) (λ h=>h.elim (λ e=>absurd hl (by rw[e];decide)) (λ h=>h.elim (λ e=>absurd e (by omega)) (λ h=>h.elim (λ e=>absurd e (by omega)) id))),h.2.elim (λ e=>absurd e (by omega)) id⟩) (by kernel_rfl) (λ w h=>⟨Or.inr (Or.inr (Or.inr (Or.inr h.1))),Or.inr h.2⟩) (Or.inl ⟨by rfl,λ w hSw=>?_⟩) ⟨zA fO _ D8,zA eM _ D8⟩ ?_
   ·go_simp;rw[zA M5]
   try simp only[Act.put,Ya,Yb,Yc]
   refine AnyS.one (i:=4) (o:={ dst:=some 21,op:=Go.Op.call { callee:=Go.Callee.value (Go.Operand.func 33),args:=#[Go.Operand.tmp 20],argTypes:=#[3] },type:=29,pos := "gamma.go:37",after:=#[{ on:=3,ground:=Go.Ground.data }],guard:=none }) (by kernel_rfl) rfl (λ Kc I0=>?_)
   go_simp
   refine (zE (n-(i:Int)*d-d) _ (zA HR).1 (zA HR).2).mono ?_;rintro r' w1 ⟨o7,a1,n1,c1,rfl,s9,b9⟩;have y9:=zB D8 b9;clear b9;go_wp2_with fail;refine I0.out _ _ ⟨Or.inr (Or.inr (Or.inr (Or.inr (zA fO _ y9)))),Or.inr (zA eM _ y9)⟩ (λ _=>?_)
   clear I0 Kc
   try simp only[Act.put,Ya,Yb,Yc]
   refine AnyS.one (i:=5) (o:={ dst:=some 22,op:=Go.Op.call { callee:=Go.Callee.value (Go.Operand.func 83),args:=#[Go.Operand.tmp 17,Go.Operand.tmp 21],argTypes:=#[29,29] },type:=29,pos := "gamma.go:37",after:=#[{ on:=0,ground:=Go.Ground.data },{ on:=4,ground:=Go.Ground.data },{ on:=4,ground:=Go.Ground.chain }],guard:=none }) (by kernel_rfl) rfl (λ Kc I0=>?_)
   go_simp
   refine (jA _ _ _ _ _ _ _ _ (4*i+4) 4 (stP n d i) (n-(i:Int)*d-d) _ ((zA HI).bw y9) s9 (by omega) (by omega)).mono ?_
   rintro r' w2 ⟨j7,a2,n2,c2,rfl,A8,j5⟩;have A6:=zB y9 j5;clear j5 s9;go_wp2_with fail;refine I0.out _ _ ⟨Or.inr (Or.inr (Or.inr (Or.inr (zA fO _ A6)))),Or.inr (zA eM _ A6)⟩ (λ _=>?_)
   clear I0 Kc
   try simp only[Act.put,Ya,Yb,Yc]
   refine AnyS.one (i:=8) (o:={ dst:=some 25,op:=Go.Op.call { callee:=Go.Callee.value (Go.Operand.func 33),args:=#[Go.Operand.tmp 24],argTypes:=#[3] },type:=29,pos := "gamma.go:37",after:=#[{ on:=7,ground:=Go.Ground.data },{ on:=5,ground:=Go.Ground.chain }],guard:=none }) (by kernel_rfl) rfl (λ Kc I0=>?_)
   go_simp
   refine (zE d _ (by omega) (by omega)).mono ?_
   rintro r' w3 ⟨C7,a3,n3,c3,rfl,E8,m8⟩;have G6:=zB A6 m8;replace A8:=A8.bw m8;clear m8;go_wp2_with fail;refine I0.out _ _ ⟨Or.inr (Or.inr (Or.inr (Or.inr (zA fO _ G6)))),Or.inr (zA eM _ G6)⟩ (λ _=>?_)
   clear I0 Kc
   try simp only[Act.put,Ya,Yb,Yc]
   refine AnyS.one (i:=9) (o:={ dst:=some 26,op:=Go.Op.call { callee:=Go.Callee.value (Go.Operand.func 83),args:=#[Go.Operand.tmp 23,Go.Operand.tmp 25],argTypes:=#[29,29] },type:=29,pos := "gamma.go:37",after:=#[{ on:=6,ground:=Go.Ground.data },{ on:=8,ground:=Go.Ground.data },{ on:=8,ground:=Go.Ground.chain }],guard:=none }) (by kernel_rfl) rfl (λ Kc I0=>?_)
   go_simp
   refine (jA _ _ _ _ _ _ _ _ (4*i+4) 4 (stQ d i) d _ ((zA HJ).bw G6) E8 (by omega) (by omega)).mono ?_
   rintro r' w4 ⟨E5,a4,n4,c4,rfl,H8,A5⟩;have J0:=zB G6 A5;replace A8:=A8.bw A5;clear A5 E8;go_wp2_with fail;refine I0.out _ _ ⟨Or.inr (Or.inr (Or.inr (Or.inr (zA fO _ J0)))),Or.inr (zA eM _ J0)⟩ (λ _=>?_)
   clear I0 Kc
   try simp only[Act.put,Ya,Yb,Yc]
   have VX:=(zA HX).bw J0;have VY:=(zA HY).bw J0;have lX:=VX.lt;have lY:=VY.lt;have yt:VnC (zDD w4 BX ⟨j7,a2,n2,c2⟩) BY Y:=VY.off (Ne.symm (zA pC).ne) ⟨j7,a2,n2,c2⟩;unfold zDD at yt;obtain⟨⟨z0,z1⟩,zf⟩:=VX;refine AnyS.one (i:=10) (o:={ dst:=none,op:=Go.Op.store 29 (Go.Operand.tmp 7) (Go.Operand.tmp 22),type:=0,pos := "gamma.go:37",after:=#[{ on:=5,ground:=Go.Ground.data },{ on:=9,ground:=Go.Ground.chain },{ on:=0,ground:=Go.Ground.phase },{ on:=1,ground:=Go.Ground.phase },{ on:=2,ground:=Go.Ground.phase },{ on:=3,ground:=Go.Ground.phase },{ on:=4,ground:=Go.Ground.phase },{ on:=5,ground:=Go.Ground.phase },{ on:=6,ground:=Go.Ground.textOnly Go.Departure.lateStores },{ on:=7,ground:=Go.Ground.textOnly Go.Departure.lateStores },{ on:=8,ground:=Go.Ground.textOnly Go.Departure.lateStoresUnsure },{ on:=9,ground:=Go.Ground.textOnly Go.Departure.lateStoresUnsure }],guard:=none }) (by kernel_rfl) rfl (λ Kc I0=>?_)
   go_simp
   refine I0.out _ _ ⟨Or.inr (Or.inr (Or.inl rfl)),Or.inr ⟨yt.c.c0,yt.c.c1⟩⟩ (λ _=>?_)
   clear I0 Kc z0 z1 zf
   try simp only[Act.put,Ya,Yb,Yc]
   have WL:=yt.lt;obtain⟨⟨z0,z1⟩,zf⟩:=yt;refine AnyS.last (o:={ dst:=none,op:=Go.Op.store 29 (Go.Operand.tmp 8) (Go.Operand.tmp 26),type:=0,pos := "gamma.go:37",after:=#[{ on:=9,ground:=Go.Ground.data },{ on:=10,ground:=Go.Ground.chain },{ on:=0,ground:=Go.Ground.phase },{ on:=1,ground:=Go.Ground.phase },{ on:=2,ground:=Go.Ground.phase },{ on:=3,ground:=Go.Ground.phase },{ on:=4,ground:=Go.Ground.phase },{ on:=5,ground:=Go.Ground.phase },{ on:=6,ground:=Go.Ground.phase },{ on:=7,ground:=Go.Ground.phase },{ on:=8,ground:=Go.Ground.phase },{ on:=9,ground:=Go.Ground.phase },{ on:=10,ground:=Go.Ground.phase }],guard:=none }) (by kernel_rfl) rfl (by kernel_rfl) (λ _=>⟨Or.inr (Or.inr (Or.inr (Or.inl rfl))),Or.inl rfl⟩) (λ Kc I0=>?_)
   go_simp
   refine I0.out _ _ ?_;clear I0 Kc z0 z1 zf fO eM;have stn:=((zA pC).bw J0).put (X':=⟨j7,a2,n2,c2⟩) (Y':=⟨E5,a4,n4,c4⟩) A8 H8;unfold zDD at stn
   have e1:stP n d i*(n-(i:Int)*d-d)=stP n d (i+1):=by
    show _=stP n d i*(n-((i:Int)+1)*d)
    congr 1;grind
   have e2:stQ d i*d=stQ d (i+1):=rfl
   have e3:n-(i:Int)*d-d=n-((i+1:Nat):Int)*d:=by
    have:((i+1:Nat):Int)=(i:Int)+1:=by omega
    rw[this];grind
   rw[e1,e2,show 4*i+4+4=4*(i+1)+4 by omega] at stn
   have E3:=zC e3;clear e1 e2 e3;go_wp2_with fail
   go_roundw
   case rel=>exact⟨i+1,_,_,congrArg _ (zA E3),by omega,stn⟩
   case measure=>simp[intOf];omega
  ·have rS:¬ d<n-(i:Int)*d:=by
    have:=(zA H).rest.2.1;have e:i=stN n d:=by omega
    rw[e];omega
   have Vy:i=stN n d:=by omega
   subst Vy;have lX:=st.x.lt;have lY:=st.y.lt;have q1:=st.n1;have q2:=st.n2;have l1:=st.l1;have l2:=st.l2;have lq1:=q1.lt;have lq2:=q2.lt;have pC:=zC st;obtain⟨⟨x0,x1⟩,xf⟩:=st.x;obtain⟨⟨y0,y1⟩,yf⟩:=st.y;obtain⟨Xq,Xr,q1f⟩:=q1;obtain⟨tB,Io,q2f⟩:=q2;clear st;have m1:w.heap.size≠BX:=by omega
   have m2:w.heap.size≠BY:=by omega
   have m3:w.heap.size+1≠BX:=by omega
   have m4:w.heap.size+1≠BY:=by omega
   go_wp2_with fail;have HE:=st_end (zA pC);unfold zDD at HE
   go_region
   all_goals
    go_wp2_with fail;refine bodyPost_ret (v:=.tuple #[.int .i64 (n-(stN n d:Int)*d),.agg X.q,.agg Y.q]) (by simp[results,Tryz.results200,go_sem,Xq,Xr,tB,Io]) rfl ⟨X,Y,rfl,?_,?_,?_⟩
    ·exact HE.1.bw (Below.refl _ _).drew
    ·exact HE.2.1.bw (Below.refl _ _).drew
    ·exact HE.2.2.drew
open Ex
structure IcC (w:World) (B:Nat) (v:Int):Prop where
 c0:w.cell? ⟨B,0,none⟩=some (.int .i64 v)
theorem IcC.lt {w:World} {B:Nat} {v:Int} (h:IcC w B v):B<w.heap.size:=World.block_lt_of_cell? w ⟨B,0,none⟩ h.c0
theorem IcC.bw {w w':World} {B:Nat} {v:Int} (h:IcC w B v) (hb:Below w.heap.size w w'):IcC w' B v:=⟨(hb.cell (p:=⟨B,0,none⟩) h.lt).trans h.c0⟩
theorem ga1_iv (w:World) (B0 B1 B2:Nat) (s:Sp) (x d n:Int) (k b:Nat) (j:Int) (a:Int × Int) (hs:SpAt w s k a.1 a.2) (X:IcC w B0 x) (D:IcC w B1 d) (Z:IcC w B2 n) (hk:k<=100000000) (hb:s.bits=(b:Int)) (hx:0<=x*d) (ah:x*d<=9223372036854775807) (hj:0<=j*d) (AH:j*d<=4611686018427387904) (hn:0<n) (bL:n<=4611686018427387903) :
  Calls Tryz.prog 208 #[.agg s.q,.int .i64 j,.pointer (some ⟨B0,0,none⟩),.pointer (some ⟨B1,0,none⟩),.pointer (some ⟨B2,0,none⟩)] w (zL w b (k+4+10) (zJ a (x*d) (n+j*d)).1 (zJ a (x*d) (n+j*d)).2):=by
 obtain⟨W,hW⟩:∃ W,W=(w.alloc (.cells s.q 31)).alloc (.cells zCq 31):=⟨_,rfl⟩;have j6:Below w.heap.size w W:=by rw[hW];exact bl2 _ _ _
 have A:SpC W w.heap.size s:=by rw[hW];constructor<;>simp[go_sem]
 have R:NoC W (w.heap.size+1):=by rw[hW];constructor<;>simp[go_sem]
 have HS:=zC (hs.bw j6);have l0:=X.lt;have l1:=D.lt;have l2:=Z.lt;replace X:=X.bw j6;replace D:=D.bw j6;replace Z:=Z.bw j6;have HB:=zC hb;have lR:=R.lt;have lA:=A.lt;have M5:=zC (show IntKind.i64.wrap (x*d)=x*d from jC _ (by omega) (by omega))
 have S3:=zC (show IntKind.i64.wrap (j*d)=j*d from jC _ (by omega) (by omega))
 have cl:=zC (show IntKind.i64.wrap (n+j*d)=n+j*d from jC _ (by omega) (by omega))
 have cm:=zC (show -9223372036854775808<=x*d/\x*d<=9223372036854775807 from⟨by omega,by omega⟩)
 have gm:=zC (show -9223372036854775808<=n+j*d/\n+j*d<=9223372036854775807 from⟨by omega,by omega⟩)
 have po:=zC (show 0<n+j*d by omega)
 clear hs hb hx ah hj AH hn bL;have D9:Below W.heap.size W W.drew:=(Below.refl _ _).drew;have HK:=zC (show ∀ w',Below W.heap.size W w'->(cK w' w.heap.size s (w'.cell? ⟨B0,0,none⟩=some (.int .i64 x)/\w'.cell? ⟨B1,0,none⟩=some (.int .i64 d)/\w'.cell? ⟨B2,0,none⟩=some (.int .i64 n))) from λ w' hB=>⟨(A.bw hB).c0,(A.bw hB).c1,(A.bw hB).c2,(A.bw hB).c3,(A.bw hB).c4,(X.bw hB).c0,(D.bw hB).c0,(Z.bw hB).c0⟩)
 clear X D Z
 go_enter Tryz.func208,Tryz.ntmps208
 go_wp2;rw[<- hW];clear hW;have Bv:w.heap.size+1≠B0:=by omega
 have DC:w.heap.size+1≠B1:=by omega
 have Pk:w.heap.size+1≠B2:=by omega
 obtain⟨x0,x1,x2,x3,x4,x5,x6,x7⟩:=zA HK _ (Below.refl _ _)
 go_region_held3 (λ w'=>cK w' w.heap.size s (w'.cell? ⟨B0,0,none⟩=some (.int .i64 x)/\w'.cell? ⟨B1,0,none⟩=some (.int .i64 d)/\w'.cell? ⟨B2,0,none⟩=some (.int .i64 n))) (first|exact zA HK _ (by with_reducible first|exact D9|exact D6|exact A7|exact C9)|(dsimp only[cK,cK0,nK,nK0,rK,rK0];go_keep)|go_keep)
  (first
   | (go_at_call 151;have hq:=A7;refine (zA4 _ s ⟨o7,a1,n1,c1⟩ ⟨j7,a2,n2,c2⟩ k 4 _ b a (x*d) (n+j*d) ((zA HS).bw A7) (s9.bw j5) A8 (by omega) (by omega) (zA po) (zA HB)).mono ?_;rintro r w3 ⟨t,rfl,G8,K4,m8⟩;have HT:=zC G8;clear G8;have D6:=zB A7 m8;obtain⟨q0,q1,q2,q3,q4,q5⟩:=R.bw D6;obtain⟨i0,i1,i2,i3,i4,i5,i6,i7⟩:=zA HK _ D6)
   | (go_at_call 33;have hq:=C9;(first|rw[zA S3,zA cl]|rw[zA cl]);refine (zE (n+j*d) _ (zA gm).1 (zA gm).2).mono ?_;rintro r w2 ⟨j7,a2,n2,c2,rfl,A8,j5⟩;have A7:=zB C9 j5)
   | (go_at_call 33;rw[zA M5];refine (zE (x*d) _ (zA cm).1 (zA cm).2).mono ?_;rintro r w1 ⟨o7,a1,n1,c1,rfl,s9,b9⟩;have C9:=zB D9 b9))
 all_goals
  go_wp2;refine bodyPost_ret (v:=.agg t.q) (by simp[results,Tryz.results208,go_sem,q0,q1,q2,q3,q4]) rfl ⟨t,rfl,zA HT,?_,?_⟩
  ·exact SpAt.put5 K4 q0 q1 q2 q3 q4 _ _ _ _ _
  ·exact kM (zB j6 D6) (Nat.le_succ _) _ _ _ _ _
theorem en_ga (args:Array Value) (w:World):(callFunc 208 args).run Tryz.prog w=.ok (.enter 208 args) w:=by simp[go_sem,callFunc,Tryz.func208];kernel_rfl
theorem zHC (L:Rat->Nat->Rat) (hL:Lns L) (w:World) (n d:Int) (b:Nat) (g:Nat->Rat) (h:zF9 n d b) (hg:Gam1 L ((n:Rat)/(d:Rat)) g) :
  Calls Tryz.prog 202 #[.int .i64 n,.int .i64 d,.int .i64 b] w (λ r w'=>∃ lo hi:Int,GaV g b (lo,hi)/\zL w b 70 lo hi r w'):=by
 obtain⟨W,hW⟩:∃ W,W=(((w.alloc (.cells #[.int .i64 n] 3)).alloc (.cells #[.int .i64 d] 3)).alloc (.cells zCq 31)).alloc (.cells #[.int .i64 (b:Int)] 3):=⟨_,rfl⟩;have j6:Below w.heap.size w W:=by rw[hW];exact bl4 _ _ _ _ _
 have N0:IcC W (w.heap.size) n:=by rw[hW];exact⟨by simp[go_sem]⟩
 have D0:IcC W (w.heap.size+1) d:=by rw[hW];exact⟨by simp[go_sem]⟩
 have X0:IcC W (w.heap.size+1+1+1) (b:Int):=by rw[hW];exact⟨by simp[go_sem]⟩
 have R:NoC W (w.heap.size+1+1):=by rw[hW];constructor<;>simp[go_sem]
 have n0:=h.n0;have nd:=h.nd;have dd:=h.dd;have b0:=h.b0;have b1:=h.b1;have RY:0<=(b:Int)*d:=Yl (by omega) (by omega)
 have bd1:(b:Int)*d<=1000*2199023255552:=Int.mul_le_mul (by omega) dd (by omega) (by omega)
 have lX:=X0.lt;have H:=zC h;have HL:=zC hL;have HG:=zC hg;obtain⟨NS,ks,S8⟩:=ga_set h;obtain⟨f1,f2,f3,f4⟩:=zCB h
 have PK:∀ j:Nat,j<=22000->Q j<P 1400:=λ j hj=>by
  rw[<- Q_P];have h1:=zK (show j+1<=16*1400 by omega)
  have h2:Q (j+1)=2*Q j:=rfl;have:=zF j;omega
 have na:=zC (show (ofI d n b).1<=(ofI d n b).2 /\ -P 1400<(ofI d n b).1/\(ofI d n b).2<P 1400 by
  have:=PK (b+41) (by omega)
  have:=zF b
  exact⟨f2,by omega,by omega⟩)
 have ar:=zC (show ∀ j,j<=NS -> -P 1400<(gaT n d b j).1/\(gaT n d b j).2<P 1400 from λ j _=>by
  have e:=zCA h j;have u:=ga_hi h j;have:=PK (21*b+41) (by omega)
  have:=zF (21*b+41)
  exact⟨by omega,by omega⟩)
 have eQ:=zC (show ∀ j,j<=NS -> -P 1400<(jH (gaT n d b) j).1/\(jH (gaT n d b) j).2<P 1400 from λ j hj=>by
  have u:=ga_fit h j (by omega)
  have l:=(zLE h j).2.2.2;have:=PK (21*b+60) (by omega)
  have:=zF b;have:=zF (21*b+60)
  exact⟨by omega,by omega⟩)
 have eO:=zC (λ j=>(zCA h j).2)
 have S5:=zC (λ j=>(zCA h j).1)
 have HM:=zC S8
 have aT:=zC (show ∀ (j:Nat) (u:Sp) w',j<NS->u.bits=(b:Int)->SpAt w' u 1400 (gaT n d b j).1 (gaT n d b j).2->Below W.heap.size W w'->Calls Tryz.prog 208 #[.agg u.q,.int .i64 ((j:Int)+1),.pointer (some ⟨w.heap.size+1+1+1,0,none⟩),.pointer (some ⟨w.heap.size+1,0,none⟩),.pointer (some ⟨w.heap.size,0,none⟩)] w' (zL w' b 1414 (gaT n d b (j+1)).1 (gaT n d b (j+1)).2) from λ j u w' hj D5 B9 M4=>by
  have e:=ga1_iv w' (w.heap.size+1+1+1) (w.heap.size+1) (w.heap.size) u (b:Int) d n 1400 b ((j:Int)+1) (gaT n d b j) B9 (X0.bw M4) (D0.bw M4) (N0.bw M4) (by omega) D5 RY (by omega) (Yl (by omega) (by omega)) (by
   have:=Int.mul_le_mul (show (j:Int)+1<=70000 by omega) dd (by omega) (by omega)
   omega) n0 (by omega)
  have ec:((j+1:Nat):Int)=(j:Int)+1:=by omega
  have e2:gaT n d b (j+1)=zJ (gaT n d b j) ((b:Int)*d) (n+((j+1:Nat):Int)*d):=rfl;rw[e2,ec]
  exact e)
 have M5:=zC (show IntKind.i64.wrap (2*(b:Int))=((2*b:Nat):Int) from (jC _ (by omega) (by omega)).trans (by omega))
 have HK:=zC (show ∀ w',Below W.heap.size W w'->(w'.cell? ⟨w.heap.size,0,none⟩=some (.int .i64 n)/\w'.cell? ⟨w.heap.size+1,0,none⟩=some (.int .i64 d)/\w'.cell? ⟨w.heap.size+1+1+1,0,none⟩=some (.int .i64 (b:Int))) from λ w' hB=>⟨(N0.bw hB).c0,(D0.bw hB).c0,(X0.bw hB).c0⟩)
 clear h hL hg S8 PK f1 f2 f3 f4;have lR:=R.lt
 go_enter Tryz.func202,Tryz.ntmps202
 go_wp2;rw[<- hW];clear hW
 go_cut [8] (λ p wx=>∃ (B:Nat) (u:Sp),p=.pointer (some ⟨B,0,none⟩)/\W.heap.size<=B/\VrC wx B u/\SpAt wx u 1403 (jQ n d b NS).1 (jQ n d b NS).2/\u.bits=(b:Int)/\Below W.heap.size W wx)
 case first =>
  go_region_held3 (λ w'=>w'.cell? ⟨w.heap.size,0,none⟩=some (.int .i64 n)/\w'.cell? ⟨w.heap.size+1,0,none⟩=some (.int .i64 d)/\w'.cell? ⟨w.heap.size+1+1+1,0,none⟩=some (.int .i64 (b:Int))) (exact zA HK _ (by repeat' (first|with_reducible exact pZ|with_reducible exact W8|with_reducible exact J5|with_reducible exact G1|with_reducible exact Below.refl _ _|with_reducible refine Below.drew ?_|with_reducible refine zO ?_ _|with_reducible refine Below.setCell ?_ (by first|exact Yj _|exact J9|exact O5|exact dO|exact sJ) _)))
   (first
    | (go_at_call 182;have hq:=W8;rw[zA M5];refine (zD4 _ #[.pointer (some ⟨w.heap.size+1+1+1,0,none⟩),.pointer (some ⟨w.heap.size+1,0,none⟩),.pointer (some ⟨w.heap.size,0,none⟩)] en_ga (gaT n d b) (2*b) NS b 1400 1414 vS3 _ ((iH.bw (by with_reducible first|exact Below.refl _ _|exact bl1 _ _)).fits (K:=1400) (zA na).1 (zA na).2.1 (zA na).2.2) (zA yc) (by omega) (by omega) (by omega) (by omega) (zA HM) (by omega) (by omega) (zA eO) (zA S5) (zA ar) (zA eQ) (λ j u w' hj D5 B9 M4=>zA aT j u w' hj D5 B9 (zB (by with_reducible first|exact W8|exact zO W8 _) M4))).mono ?_;rintro r Qa ⟨PN,rfl,oH,Gf,rA⟩;have yd:=zC oH;clear oH;have cE:Below tH.heap.size tH Qa:=(by with_reducible first|exact rA|exact zB (bl1 _ _) rA);have pZ:=zB W8 cE;(try with_reducible have MR:=(zS tH 31).bw rA);replace I1:=I1.bw cE;(try replace P5:=P5.bw cE);replace Q3:=Q3.bw cE;(try replace bl:=bl.bw cE);replace iH:=iH.bw cE;(try replace pP:=pP.bw cE);have sJ:=pZ.size;(try have fZ:=P5.lt);(try have Fg:=Yo fZ);(try have pJ:=Nat.ne_of_gt fZ);(try obtain⟨aR,aS,eC,eE,eG,vn⟩:=P5);(try have mN:=bl.lt);(try have MI:=Yo mN);(try have ze:=Nat.ne_of_gt mN);(try obtain⟨eI,eJ,jr,js,jt,Ce⟩:=bl);(try have Ic:=pP.lt);(try have eS3:=Yo Ic);(try have SX:=Nat.ne_of_gt Ic);(try obtain⟨vo,vw,Kg,Kh,Ki,zS35⟩:=pP);(try have OV:=MR.lt);(try have eS4:=Yo OV);(try have SY:=Nat.ne_of_gt OV);(try obtain⟨Kj,Kk,Kl,Km,Kn,zS45⟩:=MR))
    | (go_at_call 88;have hq:=J5;refine (jL _ _ _ _ _ _ _ _ 4 4 b d n _ (I1.bw (by with_reducible first|exact Below.refl _ _|exact bl1 _ _)) (Q3.bw (by with_reducible first|exact Below.refl _ _|exact bl1 _ _)) (by omega) (by omega) n0).mono ?_;rintro r tH ⟨vS3,rfl,oG,iH,cW⟩;have yc:=zC oG;clear oG;have X7:Below eo.heap.size eo tH:=(by with_reducible first|exact cW|exact zB (bl1 _ _) cW);have W8:=zB J5 X7;(try with_reducible have pP:=(zS eo 31).bw cW);replace I1:=I1.bw X7;(try replace P5:=P5.bw X7);replace Q3:=Q3.bw X7;(try replace bl:=bl.bw X7);have dO:=W8.size)
    | (go_at_call 33;have hq:=G1;refine (zE n _ (by omega) (by omega)).mono ?_;rintro r eo ⟨BG,RM,Xb,Si,rfl,Q3,O2⟩;have Q2:Below Z2.heap.size Z2 eo:=(by with_reducible first|exact O2|exact zB (bl1 _ _) O2);have J5:=zB G1 Q2;(try with_reducible have bl:=(zS Z2 31).bw O2);replace I1:=I1.bw Q2;(try replace P5:=P5.bw Q2);have O5:=J5.size)
    | (go_at_call 33;refine (zE d _ (by omega) (by omega)).mono ?_;rintro r Z2 ⟨BD,RL,Xa,Sh,rfl,I1,J7⟩;have G1:Below W.heap.size W Z2:=(by with_reducible first|exact zB (Below.refl _ _).drew J7|exact zB (bl1 _ _).drew J7);(try with_reducible have P5:=((zS W 31).bw (Below.refl _ _).drew).bw J7);have J9:=G1.size))
  all_goals
   have hfinS:SpAt Qa PN 1403 (jQ n d b NS).1 (jQ n d b NS).2:=Gf;go_wp2_with fail;go_meet;refine⟨_,PN,rfl,?_,⟨⟨?_,?_,?_,?_,?_⟩,?_⟩,?_,zA yd,?_⟩
   ·first|exact Yj _|exact J9|exact O5|exact dO|exact sJ
   ·simp[go_sem, *]
   ·simp[go_sem, *]
   ·simp[go_sem, *]
   ·simp[go_sem, *]
   ·simp[go_sem, *]
   ·intro o;simp[go_sem, *]
   ·first|with_reducible exact SpAt.put5 hfinS Kj Kk Kl Km Kn _ _ _ _ _|with_reducible exact SpAt.put5 hfinS vo vw Kg Kh Ki _ _ _ _ _|with_reducible exact SpAt.put5 hfinS eI eJ jr js jt _ _ _ _ _|with_reducible exact SpAt.put5 hfinS aR aS eC eE eG _ _ _ _ _|with_reducible exact hfinS.bw (bl1 _ _)
   ·repeat' (first|with_reducible exact pZ|with_reducible exact W8|with_reducible exact J5|with_reducible exact G1|with_reducible exact Below.refl _ _|with_reducible refine Below.drew ?_|with_reducible refine zO ?_ _|with_reducible refine Below.setCell ?_ (by first|exact Yj _|exact J9|exact O5|exact dO|exact sJ) _)
 case rest =>
 obtain⟨BS,xS,rfl,qH,XS,hpS,hxbS,hblS⟩:=hcut;obtain⟨V1,R6⟩:∃ V,V=wc:=⟨_,rfl⟩;subst R6;replace N0:=N0.bw hblS;replace D0:=D0.bw hblS;replace X0:=X0.bw hblS;replace R:=R.bw hblS;replace j6:=zB j6 hblS;have xJ:=zC hxbS;have gx:=zC hpS;have lS:=XS.lt;clear hxbS hpS HK ar eQ eO S5 aT na M5;have HK:=zC (show ∀ w',Below V1.heap.size V1 w'->(w'.cell? ⟨w.heap.size,0,none⟩=some (.int .i64 n)/\w'.cell? ⟨w.heap.size+1,0,none⟩=some (.int .i64 d)/\w'.cell? ⟨w.heap.size+1+1+1,0,none⟩=some (.int .i64 (b:Int))) from λ w' hB=>⟨(N0.bw hB).c0,(D0.bw hB).c0,(X0.bw hB).c0⟩)
 have kf:=zC (show Q (b+4)<P 500 by
  rw[<- Q_P];have h1:=zK (show b+4+1<=16*500 by omega)
  have h2:Q (b+4+1)=2*Q (b+4):=rfl;have:=zF (b+4)
  omega)
 have d0:0<d:=by omega
 go_wp2_with fail
 go_cut [9] (λ p wx=>∃ (B:Nat) (u:Sp) (o:Int × Int),p=.pointer (some ⟨B,0,none⟩)/\zN2 L b o/\V1.heap.size<=B/\VrC wx B u/\SpAt wx u 534 (zJ o n d).1 (zJ o n d).2/\u.bits=(b:Int)/\Below V1.heap.size V1 wx)
 case first =>
  go_region_held3 (λ w'=>w'.cell? ⟨w.heap.size,0,none⟩=some (.int .i64 n)/\w'.cell? ⟨w.heap.size+1,0,none⟩=some (.int .i64 d)/\w'.cell? ⟨w.heap.size+1+1+1,0,none⟩=some (.int .i64 (b:Int))) (exact zA HK _ (by repeat' (first|with_reducible exact qg|with_reducible exact gZ|with_reducible exact gY|with_reducible exact aG|with_reducible exact X5|with_reducible exact Q1|with_reducible exact Below.refl _ _|with_reducible refine Below.drew ?_|with_reducible refine zO ?_ _|with_reducible refine Below.setCell ?_ (by first|exact Yj _|exact dV|exact dW|exact dX|exact sM|exact sN|exact sO) _)))
   (first
    | (go_at_call 151;have hq:=gZ;refine (zA4 _ vY3 ⟨BN,RQ,Xg,Sm⟩ ⟨BQ,RR,Xh,Sn⟩ 520 4 4 b (zF7 (zM (lnT n' d' b) N1) (zM (lnT 2 1 b) N2) cc) n d ((mv.bw (zB cJ aJ)).bw (by with_reducible first|exact Below.refl _ _|exact bl1 _ _)) (iL.bw (by with_reducible first|exact Below.refl _ _|exact bl1 _ _)) (qP.bw (by with_reducible first|exact Below.refl _ _|exact bl1 _ _)) (by omega) (by omega) d0 (zA yh)).mono ?_;rintro r Qc ⟨PS,rfl,oL,Gi,rE⟩;have yi:=zC oL;clear oL;have Z5:Below DW.heap.size DW Qc:=(by with_reducible first|exact rE|exact zB (bl1 _ _) rE);have qg:=zB gZ Z5;(try with_reducible have MT:=(zS DW 31).bw rE);replace L5:=L5.bw Z5;(try replace az:=az.bw Z5);replace Q4:=Q4.bw Z5;(try replace ct:=ct.bw Z5);(try replace gM:=gM.bw Z5);replace iL:=iL.bw Z5;(try replace vX:=vX.bw Z5);replace qP:=qP.bw Z5;(try replace CK:=CK.bw Z5);have sO:=qg.size;(try have Bq:=az.lt);(try have Te:=Yo Bq);(try have Fl:=Nat.ne_of_gt Bq);(try obtain⟨Cm,Cn,Co,KJ,KL,zY15⟩:=az);(try have Br:=ct.lt);(try have Tf:=Yo Br);(try have Fm:=Nat.ne_of_gt Br);(try obtain⟨Cp,Cq,Cr,KM,KN,zY25⟩:=ct);(try have Bt:=gM.lt);(try have Tg:=Yo Bt);(try have Fo:=Nat.ne_of_gt Bt);(try obtain⟨Cs,Ct,Cv,KO,KP,zY35⟩:=gM);(try have OX:=vX.lt);(try have eY4:=Yo OX);(try have Th:=Nat.ne_of_gt OX);(try obtain⟨KQ,KR,KS,KT,KV,zY45⟩:=vX);(try have OY:=CK.lt);(try have eY5:=Yo OY);(try have Ti:=Nat.ne_of_gt OY);(try obtain⟨KW,KX,KY,KZ,La,zY55⟩:=CK);(try have OZ:=MT.lt);(try have eY6:=Yo OZ);(try have Tj:=Nat.ne_of_gt OZ);(try obtain⟨Lb,Lc,Ld,Le,Lf,zY65⟩:=MT))
    | (go_at_call 33;have hq:=gY;refine (zE d _ (by omega) (by omega)).mono ?_;rintro r DW ⟨BQ,RR,Xh,Sn,rfl,qP,rD⟩;have aJ:Below DV.heap.size DV DW:=(by with_reducible first|exact rD|exact zB (bl1 _ _) rD);have gZ:=zB gY aJ;(try with_reducible have CK:=(zS DV 31).bw rD);replace L5:=L5.bw aJ;(try replace az:=az.bw aJ);replace Q4:=Q4.bw aJ;(try replace ct:=ct.bw aJ);(try replace gM:=gM.bw aJ);replace iL:=iL.bw aJ;(try replace vX:=vX.bw aJ);have sN:=gZ.size)
    | (go_at_call 33;have hq:=aG;refine (zE n _ (by omega) (by omega)).mono ?_;rintro r DV ⟨BN,RQ,Xg,Sm,rfl,iL,rC⟩;have cJ:Below xg.heap.size xg DV:=(by with_reducible first|exact rC|exact zB (bl1 _ _) rC);have gY:=zB aG cJ;(try with_reducible have vX:=(zS xg 31).bw rC);replace L5:=L5.bw cJ;(try replace az:=az.bw cJ);replace Q4:=Q4.bw cJ;(try replace ct:=ct.bw cJ);(try replace gM:=gM.bw cJ);have sM:=gY.size)
    | (go_at_call 125;have hq:=X5;refine (zA7 _ ⟨oZ,Mp,Pp,MC⟩ ⟨pc,Mq,Pq,MD⟩ 4 b 500 (b:Int) 1 (L5.bw (by with_reducible first|exact Below.refl _ _|exact bl1 _ _)) (Q4.bw (by with_reducible first|exact Below.refl _ _|exact bl1 _ _)) (by omega) (by omega) (by omega) (by omega) (by omega) (zA kf) (by omega)).mono ?_;rintro r xg ⟨n',d',cc,N1,N2,J8,o8,o9,P1,T7,vY3,rfl,oK,mv,dx⟩;have yh:=zC oK;clear oK;have QH:=zC (gaLog_of (zA HL) (by omega) (by omega) J8 P1 T7);clear J8 o8 o9 P1 T7;have X9:Below mY.heap.size mY xg:=(by with_reducible first|exact dx|exact zB (bl1 _ _) dx);have aG:=zB X5 X9;(try with_reducible have gM:=(zS mY 31).bw dx);replace L5:=L5.bw X9;(try replace az:=az.bw X9);replace Q4:=Q4.bw X9;(try replace ct:=ct.bw X9);have dX:=aG.size)
    | (go_at_call 33;have hq:=Q1;refine (zE 1 _ (by omega) (by omega)).mono ?_;rintro r mY ⟨pc,Mq,Pq,MD,rfl,Q4,dt⟩;have cH:Below mX.heap.size mX mY:=(by with_reducible first|exact dt|exact zB (bl1 _ _) dt);have X5:=zB Q1 cH;(try with_reducible have ct:=(zS mX 31).bw dt);replace L5:=L5.bw cH;(try replace az:=az.bw cH);have dW:=X5.size)
    | (go_at_call 33;refine (zE (b:Int) _ (by omega) (by omega)).mono ?_;rintro r mX ⟨oZ,Mp,Pp,MC,rfl,L5,di⟩;have Q1:Below V1.heap.size V1 mX:=(by with_reducible first|exact zB (Below.refl _ _).drew di|exact zB (bl1 _ _).drew di);(try with_reducible have az:=((zS V1 31).bw (Below.refl _ _).drew).bw di);have dV:=Q1.size))
  all_goals
   have hfinY:SpAt Qc PS 534 (zJ (zF7 (zM (lnT n' d' b) N1) (zM (lnT 2 1 b) N2) cc) n d).1 (zJ (zF7 (zM (lnT n' d' b) N1) (zM (lnT 2 1 b) N2) cc) n d).2:=Gi;go_wp2_with fail;go_meet;refine⟨_,PS,_,rfl,zA QH,?_,⟨⟨?_,?_,?_,?_,?_⟩,?_⟩,?_,zA yi,?_⟩
   ·first|exact Yj _|exact dV|exact dW|exact dX|exact sM|exact sN|exact sO
   ·simp[go_sem, *]
   ·simp[go_sem, *]
   ·simp[go_sem, *]
   ·simp[go_sem, *]
   ·simp[go_sem, *]
   ·intro o;simp[go_sem, *]
   ·first|with_reducible exact SpAt.put5 hfinY Lb Lc Ld Le Lf _ _ _ _ _|with_reducible exact SpAt.put5 hfinY KW KX KY KZ La _ _ _ _ _|with_reducible exact SpAt.put5 hfinY KQ KR KS KT KV _ _ _ _ _|with_reducible exact SpAt.put5 hfinY Cs Ct Cv KO KP _ _ _ _ _|with_reducible exact SpAt.put5 hfinY Cp Cq Cr KM KN _ _ _ _ _|with_reducible exact SpAt.put5 hfinY Cm Cn Co KJ KL _ _ _ _ _|with_reducible exact hfinY.bw (bl1 _ _)
   ·repeat' (first|with_reducible exact qg|with_reducible exact gZ|with_reducible exact gY|with_reducible exact aG|with_reducible exact X5|with_reducible exact Q1|with_reducible exact Below.refl _ _|with_reducible refine Below.drew ?_|with_reducible refine zO ?_ _|with_reducible refine Below.setCell ?_ (by first|exact Yj _|exact dV|exact dW|exact dX|exact sM|exact sN|exact sO) _)
 case rest =>
 obtain⟨BY,xY,oY,rfl,CV,Nh,XY,hpY,hxbY,hblY⟩:=hcut;obtain⟨V2,Y9⟩:∃ V,V=wc:=⟨_,rfl⟩;subst Y9;have pF:=XS.bw hblY;replace N0:=N0.bw hblY;replace D0:=D0.bw hblY;replace X0:=X0.bw hblY;replace R:=R.bw hblY;replace j6:=zB j6 hblY;replace gx:=zC ((zA gx).bw hblY);have HYB:=zC hxbY;have Rs:=zC hpY;clear hxbY hpY HK XS;have lY:=XY.lt;have lS2:=pF.lt;have GE:=gaY_ok (zA H) CV;obtain⟨l,t,NE,e1,e2,e3,e4,e5⟩:=zEE (B:=b) (e:=11) (by omega) GE.2.1 GE.2.2.2.1
 have GV:=gaG_ok (zA HL) (zA H) (zA HG) CV (by omega) e4 e5 ks (zA HM)
 have EO:=gaE_ok (zA H) CV (show t<=19 by omega) e4 e5
 have SO:=zLC (zA H) ks
 have pA:=zC (show Q (b+eb t)<P 500 by
  rw[<- Q_P];have ebm:=zB8 (show t<=19 by omega)
  have pN:eb 19=6144:=by decide
  rw[pN] at ebm;have h1:=zK (show b+eb t+1<=16*500 by omega)
  have h2:Q (b+eb t+1)=2*Q (b+eb t):=rfl;have:=zF (b+eb t)
  omega)
 have CB:=zC (show (gaY n d b oY).1<=(gaY n d b oY).2 /\ -P 500<(gaY n d b oY).1/\(gaY n d b oY).2<P 500 by
  have r:=GE.2.2.2.1;have ra:=zD1 GE.2.1;obtain⟨r1,r2,r3,r4⟩:=ra;have h1:=zK (show b+11<=16*500 by omega)
  rw[Q_P] at h1
  exact⟨GE.2.1,by omega,by omega⟩)
 have vH:=zC GV;have mZ:=zC e1;have Qx:=zC e2;have Qy:=zC e4;have Qz:=zC e5;have ht:t<=1000000:=by omega
 have vF:=zC (show 0<(gaE n d b oY t NE).1/\(gaE n d b oY t NE).1<=(gaE n d b oY t NE).2/\(jQ n d b NS).1<=(jQ n d b NS).2 by
  have:=zF b
  exact⟨by omega,EO.2.1,SO.2.1⟩)
 clear GE GV EO SO e1 e2 e3 e4 e5 CV;have HK:=zC (show ∀ w',Below V2.heap.size V2 w'->(w'.cell? ⟨w.heap.size,0,none⟩=some (.int .i64 n)/\w'.cell? ⟨w.heap.size+1,0,none⟩=some (.int .i64 d)/\w'.cell? ⟨w.heap.size+1+1+1,0,none⟩=some (.int .i64 (b:Int))/\cK w' BS xS (cK0 w' BY xY)) from λ w' hB=>⟨(N0.bw hB).c0,(D0.bw hB).c0,(X0.bw hB).c0,(pF.c.bw hB).c0,(pF.c.bw hB).c1,(pF.c.bw hB).c2,(pF.c.bw hB).c3,(pF.c.bw hB).c4,(XY.c.bw hB).c0,(XY.c.bw hB).c1,(XY.c.bw hB).c2,(XY.c.bw hB).c3,(XY.c.bw hB).c4⟩)
 go_wp2_with fail
 go_cut [10] (λ p wx=>∃ (B:Nat) (u:Sp),p=.pointer (some ⟨B,0,none⟩)/\V2.heap.size<=B/\VrC wx B u/\SpAt wx u 1600 (((zEC (jQ n d b NS).1 (jQ n d b NS).2 (gaE n d b oY t NE).1 (gaE n d b oY t NE).2 b,zF6 (jQ n d b NS).1 (jQ n d b NS).2 (gaE n d b oY t NE).1 (gaE n d b oY t NE).2 b):Int × Int)).1 (((zEC (jQ n d b NS).1 (jQ n d b NS).2 (gaE n d b oY t NE).1 (gaE n d b oY t NE).2 b,zF6 (jQ n d b NS).1 (jQ n d b NS).2 (gaE n d b oY t NE).1 (gaE n d b oY t NE).2 b):Int × Int)).2/\u.bits=(b:Int)/\Below V2.heap.size V2 wx)
 case first =>
  go_region_held3 (λ w'=>w'.cell? ⟨w.heap.size,0,none⟩=some (.int .i64 n)/\w'.cell? ⟨w.heap.size+1,0,none⟩=some (.int .i64 d)/\w'.cell? ⟨w.heap.size+1+1+1,0,none⟩=some (.int .i64 (b:Int))/\cK w' BS xS (cK0 w' BY xY)) (exact zA HK _ (by repeat' (first|with_reducible exact pW|with_reducible exact cA|with_reducible exact gX|with_reducible exact cx|with_reducible exact gW|with_reducible exact gV|with_reducible exact Below.refl _ _|with_reducible refine Below.drew ?_|with_reducible refine zO ?_ _|with_reducible refine Below.setCell ?_ (by first|exact Yj _|exact sz|exact sA|exact sD|exact sF|exact sG|exact sH) _)))
   (first
    | (go_at_call 162;have hq:=cA;refine (zC5 _ xS PJ 1403 b _ _ _ _ ((zA gx).bw (by with_reducible first|exact cA|exact zO cA _)) ((show SpAt _ PJ 500 (gaE n d b oY t NE).1 (gaE n d b oY t NE).2 from (qN.bw (by with_reducible first|exact Below.refl _ _|exact bl1 _ _))).mono (by omega)) (by omega) (by omega) (zA xJ) (zA vF).2.2 (zA vF).1 (zA vF).2.1).mono ?_;rintro r PY ⟨PL,rfl,oD,Gd,ry⟩;have xW:=zC oD;clear oD;have X6:Below DT.heap.size DT PY:=(by with_reducible first|exact ry|exact zB (bl1 _ _) ry);have pW:=zB cA X6;(try with_reducible have MP:=(zS DT 31).bw ry);replace Y1:=Y1.bw X6;(try replace fQ:=fQ.bw X6);replace aK:=aK.bw X6;(try replace kl:=kl.bw X6);replace cP:=cP.bw X6;(try replace ny:=ny.bw X6);replace iE:=iE.bw X6;(try replace vW:=vW.bw X6);replace qN:=qN.bw X6;(try replace CJ:=CJ.bw X6);have sH:=pW.size;(try have OL:=fQ.lt);(try have eO1:=Yo OL);(try have SJ:=Nat.ne_of_gt OL);(try obtain⟨Jq,Jr,Js,Jt,Jv,zO15⟩:=fQ);(try have OM:=kl.lt);(try have eO2:=Yo OM);(try have SK:=Nat.ne_of_gt OM);(try obtain⟨Jw,Jx,Jy,Jz,JA,zO25⟩:=kl);(try have OO:=ny.lt);(try have eO3:=Yo OO);(try have SL:=Nat.ne_of_gt OO);(try obtain⟨JB,JC,JD,JE,JF,zO35⟩:=ny);(try have OP:=vW.lt);(try have eO4:=Yo OP);(try have SM:=Nat.ne_of_gt OP);(try obtain⟨JG,JH,JI,JJ,JK,zO45⟩:=vW);(try have OQ:=CJ.lt);(try have eO5:=Yo OQ);(try have SN:=Nat.ne_of_gt OQ);(try obtain⟨JL,JM,JN,JO,JP,zO55⟩:=CJ);(try have OS:=MP.lt);(try have eO6:=Yo OS);(try have SP:=Nat.ne_of_gt OS);(try obtain⟨JQ,JR,JS,JT,JV,zO65⟩:=MP))
    | (go_at_call 77;have hq:=gX;refine (zB3 _ PI 500 b t NE (gaY n d b oY) l (SpAt.fits (K:=500) (show SpAt _ PI 541 (gaY n d b oY).1 (gaY n d b oY).2 from (iE.bw (by with_reducible first|exact Below.refl _ _|exact bl1 _ _))) (zA CB).1 (zA CB).2.1 (zA CB).2.2) (zA xV) (zA CB).1 (by omega) (by omega) (zA mZ) (zA Qx) ht (zA Qy) (zA Qz) (zA pA) (by omega)).mono ?_;rintro r DT ⟨PJ,rfl,oC,qN,rv⟩;have Mk:=zC oC;clear oC;have aH:Below DS.heap.size DS DT:=(by with_reducible first|exact rv|exact zB (bl1 _ _) rv);have cA:=zB gX aH;(try with_reducible have CJ:=(zS DS 31).bw rv);replace Y1:=Y1.bw aH;(try replace fQ:=fQ.bw aH);replace aK:=aK.bw aH;(try replace kl:=kl.bw aH);replace cP:=cP.bw aH;(try replace ny:=ny.bw aH);replace iE:=iE.bw aH;(try replace vW:=vW.bw aH);have sG:=cA.size)
    | (go_at_call 92;have hq:=cx;refine (zGR _ XW xY 540 b (ofI (b:Int) 1 b) (zJ oY n d) ((cP.bw (by with_reducible first|exact Below.refl _ _|exact bl1 _ _)).mono (by omega)) (((zA Rs).bw (by with_reducible first|exact cx|exact zO cx _)).mono (by omega)) (by omega) (zA xT)).mono ?_;rintro r DS ⟨PI,rfl,oB,iE,rm⟩;have xV:=zC oB;clear oB;have cC:Below DR.heap.size DR DS:=(by with_reducible first|exact rm|exact zB (bl1 _ _) rm);have gX:=zB cx cC;(try with_reducible have vW:=(zS DR 31).bw rm);replace Y1:=Y1.bw cC;(try replace fQ:=fQ.bw cC);replace aK:=aK.bw cC;(try replace kl:=kl.bw cC);replace cP:=cP.bw cC;(try replace ny:=ny.bw cC);have sF:=gX.size)
    | (go_at_call 88;have hq:=gW;refine (jL _ _ _ _ _ _ _ _ 4 4 b (b:Int) 1 _ (Y1.bw (by with_reducible first|exact Below.refl _ _|exact bl1 _ _)) (aK.bw (by with_reducible first|exact Below.refl _ _|exact bl1 _ _)) (by omega) (by omega) (by omega)).mono ?_;rintro r DR ⟨XW,rfl,oA,cP,rk⟩;have xT:=zC oA;clear oA;have iq:Below DQ.heap.size DQ DR:=(by with_reducible first|exact rk|exact zB (bl1 _ _) rk);have cx:=zB gW iq;(try with_reducible have ny:=(zS DQ 31).bw rk);replace Y1:=Y1.bw iq;(try replace fQ:=fQ.bw iq);replace aK:=aK.bw iq;(try replace kl:=kl.bw iq);have sD:=cx.size)
    | (go_at_call 33;have hq:=gV;refine (zE 1 _ (by omega) (by omega)).mono ?_;rintro r DQ ⟨Pw,aO2,nO2,cO2,rfl,aK,rj⟩;have qz:Below DP.heap.size DP DQ:=(by with_reducible first|exact rj|exact zB (bl1 _ _) rj);have gW:=zB gV qz;(try with_reducible have kl:=(zS DP 31).bw rj);replace Y1:=Y1.bw qz;(try replace fQ:=fQ.bw qz);have sA:=gW.size)
    | (go_at_call 33;refine (zE (b:Int) _ (by omega) (by omega)).mono ?_;rintro r DP ⟨Pv,aO1,nO1,cO1,rfl,Y1,ri⟩;have gV:Below V2.heap.size V2 DP:=(by with_reducible first|exact zB (Below.refl _ _).drew ri|exact zB (bl1 _ _).drew ri);(try with_reducible have fQ:=((zS V2 31).bw (Below.refl _ _).drew).bw ri);have sz:=gV.size))
  all_goals
   have hfinO:SpAt PY PL 1600 (((zEC (jQ n d b NS).1 (jQ n d b NS).2 (gaE n d b oY t NE).1 (gaE n d b oY t NE).2 b,zF6 (jQ n d b NS).1 (jQ n d b NS).2 (gaE n d b oY t NE).1 (gaE n d b oY t NE).2 b):Int × Int)).1 (((zEC (jQ n d b NS).1 (jQ n d b NS).2 (gaE n d b oY t NE).1 (gaE n d b oY t NE).2 b,zF6 (jQ n d b NS).1 (jQ n d b NS).2 (gaE n d b oY t NE).1 (gaE n d b oY t NE).2 b):Int × Int)).2:=Gd.mono (by omega)
   go_wp2_with fail;go_meet;refine⟨_,PL,rfl,?_,⟨⟨?_,?_,?_,?_,?_⟩,?_⟩,?_,zA xW,?_⟩
   ·first|exact Yj _|exact sz|exact sA|exact sD|exact sF|exact sG|exact sH
   ·simp[go_sem, *]
   ·simp[go_sem, *]
   ·simp[go_sem, *]
   ·simp[go_sem, *]
   ·simp[go_sem, *]
   ·intro o;simp[go_sem, *]
   ·first|with_reducible exact SpAt.put5 hfinO JQ JR JS JT JV _ _ _ _ _|with_reducible exact SpAt.put5 hfinO JL JM JN JO JP _ _ _ _ _|with_reducible exact SpAt.put5 hfinO JG JH JI JJ JK _ _ _ _ _|with_reducible exact SpAt.put5 hfinO JB JC JD JE JF _ _ _ _ _|with_reducible exact SpAt.put5 hfinO Jw Jx Jy Jz JA _ _ _ _ _|with_reducible exact SpAt.put5 hfinO Jq Jr Js Jt Jv _ _ _ _ _|with_reducible exact hfinO.bw (bl1 _ _)
   ·repeat' (first|with_reducible exact pW|with_reducible exact cA|with_reducible exact gX|with_reducible exact cx|with_reducible exact gW|with_reducible exact gV|with_reducible exact Below.refl _ _|with_reducible refine Below.drew ?_|with_reducible refine zO ?_ _|with_reducible refine Below.setCell ?_ (by first|exact Yj _|exact sz|exact sA|exact sD|exact sF|exact sG|exact sH) _)
 case rest =>
 obtain⟨BO,xO,rfl,hHO,XO,hpO,hxbO,hblO⟩:=hcut;obtain⟨V3,G9⟩:∃ V,V=wc:=⟨_,rfl⟩;subst G9;have lO:=XO.lt;replace R:=R.bw hblO;replace j6:=zB j6 hblO;have QX:=zC hxbO;have LZ:=zC hpO;have Mm:=zC XO;clear hxbO hpO HK X0 N0 D0 pF XY;have W5:=R.lt;have nRO:w.heap.size+1+1<BO:=by omega
 have Es:=zC (show ∀ w',Below V3.heap.size V3 w'->(w'.cell? ⟨BO,2,none⟩=some (.bool xO.hn)/\w'.cell? ⟨BO,3,none⟩=some (.slice xO.ha xO.hN xO.hc)) from λ w' hB=>⟨(XO.c.bw hB).c2,(XO.c.bw hB).c3⟩)
 have D8:Below V3.heap.size V3 V3.drew:=(Below.refl _ _).drew;clear XO;go_wp2_with fail;refine AnyL.start (S:=λ w'=>w'.cell? ⟨BO,2,none⟩=some (.bool xO.hn)/\w'.cell? ⟨BO,3,none⟩=some (.slice xO.ha xO.hN xO.hc)) (l:=5) (by kernel_rfl) (zA Es _ D8) (λ hHeld=>?_)
 refine AnyL.take (i:=0) (oi:={ dst:=some 42,op:=Go.Op.fieldAddr 31 (Go.Operand.tmp 10) 1,type:=0,pos := "gamma.go:50",after:=#[],guard:=none }) (v:=.pointer (some ⟨BO,2,none⟩)) rfl (by kernel_rfl) (by kernel_rfl) (by kernel_rfl) (by kernel_rfl) (λ _ _ _ h=>h) (Or.inl ⟨by rfl,λ w hSw=>?_⟩) hHeld ?_
 ·obtain⟨s0,s1⟩:=hSw;go_simp
 try simp only[Act.put,Ya,Yb,Yc]
 refine AnyL.take (i:=1) (oi:={ dst:=some 43,op:=Go.Op.load 29 (Go.Operand.tmp 42),type:=29,pos := "gamma.go:50",after:=#[{ on:=0,ground:=Go.Ground.data }],guard:=none }) (v:=.agg #[.bool xO.hn,.slice xO.ha xO.hN xO.hc]) rfl (by kernel_rfl) (by kernel_rfl) (by kernel_rfl) (by kernel_rfl) (λ _ _ _ h=>h) (Or.inl ⟨by rfl,λ w hSw=>?_⟩) hHeld ?_
 ·obtain⟨s0,s1⟩:=hSw;go_simp
 try simp only[Act.put,Ya,Yb,Yc]
 refine AnyL.one (i:=2) (o:={ dst:=some 44,op:=Go.Op.call { callee:=Go.Callee.value (Go.Operand.func 33),args:=#[Go.Operand.const (Go.Value.int Go.IntKind.i64 1)],argTypes:=#[3] },type:=29,pos := "gamma.go:50",after:=#[],guard:=none }) (by kernel_rfl) rfl (λ Kc I0=>?_)
 go_simp
 refine (zE 1 _ (by omega) (by omega)).mono ?_
 rintro r' w1 ⟨o7,a1,n1,c1,rfl,s9,b9⟩;have y9:=zB D8 b9;clear b9;go_wp2_with fail;refine I0.out _ _ (zA Es _ y9) (λ hHeld=>?_)
 clear I0 Kc
 try simp only[Act.put,Ya,Yb,Yc]
 refine AnyL.one (i:=3) (o:={ dst:=some 45,op:=Go.Op.call { callee:=Go.Callee.value (Go.Operand.func 32),args:=#[Go.Operand.tmp 43,Go.Operand.tmp 44],argTypes:=#[29,29] },type:=29,pos := "gamma.go:50",after:=#[{ on:=1,ground:=Go.Ground.data },{ on:=2,ground:=Go.Ground.data },{ on:=2,ground:=Go.Ground.chain }],guard:=none }) (by kernel_rfl) rfl (λ Kc I0=>?_)
 go_simp
 refine (zBN _ _ _ _ _ _ _ _ 1600 4 _ 1 _ ((zA LZ).hi.bw y9) s9 (by omega) (by omega)).mono ?_
 rintro r' w2 ⟨j7,a2,n2,c2,rfl,A8,j5⟩;have A6:=zB y9 j5;clear j5 s9;go_wp2_with fail;refine I0.out _ _ (zA Es _ A6) (λ hHeld=>?_)
 clear I0 Kc
 try simp only[Act.put,Ya,Yb,Yc]
 refine AnyL.take (i:=4) (oi:={ dst:=some 46,op:=Go.Op.fieldAddr 31 (Go.Operand.tmp 10) 1,type:=0,pos := "gamma.go:50",after:=#[{ on:=0,ground:=Go.Ground.phase },{ on:=1,ground:=Go.Ground.phase },{ on:=2,ground:=Go.Ground.phase },{ on:=3,ground:=Go.Ground.phase }],guard:=none }) (v:=.pointer (some ⟨BO,2,none⟩)) rfl (by kernel_rfl) (by kernel_rfl) (by kernel_rfl) (by kernel_rfl) (λ _ _ _ h=>h) (Or.inl ⟨by rfl,λ w hSw=>?_⟩) hHeld ?_
 ·obtain⟨s0,s1⟩:=hSw;go_simp
 try simp only[Act.put,Ya,Yb,Yc]
 refine AnyL.last (o:={ dst:=none,op:=Go.Op.store 29 (Go.Operand.tmp 46) (Go.Operand.tmp 45),type:=0,pos := "gamma.go:50",after:=#[{ on:=4,ground:=Go.Ground.data },{ on:=3,ground:=Go.Ground.data },{ on:=3,ground:=Go.Ground.chain },{ on:=0,ground:=Go.Ground.phase },{ on:=1,ground:=Go.Ground.phase },{ on:=2,ground:=Go.Ground.phase },{ on:=3,ground:=Go.Ground.phase }],guard:=none }) (by kernel_rfl) rfl (by kernel_rfl) (λ Kc I0=>?_)
 have V2:=(zA Mm).bw A6;have lA:=V2.lt;obtain⟨⟨y0,y1,y2,y3,y4⟩,y5⟩:=V2
 go_simp
 refine I0.out _ _ ?_;clear I0 Kc;have R2:=R.bw A6;obtain⟨V,hV⟩:∃ V,V=((w2.setCell ⟨BO,2,none⟩ (.bool j7)).setCell ⟨BO,3,none⟩ (.slice a2 n2 c2)):=⟨_,rfl⟩;have R3:NoC V (w.heap.size+1+1):=by rw[hV];exact R2.offH (by omega) _ _
 have A3:VrC V BO ⟨xO.ln,xO.la,xO.lN,xO.lc,j7,a2,n2,c2,xO.bits⟩:=by rw[hV];exact zL8 ((zA Mm).bw A6) ⟨j7,a2,n2,c2⟩
 have i1:IntAt V xO.ln xO.la xO.lN xO.lc 1600 (gaG n d b oY t NE NS).1:=by rw[hV];exact ((zA LZ).lo.bw A6).putH y2 y3 _ _
 have i2:IntAt V j7 a2 n2 c2 1601 (gaG n d b oY t NE NS).2:=by rw[hV];exact (show IntAt w2 j7 a2 n2 c2 1601 (gaG n d b oY t NE NS).2 from A8).putH y2 y3 _ _
 have D6:Below w.heap.size w V:=by rw[hV];exact ((zB j6 A6).setCell (p:=⟨BO,2,none⟩) (by show w.heap.size<=BO;omega) _).setCell (p:=⟨BO,3,none⟩) (by show w.heap.size<=BO;omega) _
 rw[<- hV];clear hV y0 y1 y2 y3 y4 y5 lA;have gv:=zA vH
 have fit:=SpAt.fits (K:=70) (show SpAt V ⟨xO.ln,xO.la,xO.lN,xO.lc,j7,a2,n2,c2,xO.bits⟩ 1601 (gaG n d b oY t NE NS).1 (gaG n d b oY t NE NS).2 from⟨i1.mono (by omega),i2⟩) gv.le (by
  have:=gv.lo;have:=zF b;have:0<P 70:=kY 70;omega) (by
  have h1:=zK (show b+43+1<=16*70 by omega)
  rw[Q_P] at h1;have h2:Q (b+43+1)=2*Q (b+43):=rfl;have:=zF (b+43);have:=gv.hi
  omega)
 clear gv i1 i2;have lA:=A3.lt;have fJ:=R3.lt;obtain⟨⟨y0,y1,y2,y3,y4⟩,y5⟩:=A3;obtain⟨q0,q1,q2,q3,q4,q5⟩:=R3;go_wp2_with fail;refine bodyPost_ret (v:=.agg #[.bool xO.ln,.slice xO.la xO.lN xO.lc,.bool j7,.slice a2 n2 c2,.int .i64 xO.bits]) (by simp[results,Tryz.results202,go_sem,q0,q1,q2,q3,q4]) rfl ⟨_,_,zA vH,⟨xO.ln,xO.la,xO.lN,xO.lc,j7,a2,n2,c2,xO.bits⟩,rfl,zA QX,?_,?_⟩
 ·exact SpAt.put5 fit q0 q1 q2 q3 q4 _ _ _ _ _
 ·exact kM D6 (by omega) _ _ _ _ _
theorem fieldG0 (x y:Bool) (a a':Option Addr) (n c n' c':Nat) (b:Int) (w:World):(Instr.field 31 (.agg #[.bool x,.slice a n c,.bool y,.slice a' n' c',.int .i64 b]) 0).run Tryz.prog w=.ok (.agg #[.bool x,.slice a n c]) w:=by kernel_rfl
theorem fieldG1 (x y:Bool) (a a':Option Addr) (n c n' c':Nat) (b:Int) (w:World):(Instr.field 31 (.agg #[.bool x,.slice a n c,.bool y,.slice a' n' c',.int .i64 b]) 1).run Tryz.prog w=.ok (.agg #[.bool y,.slice a' n' c']) w:=by kernel_rfl
theorem zM4 (w:World) (s:Sp) (b:Nat) (a:Int × Int) (hs:SpAt w s 70 a.1 a.2) (hbits:s.bits=(b:Int)) (M3:40<=b) (hb:b<=1000) (ha:0<a.1) (Al:a.1<=a.2) :
  Calls Tryz.prog 201 #[.agg s.q] w (λ r w'=>∃ (p1 p2 r1 r2:Int) (l1 l2:Nat->Rat),LsIn a b (p1,p2) (r1,r2) l1 l2/\LbOk b (p1,p2)/\LbOk b (r1,r2)/\zL w b 520 p1 r2 r w'):=by
 obtain⟨W,hW⟩:∃ W,W=(w.alloc (.cells s.q 31)).alloc (.cells zCq 31):=⟨_,rfl⟩;have j6:Below w.heap.size w W:=by rw[hW];exact bl2 _ _ _
 have A:SpC W w.heap.size s:=by rw[hW];constructor<;>simp[go_sem]
 have R:NoC W (w.heap.size+1):=by rw[hW];constructor<;>simp[go_sem]
 have HS:=zC (hs.bw j6);have HB:=zC hbits;have lR:=R.lt;have lA:=A.lt
 have kf:=zC (show Q (b+4)<P 500 by
  rw[<- Q_P];have h1:=zK (show b+4+1<=16*500 by omega)
  have h2:Q (b+4+1)=2*Q (b+4):=rfl;have:=zF (b+4)
  omega)
 have cm:=zC (show 0<Q b by have:=zF b;omega)
 have HO:=zC (show 1*Q b=Q b by omega)
 have HA:=zC (show 0<a.1/\0<a.2/\a.1<=a.2 from⟨ha,by omega,Al⟩)
 have HK:=zC (show ∀ w',Below W.heap.size W w'->(cK0 w' w.heap.size s) from λ w' hB=>⟨(A.bw hB).c0,(A.bw hB).c1,(A.bw hB).c2,(A.bw hB).c3,(A.bw hB).c4⟩)
 clear hs hbits ha Al;have Aw:=fieldG0;have Vs:=fieldG1
 go_enter Tryz.func201,Tryz.ntmps201
 go_wp2;rw[<- hW];clear hW lR
 go_cut [3] (λ p wx=>∃ (B:Nat) (u:Nm),p=.pointer (some ⟨B,0,none⟩)/\W.heap.size<=B/\NmC wx B u/\IntAt wx u.neg u.a u.n u.cap 70 (Q b)/\Below W.heap.size W wx)
 case first =>
  have D8:Below W.heap.size W W.drew:=(Below.refl _ _).drew
  go_region_held3 (λ w'=>cK0 w' w.heap.size s) (exact zA HK _ (by repeat' (first|with_reducible exact A7|with_reducible exact C9|with_reducible exact Below.refl _ _|with_reducible refine Below.drew ?_|with_reducible refine zO ?_ _|with_reducible refine Below.setCell ?_ (by first|exact Yj _|exact ak|exact Z9) _)))
   (first
    | (go_at_call 116;have hq:=C9;refine (zF2 _ _ _ _ _ b 4 1 _ (zA HB) (s9.bw (by with_reducible first|exact Below.refl _ _|exact bl1 _ _)) (by omega) (by omega)).mono ?_;rintro r w2 ⟨j7,a2,n2,c2,rfl,A8,j5⟩;have ie:Below w1.heap.size w1 w2:=(by with_reducible first|exact j5|exact zB (bl1 _ _) j5);have A7:=zB C9 ie;(try with_reducible have g2:=(kG w1 29).bw j5);(try replace g1:=g1.bw ie);have Z9:=A7.size;(try have m1:=g1.lt);(try have m2:=g2.lt);(try obtain⟨z10,z11,z1f⟩:=g1);(try obtain⟨z20,z21,z2f⟩:=g2))
    | (go_at_call 33;refine (zE 1 _ (by omega) (by omega)).mono ?_;rintro r w1 ⟨o7,a1,n1,c1,rfl,s9,b9⟩;have C9:Below W.heap.size W w1:=(by with_reducible first|exact zB (Below.refl _ _).drew b9|exact zB (bl1 _ _).drew b9);(try with_reducible have g1:=((kG W 29).bw (Below.refl _ _).drew).bw b9);have ak:=C9.size))
  all_goals
   have rO:IntAt w2 j7 a2 n2 c2 70 (Q b):=by rw[zA HO] at A8;exact A8.mono (by omega)
   go_wp2_with fail;go_meet;refine⟨_,⟨j7,a2,n2,c2⟩,rfl,?_,⟨?_,?_⟩,?_,?_⟩
   ·first|exact Yj _|exact ak|exact Z9
   ·simp[go_sem, *]
   ·simp[go_sem, *]
   ·first|with_reducible exact rO.put2 z20 z21 _ _|with_reducible exact rO.put2 z10 z11 _ _|with_reducible exact rO.bw (bl1 _ _)
   ·repeat' (first|with_reducible exact A7|with_reducible exact C9|with_reducible exact Below.refl _ _|with_reducible refine Below.drew ?_|with_reducible refine zO ?_ _|with_reducible refine Below.setCell ?_ (by first|exact Yj _|exact ak|exact Z9) _)
 case rest =>
 obtain⟨BU,U,rfl,Ac,CU,hU,hblU⟩:=hcut;have lR:=R.lt;have A2:=A.bw hblU;replace R:=R.bw hblU;replace HS:=zC ((zA HS).bw hblU);replace j6:=zB j6 hblU;have nRU:w.heap.size+1<BU:=by omega
 have HU:=zC hU;have gj:=zC (show ∀ w',Below wc.heap.size wc w'->(cK w' w.heap.size s (nK0 w' BU U)) from λ w' hB=>⟨(A2.bw hB).c0,(A2.bw hB).c1,(A2.bw hB).c2,(A2.bw hB).c3,(A2.bw hB).c4,(CU.bw hB).c0,(CU.bw hB).c1⟩)
 have lU:=CU.lt;clear hU HK hblU A2 CU;have n1:w.heap.size+1≠w.heap.size:=by omega
 have n2:w.heap.size+1≠BU:=by omega
 have D8:Below wc.heap.size wc wc.drew:=(Below.refl _ _).drew;obtain⟨x0,x1,x2,x3,x4,y0,y1⟩:=zA gj _ (Below.refl _ _);go_wp2_with fail
 go_region_held3 (λ w'=>cK w' w.heap.size s (nK0 w' BU U)) (first|exact zA gj _ (by with_reducible first|exact D8|exact A6|exact y9)|(dsimp only[cK,cK0,nK,nK0,rK,rK0];go_keep)|go_keep)
  (first
   | (go_at_call 125;have K9:=y9;(try rw[zA HB]);refine (zA7 _ ⟨s.hn,s.ha,s.hN,s.hc⟩ U 70 b 500 a.2 (Q b) ((zA HS).hi.bw y9) ((zA HU).bw y9) (by omega) (zA HA).2.1 (zA cm) (by omega) (by omega) (zA kf) (by omega)).mono ?_;rintro r' w2 ⟨Ph,d2',cc2,RH,RI,nQ,Ap,Aq,Ah,Ai,v2,rfl,Q8,A8,j5⟩;have A6:=zB y9 j5;clear Q8;replace s9:=s9.bw j5;have nt:=zC (And.intro nQ (And.intro Ap (And.intro Aq (And.intro Ah Ai))));clear nQ Ap Aq Ah Ai;obtain⟨q0,q1,q2,q3,q4,q5⟩:=R.bw A6;obtain⟨i0,i1,i2,i3,i4,j0,j1⟩:=zA gj _ A6)
   | (go_at_call 125;(try rw[zA HB]);refine (zA7 _ ⟨s.ln,s.la,s.lN,s.lc⟩ U 70 b 500 a.1 (Q b) ((zA HS).lo.bw D8) ((zA HU).bw D8) (by omega) (zA HA).1 (zA cm) (by omega) (by omega) (zA kf) (by omega)).mono ?_;rintro r' w1 ⟨lv,d1',cc1,RF,RG,nP,Am,Ao,Af,Ag,v1,rfl,I3,s9,b9⟩;have y9:=zB D8 b9;clear I3;have Ro:=zC (And.intro nP (And.intro Am (And.intro Ao (And.intro Af Ag))));clear nP Am Ao Af Ag))
 all_goals
  go_wp2_with fail;have Nz:=zA HB;obtain⟨yw,Sb,Sc,Xy,Xz⟩:=zA Ro;obtain⟨yx,Sd,Se,XA,XB⟩:=zA nt;obtain⟨l1,g1,i1⟩:=zFS (zA HA).1 (zA cm) yw b RF RG;obtain⟨l2,g2,i2⟩:=zFS (zA HA).2.1 (zA cm) yx b RH RI;refine bodyPost_ret (v:=.agg #[.bool v1.ln,.slice v1.la v1.lN v1.lc,.bool v2.hn,.slice v2.ha v2.hN v2.hc,.int .i64 (b:Int)]) (by simp[results,Tryz.results201,go_sem,q0,q1,q2,q3,q4]) rfl ⟨_,_,_,_,l1,l2,⟨(zA HA).1,(zA HA).2.2,g1,g2,i1,i2⟩,lb_of (by omega) hb yw.1 Xy Xz 70 (by omega) Sb Sc,lb_of (by omega) hb yx.1 XA XB 70 (by omega) Sd Se,⟨v1.ln,v1.la,v1.lN,v1.lc,v2.hn,v2.ha,v2.hN,v2.hc,(b:Int)⟩,rfl,rfl,?_,?_⟩
  ·exact SpAt.put5 (show SpAt _ (⟨v1.ln,v1.la,v1.lN,v1.lc,v2.hn,v2.ha,v2.hN,v2.hc,(b:Int)⟩:Sp) 520 _ _ from⟨s9.lo,A8.hi⟩) q0 q1 q2 q3 q4 _ _ _ _ _
  ·exact kM (zB j6 A6) (Nat.le_succ _) _ _ _ _ _
theorem GaV.pos {g:Nat->Rat} {B:Nat} {a:Int × Int} (h:GaV g B a):0<a.1:=by have:=h.lo;have:=zF B;omega
end Go.Proofs.YtgmnknmjainabacGreat
