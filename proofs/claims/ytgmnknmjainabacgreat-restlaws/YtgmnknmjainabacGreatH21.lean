/-
  Its own texts.
-/
import Derived.Test.YtgmnknmjainabacGreatH20
set_option maxRecDepth 100000
set_option maxHeartbeats 40000000
set_option linter.unnecessarySimpa false
set_option linter.unusedSimpArgs false
set_option linter.unusedVariables false
namespace Go.Proofs.YtgmnknmjainabacGreat
open Go.RowKit
attribute [local go_sem ↓] Go.wp_at_zero Go.wp_at_succ
structure StSt (w wr:World) (BX BY:Nat) (X Y:Nm) (k:Nat) (p q:Int):Prop where
 x:VnC wr BX X
 y:VnC wr BY Y
 ix:IntAt wr X.neg X.a X.n X.cap k p
 iy:IntAt wr Y.neg Y.a Y.n Y.cap k q
 n1:NoI wr w.heap.size
 n2:NoI wr (w.heap.size+1)
 be:Below w.heap.size w wr
 l1:w.heap.size+1<BX
 l2:w.heap.size+1<BY
 ne:BX≠BY
theorem StSt.bw {w wr wr':World} {BX BY:Nat} {X Y:Nm} {k:Nat} {p q:Int} (h:StSt w wr BX BY X Y k p q) (hb:Below wr.heap.size wr wr'):StSt w wr' BX BY X Y k p q :=
 ⟨h.x.bw hb,h.y.bw hb,h.ix.bw hb,h.iy.bw hb,h.n1.bw hb,h.n2.bw hb,zB h.be hb,h.l1,h.l2,h.ne⟩
theorem NoI.offs {w:World} {B B':Nat} (h:NoI w B) (hne:B≠B') (y:Nm):NoI (zCB w B' y) B:=by
 obtain⟨q0,q1,q2⟩:=h;exact⟨by simp[go_sem,q0,hne,Ne.symm hne],by simp[go_sem,q1,hne,Ne.symm hne],zAE q2 _ _⟩
theorem StSt.put {w wr:World} {BX BY:Nat} {X Y X' Y':Nm} {k k':Nat} {p q p' q':Int} (h:StSt w wr BX BY X Y k p q) (hx:IntAt wr X'.neg X'.a X'.n X'.cap k' p') (hy:IntAt wr Y'.neg Y'.a Y'.n Y'.cap k' q'):StSt w (zCB (zCB wr BX X') BY Y') BX BY X' Y' k' p' q' :=
 have x1:=h.x.put X';have y1:=h.y.off (Ne.symm h.ne) X'
 ⟨x1.off h.ne Y',y1.put Y',(hx.putv h.x X').putv y1 Y',(hy.putv h.x X').putv y1 Y',(h.n1.offs (by have:=h.l1;omega) X').offs (by have:=h.l2;omega) Y',(h.n2.offs (by have:=h.l1;omega) X').offs (by have:=h.l2;omega) Y',zE4 (zE4 h.be (by have:=h.l1;omega) _ _) (by have:=h.l2;omega) _ _,h.l1,h.l2,h.ne⟩
theorem st_end {w wr:World} {BX BY:Nat} {X Y:Nm} {k:Nat} {p q:Int} (h:StSt w wr BX BY X Y k p q):IntAt (zCB (zCB wr w.heap.size X) (w.heap.size+1) Y) X.neg X.a X.n X.cap k p/\IntAt (zCB (zCB wr w.heap.size X) (w.heap.size+1) Y) Y.neg Y.a Y.n Y.cap k q/\Below w.heap.size w (zCB (zCB wr w.heap.size X) (w.heap.size+1) Y):=by
 have n2:=h.n2.offs (B':=w.heap.size) (by omega) X
 obtain⟨a0,a1,af⟩:=h.n1;obtain⟨b0,b1,bf⟩:=n2;exact⟨(h.ix.put2 a0 a1 _ _).put2 b0 b1 _ _,(h.iy.put2 a0 a1 _ _).put2 b0 b1 _ _,zE4 (zE4 h.be (Zb _) _ _) (Nat.le_succ _) _ _⟩
theorem zTV (w:World) (n d:Int) (h:StIn n d) (hn:n<=4611686018427387904) :
  Calls Tryz.prog 200 #[.int .i64 n,.int .i64 d] w (λ r w'=>∃ X Y:Nm,r=.returned (.tuple #[.int .i64 (n-(stN n d:Int)*d),.agg X.q,.agg Y.q])/\IntAt w' X.neg X.a X.n X.cap (4*stN n d+4) (stP n d (stN n d))/\IntAt w' Y.neg Y.a Y.n Y.cap (4*stN n d+4) (stQ d (stN n d))/\Below w.heap.size w w'):=by
 obtain⟨W,hW⟩:∃ W,W=(w.alloc (.cells #[.bool false,.slice none 0 0] 29)).alloc (.cells #[.bool false,.slice none 0 0] 29):=⟨_,rfl⟩;have j8:Below w.heap.size w W:=by rw[hW];exact bl2 _ _ _
 have R1:NoI W w.heap.size:=by rw[hW];exact (kA w _).bw (bl1 _ _)
 have R2:NoI W (w.heap.size+1):=by rw[hW];constructor<;>simp[go_sem]
 have d0:=h.d0;have dd:=h.dd;have CV:=h.rest.2.2;have H:=zC h;clear h
 go_enter Tryz.func200,Tryz.ntmps200
 go_wp2_with fail;rw[<- hW];clear hW;refine (zD 1 _ (by decide) (by decide)).mono ?_
 rintro r' w1 ⟨m9,a1,n1,c1,rfl,o8,b9⟩;replace R1:=R1.bw b9;replace R2:=R2.bw b9;replace j8:=zB j8 b9;clear b9;go_wp2_with fail;refine (zD 1 _ (by decide) (by decide)).mono ?_
 rintro r' w2 ⟨j6,a2,n2,c2,rfl,A5,j7⟩;replace R1:=R1.bw j7;replace R2:=R2.bw j7;replace j8:=zB j8 j7;replace o8:=o8.bw j7;clear j7;have lR:=R2.lt;obtain⟨V1,L8⟩:∃ V1,V1=(w2.alloc (.cells #[.bool m9,.slice a1 n1 c1] 29)).alloc (.cells #[.bool j6,.slice a2 n2 c2] 29):=⟨_,rfl⟩;have aB:Below w2.heap.size w2 V1:=by rw[L8];exact bl2 _ _ _
 have iD:StSt w V1 w2.heap.size (w2.heap.size+1) ⟨m9,a1,n1,c1⟩ ⟨j6,a2,n2,c2⟩ (4*0+4) (stP n d 0) (stQ d 0):=⟨by rw[L8];exact (zUE w2 ⟨m9,a1,n1,c1⟩ _).bw (bl1 _ _),by rw[L8];exact⟨⟨by simp[go_sem],by simp[go_sem]⟩,λ o=>by simp[go_sem]⟩,o8.bw aB,A5.bw aB,R1.bw aB,R2.bw aB,zB j8 aB,lR,by omega,by omega⟩
 go_wp2_with fail;rw[<- L8];clear L8 aB o8 A5 R1 R2 j8;obtain⟨BX,Bw⟩:∃ B,B=w2.heap.size:=⟨_,rfl⟩;obtain⟨BY,Py⟩:∃ B',B'=w2.heap.size+1:=⟨_,rfl⟩;rw[<- Py,<- Bw] at iD ⊢;clear Bw Py lR
 go_loopw [0] (λ nn wr=>∃ (i:Nat) (X Y:Nm),nn=.int .i64 (n-(i:Int)*d)/\i<=stN n d/\StSt w wr BX BY X Y (4*i+4) (stP n d i) (stQ d i)) (λ nn _=>(intOf nn).toNat)
 case atStart=>exact⟨0,_,_,by simp,Nat.zero_le _,iD⟩
 case round =>
  obtain⟨i,X,Y,rfl,hi,st⟩:=hrel;clear iD;have p0:=(st_at (zA H) hi).1;have id0:=Zc (show (0:Int)<=(i:Int) by omega) (show 0<=d by omega)
  by_cases I9:i<stN n d
  ·have mA:d<n-(i:Int)*d:=(st_at (zA H) hi).2 I9
   have HX:=zC st.x;have HY:=zC st.y;have HI:=zC st.ix;have HJ:=zC st.iy;have nY:=zC st;have Z6:=zC (show IntKind.i64.wrap (n-(i:Int)*d-d)=n-(i:Int)*d-d from jI _ (by omega) (by omega))
   have HR:=zC (show -9223372036854775808<=n-(i:Int)*d-d/\n-(i:Int)*d-d<=9223372036854775807 from⟨by omega,by omega⟩)
   clear st;go_wp2_with fail;have D5:Below wr.heap.size wr wr.drew:=(Below.refl _ _).drew;have iF:=zC (show ∀ w',Below wr.heap.size wr w'->(nK0 w' BX X) from λ w' hB=>⟨((zA HX).bw hB).c.c0,((zA HX).bw hB).c.c1⟩)
   have gj:=zC (show ∀ w',Below wr.heap.size wr w'->(nK0 w' BY Y) from λ w' hB=>⟨((zA HY).bw hB).c.c0,((zA HY).bw hB).c.c1⟩)
   refine AnyS.start (S:=λ j w'=>(j=6\/j=7\/j=10\/j=11\/(w'.cell? ⟨BX,0,none⟩=some (.bool X.neg)/\w'.cell? ⟨BX,1,none⟩=some (.slice X.a X.n X.cap)))/\(j=11\/(w'.cell? ⟨BY,0,none⟩=some (.bool Y.neg)/\w'.cell? ⟨BY,1,none⟩=some (.slice Y.a Y.n Y.cap)))) (by kernel_rfl) ?_
   refine AnyS.take (i:=6) (oi:={ dst:=some 23,op:=Go.Op.load 29 (Go.Operand.tmp 8),type:=29,pos := "gamma.go:37",after:=#[],guard:=none }) (v:=.agg Y.q) (T:=λ w'=>nK0 w' BY Y) rfl (by kernel_rfl) (by kernel_rfl) (by kernel_rfl) (λ _ _ _ h=>h) 11 1 (λ j hl hj w h=>h.2.elim (λ e=>absurd e (by omega)) id) (by kernel_rfl) (λ w h=>⟨Or.inl rfl,Or.inr h⟩) (Or.inl ⟨by rfl,λ w hSw=>?_⟩) (zA gj _ D5) ?_
   ·obtain⟨s0,s1⟩:=hSw;go_simp
   try simp only[Act.put,YQ,YR,YS]
   refine AnyS.take (i:=7) (oi:={ dst:=some 24,op:=Go.Op.move (Go.Operand.tmp 1),type:=3,pos := "gamma.go:37",after:=#[],guard:=none }) (v:=.int .i64 d) (T:=λ w'=>nK0 w' BY Y) rfl (by kernel_rfl) (by kernel_rfl) (by kernel_rfl) (λ _ _ _ h=>h) 11 1 (λ j hl hj w h=>h.2.elim (λ e=>absurd e (by omega)) id) (by kernel_rfl) (λ w h=>⟨Or.inr (Or.inl rfl),Or.inr h⟩) (Or.inl ⟨by rfl,λ w hSw=>?_⟩) (zA gj _ D5) ?_
   ·go_simp
   try simp only[Act.put,YQ,YR,YS]
   refine AnyS.take (i:=0) (oi:={ dst:=some 17,op:=Go.Op.load 29 (Go.Operand.tmp 7),type:=29,pos := "gamma.go:37",after:=#[],guard:=none }) (v:=.agg X.q) (T:=λ w'=>(nK0 w' BX X)/\(nK0 w' BY Y)) rfl (by kernel_rfl) (by kernel_rfl) (by kernel_rfl) (λ _ _ _ h=>h) 10 2 (λ j hl hj w h=>⟨h.1.elim (λ e=>absurd hl (by rw[e];decide)) (λ h=>h.elim (λ e=>absurd hl (by rw[e];decide)) (λ h=>h.elim (λ e=>absurd e (by omega)) (λ h=>h.elim (λ e=>absurd e (by omega)) id))),h.2.elim (λ e=>absurd e (by omega)) id⟩) (by kernel_rfl) (λ w h=>⟨Or.inr (Or.inr (Or.inr (Or.inr h.1))),Or.inr h.2⟩) (Or.inl ⟨by rfl,λ w hSw=>?_⟩) ⟨zA iF _ D5,zA gj _ D5⟩ ?_
   ·obtain⟨⟨s0,s1⟩,_⟩:=hSw;go_simp
   try simp only[Act.put,YQ,YR,YS]
   refine AnyS.take (i:=1) (oi:={ dst:=some 18,op:=Go.Op.move (Go.Operand.tmp 0),type:=3,pos := "gamma.go:37",after:=#[],guard:=none }) (v:=.int .i64 (n-(i:Int)*d)) (T:=λ w'=>(nK0 w' BX X)/\(nK0 w' BY Y)) rfl (by kernel_rfl) (by kernel_rfl) (by kernel_rfl) (λ _ _ _ h=>h) 10 2 (λ j hl hj w h=>⟨h.1.elim (λ e=>absurd hl (by rw[e];decide)) (λ h=>h.elim (λ e=>absurd hl (by rw[e];decide)) (λ h=>h.elim (λ e=>absurd e (by omega)) (λ h=>h.elim (λ e=>absurd e (by omega)) id))),h.2.elim (λ e=>absurd e (by omega)) id⟩) (by kernel_rfl) (λ w h=>⟨Or.inr (Or.inr (Or.inr (Or.inr h.1))),Or.inr h.2⟩) (Or.inl ⟨by rfl,λ w hSw=>?_⟩) ⟨zA iF _ D5,zA gj _ D5⟩ ?_
   ·go_simp
   try simp only[Act.put,YQ,YR,YS]
   refine AnyS.take (i:=2) (oi:={ dst:=some 19,op:=Go.Op.move (Go.Operand.tmp 1),type:=3,pos := "gamma.go:37",after:=#[],guard:=none }) (v:=.int .i64 d) (T:=λ w'=>(nK0 w' BX X)/\(nK0 w' BY Y)) rfl (by kernel_rfl) (by kernel_rfl) (by kernel_rfl) (λ _ _ _ h=>h) 10 2 (λ j hl hj w h=>⟨h.1.elim (λ e=>absurd hl (by rw[e];decide)) (λ h=>h.elim (λ e=>absurd hl (by rw[e];decide)) (λ h=>h.elim (λ e=>absurd e (by omega)) (λ h=>h.elim (λ e=>absurd e (by omega)) id))),h.2.elim (λ e=>absurd e (by omega)) id⟩) (by kernel_rfl) (λ w h=>⟨Or.inr (Or.inr (Or.inr (Or.inr h.1))),Or.inr h.2⟩) (Or.inl ⟨by rfl,λ w hSw=>?_⟩) ⟨zA iF _ D5,zA gj _ D5⟩ ?_
   ·go_simp
   try simp only[Act.put,YQ,YR,YS]
   refine AnyS.take (i:=3) (oi:={ dst:=some 20,op:=Go.Op.binOp Go.BinOp.sub 3 (Go.Operand.tmp 18) (Go.Operand.tmp 19) 3,type:=3,pos := "gamma.go:37",after:=#[{ on:=1,ground:=Go.Ground.data },{ on:=2,ground:=Go.Ground.data }],guard:=none }) (v:=.int .i64 (n-(i:Int)*d-d)) (T:=λ w'=>(nK0 w' BX X)/\(nK0 w' BY Y)) rfl (by kernel_rfl) (by kernel_rfl) (by kernel_rfl) (λ _ _ _ h=>h) 10 2 (λ j hl hj w h=>⟨h.1.elim (λ e=>absurd hl (by rw[e];decide)) (λ h=>h.elim (λ e=>absurd hl (by rw[e];decide)) (λ h=>h.elim (λ e=>absurd e (by omega)) (λ h=>h.elim (λ e=>absurd e (by omega)) id))),h.2.elim (λ e=>absurd e (by omega)) id⟩) (by kernel_rfl) (λ w h=>⟨Or.inr (Or.inr (Or.inr (Or.inr h.1))),Or.inr h.2⟩) (Or.inl ⟨by rfl,λ w hSw=>?_⟩) ⟨zA iF _ D5,zA gj _ D5⟩ ?_
   ·go_simp;rw[zA Z6]
   try simp only[Act.put,YQ,YR,YS]
   refine AnyS.one (i:=4) (o:={ dst:=some 21,op:=Go.Op.call { callee:=Go.Callee.value (Go.Operand.func 33),args:=#[Go.Operand.tmp 20],argTypes:=#[3] },type:=29,pos := "gamma.go:37",after:=#[{ on:=3,ground:=Go.Ground.data }],guard:=none }) (by kernel_rfl) rfl (λ Kc I7=>?_)
   go_simp
   refine (zD (n-(i:Int)*d-d) _ (zA HR).1 (zA HR).2).mono ?_;rintro r' w1 ⟨m9,a1,n1,c1,rfl,o8,b9⟩;have s9:=zB D5 b9;clear b9;go_wp2_with fail;refine I7.out _ _ ⟨Or.inr (Or.inr (Or.inr (Or.inr (zA iF _ s9)))),Or.inr (zA gj _ s9)⟩ (λ _=>?_)
   clear I7 Kc
   try simp only[Act.put,YQ,YR,YS]
   refine AnyS.one (i:=5) (o:={ dst:=some 22,op:=Go.Op.call { callee:=Go.Callee.value (Go.Operand.func 83),args:=#[Go.Operand.tmp 17,Go.Operand.tmp 21],argTypes:=#[29,29] },type:=29,pos := "gamma.go:37",after:=#[{ on:=0,ground:=Go.Ground.data },{ on:=4,ground:=Go.Ground.data },{ on:=4,ground:=Go.Ground.chain }],guard:=none }) (by kernel_rfl) rfl (λ Kc I7=>?_)
   go_simp
   refine (zX _ _ _ _ _ _ _ _ (4*i+4) 4 (stP n d i) (n-(i:Int)*d-d) _ ((zA HI).bw s9) o8 (by omega) (by omega)).mono ?_
   rintro r' w2 ⟨j6,a2,n2,c2,rfl,A5,j7⟩;have p9:=zB s9 j7;clear j7 o8;go_wp2_with fail;refine I7.out _ _ ⟨Or.inr (Or.inr (Or.inr (Or.inr (zA iF _ p9)))),Or.inr (zA gj _ p9)⟩ (λ _=>?_)
   clear I7 Kc
   try simp only[Act.put,YQ,YR,YS]
   refine AnyS.one (i:=8) (o:={ dst:=some 25,op:=Go.Op.call { callee:=Go.Callee.value (Go.Operand.func 33),args:=#[Go.Operand.tmp 24],argTypes:=#[3] },type:=29,pos := "gamma.go:37",after:=#[{ on:=7,ground:=Go.Ground.data },{ on:=5,ground:=Go.Ground.chain }],guard:=none }) (by kernel_rfl) rfl (λ Kc I7=>?_)
   go_simp
   refine (zD d _ (by omega) (by omega)).mono ?_
   rintro r' w3 ⟨B8,a3,n3,c3,rfl,G0,o7⟩;have F9:=zB p9 o7;replace A5:=A5.bw o7;clear o7;go_wp2_with fail;refine I7.out _ _ ⟨Or.inr (Or.inr (Or.inr (Or.inr (zA iF _ F9)))),Or.inr (zA gj _ F9)⟩ (λ _=>?_)
   clear I7 Kc
   try simp only[Act.put,YQ,YR,YS]
   refine AnyS.one (i:=9) (o:={ dst:=some 26,op:=Go.Op.call { callee:=Go.Callee.value (Go.Operand.func 83),args:=#[Go.Operand.tmp 23,Go.Operand.tmp 25],argTypes:=#[29,29] },type:=29,pos := "gamma.go:37",after:=#[{ on:=6,ground:=Go.Ground.data },{ on:=8,ground:=Go.Ground.data },{ on:=8,ground:=Go.Ground.chain }],guard:=none }) (by kernel_rfl) rfl (λ Kc I7=>?_)
   go_simp
   refine (zX _ _ _ _ _ _ _ _ (4*i+4) 4 (stQ d i) d _ ((zA HJ).bw F9) G0 (by omega) (by omega)).mono ?_
   rintro r' w4 ⟨E6,a4,n4,c4,rfl,I2,y9⟩;have I5:=zB F9 y9;replace A5:=A5.bw y9;clear y9 G0;go_wp2_with fail;refine I7.out _ _ ⟨Or.inr (Or.inr (Or.inr (Or.inr (zA iF _ I5)))),Or.inr (zA gj _ I5)⟩ (λ _=>?_)
   clear I7 Kc
   try simp only[Act.put,YQ,YR,YS]
   have VX:=(zA HX).bw I5;have VY:=(zA HY).bw I5;have lX:=VX.lt;have lY:=VY.lt;have Bh:VnC (zCB w4 BX ⟨j6,a2,n2,c2⟩) BY Y:=VY.off (Ne.symm (zA nY).ne) ⟨j6,a2,n2,c2⟩;unfold zCB at Bh;obtain⟨⟨z0,z1⟩,zf⟩:=VX;refine AnyS.one (i:=10) (o:={ dst:=none,op:=Go.Op.store 29 (Go.Operand.tmp 7) (Go.Operand.tmp 22),type:=0,pos := "gamma.go:37",after:=#[{ on:=5,ground:=Go.Ground.data },{ on:=9,ground:=Go.Ground.chain },{ on:=0,ground:=Go.Ground.phase },{ on:=1,ground:=Go.Ground.phase },{ on:=2,ground:=Go.Ground.phase },{ on:=3,ground:=Go.Ground.phase },{ on:=4,ground:=Go.Ground.phase },{ on:=5,ground:=Go.Ground.phase },{ on:=6,ground:=Go.Ground.textOnly Go.Departure.lateStores },{ on:=7,ground:=Go.Ground.textOnly Go.Departure.lateStores },{ on:=8,ground:=Go.Ground.textOnly Go.Departure.lateStoresUnsure },{ on:=9,ground:=Go.Ground.textOnly Go.Departure.lateStoresUnsure }],guard:=none }) (by kernel_rfl) rfl (λ Kc I7=>?_)
   go_simp
   refine I7.out _ _ ⟨Or.inr (Or.inr (Or.inl rfl)),Or.inr ⟨Bh.c.c0,Bh.c.c1⟩⟩ (λ _=>?_)
   clear I7 Kc z0 z1 zf
   try simp only[Act.put,YQ,YR,YS]
   have lY2:=Bh.lt;obtain⟨⟨z0,z1⟩,zf⟩:=Bh;refine AnyS.last (o:={ dst:=none,op:=Go.Op.store 29 (Go.Operand.tmp 8) (Go.Operand.tmp 26),type:=0,pos := "gamma.go:37",after:=#[{ on:=9,ground:=Go.Ground.data },{ on:=10,ground:=Go.Ground.chain },{ on:=0,ground:=Go.Ground.phase },{ on:=1,ground:=Go.Ground.phase },{ on:=2,ground:=Go.Ground.phase },{ on:=3,ground:=Go.Ground.phase },{ on:=4,ground:=Go.Ground.phase },{ on:=5,ground:=Go.Ground.phase },{ on:=6,ground:=Go.Ground.phase },{ on:=7,ground:=Go.Ground.phase },{ on:=8,ground:=Go.Ground.phase },{ on:=9,ground:=Go.Ground.phase },{ on:=10,ground:=Go.Ground.phase }],guard:=none }) (by kernel_rfl) rfl (by kernel_rfl) (λ _=>⟨Or.inr (Or.inr (Or.inr (Or.inl rfl))),Or.inl rfl⟩) (λ Kc I7=>?_)
   go_simp
   refine I7.out _ _ ?_;clear I7 Kc z0 z1 zf iF gj;have stn:=((zA nY).bw I5).put (X':=⟨j6,a2,n2,c2⟩) (Y':=⟨E6,a4,n4,c4⟩) A5 I2;unfold zCB at stn
   have e1:stP n d i*(n-(i:Int)*d-d)=stP n d (i+1):=by
    show _=stP n d i*(n-((i:Int)+1)*d)
    congr 1;grind
   have e2:stQ d i*d=stQ d (i+1):=rfl
   have e3:n-(i:Int)*d-d=n-((i+1:Nat):Int)*d:=by
    have:((i+1:Nat):Int)=(i:Int)+1:=by omega
    rw[this];grind
   rw[e1,e2,show 4*i+4+4=4*(i+1)+4 by omega] at stn
   have E3:=zC e3;clear e1 e2 e3;go_wp2_with fail
   go_roundw
   case rel=>exact⟨i+1,_,_,congrArg _ (zA E3),by omega,stn⟩
   case measure=>simp[intOf];omega
  ·have mA:¬ d<n-(i:Int)*d:=by
    have:=(zA H).rest.2.1;have e:i=stN n d:=by omega
    rw[e];omega
   have Yh:i=stN n d:=by omega
   subst Yh;have lX:=st.x.lt;have lY:=st.y.lt;have q1:=st.n1;have q2:=st.n2;have l1:=st.l1;have l2:=st.l2;have lq1:=q1.lt;have lq2:=q2.lt;have nY:=zC st;obtain⟨⟨x0,x1⟩,xf⟩:=st.x;obtain⟨⟨y0,y1⟩,yf⟩:=st.y;obtain⟨q10,q11,q1f⟩:=q1;obtain⟨wB,Kn,q2f⟩:=q2;clear st;have m1:w.heap.size≠BX:=by omega
   have m2:w.heap.size≠BY:=by omega
   have m3:w.heap.size+1≠BX:=by omega
   have m4:w.heap.size+1≠BY:=by omega
   go_wp2_with fail;have HE:=st_end (zA nY);unfold zCB at HE
   go_region
   all_goals
    go_wp2_with fail;refine bodyPost_ret (v:=.tuple #[.int .i64 (n-(stN n d:Int)*d),.agg X.q,.agg Y.q]) (by simp[results,Tryz.results200,go_sem,q10,q11,wB,Kn]) rfl ⟨X,Y,rfl,?_,?_,?_⟩
    ·exact HE.1.bw (Below.refl _ _).drew
    ·exact HE.2.1.bw (Below.refl _ _).drew
    ·exact HE.2.2.drew
open Ex
structure IcC (w:World) (B:Nat) (v:Int):Prop where
 c0:w.cell? ⟨B,0,none⟩=some (.int .i64 v)
theorem big64:Q (16*4)=18446744073709551616:=rfl
theorem IcC.lt {w:World} {B:Nat} {v:Int} (h:IcC w B v):B<w.heap.size:=World.block_lt_of_cell? w ⟨B,0,none⟩ h.c0
theorem IcC.bw {w w':World} {B:Nat} {v:Int} (h:IcC w B v) (hb:Below w.heap.size w w'):IcC w' B v:=⟨(hb.cell (p:=⟨B,0,none⟩) h.lt).trans h.c0⟩
theorem ga1_iv (w:World) (B0 B1 B2:Nat) (s:Sp) (x d n:Int) (k b:Nat) (j:Int) (a:Int × Int) (hs:SpAt w s k a.1 a.2) (X:IcC w B0 x) (D:IcC w B1 d) (Z:IcC w B2 n) (hk:k<=100000000) (hb:s.bits=(b:Int)) (hx:0<=x*d) (fR:x*d<=9223372036854775807) (hj:0<=j*d) (Co:j*d<=4611686018427387904) (hn:0<n) (bC:n<=4611686018427387903) :
  Calls Tryz.prog 208 #[.agg s.q,.int .i64 j,.pointer (some ⟨B0,0,none⟩),.pointer (some ⟨B1,0,none⟩),.pointer (some ⟨B2,0,none⟩)] w (zG w b (k+4+10) (zJ a (x*d) (n+j*d)).1 (zJ a (x*d) (n+j*d)).2):=by
 obtain⟨W,hW⟩:∃ W,W=(w.alloc (.cells s.q 31)).alloc (.cells zCq 31):=⟨_,rfl⟩;have j8:Below w.heap.size w W:=by rw[hW];exact bl2 _ _ _
 have A:SpC W w.heap.size s:=by rw[hW];constructor<;>simp[go_sem]
 have R:NoC W (w.heap.size+1):=by rw[hW];constructor<;>simp[go_sem]
 have HS:=zC (hs.bw j8);have l0:=X.lt;have l1:=D.lt;have l2:=Z.lt;replace X:=X.bw j8;replace D:=D.bw j8;replace Z:=Z.bw j8;have HB:=zC hb;have lR:=R.lt;have lA:=A.lt;have Z6:=zC (show IntKind.i64.wrap (x*d)=x*d from jI _ (by omega) (by omega))
 have bo:=zC (show IntKind.i64.wrap (j*d)=j*d from jI _ (by omega) (by omega))
 have dJ:=zC (show IntKind.i64.wrap (n+j*d)=n+j*d from jI _ (by omega) (by omega))
 have pc:=zC (show -9223372036854775808<=x*d/\x*d<=9223372036854775807 from⟨by omega,by omega⟩)
 have pd:=zC (show -9223372036854775808<=n+j*d/\n+j*d<=9223372036854775807 from⟨by omega,by omega⟩)
 have rE:=zC (show 0<n+j*d by omega)
 clear hs hb hx fR hj Co hn bC;have D7:Below W.heap.size W W.drew:=(Below.refl _ _).drew;have HK:=zC (show ∀ w',Below W.heap.size W w'->(cK w' w.heap.size s (w'.cell? ⟨B0,0,none⟩=some (.int .i64 x)/\w'.cell? ⟨B1,0,none⟩=some (.int .i64 d)/\w'.cell? ⟨B2,0,none⟩=some (.int .i64 n))) from λ w' hB=>⟨(A.bw hB).c0,(A.bw hB).c1,(A.bw hB).c2,(A.bw hB).c3,(A.bw hB).c4,(X.bw hB).c0,(D.bw hB).c0,(Z.bw hB).c0⟩)
 clear X D Z
 go_enter Tryz.func208,Tryz.ntmps208
 go_wp2;rw[<- hW];clear hW;have Dq:w.heap.size+1≠B0:=by omega
 have Fs:w.heap.size+1≠B1:=by omega
 have Rz:w.heap.size+1≠B2:=by omega
 obtain⟨x0,x1,x2,x3,x4,x5,x6,x7⟩:=zA HK _ (Below.refl _ _)
 go_region_held3 (λ w'=>cK w' w.heap.size s (w'.cell? ⟨B0,0,none⟩=some (.int .i64 x)/\w'.cell? ⟨B1,0,none⟩=some (.int .i64 d)/\w'.cell? ⟨B2,0,none⟩=some (.int .i64 n))) (first|exact zA HK _ (by with_reducible first|exact D7|exact D3|exact o9|exact A6)|(dsimp only[cK,cK0,nK,nK0,rK,rK0];go_keep)|go_keep)
  (first
   | (go_at_call 151;have hq:=o9;refine (zBB _ s ⟨m9,a1,n1,c1⟩ ⟨j6,a2,n2,c2⟩ k 4 _ b a (x*d) (n+j*d) ((zA HS).bw o9) (o8.bw j7) A5 (by omega) (by omega) (zA rE) (zA HB)).mono ?_;rintro r w3 ⟨t,rfl,J2,P5,o7⟩;have HT:=zC J2;clear J2;have D3:=zB o9 o7;obtain⟨q0,q1,q2,q3,q4,q5⟩:=R.bw D3;obtain⟨i0,i1,i2,i3,i4,i5,i6,i7⟩:=zA HK _ D3)
   | (go_at_call 33;have hq:=A6;(first|rw[zA bo,zA dJ]|rw[zA dJ]);refine (zD (n+j*d) _ (zA pd).1 (zA pd).2).mono ?_;rintro r w2 ⟨j6,a2,n2,c2,rfl,A5,j7⟩;have o9:=zB A6 j7)
   | (go_at_call 33;rw[zA Z6];refine (zD (x*d) _ (zA pc).1 (zA pc).2).mono ?_;rintro r w1 ⟨m9,a1,n1,c1,rfl,o8,b9⟩;have A6:=zB D7 b9))
 all_goals
  go_wp2;refine bodyPost_ret (v:=.agg t.q) (by simp[results,Tryz.results208,go_sem,q0,q1,q2,q3,q4]) rfl ⟨t,rfl,zA HT,?_,?_⟩
  ·exact SpAt.put5 P5 q0 q1 q2 q3 q4 _ _ _ _ _
  ·exact jS (zB j8 D3) (Nat.le_succ _) _ _ _ _ _
theorem en_ga (args:Array Value) (w:World):(callFunc 208 args).run Tryz.prog w=.ok (.enter 208 args) w:=by simp[go_sem,callFunc,Tryz.func208];kernel_rfl
theorem zH9 (L:Rat->Nat->Rat) (hL:Lns L) (n d:Int) (b:Nat) (g:Nat->Rat) (h:zG2 n d b) (hg:Gam1 L ((n:Rat)/(d:Rat)) g) :
  ∃ c:Int × Int,GaV g b c/\∀ w:World,Calls Tryz.prog 202 #[.int .i64 n,.int .i64 d,.int .i64 b] w (zG w b 70 c.1 c.2):=by
 have n0:=h.n0;have nd:=h.nd;have dd:=h.dd;have b0:=h.b0;have b1:=h.b1;have Vr:0<=(b:Int)*d:=Zc (by omega) (by omega)
 have bd1:(b:Int)*d<=1000*2199023255552:=Int.mul_le_mul (by omega) dd (by omega) (by omega)
 have H:=zC h;have HL:=zC hL;have HG:=zC hg;obtain⟨NS,np,V5⟩:=ga_set h;obtain⟨f1,f2,f3,f4⟩:=zCO h
 have PK:∀ j:Nat,j<=22000->Q j<P 1400:=λ j hj=>by
  rw[<- Q_P];have h1:=zH (show j+1<=16*1400 by omega)
  have h2:Q (j+1)=2*Q j:=rfl;have:=zE j;omega
 have oX:=zC (show (ofI d n b).1<=(ofI d n b).2 /\ -P 1400<(ofI d n b).1/\(ofI d n b).2<P 1400 by
  have:=PK (b+41) (by omega)
  have:=zE b
  exact⟨f2,by omega,by omega⟩)
 have gm:=zC (show ∀ j,j<=NS -> -P 1400<(gaT n d b j).1/\(gaT n d b j).2<P 1400 from λ j _=>by
  have e:=zCN h j;have u:=ga_hi h j;have:=PK (21*b+41) (by omega)
  have:=zE (21*b+41)
  exact⟨by omega,by omega⟩)
 have gy:=zC (show ∀ j,j<=NS -> -P 1400<(jE (gaT n d b) j).1/\(jE (gaT n d b) j).2<P 1400 from λ j hj=>by
  have u:=ga_fit h j (by omega)
  have l:=(zNC h j).2.2.2;have:=PK (21*b+60) (by omega)
  have:=zE b;have:=zE (21*b+60)
  exact⟨by omega,by omega⟩)
 have gx:=zC (λ j=>(zCN h j).2)
 have az:=zC (λ j=>(zCN h j).1)
 have HM:=zC V5
 have xQ:=zC (show Q (b+4)<P 500 by
  rw[<- Q_P];have h1:=zH (show b+4+1<=16*500 by omega)
  have h2:Q (b+4+1)=2*Q (b+4):=rfl;have:=zE (b+4)
  omega)
 obtain⟨n',d',cc,N1,N2,O9,E4,G3,cF,bj,oh⟩:=zBH 4 b 500 (b:Int) 1 (by have:=big64;omega) (by have:=big64;omega) (by omega) (by omega) (by omega) (by omega) (by omega) (zA xQ) (by omega)
 have BC:=gaLog_of (zA HL) (by omega) (by omega) O9 cF bj
 generalize zIF (zM (lnT n' d' b) N1) (zM (lnT 2 1 b) N2) cc=oY at BC oh;have Ap:=zC oh;clear O9 cF bj E4 G3 oh;have GE:=gaY_ok (zA H) BC;obtain⟨l,t,NE,e1,e2,e3,e4,e5⟩:=zC3 (B:=b) (e:=11) (by omega) GE.2.1 GE.2.2.2.1
 have GV:=gaG_ok (zA HL) (zA H) (zA HG) BC (by omega) e4 e5 np (zA HM)
 have EO:=gaE_ok (zA H) BC (show t<=19 by omega) e4 e5
 have SO:=zNA (zA H) np
 have rF:=zC (show Q (b+eb t)<P 500 by
  rw[<- Q_P];have ebm:=zAP (show t<=19 by omega)
  have rN:eb 19=6144:=by decide
  rw[rN] at ebm;have h1:=zH (show b+eb t+1<=16*500 by omega)
  have h2:Q (b+eb t+1)=2*Q (b+eb t):=rfl;have:=zE (b+eb t)
  omega)
 have EA:=zC (show (gaY n d b oY).1<=(gaY n d b oY).2 /\ -P 500<(gaY n d b oY).1/\(gaY n d b oY).2<P 500 by
  have r:=GE.2.2.2.1;have ra:=zEJ GE.2.1;obtain⟨r1,r2,r3,r4⟩:=ra;have h1:=zH (show b+11<=16*500 by omega)
  rw[Q_P] at h1
  exact⟨GE.2.1,by omega,by omega⟩)
 have SY:=zC GV;have oW:=zC e1;have SP:=zC e2;have SQ:=zC e4;have SR:=zC e5;have ht:t<=1000000:=by omega
 have xC:=zC (show 0<(gaE n d b oY t NE).1/\(gaE n d b oY t NE).1<=(gaE n d b oY t NE).2/\(jQ n d b NS).1<=(jQ n d b NS).2 by
  have:=zE b
  exact⟨by omega,EO.2.1,SO.2.1⟩)
 refine⟨gaG n d b oY t NE NS,GV,λ w=>?_⟩
 clear GE GV EO SO e1 e2 e3 e4 e5 BC;obtain⟨W,hW⟩:∃ W,W=(((w.alloc (.cells #[.int .i64 n] 3)).alloc (.cells #[.int .i64 d] 3)).alloc (.cells zCq 31)).alloc (.cells #[.int .i64 (b:Int)] 3):=⟨_,rfl⟩;have j8:Below w.heap.size w W:=by rw[hW];exact bl4 _ _ _ _ _
 have N0:IcC W (w.heap.size) n:=by rw[hW];exact⟨by simp[go_sem]⟩
 have D0:IcC W (w.heap.size+1) d:=by rw[hW];exact⟨by simp[go_sem]⟩
 have X0:IcC W (w.heap.size+1+1+1) (b:Int):=by rw[hW];exact⟨by simp[go_sem]⟩
 have R:NoC W (w.heap.size+1+1):=by rw[hW];constructor<;>simp[go_sem]
 have lX:=X0.lt
 have dK:=zC (show ∀ (j:Nat) (u:Sp) w',j<NS->u.bits=(b:Int)->SpAt w' u 1400 (gaT n d b j).1 (gaT n d b j).2->Below W.heap.size W w'->Calls Tryz.prog 208 #[.agg u.q,.int .i64 ((j:Int)+1),.pointer (some ⟨w.heap.size+1+1+1,0,none⟩),.pointer (some ⟨w.heap.size+1,0,none⟩),.pointer (some ⟨w.heap.size,0,none⟩)] w' (zG w' b 1414 (gaT n d b (j+1)).1 (gaT n d b (j+1)).2) from λ j u w' hj A8 C7 M8=>by
  have e:=ga1_iv w' (w.heap.size+1+1+1) (w.heap.size+1) (w.heap.size) u (b:Int) d n 1400 b ((j:Int)+1) (gaT n d b j) C7 (X0.bw M8) (D0.bw M8) (N0.bw M8) (by omega) A8 Vr (by omega) (Zc (by omega) (by omega)) (by
   have:=Int.mul_le_mul (show (j:Int)+1<=70000 by omega) dd (by omega) (by omega)
   omega) n0 (by omega)
  have ec:((j+1:Nat):Int)=(j:Int)+1:=by omega
  have e2:gaT n d b (j+1)=zJ (gaT n d b j) ((b:Int)*d) (n+((j+1:Nat):Int)*d):=rfl;rw[e2,ec]
  exact e)
 have Z6:=zC (show IntKind.i64.wrap (2*(b:Int))=((2*b:Nat):Int) from (jI _ (by omega) (by omega)).trans (by omega))
 have HK:=zC (show ∀ w',Below W.heap.size W w'->(w'.cell? ⟨w.heap.size,0,none⟩=some (.int .i64 n)/\w'.cell? ⟨w.heap.size+1,0,none⟩=some (.int .i64 d)/\w'.cell? ⟨w.heap.size+1+1+1,0,none⟩=some (.int .i64 (b:Int))) from λ w' hB=>⟨(N0.bw hB).c0,(D0.bw hB).c0,(X0.bw hB).c0⟩)
 clear h hL hg V5 PK f1 f2 f3 f4;have lR:=R.lt
 go_enter Tryz.func202,Tryz.ntmps202
 go_wp2;rw[<- hW];clear hW
 go_cut [8] (λ p wx=>∃ (B:Nat) (u:Sp),p=.pointer (some ⟨B,0,none⟩)/\W.heap.size<=B/\VrC wx B u/\SpAt wx u 1403 (jQ n d b NS).1 (jQ n d b NS).2/\u.bits=(b:Int)/\Below W.heap.size W wx)
 case first =>
  go_region_held3 (λ w'=>w'.cell? ⟨w.heap.size,0,none⟩=some (.int .i64 n)/\w'.cell? ⟨w.heap.size+1,0,none⟩=some (.int .i64 d)/\w'.cell? ⟨w.heap.size+1+1+1,0,none⟩=some (.int .i64 (b:Int))) (exact zA HK _ (by repeat' (first|with_reducible exact sk|with_reducible exact aG|with_reducible exact K6|with_reducible exact I8|with_reducible exact Below.refl _ _|with_reducible refine Below.drew ?_|with_reducible refine zL ?_ _|with_reducible refine Below.setCell ?_ (by first|exact Zb _|exact T3|exact T4|exact fE|exact vL) _)))
   (first
    | (go_at_call 182;have hq:=aG;rw[zA Z6];refine (zEN _ #[.pointer (some ⟨w.heap.size+1+1+1,0,none⟩),.pointer (some ⟨w.heap.size+1,0,none⟩),.pointer (some ⟨w.heap.size,0,none⟩)] en_ga (gaT n d b) (2*b) NS b 1400 1414 vS3 _ ((lQ.bw (by with_reducible first|exact Below.refl _ _|exact bl1 _ _)).fits (K:=1400) (zA oX).1 (zA oX).2.1 (zA oX).2.2) (zA AW) (by omega) (by omega) (by omega) (by omega) (zA HM) (by omega) (by omega) (zA gx) (zA az) (zA gm) (zA gy) (λ j u w' hj A8 C7 M8=>zA dK j u w' hj A8 C7 (zB (by with_reducible first|exact aG|exact zL aG _) M8))).mono ?_;rintro r Sx ⟨Si,rfl,qK,IP,tK⟩;have AX:=zC qK;clear qK;have en:Below wG.heap.size wG Sx:=(by with_reducible first|exact tK|exact zB (bl1 _ _) tK);have sk:=zB aG en;(try with_reducible have Pp:=(zS wG 31).bw tK);replace J9:=J9.bw en;(try replace ae:=ae.bw en);replace Y7:=Y7.bw en;(try replace cR:=cR.bw en);replace lQ:=lQ.bw en;(try replace rT:=rT.bw en);have vL:=sk.size;(try have oK:=ae.lt);(try have OY:=Zg oK);(try have Bl:=Zf oK);(try obtain⟨fY,fZ,mL,mM,mN,DR⟩:=ae);(try have oL:=cR.lt);(try have OZ:=Zg oL);(try have Bm:=Zf oL);(try obtain⟨gf,gi,mO,mP,mQ,DS⟩:=cR);(try have Kf:=rT.lt);(try have eS3:=Zg Kf);(try have Wm:=Zf Kf);(try obtain⟨xj,xk,Ml,Mm,Mn,zS35⟩:=rT);(try have Rm:=Pp.lt);(try have eS4:=Zg Rm);(try have Wn:=Zf Rm);(try obtain⟨Mo,Mp,Mq,Mr,Ms,zS45⟩:=Pp))
    | (go_at_call 88;have hq:=K6;refine (jL _ _ _ _ _ _ _ _ 4 4 b d n _ (J9.bw (by with_reducible first|exact Below.refl _ _|exact bl1 _ _)) (Y7.bw (by with_reducible first|exact Below.refl _ _|exact bl1 _ _)) (by omega) (by omega) n0).mono ?_;rintro r wG ⟨vS3,rfl,qJ,lQ,eQ⟩;have AW:=zC qJ;clear qJ;have aK:Below fV.heap.size fV wG:=(by with_reducible first|exact eQ|exact zB (bl1 _ _) eQ);have aG:=zB K6 aK;(try with_reducible have rT:=(zS fV 31).bw eQ);replace J9:=J9.bw aK;(try replace ae:=ae.bw aK);replace Y7:=Y7.bw aK;(try replace cR:=cR.bw aK);have fE:=aG.size)
    | (go_at_call 33;have hq:=I8;refine (zD n _ (by omega) (by omega)).mono ?_;rintro r fV ⟨Dz,Vf,nS2,Vz,rfl,Y7,S5⟩;have Y5:Below cC.heap.size cC fV:=(by with_reducible first|exact S5|exact zB (bl1 _ _) S5);have K6:=zB I8 Y5;(try with_reducible have cR:=(zS cC 31).bw S5);replace J9:=J9.bw Y5;(try replace ae:=ae.bw Y5);have T4:=K6.size)
    | (go_at_call 33;refine (zD d _ (by omega) (by omega)).mono ?_;rintro r cC ⟨Dx,Ve,nS1,Vy,rfl,J9,S4⟩;have I8:Below W.heap.size W cC:=(by with_reducible first|exact zB (Below.refl _ _).drew S4|exact zB (bl1 _ _).drew S4);(try with_reducible have ae:=((zS W 31).bw (Below.refl _ _).drew).bw S4);have T3:=I8.size))
  all_goals
   have hfinS:SpAt Sx Si 1403 (jQ n d b NS).1 (jQ n d b NS).2:=IP;go_wp2_with fail;go_meet;refine⟨_,Si,rfl,?_,⟨⟨?_,?_,?_,?_,?_⟩,?_⟩,?_,zA AX,?_⟩
   ·first|exact Zb _|exact T3|exact T4|exact fE|exact vL
   ·simp[go_sem, *]
   ·simp[go_sem, *]
   ·simp[go_sem, *]
   ·simp[go_sem, *]
   ·simp[go_sem, *]
   ·intro o;simp[go_sem, *]
   ·first|with_reducible exact SpAt.put5 hfinS Mo Mp Mq Mr Ms _ _ _ _ _|with_reducible exact SpAt.put5 hfinS xj xk Ml Mm Mn _ _ _ _ _|with_reducible exact SpAt.put5 hfinS gf gi mO mP mQ _ _ _ _ _|with_reducible exact SpAt.put5 hfinS fY fZ mL mM mN _ _ _ _ _|with_reducible exact hfinS.bw (bl1 _ _)
   ·repeat' (first|with_reducible exact sk|with_reducible exact aG|with_reducible exact K6|with_reducible exact I8|with_reducible exact Below.refl _ _|with_reducible refine Below.drew ?_|with_reducible refine zL ?_ _|with_reducible refine Below.setCell ?_ (by first|exact Zb _|exact T3|exact T4|exact fE|exact vL) _)
 case rest =>
 obtain⟨BS,xS,rfl,yi,XS,hpS,hxbS,hblS⟩:=hcut;obtain⟨V1,L8⟩:∃ V,V=wc:=⟨_,rfl⟩;subst L8;replace N0:=N0.bw hblS;replace D0:=D0.bw hblS;replace X0:=X0.bw hblS;replace R:=R.bw hblS;replace j8:=zB j8 hblS;have gO:=zC hxbS;have iW:=zC hpS;have lS:=XS.lt;clear hxbS hpS HK gm gy gx az dK oX Z6;have HK:=zC (show ∀ w',Below V1.heap.size V1 w'->(w'.cell? ⟨w.heap.size,0,none⟩=some (.int .i64 n)/\w'.cell? ⟨w.heap.size+1,0,none⟩=some (.int .i64 d)/\w'.cell? ⟨w.heap.size+1+1+1,0,none⟩=some (.int .i64 (b:Int))) from λ w' hB=>⟨(N0.bw hB).c0,(D0.bw hB).c0,(X0.bw hB).c0⟩)
 have d0:0<d:=by omega
 go_wp2_with fail
 go_cut [9] (λ p wx=>∃ (B:Nat) (u:Sp),p=.pointer (some ⟨B,0,none⟩)/\V1.heap.size<=B/\VrC wx B u/\SpAt wx u 534 (zJ oY n d).1 (zJ oY n d).2/\u.bits=(b:Int)/\Below V1.heap.size V1 wx)
 case first =>
  go_region_held3 (λ w'=>w'.cell? ⟨w.heap.size,0,none⟩=some (.int .i64 n)/\w'.cell? ⟨w.heap.size+1,0,none⟩=some (.int .i64 d)/\w'.cell? ⟨w.heap.size+1+1+1,0,none⟩=some (.int .i64 (b:Int))) (exact zA HK _ (by repeat' (first|with_reducible exact sF|with_reducible exact kj|with_reducible exact ki|with_reducible exact cf|with_reducible exact aH|with_reducible exact X8|with_reducible exact Below.refl _ _|with_reducible refine Below.drew ?_|with_reducible refine zL ?_ _|with_reducible refine Below.setCell ?_ (by first|exact Zb _|exact fJ|exact fK|exact fO|exact vN|exact vO|exact vP) _)))
   (first
    | (go_at_call 151;have hq:=kj;refine (zBB _ vY3 ⟨DC,Vi,nY4,VC⟩ ⟨DE,Vj,nY5,VD⟩ 520 4 4 b oY n d (bx.bw (by with_reducible first|exact Below.refl _ _|exact bl1 _ _)) (mf.bw (by with_reducible first|exact Below.refl _ _|exact bl1 _ _)) (sZ.bw (by with_reducible first|exact Below.refl _ _|exact bl1 _ _)) (by omega) (by omega) d0 (zA Ba)).mono ?_;rintro r Sz ⟨Sm,rfl,qO,IW,tO⟩;have Bb:=zC qO;clear qO;have aP:Below FN.heap.size FN Sz:=(by with_reducible first|exact tO|exact zB (bl1 _ _) tO);have sF:=zB kj aP;(try with_reducible have Ps:=(zS FN 31).bw tO);replace M7:=M7.bw aP;(try replace bQ:=bQ.bw aP);replace Y8:=Y8.bw aP;(try replace dV:=dV.bw aP);replace bx:=bx.bw aP;(try replace jq:=jq.bw aP);replace mf:=mf.bw aP;(try replace ye:=ye.bw aP);replace sZ:=sZ.bw aP;(try replace EL:=EL.bw aP);have vP:=sF.size;(try have Di:=bQ.lt);(try have Wt:=Zg Di);(try have Hj:=Zf Di);(try obtain⟨Eh,Ei,Ej,MD,ME,zY15⟩:=bQ);(try have Dj:=dV.lt);(try have Wv:=Zg Dj);(try have Hk:=Zf Dj);(try obtain⟨Ek,El,Em,MF,MG,zY25⟩:=dV);(try have Dl:=jq.lt);(try have Ww:=Zg Dl);(try have Ho:=Zf Dl);(try obtain⟨En,Eo,Ep,MH,MI,zY35⟩:=jq);(try have Ro:=ye.lt);(try have eY4:=Zg Ro);(try have Wx:=Zf Ro);(try obtain⟨MJ,MK,ML,MM,MN,zY45⟩:=ye);(try have Rp:=EL.lt);(try have eY5:=Zg Rp);(try have Wy:=Zf Rp);(try obtain⟨MO,MP,MQ,MR,MS,zY55⟩:=EL);(try have Rq:=Ps.lt);(try have eY6:=Zg Rq);(try have Wz:=Zf Rq);(try obtain⟨MT,MV,MW,MX,MY,zY65⟩:=Ps))
    | (go_at_call 33;have hq:=ki;refine (zD d _ (by omega) (by omega)).mono ?_;rintro r FN ⟨DE,Vj,nY5,VD,rfl,sZ,tN⟩;have cm:Below FM.heap.size FM FN:=(by with_reducible first|exact tN|exact zB (bl1 _ _) tN);have kj:=zB ki cm;(try with_reducible have EL:=(zS FM 31).bw tN);replace M7:=M7.bw cm;(try replace bQ:=bQ.bw cm);replace Y8:=Y8.bw cm;(try replace dV:=dV.bw cm);replace bx:=bx.bw cm;(try replace jq:=jq.bw cm);replace mf:=mf.bw cm;(try replace ye:=ye.bw cm);have vO:=kj.size)
    | (go_at_call 33;have hq:=cf;refine (zD n _ (by omega) (by omega)).mono ?_;rintro r FM ⟨DC,Vi,nY4,VC,rfl,mf,tM⟩;have eC:Below Ad.heap.size Ad FM:=(by with_reducible first|exact tM|exact zB (bl1 _ _) tM);have ki:=zB cf eC;(try with_reducible have ye:=(zS Ad 31).bw tM);replace M7:=M7.bw eC;(try replace bQ:=bQ.bw eC);replace Y8:=Y8.bw eC;(try replace dV:=dV.bw eC);replace bx:=bx.bw eC;(try replace jq:=jq.bw eC);have vN:=ki.size)
    | (go_at_call 125;have hq:=aH;refine (zA Ap _ ⟨rz,OE,RF,OT⟩ ⟨rA,OG,RG,OV⟩ (M7.bw (by with_reducible first|exact Below.refl _ _|exact bl1 _ _)) (Y8.bw (by with_reducible first|exact Below.refl _ _|exact bl1 _ _))).mono ?_;rintro r Ad ⟨vY3,rfl,qN,bx,fg⟩;have Ba:=zC qN;clear qN;have aO:Below oV.heap.size oV Ad:=(by with_reducible first|exact fg|exact zB (bl1 _ _) fg);have cf:=zB aH aO;(try with_reducible have jq:=(zS oV 31).bw fg);replace M7:=M7.bw aO;(try replace bQ:=bQ.bw aO);replace Y8:=Y8.bw aO;(try replace dV:=dV.bw aO);have fO:=cf.size)
    | (go_at_call 33;have hq:=X8;refine (zD 1 _ (by omega) (by omega)).mono ?_;rintro r oV ⟨rA,OG,RG,OV,rfl,Y8,fe⟩;have eA:Below oT.heap.size oT oV:=(by with_reducible first|exact fe|exact zB (bl1 _ _) fe);have aH:=zB X8 eA;(try with_reducible have dV:=(zS oT 31).bw fe);replace M7:=M7.bw eA;(try replace bQ:=bQ.bw eA);have fK:=aH.size)
    | (go_at_call 33;refine (zD (b:Int) _ (by omega) (by omega)).mono ?_;rintro r oT ⟨rz,OE,RF,OT,rfl,M7,eZ⟩;have X8:Below V1.heap.size V1 oT:=(by with_reducible first|exact zB (Below.refl _ _).drew eZ|exact zB (bl1 _ _).drew eZ);(try with_reducible have bQ:=((zS V1 31).bw (Below.refl _ _).drew).bw eZ);have fJ:=X8.size))
  all_goals
   have hfinY:SpAt Sz Sm 534 (zJ oY n d).1 (zJ oY n d).2:=IW;go_wp2_with fail;go_meet;refine⟨_,Sm,rfl,?_,⟨⟨?_,?_,?_,?_,?_⟩,?_⟩,?_,zA Bb,?_⟩
   ·first|exact Zb _|exact fJ|exact fK|exact fO|exact vN|exact vO|exact vP
   ·simp[go_sem, *]
   ·simp[go_sem, *]
   ·simp[go_sem, *]
   ·simp[go_sem, *]
   ·simp[go_sem, *]
   ·intro o;simp[go_sem, *]
   ·first|with_reducible exact SpAt.put5 hfinY MT MV MW MX MY _ _ _ _ _|with_reducible exact SpAt.put5 hfinY MO MP MQ MR MS _ _ _ _ _|with_reducible exact SpAt.put5 hfinY MJ MK ML MM MN _ _ _ _ _|with_reducible exact SpAt.put5 hfinY En Eo Ep MH MI _ _ _ _ _|with_reducible exact SpAt.put5 hfinY Ek El Em MF MG _ _ _ _ _|with_reducible exact SpAt.put5 hfinY Eh Ei Ej MD ME _ _ _ _ _|with_reducible exact hfinY.bw (bl1 _ _)
   ·repeat' (first|with_reducible exact sF|with_reducible exact kj|with_reducible exact ki|with_reducible exact cf|with_reducible exact aH|with_reducible exact X8|with_reducible exact Below.refl _ _|with_reducible refine Below.drew ?_|with_reducible refine zL ?_ _|with_reducible refine Below.setCell ?_ (by first|exact Zb _|exact fJ|exact fK|exact fO|exact vN|exact vO|exact vP) _)
 case rest =>
 obtain⟨BY,xY,rfl,PD,XY,hpY,hxbY,hblY⟩:=hcut;obtain⟨V2,P8⟩:∃ V,V=wc:=⟨_,rfl⟩;subst P8;have rH:=XS.bw hblY;replace N0:=N0.bw hblY;replace D0:=D0.bw hblY;replace X0:=X0.bw hblY;replace R:=R.bw hblY;replace j8:=zB j8 hblY;replace iW:=zC ((zA iW).bw hblY);have HYB:=zC hxbY;have TD:=zC hpY;clear hxbY hpY HK XS;have lY:=XY.lt;have lS2:=rH.lt;have HK:=zC (show ∀ w',Below V2.heap.size V2 w'->(w'.cell? ⟨w.heap.size,0,none⟩=some (.int .i64 n)/\w'.cell? ⟨w.heap.size+1,0,none⟩=some (.int .i64 d)/\w'.cell? ⟨w.heap.size+1+1+1,0,none⟩=some (.int .i64 (b:Int))/\cK w' BS xS (cK0 w' BY xY)) from λ w' hB=>⟨(N0.bw hB).c0,(D0.bw hB).c0,(X0.bw hB).c0,(rH.c.bw hB).c0,(rH.c.bw hB).c1,(rH.c.bw hB).c2,(rH.c.bw hB).c3,(rH.c.bw hB).c4,(XY.c.bw hB).c0,(XY.c.bw hB).c1,(XY.c.bw hB).c2,(XY.c.bw hB).c3,(XY.c.bw hB).c4⟩)
 go_wp2_with fail
 go_cut [10] (λ p wx=>∃ (B:Nat) (u:Sp),p=.pointer (some ⟨B,0,none⟩)/\V2.heap.size<=B/\VrC wx B u/\SpAt wx u 1600 (((zDN (jQ n d b NS).1 (jQ n d b NS).2 (gaE n d b oY t NE).1 (gaE n d b oY t NE).2 b,zEX (jQ n d b NS).1 (jQ n d b NS).2 (gaE n d b oY t NE).1 (gaE n d b oY t NE).2 b):Int × Int)).1 (((zDN (jQ n d b NS).1 (jQ n d b NS).2 (gaE n d b oY t NE).1 (gaE n d b oY t NE).2 b,zEX (jQ n d b NS).1 (jQ n d b NS).2 (gaE n d b oY t NE).1 (gaE n d b oY t NE).2 b):Int × Int)).2/\u.bits=(b:Int)/\Below V2.heap.size V2 wx)
 case first =>
  go_region_held3 (λ w'=>w'.cell? ⟨w.heap.size,0,none⟩=some (.int .i64 n)/\w'.cell? ⟨w.heap.size+1,0,none⟩=some (.int .i64 d)/\w'.cell? ⟨w.heap.size+1+1+1,0,none⟩=some (.int .i64 (b:Int))/\cK w' BS xS (cK0 w' BY xY)) (exact zA HK _ (by repeat' (first|with_reducible exact sf|with_reducible exact dY|with_reducible exact kg|with_reducible exact dX|with_reducible exact kf|with_reducible exact jz|with_reducible exact Below.refl _ _|with_reducible refine Below.drew ?_|with_reducible refine zL ?_ _|with_reducible refine Below.setCell ?_ (by first|exact Zb _|exact vE|exact vF|exact vG|exact vH|exact vI|exact vJ) _)))
   (first
    | (go_at_call 162;have hq:=dY;refine (zDF _ xS Sf 1403 b _ _ _ _ ((zA iW).bw (by with_reducible first|exact dY|exact zL dY _)) ((show SpAt _ Sf 500 (gaE n d b oY t NE).1 (gaE n d b oY t NE).2 from (sY.bw (by with_reducible first|exact Below.refl _ _|exact bl1 _ _))).mono (by omega)) (by omega) (by omega) (zA gO) (zA xC).2.2 (zA xC).1 (zA xC).2.1).mono ?_;rintro r Sv ⟨Sg,rfl,qH,IL,tI⟩;have AR:=zC qH;clear qH;have aI:Below FL.heap.size FL Sv:=(by with_reducible first|exact tI|exact zB (bl1 _ _) tI);have sf:=zB dY aI;(try with_reducible have Pm:=(zS FL 31).bw tI);replace aQ:=aQ.bw aI;(try replace iI:=iI.bw aI);replace ct:=ct.bw aI;(try replace nb:=nb.bw aI);replace eG:=eG.bw aI;(try replace pB:=pB.bw aI);replace lK:=lK.bw aI;(try replace yd:=yd.bw aI);replace sY:=sY.bw aI;(try replace EK:=EK.bw aI);have vJ:=sf.size;(try have Rf:=iI.lt);(try have eO1:=Zg Rf);(try have Wa:=Zf Rf);(try obtain⟨Lr,Ls,Lt,Lv,Lx,zO15⟩:=iI);(try have Rg:=nb.lt);(try have eO2:=Zg Rg);(try have Wb:=Zf Rg);(try obtain⟨Ly,Lz,LA,LB,LC,zO25⟩:=nb);(try have Rh:=pB.lt);(try have eO3:=Zg Rh);(try have Wc:=Zf Rh);(try obtain⟨LD,LF,LG,LH,LI,zO35⟩:=pB);(try have Ri:=yd.lt);(try have eO4:=Zg Ri);(try have Wd:=Zf Ri);(try obtain⟨LJ,LK,LM,LO,LP,zO45⟩:=yd);(try have Rj:=EK.lt);(try have eO5:=Zg Rj);(try have We:=Zf Rj);(try obtain⟨LQ,LR,LS,LV,LW,zO55⟩:=EK);(try have Rk:=Pm.lt);(try have eO6:=Zg Rk);(try have Wf:=Zf Rk);(try obtain⟨LX,LY,LZ,Ma,Mb,zO65⟩:=Pm))
    | (go_at_call 77;have hq:=kg;refine (zBG _ Se 500 b t NE (gaY n d b oY) l (SpAt.fits (K:=500) (show SpAt _ Se 541 (gaY n d b oY).1 (gaY n d b oY).2 from (lK.bw (by with_reducible first|exact Below.refl _ _|exact bl1 _ _))) (zA EA).1 (zA EA).2.1 (zA EA).2.2) (zA AQ) (zA EA).1 (by omega) (by omega) (zA oW) (zA SP) ht (zA SQ) (zA SR) (zA rF) (by omega)).mono ?_;rintro r FL ⟨Sf,rfl,qG,sY,tH⟩;have Ow:=zC qG;clear qG;have cj:Below FJ.heap.size FJ FL:=(by with_reducible first|exact tH|exact zB (bl1 _ _) tH);have dY:=zB kg cj;(try with_reducible have EK:=(zS FJ 31).bw tH);replace aQ:=aQ.bw cj;(try replace iI:=iI.bw cj);replace ct:=ct.bw cj;(try replace nb:=nb.bw cj);replace eG:=eG.bw cj;(try replace pB:=pB.bw cj);replace lK:=lK.bw cj;(try replace yd:=yd.bw cj);have vI:=dY.size)
    | (go_at_call 92;have hq:=dX;refine (zHM _ vO3 xY 540 b (ofI (b:Int) 1 b) (zJ oY n d) ((eG.bw (by with_reducible first|exact Below.refl _ _|exact bl1 _ _)).mono (by omega)) (((zA TD).bw (by with_reducible first|exact dX|exact zL dX _)).mono (by omega)) (by omega) (zA AP)).mono ?_;rintro r FJ ⟨Se,rfl,qF,lK,tG⟩;have AQ:=zC qF;clear qF;have eh:Below FI.heap.size FI FJ:=(by with_reducible first|exact tG|exact zB (bl1 _ _) tG);have kg:=zB dX eh;(try with_reducible have yd:=(zS FI 31).bw tG);replace aQ:=aQ.bw eh;(try replace iI:=iI.bw eh);replace ct:=ct.bw eh;(try replace nb:=nb.bw eh);replace eG:=eG.bw eh;(try replace pB:=pB.bw eh);have vH:=kg.size)
    | (go_at_call 88;have hq:=kf;refine (jL _ _ _ _ _ _ _ _ 4 4 b (b:Int) 1 _ (aQ.bw (by with_reducible first|exact Below.refl _ _|exact bl1 _ _)) (ct.bw (by with_reducible first|exact Below.refl _ _|exact bl1 _ _)) (by omega) (by omega) (by omega)).mono ?_;rintro r FI ⟨vO3,rfl,qE,eG,tF⟩;have AP:=zC qE;clear qE;have ks:Below FH.heap.size FH FI:=(by with_reducible first|exact tF|exact zB (bl1 _ _) tF);have dX:=zB kf ks;(try with_reducible have pB:=(zS FH 31).bw tF);replace aQ:=aQ.bw ks;(try replace iI:=iI.bw ks);replace ct:=ct.bw ks;(try replace nb:=nb.bw ks);have vG:=dX.size)
    | (go_at_call 33;have hq:=jz;refine (zD 1 _ (by omega) (by omega)).mono ?_;rintro r FH ⟨RN,aO2,nO2,cO2,rfl,ct,tE⟩;have sP:Below FF.heap.size FF FH:=(by with_reducible first|exact tE|exact zB (bl1 _ _) tE);have kf:=zB jz sP;(try with_reducible have nb:=(zS FF 31).bw tE);replace aQ:=aQ.bw sP;(try replace iI:=iI.bw sP);have vF:=kf.size)
    | (go_at_call 33;refine (zD (b:Int) _ (by omega) (by omega)).mono ?_;rintro r FF ⟨RM,aO1,nO1,cO1,rfl,aQ,tC⟩;have jz:Below V2.heap.size V2 FF:=(by with_reducible first|exact zB (Below.refl _ _).drew tC|exact zB (bl1 _ _).drew tC);(try with_reducible have iI:=((zS V2 31).bw (Below.refl _ _).drew).bw tC);have vE:=jz.size))
  all_goals
   have hfinO:SpAt Sv Sg 1600 (((zDN (jQ n d b NS).1 (jQ n d b NS).2 (gaE n d b oY t NE).1 (gaE n d b oY t NE).2 b,zEX (jQ n d b NS).1 (jQ n d b NS).2 (gaE n d b oY t NE).1 (gaE n d b oY t NE).2 b):Int × Int)).1 (((zDN (jQ n d b NS).1 (jQ n d b NS).2 (gaE n d b oY t NE).1 (gaE n d b oY t NE).2 b,zEX (jQ n d b NS).1 (jQ n d b NS).2 (gaE n d b oY t NE).1 (gaE n d b oY t NE).2 b):Int × Int)).2:=IL.mono (by omega)
   go_wp2_with fail;go_meet;refine⟨_,Sg,rfl,?_,⟨⟨?_,?_,?_,?_,?_⟩,?_⟩,?_,zA AR,?_⟩
   ·first|exact Zb _|exact vE|exact vF|exact vG|exact vH|exact vI|exact vJ
   ·simp[go_sem, *]
   ·simp[go_sem, *]
   ·simp[go_sem, *]
   ·simp[go_sem, *]
   ·simp[go_sem, *]
   ·intro o;simp[go_sem, *]
   ·first|with_reducible exact SpAt.put5 hfinO LX LY LZ Ma Mb _ _ _ _ _|with_reducible exact SpAt.put5 hfinO LQ LR LS LV LW _ _ _ _ _|with_reducible exact SpAt.put5 hfinO LJ LK LM LO LP _ _ _ _ _|with_reducible exact SpAt.put5 hfinO LD LF LG LH LI _ _ _ _ _|with_reducible exact SpAt.put5 hfinO Ly Lz LA LB LC _ _ _ _ _|with_reducible exact SpAt.put5 hfinO Lr Ls Lt Lv Lx _ _ _ _ _|with_reducible exact hfinO.bw (bl1 _ _)
   ·repeat' (first|with_reducible exact sf|with_reducible exact dY|with_reducible exact kg|with_reducible exact dX|with_reducible exact kf|with_reducible exact jz|with_reducible exact Below.refl _ _|with_reducible refine Below.drew ?_|with_reducible refine zL ?_ _|with_reducible refine Below.setCell ?_ (by first|exact Zb _|exact vE|exact vF|exact vG|exact vH|exact vI|exact vJ) _)
 case rest =>
 obtain⟨BO,xO,rfl,hHO,XO,hpO,hxbO,hblO⟩:=hcut;obtain⟨V3,I6⟩:∃ V,V=wc:=⟨_,rfl⟩;subst I6;have lO:=XO.lt;replace R:=R.bw hblO;replace j8:=zB j8 hblO;have Tl:=zC hxbO;have Oh:=zC hpO;have Oy:=zC XO;clear hxbO hpO HK X0 N0 D0 rH XY;have bg:=R.lt;have nRO:w.heap.size+1+1<BO:=by omega
 have Gv:=zC (show ∀ w',Below V3.heap.size V3 w'->(w'.cell? ⟨BO,2,none⟩=some (.bool xO.hn)/\w'.cell? ⟨BO,3,none⟩=some (.slice xO.ha xO.hN xO.hc)) from λ w' hB=>⟨(XO.c.bw hB).c2,(XO.c.bw hB).c3⟩)
 have D5:Below V3.heap.size V3 V3.drew:=(Below.refl _ _).drew;clear XO;go_wp2_with fail;refine AnyL.start (S:=λ w'=>w'.cell? ⟨BO,2,none⟩=some (.bool xO.hn)/\w'.cell? ⟨BO,3,none⟩=some (.slice xO.ha xO.hN xO.hc)) (l:=5) (by kernel_rfl) (zA Gv _ D5) (λ hHeld=>?_)
 refine AnyL.take (i:=0) (oi:={ dst:=some 42,op:=Go.Op.fieldAddr 31 (Go.Operand.tmp 10) 1,type:=0,pos := "gamma.go:50",after:=#[],guard:=none }) (v:=.pointer (some ⟨BO,2,none⟩)) rfl (by kernel_rfl) (by kernel_rfl) (by kernel_rfl) (by kernel_rfl) (λ _ _ _ h=>h) (Or.inl ⟨by rfl,λ w hSw=>?_⟩) hHeld ?_
 ·obtain⟨s0,s1⟩:=hSw;go_simp
 try simp only[Act.put,YQ,YR,YS]
 refine AnyL.take (i:=1) (oi:={ dst:=some 43,op:=Go.Op.load 29 (Go.Operand.tmp 42),type:=29,pos := "gamma.go:50",after:=#[{ on:=0,ground:=Go.Ground.data }],guard:=none }) (v:=.agg #[.bool xO.hn,.slice xO.ha xO.hN xO.hc]) rfl (by kernel_rfl) (by kernel_rfl) (by kernel_rfl) (by kernel_rfl) (λ _ _ _ h=>h) (Or.inl ⟨by rfl,λ w hSw=>?_⟩) hHeld ?_
 ·obtain⟨s0,s1⟩:=hSw;go_simp
 try simp only[Act.put,YQ,YR,YS]
 refine AnyL.one (i:=2) (o:={ dst:=some 44,op:=Go.Op.call { callee:=Go.Callee.value (Go.Operand.func 33),args:=#[Go.Operand.const (Go.Value.int Go.IntKind.i64 1)],argTypes:=#[3] },type:=29,pos := "gamma.go:50",after:=#[],guard:=none }) (by kernel_rfl) rfl (λ Kc I7=>?_)
 go_simp
 refine (zD 1 _ (by omega) (by omega)).mono ?_
 rintro r' w1 ⟨m9,a1,n1,c1,rfl,o8,b9⟩;have s9:=zB D5 b9;clear b9;go_wp2_with fail;refine I7.out _ _ (zA Gv _ s9) (λ hHeld=>?_)
 clear I7 Kc
 try simp only[Act.put,YQ,YR,YS]
 refine AnyL.one (i:=3) (o:={ dst:=some 45,op:=Go.Op.call { callee:=Go.Callee.value (Go.Operand.func 32),args:=#[Go.Operand.tmp 43,Go.Operand.tmp 44],argTypes:=#[29,29] },type:=29,pos := "gamma.go:50",after:=#[{ on:=1,ground:=Go.Ground.data },{ on:=2,ground:=Go.Ground.data },{ on:=2,ground:=Go.Ground.chain }],guard:=none }) (by kernel_rfl) rfl (λ Kc I7=>?_)
 go_simp
 refine (zA5 _ _ _ _ _ _ _ _ 1600 4 _ 1 _ ((zA Oh).hi.bw s9) o8 (by omega) (by omega)).mono ?_
 rintro r' w2 ⟨j6,a2,n2,c2,rfl,A5,j7⟩;have p9:=zB s9 j7;clear j7 o8;go_wp2_with fail;refine I7.out _ _ (zA Gv _ p9) (λ hHeld=>?_)
 clear I7 Kc
 try simp only[Act.put,YQ,YR,YS]
 refine AnyL.take (i:=4) (oi:={ dst:=some 46,op:=Go.Op.fieldAddr 31 (Go.Operand.tmp 10) 1,type:=0,pos := "gamma.go:50",after:=#[{ on:=0,ground:=Go.Ground.phase },{ on:=1,ground:=Go.Ground.phase },{ on:=2,ground:=Go.Ground.phase },{ on:=3,ground:=Go.Ground.phase }],guard:=none }) (v:=.pointer (some ⟨BO,2,none⟩)) rfl (by kernel_rfl) (by kernel_rfl) (by kernel_rfl) (by kernel_rfl) (λ _ _ _ h=>h) (Or.inl ⟨by rfl,λ w hSw=>?_⟩) hHeld ?_
 ·obtain⟨s0,s1⟩:=hSw;go_simp
 try simp only[Act.put,YQ,YR,YS]
 refine AnyL.last (o:={ dst:=none,op:=Go.Op.store 29 (Go.Operand.tmp 46) (Go.Operand.tmp 45),type:=0,pos := "gamma.go:50",after:=#[{ on:=4,ground:=Go.Ground.data },{ on:=3,ground:=Go.Ground.data },{ on:=3,ground:=Go.Ground.chain },{ on:=0,ground:=Go.Ground.phase },{ on:=1,ground:=Go.Ground.phase },{ on:=2,ground:=Go.Ground.phase },{ on:=3,ground:=Go.Ground.phase }],guard:=none }) (by kernel_rfl) rfl (by kernel_rfl) (λ Kc I7=>?_)
 have V2:=(zA Oy).bw p9;have lA:=V2.lt;obtain⟨⟨y0,y1,y2,y3,y4⟩,y5⟩:=V2
 go_simp
 refine I7.out _ _ ?_;clear I7 Kc;have R2:=R.bw p9;obtain⟨V,hV⟩:∃ V,V=((w2.setCell ⟨BO,2,none⟩ (.bool j6)).setCell ⟨BO,3,none⟩ (.slice a2 n2 c2)):=⟨_,rfl⟩;have R3:NoC V (w.heap.size+1+1):=by rw[hV];exact R2.offH (by omega) _ _
 have A3:VrC V BO ⟨xO.ln,xO.la,xO.lN,xO.lc,j6,a2,n2,c2,xO.bits⟩:=by rw[hV];exact zN9 ((zA Oy).bw p9) ⟨j6,a2,n2,c2⟩
 have i1:IntAt V xO.ln xO.la xO.lN xO.lc 1600 (gaG n d b oY t NE NS).1:=by rw[hV];exact ((zA Oh).lo.bw p9).putH y2 y3 _ _
 have i2:IntAt V j6 a2 n2 c2 1601 (gaG n d b oY t NE NS).2:=by rw[hV];exact (show IntAt w2 j6 a2 n2 c2 1601 (gaG n d b oY t NE NS).2 from A5).putH y2 y3 _ _
 have D3:Below w.heap.size w V:=by rw[hV];exact ((zB j8 p9).setCell (p:=⟨BO,2,none⟩) (by show w.heap.size<=BO;omega) _).setCell (p:=⟨BO,3,none⟩) (by show w.heap.size<=BO;omega) _
 rw[<- hV];clear hV y0 y1 y2 y3 y4 y5 lA;have gv:=zA SY
 have fit:=SpAt.fits (K:=70) (show SpAt V ⟨xO.ln,xO.la,xO.lN,xO.lc,j6,a2,n2,c2,xO.bits⟩ 1601 (gaG n d b oY t NE NS).1 (gaG n d b oY t NE NS).2 from⟨i1.mono (by omega),i2⟩) gv.le (by
  have:=gv.lo;have:=zE b;have:0<P 70:=yI 70;omega) (by
  have h1:=zH (show b+43+1<=16*70 by omega)
  rw[Q_P] at h1;have h2:Q (b+43+1)=2*Q (b+43):=rfl;have:=zE (b+43);have:=gv.hi
  omega)
 clear gv i1 i2;have lA:=A3.lt;have iz:=R3.lt;obtain⟨⟨y0,y1,y2,y3,y4⟩,y5⟩:=A3;obtain⟨q0,q1,q2,q3,q4,q5⟩:=R3;go_wp2_with fail;refine bodyPost_ret (v:=.agg #[.bool xO.ln,.slice xO.la xO.lN xO.lc,.bool j6,.slice a2 n2 c2,.int .i64 xO.bits]) (by simp[results,Tryz.results202,go_sem,q0,q1,q2,q3,q4]) rfl ⟨⟨xO.ln,xO.la,xO.lN,xO.lc,j6,a2,n2,c2,xO.bits⟩,rfl,zA Tl,?_,?_⟩
 ·exact SpAt.put5 fit q0 q1 q2 q3 q4 _ _ _ _ _
 ·exact jS D3 (by omega) _ _ _ _ _
theorem fieldG0 (x y:Bool) (a a':Option Addr) (n c n' c':Nat) (b:Int) (w:World):(Instr.field 31 (.agg #[.bool x,.slice a n c,.bool y,.slice a' n' c',.int .i64 b]) 0).run Tryz.prog w=.ok (.agg #[.bool x,.slice a n c]) w:=by kernel_rfl
theorem fieldG1 (x y:Bool) (a a':Option Addr) (n c n' c':Nat) (b:Int) (w:World):(Instr.field 31 (.agg #[.bool x,.slice a n c,.bool y,.slice a' n' c',.int .i64 b]) 1).run Tryz.prog w=.ok (.agg #[.bool y,.slice a' n' c']) w:=by kernel_rfl
theorem zO3 (w:World) (s:Sp) (b:Nat) (a o1 o2:Int × Int) (hs:SpAt w s 70 a.1 a.2) (hbits:s.bits=(b:Int)) (K4:40<=b) (hb:b<=1000) (W9:LogX 70 a.1 (Q b) b 520 o1) (W7:LogX 70 a.2 (Q b) b 520 o2) :
  Calls Tryz.prog 201 #[.agg s.q] w (zG w b 520 o1.1 o2.2):=by
 have Td:=zC W9;have Ao:=zC W7;clear W9 W7;obtain⟨W,hW⟩:∃ W,W=(w.alloc (.cells s.q 31)).alloc (.cells zCq 31):=⟨_,rfl⟩;have j8:Below w.heap.size w W:=by rw[hW];exact bl2 _ _ _
 have A:SpC W w.heap.size s:=by rw[hW];constructor<;>simp[go_sem]
 have R:NoC W (w.heap.size+1):=by rw[hW];constructor<;>simp[go_sem]
 have HS:=zC (hs.bw j8);have HB:=zC hbits;have lR:=R.lt;have lA:=A.lt;have HO:=zC (show 1*Q b=Q b by omega)
 have HK:=zC (show ∀ w',Below W.heap.size W w'->(cK0 w' w.heap.size s) from λ w' hB=>⟨(A.bw hB).c0,(A.bw hB).c1,(A.bw hB).c2,(A.bw hB).c3,(A.bw hB).c4⟩)
 clear hs hbits;have Cg:=fieldG0;have Yc:=fieldG1
 go_enter Tryz.func201,Tryz.ntmps201
 go_wp2;rw[<- hW];clear hW lR
 go_cut [3] (λ p wx=>∃ (B:Nat) (u:Nm),p=.pointer (some ⟨B,0,none⟩)/\W.heap.size<=B/\NmC wx B u/\IntAt wx u.neg u.a u.n u.cap 70 (Q b)/\Below W.heap.size W wx)
 case first =>
  have D5:Below W.heap.size W W.drew:=(Below.refl _ _).drew
  go_region_held3 (λ w'=>cK0 w' w.heap.size s) (exact zA HK _ (by repeat' (first|with_reducible exact o9|with_reducible exact A6|with_reducible exact Below.refl _ _|with_reducible refine Below.drew ?_|with_reducible refine zL ?_ _|with_reducible refine Below.setCell ?_ (by first|exact Zb _|exact W9|exact W7) _)))
   (first
    | (go_at_call 116;have hq:=A6;refine (zGN _ _ _ _ _ b 4 1 _ (zA HB) (o8.bw (by with_reducible first|exact Below.refl _ _|exact bl1 _ _)) (by omega) (by omega)).mono ?_;rintro r w2 ⟨j6,a2,n2,c2,rfl,A5,j7⟩;have dL:Below w1.heap.size w1 w2:=(by with_reducible first|exact j7|exact zB (bl1 _ _) j7);have o9:=zB A6 dL;(try with_reducible have g2:=(kA w1 29).bw j7);(try replace g1:=g1.bw dL);have W7:=o9.size;(try have m1:=g1.lt);(try have m2:=g2.lt);(try obtain⟨z10,z11,z1f⟩:=g1);(try obtain⟨z20,z21,z2f⟩:=g2))
    | (go_at_call 33;refine (zD 1 _ (by omega) (by omega)).mono ?_;rintro r w1 ⟨m9,a1,n1,c1,rfl,o8,b9⟩;have A6:Below W.heap.size W w1:=(by with_reducible first|exact zB (Below.refl _ _).drew b9|exact zB (bl1 _ _).drew b9);(try with_reducible have g1:=((kA W 29).bw (Below.refl _ _).drew).bw b9);have W9:=A6.size))
  all_goals
   have tX:IntAt w2 j6 a2 n2 c2 70 (Q b):=by rw[zA HO] at A5;exact A5.mono (by omega)
   go_wp2_with fail;go_meet;refine⟨_,⟨j6,a2,n2,c2⟩,rfl,?_,⟨?_,?_⟩,?_,?_⟩
   ·first|exact Zb _|exact W9|exact W7
   ·simp[go_sem, *]
   ·simp[go_sem, *]
   ·first|with_reducible exact tX.put2 z20 z21 _ _|with_reducible exact tX.put2 z10 z11 _ _|with_reducible exact tX.bw (bl1 _ _)
   ·repeat' (first|with_reducible exact o9|with_reducible exact A6|with_reducible exact Below.refl _ _|with_reducible refine Below.drew ?_|with_reducible refine zL ?_ _|with_reducible refine Below.setCell ?_ (by first|exact Zb _|exact W9|exact W7) _)
 case rest =>
 obtain⟨BU,U,rfl,BG,CU,hU,hblU⟩:=hcut;have lR:=R.lt;have A2:=A.bw hblU;replace R:=R.bw hblU;replace HS:=zC ((zA HS).bw hblU);replace j8:=zB j8 hblU;have nRU:w.heap.size+1<BU:=by omega
 have HU:=zC hU;have gM:=zC (show ∀ w',Below wc.heap.size wc w'->(cK w' w.heap.size s (nK0 w' BU U)) from λ w' hB=>⟨(A2.bw hB).c0,(A2.bw hB).c1,(A2.bw hB).c2,(A2.bw hB).c3,(A2.bw hB).c4,(CU.bw hB).c0,(CU.bw hB).c1⟩)
 have lU:=CU.lt;clear hU HK hblU A2 CU;have n1:w.heap.size+1≠w.heap.size:=by omega
 have n2:w.heap.size+1≠BU:=by omega
 have D5:Below wc.heap.size wc wc.drew:=(Below.refl _ _).drew;obtain⟨x0,x1,x2,x3,x4,y0,y1⟩:=zA gM _ (Below.refl _ _);go_wp2_with fail
 go_region_held3 (λ w'=>cK w' w.heap.size s (nK0 w' BU U)) (first|exact zA gM _ (by with_reducible first|exact D5|exact p9|exact s9)|(dsimp only[cK,cK0,nK,nK0,rK,rK0];go_keep)|go_keep)
  (first
   | (go_at_call 125;have O4:=s9;(try rw[zA HB]);refine (zA Ao _ ⟨s.hn,s.ha,s.hN,s.hc⟩ U ((zA HS).hi.bw s9) ((zA HU).bw s9)).mono ?_;rintro r' w2 ⟨v2,rfl,P6,A5,j7⟩;have p9:=zB s9 j7;clear P6;replace o8:=o8.bw j7;obtain⟨q0,q1,q2,q3,q4,q5⟩:=R.bw p9;obtain⟨i0,i1,i2,i3,i4,j0,j1⟩:=zA gM _ p9)
   | (go_at_call 125;(try rw[zA HB]);refine (zA Td _ ⟨s.ln,s.la,s.lN,s.lc⟩ U ((zA HS).lo.bw D5) ((zA HU).bw D5)).mono ?_;rintro r' w1 ⟨v1,rfl,J3,o8,b9⟩;have s9:=zB D5 b9;clear J3))
 all_goals
  go_wp2_with fail;have IY:=zA HB;refine bodyPost_ret (v:=.agg #[.bool v1.ln,.slice v1.la v1.lN v1.lc,.bool v2.hn,.slice v2.ha v2.hN v2.hc,.int .i64 (b:Int)]) (by simp[results,Tryz.results201,go_sem,q0,q1,q2,q3,q4]) rfl ⟨⟨v1.ln,v1.la,v1.lN,v1.lc,v2.hn,v2.ha,v2.hN,v2.hc,(b:Int)⟩,rfl,rfl,?_,?_⟩
  ·exact SpAt.put5 (show SpAt _ (⟨v1.ln,v1.la,v1.lN,v1.lc,v2.hn,v2.ha,v2.hN,v2.hc,(b:Int)⟩:Sp) 520 _ _ from⟨o8.lo,A5.hi⟩) q0 q1 q2 q3 q4 _ _ _ _ _
  ·exact jS (zB j8 p9) (Nat.le_succ _) _ _ _ _ _
theorem zO4 (b:Nat) (a:Int × Int) (WV:40<=b) (hb:b<=1000) (ha:0<a.1) (Fb:a.1<=a.2) (h2:a.2<P 70) :
  ∃ (p r:Int × Int) (l1 l2:Nat->Rat),LsIn a b p r l1 l2/\LbOk b p/\LbOk b r/\∀ (w:World) (s:Sp),SpAt w s 70 a.1 a.2->s.bits=(b:Int)->Calls Tryz.prog 201 #[.agg s.q] w (zG w b 520 p.1 r.2):=by
 have qb:0<Q b:=by have:=zE b;omega
 have q4:Q (b+4)<P 500:=by
  rw[<- Q_P];have h1:=zH (show b+4+1<=16*500 by omega)
  have h2:Q (b+4+1)=2*Q (b+4):=rfl;have:=zE (b+4);omega
 have q7:Q b<Q (16*70):=by
  have h1:=zH (show b+1<=16*70 by omega)
  have h2:Q (b+1)=2*Q b:=rfl;omega
 rw[<- Q_P] at h2;obtain⟨n1,d1,c1,N1,M1,a1,a2,a3,a4,a5,a6⟩:=zBH 70 b 500 a.1 (Q b) (by omega) q7 (by omega) ha qb (by omega) (by omega) q4 (by omega)
 obtain⟨n2,d2,c2,N2,M2,e1,e2,e3,e4,e5,e6⟩:=zBH 70 b 500 a.2 (Q b) h2 q7 (by omega) (by omega) qb (by omega) (by omega) q4 (by omega)
 obtain⟨l1,g1,i1⟩:=zE1 ha qb a1 b N1 M1;obtain⟨l2,g2,i2⟩:=zE1 (show 0<a.2 by omega) qb e1 b N2 M2
 exact⟨_,_,l1,l2,⟨ha,Fb,g1,g2,i1,i2⟩,lb_of (by omega) hb a1.1 a4 a5 70 (by omega) a2 a3,lb_of (by omega) hb e1.1 e4 e5 70 (by omega) e2 e3,λ w s hs hbits=>zO3 w s b a _ _ hs hbits WV hb a6 e6⟩
theorem st_fit {n d:Int} (h:StIn n d) {j:Nat} (hj:j<=stN n d):stP n d j<Q (16*804)/\stQ d j<Q (16*804):=by
 have CV:=h.rest.2.2;have dd:=h.dd;have d0:=h.d0;have up:=h.up;have e49:Q 49=562949953421312:=rfl
 have g:∀ j:Nat,j<=stN n d->stP n d j<=Q (49*j)/\stQ d j<=Q (49*j):=λ j=>by
  induction j with
  | zero=>intro _;exact⟨Int.le_refl _,Int.le_refl _⟩
  | succ k ih =>
   intro hk
   obtain⟨i1,i2⟩:=ih (by omega)
   have e:Q (49*(k+1))=Q (49*k)*Q 49:=jD (49*k) 49;have q:=zE (49*k);have p:=(st_at h (k:=k+1) hk).1;have kd:0<=((k+1:Nat):Int)*d:=Zc (by omega) (by omega)
   have ec:((k+1:Nat):Int)=(k:Int)+1:=by omega
   rw[ec] at p kd;rw[e];exact⟨Int.mul_le_mul i1 (show n-((k:Int)+1)*d<=Q 49 by omega) (by omega) (by omega),Int.mul_le_mul i2 (show d<=Q 49 by omega) (by omega) (by omega)⟩
 obtain⟨g1,g2⟩:=g j hj;have m:=zH (show 49*j+1<=16*804 by omega)
 have m2:∀ i,Q (i+1)=2*Q i:=λ _=>rfl
 rw[m2] at m;have:=zE (49*j);exact⟨by omega,by omega⟩
theorem GaV.pos {g:Nat->Rat} {B:Nat} {a:Int × Int} (h:GaV g B a):0<a.1:=by have:=h.lo;have:=zE B;omega
end Go.Proofs.YtgmnknmjainabacGreat
