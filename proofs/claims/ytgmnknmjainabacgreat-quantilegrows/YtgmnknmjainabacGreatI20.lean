/-
  Its own texts.
-/
import Derived.Test.YtgmnknmjainabacGreatI19
set_option maxRecDepth 100000
set_option maxHeartbeats 40000000
set_option linter.unnecessarySimpa false
set_option linter.unusedSimpArgs false
set_option linter.unusedVariables false
namespace Go.Proofs.YtgmnknmjainabacGreat
open Go.RowKit
attribute [local go_sem ↓] Go.wp_at_zero Go.wp_at_succ
structure StSt (w wr:World) (BX BY:Nat) (X Y:Nm) (k:Nat) (p q:Int):Prop where
 x:VnC wr BX X
 y:VnC wr BY Y
 ix:IntAt wr X.neg X.a X.n X.cap k p
 iy:IntAt wr Y.neg Y.a Y.n Y.cap k q
 n1:NoI wr w.heap.size
 n2:NoI wr (w.heap.size+1)
 be:Below w.heap.size w wr
 l1:w.heap.size+1<BX
 l2:w.heap.size+1<BY
 ne:BX≠BY
theorem StSt.bw {w wr wr':World} {BX BY:Nat} {X Y:Nm} {k:Nat} {p q:Int} (h:StSt w wr BX BY X Y k p q) (hb:Below wr.heap.size wr wr'):StSt w wr' BX BY X Y k p q :=
 ⟨h.x.bw hb,h.y.bw hb,h.ix.bw hb,h.iy.bw hb,h.n1.bw hb,h.n2.bw hb,zB h.be hb,h.l1,h.l2,h.ne⟩
theorem NoI.offs {w:World} {B B':Nat} (h:NoI w B) (hne:B≠B') (y:Nm):NoI (zCC w B' y) B:=by
 obtain⟨q0,q1,q2⟩:=h;exact⟨by simp[go_sem,q0,hne,Ne.symm hne],by simp[go_sem,q1,hne,Ne.symm hne],yY q2 _ _⟩
theorem StSt.put {w wr:World} {BX BY:Nat} {X Y X' Y':Nm} {k k':Nat} {p q p' q':Int} (h:StSt w wr BX BY X Y k p q) (hx:IntAt wr X'.neg X'.a X'.n X'.cap k' p') (hy:IntAt wr Y'.neg Y'.a Y'.n Y'.cap k' q'):StSt w (zCC (zCC wr BX X') BY Y') BX BY X' Y' k' p' q' :=
 have x1:=h.x.put X';have y1:=h.y.off (Ne.symm h.ne) X'
 ⟨x1.off h.ne Y',y1.put Y',(hx.putv h.x X').putv y1 Y',(hy.putv h.x X').putv y1 Y',(h.n1.offs (by have:=h.l1;omega) X').offs (by have:=h.l2;omega) Y',(h.n2.offs (by have:=h.l1;omega) X').offs (by have:=h.l2;omega) Y',zD2 (zD2 h.be (by have:=h.l1;omega) _ _) (by have:=h.l2;omega) _ _,h.l1,h.l2,h.ne⟩
theorem st_end {w wr:World} {BX BY:Nat} {X Y:Nm} {k:Nat} {p q:Int} (h:StSt w wr BX BY X Y k p q):IntAt (zCC (zCC wr w.heap.size X) (w.heap.size+1) Y) X.neg X.a X.n X.cap k p/\IntAt (zCC (zCC wr w.heap.size X) (w.heap.size+1) Y) Y.neg Y.a Y.n Y.cap k q/\Below w.heap.size w (zCC (zCC wr w.heap.size X) (w.heap.size+1) Y):=by
 have n2:=h.n2.offs (B':=w.heap.size) (by omega) X
 obtain⟨a0,a1,af⟩:=h.n1;obtain⟨b0,b1,bf⟩:=n2;exact⟨(h.ix.put2 a0 a1 _ _).put2 b0 b1 _ _,(h.iy.put2 a0 a1 _ _).put2 b0 b1 _ _,zD2 (zD2 h.be (YE _) _ _) (Nat.le_succ _) _ _⟩
theorem zTV (w:World) (n d:Int) (h:StIn n d) (hn:n<=4611686018427387904) :
  Calls Tryz.prog 200 #[.int .i64 n,.int .i64 d] w (λ r w'=>∃ X Y:Nm,r=.returned (.tuple #[.int .i64 (n-(stN n d:Int)*d),.agg X.q,.agg Y.q])/\IntAt w' X.neg X.a X.n X.cap (4*stN n d+4) (stP n d (stN n d))/\IntAt w' Y.neg Y.a Y.n Y.cap (4*stN n d+4) (stQ d (stN n d))/\Below w.heap.size w w'):=by
 obtain⟨W,hW⟩:∃ W,W=(w.alloc (.cells #[.bool false,.slice none 0 0] 29)).alloc (.cells #[.bool false,.slice none 0 0] 29):=⟨_,rfl⟩;have j7:Below w.heap.size w W:=by rw[hW];exact bl2 _ _ _
 have R1:NoI W w.heap.size:=by rw[hW];exact (jL w _).bw (bl1 _ _)
 have R2:NoI W (w.heap.size+1):=by rw[hW];constructor<;>simp[go_sem]
 have d0:=h.d0;have dd:=h.dd;have KY:=h.rest.2.2;have H:=zC h;clear h
 go_enter Tryz.func200,Tryz.ntmps200
 go_wp2_with fail;rw[<- hW];clear hW;refine (zD 1 _ (by decide) (by decide)).mono ?_
 rintro r' w1 ⟨m7,a1,n1,c1,rfl,o8,b9⟩;replace R1:=R1.bw b9;replace R2:=R2.bw b9;replace j7:=zB j7 b9;clear b9;go_wp2_with fail;refine (zD 1 _ (by decide) (by decide)).mono ?_
 rintro r' w2 ⟨j6,a2,n2,c2,rfl,A5,j8⟩;replace R1:=R1.bw j8;replace R2:=R2.bw j8;replace j7:=zB j7 j8;replace o8:=o8.bw j8;clear j8;have lR:=R2.lt;obtain⟨V1,Q2⟩:∃ V1,V1=(w2.alloc (.cells #[.bool m7,.slice a1 n1 c1] 29)).alloc (.cells #[.bool j6,.slice a2 n2 c2] 29):=⟨_,rfl⟩;have ag:Below w2.heap.size w2 V1:=by rw[Q2];exact bl2 _ _ _
 have mJ:StSt w V1 w2.heap.size (w2.heap.size+1) ⟨m7,a1,n1,c1⟩ ⟨j6,a2,n2,c2⟩ (4*0+4) (stP n d 0) (stQ d 0):=⟨by rw[Q2];exact (zUF w2 ⟨m7,a1,n1,c1⟩ _).bw (bl1 _ _),by rw[Q2];exact⟨⟨by simp[go_sem],by simp[go_sem]⟩,λ o=>by simp[go_sem]⟩,o8.bw ag,A5.bw ag,R1.bw ag,R2.bw ag,zB j7 ag,lR,by omega,by omega⟩
 go_wp2_with fail;rw[<- Q2];clear Q2 ag o8 A5 R1 R2 j7;obtain⟨BX,Cm⟩:∃ B,B=w2.heap.size:=⟨_,rfl⟩;obtain⟨BY,Qk⟩:∃ B',B'=w2.heap.size+1:=⟨_,rfl⟩;rw[<- Qk,<- Cm] at mJ ⊢;clear Cm Qk lR
 go_loopw [0] (λ nn wr=>∃ (i:Nat) (X Y:Nm),nn=.int .i64 (n-(i:Int)*d)/\i<=stN n d/\StSt w wr BX BY X Y (4*i+4) (stP n d i) (stQ d i)) (λ nn _=>(intOf nn).toNat)
 case atStart=>exact⟨0,_,_,by simp,Nat.zero_le _,mJ⟩
 case round =>
  obtain⟨i,X,Y,rfl,hi,st⟩:=hrel;clear mJ;have p0:=(st_at (zA H) hi).1;have id0:=YF (show (0:Int)<=(i:Int) by omega) (show 0<=d by omega)
  by_cases I7:i<stN n d
  ·have lM:d<n-(i:Int)*d:=(st_at (zA H) hi).2 I7
   have HX:=zC st.x;have HY:=zC st.y;have HI:=zC st.ix;have HJ:=zC st.iy;have nX:=zC st;have P5:=zC (show IntKind.i64.wrap (n-(i:Int)*d-d)=n-(i:Int)*d-d from jB _ (by omega) (by omega))
   have HR:=zC (show -9223372036854775808<=n-(i:Int)*d-d/\n-(i:Int)*d-d<=9223372036854775807 from⟨by omega,by omega⟩)
   clear st;go_wp2_with fail;have A9:Below wr.heap.size wr wr.drew:=(Below.refl _ _).drew;have gX:=zC (show ∀ w',Below wr.heap.size wr w'->(nK0 w' BX X) from λ w' hB=>⟨((zA HX).bw hB).c.c0,((zA HX).bw hB).c.c1⟩)
   have fE:=zC (show ∀ w',Below wr.heap.size wr w'->(nK0 w' BY Y) from λ w' hB=>⟨((zA HY).bw hB).c.c0,((zA HY).bw hB).c.c1⟩)
   refine AnyS.start (S:=λ j w'=>(j=6\/j=7\/j=10\/j=11\/(w'.cell? ⟨BX,0,none⟩=some (.bool X.neg)/\w'.cell? ⟨BX,1,none⟩=some (.slice X.a X.n X.cap)))/\(j=11\/(w'.cell? ⟨BY,0,none⟩=some (.bool Y.neg)/\w'.cell? ⟨BY,1,none⟩=some (.slice Y.a Y.n Y.cap)))) (by kernel_rfl) ?_
   refine AnyS.take (i:=6) (oi:={ dst:=some 23,op:=Go.Op.load 29 (Go.Operand.tmp 8),type:=29,pos := "gamma.go:37",after:=#[],guard:=none }) (v:=.agg Y.q) (T:=λ w'=>nK0 w' BY Y) rfl (by kernel_rfl) (by kernel_rfl) (by kernel_rfl) (λ _ _ _ h=>h) 11 1 (λ j hl hj w h=>h.2.elim (λ e=>absurd e (by omega)) id) (by kernel_rfl) (λ w h=>⟨Or.inl rfl,Or.inr h⟩) (Or.inl ⟨by rfl,λ w hSw=>?_⟩) (zA fE _ A9) ?_
   ·obtain⟨s0,s1⟩:=hSw;go_simp
   try simp only[Act.put,Yv,Yw,Yx]
   refine AnyS.take (i:=7) (oi:={ dst:=some 24,op:=Go.Op.move (Go.Operand.tmp 1),type:=3,pos := "gamma.go:37",after:=#[],guard:=none }) (v:=.int .i64 d) (T:=λ w'=>nK0 w' BY Y) rfl (by kernel_rfl) (by kernel_rfl) (by kernel_rfl) (λ _ _ _ h=>h) 11 1 (λ j hl hj w h=>h.2.elim (λ e=>absurd e (by omega)) id) (by kernel_rfl) (λ w h=>⟨Or.inr (Or.inl rfl),Or.inr h⟩) (Or.inl ⟨by rfl,λ w hSw=>?_⟩) (zA fE _ A9) ?_
   ·go_simp
   try simp only[Act.put,Yv,Yw,Yx]
   refine AnyS.take (i:=0) (oi:={ dst:=some 17,op:=Go.Op.load 29 (Go.Operand.tmp 7),type:=29,pos := "gamma.go:37",after:=#[],guard:=none }) (v:=.agg X.q) (T:=λ w'=>(nK0 w' BX X)/\(nK0 w' BY Y)) rfl (by kernel_rfl) (by kernel_rfl) (by kernel_rfl) (λ _ _ _ h=>h) 10 2 (λ j hl hj w h=>⟨h.1.elim (λ e=>absurd hl (by rw[e];decide)) (λ h=>h.elim (λ e=>absurd hl (by rw[e];decide)) (λ h=>h.elim (λ e=>absurd e (by omega)) (λ h=>h.elim (λ e=>absurd e (by omega)) id))),h.2.elim (λ e=>absurd e (by omega)) id⟩) (by kernel_rfl) (λ w h=>⟨Or.inr (Or.inr (Or.inr (Or.inr h.1))),Or.inr h.2⟩) (Or.inl ⟨by rfl,λ w hSw=>?_⟩) ⟨zA gX _ A9,zA fE _ A9⟩ ?_
   ·obtain⟨⟨s0,s1⟩,_⟩:=hSw;go_simp
   try simp only[Act.put,Yv,Yw,Yx]
   refine AnyS.take (i:=1) (oi:={ dst:=some 18,op:=Go.Op.move (Go.Operand.tmp 0),type:=3,pos := "gamma.go:37",after:=#[],guard:=none }) (v:=.int .i64 (n-(i:Int)*d)) (T:=λ w'=>(nK0 w' BX X)/\(nK0 w' BY Y)) rfl (by kernel_rfl) (by kernel_rfl) (by kernel_rfl) (λ _ _ _ h=>h) 10 2 (λ j hl hj w h=>⟨h.1.elim (λ e=>absurd hl (by rw[e];decide)) (λ h=>h.elim (λ e=>absurd hl (by rw[e];decide)) (λ h=>h.elim (λ e=>absurd e (by omega)) (λ h=>h.elim (λ e=>absurd e (by omega)) id))),h.2.elim (λ e=>absurd e (by omega)) id⟩) (by kernel_rfl) (λ w h=>⟨Or.inr (Or.inr (Or.inr (Or.inr h.1))),Or.inr h.2⟩) (Or.inl ⟨by rfl,λ w hSw=>?_⟩) ⟨zA gX _ A9,zA fE _ A9⟩ ?_
   ·go_simp
   try simp only[Act.put,Yv,Yw,Yx]
   refine AnyS.take (i:=2) (oi:={ dst:=some 19,op:=Go.Op.move (Go.Operand.tmp 1),type:=3,pos := "gamma.go:37",after:=#[],guard:=none }) (v:=.int .i64 d) (T:=λ w'=>(nK0 w' BX X)/\(nK0 w' BY Y)) rfl (by kernel_rfl) (by kernel_rfl) (by kernel_rfl) (λ _ _ _ h=>h) 10 2 (λ j hl hj w h=>⟨h.1.elim (λ e=>absurd hl (by rw[e];decide)) (λ h=>h.elim (λ e=>absurd hl (by rw[e];decide)) (λ h=>h.elim (λ e=>absurd e (by omega)) (λ h=>h.elim (λ e=>absurd e (by omega)) id))),h.2.elim (λ e=>absurd e (by omega)) id⟩) (by kernel_rfl) (λ w h=>⟨Or.inr (Or.inr (Or.inr (Or.inr h.1))),Or.inr h.2⟩) (Or.inl ⟨by rfl,λ w hSw=>?_⟩) ⟨zA gX _ A9,zA fE _ A9⟩ ?_
   ·go_simp
   try simp only[Act.put,Yv,Yw,Yx]
   refine AnyS.take (i:=3) (oi:={ dst:=some 20,op:=Go.Op.binOp Go.BinOp.sub 3 (Go.Operand.tmp 18) (Go.Operand.tmp 19) 3,type:=3,pos := "gamma.go:37",after:=#[{ on:=1,ground:=Go.Ground.data },{ on:=2,ground:=Go.Ground.data }],guard:=none }) (v:=.int .i64 (n-(i:Int)*d-d)) (T:=λ w'=>(nK0 w' BX X)/\(nK0 w' BY Y)) rfl (by kernel_rfl) (by kernel_rfl) (by kernel_rfl) (λ _ _ _ h=>h) 10 2 (λ j hl hj w h=>⟨h.1.elim (λ e=>absurd hl (by rw[e];decide)) (λ h=>h.elim (λ e=>absurd hl (by rw[e];decide)) (λ h=>h.elim (λ e=>absurd e (by omega)) (λ h=>h.elim (λ e=>absurd e (by omega)) id))),h.2.elim (λ e=>absurd e (by omega)) id⟩) (by kernel_rfl) (λ w h=>⟨Or.inr (Or.inr (Or.inr (Or.inr h.1))),Or.inr h.2⟩) (Or.inl ⟨by rfl,λ w hSw=>?_⟩) ⟨zA gX _ A9,zA fE _ A9⟩ ?_
   ·go_simp;rw[zA P5]
   try simp only[Act.put,Yv,Yw,Yx]
   refine AnyS.one (i:=4) (o:={ dst:=some 21,op:=Go.Op.call { callee:=Go.Callee.value (Go.Operand.func 33),args:=#[Go.Operand.tmp 20],argTypes:=#[3] },type:=29,pos := "gamma.go:37",after:=#[{ on:=3,ground:=Go.Ground.data }],guard:=none }) (by kernel_rfl) rfl (λ Kc H8=>?_)
   go_simp
   refine (zD (n-(i:Int)*d-d) _ (zA HR).1 (zA HR).2).mono ?_;rintro r' w1 ⟨m7,a1,n1,c1,rfl,o8,b9⟩;have p9:=zB A9 b9;clear b9;go_wp2_with fail;refine H8.out _ _ ⟨Or.inr (Or.inr (Or.inr (Or.inr (zA gX _ p9)))),Or.inr (zA fE _ p9)⟩ (λ _=>?_)
   clear H8 Kc
   try simp only[Act.put,Yv,Yw,Yx]
   refine AnyS.one (i:=5) (o:={ dst:=some 22,op:=Go.Op.call { callee:=Go.Callee.value (Go.Operand.func 83),args:=#[Go.Operand.tmp 17,Go.Operand.tmp 21],argTypes:=#[29,29] },type:=29,pos := "gamma.go:37",after:=#[{ on:=0,ground:=Go.Ground.data },{ on:=4,ground:=Go.Ground.data },{ on:=4,ground:=Go.Ground.chain }],guard:=none }) (by kernel_rfl) rfl (λ Kc H8=>?_)
   go_simp
   refine (zT _ _ _ _ _ _ _ _ (4*i+4) 4 (stP n d i) (n-(i:Int)*d-d) _ ((zA HI).bw p9) o8 (by omega) (by omega)).mono ?_
   rintro r' w2 ⟨j6,a2,n2,c2,rfl,A5,j8⟩;have s9:=zB p9 j8;clear j8 o8;go_wp2_with fail;refine H8.out _ _ ⟨Or.inr (Or.inr (Or.inr (Or.inr (zA gX _ s9)))),Or.inr (zA fE _ s9)⟩ (λ _=>?_)
   clear H8 Kc
   try simp only[Act.put,Yv,Yw,Yx]
   refine AnyS.one (i:=8) (o:={ dst:=some 25,op:=Go.Op.call { callee:=Go.Callee.value (Go.Operand.func 33),args:=#[Go.Operand.tmp 24],argTypes:=#[3] },type:=29,pos := "gamma.go:37",after:=#[{ on:=7,ground:=Go.Ground.data },{ on:=5,ground:=Go.Ground.chain }],guard:=none }) (by kernel_rfl) rfl (λ Kc H8=>?_)
   go_simp
   refine (zD d _ (by omega) (by omega)).mono ?_
   rintro r' w3 ⟨A7,a3,n3,c3,rfl,E5,m9⟩;have E9:=zB s9 m9;replace A5:=A5.bw m9;clear m9;go_wp2_with fail;refine H8.out _ _ ⟨Or.inr (Or.inr (Or.inr (Or.inr (zA gX _ E9)))),Or.inr (zA fE _ E9)⟩ (λ _=>?_)
   clear H8 Kc
   try simp only[Act.put,Yv,Yw,Yx]
   refine AnyS.one (i:=9) (o:={ dst:=some 26,op:=Go.Op.call { callee:=Go.Callee.value (Go.Operand.func 83),args:=#[Go.Operand.tmp 23,Go.Operand.tmp 25],argTypes:=#[29,29] },type:=29,pos := "gamma.go:37",after:=#[{ on:=6,ground:=Go.Ground.data },{ on:=8,ground:=Go.Ground.data },{ on:=8,ground:=Go.Ground.chain }],guard:=none }) (by kernel_rfl) rfl (λ Kc H8=>?_)
   go_simp
   refine (zT _ _ _ _ _ _ _ _ (4*i+4) 4 (stQ d i) d _ ((zA HJ).bw E9) E5 (by omega) (by omega)).mono ?_
   rintro r' w4 ⟨D8,a4,n4,c4,rfl,G6,y9⟩;have I5:=zB E9 y9;replace A5:=A5.bw y9;clear y9 E5;go_wp2_with fail;refine H8.out _ _ ⟨Or.inr (Or.inr (Or.inr (Or.inr (zA gX _ I5)))),Or.inr (zA fE _ I5)⟩ (λ _=>?_)
   clear H8 Kc
   try simp only[Act.put,Yv,Yw,Yx]
   have VX:=(zA HX).bw I5;have VY:=(zA HY).bw I5;have lX:=VX.lt;have lY:=VY.lt;have BT:VnC (zCC w4 BX ⟨j6,a2,n2,c2⟩) BY Y:=VY.off (Ne.symm (zA nX).ne) ⟨j6,a2,n2,c2⟩;unfold zCC at BT;obtain⟨⟨z0,z1⟩,zf⟩:=VX;refine AnyS.one (i:=10) (o:={ dst:=none,op:=Go.Op.store 29 (Go.Operand.tmp 7) (Go.Operand.tmp 22),type:=0,pos := "gamma.go:37",after:=#[{ on:=5,ground:=Go.Ground.data },{ on:=9,ground:=Go.Ground.chain },{ on:=0,ground:=Go.Ground.phase },{ on:=1,ground:=Go.Ground.phase },{ on:=2,ground:=Go.Ground.phase },{ on:=3,ground:=Go.Ground.phase },{ on:=4,ground:=Go.Ground.phase },{ on:=5,ground:=Go.Ground.phase },{ on:=6,ground:=Go.Ground.textOnly Go.Departure.lateStores },{ on:=7,ground:=Go.Ground.textOnly Go.Departure.lateStores },{ on:=8,ground:=Go.Ground.textOnly Go.Departure.lateStoresUnsure },{ on:=9,ground:=Go.Ground.textOnly Go.Departure.lateStoresUnsure }],guard:=none }) (by kernel_rfl) rfl (λ Kc H8=>?_)
   go_simp
   refine H8.out _ _ ⟨Or.inr (Or.inr (Or.inl rfl)),Or.inr ⟨BT.c.c0,BT.c.c1⟩⟩ (λ _=>?_)
   clear H8 Kc z0 z1 zf
   try simp only[Act.put,Yv,Yw,Yx]
   have lY2:=BT.lt;obtain⟨⟨z0,z1⟩,zf⟩:=BT;refine AnyS.last (o:={ dst:=none,op:=Go.Op.store 29 (Go.Operand.tmp 8) (Go.Operand.tmp 26),type:=0,pos := "gamma.go:37",after:=#[{ on:=9,ground:=Go.Ground.data },{ on:=10,ground:=Go.Ground.chain },{ on:=0,ground:=Go.Ground.phase },{ on:=1,ground:=Go.Ground.phase },{ on:=2,ground:=Go.Ground.phase },{ on:=3,ground:=Go.Ground.phase },{ on:=4,ground:=Go.Ground.phase },{ on:=5,ground:=Go.Ground.phase },{ on:=6,ground:=Go.Ground.phase },{ on:=7,ground:=Go.Ground.phase },{ on:=8,ground:=Go.Ground.phase },{ on:=9,ground:=Go.Ground.phase },{ on:=10,ground:=Go.Ground.phase }],guard:=none }) (by kernel_rfl) rfl (by kernel_rfl) (λ _=>⟨Or.inr (Or.inr (Or.inr (Or.inl rfl))),Or.inl rfl⟩) (λ Kc H8=>?_)
   go_simp
   refine H8.out _ _ ?_;clear H8 Kc z0 z1 zf gX fE;have stn:=((zA nX).bw I5).put (X':=⟨j6,a2,n2,c2⟩) (Y':=⟨D8,a4,n4,c4⟩) A5 G6;unfold zCC at stn
   have e1:stP n d i*(n-(i:Int)*d-d)=stP n d (i+1):=by
    show _=stP n d i*(n-((i:Int)+1)*d)
    congr 1;grind
   have e2:stQ d i*d=stQ d (i+1):=rfl
   have e3:n-(i:Int)*d-d=n-((i+1:Nat):Int)*d:=by
    have:((i+1:Nat):Int)=(i:Int)+1:=by omega
    rw[this];grind
   rw[e1,e2,show 4*i+4+4=4*(i+1)+4 by omega] at stn
   have E3:=zC e3;clear e1 e2 e3;go_wp2_with fail
   go_roundw
   case rel=>exact⟨i+1,_,_,congrArg _ (zA E3),by omega,stn⟩
   case measure=>simp[intOf];omega
  ·have lM:¬ d<n-(i:Int)*d:=by
    have:=(zA H).rest.2.1;have e:i=stN n d:=by omega
    rw[e];omega
   have hik:i=stN n d:=by omega
   subst hik;have lX:=st.x.lt;have lY:=st.y.lt;have q1:=st.n1;have q2:=st.n2;have l1:=st.l1;have l2:=st.l2;have lq1:=q1.lt;have lq2:=q2.lt;have nX:=zC st;obtain⟨⟨x0,x1⟩,xf⟩:=st.x;obtain⟨⟨y0,y1⟩,yf⟩:=st.y;obtain⟨q10,q11,q1f⟩:=q1;obtain⟨xc,Lr,q2f⟩:=q2;clear st;have m1:w.heap.size≠BX:=by omega
   have m2:w.heap.size≠BY:=by omega
   have m3:w.heap.size+1≠BX:=by omega
   have m4:w.heap.size+1≠BY:=by omega
   go_wp2_with fail;have HE:=st_end (zA nX);unfold zCC at HE
   go_region
   all_goals
    go_wp2_with fail;refine bodyPost_ret (v:=.tuple #[.int .i64 (n-(stN n d:Int)*d),.agg X.q,.agg Y.q]) (by simp[results,Tryz.results200,go_sem,q10,q11,xc,Lr]) rfl ⟨X,Y,rfl,?_,?_,?_⟩
    ·exact HE.1.bw (Below.refl _ _).drew
    ·exact HE.2.1.bw (Below.refl _ _).drew
    ·exact HE.2.2.drew
open Ex
structure IcC (w:World) (B:Nat) (v:Int):Prop where
 c0:w.cell? ⟨B,0,none⟩=some (.int .i64 v)
theorem IcC.lt {w:World} {B:Nat} {v:Int} (h:IcC w B v):B<w.heap.size:=World.block_lt_of_cell? w ⟨B,0,none⟩ h.c0
theorem IcC.bw {w w':World} {B:Nat} {v:Int} (h:IcC w B v) (hb:Below w.heap.size w w'):IcC w' B v:=⟨(hb.cell (p:=⟨B,0,none⟩) h.lt).trans h.c0⟩
theorem ga1_iv (w:World) (B0 B1 B2:Nat) (s:Sp) (x d n:Int) (k b:Nat) (j:Int) (a:Int × Int) (hs:SpAt w s k a.1 a.2) (X:IcC w B0 x) (D:IcC w B1 d) (Z:IcC w B2 n) (hk:k<=100000000) (hb:s.bits=(b:Int)) (hx:0<=x*d) (aV:x*d<=9223372036854775807) (hj:0<=j*d) (CZ:j*d<=4611686018427387904) (hn:0<n) (aR:n<=4611686018427387903) :
  Calls Tryz.prog 208 #[.agg s.q,.int .i64 j,.pointer (some ⟨B0,0,none⟩),.pointer (some ⟨B1,0,none⟩),.pointer (some ⟨B2,0,none⟩)] w (zH w b (k+4+10) (zK a (x*d) (n+j*d)).1 (zK a (x*d) (n+j*d)).2):=by
 obtain⟨W,hW⟩:∃ W,W=(w.alloc (.cells s.q 31)).alloc (.cells zCq 31):=⟨_,rfl⟩;have j7:Below w.heap.size w W:=by rw[hW];exact bl2 _ _ _
 have A:SpC W w.heap.size s:=by rw[hW];constructor<;>simp[go_sem]
 have R:NoC W (w.heap.size+1):=by rw[hW];constructor<;>simp[go_sem]
 have HS:=zC (hs.bw j7);have l0:=X.lt;have l1:=D.lt;have l2:=Z.lt;replace X:=X.bw j7;replace D:=D.bw j7;replace Z:=Z.bw j7;have HB:=zC hb;have lR:=R.lt;have lA:=A.lt;have P5:=zC (show IntKind.i64.wrap (x*d)=x*d from jB _ (by omega) (by omega))
 have Y7:=zC (show IntKind.i64.wrap (j*d)=j*d from jB _ (by omega) (by omega))
 have cR:=zC (show IntKind.i64.wrap (n+j*d)=n+j*d from jB _ (by omega) (by omega))
 have ba:=zC (show -9223372036854775808<=x*d/\x*d<=9223372036854775807 from⟨by omega,by omega⟩)
 have gZ:=zC (show -9223372036854775808<=n+j*d/\n+j*d<=9223372036854775807 from⟨by omega,by omega⟩)
 have rO:=zC (show 0<n+j*d by omega)
 clear hs hb hx aV hj CZ hn aR;have C8:Below W.heap.size W W.drew:=(Below.refl _ _).drew;have HK:=zC (show ∀ w',Below W.heap.size W w'->(cK w' w.heap.size s (w'.cell? ⟨B0,0,none⟩=some (.int .i64 x)/\w'.cell? ⟨B1,0,none⟩=some (.int .i64 d)/\w'.cell? ⟨B2,0,none⟩=some (.int .i64 n))) from λ w' hB=>⟨(A.bw hB).c0,(A.bw hB).c1,(A.bw hB).c2,(A.bw hB).c3,(A.bw hB).c4,(X.bw hB).c0,(D.bw hB).c0,(Z.bw hB).c0⟩)
 clear X D Z
 go_enter Tryz.func208,Tryz.ntmps208
 go_wp2;rw[<- hW];clear hW;have DV:w.heap.size+1≠B0:=by omega
 have Gb:w.heap.size+1≠B1:=by omega
 have Si:w.heap.size+1≠B2:=by omega
 obtain⟨x0,x1,x2,x3,x4,x5,x6,x7⟩:=zA HK _ (Below.refl _ _)
 go_region_held3 (λ w'=>cK w' w.heap.size s (w'.cell? ⟨B0,0,none⟩=some (.int .i64 x)/\w'.cell? ⟨B1,0,none⟩=some (.int .i64 d)/\w'.cell? ⟨B2,0,none⟩=some (.int .i64 n))) (first|exact zA HK _ (by with_reducible first|exact C8|exact A8|exact o9|exact A6)|(dsimp only[cK,cK0,nK,nK0,rK,rK0];go_keep)|go_keep)
  (first
   | (go_at_call 151;have hq:=o9;refine (zA9 _ s ⟨m7,a1,n1,c1⟩ ⟨j6,a2,n2,c2⟩ k 4 _ b a (x*d) (n+j*d) ((zA HS).bw o9) (o8.bw j8) A5 (by omega) (by omega) (zA rO) (zA HB)).mono ?_;rintro r w3 ⟨t,rfl,I8,P1,m9⟩;have HT:=zC I8;clear I8;have A8:=zB o9 m9;obtain⟨q0,q1,q2,q3,q4,q5⟩:=R.bw A8;obtain⟨i0,i1,i2,i3,i4,i5,i6,i7⟩:=zA HK _ A8)
   | (go_at_call 33;have hq:=A6;(first|rw[zA Y7,zA cR]|rw[zA cR]);refine (zD (n+j*d) _ (zA gZ).1 (zA gZ).2).mono ?_;rintro r w2 ⟨j6,a2,n2,c2,rfl,A5,j8⟩;have o9:=zB A6 j8)
   | (go_at_call 33;rw[zA P5];refine (zD (x*d) _ (zA ba).1 (zA ba).2).mono ?_;rintro r w1 ⟨m7,a1,n1,c1,rfl,o8,b9⟩;have A6:=zB C8 b9))
 all_goals
  go_wp2;refine bodyPost_ret (v:=.agg t.q) (by simp[results,Tryz.results208,go_sem,q0,q1,q2,q3,q4]) rfl ⟨t,rfl,zA HT,?_,?_⟩
  ·exact SpAt.put5 P1 q0 q1 q2 q3 q4 _ _ _ _ _
  ·exact jY (zB j7 A8) (Nat.le_succ _) _ _ _ _ _
theorem en_ga (args:Array Value) (w:World):(callFunc 208 args).run Tryz.prog w=.ok (.enter 208 args) w:=by simp[go_sem,callFunc,Tryz.func208];kernel_rfl
theorem zH6 (L:Rat->Nat->Rat) (hL:Lns L) (w:World) (n d:Int) (b:Nat) (g:Nat->Rat) (h:zGU n d b) (hg:Gam1 L ((n:Rat)/(d:Rat)) g) :
  Calls Tryz.prog 202 #[.int .i64 n,.int .i64 d,.int .i64 b] w (λ r w'=>∃ lo hi:Int,GaV g b (lo,hi)/\zH w b 70 lo hi r w'):=by
 obtain⟨W,hW⟩:∃ W,W=(((w.alloc (.cells #[.int .i64 n] 3)).alloc (.cells #[.int .i64 d] 3)).alloc (.cells zCq 31)).alloc (.cells #[.int .i64 (b:Int)] 3):=⟨_,rfl⟩;have j7:Below w.heap.size w W:=by rw[hW];exact bl4 _ _ _ _ _
 have N0:IcC W (w.heap.size) n:=by rw[hW];exact⟨by simp[go_sem]⟩
 have D0:IcC W (w.heap.size+1) d:=by rw[hW];exact⟨by simp[go_sem]⟩
 have X0:IcC W (w.heap.size+1+1+1) (b:Int):=by rw[hW];exact⟨by simp[go_sem]⟩
 have R:NoC W (w.heap.size+1+1):=by rw[hW];constructor<;>simp[go_sem]
 have n0:=h.n0;have nd:=h.nd;have dd:=h.dd;have b0:=h.b0;have b1:=h.b1;have We:0<=(b:Int)*d:=YF (by omega) (by omega)
 have bd1:(b:Int)*d<=1000*2199023255552:=Int.mul_le_mul (by omega) dd (by omega) (by omega)
 have lX:=X0.lt;have H:=zC h;have HL:=zC hL;have HG:=zC hg;obtain⟨NS,nt,Z1⟩:=ga_set h;obtain⟨f1,f2,f3,f4⟩:=zCR h
 have PK:∀ j:Nat,j<=22000->Q j<P 1400:=λ j hj=>by
  rw[<- Q_P];have h1:=zJ (show j+1<=16*1400 by omega)
  have h2:Q (j+1)=2*Q j:=rfl;have:=zE j;omega
 have oZ:=zC (show (ofI d n b).1<=(ofI d n b).2 /\ -P 1400<(ofI d n b).1/\(ofI d n b).2<P 1400 by
  have:=PK (b+41) (by omega)
  have:=zE b
  exact⟨f2,by omega,by omega⟩)
 have bc:=zC (show ∀ j,j<=NS -> -P 1400<(gaT n d b j).1/\(gaT n d b j).2<P 1400 from λ j _=>by
  have e:=zCQ h j;have u:=ga_hi h j;have:=PK (21*b+41) (by omega)
  have:=zE (21*b+41)
  exact⟨by omega,by omega⟩)
 have fI:=zC (show ∀ j,j<=NS -> -P 1400<(jE (gaT n d b) j).1/\(jE (gaT n d b) j).2<P 1400 from λ j hj=>by
  have u:=ga_fit h j (by omega)
  have l:=(zM7 h j).2.2.2;have:=PK (21*b+60) (by omega)
  have:=zE b;have:=zE (21*b+60)
  exact⟨by omega,by omega⟩)
 have fG:=zC (λ j=>(zCQ h j).2)
 have Y8:=zC (λ j=>(zCQ h j).1)
 have HM:=zC Z1
 have cg:=zC (show ∀ (j:Nat) (u:Sp) w',j<NS->u.bits=(b:Int)->SpAt w' u 1400 (gaT n d b j).1 (gaT n d b j).2->Below W.heap.size W w'->Calls Tryz.prog 208 #[.agg u.q,.int .i64 ((j:Int)+1),.pointer (some ⟨w.heap.size+1+1+1,0,none⟩),.pointer (some ⟨w.heap.size+1,0,none⟩),.pointer (some ⟨w.heap.size,0,none⟩)] w' (zH w' b 1414 (gaT n d b (j+1)).1 (gaT n d b (j+1)).2) from λ j u w' hj B8 B7 O7=>by
  have e:=ga1_iv w' (w.heap.size+1+1+1) (w.heap.size+1) (w.heap.size) u (b:Int) d n 1400 b ((j:Int)+1) (gaT n d b j) B7 (X0.bw O7) (D0.bw O7) (N0.bw O7) (by omega) B8 We (by omega) (YF (by omega) (by omega)) (by
   have:=Int.mul_le_mul (show (j:Int)+1<=70000 by omega) dd (by omega) (by omega)
   omega) n0 (by omega)
  have ec:((j+1:Nat):Int)=(j:Int)+1:=by omega
  have e2:gaT n d b (j+1)=zK (gaT n d b j) ((b:Int)*d) (n+((j+1:Nat):Int)*d):=rfl;rw[e2,ec]
  exact e)
 have P5:=zC (show IntKind.i64.wrap (2*(b:Int))=((2*b:Nat):Int) from (jB _ (by omega) (by omega)).trans (by omega))
 have HK:=zC (show ∀ w',Below W.heap.size W w'->(w'.cell? ⟨w.heap.size,0,none⟩=some (.int .i64 n)/\w'.cell? ⟨w.heap.size+1,0,none⟩=some (.int .i64 d)/\w'.cell? ⟨w.heap.size+1+1+1,0,none⟩=some (.int .i64 (b:Int))) from λ w' hB=>⟨(N0.bw hB).c0,(D0.bw hB).c0,(X0.bw hB).c0⟩)
 clear h hL hg Z1 PK f1 f2 f3 f4;have lR:=R.lt
 go_enter Tryz.func202,Tryz.ntmps202
 go_wp2;rw[<- hW];clear hW
 go_cut [8] (λ p wx=>∃ (B:Nat) (u:Sp),p=.pointer (some ⟨B,0,none⟩)/\W.heap.size<=B/\VrC wx B u/\SpAt wx u 1403 (jS n d b NS).1 (jS n d b NS).2/\u.bits=(b:Int)/\Below W.heap.size W wx)
 case first =>
  go_region_held3 (λ w'=>w'.cell? ⟨w.heap.size,0,none⟩=some (.int .i64 n)/\w'.cell? ⟨w.heap.size+1,0,none⟩=some (.int .i64 d)/\w'.cell? ⟨w.heap.size+1+1+1,0,none⟩=some (.int .i64 (b:Int))) (exact zA HK _ (by repeat' (first|with_reducible exact sN|with_reducible exact aj|with_reducible exact K8|with_reducible exact H6|with_reducible exact Below.refl _ _|with_reducible refine Below.drew ?_|with_reducible refine zL ?_ _|with_reducible refine Below.setCell ?_ (by first|exact YE _|exact M4|exact R7|exact eX|exact wy) _)))
   (first
    | (go_at_call 182;have hq:=aj;rw[zA P5];refine (zEJ _ #[.pointer (some ⟨w.heap.size+1+1+1,0,none⟩),.pointer (some ⟨w.heap.size+1,0,none⟩),.pointer (some ⟨w.heap.size,0,none⟩)] en_ga (gaT n d b) (2*b) NS b 1400 1414 vS3 _ ((kr.bw (by with_reducible first|exact Below.refl _ _|exact bl1 _ _)).fits (K:=1400) (zA oZ).1 (zA oZ).2.1 (zA oZ).2.2) (zA Bw) (by omega) (by omega) (by omega) (by omega) (zA HM) (by omega) (by omega) (zA fG) (zA Y8) (zA bc) (zA fI) (λ j u w' hj B8 B7 O7=>zA cg j u w' hj B8 B7 (zB (by with_reducible first|exact aj|exact zL aj _) O7))).mono ?_;rintro r Ta ⟨SK,rfl,qP,JC,tZ⟩;have Bx:=zC qP;clear qP;have dE:Below xi.heap.size xi Ta:=(by with_reducible first|exact tZ|exact zB (bl1 _ _) tZ);have sN:=zB aj dE;(try with_reducible have Qd:=(zQ xi 31).bw tZ);replace J3:=J3.bw dE;(try replace T9:=T9.bw dE);replace W8:=W8.bw dE;(try replace ct:=ct.bw dE);replace kr:=kr.bw dE;(try replace sA:=sA.bw dE);have wy:=sN.size;(try have iA:=T9.lt);(try have IF:=YJ iA);(try have rW:=YI iA);(try obtain⟨bZ,cf,fw,fA,fB,ya⟩:=T9);(try have oN:=ct.lt);(try have PS:=YJ oN);(try have Cf:=YI oN);(try obtain⟨fC,fD,mK,mL,mM,En⟩:=ct);(try have Lf:=sA.lt);(try have eS3:=YJ Lf);(try have Xa:=YI Lf);(try obtain⟨yc,yd,Nk,Nl,Np,zS35⟩:=sA);(try have RX:=Qd.lt);(try have eS4:=YJ RX);(try have Xb:=YI RX);(try obtain⟨Nq,Nr,Ns,Nt,Nv,zS45⟩:=Qd))
    | (go_at_call 88;have hq:=K8;refine (jP _ _ _ _ _ _ _ _ 4 4 b d n _ (J3.bw (by with_reducible first|exact Below.refl _ _|exact bl1 _ _)) (W8.bw (by with_reducible first|exact Below.refl _ _|exact bl1 _ _)) (by omega) (by omega) n0).mono ?_;rintro r xi ⟨vS3,rfl,qO,kr,dV⟩;have Bw:=zC qO;clear qO;have aq:Below fq.heap.size fq xi:=(by with_reducible first|exact dV|exact zB (bl1 _ _) dV);have aj:=zB K8 aq;(try with_reducible have sA:=(zQ fq 31).bw dV);replace J3:=J3.bw aq;(try replace T9:=T9.bw aq);replace W8:=W8.bw aq;(try replace ct:=ct.bw aq);have eX:=aj.size)
    | (go_at_call 33;have hq:=H6;refine (zD n _ (by omega) (by omega)).mono ?_;rintro r fq ⟨Ec,VR,nS2,Wq,rfl,W8,Q5⟩;have W7:Below aM.heap.size aM fq:=(by with_reducible first|exact Q5|exact zB (bl1 _ _) Q5);have K8:=zB H6 W7;(try with_reducible have ct:=(zQ aM 31).bw Q5);replace J3:=J3.bw W7;(try replace T9:=T9.bw W7);have R7:=K8.size)
    | (go_at_call 33;refine (zD d _ (by omega) (by omega)).mono ?_;rintro r aM ⟨Eb,VQ,nS1,Wp,rfl,J3,L9⟩;have H6:Below W.heap.size W aM:=(by with_reducible first|exact zB (Below.refl _ _).drew L9|exact zB (bl1 _ _).drew L9);(try with_reducible have T9:=((zQ W 31).bw (Below.refl _ _).drew).bw L9);have M4:=H6.size))
  all_goals
   have hfinS:SpAt Ta SK 1403 (jS n d b NS).1 (jS n d b NS).2:=JC;go_wp2_with fail;go_meet;refine⟨_,SK,rfl,?_,⟨⟨?_,?_,?_,?_,?_⟩,?_⟩,?_,zA Bx,?_⟩
   ·first|exact YE _|exact M4|exact R7|exact eX|exact wy
   ·simp[go_sem, *]
   ·simp[go_sem, *]
   ·simp[go_sem, *]
   ·simp[go_sem, *]
   ·simp[go_sem, *]
   ·intro o;simp[go_sem, *]
   ·first|with_reducible exact SpAt.put5 hfinS Nq Nr Ns Nt Nv _ _ _ _ _|with_reducible exact SpAt.put5 hfinS yc yd Nk Nl Np _ _ _ _ _|with_reducible exact SpAt.put5 hfinS fC fD mK mL mM _ _ _ _ _|with_reducible exact SpAt.put5 hfinS bZ cf fw fA fB _ _ _ _ _|with_reducible exact hfinS.bw (bl1 _ _)
   ·repeat' (first|with_reducible exact sN|with_reducible exact aj|with_reducible exact K8|with_reducible exact H6|with_reducible exact Below.refl _ _|with_reducible refine Below.drew ?_|with_reducible refine zL ?_ _|with_reducible refine Below.setCell ?_ (by first|exact YE _|exact M4|exact R7|exact eX|exact wy) _)
 case rest =>
 obtain⟨BS,xS,rfl,tj,XS,hpS,hxbS,hblS⟩:=hcut;obtain⟨V1,Q2⟩:∃ V,V=wc:=⟨_,rfl⟩;subst Q2;replace N0:=N0.bw hblS;replace D0:=D0.bw hblS;replace X0:=X0.bw hblS;replace R:=R.bw hblS;replace j7:=zB j7 hblS;have cY:=zC hxbS;have iC:=zC hpS;have lS:=XS.lt;clear hxbS hpS HK bc fI fG Y8 cg oZ P5;have HK:=zC (show ∀ w',Below V1.heap.size V1 w'->(w'.cell? ⟨w.heap.size,0,none⟩=some (.int .i64 n)/\w'.cell? ⟨w.heap.size+1,0,none⟩=some (.int .i64 d)/\w'.cell? ⟨w.heap.size+1+1+1,0,none⟩=some (.int .i64 (b:Int))) from λ w' hB=>⟨(N0.bw hB).c0,(D0.bw hB).c0,(X0.bw hB).c0⟩)
 have mV:=zC (show Q (b+4)<P 500 by
  rw[<- Q_P];have h1:=zJ (show b+4+1<=16*500 by omega)
  have h2:Q (b+4+1)=2*Q (b+4):=rfl;have:=zE (b+4)
  omega)
 have d0:0<d:=by omega
 go_wp2_with fail
 go_cut [9] (λ p wx=>∃ (B:Nat) (u:Sp) (o:Int × Int),p=.pointer (some ⟨B,0,none⟩)/\zP1 L b o/\V1.heap.size<=B/\VrC wx B u/\SpAt wx u 534 (zK o n d).1 (zK o n d).2/\u.bits=(b:Int)/\Below V1.heap.size V1 wx)
 case first =>
  go_region_held3 (λ w'=>w'.cell? ⟨w.heap.size,0,none⟩=some (.int .i64 n)/\w'.cell? ⟨w.heap.size+1,0,none⟩=some (.int .i64 d)/\w'.cell? ⟨w.heap.size+1+1+1,0,none⟩=some (.int .i64 (b:Int))) (exact zA HK _ (by repeat' (first|with_reducible exact sP|with_reducible exact jo|with_reducible exact jm|with_reducible exact bo|with_reducible exact ak|with_reducible exact W6|with_reducible exact Below.refl _ _|with_reducible refine Below.drew ?_|with_reducible refine zL ?_ _|with_reducible refine Below.setCell ?_ (by first|exact YE _|exact fe|exact fg|exact fh|exact wE|exact wF|exact wG) _)))
   (first
    | (go_at_call 151;have hq:=jo;refine (zA9 _ vY3 ⟨Ef,VV,nY4,Wt⟩ ⟨Eg,VW,nY5,Wv⟩ 520 4 4 b (zGR (zN (lnT n' d' b) N1) (zN (lnT 2 1 b) N2) cc) n d ((ox.bw (zB dI bA)).bw (by with_reducible first|exact Below.refl _ _|exact bl1 _ _)) (kx.bw (by with_reducible first|exact Below.refl _ _|exact bl1 _ _)) (tE.bw (by with_reducible first|exact Below.refl _ _|exact bl1 _ _)) (by omega) (by omega) d0 (zA BC)).mono ?_;rintro r Tc ⟨SP,rfl,qW,JF,vk⟩;have BD:=zC qW;clear qW;have aP:Below Gx.heap.size Gx Tc:=(by with_reducible first|exact vk|exact zB (bl1 _ _) vk);have sP:=zB jo aP;(try with_reducible have Qf:=(zQ Gx 31).bw vk);replace O3:=O3.bw aP;(try replace bh:=bh.bw aP);replace W9:=W9.bw aP;(try replace di:=di.bw aP);(try replace iQ:=iQ.bw aP);replace kx:=kx.bw aP;(try replace Ab:=Ab.bw aP);replace tE:=tE.bw aP;(try replace Fi:=Fi.bw aP);have wG:=sP.size;(try have DQ:=bh.lt);(try have Xf:=YJ DQ);(try have IK:=YI DQ);(try obtain⟨Ez,EA,EB,NG,NH,zY15⟩:=bh);(try have DR:=di.lt);(try have Xg:=YJ DR);(try have IL:=YI DR);(try obtain⟨EC,ED,EE,NI,NJ,zY25⟩:=di);(try have DS:=iQ.lt);(try have Xh:=YJ DS);(try have IM:=YI DS);(try obtain⟨EF,EG,EH,NK,NL,zY35⟩:=iQ);(try have RZ:=Ab.lt);(try have eY4:=YJ RZ);(try have Xi:=YI RZ);(try obtain⟨NM,NP,NQ,NR,NT,zY45⟩:=Ab);(try have Sa:=Fi.lt);(try have eY5:=YJ Sa);(try have Xj:=YI Sa);(try obtain⟨NV,NW,NX,NY,NZ,zY55⟩:=Fi);(try have Sb:=Qf.lt);(try have eY6:=YJ Sb);(try have Xl:=YI Sb);(try obtain⟨Oa,Ob,Oc,Od,Oe,zY65⟩:=Qf))
    | (go_at_call 33;have hq:=jm;refine (zD d _ (by omega) (by omega)).mono ?_;rintro r Gx ⟨Eg,VW,nY5,Wv,rfl,tE,vg⟩;have bA:Below Gw.heap.size Gw Gx:=(by with_reducible first|exact vg|exact zB (bl1 _ _) vg);have jo:=zB jm bA;(try with_reducible have Fi:=(zQ Gw 31).bw vg);replace O3:=O3.bw bA;(try replace bh:=bh.bw bA);replace W9:=W9.bw bA;(try replace di:=di.bw bA);(try replace iQ:=iQ.bw bA);replace kx:=kx.bw bA;(try replace Ab:=Ab.bw bA);have wF:=jo.size)
    | (go_at_call 33;have hq:=bo;refine (zD n _ (by omega) (by omega)).mono ?_;rintro r Gw ⟨Ef,VV,nY4,Wt,rfl,kx,ve⟩;have dI:Below AV.heap.size AV Gw:=(by with_reducible first|exact ve|exact zB (bl1 _ _) ve);have jm:=zB bo dI;(try with_reducible have Ab:=(zQ AV 31).bw ve);replace O3:=O3.bw dI;(try replace bh:=bh.bw dI);replace W9:=W9.bw dI;(try replace di:=di.bw dI);(try replace iQ:=iQ.bw dI);have wE:=jm.size)
    | (go_at_call 125;have hq:=ak;refine (zBC _ ⟨rE,Px,Sn,PL⟩ ⟨rF,Py,Sq,PM⟩ 4 b 500 (b:Int) 1 (O3.bw (by with_reducible first|exact Below.refl _ _|exact bl1 _ _)) (W9.bw (by with_reducible first|exact Below.refl _ _|exact bl1 _ _)) (by omega) (by omega) (by omega) (by omega) (by omega) (zA mV) (by omega)).mono ?_;rintro r AV ⟨n',d',cc,N1,N2,M3,D7,E7,T4,Z7,vY3,rfl,qV,ox,ei⟩;have BC:=zC qV;clear qV;have TJ:=zC (gaLog_of (zA HL) (by omega) (by omega) M3 T4 Z7);clear M3 D7 E7 T4 Z7;have av:Below oW.heap.size oW AV:=(by with_reducible first|exact ei|exact zB (bl1 _ _) ei);have bo:=zB ak av;(try with_reducible have iQ:=(zQ oW 31).bw ei);replace O3:=O3.bw av;(try replace bh:=bh.bw av);replace W9:=W9.bw av;(try replace di:=di.bw av);have fh:=bo.size)
    | (go_at_call 33;have hq:=W6;refine (zD 1 _ (by omega) (by omega)).mono ?_;rintro r oW ⟨rF,Py,Sq,PM,rfl,W9,dZ⟩;have dH:Below oV.heap.size oV oW:=(by with_reducible first|exact dZ|exact zB (bl1 _ _) dZ);have ak:=zB W6 dH;(try with_reducible have di:=(zQ oV 31).bw dZ);replace O3:=O3.bw dH;(try replace bh:=bh.bw dH);have fg:=ak.size)
    | (go_at_call 33;refine (zD (b:Int) _ (by omega) (by omega)).mono ?_;rintro r oV ⟨rE,Px,Sn,PL,rfl,O3,dY⟩;have W6:Below V1.heap.size V1 oV:=(by with_reducible first|exact zB (Below.refl _ _).drew dY|exact zB (bl1 _ _).drew dY);(try with_reducible have bh:=((zQ V1 31).bw (Below.refl _ _).drew).bw dY);have fe:=W6.size))
  all_goals
   have hfinY:SpAt Tc SP 534 (zK (zGR (zN (lnT n' d' b) N1) (zN (lnT 2 1 b) N2) cc) n d).1 (zK (zGR (zN (lnT n' d' b) N1) (zN (lnT 2 1 b) N2) cc) n d).2:=JF;go_wp2_with fail;go_meet;refine⟨_,SP,_,rfl,zA TJ,?_,⟨⟨?_,?_,?_,?_,?_⟩,?_⟩,?_,zA BD,?_⟩
   ·first|exact YE _|exact fe|exact fg|exact fh|exact wE|exact wF|exact wG
   ·simp[go_sem, *]
   ·simp[go_sem, *]
   ·simp[go_sem, *]
   ·simp[go_sem, *]
   ·simp[go_sem, *]
   ·intro o;simp[go_sem, *]
   ·first|with_reducible exact SpAt.put5 hfinY Oa Ob Oc Od Oe _ _ _ _ _|with_reducible exact SpAt.put5 hfinY NV NW NX NY NZ _ _ _ _ _|with_reducible exact SpAt.put5 hfinY NM NP NQ NR NT _ _ _ _ _|with_reducible exact SpAt.put5 hfinY EF EG EH NK NL _ _ _ _ _|with_reducible exact SpAt.put5 hfinY EC ED EE NI NJ _ _ _ _ _|with_reducible exact SpAt.put5 hfinY Ez EA EB NG NH _ _ _ _ _|with_reducible exact hfinY.bw (bl1 _ _)
   ·repeat' (first|with_reducible exact sP|with_reducible exact jo|with_reducible exact jm|with_reducible exact bo|with_reducible exact ak|with_reducible exact W6|with_reducible exact Below.refl _ _|with_reducible refine Below.drew ?_|with_reducible refine zL ?_ _|with_reducible refine Below.setCell ?_ (by first|exact YE _|exact fe|exact fg|exact fh|exact wE|exact wF|exact wG) _)
 case rest =>
 obtain⟨BY,xY,oY,rfl,Fs,Qr,XY,hpY,hxbY,hblY⟩:=hcut;obtain⟨V2,aI⟩:∃ V,V=wc:=⟨_,rfl⟩;subst aI;have rR:=XS.bw hblY;replace N0:=N0.bw hblY;replace D0:=D0.bw hblY;replace X0:=X0.bw hblY;replace R:=R.bw hblY;replace j7:=zB j7 hblY;replace iC:=zC ((zA iC).bw hblY);have HYB:=zC hxbY;have Vx:=zC hpY;clear hxbY hpY HK XS;have lY:=XY.lt;have lS2:=rR.lt;have GE:=gaY_ok (zA H) Fs;obtain⟨l,t,NE,e1,e2,e3,e4,e5⟩:=zD0 (B:=b) (e:=11) (by omega) GE.2.1 GE.2.2.2.1
 have GV:=gaG_ok (zA HL) (zA H) (zA HG) Fs (by omega) e4 e5 nt (zA HM)
 have EO:=gaE_ok (zA H) Fs (show t<=19 by omega) e4 e5
 have SO:=zM5 (zA H) nt
 have rP:=zC (show Q (b+eb t)<P 500 by
  rw[<- Q_P];have ebm:=zBW (show t<=19 by omega)
  have rZ:eb 19=6144:=by decide
  rw[rZ] at ebm;have h1:=zJ (show b+eb t+1<=16*500 by omega)
  have h2:Q (b+eb t+1)=2*Q (b+eb t):=rfl;have:=zE (b+eb t)
  omega)
 have ES:=zC (show (gaY n d b oY).1<=(gaY n d b oY).2 /\ -P 500<(gaY n d b oY).1/\(gaY n d b oY).2<P 500 by
  have r:=GE.2.2.2.1;have ra:=zEG GE.2.1;obtain⟨r1,r2,r3,r4⟩:=ra;have h1:=zJ (show b+11<=16*500 by omega)
  rw[Q_P] at h1
  exact⟨GE.2.1,by omega,by omega⟩)
 have ze:=zC GV;have oX:=zC e1;have Ty:=zC e2;have Tz:=zC e4;have TA:=zC e5;have ht:t<=1000000:=by omega
 have yz:=zC (show 0<(gaE n d b oY t NE).1/\(gaE n d b oY t NE).1<=(gaE n d b oY t NE).2/\(jS n d b NS).1<=(jS n d b NS).2 by
  have:=zE b
  exact⟨by omega,EO.2.1,SO.2.1⟩)
 clear GE GV EO SO e1 e2 e3 e4 e5 Fs;have HK:=zC (show ∀ w',Below V2.heap.size V2 w'->(w'.cell? ⟨w.heap.size,0,none⟩=some (.int .i64 n)/\w'.cell? ⟨w.heap.size+1,0,none⟩=some (.int .i64 d)/\w'.cell? ⟨w.heap.size+1+1+1,0,none⟩=some (.int .i64 (b:Int))/\cK w' BS xS (cK0 w' BY xY)) from λ w' hB=>⟨(N0.bw hB).c0,(D0.bw hB).c0,(X0.bw hB).c0,(rR.c.bw hB).c0,(rR.c.bw hB).c1,(rR.c.bw hB).c2,(rR.c.bw hB).c3,(rR.c.bw hB).c4,(XY.c.bw hB).c0,(XY.c.bw hB).c1,(XY.c.bw hB).c2,(XY.c.bw hB).c3,(XY.c.bw hB).c4⟩)
 go_wp2_with fail
 go_cut [10] (λ p wx=>∃ (B:Nat) (u:Sp),p=.pointer (some ⟨B,0,none⟩)/\V2.heap.size<=B/\VrC wx B u/\SpAt wx u 1600 (((zDT (jS n d b NS).1 (jS n d b NS).2 (gaE n d b oY t NE).1 (gaE n d b oY t NE).2 b,zER (jS n d b NS).1 (jS n d b NS).2 (gaE n d b oY t NE).1 (gaE n d b oY t NE).2 b):Int × Int)).1 (((zDT (jS n d b NS).1 (jS n d b NS).2 (gaE n d b oY t NE).1 (gaE n d b oY t NE).2 b,zER (jS n d b NS).1 (jS n d b NS).2 (gaE n d b oY t NE).1 (gaE n d b oY t NE).2 b):Int × Int)).2/\u.bits=(b:Int)/\Below V2.heap.size V2 wx)
 case first =>
  go_region_held3 (λ w'=>w'.cell? ⟨w.heap.size,0,none⟩=some (.int .i64 n)/\w'.cell? ⟨w.heap.size+1,0,none⟩=some (.int .i64 d)/\w'.cell? ⟨w.heap.size+1+1+1,0,none⟩=some (.int .i64 (b:Int))/\cK w' BS xS (cK0 w' BY xY)) (exact zA HK _ (by repeat' (first|with_reducible exact sL|with_reducible exact dy|with_reducible exact jl|with_reducible exact dx|with_reducible exact jk|with_reducible exact ji|with_reducible exact Below.refl _ _|with_reducible refine Below.drew ?_|with_reducible refine zL ?_ _|with_reducible refine Below.setCell ?_ (by first|exact YE _|exact vW|exact vX|exact vY|exact vZ|exact wk|exact wm) _)))
   (first
    | (go_at_call 162;have hq:=dy;refine (zDK _ xS SH 1403 b _ _ _ _ ((zA iC).bw (by with_reducible first|exact dy|exact zL dy _)) ((show SpAt _ SH 500 (gaE n d b oY t NE).1 (gaE n d b oY t NE).2 from (tC.bw (by with_reducible first|exact Below.refl _ _|exact bl1 _ _))).mono (by omega)) (by omega) (by omega) (zA cY) (zA yz).2.2 (zA yz).1 (zA yz).2.1).mono ?_;rintro r SY ⟨SI,rfl,qM,JA,tX⟩;have Bt:=zC qM;clear qM;have ao:Below Gv.heap.size Gv SY:=(by with_reducible first|exact tX|exact zB (bl1 _ _) tX);have sL:=zB dy ao;(try with_reducible have Qb:=(zQ Gv 31).bw tX);replace ax:=ax.bw ao;(try replace hZ:=hZ.bw ao);replace bD:=bD.bw ao;(try replace mZ:=mZ.bw ao);replace dM:=dM.bw ao;(try replace pE:=pE.bw ao);replace kn:=kn.bw ao;(try replace Aa:=Aa.bw ao);replace tC:=tC.bw ao;(try replace Fh:=Fh.bw ao);have wm:=sL.size;(try have RP:=hZ.lt);(try have eO1:=YJ RP);(try have WO:=YI RP);(try obtain⟨Mv,Mw,Mx,My,Mz,zO15⟩:=hZ);(try have RQ:=mZ.lt);(try have eO2:=YJ RQ);(try have WQ:=YI RQ);(try obtain⟨MA,MB,MC,MD,ME,zO25⟩:=mZ);(try have RR:=pE.lt);(try have eO3:=YJ RR);(try have WR:=YI RR);(try obtain⟨MF,MG,MH,MI,MJ,zO35⟩:=pE);(try have RS:=Aa.lt);(try have eO4:=YJ RS);(try have WS:=YI RS);(try obtain⟨MK,ML,MM,MN,MO,zO45⟩:=Aa);(try have RT:=Fh.lt);(try have eO5:=YJ RT);(try have WT:=YI RT);(try obtain⟨MP,MQ,MR,MS,MT,zO55⟩:=Fh);(try have RV:=Qb.lt);(try have eO6:=YJ RV);(try have WV:=YI RV);(try obtain⟨MV,MW,MX,MY,MZ,zO65⟩:=Qb))
    | (go_at_call 77;have hq:=jl;refine (zCI _ SG 500 b t NE (gaY n d b oY) l (SpAt.fits (K:=500) (show SpAt _ SG 541 (gaY n d b oY).1 (gaY n d b oY).2 from (kn.bw (by with_reducible first|exact Below.refl _ _|exact bl1 _ _))) (zA ES).1 (zA ES).2.1 (zA ES).2.2) (zA Br) (zA ES).1 (by omega) (by omega) (zA oX) (zA Ty) ht (zA Tz) (zA TA) (zA rP) (by omega)).mono ?_;rintro r Gv ⟨SH,rfl,qL,tC,tW⟩;have Po:=zC qL;clear qL;have bs:Below Gt.heap.size Gt Gv:=(by with_reducible first|exact tW|exact zB (bl1 _ _) tW);have dy:=zB jl bs;(try with_reducible have Fh:=(zQ Gt 31).bw tW);replace ax:=ax.bw bs;(try replace hZ:=hZ.bw bs);replace bD:=bD.bw bs;(try replace mZ:=mZ.bw bs);replace dM:=dM.bw bs;(try replace pE:=pE.bw bs);replace kn:=kn.bw bs;(try replace Aa:=Aa.bw bs);have wk:=dy.size)
    | (go_at_call 92;have hq:=dx;refine (zHJ _ vO3 xY 540 b (ofI (b:Int) 1 b) (zK oY n d) ((dM.bw (by with_reducible first|exact Below.refl _ _|exact bl1 _ _)).mono (by omega)) (((zA Vx).bw (by with_reducible first|exact dx|exact zL dx _)).mono (by omega)) (by omega) (zA Bq)).mono ?_;rintro r Gt ⟨SG,rfl,qK,kn,tV⟩;have Br:=zC qK;clear qK;have dB:Below Gs.heap.size Gs Gt:=(by with_reducible first|exact tV|exact zB (bl1 _ _) tV);have jl:=zB dx dB;(try with_reducible have Aa:=(zQ Gs 31).bw tV);replace ax:=ax.bw dB;(try replace hZ:=hZ.bw dB);replace bD:=bD.bw dB;(try replace mZ:=mZ.bw dB);replace dM:=dM.bw dB;(try replace pE:=pE.bw dB);have vZ:=jl.size)
    | (go_at_call 88;have hq:=jk;refine (jP _ _ _ _ _ _ _ _ 4 4 b (b:Int) 1 _ (ax.bw (by with_reducible first|exact Below.refl _ _|exact bl1 _ _)) (bD.bw (by with_reducible first|exact Below.refl _ _|exact bl1 _ _)) (by omega) (by omega) (by omega)).mono ?_;rintro r Gs ⟨vO3,rfl,qJ,dM,tT⟩;have Bq:=zC qJ;clear qJ;have jy:Below Gr.heap.size Gr Gs:=(by with_reducible first|exact tT|exact zB (bl1 _ _) tT);have dx:=zB jk jy;(try with_reducible have pE:=(zQ Gr 31).bw tT);replace ax:=ax.bw jy;(try replace hZ:=hZ.bw jy);replace bD:=bD.bw jy;(try replace mZ:=mZ.bw jy);have vY:=dx.size)
    | (go_at_call 33;have hq:=ji;refine (zD 1 _ (by omega) (by omega)).mono ?_;rintro r Gr ⟨Sx,aO2,nO2,cO2,rfl,bD,tS⟩;have sY:Below Gq.heap.size Gq Gr:=(by with_reducible first|exact tS|exact zB (bl1 _ _) tS);have jk:=zB ji sY;(try with_reducible have mZ:=(zQ Gq 31).bw tS);replace ax:=ax.bw sY;(try replace hZ:=hZ.bw sY);have vX:=jk.size)
    | (go_at_call 33;refine (zD (b:Int) _ (by omega) (by omega)).mono ?_;rintro r Gq ⟨Sw,aO1,nO1,cO1,rfl,ax,tR⟩;have ji:Below V2.heap.size V2 Gq:=(by with_reducible first|exact zB (Below.refl _ _).drew tR|exact zB (bl1 _ _).drew tR);(try with_reducible have hZ:=((zQ V2 31).bw (Below.refl _ _).drew).bw tR);have vW:=ji.size))
  all_goals
   have hfinO:SpAt SY SI 1600 (((zDT (jS n d b NS).1 (jS n d b NS).2 (gaE n d b oY t NE).1 (gaE n d b oY t NE).2 b,zER (jS n d b NS).1 (jS n d b NS).2 (gaE n d b oY t NE).1 (gaE n d b oY t NE).2 b):Int × Int)).1 (((zDT (jS n d b NS).1 (jS n d b NS).2 (gaE n d b oY t NE).1 (gaE n d b oY t NE).2 b,zER (jS n d b NS).1 (jS n d b NS).2 (gaE n d b oY t NE).1 (gaE n d b oY t NE).2 b):Int × Int)).2:=JA.mono (by omega)
   go_wp2_with fail;go_meet;refine⟨_,SI,rfl,?_,⟨⟨?_,?_,?_,?_,?_⟩,?_⟩,?_,zA Bt,?_⟩
   ·first|exact YE _|exact vW|exact vX|exact vY|exact vZ|exact wk|exact wm
   ·simp[go_sem, *]
   ·simp[go_sem, *]
   ·simp[go_sem, *]
   ·simp[go_sem, *]
   ·simp[go_sem, *]
   ·intro o;simp[go_sem, *]
   ·first|with_reducible exact SpAt.put5 hfinO MV MW MX MY MZ _ _ _ _ _|with_reducible exact SpAt.put5 hfinO MP MQ MR MS MT _ _ _ _ _|with_reducible exact SpAt.put5 hfinO MK ML MM MN MO _ _ _ _ _|with_reducible exact SpAt.put5 hfinO MF MG MH MI MJ _ _ _ _ _|with_reducible exact SpAt.put5 hfinO MA MB MC MD ME _ _ _ _ _|with_reducible exact SpAt.put5 hfinO Mv Mw Mx My Mz _ _ _ _ _|with_reducible exact hfinO.bw (bl1 _ _)
   ·repeat' (first|with_reducible exact sL|with_reducible exact dy|with_reducible exact jl|with_reducible exact dx|with_reducible exact jk|with_reducible exact ji|with_reducible exact Below.refl _ _|with_reducible refine Below.drew ?_|with_reducible refine zL ?_ _|with_reducible refine Below.setCell ?_ (by first|exact YE _|exact vW|exact vX|exact vY|exact vZ|exact wk|exact wm) _)
 case rest =>
 obtain⟨BO,xO,rfl,hHO,XO,hpO,hxbO,hblO⟩:=hcut;obtain⟨V3,I6⟩:∃ V,V=wc:=⟨_,rfl⟩;subst I6;have lO:=XO.lt;replace R:=R.bw hblO;replace j7:=zB j7 hblO;have TZ:=zC hxbO;have Pa:=zC hpO;have Pq:=zC XO;clear hxbO hpO HK X0 N0 D0 rR XY;have ae:=R.lt;have nRO:w.heap.size+1+1<BO:=by omega
 have GY:=zC (show ∀ w',Below V3.heap.size V3 w'->(w'.cell? ⟨BO,2,none⟩=some (.bool xO.hn)/\w'.cell? ⟨BO,3,none⟩=some (.slice xO.ha xO.hN xO.hc)) from λ w' hB=>⟨(XO.c.bw hB).c2,(XO.c.bw hB).c3⟩)
 have A9:Below V3.heap.size V3 V3.drew:=(Below.refl _ _).drew;clear XO;go_wp2_with fail;refine AnyL.start (S:=λ w'=>w'.cell? ⟨BO,2,none⟩=some (.bool xO.hn)/\w'.cell? ⟨BO,3,none⟩=some (.slice xO.ha xO.hN xO.hc)) (l:=5) (by kernel_rfl) (zA GY _ A9) (λ hHeld=>?_)
 refine AnyL.take (i:=0) (oi:={ dst:=some 42,op:=Go.Op.fieldAddr 31 (Go.Operand.tmp 10) 1,type:=0,pos := "gamma.go:50",after:=#[],guard:=none }) (v:=.pointer (some ⟨BO,2,none⟩)) rfl (by kernel_rfl) (by kernel_rfl) (by kernel_rfl) (by kernel_rfl) (λ _ _ _ h=>h) (Or.inl ⟨by rfl,λ w hSw=>?_⟩) hHeld ?_
 ·obtain⟨s0,s1⟩:=hSw;go_simp
 try simp only[Act.put,Yv,Yw,Yx]
 refine AnyL.take (i:=1) (oi:={ dst:=some 43,op:=Go.Op.load 29 (Go.Operand.tmp 42),type:=29,pos := "gamma.go:50",after:=#[{ on:=0,ground:=Go.Ground.data }],guard:=none }) (v:=.agg #[.bool xO.hn,.slice xO.ha xO.hN xO.hc]) rfl (by kernel_rfl) (by kernel_rfl) (by kernel_rfl) (by kernel_rfl) (λ _ _ _ h=>h) (Or.inl ⟨by rfl,λ w hSw=>?_⟩) hHeld ?_
 ·obtain⟨s0,s1⟩:=hSw;go_simp
 try simp only[Act.put,Yv,Yw,Yx]
 refine AnyL.one (i:=2) (o:={ dst:=some 44,op:=Go.Op.call { callee:=Go.Callee.value (Go.Operand.func 33),args:=#[Go.Operand.const (Go.Value.int Go.IntKind.i64 1)],argTypes:=#[3] },type:=29,pos := "gamma.go:50",after:=#[],guard:=none }) (by kernel_rfl) rfl (λ Kc H8=>?_)
 go_simp
 refine (zD 1 _ (by omega) (by omega)).mono ?_
 rintro r' w1 ⟨m7,a1,n1,c1,rfl,o8,b9⟩;have p9:=zB A9 b9;clear b9;go_wp2_with fail;refine H8.out _ _ (zA GY _ p9) (λ hHeld=>?_)
 clear H8 Kc
 try simp only[Act.put,Yv,Yw,Yx]
 refine AnyL.one (i:=3) (o:={ dst:=some 45,op:=Go.Op.call { callee:=Go.Callee.value (Go.Operand.func 32),args:=#[Go.Operand.tmp 43,Go.Operand.tmp 44],argTypes:=#[29,29] },type:=29,pos := "gamma.go:50",after:=#[{ on:=1,ground:=Go.Ground.data },{ on:=2,ground:=Go.Ground.data },{ on:=2,ground:=Go.Ground.chain }],guard:=none }) (by kernel_rfl) rfl (λ Kc H8=>?_)
 go_simp
 refine (zAE _ _ _ _ _ _ _ _ 1600 4 _ 1 _ ((zA Pa).hi.bw p9) o8 (by omega) (by omega)).mono ?_
 rintro r' w2 ⟨j6,a2,n2,c2,rfl,A5,j8⟩;have s9:=zB p9 j8;clear j8 o8;go_wp2_with fail;refine H8.out _ _ (zA GY _ s9) (λ hHeld=>?_)
 clear H8 Kc
 try simp only[Act.put,Yv,Yw,Yx]
 refine AnyL.take (i:=4) (oi:={ dst:=some 46,op:=Go.Op.fieldAddr 31 (Go.Operand.tmp 10) 1,type:=0,pos := "gamma.go:50",after:=#[{ on:=0,ground:=Go.Ground.phase },{ on:=1,ground:=Go.Ground.phase },{ on:=2,ground:=Go.Ground.phase },{ on:=3,ground:=Go.Ground.phase }],guard:=none }) (v:=.pointer (some ⟨BO,2,none⟩)) rfl (by kernel_rfl) (by kernel_rfl) (by kernel_rfl) (by kernel_rfl) (λ _ _ _ h=>h) (Or.inl ⟨by rfl,λ w hSw=>?_⟩) hHeld ?_
 ·obtain⟨s0,s1⟩:=hSw;go_simp
 try simp only[Act.put,Yv,Yw,Yx]
 refine AnyL.last (o:={ dst:=none,op:=Go.Op.store 29 (Go.Operand.tmp 46) (Go.Operand.tmp 45),type:=0,pos := "gamma.go:50",after:=#[{ on:=4,ground:=Go.Ground.data },{ on:=3,ground:=Go.Ground.data },{ on:=3,ground:=Go.Ground.chain },{ on:=0,ground:=Go.Ground.phase },{ on:=1,ground:=Go.Ground.phase },{ on:=2,ground:=Go.Ground.phase },{ on:=3,ground:=Go.Ground.phase }],guard:=none }) (by kernel_rfl) rfl (by kernel_rfl) (λ Kc H8=>?_)
 have V2:=(zA Pq).bw s9;have lA:=V2.lt;obtain⟨⟨y0,y1,y2,y3,y4⟩,y5⟩:=V2
 go_simp
 refine H8.out _ _ ?_;clear H8 Kc;have R2:=R.bw s9;obtain⟨V,hV⟩:∃ V,V=((w2.setCell ⟨BO,2,none⟩ (.bool j6)).setCell ⟨BO,3,none⟩ (.slice a2 n2 c2)):=⟨_,rfl⟩;have R3:NoC V (w.heap.size+1+1):=by rw[hV];exact R2.offH (by omega) _ _
 have A3:VrC V BO ⟨xO.ln,xO.la,xO.lN,xO.lc,j6,a2,n2,c2,xO.bits⟩:=by rw[hV];exact zN2 ((zA Pq).bw s9) ⟨j6,a2,n2,c2⟩
 have i1:IntAt V xO.ln xO.la xO.lN xO.lc 1600 (gaG n d b oY t NE NS).1:=by rw[hV];exact ((zA Pa).lo.bw s9).putH y2 y3 _ _
 have i2:IntAt V j6 a2 n2 c2 1601 (gaG n d b oY t NE NS).2:=by rw[hV];exact (show IntAt w2 j6 a2 n2 c2 1601 (gaG n d b oY t NE NS).2 from A5).putH y2 y3 _ _
 have A8:Below w.heap.size w V:=by rw[hV];exact ((zB j7 s9).setCell (p:=⟨BO,2,none⟩) (by show w.heap.size<=BO;omega) _).setCell (p:=⟨BO,3,none⟩) (by show w.heap.size<=BO;omega) _
 rw[<- hV];clear hV y0 y1 y2 y3 y4 y5 lA;have gv:=zA ze
 have fit:=SpAt.fits (K:=70) (show SpAt V ⟨xO.ln,xO.la,xO.lN,xO.lc,j6,a2,n2,c2,xO.bits⟩ 1601 (gaG n d b oY t NE NS).1 (gaG n d b oY t NE NS).2 from⟨i1.mono (by omega),i2⟩) gv.le (by
  have:=gv.lo;have:=zE b;have:0<P 70:=yT 70;omega) (by
  have h1:=zJ (show b+43+1<=16*70 by omega)
  rw[Q_P] at h1;have h2:Q (b+43+1)=2*Q (b+43):=rfl;have:=zE (b+43);have:=gv.hi
  omega)
 clear gv i1 i2;have lA:=A3.lt;have gQ:=R3.lt;obtain⟨⟨y0,y1,y2,y3,y4⟩,y5⟩:=A3;obtain⟨q0,q1,q2,q3,q4,q5⟩:=R3;go_wp2_with fail;refine bodyPost_ret (v:=.agg #[.bool xO.ln,.slice xO.la xO.lN xO.lc,.bool j6,.slice a2 n2 c2,.int .i64 xO.bits]) (by simp[results,Tryz.results202,go_sem,q0,q1,q2,q3,q4]) rfl ⟨_,_,zA ze,⟨xO.ln,xO.la,xO.lN,xO.lc,j6,a2,n2,c2,xO.bits⟩,rfl,zA TZ,?_,?_⟩
 ·exact SpAt.put5 fit q0 q1 q2 q3 q4 _ _ _ _ _
 ·exact jY A8 (by omega) _ _ _ _ _
theorem fieldG0 (x y:Bool) (a a':Option Addr) (n c n' c':Nat) (b:Int) (w:World):(Instr.field 31 (.agg #[.bool x,.slice a n c,.bool y,.slice a' n' c',.int .i64 b]) 0).run Tryz.prog w=.ok (.agg #[.bool x,.slice a n c]) w:=by kernel_rfl
theorem fieldG1 (x y:Bool) (a a':Option Addr) (n c n' c':Nat) (b:Int) (w:World):(Instr.field 31 (.agg #[.bool x,.slice a n c,.bool y,.slice a' n' c',.int .i64 b]) 1).run Tryz.prog w=.ok (.agg #[.bool y,.slice a' n' c']) w:=by kernel_rfl
theorem zO0 (w:World) (s:Sp) (b:Nat) (a:Int × Int) (hs:SpAt w s 70 a.1 a.2) (hbits:s.bits=(b:Int)) (O6:40<=b) (hb:b<=1000) (ha:0<a.1) (CF:a.1<=a.2) :
  Calls Tryz.prog 201 #[.agg s.q] w (λ r w'=>∃ (p1 p2 r1 r2:Int) (l1 l2:Nat->Rat),LsIn a b (p1,p2) (r1,r2) l1 l2/\LbOk b (p1,p2)/\LbOk b (r1,r2)/\zH w b 520 p1 r2 r w'):=by
 obtain⟨W,hW⟩:∃ W,W=(w.alloc (.cells s.q 31)).alloc (.cells zCq 31):=⟨_,rfl⟩;have j7:Below w.heap.size w W:=by rw[hW];exact bl2 _ _ _
 have A:SpC W w.heap.size s:=by rw[hW];constructor<;>simp[go_sem]
 have R:NoC W (w.heap.size+1):=by rw[hW];constructor<;>simp[go_sem]
 have HS:=zC (hs.bw j7);have HB:=zC hbits;have lR:=R.lt;have lA:=A.lt
 have mV:=zC (show Q (b+4)<P 500 by
  rw[<- Q_P];have h1:=zJ (show b+4+1<=16*500 by omega)
  have h2:Q (b+4+1)=2*Q (b+4):=rfl;have:=zE (b+4)
  omega)
 have ba:=zC (show 0<Q b by have:=zE b;omega)
 have HO:=zC (show 1*Q b=Q b by omega)
 have HA:=zC (show 0<a.1/\0<a.2/\a.1<=a.2 from⟨ha,by omega,CF⟩)
 have HK:=zC (show ∀ w',Below W.heap.size W w'->(cK0 w' w.heap.size s) from λ w' hB=>⟨(A.bw hB).c0,(A.bw hB).c1,(A.bw hB).c2,(A.bw hB).c3,(A.bw hB).c4⟩)
 clear hs hbits ha CF;have pS:=fieldG0;have JN:=fieldG1
 go_enter Tryz.func201,Tryz.ntmps201
 go_wp2;rw[<- hW];clear hW lR
 go_cut [3] (λ p wx=>∃ (B:Nat) (u:Nm),p=.pointer (some ⟨B,0,none⟩)/\W.heap.size<=B/\NmC wx B u/\IntAt wx u.neg u.a u.n u.cap 70 (Q b)/\Below W.heap.size W wx)
 case first =>
  have A9:Below W.heap.size W W.drew:=(Below.refl _ _).drew
  go_region_held3 (λ w'=>cK0 w' w.heap.size s) (exact zA HK _ (by repeat' (first|with_reducible exact o9|with_reducible exact A6|with_reducible exact Below.refl _ _|with_reducible refine Below.drew ?_|with_reducible refine zL ?_ _|with_reducible refine Below.setCell ?_ (by first|exact YE _|exact Z4|exact Y2) _)))
   (first
    | (go_at_call 116;have hq:=A6;refine (zGN _ _ _ _ _ b 4 1 _ (zA HB) (o8.bw (by with_reducible first|exact Below.refl _ _|exact bl1 _ _)) (by omega) (by omega)).mono ?_;rintro r w2 ⟨j6,a2,n2,c2,rfl,A5,j8⟩;have jv:Below w1.heap.size w1 w2:=(by with_reducible first|exact j8|exact zB (bl1 _ _) j8);have o9:=zB A6 jv;(try with_reducible have g2:=(jL w1 29).bw j8);(try replace g1:=g1.bw jv);have Y2:=o9.size;(try have m1:=g1.lt);(try have m2:=g2.lt);(try obtain⟨z10,z11,z1f⟩:=g1);(try obtain⟨z20,z21,z2f⟩:=g2))
    | (go_at_call 33;refine (zD 1 _ (by omega) (by omega)).mono ?_;rintro r w1 ⟨m7,a1,n1,c1,rfl,o8,b9⟩;have A6:Below W.heap.size W w1:=(by with_reducible first|exact zB (Below.refl _ _).drew b9|exact zB (bl1 _ _).drew b9);(try with_reducible have g1:=((jL W 29).bw (Below.refl _ _).drew).bw b9);have Z4:=A6.size))
  all_goals
   have vC:IntAt w2 j6 a2 n2 c2 70 (Q b):=by rw[zA HO] at A5;exact A5.mono (by omega)
   go_wp2_with fail;go_meet;refine⟨_,⟨j6,a2,n2,c2⟩,rfl,?_,⟨?_,?_⟩,?_,?_⟩
   ·first|exact YE _|exact Z4|exact Y2
   ·simp[go_sem, *]
   ·simp[go_sem, *]
   ·first|with_reducible exact vC.put2 z20 z21 _ _|with_reducible exact vC.put2 z10 z11 _ _|with_reducible exact vC.bw (bl1 _ _)
   ·repeat' (first|with_reducible exact o9|with_reducible exact A6|with_reducible exact Below.refl _ _|with_reducible refine Below.drew ?_|with_reducible refine zL ?_ _|with_reducible refine Below.setCell ?_ (by first|exact YE _|exact Z4|exact Y2) _)
 case rest =>
 obtain⟨BU,U,rfl,Ct,CU,hU,hblU⟩:=hcut;have lR:=R.lt;have A2:=A.bw hblU;replace R:=R.bw hblU;replace HS:=zC ((zA HS).bw hblU);replace j7:=zB j7 hblU;have nRU:w.heap.size+1<BU:=by omega
 have HU:=zC hU;have gf:=zC (show ∀ w',Below wc.heap.size wc w'->(cK w' w.heap.size s (nK0 w' BU U)) from λ w' hB=>⟨(A2.bw hB).c0,(A2.bw hB).c1,(A2.bw hB).c2,(A2.bw hB).c3,(A2.bw hB).c4,(CU.bw hB).c0,(CU.bw hB).c1⟩)
 have lU:=CU.lt;clear hU HK hblU A2 CU;have n1:w.heap.size+1≠w.heap.size:=by omega
 have n2:w.heap.size+1≠BU:=by omega
 have A9:Below wc.heap.size wc wc.drew:=(Below.refl _ _).drew;obtain⟨x0,x1,x2,x3,x4,y0,y1⟩:=zA gf _ (Below.refl _ _);go_wp2_with fail
 go_region_held3 (λ w'=>cK w' w.heap.size s (nK0 w' BU U)) (first|exact zA gf _ (by with_reducible first|exact A9|exact s9|exact p9)|(dsimp only[cK,cK0,nK,nK0,rK,rK0];go_keep)|go_keep)
  (first
   | (go_at_call 125;have K4:=p9;(try rw[zA HB]);refine (zBC _ ⟨s.hn,s.ha,s.hN,s.hc⟩ U 70 b 500 a.2 (Q b) ((zA HS).hi.bw p9) ((zA HU).bw p9) (by omega) (zA HA).2.1 (zA ba) (by omega) (by omega) (zA mV) (by omega)).mono ?_;rintro r' w2 ⟨Ll,d2',cc2,VM,VN,pQ,CJ,CK,Cz,CA,v2,rfl,P2,A5,j8⟩;have s9:=zB p9 j8;clear P2;replace o8:=o8.bw j8;have po:=zC (And.intro pQ (And.intro CJ (And.intro CK (And.intro Cz CA))));clear pQ CJ CK Cz CA;obtain⟨q0,q1,q2,q3,q4,q5⟩:=R.bw s9;obtain⟨i0,i1,i2,i3,i4,j0,j1⟩:=zA gf _ s9)
   | (go_at_call 125;(try rw[zA HB]);refine (zBC _ ⟨s.ln,s.la,s.lN,s.lc⟩ U 70 b 500 a.1 (Q b) ((zA HS).lo.bw A9) ((zA HU).bw A9) (by omega) (zA HA).1 (zA ba) (by omega) (by omega) (zA mV) (by omega)).mono ?_;rintro r' w1 ⟨gR,d1',cc1,VJ,VK,pP,CH,CI,Cx,Cy,v1,rfl,J6,o8,b9⟩;have p9:=zB A9 b9;clear J6;have Vt:=zC (And.intro pP (And.intro CH (And.intro CI (And.intro Cx Cy))));clear pP CH CI Cx Cy))
 all_goals
  go_wp2_with fail;have JJ:=zA HB;obtain⟨BV,Wj,Wk,s11,s12⟩:=zA Vt;obtain⟨BW,Wl,Wm,s21,s22⟩:=zA po;obtain⟨l1,g1,i1⟩:=zGA (zA HA).1 (zA ba) BV b VJ VK;obtain⟨l2,g2,i2⟩:=zGA (zA HA).2.1 (zA ba) BW b VM VN;refine bodyPost_ret (v:=.agg #[.bool v1.ln,.slice v1.la v1.lN v1.lc,.bool v2.hn,.slice v2.ha v2.hN v2.hc,.int .i64 (b:Int)]) (by simp[results,Tryz.results201,go_sem,q0,q1,q2,q3,q4]) rfl ⟨_,_,_,_,l1,l2,⟨(zA HA).1,(zA HA).2.2,g1,g2,i1,i2⟩,lb_of (by omega) hb BV.1 s11 s12 70 (by omega) Wj Wk,lb_of (by omega) hb BW.1 s21 s22 70 (by omega) Wl Wm,⟨v1.ln,v1.la,v1.lN,v1.lc,v2.hn,v2.ha,v2.hN,v2.hc,(b:Int)⟩,rfl,rfl,?_,?_⟩
  ·exact SpAt.put5 (show SpAt _ (⟨v1.ln,v1.la,v1.lN,v1.lc,v2.hn,v2.ha,v2.hN,v2.hc,(b:Int)⟩:Sp) 520 _ _ from⟨o8.lo,A5.hi⟩) q0 q1 q2 q3 q4 _ _ _ _ _
  ·exact jY (zB j7 s9) (Nat.le_succ _) _ _ _ _ _
theorem GaV.pos {g:Nat->Rat} {B:Nat} {a:Int × Int} (h:GaV g B a):0<a.1:=by have:=h.lo;have:=zE B;omega
end Go.Proofs.YtgmnknmjainabacGreat
