/-
  Its own texts.
-/
import Derived.Deep.CutBlock
import Derived.Test.YtgmnknmjainababGreatK22
set_option maxRecDepth 100000
set_option maxHeartbeats 40000000
set_option linter.unnecessarySimpa false
set_option linter.unusedSimpArgs false
set_option linter.unusedVariables false
namespace Go.Proofs.YtgmnknmjainababGreat
open Go.RowKit
attribute [local go_sem ↓] Go.wp_at_zero Go.wp_at_succ
open Ex
theorem zHE (w:World) (p1 q1 p2 q2:Int) (b:Nat) (x y z:Nat->Rat) (h1:rok p1 q1) (h2:rok p2 q2) (L1:zE7 p1 q1 b x) (L2:zE7 p2 q2 b y) (L3:zE7 (p1*q2+p2*q1) (q1*q2) b z) :
  Calls Tryz.prog 20 #[.agg #[.int .i64 p1,.int .i64 q1],.agg #[.int .i64 p2,.int .i64 q2],.int .i64 b] w (λ r w'=>∃ l1 u1 l2 u2 l3 u3,(Iv b (l1,u1) x/\Abs (l1,u1) (30000*Q b))/\(Iv b (l2,u2) y/\Abs (l2,u2) (30000*Q b))/\(Iv b (l3,u3) z/\Abs (l3,u3) (30000*Q b))/\zJ w b 70002 (zAF (jJ (l1,u1) (l2,u2)) (l3,u3)).1 (zAF (jJ (l1,u1) (l2,u2)) (l3,u3)).2 r w'):=by
 obtain⟨W,hW⟩:∃ W,W=((w.alloc (.cells #[.int .i64 p1,.int .i64 q1] 23)).alloc (.cells #[.int .i64 p2,.int .i64 q2] 23)).alloc (.cells zCq 36):=⟨_,rfl⟩;have b8:Below w.heap.size w W:=by rw[hW];exact bl3 _ _ _ _
 have A:RaC W w.heap.size p1 q1:=by rw[hW];constructor<;>simp[go_sem]
 have D:RaC W (w.heap.size+1) p2 q2:=by rw[hW];constructor<;>simp[go_sem]
 have R:NoC W (w.heap.size+1+1):=by rw[hW];constructor<;>simp[go_sem]
 have H1:=zC L1;have H2:=zC L2;have H3:=zC L3;have HR:=zC (And.intro h1 h2);obtain⟨r1,r2,r3,r4⟩:=h1;obtain⟨s1,s2,s3,s4⟩:=h2;have lA:=A.lt;have lD:=D.lt;have lR:=R.lt;have HK:=zC (show ∀ w',Below W.heap.size W w'->(rK w' w.heap.size p1 q1 (rK0 w' ((w.heap.size+1)) p2 q2)) from λ w' hB=>⟨(A.bw hB).c0,(A.bw hB).c1,(D.bw hB).c0,(D.bw hB).c1⟩)
 clear L1 L2 L3
 go_enter Tryz.func20,Tryz.ntmps20
 go_wp2;rw[<- hW];clear hW;obtain⟨f0,f1,f2,f3⟩:=zA HK _ (Below.refl _ _)
 go_cut [7] (λ p wx=>∃ (B:Nat) (u:Nm),p=.pointer (some ⟨B,0,none⟩)/\W.heap.size<=B/\NmC wx B u/\IntAt wx u.neg u.a u.n u.cap 20 (p1*q2+p2*q1)/\Below W.heap.size W wx)
 case first =>
  go_region_held3 (λ w'=>rK w' w.heap.size p1 q1 (rK0 w' ((w.heap.size+1)) p2 q2)) (exact zA HK _ (by repeat' (first|with_reducible exact yg|with_reducible exact nG|with_reducible exact nH|with_reducible exact nI|with_reducible exact nJ|with_reducible exact nM|with_reducible exact nN|with_reducible exact Below.refl _ _|with_reducible refine Below.drew ?_|with_reducible refine zL ?_ _|with_reducible refine Below.setCell ?_ (by first|exact XW _|exact yh|exact yi|exact yj|exact yl|exact ym|exact yn|exact yo) _)))
   (first
    | (go_at_call 65;have hq:=nG;refine (kX _ _ _ _ _ _ _ _ 8 8 (p1*q2) (p2*q1) _ (cH.bw (by with_reducible first|exact Below.refl _ _|exact bl1 _ _)) (yq.bw (by with_reducible first|exact Below.refl _ _|exact bl1 _ _)) (by omega) (by omega)).mono ?_;rintro r wN7 ⟨sR,aN7,nN7,cN7,rfl,PT,yr⟩;have X6:Below JQ.heap.size JQ wN7:=(by with_reducible first|exact yr|exact zB (bl1 _ _) yr);have yg:=zB nG X6;(try with_reducible have gN7:=(jO JQ 26).bw yr);replace X7:=X7.bw X6;(try replace ie:=ie.bw X6);replace aK:=aK.bw X6;(try replace kj:=kj.bw X6);replace cH:=cH.bw X6;(try replace oP:=oP.bw X6);replace fT:=fT.bw X6;(try replace sS:=sS.bw X6);replace nO:=nO.bw X6;(try replace Cj:=Cj.bw X6);replace yq:=yq.bw X6;(try replace JR:=JR.bw X6);have yo:=yg.size;(try have mN1:=ie.lt);(try obtain⟨PV,PW,zN1f⟩:=ie);(try have mN2:=kj.lt);(try obtain⟨PX,PY,zN2f⟩:=kj);(try have mN3:=oP.lt);(try obtain⟨PZ,Qa,zN3f⟩:=oP);(try have mN4:=sS.lt);(try obtain⟨Qb,Qc,zN4f⟩:=sS);(try have mN5:=Cj.lt);(try obtain⟨Qd,Qf,zN5f⟩:=Cj);(try have mN6:=JR.lt);(try obtain⟨Qg,Qh,zN6f⟩:=JR);(try have mN7:=gN7.lt);(try obtain⟨Qi,Qj,zN7f⟩:=gN7))
    | (go_at_call 66;have hq:=nH;refine (zW _ _ _ _ _ _ _ _ 4 4 p2 q1 _ (fT.bw (by with_reducible first|exact Below.refl _ _|exact bl1 _ _)) (nO.bw (by with_reducible first|exact Below.refl _ _|exact bl1 _ _)) (by omega) (by omega)).mono ?_;rintro r JQ ⟨negN6,aN6,nN6,cN6,rfl,yq,yt⟩;have aM:Below JS.heap.size JS JQ:=(by with_reducible first|exact yt|exact zB (bl1 _ _) yt);have nG:=zB nH aM;(try with_reducible have JR:=(jO JS 26).bw yt);replace X7:=X7.bw aM;(try replace ie:=ie.bw aM);replace aK:=aK.bw aM;(try replace kj:=kj.bw aM);replace cH:=cH.bw aM;(try replace oP:=oP.bw aM);replace fT:=fT.bw aM;(try replace sS:=sS.bw aM);replace nO:=nO.bw aM;(try replace Cj:=Cj.bw aM);have yn:=nG.size)
    | (go_at_call 43;have hq:=nI;refine (zD q1 _ (by omega) (by omega)).mono ?_;rintro r JS ⟨negN5,aN5,nN5,cN5,rfl,nO,yw⟩;have cJ:Below JT.heap.size JT JS:=(by with_reducible first|exact yw|exact zB (bl1 _ _) yw);have nH:=zB nI cJ;(try with_reducible have Cj:=(jO JT 26).bw yw);replace X7:=X7.bw cJ;(try replace ie:=ie.bw cJ);replace aK:=aK.bw cJ;(try replace kj:=kj.bw cJ);replace cH:=cH.bw cJ;(try replace oP:=oP.bw cJ);replace fT:=fT.bw cJ;(try replace sS:=sS.bw cJ);have ym:=nH.size)
    | (go_at_call 43;have hq:=nJ;refine (zD p2 _ (by omega) (by omega)).mono ?_;rintro r JT ⟨negN4,aN4,nN4,cN4,rfl,fT,yx⟩;have fV:Below JV.heap.size JV JT:=(by with_reducible first|exact yx|exact zB (bl1 _ _) yx);have nI:=zB nJ fV;(try with_reducible have sS:=(jO JV 26).bw yx);replace X7:=X7.bw fV;(try replace ie:=ie.bw fV);replace aK:=aK.bw fV;(try replace kj:=kj.bw fV);replace cH:=cH.bw fV;(try replace oP:=oP.bw fV);have yl:=nI.size)
    | (go_at_call 66;have hq:=nM;refine (zW _ _ _ _ _ _ _ _ 4 4 p1 q2 _ (X7.bw (by with_reducible first|exact Below.refl _ _|exact bl1 _ _)) (aK.bw (by with_reducible first|exact Below.refl _ _|exact bl1 _ _)) (by omega) (by omega)).mono ?_;rintro r JV ⟨negN3,aN3,nN3,cN3,rfl,cH,yz⟩;have nP:Below JW.heap.size JW JV:=(by with_reducible first|exact yz|exact zB (bl1 _ _) yz);have nJ:=zB nM nP;(try with_reducible have oP:=(jO JW 26).bw yz);replace X7:=X7.bw nP;(try replace ie:=ie.bw nP);replace aK:=aK.bw nP;(try replace kj:=kj.bw nP);have yj:=nJ.size)
    | (go_at_call 43;have hq:=nN;refine (zD q2 _ (by omega) (by omega)).mono ?_;rintro r JW ⟨negN2,aN2,nN2,cN2,rfl,aK,zd⟩;have ze:Below JX.heap.size JX JW:=(by with_reducible first|exact zd|exact zB (bl1 _ _) zd);have nM:=zB nN ze;(try with_reducible have kj:=(jO JX 26).bw zd);replace X7:=X7.bw ze;(try replace ie:=ie.bw ze);have yi:=nM.size)
    | (go_at_call 43;refine (zD p1 _ (by omega) (by omega)).mono ?_;rintro r JX ⟨negN1,aN1,nN1,cN1,rfl,X7,zg⟩;have nN:Below W.heap.size W JX:=(by with_reducible first|exact zB (Below.refl _ _).drew zg|exact zB (bl1 _ _).drew zg);(try with_reducible have ie:=((jO W 26).bw (Below.refl _ _).drew).bw zg);have yh:=nN.size))
  all_goals
   have hfinN:IntAt wN7 sR aN7 nN7 cN7 20 (p1*q2+p2*q1):=PT.mono (by omega)
   go_wp2_with fail;go_meet;refine⟨_,⟨sR,aN7,nN7,cN7⟩,rfl,?_,⟨?_,?_⟩,?_,?_⟩
   ·first|exact XW _|exact yh|exact yi|exact yj|exact yl|exact ym|exact yn|exact yo
   ·simp[go_sem, *]
   ·simp[go_sem, *]
   ·first|with_reducible exact hfinN.put2 Qi Qj _ _|with_reducible exact hfinN.put2 Qg Qh _ _|with_reducible exact hfinN.put2 Qd Qf _ _|with_reducible exact hfinN.put2 Qb Qc _ _|with_reducible exact hfinN.put2 PZ Qa _ _|with_reducible exact hfinN.put2 PX PY _ _|with_reducible exact hfinN.put2 PV PW _ _|with_reducible exact hfinN.bw (bl1 _ _)
   ·repeat' (first|with_reducible exact yg|with_reducible exact nG|with_reducible exact nH|with_reducible exact nI|with_reducible exact nJ|with_reducible exact nM|with_reducible exact nN|with_reducible exact Below.refl _ _|with_reducible refine Below.drew ?_|with_reducible refine zL ?_ _|with_reducible refine Below.setCell ?_ (by first|exact XW _|exact yh|exact yi|exact yj|exact yl|exact ym|exact yn|exact yo) _)
 case rest =>
 obtain⟨BN,xN,rfl,hHN,XN,hpN,hblN⟩:=hcut;replace A:=A.bw hblN;replace D:=D.bw hblN;replace R:=R.bw hblN;replace b8:=zB b8 hblN;have HN:=zC hpN;have lN:=XN.lt;have IY:=A.lt;have Pt:=D.lt;have Y1:=R.lt;have iI:=zC (show ∀ w',Below wc.heap.size wc w'->(rK w' w.heap.size p1 q1 (rK w' ((w.heap.size+1)) p2 q2 (nK0 w' BN xN))) from λ w' hB=>⟨(A.bw hB).c0,(A.bw hB).c1,(D.bw hB).c0,(D.bw hB).c1,(XN.bw hB).c0,(XN.bw hB).c1⟩)
 have n1:w.heap.size+1+1≠w.heap.size:=by omega
 have n2:w.heap.size+1+1≠w.heap.size+1:=by omega
 have n3:w.heap.size+1+1≠BN:=by omega
 clear hpN HK hblN A D XN f0 f1 f2 f3;have m8:Below wc.heap.size wc wc.drew:=(Below.refl _ _).drew;obtain⟨x0,x1,x2,x3,y0,y1⟩:=zA iI _ (Below.refl _ _);go_wp2_with fail
 go_region_held3 (λ w'=>rK w' w.heap.size p1 q1 (rK w' ((w.heap.size+1)) p2 q2 (nK0 w' BN xN))) (first|exact zA iI _ (by with_reducible first|exact m8|exact dx|exact Q4|exact I6|exact I5|exact C8|exact y9|exact j9|exact j7)|(dsimp only[cK,cK0,nK,nK0,rK,rK0];go_keep)|go_keep)
  (first
   | (go_at_call 26;have H7:=Q4;refine (zC3 _ v3 v7 70001 b (jJ (l1,u1) (l2,u2)) (l3,u3) (A8.bw I8) (O1.mono (by omega)) (by omega) (zA rp)).mono ?_;rintro r' w8 ⟨t,rfl,I7,Q9,Q7⟩;have HT:=zC I7;clear I7;have dx:=zB Q4 Q7;obtain⟨eE,nQ,gN,sT,sV,q5'⟩:=R.bw dx;obtain⟨i0,i1,i2,i3,j0,j1⟩:=zA iI _ dx)
   | (go_at_call 64;have H7:=I6;refine (zA H3 _ xN ⟨D4,a6,n6,c6⟩ ((zA HN).bw I6) (L9.mono (by omega))).mono ?_;rintro r' w7 ⟨l3,u3,pW,v7,rfl,H9,O1,I8⟩;have Qk:=zC pW;clear H9 pW;have Q4:=zB I6 I8)
   | (go_at_call 66;have H7:=I5;refine (zW _ _ _ _ _ _ _ _ 4 4 q1 q2 _ (D9.bw A7) O0 (by omega) (by omega)).mono ?_;rintro r' w6 ⟨D4,a6,n6,c6,rfl,L9,G3⟩;have I6:=zB I5 G3;replace A8:=A8.bw G3)
   | (go_at_call 43;have H7:=C8;refine (zD q2 _ (by omega) (by omega)).mono ?_;rintro r' w5 ⟨G9,a5,n5,c5,rfl,O0,A7⟩;have I5:=zB C8 A7;replace A8:=A8.bw A7)
   | (go_at_call 43;have H7:=y9;refine (zD q1 _ (by omega) (by omega)).mono ?_;rintro r' w4 ⟨o9,a4,n4,c4,rfl,D9,m9⟩;have C8:=zB y9 m9;replace A8:=A8.bw m9)
   | (go_at_call 57;have H7:=j9;refine (yY _ v1 v2 70000 b (l1,u1) (l2,u2) (k9.bw b9) o0 (by omega) (zA pR)).mono ?_;rintro r' w3 ⟨v3,rfl,E6,A8,k8⟩;have rp:=zC E6;clear E6;have y9:=zB j9 k8)
   | (go_at_call 19;have H7:=j7;refine (zDB _ p2 q2 b y (zA HR).2 (zA H2)).mono ?_;rintro r' w2 ⟨l2,u2,Y7,v2,rfl,G7,o0,b9⟩;have Ql:=zC Y7;clear G7 Y7;have j9:=zB j7 b9)
   | (go_at_call 19;refine (zDB _ p1 q1 b x (zA HR).1 (zA H1)).mono ?_;rintro r' w1 ⟨l1,u1,en,v1,rfl,D6,k9,b7⟩;have Qn:=zC en;have pR:=zC D6;clear D6 en;have j7:=zB m8 b7))
 all_goals
  go_wp2_with fail;refine bodyPost_ret (v:=.agg t.q) (by simp[results,Tryz.results20,go_sem,eE,nQ,gN,sT,sV]) rfl ⟨l1,u1,l2,u2,l3,u3,zA Qn,zA Ql,zA Qk,t,rfl,zA HT,?_,?_⟩
  ·exact SpAt.put5 Q9 eE nQ gN sT sV _ _ _ _ _
  ·exact kB (zB b8 dx) (by omega) _ _ _ _ _
theorem zGE {b:Nat} (z:Int) (hz:z=(b:Int)) (w:World) (p1 q1 p2 q2:Int) (x y t:Nat->Rat) (h1:rok p1 q1) (h2:rok p2 q2) (L1:zE7 p1 q1 b x) (L2:zE7 p2 q2 b y) (L3:zE7 (p1*q2+p2*q1) (q1*q2) b t) :
  Calls Tryz.prog 20 #[.agg #[.int .i64 p1,.int .i64 q1],.agg #[.int .i64 p2,.int .i64 q2],.int .i64 z] w (λ r w'=>∃ lo hi,(Iv b (lo,hi) (λ M=>x M+y M-t M)/\Abs (lo,hi) (90000*Q b))/\zJ w b 70002 lo hi r w'):=by
 subst hz;refine (zHE w p1 q1 p2 q2 b x y t h1 h2 L1 L2 L3).mono λ r w' h=>?_
 obtain⟨l1,u1,l2,u2,l3,u3,⟨i1,a1⟩,⟨i2,a2⟩,⟨i3,a3⟩,h⟩:=h;refine⟨_,_,⟨(i1.add i2).sub i3,?_⟩,h⟩;obtain⟨x1,x2,x3,x4⟩:=a1;obtain⟨y1,y2,y3,y4⟩:=a2;obtain⟨z1,z2,z3,z4⟩:=a3;simp only[] at x1 x2 x3 x4 y1 y2 y3 y4 z1 z2 z3 z4;exact⟨by show _<=l1+l2-u3;omega,by show l1+l2-u3<=_;omega,by show _<=u1+u2-l3;omega,by show u1+u2-l3<=_;omega⟩
structure LvB (w wr:World) (x:Nm) (pa qa ra sa X:Int):Prop where
 c:NmC wr (w.heap.size) x
 a:RaC wr (w.heap.size+1) pa qa
 d:RaC wr (w.heap.size+1+1) ra sa
 no:NoC wr (w.heap.size+1+1+1)
 xp:IntAt wr x.neg x.a x.n x.cap 100 X
 be:Below w.heap.size w wr
theorem LvB.bw {w wr wr':World} {x:Nm} {pa qa ra sa X:Int} (h:LvB w wr x pa qa ra sa X) (hb:Below wr.heap.size wr wr'):LvB w wr' x pa qa ra sa X:=⟨h.c.bw hb,h.a.bw hb,h.d.bw hb,h.no.bw hb,h.xp.bw hb,zB h.be hb⟩
theorem LvB.offP {w wr:World} {x:Nm} {pa qa ra sa X:Int} {B:Nat} {t:Sp} (h:LvB w wr x pa qa ra sa X) (v:VrC wr B t) (hB:w.heap.size+1+1+1<B) (u:Sp):LvB w (zQ wr B u) x pa qa ra sa X :=
 ⟨h.c.offP (by omega) u,h.a.offP (by omega) u,h.d.offP (by omega) u,h.no.off (by omega) u,h.xp.put v.c u,jC h.be (by omega) u⟩
structure LvSt (w wr:World) (x:Nm) (pa qa ra sa X:Int) (B1 B2 m K:Nat) (U Sm:Sp) (a c:Int × Int):Prop where
 b:LvB w wr x pa qa ra sa X
 y:VrC wr B1 U
 s:VrC wr B2 Sm
 yp:SpAt wr U K a.1 a.2
 sp:SpAt wr Sm K c.1 c.2
 yb:U.bits=(m:Int)
 sb:Sm.bits=(m:Int)
 l1:w.heap.size+1+1+1<B1
 l2:w.heap.size+1+1+1<B2
 n:B1≠B2
theorem LvSt.bw {w wr wr':World} {x:Nm} {pa qa ra sa X:Int} {B1 B2 m K:Nat} {U Sm:Sp} {a c:Int × Int} (h:LvSt w wr x pa qa ra sa X B1 B2 m K U Sm a c) (hb:Below wr.heap.size wr wr'):LvSt w wr' x pa qa ra sa X B1 B2 m K U Sm a c :=
 ⟨h.b.bw hb,h.y.bw hb,h.s.bw hb,h.yp.bw hb,h.sp.bw hb,h.yb,h.sb,h.l1,h.l2,h.n⟩
theorem LvSt.put1 {w wr:World} {x:Nm} {pa qa ra sa X:Int} {B1 B2 m K:Nat} {U Sm:Sp} {a c a':Int × Int} (h:LvSt w wr x pa qa ra sa X B1 B2 m K U Sm a c) (v:Sp) (hv:SpAt wr v K a'.1 a'.2) (hb:v.bits=(m:Int)):LvSt w (zQ wr B1 v) x pa qa ra sa X B1 B2 m K v Sm a' c :=
 ⟨h.b.offP h.y h.l1 v,h.y.put v,h.s.off (Ne.symm h.n) v,hv.put h.y.c v,h.sp.put h.y.c v,hb,h.sb,h.l1,h.l2,h.n⟩
theorem LvSt.put2 {w wr:World} {x:Nm} {pa qa ra sa X:Int} {B1 B2 m K K':Nat} {U Sm:Sp} {a c c':Int × Int} (h:LvSt w wr x pa qa ra sa X B1 B2 m K U Sm a c) (v:Sp) (hv:SpAt wr v K' c'.1 c'.2) (hb:v.bits=(m:Int)) (hK:K<=K'):LvSt w (zQ wr B2 v) x pa qa ra sa X B1 B2 m K' U v a c' :=
 ⟨h.b.offP h.s h.l2 v,h.y.off h.n v,h.s.put v,(h.yp.mono hK).put h.s.c v,hv.put h.s.c v,h.yb,hb,h.l1,h.l2,h.n⟩
theorem lv_abs {pa qa:Int} {B J:Nat} {a c:Int × Int} (p0:0<pa) (q0:0<qa) (pq:pa<=100*qa) (hJ:J<=11) (hle:a.1<=a.2) (ha:Abs a (3*((J:Int)+1)*Q B)) (hc:Abs c (90000*Q B)):Abs (zAF (byI a pa qa) c) (94000*Q B):=by
 have qB:=zG B;have hM:3*((J:Int)+1)*Q B<=36*Q B:=XK (by omega) (by omega)
 have b:=zDG (p:=3600*Q B) (c:=100*qa) (ha.mono hM) q0 (by omega) pq (by
  have e:36*Q B*(100*qa)=3600*Q B*qa:=by grind
  rw[e];exact Int.le_refl _)
 obtain⟨a1,a2,a3,a4⟩:=b;obtain⟨c1,c2,c3,c4⟩:=hc;exact⟨by show _<=(byI a pa qa).1-c.2;omega,by show (byI a pa qa).1-c.2<=_;omega,by show _<=(byI a pa qa).2-c.1;omega,by show (byI a pa qa).2-c.1<=_;omega⟩
structure LvOk (L:Rat->Nat->Rat) (pa qa ra sa X:Int) (B:Nat) (lo hi:Int):Prop where
 l0:0<=lo
 h1:hi<=Q B
 iv:Iv B (lo,hi) (bv L ((pa:Rat)/(qa:Rat)) ((ra:Rat)/(sa:Rat)) ((X:Rat)/(Q B:Rat)))
theorem lv_x {pa qa ra sa X:Int} {B m K:Nat} (h:LpIn pa qa ra sa X B m K):(0:Rat)<(pa:Rat)/(qa:Rat)/\(0:Rat)<(ra:Rat)/(sa:Rat)/\(0:Rat)<(X:Rat)/(Q B:Rat)/\(X:Rat)/(Q B:Rat)<1:=by
 have pr:(0:Rat)<(pa:Rat):=by exact_mod_cast h.p0
 have qr:(0:Rat)<(qa:Rat):=by exact_mod_cast h.q0
 have rr:(0:Rat)<(ra:Rat):=by exact_mod_cast h.r0
 have sr:(0:Rat)<(sa:Rat):=by exact_mod_cast h.s0
 have xr:(0:Rat)<(X:Rat):=by exact_mod_cast h.x0
 have qB:=zY B;refine⟨zH pr qr,zH rr sr,zH xr qB,?_⟩;refine Rat.lt_of_mul_lt_mul_right (c:=(Q B:Rat)) ?_ (XV qB);rw[rdm qB];have:(X:Rat)<(Q B:Rat):=by exact_mod_cast (show X<Q B by have:=h.x0;have:=h.x2;omega)
 grind
theorem lv_end {L:Rat->Nat->Rat} (hL:Lns L) {pa qa ra sa X:Int} {B m K:Nat} {l u:Int} (h:LpIn pa qa ra sa X B m K) (k:Iv B (l,u) (bv L ((pa:Rat)/(qa:Rat)) ((ra:Rat)/(sa:Rat)) ((X:Rat)/(Q B:Rat)))):LvOk L pa qa ra sa X B (zF4 l) (zEC B u):=by
 obtain⟨a0,b0,x0,x1⟩:=lv_x h;have qB:=zG B;refine⟨by unfold zF4;split<;>omega,by unfold zEC;split<;>omega,?_⟩
 have k:=k.capL (zQY hL a0 b0 x0 x1);have e1:(if u<=Q B then u else Q B)=zEC B u:=by unfold zEC;split<;>split<;>omega
 simp only[e1] at k
 by_cases hl:l<0
 ·have e2:zF4 l=0:=by unfold zF4;rw[if_pos hl]
  rw[e2];obtain⟨N0,hn⟩:=bv_nn hL a0 b0 x0 x1;have b:=k.bottom N0 hn;simp only[hl,if_true] at b;exact b
 ·have e2:zF4 l=l:=by unfold zF4;rw[if_neg hl]
  rw[e2];exact k
theorem lv_ref {L:Rat->Nat->Rat} (hL:Lns L) {pa qa ra sa X:Int} {B m K N:Nat} {Y:Nat->Rat} {a:Int × Int} (h:LpIn pa qa ra sa X B m K) (hN:zLY ra sa X B m K N) (hY:IsLog Y (bJ L ((pa:Rat)/(qa:Rat)) ((ra:Rat)/(sa:Rat)))) (ha:Iv m a (Ev (λ M=>(pa:Rat)/(qa:Rat)*L ((X:Rat)/(Q B:Rat)) M-Y M))):Iv m (kJ m a (jJ (zsT pa qa ra sa X B m N) (-4,4))) (bv L ((pa:Rat)/(qa:Rat)) ((ra:Rat)/(sa:Rat)) ((X:Rat)/(Q B:Rat))):=by
 obtain⟨a0,b0,x0,x1⟩:=lv_x h;exact (ha.mul (lp_has h hN)).congr (bv_ref hL a0 b0 x0 x1 hY)
theorem zs_le {pa qa ra sa X:Int} {B m K:Nat} (h:LpIn pa qa ra sa X B m K) (n:Nat):(zsT pa qa ra sa X B m n).1<=(zsT pa qa ra sa X B m n).2:=(zOG h n).le
theorem zNV (L:Rat->Nat->Rat) (X1 X2 X3:Nat->Rat) (w:World) (x:Nm) (pa qa ra sa X:Int) (B:Nat) (hx:IntAt w x.neg x.a x.n x.cap 100 X) (m K N J:Nat) (hL:Lns L) (hY:IsLog (λ M=>X1 M+X2 M-X3 M) (bJ L ((pa:Rat)/(qa:Rat)) ((ra:Rat)/(sa:Rat)))) (L1:zE7 pa qa (B+64) X1) (L2:zE7 ra sa (B+64) X2) (L3:zE7 (pa*sa+ra*qa) (qa*sa) (B+64) X3) (jt:rok pa qa) (eI:rok ra sa) (h:LpIn pa qa ra sa X B m K) (hN:zLY ra sa X B m K N) (Q3:N<4*m+8*(K+2)) (ct:N<=3000) (fR:Q B<=X*Q J) (cX:X<Q B*Q (J+1)) (hJ:J<=11) :
  Calls Tryz.prog 148 #[.agg x.q,.agg #[.int .i64 pa,.int .i64 qa],.agg #[.int .i64 ra,.int .i64 sa],.int .i64 B] w (λ r w'=>∃ lo hi,LvOk L pa qa ra sa X B lo hi/\zJ w B 600000 lo hi r w'):=by
 have b0:=h.b0;have b1:=h.b1;have X0:=h.x0;have p0:=h.p0;have eE:=h.q0;have r0:=h.r0;have s0:=h.s0;have qq:=h.qq;have ss:=h.ss;have pb:pa<=102400:=by have:=h.pq;omega
 have rb:ra<=102400:=by have:=h.rs;omega
 obtain⟨k1,k2,k3,k4⟩:=h.k;have e1:pa.tdiv qa=pa/qa:=Int.tdiv_eq_ediv_of_nonneg (by omega)
 have e2:ra.tdiv sa=(K:Int):=by rw[Int.tdiv_eq_ediv_of_nonneg (by omega),h.ek]
 obtain⟨pf,Gz⟩:∃ pf,pf=pa/qa:=⟨_,rfl⟩;have pf0:0<=pf:=by rw[Gz];exact Int.ediv_nonneg (by omega) (by omega)
 have pf1:pf<=100:=by rw[Gz];exact Int.ediv_le_of_le_mul eE h.pq
 have em:2*(B:Int)+6*(pf+(K:Int))+200=(m:Int):=by rw[Gz,<- h.ek];exact h.em
 rw[<- Gz] at e1;have aY:=zC e1;have kb:=zC e2;have HM:=zC em;have HH:=zC h;have HN:=zC hN;have HJ:=zC (And.intro fR cX);have HL:=zC hL;have HYY:=zC hY;have Gb:=zC L1;have xV:=zC L2;have HL3:=zC L3
 have oI:Hid (X<Q (B+20)):=zC (by
  have:=h.x2;have:=zK (show B<=B+20 by omega)
  omega)
 have P7:Hid (∀ j,-P 170<(zpT ra sa X B m j).1/\(zpT ra sa X B m j).2<P 170):=zC (λ j=>by
  obtain⟨g1,g2,g3,g4⟩:=lp_abs h j;have e:Q (m+6*K)<P 170:=zJ9 (by omega)
  exact⟨by omega,by omega⟩)
 have K3:Hid (∀ j,j<=N -> -P 170<(zsT pa qa ra sa X B m j).1/\(zsT pa qa ra sa X B m j).2<P 170):=zC (λ j hj=>by
  obtain⟨g1,g2,g3,g4⟩:=zs_abs h j;have q:=zG (m+6*K+10);have e:Q (m+6*K+10+12)<P 170:=zJ9 (by omega)
  have e2:Q (m+6*K+10+12)=Q (m+6*K+10)*Q 12:=jD _ 12;have e3:Q 12=4096:=rfl;rw[e2,e3] at e;have:=XK (show (j:Int)+1<=4096 by omega) (show 0<=Q (m+6*K+10) by omega)
  exact⟨by omega,by omega⟩)
 have tL:1<=N:=by have:=hN.1;omega
 clear h hN fR cX hL hY L1 L2 L3 Gz;obtain⟨W,hW⟩:∃ W,W=(((w.alloc (.cells x.q 26)).alloc (.cells #[.int .i64 pa,.int .i64 qa] 23)).alloc (.cells #[.int .i64 ra,.int .i64 sa] 23)).alloc (.cells zCq 36):=⟨_,rfl⟩;have b8:Below w.heap.size w W:=by rw[hW];exact bl4 _ _ _ _ _
 have st:LvB w W x pa qa ra sa X:=⟨by rw[hW];exact⟨by simp[go_sem],by simp[go_sem]⟩,by rw[hW];exact⟨by simp[go_sem],by simp[go_sem]⟩,by rw[hW];exact⟨by simp[go_sem],by simp[go_sem]⟩,by rw[hW];exact⟨by simp[go_sem],by simp[go_sem],by simp[go_sem],by simp[go_sem],by simp[go_sem],λ o=>by simp[go_sem]⟩,hx.bw b8,b8⟩
 clear hx b8
 go_enter Tryz.func148,Tryz.ntmps148
 go_upto_region 1 with fail
 rw[<- hW];clear hW;have eG:¬ qa=0:=by omega
 have ag:¬ qa = -1:=by omega
 have hsa1:¬ sa=0:=by omega
 have hsa2:¬ sa = -1:=by omega
 have ah:=zC (show ∀ w',Below W.heap.size W w'->(rK w' (w.heap.size+1) pa qa (rK0 w' (w.heap.size+1+1) ra sa)) from λ w' hB=>⟨(st.a.bw hB).c0,(st.a.bw hB).c1,(st.d.bw hB).c0,(st.d.bw hB).c1⟩)
 have C4:Below W.heap.size W W.drew:=(Below.refl _ _).drew;have lA:=st.a.lt;have lD:=st.d.lt
 go_cut [9] (λ v wx=>v=.int .i64 (m:Int)/\LvB w wx x pa qa ra sa X)
 case first =>
  obtain⟨x0,x1,x2,x3⟩:=zA ah _ (Below.refl _ _)
  go_region_held3 (λ w'=>rK w' (w.heap.size+1) pa qa (rK0 w' (w.heap.size+1+1) ra sa)) (first|exact zA ah _ (by first|with_reducible exact C4)|(dsimp only[cK,cK0,nK,nK0,rK,rK0];go_keep)|go_keep) (fail)
  all_goals
   have em:=zA HM;go_wp2_with fail;go_meet;refine⟨?_,st.bw C4⟩
   congr 1
   rw[jL (2*(B:Int)) (by omega) (by omega),jL pf (by omega) (by omega),jL (K:Int) (by omega) (by omega),jL (pf+(K:Int)) (by omega) (by omega),jL (6*(pf+(K:Int))) (by omega) (by omega),jL (2*(B:Int)+6*(pf+(K:Int))) (by omega) (by omega),jL _ (by omega) (by omega)]
   omega
 case rest =>
 obtain⟨rfl,st⟩:=hcut;obtain⟨V1,M4⟩:∃ V,V=wc:=⟨_,rfl⟩;subst M4;clear ah lA lD C4;have lA:=st.a.lt;have HK:=zC (show ∀ w',Below V1.heap.size V1 w'->(rK0 w' (w.heap.size+1) pa qa) from λ w' hB=>⟨(st.a.bw hB).c0,(st.a.bw hB).c1⟩)
 have a0:=st.a.c0;have a1:=st.a.c1;go_wp2_with fail
 go_cut [10,11] (λ p q wx=>TwoP V1 wx m 170 170 (zpT ra sa X B m 0) (zsT pa qa ra sa X B m 0) p q)
 case first =>
  go_region_held3 (λ w'=>rK0 w' (w.heap.size+1) pa qa) (exact zA HK _ (by repeat' (first|with_reducible exact fW|with_reducible exact dM|with_reducible exact J9|with_reducible exact F9|with_reducible exact Below.refl _ _|with_reducible refine Below.drew ?_|with_reducible refine zL ?_ _|with_reducible refine Below.setCell ?_ (by with_reducible first|exact XW _|exact Yh _|exact F6|exact Yf F6|exact H6|exact Yf H6|exact R9|exact Yf R9|exact bK|exact Yf bK) _)))
   (first
    | (go_at_call 54;have hq:=dM;refine (zED (b:=m) _ rfl ⟨dB,DQ,DR,DS⟩ ⟨GA,aU3,nU3,cU3⟩ 4 4 qa pa _ (R6.bw (by repeat' (first|with_reducible exact Below.refl _ _|with_reducible refine Below.drew ?_|with_reducible refine zL ?_ _))) (mC.bw (by repeat' (first|with_reducible exact Below.refl _ _|with_reducible refine Below.drew ?_|with_reducible refine zL ?_ _))) (by omega) (by omega) (by omega) (by omega)).mono ?_;rintro r Qo ⟨Ck,rfl,sW,Qq,jl⟩;have ef:=zC sW;clear sW;have bL:Below oK.heap.size oK Qo:=(by with_reducible first|exact jl|exact zB (bl1 _ _) jl|exact zB (bl2 _ _ _) jl);have fW:=zB dM bL;(first|with_reducible have zh:=(zM oK 36).bw jl|with_reducible have zh:=((zM oK 36).bw (bl1 _ _)).bw jl|skip);(try with_reducible have GB:=(zB4 (oK.alloc _) (oK.heap.size+1) (hs1 _ _) 36).bw jl);replace I9:=I9.bw bL;(try have wm:=J4.lt);(try have wo:=K8.lt);(try replace J4:=J4.bw bL);(try replace K8:=K8.bw bL);replace R6:=R6.bw bL;(try have Qr:=W7.lt);(try have Qs:=az.lt);(try replace W7:=W7.bw bL);(try replace az:=az.bw bL);replace mC:=mC.bw bL;(try have maU3:=jo.lt);(try have mbU3:=nS.lt);(try replace jo:=jo.bw bL);(try replace nS:=nS.bw bL);have bK:=fW.size;(try have mF:=J4);(try obtain⟨rv,ry,rz,rA,rB,rC⟩:=mF);(try have Ew:=J4.lt);(try have mG:=K8);(try obtain⟨rD,rE,rF,rG,rH,rJ⟩:=mG);(try have Ey:=K8.lt);(try have wy:=W7);(try obtain⟨EK,EL,EM,EP,ER,ES⟩:=wy);(try have Ns:=W7.lt);(try have wz:=az);(try obtain⟨ET,EV,EW,EX,EY,EZ⟩:=wz);(try have Nt:=az.lt);(try have Qt:=jo);(try obtain⟨zaU30,zaU31,zaU32,zaU33,zaU34,zaU35⟩:=Qt);(try have yaU3:=jo.lt);(try have Qv:=nS);(try obtain⟨zbU30,zbU31,zbU32,zbU33,zbU34,zbU35⟩:=Qv);(try have ybU3:=nS.lt);(try have Qw:=zh);(try obtain⟨zaU40,zaU41,zaU42,zaU43,zaU44,zaU45⟩:=Qw);(try have yaU4:=zh.lt);(try have Qx:=GB);(try obtain⟨zbU40,zbU41,zbU42,zbU43,zbU44,zbU45⟩:=Qx);(try have ybU4:=GB.lt))
    | (go_at_call 43;have hq:=J9;refine (zD pa _ (by omega) (by omega)).mono ?_;rintro r oK ⟨GA,aU3,nU3,cU3,rfl,mC,bz⟩;have W6:Below cw.heap.size cw oK:=(by with_reducible first|exact bz|exact zB (bl1 _ _) bz|exact zB (bl2 _ _ _) bz);have dM:=zB J9 W6;(first|with_reducible have jo:=(zM cw 36).bw bz|with_reducible have jo:=((zM cw 36).bw (bl1 _ _)).bw bz|skip);(try with_reducible have nS:=(zB4 (cw.alloc _) (cw.heap.size+1) (hs1 _ _) 36).bw bz);replace I9:=I9.bw W6;(try have wm:=J4.lt);(try have wo:=K8.lt);(try replace J4:=J4.bw W6);(try replace K8:=K8.bw W6);replace R6:=R6.bw W6;(try have Qr:=W7.lt);(try have Qs:=az.lt);(try replace W7:=W7.bw W6);(try replace az:=az.bw W6);have R9:=dM.size)
    | (go_at_call 43;have hq:=F9;refine (zD qa _ (by omega) (by omega)).mono ?_;rintro r cw ⟨dB,DQ,DR,DS,rfl,R6,K4⟩;have O4:Below R7.heap.size R7 cw:=(by with_reducible first|exact K4|exact zB (bl1 _ _) K4|exact zB (bl2 _ _ _) K4);have J9:=zB F9 O4;(first|with_reducible have W7:=(zM R7 36).bw K4|with_reducible have W7:=((zM R7 36).bw (bl1 _ _)).bw K4|skip);(try with_reducible have az:=(zB4 (R7.alloc _) (R7.heap.size+1) (hs1 _ _) 36).bw K4);replace I9:=I9.bw O4;(try have wm:=J4.lt);(try have wo:=K8.lt);(try replace J4:=J4.bw O4);(try replace K8:=K8.bw O4);have H6:=J9.size)
    | (go_at_call 27;refine (zBN (b:=m) _ rfl _ 1 (by omega) (by decide) (by decide)).mono ?_;rintro r R7 ⟨bX,rfl,Y2,I9,H8⟩;have I3:=zC Y2;clear Y2;have F9:Below V1.heap.size V1 R7:=(by with_reducible first|exact zB (Below.refl _ _).drew H8|exact zB (bl1 _ _).drew H8|exact zB (bl2 _ _ _).drew H8);(first|with_reducible have J4:=((zM V1 36).bw (Below.refl _ _).drew).bw H8|with_reducible have J4:=((zM V1 36).bw (bl1 _ _).drew).bw H8|skip);(try with_reducible have K8:=((zB4 (V1.alloc _) (V1.heap.size+1) (hs1 _ _) 36).bw (Below.refl _ _).drew).bw H8);have F6:=F9.size))
  all_goals
   have hiXU:=(show SpAt Qo bX 170 (zpT ra sa X B m 0).1 (zpT ra sa X B m 0).2 by have h:=I9.mono (show m/16+18<=170 by omega);rw[Int.one_mul] at h;exact h)
   have hiYU:=(show SpAt Qo Ck 170 (zsT pa qa ra sa X B m 0).1 (zsT pa qa ra sa X B m 0).2 from Qq.mono (by omega))
   go_wp2_with fail;go_meet
   first
    | with_reducible exact zFE (x:=bX) (y:=Ck) fW hiXU hiYU (zA I3) (zA ef)
    | with_reducible exact zE0 (x:=bX) (y:=Ck) fW hiXU hiYU (zA I3) (zA ef)
    | with_reducible exact zHQ (x:=bX) (y:=Ck) fW hiXU hiYU (zA I3) (zA ef) (by assumption) (by with_reducible first|exact XW _|exact Yh _|exact F6|exact Yf F6|exact H6|exact Yf H6|exact R9|exact Yf R9|exact bK|exact Yf bK)
    | with_reducible exact zK2 (x:=bX) (y:=Ck) fW hiXU hiYU (zA I3) (zA ef) (by assumption) (by with_reducible first|exact XW _|exact Yh _|exact F6|exact Yf F6|exact H6|exact Yf H6|exact R9|exact Yf R9|exact bK|exact Yf bK)
    | with_reducible exact zKJ (x:=bX) (y:=Ck) fW hiXU hiYU (zA I3) (zA ef) (by assumption) (by assumption) (by with_reducible first|exact XW _|exact Yh _|exact F6|exact Yf F6|exact H6|exact Yf H6|exact R9|exact Yf R9|exact bK|exact Yf bK) (by with_reducible first|exact XW _|exact Yh _|exact F6|exact Yf F6|exact H6|exact Yf H6|exact R9|exact Yf R9|exact bK|exact Yf bK) (by omega)
 case rest =>
 obtain⟨BU,CU,xU,yU,rfl,rfl,vB,Jb,hneU,XU,YU,hxU,hyU,bxU,byU,hblU⟩:=hcut;clear lA a0 a1;have lR0:=st.no.lt;have N9:LvSt w wc x pa qa ra sa X BU CU m 170 xU yU (zpT ra sa X B m 0) (zsT pa qa ra sa X B m 0):=⟨st.bw hblU,XU,YU,hxU,hyU,bxU,byU,by omega,by omega,hneU⟩
 clear st XU YU hxU hyU bxU byU hblU vB Jb hneU lR0 HK;have d0:=N9.b.d.c0;have d1:=N9.b.d.c1;have lD:=N9.b.d.lt;have e2:=zA kb
 go_upto_block 0 with fail
 clear d0 d1 lD e2
 go_cut [13] (λ nn wx=>∃ (U Sm:Sp),LvSt w wx x pa qa ra sa X BU CU m 170 U Sm (zpT ra sa X B m N) (zsT pa qa ra sa X B m N))
 case first =>
  go_wp2_with fail
  go_loopw [13] (λ nn wr=>∃ (i:Nat) (U Sm:Sp),nn=.int .i64 ((i:Int)+1)/\i<N/\LvSt w wr x pa qa ra sa X BU CU m 170 U Sm (zpT ra sa X B m i) (zsT pa qa ra sa X B m i)) (λ nn _=>N+1-(intOf nn).toNat)
  case atStart=>exact⟨0,xU,yU,rfl,tL,N9⟩
  case round =>
   obtain⟨i,U,Sm,rfl,hi,st⟩:=hrel;clear N9;have vS:(i:Int)+1<4*(m:Int)+4*(2*((K:Int)+2)):=by omega
   have pr1:=Yb (show 0<=(i:Int)+1 by omega) (show 0<=sa by omega)
   have pr2:((i:Int)+1)*sa<=3001*1024:=Int.mul_le_mul (by omega) ss (by omega) (by omega)
   have pr3:=Yb (show 0<=(i:Int)+1 by omega) (show 0<=qa by omega)
   have pr4:((i:Int)+1)*qa<=3001*1024:=Int.mul_le_mul (by omega) qq (by omega) (by omega)
   have pr5:0<((i:Int)+1)*sa:=Int.mul_pos (by omega) s0
   have E7:=zC (show IntKind.i64.wrap (((i:Int)+1)*sa)=((i:Int)+1)*sa from jL _ (by omega) (by omega))
   have E10:=zC (show IntKind.i64.wrap (((i:Int)+1)*sa-ra)=((i:Int)+1)*sa-ra from jL _ (by omega) (by omega))
   have E8:=zC (show IntKind.i64.wrap (((i:Int)+1)*qa)=((i:Int)+1)*qa from jL _ (by omega) (by omega))
   have E11:=zC (show IntKind.i64.wrap (pa+((i:Int)+1)*qa)=pa+((i:Int)+1)*qa from jL _ (by omega) (by omega))
   have qf:=zC (And.intro pr1 (And.intro pr2 (And.intro pr3 (And.intro pr4 pr5))));clear pr1 pr2 pr3 pr4 pr5;go_wp2_with fail;clear vS;have lY:=st.y.lt;have m8:Below wr.heap.size wr wr.drew:=(Below.refl _ _).drew;have cB:=zC (show ∀ w',Below wr.heap.size wr w'->(cK w' BU U (nK w' w.heap.size x (rK0 w' (w.heap.size+1+1) ra sa))) from λ w' hB=>⟨(st.y.bw hB).c.c0,(st.y.bw hB).c.c1,(st.y.bw hB).c.c2,(st.y.bw hB).c.c3,(st.y.bw hB).c.c4,(st.b.c.bw hB).c0,(st.b.c.bw hB).c1,(st.b.d.bw hB).c0,(st.b.d.bw hB).c1⟩)
   have K9:=zC st;clear st;refine AnyL.start (S:=λ w'=>cK w' BU U (nK w' w.heap.size x (rK0 w' (w.heap.size+1+1) ra sa))) (l:=18) (by kernel_rfl) (zA cB _ m8) (λ hHeld=>?_)
   refine AnyL.take (i:=0) (oi:={ dst:=some 57,op:=Go.Op.load 36 (Go.Operand.tmp 10),type:=36,pos := "law.go:71",after:=#[],guard:=none }) (v:=.agg U.q) rfl (by kernel_rfl) (by kernel_rfl) (by kernel_rfl) (by kernel_rfl) (λ _ _ _ h=>h) (Or.inl ⟨by rfl,λ w hSw=>?_⟩) hHeld ?_
   ·obtain⟨s0,s1,s2,s3,s4,s5,s6,s7,s8⟩:=hSw;go_simp
   try simp only[Act.put,XH,XI,XJ]
   refine AnyL.take (i:=1) (oi:={ dst:=some 58,op:=Go.Op.load 26 (Go.Operand.tmp 4),type:=26,pos := "law.go:71",after:=#[],guard:=none }) (v:=.agg x.q) rfl (by kernel_rfl) (by kernel_rfl) (by kernel_rfl) (by kernel_rfl) (λ _ _ _ h=>h) (Or.inl ⟨by rfl,λ w hSw=>?_⟩) hHeld ?_
   ·obtain⟨s0,s1,s2,s3,s4,s5,s6,s7,s8⟩:=hSw;go_simp
   try simp only[Act.put,XH,XI,XJ]
   refine AnyL.take (i:=2) (oi:={ dst:=some 59,op:=Go.Op.move (Go.Operand.tmp 3),type:=3,pos := "law.go:71",after:=#[],guard:=none }) (v:=.int .i64 (B:Int)) rfl (by kernel_rfl) (by kernel_rfl) (by kernel_rfl) (by kernel_rfl) (λ _ _ _ h=>h) (Or.inl ⟨by rfl,λ w hSw=>?_⟩) hHeld ?_
   ·obtain⟨s0,s1,s2,s3,s4,s5,s6,s7,s8⟩:=hSw;go_simp
   try simp only[Act.put,XH,XI,XJ]
   refine AnyL.take (i:=4) (oi:={ dst:=some 61,op:=Go.Op.move (Go.Operand.tmp 13),type:=3,pos := "law.go:71",after:=#[],guard:=none }) (v:=.int .i64 ((i:Int)+1)) rfl (by kernel_rfl) (by kernel_rfl) (by kernel_rfl) (by kernel_rfl) (λ _ _ _ h=>h) (Or.inl ⟨by rfl,λ w hSw=>?_⟩) hHeld ?_
   ·obtain⟨s0,s1,s2,s3,s4,s5,s6,s7,s8⟩:=hSw;go_simp
   try simp only[Act.put,XH,XI,XJ]
   refine AnyL.take (i:=5) (oi:={ dst:=some 62,op:=Go.Op.fieldAddr 23 (Go.Operand.tmp 6) 1,type:=0,pos := "law.go:71",after:=#[],guard:=none }) (v:=.pointer (some ⟨w.heap.size+1+1,1,none⟩)) rfl (by kernel_rfl) (by kernel_rfl) (by kernel_rfl) (by kernel_rfl) (λ _ _ _ h=>h) (Or.inl ⟨by rfl,λ w hSw=>?_⟩) hHeld ?_
   ·obtain⟨s0,s1,s2,s3,s4,s5,s6,s7,s8⟩:=hSw;go_simp
   try simp only[Act.put,XH,XI,XJ]
   refine AnyL.take (i:=6) (oi:={ dst:=some 63,op:=Go.Op.load 3 (Go.Operand.tmp 62),type:=3,pos := "law.go:71",after:=#[{ on:=5,ground:=Go.Ground.data }],guard:=none }) (v:=.int .i64 sa) rfl (by kernel_rfl) (by kernel_rfl) (by kernel_rfl) (by kernel_rfl) (λ _ _ _ h=>h) (Or.inl ⟨by rfl,λ w hSw=>?_⟩) hHeld ?_
   ·obtain⟨s0,s1,s2,s3,s4,s5,s6,s7,s8⟩:=hSw;go_simp
   try simp only[Act.put,XH,XI,XJ]
   refine AnyL.take (i:=7) (oi:={ dst:=some 64,op:=Go.Op.binOp Go.BinOp.mul 3 (Go.Operand.tmp 61) (Go.Operand.tmp 63) 3,type:=3,pos := "law.go:71",after:=#[{ on:=4,ground:=Go.Ground.data },{ on:=6,ground:=Go.Ground.data }],guard:=none }) (v:=.int .i64 (((i:Int)+1)*sa)) rfl (by kernel_rfl) (by kernel_rfl) (by kernel_rfl) (by kernel_rfl) (λ _ _ _ h=>h) (Or.inl ⟨by rfl,λ w hSw=>?_⟩) hHeld ?_
   ·obtain⟨s0,s1,s2,s3,s4,s5,s6,s7,s8⟩:=hSw;go_simp;rw[zA E7]
   try simp only[Act.put,XH,XI,XJ]
   refine AnyL.take (i:=8) (oi:={ dst:=some 65,op:=Go.Op.fieldAddr 23 (Go.Operand.tmp 6) 0,type:=0,pos := "law.go:71",after:=#[],guard:=none }) (v:=.pointer (some ⟨w.heap.size+1+1,0,none⟩)) rfl (by kernel_rfl) (by kernel_rfl) (by kernel_rfl) (by kernel_rfl) (λ _ _ _ h=>h) (Or.inl ⟨by rfl,λ w hSw=>?_⟩) hHeld ?_
   ·obtain⟨s0,s1,s2,s3,s4,s5,s6,s7,s8⟩:=hSw;go_simp
   try simp only[Act.put,XH,XI,XJ]
   refine AnyL.take (i:=9) (oi:={ dst:=some 66,op:=Go.Op.load 3 (Go.Operand.tmp 65),type:=3,pos := "law.go:71",after:=#[{ on:=8,ground:=Go.Ground.data }],guard:=none }) (v:=.int .i64 ra) rfl (by kernel_rfl) (by kernel_rfl) (by kernel_rfl) (by kernel_rfl) (λ _ _ _ h=>h) (Or.inl ⟨by rfl,λ w hSw=>?_⟩) hHeld ?_
   ·obtain⟨s0,s1,s2,s3,s4,s5,s6,s7,s8⟩:=hSw;go_simp
   try simp only[Act.put,XH,XI,XJ]
   refine AnyL.take (i:=10) (oi:={ dst:=some 67,op:=Go.Op.binOp Go.BinOp.sub 3 (Go.Operand.tmp 64) (Go.Operand.tmp 66) 3,type:=3,pos := "law.go:71",after:=#[{ on:=7,ground:=Go.Ground.data },{ on:=9,ground:=Go.Ground.data }],guard:=none }) (v:=.int .i64 (((i:Int)+1)*sa-ra)) rfl (by kernel_rfl) (by kernel_rfl) (by kernel_rfl) (by kernel_rfl) (λ _ _ _ h=>h) (Or.inl ⟨by rfl,λ w hSw=>?_⟩) hHeld ?_
   ·obtain⟨s0,s1,s2,s3,s4,s5,s6,s7,s8⟩:=hSw;go_simp;rw[zA E10]
   try simp only[Act.put,XH,XI,XJ]
   refine AnyL.take (i:=12) (oi:={ dst:=some 69,op:=Go.Op.move (Go.Operand.tmp 13),type:=3,pos := "law.go:71",after:=#[],guard:=none }) (v:=.int .i64 ((i:Int)+1)) rfl (by kernel_rfl) (by kernel_rfl) (by kernel_rfl) (by kernel_rfl) (λ _ _ _ h=>h) (Or.inl ⟨by rfl,λ w hSw=>?_⟩) hHeld ?_
   ·obtain⟨s0,s1,s2,s3,s4,s5,s6,s7,s8⟩:=hSw;go_simp
   try simp only[Act.put,XH,XI,XJ]
   refine AnyL.take (i:=13) (oi:={ dst:=some 70,op:=Go.Op.fieldAddr 23 (Go.Operand.tmp 6) 1,type:=0,pos := "law.go:71",after:=#[],guard:=none }) (v:=.pointer (some ⟨w.heap.size+1+1,1,none⟩)) rfl (by kernel_rfl) (by kernel_rfl) (by kernel_rfl) (by kernel_rfl) (λ _ _ _ h=>h) (Or.inl ⟨by rfl,λ w hSw=>?_⟩) hHeld ?_
   ·obtain⟨s0,s1,s2,s3,s4,s5,s6,s7,s8⟩:=hSw;go_simp
   try simp only[Act.put,XH,XI,XJ]
   refine AnyL.take (i:=14) (oi:={ dst:=some 71,op:=Go.Op.load 3 (Go.Operand.tmp 70),type:=3,pos := "law.go:71",after:=#[{ on:=13,ground:=Go.Ground.data }],guard:=none }) (v:=.int .i64 sa) rfl (by kernel_rfl) (by kernel_rfl) (by kernel_rfl) (by kernel_rfl) (λ _ _ _ h=>h) (Or.inl ⟨by rfl,λ w hSw=>?_⟩) hHeld ?_
   ·obtain⟨s0,s1,s2,s3,s4,s5,s6,s7,s8⟩:=hSw;go_simp
   try simp only[Act.put,XH,XI,XJ]
   refine AnyL.take (i:=15) (oi:={ dst:=some 72,op:=Go.Op.binOp Go.BinOp.mul 3 (Go.Operand.tmp 69) (Go.Operand.tmp 71) 3,type:=3,pos := "law.go:71",after:=#[{ on:=12,ground:=Go.Ground.data },{ on:=14,ground:=Go.Ground.data }],guard:=none }) (v:=.int .i64 (((i:Int)+1)*sa)) rfl (by kernel_rfl) (by kernel_rfl) (by kernel_rfl) (by kernel_rfl) (λ _ _ _ h=>h) (Or.inl ⟨by rfl,λ w hSw=>?_⟩) hHeld ?_
   ·obtain⟨s0,s1,s2,s3,s4,s5,s6,s7,s8⟩:=hSw;go_simp;rw[zA E7]
   try simp only[Act.put,XH,XI,XJ]
   refine AnyL.one (i:=3) (o:={ dst:=some 60,op:=Go.Op.call { callee:=Go.Callee.value (Go.Operand.func 135),args:=#[Go.Operand.tmp 57,Go.Operand.tmp 58,Go.Operand.tmp 59],argTypes:=#[36,26,3] },type:=36,pos := "law.go:71",after:=#[{ on:=0,ground:=Go.Ground.data },{ on:=1,ground:=Go.Ground.data },{ on:=2,ground:=Go.Ground.data }],guard:=none }) (by kernel_rfl) rfl (λ Kc A0=>?_)
   go_simp
   refine (zFI _ _ U x 170 100 B m rfl (zpT ra sa X B m i) X ((zA K9).yp.bw m8) ((zA K9).b.xp.bw m8) (zQK (zA HH) i) (by omega) (by omega) (by omega) (by omega) (zA K9).yb).mono ?_
   rintro r' g1 ⟨v1,rfl,D6,F7,b7⟩;have j7:=zB m8 b7;have pR:=zC D6;clear D6 b7;go_wp2_with fail;refine A0.out _ _ (zA cB _ j7) (λ hHeld=>?_)
   clear A0 Kc
   try simp only[Act.put,XH,XI,XJ]
   refine AnyL.one (i:=11) (o:={ dst:=some 68,op:=Go.Op.call { callee:=Go.Callee.value (Go.Operand.func 43),args:=#[Go.Operand.tmp 67],argTypes:=#[3] },type:=26,pos := "law.go:71",after:=#[{ on:=10,ground:=Go.Ground.data },{ on:=3,ground:=Go.Ground.chain }],guard:=none }) (by kernel_rfl) rfl (λ Kc A0=>?_)
   go_simp
   refine (zD (((i:Int)+1)*sa-ra) _ (by have:=zA qf;omega) (by have:=zA qf;omega)).mono ?_
   rintro r' g2 ⟨b6,a2,n2,c2,rfl,o0,b9⟩;have j9:=zB j7 b9;replace F7:=F7.bw b9;clear b9;go_wp2_with fail;refine A0.out _ _ (zA cB _ j9) (λ hHeld=>?_)
   clear A0 Kc
   try simp only[Act.put,XH,XI,XJ]
   refine AnyL.one (i:=16) (o:={ dst:=some 73,op:=Go.Op.call { callee:=Go.Callee.value (Go.Operand.func 43),args:=#[Go.Operand.tmp 72],argTypes:=#[3] },type:=26,pos := "law.go:71",after:=#[{ on:=15,ground:=Go.Ground.data },{ on:=11,ground:=Go.Ground.chain }],guard:=none }) (by kernel_rfl) rfl (λ Kc A0=>?_)
   go_simp
   refine (zD (((i:Int)+1)*sa) _ (by have:=zA qf;omega) (by have:=zA qf;omega)).mono ?_
   rintro r' g3 ⟨p9,a3,n3,c3,rfl,A8,k8⟩;have y9:=zB j9 k8;replace F7:=F7.bw k8;replace o0:=o0.bw k8;clear k8;go_wp2_with fail;refine A0.out _ _ (zA cB _ y9) (λ hHeld=>?_)
   clear A0 Kc
   try simp only[Act.put,XH,XI,XJ]
   refine AnyL.one (i:=17) (o:={ dst:=some 74,op:=Go.Op.call { callee:=Go.Callee.value (Go.Operand.func 56),args:=#[Go.Operand.tmp 60,Go.Operand.tmp 68,Go.Operand.tmp 73],argTypes:=#[36,26,26] },type:=36,pos := "law.go:71",after:=#[{ on:=3,ground:=Go.Ground.data },{ on:=11,ground:=Go.Ground.data },{ on:=16,ground:=Go.Ground.data },{ on:=16,ground:=Go.Ground.chain }],guard:=none }) (by kernel_rfl) rfl (λ Kc A0=>?_)
   go_simp
   refine (zGG _ v1 ⟨b6,a2,n2,c2⟩ ⟨p9,a3,n3,c3⟩ (170+100+30) 4 4 m (zE (zpT ra sa X B m i) X (Q B)) (((i:Int)+1)*sa-ra) (((i:Int)+1)*sa) F7 o0 A8 (by omega) (by omega) (by omega) (zA qf).2.2.2.2 (zA pR)).mono ?_
   rintro r' g4 ⟨v5,rfl,J5,G5,A7⟩;have C8:=zB y9 A7;have ka:=zC J5;clear J5 A7 F7 o0 A8 pR;go_wp2_with fail;refine A0.out _ _ (zA cB _ C8) (λ hHeld=>?_)
   clear A0 Kc
   try simp only[Act.put,XH,XI,XJ]
   refine AnyL.last (o:={ dst:=none,op:=Go.Op.store 36 (Go.Operand.tmp 10) (Go.Operand.tmp 74),type:=0,pos := "law.go:71",after:=#[{ on:=17,ground:=Go.Ground.data },{ on:=17,ground:=Go.Ground.chain },{ on:=0,ground:=Go.Ground.phase },{ on:=1,ground:=Go.Ground.phase },{ on:=2,ground:=Go.Ground.phase },{ on:=3,ground:=Go.Ground.phase },{ on:=4,ground:=Go.Ground.phase },{ on:=5,ground:=Go.Ground.phase },{ on:=6,ground:=Go.Ground.phase },{ on:=7,ground:=Go.Ground.phase },{ on:=8,ground:=Go.Ground.phase },{ on:=9,ground:=Go.Ground.phase },{ on:=10,ground:=Go.Ground.phase },{ on:=11,ground:=Go.Ground.phase },{ on:=12,ground:=Go.Ground.phase },{ on:=13,ground:=Go.Ground.phase },{ on:=14,ground:=Go.Ground.phase },{ on:=15,ground:=Go.Ground.phase },{ on:=16,ground:=Go.Ground.phase },{ on:=17,ground:=Go.Ground.phase }],guard:=none }) (by kernel_rfl) rfl (by kernel_rfl) (λ Kc A0=>?_)
   have V2:=(zA K9).y.bw C8;have lA:=V2.lt;obtain⟨⟨y0,y1,y2,y3,y4⟩,y5⟩:=V2
   go_simp
   refine A0.out _ _ ?_;clear A0 Kc;have e5:byI (zE (zpT ra sa X B m i) X (Q B)) (((i:Int)+1)*sa-ra) (((i:Int)+1)*sa)=zpT ra sa X B m (i+1):=rfl;rw[e5] at G5;replace G5:=G5.fits (K:=170) (zQK (zA HH) _) (zA P7 _).1 (zA P7 _).2;have eg:=((zA K9).bw C8).put1 (a':=zpT ra sa X B m (i+1)) v5 G5 (zA ka);obtain⟨V5,eC⟩:∃ V,V=zQ g4 BU v5:=⟨_,rfl⟩;rw[<- eC] at eg;unfold zQ at eC;rw[<- eC];clear eC y0 y1 y2 y3 y4 y5 lA cB K9 m8 j7 j9 y9 C8 G5 ka e5 lY;have lY:=eg.y.lt;have lS:=eg.s.lt;have m8:Below V5.heap.size V5 V5.drew:=(Below.refl _ _).drew;have Z5:=zC (show ∀ w',Below V5.heap.size V5 w'->(cK w' CU Sm (cK w' BU v5 (rK0 w' (w.heap.size+1) pa qa))) from λ w' hB=>⟨(eg.s.bw hB).c.c0,(eg.s.bw hB).c.c1,(eg.s.bw hB).c.c2,(eg.s.bw hB).c.c3,(eg.s.bw hB).c.c4,(eg.y.bw hB).c.c0,(eg.y.bw hB).c.c1,(eg.y.bw hB).c.c2,(eg.y.bw hB).c.c3,(eg.y.bw hB).c.c4,(eg.b.a.bw hB).c0,(eg.b.a.bw hB).c1⟩)
   have K9:=zC eg;clear eg;go_wp2_with fail;refine AnyL.start (S:=λ w'=>cK w' CU Sm (cK w' BU v5 (rK0 w' (w.heap.size+1) pa qa))) (l:=15) (by kernel_rfl) (zA Z5 _ m8) (λ hHeld=>?_)
   refine AnyL.take (i:=0) (oi:={ dst:=some 75,op:=Go.Op.load 36 (Go.Operand.tmp 11),type:=36,pos := "law.go:72",after:=#[],guard:=none }) (v:=.agg Sm.q) rfl (by kernel_rfl) (by kernel_rfl) (by kernel_rfl) (by kernel_rfl) (λ _ _ _ h=>h) (Or.inl ⟨by rfl,λ w hSw=>?_⟩) hHeld ?_
   ·obtain⟨s0,s1,s2,s3,s4,s5,s6,s7,s8,s9,oQ,kg⟩:=hSw;go_simp
   try simp only[Act.put,XH,XI,XJ]
   refine AnyL.take (i:=1) (oi:={ dst:=some 76,op:=Go.Op.load 36 (Go.Operand.tmp 10),type:=36,pos := "law.go:72",after:=#[],guard:=none }) (v:=.agg v5.q) rfl (by kernel_rfl) (by kernel_rfl) (by kernel_rfl) (by kernel_rfl) (λ _ _ _ h=>h) (Or.inl ⟨by rfl,λ w hSw=>?_⟩) hHeld ?_
   ·obtain⟨s0,s1,s2,s3,s4,s5,s6,s7,s8,s9,oQ,kg⟩:=hSw;go_simp
   try simp only[Act.put,XH,XI,XJ]
   refine AnyL.take (i:=2) (oi:={ dst:=some 77,op:=Go.Op.fieldAddr 23 (Go.Operand.tmp 5) 1,type:=0,pos := "law.go:72",after:=#[],guard:=none }) (v:=.pointer (some ⟨w.heap.size+1,1,none⟩)) rfl (by kernel_rfl) (by kernel_rfl) (by kernel_rfl) (by kernel_rfl) (λ _ _ _ h=>h) (Or.inl ⟨by rfl,λ w hSw=>?_⟩) hHeld ?_
   ·obtain⟨s0,s1,s2,s3,s4,s5,s6,s7,s8,s9,oQ,kg⟩:=hSw;go_simp
   try simp only[Act.put,XH,XI,XJ]
   refine AnyL.take (i:=3) (oi:={ dst:=some 78,op:=Go.Op.load 3 (Go.Operand.tmp 77),type:=3,pos := "law.go:72",after:=#[{ on:=2,ground:=Go.Ground.data }],guard:=none }) (v:=.int .i64 qa) rfl (by kernel_rfl) (by kernel_rfl) (by kernel_rfl) (by kernel_rfl) (λ _ _ _ h=>h) (Or.inl ⟨by rfl,λ w hSw=>?_⟩) hHeld ?_
   ·obtain⟨s0,s1,s2,s3,s4,s5,s6,s7,s8,s9,oQ,kg⟩:=hSw;go_simp
   try simp only[Act.put,XH,XI,XJ]
   refine AnyL.take (i:=5) (oi:={ dst:=some 80,op:=Go.Op.fieldAddr 23 (Go.Operand.tmp 5) 0,type:=0,pos := "law.go:72",after:=#[],guard:=none }) (v:=.pointer (some ⟨w.heap.size+1,0,none⟩)) rfl (by kernel_rfl) (by kernel_rfl) (by kernel_rfl) (by kernel_rfl) (λ _ _ _ h=>h) (Or.inl ⟨by rfl,λ w hSw=>?_⟩) hHeld ?_
   ·obtain⟨s0,s1,s2,s3,s4,s5,s6,s7,s8,s9,oQ,kg⟩:=hSw;go_simp
   try simp only[Act.put,XH,XI,XJ]
   refine AnyL.take (i:=6) (oi:={ dst:=some 81,op:=Go.Op.load 3 (Go.Operand.tmp 80),type:=3,pos := "law.go:72",after:=#[{ on:=5,ground:=Go.Ground.data }],guard:=none }) (v:=.int .i64 pa) rfl (by kernel_rfl) (by kernel_rfl) (by kernel_rfl) (by kernel_rfl) (λ _ _ _ h=>h) (Or.inl ⟨by rfl,λ w hSw=>?_⟩) hHeld ?_
   ·obtain⟨s0,s1,s2,s3,s4,s5,s6,s7,s8,s9,oQ,kg⟩:=hSw;go_simp
   try simp only[Act.put,XH,XI,XJ]
   refine AnyL.take (i:=7) (oi:={ dst:=some 82,op:=Go.Op.move (Go.Operand.tmp 13),type:=3,pos := "law.go:72",after:=#[],guard:=none }) (v:=.int .i64 ((i:Int)+1)) rfl (by kernel_rfl) (by kernel_rfl) (by kernel_rfl) (by kernel_rfl) (λ _ _ _ h=>h) (Or.inl ⟨by rfl,λ w hSw=>?_⟩) hHeld ?_
   ·obtain⟨s0,s1,s2,s3,s4,s5,s6,s7,s8,s9,oQ,kg⟩:=hSw;go_simp
   try simp only[Act.put,XH,XI,XJ]
   refine AnyL.take (i:=8) (oi:={ dst:=some 83,op:=Go.Op.fieldAddr 23 (Go.Operand.tmp 5) 1,type:=0,pos := "law.go:72",after:=#[],guard:=none }) (v:=.pointer (some ⟨w.heap.size+1,1,none⟩)) rfl (by kernel_rfl) (by kernel_rfl) (by kernel_rfl) (by kernel_rfl) (λ _ _ _ h=>h) (Or.inl ⟨by rfl,λ w hSw=>?_⟩) hHeld ?_
   ·obtain⟨s0,s1,s2,s3,s4,s5,s6,s7,s8,s9,oQ,kg⟩:=hSw;go_simp
   try simp only[Act.put,XH,XI,XJ]
   refine AnyL.take (i:=9) (oi:={ dst:=some 84,op:=Go.Op.load 3 (Go.Operand.tmp 83),type:=3,pos := "law.go:72",after:=#[{ on:=8,ground:=Go.Ground.data }],guard:=none }) (v:=.int .i64 qa) rfl (by kernel_rfl) (by kernel_rfl) (by kernel_rfl) (by kernel_rfl) (λ _ _ _ h=>h) (Or.inl ⟨by rfl,λ w hSw=>?_⟩) hHeld ?_
   ·obtain⟨s0,s1,s2,s3,s4,s5,s6,s7,s8,s9,oQ,kg⟩:=hSw;go_simp
   try simp only[Act.put,XH,XI,XJ]
   refine AnyL.take (i:=10) (oi:={ dst:=some 85,op:=Go.Op.binOp Go.BinOp.mul 3 (Go.Operand.tmp 82) (Go.Operand.tmp 84) 3,type:=3,pos := "law.go:72",after:=#[{ on:=7,ground:=Go.Ground.data },{ on:=9,ground:=Go.Ground.data }],guard:=none }) (v:=.int .i64 (((i:Int)+1)*qa)) rfl (by kernel_rfl) (by kernel_rfl) (by kernel_rfl) (by kernel_rfl) (λ _ _ _ h=>h) (Or.inl ⟨by rfl,λ w hSw=>?_⟩) hHeld ?_
   ·obtain⟨s0,s1,s2,s3,s4,s5,s6,s7,s8,s9,oQ,kg⟩:=hSw;go_simp;rw[zA E8]
   try simp only[Act.put,XH,XI,XJ]
   refine AnyL.take (i:=11) (oi:={ dst:=some 86,op:=Go.Op.binOp Go.BinOp.add 3 (Go.Operand.tmp 81) (Go.Operand.tmp 85) 3,type:=3,pos := "law.go:72",after:=#[{ on:=6,ground:=Go.Ground.data },{ on:=10,ground:=Go.Ground.data }],guard:=none }) (v:=.int .i64 (pa+((i:Int)+1)*qa)) rfl (by kernel_rfl) (by kernel_rfl) (by kernel_rfl) (by kernel_rfl) (λ _ _ _ h=>h) (Or.inl ⟨by rfl,λ w hSw=>?_⟩) hHeld ?_
   ·obtain⟨s0,s1,s2,s3,s4,s5,s6,s7,s8,s9,oQ,kg⟩:=hSw;go_simp;rw[zA E11]
   try simp only[Act.put,XH,XI,XJ]
   refine AnyL.one (i:=4) (o:={ dst:=some 79,op:=Go.Op.call { callee:=Go.Callee.value (Go.Operand.func 43),args:=#[Go.Operand.tmp 78],argTypes:=#[3] },type:=26,pos := "law.go:72",after:=#[{ on:=3,ground:=Go.Ground.data }],guard:=none }) (by kernel_rfl) rfl (λ Kc A0=>?_)
   go_simp
   refine (zD qa _ (by omega) (by omega)).mono ?_
   rintro r' g1 ⟨g9,a1,n1,c1,rfl,k9,b7⟩;have j7:=zB m8 b7;clear b7;go_wp2_with fail;refine A0.out _ _ (zA Z5 _ j7) (λ hHeld=>?_)
   clear A0 Kc
   try simp only[Act.put,XH,XI,XJ]
   refine AnyL.one (i:=12) (o:={ dst:=some 87,op:=Go.Op.call { callee:=Go.Callee.value (Go.Operand.func 43),args:=#[Go.Operand.tmp 86],argTypes:=#[3] },type:=26,pos := "law.go:72",after:=#[{ on:=11,ground:=Go.Ground.data },{ on:=4,ground:=Go.Ground.chain }],guard:=none }) (by kernel_rfl) rfl (λ Kc A0=>?_)
   go_simp
   refine (zD (pa+((i:Int)+1)*qa) _ (by have:=zA qf;omega) (by have:=zA qf;omega)).mono ?_
   rintro r' g2 ⟨b6,a2,n2,c2,rfl,o0,b9⟩;have j9:=zB j7 b9;replace k9:=k9.bw b9;clear b9;go_wp2_with fail;refine A0.out _ _ (zA Z5 _ j9) (λ hHeld=>?_)
   clear A0 Kc
   try simp only[Act.put,XH,XI,XJ]
   refine AnyL.one (i:=13) (o:={ dst:=some 88,op:=Go.Op.call { callee:=Go.Callee.value (Go.Operand.func 56),args:=#[Go.Operand.tmp 76,Go.Operand.tmp 79,Go.Operand.tmp 87],argTypes:=#[36,26,26] },type:=36,pos := "law.go:72",after:=#[{ on:=1,ground:=Go.Ground.data },{ on:=4,ground:=Go.Ground.data },{ on:=12,ground:=Go.Ground.data },{ on:=12,ground:=Go.Ground.chain }],guard:=none }) (by kernel_rfl) rfl (λ Kc A0=>?_)
   go_simp
   refine (zGG _ v5 ⟨g9,a1,n1,c1⟩ ⟨b6,a2,n2,c2⟩ 170 4 4 m (zpT ra sa X B m (i+1)) qa (pa+((i:Int)+1)*qa) ((zA K9).yp.bw j9) k9 o0 (by omega) (by omega) (by omega) (by have:=zA qf;omega) (zA K9).yb).mono ?_
   rintro r' g3 ⟨v6,rfl,S3,M8,G3⟩;have y9:=zB j9 G3;have BG:=zC S3;clear S3 G3 k9 o0;go_wp2_with fail;refine A0.out _ _ (zA Z5 _ y9) (λ hHeld=>?_)
   clear A0 Kc
   try simp only[Act.put,XH,XI,XJ]
   refine AnyL.one (i:=14) (o:={ dst:=some 89,op:=Go.Op.call { callee:=Go.Callee.value (Go.Operand.func 57),args:=#[Go.Operand.tmp 75,Go.Operand.tmp 88],argTypes:=#[36,36] },type:=36,pos := "law.go:72",after:=#[{ on:=0,ground:=Go.Ground.data },{ on:=13,ground:=Go.Ground.data },{ on:=13,ground:=Go.Ground.chain }],guard:=none }) (by kernel_rfl) rfl (λ Kc A0=>?_)
   go_simp
   refine (yY _ Sm v6 183 m (zsT pa qa ra sa X B m i) (byI (zpT ra sa X B m (i+1)) qa (pa+((i:Int)+1)*qa)) (((zA K9).sp.bw y9).mono (by omega)) M8 (by omega) (zA K9).sb).mono ?_
   rintro r' g4 ⟨v7,rfl,H9,M3,I8⟩;have C8:=zB y9 I8;have jz:=zC H9;clear H9 I8 M8;go_wp2_with fail;refine A0.out _ _ (zA Z5 _ C8) (λ hHeld=>?_)
   clear A0 Kc
   try simp only[Act.put,XH,XI,XJ]
   refine AnyL.last (o:={ dst:=none,op:=Go.Op.store 36 (Go.Operand.tmp 11) (Go.Operand.tmp 89),type:=0,pos := "law.go:72",after:=#[{ on:=14,ground:=Go.Ground.data },{ on:=14,ground:=Go.Ground.chain },{ on:=0,ground:=Go.Ground.phase },{ on:=1,ground:=Go.Ground.phase },{ on:=2,ground:=Go.Ground.phase },{ on:=3,ground:=Go.Ground.phase },{ on:=4,ground:=Go.Ground.phase },{ on:=5,ground:=Go.Ground.phase },{ on:=6,ground:=Go.Ground.phase },{ on:=7,ground:=Go.Ground.phase },{ on:=8,ground:=Go.Ground.phase },{ on:=9,ground:=Go.Ground.phase },{ on:=10,ground:=Go.Ground.phase },{ on:=11,ground:=Go.Ground.phase },{ on:=12,ground:=Go.Ground.phase },{ on:=13,ground:=Go.Ground.phase },{ on:=14,ground:=Go.Ground.phase }],guard:=none }) (by kernel_rfl) rfl (by kernel_rfl) (λ Kc A0=>?_)
   have V2:=(zA K9).s.bw C8;have lA:=V2.lt;obtain⟨⟨y0,y1,y2,y3,y4⟩,y5⟩:=V2
   go_simp
   refine A0.out _ _ ?_;clear A0 Kc
   have e6:jJ (zsT pa qa ra sa X B m i) (byI (zpT ra sa X B m (i+1)) qa (pa+((i:Int)+1)*qa))=zsT pa qa ra sa X B m (i+1):=by
    show _=jJ (zsT pa qa ra sa X B m i) (ztT pa qa ra sa X B m (i+1))
    unfold ztT;rw[show ((i+1:Nat):Int)=(i:Int)+1 by omega]
   rw[e6] at M3;replace M3:=M3.fits (K:=170) (zs_le (zA HH) _) (zA K3 _ (by omega)).1 (zA K3 _ (by omega)).2
   have st:=((zA K9).bw C8).put2 (c':=zsT pa qa ra sa X B m (i+1)) v7 M3 (zA jz) (XW _);obtain⟨V7,Cl⟩:∃ V,V=zQ g4 CU v7:=⟨_,rfl⟩;rw[<- Cl] at st;unfold zQ at Cl;rw[<- Cl];clear Cl y0 y1 y2 y3 y4 y5 lA Z5 K9 m8 j7 j9 y9 C8 M3 jz BG e6 lY lS E7 E8 E10 E11 qf;have lY:=st.y.lt
   by_cases hn:(i:Int)+1 > 2*((K:Int)+2)
   ·obtain⟨⟨y0,y1,y2,y3,y4⟩,y5⟩:=st.y
    go_wp2_with fail;clear y0 y1 y2 y3 y4 y5 lY;refine (zDR _ v5 170 1 _ _ st.yp (by omega) (by omega)).mono ?_
    rintro r w8 ⟨rfl,Q7⟩;replace st:=st.bw Q7;clear Q7;rw[zDI];have epr:((zpT ra sa X B m (i+1)).1,(zpT ra sa X B m (i+1)).2)=zpT ra sa X B m (i+1):=rfl;rw[epr];clear epr
    by_cases G4:i+1<N
    ·have GC:¬ zP (zpT ra sa X B m (i+1))<=1:=by have:=(zA HN).2.2 (i+1) (by omega) G4;omega
     rw[decide_eq_false GC];clear GC;go_wp2_with fail
     go_roundw
     case rel=>exact⟨i+1,v5,v7,by go_num,G4,st⟩
     case measure=>simp[intOf];omega
    ·have bg:i+1=N:=by omega
     have GC:zP (zpT ra sa X B m (i+1))<=1:=by rw[bg];exact (zA HN).2.1
     rw[decide_eq_true GC];have MV:=zC bg;clear GC bg;go_wp2_with fail;go_meet;exact⟨v5,v7,by rw[<- zA MV];exact st⟩
   ·have G4:i+1<N:=by have:=(zA HN).1;omega
    obtain⟨⟨y0,y1,y2,y3,y4⟩,y5⟩:=st.y;go_wp2_with fail;clear y0 y1 y2 y3 y4 y5 lY
    go_roundw
    case rel=>exact⟨i+1,v5,v7,by go_num,G4,st⟩
    case measure=>simp[intOf];omega
 case rest =>
 obtain⟨U,Sm,st⟩:=hcut;clear N9 tL;have lS:=st.s.lt;obtain⟨⟨z0,z1,z2,z3,z4⟩,z5⟩:=st.s;go_wp2_with fail;clear z0 z1 z2 z3 z4 z5 lS;refine (zF6 _ Sm 170 4 _ _ st.sp (by omega) (by omega) (by omega) (by omega)).mono ?_
 rintro r w3 ⟨v3,rfl,E6,J3,k8⟩;have sX:v3.bits=(m:Int):=E6.trans st.sb;replace st:=st.bw k8;obtain⟨V3,D3⟩:∃ V,V=zQ w3 CU v3:=⟨_,rfl⟩;have M7:LvSt w V3 x pa qa ra sa X BU CU m 171 U v3 (zpT ra sa X B m N) (jJ (zsT pa qa ra sa X B m N) (-4,4)):=by rw[D3];exact st.put2 (c':=jJ (zsT pa qa ra sa X B m N) (-4,4)) v3 J3 sX (by omega)
 have lS:=st.s.lt;obtain⟨⟨z0,z1,z2,z3,z4⟩,z5⟩:=st.s;clear st J3 E6 sX k8;unfold zQ at D3;go_wp2_with fail;rw[<- D3];clear D3 z0 z1 z2 z3 z4 z5 lS;have Qy:=zC (lv_x (zA HH)).2.2.1;have Qz:=zC (show ∀ a,Iv m a (Ev (λ M=>(pa:Rat)/(qa:Rat)*L ((X:Rat)/(Q B:Rat)) M-(X1 M+X2 M-X3 M)))->Iv m (kJ m a (jJ (zsT pa qa ra sa X B m N) (-4,4))) (bv L ((pa:Rat)/(qa:Rat)) ((ra:Rat)/(sa:Rat)) ((X:Rat)/(Q B:Rat))) from λ a ha=>lv_ref (zA HL) (zA HH) (zA HN) (zA HYY) ha)
 have bI:=zC (show ∀ w',Below V3.heap.size V3 w'->(rK w' (w.heap.size+1) pa qa (rK w' (w.heap.size+1+1) ra sa (nK0 w' w.heap.size x))) from λ w' hB=>⟨(M7.b.a.bw hB).c0,(M7.b.a.bw hB).c1,(M7.b.d.bw hB).c0,(M7.b.d.bw hB).c1,(M7.b.c.bw hB).c0,(M7.b.c.bw hB).c1⟩)
 have QA:=zC M7;have lRR:=M7.b.no.lt;clear M7
 go_cut [14] (λ p wx=>∃ (Bz:Nat) (u:Sp) (a1 a2:Int × Int) (l1:Nat->Rat),p=.pointer (some ⟨Bz,0,none⟩)/\((IsLog l1 (λ _=>(X:Rat)/(Q B:Rat))/\Iv (B+64) a1 l1/\Abs a1 (3*((J:Int)+1)*Q (B+64)))/\Iv (B+64) a2 (λ M=>X1 M+X2 M-X3 M)/\Abs a2 (90000*Q (B+64)))/\V3.heap.size<=Bz/\VrC wx Bz u/\SpAt wx u 70003 (zAF (byI a1 pa qa) a2).1 (zAF (byI a1 pa qa) a2).2/\u.bits=((B+64:Nat):Int)/\Below V3.heap.size V3 wx)
 case first =>
  go_region_held3 (λ w'=>rK w' (w.heap.size+1) pa qa (rK w' (w.heap.size+1+1) ra sa (nK0 w' w.heap.size x))) (exact zA bI _ (by repeat' (first|with_reducible exact cM|with_reducible exact aN|with_reducible exact aO|with_reducible exact Below.refl _ _|with_reducible refine Below.drew ?_|with_reducible refine zL ?_ _|with_reducible refine Below.setCell ?_ (by first|exact XW _|exact fX|exact fY|exact fZ) _)))
   (first
    | (go_at_call 26;have hq:=aN;refine (zFR _ vZ1 vZ2 70002 (B+64) (byI (gX,O9) pa qa) (Cg,bQ) (((aP.bw gi).bw (by with_reducible first|exact Below.refl _ _|exact bl1 _ _)).mono (by omega)) (cO.bw (by with_reducible first|exact Below.refl _ _|exact bl1 _ _)) (by omega) (zA GF)).mono ?_;rintro r zi ⟨JY,rfl,eh,zj,gj⟩;have nT:=zC eh;clear eh;have cQ:Below qg.heap.size qg zi:=(by with_reducible first|exact gj|exact zB (bl1 _ _) gj);have cM:=zB aN cQ;(try with_reducible have qh:=(zM qg 36).bw gj);(try replace ei:=ei.bw cQ);(try replace jr:=jr.bw cQ);have fZ:=cM.size;(try have GH:=ei.lt);(try have eZ1:=Yj GH);(try have QB:=Yi GH);(try obtain⟨zk,zl,zm,zn,zo,QC⟩:=ei);(try have GI:=jr.lt);(try have eZ2:=Yj GI);(try have QD:=Yi GI);(try obtain⟨zq,zv,zw,Aa,Ab,QE⟩:=jr);(try have GJ:=qh.lt);(try have eZ3:=Yj GJ);(try have QF:=Yi GJ);(try obtain⟨Ac,Ad,Ae,Af,Ag,QG⟩:=qh))
    | (go_at_call 20;have hq:=aO;refine (zGE (b:=B+64) _ (by first|exact (jL _ (by omega) (by omega)).trans (by omega)|omega) _ pa qa ra sa X1 X2 X3 jt eI (zA Gb) (zA xV) (zA HL3)).mono ?_;rintro r qg ⟨Cg,bQ,ia2,vZ2,rfl,GK,cO,gm⟩;have jg:=zC ia2;clear GK ia2;have gi:Below ql.heap.size ql qg:=(by with_reducible first|exact gm|exact zB (bl1 _ _) gm);have aN:=zB aO gi;(try with_reducible have jr:=(zM ql 36).bw gm);(try replace ei:=ei.bw gi);have fY:=aN.size)
    | (go_at_call 136;refine (zK7 _ x B J pa qa X ((zA QA).b.xp.bw (by with_reducible first|exact (Below.refl _ _).drew|exact (bl1 _ _).drew)) (by omega) X0 (zA oI) (zA HJ).1 (zA HJ).2 (by omega) p0 eE (by omega) (by omega)).mono ?_;rintro r ql ⟨gX,O9,l1,gl1,ia1,vZ1,rfl,sY,aP,gx⟩;have GF:=zC sY;have ia:=zC (And.intro gl1 ia1);clear sY gl1 ia1;have aO:Below V3.heap.size V3 ql:=(by with_reducible first|exact zB (Below.refl _ _).drew gx|exact zB (bl1 _ _).drew gx);(try with_reducible have ei:=((zM V3 36).bw (Below.refl _ _).drew).bw gx);have fX:=aO.size))
  all_goals
   have hfinZ:SpAt zi JY 70003 (zAF (byI (gX,O9) pa qa) (Cg,bQ)).1 (zAF (byI (gX,O9) pa qa) (Cg,bQ)).2:=zj;go_wp2_with fail;go_meet;refine⟨_,JY,(gX,O9),(Cg,bQ),l1,rfl,⟨zA ia,zA jg⟩,?_,⟨⟨?_,?_,?_,?_,?_⟩,?_⟩,?_,(zA nT),?_⟩
   ·first|exact XW _|exact fX|exact fY|exact fZ
   ·simp[go_sem, *]
   ·simp[go_sem, *]
   ·simp[go_sem, *]
   ·simp[go_sem, *]
   ·simp[go_sem, *]
   ·intro o;simp[go_sem, *]
   ·first|with_reducible exact SpAt.put5 hfinZ Ac Ad Ae Af Ag _ _ _ _ _|with_reducible exact SpAt.put5 hfinZ zq zv zw Aa Ab _ _ _ _ _|with_reducible exact SpAt.put5 hfinZ zk zl zm zn zo _ _ _ _ _|with_reducible exact hfinZ.bw (bl1 _ _)
   ·repeat' (first|with_reducible exact cM|with_reducible exact aN|with_reducible exact aO|with_reducible exact Below.refl _ _|with_reducible refine Below.drew ?_|with_reducible refine zL ?_ _|with_reducible refine Below.setCell ?_ (by first|exact XW _|exact fX|exact fY|exact fZ) _)
 case rest =>
 obtain⟨BZ,xZ,a1,a2,l1,rfl,oO,JZ,XZ,hpZ,hxbZ,hblZ⟩:=hcut;have st:=(zA QA).bw hblZ;have HY4:=zC (And.intro (show Iv (B+64) ((zAF (byI a1 pa qa) a2).1,(zAF (byI a1 pa qa) a2).2) (λ M=>(pa:Rat)/(qa:Rat)*L ((X:Rat)/(Q B:Rat)) M-(X1 M+X2 M-X3 M)) from lo_arg (zA HL) eE (zA Qy) oO.1.1 oO.1.2.1 oO.2.1) (show Abs ((zAF (byI a1 pa qa) a2).1,(zAF (byI a1 pa qa) a2).2) (94000*Q (B+64)) from lv_abs p0 eE (zA HH).pq hJ oO.1.2.1.le oO.1.2.2 oO.2.2))
 have HPZ:=zC hpZ;have HBZ:=zC hxbZ;have GL:=zC (show ∀ w',Below wc.heap.size wc w'->(cK w' BZ xZ (cK0 w' CU v3)) from λ w' hB=>⟨(XZ.bw hB).c.c0,(XZ.bw hB).c.c1,(XZ.bw hB).c.c2,(XZ.bw hB).c.c3,(XZ.bw hB).c.c4,(st.s.bw hB).c.c0,(st.s.bw hB).c.c1,(st.s.bw hB).c.c2,(st.s.bw hB).c.c3,(st.s.bw hB).c.c4⟩)
 have m8:Below wc.heap.size wc wc.drew:=(Below.refl _ _).drew;have R:=st.b.no;have GM:=st.b.be;have lR:=R.lt;have l2:=st.l2;have vz:w.heap.size+1+1+1≠BZ:=by omega
 have rh:w.heap.size+1+1+1≠CU:=by omega
 have lZ:=XZ.lt;have lS:=st.s.lt;have K9:=zC st;clear st oO hpZ hxbZ XZ bI QA hblZ JZ lRR;go_wp2_with fail;obtain⟨x0,x1,x2,x3,x4,y0,y1,y2,y3,y4⟩:=zA GL _ (Below.refl _ _)
 go_region_held3 (λ w'=>cK w' BZ xZ (cK0 w' CU v3)) (first|exact zA GL _ (by with_reducible first|exact m8|exact I5|exact C8|exact y9|exact j9|exact j7)|(dsimp only[cK,cK0,nK,nK0,rK,rK0];go_keep)|go_keep)
  (first
   | (go_at_call 55;have H7:=C8;refine (zO3 _ f4 587523 B l4 u4 D9 (zA F4) (by omega) (by omega) (by omega)).mono ?_;rintro r' g5 ⟨f5,rfl,J5,O0,QH⟩;have F5:=zC J5;clear J5;have I5:=zB C8 QH;obtain⟨q0,q1,q2,q3,q4,q5⟩:=R.bw I5)
   | (go_at_call 90;have H7:=y9;refine (zGY _ _ f3 525018 m B _ _ _ rfl A8 (zA F3) (by omega) (by omega) (by omega) (show Iv m ((kJ m (QI,u2) (jJ (zsT pa qa ra sa X B m N) (-4,4))).1,(kJ m (QI,u2) (jJ (zsT pa qa ra sa X B m N) (-4,4))).2) _ from zA Qz _ (zA bO))).mono ?_;rintro r' g4 ⟨l4,u4,i4,f4,rfl,S6,D9,GN⟩;have F4:=zC S6;have jd:=zC i4;clear S6 i4;have C8:=zB y9 GN)
   | (go_at_call 52;have H7:=j9;refine (yV _ f2 v3 262505 m (QI,u2) (jJ (zsT pa qa ra sa X B m N) (-4,4)) o0 (((zA K9).sp.bw j9).mono (by omega)) (by omega) (zA F2) (by omega)).mono ?_;rintro r' g3 ⟨f3,rfl,E6,A8,qT⟩;have F3:=zC E6;clear E6;have y9:=zB j9 qT)
   | (go_at_call 90;have H7:=j7;refine (zGY _ _ f1 200000 (B+64+i1) m l1' u1 _ rfl k9 (zA F1) (by omega) (by omega) (by omega) (zA aW)).mono ?_;rintro r' g2 ⟨QI,u2,i2,f2,rfl,G7,o0,GO⟩;have F2:=zC G7;have bO:=zC i2;clear G7 i2;have j9:=zB j7 GO)
   | (go_at_call 137;refine (zNL _ xZ 70003 (B+64) _ _ _ ((zA HPZ).bw m8) (zA HBZ) (by omega) (by omega) (by omega) (zA HY4).1 (zA HY4).2).mono ?_;rintro r' g1 ⟨i1,l1',u1,O9,ii1,f1,rfl,D6,k9,qH⟩;have F1:=zC D6;have aW:=zC ii1;clear D6 ii1;have j7:=zB m8 qH))
 all_goals
  have dX:=zC (lv_end (zA HL) (zA HH) (zA jd));go_wp2_with fail;refine bodyPost_ret (v:=.agg f5.q) (by simp[results,Tryz.results148,go_sem,q0,q1,q2,q3,q4]) rfl ⟨_,_,zA dX,f5,rfl,zA F5,?_,?_⟩
  ·exact SpAt.put5 (O0.mono (by omega)) q0 q1 q2 q3 q4 _ _ _ _ _
  ·exact kB (zB GM I5) (by omega) _ _ _ _ _
end Go.Proofs.YtgmnknmjainababGreat
