/-
  Its own texts.
-/
import Derived.Test.YtgmnknmjainabacGreatK21
set_option maxRecDepth 100000
set_option maxHeartbeats 40000000
set_option linter.unnecessarySimpa false
set_option linter.unusedSimpArgs false
set_option linter.unusedVariables false
namespace Go.Proofs.YtgmnknmjainabacGreat
open Go.RowKit
attribute [local go_sem ↓] Go.wp_at_zero Go.wp_at_succ
open Ex
def lwX (L:Rat->Nat->Rat) (p q n d:Int) (g:Nat->Rat):Nat->Rat:=if n=0 then λ _=>0 else lw L ((p:Rat)/(q:Rat)) ((n:Rat)/(d:Rat)) g
structure LwAr (p q n d:Int) (B:Nat):Prop where
 p0:0<p
 q0:0<q
 pq:p<=100*q
 qq:q<=1048576
 n0:0<=n
 d0:0<d
 nn:n<=1099511627776
 dd:d<=1048576
 b0:40<=B
 b1:B<=400
theorem zGK {x:Nat->Rat} {B:Nat} {l u:Int} (h:LwPr x B l u) (hB:B<=400):l<=u /\ -P 30<l/\u<P 30:=by
 have h1:=zJ (show B+1<=16*30 by omega)
 rw[Q_P] at h1;have h2:Q (B+1)=2*Q B:=rfl;have:=zE B;have:=h.lo;have:=h.hi;exact⟨h.le,by omega,by omega⟩
theorem lu_exp {L:Rat->Nat->Rat} {p q n d:Int} {B NS:Nat} {o:Int × Int} {lg ug:Int} {X g:Nat->Rat} (h:zMT p q n d B) (ho:zCL L ((n:Rat)/(d:Rat)) B o) (hg:zP8 X B lg ug) (hL:Lns L) (ig:IsGam L ((p:Rat)/(q:Rat)) g) (hX:IsLog X (λ M=>(p:Rat)/(q:Rat)*g M)) (hS:NS<=70000) (lI:yS (luT p q n d B) (luN n d) NS) :
  ∃ (l:Int) (t NE:Nat),zB1 (zW (luY p q n d B o (lg,ug))) l/\(t:Int)=max 0 (l-B+8)/\t<=26/\Abs (zG (luY p q n d B o (lg,ug)) t) (Q (B-8))/\zT (zU B (zG (luY p q n d B o (lg,ug)) t)) NE/\Q (B+eb t)<P 49300/\(luY p q n d B o (lg,ug)).1<=(luY p q n d B o (lg,ug)).2 /\
   (0<(luE p q n d B o (lg,ug) t NE).1/\(luE p q n d B o (lg,ug) t NE).1<=(luE p q n d B o (lg,ug) t NE).2/\0<=(zAY p q n d B NS).1/\(zAY p q n d B NS).1<=(zAY p q n d B NS).2/\LwPr (lw L ((p:Rat)/(q:Rat)) ((n:Rat)/(d:Rat)) g) B (zDW (zAY p q n d B NS).1 (zAY p q n d B NS).2 (luE p q n d B o (lg,ug) t NE).1 (luE p q n d B o (lg,ug) t NE).2 B) (zPM (zAY p q n d B NS) (luE p q n d B o (lg,ug) t NE) B)):=by
 obtain⟨y1,y2,y3,y4⟩:=luY_ok h ho hg;have b0:=h.b0;have b1:=h.b1;have qB:=zE B
 have r:zW (luY p q n d B o (lg,ug))<Q (B+18):=by
  have a:=zAF y3;have e:Q (B+18)=Q B*Q 18:=jF B 18;have WI:Q 18=262144:=rfl;rw[WI] at e;omega
 obtain⟨l,t,NE,e1,e2,e3,e4,e5⟩:=zD1 (B:=B) (e:=18) (by omega) y1 r
 refine⟨l,t,NE,e1,e2,by omega,e4,e5,?_,y1,lw_ok hL h ig hX ho hg (by omega) e4 e5 hS lI⟩
 rw[<- Q_P];have ebm:=zB2 (show t<=26 by omega)
 have Iz:eb 26=786432:=by decide
 rw[Iz] at ebm;have h1:=zJ (show B+eb t+1<=16*49300 by omega)
 have h2:∀ j,Q (j+1)=2*Q j:=λ _=>rfl
 rw[h2] at h1;have:=zE (B+eb t);generalize Q (B+eb t)=y at *;generalize Q (16*49300)=z at *;omega
theorem bl5 (w:World) (o1 o2 o3 o4 o5:Obj):Below w.heap.size w (((((w.alloc o1).alloc o2).alloc o3).alloc o4).alloc o5):=(bl4 w o1 o2 o3 o4).alloc (by simp;omega) _
theorem zE4 (L:Rat->Nat->Rat) (hL:Lns L) (w:World) (x y:Nm) (b:Nat) (n d:Int) (hx:IntAt w x.neg x.a x.n x.cap 4 n) (hy:IntAt w y.neg y.a y.n y.cap 4 d) (hn:0<n) (hd:0<d) (F9:40<=b) (hb:b<=400) :
  Calls Tryz.prog 125 #[.agg x.q,.agg y.q,.int .i64 b] w (λ r w'=>∃ lo hi,zCL L ((n:Rat)/(d:Rat)) b (lo,hi)/\zH w b 520 lo hi r w'):=by
 refine (zBJ w x y 4 b 500 n d hx hy (by omega) hn hd (by omega) (by omega) ?_ (by omega)).mono ?_
 ·rw[<- Q_P]
  have h1:=zJ (show b+4+1<=16*500 by omega)
  have h2:Q (b+4+1)=2*Q (b+4):=rfl;have:=zE (b+4);omega
 ·rintro r w' ⟨n',d',cc,N1,N2,M3,E5,E9,T8,X6,h⟩
  exact⟨_,_,zNT hL hn hd (by omega) M3 (by omega) (by omega) T8 X6,h⟩
def bvX (L:Rat->Nat->Rat) (p q r s n d:Int):Nat->Rat:=if n=0 then λ _=>0 else if n=d then λ _=>1 else bv L ((p:Rat)/(q:Rat)) ((r:Rat)/(s:Rat)) ((n:Rat)/(d:Rat))
theorem zTS (L:Rat->Nat->Rat) (hL:Lns L) (w:World) (x y:Nm) (p q r s n d:Int) (b:Nat) (X1 X2 X3:Nat->Rat) (hx:IntAt w x.neg x.a x.n x.cap 4 n) (hy:IntAt w y.neg y.a y.n y.cap 4 d) (h:zLB p q r s n d b) (hX:IsLog (λ M=>X1 M+X2 M-X3 M) (bJ L ((p:Rat)/(q:Rat)) ((r:Rat)/(s:Rat)))) (L1:zLE p q b X1) (L2:zLE r s b X2) (L3:zLE (p*s+r*q) (q*s) b X3) :
  Calls Tryz.prog 160 #[.agg x.q,.agg y.q,.agg #[.int .i64 p,.int .i64 q],.agg #[.int .i64 r,.int .i64 s],.int .i64 b] w (λ z w'=>∃ lo hi,LwPr (bv L ((p:Rat)/(q:Rat)) ((r:Rat)/(s:Rat)) ((n:Rat)/(d:Rat))) b lo hi/\zH w b 30 lo hi z w'):=by
 obtain⟨W,hW⟩:∃ W,W=((((w.alloc (.cells x.q 29)).alloc (.cells y.q 29)).alloc (.cells #[.int .i64 p,.int .i64 q] 23)).alloc (.cells #[.int .i64 r,.int .i64 s] 23)).alloc (.cells zCq 31):=⟨_,rfl⟩;have j6:Below w.heap.size w W:=by rw[hW];exact bl5 _ _ _ _ _ _
 have X0:NmC W (w.heap.size) x:=by rw[hW];constructor<;>simp[go_sem]
 have Y0:NmC W (w.heap.size+1) y:=by rw[hW];constructor<;>simp[go_sem]
 have A:RaC W (w.heap.size+1+1) p q:=by rw[hW];constructor<;>simp[go_sem]
 have D:RaC W (w.heap.size+1+1+1) r s:=by rw[hW];constructor<;>simp[go_sem]
 have R:NoC W (w.heap.size+1+1+1+1):=by rw[hW];constructor<;>simp[go_sem]
 have HX:=zC (hx.bw j6);have HY:=zC (hy.bw j6);have jo:=X0.c0;have jq:=X0.c1;have Ca:=Y0.c0;have Cd:=Y0.c1;clear hx hy;have FW:=h.p0;have fT:=h.q0;have Ay:=h.r0;have SX:=h.s0;have Lk:=h.n0;have nd:=h.nd;have dd:=h.dd;have b0:=h.b0;have b1:=h.b1;have qq:=h.qq;have ss:=h.ss;have pb:p<=204800:=by have:=h.pq;omega
 have rb:r<=204800:=by have:=h.rs;omega
 have pR:=zC (show -P 4<d-n/\d-n<P 4 by
  have:P 4=18446744073709551616:=rfl
  exact⟨by omega,by omega⟩)
 obtain⟨c,hc,E9⟩:∃ c:Int,zM n (d-n)=c/\c<=0:=⟨_,rfl,by unfold zM;split<;>(try split)<;>omega⟩
 have HC:=zC hc;have ox:=zC (show zM n 0=1 by unfold zM;rw[if_neg (by omega),if_pos (by omega)])
 have H:=zC h;have HL:=zC hL;have VD:=zC hX;have TV:=zC L1;have TW:=zC L2;have TX:=zC L3;obtain⟨NS,nX,Z1⟩:=pu_set h
 have PK:Q 1621<P 103:=by
  rw[<- Q_P];have h1:=zJ (show 1621+1<=16*103 by omega)
  have g2:∀ j,Q (j+1)=2*Q j:=λ _=>rfl
  rw[g2] at h1;have:=zE 1621;generalize Q 1621=z at *;omega
 have pT:=zC (show -P 103<Q b/\Q b<P 103 by
  have:=zE b;have:=zJ (show b<=1621 by omega)
  have:=yF 103
  exact⟨by omega,by omega⟩)
 have gx:=zC (show ∀ j,j<=NS -> -P 103<(puT p q r s n d b j).1/\(puT p q r s n d b j).2<P 103 from λ j _=>by
  have e:0<=(puT p q r s n d b j).1:=(zAB (zIZ h) j).1;have u:=pu_hi h j;have:=yF 103
  exact⟨by omega,by omega⟩)
 have gz:=zC (show ∀ j,j<=NS -> -P 103<(jE (puT p q r s n d b) j).1/\(jE (puT p q r s n d b) j).2<P 103 from λ j hj=>by
  have u:=pu_fit h j (by omega)
  have l:Q b<=(jE (puT p q r s n d b) j).1:=(zFW (zIZ h) j).2.2;have:=zE b;have:=yF 103
  exact⟨by omega,by omega⟩)
 have gy:=zC (λ j=>show (puT p q r s n d b j).1<=(puT p q r s n d b j).2 from (zAB (zIZ h) j).2)
 have Y2:=zC (λ j=>show 0<=(puT p q r s n d b j).1 from (zAB (zIZ h) j).1)
 have HM:=zC Z1;have hTN:=(pu_n h).2;have PV:=(pu_n h).1;have T7:=zC (show IntKind.i64.wrap (2*r)=2*r from jH _ (by omega) (by omega))
 have tdv:(2*r).tdiv s=(puN r s:Int):=by rw[PV];exact Int.tdiv_eq_ediv_of_nonneg (by omega)
 have ag:=zC (show (2*r).tdiv s=(puN r s:Int) from tdv)
 have dK:=zC (show IntKind.i64.wrap (puN r s:Int)=(puN r s:Int) from jH _ (by omega) (by omega))
 have gm:=zC (show ∀ j:Nat,j<NS->(0<=((j:Int)+1-1)*(q*s)/\((j:Int)+1-1)*(q*s)<=1152921504606846976)/\(0<=(p*s+r*q)/\(p*s+r*q)<=1152921504606846976)/\(0<=((j:Int)+1)*q/\((j:Int)+1)*q<=1152921504606846976)/\0<(p+((j:Int)+1)*q)*s/\(p+((j:Int)+1)*q)*s<=1152921504606846976 from λ j hj=>by
  have m1:=zEZ qq ss (by omega) (by omega)
  have m2:=zEZ pb ss (by omega) (by omega)
  have m3:=zEZ rb qq (by omega) (by omega)
  have k1:=Yz (show 0<=q by omega) (show 0<=s by omega)
  have k2:=Yz (show 0<=p by omega) (show 0<=s by omega)
  have k3:=Yz (show 0<=r by omega) (show 0<=q by omega)
  have m4:=zEZ (show (j:Int)+1-1<=5100 by omega) (show (q*s)<=4194304 by omega) k1 (by omega)
  have k4:=Yz (show 0<=(j:Int)+1-1 by omega) k1
  have m5:=zEZ (show (j:Int)+1<=5101 by omega) qq (by omega) (by omega)
  have k5:=Yz (show 0<=(j:Int)+1 by omega) (show 0<=q by omega)
  have m6:=zEZ (show p+((j:Int)+1)*q<=20000000 by omega) ss (by omega) (by omega)
  exact⟨⟨k4,by omega⟩,⟨by omega,by omega⟩,⟨k5,by omega⟩,Int.mul_pos (by omega) SX,by omega⟩)
 clear h hL hX L1 L2 L3 Z1 PK hc tdv PV
 go_enter Tryz.func160,Tryz.ntmps160
 go_upto_region 1 with fail
 rw[<- hW];clear hW;go_wp2_with fail;clear jo jq Ca Cd;refine (zBP _ _ _ _ _ _ _ _ 4 4 d n _ (zA HY) (zA HX) (by omega) (by omega)).mono ?_
 rintro z0 w0 ⟨negL,aL,nL,cL,rfl,qE,F9⟩;obtain⟨VL,gB⟩:∃ V,V=w0.alloc (.cells #[.bool negL,.slice aL nL cL] 29):=⟨_,rfl⟩;have bVL:Below w0.heap.size w0 VL:=by rw[gB];exact bl1 _ _
 have L0:NmC VL w0.heap.size (⟨negL,aL,nL,cL⟩:Nm):=by rw[gB];constructor<;>simp[go_sem]
 have X9:=zC ((qE.fits (K:=4) (zA pR).1 (zA pR).2).bw bVL);have hbL:=zB F9 bVL;have kL:w.heap.size+1+1+1+1<w0.heap.size:=YB R.lt F9.size;replace A:=A.bw hbL;replace D:=D.bw hbL;replace X0:=X0.bw hbL;replace Y0:=Y0.bw hbL;replace R:=R.bw hbL;replace HX:=zC ((zA HX).bw hbL);replace HY:=zC ((zA HY).bw hbL);replace j6:=zB j6 hbL;clear hbL F9 bVL qE;obtain⟨bD,bG⟩:=X0;obtain⟨jr,js⟩:=L0;have lX:=NmC.lt ⟨bD,bG⟩;have lL:=NmC.lt ⟨jr,js⟩
 go_upto_region 2 with fail
 rw[<- gB];clear gB;go_wp2_with fail;have X0:NmC VL (w.heap.size) x:=⟨bD,bG⟩;have L0:NmC VL w0.heap.size (⟨negL,aL,nL,cL⟩:Nm):=⟨jr,js⟩;clear bD bG jr js lX lL;refine (jP _ _ _ _ _ _ _ _ 4 4 n (d-n) _ (zA HX) (zA X9)).mono ?_;rintro z1 w1 ⟨rfl,b9⟩;rw[zA HC];replace A:=A.bw b9;replace D:=D.bw b9;replace X0:=X0.bw b9;replace Y0:=Y0.bw b9;replace R:=R.bw b9;replace L0:=L0.bw b9;replace HX:=zC ((zA HX).bw b9);replace HY:=zC ((zA HY).bw b9);replace X9:=zC ((zA X9).bw b9);replace j6:=zB j6 b9;clear b9;obtain⟨bD,bG⟩:=X0;have lX:=NmC.lt ⟨bD,bG⟩;go_wp2_with fail;have X0:NmC w1 (w.heap.size) x:=⟨bD,bG⟩;clear bD bG lX;refine (zBG _ _ _ _ _ n _ (zA HX)).mono ?_;rintro z2 w2 ⟨rfl,j8⟩;rw[zA ox];replace A:=A.bw j8;replace D:=D.bw j8;replace X0:=X0.bw j8;replace Y0:=Y0.bw j8;replace R:=R.bw j8;replace L0:=L0.bw j8;replace HX:=zC ((zA HX).bw j8);replace HY:=zC ((zA HY).bw j8)
 replace X9:=zC ((zA X9).bw j8);replace j6:=zB j6 j8;clear j8;have aa:=A.c0;have ab:=A.c1;have da:=D.c0;have db:=D.c1;have lA:=A.lt;have lD:=D.lt;go_wp2_with fail;clear aa ab da db lA lD;refine (zKW _ p q r s ⟨by omega,by omega,by omega,by omega⟩ ⟨by omega,by omega,by omega,by omega⟩).mono ?_
 rintro z3 w3 ⟨rfl,m8⟩;obtain⟨VE,Fw⟩:∃ V,V=w3.alloc (.cells #[.int .i64 (p*s+r*q),.int .i64 (q*s)] 23):=⟨_,rfl⟩;have bVE:Below w3.heap.size w3 VE:=by rw[Fw];exact bl1 _ _
 have E0:RaC VE w3.heap.size (p*s+r*q) (q*s):=by rw[Fw];exact zMB w3 _ _ _
 have hbE:=zB m8 bVE;have kE:w.heap.size+1+1+1+1<w3.heap.size:=YB R.lt m8.size;replace A:=A.bw hbE;replace D:=D.bw hbE;replace X0:=X0.bw hbE;replace Y0:=Y0.bw hbE;replace R:=R.bw hbE;replace L0:=L0.bw hbE;replace HX:=zC ((zA HX).bw hbE);replace HY:=zC ((zA HY).bw hbE);replace X9:=zC ((zA X9).bw hbE);replace j6:=zB j6 hbE;clear hbE m8 bVE;have lA:=A.lt;have lD:=D.lt;have Av:=X0.lt;have Aw:=Y0.lt;have lR:=R.lt;have At:=L0.lt;have Ar:=E0.lt;have iG:=zC (show ∀ w',Below VE.heap.size VE w'->(rK w' (w.heap.size+1+1) p q (rK w' (w.heap.size+1+1+1) r s (nK w' w.heap.size x (nK w' (w.heap.size+1) y (nK w' w0.heap.size (⟨negL,aL,nL,cL⟩:Nm) (w'.cell? ⟨w3.heap.size,0,none⟩=some (.int .i64 (p*s+r*q))/\w'.cell? ⟨w3.heap.size,1,none⟩=some (.int .i64 (q*s)))))))) from λ w' hB=>⟨(A.bw hB).c0,(A.bw hB).c1,(D.bw hB).c0,(D.bw hB).c1,(X0.bw hB).c0,(X0.bw hB).c1,(Y0.bw hB).c0,(Y0.bw hB).c1,(L0.bw hB).c0,(L0.bw hB).c1,(E0.bw hB).c0,(E0.bw hB).c1⟩)
 have dL:=zC (show ∀ W',Below VE.heap.size VE W'->∀ (j:Nat) (u:Sp) w',j<NS->u.bits=(b:Int)->SpAt w' u 103 (puT p q r s n d b j).1 (puT p q r s n d b j).2->Below W'.heap.size W' w'->Calls Tryz.prog 187 #[.agg u.q,.int .i64 ((j:Int)+1),.pointer (some ⟨w3.heap.size,0,none⟩),.pointer (some ⟨w.heap.size+1+1,0,none⟩),.pointer (some ⟨w.heap.size+1+1+1,0,none⟩),.pointer (some ⟨w.heap.size,0,none⟩),.pointer (some ⟨w.heap.size+1,0,none⟩)] w' (zH w' b 121 (puT p q r s n d b (j+1)).1 (puT p q r s n d b (j+1)).2) from λ W' Cy j u w' hj B8 B7 R9=>by
  have Z9:=zB Cy R9;obtain⟨⟨s1,s2⟩,⟨s3,s4⟩,⟨s5,s6⟩,s7,s8⟩:=zA gm j hj;have e:=pt1_iv w' (w3.heap.size) (w.heap.size+1+1) (w.heap.size+1+1+1) (w.heap.size) (w.heap.size+1) u x y 103 b ((j:Int)+1) (puT p q r s n d b j) (p*s+r*q) (q*s) p q r s n d B7 ((zA HX).bw Z9) ((zA HY).bw Z9) (E0.bw Z9) (A.bw Z9) (D.bw Z9) (X0.bw Z9) (Y0.bw Z9) (by omega) B8 (by omega) (by omega) s1 s2 s3 s4 s5 s6 FW (by omega) s7 s8 (by omega)
  have e1:((j:Int)+1-1)=(j:Int):=by omega
  have ec:((j+1:Nat):Int)=(j:Int)+1:=by omega
  have e2:puT p q r s n d b (j+1)=zK (puT p q r s n d b j) (puU p q r s n (j+1)) (puD p q s d (j+1)):=rfl;rw[e1] at e;rw[e2,pu_k];unfold puD;rw[ec]
  exact e)
 have hs1:¬ s=0:=by omega
 have X7:¬ s = -1:=by omega
 go_wp2_with fail;rw[<- Fw];clear Fw
 go_cut [13] (λ pz wx=>∃ (B:Nat) (u:Sp),pz=.pointer (some ⟨B,0,none⟩)/\VE.heap.size<=B/\VrC wx B u/\SpAt wx u 106 ((zA9 p q r s n d b NS)).1 ((zA9 p q r s n d b NS)).2/\u.bits=(b:Int)/\Below VE.heap.size VE wx)
 case first =>
  go_region_held3 (λ w'=>rK w' (w.heap.size+1+1) p q (rK w' (w.heap.size+1+1+1) r s (nK w' w.heap.size x (nK w' (w.heap.size+1) y (nK w' w0.heap.size (⟨negL,aL,nL,cL⟩:Nm) (w'.cell? ⟨w3.heap.size,0,none⟩=some (.int .i64 (p*s+r*q))/\w'.cell? ⟨w3.heap.size,1,none⟩=some (.int .i64 (q*s)))))))) (exact zA iG _ (by repeat' (first|with_reducible exact K9|with_reducible exact I5|with_reducible exact Below.refl _ _|with_reducible refine Below.drew ?_|with_reducible refine zL ?_ _|with_reducible refine Below.setCell ?_ (by first|exact Yy _|exact S4|exact S5) _)))
   (first
    | (go_at_call 182;(try rw[zA T7]);(try rw[zA ag]);(try rw[zA dK]);have hq:=I5;refine (zEL _ #[.pointer (some ⟨w3.heap.size,0,none⟩),.pointer (some ⟨w.heap.size+1+1,0,none⟩),.pointer (some ⟨w.heap.size+1+1+1,0,none⟩),.pointer (some ⟨w.heap.size,0,none⟩),.pointer (some ⟨w.heap.size+1,0,none⟩)] en_pt (puT p q r s n d b) (puN r s) NS b 103 121 LD _ ((zA nH).bw (by with_reducible first|exact Below.refl _ _|exact bl1 _ _)) (zA jg) (by omega) (by omega) (by omega) (by omega) (zA HM) (by omega) (by omega) (zA gy) (zA Y2) (zA gx) (zA gz) (zA dL _ (by with_reducible first|exact I5|exact zL I5 _))).mono ?_;rintro r fV ⟨Eh,rfl,dH,W6,Q9⟩;have ji:=zC dH;clear dH;have W5:Below cr.heap.size cr fV:=(by with_reducible first|exact Q9|exact zB (bl1 _ _) Q9);have K9:=zB I5 W5;(try with_reducible have cS:=(zQ cr 31).bw Q9);(try replace Y8:=Y8.bw W5);have S5:=K9.size;(try have pA:=Y8.lt);(try have PW:=YD pA);(try have BN:=YC pA);(try obtain⟨fX,fY,nb,nc,ng,Em⟩:=Y8);(try have pC:=cS.lt);(try have PX:=YD pC);(try have BQ:=YC pC);(try obtain⟨fZ,gf,ni,nj,nt,En⟩:=cS))
    | (go_at_call 93;refine (zDE _ b (by omega)).mono ?_;rintro r' cr ⟨LD,rfl,dG,K3,Q8⟩;rw[show 1*Q b/1=Q b by rw[Int.ediv_one,Int.one_mul],show -(-(1*Q b)/1)=Q b by rw[Int.ediv_one,Int.one_mul,Int.neg_neg]] at K3;have jg:=zC dG;have nH:=zC (K3.fits (K:=103) (Int.le_refl _) (zA pT).1 (zA pT).2);clear dG K3;have I5:Below VE.heap.size VE cr:=(by with_reducible first|exact zB (Below.refl _ _).drew Q8|exact zB (bl1 _ _).drew Q8);(try with_reducible have Y8:=((zQ VE 31).bw (Below.refl _ _).drew).bw Q8);have S4:=I5.size))
  all_goals
   have hfinS:SpAt fV Eh 106 ((zA9 p q r s n d b NS)).1 ((zA9 p q r s n d b NS)).2:=W6;go_wp2_with fail;go_meet;refine⟨_,Eh,rfl,?_,⟨⟨?_,?_,?_,?_,?_⟩,?_⟩,?_,zA ji,?_⟩
   ·first|exact Yy _|exact S4|exact S5
   ·simp[go_sem, *]
   ·simp[go_sem, *]
   ·simp[go_sem, *]
   ·simp[go_sem, *]
   ·simp[go_sem, *]
   ·intro o;simp[go_sem, *]
   ·first|with_reducible exact SpAt.put5 hfinS fZ gf ni nj nt _ _ _ _ _|with_reducible exact SpAt.put5 hfinS fX fY nb nc ng _ _ _ _ _|with_reducible exact hfinS.bw (bl1 _ _)
   ·repeat' (first|with_reducible exact K9|with_reducible exact I5|with_reducible exact Below.refl _ _|with_reducible refine Below.drew ?_|with_reducible refine zL ?_ _|with_reducible refine Below.setCell ?_ (by first|exact Yy _|exact S4|exact S5) _)
 case rest =>
 obtain⟨BS,xS,rfl,zm,XS,hpS,hxbS,hblS⟩:=hcut;obtain⟨V7,Jx⟩:∃ V,V=wc:=⟨_,rfl⟩;subst Jx;have kS:=YB lR zm;replace A:=A.bw hblS;replace D:=D.bw hblS;replace X0:=X0.bw hblS;replace Y0:=Y0.bw hblS;replace R:=R.bw hblS;replace L0:=L0.bw hblS;replace E0:=E0.bw hblS;replace HX:=zC ((zA HX).bw hblS);replace HY:=zC ((zA HY).bw hblS);replace X9:=zC ((zA X9).bw hblS);replace j6:=zB j6 hblS;have ja:=zC hpS;have gV:=zC hxbS;have XSC:=XS.c;clear hpS hxbS XS iG dL gy Y2 gx gz T7 ag dK gm hs1 X7 lA lD Av Aw lR At Ar zm;have lA:=A.lt;have lD:=D.lt;have Av:=X0.lt;have Aw:=Y0.lt;have lR:=R.lt;have At:=L0.lt;have Ar:=E0.lt;have lS:=XSC.lt;have gi:=zC (show ∀ w',Below V7.heap.size V7 w'->(rK w' (w.heap.size+1+1) p q (rK w' (w.heap.size+1+1+1) r s (nK w' w.heap.size x (nK w' (w.heap.size+1) y (nK w' w0.heap.size (⟨negL,aL,nL,cL⟩:Nm) (w'.cell? ⟨w3.heap.size,0,none⟩=some (.int .i64 (p*s+r*q))/\w'.cell? ⟨w3.heap.size,1,none⟩=some (.int .i64 (q*s))/\cK0 w' BS xS)))))) from λ w' hB=>⟨(A.bw hB).c0,(A.bw hB).c1,(D.bw hB).c0,(D.bw hB).c1,(X0.bw hB).c0,(X0.bw hB).c1,(Y0.bw hB).c0,(Y0.bw hB).c1,(L0.bw hB).c0,(L0.bw hB).c1,(E0.bw hB).c0,(E0.bw hB).c1,(XSC.bw hB).c0,(XSC.bw hB).c1,(XSC.bw hB).c2,(XSC.bw hB).c3,(XSC.bw hB).c4⟩)
 go_wp2_with fail
 go_cut [14] (λ pz wx=>∃ (B:Nat) (u:Sp) (o1 o2 o3 o4:Int),pz=.pointer (some ⟨B,0,none⟩)/\zCL L ((d:Rat)/(n:Rat)) b (o1,o2)/\zCL L ((d:Rat)/((d-n:Int):Rat)) b (o3,o4)/\V7.heap.size<=B/\VrC wx B u/\SpAt wx u 535 (zAR (zK (o1,o2) p q) (zK (o3,o4) r s)).1 (zAR (zK (o1,o2) p q) (zK (o3,o4) r s)).2/\u.bits=(b:Int)/\Below V7.heap.size V7 wx)
 case first =>
  go_region_held3 (λ w'=>rK w' (w.heap.size+1+1) p q (rK w' (w.heap.size+1+1+1) r s (nK w' w.heap.size x (nK w' (w.heap.size+1) y (nK w' w0.heap.size (⟨negL,aL,nL,cL⟩:Nm) (w'.cell? ⟨w3.heap.size,0,none⟩=some (.int .i64 (p*s+r*q))/\w'.cell? ⟨w3.heap.size,1,none⟩=some (.int .i64 (q*s))/\cK0 w' BS xS)))))) (exact zA gi _ (by repeat' (first|with_reducible exact sT|with_reducible exact bL|with_reducible exact aj|with_reducible exact Q0|with_reducible exact P9|with_reducible exact Below.refl _ _|with_reducible refine Below.drew ?_|with_reducible refine zL ?_ _|with_reducible refine Below.setCell ?_ (by first|exact Yy _|exact fC|exact fD|exact fE|exact fG|exact wo) _)))
   (first
    | (go_at_call 51;have hq:=bL;refine (zC2 _ LB FZ 534 b (zK (o1,o2) p q) (zK (o3,o4) r s) ((cl.bw (by with_reducible first|exact Below.refl _ _|exact bl1 _ _)).mono (by omega)) ((mf.bw (by with_reducible first|exact Below.refl _ _|exact bl1 _ _)).mono (by omega)) (by omega) (zA jf)).mono ?_;rintro r Ts ⟨Te,rfl,rm,JJ,vd⟩;have Bh:=zC rm;clear rm;have eh:Below xd.heap.size xd Ts:=(by with_reducible first|exact vd|exact zB (bl1 _ _) vd);have sT:=zB bL eh;(try with_reducible have Qo:=(zQ xd 31).bw vd);(try replace bI:=bI.bw eh);replace cl:=cl.bw eh;(try replace dQ:=dQ.bw eh);(try replace jt:=jt.bw eh);replace mf:=mf.bw eh;(try replace sL:=sL.bw eh);have wo:=sT.size;(try have DF:=bI.lt);(try have Xd:=YD DF);(try have Il:=YC DF);(try obtain⟨xi,xj,xk,xl,xm,MZ⟩:=bI);(try have DG:=dQ.lt);(try have Fe:=YD DG);(try have Im:=YC DG);(try obtain⟨xn,xo,xq,xw,xA,Na⟩:=dQ);(try have DI:=jt.lt);(try have Xe:=YD DI);(try have Io:=YC DI);(try obtain⟨xB,xC,xD,xG,xI,Nb⟩:=jt);(try have DJ:=sL.lt);(try have Xf:=YD DJ);(try have Ip:=YC DJ);(try obtain⟨xJ,xK,xN,xQ,xR,Nc⟩:=sL);(try have Sk:=Qo.lt);(try have eP5:=YD Sk);(try have Xg:=YC Sk);(try obtain⟨Nd,Nf,Ng,Nh,Ni,zP55⟩:=Qo))
    | (go_at_call 184;have hq:=aj;refine (zC1 _ LC 520 b (o3,o4) r s (mb.bw (by with_reducible first|exact Below.refl _ _|exact bl1 _ _)) (by omega) (zA pW) (by omega) (by omega) SX (by omega)).mono ?_;rintro r xd ⟨FZ,rfl,dE,mf,eV⟩;have pY:=zC dE;clear dE;have Z0:Below pI.heap.size pI xd:=(by with_reducible first|exact eV|exact zB (bl1 _ _) eV);have bL:=zB aj Z0;(try with_reducible have sL:=(zQ pI 31).bw eV);(try replace bI:=bI.bw Z0);replace cl:=cl.bw Z0;(try replace dQ:=dQ.bw Z0);(try replace jt:=jt.bw Z0);have fG:=bL.size)
    | (go_at_call 125;have hq:=Q0;refine (zE4 L (zA HL) _ y (⟨negL,aL,nL,cL⟩:Nm) b d (d-n) ((zA HY).bw (by with_reducible first|exact Q0|exact zL Q0 _)) ((zA X9).bw (by with_reducible first|exact Q0|exact zL Q0 _)) (by omega) (by omega) b0 b1).mono ?_;rintro r' pI ⟨o3,o4,mG,LC,rfl,dD,mb,eQ⟩;have pW:=zC dD;have Bx:=zC mG;clear dD mG;have bQ:Below pH.heap.size pH pI:=(by with_reducible first|exact eQ|exact zB (bl1 _ _) eQ);have aj:=zB Q0 bQ;(try with_reducible have jt:=(zQ pH 31).bw eQ);(try replace bI:=bI.bw bQ);replace cl:=cl.bw bQ;(try replace dQ:=dQ.bw bQ);have fE:=aj.size)
    | (go_at_call 184;have hq:=P9;refine (zC1 _ LA 520 b (o1,o2) p q (cj.bw (by with_reducible first|exact Below.refl _ _|exact bl1 _ _)) (by omega) (zA jd) (by omega) (by omega) fT (by omega)).mono ?_;rintro r pH ⟨LB,rfl,dB,cl,eO⟩;have jf:=zC dB;clear dB;have gW:Below pG.heap.size pG pH:=(by with_reducible first|exact eO|exact zB (bl1 _ _) eO);have Q0:=zB P9 gW;(try with_reducible have dQ:=(zQ pG 31).bw eO);(try replace bI:=bI.bw gW);have fD:=Q0.size)
    | (go_at_call 125;refine (zE4 L (zA HL) _ y x b d n ((zA HY).bw (by with_reducible first|exact (Below.refl _ _).drew|exact (bl1 _ _).drew)) ((zA HX).bw (by with_reducible first|exact (Below.refl _ _).drew|exact (bl1 _ _).drew)) (by omega) Lk b0 b1).mono ?_;rintro r' pG ⟨o1,o2,mF,LA,rfl,dA,cj,eM⟩;have jd:=zC dA;have Bw:=zC mF;clear dA mF;have P9:Below V7.heap.size V7 pG:=(by with_reducible first|exact zB (Below.refl _ _).drew eM|exact zB (bl1 _ _).drew eM);(try with_reducible have bI:=((zQ V7 31).bw (Below.refl _ _).drew).bw eM);have fC:=P9.size))
  all_goals
   have hfinP:SpAt Ts Te 535 (zAR (zK (o1,o2) p q) (zK (o3,o4) r s)).1 (zAR (zK (o1,o2) p q) (zK (o3,o4) r s)).2:=JJ;go_wp2_with fail;go_meet;refine⟨_,Te,o1,o2,o3,o4,rfl,zA Bw,zA Bx,?_,⟨⟨?_,?_,?_,?_,?_⟩,?_⟩,?_,zA Bh,?_⟩
   ·first|exact Yy _|exact fC|exact fD|exact fE|exact fG|exact wo
   ·simp[go_sem, *]
   ·simp[go_sem, *]
   ·simp[go_sem, *]
   ·simp[go_sem, *]
   ·simp[go_sem, *]
   ·intro o;simp[go_sem, *]
   ·first|with_reducible exact SpAt.put5 hfinP Nd Nf Ng Nh Ni _ _ _ _ _|with_reducible exact SpAt.put5 hfinP xJ xK xN xQ xR _ _ _ _ _|with_reducible exact SpAt.put5 hfinP xB xC xD xG xI _ _ _ _ _|with_reducible exact SpAt.put5 hfinP xn xo xq xw xA _ _ _ _ _|with_reducible exact SpAt.put5 hfinP xi xj xk xl xm _ _ _ _ _|with_reducible exact hfinP.bw (bl1 _ _)
   ·repeat' (first|with_reducible exact sT|with_reducible exact bL|with_reducible exact aj|with_reducible exact Q0|with_reducible exact P9|with_reducible exact Below.refl _ _|with_reducible refine Below.drew ?_|with_reducible refine zL ?_ _|with_reducible refine Below.setCell ?_ (by first|exact Yy _|exact fC|exact fD|exact fE|exact fG|exact wo) _)
 case rest =>
 obtain⟨BP,xP,o1,o2,o3,o4,rfl,mF,mG,Co,XP,hpP,hxbP,hblP⟩:=hcut;obtain⟨V8,hV8⟩:∃ V,V=wc:=⟨_,rfl⟩;subst hV8;have kP:=YB lR Co;replace A:=A.bw hblP;replace D:=D.bw hblP;replace X0:=X0.bw hblP;replace Y0:=Y0.bw hblP;replace R:=R.bw hblP;replace L0:=L0.bw hblP;replace E0:=E0.bw hblP;replace HX:=zC ((zA HX).bw hblP);replace HY:=zC ((zA HY).bw hblP);replace X9:=zC ((zA X9).bw hblP);replace j6:=zB j6 hblP;replace XSC:=XSC.bw hblP;replace ja:=zC ((zA ja).bw hblP);have AX:=zC hpP;have sk:=zC hxbP;have GX:=zC mF;have Vj:=zC mG;have XPC:=XP.c;clear hpP hxbP mF mG XP gi lS lA lD Av Aw lR At Ar Co;have lA:=A.lt;have lD:=D.lt;have Av:=X0.lt;have Aw:=Y0.lt;have lR:=R.lt;have At:=L0.lt;have Ar:=E0.lt;have lS:=XSC.lt;have lP:=XPC.lt;have AV:=zC (show ∀ w',Below V8.heap.size V8 w'->(rK w' (w.heap.size+1+1) p q (rK w' (w.heap.size+1+1+1) r s (nK w' w.heap.size x (nK w' (w.heap.size+1) y (nK w' w0.heap.size (⟨negL,aL,nL,cL⟩:Nm) (w'.cell? ⟨w3.heap.size,0,none⟩=some (.int .i64 (p*s+r*q))/\w'.cell? ⟨w3.heap.size,1,none⟩=some (.int .i64 (q*s))/\cK w' BS xS (cK0 w' BP xP))))))) from λ w' hB=>⟨(A.bw hB).c0,(A.bw hB).c1,(D.bw hB).c0,(D.bw hB).c1,(X0.bw hB).c0,(X0.bw hB).c1,(Y0.bw hB).c0,(Y0.bw hB).c1,(L0.bw hB).c0,(L0.bw hB).c1,(E0.bw hB).c0,(E0.bw hB).c1,(XSC.bw hB).c0,(XSC.bw hB).c1,(XSC.bw hB).c2,(XSC.bw hB).c3,(XSC.bw hB).c4,(XPC.bw hB).c0,(XPC.bw hB).c1,(XPC.bw hB).c2,(XPC.bw hB).c3,(XPC.bw hB).c4⟩)
 go_wp2_with fail
 go_cut [15] (λ pz wx=>∃ (B:Nat) (u:Sp) (o5 o6 lg ug:Int),pz=.pointer (some ⟨B,0,none⟩)/\zCL L ((p:Rat)/(q:Rat)) b (o5,o6)/\LgP3 (λ M=>X1 M+X2 M-X3 M) b lg ug/\V8.heap.size<=B/\VrC wx B u/\SpAt wx u 524 (zAR (o5,o6) (lg,ug)).1 (zAR (o5,o6) (lg,ug)).2/\u.bits=(b:Int)/\Below V8.heap.size V8 wx)
 case first =>
  go_region_held3 (λ w'=>rK w' (w.heap.size+1+1) p q (rK w' (w.heap.size+1+1+1) r s (nK w' w.heap.size x (nK w' (w.heap.size+1) y (nK w' w0.heap.size (⟨negL,aL,nL,cL⟩:Nm) (w'.cell? ⟨w3.heap.size,0,none⟩=some (.int .i64 (p*s+r*q))/\w'.cell? ⟨w3.heap.size,1,none⟩=some (.int .i64 (q*s))/\cK w' BS xS (cK0 w' BP xP))))))) (exact zA AV _ (by repeat' (first|with_reducible exact sZ|with_reducible exact kt|with_reducible exact ks|with_reducible exact kr|with_reducible exact kp|with_reducible exact Below.refl _ _|with_reducible refine Below.drew ?_|with_reducible refine zL ?_ _|with_reducible refine Below.setCell ?_ (by first|exact Yy _|exact wH|exact wI|exact wJ|exact wK|exact wL) _)))
   (first
    | (go_at_call 51;have hq:=kt;refine (zC2 _ vZ3 vZ4 523 b (o5,o6) (lg,ug) (((JO.bw eE).bw (by with_reducible first|exact Below.refl _ _|exact bl1 _ _)).mono (by omega)) ((JP.bw (by with_reducible first|exact Below.refl _ _|exact bl1 _ _)).mono (by omega)) (by omega) (zA Bo)).mono ?_;rintro r Tx ⟨Tk,rfl,rF,JQ,vC⟩;have Bp:=zC rF;clear rF;have eG:Below Gr.heap.size Gr Tx:=(by with_reducible first|exact vC|exact zB (bl1 _ _) vC);have sZ:=zB kt eG;(try with_reducible have Qt:=(zQ Gr 31).bw vC);replace cm:=cm.bw eG;(try replace nO:=nO.bw eG);replace eJ:=eJ.bw eG;(try replace qo:=qo.bw eG);(try replace zl:=zl.bw eG);(try replace Fk:=Fk.bw eG);have wL:=sZ.size;(try have Ss:=nO.lt);(try have eZ1:=YD Ss);(try have Xt:=YC Ss);(try obtain⟨Oe,Of,Og,Oh,Oi,zZ15⟩:=nO);(try have Sv:=qo.lt);(try have eZ2:=YD Sv);(try have Xv:=YC Sv);(try obtain⟨Oj,Ok,Ol,Om,On,zZ25⟩:=qo);(try have Sw:=zl.lt);(try have eZ3:=YD Sw);(try have Xw:=YC Sw);(try obtain⟨Oo,Oq,Ot,Ov,Ow,zZ35⟩:=zl);(try have Sx:=Fk.lt);(try have eZ4:=YD Sx);(try have Xx:=YC Sx);(try obtain⟨Ox,Oy,Oz,OA,OB,zZ45⟩:=Fk);(try have Sy:=Qt.lt);(try have eZ5:=YD Sy);(try have Xy:=YC Sy);(try obtain⟨OC,OD,OE,OG,OH,zZ55⟩:=Qt))
    | (go_at_call 188;have hq:=ks;refine (zL1 _ p q r s b X1 X2 X3 ⟨by omega,by omega,by omega,by omega⟩ ⟨by omega,by omega,by omega,by omega⟩ (zA TV) (zA TW) (zA TX)).mono ?_;rintro r' Gr ⟨lg,ug,mD,vZ4,rfl,rE,JP,vB⟩;have Pp:=zC rE;have Hhlg:=zC mD;clear rE mD;have eE:Below Gq.heap.size Gq Gr:=(by with_reducible first|exact vB|exact zB (bl1 _ _) vB);have kt:=zB ks eE;(try with_reducible have Fk:=(zQ Gq 31).bw vB);replace cm:=cm.bw eE;(try replace nO:=nO.bw eE);replace eJ:=eJ.bw eE;(try replace qo:=qo.bw eE);(try replace zl:=zl.bw eE);have wK:=kt.size)
    | (go_at_call 125;have hq:=kr;refine (zE4 L (zA HL) _ ⟨Ed,Wh,nZ1,WD⟩ ⟨Ee,Wj,nZ2,WE⟩ b p q (cm.bw (by with_reducible first|exact Below.refl _ _|exact bl1 _ _)) (eJ.bw (by with_reducible first|exact Below.refl _ _|exact bl1 _ _)) FW fT b0 b1).mono ?_;rintro r' Gq ⟨o5,o6,mH,vZ3,rfl,rD,JO,vA⟩;have Bo:=zC rD;have Bz:=zC mH;clear rD mH;have lq:Below Gp.heap.size Gp Gq:=(by with_reducible first|exact vA|exact zB (bl1 _ _) vA);have ks:=zB kr lq;(try with_reducible have zl:=(zQ Gp 31).bw vA);replace cm:=cm.bw lq;(try replace nO:=nO.bw lq);replace eJ:=eJ.bw lq;(try replace qo:=qo.bw lq);have wJ:=ks.size)
    | (go_at_call 33;have hq:=kp;refine (zD q _ (by omega) (by omega)).mono ?_;rintro r Gp ⟨Ee,Wj,nZ2,WE,rfl,eJ,vy⟩;have tx:Below Gn.heap.size Gn Gp:=(by with_reducible first|exact vy|exact zB (bl1 _ _) vy);have kr:=zB kp tx;(try with_reducible have qo:=(zQ Gn 31).bw vy);replace cm:=cm.bw tx;(try replace nO:=nO.bw tx);have wI:=kr.size)
    | (go_at_call 33;refine (zD p _ (by omega) (by omega)).mono ?_;rintro r Gn ⟨Ed,Wh,nZ1,WD,rfl,cm,vw⟩;have kp:Below V8.heap.size V8 Gn:=(by with_reducible first|exact zB (Below.refl _ _).drew vw|exact zB (bl1 _ _).drew vw);(try with_reducible have nO:=((zQ V8 31).bw (Below.refl _ _).drew).bw vw);have wH:=kp.size))
  all_goals
   have hfinZ:SpAt Tx Tk 524 (zAR (o5,o6) (lg,ug)).1 (zAR (o5,o6) (lg,ug)).2:=JQ;go_wp2_with fail;go_meet;refine⟨_,Tk,o5,o6,lg,ug,rfl,zA Bz,zA Hhlg,?_,⟨⟨?_,?_,?_,?_,?_⟩,?_⟩,?_,zA Bp,?_⟩
   ·first|exact Yy _|exact wH|exact wI|exact wJ|exact wK|exact wL
   ·simp[go_sem, *]
   ·simp[go_sem, *]
   ·simp[go_sem, *]
   ·simp[go_sem, *]
   ·simp[go_sem, *]
   ·intro o;simp[go_sem, *]
   ·first|with_reducible exact SpAt.put5 hfinZ OC OD OE OG OH _ _ _ _ _|with_reducible exact SpAt.put5 hfinZ Ox Oy Oz OA OB _ _ _ _ _|with_reducible exact SpAt.put5 hfinZ Oo Oq Ot Ov Ow _ _ _ _ _|with_reducible exact SpAt.put5 hfinZ Oj Ok Ol Om On _ _ _ _ _|with_reducible exact SpAt.put5 hfinZ Oe Of Og Oh Oi _ _ _ _ _|with_reducible exact hfinZ.bw (bl1 _ _)
   ·repeat' (first|with_reducible exact sZ|with_reducible exact kt|with_reducible exact ks|with_reducible exact kr|with_reducible exact kp|with_reducible exact Below.refl _ _|with_reducible refine Below.drew ?_|with_reducible refine zL ?_ _|with_reducible refine Below.setCell ?_ (by first|exact Yy _|exact wH|exact wI|exact wJ|exact wK|exact wL) _)
 case rest =>
 obtain⟨BZ,xZ,o5,o6,lg,ug,rfl,mH,mD,QE,XZ,hpZ,hxbZ,hblZ⟩:=hcut;obtain⟨V9,zv⟩:∃ V,V=wc:=⟨_,rfl⟩;subst zv;have kZ:=YB lR QE;replace A:=A.bw hblZ;replace D:=D.bw hblZ;replace X0:=X0.bw hblZ;replace Y0:=Y0.bw hblZ;replace R:=R.bw hblZ;replace L0:=L0.bw hblZ;replace E0:=E0.bw hblZ;replace HX:=zC ((zA HX).bw hblZ);replace HY:=zC ((zA HY).bw hblZ);replace X9:=zC ((zA X9).bw hblZ);replace j6:=zB j6 hblZ;replace XSC:=XSC.bw hblZ;replace XPC:=XPC.bw hblZ;replace ja:=zC ((zA ja).bw hblZ);replace AX:=zC ((zA AX).bw hblZ);have VJ:=zC hpZ;have HZB:=zC hxbZ;have XZC:=XZ.c;obtain⟨l,t,NE,e1,e2,e3,e4,e5,e6,e7,e8⟩:=pu_exp (zA H) (zA GX) (zA Vj) mH mD (zA HL) (zA VD) nX (zA HM);have T7:=zC e1;have ag:=zC e2;have yn:=zC e4;have pO:=zC e5;have sA:=zC e6;have Hk:=zC e7;have P8:=zC e8;clear e1 e2 e4 e5 e6 e7 e8 hpZ hxbZ mH mD XZ AV lS lP lA lD Av Aw lR At Ar QE
 have lA:=A.lt;have lD:=D.lt;have Av:=X0.lt;have Aw:=Y0.lt;have lR:=R.lt;have At:=L0.lt;have Ar:=E0.lt;have lS:=XSC.lt;have lP:=XPC.lt;have lZ:=XZC.lt;have AQ:=zC (show ∀ w',Below V9.heap.size V9 w'->(rK w' (w.heap.size+1+1) p q (rK w' (w.heap.size+1+1+1) r s (nK w' w.heap.size x (nK w' (w.heap.size+1) y (nK w' w0.heap.size (⟨negL,aL,nL,cL⟩:Nm) (w'.cell? ⟨w3.heap.size,0,none⟩=some (.int .i64 (p*s+r*q))/\w'.cell? ⟨w3.heap.size,1,none⟩=some (.int .i64 (q*s))/\cK w' BS xS (cK w' BP xP (cK0 w' BZ xZ)))))))) from λ w' hB=>⟨(A.bw hB).c0,(A.bw hB).c1,(D.bw hB).c0,(D.bw hB).c1,(X0.bw hB).c0,(X0.bw hB).c1,(Y0.bw hB).c0,(Y0.bw hB).c1,(L0.bw hB).c0,(L0.bw hB).c1,(E0.bw hB).c0,(E0.bw hB).c1,(XSC.bw hB).c0,(XSC.bw hB).c1,(XSC.bw hB).c2,(XSC.bw hB).c3,(XSC.bw hB).c4,(XPC.bw hB).c0,(XPC.bw hB).c1,(XPC.bw hB).c2,(XPC.bw hB).c3,(XPC.bw hB).c4,(XZC.bw hB).c0,(XZC.bw hB).c1,(XZC.bw hB).c2,(XZC.bw hB).c3,(XZC.bw hB).c4⟩)
 have tB:Below V9.heap.size V9 V9.drew:=(Below.refl _ _).drew;have DR:w.heap.size+1+1+1+1≠BS:=by omega
 have rR:w.heap.size+1+1+1+1≠BP:=by omega
 have FV:w.heap.size+1+1+1+1≠BZ:=by omega
 have SD:w.heap.size+1+1+1+1≠w0.heap.size:=by omega
 have nR5:w.heap.size+1+1+1+1≠w3.heap.size:=by omega
 have nR6:w.heap.size+1+1+1+1≠w.heap.size:=by omega
 have nR7:w.heap.size+1+1+1+1≠w.heap.size+1:=by omega
 have nR8:w.heap.size+1+1+1+1≠w.heap.size+1+1:=by omega
 have nR9:w.heap.size+1+1+1+1≠w.heap.size+1+1+1:=by omega
 have nRa:w.heap.size+1+1≠w.heap.size:=by omega
 have nRb:w.heap.size+1+1+1≠w.heap.size:=by omega
 go_wp2_with fail;obtain⟨x0,x1,x2,x3,x4,x5,x6,x7,x8,x9,Gs,TA,TB,x13,x14,x15,x16,x17,x18,x19,x20,x21,x22,x23,x24,x25,x26⟩:=zA AQ _ (Below.refl _ _)
 go_region_held3 (λ w'=>rK w' (w.heap.size+1+1) p q (rK w' (w.heap.size+1+1+1) r s (nK w' w.heap.size x (nK w' (w.heap.size+1) y (nK w' w0.heap.size (⟨negL,aL,nL,cL⟩:Nm) (w'.cell? ⟨w3.heap.size,0,none⟩=some (.int .i64 (p*s+r*q))/\w'.cell? ⟨w3.heap.size,1,none⟩=some (.int .i64 (q*s))/\cK w' BS xS (cK w' BP xP (cK0 w' BZ xZ)))))))) (first|exact zA AQ _ (by with_reducible first|exact tB|exact tC|exact qz|exact nS|exact qy)|(dsimp only[cK,cK0,nK,nK0,rK,rK0];go_keep)|go_keep)
  (first
   | (go_at_call 141;have hq:=qz;refine (zBR _ f3 _ b _ _ mA (zA F3) (by omega) (by omega) (by omega)).mono ?_;rintro r' g4 ⟨f4,rfl,dh,ia,vG⟩;rw[zEF] at ia;have F4:=zC dh;clear dh;have tC:=zB qz vG;obtain⟨q0,q1,q2,q3,q4,q5⟩:=R.bw tC)
   | (go_at_call 162;have hq:=nS;refine (zDM _ xS f2 98400 b (zA9 p q r s n d b NS).1 (zA9 p q r s n d b NS).2 (puE p q r s b (o1,o2) (o3,o4) (o5,o6) (lg,ug) t NE).1 (puE p q r s b (o1,o2) (o3,o4) (o5,o6) (lg,ug) t NE).2 (((zA ja).bw nS).mono (by omega)) mz (by omega) (by omega) (zA gV) (zA P8).2.2.2.1 (zA P8).1 (zA P8).2.1).mono ?_;rintro r' g3 ⟨f3,rfl,fq,mA,oZ⟩;have F3:=zC fq;clear fq;have qz:=zB nS oZ)
   | (go_at_call 77;have hq:=qy;refine (zCK _ f1 98400 b t NE (puY p q r s (o1,o2) (o3,o4) (o5,o6) (lg,ug)) l (SpAt.mono (show SpAt _ f1 536 (puY p q r s (o1,o2) (o3,o4) (o5,o6) (lg,ug)).1 (puY p q r s (o1,o2) (o3,o4) (o5,o6) (lg,ug)).2 from my) (by omega)) (zA F1) (zA Hk) (by omega) (by omega) (zA T7) (zA ag) (by omega) (zA yn) (zA pO) (zA sA) (by omega)).mono ?_;rintro r' g2 ⟨f2,rfl,fp,mz,Ac⟩;clear fp;have nS:=zB qy Ac)
   | (go_at_call 51;refine (zC2 _ xP xZ 535 b (zAR (zK (o1,o2) p q) (zK (o3,o4) r s)) (zAR (o5,o6) (lg,ug)) ((zA AX).bw tB) (((zA VJ).bw tB).mono (by omega)) (by omega) (zA sk)).mono ?_;rintro r' g1 ⟨f1,rfl,fo,my,qL⟩;have F1:=zC fo;clear fo;have qy:=zB tB qL))
 all_goals
  have fit:=SpAt.fits (K:=30) (show SpAt g4 f4 _ (zDW (zA9 p q r s n d b NS).1 (zA9 p q r s n d b NS).2 (puE p q r s b (o1,o2) (o3,o4) (o5,o6) (lg,ug) t NE).1 (puE p q r s b (o1,o2) (o3,o4) (o5,o6) (lg,ug) t NE).2 b) (zPM (zA9 p q r s n d b NS) (puE p q r s b (o1,o2) (o3,o4) (o5,o6) (lg,ug) t NE) b) from ia) (zGK (zA P8).2.2.2.2 b1).1 (zGK (zA P8).2.2.2.2 b1).2.1 (zGK (zA P8).2.2.2.2 b1).2.2
  go_wp2_with fail;refine bodyPost_ret (v:=.agg f4.q) (by simp[results,Tryz.results160,go_sem,q0,q1,q2,q3,q4]) rfl ⟨_,_,(zA P8).2.2.2.2,f4,rfl,zA F4,?_,?_⟩
  ·exact SpAt.put5 fit q0 q1 q2 q3 q4 _ _ _ _ _
  ·exact jV (zB j6 tC) (by omega) _ _ _ _ _
end Go.Proofs.YtgmnknmjainabacGreat
