/-
  Its own texts.
-/
import Derived.Test.YtgmnknmjainabacGreatH24
set_option maxRecDepth 100000
set_option maxHeartbeats 40000000
set_option linter.unnecessarySimpa false
set_option linter.unusedSimpArgs false
set_option linter.unusedVariables false
namespace Go.Proofs.YtgmnknmjainabacGreat
open Go.RowKit
attribute [local go_sem ↓] Go.wp_at_zero Go.wp_at_succ
open Ex
theorem lower_ps (L G:Rat->Nat->Rat) (X:Int->Int->Nat->Rat) (hE:zP1 L G X) (p q n d:Int) (b:Nat) (h:LwAr p q n d b) (cJ:0<n) :
  ∃ c:Int × Int,LwPr (lwX L p q n d (gmV p q (G (gA p q)))) b c.1 c.2/\∀ (w:World) (x y:Nm),IntAt w x.neg x.a x.n x.cap 4 n->IntAt w y.neg y.a y.n y.cap 4 d->Calls Tryz.prog 159 #[.agg #[.int .i64 p,.int .i64 q],.agg x.q,.agg y.q,.int .i64 b] w (zG w b 30 c.1 c.2):=by
 have p0:=h.p0;have q0:=h.q0;have pq:=h.pq;have qq:=h.qq;have b0:=h.b0;have b1:=h.b1;have st:StIn p q:=⟨p0,q0,by omega,by omega⟩
 have Sa:StIn (p+q) q:=⟨by omega,q0,by omega,by omega⟩
 have ig:=zD9 hE st
 by_cases hf:d*(2*((b:Int)+p/q+1))<=n
 ·refine⟨(Q b-1,Q b),?_,λ w x y hx hy=>zJ5 w x y p q n d b hx hy h cJ hf⟩
  unfold lwX;rw[if_neg (by omega)]
  exact lw_farI hE.lns p0 q0 h.d0 hf (by omega) ig
 ·refine zIH L hE.lns p q n d b _ (X (p+q) q) ⟨p0,q0,pq,qq,cJ,h.d0,h.nn,h.dd,by omega,b0,b1⟩ ig ?_ (zFJ hE Sa (by omega) b0 b1)
  have k:=hE.lg (p+q) q Sa
  have e:gmV (p+q) q (G (gA (p+q) q))=λ M=>(p:Rat)/(q:Rat)*gmV p q (G (gA p q)) M:=by
   funext M
   rw[gA_next p0 q0,zNE p0 q0,Rat.mul_comm]
  rw[e] at k;exact k
theorem zKG (L G:Rat->Nat->Rat) (X:Int->Int->Nat->Rat) (hE:zP1 L G X) (p q r s n d:Int) (b:Nat) (h:BpAr p q r s n d b) (h2:2*n<=d) (cJ:0<n) :
  ∃ c:Int × Int,LwPr (bvX L p q r s n d) b c.1 c.2/\∀ (w:World) (x y:Nm),IntAt w x.neg x.a x.n x.cap 4 n->IntAt w y.neg y.a y.n y.cap 4 d->Calls Tryz.prog 160 #[.agg x.q,.agg y.q,.agg #[.int .i64 p,.int .i64 q],.agg #[.int .i64 r,.int .i64 s],.int .i64 b] w (zG w b 30 c.1 c.2):=by
 obtain⟨s1,s2,s3,hn⟩:=bp_st h.p0 h.q0 h.pq h.qq h.r0 h.s0 h.rs h.ss;have pq:=h.pq;have rs:=h.rs;have qq:=h.qq;have ss:=h.ss
 have e:bvX L p q r s n d=bv L ((p:Rat)/(q:Rat)) ((r:Rat)/(s:Rat)) ((n:Rat)/(d:Rat)):=by
  unfold bvX;rw[if_neg (by omega),if_neg (by omega)]
 rw[e];exact zKH L hE.lns p q r s n d b (X p q) (X r s) (X (p*s+r*q) (q*s)) ⟨h.p0,h.q0,h.pq,h.qq,h.r0,h.s0,h.rs,h.ss,by omega,h2,h.dd,h.b0,h.b1⟩ (bj_log hE s1 s2 s3) (zFJ hE s1 (by omega) h.b0 h.b1) (zFJ hE s2 (by omega) h.b0 h.b1) (zFJ hE s3 hn h.b0 h.b1)
theorem zPE (w:World) (x y:Nm) (p q r s n d:Int) (b:Nat) (c:Int × Int) (hx:IntAt w x.neg x.a x.n x.cap 4 n) (hy:IntAt w y.neg y.a y.n y.cap 4 d) (h:BpAr p q r s n d b) (h2:d<2*n) (hC:∀ (w:World) (x y:Nm),IntAt w x.neg x.a x.n x.cap 4 (d-n)->IntAt w y.neg y.a y.n y.cap 4 d->Calls Tryz.prog 160 #[.agg x.q,.agg y.q,.agg #[.int .i64 r,.int .i64 s],.agg #[.int .i64 p,.int .i64 q],.int .i64 b] w (zG w b 30 c.1 c.2)) :
  Calls Tryz.prog 160 #[.agg x.q,.agg y.q,.agg #[.int .i64 p,.int .i64 q],.agg #[.int .i64 r,.int .i64 s],.int .i64 b] w (zG w b 61 (zB5 b c).1 (zB5 b c).2):=by
 obtain⟨W,hW⟩:∃ W,W=((((w.alloc (.cells x.q 29)).alloc (.cells y.q 29)).alloc (.cells #[.int .i64 p,.int .i64 q] 23)).alloc (.cells #[.int .i64 r,.int .i64 s] 23)).alloc (.cells zCq 31):=⟨_,rfl⟩;have j8:Below w.heap.size w W:=by rw[hW];exact bl5 _ _ _ _ _ _
 have X0:NmC W (w.heap.size) x:=by rw[hW];constructor<;>simp[go_sem]
 have Y0:NmC W (w.heap.size+1) y:=by rw[hW];constructor<;>simp[go_sem]
 have A:RaC W (w.heap.size+1+1) p q:=by rw[hW];constructor<;>simp[go_sem]
 have D:RaC W (w.heap.size+1+1+1) r s:=by rw[hW];constructor<;>simp[go_sem]
 have R:NoC W (w.heap.size+1+1+1+1):=by rw[hW];constructor<;>simp[go_sem]
 have HX:=zC (hx.bw j8);have HY:=zC (hy.bw j8);have rO:=X0.c0;have rP:=X0.c1;have Ia:=Y0.c0;have Ib:=Y0.c1;clear hx hy;have d0:=h.d0;have b0:=h.b0;have b1:=h.b1;have dd:=h.dd;have nd:=h.nd
 have Ar:=zC (show -P 4<d-n/\d-n<P 4 by
  have:P 4=18446744073709551616:=rfl
  exact⟨by omega,by omega⟩)
 have HC:=zC (show zN n (d-n)=1 by unfold zN;rw[if_neg (by omega),if_pos (by omega)])
 have Ai:=zC hC;clear h hC
 go_enter Tryz.func160,Tryz.ntmps160
 go_upto_region 1 with fail
 rw[<- hW];clear hW;go_wp2_with fail;clear rO rP Ia Ib;refine (zCR _ _ _ _ _ _ _ _ 4 4 d n _ (zA HY) (zA HX) (by omega) (by omega)).mono ?_
 rintro z0 w0 ⟨negL,aL,nL,cL,rfl,Ca,E8⟩;obtain⟨VL,ot⟩:∃ V,V=w0.alloc (.cells #[.bool negL,.slice aL nL cL] 29):=⟨_,rfl⟩;have bVL:Below w0.heap.size w0 VL:=by rw[ot];exact bl1 _ _
 have L0:NmC VL w0.heap.size (⟨negL,aL,nL,cL⟩:Nm):=by rw[ot];constructor<;>simp[go_sem]
 have bL:=zC ((Ca.fits (K:=4) (zA Ar).1 (zA Ar).2).bw bVL);have hbL:=zB E8 bVL;have kL:w.heap.size+1+1+1+1<w0.heap.size:=Zd R.lt E8.size;replace A:=A.bw hbL;replace D:=D.bw hbL;replace X0:=X0.bw hbL;replace Y0:=Y0.bw hbL;replace R:=R.bw hbL;replace HX:=zC ((zA HX).bw hbL);replace HY:=zC ((zA HY).bw hbL);replace j8:=zB j8 hbL;clear hbL E8 bVL Ca;obtain⟨jl,jm⟩:=X0;obtain⟨rQ,rR⟩:=L0;have lX:=NmC.lt ⟨jl,jm⟩;have lL:=NmC.lt ⟨rQ,rR⟩
 go_upto_region 2 with fail
 rw[<- ot];clear ot;go_wp2_with fail;have X0:NmC VL (w.heap.size) x:=⟨jl,jm⟩;have L0:NmC VL w0.heap.size (⟨negL,aL,nL,cL⟩:Nm):=⟨rQ,rR⟩;clear jl jm rQ rR lX lL;refine (jY _ _ _ _ _ _ _ _ 4 4 n (d-n) _ (zA HX) (zA bL)).mono ?_;rintro z1 w1 ⟨rfl,b9⟩;rw[zA HC];replace A:=A.bw b9;replace D:=D.bw b9;replace X0:=X0.bw b9;replace Y0:=Y0.bw b9;replace R:=R.bw b9;replace L0:=L0.bw b9;replace HX:=zC ((zA HX).bw b9);replace HY:=zC ((zA HY).bw b9);replace bL:=zC ((zA bL).bw b9);replace j8:=zB j8 b9;clear b9;obtain⟨x0,x1⟩:=L0;obtain⟨y0,y1⟩:=Y0;have aa:=A.c0;have ab:=A.c1;have da:=D.c0;have db:=D.c1;have lA:=A.lt;have lD:=D.lt;have lL:=NmC.lt ⟨x0,x1⟩;have lY:=NmC.lt ⟨y0,y1⟩;go_wp2_with fail;refine (zA Ai _ (⟨negL,aL,nL,cL⟩:Nm) y (zA bL) (zA HY)).mono ?_;rintro z2 w2 ⟨t,rfl,J2,P5,j7⟩;have ph:=zC J2;replace R:=R.bw j7;replace j8:=zB j8 j7;clear J2 j7 x0 x1 y0 y1 aa ab da db lA lD lL lY
 go_wp2_with fail;refine (zGH _ t 60 b c (P5.mono (by omega)) (zA ph) (by omega) (by omega) (by omega)).mono ?_
 rintro z3 w3 ⟨u,rfl,A8,C7,o7⟩;have HU:=zC A8;replace j8:=zB j8 o7;obtain⟨q0,q1,q2,q3,q4,q5⟩:=R.bw o7;have bg:=(R.bw o7).lt;clear A8 o7;go_wp2_with fail;refine bodyPost_ret (v:=.agg u.q) (by simp[results,Tryz.results160,go_sem,q0,q1,q2,q3,q4]) rfl ⟨u,rfl,zA HU,?_,?_⟩
 ·exact SpAt.put5 C7 q0 q1 q2 q3 q4 _ _ _ _ _
 ·exact jS j8 (by omega) _ _ _ _ _
theorem zNX (L G:Rat->Nat->Rat) (X:Int->Int->Nat->Rat) (hE:zP1 L G X) (p q r s n d:Int) (b:Nat) (h:BpAr p q r s n d b) (cJ:0<n) (iP:n<d) :
  ∃ c:Int × Int,LwPr (bvX L p q r s n d) b c.1 c.2/\∀ (w:World) (x y:Nm),IntAt w x.neg x.a x.n x.cap 4 n->IntAt w y.neg y.a y.n y.cap 4 d->Calls Tryz.prog 160 #[.agg x.q,.agg y.q,.agg #[.int .i64 p,.int .i64 q],.agg #[.int .i64 r,.int .i64 s],.int .i64 b] w (zG w b 61 c.1 c.2):=by
 by_cases h2:2*n<=d
 ·obtain⟨c,c1,c2⟩:=zKG L G X hE p q r s n d b h h2 cJ
  exact⟨c,c1,λ w x y hx hy=>(c2 w x y hx hy).mono λ z w' ⟨t,a1,a2,a3,a4⟩=>⟨t,a1,a2,a3.mono (by omega),a4⟩⟩
 ·obtain⟨c,c1,c2⟩:=zKG L G X hE r s p q (d-n) d b h.turn (by omega) (by omega)
  exact⟨zB5 b c,(zSJ c1).congr (bvX_turn hE.lns h.p0 h.q0 h.r0 h.s0 h.n0 h.nd h.d0),λ w x y hx hy=>zPE w x y p q r s n d b c hx hy h (by omega) c2⟩
theorem zH5 (x q:Int) (hq:0<q):x/q*q<=x:=Int.ediv_mul_le _ (by omega)
theorem zH4 (x q:Int) (hq:0<q):x<x/q*q+q:=by
 have h:=Int.emod_add_mul_ediv x q;have:=Int.emod_lt_of_pos x hq;rw[Int.mul_comm];omega
theorem zM9 {p q z:Int} (hq:0<q) (h1:z*q<=p) (h2:p<z*q+q):p/q=z:=by
 have a:=zH5 p q hq;have b:=zH4 p q hq
 have c1:p/q<z+1:=by
  refine Int.not_le.1 λ h=>?_
  have h3:=YW h (show 0<=q by omega)
  have h4:(z+1)*q=z*q+q:=by rw[Int.add_mul];omega
  omega
 have c2:z<p/q+1:=by
  refine Int.not_le.1 λ h=>?_
  have h3:=YW h (show 0<=q by omega)
  have h4:(p/q+1)*q=p/q*q+q:=by rw[Int.add_mul];omega
  omega
 omega
theorem tdiv_bd {p q:Int} (hq:0<q):(p.tdiv q*q<=p/\p<p.tdiv q*q+q)\/(p<p.tdiv q*q/\p.tdiv q*q-q<p):=by
 by_cases hp:0<=p
 ·rw[Int.tdiv_eq_ediv_of_nonneg hp]
  exact Or.inl ⟨zH5 p q hq,zH4 p q hq⟩
 ·have e:p.tdiv q = -((-p)/q):=by
   have h1:((-(-p)).tdiv q) = -((-p).tdiv q):=Int.neg_tdiv _ _;rw[Int.neg_neg] at h1;rw[h1,Int.tdiv_eq_ediv_of_nonneg (by omega)]
  have a:=zH5 (-p) q hq;have b:=zH4 (-p) q hq;rw[e,Int.neg_mul]
  by_cases hz:(-p)/q*q = -p
  ·exact Or.inl ⟨by omega,by omega⟩
  ·exact Or.inr ⟨by omega,by omega⟩
theorem zM8 (p q:Int) (w:World) (h:rok p q) :
  Calls Tryz.prog 137 #[.agg #[.int .i64 p,.int .i64 q]] w λ z w'=>z=.returned (.int .i64 (p/q))/\Below w.heap.size w w':=by
 obtain⟨h1,h2,h3,h4⟩:=h;have hb:=tdiv_bd (p:=p) (q:=q) (by omega)
 obtain⟨n,hn⟩:∃ n,n=p.tdiv q:=⟨_,rfl⟩;have pY:p.tdiv q=n:=hn.symm;rw[pY] at hb;have hz:(q == 0)=false:=by simp;omega
 have YA : -1048577<=n/\n<=1048577:=by
  rcases hb with⟨b1,b2⟩|⟨b1,b2⟩
  ·constructor
   ·refine Int.not_lt.1 λ h=>?_
    have:=YW (show n <= -1048578 by omega) (show 0<=q by omega)
    omega
   ·refine Int.not_lt.1 λ h=>?_
    have:=YW (show 1048578<=n by omega) (show 0<=q by omega)
    omega
  ·constructor
   ·refine Int.not_lt.1 λ h=>?_
    have:=YW (show n <= -1048578 by omega) (show 0<=q by omega)
    omega
   ·refine Int.not_lt.1 λ h=>?_
    have:=YW (show 1048578<=n by omega) (show 0<=q by omega)
    omega
 have JB : -2000000<=n*q/\n*q<=2000000:=by omega
 obtain⟨m1,m2⟩:=YA;obtain⟨m3,m4⟩:=JB
 rcases hb with⟨b1,b2⟩|⟨b1,b2⟩
 ·have HE:=zC (zM9 (by omega) b1 b2)
  have hng:¬ p<n*q:=by omega
  clear hn b1 b2
  go_enter Tryz.func137,Tryz.ntmps137
  go_wp2
  go_ret
  exact⟨by rw[zA HE];rfl,bl1 _ _⟩
 ·have HE:=zC (show p/q=n-1 from zM9 (by omega) (by rw[Int.sub_mul];omega) (by rw[Int.sub_mul];omega))
  clear hn b2
  go_enter Tryz.func137,Tryz.ntmps137
  go_wp2
  go_ret
  exact⟨by rw[zA HE];rfl,bl1 _ _⟩
theorem zLK (q r s x y:Int) (P M b:Nat) (w:World) (P7:rok x y) (hM:(min (x/y) (P:Int)+1).toNat=M) (hp:P<=100) (hr:0<=r) (hs:r<=s) (hs1:1<=s) (ak:s<=1024) (hb:b<=1000000) :
  Calls Tryz.prog 91 #[.agg #[.int .i64 6,.int .i64 (P:Int),.int .i64 q,.int .i64 r,.int .i64 s],.agg #[.int .i64 x,.int .i64 y],.int .i64 b] w (zG w b (b/16+5000) (zDW (zGO P r s) M*Q b/s ^ P) (-(-(zDW (zGO P r s) M*Q b)/s ^ P))):=by
 have cG : -1000000000<=x/y/\x/y<=1000000000:=by
  obtain⟨h1,h2,h3,h4⟩:=P7;have a:=zH5 x y (by omega)
  have b:=zH4 x y (by omega)
  constructor
  ·refine Int.not_lt.1 λ h=>?_
   have:=YW (show x/y <= -1000000001 by omega) (show 0<=y by omega)
   omega
  ·refine Int.not_lt.1 λ h=>?_
   have:=YW (show 1000000001<=x/y by omega) (show 0<=y by omega)
   omega
 obtain⟨W,hW⟩:∃ W,W=((w.alloc (.cells #[.int .i64 6,.int .i64 (P:Int),.int .i64 q,.int .i64 r,.int .i64 s] 25)).alloc (.cells #[.int .i64 x,.int .i64 y] 23)).alloc (.cells zCq 31):=⟨_,rfl⟩;have j8:Below w.heap.size w W:=by rw[hW];exact bl3 _ _ _ _
 have L:W.cell? ⟨w.heap.size,0,none⟩=some (.int .i64 6)/\W.cell? ⟨w.heap.size,1,none⟩=some (.int .i64 (P:Int))/\W.cell? ⟨w.heap.size,2,none⟩=some (.int .i64 q)/\W.cell? ⟨w.heap.size,3,none⟩=some (.int .i64 r)/\W.cell? ⟨w.heap.size,4,none⟩=some (.int .i64 s)/\W.cell? ⟨w.heap.size+1,0,none⟩=some (.int .i64 x)/\W.cell? ⟨w.heap.size+1,1,none⟩=some (.int .i64 y):=by rw[hW];simp[go_sem]
 have R:NoC W (w.heap.size+1+1):=by rw[hW];constructor<;>simp[go_sem]
 have lR:=R.lt
 have HK:=zC (show ∀ w',Below W.heap.size W w'->(w'.cell? ⟨w.heap.size,0,none⟩=some (.int .i64 6)/\w'.cell? ⟨w.heap.size,1,none⟩=some (.int .i64 (P:Int))/\w'.cell? ⟨w.heap.size,2,none⟩=some (.int .i64 q)/\w'.cell? ⟨w.heap.size,3,none⟩=some (.int .i64 r)/\w'.cell? ⟨w.heap.size,4,none⟩=some (.int .i64 s)/\rK0 w' (w.heap.size+1) x y) from λ w' hB=>by
  obtain⟨l0,l1,l2,l3,l4,l5,l6⟩:=L
  exact⟨(hB.cell (p:=⟨w.heap.size,0,none⟩) (by show w.heap.size<_;omega)).trans l0,(hB.cell (p:=⟨w.heap.size,1,none⟩) (by show w.heap.size<_;omega)).trans l1,(hB.cell (p:=⟨w.heap.size,2,none⟩) (by show w.heap.size<_;omega)).trans l2,(hB.cell (p:=⟨w.heap.size,3,none⟩) (by show w.heap.size<_;omega)).trans l3,(hB.cell (p:=⟨w.heap.size,4,none⟩) (by show w.heap.size<_;omega)).trans l4,(hB.cell (p:=⟨w.heap.size+1,0,none⟩) (by show w.heap.size+1<_;omega)).trans l5,(hB.cell (p:=⟨w.heap.size+1,1,none⟩) (by show w.heap.size+1<_;omega)).trans l6⟩)
 have HM:=zC hM;clear hM L
 go_enter Tryz.func91,Tryz.ntmps91
 go_wp2;rw[<- hW];clear hW;obtain⟨l0,l1,l2,l3,l4,l5,l6⟩:=zA HK _ (Below.refl _ _);have D5:Below W.heap.size W W.drew:=(Below.refl _ _).drew;have nA:w.heap.size≠w.heap.size+1+1:=by omega
 have nA':w.heap.size+1+1≠w.heap.size:=by omega
 go_region_held3 (λ w'=>w'.cell? ⟨w.heap.size,0,none⟩=some (.int .i64 6)/\w'.cell? ⟨w.heap.size,1,none⟩=some (.int .i64 (P:Int))/\w'.cell? ⟨w.heap.size,2,none⟩=some (.int .i64 q)/\w'.cell? ⟨w.heap.size,3,none⟩=some (.int .i64 r)/\w'.cell? ⟨w.heap.size,4,none⟩=some (.int .i64 s)/\rK0 w' (w.heap.size+1) x y) (first|exact zA HK _ (by with_reducible first|exact D5|exact p9|exact s9)|(dsimp only[cK,cK0,nK,nK0,rK,rK0];go_keep)|go_keep)
  (first
   | (go_at_call 136;refine (zQ0 6 q r s (x/y) P M b _ (zA HM) cG.1 cG.2 hp hr hs hs1 ak hb).mono ?_;rintro r' w2 ⟨u,rfl,A8,C7,j7⟩;have p9:=zB s9 j7;obtain⟨q0,q1,q2,q3,q4,q5⟩:=R.bw p9;have I3:=zC A8;clear A8;obtain⟨e0,e1,e2,e3,e4,e5,e6⟩:=zA HK _ p9)
   | (go_at_call 137;refine (zM8 x y _ P7).mono ?_;rintro r' w1 ⟨rfl,b9⟩;have s9:=zB D5 b9))
 all_goals
  go_wp2_with fail;refine bodyPost_ret (v:=.agg u.q) (by simp[results,Tryz.results91,go_sem,q0,q1,q2,q3,q4]) rfl ⟨u,rfl,zA I3,?_,?_⟩
  ·exact SpAt.put5 C7 q0 q1 q2 q3 q4 _ _ _ _ _
  ·exact jS (zB j8 p9) (by omega) _ _ _ _ _
def BlX (F:Nat) (args:Array Value) (x:Nat->Rat) (b:Nat):Prop:=∃ c:Int × Int,LwPr x b c.1 c.2/\∀ w:World,Calls Tryz.prog F args w (zG w b 30000 c.1 c.2)
theorem zFL (b:Nat):LwPr (λ _=>0) b (ofI 0 1 b).1 (ofI 0 1 b).2 :=
 (of_lw b (Int.le_refl 0) (by decide) (by decide)).congr (null_zero.of_eq λ M=>by
  have e:((0:Int):Rat)/((1:Int):Rat)=0:=by decide +kernel
  rw[e];grind)
theorem one_lw (b:Nat):LwPr (λ _=>1) b (1*Q b/1) (-(-(1*Q b)/1)) :=
 (of_lw b (show (0:Int)<=1 by decide) (show (0:Int)<1 by decide) (Int.le_refl 1)).congr (null_zero.of_eq λ M=>by
  have e:((1:Int):Rat)/((1:Int):Rat)=1:=by decide +kernel
  rw[e];grind)
theorem lwait_no (w:World) (k p q r s n d:Int) (b:Nat) (hb:b<=2000) (hn:n<=0) :
  Calls Tryz.prog 132 #[.agg #[.int .i64 k,.int .i64 p,.int .i64 q,.int .i64 r,.int .i64 s],.agg #[.int .i64 n,.int .i64 d],.int .i64 b] w (zG w b 30000 (ofI 0 1 b).1 (ofI 0 1 b).2):=by
 go_enter Tryz.func132,Tryz.ntmps132
 go_wp2_with fail;refine (zEH _ b hb).mono ?_;rintro zz w1 ⟨u,rfl,A8,C7,b9⟩;have R:NoC w1 (w.heap.size+1+1):=NoC.bw ⟨by simp[go_sem],by simp[go_sem],by simp[go_sem],by simp[go_sem],by simp[go_sem],λ o=>by simp[go_sem]⟩ b9
 have hB:Below w.heap.size w w1:=zB (bl3 _ _ _ _ ) b9;obtain⟨q0,q1,q2,q3,q4,q5⟩:=R;have I3:=zC A8;clear A8 b9;go_wp2_with fail;refine bodyPost_ret (v:=.agg u.q) (by simp[results,Tryz.results132,go_sem,q0,q1,q2,q3,q4]) rfl ⟨u,rfl,zA I3,?_,?_⟩
 ·exact SpAt.put5 (C7.mono (by omega)) q0 q1 q2 q3 q4 _ _ _ _ _
 ·exact jS hB (by omega) _ _ _ _ _
theorem zR8 (w:World) (k p q r s n d:Int) (b:Nat) (hb:b<=2000) (hn:n<=0) :
  Calls Tryz.prog 133 #[.agg #[.int .i64 k,.int .i64 p,.int .i64 q,.int .i64 r,.int .i64 s],.agg #[.int .i64 n,.int .i64 d],.int .i64 b] w (zG w b 30000 (ofI 0 1 b).1 (ofI 0 1 b).2):=by
 go_enter Tryz.func133,Tryz.ntmps133
 go_wp2_with fail;refine (zEH _ b hb).mono ?_;rintro zz w1 ⟨u,rfl,A8,C7,b9⟩;have R:NoC w1 (w.heap.size+1+1):=NoC.bw ⟨by simp[go_sem],by simp[go_sem],by simp[go_sem],by simp[go_sem],by simp[go_sem],λ o=>by simp[go_sem]⟩ b9
 have hB:Below w.heap.size w w1:=zB (bl3 _ _ _ _ ) b9;obtain⟨q0,q1,q2,q3,q4,q5⟩:=R;have I3:=zC A8;clear A8 b9;go_wp2_with fail;refine bodyPost_ret (v:=.agg u.q) (by simp[results,Tryz.results133,go_sem,q0,q1,q2,q3,q4]) rfl ⟨u,rfl,zA I3,?_,?_⟩
 ·exact SpAt.put5 (C7.mono (by omega)) q0 q1 q2 q3 q4 _ _ _ _ _
 ·exact jS hB (by omega) _ _ _ _ _
theorem lbeta_no (w:World) (k p q r s n d:Int) (b:Nat) (hb:b<=2000) (hn:n<=0) :
  Calls Tryz.prog 134 #[.agg #[.int .i64 k,.int .i64 p,.int .i64 q,.int .i64 r,.int .i64 s],.agg #[.int .i64 n,.int .i64 d],.int .i64 b] w (zG w b 30000 (ofI 0 1 b).1 (ofI 0 1 b).2):=by
 go_enter Tryz.func134,Tryz.ntmps134
 go_wp2_with fail;refine (zEH _ b hb).mono ?_;rintro zz w1 ⟨u,rfl,A8,C7,b9⟩;have R:NoC w1 (w.heap.size+1+1):=NoC.bw ⟨by simp[go_sem],by simp[go_sem],by simp[go_sem],by simp[go_sem],by simp[go_sem],λ o=>by simp[go_sem]⟩ b9
 have hB:Below w.heap.size w w1:=zB (bl3 _ _ _ _ ) b9;obtain⟨q0,q1,q2,q3,q4,q5⟩:=R;have I3:=zC A8;clear A8 b9;go_wp2_with fail;refine bodyPost_ret (v:=.agg u.q) (by simp[results,Tryz.results134,go_sem,q0,q1,q2,q3,q4]) rfl ⟨u,rfl,zA I3,?_,?_⟩
 ·exact SpAt.put5 (C7.mono (by omega)) q0 q1 q2 q3 q4 _ _ _ _ _
 ·exact jS hB (by omega) _ _ _ _ _
theorem zRW (w:World) (k p q r s n d:Int) (b:Nat) (hb:b<=400) (hn:¬ n<=0) (iP:n ≥ d) :
  Calls Tryz.prog 134 #[.agg #[.int .i64 k,.int .i64 p,.int .i64 q,.int .i64 r,.int .i64 s],.agg #[.int .i64 n,.int .i64 d],.int .i64 b] w (zG w b 30000 (1*Q b/1) (-(-(1*Q b)/1))):=by
 go_enter Tryz.func134,Tryz.ntmps134
 go_wp2_with fail;refine (zC8 _ b (by omega)).mono ?_
 rintro zz w1 ⟨u,rfl,A8,C7,b9⟩;have R:NoC w1 (w.heap.size+1+1):=NoC.bw ⟨by simp[go_sem],by simp[go_sem],by simp[go_sem],by simp[go_sem],by simp[go_sem],λ o=>by simp[go_sem]⟩ b9
 have hB:Below w.heap.size w w1:=zB (bl3 _ _ _ _ ) b9;obtain⟨q0,q1,q2,q3,q4,q5⟩:=R;have I3:=zC A8;clear A8 b9;go_wp2_with fail;refine bodyPost_ret (v:=.agg u.q) (by simp[results,Tryz.results134,go_sem,q0,q1,q2,q3,q4]) rfl ⟨u,rfl,zA I3,?_,?_⟩
 ·exact SpAt.put5 (C7.mono (by omega)) q0 q1 q2 q3 q4 _ _ _ _ _
 ·exact jS hB (by omega) _ _ _ _ _
theorem lwait_iv (k p q r s n d:Int) (b:Nat) (G7:40<=b) (hb:b<=400) (hn:0<n) (T7:rok p q) (P2:rok n d) (hp:0<p) (L9:p<=100*q) :
  BlX 132 #[.agg #[.int .i64 k,.int .i64 p,.int .i64 q,.int .i64 r,.int .i64 s],.agg #[.int .i64 n,.int .i64 d],.int .i64 b] (λ M=>1-Ev (λ _=>((-p*n:Int):Rat)/((q*d:Int):Rat)) M) b:=by
 obtain⟨a1,a2,a3,a4⟩:=T7;obtain⟨c1,c2,c3,c4⟩:=P2;have pn:=Int.mul_pos hp hn;have pn2:=Int.mul_le_mul a2 c2 (by omega) (by omega)
 have qd:=Int.mul_pos (show 0<q by omega) (show 0<d by omega)
 have qd2:=Int.mul_le_mul a4 c4 (by omega) (by omega)
 have e1 : -p*n = -(p*n):=Int.neg_mul _ _
 have wi:WaIn (p*n) (q*d):=⟨pn,qd,by omega,by
  have m1:=Int.mul_le_mul L9 c2 (by omega) (by omega)
  have m2:=Za (show 1<=d by omega) (show 0<=q by omega)
  omega⟩
 obtain⟨l,t,N,g1,g2,g3,g4,g5⟩:=wa_set wi G7;obtain⟨f1,f2⟩:=wa_ok wi G7 hb g3 g1 g2 g4 g5;have HW:=zC (show IntKind.i64.wrap (-p) = -p from jI _ (by omega) (by omega))
 have Z6:=zC (show IntKind.i64.wrap (-p*n) = -(p*n) by rw[e1];exact jI _ (by omega) (by omega))
 have bo:=zC (show IntKind.i64.wrap (q*d)=q*d from jI _ (by omega) (by omega))
 have HQ:=zC (show (-9223372036854775808 <= -(p*n) /\ -(p*n)<=9223372036854775807) /\ -9223372036854775808<=q*d/\q*d<=9223372036854775807/\0<q*d from⟨⟨by omega,by omega⟩,by omega,by omega,qd⟩)
 have HP:=zC (And.intro g1 (And.intro g2 (And.intro g4 g5)))
 have HB:=zC (show Q (b+2)<P 60/\∀ i,i<=t -> -P 60<(sqI b (zM (zV b (zF (ofI (-(p*n)) (q*d) b) t)) N) i).1/\(sqI b (zM (zV b (zF (ofI (-(p*n)) (q*d) b) t)) N) i).2<P 60 by
  have h1:=zH (show b+3<=16*60 by omega)
  rw[Q_P] at h1;have h2:Q (b+3)=2*Q (b+2):=rfl;have h3:Q (b+2)=2*(2*Q b):=rfl;have:=zE b
  exact⟨by omega,λ i _=>by have:=f1 i;omega⟩)
 have hle:=kO (n := -(p*n)) qd b;have ee:(λ M=>1-Ev (λ _=>((-p*n:Int):Rat)/((q*d:Int):Rat)) M)=λ M=>1-Ev (λ _=>((-(p*n):Int):Rat)/((q*d:Int):Rat)) M:=by rw[e1]
 rw[ee];refine⟨_,f2,λ w=>?_⟩
 have pY:¬ n<=0:=by omega
 clear f1 f2 g1 g2 g4 g5 wi pn pn2 qd qd2 e1 ee a1 a2 a3 a4 c1 c2 c3 c4 hp L9;obtain⟨W,hW⟩:∃ W,W=((w.alloc (.cells #[.int .i64 k,.int .i64 p,.int .i64 q,.int .i64 r,.int .i64 s] 25)).alloc (.cells #[.int .i64 n,.int .i64 d] 23)).alloc (.cells zCq 31):=⟨_,rfl⟩;have j8:Below w.heap.size w W:=by rw[hW];exact bl3 _ _ _ _
 have A:LwC W w.heap.size k p q r s:=by rw[hW];constructor<;>simp[go_sem]
 have D:RaC W (w.heap.size+1) n d:=by rw[hW];constructor<;>simp[go_sem]
 have R:NoC W (w.heap.size+1+1):=by rw[hW];constructor<;>simp[go_sem]
 have lR:=R.lt;have lA:=A.lt;have lD:=D.lt;have HK:=zC (show ∀ w',Below W.heap.size W w'->(rK w' w.heap.size k p (w'.cell? ⟨w.heap.size,2,none⟩=some (.int .i64 q)/\w'.cell? ⟨w.heap.size,3,none⟩=some (.int .i64 r)/\w'.cell? ⟨w.heap.size,4,none⟩=some (.int .i64 s)/\rK0 w' (w.heap.size+1) n d)) from λ w' hB=>⟨(A.bw hB).c0,(A.bw hB).c1,(A.bw hB).c2,(A.bw hB).c3,(A.bw hB).c4,(D.bw hB).c0,(D.bw hB).c1⟩)
 clear A D
 go_enter Tryz.func132,Tryz.ntmps132
 go_wp2;rw[<- hW];clear hW;have D7:Below W.heap.size W W.drew:=(Below.refl _ _).drew;have n1:w.heap.size+1+1≠w.heap.size:=by omega
 have n2:w.heap.size+1+1≠w.heap.size+1:=by omega
 obtain⟨x0,x1,x2,x3,x4,x5,x6⟩:=zA HK _ (Below.refl _ _)
 go_region_held3 (λ w'=>rK w' w.heap.size k p (w'.cell? ⟨w.heap.size,2,none⟩=some (.int .i64 q)/\w'.cell? ⟨w.heap.size,3,none⟩=some (.int .i64 r)/\w'.cell? ⟨w.heap.size,4,none⟩=some (.int .i64 s)/\rK0 w' (w.heap.size+1) n d)) (first|exact zA HK _ (by with_reducible first|exact D7|exact O7|exact I1|exact D3|exact o9|exact A6)|(dsimp only[cK,cK0,nK,nK0,rK,rK0];go_keep)|go_keep)
  (first
   | (go_at_call 48;have O4:=I1;refine (zGH _ v4 60 b _ qh (zA Ew) (by omega) (by omega) (by omega)).mono ?_;rintro zz w5 ⟨u,rfl,A8,C7,D8⟩;have O7:=zB I1 D8;have I3:=zC A8;clear A8;obtain⟨q0,q1,q2,q3,q4,q5⟩:=R.bw O7;obtain⟨i0,i1,i2,i3,i4,i5,i6⟩:=zA HK _ O7)
   | (go_at_call 77;have O4:=D3;refine (zGQ _ v3 60 b t N (ofI (-(p*n)) (q*d) b) l (bD.mono (by omega)) (zA iH) hle (by omega) (by omega) (zA HP).1 (zA HP).2.1 (by omega) (zA HP).2.2.1 (zA HP).2.2.2 (zA HB).1 (zA HB).2 (by omega)).mono ?_;rintro zz w4 ⟨v4,rfl,ba,qh,y9⟩;have I1:=zB D3 y9;have Ew:=zC ba;clear ba)
   | (go_at_call 88;have O4:=o9;refine (jL _ _ _ _ _ _ _ _ 4 4 b (-(p*n)) (q*d) _ (o8.bw j7) A5 (by omega) (by omega) (zA HQ).2.2.2).mono ?_;rintro zz w3 ⟨v3,rfl,I0,bD,o7⟩;have D3:=zB o9 o7;have iH:=zC I0;clear I0)
   | (go_at_call 33;have O4:=A6;(try rw[zA bo]);refine (zD (q*d) _ (zA HQ).2.1 (zA HQ).2.2.1).mono ?_;rintro zz w2 ⟨j6,a2,m2,c2,rfl,A5,j7⟩;have o9:=zB A6 j7)
   | (go_at_call 33;(first|rw[zA HW,zA Z6]|rw[zA Z6]);refine (zD (-(p*n)) _ (zA HQ).1.1 (zA HQ).1.2).mono ?_;rintro zz w1 ⟨m9,a1,m1,c1,rfl,o8,b9⟩;have A6:=zB D7 b9))
 all_goals
  go_wp2;refine bodyPost_ret (v:=.agg u.q) (by simp[results,Tryz.results132,go_sem,q0,q1,q2,q3,q4]) rfl ⟨u,rfl,zA I3,?_,?_⟩
  ·exact SpAt.put5 (C7.mono (by omega)) q0 q1 q2 q3 q4 _ _ _ _ _
  ·exact jS (zB j8 O7) (by omega) _ _ _ _ _
theorem zR7 (L G:Rat->Nat->Rat) (X:Int->Int->Nat->Rat) (hE:zP1 L G X) (k p q r s n d:Int) (b:Nat) (G7:40<=b) (hb:b<=400) (hn:0<n) (T7:rok p q) (P2:rok n d) (qe:rok r s) (hp:0<p) (L9:p<=100*q) (hr:0<r) :
  BlX 133 #[.agg #[.int .i64 k,.int .i64 p,.int .i64 q,.int .i64 r,.int .i64 s],.agg #[.int .i64 n,.int .i64 d],.int .i64 b] (lwX L p q (r*n) (s*d) (gmV p q (G (gA p q)))) b:=by
 obtain⟨a1,a2,a3,a4⟩:=T7;obtain⟨c1,c2,c3,c4⟩:=P2;obtain⟨d1,d2,d3,d4⟩:=qe;have rn:=Int.mul_pos hr hn;have rn2:=Int.mul_le_mul d2 c2 (by omega) (by omega)
 have sd:=Int.mul_pos (show 0<s by omega) (show 0<d by omega)
 have sd2:=Int.mul_le_mul d4 c4 (by omega) (by omega)
 obtain⟨c,E4,G3⟩:=lower_ps L G X hE p q (r*n) (s*d) b ⟨hp,by omega,L9,by omega,by omega,sd,by omega,by omega,G7,hb⟩ rn
 refine⟨c,E4,λ w=>?_⟩
 have Ti:=zC G3;clear E4 G3;have Z6:=zC (show IntKind.i64.wrap (r*n)=r*n from jI _ (by omega) (by omega))
 have bo:=zC (show IntKind.i64.wrap (s*d)=s*d from jI _ (by omega) (by omega))
 have HQ:=zC (show (-9223372036854775808<=r*n/\r*n<=9223372036854775807) /\ -9223372036854775808<=s*d/\s*d<=9223372036854775807 from⟨⟨by omega,by omega⟩,by omega,by omega⟩)
 have pY:¬ n<=0:=by omega
 clear rn rn2 sd sd2 a1 a2 a3 a4 c1 c2 c3 c4 d1 d2 d3 d4 hp L9 hr;obtain⟨W,hW⟩:∃ W,W=((w.alloc (.cells #[.int .i64 k,.int .i64 p,.int .i64 q,.int .i64 r,.int .i64 s] 25)).alloc (.cells #[.int .i64 n,.int .i64 d] 23)).alloc (.cells zCq 31):=⟨_,rfl⟩;have j8:Below w.heap.size w W:=by rw[hW];exact bl3 _ _ _ _
 have A:LwC W w.heap.size k p q r s:=by rw[hW];constructor<;>simp[go_sem]
 have D:RaC W (w.heap.size+1) n d:=by rw[hW];constructor<;>simp[go_sem]
 have R:NoC W (w.heap.size+1+1):=by rw[hW];constructor<;>simp[go_sem]
 have lR:=R.lt;have lA:=A.lt;have lD:=D.lt;have HK:=zC (show ∀ w',Below W.heap.size W w'->(rK w' w.heap.size k p (w'.cell? ⟨w.heap.size,2,none⟩=some (.int .i64 q)/\w'.cell? ⟨w.heap.size,3,none⟩=some (.int .i64 r)/\w'.cell? ⟨w.heap.size,4,none⟩=some (.int .i64 s)/\rK0 w' (w.heap.size+1) n d)) from λ w' hB=>⟨(A.bw hB).c0,(A.bw hB).c1,(A.bw hB).c2,(A.bw hB).c3,(A.bw hB).c4,(D.bw hB).c0,(D.bw hB).c1⟩)
 clear A D
 go_enter Tryz.func133,Tryz.ntmps133
 go_wp2;rw[<- hW];clear hW;have D7:Below W.heap.size W W.drew:=(Below.refl _ _).drew;have n1:w.heap.size+1+1≠w.heap.size:=by omega
 have n2:w.heap.size+1+1≠w.heap.size+1:=by omega
 obtain⟨x0,x1,x2,x3,x4,x5,x6⟩:=zA HK _ (Below.refl _ _)
 go_region_held3 (λ w'=>rK w' w.heap.size k p (w'.cell? ⟨w.heap.size,2,none⟩=some (.int .i64 q)/\w'.cell? ⟨w.heap.size,3,none⟩=some (.int .i64 r)/\w'.cell? ⟨w.heap.size,4,none⟩=some (.int .i64 s)/\rK0 w' (w.heap.size+1) n d)) (first|exact zA HK _ (by with_reducible first|exact D7|exact D3|exact o9|exact A6)|(dsimp only[cK,cK0,nK,nK0,rK,rK0];go_keep)|go_keep)
  (first
   | (go_at_call 159;have O4:=o9;refine (zA Ti _ ⟨m9,a1,m1,c1⟩ ⟨j6,a2,m2,c2⟩ (o8.bw j7) A5).mono ?_;rintro zz w3 ⟨u,rfl,A8,C7,o7⟩;have D3:=zB o9 o7;have I3:=zC A8;clear A8;obtain⟨q0,q1,q2,q3,q4,q5⟩:=R.bw D3;obtain⟨i0,i1,i2,i3,i4,i5,i6⟩:=zA HK _ D3)
   | (go_at_call 33;have O4:=A6;(try rw[zA bo]);refine (zD (s*d) _ (zA HQ).2.1 (zA HQ).2.2).mono ?_;rintro zz w2 ⟨j6,a2,m2,c2,rfl,A5,j7⟩;have o9:=zB A6 j7)
   | (go_at_call 33;(try rw[zA Z6]);refine (zD (r*n) _ (zA HQ).1.1 (zA HQ).1.2).mono ?_;rintro zz w1 ⟨m9,a1,m1,c1,rfl,o8,b9⟩;have A6:=zB D7 b9))
 all_goals
  go_wp2;refine bodyPost_ret (v:=.agg u.q) (by simp[results,Tryz.results133,go_sem,q0,q1,q2,q3,q4]) rfl ⟨u,rfl,zA I3,?_,?_⟩
  ·exact SpAt.put5 (C7.mono (by omega)) q0 q1 q2 q3 q4 _ _ _ _ _
  ·exact jS (zB j8 D3) (by omega) _ _ _ _ _
theorem lbeta_iv (L G:Rat->Nat->Rat) (X:Int->Int->Nat->Rat) (hE:zP1 L G X) (k p q r s n d:Int) (b:Nat) (G7:40<=b) (hb:b<=400) (hn:0<n) (iP:n<d) (T7:rok p q) (P2:rok n d) (qe:rok r s) (hp:0<p) (L9:p<=100*q) (hr:0<r) (hs:r<=100*s) :
  BlX 134 #[.agg #[.int .i64 k,.int .i64 p,.int .i64 q,.int .i64 r,.int .i64 s],.agg #[.int .i64 n,.int .i64 d],.int .i64 b] (bvX L p q r s n d) b:=by
 obtain⟨a1,a2,a3,a4⟩:=T7;obtain⟨c1,c2,c3,c4⟩:=P2;obtain⟨d1,d2,d3,d4⟩:=qe;obtain⟨c,E4,G3⟩:=zNX L G X hE p q r s n d b ⟨hp,by omega,L9,by omega,hr,by omega,hs,by omega,by omega,by omega,by omega,by omega,G7,hb⟩ hn iP
 refine⟨c,E4,λ w=>?_⟩
 have GC:=zC G3;clear E4 G3;have pY:¬ n<=0:=by omega
 have YB:¬ n ≥ d:=by omega
 have YC:¬ d<=n:=by omega
 clear a1 a2 a3 a4 d1 d2 d3 d4 hp L9 hr hs;obtain⟨W,hW⟩:∃ W,W=((w.alloc (.cells #[.int .i64 k,.int .i64 p,.int .i64 q,.int .i64 r,.int .i64 s] 25)).alloc (.cells #[.int .i64 n,.int .i64 d] 23)).alloc (.cells zCq 31):=⟨_,rfl⟩;have j8:Below w.heap.size w W:=by rw[hW];exact bl3 _ _ _ _
 have A:LwC W w.heap.size k p q r s:=by rw[hW];constructor<;>simp[go_sem]
 have D:RaC W (w.heap.size+1) n d:=by rw[hW];constructor<;>simp[go_sem]
 have R:NoC W (w.heap.size+1+1):=by rw[hW];constructor<;>simp[go_sem]
 have lR:=R.lt;have lA:=A.lt;have lD:=D.lt;have HK:=zC (show ∀ w',Below W.heap.size W w'->(rK w' w.heap.size k p (w'.cell? ⟨w.heap.size,2,none⟩=some (.int .i64 q)/\w'.cell? ⟨w.heap.size,3,none⟩=some (.int .i64 r)/\w'.cell? ⟨w.heap.size,4,none⟩=some (.int .i64 s)/\rK0 w' (w.heap.size+1) n d)) from λ w' hB=>⟨(A.bw hB).c0,(A.bw hB).c1,(A.bw hB).c2,(A.bw hB).c3,(A.bw hB).c4,(D.bw hB).c0,(D.bw hB).c1⟩)
 clear A D
 go_enter Tryz.func134,Tryz.ntmps134
 go_wp2;rw[<- hW];clear hW;have D7:Below W.heap.size W W.drew:=(Below.refl _ _).drew;have n1:w.heap.size+1+1≠w.heap.size:=by omega
 have n2:w.heap.size+1+1≠w.heap.size+1:=by omega
 obtain⟨x0,x1,x2,x3,x4,x5,x6⟩:=zA HK _ (Below.refl _ _)
 go_region_held3 (λ w'=>rK w' w.heap.size k p (w'.cell? ⟨w.heap.size,2,none⟩=some (.int .i64 q)/\w'.cell? ⟨w.heap.size,3,none⟩=some (.int .i64 r)/\w'.cell? ⟨w.heap.size,4,none⟩=some (.int .i64 s)/\rK0 w' (w.heap.size+1) n d)) (first|exact zA HK _ (by with_reducible first|exact D7|exact D3|exact o9|exact A6)|(dsimp only[cK,cK0,nK,nK0,rK,rK0];go_keep)|go_keep)
  (first
   | (go_at_call 160;have O4:=o9;refine (zA GC _ ⟨m9,a1,m1,e1⟩ ⟨j6,a2,m2,e2⟩ (o8.bw j7) A5).mono ?_;rintro zz w3 ⟨u,rfl,A8,C7,o7⟩;have D3:=zB o9 o7;have I3:=zC A8;clear A8;obtain⟨q0,q1,q2,q3,q4,q5⟩:=R.bw D3;obtain⟨i0,i1,i2,i3,i4,i5,i6⟩:=zA HK _ D3)
   | (go_at_call 33;have O4:=A6;refine (zD d _ (by omega) (by omega)).mono ?_;rintro zz w2 ⟨j6,a2,m2,e2,rfl,A5,j7⟩;have o9:=zB A6 j7)
   | (go_at_call 33;refine (zD n _ (by omega) (by omega)).mono ?_;rintro zz w1 ⟨m9,a1,m1,e1,rfl,o8,b9⟩;have A6:=zB D7 b9))
 all_goals
  go_wp2;refine bodyPost_ret (v:=.agg u.q) (by simp[results,Tryz.results134,go_sem,q0,q1,q2,q3,q4]) rfl ⟨u,rfl,zA I3,?_,?_⟩
  ·exact SpAt.put5 (C7.mono (by omega)) q0 q1 q2 q3 q4 _ _ _ _ _
  ·exact jS (zB j8 D3) (by omega) _ _ _ _ _
theorem ra1_off (w:World) (B0 B1 B2:Nat) (s:Sp) (last p q:Int) (k b:Nat) (j:Int) (a:Int × Int) (hs:SpAt w s k a.1 a.2) (X:IcC w B0 last) (D:IcC w B1 (b:Int)) (Z:RaC w B2 p q) (hj:last<j) :
  Calls Tryz.prog 189 #[.agg s.q,.int .i64 j,.pointer (some ⟨B0,0,none⟩),.pointer (some ⟨B1,0,none⟩),.pointer (some ⟨B2,0,none⟩)] w (zG w b (k+4+10) 0 0):=by
 have l0:=X.lt;have l1:=D.lt;have o0:=X.c0;have o1:=D.c0;have Dq:B0≠w.heap.size:=by omega
 have Fs:B1≠w.heap.size:=by omega
 clear hs Z X D
 go_enter Tryz.func189,Tryz.ntmps189
 go_wp2_with fail;refine bodyPost_ret (v:=.agg #[.bool false,.slice none 0 0,.bool false,.slice none 0 0,.int .i64 (b:Int)]) (by simp[results,Tryz.results189,go_sem]) rfl ⟨⟨false,none,0,0,false,none,0,0,(b:Int)⟩,rfl,rfl,⟨zE6 _ _,zE6 _ _⟩,?_⟩
 first|exact bl2 _ _ _|exact jS (bl2 _ _ _) (by omega) _ _ _ _ _
theorem ra1_iv (w:World) (B0 B1 B2:Nat) (s:Sp) (last p q:Int) (k b:Nat) (j:Int) (a:Int × Int) (hs:SpAt w s k a.1 a.2) (X:IcC w B0 last) (D:IcC w B1 (b:Int)) (Z:RaC w B2 p q) (hk:k<=100000000) (hb:s.bits=(b:Int)) (hj:¬ last<j) (Cn:0<j) (Co:j<=1000000000) (hr:rok p q) :
  Calls Tryz.prog 189 #[.agg s.q,.int .i64 j,.pointer (some ⟨B0,0,none⟩),.pointer (some ⟨B1,0,none⟩),.pointer (some ⟨B2,0,none⟩)] w (zG w b (k+4+10) (zJ a p (q*j)).1 (zJ a p (q*j)).2):=by
 obtain⟨a1,a2,a3,a4⟩:=hr;have qj:=Int.mul_pos (show 0<q by omega) Cn
 have qj2:=Int.mul_le_mul a4 Co (by omega) (by omega)
 have HE:=zC (show IntKind.i64.wrap (q*j)=q*j from jI _ (by omega) (by omega))
 have HQ:=zC (show -9223372036854775808<=q*j/\q*j<=9223372036854775807/\0<q*j from⟨by omega,by omega,qj⟩)
 obtain⟨W,hW⟩:∃ W,W=(w.alloc (.cells s.q 31)).alloc (.cells zCq 31):=⟨_,rfl⟩;have j8:Below w.heap.size w W:=by rw[hW];exact bl2 _ _ _
 have A:SpC W w.heap.size s:=by rw[hW];constructor<;>simp[go_sem]
 have R:NoC W (w.heap.size+1):=by rw[hW];constructor<;>simp[go_sem]
 have l0:=X.lt;have l1:=D.lt;have l2:=Z.lt;have o0:=X.c0;have o1:=D.c0;have o2:=Z.c0;have o3:=Z.c1;replace X:=X.bw j8;replace D:=D.bw j8;replace Z:=Z.bw j8;have lR:=R.lt;have lA:=A.lt;have HS:=zC (hs.bw j8);have HB:=zC hb;have D7:Below W.heap.size W W.drew:=(Below.refl _ _).drew;have HK:=zC (show ∀ w',Below W.heap.size W w'->(cK w' w.heap.size s (w'.cell? ⟨B0,0,none⟩=some (.int .i64 last)/\w'.cell? ⟨B1,0,none⟩=some (.int .i64 (b:Int))/\rK0 w' B2 p q)) from λ w' hB=>⟨(A.bw hB).c0,(A.bw hB).c1,(A.bw hB).c2,(A.bw hB).c3,(A.bw hB).c4,(X.bw hB).c0,(D.bw hB).c0,(Z.bw hB).c0,(Z.bw hB).c1⟩)
 clear X D Z A hs hb qj qj2
 go_enter Tryz.func189,Tryz.ntmps189
 go_wp2;rw[<- hW];clear hW o0 o1 o2 o3;have Dq:w.heap.size+1≠B0:=by omega
 have Fs:w.heap.size+1≠B1:=by omega
 have Rz:w.heap.size+1≠B2:=by omega
 obtain⟨x0,x1,x2,x3,x4,x5,x6,x7,x8⟩:=zA HK _ (Below.refl _ _)
 go_region_held3 (λ w'=>cK w' w.heap.size s (w'.cell? ⟨B0,0,none⟩=some (.int .i64 last)/\w'.cell? ⟨B1,0,none⟩=some (.int .i64 (b:Int))/\rK0 w' B2 p q)) (first|exact zA HK _ (by with_reducible first|exact D7|exact D3|exact o9|exact A6)|(dsimp only[cK,cK0,nK,nK0,rK,rK0];go_keep)|go_keep)
  (first
   | (go_at_call 151;have O4:=o9;refine (zBB _ s ⟨m9,e1,m1,c1⟩ ⟨j6,e2,m2,c2⟩ k 4 _ b a p (q*j) ((zA HS).bw o9) (o8.bw j7) A5 (by omega) (by omega) (zA HQ).2.2 (zA HB)).mono ?_;rintro zz w3 ⟨u,rfl,A8,C7,o7⟩;have D3:=zB o9 o7;have I3:=zC A8;clear A8;obtain⟨q0,q1,q2,q3,q4,q5⟩:=R.bw D3;obtain⟨i0,i1,i2,i3,i4,i5,i6,i7,i8⟩:=zA HK _ D3)
   | (go_at_call 33;have O4:=A6;(try rw[zA HE]);refine (zD (q*j) _ (zA HQ).1 (zA HQ).2.1).mono ?_;rintro zz w2 ⟨j6,e2,m2,c2,rfl,A5,j7⟩;have o9:=zB A6 j7)
   | (go_at_call 33;refine (zD p _ (by omega) (by omega)).mono ?_;rintro zz w1 ⟨m9,e1,m1,c1,rfl,o8,b9⟩;have A6:=zB D7 b9))
 all_goals
  go_wp2;refine bodyPost_ret (v:=.agg u.q) (by simp[results,Tryz.results189,go_sem,q0,q1,q2,q3,q4]) rfl ⟨u,rfl,zA I3,?_,?_⟩
  ·exact SpAt.put5 (C7) q0 q1 q2 q3 q4 _ _ _ _ _
  ·exact jS (zB j8 D3) (by omega) _ _ _ _ _
theorem en_ra (args:Array Value) (w:World):(callFunc 189 args).run Tryz.prog w=.ok (.enter 189 args) w:=by simp[go_sem,callFunc,Tryz.func189];kernel_rfl
theorem rareW_iv (p q last n d:Int) (b:Nat) (hr:rok p q) (hp:0<p) (L9:p<=100*q) (hl:0<=last) (W7:last<=1000000000) (iP:n/d=last) (G7:40<=b) (hb:b<=400) :
  BlX 161 #[.agg #[.int .i64 p,.int .i64 q],.int .i64 last,.int .i64 b] (raX p q n d) b:=by
 obtain⟨a1,a2,a3,a4⟩:=hr;have fT:0<q:=by omega
 obtain⟨NS,np,V5⟩:=ra_set (last:=last) hp fT L9 G7 hb;obtain⟨l,t,N,e1,e2,e3,e4,e5⟩:=zC3 (B:=b) (e:=7) (by omega) (kO fT b) (zFM (p:=p) (q:=q) (n:=100) (b:=b) (e:=7) fT (by omega) (by omega) (by decide))
 obtain⟨g1,g2,g3,g4,g5⟩:=ra_lw hp fT L9 hl iP G7 hb (show t<=15 by omega) e4 e5 np V5
 obtain⟨tn1,Sb⟩:=zL3 hp fT L9
 have PK:∀ j:Nat,j<=1900->Q j<P 130:=λ j hj=>by
  rw[<- Q_P];have h1:=zH (show j+1<=16*130 by omega)
  have h2:Q (j+1)=2*Q j:=rfl;have:=zE j;omega
 have pg:=zC (show -P 130<Q b/\Q b<P 130 by
  have:=PK b (by omega)
  have:=zE b
  exact⟨by omega,by omega⟩)
 have so:=zPH (last:=last) hp fT b
 have gm:=zC (show ∀ j,j<=NS -> -P 130<(raT p q last b j).1/\(raT p q last b j).2<P 130 from λ j _=>by
  have e:=zAF so j;have u:=(zN2 (last:=last) hp fT L9 G7 hb 0 (by omega))
  have v:=(zN2 (last:=last) hp fT L9 G7 hb (min j 1000000) (by omega)).2
  have k:=PK 1900 (by omega)
  have:=zE 1900;have w2:(raT p q last b j).2<=Q 1900:=(zN2 (last:=last) hp fT L9 G7 hb j (by omega)).2
  have l0:0<=(raT p q last b j).1:=e.1
  exact⟨by omega,by omega⟩)
 have gy:=zC (show ∀ j,j<=NS -> -P 130<(jE (raT p q last b) j).1/\(jE (raT p q last b) j).2<P 130 from λ j hj=>by
  have u:=(zN2 (last:=last) hp fT L9 G7 hb j (by omega)).1
  have l:Q b<=(jE (raT p q last b) j).1:=(zFP so j).2.2;have:=PK 1900 (by omega)
  have:=zE b;have:=zE 1900
  exact⟨by omega,by omega⟩)
 have gx:=zC (λ j=>show (raT p q last b j).1<=(raT p q last b j).2 from (zAF so j).2)
 have az:=zC (λ j=>show 0<=(raT p q last b j).1 from (zAF so j).1)
 have HM:=zC V5;have Z6:=zC (show IntKind.i64.wrap (2*p)=2*p from jI _ (by omega) (by omega))
 have bo:=zC (show (2*p).tdiv q=(zBZ p q:Int) by rw[Sb];exact Int.tdiv_eq_ediv_of_nonneg (by omega))
 have dJ:=zC (show IntKind.i64.wrap (zBZ p q:Int)=(zBZ p q:Int) from jI _ (by omega) (by omega))
 refine⟨(_,_),g5,λ w=>?_⟩
 have HP:=zC (And.intro e1 (And.intro e2 (And.intro e4 e5)))
 have rF:=zC (show Q (b+eb t)<P 700 by
  have m:=zH (show b+eb t<=4000 by (have:=zAP (show t<=15 by omega));(have h:eb 15=384:=(by decide));omega)
  have h1:=zH (show 4000+1<=16*700 by omega)
  rw[Q_P] at h1;have h2:Q (4000+1)=2*Q 4000:=rfl;have:=zE 4000
  omega)
 have ht:t<=15:=by omega
 have Xi:NS<=5700:=np;have HG:=zC (And.intro g1 (And.intro g2 (And.intro g3 g4)));clear so PK g1 g2 g3 g4 g5 e1 e2 e4 e5 V5 Sb np e3;obtain⟨W,hW⟩:∃ W,W=(((w.alloc (.cells #[.int .i64 p,.int .i64 q] 23)).alloc (.cells #[.int .i64 last] 3)).alloc (.cells #[.int .i64 (b:Int)] 3)).alloc (.cells zCq 31):=⟨_,rfl⟩;have j8:Below w.heap.size w W:=by rw[hW];exact bl4 _ _ _ _ _
 have A0:RaC W (w.heap.size) p q:=by rw[hW];constructor<;>simp[go_sem]
 have L0:IcC W (w.heap.size+1) last:=by rw[hW];exact⟨by simp[go_sem]⟩
 have B0:IcC W (w.heap.size+1+1) (b:Int):=by rw[hW];exact⟨by simp[go_sem]⟩
 have R:NoC W (w.heap.size+1+1+1):=by rw[hW];constructor<;>simp[go_sem]
 have lR:=R.lt
 have dK:=zC (show ∀ W',Below W.heap.size W W'->∀ (j:Nat) (u:Sp) w',j<NS->u.bits=(b:Int)->SpAt w' u 130 (raT p q last b j).1 (raT p q last b j).2->Below W'.heap.size W' w'->Calls Tryz.prog 189 #[.agg u.q,.int .i64 ((j:Int)+1),.pointer (some ⟨w.heap.size+1,0,none⟩),.pointer (some ⟨w.heap.size+1+1,0,none⟩),.pointer (some ⟨w.heap.size,0,none⟩)] w' (zG w' b 144 (raT p q last b (j+1)).1 (raT p q last b (j+1)).2) from λ W' BT j u w' hj A8 C7 M8=>by
  have ay:=zB BT M8;have ec:((j+1:Nat):Int)=(j:Int)+1:=by omega
  have e2:raT p q last b (j+1)=zJ (raT p q last b j) (raU p last (j+1)) (raD q last (j+1)):=rfl;rw[e2];unfold raU raD;rw[ec]
  by_cases c:last<(j:Int)+1
  ·have e:=ra1_off w' (w.heap.size+1) (w.heap.size+1+1) (w.heap.size) u last p q 130 b ((j:Int)+1) (raT p q last b j) C7 (L0.bw ay) (B0.bw ay) (A0.bw ay) c
   rw[if_pos c,if_pos c];have z:zJ (raT p q last b j) 0 1=(0,0):=by unfold zJ;simp
   rw[z];exact e
  ·have e:=ra1_iv w' (w.heap.size+1) (w.heap.size+1+1) (w.heap.size) u last p q 130 b ((j:Int)+1) (raT p q last b j) C7 (L0.bw ay) (B0.bw ay) (A0.bw ay) (by omega) A8 c (by omega) (by omega) ⟨a1,a2,a3,a4⟩
   rw[if_neg c,if_neg c,if_neg (by omega)]
   exact e)
 have HK:=zC (show ∀ w',Below W.heap.size W w'->(rK w' w.heap.size p q (w'.cell? ⟨(w.heap.size+1),0,none⟩=some (.int .i64 last)/\w'.cell? ⟨(w.heap.size+1+1),0,none⟩=some (.int .i64 (b:Int)))) from λ w' hB=>⟨(A0.bw hB).c0,(A0.bw hB).c1,(L0.bw hB).c0,(B0.bw hB).c0⟩)
 have dN:¬ q=0:=by omega
 have bl:¬ q = -1:=by omega
 have lA:=A0.lt;have lL:=L0.lt;have lB:=B0.lt;clear L0 B0
 go_enter Tryz.func161,Tryz.ntmps161
 go_wp2;rw[<- hW];clear hW;obtain⟨x0,x1,x2,x3⟩:=zA HK _ (Below.refl _ _)
 go_cut [7] (λ pz wx=>∃ (B:Nat) (u:Sp),pz=.pointer (some ⟨B,0,none⟩)/\W.heap.size<=B/\VrC wx B u/\SpAt wx u 133 (yC (raT p q last b) NS).1 (yC (raT p q last b) NS).2/\u.bits=(b:Int)/\Below W.heap.size W wx)
 case first =>
  go_region_held3 (λ w'=>rK w' w.heap.size p q (w'.cell? ⟨(w.heap.size+1),0,none⟩=some (.int .i64 last)/\w'.cell? ⟨(w.heap.size+1+1),0,none⟩=some (.int .i64 (b:Int)))) (exact zA HK _ (by repeat' (first|with_reducible exact K6|with_reducible exact I8|with_reducible exact Below.refl _ _|with_reducible refine Below.drew ?_|with_reducible refine zL ?_ _|with_reducible refine Below.setCell ?_ (by first|exact Zb _|exact T3|exact T4) _)))
   (first
    | (go_at_call 182;(try rw[zA Z6]);(try rw[zA bo]);(try rw[zA dJ]);have hq:=I8;refine (zEN _ #[.pointer (some ⟨w.heap.size+1,0,none⟩),.pointer (some ⟨w.heap.size+1+1,0,none⟩),.pointer (some ⟨w.heap.size,0,none⟩)] en_ra (raT p q last b) (zBZ p q) NS b 130 144 Kv _ ((zA mY).bw (by with_reducible first|exact Below.refl _ _|exact bl1 _ _)) (zA jd) (by omega) (by omega) (by omega) (by omega) (zA HM) (by omega) (by omega) (zA gx) (zA az) (zA gm) (zA gy) (zA dK _ (by with_reducible first|exact I8|exact zL I8 _))).mono ?_;rintro r fV ⟨DO,rfl,dH,Y7,S5⟩;have jf:=zC dH;clear dH;have Y5:Below cC.heap.size cC fV:=(by with_reducible first|exact S5|exact zB (bl1 _ _) S5);have K6:=zB I8 Y5;(try with_reducible have cR:=(zS cC 31).bw S5);(try replace ae:=ae.bw Y5);have T4:=K6.size;(try have oK:=ae.lt);(try have OY:=Zg oK);(try have Bl:=Zf oK);(try obtain⟨fY,fZ,mL,mM,mN,DR⟩:=ae);(try have oL:=cR.lt);(try have OZ:=Zg oL);(try have Bm:=Zf oL);(try obtain⟨gf,gi,mO,mP,mQ,DS⟩:=cR))
    | (go_at_call 93;refine (zC8 _ b (by omega)).mono ?_;rintro r' cC ⟨Kv,rfl,dG,J9,S4⟩;rw[show 1*Q b/1=Q b by rw[Int.ediv_one,Int.one_mul],show -(-(1*Q b)/1)=Q b by rw[Int.ediv_one,Int.one_mul,Int.neg_neg]] at J9;have jd:=zC dG;have mY:=zC (J9.fits (K:=130) (Int.le_refl _) (zA pg).1 (zA pg).2);clear dG J9;have I8:Below W.heap.size W cC:=(by with_reducible first|exact zB (Below.refl _ _).drew S4|exact zB (bl1 _ _).drew S4);(try with_reducible have ae:=((zS W 31).bw (Below.refl _ _).drew).bw S4);have T3:=I8.size))
  all_goals
   have hfinS:SpAt fV DO 133 (yC (raT p q last b) NS).1 (yC (raT p q last b) NS).2:=Y7;go_wp2_with fail;go_meet;refine⟨_,DO,rfl,?_,⟨⟨?_,?_,?_,?_,?_⟩,?_⟩,?_,zA jf,?_⟩
   ·first|exact Zb _|exact T3|exact T4
   ·simp[go_sem, *]
   ·simp[go_sem, *]
   ·simp[go_sem, *]
   ·simp[go_sem, *]
   ·simp[go_sem, *]
   ·intro o;simp[go_sem, *]
   ·first|with_reducible exact SpAt.put5 hfinS gf gi mO mP mQ _ _ _ _ _|with_reducible exact SpAt.put5 hfinS fY fZ mL mM mN _ _ _ _ _|with_reducible exact hfinS.bw (bl1 _ _)
   ·repeat' (first|with_reducible exact K6|with_reducible exact I8|with_reducible exact Below.refl _ _|with_reducible refine Below.drew ?_|with_reducible refine zL ?_ _|with_reducible refine Below.setCell ?_ (by first|exact Zb _|exact T3|exact T4) _)
 case rest =>
 obtain⟨BS,xS,rfl,yi,XS,hpS,hxbS,hblS⟩:=hcut;obtain⟨V7,IB⟩:∃ V,V=wc:=⟨_,rfl⟩;subst IB;have kS:=Zd lR yi;replace A0:=A0.bw hblS;replace R:=R.bw hblS;replace j8:=zB j8 hblS;have iW:=zC hpS;have gO:=zC hxbS;have XSC:=XS.c;clear hpS hxbS XS HK dK gx az gm gy Z6 bo dJ x0 x1 x2 x3 hblS lA lL lB;have lA:=A0.lt;have lS:=XSC.lt;have bg:=R.lt;obtain⟨y0,y1,y2,y3,y4⟩:=XSC;obtain⟨z0,z1⟩:=A0;go_wp2_with fail;refine (zHH _ xS p q 700 b t N l (yC (raT p q last b) NS) ((zA iW).mono (by omega)) (zA gO) (zA HG).2.2.2 ⟨a1,a2,a3,a4⟩ (by omega) (by omega) (by omega) (zA HP).1 (zA HP).2.1 (by omega) (zA HP).2.2.1 (zA HP).2.2.2 (zA rF) (by omega) (by omega)).mono ?_
 rintro r' w3 ⟨v3,rfl,I0,bD,o7⟩;replace R:=R.bw o7;replace j8:=zB j8 o7;have iH:=zC I0;clear I0 o7 y0 y1 y2 y3 y4 z0 z1;go_wp2_with fail;refine (zBR _ v3 (b/16+700+10) b _ _ bD (zA iH) (by omega) (by omega) (by omega)).mono ?_
 rintro r' w4 ⟨u,rfl,A8,C7,y9⟩;obtain⟨q0,q1,q2,q3,q4,q5⟩:=R.bw y9;replace j8:=zB j8 y9;have I3:=zC A8;clear A8 y9;rw[zEF] at C7;go_wp2_with fail;refine bodyPost_ret (v:=.agg u.q) (by simp[results,Tryz.results161,go_sem,q0,q1,q2,q3,q4]) rfl ⟨u,rfl,zA I3,?_,?_⟩
 ·exact SpAt.put5 (SpAt.mono C7 (by omega)) q0 q1 q2 q3 q4 _ _ _ _ _
 ·exact jS j8 (by omega) _ _ _ _ _
theorem lrare_no (w:World) (p q last n d:Int) (b:Nat) (hb:b<=2000) (hl:last<0) :
  Calls Tryz.prog 138 #[.agg #[.int .i64 p,.int .i64 q],.int .i64 last,.int .i64 b] w (zG w b 30000 (ofI 0 1 b).1 (ofI 0 1 b).2):=by
 go_enter Tryz.func138,Tryz.ntmps138
 go_wp2_with fail;refine (zEH _ b hb).mono ?_;rintro zz w1 ⟨u,rfl,A8,C7,b9⟩;have R:NoC w1 (w.heap.size+1):=NoC.bw ⟨by simp[go_sem],by simp[go_sem],by simp[go_sem],by simp[go_sem],by simp[go_sem],λ o=>by simp[go_sem]⟩ b9
 have hB:Below w.heap.size w w1:=zB (bl2 _ _ _ ) b9;obtain⟨q0,q1,q2,q3,q4,q5⟩:=R;have I3:=zC A8;clear A8 b9;go_wp2_with fail;refine bodyPost_ret (v:=.agg u.q) (by simp[results,Tryz.results138,go_sem,q0,q1,q2,q3,q4]) rfl ⟨u,rfl,zA I3,?_,?_⟩
 ·exact SpAt.put5 (C7.mono (by omega)) q0 q1 q2 q3 q4 _ _ _ _ _
 ·exact jS hB (by omega) _ _ _ _ _
theorem lrare_at (w:World) (p q last n d:Int) (b:Nat) (c:Int × Int) (hl:0<=last) (hC:∀ w',Calls Tryz.prog 161 #[.agg #[.int .i64 p,.int .i64 q],.int .i64 last,.int .i64 b] w' (zG w' b 30000 c.1 c.2)) :
  Calls Tryz.prog 138 #[.agg #[.int .i64 p,.int .i64 q],.int .i64 last,.int .i64 b] w (zG w b 30000 c.1 c.2):=by
 have HC:=zC hC;clear hC;have vn:¬ last<0:=by omega
 go_enter Tryz.func138,Tryz.ntmps138
 go_wp2_with fail;refine (zA HC _).mono ?_;rintro zz w1 ⟨u,rfl,A8,C7,b9⟩;have R:NoC w1 (w.heap.size+1):=NoC.bw ⟨by simp[go_sem],by simp[go_sem],by simp[go_sem],by simp[go_sem],by simp[go_sem],λ o=>by simp[go_sem]⟩ b9
 have hB:Below w.heap.size w w1:=zB (bl2 _ _ _ ) b9;obtain⟨q0,q1,q2,q3,q4,q5⟩:=R;have I3:=zC A8;clear A8 b9;go_wp2_with fail;refine bodyPost_ret (v:=.agg u.q) (by simp[results,Tryz.results138,go_sem,q0,q1,q2,q3,q4]) rfl ⟨u,rfl,zA I3,?_,?_⟩
 ·exact SpAt.put5 (C7) q0 q1 q2 q3 q4 _ _ _ _ _
 ·exact jS hB (by omega) _ _ _ _ _
theorem lrare_iv (p q last n d:Int) (b:Nat) (hr:rok p q) (hp:0<p) (L9:p<=100*q) (hl:0<=last) (W7:last<=1000000000) (iP:n/d=last) (G7:40<=b) (hb:b<=400):BlX 138 #[.agg #[.int .i64 p,.int .i64 q],.int .i64 last,.int .i64 b] (raX p q n d) b:=by
 obtain⟨c,c1,c2⟩:=rareW_iv p q last n d b hr hp L9 hl W7 iP G7 hb;exact⟨c,c1,λ w=>lrare_at w p q last n d b c hl c2⟩
end Go.Proofs.YtgmnknmjainabacGreat
