/-
  Its own texts.
-/
import Derived.Test.YtgmnknmjainabacGreatK12
set_option maxRecDepth 100000
set_option maxHeartbeats 40000000
set_option linter.unnecessarySimpa false
set_option linter.unusedSimpArgs false
set_option linter.unusedVariables false
namespace Go.Proofs.YtgmnknmjainabacGreat
open Go.RowKit
attribute [local go_sem ↓] Go.wp_at_zero Go.wp_at_succ
structure VnC (w:World) (B:Nat) (x:Nm):Prop where
 c:NmC w B x
 fz:∀ o,w.frozen? ⟨B,o,none⟩=false
theorem VnC.lt {w:World} {B:Nat} {x:Nm} (h:VnC w B x):B<w.heap.size:=h.c.lt
theorem VnC.bw {w w':World} {B:Nat} {x:Nm} (h:VnC w B x) (hb:Below w.heap.size w w'):VnC w' B x :=
 ⟨h.c.bw hb,λ o=>(hb.frozen (p:=⟨B,o,none⟩) h.lt).trans (h.fz o)⟩
abbrev zCF (w:World) (B:Nat) (x:Nm):World:=(w.setCell ⟨B,0,none⟩ (.bool x.neg)).setCell ⟨B,1,none⟩ (.slice x.a x.n x.cap)
theorem VnC.put {w:World} {B:Nat} {x:Nm} (h:VnC w B x) (y:Nm):VnC (zCF w B y) B y:=⟨zDG h.c y,zAA h.fz _ _⟩
theorem VnC.off {w:World} {B B':Nat} {x:Nm} (h:VnC w B x) (hne:B≠B') (y:Nm):VnC (zCF w B' y) B x:=⟨h.c.off hne _ _,zAA h.fz _ _⟩
theorem IntAt.putv {w:World} {neg:Bool} {a:Option Addr} {n cap k:Nat} {z:Int} (h:IntAt w neg a n cap k z) {B:Nat} {x:Nm} (hx:VnC w B x) (y:Nm):IntAt (zCF w B y) neg a n cap k z:=h.put2 hx.c.c0 hx.c.c1 _ _
theorem NoC.offv {w:World} {B B':Nat} (h:NoC w B) (hne:B≠B') (y:Nm):NoC (zCF w B' y) B:=by
 obtain⟨q0,q1,q2,q3,q4,q5⟩:=h;exact⟨by simp[go_sem,q0,hne,Ne.symm hne],by simp[go_sem,q1,hne,Ne.symm hne],by simp[go_sem,q2,hne,Ne.symm hne],by simp[go_sem,q3,hne,Ne.symm hne],by simp[go_sem,q4,hne,Ne.symm hne],zAA q5 _ _⟩
theorem zU2 (w:World) (x:Nm) (T:TypeId):VnC (w.alloc (.cells x.q T)) w.heap.size x:=⟨⟨by simp,by simp⟩,λ o=>by simp[go_sem]⟩
def zEP (x:Nat->Rat) (B:Nat) (lo hi:Int):Prop :=
 Iv B (lo,hi) x/\lo<=hi/\hi-lo<=Q 1702/\0<=lo/\hi<=Q B
theorem mas_ends (bits:Nat) (x:Nat->Rat) (h:bits<=120):zFL bits 1702 (zEP x):=λ m lo hi ⟨h1,h2,h3,h4,h5⟩=>by
 have:=zJ (show bits+m<=3200+m by omega)
 have:=zE (3200+m);rw[P200];exact⟨h2,h3,by omega,by omega⟩
theorem of_pr {N D:Int} (b:Nat) (hN:0<=N) (hD:0<D) (h:N<=D):zEP (λ _=>(N:Rat)/(D:Rat)) b (ofI N D b).1 (ofI N D b).2:=by
 have q:=zE b;have hw:=yC (n:=N) hD b;have h1:=Yt h (show 0<=Q b by omega)
 have q2:=zE 1702;refine⟨Iv.of b hD,yB hD b,by omega,Int.ediv_nonneg (Yz hN (by omega)) (by omega),?_⟩
 have h2 : -(Q b) <= -(N*Q b)/D:=Int.le_ediv_of_mul_le hD (by rw[Int.neg_mul,Int.mul_comm (Q b)];omega)
 show -(-(N*Q b)/D)<=Q b
 omega
open Ex in
theorem rare_pr {p q:Int} {b n t N:Nat} (hp:0<=p) (hq:0<q) (hb:40<=b) (j8:b<=2000) (ht:t<=17) (mO:Abs (zG (ofI p q b) t) (Q (b-8))) (hN:zT (zU b (zG (ofI p q b) t)) N) :
  let s:=ofI (p ^ n) (q ^ n*zBD n) b
  let e:=sqI b (zN (zU b (zG (ofI p q b) t)) N) t
  zEP (zCY p q n) b (zDW s.1 s.2 e.1 e.2 b) (zQB (zEV s.1 s.2 e.1 e.2 b) (Q b)):=by
 have qb:=zE b;have hD:0<q ^ n*zBD n:=Int.mul_pos (Int.pow_pos hq) (zCR n);have hP:0<=p ^ n:=Int.pow_nonneg hp;have hle:=yB (n:=p) hq b;have om:=yC (n:=p) hq b;have Dg:0<=(ofI p q b).1:=Int.ediv_nonneg (Yz hp (by omega)) (by omega)
 obtain⟨g1,g2,g3,g4⟩:=zCD (ws:=1) (by omega) mO hle (by have:=zE t;omega) hN
 have glow:=zLW Dg hle ht hb hN;have Ra:=zEX (N:=N) (by omega) (Iv.of b hq) mO
 have Dz:=zJ (zU3 ht);rw[wb_17] at Dz;have X8:=yB (n:=p ^ n) hD b;have T6:=yC (n:=p ^ n) hD b;have mL:0<=(ofI (p ^ n) (q ^ n*zBD n) b).1:=Int.ediv_nonneg (Yz hP (by omega)) (by omega)
 have Rx:=Iv.of b (n:=p ^ n) hD
 have KN:(ofI (p ^ n) (q ^ n*zBD n) b).1<=(sqI b (zN (zU b (zG (ofI p q b) t)) N) t).2:=Rx.touch_le Ra null_zero (n+1) (λ M hM=>by
  have h1:=(zQD (zAM hp hq) n M (by omega)).1
  rw[zMI hq] at h1
  show _<=E ((p:Rat)/(q:Rat)) M+0
  grind)
 intro s e
 have hdv:=Rx.dv Ra mL (by omega)
 have vE:=hdv.cap (n+1) (λ M hM=>(zN8 hp hq n M (by omega)).2)
 obtain⟨d1,d2⟩:=zJU (b:=b) mL X8 (show 0<(sqI b (zN (zU b (zG (ofI p q b) t)) N) t).1 by omega) g1
 have KX:=dv_wide (q:=Q b) (W:=Q 1700) (by omega) mL T6 KN g1 (by
  refine Int.le_trans g4 ?_
  have e:Q 1700=4194304*Q 1678:=by
   have:=jF 22 1678;rw[show 22+1678=1700 by omega] at this
   rw[this];rfl
  rw[e];have q2:=zE (wb t)
  exact Int.mul_le_mul (by omega) Dz (by omega) (by omega)) glow
 rw[<- d1,<- d2] at KX;have e2:Q 1702=4*Q 1700:=by have h:=jF 2 1700;rw[show 2+1700=1702 by omega] at h;rw[h];rfl
 have q17:=zE 1700;rw[<- zEF] at vE;have iz:zQB (zEV s.1 s.2 e.1 e.2 b) (Q b)<=zEV s.1 s.2 e.1 e.2 b:=by unfold zQB;split<;>omega
 have J5:zQB (zEV s.1 s.2 e.1 e.2 b) (Q b)<=Q b:=by unfold zQB;split<;>omega
 refine⟨vE,vE.le,?_,?_,J5⟩
 ·show zQB (zEV s.1 s.2 e.1 e.2 b) (Q b)-zDW s.1 s.2 e.1 e.2 b<=Q 1702
  have:zEV s.1 s.2 e.1 e.2 b-zDW s.1 s.2 e.1 e.2 b<=2*Q 1700+6:=KX;have hq17:6<=2*Q 1700:=by have:=zJ (show 2<=1700 by omega);have e:Q 2=4:=rfl;omega
  omega
 ·show 0<=zDW s.1 s.2 e.1 e.2 b
  have:zDW s.1 s.2 e.1 e.2 b=s.1*Q b/e.2:=d1;rw[this];exact Int.ediv_nonneg (Yz mL (by omega)) (by have:e.1<=e.2:=g1;have:Q b+1<=2*e.1:=glow;omega)
theorem fact_end {n i:Nat} (h1:1<=i) (h2:i=n\/(n<=1/\i=1)):zBD i=zBD n:=by
 rcases h2 with rfl|⟨h2,rfl⟩
 ·rfl
 ·match n,h2 with
  | 0,_=>rfl
  | 1,_=>rfl
structure RaSt (w wr:World) (B:Nat) (X:Nm) (p q:Int) (k:Nat) (v:Int):Prop where
 a:RaC wr w.heap.size p q
 x:VnC wr B X
 i:IntAt wr X.neg X.a X.n X.cap k v
 no:NoC wr (w.heap.size+1)
 be:Below w.heap.size w wr
 l:w.heap.size+1<B
theorem RaSt.bw {w wr wr':World} {B:Nat} {X:Nm} {p q:Int} {k:Nat} {v:Int} (h:RaSt w wr B X p q k v) (hb:Below wr.heap.size wr wr'):RaSt w wr' B X p q k v :=
 ⟨h.a.bw hb,h.x.bw hb,h.i.bw hb,h.no.bw hb,zB h.be hb,h.l⟩
theorem RaC.offv {w:World} {B B':Nat} {p q:Int} (h:RaC w B p q) (hne:B≠B') (y:Nm):RaC (zCF w B' y) B p q:=by
 obtain⟨q0,q1⟩:=h;constructor<;>simp[go_sem,q0,q1,hne,Ne.symm hne]
theorem RaSt.put {w wr:World} {B:Nat} {X Y:Nm} {p q:Int} {k k':Nat} {v v':Int} (h:RaSt w wr B X p q k v) (hy:IntAt wr Y.neg Y.a Y.n Y.cap k' v'):RaSt w (zCF wr B Y) B Y p q k' v' :=
 ⟨h.a.offv (by have:=h.l;omega) Y,h.x.put Y,hy.putv h.x Y,h.no.offv (by have:=h.l;omega) Y,zE2 h.be (by have:=h.l;omega) _ _,h.l⟩
theorem zPW (w:World) (p q:Int) (n b:Nat) (hr:rok p q) (hp:0<=p) (I8:p<=100*q) (hn:n<=100) (E8:40<=b) (hb:b<=2000) :
  Calls Tryz.prog 103 #[.agg #[.int .i64 p,.int .i64 q],.int .i64 n,.int .i64 b] w (λ r w'=>∃ lo hi,zEP (zCY p q n) b lo hi/\zH w b 6000 lo hi r w'):=by
 obtain⟨W,hW⟩:∃ W,W=(w.alloc (.cells #[.int .i64 p,.int .i64 q] 23)).alloc (.cells zCq 31):=⟨_,rfl⟩;have j6:Below w.heap.size w W:=by rw[hW];exact bl2 _ _ _
 have A:RaC W w.heap.size p q:=by rw[hW];constructor<;>simp[go_sem]
 have R:NoC W (w.heap.size+1):=by rw[hW];constructor<;>simp[go_sem]
 have hq:0<q:=by have:=hr.2.2.1;omega
 have HR:=zC hr;obtain⟨r1,r2,r3,r4⟩:=hr;have lA:=A.lt;have lR:=R.lt;obtain⟨x0,x1⟩:=A
 go_enter Tryz.func103,Tryz.ntmps103
 go_wp2_with fail;rw[<- hW];clear hW;refine (zBI q n _ (by omega) (by omega) (by omega)).mono ?_
 rintro r' w1 ⟨m7,a1,n1,c1,rfl,o8,b9⟩;have A1:RaC w1 w.heap.size p q:=RaC.bw ⟨x0,x1⟩ b9;have R1:=R.bw b9;have A7:=zB j6 b9;have rO:=R1.lt;clear R j6 b9 x0 x1 lA lR;obtain⟨V1,Q3⟩:∃ V1,V1=w1.alloc (.cells #[.bool m7,.slice a1 n1 c1] 29):=⟨_,rfl⟩;have ah:Below w1.heap.size w1 V1:=by rw[Q3];exact bl1 _ _
 have mY:RaSt w V1 w1.heap.size ⟨m7,a1,n1,c1⟩ p q (4*n+4+4*1) (q ^ n*zBD 1):=⟨A1.bw ah,by rw[Q3];exact zU2 w1 ⟨m7,a1,n1,c1⟩ _,by
  have e:q ^ n*zBD 1=q ^ n:=by show q ^ n*(1*((0:Nat)+1))=_;omega
  rw[e];exact (o8.bw ah).mono (by omega),R1.bw ah,zB A7 ah,rO⟩
 go_wp2_with fail;rw[<- Q3];clear Q3 ah o8 A1 R1 A7;obtain⟨BX,Ci⟩:∃ BX,BX=w1.heap.size:=⟨_,rfl⟩;rw[<- Ci] at mY ⊢;clear Ci rO
 go_loopw [8] (λ kk wr=>∃ (i:Nat) (X:Nm),kk=.int .i64 ((i:Int)+1)/\1<=i/\(i<=n\/i=1)/\RaSt w wr BX X p q (4*n+4+4*i) (q ^ n*zBD i)) (λ kk _=>n+2-(intOf kk).toNat)
 case atStart=>exact⟨1,_,rfl,Yy _,Or.inr rfl,mY⟩
 case round =>
  obtain⟨i,X,rfl,hi,hi2,st⟩:=hrel;clear mY
  by_cases I6:i+1<=n
  ·have mB:(i:Int)+1<=(n:Int):=by omega
   have HX:=zC st.x;have HI:=zC st.i;have gm:=zC st;clear st;go_wp2_with fail;have D5:Below wr.heap.size wr wr.drew:=(Below.refl _ _).drew;have ER:=zC (show ∀ w',Below wr.heap.size wr w'->(nK0 w' BX X) from λ w' hB=>⟨((zA HX).bw hB).c.c0,((zA HX).bw hB).c.c1⟩)
   refine AnyL.start (S:=λ w'=>nK0 w' BX X) (l:=4) (by kernel_rfl) (zA ER _ D5) (λ hHeld=>?_)
   refine AnyL.take (i:=0) (oi:={ dst:=some 18,op:=Go.Op.load 29 (Go.Operand.tmp 7),type:=29,pos := "rare.go:23",after:=#[],guard:=none }) (v:=.agg X.q) rfl (by kernel_rfl) (by kernel_rfl) (by kernel_rfl) (by kernel_rfl) (λ _ _ _ h=>h) (Or.inl ⟨by rfl,λ w hSw=>?_⟩) hHeld ?_
   ·obtain⟨s0,s1⟩:=hSw;go_simp
   try simp only[Act.put,Yo,Yp,Yq]
   refine AnyL.take (i:=1) (oi:={ dst:=some 19,op:=Go.Op.move (Go.Operand.tmp 8),type:=3,pos := "rare.go:23",after:=#[],guard:=none }) (v:=.int .i64 ((i:Int)+1)) rfl (by kernel_rfl) (by kernel_rfl) (by kernel_rfl) (by kernel_rfl) (λ _ _ _ h=>h) (Or.inl ⟨by rfl,λ w hSw=>?_⟩) hHeld ?_
   ·obtain⟨s0,s1⟩:=hSw;go_simp
   try simp only[Act.put,Yo,Yp,Yq]
   refine AnyL.one (i:=2) (o:={ dst:=some 20,op:=Go.Op.call { callee:=Go.Callee.value (Go.Operand.func 33),args:=#[Go.Operand.tmp 19],argTypes:=#[3] },type:=29,pos := "rare.go:23",after:=#[{ on:=1,ground:=Go.Ground.data }],guard:=none }) (by kernel_rfl) rfl (λ Kc I3=>?_)
   go_simp
   refine (zD ((i:Int)+1) _ (by omega) (by omega)).mono ?_
   rintro r' w1 ⟨m7,a1,n1,c1,rfl,o8,b9⟩;have y9:=zB D5 b9;clear b9;go_wp2_with fail;refine I3.out _ _ (zA ER _ y9) (λ hHeld=>?_)
   clear I3 Kc
   try simp only[Act.put,Yo,Yp,Yq]
   refine AnyL.one (i:=3) (o:={ dst:=some 21,op:=Go.Op.call { callee:=Go.Callee.value (Go.Operand.func 83),args:=#[Go.Operand.tmp 18,Go.Operand.tmp 20],argTypes:=#[29,29] },type:=29,pos := "rare.go:23",after:=#[{ on:=0,ground:=Go.Ground.data },{ on:=2,ground:=Go.Ground.data },{ on:=2,ground:=Go.Ground.chain }],guard:=none }) (by kernel_rfl) rfl (λ Kc I3=>?_)
   go_simp
   refine (zV _ _ _ _ _ _ _ _ (4*n+4+4*i) 4 (q ^ n*zBD i) ((i:Int)+1) _ ((zA HI).bw y9) o8 (by omega) (by omega)).mono ?_
   rintro r' w2 ⟨j7,a2,n2,c2,rfl,A5,j8⟩;have s9:=zB y9 j8;clear j8 o8;go_wp2_with fail;refine I3.out _ _ (zA ER _ s9) (λ hHeld=>?_)
   clear I3 Kc
   try simp only[Act.put,Yo,Yp,Yq]
   have VX:=(zA HX).bw s9;have lX:=VX.lt;obtain⟨⟨z0,z1⟩,zf⟩:=VX;refine AnyL.last (o:={ dst:=none,op:=Go.Op.store 29 (Go.Operand.tmp 7) (Go.Operand.tmp 21),type:=0,pos := "rare.go:23",after:=#[{ on:=3,ground:=Go.Ground.data },{ on:=3,ground:=Go.Ground.chain },{ on:=0,ground:=Go.Ground.phase },{ on:=1,ground:=Go.Ground.phase },{ on:=2,ground:=Go.Ground.phase },{ on:=3,ground:=Go.Ground.phase }],guard:=none }) (by kernel_rfl) rfl (by kernel_rfl) (λ Kc I3=>?_)
   go_simp
   refine I3.out _ _ ?_;clear I3 Kc z0 z1 zf ER;have stn:=((zA gm).bw s9).put (Y:=⟨j7,a2,n2,c2⟩) A5;unfold zCF at stn;rw[show q ^ n*zBD i*((i:Int)+1)=q ^ n*zBD (i+1) by rw[Int.mul_assoc];rfl] at stn
   go_wp2_with fail
   go_roundw
   case rel=>exact⟨i+1,_,by go_num,by omega,Or.inl (by omega),stn⟩
   case measure=>simp[intOf];omega
  ·have mB:¬ (i:Int)+1<=(n:Int):=by omega
   have Rc:=fact_end (n:=n) hi (by omega)
   have HI:=zC (show IntAt wr X.neg X.a X.n X.cap 900 (q ^ n*zBD n) by rw[<- Rc];exact st.i.mono (by omega))
   have D5:Below wr.heap.size wr wr.drew:=(Below.refl _ _).drew;have HK:=zC (show ∀ w',Below wr.heap.size wr w'->( rK w' w.heap.size p q (nK0 w' BX X)) from λ w' hB=>⟨(st.a.bw hB).c0,(st.a.bw hB).c1,(st.x.bw hB).c.c0,(st.x.bw hB).c.c1⟩)
   have la:=st.a.lt;have lx:=st.x.lt;have lr:=st.no.lt;have lb:=st.l;have R:=st.no;have nP:=st.be;have n1:w.heap.size≠w.heap.size+1:=by omega
   have n2:w.heap.size+1≠w.heap.size:=by omega
   have n3:BX≠w.heap.size+1:=by omega
   have n4:w.heap.size+1≠BX:=by omega
   have hD:0<q ^ n*zBD n:=Int.mul_pos (Int.pow_pos hq) (zCR n)
   obtain⟨lz,t,N,e1,e2,e3,e4,e5⟩:=zD1 (B:=b) (e:=7) (by omega) (yB (n:=p) hq b) (by
    have h1:=Yt I8 (show 0<=Q b by have:=zE b;omega)
    have h2:=Yz hp (show 0<=Q b by have:=zE b;omega)
    have h3:100*q*Q b=100*Q b*q:=by grind
    have:=zAF (zGN (n:=p) (m:=100*Q b) hq b (by omega) (by omega))
    have e9:Q (b+7)=Q b*128:=by rw[jF];rfl
    have:=zE b
    omega)
   have HT:=zC (And.intro e1 (And.intro e2 (And.intro e4 e5)));have M9:=zC (rare_pr (n:=n) hp hq E8 hb (by omega) e4 e5)
   have TS:=zC (show Q (b+eb t)<P 1000 by
    have:=zB2 (show t<=17 by omega)
    rw[eb_17] at this;rw[<- Q_P];have h1:=zJ (show b+eb t+1<=16*1000 by omega)
    have h2:Q (b+eb t+1)=2*Q (b+eb t):=rfl;have:=zE (b+eb t)
    omega)
   have He:=zC (yB (n:=p ^ n) hD b);clear e1 e2 e4 e5 st Rc;obtain⟨y0,y1,y2,y3⟩:=zA HK _ (Below.refl _ _);go_wp2_with fail
   go_region_held3 (λ w'=> rK w' w.heap.size p q (nK0 w' BX X)) (first|exact zA HK _ (by with_reducible first|exact D5|exact J1|exact G0|exact s9|exact y9)|(dsimp only[cK,cK0,nK,nK0,rK,rK0];go_keep)|go_keep)
    (first
     | (go_at_call 141;have O3:=G0;refine (zBR _ v3 (b/16+1000+10) b _ _ bg (zA iI) (by omega) (by omega) (by omega)).mono ?_;rintro r' w5 ⟨v4,rfl,aP,qQ,D8⟩;have ET:=zC aP;clear aP;have J1:=zB G0 D8;obtain⟨q0,q1,q2,q3,q4,q5⟩:=R.bw J1;obtain⟨z0,z1,z2,z3⟩:=zA HK _ J1)
     | (go_at_call 142;have O3:=s9;refine (zHI _ v2 p q 1000 b t N lz (ofI (p ^ n) (q ^ n*zBD n) b) (SpAt.mono X7 (by omega)) (zA dM) (zA He) (zA HR) E8 (by omega) hp (zA HT).1 (zA HT).2.1 (by omega) (zA HT).2.2.1 (zA HT).2.2.2 (zA TS) (by omega) (by omega)).mono ?_;rintro r' w4 ⟨v3,rfl,G7,bg,p9⟩;have iI:=zC G7;clear G7;have G0:=zB s9 p9)
     | (go_at_call 88;have O3:=y9;refine (jI _ _ _ _ _ _ _ _ (4*n+4) 900 b (p ^ n) (q ^ n*zBD n) _ o8 ((zA HI).bw y9) (by omega) (by omega) hD).mono ?_;rintro r' w3 ⟨v2,rfl,P5,X7,m8⟩;have dM:=zC P5;clear P5;have s9:=zB y9 m8)
     | (go_at_call 102;refine (zBI p n _ (by omega) (by omega) (by omega)).mono ?_;rintro r' w2 ⟨j7,a2,n2,c2,rfl,o8,j8⟩;have y9:=zB D5 j8))
   all_goals
    go_wp2_with fail;refine bodyPost_ret (v:=.agg v4.q) (by simp[results,Tryz.results103,go_sem,q0,q1,q2,q3,q4]) rfl ⟨_,_,zA M9,v4,rfl,zA ET,?_,?_⟩
    ·exact SpAt.put5 (qQ.mono (by omega)) q0 q1 q2 q3 q4 _ _ _ _ _
    ·exact jV (zB nP J1) (by omega) _ _ _ _ _
end Go.Proofs.YtgmnknmjainabacGreat
namespace Go.Proofs.YtgmnknmjainabacGreat.Ex
theorem dn_key {s h x Y K C1 A t q:Rat} (hx:0<=x) (hh:0<h) (h1:h<=1) (hY:x+h<=Y) (s0:0<=s) (sK:s<=K) (hA:A=2*Y+1) (iO:C1=K+A*(1+2*(Y*K))+2*(A*A)*(K+1+2*(Y*K))) (ht:t=h*(2*x+h)) (hq:1-t-2*(t*t)<=q):s+h<=(s+h+2*(x*h)*s)*q+C1*(h*h):=by
 have K0:0<=K:=by grind
 have Y0:0<=Y:=by grind
 have h0:=Yw hh;have ib:=Ys h0 h0;have a0:0<=2*x+h:=by grind
 have aA:2*x+h<=A:=by grind
 have A0:0<=A:=by grind
 have t0:0<=t:=by rw[ht];exact Ys h0 a0
 have tA:t<=A*h:=by have:=Yr aA h0;rw[ht];grind
 have tt:t*t<=A*A*(h*h):=by
  have p1:=Yr tA t0;have p2:=Yv tA (Ys A0 h0);grind
 obtain⟨p,hp⟩:∃ p,p=s+h+2*(x*h)*s:=⟨_,rfl⟩;have xh:=Ys hx h0;have xhs:=Ys xh s0;have p0:0<=p:=by rw[hp];grind
 have xs:x*s<=Y*K:=Rat.le_trans (Yv (show x<=Y by grind) s0) (Yr sK Y0)
 have pB:p<=K+1+2*(Y*K):=by
  have n1:=Yv h1 (Ys hx s0);rw[hp];grind
 have m1:=Yr hq p0;rw[<- hp];have e1:p*t=2*(x*h)*s+h*h*s+t*(h*(1+2*(x*s))):=by rw[hp,ht];grind
 have b1:=Yr sK ib;have c0:0<=h*(1+2*(x*s)):=Ys h0 (by have:=Ys hx s0;grind)
 have b2:=Yv tA c0;have b3:=Yr (show 1+2*(x*s)<=1+2*(Y*K) by grind) (Ys A0 ib)
 have pt:p*t<=2*(x*h)*s+(K+A*(1+2*(Y*K)))*(h*h):=by
  rw[e1];have e2:A*h*(h*(1+2*(x*s)))=A*(h*h)*(1+2*(x*s)):=by grind
  rw[e2] at b2;have e3:(K+A*(1+2*(Y*K)))*(h*h)=h*h*K+A*(h*h)*(1+2*(Y*K)):=by grind
  rw[e3];generalize h*h*s=w1 at *;generalize h*h*K=w2 at *;generalize A*(h*h)*(1+2*(x*s))=w3 at *;generalize A*(h*h)*(1+2*(Y*K))=w4 at *;generalize t*(h*(1+2*(x*s)))=w5 at *;generalize 2*(x*h)*s=w6 at *;clear e1 e2 e3 m1 hp ht iO;grind
 have q1:=Yv pB (zO t);have q2:=Yr tt (show 0<=K+1+2*(Y*K) by have:=Ys Y0 K0;grind)
 have e4:C1*(h*h)=(K+A*(1+2*(Y*K)))*(h*h)+2*((K+1+2*(Y*K))*(A*A*(h*h))):=by rw[iO];grind
 have e5:p*(1-t-2*(t*t))=p-p*t-2*(p*(t*t)):=by grind
 rw[e5] at m1;rw[e4];have e6:p=s+h+2*(x*h)*s:=hp;generalize p*q=w1 at *;generalize p*t=w2 at *;generalize p*(t*t)=w3 at *;generalize (K+1+2*(Y*K))*(t*t)=w4 at *;generalize (K+1+2*(Y*K))*(A*A*(h*h))=w5 at *;generalize (K+A*(1+2*(Y*K)))*(h*h)=w6 at *;generalize 2*(x*h)*s=w7 at *;clear e1 iO ht hp tt pB b1 b2 b3 c0 e4 e5;grind
theorem eF_dn {Y K V:Rat} (B:Bnd Y K V):∃ C D,0<=C/\0<D/\D<=1/\∀ x h,0<=x->0<h->h<=D->x+h<=Y->∃ z,Null z/\∃ N:Nat,∀ M,N<=M->eF x M+h*ex (-(x*x)) M<=eF (x+h) M+C*(h*h)+z M:=by
 obtain⟨A,hA⟩:∃ A,A=2*Y+1:=⟨_,rfl⟩;obtain⟨C1,iO⟩:∃ C1,C1=K+A*(1+2*(Y*K))+2*(A*A)*(K+1+2*(Y*K)):=⟨_,rfl⟩;have y0:=B.y0;have k0:=B.k0;have v1:=B.v1;have yk:=Ys y0 k0;have A0:0<=A:=by grind
 have AA:=Ys A0 A0
 have se:0<=C1:=by
  have a:=Ys A0 (show 0<=1+2*(Y*K) by grind)
  have b:=Ys (show 0<=2*(A*A) by grind) (show 0<=K+1+2*(Y*K) by grind)
  grind
 have A4:0<4*A:=by grind
 have dm:1/(4*A)*(4*A)=1:=rdm A4;have d0:0<1/(4*A):=zF (by grind) A4
 refine⟨C1*V,1/(4*A),Ys se (by grind),d0,jR A4 (by grind),λ x h hx hh hD hY=>?_⟩
 have h1:h<=1:=Rat.le_trans hD (jR A4 (by grind))
 have Yd:h*A<=1/4:=by have:=Yv hD A0;grind
 obtain⟨t,ht⟩:∃ t,t=h*(2*x+h):=⟨_,rfl⟩;have h0:=Yw hh;have t0:0<=t:=by rw[ht];exact Ys h0 (by grind)
 have t4:t<=1/4:=by
  have:=Yr (show 2*x+h<=A by grind) h0
  rw[ht];grind
 have sqe : -((x+h)*(x+h)) = -(x*x) + -t:=by rw[ht];grind
 have eb:Bdd (eS (x+h)):=Bdd.of_le K 0 λ M _=>⟨by have:=jQ (x:=x+h) (by grind) M;grind,B.s _ (by grind) hY M⟩
 have hz:=(zBB (-(x*x)) (-t)).bmul eb;have hT:=zRT hx
 have M5:Null (λ M=>eT x (M-1)):=λ e he=>by
  obtain⟨N,hN⟩:=hT e he;exact⟨N+1,λ M hM=>hN (M-1) (by omega)⟩
 have gJ:=(M5.bmul (Bdd.const (2*x*h))).bmul (jY (-(x*x)));obtain⟨N,hN⟩:=zBC (-(x*x));refine⟨_,gJ.add hz,N+2,λ M hM=>?_⟩
 have v0:=hN M (by omega)
 have vV:ex (-(x*x)) M<=V:=B.v _ (zO x) (by
  have xx:x*x<=Y*Y:=Rat.le_trans (Yr (show x<=Y by grind) hx) (Yv (show x<=Y by grind) y0)
  have:=Ys y0 y0
  grind) M
 have q:=zD9 t0 t4 (M:=M) (by omega)
 have qlo:1-t-2*(t*t)<=ex (-t) M:=by
  have:=(zAD (h := -t) (b:=t) ⟨by grind,by grind⟩ t4 (M:=M) (by omega)).1
  show _<=E (-t) M
  grind
 have q1:ex (-t) M<=1:=by
  have:=q.2;have tt3:t*t<=t*(1/4):=Yr t4 t0;grind
 obtain⟨m,rfl⟩:∃ m,M=m+1:=⟨M-1,by omega⟩
 have g:=zRP hx h0 m;have e2:eS x (m+1)=eS x m+eT x m:=rfl;have T0:=zAX hx m;have k:=dn_key (Y:=Y) (K:=K) hx hh h1 hY (jQ hx (m+1)) (B.s x hx (by grind) (m+1)) hA iO ht qlo
 simp only[Nat.add_sub_cancel];rw[zO8,zO8,sqe];have e4:eS x m=eS x (m+1)-eT x m:=by grind
 rw[e4] at g;generalize ex (-(x*x)) (m+1)=v at *;generalize ex (-(x*x) + -t) (m+1)=vt at *;generalize ex (-t) (m+1)=qq at *;generalize eS (x+h) (m+1)=s' at *;generalize eS x (m+1)=s at *;generalize eT x m=T at *;have k1:=Yv k v0;have g2:s+h+2*(x*h)*s<=s'+2*(x*h)*T:=by grind
 have vq:=Ys v0 q.1;have k2:=Yv g2 vq;have w0:=Ys (Ys (Ys hx h0) T0) v0;have w1:=Yr q1 w0;have ib:=Ys h0 h0;have k3:=Yr vV (Ys se ib);have r1:((s+h+2*(x*h)*s)*qq+C1*(h*h))*v=(s+h+2*(x*h)*s)*(v*qq)+C1*(h*h)*v:=by grind
 have r2:(s'+2*(x*h)*T)*(v*qq)=s'*(v*qq)+2*(x*h*T*v*qq):=by grind
 have r3:T*(2*x*h)*v+(v*qq-vt)*s'=2*(x*h*T*v*1)+s'*(v*qq)-s'*vt:=by grind
 have r4:(s+h)*v=s*v+h*v:=by grind
 have r5:C1*V*(h*h)=C1*(h*h)*V:=by grind
 rw[r1,r4] at k1;rw[r2] at k2;rw[r3,r5];generalize (s+h+2*(x*h)*s)*(v*qq)=g1 at *;generalize s'*(v*qq)=g3 at *;generalize x*h*T*v*qq=g4 at *;generalize x*h*T*v*1=g5 at *;generalize C1*(h*h)*v=g6 at *;generalize C1*(h*h)*V=g7 at *;generalize s'*vt=g8 at *;generalize s*v=g9 at *;generalize h*v=g10 at *;clear k g hz M5 gJ hT eb r1 r2 r3 r4 r5 iO dm;grind
end Go.Proofs.YtgmnknmjainabacGreat.Ex
namespace Go.Proofs.YtgmnknmjainabacGreat.Ex
theorem zRO {Y K V a b:Rat} (B:Bnd Y K V) (ha:0<=a) (iP:a<=b) (hb:b<=Y):LeN (λ M=>eF a M+(b-a)*ex (-(b*b)) M) (eF b):=by
 obtain⟨C,D,c0,d0,_,dn⟩:=eF_dn B
 have d:=zCN (f:=λ x M=>(x-a)*ex (-(b*b)) M-eF x M) (a:=a) (b:=b) (C:=C) (D:=D) iP c0 d0 (λ x h h1 h2 h3 h4=>by
  obtain⟨z,hz,N,k⟩:=dn x h (by grind) h2 h3 (by grind)
  have xx : -(b*b) <= -(x*x):=by
   have:=Yr (show x<=b by grind) (show 0<=x by grind)
   have:=Yv (show x<=b by grind) (show 0<=b by grind)
   grind
  obtain⟨z2,M5,k2⟩:=((zB3 xx).scale (Yw h2)).null
  exact⟨_,hz.add M5,N,λ M hM=>by have:=k M hM;have:=k2 M;grind⟩)
 intro e he
 obtain⟨N,k⟩:=d e he;exact⟨N,λ M hM=>by have:(b-a)*ex (-(b*b)) M-eF b M<=(a-a)*ex (-(b*b)) M-eF a M+e:=k M hM;grind⟩
theorem eF_right {Y K V x h:Rat} (B:Bnd Y K V) (hx:0<=x) (hh:0<=h) (j:Nat) (hj:(j:Rat)*h*x<=Y):LeN (λ M=>S (λ i=>x*h*ex (-((((i+1:Nat):Rat)*h*x)*(((i+1:Nat):Rat)*h*x))) M) j) (eF ((j:Rat)*h*x)):=by
 induction j with
 | zero =>
  refine LeN.of_le 0 λ M _=>?_
  rw[show ((0:Nat):Rat)*h*x=0 by grind,zH2]
  show (0:Rat)<=0
  grind
 | succ j ih =>
  have ec:((j+1:Nat):Rat)=(j:Rat)+1:=by push_cast;rfl
  have j0:(0:Rat)<=(j:Rat):=by exact_mod_cast Nat.zero_le j
  have mR:=Ys hh hx;have jh:=Ys (Ys j0 hh) hx;have pd:((j:Rat)+1)*h*x<=Y:=by rw[ec] at hj;exact hj
  have e:((j:Rat)+1)*h*x=(j:Rat)*h*x+h*x:=by grind
  have Ao:=ih (by grind)
  have c:=zRO B jh (show (j:Rat)*h*x<=((j+1:Nat):Rat)*h*x by rw[ec];grind) hj
  refine LeN.trans ?_ c;have:=Ao.add (LeN.refl (λ M=>(((j+1:Nat):Rat)*h*x-(j:Rat)*h*x)*ex (-((((j+1:Nat):Rat)*h*x)*(((j+1:Nat):Rat)*h*x))) M))
  refine LeN.trans (LeN.of_le 0 λ M _=>?_) this
  show S (λ i=>x*h*ex (-((((i+1:Nat):Rat)*h*x)*(((i+1:Nat):Rat)*h*x))) M) j+x*h*ex (-((((j+1:Nat):Rat)*h*x)*(((j+1:Nat):Rat)*h*x))) M<=S (λ i=>x*h*ex (-((((i+1:Nat):Rat)*h*x)*(((i+1:Nat):Rat)*h*x))) M) j+(((j+1:Nat):Rat)*h*x-(j:Rat)*h*x)*ex (-((((j+1:Nat):Rat)*h*x)*(((j+1:Nat):Rat)*h*x))) M
  have e9:((j+1:Nat):Rat)*h*x-(j:Rat)*h*x=x*h:=by rw[ec];grind
  rw[e9];exact Rat.le_refl
theorem S_shift (f:Nat->Rat) (n:Nat):S f n+f n=f 0+S (λ i=>f (i+1)) n:=by
 have:=zQO f n;exact this
theorem gE_le {Y K V x h:Rat} (B:Bnd Y K V) (hx:0<=x) (hxY:x<=Y) (hh:0<=h) (n:Nat) (hn:(n:Rat)*h=1):LeN (λ M=>x*gE h x n M) (λ M=>eF x M+x*h):=by
 have r:=eF_right (x:=x) B hx hh n (by rw[hn];grind)
 rw[hn,show 1*x=x by grind] at r
 obtain⟨z,hz,k⟩:=r.null;obtain⟨N,pos⟩:=zBC (-(((n:Rat)*h*x)*((n:Rat)*h*x)));refine LeN.of_null hz (N+1) λ M hM=>?_
 have a:=k M;have p:=pos M (by omega)
 have e0:ex (-((((0:Nat):Rat)*h*x)*(((0:Nat):Rat)*h*x))) M=1:=by
  have : -((((0:Nat):Rat)*h*x)*(((0:Nat):Rat)*h*x))=0:=by grind
  rw[this];obtain⟨m,rfl⟩:∃ m,M=m+1:=⟨M-1,by omega⟩
  exact kV m
 have s:=S_shift (λ i=>x*h*ex (-(((i:Rat)*h*x)*((i:Rat)*h*x))) M) n
 rw[gE_mul] at s;rw[e0] at s;have xh:=Ys (Ys hx hh) p;grind
theorem part_dn {Y K V x k s:Rat} (B:Bnd Y K V) (hx:0<=x) (hk:0<k) (k1:k<=1) (hY:x+k<=Y) (hs:0<=s) (hs1:s<=1) (hD:8*(k*(2*Y+1))<=1) :
  ∃ z,Null z/\∃ N:Nat,∀ M,N<=M->rI s*ex (-(x*x*(1+s*s))) M-2*(x*k)*(ex (-(x*x)) M*ex (-((s*x)*(s*x))) M)<=rI s*ex (-((x+k)*(x+k)*(1+s*s))) M+(1+8*((2*Y+1)*(2*Y+1)))*V*(k*k)+z M:=by
 obtain⟨c,hc⟩:∃ c,c=1+s*s:=⟨_,rfl⟩;have k0:=Yw hk;have y0:=B.y0;have ss:s*s<=1:=by have:=Yr hs1 hs;grind
 have ss0:=zO s;have rc:rI s*c=1:=by rw[hc];exact zKL s
 have r0:=Yw (zKM s);have r1:=rI_le s;obtain⟨t,ht⟩:∃ t,t=k*(2*x+k)*c:=⟨_,rfl⟩;obtain⟨A,hA⟩:∃ A,A=2*Y+1:=⟨_,rfl⟩;have A0:0<=A:=by grind
 have aA:2*x+k<=A:=by grind
 have ka:k*(2*x+k)<=k*A:=Yr aA k0;have DC:0<=k*(2*x+k):=Ys k0 (by grind)
 have t0:0<=t:=by rw[ht];exact Ys DC (by grind)
 have t2:t<=2*(k*A):=by
  have a:=Yr (show c<=2 by grind) DC
  rw[ht];grind
 have t4:t<=1/4:=by rw[<- hA] at hD;grind
 have cY:=zBB (-(x*x)) (-((s*x)*(s*x)));have qF:=zBB (-(x*x*c)) (-t);obtain⟨N2,h2⟩:=zBC (-(x*x*c));refine⟨_,(cY.bmul (Bdd.const (-(2*(x*k))))).add (qF.bmul (Bdd.const (rI s))),N2+2,λ M hM=>?_⟩
 have v0:=h2 M (by omega)
 have vV:ex (-(x*x*c)) M<=V:=B.v _ (Ys (zO x) (by grind)) (by
  have xx:x*x<=Y*Y:=Rat.le_trans (Yr (show x<=Y by grind) hx) (Yv (show x<=Y by grind) y0)
  have p1:=Yr (show c<=2 by grind) (zO x)
  grind) M
 have qlo:1-t-2*(t*t)<=ex (-t) M:=by
  have:=(zAD (h := -t) (b:=t) ⟨by grind,by grind⟩ t4 (M:=M) (by omega)).1
  show _<=E (-t) M
  grind
 have e1 : -((x+k)*(x+k)*c) = -(x*x*c) + -t:=by rw[ht];grind
 have e2 : -(x*x) + -((s*x)*(s*x)) = -(x*x*c):=by rw[hc];grind
 rw[<- hc,e1];rw[e2]
 have tt:t*t<=4*(A*A)*(k*k):=by
  have p1:=Yr t2 t0;have p2:=Yv t2 (show 0<=2*(k*A) by have:=Ys k0 A0;grind)
  grind
 have rt:rI s*t=2*(x*k)+k*k:=by
  have:rI s*t=k*(2*x+k)*(rI s*c):=by rw[ht];grind
  rw[this,rc];grind
 have m1:=Yr qlo (Ys r0 v0);have Lz:=zO t;have m3:=Yv r1 Lz;have m4:=Yv (show 2*(rI s*(t*t))<=8*(A*A)*(k*k) by grind) v0
 have AA:=Ys (Ys A0 A0) (Ys k0 k0);have kk:=Ys k0 k0;have m5:=Yr vV (show 0<=k*k+8*(A*A*(k*k)) by grind)
 rw[<- hA];generalize ex (-(x*x*c)) M=v at *;generalize ex (-(x*x*c) + -t) M=vt at *;generalize ex (-t) M=q at *;generalize ex (-(x*x)) M*ex (-((s*x)*(s*x))) M=w at *;clear cY qF h2;have f1:rI s*v*(1-t-2*(t*t))=rI s*v-(rI s*t)*v-2*(rI s*(t*t))*v:=by grind
 rw[f1,rt] at m1;grind
theorem gG_dn {Y K V x k h:Rat} (B:Bnd Y K V) (hx:0<=x) (hk:0<k) (k1:k<=1) (hY:x+k<=Y) (hh:0<=h) (hD:8*(k*(2*Y+1))<=1) (n:Nat) (hn:(n:Rat)*h<=1) :
  ∃ z,Null z/\∃ N:Nat,∀ M,N<=M->gG h x n M-2*(x*k)*(ex (-(x*x)) M*gE h x n M)<=gG h (x+k) n M+(n:Rat)*h*((1+8*((2*Y+1)*(2*Y+1)))*V*(k*k))+z M:=by
 induction n with
 | zero =>
  refine⟨_,null_zero,0,λ M _=>?_⟩
  show 0-2*(x*k)*(ex (-(x*x)) M*0)<=0+((0:Nat):Rat)*h*_+0
  grind
 | succ n ih =>
  have ec:((n+1:Nat):Rat)=(n:Rat)+1:=by push_cast;rfl
  have n0:(0:Rat)<=(n:Rat):=by exact_mod_cast Nat.zero_le n
  rw[ec] at hn;obtain⟨z1,G1,N1,h1⟩:=ih (by grind)
  obtain⟨z2,M5,N2,h2⟩:=part_dn B hx hk k1 hY (s:=(n:Rat)*h) (Ys n0 hh) (by grind) hD
  refine⟨_,G1.add (M5.bmul (Bdd.const h)),N1+N2,λ M hM=>?_⟩
  have a1:=h1 M (by omega)
  have a2:=Yr (h2 M (by omega)) hh
  show gG h x n M+h*rI ((n:Rat)*h)*ex (-(x*x*(1+((n:Rat)*h)*((n:Rat)*h)))) M-2*(x*k)*(ex (-(x*x)) M*(gE h x n M+h*ex (-(((n:Rat)*h*x)*((n:Rat)*h*x))) M))<=gG h (x+k) n M+h*rI ((n:Rat)*h)*ex (-((x+k)*(x+k)*(1+((n:Rat)*h)*((n:Rat)*h)))) M+((n+1:Nat):Rat)*h*((1+8*((2*Y+1)*(2*Y+1)))*V*(k*k))+_
  rw[ec];grind
theorem gG_le {h x:Rat} (hh:0<=h) (n:Nat):LeN (gG h x n) (λ M=>ex (-(x*x)) M*S (λ i=>h*rI ((i:Rat)*h)) n):=by
 induction n with
 | zero=>exact LeN.of_le 0 λ M _=>by show (0:Rat)<=_*0;grind
 | succ n ih =>
  have r0:=Yw (zKM ((n:Rat)*h));have m:=(zB3 (a := -(x*x*(1+((n:Rat)*h)*((n:Rat)*h)))) (b := -(x*x)) (by have:=Ys (zO x) (zO ((n:Rat)*h));grind)).scale (Ys hh r0)
  refine (ih.add m).trans (LeN.of_le 0 λ M _=>?_)
  show _<=ex (-(x*x)) M*(S (λ i=>h*rI ((i:Rat)*h)) n+h*rI ((n:Rat)*h))
  grind
end Go.Proofs.YtgmnknmjainabacGreat.Ex
namespace Go.Proofs.YtgmnknmjainabacGreat.Ex
theorem zKX {v x h:Rat} (hv:0<=v) (Ak:v<=1/2) (wV:v<=x) (hh:0<=h) (M:Nat) (j:Nat) (hj:tD v (x+(j:Rat)*h)<=1/2) :
  aA (tD v (x+(j:Rat)*h)) M-aA (tD v x) M<=S (λ i=>h*rI (x+(i:Rat)*h)) j+(j:Rat)*(16*(h*h)+2*(h*q4 M)):=by
 induction j with
 | zero =>
  have e:x+((0:Nat):Rat)*h=x:=by grind
  rw[e]
  show _<=0+_
  grind
 | succ j ih =>
  have ec:((j+1:Nat):Rat)=(j:Rat)+1:=by push_cast;rfl
  have j0:(0:Rat)<=(j:Rat):=by exact_mod_cast Nat.zero_le j
  have jh:=Ys j0 hh;have e1:x+((j+1:Nat):Rat)*h=x+(j:Rat)*h+h:=by rw[ec];grind
  rw[e1] at hj ⊢;have Ao:=ih (Rat.le_trans (zUM hv (by grind) (by grind)) hj)
  have st:=(zLH (x:=x+(j:Rat)*h) (i:=rI (x+(j:Rat)*h)) hv Ak (by grind) hh hj (zKL _) M).2
  show _<=S (λ i=>h*rI (x+(i:Rat)*h)) j+h*rI (x+(j:Rat)*h)+_
  rw[ec];grind
theorem zUL (n:Nat) {h:Rat} (hm:((n+1:Nat):Rat)*h=1/2):S (λ i=>h*rI ((i:Rat)*h)) (2*(n+1))=S (λ i=>h*rI (0+(i:Rat)*h)) (n+1)+S (λ i=>h*rI (1/2+(i:Rat)*h)) (n+1):=by
 rw[show 2*(n+1)=(n+1)+(n+1) by omega,zQQ]
 congr 1
 ·exact kR _ λ i _=>by rw[show 0+(i:Rat)*h=(i:Rat)*h by grind]
 ·refine kR _ λ i _=>?_
  have e:((n+1+i:Nat):Rat)=((n+1:Nat):Rat)+(i:Rat):=by push_cast;rfl
  rw[e,show (((n+1:Nat):Rat)+(i:Rat))*h=((n+1:Nat):Rat)*h+(i:Rat)*h by grind,hm]
theorem zP2 (n:Nat) {h:Rat} (hh:h*(2*((n:Rat)+1))=1):LeN piS (λ M=>4*S (λ i=>h*rI ((i:Rat)*h)) (2*(n+1))+64*(1/((n:Rat)+1))):=by
 have n0:(0:Rat)<(n:Rat)+1:=zA0 n
 have h0:0<h:=by
  refine Rat.not_le.1 λ hle=>?_
  have:=Ys (show 0 <= -h by grind) (show 0<=2*((n:Rat)+1) by grind)
  grind
 have ec:((n+1:Nat):Rat)=(n:Rat)+1:=by push_cast;rfl
 have hm:((n+1:Nat):Rat)*h=1/2:=by rw[ec];grind
 have a:∀ M,aA (1/2) M<=S (λ i=>h*rI (0+(i:Rat)*h)) (n+1)+((n:Rat)+1)*(16*(h*h)+2*(h*q4 M)):=λ M=>by
  have:=zKX (v:=0) (x:=0) (by grind) (by grind) (by grind) (Yw h0) M (n+1) (by rw[hm];decide +kernel)
  rw[hm,show tD 0 (0+1/2)=1/2 by decide +kernel,show tD 0 0=0 by decide +kernel,zF2,ec] at this
  grind
 have b:∀ M,aA (1/3) M<=S (λ i=>h*rI (1/2+(i:Rat)*h)) (n+1)+((n:Rat)+1)*(16*(h*h)+2*(h*q4 M)):=λ M=>by
  have:=zKX (v:=1/2) (x:=1/2) (by grind) (by grind) (by grind) (Yw h0) M (n+1) (by rw[hm];decide +kernel)
  rw[hm,show tD (1/2) (1/2+1/2)=1/3 by decide +kernel,show tD (1/2) (1/2)=0 by decide +kernel,zF2,ec] at this
  grind
 rw[zUL n hm];have nh:((n:Rat)+1)*h=1/2:=by grind
 have hu:h=1/2*(1/((n:Rat)+1)):=by
  have um:1/((n:Rat)+1)*((n:Rat)+1)=1:=rdm n0;have:h*(((n:Rat)+1)*(1/((n:Rat)+1)))=1/2*(1/((n:Rat)+1)):=by rw[<- nh];grind
  rw[show ((n:Rat)+1)*(1/((n:Rat)+1))=1 by grind] at this
  grind
 refine LeN.of_null ((pi_four.neg).add (zFS 8 (by grind))) 0 λ M _=>?_
 have a1:=a M;have b1:=b M;have e1:((n:Rat)+1)*(16*(h*h)+2*(h*q4 M))=16*(((n:Rat)+1)*h)*h+2*(((n:Rat)+1)*h)*q4 M:=by grind
 rw[e1,nh] at a1 b1;have u0:(0:Rat)<1/((n:Rat)+1):=zF (by grind) n0
 generalize 1/((n:Rat)+1)=u at *;rw[hu] at a1 b1 ⊢;generalize S (λ i=>1/2*u*rI (0+(i:Rat)*(1/2*u))) (n+1)=s1 at *
 generalize S (λ i=>1/2*u*rI (1/2+(i:Rat)*(1/2*u))) (n+1)=s2 at *
 grind
theorem eF_sum2 {x h:Rat} (hx:0<=x) {K V:Rat} (B:Bnd x K V) (hh:0<h) (n:Nat) (hn:(n:Rat)*h=1):LeN (λ _=>S (λ i=>h*rI ((i:Rat)*h)) n) (λ M=>eF x M*eF x M+gG h x n M+2*(V*x*h)*x):=by
 obtain⟨C,D,c0,d0,d1,dn⟩:=eF_dn B;have h0:=Yw hh;have k0:=B.k0;have v1:=B.v1;have A1:0<8*(2*x+1):=by grind
 have dm:1/(8*(2*x+1))*(8*(2*x+1))=1:=rdm A1;have dp:0<1/(8*(2*x+1)):=zF (by grind) A1
 obtain⟨D2,s9,TE,AH⟩:∃ D2:Rat,0<D2/\D2<=D/\D2<=1/(8*(2*x+1)):=by
  by_cases hc:D<=1/(8*(2*x+1))
  ·exact⟨D,d0,by grind,hc⟩
  ·exact⟨_,dp,by grind,by grind⟩
 obtain⟨F,hF⟩:∃ F,F=K*V:=⟨_,rfl⟩;have F0:0<=F:=by rw[hF];exact Ys k0 (by grind)
 obtain⟨C4,Cl⟩:∃ C4,C4=2*(C*F)+V*C:=⟨_,rfl⟩
 have TC:0<=C4:=by
  have a:=Ys c0 F0;have b:=Ys (show 0<=V by grind) c0
  grind
 obtain⟨C5,td⟩:∃ C5,C5=(1+8*((2*x+1)*(2*x+1)))*V:=⟨_,rfl⟩;have TD:0<=C5:=by rw[td];exact Ys (by have:=Ys (show 0<=2*x+1 by grind) (show 0<=2*x+1 by grind);grind) (by grind)
 have d:=zCN (f:=λ y M => -(eF y M*eF y M+gG h y n M+2*(V*x*h)*y)) (a:=0) (b:=x) (C:=C4+C5) (D:=D2) hx (by grind) s9 (λ y k hy hk hkD rN=>by
  obtain⟨z1,G1,N1,p1⟩:=dn y k hy hk (by grind) rN
  have k1:k<=1:=by grind
  have kq:=Yw hk;obtain⟨z2,M5,N2,p2⟩:=gG_dn B hy hk k1 rN h0 (by have:=Yv (Rat.le_trans hkD AH) (Yw A1);grind) n (by grind)
  have right:=gE_le (x:=y) B hy (by grind) h0 n hn
  obtain⟨z3,gJ,p3⟩:=right.null;obtain⟨N3,ev⟩:=zBC (-(y*y));obtain⟨N4,zg⟩:=zBC (-((y+k)*(y+k)))
  have bF:Bdd (eF y):=by
   have:Bdd (eS y):=Bdd.of_le K 0 λ M _=>⟨by have:=jQ hy M;grind,B.s _ hy (by grind) M⟩
   exact this.mul (jY _)
  have PI:Bdd (eF (y+k)):=by
   have:Bdd (eS (y+k)):=Bdd.of_le K 0 λ M _=>⟨by have:=jQ (x:=y+k) (by grind) M;grind,B.s _ (by grind) rN M⟩
   exact this.mul (jY _)
  have bV:=jY (-(y*y));have q1:=G1.bmul (bF.add PI);have q2:=(G1.bmul bV).bmul (Bdd.const k);have q3:=(gJ.bmul bV).bmul (Bdd.const (2*k));refine⟨_,((q1.add q2).add q3).add M5,N1+N2+N3+N4,λ M hM=>?_⟩
  have a1:=p1 M (by omega)
  have a2:=p2 M (by omega)
  have a3:=p3 M;have v0:=ev M (by omega)
  have e0:0<=eF (y+k) M:=Ys (jQ (by grind) M) (zg M (by omega))
  have f0:0<=eF y M:=Ys (jQ hy M) v0
  have sqb:∀ u,0<=u->u<=x->u*u<=2*(x*x):=λ u h1 h2=>by
   have xx:u*u<=x*x:=Rat.le_trans (Yr h2 h1) (Yv h2 hx);have:=Ys hx hx;grind
  have vV:ex (-(y*y)) M<=V:=B.v _ (zO y) (sqb y hy (by grind)) M
  have Ti:ex (-((y+k)*(y+k))) M<=V:=B.v _ (zO _) (sqb (y+k) (by grind) rN) M
  have fF:eF y M<=F:=by
   rw[hF];exact Rat.le_trans (Yv (B.s y hy (by grind) M) v0) (Yr vV k0)
  have IE:eF (y+k) M<=F:=by
   rw[hF];exact Rat.le_trans (Yv (B.s (y+k) (by grind) rN M) (zg M (by omega))) (Yr Ti k0)
  rw[hn,<- td] at a2;generalize eF (y+k) M=f' at *;generalize eF y M=f at *;generalize ex (-(y*y)) M=v at *;generalize gG h (y+k) n M=g' at *;generalize gG h y n M=g at *;generalize gE h y n M=u at *;generalize z1 M=z1 at *;generalize z2 M=z2 at *;generalize z3 M=z3 at *;clear G1 M5 gJ q1 q2 q3 bF PI bV right p1 p2 p3 dn ev zg sqb;have kk:=Ys kq kq;have kv:=Ys kq v0;have S0:0<=f'+f:=by grind
  have b1:=Yv (show k*v<=(f'-f)+C*(k*k)+z1 by grind) S0
  have b2:=Yr (show f'+f<=2*F by grind) (Ys c0 kk)
  have b3:=Yr (show 2*f+k*v-C*(k*k)-z1<=f'+f by grind) kv
  have kvkv:=Ys kv kv
  have b4:k*v*(C*(k*k))<=V*C*(k*k):=by
   have c1:k*v<=V:=by have:=Yv k1 v0;grind
   have c2:=Yv c1 (Ys c0 kk);grind
  have b5:=Yr a3 kv
  have b6:k*v*(y*h)<=k*(V*x*h):=by
   have c1:=Yv vV (Ys hy h0);have c2:=Yr (Yv (show y<=x by grind) h0) (show 0<=V by grind)
   have c3:=Yr (Rat.le_trans c1 c2) kq;grind
  show -(f'*f'+g'+2*(V*x*h)*(y+k)) <= -(f*f+g+2*(V*x*h)*y)+(C4+C5)*(k*k)+(z1*(f+f')+z1*v*k+z3*v*(2*k)+z2)
  have r1:((f'-f)+C*(k*k)+z1)*(f'+f)=f'*f'-f*f+C*(k*k)*(f'+f)+z1*(f+f'):=by grind
  have r2:k*v*(2*f+k*v-C*(k*k)-z1)=2*(k*v*f)+k*v*(k*v)-k*v*(C*(k*k))-k*v*z1:=by grind
  have r3:k*v*(f+y*h+z3)=k*v*f+k*v*(y*h)+k*v*z3:=by grind
  have r4:2*(y*k)*(v*u)=2*(k*v*(y*u)):=by grind
  have r5:(C4+C5)*(k*k)=C*(k*k)*(2*F)+V*C*(k*k)+C5*(k*k):=by rw[Cl];grind
  have r6:z1*v*k=k*v*z1:=by grind
  have r7:z3*v*(2*k)=2*(k*v*z3):=by grind
  have r8:2*(V*x*h)*(y+k)=2*(V*x*h)*y+2*(k*(V*x*h)):=by grind
  rw[r1] at b1;rw[r2] at b3;rw[r3] at b5;rw[r4,Rat.one_mul] at a2;rw[r5,r6,r7,r8];generalize f'*f'=w1 at *;generalize f*f=w2 at *;generalize C*(k*k)*(f'+f)=w3 at *;generalize z1*(f+f')=w4 at *;generalize k*v*(f'+f)=w5 at *;generalize k*v*f=w6 at *;generalize k*v*(k*v)=w7 at *;generalize k*v*(C*(k*k))=w8 at *;generalize k*v*z1=w9 at *;generalize k*v*(y*u)=gL at *;generalize k*v*(y*h)=Tl at *;generalize k*v*z3=Tm at *;generalize C*(k*k)*(2*F)=AE at *;generalize V*C*(k*k)=w14 at *;generalize C5*(k*k)=w15 at *;generalize k*(V*x*h)=w16 at *;generalize 2*(V*x*h)*y=w17 at *;clear vV Ti fF IE Cl hF td dm r1 r2 r3 r4 r5 r6 r7 r8 AH A1 dp hn
  grind)
 intro e he
 obtain⟨N,k⟩:=d e he;refine⟨N+1,λ M hM=>?_⟩
 have a1 : -(eF x M*eF x M+gG h x n M+2*(V*x*h)*x) <= -(eF 0 M*eF 0 M+gG h 0 n M+2*(V*x*h)*0)+e:=k M (by omega)
 have a3:gG h 0 n M=S (λ i=>h*rI ((i:Rat)*h)) n:=kR n λ i _=>by
  have e1 : -(0*0*(1+((i:Rat)*h)*((i:Rat)*h)))=(0:Rat):=by grind
  have e2:ex 0 M=1:=by
   obtain⟨m,rfl⟩:∃ m,M=m+1:=⟨M-1,by omega⟩
   exact kV m
  rw[e1,e2];grind
 rw[a3,zH2] at a1
 show S (λ i=>h*rI ((i:Rat)*h)) n<=eF x M*eF x M+gG h x n M+2*(V*x*h)*x+e
 grind
theorem eF_pi2 {x:Rat} (hx:0<=x):LeN (λ M=>piS M*(1-ex (-(x*x)) M)) (λ M=>4*(eF x M*eF x M)):=by
 obtain⟨K,V,B⟩:=bnd_ex hx;have v1:=B.v1;have vx:=Ys (Ys (show 0<=V by grind) hx) hx
 refine LeN.lim (C:=64+4*(V*x*x)) (by grind) λ n=>?_
 have n0:(0:Rat)<2*((n:Rat)+1):=by have:=zA0 n;grind
 obtain⟨h,h0,hh⟩:=zNK (2*((n:Rat)+1)) n0
 have hu:h=1/2*(1/((n:Rat)+1)):=by
  have n1:=zA0 n;have um:1/((n:Rat)+1)*((n:Rat)+1)=1:=rdm n1
  have:h*(((n:Rat)+1)*(1/((n:Rat)+1)))=1/2*(1/((n:Rat)+1)):=by
   have e9:h*((n:Rat)+1)=1/2:=by grind
   have:h*(((n:Rat)+1)*(1/((n:Rat)+1)))=h*((n:Rat)+1)*(1/((n:Rat)+1)):=by grind
   rw[this,e9]
  rw[show ((n:Rat)+1)*(1/((n:Rat)+1))=1 by grind] at this
  grind
 have e:((2*(n+1):Nat):Rat)=2*((n:Rat)+1):=by push_cast;rfl
 obtain⟨z1,G1,k1⟩:=(eF_sum2 hx B h0 (2*(n+1)) (by rw[e];grind)).null
 obtain⟨z2,M5,k2⟩:=(zP2 n hh).null;obtain⟨z3,gJ,k3⟩:=(gG_le (x:=x) (Yw h0) (2*(n+1))).null;obtain⟨N,pos⟩:=zBC (-(x*x));obtain⟨z4,RH,k4⟩:=(zB3 (a := -(x*x)) (b:=0) (by have:=zO x;grind)).null
 have BI:=jY (-(x*x));have b1:Bdd (λ M=>1-ex (-(x*x)) M):=(Bdd.const 1).sub BI
 have bP:Bdd piS:=zTW;obtain⟨g,hg⟩:∃ g,g=S (λ i=>h*rI ((i:Rat)*h)) (2*(n+1)):=⟨_,rfl⟩
 rw[<- hg] at k1 k2 k3;have q1:=(G1.bmul (Bdd.const 4)).add ((M5.bmul b1).add (gJ.bmul (Bdd.const 4)));have bz:Bdd (λ M=>4*g+64*(1/((n:Rat)+1))+z2 M-piS M):=(((Bdd.const (4*g)).add (Bdd.const (64*(1/((n:Rat)+1))))).add M5.bdd).sub bP
 have q3:=RH.bmul bz;refine LeN.of_null (q1.add q3) (N+1) λ M hM=>?_
 have a1:=k1 M;have a2:=k2 M;have a3:=k3 M;have a4:=k4 M;have w0:=pos M (by omega)
 have e0:ex 0 M=1:=by
  obtain⟨m,rfl⟩:∃ m,M=m+1:=⟨M-1,by omega⟩
  exact kV m
 rw[e0] at a4;have u0:(0:Rat)<1/((n:Rat)+1):=zF (by grind) (zA0 n)
 generalize 1/((n:Rat)+1)=u at *;generalize ex (-(x*x)) M=w at *;generalize eF x M*eF x M=f at *;generalize gG h x (2*(n+1)) M=G at *;generalize piS M=p at *;generalize z1 M=y1 at *;generalize z2 M=y2 at *;generalize z3 M=y3 at *;generalize z4 M=y4 at *;clear q1 q3 bz b1 BI bP G1 M5 gJ RH k1 k2 k3 k4 pos hg;have m1:=Yv a2 (show 0<=1-w+y4 by grind)
 have bh:2*(V*x*h)*x=V*x*x*u:=by rw[hu];grind
 rw[bh] at a1;have m2:=Ys (Ys (show (0:Rat)<=64 by grind) (Yw u0)) w0
 have r1:p*(1-w+y4)=p*(1-w)+y4*p:=by grind
 have r2:(4*g+64*u+y2)*(1-w+y4)=4*g-4*(w*g)+64*u-64*u*w+y2*(1-w)+y4*(4*g+64*u+y2):=by grind
 have r3:y4*(4*g+64*u+y2-p)=y4*(4*g+64*u+y2)-y4*p:=by grind
 have r4:(64+4*(V*x*x))*u=64*u+4*(V*x*x*u):=by grind
 rw[r1,r2] at m1
 show p*(1-w)<=4*f+(64+4*(V*x*x))*u+(y1*4+(y2*(1-w)+y3*4)+y4*(4*g+64*u+y2-p))
 rw[r3,r4];generalize p*(1-w)=t1 at *;generalize y4*p=t2 at *;generalize w*g=t3 at *;generalize y2*(1-w)=t4 at *;generalize y4*(4*g+64*u+y2)=t5 at *;generalize V*x*x*u=t6 at *;generalize 64*u*w=t7 at *;clear r1 r2 r3 r4 bh vx hu hh;grind
theorem erf_low {R:Nat->Rat} (h:yG piS R) {x:Rat} (hx:0<=x):LeN (λ M=>1-ex (-(x*x)) M) (zR0 R x):=by
 refine LeN.trans ?_ (zD8 h x hx).symm.leN;obtain⟨z,hz,k⟩:=(eF_pi2 hx).null;obtain⟨N,pos⟩:=zBC (-(x*x));have BI:=jY (-(x*x));have b1:Bdd (λ M=>1-ex (-(x*x)) M):=(Bdd.const 1).sub BI
 have q:=(h.sq.bmul b1).add hz
 intro e he
 obtain⟨N2,k2⟩:=q e he;obtain⟨N3,epos⟩:=zBC (-(x*x));refine⟨N+N2+N3,λ M hM=>?_⟩
 have a1:=k M;have a2:=(k2 M (by omega)).2
 have w0:=pos M (by omega)
 have r1:=h.one M;have f0:0<=eF x M:=Ys (jQ hx M) (epos M (by omega))
 have p1:0<R M:=by grind
 have c:=rdm (a:=1) p1;have i0:=(zCO (a:=1) (by grind) r1).1
 refine Rat.not_lt.1 λ D9=>?_
 simp only[] at *;obtain⟨q,hq⟩:∃ q,q=eF x M*(2*(1/R M)):=⟨_,rfl⟩;have q0:0<=q:=by rw[hq];exact Ys f0 (by grind)
 have qR:q*R M=2*eF x M:=by
  have:q*R M=2*eF x M*(1/R M*R M):=by rw[hq];grind
  rw[this,c];grind
 rw[<- hq] at D9
 have f2:4*(eF x M*eF x M)=q*q*(R M*R M):=by
  have:q*q*(R M*R M)=(q*R M)*(q*R M):=by grind
  rw[this,qR];grind
 rw[f2] at a1;generalize ex (-(x*x)) M=w at *;generalize R M=r at *;generalize piS M=p at *;generalize z M=y at *;have w1:q<=1-w-e:=by grind
 have qq:q*q<=q:=by
  have:=Yr (show q<=1 by grind) q0
  grind
 have rr:1<=r*r:=by have:=Yr r1 (show 0<=r by grind);grind
 have m1:=Yr (show q*q<=q by grind) (show 0<=r*r by grind)
 have m2:=Rat.mul_lt_mul_of_pos_left D9 (show 0<r*r by grind)
 have m3:=Yv rr (Yw he);have t1:(r*r-p)*(1-w)=r*r*(1-w)-p*(1-w):=by grind
 have t2:q*q*(r*r)=r*r*(q*q):=by grind
 have t3:r*r*(q+e)=r*r*q+r*r*e:=by grind
 rw[t1] at a2;rw[t2] at a1;rw[t3] at m2;generalize r*r*(1-w)=g1 at *;generalize p*(1-w)=g2 at *;generalize r*r*(q*q)=g3 at *;generalize r*r*q=g4 at *;generalize r*r*e=g5 at *;clear hq qR f2 hz k BI b1 qq rr t1 t2 t3 c i0;grind
end Go.Proofs.YtgmnknmjainabacGreat.Ex
