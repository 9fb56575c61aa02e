/-
  Its own texts.
-/
import Derived.Laws.CopyOwn
import Derived.Deep.RegionHeld3
import Derived.Test.YtgmnknmjainabacGreatH05
set_option maxRecDepth 100000
set_option maxHeartbeats 40000000
set_option linter.unnecessarySimpa false
set_option linter.unusedSimpArgs false
set_option linter.unusedVariables false
namespace Go.Proofs.YtgmnknmjainabacGreat
open Go.RowKit
attribute [local go_sem ↓] Go.wp_at_zero Go.wp_at_succ
theorem kA (w:World) (T:TypeId):NoI (w.alloc (.cells #[.bool false,.slice none 0 0] T)) w.heap.size:=⟨by simp,by simp,λ o=>by simp[go_sem]⟩
theorem zEL (neg j6:Bool) (a c:Option Addr) (n m cap m8 k k2 b:Nat) (x y:Int) (w:World) (h1:IntAt w neg a n cap k x) (h2:IntAt w j6 c m m8 k2 y) (hk:k<=600000000) (cH:k2<=100000000) (hb:b<=100000) (hy:0<y)
  (cG:∀ j9 a' n' m7 w',IntAt w' j9 a' n' m7 (k+b/16+5) (x*Q b)->IntAt w' j6 c m m8 k2 y->Calls Tryz.prog 126 #[.agg #[.bool j9,.slice a' n' m7],.agg #[.bool j6,.slice c m m8]] w' (zBS w' (k+b/16+5) (x*Q b/y))) :
  Calls Tryz.prog 43 #[.agg #[.bool neg,.slice a n cap],.agg #[.bool j6,.slice c m m8],.int .i64 b] w (zG w b (k+b/16+14) (x*Q b/y) (-(-(x*Q b)/y))):=by
 have HF:=zC cG;clear cG;obtain⟨W,hW⟩:∃ W,W=((w.alloc (.cells #[.bool neg,.slice a n cap] 29)).alloc (.cells #[.bool j6,.slice c m m8] 29)).alloc (.cells zCq 38):=⟨_,rfl⟩;have j8:Below w.heap.size w W:=by rw[hW];exact bl3 _ _ _ _
 have A:NmC W w.heap.size ⟨neg,a,n,cap⟩:=by rw[hW];constructor<;>simp[go_sem]
 have G:NmC W (w.heap.size+1) ⟨j6,c,m,m8⟩:=by rw[hW];constructor<;>simp[go_sem]
 have R:NoC W (w.heap.size+1+1):=by rw[hW];constructor<;>simp[go_sem]
 have HX:=zC (h1.bw j8);have HY:=zC (h2.bw j8);have HK:=zC (show ∀ w',Below W.heap.size W w'->(w'.cell? ⟨w.heap.size,0,none⟩=some (.bool neg)/\w'.cell? ⟨w.heap.size,1,none⟩=some (.slice a n cap)) from λ w' hB=>⟨(A.bw hB).c0,(A.bw hB).c1⟩)
 go_enter Tryz.func43,Tryz.ntmps43
 go_wp2;rw[<- hW];clear hW;obtain⟨i0,i1⟩:=A;have lW:=G.lt;have lR:=R.lt
 go_cut [7] (λ p wx=>VarAt wx p W.heap.size (k+b/16+5) (x*Q b)/\Below W.heap.size W wx)
 case first =>
  go_region_held3 (λ w'=>w'.cell? ⟨w.heap.size,0,none⟩=some (.bool neg)/\w'.cell? ⟨w.heap.size,1,none⟩=some (.slice a n cap)) (exact zA HK _ (by repeat' (first|with_reducible exact Q8|with_reducible exact J8|with_reducible exact Below.refl _ _|with_reducible refine Below.drew ?_|with_reducible refine zL ?_ _|with_reducible refine Below.setCell ?_ (by first|exact Zb _|exact aW|exact aX) _)))
   (first
    | (go_at_call 83;have hq:=J8;refine (zX _ _ _ _ _ _ _ _ k (b/16+5) x (Q b) _ ((zA HX).bw (by with_reducible first|exact J8|exact zL J8 _)) (R9.bw (by with_reducible first|exact Below.refl _ _|exact bl1 _ _)) (by omega) (by omega)).mono ?_;rintro r mK ⟨ry,OD,RE,OS,rfl,gY,aT⟩;have aN:Below gI.heap.size gI mK:=(by with_reducible first|exact aT|exact zB (bl1 _ _) aT);have Q8:=zB J8 aN;(try with_reducible have iJ:=(kA gI 29).bw aT);replace R9:=R9.bw aN;(try replace cE:=cE.bw aN);have aX:=Q8.size;(try have rh:=cE.lt);(try have Pc:=Zg rh);(try have Bp:=Zf rh);(try obtain⟨Eb,Ec,Ed⟩:=cE);(try have ri:=iJ.lt);(try have Pd:=Zg ri);(try have Bq:=Zf ri);(try obtain⟨Ee,Ef,Eg⟩:=iJ))
    | (go_at_call 82;refine (zDJ b _ (by omega)).mono ?_;rintro r gI ⟨rv,OC,RD,OQ,rfl,R9,aS⟩;have J8:Below W.heap.size W gI:=(by with_reducible first|exact zB (Below.refl _ _).drew aS|exact zB (bl1 _ _).drew aS);(try with_reducible have cE:=((kA W 29).bw (Below.refl _ _).drew).bw aS);have aW:=J8.size))
  all_goals
   go_wp2_with fail;go_meet;refine⟨⟨_,⟨ry,OD,RE,OS⟩,rfl,?_,?_,?_,?_,?_⟩,?_⟩
   ·simp[go_sem, *]
   ·simp[go_sem, *]
   ·first|with_reducible exact IntAt.mono (gY.bw (bl1 _ _)) (by omega)|with_reducible exact IntAt.mono (gY.put2 (by assumption) (by assumption) _ _) (by omega)
   ·first|exact Zb _|exact aW|exact aX
   ·simp[World.setCell];try omega
   ·repeat' (first|with_reducible exact Q8|with_reducible exact J8|with_reducible exact Below.refl _ _|with_reducible refine Below.drew ?_|with_reducible refine zL ?_ _|with_reducible refine Below.setCell ?_ (by first|exact Zb _|exact aW|exact aX) _)
 case rest =>
 obtain⟨⟨BX,xX,rfl,zo,zq,nw,yj,hltX⟩,hblX⟩:=hcut;have XX:NmC wc BX xX:=⟨zo,zq⟩;clear i0 i1 HK;replace G:=G.bw hblX;replace R:=R.bw hblX;replace HY:=zC ((zA HY).bw hblX);replace nw:=zC nw;have bg:=R.lt;have Ka:=XX.lt;have nR:BX≠w.heap.size+1+1:=Zf (Zd lR yj);have Kk:w.heap.size+1+1≠BX:=λ e=>nR e.symm
 have od:=zB j8 hblX;have D5:Below wc.heap.size wc wc.drew:=(Below.refl _ _).drew;have HK:=zC (show ∀ w',Below wc.heap.size wc w'->(nK w' BX xX (w'.cell? ⟨w.heap.size+1,0,none⟩=some (.bool j6)/\w'.cell? ⟨w.heap.size+1,1,none⟩=some (.slice c m m8))) from λ w' hB=>⟨(XX.bw hB).c0,(XX.bw hB).c1,(G.bw hB).c0,(G.bw hB).c1⟩)
 obtain⟨i2,i3⟩:=G;go_wp2
 go_region_held3 (λ w'=>nK w' BX xX (w'.cell? ⟨w.heap.size+1,0,none⟩=some (.bool j6)/\w'.cell? ⟨w.heap.size+1,1,none⟩=some (.slice c m m8))) (first|exact zA HK _ (by with_reducible first|exact D5|exact p9|exact s9)|(dsimp only[cK,cK0,nK,nK0,rK,rK0];go_keep)|go_keep)
  (first
   | (go_at_call 84;refine (zKO _ _ _ _ _ _ _ _ (k+b/16+5) k2 (x*Q b) y _ ((zA nw).bw D5) ((zA HY).bw D5) (by omega) (by omega) (λ w' p q=>zA HF _ _ _ _ w' p q)).mono ?_;rintro r w1 ⟨m9,a1,n1,c1,rfl,o8,b9⟩;have s9:=zB D5 b9)
   | (go_at_call 85;refine (zPJ _ _ _ _ _ _ _ _ (k+b/16+5) k2 (x*Q b) y _ ((zA nw).bw s9) ((zA HY).bw s9) (by omega) (by omega) hy (λ w' p q=>zA HF _ _ _ _ w' p q)).mono ?_;rintro r w2 ⟨B8,a3,n3,c3,rfl,G0,j7⟩;replace o8:=o8.bw j7;have p9:=zB s9 j7;obtain⟨q0,q1,q2,q3,q4,q5⟩:=R.bw p9;obtain⟨d0,d1,d2,d3⟩:=zA HK _ p9))
 go_wp2;refine bodyPost_ret (v:=.agg #[.bool m9,.slice a1 n1 c1,.bool B8,.slice a3 n3 c3,.int .i64 b]) (by simp[results,Tryz.results43,go_sem,q0,q1,q2,q3,q4]) rfl ⟨⟨m9,a1,n1,c1,B8,a3,n3,c3,b⟩,rfl,rfl,?_,?_⟩
 ·exact SpAt.put5 ⟨o8.mono (by omega),G0.mono (by omega)⟩ q0 q1 q2 q3 q4 _ _ _ _ _
 ·exact jS (zB od p9) (by omega) _ _ _ _ _
theorem zGF (w:World) (s:Sp) (k:Nat) (bt lo hi:Int) (hs:SpAt w s k lo hi) (hk:k<=300000000) (E8:0<=s.bits) (pN:s.bits<=1000000) (oz:0<=bt) (nD:bt<=1000000) :
  Calls Tryz.prog 52 #[.agg s.q,.int .i64 bt] w (zG w bt (k+62505) (zA9 lo (s.bits-bt)) (-(zA9 (-hi) (s.bits-bt)))):=by
 by_cases O1:s.bits<=bt
 ·obtain⟨K,hK⟩:∃ K:Nat,bt-s.bits=K:=⟨(bt-s.bits).toNat,by omega⟩
  have e1:∀ x,zA9 x (s.bits-bt)=x*Q K:=by
   intro x;unfold zA9
   by_cases h0:0<=s.bits-bt
   ·have hz:s.bits-bt=0:=by omega
    have ao:K=0:=by omega
    rw[if_pos h0,hz,ao];simp[Q]
   ·rw[if_neg h0,show (-(s.bits-bt)).toNat=K by omega]
  have HL:=zC (e1 lo);have HH:=zC (show -(zA9 (-hi) (s.bits-bt))=hi*Q K by rw[e1,Int.neg_mul,Int.neg_neg])
  clear e1;have hK1:K<=1000000:=by omega
  rw[zA HL,zA HH];obtain⟨W,hW⟩:∃ W,W=(w.alloc (.cells s.q 38)).alloc (.cells zCq 38):=⟨_,rfl⟩;have j8:Below w.heap.size w W:=by rw[hW];exact bl2 _ _ _
  have A:SpC W w.heap.size s:=by rw[hW];constructor<;>simp[go_sem]
  have R:NoC W (w.heap.size+1):=by rw[hW];constructor<;>simp[go_sem]
  have HS:=zC (hs.bw j8);have lA:=A.lt;have lR:=R.lt;have D7:Below W.heap.size W W.drew:=(Below.refl _ _).drew
  have HK:=zC (show ∀ w',Below W.heap.size W w'->(w'.cell? ⟨w.heap.size,0,none⟩=some (.bool s.ln)/\w'.cell? ⟨w.heap.size,1,none⟩=some (.slice s.la s.lN s.lc)/\w'.cell? ⟨w.heap.size,2,none⟩=some (.bool s.hn)/\w'.cell? ⟨w.heap.size,3,none⟩=some (.slice s.ha s.hN s.hc)) from λ w' hB=>by
   obtain⟨x0,x1,x2,x3,x4⟩:=A.bw hB
   exact⟨x0,x1,x2,x3⟩)
  go_enter Tryz.func52,Tryz.ntmps52
  go_wp2_with fail;rw[<- hW];clear hW;refine (zDJ K _ (by omega)).mono ?_
  rintro r w1 ⟨m9,a1,n1,c1,rfl,o8,b9⟩;obtain⟨W1,cr⟩:∃ W',W'=w1.alloc (.cells #[.bool m9,.slice a1 n1 c1] 29):=⟨_,rfl⟩;have E4:Below w1.heap.size w1 W1:=by rw[cr];exact bl1 _ _
  have X:NmC W1 w1.heap.size ⟨m9,a1,n1,c1⟩:=by rw[cr];exact zC6 w1 ⟨m9,a1,n1,c1⟩ _
  have nR:w1.heap.size≠w.heap.size+1:=Zf (R.bw b9).lt;have Kk:w.heap.size+1≠w1.heap.size:=λ e=>nR e.symm
  have A6:=zB b9 E4;have R1:=R.bw A6;have A1:=A.bw A6;have QW:=A1.lt;have rf:=R1.lt;have lX:=X.lt;replace o8:=zC (o8.bw E4);replace HS:=zC ((zA HS).bw A6);have D5:Below W1.heap.size W1 W1.drew:=(Below.refl _ _).drew
  have mX:=zC (show ∀ w',Below W1.heap.size W1 w'->(w'.cell? ⟨w.heap.size,0,none⟩=some (.bool s.ln)/\w'.cell? ⟨w.heap.size,1,none⟩=some (.slice s.la s.lN s.lc)/\w'.cell? ⟨w.heap.size,2,none⟩=some (.bool s.hn)/\w'.cell? ⟨w.heap.size,3,none⟩=some (.slice s.ha s.hN s.hc)/\w'.cell? ⟨w1.heap.size,0,none⟩=some (.bool m9)/\w'.cell? ⟨w1.heap.size,1,none⟩=some (.slice a1 n1 c1)) from λ w' hB=>by
   obtain⟨x0,x1,x2,x3,x4⟩:=A1.bw hB
   exact⟨x0,x1,x2,x3,(X.bw hB).c0,(X.bw hB).c1⟩)
  clear HK D7;go_wp2;rw[<- cr];clear cr;obtain⟨i0,i1,i2,i3,i4,i5⟩:=zA mX _ (Below.refl _ _)
  go_region_held3 (λ w'=>w'.cell? ⟨w.heap.size,0,none⟩=some (.bool s.ln)/\w'.cell? ⟨w.heap.size,1,none⟩=some (.slice s.la s.lN s.lc)/\w'.cell? ⟨w.heap.size,2,none⟩=some (.bool s.hn)/\w'.cell? ⟨w.heap.size,3,none⟩=some (.slice s.ha s.hN s.hc)/\w'.cell? ⟨w1.heap.size,0,none⟩=some (.bool m9)/\w'.cell? ⟨w1.heap.size,1,none⟩=some (.slice a1 n1 c1)) (first|exact zA mX _ (by with_reducible first|exact D5|exact F9|exact p9)|go_keep)
   (first
    | (go_at_call 83;have hq:=p9;refine (zX _ _ _ _ _ _ _ _ k (K/16+5) hi (Q K) _ ((zA HS).hi.bw p9) ((zA o8).bw p9) (by omega) (by omega)).mono ?_;rintro r w3 ⟨B8,a3,n3,c3,rfl,G0,o7⟩;replace A5:=A5.bw o7;have F9:=zB p9 o7;obtain⟨q0,q1,q2,q3,q4,q5⟩:=R1.bw F9;obtain⟨d0,d1,d2,d3,d4,d5⟩:=zA mX _ F9)
    | (go_at_call 83;refine (zX _ _ _ _ _ _ _ _ k (K/16+5) lo (Q K) _ ((zA HS).lo.bw D5) ((zA o8).bw D5) (by omega) (by omega)).mono ?_;rintro r w2 ⟨j6,a2,n2,c2,rfl,A5,j7⟩;have p9:=zB D5 j7))
  clear i0 i1 i2 i3 i4 i5;go_wp2;refine bodyPost_ret (v:=.agg #[.bool j6,.slice a2 n2 c2,.bool B8,.slice a3 n3 c3,.int .i64 bt]) (by simp[results,Tryz.results52,go_sem,q0,q1,q2,q3,q4]) rfl ⟨⟨j6,a2,n2,c2,B8,a3,n3,c3,bt⟩,rfl,rfl,?_,?_⟩
  ·exact SpAt.put5 ⟨A5.mono (by omega),G0.mono (by omega)⟩ q0 q1 q2 q3 q4 _ _ _ _ _
  ·exact jS (zB (zB j8 A6) F9) (Nat.le_succ _) _ _ _ _ _
 ·have e0:¬ bt ≥ s.bits:=O1
  obtain⟨W,hW⟩:∃ W,W=(w.alloc (.cells s.q 38)).alloc (.cells zCq 38):=⟨_,rfl⟩;have j8:Below w.heap.size w W:=by rw[hW];exact bl2 _ _ _
  have A:SpC W w.heap.size s:=by rw[hW];constructor<;>simp[go_sem]
  have R:NoC W (w.heap.size+1):=by rw[hW];constructor<;>simp[go_sem]
  have HS:=zC (hs.bw j8);have lA:=A.lt;have lR:=R.lt;have D7:Below W.heap.size W W.drew:=(Below.refl _ _).drew
  have HK:=zC (show ∀ w',Below W.heap.size W w'->(w'.cell? ⟨w.heap.size,0,none⟩=some (.bool s.ln)/\w'.cell? ⟨w.heap.size,1,none⟩=some (.slice s.la s.lN s.lc)/\w'.cell? ⟨w.heap.size,2,none⟩=some (.bool s.hn)/\w'.cell? ⟨w.heap.size,3,none⟩=some (.slice s.ha s.hN s.hc)) from λ w' hB=>by
   obtain⟨x0,x1,x2,x3,x4⟩:=A.bw hB
   exact⟨x0,x1,x2,x3⟩)
  go_enter Tryz.func52,Tryz.ntmps52
  go_wp2;obtain⟨x0,x1,x2,x3,x4⟩:=A;rw[<- hW];clear hW
  go_region_held3 (λ w'=>w'.cell? ⟨w.heap.size,0,none⟩=some (.bool s.ln)/\w'.cell? ⟨w.heap.size,1,none⟩=some (.slice s.la s.lN s.lc)/\w'.cell? ⟨w.heap.size,2,none⟩=some (.bool s.hn)/\w'.cell? ⟨w.heap.size,3,none⟩=some (.slice s.ha s.hN s.hc)) (first|exact zA HK _ (by with_reducible first|exact D7|exact I1|exact D3|exact o9|exact A6)|go_keep)
   (first
    | (go_at_call 87;have hq:=D3;refine (zAQ _ _ _ _ (k+62505) _ _ (G0.mono (by omega)) (by omega)).mono ?_;rintro r w4 ⟨E6,a4,n4,c4,rfl,I2,y9⟩;replace o8:=o8.bw y9;have I1:=zB D3 y9;obtain⟨q0,q1,q2,q3,q4,q5⟩:=R.bw I1;obtain⟨i0,i1,i2,i3⟩:=zA HK _ I1)
    | (go_at_call 96;have hq:=o9;refine (zG9 _ _ _ _ k (s.bits-bt) (-hi) _ A5 (by omega) (by omega) (by omega)).mono ?_;rintro r w3 ⟨B8,a3,n3,c3,rfl,G0,o7⟩;replace o8:=o8.bw o7;have D3:=zB o9 o7)
    | (go_at_call 87;have hq:=A6;refine (zAQ _ _ _ _ k hi _ ((zA HS).hi.bw A6) (by omega)).mono ?_;rintro r w2 ⟨j6,a2,n2,c2,rfl,A5,j7⟩;replace o8:=o8.bw j7;have o9:=zB A6 j7)
    | (go_at_call 96;refine (zG9 _ _ _ _ k (s.bits-bt) lo _ ((zA HS).lo.bw D7) (by omega) (by omega) (by omega)).mono ?_;rintro r w1 ⟨m9,a1,n1,c1,rfl,o8,b9⟩;have A6:=zB D7 b9))
  go_wp2;refine bodyPost_ret (v:=.agg #[.bool m9,.slice a1 n1 c1,.bool E6,.slice a4 n4 c4,.int .i64 bt]) (by simp[results,Tryz.results52,go_sem,q0,q1,q2,q3,q4]) rfl ⟨⟨m9,a1,n1,c1,E6,a4,n4,c4,bt⟩,rfl,rfl,?_,?_⟩
  ·exact SpAt.put5 ⟨o8.mono (by omega),I2.mono (by omega)⟩ q0 q1 q2 q3 q4 _ _ _ _ _
  ·exact jS (zB j8 I1) (Nat.le_succ _) _ _ _ _ _
def yN (d:Nat->Int) (q:Int):Nat->Int
 | 0=>0
 | k+1=>(yN d q k+d k*q)/65536
def kT (d:Nat->Int) (q:Int) (n j:Nat):Int:=if j<n then (yN d q j+d j*q) % 65536 else yN d q n
theorem zTA {x q:Int} (hx:0<=x/\x<65536) (hq:0<=q/\q<65536):0<=x*q/\x*q<=4294836225:=zJ7 hx hq ⟨Int.le_refl 0,by omega⟩ ⟨Int.le_refl 0,by omega⟩
theorem zJM {d:Nat->Int} (hd:Dgs d) {q:Int} (hq:0<=q/\q<65536) (k:Nat):0<=yN d q k/\yN d q k<65536:=by
 induction k with
 | zero=>simp[yN]
 | succ k ih=>simp only[yN];have:=zTA (hd k) hq;omega
theorem zHN {d:Nat->Int} (hd:Dgs d) {q:Int} (hq:0<=q/\q<65536) (n:Nat):Dgs (kT d q n):=by
 intro j;unfold kT
 have:=zJM hd hq n;split<;>omega
theorem zTZ (d:Nat->Int) (q:Int) (n:Nat):∀ k,k<=n->V (kT d q n) k+yN d q k*P k=V d k*q:=by
 intro k
 induction k with
 | zero=>intro _;simp[V,yN]
 | succ k ih =>
  intro hk
  have h1:=ih (by omega)
  simp only[V,P];have h2:kT d q n k=(yN d q k+d k*q) % 65536:=by simp[kT];omega
  rw[h2];simp only[yN]
  have h3:(yN d q k+d k*q) % 65536*P k+(yN d q k+d k*q)/65536*(65536*P k)=(yN d q k+d k*q)*P k:=by
   rw[<- Int.mul_assoc,<- Int.add_mul];congr 1;omega
  have h4:(yN d q k+d k*q)*P k=yN d q k*P k+d k*q*P k:=Int.add_mul _ _ _
  have h5:(V d k+d k*P k)*q=V d k*q+d k*q*P k:=by
   rw[Int.add_mul,Int.mul_assoc (d k),Int.mul_comm (P k) q,<- Int.mul_assoc]
  omega
theorem times_V (d:Nat->Int) (q:Int) (n:Nat):V (kT d q n) (n+1)=V d n*q:=by
 have h:=zTZ d q n n (Zb _);simp only[V];have:kT d q n n=yN d q n:=by simp[kT]
 rw[this];exact h
theorem zKY (a:Option Addr) (n cap:Nat) (d:Nat->Int) (q:Int) (w:World) (ha:Dig w a n cap d) (hn:n<=1000000000) (nJ:0<=q) (dN:q<65536) :
  Calls Tryz.prog 177 #[.slice a n cap,.int .u32 q] w λ r w'=>∃ a',r=.returned (.slice a' (n+1) (n+1))/\Dig w' a' (n+1) (n+1) (kT d q n)/\Below w.heap.size w w':=by
 have aj:=run_make_row' (P:=Tryz.prog) 27 94 (.int .u16 0) 2 Tryz.underlying27 Tryz.infoU16 rfl .i64 .i64 (n+1) (by omega) (by omega)
 have dM:((n+1:Nat):Int)=(n:Int)+1:=by omega
 rw[dM] at aj;clear dM
 go_enter Tryz.func177,Tryz.ntmps177
 go_wp2;clear aj
 go_loopw [6,15] (λ cy i wr=>∃ k:Nat,k<=n/\i=.int .i64 k/\cy=.int .u32 (yN d q k)/\wr.rowIs w.heap.size 94 (n+1) (λ j=>.int .u16 (if j<k then kT d q n j else 0))/\Below w.heap.size w wr) (λ _ i _=>n-(intOf i).toNat)
 case atStart=>exact⟨0,Nat.zero_le _,rfl,rfl,by simpa using World.rowIs_made w (.int .u16 0) (n+1) 94,bl1 _ _⟩
 case round =>
  obtain⟨k,hk,rfl,rfl,C8,A7⟩:=hrel;have cb:=zJM ha.dgs ⟨nJ,dN⟩ k
  by_cases G1:k<n
  ·obtain⟨b1,o1,rfl,b9,E4⟩:=ha.at_ (by omega)
   have g1:wr.cell? ⟨b1,o1+k,none⟩=some (.int .u16 (d k)):=(A7.cell (p:=⟨b1,o1+k,none⟩) b9).trans (E4 k G1);have db:=ha.dgs k;have pb:=zTA db ⟨nJ,dN⟩;have r1:=C8.cell (show k<n+1 by omega)
   have r2:=C8.frozen k;have H1:=zC (show (yN d q k+d k*q)/65536=yN d q (k+1) from rfl)
   have H2:=zC (show IntKind.u16.wrap (yN d q k+d k*q)=kT d q n k by simp[yQ,kT,G1])
   clear E4;go_wp2
   go_roundw
   case rel=>exact⟨k+1,by omega,by go_num,by rw[zA H1],zAX C8 (zA H2),A7.setCell (Zb _) _⟩
   case measure=>simp[intOf];omega
  ·have hkE:k=n:=by omega
   subst hkE;have r1:=C8.cell (show k<k+1 by omega)
   have r2:=C8.frozen k;have H2:=zC (show yN d q k=kT d q k k by simp[kT])
   have HR:=zC C8;clear C8;go_wp2
   go_ret
   refine⟨_,rfl,zDD ((zAX (zA HR) (zA H2)).congr (λ j hj=>by simp[hj])) (zHN ha.dgs ⟨nJ,dN⟩ k) (by omega),A7.setCell (Zb _) _⟩
def zFE (u f:Nat->Int) (j i:Nat):Int:=if i<j then u i else f (i-j)
theorem zSZ {u f:Nat->Int} (hu:Dgs u) (hf:Dgs f) (j:Nat):Dgs (zFE u f j):=by
 intro i;unfold zFE;split
 ·exact hu i
 ·exact hf _
theorem zNW (u f:Nat->Int) (j L:Nat):Tp (zFE u f j) j L=V f (L-j):=by
 unfold Tp;exact zCH _ (λ i _=>by simp only[zFE];rw[if_neg (by omega)];congr 1;omega)
theorem V_low (u:Nat->Int) {j L:Nat} (h:j<=L):V u L=V u j+P j*Tp u j L:=by
 unfold Tp;have:=zHU u j (L-j);rw[show j+(L-j)=L by omega] at this
 exact this
theorem zS1 (u f:Nat->Int) (j:Nat):V (zFE u f j) j=V u j:=zCH _ (λ i hi=>by simp[zFE,hi])
theorem div_step {u o f:Nat->Int} {j L M:Nat} {A D q:Int} (hjL:j<L) (hjM:j<M) (hA:A=V u L+D*(P (j+1)*Tp o (j+1) M)) (hf:V f (L-j)=Tp u j L-q*D) :
  A=V (zFE u f j) L+D*(P j*Tp (upd o j q) j M):=by
 rw[V_low (zFE u f j) (Nat.le_of_lt hjL),zS1,zNW,hf,zFV (upd o j q) j M hjM,Tp_upd];have h1:upd o j q j=q:=by simp[upd]
 rw[h1,hA,V_low u (Nat.le_of_lt hjL)];generalize Tp u j L=U;generalize Tp o (j+1) M=T;simp only[P];rw[Int.mul_sub,Int.mul_add,Int.mul_add];have e1:P j*(q*D)=D*(P j*q):=by rw[Int.mul_comm q D,<- Int.mul_assoc,<- Int.mul_assoc,Int.mul_comm (P j) D]
 have e2:D*(P j*(65536*T))=D*(65536*P j*T):=by rw[<- Int.mul_assoc (P j),Int.mul_comm (P j) 65536]
 omega
theorem div_hat {u v:Nat->Int} {j L n:Nat} (hu:Dgs u) (hv:Dgs v) (hn:0<n) (hL:j+n<L) (hU:Tp u (j+1) L<V v n) (q:Int) (hq:q*V v n<=Tp u j L) (nJ:0<=q) :
  q*v (n-1)<=u (j+n)*65536+u (j+n-1)/\q<65536:=by
 have hD:=zHT hv n;have hT1:=zFV u j L (by omega)
 have CI:=hu j;have PB:0<V v n:=by have:=zD4 hu (j+1) L;omega
 have Xt:Tp u j L<65536*V v n:=by omega
 have dN:q<65536:=by
  rcases Int.lt_or_le q 65536 with h|h
  ·exact h
  ·have:=YW h (show 0<=V v n by omega);omega
 refine⟨?_,dN⟩;have hs:=zHU (λ t=>u (j+t)) (n+1) (L-j-(n+1))
 rw[show n+1+(L-j-(n+1))=L-j by omega] at hs
 have qf:Tp u j L=V (λ t=>u (j+t)) (n+1)+P (n+1)*V (λ t=>u (j+(n+1+t))) (L-j-(n+1)):=hs
 have EV:=jA (λ t=>hu (j+(n+1+t))) (L-j-(n+1))
 have sV:=jA (λ t=>hu (j+t)) (n+1)
 have hPn:=yI (n+1);have hP1:P (n+1)=65536*P n:=rfl
 have hR:V (λ t=>u (j+(n+1+t))) (L-j-(n+1))=0:=by
  rcases Int.lt_or_le (V (λ t=>u (j+(n+1+t))) (L-j-(n+1))) 1 with h|h
  ·omega
  ·have:=Za h (show 0<=P (n+1) by omega)
   omega
 rw[hR,Int.mul_zero,Int.add_zero] at qf;obtain⟨m,rfl⟩:∃ m,n=m+1:=⟨n-1,by omega⟩
 have e1:V (λ t=>u (j+t)) (m+1+1)=V (λ t=>u (j+t)) m+u (j+m)*P m+u (j+(m+1))*(65536*P m):=rfl
 have e2:V v (m+1)=V v m+v m*P m:=rfl;have b1:=zHT (λ t=>hu (j+t)) m
 have b2:=jA hv m;have hp:=yI m;simp only[Nat.add_sub_cancel];rw[show j+(m+1)-1=j+m by omega]
 have h5:q*(v m*P m)<=q*V v (m+1):=Za (by omega) nJ
 have h6:q*v m*P m<(u (j+(m+1))*65536+u (j+m)+1)*P m:=by
  rw[Int.mul_assoc,Int.add_mul,Int.add_mul,Int.one_mul,Int.mul_assoc (u (j+(m+1)))];omega
 have h7:q*v m<u (j+(m+1))*65536+u (j+m)+1:=Int.lt_of_mul_lt_mul_right h6 (by omega)
 omega
theorem row_take {c:Array Value} {N n:Nat} {f:Nat->Int} (hc:∀ i,i<N->c[i]?=some (.int .u16 (f i))) (hn:n<=N):c.toList.take n=kC f n:=by
 apply List.ext_getElem?
 intro j
 rw[List.getElem?_take]
 by_cases hj:j<n
 ·rw[if_pos hj,zA1 f n j hj,Array.getElem?_toList];exact hc j (by omega)
 ·rw[if_neg hj];symm;rw[List.getElem?_eq_none_iff,jX];omega
theorem row_own {w:World} {b t N n base:Nat} {f:Nat->Int} (h:w.rowIs b t N (λ j=>.int .u16 (f j))) (hn:n<=N) (hN:N<=4611686018427387904) (hb:base<=b):Own w base t (some ⟨b,0,none⟩) n N f:=by
 obtain⟨c,h1,h2,h3⟩:=h;refine⟨by rw[jX];omega,Or.inr ⟨b,N,c,rfl,hb,h1,hn,by unfold maxLen;omega,by omega,?_⟩⟩
 rw[Nat.mul_one];exact row_take h3 hn
theorem up_own (neg:Bool) (a:Option Addr) (n cap k:Nat) (d:Nat->Int) (w:World) (ha:Dig w a n cap d) (hn:n<=1000000000) (hk:k<=1000000000) :
  Calls Tryz.prog 116 #[.agg #[.bool neg,.slice a n cap],.int .i64 k] w λ r w' =>
   ∃ g n' m7 o j9,r=.returned (.agg #[.bool j9,.slice (some ⟨g,0,none⟩) n' m7])/\Own w' w.heap.size 94 (some ⟨g,0,none⟩) n' m7 o/\Dgs o/\(n'=0\/o (n'-1)≠0)/\V o n'=V d n*Q k/\n'<=k/16+n+1/\Below w.heap.size w w':=by
 obtain⟨q,hq⟩:∃ q,q=k/16:=⟨_,rfl⟩;obtain⟨s,hs⟩:∃ s,s=k % 16:=⟨_,rfl⟩;have Fg:(k:Int)/16=(q:Int):=by omega
 have qf:(k:Int) % 16=(s:Int):=by omega
 have di:s<16:=by omega
 have nI:¬ (k:Int)<0:=by omega
 obtain⟨W,hW⟩:∃ W,W=(w.alloc (.cells #[.bool neg,.slice a n cap] 29)).alloc (.cells #[.bool false,.slice none 0 0] 29):=⟨_,rfl⟩;have b3:Below w.heap.size w W:=by rw[hW];exact bl2 _ _ _
 have s3:W.heap.size=w.heap.size+1+1:=by rw[hW];simp
 have k0:W.cell? ⟨w.heap.size,0,none⟩=some (.bool neg):=by rw[hW];simp[go_sem]
 have k3:W.cell? ⟨w.heap.size+1,0,none⟩=some (.bool false):=by rw[hW];simp[go_sem]
 have k4:W.cell? ⟨w.heap.size+1,1,none⟩=some (.slice none 0 0):=by rw[hW];simp[go_sem]
 have k5:∀ o,W.frozen? ⟨w.heap.size+1,o,none⟩=false:=by intro o;rw[hW];simp[go_sem]
 have HW:=zC hW;clear hW;have aj:=run_make_row' (P:=Tryz.prog) 27 94 (.int .u16 0) 2 Tryz.underlying27 Tryz.infoU16 rfl .i64 .i64 (q+n+1) (by omega) (by omega)
 have dM:((q+n+1:Nat):Int)=(q:Int)+n+1:=by omega
 rw[dM] at aj;have Hq:=zC hq;have Hs:=zC hs;clear dM hq hs
 go_enter Tryz.func116,Tryz.ntmps116
 go_wp2;clear aj
 go_loopw [26] (λ ii wr=>∃ (i:Nat) (o:Nat->Int),i<=n/\ii=.int .i64 i/\wr.rowIs (w.heap.size+1+1) 94 (q+n+1) (λ j=>.int .u16 (o j))/\Dgs o/\V o (q+n+1)=V d i*Q s*P q/\(∀ j,i+q<j->o j=0)/\o (i+q)<Q s/\Below (w.heap.size+1+1) W wr) (λ ii _=>n-(intOf ii).toNat)
 case atStart =>
  refine⟨0,λ _=>0,Nat.zero_le _,rfl,?_,λ _=>⟨by simp,by simp⟩,?_,λ _ _=>rfl,?_,?_⟩
  ·have:=World.rowIs_made W (.int .u16 0) (q+n+1) 94
   rw[s3,zA HW] at this;exact this
  ·rw[zMQ];simp[V]
  ·have:=zE s;simp;omega
  ·rw[zA HW];exact (Below.refl _ _).alloc (by simp) _
 case round =>
  obtain⟨i,o,hi,rfl,C8,J0,Z8,aY,CC,A7⟩:=hrel
  by_cases I9:i<n
  ·obtain⟨b1,o1,rfl,b9,E4⟩:=ha.at_ (by omega)
   have g1:wr.cell? ⟨b1,o1+i,none⟩=some (.int .u16 (d i)):=(A7.cell (p:=⟨b1,o1+i,none⟩) (by show b1<_;omega)).trans ((b3.cell (p:=⟨b1,o1+i,none⟩) b9).trans (E4 i I9))
   have db:=ha.dgs i;have r1:=C8.cell (show i+q<q+n+1 by omega)
   have r2:=C8.frozen (i+q);have r3:=C8.cell (show i+q+1<q+n+1 by omega)
   have r4:=C8.frozen (i+q+1);have H6:=aY (i+q+1) (by omega)
   rw[H6] at r3;have ob:=J0 (i+q);have HV:=zC Z8;have HZ:=zC aY;have HR:=zC C8;have HD:=zC J0;have Bg:=zC H6;clear E4 Z8 aY C8 J0 H6;obtain⟨c,cZ⟩:=zUC (d i) s (by omega)
   have hhigh:=zI9 (d i) s db.1 db.2;have E2:=up_lt (d i) s di db.1 db.2;have P1:d i*2 ^ s % 4294967296=d i*Q s:=by rw[zGT];omega
   have fP:=or16 (o (i+q)) (d i*Q s % 65536) c s (by omega) ob.1 CC cZ (by omega) (by omega)
   have dh:=or16 0 (d i*Q s/65536) (d i*Q s/65536) 0 (by omega) (by omega) (by simp[Q]) (by simp[Q]) hhigh.1 (by omega)
   have H1:=zC (show bits .or .u16 (o (i+q)) (IntKind.u16.wrap (d i*2 ^ s % 4294967296))=o (i+q)+d i*Q s % 65536 by rw[P1,yQ];exact fP.1)
   have H2:=zC (show bits .or .u16 0 (d i*2 ^ s % 4294967296/65536)=d i*Q s/65536 by rw[P1,dh.1];omega)
   have H3:=zC fP.2;have H4:=zC hhigh;have lq:=zH (show s<=15 by omega)
   have gP:Q 15=32768:=rfl;rw[gP] at lq;clear cZ E2 P1 fP dh hhigh gP;go_wp2
   go_roundw
   case rel =>
    have h3:=zA H3;have h4:=zA H4;have hne:i+q+1≠i+q:=by omega
    have hz:upd o (i+q) (o (i+q)+d i*Q s % 65536) (i+q+1)=0:=by simp[upd];exact zA Bg
    refine⟨i+1,upd (upd o (i+q) (o (i+q)+d i*Q s % 65536)) (i+q+1) (d i*Q s/65536),by omega,by go_num,zB6 (zB6 (zA HR) (i+q) (zA H1)) (i+q+1) (zA H2),jP (jP (zA HD) _ (by omega) h3) _ h4.1 (by omega),?_,λ j hj=>?_,?_,(A7.setCell (by simp) _).setCell (by simp) _⟩
    ·rw[zK3 _ _ _ _ (by omega),zK3 _ _ _ _ (by omega),hz,zA HV]
     exact zUB (V d i) (d i) (o (i+q)) i q s
    ·have e1:j≠i+q:=by omega
     have e2:j≠i+q+1:=by omega
     simp only[upd,e1,e2,if_false];exact zA HZ j (by omega)
    ·have e1:i+1+q=i+q+1:=by omega
     rw[e1];simp only[upd,if_true];exact h4.2
   case measure=>simp[intOf];omega
  ·have hiE:i=n:=by omega
   subst hiE;have q0:wr.cell? ⟨w.heap.size,0,none⟩=some (.bool neg):=(A7.cell (p:=⟨w.heap.size,0,none⟩) (by show w.heap.size<_;omega)).trans k0
   have q3:wr.cell? ⟨w.heap.size+1,0,none⟩=some (.bool false):=(A7.cell (p:=⟨w.heap.size+1,0,none⟩) (by simp)).trans k3
   have q4:wr.cell? ⟨w.heap.size+1,1,none⟩=some (.slice none 0 0):=(A7.cell (p:=⟨w.heap.size+1,1,none⟩) (by simp)).trans k4
   have q5:∀ o,wr.frozen? ⟨w.heap.size+1,o,none⟩=false:=λ o=>(A7.frozen (p:=⟨w.heap.size+1,o,none⟩) (by simp)).trans (k5 o)
   have L5:=A7.size;rw[s3] at L5;have HR:=zC (zDD C8 J0 (by omega))
   have AG:=zC C8;have HO:=zC J0;have HV:=zC Z8;clear Z8 aY C8 J0;go_wp2_with (go_at_call 70;refine (zSV _ _ _ _ o _ (zA HR)).mono ?_;rintro r w2 ⟨rfl,j7⟩;obtain⟨A9,B7,E7⟩:=zZ (w.heap.size+1+1) L5 j7);have tl:=zBC o (q+i+1);refine bodyPost_ret (v:=.agg #[.bool (neg && decide (0<kB o (q+i+1))),.slice (some ⟨w.heap.size+1+1,0,none⟩) (kB o (q+i+1)) (q+i+1)]) (by simp[results,Tryz.results116,go_sem,B7,q3,q4]) rfl ⟨w.heap.size+1+1,kB o (q+i+1),q+i+1,o,_,rfl,?_,zA HO,zCD _ _,?_,?_,?_⟩
   ·refine row_own ?_ tl (by omega) (by omega)
    have P2:w2.rowIs (w.heap.size+1+1) 94 (q+i+1) (λ j=>.int .u16 (o j)):=(zA AG).of_block (j7.block _ (zA AG).lt)
    exact (P2.setOther (by simp) _).setOther (by simp) _
   ·rw[zDE,zA HV,Int.mul_assoc,zA Hs,zA Hq,<- zHS]
   ·have:=zA Hq;omega
   ·exact ((zB (b3.trans (A7.mono (by omega))) j7).setCell (by simp) _).setCell (by simp) _
def OwnL (w:World) (g t L C:Nat) (u:Nat->Int):Prop:=∃ cur:List Value,w.heap[g]?=some (.cells cur.toArray t (0,0))/\cur.length=C/\L<=C/\∀ j,j<L->cur[j]?=some (.int .u16 (u j))
theorem OwnL.lt {w:World} {g t L C:Nat} {u:Nat->Int} (h:OwnL w g t L C u):g<w.heap.size:=by
 obtain⟨cur,h1,_⟩:=h;exact (Array.getElem?_eq_some_iff.1 h1).1
theorem OwnL.cell {w:World} {g t L C:Nat} {u:Nat->Int} (h:OwnL w g t L C u) {j:Nat} (hj:j<L):w.cell? ⟨g,j,none⟩=some (.int .u16 (u j)):=by
 obtain⟨cur,h1,h2,h3,h4⟩:=h;simp[World.cell?,h1,h4 j hj]
theorem OwnL.of_block {w w':World} {g t L C:Nat} {u:Nat->Int} (h:OwnL w g t L C u) (e:w'.heap[g]?=w.heap[g]?):OwnL w' g t L C u:=by
 obtain⟨cur,h1,h2⟩:=h;exact⟨cur,e.trans h1,h2⟩
theorem OwnL.bw {w w':World} {g t L C:Nat} {u:Nat->Int} (h:OwnL w g t L C u) (hb:Below w.heap.size w w'):OwnL w' g t L C u:=h.of_block (hb.block _ h.lt)
theorem OwnL.dig {w:World} {g t L C:Nat} {u:Nat->Int} (h:OwnL w g t L C u) (hu:Dgs u) (off:Nat) (ho:off<=L) (hL:L<=70368744177664):Dig w (some ⟨g,off,none⟩) (L-off) (C-off) (λ i=>u (off+i)) :=
 ⟨λ _=>⟨g,off,rfl,h.lt,λ j hj=>h.cell (by omega)⟩,λ j=>hu _,by obtain⟨_,_,_,h3,_⟩:=h;omega,by omega⟩
theorem ownL_of {w:World} {base t g L C:Nat} {u:Nat->Int} (h:Own w base t (some ⟨g,0,none⟩) L C u):OwnL w g t L C u/\base<=g:=by
 have h':w.ownsRow base t 1 (.slice (some ⟨g,0,none⟩) L C) L (kC u L):=h
 rcases h'.2 with⟨hv,h0⟩|⟨g',c2,cur,hv,hb,h1,h2,h3,h4,h5⟩
 ·cases hv
 ·simp only[Value.slice.injEq,Option.some.injEq,Addr.mk.injEq] at hv
  obtain⟨⟨rfl,_,_⟩,_,rfl⟩:=hv;refine⟨⟨cur.toList,by simpa using h1,by simp;omega,h2,λ j hj=>?_⟩,hb⟩
  have h6:=zA1 u L j hj;rw[<- h5,List.getElem?_take,if_pos (by omega)] at h6
  exact h6
theorem OwnL.splice {w w':World} {g t L C:Nat} {u f:Nat->Int} (h:OwnL w g t L C u) (j:Nat) (hj:j<=L)
  (cur:List Value) (hc:w.heap[g]?=some (.cells cur.toArray t (0,0))) (h':w'.heap[g]?=some (.cells (Go.splice cur j (kC f (L-j))).toArray t (0,0))):OwnL w' g t L C (zFE u f j):=by
 obtain⟨GX,h1,h2,h3,h4⟩:=h
 have e:GX=cur:=by
  rw[hc] at h1;have:=Option.some.inj h1;simp only[Obj.cells.injEq] at this;have h5:=congrArg Array.toList this.1
  simpa using h5.symm
 subst e;refine⟨_,h',?_,h3,λ i hi=>?_⟩
 ·rw[length_splice _ _ _ (by rw[jX];omega)];exact h2
 ·unfold Go.splice zFE
  by_cases nH:i<j
  ·rw[if_pos nH,List.getElem?_append_left (by rw[List.length_take];omega),List.getElem?_take,if_pos nH];exact h4 i hi
  ·rw[if_neg nH,List.getElem?_append_right (by rw[List.length_take];omega),List.length_take,Nat.min_eq_left (by omega),List.getElem?_append_left (by rw[jX];omega),zA1 _ _ _ (by omega)]
theorem zOP (d:Nat->Int) (n:Nat):kC (upd (upd d n 0) (n+1) 0) (n+2)=kC d n ++ [.int .u16 0,.int .u16 0]:=by
 rw[show n+2=n+1+1 from rfl,zEU,zEU,List.append_assoc];rfl
theorem zE5 {Pr:Program} (w:World) {ops:Array Oper} {rest:List Oper} {o:Oper} {act:Act} {Q:Exit->Act->World->Prop} (tZ:o.guard=none) (s x:Operand) (t:TypeId)
  (ho:o.op=.call { callee:=.builtin .append,args:=#[s,x],argTypes:=#[t,t] })
  (base:Nat) (e:TypeId) (ht:Pr.underlying t=some (.slice e)) (hinfo:(Pr.info? e).map (λ i=>(i.zero,i.size,i.bytes))=some (some (.int .u16 0),1,2))
  (a:Option Addr) (n cap:Nat) (d:Nat->Int) (hs:act.eval s=.slice a n cap) (G8:Own w base e a n cap d) (g c:Nat) (hx:act.eval x=.slice (some ⟨g,0,none⟩) 2 c)
  (hv:w.cell? ⟨g,0,none⟩=some (.int .u16 0)) (Qz:w.cell? ⟨g,1,none⟩=some (.int .u16 0)) (hn:n<=1000000000) (hbase:base<=w.heap.size)
  (h:∀ g' m7 w',Own w' base e (some ⟨g',0,none⟩) (n+2) m7 (upd (upd d n 0) (n+1) 0)->Below base w w'->wpList Pr ops Q rest (act.put o.dst (.slice (some ⟨g',0,none⟩) (n+2) m7)) w'):wpList Pr ops Q (o :: rest) act w:=by
 obtain⟨i,hi,M5,H6,ao⟩:=info_parts hinfo;have E2:∀ k,(Value.slice a n cap).ownBlock=some k->base<=k:=λ k hk=>(World.ownsRow.lt G8 k hk).1
 refine wpList_append_lies w tZ s x t ho base e i (.int .u16 0) 1 2 ht hi M5 H6 ao rfl (by decide) (.slice a n cap) n (kC d n) hs G8 ⟨g,0,none⟩ 2 c [.int .u16 0,.int .u16 0] hx rfl ?_ ?_ (by decide) ?_ ?_ hbase _ rfl ?_
 ·intro j u hj
  match j,hj with
  | 0,hj=>simp at hj;subst hj;rw[zCI];exact hv
  | 1,hj=>simp at hj;subst hj;rw[zCI];exact Qz
 ·intro u hu;simp at hu;subst hu;rfl
 ·unfold maxLen;omega
 ·omega
 ·intro g' m7 w' Q0 hgrow _ _
  rw[<- zOP] at Q0;exact h _ _ _ Q0 ((Below.refl base w).grown hgrow hbase E2)
theorem or64' (a b c:Int) (ha:0<=a) (ax:a<65536) (hb:b=65536*c) (oz:0<=c) (E4:c<281474976710656):bits .or .u64 a b=a+b:=by
 obtain⟨A,rfl⟩:=Int.eq_ofNat_of_zero_le ha;obtain⟨C,rfl⟩:=Int.eq_ofNat_of_zero_le oz;have h3:=zNV A (65536*C) C 16 (by omega) (by omega)
 have ay:b=((65536*C:Nat):Int):=by omega
 rw[ay,u64_or_nat A (65536*C) (by omega) (by omega),h3]
 omega
def LongI (A D:Int) (L N J:Nat) (u o:Nat->Int):Prop:=Dgs u/\Dgs o/\A=V u L+D*(P J*Tp o J N)/\Tp u J L<D
theorem zO6 {A:Int} {u0 v:Nat->Int} {n1 n2 N:Nat} (hu:Dgs u0) (hv:Dgs v) (ij:0<n1) (JR:n1=0\/v (n1-1)≠0) (hA:V u0 n2=A) (hN:N+n1=n2+2) :
  LongI A (V v n1) (n2+2) N N (upd (upd u0 n2 0) (n2+1) 0) (λ _=>0):=by
 have hz:Dgs (upd (upd u0 n2 0) (n2+1) 0):=jP (jP hu _ (by omega) (by omega)) _ (by omega) (by omega)
 refine⟨hz,λ _=>⟨by simp,by simp⟩,?_,?_⟩
 ·rw[zMP,Int.mul_zero,Int.mul_zero,Int.add_zero,<- hA]
  show _=V _ n2+_*P n2+_*P (n2+1)
  have e1:V (upd (upd u0 n2 0) (n2+1) 0) n2=V u0 n2:=zCH _ (λ j hj=>by simp only[upd];rw[if_neg (by omega),if_neg (by omega)])
  have e2:upd (upd u0 n2 0) (n2+1) 0 n2=0:=by simp[upd]
  have e3:upd (upd u0 n2 0) (n2+1) 0 (n2+1)=0:=by simp[upd]
  rw[e1,e2,e3];omega
 ·obtain⟨k,rfl⟩:∃ k,n1=k+1:=⟨n1-1,by omega⟩
  unfold Tp;rw[show n2+2-N=k+1 by omega]
  have h1:=zHT (λ t=>hz (N+t)) k
  have h2:=V_ge hv k (by simpa using JR)
  have e3:upd (upd u0 n2 0) (n2+1) 0 (N+k)=0:=by rw[show N+k=n2+1 by omega];simp[upd]
  show V _ k+upd (upd u0 n2 0) (n2+1) 0 (N+k)*P k<_
  rw[e3];omega
theorem zI7 {Pr:Program} {ops:Array Oper} {o:Oper} {a:Act} {w:World} {K:Act->World->Prop} {Q:Exit->Act->World->Prop} {E:Prop} (tZ:o.guard=none) (x y:Operand) (t:TypeId)
  (ho:o.op=.call { callee:=.builtin .copy,args:=#[x,y],argTypes:=#[t,t] }) (e:TypeId) (hut:Pr.underlying t=some (.slice e)) (K3:(Pr.info? e).map (·.size)=some 1)
  (g j L C cd cs:Nat) (sp:Option Addr) (u f:Nat->Int) (hd:a.eval x=.slice (some ⟨g,j,none⟩) (L-j) cd) (hs:a.eval y=.slice sp (L-j) cs) (G8:OwnL w g e L C u) (hf:Dig w sp (L-j) cs f) (hj:j<L)
  (B:Nat) (w0:World) (hb:Below B w0 w) (WZ:B<=g)
  (hK:∀ w',OwnL w' g e L C (zFE u f j)->Below B w0 w'->(∀ k,k≠g->w'.heap[k]?=w.heap[k]?)->w'.heap.size=w.heap.size->K (a.put o.dst (goInt (kC f (L-j)).length)) w') :
  if Region.wanted o (yielded ops a.tmps)=true then Oper.wp Pr o a w K Q else E:=by
 have hw:Region.wanted o (yielded ops a.tmps)=true:=by simp[Region.wanted,tZ]
 rw[if_pos hw];have Q0:=G8;obtain⟨cur,h1,h2,h3,h4⟩:=G8;obtain⟨b,off,rfl,tV,hcells⟩:=hf.at_ (by omega)
 have fQ:=run_copy_row (P:=Pr) w t t o.type e g j (L-j) cd ⟨b,off,none⟩ (L-j) cs cur.toArray e (kC f (L-j)) hut K3 h1 (by rw[jX];simp)
  (λ i v hv=>by
   obtain⟨q1,q2⟩:=zCJ hv
   rw[zCI,q2];exact hcells i q1) (by rw[jX];simp;omega) (zDG _ _)
 unfold Oper.wp;simp[execOp,ho,resolve,invoke,builtin,hd,hs,fQ,Result.andThen];refine hK _ (Q0.splice j (by omega) cur h1 ?_) (below_setRow hb WZ _) (λ k hk=>setRow_other w g k _ (by first|exact hk|exact λ e=>hk e.symm)) ?_
 ·simpa [Go.splice] using setRow_heap w g _ _ e _ h1
 ·simp[World.setRow]
theorem Tryz.sizeU16:(Tryz.prog.info? 94).map (·.size)=some 1:=by kernel_rfl
theorem zSD {A D:Int} {L N j:Nat} {u o f:Nat->Int} {q:Int} (hjL:j<L) (hjN:j<N) (hD:0<D) (hA:A=V u L+D*(P (j+1)*Tp o (j+1) N)) (du:Dgs u) (do_:Dgs o) (df:Dgs f) (hq:q=Tp u j L/D) (nJ:0<=q) (dN:q<65536)
  (hf:V f (L-j)=Tp u j L-D*q):LongI A D L N j (zFE u f j) (upd o j q):=by
 refine⟨zSZ du df j,jP do_ j nJ dN,div_step hjL hjN hA (by rw[hf,Int.mul_comm D q]),?_⟩
 rw[zNW,hf,hq];have h1:=Int.mul_ediv_add_emod (Tp u j L) D;have h2:=Int.emod_lt_of_pos (Tp u j L) hD;omega
theorem trim_cmp {d e:Nat->Int} (hd:Dgs d) (he:Dgs e) (n m:Nat):zFZ d e (kB d n) (kB e m)=zN (V d n) (V e m):=by
 rw[zG8 hd he _ _ (zCD d n) (zCD e m),zDE,zDE]
theorem field1 (x:Bool) (a:Option Addr) (n c:Nat) (w:World):(Instr.field 29 (.agg #[.bool x,.slice a n c]) 1).run Tryz.prog w=.ok (.slice a n c) w:=by kernel_rfl
theorem zS2 (a c : Option Addr) (n m cap cap2 : Nat) (d e : Nat → Int) (w : World) (ha : Dig w a n cap d) (hc : Dig w c m cap2 e) (hn : n ≤ 900000000) (h1 : n = 0 ∨ d (n - 1) ≠ 0) (h2 : m = 0 ∨ e (m - 1) ≠ 0) (hm : 3 < m) (hge : V e m ≤ V d n) :
    Calls Tryz.prog 157 #[.slice a n cap, .slice c m cap2] w (zHR w d e n m) := by
  have hcv := zG8 ha.dgs hc.dgs n m h1 h2
  have hneg : ¬ zFZ d e n m < 0 := by rw [hcv]; unfold zN; rw [if_neg (by omega)]; split <;> omega
  have hm3 : ¬ (m : Int) ≤ 3 := by omega
  have hmr := hc.room
  have hml := hc.le
  have hmn : m ≤ n := zHC hc.dgs h2 (Int.lt_of_le_of_lt hge (zHT ha.dgs n))
  have htop : 0 < e (m - 1) := by have := hc.dgs (m - 1); omega
  have htop2 := (hc.dgs (m - 1)).2
  obtain ⟨b2, o2, rfl, hb2, hc2⟩ := hc.at_ (by omega)
  have hct := hc2 (m - 1) (by omega)
  have hi : ((m : Int) - 1) = ((m - 1 : Nat) : Int) := by omega
  have hfd := field1
  clear hcv hc2
  go_enter Tryz.func157, Tryz.ntmps157
  go_wp2_with (go_at_call 53; refine (kJ _ _ _ _ _ _ d e _ ha hc).mono ?_; rintro r w0 ⟨rfl, hb0⟩)
  have g1 : w0.cell? ⟨b2, o2 + (m - 1), none⟩ = some (.int .u16 (e (m - 1))) := (hb0.cell (p := ⟨b2, o2 + (m - 1), none⟩) hb2).trans hct
  go_loop [6] (fun k => ∃ s : Nat, k = .int .i64 s ∧ s ≤ 15 ∧ e (m - 1) * Q s < 65536) (fun k => 16 - (intOf k).toNat)
  case atStart => exact ⟨0, rfl, by omega, by simp [Q]; omega⟩
  case round =>
    obtain ⟨s, rfl, hs, hes⟩ := hrel
    have hq := zE s
    have hmod : IntKind.u16.wrap (e (m - 1) * 2 ^ s) = e (m - 1) * Q s := by
      rw [yQ, zGT]
      have : 0 ≤ e (m - 1) * Q s := Int.mul_nonneg (by omega) (by omega)
      omega
    by_cases hlt : e (m - 1) * Q s < 32768
    · have ht : IntKind.u16.wrap (e (m - 1) * 2 ^ s) < 32768 := by rw [hmod]; exact hlt
      have hs15 : s < 15 := by
        rcases Nat.lt_or_ge s 15 with h | h
        · exact h
        · have h5 := zH h
          have e15 : Q 15 = 32768 := rfl
          have h6 := Int.mul_le_mul_of_nonneg_right (show 1 ≤ e (m - 1) by omega) (show 0 ≤ Q s by omega)
          omega
      have HN := zC (show e (m - 1) * Q (s + 1) < 65536 by simp only [Q]; rw [Int.mul_left_comm]; omega)
      clear hmod hlt hes
      go_wp2
      go_round
      case rel => exact ⟨s + 1, by go_num, by omega, zA HN⟩
      case measure => simp [intOf]; omega
    · have ht : ¬ IntKind.u16.wrap (e (m - 1) * 2 ^ s) < 32768 := by rw [hmod]; exact hlt
      clear hmod hlt
      have he0 : 0 < V e m := by
        have h5 := V_ge hc.dgs (m - 1) (by omega)
        rw [show m - 1 + 1 = m by omega] at h5
        have := yI (m - 1); omega
      go_wp2_with fail
      refine (up_any false _ m cap2 s e _ (hc.bw hb0) (by omega) (by omega)).mono ?_
      rintro r w1 ⟨neg1, a1, n1, c1, rfl, hZ1, hb1⟩
      obtain ⟨v, rfl, hn1, hv, hvtop, hn1k, hvV⟩ := zRR hZ1 (by simp only [sgn]; exact Int.mul_pos he0 (by omega))
      obtain ⟨k1, rfl⟩ : ∃ k1, n1 = k1 + 1 := ⟨n1 - 1, by omega⟩
      have HV := zC (show V v (k1 + 1) = V e m * Q s from hvV.symm)
      have hB1 := zB hb0 hb1
      clear hZ1 hvV g1 ht
      go_wp2_with fail
      refine (up_own false _ n cap s d _ (ha.bw hB1) (by omega) (by omega)).mono ?_
      rintro r w2 ⟨g0, n2, C2, u0, neg2, rfl, hown, hu0, hu0top, hu0V, hn2k, hb2'⟩
      have hn12 : k1 + 1 ≤ n2 := by
        refine zHC hv.dgs hvtop ?_
        rw [zA HV]
        have h5 : V e m * Q s ≤ V d n * Q s := Int.mul_le_mul_of_nonneg_right hge (by omega)
        have h6 := zHT hu0 n2
        rw [hu0V] at h6
        omega
      have hn2b : n2 ≤ 900000100 := by omega
      have HU0 := zC hu0V
      obtain ⟨N, hN⟩ : ∃ N : Nat, (n2 : Int) + 2 - ((k1 : Int) + 1) = (N : Int) := ⟨n2 + 2 - (k1 + 1), by omega⟩
      have HNn := zC (show N + (k1 + 1) = n2 + 2 by omega)
      have hN1 : 0 < N := by omega
      have hsz2 := hb2'.size
      clear hu0V hes
      have hmk := run_make_row' (P := Tryz.prog) 27 94 (.int .u16 0) 2 Tryz.underlying27 Tryz.infoU16 rfl .i64 .i64 N (by omega) (by omega)
      go_wp2_with (at_builtin; refine zE5 _ rfl _ _ 27 rfl w1.heap.size 94 Tryz.underlying27 Tryz.infoU16 (some ⟨g0, 0, none⟩) n2 C2 u0 rfl (hown.alloc _) w2.heap.size 2 rfl (by simp [go_sem]) (by simp [go_sem]) (by omega) (by simp; omega) ?_; intro g C w3 hown3 hb3)
      clear hmk hown
      have HN := zC hN
      clear hN
      obtain ⟨hOL, hbg⟩ := ownL_of hown3
      have hB3 : Below w1.heap.size w1 w3 := (hb2'.alloc hsz2 _).trans hb3
      have hg3 := hOL.lt
      have hsz3 := hB3.size
      obtain ⟨bv, ov, rfl, hbv, hcv⟩ := hv.at_ hn1
      have hvt := hcv k1 (by omega)
      have HI := zC (zO6 hu0 hv.dgs hn1 hvtop (zA HU0) (zA HNn))
      clear hcv hown3 hb3 hb2'
      go_loopw [11] (fun jj wr => ∃ (J : Nat) (u o : Nat → Int), J ≤ N ∧ jj = .int .i64 ((J : Int) - 1) ∧ OwnL wr g 94 (n2 + 2) C u ∧ wr.rowIs w3.heap.size 94 N (fun j => .int .u16 (o j)) ∧ LongI (V d n * Q s) (V v (k1 + 1)) (n2 + 2) N J u o ∧ Below w1.heap.size w1 wr) (fun jj _ => (intOf jj + 1).toNat)
      case atStart => exact ⟨N, _, fun _ => 0, Nat.le_refl _, rfl, hOL.bw (bl1 _ _), World.rowIs_made w3 (.int .u16 0) N 94, zA HI, hB3.alloc hsz3 _⟩
      case round =>
        obtain ⟨J, u, o, hJ, rfl, hu, hrow, hI, hBr⟩ := hrel
        have hNn := zA HNn
        by_cases hJ0 : J = 0
        · subst hJ0
          obtain ⟨du, do_, hA, hT⟩ := hI
          have huD := hu.dig du 0 (by omega) (by omega)
          simp only [Nat.sub_zero, Nat.zero_add] at huD
          have huD2 : Dig wr (some ⟨g, 0, none⟩) (n2 + 2) C u := huD
          have hrowD := zDD hrow do_ (by omega)
          have HA := zC hA
          have HT := zC hT
          clear hA hT hrow hu
          go_wp2_with (first
            | (go_at_call 70; refine (zBM _ _ _ _ u _ huD2).mono ?_; rintro r w5 ⟨neg5, a5, n5, c5, rfl, hZ5, hb5⟩)
            | (go_at_call 96; refine (zH1 _ _ _ _ s (n2 + 2) _ _ hZ5 (by omega) (by omega)).mono ?_; rintro r w6 ⟨neg6, a6, n6, c6, rfl, hZ6, hb6⟩))
          go_ret2
          obtain ⟨z6, p1, p2, p3, p4, p5⟩ := hZ6
          simp only [sgn] at p5
          have hQ := zE s
          have f0 := zA HA
          have f1 := zA HT
          have f2 := zA HV
          rw [zFW] at f1
          rw [zFW, show P 0 = 1 from rfl, Int.one_mul, f2] at f0
          rw [f2] at f1
          have f3 : V u (n2 + 2) = Q s * (V d n - V o N * V e m) := by
            rw [Int.mul_sub, Int.mul_comm (Q s) (V d n), f0]
            have : V e m * Q s * V o N = Q s * (V o N * V e m) := by rw [Int.mul_comm (V e m), Int.mul_assoc, Int.mul_comm (V e m)]
            omega
          have hu9 := jA du (n2 + 2)
          obtain ⟨R, hR⟩ : ∃ R, R = V d n - V o N * V e m := ⟨_, rfl⟩
          rw [← hR] at f3
          have f4 : V u (n2 + 2) / Q s = R := by rw [f3, Int.mul_ediv_cancel_left _ (by omega)]
          have hR0 : 0 ≤ R := by
            rcases Int.lt_or_le R 0 with h5 | h5
            · have h6 := Int.mul_le_mul_of_nonneg_left (show R ≤ -1 by omega) (show 0 ≤ Q s by omega)
              omega
            · exact h5
          have hR1 : R < V e m := by
            rcases Int.lt_or_le R (V e m) with h5 | h5
            · exact h5
            · have h6 := Int.mul_le_mul_of_nonneg_left h5 (show 0 ≤ Q s by omega)
              rw [Int.mul_comm (Q s) (V e m)] at h6
              omega
          have hz0 := jA p1.dgs n6
          have hpos : 0 < n6 → 1 ≤ V z6 n6 := fun h5 => by
            have h6 := V_ge p1.dgs (n6 - 1) (by omega)
            rw [show n6 - 1 + 1 = n6 by omega] at h6
            have := yI (n6 - 1); omega
          have hz : V z6 n6 = R ∧ (0 < n6 ↔ R ≠ 0) := by
            have hn0 : n6 = 0 → V z6 n6 = 0 := fun h5 => by rw [h5]; rfl
            rw [show (if false = true then -V u (n2 + 2) else V u (n2 + 2)) = V u (n2 + 2) from rfl, f4] at p5
            cases neg6
            · have h5 : R = V z6 n6 := p5
              refine ⟨h5.symm, fun h6 => by have := hpos h6; omega, fun h6 => ?_⟩
              rcases Nat.eq_zero_or_pos n6 with h7 | h7
              · have := hn0 h7; omega
              · exact h7
            · have h5 : R = -V z6 n6 := p5
              rcases Nat.eq_zero_or_pos n6 with h7 | h7
              · have := p3 h7; cases this
              · have := hpos h7; omega
          have hn6 : n6 ≤ n := zHC p1.dgs p2 (by rw [hz.1]; have := zHT ha.dgs n; omega)
          have hs16 : s / 16 = 0 := by omega
          exact ⟨_, N, N, o, a6, n6, c6, R, rfl, hrowD.bw (zB hb5 hb6), by omega, hz.2, by omega, by rw [hR]; omega, hR0, hR1, zB (zB (hB1.trans (hBr.mono hB1.size)) hb5) hb6⟩
        · obtain ⟨j, rfl⟩ : ∃ j, J = j + 1 := ⟨J - 1, by omega⟩
          have e0 : ((j + 1 : Nat) : Int) - 1 = (j : Int) := by omega
          rw [e0]
          obtain ⟨du, do_, hA, hT⟩ := hI
          have y1 := hu.cell (show j + k1 < n2 + 2 by omega)
          have y2 := hu.cell (show j + (k1 + 1) < n2 + 2 by omega)
          have y3 : wr.cell? ⟨bv, ov + k1, none⟩ = some (.int .u16 (v k1)) := (hBr.cell (p := ⟨bv, ov + k1, none⟩) hbv).trans hvt
          have i4 : (j : Int) + ((k1 : Int) + 1) < (n2 : Int) + 2 := by omega
          have i5 : (j : Int) + (k1 : Int) < (n2 : Int) + 2 := by omega
          have b1 := du (j + k1)
          have b2 := du (j + (k1 + 1))
          have b3 := hv.dgs k1
          have b4 : 0 < v k1 := by have h9 : v k1 ≠ 0 := by simpa using hvtop
                                   omega
          clear e0
          have hL9 : n2 + 2 ≤ 1000000000 := by omega
          have hCge : n2 + 2 ≤ C := by obtain ⟨_, _, _, h3, _⟩ := hu; exact h3
          have hD : 0 < V v (k1 + 1) := by have := zD4 du (j + 1) (n2 + 2); omega
          obtain ⟨qs, hqs⟩ : ∃ qs, qs = Tp u j (n2 + 2) / V v (k1 + 1) := ⟨_, rfl⟩
          have hqs0 : 0 ≤ qs := by rw [hqs]; exact Int.ediv_nonneg (zD4 du _ _) (by omega)
          have hqm : qs * V v (k1 + 1) ≤ Tp u j (n2 + 2) := by rw [hqs]; exact Int.ediv_mul_le _ (by omega)
          obtain ⟨hh1, hh2⟩ := div_hat du hv.dgs (show 0 < k1 + 1 by omega) (show j + (k1 + 1) < n2 + 2 by omega) hT qs hqm hqs0
          rw [show j + (k1 + 1) - 1 = j + k1 by omega, show k1 + 1 - 1 = k1 by omega] at hh1
          have hor : bits BinOp.or IntKind.u64 (u (j + k1)) (u (j + (k1 + 1)) * 65536) = u (j + (k1 + 1)) * 65536 + u (j + k1) := by
            rw [or64' _ _ (u (j + (k1 + 1))) b1.1 b1.2 (by omega) b2.1 (by omega)]; omega
          have HX := zC (show IntKind.u64.wrap ((bits BinOp.or IntKind.u64 (u (j + k1)) (u (j + (k1 + 1)) * 65536)).tdiv (v k1)) = (u (j + (k1 + 1)) * 65536 + u (j + k1)) / v k1 by
            rw [hor, Int.tdiv_eq_ediv_of_nonneg (by omega), IntKind.wrap_u64]
            have g5 : 0 ≤ (u (j + (k1 + 1)) * 65536 + u (j + k1)) / v k1 := Int.ediv_nonneg (by omega) (by omega)
            have g6 : (u (j + (k1 + 1)) * 65536 + u (j + k1)) / v k1 ≤ u (j + (k1 + 1)) * 65536 + u (j + k1) := Int.ediv_le_self _ (by omega)
            omega)
          have HX2 := zC (show qs ≤ (u (j + (k1 + 1)) * 65536 + u (j + k1)) / v k1 from Int.le_ediv_of_mul_le b4 hh1)
          have HQ := zC hqs
          have HA := zC hA
          have HT := zC hT
          have HM := zC hqm
          clear hor hA hT hqs hqm hh1
          go_wp2_with fail
          all_goals
            go_loopw [13, 14] (fun q x wq => ∃ Y : Int, q = .int .u64 Y ∧ qs ≤ Y ∧ Y ≤ 65535 ∧ OwnL wq g 94 (n2 + 2) C u ∧ wq.rowIs w3.heap.size 94 N (fun j => .int .u16 (o j)) ∧ Below w1.heap.size w1 wq) (fun q _ _ => (intOf q).toNat)
            case atStart =>
              first
                | exact ⟨65535, rfl, by omega, Int.le_refl _, hu, hrow, hBr⟩
                | exact ⟨_, rfl, by rw [zA HX]; exact zA HX2, by assumption, hu, hrow, hBr⟩
            case round =>
              obtain ⟨Y, rfl, hY0, hY1, huq, hrowq, hBq⟩ := hrel
              have hYn : 0 ≤ Y := by omega
              have j1 : (j : Int) ≤ (n2 : Int) + 2 := by omega
              have j2 : (n2 : Int) + 2 ≤ (C : Int) := by omega
              have j3 : j < C := by omega
              have hvq := hv.bw hBq
              have huD := huq.dig du j (by omega) (by omega)
              have dT := zHN hv.dgs (q := Y) ⟨hYn, by omega⟩ (k1 + 1)
              have dU : Dgs (fun i => u (j + i)) := fun i => du _
              have vT := times_V v Y (k1 + 1)
              have hcmp := trim_cmp dT dU (k1 + 1 + 1) (n2 + 2 - j)
              have eU : V (fun i => u (j + i)) (n2 + 2 - j) = Tp u j (n2 + 2) := rfl
              rw [vT, eU] at hcmp
              by_cases hle : V v (k1 + 1) * Y ≤ Tp u j (n2 + 2)
              · have t1 : zN (V v (k1 + 1) * Y) (Tp u j (n2 + 2)) ≤ 0 := by unfold zN; split <;> (try split) <;> omega
                have hYq : Y = qs := by
                  have h5 : Y ≤ Tp u j (n2 + 2) / V v (k1 + 1) := Int.le_ediv_of_mul_le hD (by rw [Int.mul_comm]; exact hle)
                  rw [← zA HQ] at h5; omega
                have hm9 : kB (kT v Y (k1 + 1)) (k1 + 1 + 1) ≤ n2 + 2 - j := by
                  refine zHC dT (zCD _ _) ?_
                  rw [zDE, vT]
                  have := Tp_lt du j (n2 + 2); omega
                have HF := zC (show V (zAM (fun i => u (j + i)) (kT v Y (k1 + 1)) (kB (kT v Y (k1 + 1)) (k1 + 1 + 1))) (n2 + 2 - j) = Tp u j (n2 + 2) - V v (k1 + 1) * Y by
                  rw [zJ3 dU dT _ _ hm9 (by rw [zDE, vT, eU]; exact hle), zDE, vT, eU])
                have dF := zEB dU dT (kB (kT v Y (k1 + 1)) (k1 + 1 + 1))
                have HCM := zC hcmp
                have HYQ := zC hYq
                clear hcmp vT eU hYq
                go_wp2_with fail
                refine (zKY (some ⟨bv, ov, none⟩) (k1 + 1) c1 v Y _ hvq (by omega) hYn (by omega)).mono ?_
                rintro r wt ⟨at_, rfl, hdt, hbt⟩
                have hBt := hBq.trans (hbt.mono hBq.size)
                have huDt := huD.bw hbt
                have hB0 : Below wt.heap.size wt wt.drew := (Below.refl _ _).drew
                have tl := zBC (kT v Y (k1 + 1)) (k1 + 1 + 1)
                have tl2 := zBC (fun i => u (j + i)) (n2 + 2 - j)
                go_wp2_with fail
                go_region_held3 (fun _ => True) (trivial)
                  (first
                    | (go_at_call 53; refine (kJ _ _ _ _ _ _ (kT v Y (k1 + 1)) (fun i => u (j + i)) _ ((hdt.take tl).bw hD2) ((huDt.take tl2).bw hD2)).mono ?_; rintro r wc3 ⟨rfl, hb3⟩; have hD3 := zB hD2 hb3; rw [zA HCM])
                    | (go_at_call 117; have hq := hD1; refine (yH _ _ _ (fun i => u (j + i)) _ (huDt.bw hD1)).mono ?_; rintro r wc2 ⟨rfl, hb2⟩; have hD2 := zB hD1 hb2)
                    | (go_at_call 117; refine (yH _ _ _ (kT v Y (k1 + 1)) _ (hdt.bw hB0)).mono ?_; rintro r wc1 ⟨rfl, hb1⟩; have hD1 := zB hB0 hb1))
                have hBc := hBt.trans (hD3.mono hBt.size)
                have huc := (huq.bw hbt).bw hD3
                have hrowc : wc3.rowIs w3.heap.size 94 N (fun j => .int .u16 (o j)) := (hrowq.of_block (hbt.block _ hrowq.lt)).of_block (hD3.block _ (Nat.lt_of_lt_of_le hrowq.lt hbt.size))
                have hdtc := hdt.bw hD3
                have huDc := huDt.bw hD3
                have hE0 : Below wc3.heap.size wc3 wc3.drew := (Below.refl _ _).drew
                clear hb1 hb2 hb3 hD1 hD2 hD3 hB0
                go_wp2
                go_region_held3 (fun _ => True) (trivial)
                  (first
                    | (go_at_call 117; refine (yH _ _ _ (kT v Y (k1 + 1)) _ (hdtc.bw hE0)).mono ?_; rintro r wc4 ⟨rfl, hb4⟩; have hE4 := zB hE0 hb4)
                    | (go_at_call 72; refine (zIE _ _ (n2 + 2 - j) _ _ _ (fun i => u (j + i)) (kT v Y (k1 + 1)) _ (huDc.bw hE4) ((hdtc.take tl).bw hE4) (by omega) (by omega)).mono ?_; rintro r wc5 ⟨a5, rfl, hd5, hb5⟩; have hE5 := zB hE4 hb5; have hu5 := huc.bw hE5; have hB5 := hBc.trans (hE5.mono hBc.size))
                    | (refine zI7 (by rfl) _ _ 27 (by rfl) 94 Tryz.underlying27 Tryz.sizeU16 g j (n2 + 2) C _ _ _ u _ (by rfl) (by rfl) hu5 hd5 (by omega) w1.heap.size w1 hB5 hbg ?_; intro w6 hu6 hB6 ho6 hs6))
                have hrow6 : w6.rowIs w3.heap.size 94 N (fun j => .int .u16 (o j)) := (hrowc.of_block (hE5.block _ hrowc.lt)).of_block (ho6 _ (Nat.ne_of_gt hg3))
                have r1 := hrow6.cell (show j < N by omega)
                have r2 := hrow6.frozen j
                have jN : (j : Int) < (N : Int) := by omega
                have hW16 : IntKind.u16.wrap Y = Y := by rw [yQ]; omega
                have HLN := zC (zSD (show j < n2 + 2 by omega) (show j < N by omega) hD (zA HA) du do_ dF ((zA HYQ).trans (zA HQ)) hYn (by omega) (zA HF))
                have HR6 := zC hrow6
                clear hrow6 hrowc hu5 hd5 hb5 hE5 hE4 hb4 hE0 hrowq huq huc ho6
                go_wp2
                go_roundw
                case rel => exact ⟨j, _, _, by omega, by go_num, hu6.of_block (Go.Deep.blk_setCell_other _ _ _ _ (Nat.ne_of_lt hg3)), zB6 (zA HR6) j (by first | rfl | exact hW16), zA HLN, hB6.setCell hsz3 _⟩
                case measure => simp [intOf]; try omega
              · have t1 : ¬ zN (V v (k1 + 1) * Y) (Tp u j (n2 + 2)) ≤ 0 := by
                  unfold zN; rw [if_neg (by omega), if_pos (by omega)]; omega
                have hYq : qs < Y := by
                  rcases Int.lt_or_le qs Y with h5 | h5
                  · exact h5
                  · have h6 := Int.mul_le_mul_of_nonneg_right h5 (show 0 ≤ V v (k1 + 1) by omega)
                    have h7 := zA HM
                    rw [Int.mul_comm Y] at h6; omega
                have HCM := zC hcmp
                clear hcmp vT eU
                go_wp2_with fail
                refine (zKY (some ⟨bv, ov, none⟩) (k1 + 1) c1 v Y _ hvq (by omega) hYn (by omega)).mono ?_
                rintro r wt ⟨at_, rfl, hdt, hbt⟩
                have hBt := hBq.trans (hbt.mono hBq.size)
                have huDt := huD.bw hbt
                have hB0 : Below wt.heap.size wt wt.drew := (Below.refl _ _).drew
                have tl := zBC (kT v Y (k1 + 1)) (k1 + 1 + 1)
                have tl2 := zBC (fun i => u (j + i)) (n2 + 2 - j)
                go_wp2_with fail
                go_region_held3 (fun _ => True) (trivial)
                  (first
                    | (go_at_call 53; refine (kJ _ _ _ _ _ _ (kT v Y (k1 + 1)) (fun i => u (j + i)) _ ((hdt.take tl).bw hD2) ((huDt.take tl2).bw hD2)).mono ?_; rintro r wc3 ⟨rfl, hb3⟩; have hD3 := zB hD2 hb3; rw [zA HCM])
                    | (go_at_call 117; have hq := hD1; refine (yH _ _ _ (fun i => u (j + i)) _ (huDt.bw hD1)).mono ?_; rintro r wc2 ⟨rfl, hb2⟩; have hD2 := zB hD1 hb2)
                    | (go_at_call 117; refine (yH _ _ _ (kT v Y (k1 + 1)) _ (hdt.bw hB0)).mono ?_; rintro r wc1 ⟨rfl, hb1⟩; have hD1 := zB hB0 hb1))
                have hBc := hBt.trans (hD3.mono hBt.size)
                have huc := (huq.bw hbt).bw hD3
                have hrowc : wc3.rowIs w3.heap.size 94 N (fun j => .int .u16 (o j)) := (hrowq.of_block (hbt.block _ hrowq.lt)).of_block (hD3.block _ (Nat.lt_of_lt_of_le hrowq.lt hbt.size))
                clear hb1 hb2 hb3 hD1 hD2 hD3 hB0
                go_wp2
                go_roundw
                case rel => exact ⟨Y - 1, by go_num, by omega, by omega, huc, hrowc, hBc⟩
                case measure => simp [intOf]; try omega
theorem over_any (a c:Option Addr) (n m cap m8:Nat) (d e:Nat->Int) (w:World) (ha:Dig w a n cap d) (hc:Dig w c m m8 e) (hn:n<=900000000) (h1:n=0\/d (n-1)≠0) (h2:m=0\/e (m-1)≠0) (O3:0<V e m) :
  Calls Tryz.prog 157 #[.slice a n cap,.slice c m m8] w (zHR w d e n m):=by
 by_cases h:m<=3\/V d n<V e m
 ·exact zPD a c n m cap m8 d e w ha hc (by omega) h1 h2 O3 h
 ·exact zS2 a c n m cap m8 d e w ha hc hn h1 h2 (by omega) (by omega)
theorem zAB (neg j6:Bool) (a c:Option Addr) (n m cap m8 k k2:Nat) (x y:Int) (w:World) (h1:IntAt w neg a n cap k x) (h2:IntAt w j6 c m m8 k2 y) (hk:k<=900000000) (hy:0<y) :
  Calls Tryz.prog 126 #[.agg #[.bool neg,.slice a n cap],.agg #[.bool j6,.slice c m m8]] w (zBS w k (x/y)):=by
 obtain⟨e,rfl,f0,f1,f2,f3,rfl⟩:=zRR h2 hy;obtain⟨d,g1,g2,g3,g4,rfl⟩:=h1
 exact (zOZ neg a c n m cap m8 d e w g1 f1 (by omega) f0 (λ w' p q=>over_any a c n m cap m8 d e w' p q (by omega) g2 f2 hy)).mono
  λ _ _ ⟨n1,n2,n3,n4,q1,q2,q3⟩=>⟨n1,n2,n3,n4,q1,q2.mono (by omega),q3⟩
end Go.Proofs.YtgmnknmjainabacGreat
