/-
  Its own texts.
-/
import Derived.Deep.DeepCutAuto
import Derived.Test.YtgmnknmjainabacGreatI03
set_option maxRecDepth 100000
set_option maxHeartbeats 40000000
set_option linter.unnecessarySimpa false
set_option linter.unusedSimpArgs false
set_option linter.unusedVariables false
namespace Go.Proofs.YtgmnknmjainabacGreat
open Go.RowKit
attribute [local go_sem ↓] Go.wp_at_zero Go.wp_at_succ
def zK2 (lo hi K n:Int):Bool:=decide ((hi-lo)*K<=n*(K+zFK hi (-lo)))
theorem zLI (x y:Int):decide (zM x y<=0)=decide (x<=y):=by
 rw[decide_eq_decide];unfold zM
 by_cases h:x<y
 ·rw[if_pos h];omega
 ·rw[if_neg h]
  by_cases h2:y<x
  ·rw[if_pos h2];omega
  ·rw[if_neg h2];omega
def VarAt (w:World) (p:Value) (H k:Nat) (z:Int):Prop :=
 ∃ (B:Nat) (x:Nm),p=.pointer (some ⟨B,0,none⟩)/\w.cell? ⟨B,0,none⟩=some (.bool x.neg)/\w.cell? ⟨B,1,none⟩=some (.slice x.a x.n x.cap)/\IntAt w x.neg x.a x.n x.cap k z/\H<=B/\B<w.heap.size
theorem varA {w:World} {neg:Bool} {a:Option Addr} {n cap k:Nat} {z:Int} (h:IntAt w neg a n cap k z) (T:TypeId) (H:Nat) (hH:H<=w.heap.size):VarAt (w.alloc (.cells #[.bool neg,.slice a n cap] T)) (.pointer (some ⟨w.heap.size,0,none⟩)) H k z :=
 ⟨w.heap.size,⟨neg,a,n,cap⟩,rfl,by simp,by simp,h.bw (bl1 _ _),hH,by simp⟩
theorem varB {w:World} {neg:Bool} {a:Option Addr} {n cap k:Nat} {z:Int} (h:IntAt w neg a n cap k z) (H B:Nat) (h0:w.cell? ⟨B,0,none⟩=some (.bool false)) (h1:w.cell? ⟨B,1,none⟩=some (.slice none 0 0)) (hH:H<=B) :
  VarAt ((w.setCell ⟨B,0,none⟩ (.bool neg)).setCell ⟨B,1,none⟩ (.slice a n cap)) (.pointer (some ⟨B,0,none⟩)) H k z :=
 ⟨B,⟨neg,a,n,cap⟩,rfl,by simp[go_sem,h0,h1],by simp[go_sem,h0,h1],h.put2 h0 h1 _ _,hH,by
  have:=World.block_lt_of_cell? w ⟨B,0,none⟩ h0
  simpa [World.setCell] using this⟩
theorem VarAt.mono {w:World} {p:Value} {H k k':Nat} {z:Int} (h:VarAt w p H k z) (hk:k<=k'):VarAt w p H k' z:=by
 obtain⟨B,x,h1,h2,h3,h4,h5,h6⟩:=h;exact⟨B,x,h1,h2,h3,h4.mono hk,h5,h6⟩
theorem zHB (w:World) (s:Sp) (b n:Nat) (lo hi:Int) (h:SpAt w s 250 lo hi) (hb:s.bits=b) (b9:b<=120) (hn:n<=1000000) :
  Calls Tryz.prog 99 #[.agg #[.bool s.ln,.slice s.la s.lN s.lc,.bool s.hn,.slice s.ha s.hN s.hc,.int .i64 s.bits],.int .i64 n] w λ r w' =>
   r=.returned (.bool (zK2 lo hi (Q b) n))/\Below w.heap.size w w':=by
 rw[hb]
 go_enter Tryz.func99,Tryz.ntmps99
 go_wp2
 go_cut [5] (λ p wx=>VarAt wx p (w.heap.size+1) 400 ((hi-lo)*Q b)/\Below (w.heap.size+1) (w.alloc (.cells #[.bool s.ln,.slice s.la s.lN s.lc,.bool s.hn,.slice s.ha s.hN s.hc,.int .i64 b] 31)) wx)
 case first =>
  go_region_held3 (λ w'=>w'.cell? ⟨w.heap.size,0,none⟩=some (.bool s.ln)/\w'.cell? ⟨w.heap.size,1,none⟩=some (.slice s.la s.lN s.lc)/\w'.cell? ⟨w.heap.size,2,none⟩=some (.bool s.hn)/\w'.cell? ⟨w.heap.size,3,none⟩=some (.slice s.ha s.hN s.hc)/\w'.cell? ⟨w.heap.size,4,none⟩=some (.int .i64 b)) (go_keep)
   (first
    | (go_at_call 35;refine (zBI _ _ _ _ _ _ _ _ 250 250 hi lo _ (h.hi.bw (by first|exact (bl1 _ _).drew|exact (bl2 _ _ _).drew)) (h.lo.bw (by first|exact (bl1 _ _).drew|exact (bl2 _ _ _).drew)) (by omega) (by omega)).mono ?_;rintro r w1 ⟨m7,a1,n1,c1,rfl,o8,b9⟩;obtain⟨hs1,C9,D9⟩:=jJ _ (YE _) b9;(try simp at hs1);have Z4:w.heap.size<w1.heap.size:=YH (by first|exact Nat.lt_succ_self _|exact Nat.lt_succ_of_lt (Nat.lt_succ_self _)) hs1;have Ke:=Nat.le_of_lt Z4;have cC:w.heap.size+1<=w1.heap.size:=Z4;have gN:=YI Z4;have De:=YJ Z4)
    | (go_at_call 116;refine (zBU _ _ _ _ b 251 (hi-lo) _ (o8.bw (by first|exact Below.refl _ _|exact bl1 _ _)) (by omega) (by omega)).mono ?_;rintro r w2 ⟨j6,a2,n2,c2,rfl,A5,j8⟩;obtain⟨X6,E4,F9⟩:=jJ _ (YE _) j8;have Y2:w1.heap.size<=w2.heap.size:=Nat.le_trans (by simp) X6;have eJ:=YH Z4 Y2;have aR:=YI eJ;have oH:w.heap.size+1<=w2.heap.size:=eJ;have Df:=YJ eJ;(try simp at X6)))
  ·go_wp2_with fail
   go_meet;refine⟨(varA A5 _ _ oH).mono (by omega),?_⟩
   exact (((zB (Below.refl _ _).drew b9).mono (by simp)).trans (j8.mono cC)).alloc oH _
  ·go_wp2_with fail
   go_meet;have h0:w2.cell? ⟨w1.heap.size,0,none⟩=some (.bool false):=by simp[E4]
   have h1:w2.cell? ⟨w1.heap.size,1,none⟩=some (.slice none 0 0):=by simp[E4]
   refine⟨(varB A5 _ _ h0 h1 cC).mono (by omega),?_⟩
   exact (((((zB (Below.refl _ _).drew b9).mono (by simp)).alloc cC _).trans (j8.mono (by simp;omega))).setCell cC _).setCell cC _
  ·go_wp2_with fail
   go_meet;have h0:w2.cell? ⟨w.heap.size+1,0,none⟩=some (.bool false):=by simp[E4,C9,hs1,go_sem]
   have h1:w2.cell? ⟨w.heap.size+1,1,none⟩=some (.slice none 0 0):=by simp[E4,C9,hs1,go_sem]
   refine⟨(varB A5 _ _ h0 h1 (YE _)).mono (by omega),?_⟩
   exact ((((((Below.refl _ _).alloc (by simp) _).drew.trans (b9.mono (by simp))).trans (j8.mono cC)).setCell (p:=⟨w.heap.size+1,0,none⟩) (YE _) _).setCell (p:=⟨w.heap.size+1,1,none⟩) (YE _) _)
 case rest =>
 obtain⟨⟨B5,x5,rfl,EX,EY,P6,J2,gL⟩,R6⟩:=hcut
 rename World=>wA
 have FN:=R6.size;simp at FN;have Pz:wA.cell? ⟨w.heap.size,0,none⟩=some (.bool s.ln):=(R6.cell (p:=⟨w.heap.size,0,none⟩) (Nat.lt_succ_self _)).trans (by simp)
 have PB:wA.cell? ⟨w.heap.size,1,none⟩=some (.slice s.la s.lN s.lc):=(R6.cell (p:=⟨w.heap.size,1,none⟩) (Nat.lt_succ_self _)).trans (by simp)
 have PC:wA.cell? ⟨w.heap.size,2,none⟩=some (.bool s.hn):=(R6.cell (p:=⟨w.heap.size,2,none⟩) (Nat.lt_succ_self _)).trans (by simp)
 have PD:wA.cell? ⟨w.heap.size,3,none⟩=some (.slice s.ha s.hN s.hc):=(R6.cell (p:=⟨w.heap.size,3,none⟩) (Nat.lt_succ_self _)).trans (by simp)
 have PE:wA.cell? ⟨w.heap.size,4,none⟩=some (.int .i64 b):=(R6.cell (p:=⟨w.heap.size,4,none⟩) (Nat.lt_succ_self _)).trans (by simp)
 have Ay:w.heap.size<wA.heap.size:=FN;have DC:w.heap.size+1<=wA.heap.size:=FN;have KQ:w.heap.size<=wA.heap.size:=Nat.le_of_lt FN;have hdr:wA.drew.heap.size=wA.heap.size:=rfl;have hwn:wA.heap.size≠w.heap.size:=by omega
 have hwn':w.heap.size≠wA.heap.size:=by omega
 go_wp2
 go_cut [6] (λ p wx=>VarAt wx p (w.heap.size+1) 20 (Q b)/\Below wA.heap.size wA wx)
 case first =>
  go_region_held3 (λ w'=>w'.cell? ⟨w.heap.size,4,none⟩=some (.int .i64 b)) (go_keep)
   (first
    | (go_at_call 33;refine (zD 1 _ (by decide) (by decide)).mono ?_;rintro r w1 ⟨m7,a1,n1,c1,rfl,o8,b9⟩;obtain⟨hs1,C9,D9⟩:=jJ _ (YE _) b9;(try simp at hs1);have Aq:wA.heap.size<=w1.heap.size:=Nat.le_trans (by simp) hs1;have Z4:w.heap.size<w1.heap.size:=YH Ay Aq;have Ke:=Nat.le_of_lt Z4;have cC:w.heap.size+1<=w1.heap.size:=Z4;have gN:=YI Z4;have De:=YJ Z4)
    | (go_at_call 116;refine (zBU _ _ _ _ b 4 1 _ (o8.bw (by first|exact Below.refl _ _|exact bl1 _ _)) (by omega) (by omega)).mono ?_;rintro r w2 ⟨j6,a2,n2,c2,rfl,A5,j8⟩;obtain⟨X6,E4,F9⟩:=jJ _ (YE _) j8;have Y2:w1.heap.size<=w2.heap.size:=Nat.le_trans (by simp) X6;have eJ:=YH Z4 Y2;have aR:=YI eJ;have oH:w.heap.size+1<=w2.heap.size:=eJ;have Df:=YJ eJ;(try simp at X6)))
  all_goals rw[Int.one_mul] at A5
  ·go_wp2_with fail
   go_meet;refine⟨(varA A5 _ _ oH).mono (by omega),?_⟩
   exact zL (zB (zB (Below.refl _ _).drew b9) j8) _
  ·go_wp2_with fail
   go_meet;have h0:w2.cell? ⟨w1.heap.size,0,none⟩=some (.bool false):=by simp[E4]
   have h1:w2.cell? ⟨w1.heap.size,1,none⟩=some (.slice none 0 0):=by simp[E4]
   refine⟨(varB A5 _ _ h0 h1 cC).mono (by omega),?_⟩
   exact ((zB (zL (zB (Below.refl _ _).drew b9) _) j8).setCell (p:=⟨w1.heap.size,0,none⟩) Aq _).setCell (p:=⟨w1.heap.size,1,none⟩) Aq _
  ·go_wp2_with fail
   go_meet;have h0:w2.cell? ⟨wA.heap.size,0,none⟩=some (.bool false):=by simp[E4,C9,hs1,go_sem]
   have h1:w2.cell? ⟨wA.heap.size,1,none⟩=some (.slice none 0 0):=by simp[E4,C9,hs1,go_sem]
   refine⟨(varB A5 _ _ h0 h1 DC).mono (by omega),?_⟩
   exact ((zB (zB (bl1 _ _).drew b9) j8).setCell (p:=⟨wA.heap.size,0,none⟩) (YE _) _).setCell (p:=⟨wA.heap.size,1,none⟩) (YE _) _
 case rest =>
 obtain⟨⟨B6,x6,rfl,c60,c61,bC,gi,Kh⟩,aQ⟩:=hcut;have Ri:=aQ.size;have d50:wc.cell? ⟨B5,0,none⟩=some (.bool x5.neg):=(aQ.cell (p:=⟨B5,0,none⟩) gL).trans EX;have d51:wc.cell? ⟨B5,1,none⟩=some (.slice x5.a x5.n x5.cap):=(aQ.cell (p:=⟨B5,1,none⟩) gL).trans EY;have KP:w.heap.size+1<=wc.heap.size:=Nat.le_trans DC Ri;have e50:wc.cell? ⟨w.heap.size,0,none⟩=some (.bool s.ln):=(aQ.cell (p:=⟨w.heap.size,0,none⟩) Ay).trans Pz;have e51:wc.cell? ⟨w.heap.size,1,none⟩=some (.slice s.la s.lN s.lc):=(aQ.cell (p:=⟨w.heap.size,1,none⟩) Ay).trans PB;have e52:wc.cell? ⟨w.heap.size,2,none⟩=some (.bool s.hn):=(aQ.cell (p:=⟨w.heap.size,2,none⟩) Ay).trans PC;have e53:wc.cell? ⟨w.heap.size,3,none⟩=some (.slice s.ha s.hN s.hc):=(aQ.cell (p:=⟨w.heap.size,3,none⟩) Ay).trans PD;have e54:wc.cell? ⟨w.heap.size,4,none⟩=some (.int .i64 b):=(aQ.cell (p:=⟨w.heap.size,4,none⟩) Ay).trans PE
 have hB:Below w.heap.size w wc:=((bl1 _ _).trans (R6.mono (by omega))).trans (aQ.mono KQ)
 have GR:=zC (P6.bw aQ);have TL:=zC bC;have HS:=zC (h.bw hB);have hl5:B5+1<=wc.heap.size:=YH gL Ri;have hl6:B6+1<=wc.heap.size:=Kh;have HE:=zC (show (decide (zM ((hi-lo)*Q b) (n*(Q b+zFK hi (-lo)))<=0))=zK2 lo hi (Q b) n from zLI _ _)
 clear P6 bC EX EY Pz PB PC PD PE h R6;go_wp2
 go_region_held3 (λ w'=>nK w' B5 x5 (nK w' B6 x6 (w'.cell? ⟨w.heap.size,0,none⟩=some (.bool s.ln)/\w'.cell? ⟨w.heap.size,1,none⟩=some (.slice s.la s.lN s.lc)/\w'.cell? ⟨w.heap.size,2,none⟩=some (.bool s.hn)/\w'.cell? ⟨w.heap.size,3,none⟩=some (.slice s.ha s.hN s.hc)/\w'.cell? ⟨w.heap.size,4,none⟩=some (.int .i64 b)))) ((dsimp only[cK,cK0,nK,nK0,rK,rK0];go_keep))
  (first
   | (go_at_call 33;refine (zD (n:Int) _ (by omega) (by omega)).mono ?_;rintro r w1 ⟨m7,a1,n1,c1,rfl,o8,b9⟩;obtain⟨hs1,C9,D9⟩:=jJ wc.heap.size (by exact YE _) b9)
   | (go_at_call 119;refine (zEH _ ⟨s.ln,s.la,s.lN,s.lc,s.hn,s.ha,s.hN,s.hc,b⟩ 250 lo hi ⟨((zA HS).bw (zB (Below.refl _ _).drew b9)).lo,((zA HS).bw (zB (Below.refl _ _).drew b9)).hi⟩ (by omega)).mono ?_;rintro r w2 ⟨j6,a2,n2,c2,rfl,A5,j8⟩;obtain⟨X6,E4,F9⟩:=jJ wc.heap.size hs1 j8)
   | (go_at_call 32;refine (zAE _ _ _ _ _ _ _ _ 20 251 _ _ _ ((zA TL).bw (zB (zB (Below.refl _ _).drew b9) j8)) A5 (by omega) (by omega)).mono ?_;rintro r w3 ⟨A7,a3,n3,c3,rfl,E5,m9⟩;obtain⟨aT,T3,T7⟩:=jJ wc.heap.size X6 m9)
   | (go_at_call 83;refine (zT _ _ _ _ _ _ _ _ 4 252 _ _ _ (o8.bw (zB j8 m9)) E5 (by omega) (by omega)).mono ?_;rintro r w4 ⟨D8,a4,n4,c4,rfl,G6,y9⟩;obtain⟨qh,iz,cB⟩:=jJ wc.heap.size aT y9)
   | (go_at_call 17;refine (jO _ _ _ _ _ _ _ _ 400 256 _ _ _ ((zA GR).bw (zB (zB (zB (zB (Below.refl _ _).drew b9) j8) m9) y9)) G6).mono ?_;rintro r w5 ⟨rfl,D6⟩;obtain⟨Rh,kC5,hfz5⟩:=jJ wc.heap.size qh D6))
 go_wp2
 go_ret
 exact⟨by rw[<- zA HE];rfl,zB (zB (zB (zB (zB hB.drew b9) j8) m9) y9) D6⟩
def pr4 {α:Type} (x y z t:α) (j:Nat):α:=if j=0 then x else if j=1 then y else if j=2 then z else t
theorem zPA (w:World) (B:Nat) (hB:w.heap.size=B) (x y z t:Nm) (k:Nat) (zx zy zz zt:Int) (T:TypeId) (hx:IntAt w x.neg x.a x.n x.cap k zx) (hy:IntAt w y.neg y.a y.n y.cap k zy) (hz:IntAt w z.neg z.a z.n z.cap k zz) (ht:IntAt w t.neg t.a t.n t.cap k zt) :
  Nums (w.alloc (.cells #[.bool x.neg,.slice x.a x.n x.cap,.bool y.neg,.slice y.a y.n y.cap,.bool z.neg,.slice z.a z.n z.cap,.bool t.neg,.slice t.a t.n t.cap] T)) B 4 k (pr4 x y z t) (pr4 zx zy zz zt):=by
 subst hB;refine⟨by simp,?_,?_,?_⟩
 all_goals
  intro j hj
  match j,hj with
  | 0,_=>first|(simp[pr4];done)|exact hx.bw (bl1 _ _)
  | 1,_=>first|(simp[pr4];done)|exact hy.bw (bl1 _ _)
  | 2,_=>first|(simp[pr4];done)|exact hz.bw (bl1 _ _)
  | 3,_=>first|(simp[pr4];done)|exact ht.bw (bl1 _ _)
theorem most4 (lo hi:Int) (h:lo<=hi):kA (pr4 lo hi (-lo) (-hi)) 3=zFK hi (-lo):=by
 have e1:kA (pr4 lo hi (-lo) (-hi)) 1=hi:=by
  show (if lo<hi then hi else lo)=hi
  split<;>omega
 have e2:kA (pr4 lo hi (-lo) (-hi)) 2=zFK hi (-lo):=by
  show (if kA (pr4 lo hi (-lo) (-hi)) 1 < -lo then -lo else kA (pr4 lo hi (-lo) (-hi)) 1)=_
  rw[e1];rfl
 show (if kA (pr4 lo hi (-lo) (-hi)) 2 < -hi then -hi else kA (pr4 lo hi (-lo) (-hi)) 2)=_
 rw[e2,if_neg];unfold zFK;split<;>omega
theorem zJ3 (w:World) (s:Sp) (b n:Nat) (lo hi:Int) (h:SpAt w s 250 lo hi) (hb:s.bits=b) (b9:b<=120) (hn:n<=1000000) (hle:lo<=hi) :
  Calls Tryz.prog 44 #[.agg #[.bool s.ln,.slice s.la s.lN s.lc,.bool s.hn,.slice s.ha s.hN s.hc,.int .i64 s.bits],.int .i64 n] w λ r w' =>
   r=.returned (.bool (zK2 lo hi (Q b) n))/\Below w.heap.size w w':=by
 rw[hb];have HM:=zC (most4 lo hi hle)
 go_enter Tryz.func44,Tryz.ntmps44
 go_wp2;obtain⟨W,hW⟩:∃ W,W=w.alloc (.cells #[.bool s.ln,.slice s.la s.lN s.lc,.bool s.hn,.slice s.ha s.hN s.hc,.int .i64 b] 31):=⟨_,rfl⟩;have k0:W.cell? ⟨w.heap.size,0,none⟩=some (.bool s.ln):=by rw[hW];simp
 have k1:W.cell? ⟨w.heap.size,1,none⟩=some (.slice s.la s.lN s.lc):=by rw[hW];simp
 have k2:W.cell? ⟨w.heap.size,2,none⟩=some (.bool s.hn):=by rw[hW];simp
 have k3:W.cell? ⟨w.heap.size,3,none⟩=some (.slice s.ha s.hN s.hc):=by rw[hW];simp
 have k4:W.cell? ⟨w.heap.size,4,none⟩=some (.int .i64 b):=by rw[hW];simp
 have D5:w.heap.size<W.heap.size:=by rw[hW];simp
 have hlt1:w.heap.size+1<=W.heap.size:=D5;have j7:Below w.heap.size w W:=by rw[hW];exact bl1 _ _
 have hdr:W.drew.heap.size=W.heap.size:=rfl;have HS:=zC (h.bw j7);have hne:W.heap.size≠w.heap.size:=by omega
 have Dg:w.heap.size≠W.heap.size:=by omega
 rw[<- hW];clear hW h
 have keepS:∀ w',Below W.heap.size W w'->(w'.cell? ⟨w.heap.size,0,none⟩=some (.bool s.ln)/\w'.cell? ⟨w.heap.size,1,none⟩=some (.slice s.la s.lN s.lc)/\w'.cell? ⟨w.heap.size,2,none⟩=some (.bool s.hn)/\w'.cell? ⟨w.heap.size,3,none⟩=some (.slice s.ha s.hN s.hc)):=λ w' hB =>
  ⟨(hB.cell (p:=⟨w.heap.size,0,none⟩) D5).trans k0,(hB.cell (p:=⟨w.heap.size,1,none⟩) D5).trans k1,(hB.cell (p:=⟨w.heap.size,2,none⟩) D5).trans k2,(hB.cell (p:=⟨w.heap.size,3,none⟩) D5).trans k3⟩
 have HK:=zC keepS;clear keepS
 go_cut [5] (λ p wx=>VarAt wx p W.heap.size 260 (zFK hi (-lo))/\Below W.heap.size W wx)
 case first =>
  go_region_held3 (λ w'=>w'.cell? ⟨w.heap.size,0,none⟩=some (.bool s.ln)/\w'.cell? ⟨w.heap.size,1,none⟩=some (.slice s.la s.lN s.lc)/\w'.cell? ⟨w.heap.size,2,none⟩=some (.bool s.hn)/\w'.cell? ⟨w.heap.size,3,none⟩=some (.slice s.ha s.hN s.hc)) (exact zA HK _ (by first|exact (Below.refl _ _).drew|exact (bl1 _ _).drew|exact A6|exact zL A6 _|exact o9|exact zL o9 _|exact zL (zL o9 _) _|exact A8|exact zL A8 _|exact (A8.setCell (by first|exact YE _|exact A6.size|exact o9.size|exact Nat.le_succ_of_le o9.size) _).setCell (by first|exact YE _|exact A6.size|exact o9.size|exact Nat.le_succ_of_le o9.size) _))
   (first
    | (go_at_call_of 87 s.la;refine (zA2 _ _ _ _ 250 lo _ ((zA HS).lo.bw (by first|exact (Below.refl _ _).drew|exact (bl1 _ _).drew)) (by omega)).mono ?_;rintro r w1 ⟨m7,a1,n1,c1,rfl,o8,b9⟩;obtain⟨hs1,C9,D9⟩:=jJ _ (YE _) b9;have A6:Below W.heap.size W w1:=(by first|exact zB (Below.refl _ _).drew b9|exact zB (bl1 _ _).drew b9);have Z4:=A6.size;have oI:=YH D5 Z4;have hm1s:w.heap.size+1<=w1.heap.size:=oI;have Ki:=Nat.le_of_lt oI;have QX:=Nat.le_succ_of_le Ki;have gN:=YI oI;have De:=YJ oI;(try simp at hs1);(try have aX:W.heap.size<w1.heap.size:=hs1);(try have Dn:W.heap.size+1<=w1.heap.size:=hs1))
    | (go_at_call_of 87 s.ha;refine (zA2 _ _ _ _ 250 hi _ ((zA HS).hi.bw (by first|exact A6|exact zL A6 _)) (by omega)).mono ?_;rintro r w2 ⟨j6,a2,n2,c2,rfl,A5,j8⟩;obtain⟨X6,E4,F9⟩:=jJ _ (YE _) j8;have iR:Below w1.heap.size w1 w2:=(by first|exact j8|exact zB (bl1 _ _) j8);have o9:=zB A6 iR;have Y2:=iR.size;have rh:=o9.size;(try have O2:=YH hs1 Y2);have K5:=YH oI Y2;have hm2s:w.heap.size+1<=w2.heap.size:=K5;have Kj:=Nat.le_of_lt K5;have QY:=Nat.le_succ_of_le Kj;have aR:=YI K5;have Df:=YJ K5;(try simp at X6);(try have Dl:w1.heap.size<w2.heap.size:=X6);(try have Re:w1.heap.size+1<=w2.heap.size:=X6);(try have Dq:W.heap.size+1<=w2.heap.size:=O2))
    | (go_at_call_of 86 (Addr.mk w2.heap.size 0 none);refine (zE6 w2.heap.size 3 _ 250 (pr4 ⟨s.ln,s.la,s.lN,s.lc⟩ ⟨s.hn,s.ha,s.hN,s.hc⟩ ⟨m7,a1,n1,c1⟩ ⟨j6,a2,n2,c2⟩) (pr4 lo hi (-lo) (-hi)) _ (by first|exact zPA w2 w2.heap.size rfl ⟨s.ln,s.la,s.lN,s.lc⟩ ⟨s.hn,s.ha,s.hN,s.hc⟩ ⟨m7,a1,n1,c1⟩ ⟨j6,a2,n2,c2⟩ 250 _ _ _ _ _ ((zA HS).lo.bw o9) ((zA HS).hi.bw o9) (o8.bw iR) A5|exact (zPA w2 w2.heap.size rfl ⟨s.ln,s.la,s.lN,s.lc⟩ ⟨s.hn,s.ha,s.hN,s.hc⟩ ⟨m7,a1,n1,c1⟩ ⟨j6,a2,n2,c2⟩ 250 _ _ _ _ _ ((zA HS).lo.bw o9) ((zA HS).hi.bw o9) (o8.bw iR) A5).bw (bl1 _ _)) (by omega)).mono ?_;rintro r w3 ⟨A7,a3,n3,c3,rfl,E5,m9⟩;obtain⟨aT,T3,T7⟩:=jJ _ (YE _) m9;have iV:Below w2.heap.size w2 w3:=(by first|exact zB (bl1 _ _) m9|exact zB (bl2 _ _ _) m9);have A8:=zB o9 iV;have vG:=iV.size;have fP:=YH K5 vG;have Kk:w.heap.size+1<=w3.heap.size:=fP;have wN:=Nat.le_of_lt fP;have Dd:=Nat.le_succ_of_le wN;have hn3:=YI fP;have Kl:=YJ fP;(try simp at aT))
    | (go_at_call 86;refine (zE6 (w2.heap.size+1) 3 _ 250 (pr4 ⟨s.ln,s.la,s.lN,s.lc⟩ ⟨s.hn,s.ha,s.hN,s.hc⟩ ⟨m7,a1,n1,c1⟩ ⟨j6,a2,n2,c2⟩) (pr4 lo hi (-lo) (-hi)) _ (by exact zPA (w2.alloc (.cells #[.bool false,.slice none 0 0] 29)) (w2.heap.size+1) (Go.Deep.nblk_alloc _ _) ⟨s.ln,s.la,s.lN,s.lc⟩ ⟨s.hn,s.ha,s.hN,s.hc⟩ ⟨m7,a1,n1,c1⟩ ⟨j6,a2,n2,c2⟩ 250 _ _ _ _ _ ((zA HS).lo.bw (zL o9 _)) ((zA HS).hi.bw (zL o9 _)) (o8.bw (zL iR _)) (A5.bw (bl1 _ _))) (by omega)).mono ?_;rintro r w3 ⟨A7,a3,n3,c3,rfl,E5,m9⟩;obtain⟨aT,T3,T7⟩:=jJ _ (YE _) m9;have iV:Below w2.heap.size w2 w3:=(by first|exact zB (bl1 _ _) m9|exact zB (bl2 _ _ _) m9);have A8:=zB o9 iV;have vG:=iV.size;have fP:=YH K5 vG;have Kk:w.heap.size+1<=w3.heap.size:=fP;have wN:=Nat.le_of_lt fP;have Dd:=Nat.le_succ_of_le wN;have hn3:=YI fP;have Kl:=YJ fP;(try simp at aT)))
  all_goals rw[zA HM] at E5
  ·go_wp2_with fail
   go_meet;exact⟨(varA E5 _ _ A8.size).mono (by omega),zL A8 _⟩
  ·go_wp2_with fail
   go_meet;have h0:w3.cell? ⟨w2.heap.size+1,0,none⟩=some (.bool false):=by simp[T3,go_sem]
   have h1:w3.cell? ⟨w2.heap.size+1,1,none⟩=some (.slice none 0 0):=by simp[T3,go_sem]
   exact⟨(varB E5 _ _ h0 h1 (Nat.le_succ_of_le rh)).mono (by omega),(A8.setCell (p:=⟨w2.heap.size+1,0,none⟩) (Nat.le_succ_of_le rh) _).setCell (p:=⟨w2.heap.size+1,1,none⟩) (Nat.le_succ_of_le rh) _⟩
  ·go_wp2_with fail
   go_meet;have h0:w3.cell? ⟨w2.heap.size,0,none⟩=some (.bool false):=by simp[T3,go_sem]
   have h1:w3.cell? ⟨w2.heap.size,1,none⟩=some (.slice none 0 0):=by simp[T3,go_sem]
   exact⟨(varB E5 _ _ h0 h1 rh).mono (by omega),(A8.setCell (p:=⟨w2.heap.size,0,none⟩) rh _).setCell (p:=⟨w2.heap.size,1,none⟩) rh _⟩
  ·go_wp2_with fail
   go_meet;have h0:w3.cell? ⟨w1.heap.size,0,none⟩=some (.bool false):=by simp[T3,E4,Dl,Y2,go_sem]
   have h1:w3.cell? ⟨w1.heap.size,1,none⟩=some (.slice none 0 0):=by simp[T3,E4,Dl,Y2,go_sem]
   exact⟨(varB E5 _ _ h0 h1 Z4).mono (by omega),(A8.setCell (p:=⟨w1.heap.size,0,none⟩) Z4 _).setCell (p:=⟨w1.heap.size,1,none⟩) Z4 _⟩
  ·go_wp2_with fail
   go_meet;have h0:w3.cell? ⟨W.heap.size,0,none⟩=some (.bool false):=by simp[T3,E4,C9,aX,Dn,O2,Dq,rh,go_sem]
   have h1:w3.cell? ⟨W.heap.size,1,none⟩=some (.slice none 0 0):=by simp[T3,E4,C9,aX,Dn,O2,Dq,rh,go_sem]
   exact⟨(varB E5 _ _ h0 h1 (YE _)).mono (by omega),(A8.setCell (p:=⟨W.heap.size,0,none⟩) (YE _) _).setCell (p:=⟨W.heap.size,1,none⟩) (YE _) _⟩
 case rest =>
 obtain⟨⟨B5,x5,rfl,EX,EY,P6,J2,gL⟩,R6⟩:=hcut;have GR:=zC P6;have ph:=zC ((zA HS).bw R6);have gM:=YH D5 R6.size;have e4:wc.cell? ⟨w.heap.size,4,none⟩=some (.int .i64 b):=(R6.cell (p:=⟨w.heap.size,4,none⟩) D5).trans k4;obtain⟨e0,e1,e2,e3⟩:=zA HK wc R6
 have gf:=zC (show ∀ w',Below wc.heap.size wc w'->(w'.cell? ⟨w.heap.size,0,none⟩=some (.bool s.ln)/\w'.cell? ⟨w.heap.size,1,none⟩=some (.slice s.la s.lN s.lc)/\w'.cell? ⟨w.heap.size,2,none⟩=some (.bool s.hn)/\w'.cell? ⟨w.heap.size,3,none⟩=some (.slice s.ha s.hN s.hc)/\w'.cell? ⟨w.heap.size,4,none⟩=some (.int .i64 b)/\nK0 w' B5 x5) from λ w' hB =>
  ⟨(hB.cell (p:=⟨w.heap.size,0,none⟩) gM).trans e0,(hB.cell (p:=⟨w.heap.size,1,none⟩) gM).trans e1,(hB.cell (p:=⟨w.heap.size,2,none⟩) gM).trans e2,(hB.cell (p:=⟨w.heap.size,3,none⟩) gM).trans e3,(hB.cell (p:=⟨w.heap.size,4,none⟩) gM).trans e4,(hB.cell (p:=⟨B5,0,none⟩) gL).trans EX,(hB.cell (p:=⟨B5,1,none⟩) gL).trans EY⟩)
 have HE:=zC (show (decide (zM ((hi-lo)*Q b) (n*(Q b+zFK hi (-lo)))<=0))=zK2 lo hi (Q b) n from zLI _ _)
 have gm:Below w.heap.size w wc:=j7.trans (R6.mono (Nat.le_of_lt D5));clear P6 k0 k1 k2 k3 k4 R6 HK HS HM;go_wp2
 go_region_held3 (λ w'=>w'.cell? ⟨w.heap.size,0,none⟩=some (.bool s.ln)/\w'.cell? ⟨w.heap.size,1,none⟩=some (.slice s.la s.lN s.lc)/\w'.cell? ⟨w.heap.size,2,none⟩=some (.bool s.hn)/\w'.cell? ⟨w.heap.size,3,none⟩=some (.slice s.ha s.hN s.hc)/\w'.cell? ⟨w.heap.size,4,none⟩=some (.int .i64 b)/\nK0 w' B5 x5) (exact zA gf _ (by first|exact (Below.refl _ _).drew|exact A6|exact o9|exact A8|exact G0|exact sF|exact gi|exact Ad|exact oh))
  (first
   | (go_at_call 35;refine (zBI _ _ _ _ _ _ _ _ 250 250 hi lo _ ((zA ph).hi.bw (Below.refl _ _).drew) ((zA ph).lo.bw (Below.refl _ _).drew) (by omega) (by omega)).mono ?_;rintro r w1 ⟨m7,a1,n1,c1,rfl,o8,b9⟩;have A6:Below wc.heap.size wc w1:=zB (Below.refl _ _).drew b9)
   | (go_at_call_of 83 a1;refine (zT _ _ _ _ _ _ _ _ 251 20 _ _ _ (o8.bw j8) A5 (by omega) (by omega)).mono ?_;rintro r w3 ⟨A7,a3,n3,c3,rfl,E5,m9⟩;have A8:=zB o9 m9)
   | (go_at_call 33;refine (zD (n:Int) _ (by omega) (by omega)).mono ?_;rintro r w4 ⟨D8,a4,n4,c4,rfl,G6,y9⟩;have G0:=zB A8 y9)
   | (go_at_call 82;have XD:=G0;refine (zCB b _ (by omega)).mono ?_;rintro r w5 ⟨M7,a5,n5,c5,rfl,P6,D6⟩;have sF:=zB G0 D6)
   | (go_at_call 82;refine (zCB b _ (by omega)).mono ?_;rintro r w2 ⟨j6,a2,n2,c2,rfl,A5,j8⟩;have A5:=A5.mono (show b/16+5<=20 by omega);have o9:=zB A6 j8)
   | (go_at_call 32;refine (zAE _ _ _ _ _ _ _ _ (b/16+5) 260 _ _ _ P6 ((zA GR).bw sF) (by omega) (by omega)).mono ?_;rintro r w6 ⟨bO,a6,n6,c6,rfl,bC,K7⟩;have bC:=bC.mono (show max (b/16+5) 260+1<=300 by omega);have gi:=zB sF K7)
   | (go_at_call 83;refine (zT _ _ _ _ _ _ _ _ 4 300 _ _ _ (G6.bw (zB D6 K7)) bC (by omega) (by omega)).mono ?_;rintro r w7 ⟨cP,a7,n7,c7,rfl,ie,Q4⟩;have Ad:=zB gi Q4)
   | (go_at_call 17;refine (jO _ _ _ _ _ _ _ _ 271 304 _ _ _ (E5.bw (zB (zB (zB y9 D6) K7) Q4)) ie).mono ?_;rintro r w8 ⟨rfl,Y1⟩;have oh:=zB Ad Y1))
 go_wp2
 go_ret
 exact⟨by rw[<- zA HE];rfl,gm.trans (oh.mono (Nat.le_of_lt gM))⟩
theorem IntAt.put5 {w:World} {neg:Bool} {a:Option Addr} {n cap k:Nat} {z:Int} (h:IntAt w neg a n cap k z) {B:Nat} {x0 x2:Bool} {y0 y3:Option Addr} {y1 y2 y4 y5:Nat} {i:Int}
  (h0:w.cell? ⟨B,0,none⟩=some (.bool x0)) (h1:w.cell? ⟨B,1,none⟩=some (.slice y0 y1 y2)) (h2:w.cell? ⟨B,2,none⟩=some (.bool x2)) (h3:w.cell? ⟨B,3,none⟩=some (.slice y3 y4 y5)) (h4:w.cell? ⟨B,4,none⟩=some (.int .i64 i)) (u0 u1 u2 u3 u4:Value) :
  IntAt (((((w.setCell ⟨B,0,none⟩ u0).setCell ⟨B,1,none⟩ u1).setCell ⟨B,2,none⟩ u2).setCell ⟨B,3,none⟩ u3).setCell ⟨B,4,none⟩ u4) neg a n cap k z:=by
 have ne:∀ i j:Nat,i≠j->(⟨B,i,none⟩:Addr)≠⟨B,j,none⟩:=λ i j lK e=>lK (by injection e)
 have g1:(w.setCell ⟨B,0,none⟩ u0).cell? ⟨B,1,none⟩=some (.slice y0 y1 y2):=(World.cell?_setCell_other _ _ _ _ (ne 0 1 (by omega))).trans h1
 have g2:((w.setCell ⟨B,0,none⟩ u0).setCell ⟨B,1,none⟩ u1).cell? ⟨B,2,none⟩=some (.bool x2):=(World.cell?_setCell_other _ _ _ _ (ne 1 2 (by omega))).trans ((World.cell?_setCell_other _ _ _ _ (ne 0 2 (by omega))).trans h2)
 have g3:(((w.setCell ⟨B,0,none⟩ u0).setCell ⟨B,1,none⟩ u1).setCell ⟨B,2,none⟩ u2).cell? ⟨B,3,none⟩=some (.slice y3 y4 y5):=(World.cell?_setCell_other _ _ _ _ (ne 2 3 (by omega))).trans ((World.cell?_setCell_other _ _ _ _ (ne 1 3 (by omega))).trans ((World.cell?_setCell_other _ _ _ _ (ne 0 3 (by omega))).trans h3))
 have g4:((((w.setCell ⟨B,0,none⟩ u0).setCell ⟨B,1,none⟩ u1).setCell ⟨B,2,none⟩ u2).setCell ⟨B,3,none⟩ u3).cell? ⟨B,4,none⟩=some (.int .i64 i):=(World.cell?_setCell_other _ _ _ _ (ne 3 4 (by omega))).trans ((World.cell?_setCell_other _ _ _ _ (ne 2 4 (by omega))).trans ((World.cell?_setCell_other _ _ _ _ (ne 1 4 (by omega))).trans ((World.cell?_setCell_other _ _ _ _ (ne 0 4 (by omega))).trans h4)))
 exact ((((h.store h0 (λ _ e=>by cases e) u0).store g1 (λ _ e=>by cases e) u1).store g2 (λ _ e=>by cases e) u2).store g3 (λ _ e=>by cases e) u3).store g4 (λ _ e=>by cases e) u4
theorem SpAt.put5 {w:World} {s:Sp} {k:Nat} {lo hi:Int} (h:SpAt w s k lo hi) {B:Nat} {x0 x2:Bool} {y0 y3:Option Addr} {y1 y2 y4 y5:Nat} {i:Int}
  (h0:w.cell? ⟨B,0,none⟩=some (.bool x0)) (h1:w.cell? ⟨B,1,none⟩=some (.slice y0 y1 y2)) (h2:w.cell? ⟨B,2,none⟩=some (.bool x2)) (h3:w.cell? ⟨B,3,none⟩=some (.slice y3 y4 y5)) (h4:w.cell? ⟨B,4,none⟩=some (.int .i64 i)) (u0 u1 u2 u3 u4:Value) :
  SpAt (((((w.setCell ⟨B,0,none⟩ u0).setCell ⟨B,1,none⟩ u1).setCell ⟨B,2,none⟩ u2).setCell ⟨B,3,none⟩ u3).setCell ⟨B,4,none⟩ u4) s k lo hi:=⟨h.lo.put5 h0 h1 h2 h3 h4 u0 u1 u2 u3 u4,h.hi.put5 h0 h1 h2 h3 h4 u0 u1 u2 u3 u4⟩
theorem jY {B B':Nat} {a w:World} (h:Below B a w) (hB:B<=B') (u0 u1 u2 u3 u4:Value):Below B a (((((w.setCell ⟨B',0,none⟩ u0).setCell ⟨B',1,none⟩ u1).setCell ⟨B',2,none⟩ u2).setCell ⟨B',3,none⟩ u3).setCell ⟨B',4,none⟩ u4) :=
 ((((h.setCell (p:=⟨B',0,none⟩) hB u0).setCell (p:=⟨B',1,none⟩) hB u1).setCell (p:=⟨B',2,none⟩) hB u2).setCell (p:=⟨B',3,none⟩) hB u3).setCell (p:=⟨B',4,none⟩) hB u4
theorem zQZ (neg j6:Bool) (a c:Option Addr) (n m cap j9 k k2:Nat) (x y:Int) (w:World) (h1:IntAt w neg a n cap k x) (h2:IntAt w j6 c m j9 k2 y) (hk:k<=800000000)
  (S8:∀ w' m8 a' n' o7,IntAt w' m8 a' n' o7 k (-x)->IntAt w' j6 c m j9 k2 y->Calls Tryz.prog 126 #[.agg #[.bool m8,.slice a' n' o7],.agg #[.bool j6,.slice c m j9]] w' (kY w' k (-x/y))) :
  Calls Tryz.prog 127 #[.agg #[.bool neg,.slice a n cap],.agg #[.bool j6,.slice c m j9]] w (kY w k (-(-x/y))):=by
 have nJ:w.heap.size≠w.heap.size+1+1:=by omega
 have nM:w.heap.size+1+1≠w.heap.size:=by omega
 have le2:w.heap.size<=w.heap.size+1+1:=by omega
 have HF:=zC S8;clear S8
 go_enter Tryz.func127,Tryz.ntmps127
 go_wp2
 go_region_held3 (λ w'=>w'.cell? ⟨w.heap.size,0,none⟩=some (.bool neg)/\w'.cell? ⟨w.heap.size,1,none⟩=some (.slice a n cap)/\w'.cell? ⟨w.heap.size+1,0,none⟩=some (.bool j6)/\w'.cell? ⟨w.heap.size+1,1,none⟩=some (.slice c m j9)) (go_keep)
  (first
   | (go_at_call 126;refine (zA HF _ _ _ _ _ o8 (h2.bw (zB (bl3 _ _ _ _).drew b9))).mono ?_;rintro r w2 ⟨mG,a2,n2,c2,rfl,A5,j8⟩;obtain⟨E2,E4,F9⟩:=jJ (w.heap.size+1+1+1) C7 j8)
   | (go_at_call 87;have hq:=j8;refine (zA2 _ _ _ _ (k+8) _ _ A5 (by omega)).mono ?_;rintro r w3 ⟨A7,a3,n3,c3,rfl,E5,m9⟩;obtain⟨J9,T3,T7⟩:=jJ (w.heap.size+1+1+1) E2 m9)
   | (go_at_call 87;refine (zA2 _ _ _ _ k x _ (h1.bw (bl3 _ _ _ _).drew) (by omega)).mono ?_;rintro r w1 ⟨m7,a1,n1,c1,rfl,o8,b9⟩;obtain⟨C7,C9,D9⟩:=jJ (w.heap.size+1+1+1) (by simp) b9))
 go_wp2;have h0:w3.cell? ⟨w.heap.size+1+1,0,none⟩=some (.bool false):=by simp[T3,E4,C9,go_sem]
 have J1:w3.cell? ⟨w.heap.size+1+1,1,none⟩=some (.slice none 0 0):=by simp[T3,E4,C9,go_sem]
 refine bodyPost_ret (v:=.agg #[.bool A7,.slice a3 n3 c3]) (by simp[results,Tryz.results127,go_sem,h0,J1]) rfl ⟨A7,a3,n3,c3,rfl,E5.put2 h0 J1 _ _,?_⟩
 exact ((zB (zB (zB (bl3 _ _ _ _).drew b9) j8) m9).setCell (p:=⟨w.heap.size+1+1,0,none⟩) le2 _).setCell (p:=⟨w.heap.size+1+1,1,none⟩) le2 _
def zH (w:World) (b:Int) (k:Nat) (lo hi:Int) (r:Ending) (w':World):Prop :=
 ∃ s:Sp,r=.returned (.agg s.q)/\s.bits=b/\SpAt w' s k lo hi/\Below w.heap.size w w'
def rok (p q:Int):Prop := -1048576<=p/\p<=1048576/\1<=q/\q<=1024
instance (p q:Int):Decidable (rok p q):=by unfold rok;infer_instance
theorem zTI {p q:Int} (h:p < -1048576\/1048576<p\/q<1\/1024<q):decide (rok p q)=false:=by
 rw[decide_eq_false_iff_not];unfold rok;omega
theorem zP (p q:Int) (w:World) :
  Calls Tryz.prog 118 #[.agg #[.int .i64 p,.int .i64 q]] w λ r w'=>r=.returned (.bool (decide (rok p q)))/\Below w.heap.size w w':=by
 by_cases h1 : -1048576<=p
 ·by_cases h2:p<=1048576
  ·by_cases h3:1<=q
   ·go_enter Tryz.func118,Tryz.ntmps118
    go_wp2
    go_ret
    exact⟨by simp[rok,h1,h2,h3],bl1 _ _⟩
   ·go_enter Tryz.func118,Tryz.ntmps118
    go_wp2
    go_ret
    exact⟨by rw[zTI (p:=p) (q:=q) (by omega)];rfl,bl1 _ _⟩
  ·go_enter Tryz.func118,Tryz.ntmps118
   go_wp2
   go_ret
   exact⟨by rw[zTI (p:=p) (q:=q) (by omega)];rfl,bl1 _ _⟩
 ·go_enter Tryz.func118,Tryz.ntmps118
  go_wp2
  go_ret
  exact⟨by rw[zTI (p:=p) (q:=q) (by omega)];rfl,bl1 _ _⟩
def zGH (p q bt:Int):Int:=if rok p q/\8<=bt/\bt<=120 then 0 else 3
structure Rats (w:World) (b n:Nat) (p q:Nat->Int):Prop where
 lt:b<w.heap.size
 c0:∀ j,j<n->w.cell? ⟨b,j*2,none⟩=some (.int .i64 (p j))
 c1:∀ j,j<n->w.cell? ⟨b,j*2+1,none⟩=some (.int .i64 (q j))
theorem Rats.bw {w w':World} {b n:Nat} {p q:Nat->Int} (h:Rats w b n p q) (hb:Below w.heap.size w w'):Rats w' b n p q :=
 ⟨YH h.lt hb.size,λ j hj=>(hb.cell (p:=⟨b,j*2,none⟩) h.lt).trans (h.c0 j hj),λ j hj=>(hb.cell (p:=⟨b,j*2+1,none⟩) h.lt).trans (h.c1 j hj)⟩
def RFlt (bt:Int) (p q:Nat->Int) (n:Nat) (z:Int):Prop :=
 (z=0/\(8<=bt/\bt<=120)/\∀ j,j<n->rok (p j) (q j))\/(z=3/\¬ ((8<=bt/\bt<=120)/\∀ j,j<n->rok (p j) (q j)))
theorem zGT (bt : Int) (b n cap : Nat) (p q : Nat → Int) (w : World) (h : Rats w b n p q) (hn : n ≤ 1000) :
    Calls Tryz.prog 74 #[.int .i64 bt, .slice (some ⟨b, 0, none⟩) n cap] w fun r w' => ∃ z, r = .returned (.int .i64 z) ∧ RFlt bt p q n z ∧ Below w.heap.size w w' := by
  by_cases b1 : bt < 8
  · go_enter Tryz.func74, Tryz.ntmps74
    go_wp2
    go_ret
    exact ⟨3, rfl, Or.inr ⟨rfl, fun ⟨h1, _⟩ => by omega⟩, Below.refl _ _⟩
  by_cases b2 : 120 < bt
  · go_enter Tryz.func74, Tryz.ntmps74
    go_wp2
    go_ret
    exact ⟨3, rfl, Or.inr ⟨rfl, fun ⟨h1, _⟩ => by omega⟩, Below.refl _ _⟩
  have hblt := h.lt
  have HH := zC h
  clear h
  go_enter Tryz.func74, Tryz.ntmps74
  go_wp2
  go_loopw [15] (fun ii wr => ∃ i : Nat, i ≤ n ∧ ii = .int .i64 i ∧ (∀ j, j < i → rok (p j) (q j)) ∧ Below w.heap.size w wr) (fun ii _ => n - (intOf ii).toNat)
  case atStart => exact ⟨0, by omega, rfl, fun j hj => by omega, Below.refl _ _⟩
  case round =>
    obtain ⟨i, hi, rfl, hz, hB⟩ := hrel
    by_cases hin : i < n
    · have H2 := (zA HH).bw hB
      have g0 := H2.c0 i hin
      have g1 := H2.c1 i hin
      have hi1 : (i : Int) < (n : Int) := by omega
      have HZ := zC hz
      clear hz H2
      by_cases hc : rok (p i) (q i)
      · have hc' : decide (rok (p i) (q i)) = true := by simpa using hc
        have HC := zC hc
        clear hc
        go_wp2_with (go_at_call 118; refine (zP _ _ _).mono ?_; rintro r w1 ⟨rfl, hb1⟩; rw [hc'])
        go_roundw
        case rel => exact ⟨i + 1, by omega, by go_num, fun j hj => by
                            by_cases hji : j = i
                            · subst hji; exact zA HC
                            · exact zA HZ j (by omega), zB (zL hB _) hb1⟩
        case measure => simp [intOf]; omega
      · have hc' : decide (rok (p i) (q i)) = false := by simpa using hc
        have HC := zC hc
        clear hc
        go_wp2_with (go_at_call 118; refine (zP _ _ _).mono ?_; rintro r w1 ⟨rfl, hb1⟩; rw [hc'])
        go_ret
        exact ⟨3, rfl, Or.inr ⟨rfl, fun ⟨_, h2⟩ => zA HC (h2 i hin)⟩, zB (zL hB _) hb1⟩
    · have hiE : i = n := by omega
      subst hiE
      have HZ := zC hz
      clear hz hin hi
      go_wp2
      go_ret
      exact ⟨0, rfl, Or.inl ⟨rfl, ⟨by omega, by omega⟩, zA HZ⟩, hB⟩
def zC3 (w:World) (b:Int) (k:Nat) (lo hi er:Int) (r:Ending) (w':World):Prop :=
 ∃ s:Sp,r=.returned (.tuple #[.agg s.q,.int .i64 er])/\s.bits=b/\SpAt w' s k lo hi/\Below w.heap.size w w'
theorem zD3 (w:World) (k:Nat):IntAt w false none 0 0 k 0 :=
 ⟨λ _=>0,⟨λ h=>by omega,λ _=>⟨by simp,by simp⟩,YE _,by omega⟩,Or.inl rfl,λ _=>rfl,by omega,by simp[sgn,V]⟩
theorem zeroSp (w:World) (k:Nat):SpAt w ⟨false,none,0,0,false,none,0,0,0⟩ k 0 0:=⟨zD3 w k,zD3 w k⟩
theorem rats1 (w:World) (p q:Int) (T:TypeId):Rats (w.alloc (.cells #[.int .i64 p,.int .i64 q] T)) w.heap.size 1 (λ _=>p) (λ _=>q):=by
 refine⟨by simp,?_,?_⟩
 all_goals
  intro j hj
  match j,hj with
  | 0,_=>simp
theorem zCV (bt:Int) (w:World) (B:Nat) (hB:w.heap.size=B) (p q:Int) (T:TypeId) (cap:Nat) :
  Calls Tryz.prog 74 #[.int .i64 bt,.slice (some ⟨B,0,none⟩) 1 cap] (w.alloc (.cells #[.int .i64 p,.int .i64 q] T)) λ r w' =>
   r=.returned (.int .i64 (zGH p q bt))/\Below w.heap.size w w':=by
 subst hB
 exact (zGT bt w.heap.size 1 cap (λ _=>p) (λ _=>q) _ (rats1 w p q T) (by omega)).mono λ r w' ⟨z,h1,h2,h3⟩=>by
  refine⟨?_,(bl1 _ _).trans (h3.mono (by simp))⟩
  rw[h1];unfold zGH
  rcases h2 with⟨rfl,h4,h5⟩|⟨rfl,h4⟩
  ·rw[if_pos ⟨h5 0 (by omega),h4⟩]
  ·rw[if_neg (λ ⟨h5,h6⟩=>h4 ⟨h6,λ _ _=>h5⟩)]
theorem zGO (w:World) (s t:Sp) (k:Nat) (lo hi lo' hi':Int) (hs:SpAt w s k lo hi) (ht:SpAt w t k lo' hi') (hk:k<=700000000) :
  Calls Tryz.prog 51 #[.agg s.q,.agg t.q] w (zH w s.bits (k+1) (lo+lo') (hi+hi')):=by
 have nJ:w.heap.size≠w.heap.size+1+1:=by omega
 have nM:w.heap.size+1+1≠w.heap.size:=by omega
 have le2:w.heap.size<=w.heap.size+1+1:=by omega
 go_enter Tryz.func51,Tryz.ntmps51
 go_wp2
 go_region_held3 (λ w'=>cK w' w.heap.size s (w'.cell? ⟨w.heap.size+1,0,none⟩=some (.bool t.ln)/\w'.cell? ⟨w.heap.size+1,1,none⟩=some (.slice t.la t.lN t.lc)/\w'.cell? ⟨w.heap.size+1,2,none⟩=some (.bool t.hn)/\w'.cell? ⟨w.heap.size+1,3,none⟩=some (.slice t.ha t.hN t.hc))) ((dsimp only[cK,cK0,nK,nK0,rK,rK0];go_keep))
  (first
   | (go_at_call 32;have hq:=b9;refine (zAE _ _ _ _ _ _ _ _ k k hi hi' _ (hs.hi.bw (zB (bl3 _ _ _ _).drew b9)) (ht.hi.bw (zB (bl3 _ _ _ _).drew b9)) (by omega) (by omega)).mono ?_;rintro r w2 ⟨j6,a2,n2,c2,rfl,A5,j8⟩;obtain⟨E2,E4,F9⟩:=jJ (w.heap.size+1+1+1) C7 j8)
   | (go_at_call 32;refine (zAE _ _ _ _ _ _ _ _ k k lo lo' _ (hs.lo.bw (bl3 _ _ _ _).drew) (ht.lo.bw (bl3 _ _ _ _).drew) (by omega) (by omega)).mono ?_;rintro r w1 ⟨m7,a1,n1,c1,rfl,o8,b9⟩;obtain⟨C7,C9,D9⟩:=jJ (w.heap.size+1+1+1) (by simp) b9))
 go_wp2;have q0:w2.cell? ⟨w.heap.size+1+1,0,none⟩=some (.bool false):=by simp[E4,C9,go_sem]
 have q1:w2.cell? ⟨w.heap.size+1+1,1,none⟩=some (.slice none 0 0):=by simp[E4,C9,go_sem]
 have q2:w2.cell? ⟨w.heap.size+1+1,2,none⟩=some (.bool false):=by simp[E4,C9,go_sem]
 have q3:w2.cell? ⟨w.heap.size+1+1,3,none⟩=some (.slice none 0 0):=by simp[E4,C9,go_sem]
 have q4:w2.cell? ⟨w.heap.size+1+1,4,none⟩=some (.int .i64 0):=by simp[E4,C9,go_sem]
 refine bodyPost_ret (v:=.agg #[.bool m7,.slice a1 n1 c1,.bool j6,.slice a2 n2 c2,.int .i64 s.bits]) (by simp[results,Tryz.results51,go_sem,q0,q1,q2,q3,q4]) rfl ⟨⟨m7,a1,n1,c1,j6,a2,n2,c2,s.bits⟩,rfl,rfl,?_,?_⟩
 ·exact SpAt.put5 ⟨(o8.bw j8).mono (by omega),A5.mono (by omega)⟩ q0 q1 q2 q3 q4 _ _ _ _ _
 ·exact jY (zB (zB (bl3 _ _ _ _).drew b9) j8) le2 _ _ _ _ _
theorem lenZ_le (n:Nat) (d:Nat->Int):lenZ n d<=16*n:=by
 unfold lenZ;have:=blenF_bd 16 (d (n-1));split<;>omega
theorem blenF_Q (f:Nat):∀ x:Int,0<x->x<Q f->∃ b:Nat,cQ f x=(b:Int)+1/\Q b<=x/\x<Q (b+1):=by
 induction f with
 | zero=>intro x h0 h1;simp[Q] at h1;omega
 | succ f ih =>
  intro x h0 h1
  have hx:¬ x<=0:=by omega
  simp only[cQ,hx,if_false];simp only[Q] at h1
  by_cases h2:x/2=0
  ·refine⟨0,?_,by simp[Q];omega,by simp[Q];omega⟩
   rw[h2];cases f<;>simp[cQ]
  ·obtain⟨b,e1,e2,e3⟩:=ih (x/2) (by omega) (by omega)
   refine⟨b+1,by rw[e1];omega,?_,?_⟩
   ·simp only[Q];omega
   ·simp only[Q] at *;omega
theorem lenZ_Q {d:Nat->Int} (hd:Dgs d) {n:Nat} (hn:0<n) (ht:d (n-1)≠0):∃ L:Nat,lenZ n d=(L:Int)+1/\Q L<=V d n/\V d n<Q (L+1):=by
 obtain⟨m,rfl⟩:∃ m,n=m+1:=⟨n-1,by omega⟩
 simp only[Nat.add_sub_cancel] at ht;have hx:=hd m;obtain⟨b,e1,e2,e3⟩:=blenF_Q 16 (d m) (by omega) (by rw[Q16];omega)
 refine⟨16*m+b,?_,?_,?_⟩
 ·unfold lenZ;rw[if_neg (by omega)];simp only[Nat.add_sub_cancel];rw[e1];omega
 ·rw[jF,Q_P];simp only[V]
  have h1:=jC hd m;have h2:P m*Q b<=P m*d m:=YD e2 (by have:=yT m;omega)
  rw[Int.mul_comm (d m)];omega
 ·rw[show 16*m+b+1=16*m+(b+1) by omega,jF,Q_P];simp only[V]
  have h1:=zHP hd m;have h2:P m*(d m+1)<=P m*Q (b+1):=YD (by omega) (by have:=yT m;omega)
  rw[Int.mul_add,Int.mul_one] at h2;rw[Int.mul_comm (d m)];omega
theorem zSU {a x:Int} (hx:0<x):a<((x+a/x)/2+1)*((x+a/x)/2+1):=by
 obtain⟨t,ht⟩:∃ t,t=a/x:=⟨_,rfl⟩;obtain⟨y,hy⟩:∃ y,y=(x+t)/2:=⟨_,rfl⟩;rw[<- ht,<- hy]
 have h1:a<(t+1)*x:=by
  have h2:=Int.mul_ediv_add_emod a x;have h3:=Int.emod_lt_of_pos a hx;rw[<- ht] at h2;rw[Int.add_mul,Int.one_mul,Int.mul_comm t x];omega
 have h4:(x+t+1)*x<=(2*y+2)*x:=YA (by omega) (by omega)
 have h5:0<=(y+1-x)*(y+1-x):=by
  rcases Int.le_total 0 (y+1-x) with h|h
  ·exact YF h h
  ·exact Int.mul_nonneg_of_nonpos_of_nonpos h h
 have h6:(y+1-x)*(y+1-x)=(y+1)*(y+1)-2*((y+1)*x)+x*x:=by
  rw[Int.sub_mul,Int.mul_sub,Int.mul_sub,Int.mul_comm x (y+1)];omega
 have h7:(2*y+2)*x=2*((y+1)*x):=by rw[<- Int.mul_assoc];congr 1;omega
 have h8:(x+t+1)*x=x*x+(t+1)*x:=by rw[<- Int.add_mul];congr 1;omega
 omega
theorem zO8 {a x:Int} (hx:0<x) (ha:0<=a) (h:x<=(x+a/x)/2):x*x<=a:=by
 have h1:x<=a/x:=by omega
 have h2:=Int.mul_ediv_add_emod a x;have h3:=Int.emod_nonneg a (show x≠0 by omega)
 have h4:=YD h1 (show 0<=x by omega)
 omega
theorem zKL {x y:Int} (hx:0<=x) (hy:0<=y) (h:x*x<y*y):x<y:=by
 rcases Int.lt_or_le x y with h1|h1
 ·exact h1
 ·have:=Int.mul_le_mul h1 h1 hy hx;omega
theorem zTM {a x y:Int} (hx:0<=x) (hy:0<=y) (h1:x*x<=a) (h2:a<(x+1)*(x+1)) (h3:y*y<=a) (h4:a<(y+1)*(y+1)):x=y:=by
 have:=zKL hx (show 0<=y+1 by omega) (by omega)
 have:=zKL hy (show 0<=x+1 by omega) (by omega)
 omega
structure SpC (w:World) (B:Nat) (s:Sp):Prop where
 c0:w.cell? ⟨B,0,none⟩=some (.bool s.ln)
 c1:w.cell? ⟨B,1,none⟩=some (.slice s.la s.lN s.lc)
 c2:w.cell? ⟨B,2,none⟩=some (.bool s.hn)
 c3:w.cell? ⟨B,3,none⟩=some (.slice s.ha s.hN s.hc)
 c4:w.cell? ⟨B,4,none⟩=some (.int .i64 s.bits)
theorem SpC.lt {w:World} {B:Nat} {s:Sp} (h:SpC w B s):B<w.heap.size:=World.block_lt_of_cell? w ⟨B,0,none⟩ h.c0
theorem SpC.bw {w w':World} {B:Nat} {s:Sp} (h:SpC w B s) (hb:Below w.heap.size w w'):SpC w' B s :=
 ⟨(hb.cell (p:=⟨B,0,none⟩) h.lt).trans h.c0,(hb.cell (p:=⟨B,1,none⟩) h.lt).trans h.c1,(hb.cell (p:=⟨B,2,none⟩) h.lt).trans h.c2,(hb.cell (p:=⟨B,3,none⟩) h.lt).trans h.c3,(hb.cell (p:=⟨B,4,none⟩) h.lt).trans h.c4⟩
theorem zB2 (w:World) (s:Sp) (T:TypeId):SpC (w.alloc (.cells s.q T)) w.heap.size s:=⟨by simp,by simp,by simp,by simp,by simp⟩
structure NoC (w:World) (B:Nat):Prop where
 c0:w.cell? ⟨B,0,none⟩=some (.bool false)
 c1:w.cell? ⟨B,1,none⟩=some (.slice none 0 0)
 c2:w.cell? ⟨B,2,none⟩=some (.bool false)
 c3:w.cell? ⟨B,3,none⟩=some (.slice none 0 0)
 c4:w.cell? ⟨B,4,none⟩=some (.int .i64 0)
 fz:∀ o,w.frozen? ⟨B,o,none⟩=false
theorem NoC.lt {w:World} {B:Nat} (h:NoC w B):B<w.heap.size:=World.block_lt_of_cell? w ⟨B,0,none⟩ h.c0
theorem NoC.bw {w w':World} {B:Nat} (h:NoC w B) (hb:Below w.heap.size w w'):NoC w' B :=
 ⟨(hb.cell (p:=⟨B,0,none⟩) h.lt).trans h.c0,(hb.cell (p:=⟨B,1,none⟩) h.lt).trans h.c1,(hb.cell (p:=⟨B,2,none⟩) h.lt).trans h.c2,(hb.cell (p:=⟨B,3,none⟩) h.lt).trans h.c3,(hb.cell (p:=⟨B,4,none⟩) h.lt).trans h.c4,λ o=>(hb.frozen (p:=⟨B,o,none⟩) h.lt).trans (h.fz o)⟩
theorem zQ (w:World) (T:TypeId):NoC (w.alloc (.cells zCq T)) w.heap.size:=⟨by simp,by simp,by simp,by simp,by simp,λ o=>by simp[go_sem]⟩
theorem SpAt.mono {w:World} {s:Sp} {k k':Nat} {lo hi:Int} (h:SpAt w s k lo hi) (hk:k<=k'):SpAt w s k' lo hi:=⟨h.lo.mono hk,h.hi.mono hk⟩
theorem zDE (w:World) (s:Sp) (k:Nat) (lo hi:Int) (hs:SpAt w s k lo hi) (hk:k<=700000000) :
  Calls Tryz.prog 139 #[.agg s.q] w (zH w s.bits k (-hi) (-lo)):=by
 go_enter Tryz.func139,Tryz.ntmps139
 go_wp2
 go_region_held3 (λ w'=>cK0 w' w.heap.size s) ((dsimp only[cK,cK0,nK,nK0,rK,rK0];go_keep))
  (first
   | (go_at_call 87;have hq:=b9;refine (zA2 _ _ _ _ k lo _ (hs.lo.bw (zB (bl2 _ _ _).drew b9)) (by omega)).mono ?_;rintro r w2 ⟨j6,a2,n2,c2,rfl,A5,j8⟩;obtain⟨E2,E4,F9⟩:=jJ (w.heap.size+1+1) C7 j8)
   | (go_at_call 87;refine (zA2 _ _ _ _ k hi _ (hs.hi.bw (bl2 _ _ _).drew) (by omega)).mono ?_;rintro r w1 ⟨m7,a1,n1,c1,rfl,o8,b9⟩;obtain⟨C7,C9,D9⟩:=jJ (w.heap.size+1+1) (by simp) b9))
 go_wp2;have q0:w2.cell? ⟨w.heap.size+1,0,none⟩=some (.bool false):=by simp[E4,C9,go_sem]
 have q1:w2.cell? ⟨w.heap.size+1,1,none⟩=some (.slice none 0 0):=by simp[E4,C9,go_sem]
 have q2:w2.cell? ⟨w.heap.size+1,2,none⟩=some (.bool false):=by simp[E4,C9,go_sem]
 have q3:w2.cell? ⟨w.heap.size+1,3,none⟩=some (.slice none 0 0):=by simp[E4,C9,go_sem]
 have q4:w2.cell? ⟨w.heap.size+1,4,none⟩=some (.int .i64 0):=by simp[E4,C9,go_sem]
 refine bodyPost_ret (v:=.agg #[.bool m7,.slice a1 n1 c1,.bool j6,.slice a2 n2 c2,.int .i64 s.bits]) (by simp[results,Tryz.results139,go_sem,q0,q1,q2,q3,q4]) rfl ⟨⟨m7,a1,n1,c1,j6,a2,n2,c2,s.bits⟩,rfl,rfl,?_,?_⟩
 ·exact SpAt.put5 ⟨o8.bw j8,A5⟩ q0 q1 q2 q3 q4 _ _ _ _ _
 ·exact jY (zB (zB (bl2 _ _ _).drew b9) j8) (Nat.le_succ _) _ _ _ _ _
theorem zKF (w:World) (s:Sp):Calls Tryz.prog 15 #[.agg s.q] w λ r w'=>r=.returned (.agg s.q)/\Below w.heap.size w w':=by
 go_enter Tryz.func15,Tryz.ntmps15
 go_wp2_with fail;refine bodyPost_ret (v:=.agg s.q) (by simp[results,Tryz.results15,go_sem]) rfl ⟨rfl,?_⟩
 first|exact bl2 _ _ _|exact jY (bl2 _ _ _) (Nat.le_succ _) _ _ _ _ _
theorem zMI (w:World) (s t:Sp) (k:Nat) (lo hi lo' hi':Int) (hs:SpAt w s k lo hi) (ht:SpAt w t k lo' hi') (hk:k<=600000000) :
  Calls Tryz.prog 92 #[.agg s.q,.agg t.q] w (zH w s.bits (k+1) (lo-hi') (hi-lo')):=by
 have nJ:w.heap.size≠w.heap.size+1+1:=by omega
 have nM:w.heap.size+1+1≠w.heap.size:=by omega
 have le2:w.heap.size<=w.heap.size+1+1:=by omega
 go_enter Tryz.func92,Tryz.ntmps92
 go_wp2
 go_region_held3 (λ w'=>cK w' w.heap.size s (cK0 w' (w.heap.size+1) t)) ((dsimp only[cK,cK0,nK,nK0,rK,rK0];go_keep))
  (first
   | (go_at_call 139;refine (zDE _ t k lo' hi' (ht.bw (bl3 _ _ _ _).drew) (by omega)).mono ?_;rintro r w1 ⟨u,rfl,B8,B7,b9⟩;have G8:=zC B8;clear B8;obtain⟨C7,C9,D9⟩:=jJ (w.heap.size+1+1+1) (by simp) b9)
   | (go_at_call 51;refine (zGO _ s u k lo hi (-hi') (-lo') (hs.bw (zB (bl3 _ _ _ _).drew b9)) B7 (by omega)).mono ?_;rintro r w2 ⟨v,rfl,K3,J7,j8⟩;have Hz:=zC K3;clear K3;obtain⟨E2,E4,F9⟩:=jJ (w.heap.size+1+1+1) C7 j8))
 go_wp2;have q0:w2.cell? ⟨w.heap.size+1+1,0,none⟩=some (.bool false):=by simp[E4,C9,go_sem]
 have q1:w2.cell? ⟨w.heap.size+1+1,1,none⟩=some (.slice none 0 0):=by simp[E4,C9,go_sem]
 have q2:w2.cell? ⟨w.heap.size+1+1,2,none⟩=some (.bool false):=by simp[E4,C9,go_sem]
 have q3:w2.cell? ⟨w.heap.size+1+1,3,none⟩=some (.slice none 0 0):=by simp[E4,C9,go_sem]
 have q4:w2.cell? ⟨w.heap.size+1+1,4,none⟩=some (.int .i64 0):=by simp[E4,C9,go_sem]
 refine bodyPost_ret (v:=.agg v.q) (by simp[results,Tryz.results92,go_sem,q0,q1,q2,q3,q4]) rfl ⟨v,rfl,zA Hz,?_,?_⟩
 ·rw[Int.sub_eq_add_neg,Int.sub_eq_add_neg]
  exact SpAt.put5 J7 q0 q1 q2 q3 q4 _ _ _ _ _
 ·exact jY (zB (zB (bl3 _ _ _ _).drew b9) j8) le2 _ _ _ _ _
theorem zEO (neg:Bool) (a:Option Addr) (n cap k1:Nat) (k x:Int) (w:World) (h1:IntAt w neg a n cap k1 x) (Z9:k1<=900000000) (eG : -1000000000<=k) (hk:k<=1000000000) :
  Calls Tryz.prog 120 #[.agg #[.bool neg,.slice a n cap],.int .i64 k] w λ r w' =>
   ∃ m8 a' n' o7,r=.returned (.agg #[.bool m8,.slice a' n' o7])/\IntAt w' m8 a' n' o7 ((-k).toNat/16+k1+5) (-(zAZ (-x) k))/\Below w.heap.size w w':=by
 go_enter Tryz.func120,Tryz.ntmps120
 go_wp2_with (first
  | (go_at_call 87;have hq:=j8;refine (zA2 _ _ _ _ ((-k).toNat/16+k1+5) _ _ A5 (by omega)).mono ?_;rintro r w3 ⟨A7,a3,n3,c3,rfl,E5,m9⟩;obtain⟨J9,T3,T7⟩:=jJ (w.heap.size+1+1) E2 m9)
  | (go_at_call 87;refine (zA2 _ _ _ _ k1 x _ (h1.bw (bl2 _ _ _)) (by omega)).mono ?_;rintro r w1 ⟨m7,a1,n1,c1,rfl,o8,b9⟩;obtain⟨C7,C9,D9⟩:=jJ (w.heap.size+1+1) (by simp) b9)
  | (go_at_call 96;refine (zG5 _ _ _ _ k1 k (-x) _ o8 (by omega) eG hk).mono ?_;rintro r w2 ⟨j6,a2,n2,c2,rfl,A5,j8⟩;obtain⟨E2,E4,F9⟩:=jJ (w.heap.size+1+1) C7 j8))
 have h0:w3.cell? ⟨w.heap.size+1,0,none⟩=some (.bool false):=by simp[T3,E4,C9,go_sem]
 have J1:w3.cell? ⟨w.heap.size+1,1,none⟩=some (.slice none 0 0):=by simp[T3,E4,C9,go_sem]
 refine bodyPost_ret (v:=.agg #[.bool A7,.slice a3 n3 c3]) (by simp[results,Tryz.results120,go_sem,h0,J1]) rfl ⟨A7,a3,n3,c3,rfl,E5.put2 h0 J1 _ _,?_⟩
 exact ((zB (zB (zB (bl2 _ _ _) b9) j8) m9).setCell (p:=⟨w.heap.size+1,0,none⟩) (Nat.le_succ _) _).setCell (p:=⟨w.heap.size+1,1,none⟩) (Nat.le_succ _) _
theorem zLK (w:World) (s t:Sp) (k:Nat) (lo hi lo' hi':Int) (hs:SpAt w s k lo hi) (ht:SpAt w t k lo' hi') (hk:k<=300000000) :
  Calls Tryz.prog 152 #[.agg s.q,.agg t.q,.func (.func 83) #[] #[]] w λ r w' =>
   ∃ B f,r=.returned (.slice (some ⟨B,0,none⟩) 4 4)/\Nums w' B 4 (k+k) f (pr4 (lo*lo') (lo*hi') (hi*lo') (hi*hi'))/\Below w.heap.size w w':=by
 obtain⟨W,hW⟩:∃ W,W=(w.alloc (.cells s.q 31)).alloc (.cells t.q 31):=⟨_,rfl⟩;have j7:Below w.heap.size w W:=by rw[hW];exact bl2 _ _ _
 have a0:SpC W w.heap.size s:=by rw[hW];constructor<;>simp[go_sem]
 have g0:SpC W (w.heap.size+1) t:=by rw[hW];constructor<;>simp[go_sem]
 have HS:=zC (hs.bw j7);have HT:=zC (ht.bw j7);have C8:Below W.heap.size W W.drew:=(Below.refl _ _).drew
 have HK:=zC (show ∀ w',Below W.heap.size W w'->(w'.cell? ⟨w.heap.size,0,none⟩=some (.bool s.ln)/\w'.cell? ⟨w.heap.size,1,none⟩=some (.slice s.la s.lN s.lc)/\w'.cell? ⟨w.heap.size,2,none⟩=some (.bool s.hn)/\w'.cell? ⟨w.heap.size,3,none⟩=some (.slice s.ha s.hN s.hc)/\w'.cell? ⟨w.heap.size+1,0,none⟩=some (.bool t.ln)/\w'.cell? ⟨w.heap.size+1,1,none⟩=some (.slice t.la t.lN t.lc)/\w'.cell? ⟨w.heap.size+1,2,none⟩=some (.bool t.hn)/\w'.cell? ⟨w.heap.size+1,3,none⟩=some (.slice t.ha t.hN t.hc)) from λ w' hB=>by
  obtain⟨x0,x1,x2,x3,x4⟩:=a0.bw hB;obtain⟨y0,y1,y2,y3,y4⟩:=g0.bw hB
  exact⟨x0,x1,x2,x3,y0,y1,y2,y3⟩)
 go_enter Tryz.func152,Tryz.ntmps152
 go_wp2;obtain⟨x0,x1,x2,x3,x4⟩:=a0;obtain⟨y0,y1,y2,y3,y4⟩:=g0;rw[<- hW];clear hW
 go_region_held3 (λ w'=>w'.cell? ⟨w.heap.size,0,none⟩=some (.bool s.ln)/\w'.cell? ⟨w.heap.size,1,none⟩=some (.slice s.la s.lN s.lc)/\w'.cell? ⟨w.heap.size,2,none⟩=some (.bool s.hn)/\w'.cell? ⟨w.heap.size,3,none⟩=some (.slice s.ha s.hN s.hc)/\w'.cell? ⟨w.heap.size+1,0,none⟩=some (.bool t.ln)/\w'.cell? ⟨w.heap.size+1,1,none⟩=some (.slice t.la t.lN t.lc)/\w'.cell? ⟨w.heap.size+1,2,none⟩=some (.bool t.hn)/\w'.cell? ⟨w.heap.size+1,3,none⟩=some (.slice t.ha t.hN t.hc)) (exact zA HK _ (by first|exact C8|exact zL G0 _|exact G0|exact A8|exact o9|exact A6))
  (first
   | (go_at_call 83;have hq:=A8;refine (zT _ _ _ _ _ _ _ _ k k hi hi' _ ((zA HS).hi.bw A8) ((zA HT).hi.bw A8) (by omega) (by omega)).mono ?_;rintro r w4 ⟨D8,a4,n4,c4,rfl,G6,y9⟩;have o8:=o8.bw y9;have A5:=A5.bw y9;have E5:=E5.bw y9;have G0:=zB A8 y9)
   | (go_at_call 83;have hq:=o9;refine (zT _ _ _ _ _ _ _ _ k k hi lo' _ ((zA HS).hi.bw o9) ((zA HT).lo.bw o9) (by omega) (by omega)).mono ?_;rintro r w3 ⟨A7,a3,n3,c3,rfl,E5,m9⟩;have o8:=o8.bw m9;have A5:=A5.bw m9;have A8:=zB o9 m9)
   | (go_at_call 83;have hq:=A6;refine (zT _ _ _ _ _ _ _ _ k k lo hi' _ ((zA HS).lo.bw A6) ((zA HT).hi.bw A6) (by omega) (by omega)).mono ?_;rintro r w2 ⟨j6,a2,n2,c2,rfl,A5,j8⟩;have o8:=o8.bw j8;have o9:=zB A6 j8)
   | (go_at_call 83;have hq:=C8;refine (zT _ _ _ _ _ _ _ _ k k lo lo' _ ((zA HS).lo.bw C8) ((zA HT).lo.bw C8) (by omega) (by omega)).mono ?_;rintro r w1 ⟨m7,a1,n1,c1,rfl,o8,b9⟩;have A6:=zB C8 b9))
 go_wp2
 go_ret
 exact⟨w4.heap.size,pr4 ⟨m7,a1,n1,c1⟩ ⟨j6,a2,n2,c2⟩ ⟨A7,a3,n3,c3⟩ ⟨D8,a4,n4,c4⟩,rfl,zPA w4 _ rfl ⟨m7,a1,n1,c1⟩ ⟨j6,a2,n2,c2⟩ ⟨A7,a3,n3,c3⟩ ⟨D8,a4,n4,c4⟩ _ _ _ _ _ _ o8 A5 E5 G6,zB j7 (zL G0 _)⟩
theorem zMH (w:World) (s t:Sp) (k:Nat) (lo hi lo' hi':Int) (hs:SpAt w s k lo hi) (ht:SpAt w t k lo' hi') (hk:k<=300000000) (E8:0<=s.bits) (pR:s.bits<=1000000) :
  Calls Tryz.prog 124 #[.agg s.q,.agg t.q] w (zH w s.bits (k+k+8) (zAZ (kJ (pr4 (lo*lo') (lo*hi') (hi*lo') (hi*hi')) 3) s.bits) (-(zAZ (-(kA (pr4 (lo*lo') (lo*hi') (hi*lo') (hi*hi')) 3)) s.bits))):=by
 have QH:(-s.bits).toNat=0:=by omega
 have nJ:w.heap.size≠w.heap.size+1+1:=by omega
 have nM:w.heap.size+1+1≠w.heap.size:=by omega
 obtain⟨W,hW⟩:∃ W,W=((w.alloc (.cells s.q 31)).alloc (.cells t.q 31)).alloc (.cells zCq 31):=⟨_,rfl⟩;have j7:Below w.heap.size w W:=by rw[hW];exact bl3 _ _ _ _
 have a0:SpC W w.heap.size s:=by rw[hW];constructor<;>simp[go_sem]
 have g0:SpC W (w.heap.size+1) t:=by rw[hW];constructor<;>simp[go_sem]
 have r0:NoC W (w.heap.size+1+1):=by rw[hW];constructor<;>simp[go_sem]
 have HS:=zC (hs.bw j7);have HT:=zC (ht.bw j7);have C8:Below W.heap.size W W.drew:=(Below.refl _ _).drew
 have HK:=zC (show ∀ w',Below W.heap.size W w'->(w'.cell? ⟨w.heap.size,0,none⟩=some (.bool s.ln)/\w'.cell? ⟨w.heap.size,1,none⟩=some (.slice s.la s.lN s.lc)/\w'.cell? ⟨w.heap.size,2,none⟩=some (.bool s.hn)/\w'.cell? ⟨w.heap.size,3,none⟩=some (.slice s.ha s.hN s.hc)/\w'.cell? ⟨w.heap.size+1,0,none⟩=some (.bool t.ln)/\w'.cell? ⟨w.heap.size+1,1,none⟩=some (.slice t.la t.lN t.lc)/\w'.cell? ⟨w.heap.size+1,2,none⟩=some (.bool t.hn)/\w'.cell? ⟨w.heap.size+1,3,none⟩=some (.slice t.ha t.hN t.hc)) from λ w' hB=>by
  obtain⟨x0,x1,x2,x3,x4⟩:=a0.bw hB;obtain⟨y0,y1,y2,y3,y4⟩:=g0.bw hB
  exact⟨x0,x1,x2,x3,y0,y1,y2,y3⟩)
 go_enter Tryz.func124,Tryz.ntmps124
 go_wp2_with fail;rw[<- hW];clear hW;refine (zLK _ s t k lo hi lo' hi' (zA HS) (zA HT) hk).mono ?_;rintro r w1 ⟨B,f,rfl,hN,b9⟩;have T4:=r0.bw b9;have Z4:=T4.lt;obtain⟨x0,x1,x2,x3,x4⟩:=a0.bw b9;have a1:SpC w1 w.heap.size s:=⟨x0,x1,x2,x3,x4⟩;have mR:=zC (show ∀ w',Below w1.heap.size w1 w'->w'.cell? ⟨w.heap.size,4,none⟩=some (.int .i64 s.bits) from λ w' hB=>(a1.bw hB).c4)
 have A9:Below w1.heap.size w1 w1.drew:=(Below.refl _ _).drew;clear x0 x1 x2 x3;go_wp2_with fail
 go_region_held3 (λ w'=>w'.cell? ⟨w.heap.size,4,none⟩=some (.int .i64 s.bits)) (first|exact zA mR _ (by first|exact A9|exact gy|exact I5|exact E9|exact s9)|go_keep)
  (first
   | (go_at_call 153;refine (zEU _ 3 _ (k+k) f _ _ (hN.bw A9) (by omega) (by omega)).mono ?_;rintro r w2 ⟨j6,a2,n2,c2,rfl,A5,j8⟩;have s9:=zB A9 j8)
   | (go_at_call 96;refine (zG5 _ _ _ _ (k+k+1) s.bits _ _ A5 (by omega) (by omega) (by omega)).mono ?_;rintro r w3 ⟨A7,a3,n3,c3,rfl,E5,m9⟩;have E9:=zB s9 m9)
   | (go_at_call 150;refine (zIQ _ 3 _ (k+k) f _ _ (hN.bw E9) (by omega) (by omega)).mono ?_;rintro r w4 ⟨D8,a4,n4,c4,rfl,G6,y9⟩;have E5:=E5.bw y9;have I5:=zB E9 y9)
   | (go_at_call 120;refine (zEO _ _ _ _ (k+k+1) s.bits _ _ G6 (by omega) (by omega) (by omega)).mono ?_;rintro r w5 ⟨M7,a5,n5,c5,rfl,P6,D6⟩;have E5:=E5.bw D6;have gy:=zB I5 D6;obtain⟨q0,q1,q2,q3,q4,q5⟩:=T4.bw gy;have x5:=zA mR _ gy))
 go_wp2;refine bodyPost_ret (v:=.agg #[.bool A7,.slice a3 n3 c3,.bool M7,.slice a5 n5 c5,.int .i64 s.bits]) (by simp[results,Tryz.results124,go_sem,q0,q1,q2,q3,q4]) rfl ⟨⟨A7,a3,n3,c3,M7,a5,n5,c5,s.bits⟩,rfl,rfl,?_,?_⟩
 ·exact SpAt.put5 ⟨E5.mono (by omega),P6.mono (by omega)⟩ q0 q1 q2 q3 q4 _ _ _ _ _
 ·exact jY (zB (zB j7 b9) gy) (by omega) _ _ _ _ _
theorem yV {w:World} {B B' o:Nat} {v:Option Value} (h:w.cell? ⟨B,o,none⟩=v) (hne:B≠B') (u0 u1 u2 u3 u4:Value) :
  (((((w.setCell ⟨B',0,none⟩ u0).setCell ⟨B',1,none⟩ u1).setCell ⟨B',2,none⟩ u2).setCell ⟨B',3,none⟩ u3).setCell ⟨B',4,none⟩ u4).cell? ⟨B,o,none⟩=v:=by
 have ne:∀ i:Nat,(⟨B',i,none⟩:Addr)≠⟨B,o,none⟩:=λ i e=>hne (by injection e with e1;exact e1.symm)
 rw[World.cell?_setCell_other _ _ _ _ (ne 4),World.cell?_setCell_other _ _ _ _ (ne 3),World.cell?_setCell_other _ _ _ _ (ne 2),World.cell?_setCell_other _ _ _ _ (ne 1),World.cell?_setCell_other _ _ _ _ (ne 0)];exact h
theorem SpC.put {w:World} {B B':Nat} {s:Sp} (h:SpC w B s) (hne:B≠B') (u0 u1 u2 u3 u4:Value) :
  SpC (((((w.setCell ⟨B',0,none⟩ u0).setCell ⟨B',1,none⟩ u1).setCell ⟨B',2,none⟩ u2).setCell ⟨B',3,none⟩ u3).setCell ⟨B',4,none⟩ u4) B s :=
 ⟨yV h.c0 hne _ _ _ _ _,yV h.c1 hne _ _ _ _ _,yV h.c2 hne _ _ _ _ _,yV h.c3 hne _ _ _ _ _,yV h.c4 hne _ _ _ _ _⟩
end Go.Proofs.YtgmnknmjainabacGreat
