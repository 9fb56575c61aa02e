/-
  Its own texts.
-/
import Derived.Deep.DeepCutAuto
import Derived.Test.YtgmnknmjainabacGreatK03
set_option maxRecDepth 100000
set_option maxHeartbeats 40000000
set_option linter.unnecessarySimpa false
set_option linter.unusedSimpArgs false
set_option linter.unusedVariables false
namespace Go.Proofs.YtgmnknmjainabacGreat
open Go.RowKit
attribute [local go_sem ↓] Go.wp_at_zero Go.wp_at_succ
structure SpAt (w:World) (s:Sp) (k:Nat) (lo hi:Int):Prop where
 lo:IntAt w s.ln s.la s.lN s.lc k lo
 hi:IntAt w s.hn s.ha s.hN s.hc k hi
theorem SpAt.bw {w w':World} {s:Sp} {k:Nat} {lo hi:Int} (h:SpAt w s k lo hi) (hb:Below w.heap.size w w'):SpAt w' s k lo hi:=⟨h.lo.bw hb,h.hi.bw hb⟩
theorem zRE (f:Nat) {x:Int} (h:0<x):1<=bs (f+1) x:=by
 simp only[bs];rw[if_neg (by omega)];have:=zM2 f (x/2);omega
theorem zOZ {x:Int} (h:0<x):1<=bs 16 x:=zRE 15 h
def zGY (x y:Int):Int:=if x<y then y else x
def zQB (x y:Int):Int:=if y<x then y else x
theorem zKP {w:World} {neg:Bool} {a:Option Addr} {n cap:Nat} {d:Nat->Int} (h:Dig w a n cap d) (hr:yO neg n d≠false) (hl:¬ 4000<zIE n d):IntAt w neg a n cap 250 (sgn neg (V d n)):=by
 have hd:=h.dgs (n-1);unfold yO at hr;unfold zIE at hl
 by_cases h0:n=0
 ·subst h0
  simp at hr;exact⟨d,h,Or.inl rfl,λ _=>hr,by omega,rfl⟩
 ·rw[if_neg h0] at hr hl
  have hne:d (n-1)≠0:=by simpa using hr
  have:=zOZ (show 0<d (n-1) by omega)
  exact⟨d,h,Or.inr hne,λ h=>absurd h h0,by omega,rfl⟩
theorem chk_ok {w:World} {s:Sp} {d e:Nat->Int} (h:SpDig w s d e) (hc:zAL s d e=0) :
  SpAt w s 250 (sgn s.ln (V d s.lN)) (sgn s.hn (V e s.hN))/\1<=s.bits/\s.bits<=120/\sgn s.ln (V d s.lN)<=sgn s.hn (V e s.hN):=by
 unfold zAL at hc;split at hc
 ·omega
 ·split at hc
  ·omega
  ·split at hc
   ·omega
   ·split at hc
    ·omega
    ·rename_i c1 c2 c3 c4
     have i1:=zKP h.lo (neg:=s.ln) (λ q=>c2 (Or.inl q)) (λ q=>c3 (Or.inl q))
     have i2:=zKP h.hi (neg:=s.hn) (λ q=>c2 (Or.inr q)) (λ q=>c3 (Or.inr q))
     refine⟨⟨i1,i2⟩,by omega,by omega,?_⟩
     obtain⟨d1,p1,p2,p3,p4,p5⟩:=i1;obtain⟨e1,r1,r2,r3,r4,r5⟩:=i2
     have q1:s.lN=0\/d (s.lN-1)≠0:=by
      by_cases hh:s.lN=0
      ·exact Or.inl hh
      ·right;intro h0;exact c2 (Or.inl (by simp[yO,hh,h0]))
     have q2:s.hN=0\/e (s.hN-1)≠0:=by
      by_cases hh:s.hN=0
      ·exact Or.inl hh
      ·right;intro h0;exact c2 (Or.inr (by simp[yO,hh,h0]))
     rw[zAI h.lo.dgs h.hi.dgs s.ln s.hn s.lN s.hN q1 q2 p3 r3] at c4
     by_cases hh:sgn s.hn (V e s.hN)<sgn s.ln (V d s.lN)
     ·exact absurd (show 0<zM (sgn s.ln (V d s.lN)) (sgn s.hn (V e s.hN)) by unfold zM;rw[if_neg (by omega),if_pos hh];omega) c4
     ·omega
theorem nums2 (w:World) (x y:Nm) (k:Nat) (zx zy:Int) (T:TypeId) (hx:IntAt w x.neg x.a x.n x.cap k zx) (hy:IntAt w y.neg y.a y.n y.cap k zy) :
  Nums (w.alloc (.cells #[.bool x.neg,.slice x.a x.n x.cap,.bool y.neg,.slice y.a y.n y.cap] T)) w.heap.size 2 k (pr x y) (pr zx zy):=by
 refine⟨by simp,?_,?_,?_⟩
 all_goals
  intro j hj
  match j,hj with
  | 0,_=>first|(simp[pr];done)|exact hx.bw (bl1 _ _)
  | 1,_=>first|(simp[pr];done)|exact hy.bw (bl1 _ _)
theorem most2 (w:World) (B:Nat) (hB:w.heap.size=B) (x y:Nm) (k:Nat) (zx zy:Int) (T:TypeId) (cap:Nat) (hx:IntAt w x.neg x.a x.n x.cap k zx) (hy:IntAt w y.neg y.a y.n y.cap k zy) (hk:k<=1000000000) :
  Calls Tryz.prog 150 #[.slice (some ⟨B,0,none⟩) 2 cap] (w.alloc (.cells #[.bool x.neg,.slice x.a x.n x.cap,.bool y.neg,.slice y.a y.n y.cap] T)) λ r w' =>
   ∃ m9 a' n' o7,r=.returned (.agg #[.bool m9,.slice a' n' o7])/\IntAt w' m9 a' n' o7 (k+1) (zGY zx zy)/\Below w.heap.size w w':=by
 subst hB;exact (zIV w.heap.size 1 cap k (pr x y) (pr zx zy) _ (nums2 w x y k zx zy T hx hy) hk (by omega)).mono λ _ _ ⟨n1,n2,n3,n4,q1,q2,q3⟩=>⟨n1,n2,n3,n4,q1,q2,(bl1 _ _).trans (q3.mono (by simp))⟩
theorem least2 (w:World) (B:Nat) (hB:w.heap.size=B) (x y:Nm) (k:Nat) (zx zy:Int) (T:TypeId) (cap:Nat) (hx:IntAt w x.neg x.a x.n x.cap k zx) (hy:IntAt w y.neg y.a y.n y.cap k zy) (hk:k<=1000000000) :
  Calls Tryz.prog 153 #[.slice (some ⟨B,0,none⟩) 2 cap] (w.alloc (.cells #[.bool x.neg,.slice x.a x.n x.cap,.bool y.neg,.slice y.a y.n y.cap] T)) λ r w' =>
   ∃ m9 a' n' o7,r=.returned (.agg #[.bool m9,.slice a' n' o7])/\IntAt w' m9 a' n' o7 (k+1) (zQB zx zy)/\Below w.heap.size w w':=by
 subst hB;exact (zEY w.heap.size 1 cap k (pr x y) (pr zx zy) _ (nums2 w x y k zx zy T hx hy) hk (by omega)).mono λ _ _ ⟨n1,n2,n3,n4,q1,q2,q3⟩=>⟨n1,n2,n3,n4,q1,q2,(bl1 _ _).trans (q3.mono (by simp))⟩
theorem zEJ (w:World) (s:Sp) (k:Nat) (lo hi:Int) (h:SpAt w s k lo hi) (hk:k<=900000000) :
  Calls Tryz.prog 119 #[.agg s.q] w λ r w' =>
   ∃ m9 a' n' o7,r=.returned (.agg #[.bool m9,.slice a' n' o7])/\IntAt w' m9 a' n' o7 (k+1) (zGY hi (-lo))/\Below w.heap.size w w':=by
 go_enter Tryz.func119,Tryz.ntmps119
 go_wp2
 go_region_held3 (λ w'=>w'.cell? ⟨w.heap.size,0,none⟩=some (.bool s.ln)/\w'.cell? ⟨w.heap.size,1,none⟩=some (.slice s.la s.lN s.lc)/\w'.cell? ⟨w.heap.size,2,none⟩=some (.bool s.hn)/\w'.cell? ⟨w.heap.size,3,none⟩=some (.slice s.ha s.hN s.hc)) (go_keep)
  (first
   | (go_at_call 87;refine (zA8 _ _ _ _ k lo _ (h.lo.bw (bl2 _ _ _).drew) (by omega)).mono ?_;rintro r w1 ⟨m7,a1,n1,c1,rfl,o8,b9⟩;obtain⟨A8,C7,D3⟩:=jC (w.heap.size+1+1) (by simp) b9;have K4:=YB (Nat.lt_succ_of_lt (Nat.lt_succ_self w.heap.size)) A8;have G1:=YB (Nat.lt_succ_self (w.heap.size+1)) A8)
   | (go_at_call 150;refine (most2 w1 _ rfl ⟨s.hn,s.ha,s.hN,s.hc⟩ ⟨m7,a1,n1,c1⟩ k hi (-lo) _ _ (h.hi.bw (zB (bl2 _ _ _).drew b9)) o8 (by omega)).mono ?_;rintro r w2 ⟨j7,a2,n2,c2,rfl,A5,j8⟩;obtain⟨C9,D6,E6⟩:=jC (w.heap.size+1+1) A8 j8))
 go_wp2;have y0:w2.cell? ⟨w.heap.size+1,0,none⟩=some (.bool false):=by simp[D6,C7,go_sem]
 have y1:w2.cell? ⟨w.heap.size+1,1,none⟩=some (.slice none 0 0):=by simp[D6,C7,go_sem]
 refine bodyPost_ret (v:=.agg #[.bool j7,.slice a2 n2 c2]) (by simp[results,Tryz.results119,go_sem,y0,y1]) rfl ⟨j7,a2,n2,c2,rfl,A5.put2 y0 y1 _ _,?_⟩
 exact ((zB (zB (bl2 _ _ _).drew b9) j8).setCell (p:=⟨w.heap.size+1,0,none⟩) (Nat.le_succ _) _).setCell (p:=⟨w.heap.size+1,1,none⟩) (Nat.le_succ _) _
def zL4 (lo hi K n:Int):Bool:=decide ((hi-lo)*K<=n*(K+zGY hi (-lo)))
theorem zLR (x y:Int):decide (zM x y<=0)=decide (x<=y):=by
 rw[decide_eq_decide];unfold zM
 by_cases h:x<y
 ·rw[if_pos h];omega
 ·rw[if_neg h]
  by_cases h2:y<x
  ·rw[if_pos h2];omega
  ·rw[if_neg h2];omega
def VarAt (w:World) (p:Value) (H k:Nat) (z:Int):Prop :=
 ∃ (B:Nat) (x:Nm),p=.pointer (some ⟨B,0,none⟩)/\w.cell? ⟨B,0,none⟩=some (.bool x.neg)/\w.cell? ⟨B,1,none⟩=some (.slice x.a x.n x.cap)/\IntAt w x.neg x.a x.n x.cap k z/\H<=B/\B<w.heap.size
theorem varA {w:World} {neg:Bool} {a:Option Addr} {n cap k:Nat} {z:Int} (h:IntAt w neg a n cap k z) (T:TypeId) (H:Nat) (hH:H<=w.heap.size):VarAt (w.alloc (.cells #[.bool neg,.slice a n cap] T)) (.pointer (some ⟨w.heap.size,0,none⟩)) H k z :=
 ⟨w.heap.size,⟨neg,a,n,cap⟩,rfl,by simp,by simp,h.bw (bl1 _ _),hH,by simp⟩
theorem varB {w:World} {neg:Bool} {a:Option Addr} {n cap k:Nat} {z:Int} (h:IntAt w neg a n cap k z) (H B:Nat) (h0:w.cell? ⟨B,0,none⟩=some (.bool false)) (h1:w.cell? ⟨B,1,none⟩=some (.slice none 0 0)) (hH:H<=B) :
  VarAt ((w.setCell ⟨B,0,none⟩ (.bool neg)).setCell ⟨B,1,none⟩ (.slice a n cap)) (.pointer (some ⟨B,0,none⟩)) H k z :=
 ⟨B,⟨neg,a,n,cap⟩,rfl,by simp[go_sem,h0,h1],by simp[go_sem,h0,h1],h.put2 h0 h1 _ _,hH,by
  have:=World.block_lt_of_cell? w ⟨B,0,none⟩ h0
  simpa [World.setCell] using this⟩
theorem VarAt.mono {w:World} {p:Value} {H k k':Nat} {z:Int} (h:VarAt w p H k z) (hk:k<=k'):VarAt w p H k' z:=by
 obtain⟨B,x,h1,h2,h3,h4,h5,h6⟩:=h;exact⟨B,x,h1,h2,h3,h4.mono hk,h5,h6⟩
theorem zHG (w:World) (s:Sp) (b n:Nat) (lo hi:Int) (h:SpAt w s 250 lo hi) (hb:s.bits=b) (b9:b<=120) (hn:n<=1000000) :
  Calls Tryz.prog 99 #[.agg #[.bool s.ln,.slice s.la s.lN s.lc,.bool s.hn,.slice s.ha s.hN s.hc,.int .i64 s.bits],.int .i64 n] w λ r w' =>
   r=.returned (.bool (zL4 lo hi (Q b) n))/\Below w.heap.size w w':=by
 rw[hb]
 go_enter Tryz.func99,Tryz.ntmps99
 go_wp2
 go_cut [5] (λ p wx=>VarAt wx p (w.heap.size+1) 400 ((hi-lo)*Q b)/\Below (w.heap.size+1) (w.alloc (.cells #[.bool s.ln,.slice s.la s.lN s.lc,.bool s.hn,.slice s.ha s.hN s.hc,.int .i64 b] 31)) wx)
 case first =>
  go_region_held3 (λ w'=>w'.cell? ⟨w.heap.size,0,none⟩=some (.bool s.ln)/\w'.cell? ⟨w.heap.size,1,none⟩=some (.slice s.la s.lN s.lc)/\w'.cell? ⟨w.heap.size,2,none⟩=some (.bool s.hn)/\w'.cell? ⟨w.heap.size,3,none⟩=some (.slice s.ha s.hN s.hc)/\w'.cell? ⟨w.heap.size,4,none⟩=some (.int .i64 b)) (go_keep)
   (first
    | (go_at_call 35;refine (zBP _ _ _ _ _ _ _ _ 250 250 hi lo _ (h.hi.bw (by first|exact (bl1 _ _).drew|exact (bl2 _ _ _).drew)) (h.lo.bw (by first|exact (bl1 _ _).drew|exact (bl2 _ _ _).drew)) (by omega) (by omega)).mono ?_;rintro r w1 ⟨m7,a1,n1,c1,rfl,o8,b9⟩;obtain⟨hs1,C7,D3⟩:=jC _ (Yy _) b9;(try simp at hs1);have K8:w.heap.size<w1.heap.size:=YB (by first|exact Nat.lt_succ_self _|exact Nat.lt_succ_of_lt (Nat.lt_succ_self _)) hs1;have Kl:=Nat.le_of_lt K8;have di:w.heap.size+1<=w1.heap.size:=K8;have iA:=YC K8;have Db:=YD K8)
    | (go_at_call 116;refine (zB0 _ _ _ _ b 251 (hi-lo) _ (o8.bw (by first|exact Below.refl _ _|exact bl1 _ _)) (by omega) (by omega)).mono ?_;rintro r w2 ⟨j7,a2,n2,c2,rfl,A5,j8⟩;obtain⟨X7,D6,E6⟩:=jC _ (Yy _) j8;have M8:w1.heap.size<=w2.heap.size:=Nat.le_trans (by simp) X7;have fB:=YB K8 M8;have aT:=YC fB;have pj:w.heap.size+1<=w2.heap.size:=fB;have Dc:=YD fB;(try simp at X7)))
  ·go_wp2_with fail
   go_meet;refine⟨(varA A5 _ _ pj).mono (by omega),?_⟩
   exact (((zB (Below.refl _ _).drew b9).mono (by simp)).trans (j8.mono di)).alloc pj _
  ·go_wp2_with fail
   go_meet;have h0:w2.cell? ⟨w1.heap.size,0,none⟩=some (.bool false):=by simp[D6]
   have h1:w2.cell? ⟨w1.heap.size,1,none⟩=some (.slice none 0 0):=by simp[D6]
   refine⟨(varB A5 _ _ h0 h1 di).mono (by omega),?_⟩
   exact (((((zB (Below.refl _ _).drew b9).mono (by simp)).alloc di _).trans (j8.mono (by simp;omega))).setCell di _).setCell di _
  ·go_wp2_with fail
   go_meet;have h0:w2.cell? ⟨w.heap.size+1,0,none⟩=some (.bool false):=by simp[D6,C7,hs1,go_sem]
   have h1:w2.cell? ⟨w.heap.size+1,1,none⟩=some (.slice none 0 0):=by simp[D6,C7,hs1,go_sem]
   refine⟨(varB A5 _ _ h0 h1 (Yy _)).mono (by omega),?_⟩
   exact ((((((Below.refl _ _).alloc (by simp) _).drew.trans (b9.mono (by simp))).trans (j8.mono di)).setCell (p:=⟨w.heap.size+1,0,none⟩) (Yy _) _).setCell (p:=⟨w.heap.size+1,1,none⟩) (Yy _) _)
 case rest =>
 obtain⟨⟨B5,x5,rfl,Fa,Fb,O0,M6,iq⟩,R7⟩:=hcut
 rename World=>wA
 have FJ:=R7.size;simp at FJ;have PD:wA.cell? ⟨w.heap.size,0,none⟩=some (.bool s.ln):=(R7.cell (p:=⟨w.heap.size,0,none⟩) (Nat.lt_succ_self _)).trans (by simp)
 have PE:wA.cell? ⟨w.heap.size,1,none⟩=some (.slice s.la s.lN s.lc):=(R7.cell (p:=⟨w.heap.size,1,none⟩) (Nat.lt_succ_self _)).trans (by simp)
 have PF:wA.cell? ⟨w.heap.size,2,none⟩=some (.bool s.hn):=(R7.cell (p:=⟨w.heap.size,2,none⟩) (Nat.lt_succ_self _)).trans (by simp)
 have PG:wA.cell? ⟨w.heap.size,3,none⟩=some (.slice s.ha s.hN s.hc):=(R7.cell (p:=⟨w.heap.size,3,none⟩) (Nat.lt_succ_self _)).trans (by simp)
 have PH:wA.cell? ⟨w.heap.size,4,none⟩=some (.int .i64 b):=(R7.cell (p:=⟨w.heap.size,4,none⟩) (Nat.lt_succ_self _)).trans (by simp)
 have Al:w.heap.size<wA.heap.size:=FJ;have DA:w.heap.size+1<=wA.heap.size:=FJ;have KY:w.heap.size<=wA.heap.size:=Nat.le_of_lt FJ;have hdr:wA.drew.heap.size=wA.heap.size:=rfl;have hwn:wA.heap.size≠w.heap.size:=by omega
 have hwn':w.heap.size≠wA.heap.size:=by omega
 go_wp2
 go_cut [6] (λ p wx=>VarAt wx p (w.heap.size+1) 20 (Q b)/\Below wA.heap.size wA wx)
 case first =>
  go_region_held3 (λ w'=>w'.cell? ⟨w.heap.size,4,none⟩=some (.int .i64 b)) (go_keep)
   (first
    | (go_at_call 33;refine (zD 1 _ (by decide) (by decide)).mono ?_;rintro r w1 ⟨m7,a1,n1,c1,rfl,o8,b9⟩;obtain⟨hs1,C7,D3⟩:=jC _ (Yy _) b9;(try simp at hs1);have ph:wA.heap.size<=w1.heap.size:=Nat.le_trans (by simp) hs1;have K8:w.heap.size<w1.heap.size:=YB Al ph;have Kl:=Nat.le_of_lt K8;have di:w.heap.size+1<=w1.heap.size:=K8;have iA:=YC K8;have Db:=YD K8)
    | (go_at_call 116;refine (zB0 _ _ _ _ b 4 1 _ (o8.bw (by first|exact Below.refl _ _|exact bl1 _ _)) (by omega) (by omega)).mono ?_;rintro r w2 ⟨j7,a2,n2,c2,rfl,A5,j8⟩;obtain⟨X7,D6,E6⟩:=jC _ (Yy _) j8;have M8:w1.heap.size<=w2.heap.size:=Nat.le_trans (by simp) X7;have fB:=YB K8 M8;have aT:=YC fB;have pj:w.heap.size+1<=w2.heap.size:=fB;have Dc:=YD fB;(try simp at X7)))
  all_goals rw[Int.one_mul] at A5
  ·go_wp2_with fail
   go_meet;refine⟨(varA A5 _ _ pj).mono (by omega),?_⟩
   exact zL (zB (zB (Below.refl _ _).drew b9) j8) _
  ·go_wp2_with fail
   go_meet;have h0:w2.cell? ⟨w1.heap.size,0,none⟩=some (.bool false):=by simp[D6]
   have h1:w2.cell? ⟨w1.heap.size,1,none⟩=some (.slice none 0 0):=by simp[D6]
   refine⟨(varB A5 _ _ h0 h1 di).mono (by omega),?_⟩
   exact ((zB (zL (zB (Below.refl _ _).drew b9) _) j8).setCell (p:=⟨w1.heap.size,0,none⟩) ph _).setCell (p:=⟨w1.heap.size,1,none⟩) ph _
  ·go_wp2_with fail
   go_meet;have h0:w2.cell? ⟨wA.heap.size,0,none⟩=some (.bool false):=by simp[D6,C7,hs1,go_sem]
   have h1:w2.cell? ⟨wA.heap.size,1,none⟩=some (.slice none 0 0):=by simp[D6,C7,hs1,go_sem]
   refine⟨(varB A5 _ _ h0 h1 DA).mono (by omega),?_⟩
   exact ((zB (zB (bl1 _ _).drew b9) j8).setCell (p:=⟨wA.heap.size,0,none⟩) (Yy _) _).setCell (p:=⟨wA.heap.size,1,none⟩) (Yy _) _
 case rest =>
 obtain⟨⟨B6,x6,rfl,c60,c61,cX,cW,Kr⟩,ba⟩:=hcut;have Rv:=ba.size;have d50:wc.cell? ⟨B5,0,none⟩=some (.bool x5.neg):=(ba.cell (p:=⟨B5,0,none⟩) iq).trans Fa;have d51:wc.cell? ⟨B5,1,none⟩=some (.slice x5.a x5.n x5.cap):=(ba.cell (p:=⟨B5,1,none⟩) iq).trans Fb;have KX:w.heap.size+1<=wc.heap.size:=Nat.le_trans DA Rv;have e50:wc.cell? ⟨w.heap.size,0,none⟩=some (.bool s.ln):=(ba.cell (p:=⟨w.heap.size,0,none⟩) Al).trans PD;have e51:wc.cell? ⟨w.heap.size,1,none⟩=some (.slice s.la s.lN s.lc):=(ba.cell (p:=⟨w.heap.size,1,none⟩) Al).trans PE;have e52:wc.cell? ⟨w.heap.size,2,none⟩=some (.bool s.hn):=(ba.cell (p:=⟨w.heap.size,2,none⟩) Al).trans PF;have e53:wc.cell? ⟨w.heap.size,3,none⟩=some (.slice s.ha s.hN s.hc):=(ba.cell (p:=⟨w.heap.size,3,none⟩) Al).trans PG;have e54:wc.cell? ⟨w.heap.size,4,none⟩=some (.int .i64 b):=(ba.cell (p:=⟨w.heap.size,4,none⟩) Al).trans PH
 have hB:Below w.heap.size w wc:=((bl1 _ _).trans (R7.mono (by omega))).trans (ba.mono KY)
 have GK:=zC (O0.bw ba);have Vb:=zC cX;have HS:=zC (h.bw hB);have hl5:B5+1<=wc.heap.size:=YB iq Rv;have hl6:B6+1<=wc.heap.size:=Kr;have HE:=zC (show (decide (zM ((hi-lo)*Q b) (n*(Q b+zGY hi (-lo)))<=0))=zL4 lo hi (Q b) n from zLR _ _)
 clear O0 cX Fa Fb PD PE PF PG PH h R7;go_wp2
 go_region_held3 (λ w'=>nK w' B5 x5 (nK w' B6 x6 (w'.cell? ⟨w.heap.size,0,none⟩=some (.bool s.ln)/\w'.cell? ⟨w.heap.size,1,none⟩=some (.slice s.la s.lN s.lc)/\w'.cell? ⟨w.heap.size,2,none⟩=some (.bool s.hn)/\w'.cell? ⟨w.heap.size,3,none⟩=some (.slice s.ha s.hN s.hc)/\w'.cell? ⟨w.heap.size,4,none⟩=some (.int .i64 b)))) ((dsimp only[cK,cK0,nK,nK0,rK,rK0];go_keep))
  (first
   | (go_at_call 33;refine (zD (n:Int) _ (by omega) (by omega)).mono ?_;rintro r w1 ⟨m7,a1,n1,c1,rfl,o8,b9⟩;obtain⟨hs1,C7,D3⟩:=jC wc.heap.size (by exact Yy _) b9)
   | (go_at_call 119;refine (zEJ _ ⟨s.ln,s.la,s.lN,s.lc,s.hn,s.ha,s.hN,s.hc,b⟩ 250 lo hi ⟨((zA HS).bw (zB (Below.refl _ _).drew b9)).lo,((zA HS).bw (zB (Below.refl _ _).drew b9)).hi⟩ (by omega)).mono ?_;rintro r w2 ⟨j7,a2,n2,c2,rfl,A5,j8⟩;obtain⟨X7,D6,E6⟩:=jC wc.heap.size hs1 j8)
   | (go_at_call 32;refine (zA3 _ _ _ _ _ _ _ _ 20 251 _ _ _ ((zA Vb).bw (zB (zB (Below.refl _ _).drew b9) j8)) A5 (by omega) (by omega)).mono ?_;rintro r w3 ⟨B9,a3,n3,c3,rfl,E7,m8⟩;obtain⟨bg,O7,M7⟩:=jC wc.heap.size X7 m8)
   | (go_at_call 83;refine (zV _ _ _ _ _ _ _ _ 4 252 _ _ _ (o8.bw (zB j8 m8)) E7 (by omega) (by omega)).mono ?_;rintro r w4 ⟨E4,a4,n4,c4,rfl,H8,p9⟩;obtain⟨qQ,fS,aH⟩:=jC wc.heap.size bg p9)
   | (go_at_call 17;refine (jP _ _ _ _ _ _ _ _ 400 256 _ _ _ ((zA GK).bw (zB (zB (zB (zB (Below.refl _ _).drew b9) j8) m8) p9)) H8).mono ?_;rintro r w5 ⟨rfl,D8⟩;obtain⟨Rt,RN,CK⟩:=jC wc.heap.size qQ D8))
 go_wp2
 go_ret
 exact⟨by rw[<- zA HE];rfl,zB (zB (zB (zB (zB hB.drew b9) j8) m8) p9) D8⟩
def pr4 {α:Type} (x y z t:α) (j:Nat):α:=if j=0 then x else if j=1 then y else if j=2 then z else t
theorem zPR (w:World) (B:Nat) (hB:w.heap.size=B) (x y z t:Nm) (k:Nat) (zx zy zz zt:Int) (T:TypeId) (hx:IntAt w x.neg x.a x.n x.cap k zx) (hy:IntAt w y.neg y.a y.n y.cap k zy) (hz:IntAt w z.neg z.a z.n z.cap k zz) (ht:IntAt w t.neg t.a t.n t.cap k zt) :
  Nums (w.alloc (.cells #[.bool x.neg,.slice x.a x.n x.cap,.bool y.neg,.slice y.a y.n y.cap,.bool z.neg,.slice z.a z.n z.cap,.bool t.neg,.slice t.a t.n t.cap] T)) B 4 k (pr4 x y z t) (pr4 zx zy zz zt):=by
 subst hB;refine⟨by simp,?_,?_,?_⟩
 all_goals
  intro j hj
  match j,hj with
  | 0,_=>first|(simp[pr4];done)|exact hx.bw (bl1 _ _)
  | 1,_=>first|(simp[pr4];done)|exact hy.bw (bl1 _ _)
  | 2,_=>first|(simp[pr4];done)|exact hz.bw (bl1 _ _)
  | 3,_=>first|(simp[pr4];done)|exact ht.bw (bl1 _ _)
theorem most4 (lo hi:Int) (h:lo<=hi):kA (pr4 lo hi (-lo) (-hi)) 3=zGY hi (-lo):=by
 have e1:kA (pr4 lo hi (-lo) (-hi)) 1=hi:=by
  show (if lo<hi then hi else lo)=hi
  split<;>omega
 have e2:kA (pr4 lo hi (-lo) (-hi)) 2=zGY hi (-lo):=by
  show (if kA (pr4 lo hi (-lo) (-hi)) 1 < -lo then -lo else kA (pr4 lo hi (-lo) (-hi)) 1)=_
  rw[e1];rfl
 show (if kA (pr4 lo hi (-lo) (-hi)) 2 < -hi then -hi else kA (pr4 lo hi (-lo) (-hi)) 2)=_
 rw[e2,if_neg];unfold zGY;split<;>omega
theorem zKE (w:World) (s:Sp) (b n:Nat) (lo hi:Int) (h:SpAt w s 250 lo hi) (hb:s.bits=b) (b9:b<=120) (hn:n<=1000000) (hle:lo<=hi) :
  Calls Tryz.prog 44 #[.agg #[.bool s.ln,.slice s.la s.lN s.lc,.bool s.hn,.slice s.ha s.hN s.hc,.int .i64 s.bits],.int .i64 n] w λ r w' =>
   r=.returned (.bool (zL4 lo hi (Q b) n))/\Below w.heap.size w w':=by
 rw[hb];have HM:=zC (most4 lo hi hle)
 go_enter Tryz.func44,Tryz.ntmps44
 go_wp2;obtain⟨W,hW⟩:∃ W,W=w.alloc (.cells #[.bool s.ln,.slice s.la s.lN s.lc,.bool s.hn,.slice s.ha s.hN s.hc,.int .i64 b] 31):=⟨_,rfl⟩;have k0:W.cell? ⟨w.heap.size,0,none⟩=some (.bool s.ln):=by rw[hW];simp
 have k1:W.cell? ⟨w.heap.size,1,none⟩=some (.slice s.la s.lN s.lc):=by rw[hW];simp
 have k2:W.cell? ⟨w.heap.size,2,none⟩=some (.bool s.hn):=by rw[hW];simp
 have k3:W.cell? ⟨w.heap.size,3,none⟩=some (.slice s.ha s.hN s.hc):=by rw[hW];simp
 have k4:W.cell? ⟨w.heap.size,4,none⟩=some (.int .i64 b):=by rw[hW];simp
 have D9:w.heap.size<W.heap.size:=by rw[hW];simp
 have hlt1:w.heap.size+1<=W.heap.size:=D9;have j6:Below w.heap.size w W:=by rw[hW];exact bl1 _ _
 have hdr:W.drew.heap.size=W.heap.size:=rfl;have HS:=zC (h.bw j6);have hne:W.heap.size≠w.heap.size:=by omega
 have Dd:w.heap.size≠W.heap.size:=by omega
 rw[<- hW];clear hW h
 have keepS:∀ w',Below W.heap.size W w'->(w'.cell? ⟨w.heap.size,0,none⟩=some (.bool s.ln)/\w'.cell? ⟨w.heap.size,1,none⟩=some (.slice s.la s.lN s.lc)/\w'.cell? ⟨w.heap.size,2,none⟩=some (.bool s.hn)/\w'.cell? ⟨w.heap.size,3,none⟩=some (.slice s.ha s.hN s.hc)):=λ w' hB =>
  ⟨(hB.cell (p:=⟨w.heap.size,0,none⟩) D9).trans k0,(hB.cell (p:=⟨w.heap.size,1,none⟩) D9).trans k1,(hB.cell (p:=⟨w.heap.size,2,none⟩) D9).trans k2,(hB.cell (p:=⟨w.heap.size,3,none⟩) D9).trans k3⟩
 have HK:=zC keepS;clear keepS
 go_cut [5] (λ p wx=>VarAt wx p W.heap.size 260 (zGY hi (-lo))/\Below W.heap.size W wx)
 case first =>
  go_region_held3 (λ w'=>w'.cell? ⟨w.heap.size,0,none⟩=some (.bool s.ln)/\w'.cell? ⟨w.heap.size,1,none⟩=some (.slice s.la s.lN s.lc)/\w'.cell? ⟨w.heap.size,2,none⟩=some (.bool s.hn)/\w'.cell? ⟨w.heap.size,3,none⟩=some (.slice s.ha s.hN s.hc)) (exact zA HK _ (by first|exact (Below.refl _ _).drew|exact (bl1 _ _).drew|exact A7|exact zL A7 _|exact o9|exact zL o9 _|exact zL (zL o9 _) _|exact A9|exact zL A9 _|exact (A9.setCell (by first|exact Yy _|exact A7.size|exact o9.size|exact Nat.le_succ_of_le o9.size) _).setCell (by first|exact Yy _|exact A7.size|exact o9.size|exact Nat.le_succ_of_le o9.size) _))
   (first
    | (go_at_call_of 87 s.la;refine (zA8 _ _ _ _ 250 lo _ ((zA HS).lo.bw (by first|exact (Below.refl _ _).drew|exact (bl1 _ _).drew)) (by omega)).mono ?_;rintro r w1 ⟨m7,a1,n1,c1,rfl,o8,b9⟩;obtain⟨hs1,C7,D3⟩:=jC _ (Yy _) b9;have A7:Below W.heap.size W w1:=(by first|exact zB (Below.refl _ _).drew b9|exact zB (bl1 _ _).drew b9);have K8:=A7.size;have iz:=YB D9 K8;have hm1s:w.heap.size+1<=w1.heap.size:=iz;have Ks:=Nat.le_of_lt iz;have Rj:=Nat.le_succ_of_le Ks;have iA:=YC iz;have Db:=YD iz;(try simp at hs1);(try have dN:W.heap.size<w1.heap.size:=hs1);(try have Dj:W.heap.size+1<=w1.heap.size:=hs1))
    | (go_at_call_of 87 s.ha;refine (zA8 _ _ _ _ 250 hi _ ((zA HS).hi.bw (by first|exact A7|exact zL A7 _)) (by omega)).mono ?_;rintro r w2 ⟨j7,a2,n2,c2,rfl,A5,j8⟩;obtain⟨X7,D6,E6⟩:=jC _ (Yy _) j8;have cV:Below w1.heap.size w1 w2:=(by first|exact j8|exact zB (bl1 _ _) j8);have o9:=zB A7 cV;have M8:=cV.size;have rH:=o9.size;(try have P6:=YB hs1 M8);have J5:=YB iz M8;have hm2s:w.heap.size+1<=w2.heap.size:=J5;have Kt:=Nat.le_of_lt J5;have Rk:=Nat.le_succ_of_le Kt;have aT:=YC J5;have Dc:=YD J5;(try simp at X7);(try have Di:w1.heap.size<w2.heap.size:=X7);(try have Rp:w1.heap.size+1<=w2.heap.size:=X7);(try have Dl:W.heap.size+1<=w2.heap.size:=P6))
    | (go_at_call_of 86 (Addr.mk w2.heap.size 0 none);refine (zFC w2.heap.size 3 _ 250 (pr4 ⟨s.ln,s.la,s.lN,s.lc⟩ ⟨s.hn,s.ha,s.hN,s.hc⟩ ⟨m7,a1,n1,c1⟩ ⟨j7,a2,n2,c2⟩) (pr4 lo hi (-lo) (-hi)) _ (by first|exact zPR w2 w2.heap.size rfl ⟨s.ln,s.la,s.lN,s.lc⟩ ⟨s.hn,s.ha,s.hN,s.hc⟩ ⟨m7,a1,n1,c1⟩ ⟨j7,a2,n2,c2⟩ 250 _ _ _ _ _ ((zA HS).lo.bw o9) ((zA HS).hi.bw o9) (o8.bw cV) A5|exact (zPR w2 w2.heap.size rfl ⟨s.ln,s.la,s.lN,s.lc⟩ ⟨s.hn,s.ha,s.hN,s.hc⟩ ⟨m7,a1,n1,c1⟩ ⟨j7,a2,n2,c2⟩ 250 _ _ _ _ _ ((zA HS).lo.bw o9) ((zA HS).hi.bw o9) (o8.bw cV) A5).bw (bl1 _ _)) (by omega)).mono ?_;rintro r w3 ⟨B9,a3,n3,c3,rfl,E7,m8⟩;obtain⟨bg,O7,M7⟩:=jC _ (Yy _) m8;have jw:Below w2.heap.size w2 w3:=(by first|exact zB (bl1 _ _) m8|exact zB (bl2 _ _ _) m8);have A9:=zB o9 jw;have vJ:=jw.size;have gD:=YB J5 vJ;have Kv:w.heap.size+1<=w3.heap.size:=gD;have wM:=Nat.le_of_lt gD;have CZ:=Nat.le_succ_of_le wM;have hn3:=YC gD;have Ky:=YD gD;(try simp at bg))
    | (go_at_call 86;refine (zFC (w2.heap.size+1) 3 _ 250 (pr4 ⟨s.ln,s.la,s.lN,s.lc⟩ ⟨s.hn,s.ha,s.hN,s.hc⟩ ⟨m7,a1,n1,c1⟩ ⟨j7,a2,n2,c2⟩) (pr4 lo hi (-lo) (-hi)) _ (by exact zPR (w2.alloc (.cells #[.bool false,.slice none 0 0] 29)) (w2.heap.size+1) (Go.Deep.nblk_alloc _ _) ⟨s.ln,s.la,s.lN,s.lc⟩ ⟨s.hn,s.ha,s.hN,s.hc⟩ ⟨m7,a1,n1,c1⟩ ⟨j7,a2,n2,c2⟩ 250 _ _ _ _ _ ((zA HS).lo.bw (zL o9 _)) ((zA HS).hi.bw (zL o9 _)) (o8.bw (zL cV _)) (A5.bw (bl1 _ _))) (by omega)).mono ?_;rintro r w3 ⟨B9,a3,n3,c3,rfl,E7,m8⟩;obtain⟨bg,O7,M7⟩:=jC _ (Yy _) m8;have jw:Below w2.heap.size w2 w3:=(by first|exact zB (bl1 _ _) m8|exact zB (bl2 _ _ _) m8);have A9:=zB o9 jw;have vJ:=jw.size;have gD:=YB J5 vJ;have Kv:w.heap.size+1<=w3.heap.size:=gD;have wM:=Nat.le_of_lt gD;have CZ:=Nat.le_succ_of_le wM;have hn3:=YC gD;have Ky:=YD gD;(try simp at bg)))
  all_goals rw[zA HM] at E7
  ·go_wp2_with fail
   go_meet;exact⟨(varA E7 _ _ A9.size).mono (by omega),zL A9 _⟩
  ·go_wp2_with fail
   go_meet;have h0:w3.cell? ⟨w2.heap.size+1,0,none⟩=some (.bool false):=by simp[O7,go_sem]
   have h1:w3.cell? ⟨w2.heap.size+1,1,none⟩=some (.slice none 0 0):=by simp[O7,go_sem]
   exact⟨(varB E7 _ _ h0 h1 (Nat.le_succ_of_le rH)).mono (by omega),(A9.setCell (p:=⟨w2.heap.size+1,0,none⟩) (Nat.le_succ_of_le rH) _).setCell (p:=⟨w2.heap.size+1,1,none⟩) (Nat.le_succ_of_le rH) _⟩
  ·go_wp2_with fail
   go_meet;have h0:w3.cell? ⟨w2.heap.size,0,none⟩=some (.bool false):=by simp[O7,go_sem]
   have h1:w3.cell? ⟨w2.heap.size,1,none⟩=some (.slice none 0 0):=by simp[O7,go_sem]
   exact⟨(varB E7 _ _ h0 h1 rH).mono (by omega),(A9.setCell (p:=⟨w2.heap.size,0,none⟩) rH _).setCell (p:=⟨w2.heap.size,1,none⟩) rH _⟩
  ·go_wp2_with fail
   go_meet;have h0:w3.cell? ⟨w1.heap.size,0,none⟩=some (.bool false):=by simp[O7,D6,Di,M8,go_sem]
   have h1:w3.cell? ⟨w1.heap.size,1,none⟩=some (.slice none 0 0):=by simp[O7,D6,Di,M8,go_sem]
   exact⟨(varB E7 _ _ h0 h1 K8).mono (by omega),(A9.setCell (p:=⟨w1.heap.size,0,none⟩) K8 _).setCell (p:=⟨w1.heap.size,1,none⟩) K8 _⟩
  ·go_wp2_with fail
   go_meet;have h0:w3.cell? ⟨W.heap.size,0,none⟩=some (.bool false):=by simp[O7,D6,C7,dN,Dj,P6,Dl,rH,go_sem]
   have h1:w3.cell? ⟨W.heap.size,1,none⟩=some (.slice none 0 0):=by simp[O7,D6,C7,dN,Dj,P6,Dl,rH,go_sem]
   exact⟨(varB E7 _ _ h0 h1 (Yy _)).mono (by omega),(A9.setCell (p:=⟨W.heap.size,0,none⟩) (Yy _) _).setCell (p:=⟨W.heap.size,1,none⟩) (Yy _) _⟩
 case rest =>
 obtain⟨⟨B5,x5,rfl,Fa,Fb,O0,M6,iq⟩,R7⟩:=hcut;have GK:=zC O0;have yx:=zC ((zA HS).bw R7);have iw:=YB D9 R7.size;have e4:wc.cell? ⟨w.heap.size,4,none⟩=some (.int .i64 b):=(R7.cell (p:=⟨w.heap.size,4,none⟩) D9).trans k4;obtain⟨e0,e1,e2,e3⟩:=zA HK wc R7
 have gP:=zC (show ∀ w',Below wc.heap.size wc w'->(w'.cell? ⟨w.heap.size,0,none⟩=some (.bool s.ln)/\w'.cell? ⟨w.heap.size,1,none⟩=some (.slice s.la s.lN s.lc)/\w'.cell? ⟨w.heap.size,2,none⟩=some (.bool s.hn)/\w'.cell? ⟨w.heap.size,3,none⟩=some (.slice s.ha s.hN s.hc)/\w'.cell? ⟨w.heap.size,4,none⟩=some (.int .i64 b)/\nK0 w' B5 x5) from λ w' hB =>
  ⟨(hB.cell (p:=⟨w.heap.size,0,none⟩) iw).trans e0,(hB.cell (p:=⟨w.heap.size,1,none⟩) iw).trans e1,(hB.cell (p:=⟨w.heap.size,2,none⟩) iw).trans e2,(hB.cell (p:=⟨w.heap.size,3,none⟩) iw).trans e3,(hB.cell (p:=⟨w.heap.size,4,none⟩) iw).trans e4,(hB.cell (p:=⟨B5,0,none⟩) iq).trans Fa,(hB.cell (p:=⟨B5,1,none⟩) iq).trans Fb⟩)
 have HE:=zC (show (decide (zM ((hi-lo)*Q b) (n*(Q b+zGY hi (-lo)))<=0))=zL4 lo hi (Q b) n from zLR _ _)
 have cA:Below w.heap.size w wc:=j6.trans (R7.mono (Nat.le_of_lt D9));clear O0 k0 k1 k2 k3 k4 R7 HK HS HM;go_wp2
 go_region_held3 (λ w'=>w'.cell? ⟨w.heap.size,0,none⟩=some (.bool s.ln)/\w'.cell? ⟨w.heap.size,1,none⟩=some (.slice s.la s.lN s.lc)/\w'.cell? ⟨w.heap.size,2,none⟩=some (.bool s.hn)/\w'.cell? ⟨w.heap.size,3,none⟩=some (.slice s.ha s.hN s.hc)/\w'.cell? ⟨w.heap.size,4,none⟩=some (.int .i64 b)/\nK0 w' B5 x5) (exact zA gP _ (by first|exact (Below.refl _ _).drew|exact A7|exact o9|exact A9|exact G3|exact sO|exact cW|exact jx|exact iN))
  (first
   | (go_at_call 35;refine (zBP _ _ _ _ _ _ _ _ 250 250 hi lo _ ((zA yx).hi.bw (Below.refl _ _).drew) ((zA yx).lo.bw (Below.refl _ _).drew) (by omega) (by omega)).mono ?_;rintro r w1 ⟨m7,a1,n1,c1,rfl,o8,b9⟩;have A7:Below wc.heap.size wc w1:=zB (Below.refl _ _).drew b9)
   | (go_at_call_of 83 a1;refine (zV _ _ _ _ _ _ _ _ 251 20 _ _ _ (o8.bw j8) A5 (by omega) (by omega)).mono ?_;rintro r w3 ⟨B9,a3,n3,c3,rfl,E7,m8⟩;have A9:=zB o9 m8)
   | (go_at_call 33;refine (zD (n:Int) _ (by omega) (by omega)).mono ?_;rintro r w4 ⟨E4,a4,n4,c4,rfl,H8,p9⟩;have G3:=zB A9 p9)
   | (go_at_call 82;have Ye:=G3;refine (zDQ b _ (by omega)).mono ?_;rintro r w5 ⟨J3,a5,n5,c5,rfl,O0,D8⟩;have sO:=zB G3 D8)
   | (go_at_call 82;refine (zDQ b _ (by omega)).mono ?_;rintro r w2 ⟨j7,a2,n2,c2,rfl,A5,j8⟩;have A5:=A5.mono (show b/16+5<=20 by omega);have o9:=zB A7 j8)
   | (go_at_call 32;refine (zA3 _ _ _ _ _ _ _ _ (b/16+5) 260 _ _ _ O0 ((zA GK).bw sO) (by omega) (by omega)).mono ?_;rintro r w6 ⟨dJ,a6,n6,c6,rfl,cX,K7⟩;have cX:=cX.mono (show max (b/16+5) 260+1<=300 by omega);have cW:=zB sO K7)
   | (go_at_call 83;refine (zV _ _ _ _ _ _ _ _ 4 300 _ _ _ (H8.bw (zB D8 K7)) cX (by omega) (by omega)).mono ?_;rintro r w7 ⟨iF,a7,n7,c7,rfl,lK,Q7⟩;have jx:=zB cW Q7)
   | (go_at_call 17;refine (jP _ _ _ _ _ _ _ _ 271 304 _ _ _ (E7.bw (zB (zB (zB p9 D8) K7) Q7)) lK).mono ?_;rintro r w8 ⟨rfl,T9⟩;have iN:=zB jx T9))
 go_wp2
 go_ret
 exact⟨by rw[<- zA HE];rfl,cA.trans (iN.mono (Nat.le_of_lt iw))⟩
def loZ (s:Sp) (d:Nat->Int):Int:=sgn s.ln (V d s.lN)
def hiZ (s:Sp) (e:Nat->Int):Int:=sgn s.hn (V e s.hN)
theorem IntAt.put5 {w:World} {neg:Bool} {a:Option Addr} {n cap k:Nat} {z:Int} (h:IntAt w neg a n cap k z) {B:Nat} {x0 x2:Bool} {y0 y3:Option Addr} {y1 y2 y4 y5:Nat} {i:Int}
  (h0:w.cell? ⟨B,0,none⟩=some (.bool x0)) (h1:w.cell? ⟨B,1,none⟩=some (.slice y0 y1 y2)) (h2:w.cell? ⟨B,2,none⟩=some (.bool x2)) (h3:w.cell? ⟨B,3,none⟩=some (.slice y3 y4 y5)) (h4:w.cell? ⟨B,4,none⟩=some (.int .i64 i)) (u0 u1 u2 u3 u4:Value) :
  IntAt (((((w.setCell ⟨B,0,none⟩ u0).setCell ⟨B,1,none⟩ u1).setCell ⟨B,2,none⟩ u2).setCell ⟨B,3,none⟩ u3).setCell ⟨B,4,none⟩ u4) neg a n cap k z:=by
 have ne:∀ i j:Nat,i≠j->(⟨B,i,none⟩:Addr)≠⟨B,j,none⟩:=λ i j pc e=>pc (by injection e)
 have g1:(w.setCell ⟨B,0,none⟩ u0).cell? ⟨B,1,none⟩=some (.slice y0 y1 y2):=(World.cell?_setCell_other _ _ _ _ (ne 0 1 (by omega))).trans h1
 have g2:((w.setCell ⟨B,0,none⟩ u0).setCell ⟨B,1,none⟩ u1).cell? ⟨B,2,none⟩=some (.bool x2):=(World.cell?_setCell_other _ _ _ _ (ne 1 2 (by omega))).trans ((World.cell?_setCell_other _ _ _ _ (ne 0 2 (by omega))).trans h2)
 have g3:(((w.setCell ⟨B,0,none⟩ u0).setCell ⟨B,1,none⟩ u1).setCell ⟨B,2,none⟩ u2).cell? ⟨B,3,none⟩=some (.slice y3 y4 y5):=(World.cell?_setCell_other _ _ _ _ (ne 2 3 (by omega))).trans ((World.cell?_setCell_other _ _ _ _ (ne 1 3 (by omega))).trans ((World.cell?_setCell_other _ _ _ _ (ne 0 3 (by omega))).trans h3))
 have g4:((((w.setCell ⟨B,0,none⟩ u0).setCell ⟨B,1,none⟩ u1).setCell ⟨B,2,none⟩ u2).setCell ⟨B,3,none⟩ u3).cell? ⟨B,4,none⟩=some (.int .i64 i):=(World.cell?_setCell_other _ _ _ _ (ne 3 4 (by omega))).trans ((World.cell?_setCell_other _ _ _ _ (ne 2 4 (by omega))).trans ((World.cell?_setCell_other _ _ _ _ (ne 1 4 (by omega))).trans ((World.cell?_setCell_other _ _ _ _ (ne 0 4 (by omega))).trans h4)))
 exact ((((h.store h0 (λ _ e=>by cases e) u0).store g1 (λ _ e=>by cases e) u1).store g2 (λ _ e=>by cases e) u2).store g3 (λ _ e=>by cases e) u3).store g4 (λ _ e=>by cases e) u4
theorem SpAt.put5 {w:World} {s:Sp} {k:Nat} {lo hi:Int} (h:SpAt w s k lo hi) {B:Nat} {x0 x2:Bool} {y0 y3:Option Addr} {y1 y2 y4 y5:Nat} {i:Int}
  (h0:w.cell? ⟨B,0,none⟩=some (.bool x0)) (h1:w.cell? ⟨B,1,none⟩=some (.slice y0 y1 y2)) (h2:w.cell? ⟨B,2,none⟩=some (.bool x2)) (h3:w.cell? ⟨B,3,none⟩=some (.slice y3 y4 y5)) (h4:w.cell? ⟨B,4,none⟩=some (.int .i64 i)) (u0 u1 u2 u3 u4:Value) :
  SpAt (((((w.setCell ⟨B,0,none⟩ u0).setCell ⟨B,1,none⟩ u1).setCell ⟨B,2,none⟩ u2).setCell ⟨B,3,none⟩ u3).setCell ⟨B,4,none⟩ u4) s k lo hi:=⟨h.lo.put5 h0 h1 h2 h3 h4 u0 u1 u2 u3 u4,h.hi.put5 h0 h1 h2 h3 h4 u0 u1 u2 u3 u4⟩
theorem jV {B B':Nat} {a w:World} (h:Below B a w) (hB:B<=B') (u0 u1 u2 u3 u4:Value):Below B a (((((w.setCell ⟨B',0,none⟩ u0).setCell ⟨B',1,none⟩ u1).setCell ⟨B',2,none⟩ u2).setCell ⟨B',3,none⟩ u3).setCell ⟨B',4,none⟩ u4) :=
 ((((h.setCell (p:=⟨B',0,none⟩) hB u0).setCell (p:=⟨B',1,none⟩) hB u1).setCell (p:=⟨B',2,none⟩) hB u2).setCell (p:=⟨B',3,none⟩) hB u3).setCell (p:=⟨B',4,none⟩) hB u4
theorem zJM (neg j7:Bool) (a c:Option Addr) (n m cap j9 k k2:Nat) (x y:Int) (w:World) (h1:IntAt w neg a n cap k x) (h2:IntAt w j7 c m j9 k2 y) (hk:k<=800000000)
  (cB:∀ w' m9 a' n' o7,IntAt w' m9 a' n' o7 k (-x)->IntAt w' j7 c m j9 k2 y->Calls Tryz.prog 126 #[.agg #[.bool m9,.slice a' n' o7],.agg #[.bool j7,.slice c m j9]] w' (zAQ w' k (-x/y))) :
  Calls Tryz.prog 127 #[.agg #[.bool neg,.slice a n cap],.agg #[.bool j7,.slice c m j9]] w (zAQ w k (-(-x/y))):=by
 have mS:w.heap.size≠w.heap.size+1+1:=by omega
 have mV:w.heap.size+1+1≠w.heap.size:=by omega
 have le2:w.heap.size<=w.heap.size+1+1:=by omega
 have HF:=zC cB;clear cB
 go_enter Tryz.func127,Tryz.ntmps127
 go_wp2
 go_region_held3 (λ w'=>w'.cell? ⟨w.heap.size,0,none⟩=some (.bool neg)/\w'.cell? ⟨w.heap.size,1,none⟩=some (.slice a n cap)/\w'.cell? ⟨w.heap.size+1,0,none⟩=some (.bool j7)/\w'.cell? ⟨w.heap.size+1,1,none⟩=some (.slice c m j9)) (go_keep)
  (first
   | (go_at_call 126;refine (zA HF _ _ _ _ _ o8 (h2.bw (zB (bl3 _ _ _ _).drew b9))).mono ?_;rintro r w2 ⟨mW,a2,n2,c2,rfl,A5,j8⟩;obtain⟨C9,D6,E6⟩:=jC (w.heap.size+1+1+1) A8 j8)
   | (go_at_call 87;have hq:=j8;refine (zA8 _ _ _ _ (k+8) _ _ A5 (by omega)).mono ?_;rintro r w3 ⟨B9,a3,n3,c3,rfl,E7,m8⟩;obtain⟨I1,O7,M7⟩:=jC (w.heap.size+1+1+1) C9 m8)
   | (go_at_call 87;refine (zA8 _ _ _ _ k x _ (h1.bw (bl3 _ _ _ _).drew) (by omega)).mono ?_;rintro r w1 ⟨m7,a1,n1,c1,rfl,o8,b9⟩;obtain⟨A8,C7,D3⟩:=jC (w.heap.size+1+1+1) (by simp) b9))
 go_wp2;have h0:w3.cell? ⟨w.heap.size+1+1,0,none⟩=some (.bool false):=by simp[O7,D6,C7,go_sem]
 have J0:w3.cell? ⟨w.heap.size+1+1,1,none⟩=some (.slice none 0 0):=by simp[O7,D6,C7,go_sem]
 refine bodyPost_ret (v:=.agg #[.bool B9,.slice a3 n3 c3]) (by simp[results,Tryz.results127,go_sem,h0,J0]) rfl ⟨B9,a3,n3,c3,rfl,E7.put2 h0 J0 _ _,?_⟩
 exact ((zB (zB (zB (bl3 _ _ _ _).drew b9) j8) m8).setCell (p:=⟨w.heap.size+1+1,0,none⟩) le2 _).setCell (p:=⟨w.heap.size+1+1,1,none⟩) le2 _
theorem zO1 (neg j7:Bool) (a c:Option Addr) (n m cap j9 k k2:Nat) (x y:Int) (w:World) (h1:IntAt w neg a n cap k x) (h2:IntAt w j7 c m j9 k2 y) (hk:k<=800000000) (hy:0<y) (rL:y<281474976710656) :
  Calls Tryz.prog 127 #[.agg #[.bool neg,.slice a n cap],.agg #[.bool j7,.slice c m j9]] w (zAQ w k (-(-x/y))) :=
 zJM neg j7 a c n m cap j9 k k2 x y w h1 h2 hk (λ w' m9 a' n' o7 g1 g2=>zGA m9 j7 a' c n' m o7 j9 k k2 (-x) y w' g1 g2 (by omega) hy rL)
def zH (w:World) (b:Int) (k:Nat) (lo hi:Int) (r:Ending) (w':World):Prop :=
 ∃ s:Sp,r=.returned (.agg s.q)/\s.bits=b/\SpAt w' s k lo hi/\Below w.heap.size w w'
theorem zK7 (neg j7:Bool) (a c:Option Addr) (n m cap j9 k k2 b:Nat) (x y:Int) (w:World) (h1:IntAt w neg a n cap k x) (h2:IntAt w j7 c m j9 k2 y) (hk:k<=700000000) (hb:b<=1000) (hy:0<y) (rL:y<281474976710656) :
  Calls Tryz.prog 88 #[.agg #[.bool neg,.slice a n cap],.agg #[.bool j7,.slice c m j9],.int .i64 b] w (zH w b (k+80) (x*Q b/y) (-(-(x*Q b)/y))):=by
 go_enter Tryz.func88,Tryz.ntmps88
 go_wp2_with (go_at_call 116;refine (zB0 _ _ _ _ b k x _ (h1.bw (bl3 _ _ _ _)) (by omega) (by omega)).mono ?_;rintro r w1 ⟨m7,a1,n1,c1,rfl,o8,b9⟩;obtain⟨A8,C7,D3⟩:=jC (w.heap.size+1+1+1) (by simp) b9;have G1:=YB (Nat.lt_succ_self (w.heap.size+1+1)) A8;have K4:=Nat.lt_of_succ_lt G1)
 have o8:=o8.mono (show b/16+k+1<=k+70 by omega)
 have cA:Below w.heap.size w w1:=zB (bl3 _ _ _ _) b9;have k0:w1.cell? ⟨w.heap.size+1,0,none⟩=some (.bool j7):=by simp[C7,go_sem]
 have k1:w1.cell? ⟨w.heap.size+1,1,none⟩=some (.slice c m j9):=by simp[C7,go_sem]
 have r0:w1.cell? ⟨w.heap.size+1+1,0,none⟩=some (.bool false):=by simp[C7,go_sem]
 have r1:w1.cell? ⟨w.heap.size+1+1,1,none⟩=some (.slice none 0 0):=by simp[C7,go_sem]
 have r2:w1.cell? ⟨w.heap.size+1+1,2,none⟩=some (.bool false):=by simp[C7,go_sem]
 have r3:w1.cell? ⟨w.heap.size+1+1,3,none⟩=some (.slice none 0 0):=by simp[C7,go_sem]
 have r4:w1.cell? ⟨w.heap.size+1+1,4,none⟩=some (.int .i64 0):=by simp[C7,go_sem]
 have r5:∀ o,w1.frozen? ⟨w.heap.size+1+1,o,none⟩=false:=by intro o;simp[D3,go_sem]
 have H2:=zC (h2.bw cA);clear C7 D3;obtain⟨W,hW⟩:∃ W,W=w1.alloc (.cells #[.bool m7,.slice a1 n1 c1] 29):=⟨_,rfl⟩;have j6:Below w1.heap.size w1 W:=by rw[hW];exact bl1 _ _
 have u0:W.cell? ⟨w1.heap.size,0,none⟩=some (.bool m7):=by rw[hW];simp
 have u1:W.cell? ⟨w1.heap.size,1,none⟩=some (.slice a1 n1 c1):=by rw[hW];simp
 have hlW:w1.heap.size<W.heap.size:=by rw[hW];simp
 have HI:=zC (o8.bw j6);have oz:=zC ((zA H2).bw j6);have K8:w.heap.size+1<W.heap.size:=Nat.lt_trans K4 hlW;have M8:w.heap.size+1+1<W.heap.size:=Nat.lt_trans G1 hlW
 have HK:=zC (show ∀ w',Below W.heap.size W w'->(w'.cell? ⟨w1.heap.size,0,none⟩=some (.bool m7)/\w'.cell? ⟨w1.heap.size,1,none⟩=some (.slice a1 n1 c1)/\w'.cell? ⟨w.heap.size+1,0,none⟩=some (.bool j7)/\w'.cell? ⟨w.heap.size+1,1,none⟩=some (.slice c m j9)) from λ w' hB =>
  ⟨(hB.cell (p:=⟨w1.heap.size,0,none⟩) hlW).trans u0,(hB.cell (p:=⟨w1.heap.size,1,none⟩) hlW).trans u1,(hB.cell (p:=⟨w.heap.size+1,0,none⟩) K8).trans ((j6.cell (p:=⟨w.heap.size+1,0,none⟩) K4).trans k0),(hB.cell (p:=⟨w.heap.size+1,1,none⟩) K8).trans ((j6.cell (p:=⟨w.heap.size+1,1,none⟩) K4).trans k1)⟩)
 have HR:=zC (show ∀ w',Below W.heap.size W w'->(w'.cell? ⟨w.heap.size+1+1,0,none⟩=some (.bool false)/\w'.cell? ⟨w.heap.size+1+1,1,none⟩=some (.slice none 0 0)/\w'.cell? ⟨w.heap.size+1+1,2,none⟩=some (.bool false)/\w'.cell? ⟨w.heap.size+1+1,3,none⟩=some (.slice none 0 0)/\w'.cell? ⟨w.heap.size+1+1,4,none⟩=some (.int .i64 0)/\∀ o,w'.frozen? ⟨w.heap.size+1+1,o,none⟩=false) from λ w' hB =>
  ⟨(hB.cell (p:=⟨w.heap.size+1+1,0,none⟩) M8).trans ((j6.cell (p:=⟨w.heap.size+1+1,0,none⟩) G1).trans r0),(hB.cell (p:=⟨w.heap.size+1+1,1,none⟩) M8).trans ((j6.cell (p:=⟨w.heap.size+1+1,1,none⟩) G1).trans r1),(hB.cell (p:=⟨w.heap.size+1+1,2,none⟩) M8).trans ((j6.cell (p:=⟨w.heap.size+1+1,2,none⟩) G1).trans r2),(hB.cell (p:=⟨w.heap.size+1+1,3,none⟩) M8).trans ((j6.cell (p:=⟨w.heap.size+1+1,3,none⟩) G1).trans r3),(hB.cell (p:=⟨w.heap.size+1+1,4,none⟩) M8).trans ((j6.cell (p:=⟨w.heap.size+1+1,4,none⟩) G1).trans r4),λ o=>(hB.frozen (p:=⟨w.heap.size+1+1,o,none⟩) M8).trans ((j6.frozen (p:=⟨w.heap.size+1+1,o,none⟩) G1).trans (r5 o))⟩)
 have dX:Below w.heap.size w W:=zB cA j6;have mS:w.heap.size+1+1≠w1.heap.size:=by omega
 have mV:w1.heap.size≠w.heap.size+1+1:=by omega
 rw[<- hW];clear hW k0 k1 r0 r1 r2 r3 r4 r5 u0 u1 H2 o8 b9 cA j6
 go_region_held3 (λ w'=>w'.cell? ⟨w1.heap.size,0,none⟩=some (.bool m7)/\w'.cell? ⟨w1.heap.size,1,none⟩=some (.slice a1 n1 c1)/\w'.cell? ⟨w.heap.size+1,0,none⟩=some (.bool j7)/\w'.cell? ⟨w.heap.size+1,1,none⟩=some (.slice c m j9)) (first|exact zA HK _ (by first|exact (Below.refl _ _).drew|exact o9|exact A9)|go_keep)
  (first
   | (go_at_call 126;refine (zGA _ _ _ _ _ _ _ _ (k+70) k2 (x*Q b) y _ ((zA HI).bw (Below.refl _ _).drew) ((zA oz).bw (Below.refl _ _).drew) (by omega) hy rL).mono ?_;rintro r w2 ⟨E4,a4,n4,c4,rfl,H8,p9⟩;have o9:Below W.heap.size W w2:=zB (Below.refl _ _).drew p9)
   | (go_at_call 127;refine (zO1 _ _ _ _ _ _ _ _ (k+70) k2 (x*Q b) y _ ((zA HI).bw o9) ((zA oz).bw o9) (by omega) hy rL).mono ?_;rintro r w3 ⟨J3,a5,n5,c5,rfl,O0,D8⟩;have A9:=zB o9 D8;obtain⟨q0,q1,q2,q3,q4,q5⟩:=zA HR w3 A9;obtain⟨q6,q7,q8,q9⟩:=zA HK w3 A9))
 go_wp2;refine bodyPost_ret (v:=.agg #[.bool E4,.slice a4 n4 c4,.bool J3,.slice a5 n5 c5,.int .i64 b]) (by simp[results,Tryz.results88,go_sem,q0,q1,q2,q3,q4]) rfl ⟨⟨E4,a4,n4,c4,J3,a5,n5,c5,b⟩,rfl,rfl,?_,?_⟩
 ·exact SpAt.put5 ⟨(H8.bw D8).mono (by omega),O0.mono (by omega)⟩ q0 q1 q2 q3 q4 _ _ _ _ _
 ·exact jV (dX.trans (A9.mono dX.size)) (by omega) _ _ _ _ _
def rok (p q:Int):Prop := -1048576<=p/\p<=1048576/\1<=q/\q<=1024
instance (p q:Int):Decidable (rok p q):=by unfold rok;infer_instance
theorem zT3 {p q:Int} (h:p < -1048576\/1048576<p\/q<1\/1024<q):decide (rok p q)=false:=by
 rw[decide_eq_false_iff_not];unfold rok;omega
theorem zP (p q:Int) (w:World) :
  Calls Tryz.prog 118 #[.agg #[.int .i64 p,.int .i64 q]] w λ r w'=>r=.returned (.bool (decide (rok p q)))/\Below w.heap.size w w':=by
 by_cases h1 : -1048576<=p
 ·by_cases h2:p<=1048576
  ·by_cases h3:1<=q
   ·go_enter Tryz.func118,Tryz.ntmps118
    go_wp2
    go_ret
    exact⟨by simp[rok,h1,h2,h3],bl1 _ _⟩
   ·go_enter Tryz.func118,Tryz.ntmps118
    go_wp2
    go_ret
    exact⟨by rw[zT3 (p:=p) (q:=q) (by omega)];rfl,bl1 _ _⟩
  ·go_enter Tryz.func118,Tryz.ntmps118
   go_wp2
   go_ret
   exact⟨by rw[zT3 (p:=p) (q:=q) (by omega)];rfl,bl1 _ _⟩
 ·go_enter Tryz.func118,Tryz.ntmps118
  go_wp2
  go_ret
  exact⟨by rw[zT3 (p:=p) (q:=q) (by omega)];rfl,bl1 _ _⟩
def zI9 (p q bt:Int):Int:=if rok p q/\8<=bt/\bt<=120 then 0 else 3
structure Rats (w:World) (b n:Nat) (p q:Nat->Int):Prop where
 lt:b<w.heap.size
 c0:∀ j,j<n->w.cell? ⟨b,j*2,none⟩=some (.int .i64 (p j))
 c1:∀ j,j<n->w.cell? ⟨b,j*2+1,none⟩=some (.int .i64 (q j))
theorem Rats.bw {w w':World} {b n:Nat} {p q:Nat->Int} (h:Rats w b n p q) (hb:Below w.heap.size w w'):Rats w' b n p q :=
 ⟨YB h.lt hb.size,λ j hj=>(hb.cell (p:=⟨b,j*2,none⟩) h.lt).trans (h.c0 j hj),λ j hj=>(hb.cell (p:=⟨b,j*2+1,none⟩) h.lt).trans (h.c1 j hj)⟩
def RFlt (bt:Int) (p q:Nat->Int) (n:Nat) (z:Int):Prop :=
 (z=0/\(8<=bt/\bt<=120)/\∀ j,j<n->rok (p j) (q j))\/(z=3/\¬ ((8<=bt/\bt<=120)/\∀ j,j<n->rok (p j) (q j)))
theorem zGZ (bt : Int) (b n cap : Nat) (p q : Nat → Int) (w : World) (h : Rats w b n p q) (hn : n ≤ 1000) :
    Calls Tryz.prog 74 #[.int .i64 bt, .slice (some ⟨b, 0, none⟩) n cap] w fun r w' => ∃ z, r = .returned (.int .i64 z) ∧ RFlt bt p q n z ∧ Below w.heap.size w w' := by
  by_cases b1 : bt < 8
  · go_enter Tryz.func74, Tryz.ntmps74
    go_wp2
    go_ret
    exact ⟨3, rfl, Or.inr ⟨rfl, fun ⟨h1, _⟩ => by omega⟩, Below.refl _ _⟩
  by_cases b2 : 120 < bt
  · go_enter Tryz.func74, Tryz.ntmps74
    go_wp2
    go_ret
    exact ⟨3, rfl, Or.inr ⟨rfl, fun ⟨h1, _⟩ => by omega⟩, Below.refl _ _⟩
  have hblt := h.lt
  have HH := zC h
  clear h
  go_enter Tryz.func74, Tryz.ntmps74
  go_wp2
  go_loopw [15] (fun ii wr => ∃ i : Nat, i ≤ n ∧ ii = .int .i64 i ∧ (∀ j, j < i → rok (p j) (q j)) ∧ Below w.heap.size w wr) (fun ii _ => n - (intOf ii).toNat)
  case atStart => exact ⟨0, by omega, rfl, fun j hj => by omega, Below.refl _ _⟩
  case round =>
    obtain ⟨i, hi, rfl, hz, hB⟩ := hrel
    by_cases hin : i < n
    · have H2 := (zA HH).bw hB
      have g0 := H2.c0 i hin
      have g1 := H2.c1 i hin
      have hi1 : (i : Int) < (n : Int) := by omega
      have HZ := zC hz
      clear hz H2
      by_cases hc : rok (p i) (q i)
      · have hc' : decide (rok (p i) (q i)) = true := by simpa using hc
        have HC := zC hc
        clear hc
        go_wp2_with (go_at_call 118; refine (zP _ _ _).mono ?_; rintro r w1 ⟨rfl, hb1⟩; rw [hc'])
        go_roundw
        case rel => exact ⟨i + 1, by omega, by go_num, fun j hj => by
                            by_cases hji : j = i
                            · subst hji; exact zA HC
                            · exact zA HZ j (by omega), zB (zL hB _) hb1⟩
        case measure => simp [intOf]; omega
      · have hc' : decide (rok (p i) (q i)) = false := by simpa using hc
        have HC := zC hc
        clear hc
        go_wp2_with (go_at_call 118; refine (zP _ _ _).mono ?_; rintro r w1 ⟨rfl, hb1⟩; rw [hc'])
        go_ret
        exact ⟨3, rfl, Or.inr ⟨rfl, fun ⟨_, h2⟩ => zA HC (h2 i hin)⟩, zB (zL hB _) hb1⟩
    · have hiE : i = n := by omega
      subst hiE
      have HZ := zC hz
      clear hz hin hi
      go_wp2
      go_ret
      exact ⟨0, rfl, Or.inl ⟨rfl, ⟨by omega, by omega⟩, zA HZ⟩, hB⟩
def PairAns (w:World) (b:Int) (k:Nat) (lo hi er:Int) (r:Ending) (w':World):Prop :=
 ∃ s:Sp,r=.returned (.tuple #[.agg s.q,.int .i64 er])/\s.bits=b/\SpAt w' s k lo hi/\Below w.heap.size w w'
theorem zE6 (w:World) (k:Nat):IntAt w false none 0 0 k 0 :=
 ⟨λ _=>0,⟨λ h=>by omega,λ _=>⟨by simp,by simp⟩,Yy _,by omega⟩,Or.inl rfl,λ _=>rfl,by omega,by simp[sgn,V]⟩
theorem zOR (w:World) (k:Nat):SpAt w ⟨false,none,0,0,false,none,0,0,0⟩ k 0 0:=⟨zE6 w k,zE6 w k⟩
theorem rats1 (w:World) (p q:Int) (T:TypeId):Rats (w.alloc (.cells #[.int .i64 p,.int .i64 q] T)) w.heap.size 1 (λ _=>p) (λ _=>q):=by
 refine⟨by simp,?_,?_⟩
 all_goals
  intro j hj
  match j,hj with
  | 0,_=>simp
theorem zCZ (bt:Int) (w:World) (B:Nat) (hB:w.heap.size=B) (p q:Int) (T:TypeId) (cap:Nat) :
  Calls Tryz.prog 74 #[.int .i64 bt,.slice (some ⟨B,0,none⟩) 1 cap] (w.alloc (.cells #[.int .i64 p,.int .i64 q] T)) λ r w' =>
   r=.returned (.int .i64 (zI9 p q bt))/\Below w.heap.size w w':=by
 subst hB
 exact (zGZ bt w.heap.size 1 cap (λ _=>p) (λ _=>q) _ (rats1 w p q T) (by omega)).mono λ r w' ⟨z,h1,h2,h3⟩=>by
  refine⟨?_,(bl1 _ _).trans (h3.mono (by simp))⟩
  rw[h1];unfold zI9
  rcases h2 with⟨rfl,h4,h5⟩|⟨rfl,h4⟩
  ·rw[if_pos ⟨h5 0 (by omega),h4⟩]
  ·rw[if_neg (λ ⟨h5,h6⟩=>h4 ⟨h6,λ _ _=>h5⟩)]
theorem zUF (p q:Int) (b:Nat) (w:World) (h1 : -1048576<=p) (h2:p<=1048576) (h3:1<=q) (h4:q<=1024) (h5:8<=b) (h6:b<=120) :
  Calls Tryz.prog 45 #[.agg #[.int .i64 p,.int .i64 q],.int .i64 b] w (PairAns w b 100 (p*Q b/q) (-(-(p*Q b)/q)) 0):=by
 have d1:zI9 p q b=0:=by unfold zI9;rw[if_pos];exact⟨⟨h1,h2,h3,h4⟩,by omega,by omega⟩
 go_enter Tryz.func45,Tryz.ntmps45
 go_wp2_with (go_at_call 74;refine (zCZ _ _ _ (by simp) _ _ _ _).mono ?_;rintro r w1 ⟨rfl,b9⟩;rw[d1];obtain⟨A8,C7,D3⟩:=jC (w.heap.size+1+1) (by simp) b9)
 have k0:w1.cell? ⟨w.heap.size,0,none⟩=some (.int .i64 p):=by simp[C7,go_sem]
 have k1:w1.cell? ⟨w.heap.size,1,none⟩=some (.int .i64 q):=by simp[C7,go_sem]
 have r0:w1.cell? ⟨w.heap.size+1,0,none⟩=some (.bool false):=by simp[C7,go_sem]
 have r1:w1.cell? ⟨w.heap.size+1,1,none⟩=some (.slice none 0 0):=by simp[C7,go_sem]
 have r2:w1.cell? ⟨w.heap.size+1,2,none⟩=some (.bool false):=by simp[C7,go_sem]
 have r3:w1.cell? ⟨w.heap.size+1,3,none⟩=some (.slice none 0 0):=by simp[C7,go_sem]
 have r4:w1.cell? ⟨w.heap.size+1,4,none⟩=some (.int .i64 0):=by simp[C7,go_sem]
 have r5:∀ o,w1.frozen? ⟨w.heap.size+1,o,none⟩=false:=by intro o;simp[D3,go_sem]
 have cA:Below w.heap.size w w1:=zB (bl2 _ _ _) b9;have ph:w.heap.size<w1.heap.size:=by omega
 have K8:w.heap.size+1<w1.heap.size:=by omega
 have HK:=zC (show ∀ w',Below w1.heap.size w1 w'->(rK0 w' w.heap.size p q) from λ w' hB=>⟨(hB.cell (p:=⟨w.heap.size,0,none⟩) ph).trans k0,(hB.cell (p:=⟨w.heap.size,1,none⟩) ph).trans k1⟩)
 have HR:=zC (show ∀ w',Below w1.heap.size w1 w'->(w'.cell? ⟨w.heap.size+1,0,none⟩=some (.bool false)/\w'.cell? ⟨w.heap.size+1,1,none⟩=some (.slice none 0 0)/\w'.cell? ⟨w.heap.size+1,2,none⟩=some (.bool false)/\w'.cell? ⟨w.heap.size+1,3,none⟩=some (.slice none 0 0)/\w'.cell? ⟨w.heap.size+1,4,none⟩=some (.int .i64 0)/\∀ o,w'.frozen? ⟨w.heap.size+1,o,none⟩=false) from λ w' hB =>
  ⟨(hB.cell (p:=⟨w.heap.size+1,0,none⟩) K8).trans r0,(hB.cell (p:=⟨w.heap.size+1,1,none⟩) K8).trans r1,(hB.cell (p:=⟨w.heap.size+1,2,none⟩) K8).trans r2,(hB.cell (p:=⟨w.heap.size+1,3,none⟩) K8).trans r3,(hB.cell (p:=⟨w.heap.size+1,4,none⟩) K8).trans r4,λ o=>(hB.frozen (p:=⟨w.heap.size+1,o,none⟩) K8).trans (r5 o)⟩)
 clear r0 r1 r2 r3 r4 r5 C7 D3 b9
 go_region_held3 (λ w'=>rK0 w' w.heap.size p q) (first|exact zA HK _ (by first|exact (Below.refl _ _).drew|exact o9|exact A9|exact G3)|(dsimp only[cK,cK0,nK,nK0,rK,rK0];go_keep)|go_keep)
  (first
   | (go_at_call 33;have hq:=j8;refine (zD q _ (by omega) (by omega)).mono ?_;rintro r w3 ⟨B9,a3,n3,c3,rfl,E7,m8⟩;have A9:=zB o9 m8)
   | (go_at_call 33;refine (zD p _ (by omega) (by omega)).mono ?_;rintro r w2 ⟨j7,a2,n2,c2,rfl,A5,j8⟩;have o9:Below w1.heap.size w1 w2:=zB (Below.refl _ _).drew j8)
   | (go_at_call 88;refine (zK7 _ _ _ _ _ _ _ _ 4 4 b p q _ (A5.bw m8) E7 (by omega) (by omega) (by omega) (by omega)).mono ?_;rintro r w4 ⟨s,rfl,aV,bl,p9⟩;have gV:=zC aV;clear aV;have G3:=zB A9 p9;obtain⟨q0,q1,q2,q3,q4,q5⟩:=zA HR w4 G3;obtain⟨q6,q7⟩:=zA HK w4 G3))
 go_wp2;refine bodyPost_ret (v:=.tuple #[.agg s.q,.int .i64 0]) (by simp[results,Tryz.results45,go_sem,q0,q1,q2,q3,q4]) rfl ⟨s,rfl,zA gV,?_,?_⟩
 ·exact SpAt.put5 ⟨bl.lo.mono (by omega),bl.hi.mono (by omega)⟩ q0 q1 q2 q3 q4 _ _ _ _ _
 ·exact jV (cA.trans (G3.mono cA.size)) (Nat.le_succ _) _ _ _ _ _
def FitAns (w : World) (s : Sp) (d e : Nat -> Int) (r : Ending) (w' : World) : Prop :=
  ((zAL s d e = 0 /\ r = .returned (.tuple #[.agg s.q, .int .i64 0])) \/
   (zAL s d e ≠ 0 /\ r = .returned (.tuple #[.agg zCq, .int .i64 (zAL s d e)]))) /\ Below w.heap.size w w'
theorem zR8 (w:World) (s:Sp) (d e:Nat->Int) (h:SpDig w s d e) :
  Calls Tryz.prog 95 #[.agg s.q] w (FitAns w s d e):=by
 by_cases h1:zAL s d e=0
 ·have J0:(zAL s d e != 0)=false:=by simp[h1]
  have HE:=zC h1;clear h1
  go_enter Tryz.func95,Tryz.ntmps95
  go_wp2_with (go_at_call 140;refine (zD6 s d e _ (h.bw (bl2 _ _ _))).mono ?_;rintro r w1 ⟨rfl,b9⟩;obtain⟨A8,C7,D3⟩:=jC (w.heap.size+1+1) (by simp) b9)
  refine bodyPost_ret (v:=.tuple #[.agg s.q,.int .i64 0]) (by simp[results,Tryz.results95,go_sem,C7]) rfl ⟨Or.inl ⟨zA HE,rfl⟩,?_⟩
  exact jV (zB (bl2 _ _ _) b9) (Nat.le_succ _) _ _ _ _ _
 ·have J0:(zAL s d e != 0)=true:=by simp[h1]
  have HE:=zC h1;clear h1
  go_enter Tryz.func95,Tryz.ntmps95
  go_wp2_with (go_at_call 140;refine (zD6 s d e _ (h.bw (bl2 _ _ _))).mono ?_;rintro r w1 ⟨rfl,b9⟩;obtain⟨A8,C7,D3⟩:=jC (w.heap.size+1+1) (by simp) b9)
  refine bodyPost_ret (v:=.tuple #[.agg zCq,.int .i64 (zAL s d e)]) (by simp[results,Tryz.results95,go_sem,C7]) rfl ⟨Or.inr ⟨zA HE,rfl⟩,?_⟩
  exact jV (zB (bl2 _ _ _) b9) (Nat.le_succ _) _ _ _ _ _
theorem zD3 (w:World) (s t:Sp) (k:Nat) (lo hi lo' hi':Int) (hs:SpAt w s k lo hi) (ht:SpAt w t k lo' hi') (hk:k<=700000000) :
  Calls Tryz.prog 51 #[.agg s.q,.agg t.q] w (zH w s.bits (k+1) (lo+lo') (hi+hi')):=by
 have mS:w.heap.size≠w.heap.size+1+1:=by omega
 have mV:w.heap.size+1+1≠w.heap.size:=by omega
 have le2:w.heap.size<=w.heap.size+1+1:=by omega
 go_enter Tryz.func51,Tryz.ntmps51
 go_wp2
 go_region_held3 (λ w'=>cK w' w.heap.size s (w'.cell? ⟨w.heap.size+1,0,none⟩=some (.bool t.ln)/\w'.cell? ⟨w.heap.size+1,1,none⟩=some (.slice t.la t.lN t.lc)/\w'.cell? ⟨w.heap.size+1,2,none⟩=some (.bool t.hn)/\w'.cell? ⟨w.heap.size+1,3,none⟩=some (.slice t.ha t.hN t.hc))) ((dsimp only[cK,cK0,nK,nK0,rK,rK0];go_keep))
  (first
   | (go_at_call 32;have hq:=b9;refine (zA3 _ _ _ _ _ _ _ _ k k hi hi' _ (hs.hi.bw (zB (bl3 _ _ _ _).drew b9)) (ht.hi.bw (zB (bl3 _ _ _ _).drew b9)) (by omega) (by omega)).mono ?_;rintro r w2 ⟨j7,a2,n2,c2,rfl,A5,j8⟩;obtain⟨C9,D6,E6⟩:=jC (w.heap.size+1+1+1) A8 j8)
   | (go_at_call 32;refine (zA3 _ _ _ _ _ _ _ _ k k lo lo' _ (hs.lo.bw (bl3 _ _ _ _).drew) (ht.lo.bw (bl3 _ _ _ _).drew) (by omega) (by omega)).mono ?_;rintro r w1 ⟨m7,a1,n1,c1,rfl,o8,b9⟩;obtain⟨A8,C7,D3⟩:=jC (w.heap.size+1+1+1) (by simp) b9))
 go_wp2;have q0:w2.cell? ⟨w.heap.size+1+1,0,none⟩=some (.bool false):=by simp[D6,C7,go_sem]
 have q1:w2.cell? ⟨w.heap.size+1+1,1,none⟩=some (.slice none 0 0):=by simp[D6,C7,go_sem]
 have q2:w2.cell? ⟨w.heap.size+1+1,2,none⟩=some (.bool false):=by simp[D6,C7,go_sem]
 have q3:w2.cell? ⟨w.heap.size+1+1,3,none⟩=some (.slice none 0 0):=by simp[D6,C7,go_sem]
 have q4:w2.cell? ⟨w.heap.size+1+1,4,none⟩=some (.int .i64 0):=by simp[D6,C7,go_sem]
 refine bodyPost_ret (v:=.agg #[.bool m7,.slice a1 n1 c1,.bool j7,.slice a2 n2 c2,.int .i64 s.bits]) (by simp[results,Tryz.results51,go_sem,q0,q1,q2,q3,q4]) rfl ⟨⟨m7,a1,n1,c1,j7,a2,n2,c2,s.bits⟩,rfl,rfl,?_,?_⟩
 ·exact SpAt.put5 ⟨(o8.bw j8).mono (by omega),A5.mono (by omega)⟩ q0 q1 q2 q3 q4 _ _ _ _ _
 ·exact jV (zB (zB (bl3 _ _ _ _).drew b9) j8) le2 _ _ _ _ _
theorem zGE (n:Nat) (d:Nat->Int):zIE n d<=16*n:=by
 unfold zIE;have:=zM2 16 (d (n-1));split<;>omega
theorem zJN {w:World} {s:Sp} {k:Nat} {lo hi:Int} (h:SpAt w s k lo hi) (hk:k<=250) (hle:lo<=hi) (h1:1<=s.bits) (h2:s.bits<=120):∃ d e,SpDig w s d e/\zAL s d e=0:=by
 obtain⟨⟨d,p1,p2,p3,p4,p5⟩,⟨e,r1,r2,r3,r4,r5⟩⟩:=h;refine⟨d,e,⟨p1,r1⟩,?_⟩;have l1:=zGE s.lN d;have l2:=zGE s.hN e
 have g1:yO s.ln s.lN d≠false:=by
  unfold yO
  by_cases h0:s.lN=0
  ·simp[h0,p3 h0]
  ·rw[if_neg h0];simpa using (show d (s.lN-1)≠0 by omega)
 have g2:yO s.hn s.hN e≠false:=by
  unfold yO
  by_cases h0:s.hN=0
  ·simp[h0,r3 h0]
  ·rw[if_neg h0];simpa using (show e (s.hN-1)≠0 by omega)
 have g3:¬ 0<cmpI s.ln s.hn d e s.lN s.hN:=by
  rw[zAI p1.dgs r1.dgs s.ln s.hn s.lN s.hN p2 r2 p3 r3,<- p5,<- r5];exact zB9 (by omega)
 unfold zAL;rw[if_neg (by omega),if_neg (λ q=>q.elim g1 g2),if_neg (by omega),if_neg g3]
theorem zL2 (p1 p2:Value) (B:Nat) (W:World) (f:Nat->Sp) (d e:Nat->Nat->Int) (n cap:Nat) (hn:n<=1000) (hS:Spans W B n f d e) (h0:∀ z,Flt (λ j=>zAL (f j) (d j) (e j)) (λ j=>(f j).bits) n z->z=0)
  (b:Int) (k:Nat) (lo hi:Int) (hF:∀ w',Below W.heap.size W w'->Calls Tryz.prog 50 #[p1,p2] w' (PairAns w' b k lo hi 0)) (hk:k<=250) (hle:lo<=hi) (b9:1<=b) (j8:b<=120) :
  Calls Tryz.prog 49 #[.func (.func 50) #[] #[p1,p2],.slice (some ⟨B,0,none⟩) n cap] W (PairAns W b k lo hi 0):=by
 have HF:=zC hF;have HZ:=zC h0;have HS:=zC hS;clear hF h0 hS
 go_enter Tryz.func49,Tryz.ntmps49
 go_wp2_with fail;refine (zJY _ _ _ f d e _ ((zA HS).bw (bl1 _ _)) hn).mono ?_;rintro r w1 ⟨z,rfl,hz,L9⟩;have K4:=zA HZ z hz;subst K4;obtain⟨A8,C7,D3⟩:=jC (W.heap.size+1) (by simp) L9
 have A7:Below W.heap.size W w1:=zB (bl1 _ _) L9;clear hz;go_wp2_with fail;refine (zA HF _ A7).mono ?_;rintro r w2 ⟨s,rfl,aV,bl,m8⟩;have o9:=zB A7 m8;obtain⟨C9,D6,E6⟩:=jC (W.heap.size+1) A8 m8;have K4:=YB (Nat.lt_succ_self W.heap.size) C9;obtain⟨dd,ee,S3,cZ⟩:=zJN bl hk hle (by omega) (by omega)
 have q0:w2.cell? ⟨W.heap.size,0,none⟩=some (.bool false):=by simp[D6,C7]
 have q1:w2.cell? ⟨W.heap.size,1,none⟩=some (.slice none 0 0):=by simp[D6,C7]
 have q2:w2.cell? ⟨W.heap.size,2,none⟩=some (.bool false):=by simp[D6,C7]
 have q3:w2.cell? ⟨W.heap.size,3,none⟩=some (.slice none 0 0):=by simp[D6,C7]
 have q4:w2.cell? ⟨W.heap.size,4,none⟩=some (.int .i64 0):=by simp[D6,C7]
 have q5:∀ o,w2.frozen? ⟨W.heap.size,o,none⟩=false:=by intro o;simp[E6,D3,go_sem]
 have HB:=zC aV;have HC:=zC cZ;clear aV D6 C7 E6 D3 L9 cZ;go_wp2_with fail;refine (zR8 _ s dd ee (S3.bw (bl1 _ _))).mono ?_;rintro r w3 ⟨hr,p9⟩
 have KE:r=.returned (.tuple #[.agg s.q,.int .i64 0]):=by
  rcases hr with⟨_,h⟩|⟨h,_⟩
  ·exact h
  ·exact absurd (zA HC) h
 subst KE;clear hr;have A9:Below w2.heap.size w2 w3:=zB (bl1 _ _) p9;have t0:=(A9.cell (p:=⟨W.heap.size,0,none⟩) K4).trans q0;have t1:=(A9.cell (p:=⟨W.heap.size,1,none⟩) K4).trans q1;have t2:=(A9.cell (p:=⟨W.heap.size,2,none⟩) K4).trans q2;have t3:=(A9.cell (p:=⟨W.heap.size,3,none⟩) K4).trans q3;have t4:=(A9.cell (p:=⟨W.heap.size,4,none⟩) K4).trans q4;have t5:∀ o,w3.frozen? ⟨W.heap.size,o,none⟩=false:=λ o=>(A9.frozen (p:=⟨W.heap.size,o,none⟩) K4).trans (q5 o)
 go_wp2_with fail;refine bodyPost_ret (v:=.tuple #[.agg s.q,.int .i64 0]) (by simp[results,Tryz.results49,go_sem,t0,t1,t2,t3,t4]) rfl ⟨s,rfl,zA HB,?_,?_⟩
 ·exact SpAt.put5 (bl.bw A9) t0 t1 t2 t3 t4 _ _ _ _ _
 ·exact jV (zB o9 A9) (Yy _) _ _ _ _ _
theorem zMV (w:World) (B0 B1:Nat) (s t:Sp) (k:Nat) (lo hi lo' hi':Int) (hs:SpAt w s k lo hi) (ht:SpAt w t k lo' hi') (hk:k<=700000000)
  (a0:w.cell? ⟨B0,0,none⟩=some (.bool s.ln)) (a1:w.cell? ⟨B0,1,none⟩=some (.slice s.la s.lN s.lc)) (a2:w.cell? ⟨B0,2,none⟩=some (.bool s.hn)) (a3:w.cell? ⟨B0,3,none⟩=some (.slice s.ha s.hN s.hc)) (a4:w.cell? ⟨B0,4,none⟩=some (.int .i64 s.bits))
  (b0:w.cell? ⟨B1,0,none⟩=some (.bool t.ln)) (b1:w.cell? ⟨B1,1,none⟩=some (.slice t.la t.lN t.lc)) (b2:w.cell? ⟨B1,2,none⟩=some (.bool t.hn)) (b3:w.cell? ⟨B1,3,none⟩=some (.slice t.ha t.hN t.hc)) (b4:w.cell? ⟨B1,4,none⟩=some (.int .i64 t.bits)) :
  Calls Tryz.prog 50 #[.pointer (some ⟨B0,0,none⟩),.pointer (some ⟨B1,0,none⟩)] w (PairAns w s.bits (k+1) (lo+lo') (hi+hi') 0):=by
 have l0:B0<w.heap.size:=World.block_lt_of_cell? w ⟨B0,0,none⟩ a0;have l1:B1<w.heap.size:=World.block_lt_of_cell? w ⟨B1,0,none⟩ b0
 go_enter Tryz.func50,Tryz.ntmps50
 go_wp2_with fail;refine (zD3 _ s t k lo hi lo' hi' (hs.bw (bl1 _ _)) (ht.bw (bl1 _ _)) hk).mono ?_;rintro r w1 ⟨u,rfl,B8,B7,b9⟩;obtain⟨A8,C7,D3⟩:=jC (w.heap.size+1) (by simp) b9
 have q0:w1.cell? ⟨w.heap.size,0,none⟩=some (.bool false):=by simp[C7]
 have q1:w1.cell? ⟨w.heap.size,1,none⟩=some (.slice none 0 0):=by simp[C7]
 have q2:w1.cell? ⟨w.heap.size,2,none⟩=some (.bool false):=by simp[C7]
 have q3:w1.cell? ⟨w.heap.size,3,none⟩=some (.slice none 0 0):=by simp[C7]
 have q4:w1.cell? ⟨w.heap.size,4,none⟩=some (.int .i64 0):=by simp[C7]
 have q5:∀ o,w1.frozen? ⟨w.heap.size,o,none⟩=false:=by intro o;simp[D3,go_sem]
 have HB:=zC B8;clear B8;go_wp2_with fail;refine bodyPost_ret (v:=.tuple #[.agg u.q,.int .i64 0]) (by simp[results,Tryz.results50,go_sem,q0,q1,q2,q3,q4]) rfl ⟨u,rfl,zA HB,?_,?_⟩
 ·exact SpAt.put5 B7 q0 q1 q2 q3 q4 _ _ _ _ _
 ·exact jV (zB (bl1 _ _) b9) (Yy _) _ _ _ _ _
theorem blenF_Q (f:Nat):∀ x:Int,0<x->x<Q f->∃ b:Nat,bs f x=(b:Int)+1/\Q b<=x/\x<Q (b+1):=by
 induction f with
 | zero=>intro x h0 h1;simp[Q] at h1;omega
 | succ f ih =>
  intro x h0 h1
  have hx:¬ x<=0:=by omega
  simp only[bs,hx,if_false];simp only[Q] at h1
  by_cases h2:x/2=0
  ·refine⟨0,?_,by simp[Q];omega,by simp[Q];omega⟩
   rw[h2];cases f<;>simp[bs]
  ·obtain⟨b,e1,e2,e3⟩:=ih (x/2) (by omega) (by omega)
   refine⟨b+1,by rw[e1];omega,?_,?_⟩
   ·simp only[Q];omega
   ·simp only[Q] at *;omega
theorem zSM {d:Nat->Int} (hd:Dgs d) {n:Nat} (hn:0<n) (ht:d (n-1)≠0):∃ L:Nat,zIE n d=(L:Int)+1/\Q L<=V d n/\V d n<Q (L+1):=by
 obtain⟨m,rfl⟩:∃ m,n=m+1:=⟨n-1,by omega⟩
 simp only[Nat.add_sub_cancel] at ht;have hx:=hd m;obtain⟨b,e1,e2,e3⟩:=blenF_Q 16 (d m) (by omega) (by rw[Q16];omega)
 refine⟨16*m+b,?_,?_,?_⟩
 ·unfold zIE;rw[if_neg (by omega)];simp only[Nat.add_sub_cancel];rw[e1];omega
 ·rw[jF,Q_P];simp only[V]
  have h1:=zY hd m;have h2:P m*Q b<=P m*d m:=Yx e2 (by have:=yF m;omega)
  rw[Int.mul_comm (d m)];omega
 ·rw[show 16*m+b+1=16*m+(b+1) by omega,jF,Q_P];simp only[V]
  have h1:=zHT hd m;have h2:P m*(d m+1)<=P m*Q (b+1):=Yx (by omega) (by have:=yF m;omega)
  rw[Int.mul_add,Int.mul_one] at h2;rw[Int.mul_comm (d m)];omega
def big (z:Int):Prop:=Q 4000<=z\/z <=-Q 4000
instance (z:Int):Decidable (big z):=by unfold big;infer_instance
theorem zNN {d:Nat->Int} (hd:Dgs d) {n:Nat} (ht:n=0\/d (n-1)≠0) (neg:Bool):4000<zIE n d ↔ big (sgn neg (V d n)):=by
 have hq:=zE 4000
 by_cases hn:n=0
 ·subst hn
  have h1:zIE 0 d=0:=by simp[zIE]
  have h2:sgn neg (V d 0)=0:=by cases neg<;>simp[sgn,V]
  rw[h1,h2];unfold big;constructor<;>intro h<;>omega
 ·obtain⟨L,e1,e2,e3⟩:=zSM hd (show 0<n by omega) (by omega)
  rw[e1]
  have key:(4000:Int)<(L:Int)+1 ↔ Q 4000<=V d n:=by
   constructor
   ·intro h
    have:=zJ (show 4000<=L by omega)
    omega
   ·intro h
    rcases Nat.lt_or_ge 4000 (L+1) with h2|h2
    ·omega
    ·have:=zJ h2;omega
  have hv:=zY hd n;rw[key];unfold big
  cases neg<;>simp only[sgn]<;>constructor<;>intro h<;>simp at*<;> omega
theorem zTE {a x:Int} (hx:0<x):a<((x+a/x)/2+1)*((x+a/x)/2+1):=by
 obtain⟨t,ht⟩:∃ t,t=a/x:=⟨_,rfl⟩;obtain⟨y,hy⟩:∃ y,y=(x+t)/2:=⟨_,rfl⟩;rw[<- ht,<- hy]
 have h1:a<(t+1)*x:=by
  have h2:=Int.mul_ediv_add_emod a x;have h3:=Int.emod_lt_of_pos a hx;rw[<- ht] at h2;rw[Int.add_mul,Int.one_mul,Int.mul_comm t x];omega
 have h4:(x+t+1)*x<=(2*y+2)*x:=Yt (by omega) (by omega)
 have h5:0<=(y+1-x)*(y+1-x):=by
  rcases Int.le_total 0 (y+1-x) with h|h
  ·exact Yz h h
  ·exact Int.mul_nonneg_of_nonpos_of_nonpos h h
 have h6:(y+1-x)*(y+1-x)=(y+1)*(y+1)-2*((y+1)*x)+x*x:=by
  rw[Int.sub_mul,Int.mul_sub,Int.mul_sub,Int.mul_comm x (y+1)];omega
 have h7:(2*y+2)*x=2*((y+1)*x):=by rw[<- Int.mul_assoc];congr 1;omega
 have h8:(x+t+1)*x=x*x+(t+1)*x:=by rw[<- Int.add_mul];congr 1;omega
 omega
theorem zPP {a x:Int} (hx:0<x) (ha:0<=a) (h:x<=(x+a/x)/2):x*x<=a:=by
 have h1:x<=a/x:=by omega
 have h2:=Int.mul_ediv_add_emod a x;have h3:=Int.emod_nonneg a (show x≠0 by omega)
 have h4:=Yx h1 (show 0<=x by omega)
 omega
theorem zKT {x y:Int} (hx:0<=x) (hy:0<=y) (h:x*x<y*y):x<y:=by
 rcases Int.lt_or_le x y with h1|h1
 ·exact h1
 ·have:=Int.mul_le_mul h1 h1 hy hx;omega
theorem zT7 {a x y:Int} (hx:0<=x) (hy:0<=y) (h1:x*x<=a) (h2:a<(x+1)*(x+1)) (h3:y*y<=a) (h4:a<(y+1)*(y+1)):x=y:=by
 have:=zKT hx (show 0<=y+1 by omega) (by omega)
 have:=zKT hy (show 0<=x+1 by omega) (by omega)
 omega
def bigs (lo hi:Int):Prop:=big lo\/big hi
instance (lo hi:Int):Decidable (bigs lo hi):=by unfold bigs;infer_instance
def fitE (lo hi:Int):Int:=if bigs lo hi then 2 else 0
def zQA (lo hi z:Int):Int:=if bigs lo hi then 0 else z
theorem zKO {neg:Bool} {n:Nat} {d:Nat->Int} (h1:n=0\/d (n-1)≠0) (h2:n=0->neg=false):yO neg n d≠false:=by
 unfold yO
 by_cases h0:n=0
 ·simp[h0,h2 h0]
 ·rw[if_neg h0];simpa using (show d (n-1)≠0 by omega)
theorem chk_fit {w:World} {s:Sp} {k:Nat} {lo hi:Int} (h:SpAt w s k lo hi) (hle:lo<=hi) (h1:1<=s.bits) (h2:s.bits<=120):∃ d e,SpDig w s d e/\zAL s d e=fitE lo hi:=by
 obtain⟨⟨d,p1,p2,p3,p4,p5⟩,⟨e,r1,r2,r3,r4,r5⟩⟩:=h;refine⟨d,e,⟨p1,r1⟩,?_⟩;have g1:=zKO (neg:=s.ln) p2 p3;have g2:=zKO (neg:=s.hn) r2 r3;have b1:=zNN p1.dgs p2 s.ln;have b2:=zNN r1.dgs r2 s.hn;rw[<- p5] at b1;rw[<- r5] at b2
 have g3:¬ 0<cmpI s.ln s.hn d e s.lN s.hN:=by
  rw[zAI p1.dgs r1.dgs s.ln s.hn s.lN s.hN p2 r2 p3 r3,<- p5,<- r5];exact zB9 (by omega)
 by_cases hb:bigs lo hi
 ·have f:fitE lo hi=2:=if_pos hb
  rw[f];unfold zAL;rw[if_neg (by omega),if_neg (λ q=>q.elim g1 g2),if_pos (by rw[b1,b2];exact hb)]
 ·have f:fitE lo hi=0:=if_neg hb
  rw[f];unfold zAL;rw[if_neg (by omega),if_neg (λ q=>q.elim g1 g2),if_neg (by rw[b1,b2];exact hb),if_neg g3]
theorem zJZ (lo hi:Int):(bigs lo hi/\fitE lo hi=2/\∀ z,zQA lo hi z=0)\/(¬ bigs lo hi/\fitE lo hi=0/\∀ z,zQA lo hi z=z):=by
 by_cases hb:bigs lo hi
 ·exact Or.inl ⟨hb,if_pos hb,λ _=>if_pos hb⟩
 ·exact Or.inr ⟨hb,if_neg hb,λ _=>if_neg hb⟩
end Go.Proofs.YtgmnknmjainabacGreat
