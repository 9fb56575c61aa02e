/-
  Its own texts.
-/
import Derived.Deep.LoopGhost
import Derived.Test.YtgmnknmjainabacGreatJ03
set_option maxRecDepth 100000
set_option maxHeartbeats 40000000
set_option linter.unnecessarySimpa false
set_option linter.unusedSimpArgs false
set_option linter.unusedVariables false
namespace Go.Proofs.YtgmnknmjainabacGreat
open Go.RowKit
attribute [local go_sem ↓] Go.wp_at_zero Go.wp_at_succ
theorem IntAt.put5 {w:World} {neg:Bool} {a:Option Addr} {n cap k:Nat} {z:Int} (h:IntAt w neg a n cap k z) {B:Nat} {x0 x2:Bool} {y0 y3:Option Addr} {y1 y2 y4 y5:Nat} {i:Int}
  (h0:w.cell? ⟨B,0,none⟩=some (.bool x0)) (h1:w.cell? ⟨B,1,none⟩=some (.slice y0 y1 y2)) (h2:w.cell? ⟨B,2,none⟩=some (.bool x2)) (h3:w.cell? ⟨B,3,none⟩=some (.slice y3 y4 y5)) (h4:w.cell? ⟨B,4,none⟩=some (.int .i64 i)) (u0 u1 u2 u3 u4:Value) :
  IntAt (((((w.setCell ⟨B,0,none⟩ u0).setCell ⟨B,1,none⟩ u1).setCell ⟨B,2,none⟩ u2).setCell ⟨B,3,none⟩ u3).setCell ⟨B,4,none⟩ u4) neg a n cap k z:=by
 have ne:∀ i j:Nat,i≠j->(⟨B,i,none⟩:Addr)≠⟨B,j,none⟩:=λ i j mF e=>mF (by injection e)
 have g1:(w.setCell ⟨B,0,none⟩ u0).cell? ⟨B,1,none⟩=some (.slice y0 y1 y2):=(World.cell?_setCell_other _ _ _ _ (ne 0 1 (by omega))).trans h1
 have g2:((w.setCell ⟨B,0,none⟩ u0).setCell ⟨B,1,none⟩ u1).cell? ⟨B,2,none⟩=some (.bool x2):=(World.cell?_setCell_other _ _ _ _ (ne 1 2 (by omega))).trans ((World.cell?_setCell_other _ _ _ _ (ne 0 2 (by omega))).trans h2)
 have g3:(((w.setCell ⟨B,0,none⟩ u0).setCell ⟨B,1,none⟩ u1).setCell ⟨B,2,none⟩ u2).cell? ⟨B,3,none⟩=some (.slice y3 y4 y5):=(World.cell?_setCell_other _ _ _ _ (ne 2 3 (by omega))).trans ((World.cell?_setCell_other _ _ _ _ (ne 1 3 (by omega))).trans ((World.cell?_setCell_other _ _ _ _ (ne 0 3 (by omega))).trans h3))
 have g4:((((w.setCell ⟨B,0,none⟩ u0).setCell ⟨B,1,none⟩ u1).setCell ⟨B,2,none⟩ u2).setCell ⟨B,3,none⟩ u3).cell? ⟨B,4,none⟩=some (.int .i64 i):=(World.cell?_setCell_other _ _ _ _ (ne 3 4 (by omega))).trans ((World.cell?_setCell_other _ _ _ _ (ne 2 4 (by omega))).trans ((World.cell?_setCell_other _ _ _ _ (ne 1 4 (by omega))).trans ((World.cell?_setCell_other _ _ _ _ (ne 0 4 (by omega))).trans h4)))
 exact ((((h.store h0 (λ _ e=>by cases e) u0).store g1 (λ _ e=>by cases e) u1).store g2 (λ _ e=>by cases e) u2).store g3 (λ _ e=>by cases e) u3).store g4 (λ _ e=>by cases e) u4
theorem SpAt.put5 {w:World} {s:Sp} {k:Nat} {lo hi:Int} (h:SpAt w s k lo hi) {B:Nat} {x0 x2:Bool} {y0 y3:Option Addr} {y1 y2 y4 y5:Nat} {i:Int}
  (h0:w.cell? ⟨B,0,none⟩=some (.bool x0)) (h1:w.cell? ⟨B,1,none⟩=some (.slice y0 y1 y2)) (h2:w.cell? ⟨B,2,none⟩=some (.bool x2)) (h3:w.cell? ⟨B,3,none⟩=some (.slice y3 y4 y5)) (h4:w.cell? ⟨B,4,none⟩=some (.int .i64 i)) (u0 u1 u2 u3 u4:Value) :
  SpAt (((((w.setCell ⟨B,0,none⟩ u0).setCell ⟨B,1,none⟩ u1).setCell ⟨B,2,none⟩ u2).setCell ⟨B,3,none⟩ u3).setCell ⟨B,4,none⟩ u4) s k lo hi:=⟨h.lo.put5 h0 h1 h2 h3 h4 u0 u1 u2 u3 u4,h.hi.put5 h0 h1 h2 h3 h4 u0 u1 u2 u3 u4⟩
theorem kM {B B':Nat} {a w:World} (h:Below B a w) (hB:B<=B') (u0 u1 u2 u3 u4:Value):Below B a (((((w.setCell ⟨B',0,none⟩ u0).setCell ⟨B',1,none⟩ u1).setCell ⟨B',2,none⟩ u2).setCell ⟨B',3,none⟩ u3).setCell ⟨B',4,none⟩ u4) :=
 ((((h.setCell (p:=⟨B',0,none⟩) hB u0).setCell (p:=⟨B',1,none⟩) hB u1).setCell (p:=⟨B',2,none⟩) hB u2).setCell (p:=⟨B',3,none⟩) hB u3).setCell (p:=⟨B',4,none⟩) hB u4
theorem zO0 (neg j7:Bool) (a c:Option Addr) (n m cap m7 k k2:Nat) (x y:Int) (w:World) (h1:IntAt w neg a n cap k x) (h2:IntAt w j7 c m m7 k2 y) (hk:k<=800000000)
  (mB:∀ w' j9 a' n' m9,IntAt w' j9 a' n' m9 k (-x)->IntAt w' j7 c m m7 k2 y->Calls Tryz.prog 126 #[.agg #[.bool j9,.slice a' n' m9],.agg #[.bool j7,.slice c m m7]] w' (zDO w' k (-x/y))) :
  Calls Tryz.prog 127 #[.agg #[.bool neg,.slice a n cap],.agg #[.bool j7,.slice c m m7]] w (zDO w k (-(-x/y))):=by
 have lI:w.heap.size≠w.heap.size+1+1:=by omega
 have lJ:w.heap.size+1+1≠w.heap.size:=by omega
 have le2:w.heap.size<=w.heap.size+1+1:=by omega
 have HF:=zC mB;clear mB
 go_enter Tryz.func127,Tryz.ntmps127
 go_wp2
 go_region_held3 (λ w'=>w'.cell? ⟨w.heap.size,0,none⟩=some (.bool neg)/\w'.cell? ⟨w.heap.size,1,none⟩=some (.slice a n cap)/\w'.cell? ⟨w.heap.size+1,0,none⟩=some (.bool j7)/\w'.cell? ⟨w.heap.size+1,1,none⟩=some (.slice c m m7)) (go_keep)
  (first
   | (go_at_call 126;refine (zA HF _ _ _ _ _ s9 (h2.bw (zB (bl3 _ _ _ _).drew b9))).mono ?_;rintro r w2 ⟨jo,a2,n2,c2,rfl,A8,j5⟩;obtain⟨p9,B8,B7⟩:=zU (w.heap.size+1+1+1) j8 j5)
   | (go_at_call 87;have hq:=j5;refine (zCV _ _ _ _ (k+8) _ _ A8 (by omega)).mono ?_;rintro r w3 ⟨C7,a3,n3,c3,rfl,E8,m8⟩;obtain⟨I9,ao,T4⟩:=zU (w.heap.size+1+1+1) p9 m8)
   | (go_at_call 87;refine (zCV _ _ _ _ k x _ (h1.bw (bl3 _ _ _ _).drew) (by omega)).mono ?_;rintro r w1 ⟨o7,a1,n1,c1,rfl,s9,b9⟩;obtain⟨j8,D7,A9⟩:=zU (w.heap.size+1+1+1) (by simp) b9))
 go_wp2;have h0:w3.cell? ⟨w.heap.size+1+1,0,none⟩=some (.bool false):=by simp[ao,B8,D7,go_sem]
 have I7:w3.cell? ⟨w.heap.size+1+1,1,none⟩=some (.slice none 0 0):=by simp[ao,B8,D7,go_sem]
 refine bodyPost_ret (v:=.agg #[.bool C7,.slice a3 n3 c3]) (by simp[results,Tryz.results127,go_sem,h0,I7]) rfl ⟨C7,a3,n3,c3,rfl,E8.put2 h0 I7 _ _,?_⟩
 exact ((zB (zB (zB (bl3 _ _ _ _).drew b9) j5) m8).setCell (p:=⟨w.heap.size+1+1,0,none⟩) le2 _).setCell (p:=⟨w.heap.size+1+1,1,none⟩) le2 _
def zL (w:World) (b:Int) (k:Nat) (lo hi:Int) (r:Ending) (w':World):Prop :=
 ∃ s:Sp,r=.returned (.agg s.q)/\s.bits=b/\SpAt w' s k lo hi/\Below w.heap.size w w'
def rok (p q:Int):Prop := -1048576<=p/\p<=1048576/\1<=q/\q<=1024
instance (p q:Int):Decidable (rok p q):=by unfold rok;infer_instance
theorem zL4 {p q:Int} (h:p < -1048576\/1048576<p\/q<1\/1024<q):decide (rok p q)=false:=by
 rw[decide_eq_false_iff_not];unfold rok;omega
theorem zQ (p q:Int) (w:World) :
  Calls Tryz.prog 118 #[.agg #[.int .i64 p,.int .i64 q]] w λ r w'=>r=.returned (.bool (decide (rok p q)))/\Below w.heap.size w w':=by
 by_cases h1 : -1048576<=p
 ·by_cases h2:p<=1048576
  ·by_cases h3:1<=q
   ·go_enter Tryz.func118,Tryz.ntmps118
    go_wp2
    go_ret
    exact⟨by simp[rok,h1,h2,h3],bl1 _ _⟩
   ·go_enter Tryz.func118,Tryz.ntmps118
    go_wp2
    go_ret
    exact⟨by rw[zL4 (p:=p) (q:=q) (by omega)];rfl,bl1 _ _⟩
  ·go_enter Tryz.func118,Tryz.ntmps118
   go_wp2
   go_ret
   exact⟨by rw[zL4 (p:=p) (q:=q) (by omega)];rfl,bl1 _ _⟩
 ·go_enter Tryz.func118,Tryz.ntmps118
  go_wp2
  go_ret
  exact⟨by rw[zL4 (p:=p) (q:=q) (by omega)];rfl,bl1 _ _⟩
def zD0 (p q bt:Int):Int:=if rok p q/\8<=bt/\bt<=120 then 0 else 3
structure Rats (w:World) (b n:Nat) (p q:Nat->Int):Prop where
 lt:b<w.heap.size
 c0:∀ j,j<n->w.cell? ⟨b,j*2,none⟩=some (.int .i64 (p j))
 c1:∀ j,j<n->w.cell? ⟨b,j*2+1,none⟩=some (.int .i64 (q j))
theorem Rats.bw {w w':World} {b n:Nat} {p q:Nat->Int} (h:Rats w b n p q) (hb:Below w.heap.size w w'):Rats w' b n p q :=
 ⟨Yn h.lt hb.size,λ j hj=>(hb.cell (p:=⟨b,j*2,none⟩) h.lt).trans (h.c0 j hj),λ j hj=>(hb.cell (p:=⟨b,j*2+1,none⟩) h.lt).trans (h.c1 j hj)⟩
def RFlt (bt:Int) (p q:Nat->Int) (n:Nat) (z:Int):Prop :=
 (z=0/\(8<=bt/\bt<=120)/\∀ j,j<n->rok (p j) (q j))\/(z=3/\¬ ((8<=bt/\bt<=120)/\∀ j,j<n->rok (p j) (q j)))
theorem zF8 (bt : Int) (b n cap : Nat) (p q : Nat → Int) (w : World) (h : Rats w b n p q) (hn : n ≤ 1000) :
    Calls Tryz.prog 74 #[.int .i64 bt, .slice (some ⟨b, 0, none⟩) n cap] w fun r w' => ∃ z, r = .returned (.int .i64 z) ∧ RFlt bt p q n z ∧ Below w.heap.size w w' := by
  by_cases b1 : bt < 8
  · go_enter Tryz.func74, Tryz.ntmps74
    go_wp2
    go_ret
    exact ⟨3, rfl, Or.inr ⟨rfl, fun ⟨h1, _⟩ => by omega⟩, Below.refl _ _⟩
  by_cases b2 : 120 < bt
  · go_enter Tryz.func74, Tryz.ntmps74
    go_wp2
    go_ret
    exact ⟨3, rfl, Or.inr ⟨rfl, fun ⟨h1, _⟩ => by omega⟩, Below.refl _ _⟩
  have hblt := h.lt
  have HH := zC h
  clear h
  go_enter Tryz.func74, Tryz.ntmps74
  go_wp2
  go_loopw [15] (fun ii wr => ∃ i : Nat, i ≤ n ∧ ii = .int .i64 i ∧ (∀ j, j < i → rok (p j) (q j)) ∧ Below w.heap.size w wr) (fun ii _ => n - (intOf ii).toNat)
  case atStart => exact ⟨0, by omega, rfl, fun j hj => by omega, Below.refl _ _⟩
  case round =>
    obtain ⟨i, hi, rfl, hz, hB⟩ := hrel
    by_cases hin : i < n
    · have H2 := (zA HH).bw hB
      have g0 := H2.c0 i hin
      have g1 := H2.c1 i hin
      have hi1 : (i : Int) < (n : Int) := by omega
      have HZ := zC hz
      clear hz H2
      by_cases hc : rok (p i) (q i)
      · have hc' : decide (rok (p i) (q i)) = true := by simpa using hc
        have HC := zC hc
        clear hc
        go_wp2_with (go_at_call 118; refine (zQ _ _ _).mono ?_; rintro r w1 ⟨rfl, hb1⟩; rw [hc'])
        go_roundw
        case rel => exact ⟨i + 1, by omega, by go_num, fun j hj => by
                            by_cases hji : j = i
                            · subst hji; exact zA HC
                            · exact zA HZ j (by omega), zB (zO hB _) hb1⟩
        case measure => simp [intOf]; omega
      · have hc' : decide (rok (p i) (q i)) = false := by simpa using hc
        have HC := zC hc
        clear hc
        go_wp2_with (go_at_call 118; refine (zQ _ _ _).mono ?_; rintro r w1 ⟨rfl, hb1⟩; rw [hc'])
        go_ret
        exact ⟨3, rfl, Or.inr ⟨rfl, fun ⟨_, h2⟩ => zA HC (h2 i hin)⟩, zB (zO hB _) hb1⟩
    · have hiE : i = n := by omega
      subst hiE
      have HZ := zC hz
      clear hz hin hi
      go_wp2
      go_ret
      exact ⟨0, rfl, Or.inl ⟨rfl, ⟨by omega, by omega⟩, zA HZ⟩, hB⟩
def zD7 (w:World) (b:Int) (k:Nat) (lo hi er:Int) (r:Ending) (w':World):Prop :=
 ∃ s:Sp,r=.returned (.tuple #[.agg s.q,.int .i64 er])/\s.bits=b/\SpAt w' s k lo hi/\Below w.heap.size w w'
theorem zEN (w:World) (k:Nat):IntAt w false none 0 0 k 0 :=
 ⟨λ _=>0,⟨λ h=>by omega,λ _=>⟨by simp,by simp⟩,Yj _,by omega⟩,Or.inl rfl,λ _=>rfl,by omega,by simp[sgn,V]⟩
theorem zeroSp (w:World) (k:Nat):SpAt w ⟨false,none,0,0,false,none,0,0,0⟩ k 0 0:=⟨zEN w k,zEN w k⟩
theorem rats1 (w:World) (p q:Int) (T:TypeId):Rats (w.alloc (.cells #[.int .i64 p,.int .i64 q] T)) w.heap.size 1 (λ _=>p) (λ _=>q):=by
 refine⟨by simp,?_,?_⟩
 all_goals
  intro j hj
  match j,hj with
  | 0,_=>simp
theorem zCF (bt:Int) (w:World) (B:Nat) (hB:w.heap.size=B) (p q:Int) (T:TypeId) (cap:Nat) :
  Calls Tryz.prog 74 #[.int .i64 bt,.slice (some ⟨B,0,none⟩) 1 cap] (w.alloc (.cells #[.int .i64 p,.int .i64 q] T)) λ r w' =>
   r=.returned (.int .i64 (zD0 p q bt))/\Below w.heap.size w w':=by
 subst hB
 exact (zF8 bt w.heap.size 1 cap (λ _=>p) (λ _=>q) _ (rats1 w p q T) (by omega)).mono λ r w' ⟨z,h1,h2,h3⟩=>by
  refine⟨?_,(bl1 _ _).trans (h3.mono (by simp))⟩
  rw[h1];unfold zD0
  rcases h2 with⟨rfl,h4,h5⟩|⟨rfl,h4⟩
  ·rw[if_pos ⟨h5 0 (by omega),h4⟩]
  ·rw[if_neg (λ ⟨h5,h6⟩=>h4 ⟨h6,λ _ _=>h5⟩)]
theorem zF3 (w:World) (s t:Sp) (k:Nat) (lo hi lo' hi':Int) (hs:SpAt w s k lo hi) (ht:SpAt w t k lo' hi') (hk:k<=700000000) :
  Calls Tryz.prog 51 #[.agg s.q,.agg t.q] w (zL w s.bits (k+1) (lo+lo') (hi+hi')):=by
 have lI:w.heap.size≠w.heap.size+1+1:=by omega
 have lJ:w.heap.size+1+1≠w.heap.size:=by omega
 have le2:w.heap.size<=w.heap.size+1+1:=by omega
 go_enter Tryz.func51,Tryz.ntmps51
 go_wp2
 go_region_held3 (λ w'=>cK w' w.heap.size s (w'.cell? ⟨w.heap.size+1,0,none⟩=some (.bool t.ln)/\w'.cell? ⟨w.heap.size+1,1,none⟩=some (.slice t.la t.lN t.lc)/\w'.cell? ⟨w.heap.size+1,2,none⟩=some (.bool t.hn)/\w'.cell? ⟨w.heap.size+1,3,none⟩=some (.slice t.ha t.hN t.hc))) ((dsimp only[cK,cK0,nK,nK0,rK,rK0];go_keep))
  (first
   | (go_at_call 32;have hq:=b9;refine (zBN _ _ _ _ _ _ _ _ k k hi hi' _ (hs.hi.bw (zB (bl3 _ _ _ _).drew b9)) (ht.hi.bw (zB (bl3 _ _ _ _).drew b9)) (by omega) (by omega)).mono ?_;rintro r w2 ⟨j7,a2,n2,c2,rfl,A8,j5⟩;obtain⟨p9,B8,B7⟩:=zU (w.heap.size+1+1+1) j8 j5)
   | (go_at_call 32;refine (zBN _ _ _ _ _ _ _ _ k k lo lo' _ (hs.lo.bw (bl3 _ _ _ _).drew) (ht.lo.bw (bl3 _ _ _ _).drew) (by omega) (by omega)).mono ?_;rintro r w1 ⟨o7,a1,n1,c1,rfl,s9,b9⟩;obtain⟨j8,D7,A9⟩:=zU (w.heap.size+1+1+1) (by simp) b9))
 go_wp2;have q0:w2.cell? ⟨w.heap.size+1+1,0,none⟩=some (.bool false):=by simp[B8,D7,go_sem]
 have q1:w2.cell? ⟨w.heap.size+1+1,1,none⟩=some (.slice none 0 0):=by simp[B8,D7,go_sem]
 have q2:w2.cell? ⟨w.heap.size+1+1,2,none⟩=some (.bool false):=by simp[B8,D7,go_sem]
 have q3:w2.cell? ⟨w.heap.size+1+1,3,none⟩=some (.slice none 0 0):=by simp[B8,D7,go_sem]
 have q4:w2.cell? ⟨w.heap.size+1+1,4,none⟩=some (.int .i64 0):=by simp[B8,D7,go_sem]
 refine bodyPost_ret (v:=.agg #[.bool o7,.slice a1 n1 c1,.bool j7,.slice a2 n2 c2,.int .i64 s.bits]) (by simp[results,Tryz.results51,go_sem,q0,q1,q2,q3,q4]) rfl ⟨⟨o7,a1,n1,c1,j7,a2,n2,c2,s.bits⟩,rfl,rfl,?_,?_⟩
 ·exact SpAt.put5 ⟨(s9.bw j5).mono (by omega),A8.mono (by omega)⟩ q0 q1 q2 q3 q4 _ _ _ _ _
 ·exact kM (zB (zB (bl3 _ _ _ _).drew b9) j5) le2 _ _ _ _ _
theorem lenZ_le (n:Nat) (d:Nat->Int):lenZ n d<=16*n:=by
 unfold lenZ;have:=blenF_bd 16 (d (n-1));split<;>omega
theorem blenF_Q (f:Nat):∀ x:Int,0<x->x<Q f->∃ b:Nat,zCN f x=(b:Int)+1/\Q b<=x/\x<Q (b+1):=by
 induction f with
 | zero=>intro x h0 h1;simp[Q] at h1;omega
 | succ f ih =>
  intro x h0 h1
  have hx:¬ x<=0:=by omega
  simp only[zCN,hx,if_false];simp only[Q] at h1
  by_cases h2:x/2=0
  ·refine⟨0,?_,by simp[Q];omega,by simp[Q];omega⟩
   rw[h2];cases f<;>simp[zCN]
  ·obtain⟨b,e1,e2,e3⟩:=ih (x/2) (by omega) (by omega)
   refine⟨b+1,by rw[e1];omega,?_,?_⟩
   ·simp only[Q];omega
   ·simp only[Q] at *;omega
theorem lenZ_Q {d:Nat->Int} (hd:Dgs d) {n:Nat} (hn:0<n) (ht:d (n-1)≠0):∃ L:Nat,lenZ n d=(L:Int)+1/\Q L<=V d n/\V d n<Q (L+1):=by
 obtain⟨m,rfl⟩:∃ m,n=m+1:=⟨n-1,by omega⟩
 simp only[Nat.add_sub_cancel] at ht;have hx:=hd m;obtain⟨b,e1,e2,e3⟩:=blenF_Q 16 (d m) (by omega) (by rw[Q16];omega)
 refine⟨16*m+b,?_,?_,?_⟩
 ·unfold lenZ;rw[if_neg (by omega)];simp only[Nat.add_sub_cancel];rw[e1];omega
 ·rw[jI,Q_P];simp only[V]
  have h1:=jD hd m;have h2:P m*Q b<=P m*d m:=Yi e2 (by have:=kY m;omega)
  rw[Int.mul_comm (d m)];omega
 ·rw[show 16*m+b+1=16*m+(b+1) by omega,jI,Q_P];simp only[V]
  have h1:=zGX hd m;have h2:P m*(d m+1)<=P m*Q (b+1):=Yi (by omega) (by have:=kY m;omega)
  rw[Int.mul_add,Int.mul_one] at h2;rw[Int.mul_comm (d m)];omega
theorem zQR {a x:Int} (hx:0<x):a<((x+a/x)/2+1)*((x+a/x)/2+1):=by
 obtain⟨t,ht⟩:∃ t,t=a/x:=⟨_,rfl⟩;obtain⟨y,hy⟩:∃ y,y=(x+t)/2:=⟨_,rfl⟩;rw[<- ht,<- hy]
 have h1:a<(t+1)*x:=by
  have h2:=Int.mul_ediv_add_emod a x;have h3:=Int.emod_lt_of_pos a hx;rw[<- ht] at h2;rw[Int.add_mul,Int.one_mul,Int.mul_comm t x];omega
 have h4:(x+t+1)*x<=(2*y+2)*x:=Yg (by omega) (by omega)
 have h5:0<=(y+1-x)*(y+1-x):=by
  rcases Int.le_total 0 (y+1-x) with h|h
  ·exact Yl h h
  ·exact Int.mul_nonneg_of_nonpos_of_nonpos h h
 have h6:(y+1-x)*(y+1-x)=(y+1)*(y+1)-2*((y+1)*x)+x*x:=by
  rw[Int.sub_mul,Int.mul_sub,Int.mul_sub,Int.mul_comm x (y+1)];omega
 have h7:(2*y+2)*x=2*((y+1)*x):=by rw[<- Int.mul_assoc];congr 1;omega
 have h8:(x+t+1)*x=x*x+(t+1)*x:=by rw[<- Int.add_mul];congr 1;omega
 omega
theorem zND {a x:Int} (hx:0<x) (ha:0<=a) (h:x<=(x+a/x)/2):x*x<=a:=by
 have h1:x<=a/x:=by omega
 have h2:=Int.mul_ediv_add_emod a x;have h3:=Int.emod_nonneg a (show x≠0 by omega)
 have h4:=Yi h1 (show 0<=x by omega)
 omega
theorem zI2 {x y:Int} (hx:0<=x) (hy:0<=y) (h:x*x<y*y):x<y:=by
 rcases Int.lt_or_le x y with h1|h1
 ·exact h1
 ·have:=Int.mul_le_mul h1 h1 hy hx;omega
theorem zRM {a x y:Int} (hx:0<=x) (hy:0<=y) (h1:x*x<=a) (h2:a<(x+1)*(x+1)) (h3:y*y<=a) (h4:a<(y+1)*(y+1)):x=y:=by
 have:=zI2 hx (show 0<=y+1 by omega) (by omega)
 have:=zI2 hy (show 0<=x+1 by omega) (by omega)
 omega
structure SpC (w:World) (B:Nat) (s:Sp):Prop where
 c0:w.cell? ⟨B,0,none⟩=some (.bool s.ln)
 c1:w.cell? ⟨B,1,none⟩=some (.slice s.la s.lN s.lc)
 c2:w.cell? ⟨B,2,none⟩=some (.bool s.hn)
 c3:w.cell? ⟨B,3,none⟩=some (.slice s.ha s.hN s.hc)
 c4:w.cell? ⟨B,4,none⟩=some (.int .i64 s.bits)
theorem SpC.lt {w:World} {B:Nat} {s:Sp} (h:SpC w B s):B<w.heap.size:=World.block_lt_of_cell? w ⟨B,0,none⟩ h.c0
theorem SpC.bw {w w':World} {B:Nat} {s:Sp} (h:SpC w B s) (hb:Below w.heap.size w w'):SpC w' B s :=
 ⟨(hb.cell (p:=⟨B,0,none⟩) h.lt).trans h.c0,(hb.cell (p:=⟨B,1,none⟩) h.lt).trans h.c1,(hb.cell (p:=⟨B,2,none⟩) h.lt).trans h.c2,(hb.cell (p:=⟨B,3,none⟩) h.lt).trans h.c3,(hb.cell (p:=⟨B,4,none⟩) h.lt).trans h.c4⟩
theorem zDM (w:World) (s:Sp) (T:TypeId):SpC (w.alloc (.cells s.q T)) w.heap.size s:=⟨by simp,by simp,by simp,by simp,by simp⟩
structure NoC (w:World) (B:Nat):Prop where
 c0:w.cell? ⟨B,0,none⟩=some (.bool false)
 c1:w.cell? ⟨B,1,none⟩=some (.slice none 0 0)
 c2:w.cell? ⟨B,2,none⟩=some (.bool false)
 c3:w.cell? ⟨B,3,none⟩=some (.slice none 0 0)
 c4:w.cell? ⟨B,4,none⟩=some (.int .i64 0)
 fz:∀ o,w.frozen? ⟨B,o,none⟩=false
theorem NoC.lt {w:World} {B:Nat} (h:NoC w B):B<w.heap.size:=World.block_lt_of_cell? w ⟨B,0,none⟩ h.c0
theorem NoC.bw {w w':World} {B:Nat} (h:NoC w B) (hb:Below w.heap.size w w'):NoC w' B :=
 ⟨(hb.cell (p:=⟨B,0,none⟩) h.lt).trans h.c0,(hb.cell (p:=⟨B,1,none⟩) h.lt).trans h.c1,(hb.cell (p:=⟨B,2,none⟩) h.lt).trans h.c2,(hb.cell (p:=⟨B,3,none⟩) h.lt).trans h.c3,(hb.cell (p:=⟨B,4,none⟩) h.lt).trans h.c4,λ o=>(hb.frozen (p:=⟨B,o,none⟩) h.lt).trans (h.fz o)⟩
theorem zS (w:World) (T:TypeId):NoC (w.alloc (.cells zCq T)) w.heap.size:=⟨by simp,by simp,by simp,by simp,by simp,λ o=>by simp[go_sem]⟩
theorem SpAt.mono {w:World} {s:Sp} {k k':Nat} {lo hi:Int} (h:SpAt w s k lo hi) (hk:k<=k'):SpAt w s k' lo hi:=⟨h.lo.mono hk,h.hi.mono hk⟩
theorem zCY (w:World) (s:Sp) (k:Nat) (lo hi:Int) (hs:SpAt w s k lo hi) (hk:k<=700000000) :
  Calls Tryz.prog 139 #[.agg s.q] w (zL w s.bits k (-hi) (-lo)):=by
 go_enter Tryz.func139,Tryz.ntmps139
 go_wp2
 go_region_held3 (λ w'=>cK0 w' w.heap.size s) ((dsimp only[cK,cK0,nK,nK0,rK,rK0];go_keep))
  (first
   | (go_at_call 87;have hq:=b9;refine (zCV _ _ _ _ k lo _ (hs.lo.bw (zB (bl2 _ _ _).drew b9)) (by omega)).mono ?_;rintro r w2 ⟨j7,a2,n2,c2,rfl,A8,j5⟩;obtain⟨p9,B8,B7⟩:=zU (w.heap.size+1+1) j8 j5)
   | (go_at_call 87;refine (zCV _ _ _ _ k hi _ (hs.hi.bw (bl2 _ _ _).drew) (by omega)).mono ?_;rintro r w1 ⟨o7,a1,n1,c1,rfl,s9,b9⟩;obtain⟨j8,D7,A9⟩:=zU (w.heap.size+1+1) (by simp) b9))
 go_wp2;have q0:w2.cell? ⟨w.heap.size+1,0,none⟩=some (.bool false):=by simp[B8,D7,go_sem]
 have q1:w2.cell? ⟨w.heap.size+1,1,none⟩=some (.slice none 0 0):=by simp[B8,D7,go_sem]
 have q2:w2.cell? ⟨w.heap.size+1,2,none⟩=some (.bool false):=by simp[B8,D7,go_sem]
 have q3:w2.cell? ⟨w.heap.size+1,3,none⟩=some (.slice none 0 0):=by simp[B8,D7,go_sem]
 have q4:w2.cell? ⟨w.heap.size+1,4,none⟩=some (.int .i64 0):=by simp[B8,D7,go_sem]
 refine bodyPost_ret (v:=.agg #[.bool o7,.slice a1 n1 c1,.bool j7,.slice a2 n2 c2,.int .i64 s.bits]) (by simp[results,Tryz.results139,go_sem,q0,q1,q2,q3,q4]) rfl ⟨⟨o7,a1,n1,c1,j7,a2,n2,c2,s.bits⟩,rfl,rfl,?_,?_⟩
 ·exact SpAt.put5 ⟨s9.bw j5,A8⟩ q0 q1 q2 q3 q4 _ _ _ _ _
 ·exact kM (zB (zB (bl2 _ _ _).drew b9) j5) (Nat.le_succ _) _ _ _ _ _
theorem zKM (w:World) (s t:Sp) (k:Nat) (lo hi lo' hi':Int) (hs:SpAt w s k lo hi) (ht:SpAt w t k lo' hi') (hk:k<=600000000) :
  Calls Tryz.prog 92 #[.agg s.q,.agg t.q] w (zL w s.bits (k+1) (lo-hi') (hi-lo')):=by
 have lI:w.heap.size≠w.heap.size+1+1:=by omega
 have lJ:w.heap.size+1+1≠w.heap.size:=by omega
 have le2:w.heap.size<=w.heap.size+1+1:=by omega
 go_enter Tryz.func92,Tryz.ntmps92
 go_wp2
 go_region_held3 (λ w'=>cK w' w.heap.size s (cK0 w' (w.heap.size+1) t)) ((dsimp only[cK,cK0,nK,nK0,rK,rK0];go_keep))
  (first
   | (go_at_call 139;refine (zCY _ t k lo' hi' (ht.bw (bl3 _ _ _ _).drew) (by omega)).mono ?_;rintro r w1 ⟨u,rfl,D5,B9,b9⟩;have G3:=zC D5;clear D5;obtain⟨j8,D7,A9⟩:=zU (w.heap.size+1+1+1) (by simp) b9)
   | (go_at_call 51;refine (zF3 _ s u k lo hi (-hi') (-lo') (hs.bw (zB (bl3 _ _ _ _).drew b9)) B9 (by omega)).mono ?_;rintro r w2 ⟨v,rfl,J1,I6,j5⟩;have EJ:=zC J1;clear J1;obtain⟨p9,B8,B7⟩:=zU (w.heap.size+1+1+1) j8 j5))
 go_wp2;have q0:w2.cell? ⟨w.heap.size+1+1,0,none⟩=some (.bool false):=by simp[B8,D7,go_sem]
 have q1:w2.cell? ⟨w.heap.size+1+1,1,none⟩=some (.slice none 0 0):=by simp[B8,D7,go_sem]
 have q2:w2.cell? ⟨w.heap.size+1+1,2,none⟩=some (.bool false):=by simp[B8,D7,go_sem]
 have q3:w2.cell? ⟨w.heap.size+1+1,3,none⟩=some (.slice none 0 0):=by simp[B8,D7,go_sem]
 have q4:w2.cell? ⟨w.heap.size+1+1,4,none⟩=some (.int .i64 0):=by simp[B8,D7,go_sem]
 refine bodyPost_ret (v:=.agg v.q) (by simp[results,Tryz.results92,go_sem,q0,q1,q2,q3,q4]) rfl ⟨v,rfl,zA EJ,?_,?_⟩
 ·rw[Int.sub_eq_add_neg,Int.sub_eq_add_neg]
  exact SpAt.put5 I6 q0 q1 q2 q3 q4 _ _ _ _ _
 ·exact kM (zB (zB (bl3 _ _ _ _).drew b9) j5) le2 _ _ _ _ _
theorem zEA (neg:Bool) (a:Option Addr) (n cap k1:Nat) (k x:Int) (w:World) (h1:IntAt w neg a n cap k1 x) (V5:k1<=900000000) (dH : -1000000000<=k) (hk:k<=1000000000) :
  Calls Tryz.prog 120 #[.agg #[.bool neg,.slice a n cap],.int .i64 k] w λ r w' =>
   ∃ j9 a' n' m9,r=.returned (.agg #[.bool j9,.slice a' n' m9])/\IntAt w' j9 a' n' m9 ((-k).toNat/16+k1+5) (-(zCR (-x) k))/\Below w.heap.size w w':=by
 go_enter Tryz.func120,Tryz.ntmps120
 go_wp2_with (first
  | (go_at_call 87;have hq:=j5;refine (zCV _ _ _ _ ((-k).toNat/16+k1+5) _ _ A8 (by omega)).mono ?_;rintro r w3 ⟨C7,a3,n3,c3,rfl,E8,m8⟩;obtain⟨I9,ao,T4⟩:=zU (w.heap.size+1+1) p9 m8)
  | (go_at_call 87;refine (zCV _ _ _ _ k1 x _ (h1.bw (bl2 _ _ _)) (by omega)).mono ?_;rintro r w1 ⟨o7,a1,n1,c1,rfl,s9,b9⟩;obtain⟨j8,D7,A9⟩:=zU (w.heap.size+1+1) (by simp) b9)
  | (go_at_call 96;refine (zK2 _ _ _ _ k1 k (-x) _ s9 (by omega) dH hk).mono ?_;rintro r w2 ⟨j7,a2,n2,c2,rfl,A8,j5⟩;obtain⟨p9,B8,B7⟩:=zU (w.heap.size+1+1) j8 j5))
 have h0:w3.cell? ⟨w.heap.size+1,0,none⟩=some (.bool false):=by simp[ao,B8,D7,go_sem]
 have I7:w3.cell? ⟨w.heap.size+1,1,none⟩=some (.slice none 0 0):=by simp[ao,B8,D7,go_sem]
 refine bodyPost_ret (v:=.agg #[.bool C7,.slice a3 n3 c3]) (by simp[results,Tryz.results120,go_sem,h0,I7]) rfl ⟨C7,a3,n3,c3,rfl,E8.put2 h0 I7 _ _,?_⟩
 exact ((zB (zB (zB (bl2 _ _ _) b9) j5) m8).setCell (p:=⟨w.heap.size+1,0,none⟩) (Nat.le_succ _) _).setCell (p:=⟨w.heap.size+1,1,none⟩) (Nat.le_succ _) _
theorem zJV (w:World) (s t:Sp) (k:Nat) (lo hi lo' hi':Int) (hs:SpAt w s k lo hi) (ht:SpAt w t k lo' hi') (hk:k<=300000000) :
  Calls Tryz.prog 152 #[.agg s.q,.agg t.q,.func (.func 83) #[] #[]] w λ r w' =>
   ∃ B f,r=.returned (.slice (some ⟨B,0,none⟩) 4 4)/\Nums w' B 4 (k+k) f (pr4 (lo*lo') (lo*hi') (hi*lo') (hi*hi'))/\Below w.heap.size w w':=by
 obtain⟨W,hW⟩:∃ W,W=(w.alloc (.cells s.q 31)).alloc (.cells t.q 31):=⟨_,rfl⟩;have j6:Below w.heap.size w W:=by rw[hW];exact bl2 _ _ _
 have a0:SpC W w.heap.size s:=by rw[hW];constructor<;>simp[go_sem]
 have g0:SpC W (w.heap.size+1) t:=by rw[hW];constructor<;>simp[go_sem]
 have HS:=zC (hs.bw j6);have HT:=zC (ht.bw j6);have D9:Below W.heap.size W W.drew:=(Below.refl _ _).drew
 have HK:=zC (show ∀ w',Below W.heap.size W w'->(w'.cell? ⟨w.heap.size,0,none⟩=some (.bool s.ln)/\w'.cell? ⟨w.heap.size,1,none⟩=some (.slice s.la s.lN s.lc)/\w'.cell? ⟨w.heap.size,2,none⟩=some (.bool s.hn)/\w'.cell? ⟨w.heap.size,3,none⟩=some (.slice s.ha s.hN s.hc)/\w'.cell? ⟨w.heap.size+1,0,none⟩=some (.bool t.ln)/\w'.cell? ⟨w.heap.size+1,1,none⟩=some (.slice t.la t.lN t.lc)/\w'.cell? ⟨w.heap.size+1,2,none⟩=some (.bool t.hn)/\w'.cell? ⟨w.heap.size+1,3,none⟩=some (.slice t.ha t.hN t.hc)) from λ w' hB=>by
  obtain⟨x0,x1,x2,x3,x4⟩:=a0.bw hB;obtain⟨y0,y1,y2,y3,y4⟩:=g0.bw hB
  exact⟨x0,x1,x2,x3,y0,y1,y2,y3⟩)
 go_enter Tryz.func152,Tryz.ntmps152
 go_wp2;obtain⟨x0,x1,x2,x3,x4⟩:=a0;obtain⟨y0,y1,y2,y3,y4⟩:=g0;rw[<- hW];clear hW
 go_region_held3 (λ w'=>w'.cell? ⟨w.heap.size,0,none⟩=some (.bool s.ln)/\w'.cell? ⟨w.heap.size,1,none⟩=some (.slice s.la s.lN s.lc)/\w'.cell? ⟨w.heap.size,2,none⟩=some (.bool s.hn)/\w'.cell? ⟨w.heap.size,3,none⟩=some (.slice s.ha s.hN s.hc)/\w'.cell? ⟨w.heap.size+1,0,none⟩=some (.bool t.ln)/\w'.cell? ⟨w.heap.size+1,1,none⟩=some (.slice t.la t.lN t.lc)/\w'.cell? ⟨w.heap.size+1,2,none⟩=some (.bool t.hn)/\w'.cell? ⟨w.heap.size+1,3,none⟩=some (.slice t.ha t.hN t.hc)) (exact zA HK _ (by first|exact D9|exact zO H6 _|exact H6|exact D6|exact A7|exact C9))
  (first
   | (go_at_call 83;have hq:=D6;refine (jA _ _ _ _ _ _ _ _ k k hi hi' _ ((zA HS).hi.bw D6) ((zA HT).hi.bw D6) (by omega) (by omega)).mono ?_;rintro r w4 ⟨E5,a4,n4,c4,rfl,H8,A5⟩;have s9:=s9.bw A5;have A8:=A8.bw A5;have E8:=E8.bw A5;have H6:=zB D6 A5)
   | (go_at_call 83;have hq:=A7;refine (jA _ _ _ _ _ _ _ _ k k hi lo' _ ((zA HS).hi.bw A7) ((zA HT).lo.bw A7) (by omega) (by omega)).mono ?_;rintro r w3 ⟨C7,a3,n3,c3,rfl,E8,m8⟩;have s9:=s9.bw m8;have A8:=A8.bw m8;have D6:=zB A7 m8)
   | (go_at_call 83;have hq:=C9;refine (jA _ _ _ _ _ _ _ _ k k lo hi' _ ((zA HS).lo.bw C9) ((zA HT).hi.bw C9) (by omega) (by omega)).mono ?_;rintro r w2 ⟨j7,a2,n2,c2,rfl,A8,j5⟩;have s9:=s9.bw j5;have A7:=zB C9 j5)
   | (go_at_call 83;have hq:=D9;refine (jA _ _ _ _ _ _ _ _ k k lo lo' _ ((zA HS).lo.bw D9) ((zA HT).lo.bw D9) (by omega) (by omega)).mono ?_;rintro r w1 ⟨o7,a1,n1,c1,rfl,s9,b9⟩;have C9:=zB D9 b9))
 go_wp2
 go_ret
 exact⟨w4.heap.size,pr4 ⟨o7,a1,n1,c1⟩ ⟨j7,a2,n2,c2⟩ ⟨C7,a3,n3,c3⟩ ⟨E5,a4,n4,c4⟩,rfl,nums4 w4 _ rfl ⟨o7,a1,n1,c1⟩ ⟨j7,a2,n2,c2⟩ ⟨C7,a3,n3,c3⟩ ⟨E5,a4,n4,c4⟩ _ _ _ _ _ _ s9 A8 E8 H8,zB j6 (zO H6 _)⟩
theorem zKL (w:World) (s t:Sp) (k:Nat) (lo hi lo' hi':Int) (hs:SpAt w s k lo hi) (ht:SpAt w t k lo' hi') (hk:k<=300000000) (E6:0<=s.bits) (rN:s.bits<=1000000) :
  Calls Tryz.prog 124 #[.agg s.q,.agg t.q] w (zL w s.bits (k+k+8) (zCR (kI (pr4 (lo*lo') (lo*hi') (hi*lo') (hi*hi')) 3) s.bits) (-(zCR (-(zAP (pr4 (lo*lo') (lo*hi') (hi*lo') (hi*hi')) 3)) s.bits))):=by
 have hbz:(-s.bits).toNat=0:=by omega
 have lI:w.heap.size≠w.heap.size+1+1:=by omega
 have lJ:w.heap.size+1+1≠w.heap.size:=by omega
 obtain⟨W,hW⟩:∃ W,W=((w.alloc (.cells s.q 31)).alloc (.cells t.q 31)).alloc (.cells zCq 31):=⟨_,rfl⟩;have j6:Below w.heap.size w W:=by rw[hW];exact bl3 _ _ _ _
 have a0:SpC W w.heap.size s:=by rw[hW];constructor<;>simp[go_sem]
 have g0:SpC W (w.heap.size+1) t:=by rw[hW];constructor<;>simp[go_sem]
 have r0:NoC W (w.heap.size+1+1):=by rw[hW];constructor<;>simp[go_sem]
 have HS:=zC (hs.bw j6);have HT:=zC (ht.bw j6);have D9:Below W.heap.size W W.drew:=(Below.refl _ _).drew
 have HK:=zC (show ∀ w',Below W.heap.size W w'->(w'.cell? ⟨w.heap.size,0,none⟩=some (.bool s.ln)/\w'.cell? ⟨w.heap.size,1,none⟩=some (.slice s.la s.lN s.lc)/\w'.cell? ⟨w.heap.size,2,none⟩=some (.bool s.hn)/\w'.cell? ⟨w.heap.size,3,none⟩=some (.slice s.ha s.hN s.hc)/\w'.cell? ⟨w.heap.size+1,0,none⟩=some (.bool t.ln)/\w'.cell? ⟨w.heap.size+1,1,none⟩=some (.slice t.la t.lN t.lc)/\w'.cell? ⟨w.heap.size+1,2,none⟩=some (.bool t.hn)/\w'.cell? ⟨w.heap.size+1,3,none⟩=some (.slice t.ha t.hN t.hc)) from λ w' hB=>by
  obtain⟨x0,x1,x2,x3,x4⟩:=a0.bw hB;obtain⟨y0,y1,y2,y3,y4⟩:=g0.bw hB
  exact⟨x0,x1,x2,x3,y0,y1,y2,y3⟩)
 go_enter Tryz.func124,Tryz.ntmps124
 go_wp2_with fail;rw[<- hW];clear hW;refine (zJV _ s t k lo hi lo' hi' (zA HS) (zA HT) hk).mono ?_;rintro r w1 ⟨B,f,rfl,hN,b9⟩;have P1:=r0.bw b9;have ak:=P1.lt;obtain⟨x0,x1,x2,x3,x4⟩:=a0.bw b9;have a1:SpC w1 w.heap.size s:=⟨x0,x1,x2,x3,x4⟩;have vJ:=zC (show ∀ w',Below w1.heap.size w1 w'->w'.cell? ⟨w.heap.size,4,none⟩=some (.int .i64 s.bits) from λ w' hB=>(a1.bw hB).c4)
 have D8:Below w1.heap.size w1 w1.drew:=(Below.refl _ _).drew;clear x0 x1 x2 x3;go_wp2_with fail
 go_region_held3 (λ w'=>w'.cell? ⟨w.heap.size,4,none⟩=some (.int .i64 s.bits)) (first|exact zA vJ _ (by first|exact D8|exact fq|exact J0|exact G6|exact A6)|go_keep)
  (first
   | (go_at_call 153;refine (zEF _ 3 _ (k+k) f _ _ (hN.bw D8) (by omega) (by omega)).mono ?_;rintro r w2 ⟨j7,a2,n2,c2,rfl,A8,j5⟩;have A6:=zB D8 j5)
   | (go_at_call 96;refine (zK2 _ _ _ _ (k+k+1) s.bits _ _ A8 (by omega) (by omega) (by omega)).mono ?_;rintro r w3 ⟨C7,a3,n3,c3,rfl,E8,m8⟩;have G6:=zB A6 m8)
   | (go_at_call 150;refine (zHL _ 3 _ (k+k) f _ _ (hN.bw G6) (by omega) (by omega)).mono ?_;rintro r w4 ⟨E5,a4,n4,c4,rfl,H8,A5⟩;have E8:=E8.bw A5;have J0:=zB G6 A5)
   | (go_at_call 120;refine (zEA _ _ _ _ (k+k+1) s.bits _ _ H8 (by omega) (by omega) (by omega)).mono ?_;rintro r w5 ⟨L8,a5,n5,c5,rfl,T8,E4⟩;have E8:=E8.bw E4;have fq:=zB J0 E4;obtain⟨q0,q1,q2,q3,q4,q5⟩:=P1.bw fq;have x5:=zA vJ _ fq))
 go_wp2;refine bodyPost_ret (v:=.agg #[.bool C7,.slice a3 n3 c3,.bool L8,.slice a5 n5 c5,.int .i64 s.bits]) (by simp[results,Tryz.results124,go_sem,q0,q1,q2,q3,q4]) rfl ⟨⟨C7,a3,n3,c3,L8,a5,n5,c5,s.bits⟩,rfl,rfl,?_,?_⟩
 ·exact SpAt.put5 ⟨E8.mono (by omega),T8.mono (by omega)⟩ q0 q1 q2 q3 q4 _ _ _ _ _
 ·exact kM (zB (zB j6 b9) fq) (by omega) _ _ _ _ _
theorem yO {w:World} {B B' o:Nat} {v:Option Value} (h:w.cell? ⟨B,o,none⟩=v) (hne:B≠B') (u0 u1 u2 u3 u4:Value) :
  (((((w.setCell ⟨B',0,none⟩ u0).setCell ⟨B',1,none⟩ u1).setCell ⟨B',2,none⟩ u2).setCell ⟨B',3,none⟩ u3).setCell ⟨B',4,none⟩ u4).cell? ⟨B,o,none⟩=v:=by
 have ne:∀ i:Nat,(⟨B',i,none⟩:Addr)≠⟨B,o,none⟩:=λ i e=>hne (by injection e with e1;exact e1.symm)
 rw[World.cell?_setCell_other _ _ _ _ (ne 4),World.cell?_setCell_other _ _ _ _ (ne 3),World.cell?_setCell_other _ _ _ _ (ne 2),World.cell?_setCell_other _ _ _ _ (ne 1),World.cell?_setCell_other _ _ _ _ (ne 0)];exact h
theorem SpC.put {w:World} {B B':Nat} {s:Sp} (h:SpC w B s) (hne:B≠B') (u0 u1 u2 u3 u4:Value) :
  SpC (((((w.setCell ⟨B',0,none⟩ u0).setCell ⟨B',1,none⟩ u1).setCell ⟨B',2,none⟩ u2).setCell ⟨B',3,none⟩ u3).setCell ⟨B',4,none⟩ u4) B s :=
 ⟨yO h.c0 hne _ _ _ _ _,yO h.c1 hne _ _ _ _ _,yO h.c2 hne _ _ _ _ _,yO h.c3 hne _ _ _ _ _,yO h.c4 hne _ _ _ _ _⟩
structure NmC (w:World) (B:Nat) (x:Nm):Prop where
 c0:w.cell? ⟨B,0,none⟩=some (.bool x.neg)
 c1:w.cell? ⟨B,1,none⟩=some (.slice x.a x.n x.cap)
theorem NmC.lt {w:World} {B:Nat} {x:Nm} (h:NmC w B x):B<w.heap.size:=World.block_lt_of_cell? w ⟨B,0,none⟩ h.c0
theorem NmC.bw {w w':World} {B:Nat} {x:Nm} (h:NmC w B x) (hb:Below w.heap.size w w'):NmC w' B x :=
 ⟨(hb.cell (p:=⟨B,0,none⟩) h.lt).trans h.c0,(hb.cell (p:=⟨B,1,none⟩) h.lt).trans h.c1⟩
theorem zFW (w:World) (x:Nm) (T:TypeId):NmC (w.alloc (.cells x.q T)) w.heap.size x:=⟨by simp,by simp⟩
structure NoI (w:World) (B:Nat):Prop where
 c0:w.cell? ⟨B,0,none⟩=some (.bool false)
 c1:w.cell? ⟨B,1,none⟩=some (.slice none 0 0)
 fz:∀ o,w.frozen? ⟨B,o,none⟩=false
theorem NoI.lt {w:World} {B:Nat} (h:NoI w B):B<w.heap.size:=World.block_lt_of_cell? w ⟨B,0,none⟩ h.c0
theorem NoI.bw {w w':World} {B:Nat} (h:NoI w B) (hb:Below w.heap.size w w'):NoI w' B :=
 ⟨(hb.cell (p:=⟨B,0,none⟩) h.lt).trans h.c0,(hb.cell (p:=⟨B,1,none⟩) h.lt).trans h.c1,λ o=>(hb.frozen (p:=⟨B,o,none⟩) h.lt).trans (h.fz o)⟩
theorem zFZ {B B':Nat} {a w:World} (h:Below B a w) (hB:B<=B') (u0 u1:Value):Below B a ((w.setCell ⟨B',0,none⟩ u0).setCell ⟨B',1,none⟩ u1) :=
 (h.setCell (p:=⟨B',0,none⟩) hB u0).setCell (p:=⟨B',1,none⟩) hB u1
def zEO (w:World) (k:Nat) (z:Int) (r:Ending) (w':World):Prop :=
 ∃ j9 a' n' m9,r=.returned (.agg #[.bool j9,.slice a' n' m9])/\IntAt w' j9 a' n' m9 k z/\Below w.heap.size w w'
theorem kG (w:World) (T:TypeId):NoI (w.alloc (.cells #[.bool false,.slice none 0 0] T)) w.heap.size:=⟨by simp,by simp,λ o=>by simp[go_sem]⟩
def FzP (w:World) (p:Value):Prop:=∀ B,p=.pointer (some ⟨B,0,none⟩)->∀ o,w.frozen? ⟨B,o,none⟩=false
def RootOf (x z:Int):Prop:=0<=z/\(x<=0->z=0)/\(0<x->z*z<=x/\x<(z+1)*(z+1))
theorem IntAt.fit {w:World} {neg:Bool} {a:Option Addr} {n cap k K:Nat} {z:Int} (h:IntAt w neg a n cap k z) (h0:0<=z) (hz:z<P K):IntAt w neg a n cap K z:=by
 obtain⟨d,h1,h2,h3,h4,h5⟩:=h;refine⟨d,h1,h2,h3,?_,h5⟩;refine zGI h1.dgs h2 ?_;have:=jD h1.dgs n
 cases neg
 ·simp[sgn] at h5;omega
 ·simp[sgn] at h5;have:=kY K;omega
theorem zV (w:World) (a b:Addr) (v:Value):(w.setCell a v).frozen? b=w.frozen? b:=by simp[go_sem]
theorem jC (n:Int) (h1 : -9223372036854775808<=n) (h2:n<=9223372036854775807):IntKind.i64.wrap n=n:=by rw[IntKind.wrap_i64];omega
theorem zA5 (neg:Bool) (a:Option Addr) (n cap k:Nat) (x:Int) (w:World) (h:IntAt w neg a n cap k x) :
  Calls Tryz.prog 73 #[.agg #[.bool neg,.slice a n cap]] w λ r w'=>r=.returned (.int .i64 (zP x 0))/\Below w.heap.size w w':=by
 obtain⟨d,h1,h2,h3,h4,h5⟩:=h
 have e:zKA neg n=zP x 0:=by
  have hv:=jD h1.dgs n;unfold zKA zP
  by_cases hn:n=0
  ·subst hn
   have:x=0:=by rw[h5];cases neg<;>simp[sgn,V]
   subst this;simp
  ·have h6:=V_ge h1.dgs (n-1) (by omega)
   rw[show n-1+1=n by omega] at h6
   have:=kY (n-1);rw[if_neg hn]
   cases neg
   ·simp[sgn] at h5
    rw[if_neg (by simp),if_neg (by omega),if_pos (by omega)]
   ·simp[sgn] at h5
    rw[if_pos rfl,if_pos (by omega)]
 exact (zHS neg a n cap w h1.room).mono λ r w' ⟨p1,p2⟩=>⟨by rw[p1,e],p2⟩
theorem root_pos (neg:Bool) (a:Option Addr) (n cap k:Nat) (x:Int) (w:World) (h1:IntAt w neg a n cap k x) (hk:k<=100000000) (hx:0<x) :
  Calls Tryz.prog 206 #[.agg #[.bool neg,.slice a n cap]] w λ r w'=>∃ z,RootOf x z/\zEO w (k+10) z r w':=by
 obtain⟨d,g1,g2,g3,g4,g5⟩:=h1;have h1:IntAt w neg a n cap k x:=⟨d,g1,g2,g3,g4,g5⟩
 have hn:0<n:=by
  rcases Nat.eq_zero_or_pos n with h0|h0
  ·subst h0;cases neg<;>simp[sgn,V] at g5<;>omega
  ·exact h0
 have hxV:V d n=x:=by
  have:=jD g1.dgs n
  cases neg
  ·simpa [sgn] using g5.symm
  ·simp[sgn] at g5;omega
 obtain⟨l,l1,l2,l3⟩:=lenZ_Q g1.dgs hn (by omega)
 rw[hxV] at l2 l3;obtain⟨K0,FH⟩:∃ K0:Nat,((l:Int)+1)/2+1=(K0:Int):=⟨(l+1)/2+1,by omega⟩
 have Ad:l+1<=2*K0/\K0<=l+2:=by omega
 have hln:l+1<=16*n:=by have:=lenZ_le n d;omega
 have wJ:0<=(l:Int):=by omega
 have NL:(l:Int)<=1600000000:=by omega
 have ki:=zC (show IntKind.i64.wrap (IntKind.i64.wrap (((l:Int)+1).tdiv 2)+1)=(K0:Int) by
  rw[Int.tdiv_eq_ediv_of_nonneg (by omega),jC (((l:Int)+1)/2) (by omega) (by omega),jC _ (by omega) (by omega)]
  exact FH)
 have lq:=zF K0
 have Wd:x<Q K0*Q K0:=by
  rw[<- jI];have:=zK (show l+1<=K0+K0 by omega);omega
 have TN:Q K0<P (k+2):=by
  rw[<- Q_P];have h5:=zK (show K0+1<=16*(k+2) by omega)
  simp only[Q] at h5;omega
 have Rf:=zC (show x<(Q K0+1)*(Q K0+1) by
  have h5:(Q K0+1)*(Q K0+1)=Q K0*Q K0+2*Q K0+1:=by rw[Int.add_mul,Int.mul_add];omega
  omega)
 have t1:¬ zP x 0<=0:=by unfold zP;rw[if_neg (by omega),if_pos (by omega)];omega
 obtain⟨W,hW⟩:∃ W,W=(w.alloc (.cells #[.bool neg,.slice a n cap] 29)).alloc (.cells #[.bool false,.slice none 0 0] 29):=⟨_,rfl⟩;have j6:Below w.heap.size w W:=by rw[hW];exact bl2 _ _ _
 have A:NmC W w.heap.size ⟨neg,a,n,cap⟩:=by rw[hW];constructor<;>simp[go_sem]
 have R:NoI W (w.heap.size+1):=by rw[hW];constructor<;>simp[go_sem]
 have GD:=zC (g1.bw j6);have HX:=zC (h1.bw j6);have HL:=zC l1;have QM:=zC Ad;clear g1 h1 l1 hxV g5 Wd l2 l3 Ad
 go_enter Tryz.func206,Tryz.ntmps206
 go_wp2_with fail;rw[<- hW];clear hW;refine (zA5 _ _ _ _ k x _ (zA HX)).mono ?_;rintro r w0 ⟨rfl,E6⟩;replace A:=A.bw E6;replace R:=R.bw E6;replace j6:=zB j6 E6;replace GD:=zC ((zA GD).bw E6);replace HX:=zC ((zA HX).bw E6);have Er:=zC (show ∀ w',Below w0.heap.size w0 w'->(w'.cell? ⟨w.heap.size,0,none⟩=some (.bool neg)/\w'.cell? ⟨w.heap.size,1,none⟩=some (.slice a n cap)) from λ w' hB=>⟨(A.bw hB).c0,(A.bw hB).c1⟩)
 have lA:=A.lt;have lR:=R.lt;obtain⟨i0,i1⟩:=zA Er _ (Below.refl _ _);clear E6;go_wp2_with fail
 go_cut [3] (λ p wx=>VarAt wx p w0.heap.size (k+10) (1*Q K0)/\FzP wx p/\Below w0.heap.size w0 wx)
 case first =>
  go_region_held3 (λ w'=>w'.cell? ⟨w.heap.size,0,none⟩=some (.bool neg)/\w'.cell? ⟨w.heap.size,1,none⟩=some (.slice a n cap)) (exact zA Er _ (by repeat' (first|with_reducible exact cB|with_reducible exact W9|with_reducible exact Q0|with_reducible exact Below.refl _ _|with_reducible refine Below.drew ?_|with_reducible refine zO ?_ _|with_reducible refine Below.setCell ?_ (by first|exact Yj _|exact dQ|exact dR|exact dS) _)))
   (first
    | (go_at_call 116;have hq:=W9;rw[zA ki];refine (zB2 _ _ _ _ K0 4 1 _ (Y2.bw (by with_reducible first|exact Below.refl _ _|exact bl1 _ _)) (by omega) (by have:=zA QM;omega)).mono ?_;rintro r Iz ⟨jq,ES,Ik,EV,rfl,iJ,dh⟩;have Z4:Below mW.heap.size mW Iz:=(by with_reducible first|exact dh|exact zB (bl1 _ _) dh);have cB:=zB W9 Z4;(try with_reducible have zl:=(kG mW 29).bw dh);replace Y2:=Y2.bw Z4;(try replace fo:=fo.bw Z4);(try replace mj:=mj.bw Z4);have dS:=cB.size;(try have Bn:=fo.lt);(try have Tb:=Yo Bn);(try have Fi:=Nat.ne_of_gt Bn);(try obtain⟨Ky,Kz,KA⟩:=fo);(try have Bo:=mj.lt);(try have Tc:=Yo Bo);(try have Fj:=Nat.ne_of_gt Bo);(try obtain⟨KB,KC,KE⟩:=mj);(try have Bp:=zl.lt);(try have Td:=Yo Bp);(try have Fk:=Nat.ne_of_gt Bp);(try obtain⟨KG,KH,KI⟩:=zl))
    | (go_at_call 98;have hq:=Q0;refine (zPW _ _ _ _ d _ ((zA GD).bw (by with_reducible first|exact Q0|exact zO Q0 _))).mono ?_;rintro r mW ⟨rfl,cZ⟩;rw[zA HL];have cG:Below mV.heap.size mV mW:=(by with_reducible first|exact cZ|exact zB (bl1 _ _) cZ);have W9:=zB Q0 cG;(try with_reducible have mj:=(kG mV 29).bw cZ);replace Y2:=Y2.bw cG;(try replace fo:=fo.bw cG);have dR:=W9.size)
    | (go_at_call 33;refine (zE 1 _ (by decide) (by decide)).mono ?_;rintro r mV ⟨BJ,RO,Xd,Sk,rfl,Y2,cY⟩;have Q0:Below w0.heap.size w0 mV:=(by with_reducible first|exact zB (Below.refl _ _).drew cY|exact zB (bl1 _ _).drew cY);(try with_reducible have fo:=((kG w0 29).bw (Below.refl _ _).drew).bw cY);have dQ:=Q0.size))
  all_goals
   go_wp2_with fail;go_meet;refine⟨⟨_,⟨jq,ES,Ik,EV⟩,rfl,?_,?_,?_,?_,?_⟩,?_,?_⟩
   ·simp[go_sem, *]
   ·simp[go_sem, *]
   ·first|with_reducible exact IntAt.mono (iJ.bw (bl1 _ _)) (by omega)|with_reducible exact IntAt.mono (iJ.put2 (by assumption) (by assumption) _ _) (by omega)
   ·first|exact Yj _|exact dQ|exact dR|exact dS
   ·simp[World.setCell];try omega
   ·intro B hB o;cases hB;simp[go_sem, *]
   ·repeat' (first|with_reducible exact cB|with_reducible exact W9|with_reducible exact Q0|with_reducible exact Below.refl _ _|with_reducible refine Below.drew ?_|with_reducible refine zO ?_ _|with_reducible refine Below.setCell ?_ (by first|exact Yj _|exact dQ|exact dR|exact dS) _)
 case rest =>
 obtain⟨⟨BX,xX,rfl,Dv,Dw,Ak,CZ,hltX⟩,hfzX,hblX⟩:=hcut;have XX:NmC wc BX xX:=⟨Dv,Dw⟩;have F0:∀ o,wc.frozen? ⟨BX,o,none⟩=false:=hfzX BX rfl;replace A:=A.bw hblX;replace R:=R.bw hblX;replace j6:=zB j6 hblX;replace HX:=zC ((zA HX).bw hblX);rw[Int.one_mul] at Ak;have Va:=Ak.fit (by omega) TN
 have tz:w.heap.size≠BX:=Yo (Yn lA CZ);have nXA:BX≠w.heap.size:=λ e9=>tz e9.symm
 have hnXR:BX≠w.heap.size+1:=Nat.ne_of_gt (Yn lR CZ);have TD:w.heap.size<=BX:=by omega
 clear i0 i1 Er Ak Dv Dw HL ki GD;go_wp2_with fail
 go_loopg [4] (Q K0).toNat (λ gg p wr=>∃ (X:Nm) (z:Int),NmC wr BX X/\(∀ o,wr.frozen? ⟨BX,o,none⟩=false)/\IntAt wr X.neg X.a X.n X.cap (k+2) z/\0<z/\z<=Q K0/\z.toNat<=gg/\x<(z+1)*(z+1)/\NmC wr w.heap.size ⟨neg,a,n,cap⟩/\NoI wr (w.heap.size+1)/\IntAt wr neg a n cap k x/\Below w.heap.size w wr)
 case atStart=>exact⟨xX,Q K0,XX,F0,Va,by omega,Int.le_refl _,Yj _,zA Rf,A,R,zA HX,j6⟩
 case round =>
  obtain⟨X,z,hX,hF,hz,R0,hzq,hzg,On,A,R,yn,nH⟩:=hrel;obtain⟨yv,Ds⟩:∃ yv,yv=(z+x/z)/2:=⟨_,rfl⟩;have hxz:0<=x/z:=Int.ediv_nonneg (by omega) (by omega)
  have B9:x<(yv+1)*(yv+1):=by rw[Ds];exact zQR R0
  have tv:0<yv:=by
   rcases Int.lt_or_le 0 yv with h5|h5
   ·exact h5
   ·have h6:yv=0:=by omega
    rw[h6] at B9;omega
  have Rv:=zC (show (z+x/z)/Q 1=yv from Ds.symm)
  have Rk:=zC B9;have Rz:=zC On;have El:=zC (show z<=yv->z*z<=x from λ h=>zND R0 (by omega) (by rw[<- Ds];exact h))
  clear Ds B9 On;have hz:=zC hz;have yn:=zC yn;have T6:=zC (show ∀ w',Below wr.heap.size wr w'->(w'.cell? ⟨w.heap.size,0,none⟩=some (.bool neg)/\w'.cell? ⟨w.heap.size,1,none⟩=some (.slice a n cap)/\nK0 w' BX X) from λ w' hB=>⟨(A.bw hB).c0,(A.bw hB).c1,(hX.bw hB).c0,(hX.bw hB).c1⟩)
  have lA:=A.lt;have lX:=hX.lt;have lR:=R.lt;have nXR:BX≠w.heap.size+1:=hnXR;have Bz:w.heap.size+1≠BX:=λ e9=>nXR e9.symm
  obtain⟨i0,i1,i2,i3⟩:=zA T6 _ (Below.refl _ _);go_wp2_with fail
  go_cut [4] (λ p wx=>VarAt wx p wr.heap.size (k+20) ((z+x/z)/Q 1)/\Below wr.heap.size wr wx)
  case first =>
   go_region_held3 (λ w'=>w'.cell? ⟨w.heap.size,0,none⟩=some (.bool neg)/\w'.cell? ⟨w.heap.size,1,none⟩=some (.slice a n cap)/\nK0 w' BX X) (exact zA T6 _ (by repeat' (first|with_reducible exact aG|with_reducible exact X5|with_reducible exact Q1|with_reducible exact Below.refl _ _|with_reducible refine Below.drew ?_|with_reducible refine zO ?_ _|with_reducible refine Below.setCell ?_ (by first|exact Yj _|exact dV|exact dW|exact dX) _)))
    (first
     | (go_at_call 96;have hq:=X5;refine (zG4 _ _ _ _ 1 (k+9) (z+x/z) _ ((Q4.bw (by with_reducible first|exact Below.refl _ _|exact bl1 _ _)).mono (by omega)) (by omega) (by omega)).mono ?_;rintro r xg ⟨BK,RP,Xf,Sl,rfl,mv,dx⟩;have X9:Below mY.heap.size mY xg:=(by with_reducible first|exact dx|exact zB (bl1 _ _) dx);have aG:=zB X5 X9;(try with_reducible have gM:=(kG mY 29).bw dx);replace L5:=L5.bw X9;(try replace az:=az.bw X9);replace Q4:=Q4.bw X9;(try replace ct:=ct.bw X9);have dX:=aG.size;(try have Bq:=az.lt);(try have Te:=Yo Bq);(try have Fl:=Nat.ne_of_gt Bq);(try obtain⟨Cm,Cn,Co⟩:=az);(try have Br:=ct.lt);(try have Tf:=Yo Br);(try have Fm:=Nat.ne_of_gt Br);(try obtain⟨Cp,Cq,Cr⟩:=ct);(try have Bt:=gM.lt);(try have Tg:=Yo Bt);(try have Fo:=Nat.ne_of_gt Bt);(try obtain⟨Cs,Ct,Cv⟩:=gM))
     | (go_at_call 32;have hq:=Q1;refine (zBN _ _ _ _ _ _ _ _ (k+2) (k+8) z (x/z) _ ((zA hz).bw (by with_reducible first|exact Q1|exact zO Q1 _)) (L5.bw (by with_reducible first|exact Below.refl _ _|exact bl1 _ _)) (by omega) (by omega)).mono ?_;rintro r mY ⟨pc,Mq,Pq,MD,rfl,Q4,dt⟩;have cH:Below mX.heap.size mX mY:=(by with_reducible first|exact dt|exact zB (bl1 _ _) dt);have X5:=zB Q1 cH;(try with_reducible have ct:=(kG mX 29).bw dt);replace L5:=L5.bw cH;(try replace az:=az.bw cH);have dW:=X5.size)
     | (go_at_call 126;refine (zAN _ _ _ _ _ _ _ _ k (k+2) x z _ ((zA yn).bw (by with_reducible first|exact (Below.refl _ _).drew|exact (bl1 _ _).drew)) ((zA hz).bw (by with_reducible first|exact (Below.refl _ _).drew|exact (bl1 _ _).drew)) (by omega) R0).mono ?_;rintro r mX ⟨oZ,Mp,Pp,MC,rfl,L5,di⟩;have Q1:Below wr.heap.size wr mX:=(by with_reducible first|exact zB (Below.refl _ _).drew di|exact zB (bl1 _ _).drew di);(try with_reducible have az:=((kG wr 29).bw (Below.refl _ _).drew).bw di);have dV:=Q1.size))
   all_goals
    go_wp2_with fail;go_meet;refine⟨⟨_,⟨BK,RP,Xf,Sl⟩,rfl,?_,?_,?_,?_,?_⟩,?_⟩
    ·simp[go_sem, *]
    ·simp[go_sem, *]
    ·first|with_reducible exact IntAt.mono (mv.bw (bl1 _ _)) (by omega)|with_reducible exact IntAt.mono (mv.put2 (by assumption) (by assumption) _ _) (by omega)
    ·first|exact Yj _|exact dV|exact dW|exact dX
    ·simp[World.setCell];try omega
    ·repeat' (first|with_reducible exact aG|with_reducible exact X5|with_reducible exact Q1|with_reducible exact Below.refl _ _|with_reducible refine Below.drew ?_|with_reducible refine zO ?_ _|with_reducible refine Below.setCell ?_ (by first|exact Yj _|exact dV|exact dW|exact dX) _)
  case rest =>
  obtain⟨⟨BY,xY,rfl,Ot,Ov,Gh,Nh,hltY⟩,hblY⟩:=hcut;have XY:NmC wc BY xY:=⟨Ot,Ov⟩;rw[zA Rv] at Gh;have hC:Below wr.heap.size wr wc:=hblY;replace hX:=hX.bw hC;replace A:=A.bw hC;replace R:=R.bw hC;have kp:∀ o,wc.frozen? ⟨BX,o,none⟩=false:=λ o=>(hC.frozen (p:=⟨BX,o,none⟩) lX).trans (hF o)
  have K6:=(zA hz).bw hC;have nt:=(zA yn).bw hC;replace nH:=zB nH hC;have OC:=hX.lt;have WL:=XY.lt;have W5:=R.lt;have nXY:BX≠BY:=Yo (Yn lX Nh);have Xe:BY≠BX:=λ e9=>nXY e9.symm
  obtain⟨k0,k1⟩:=hX;have hX:NmC wc BX X:=⟨k0,k1⟩;clear i0 i1 i2 i3 T6 hblY hC hF hz yn;go_wp2_with fail;refine (yS _ _ _ _ _ _ _ _ (k+20) (k+2) yv z _ Gh K6).mono ?_;rintro r w5 ⟨rfl,E4⟩;have Nw:=hX.bw E4;have Nx:=XY.bw E4;have Ns:=R.bw E4;have MY:=A.bw E4;have Wq:=K6.bw E4;have Wm:=Gh.bw E4;have Rp:=nt.bw E4;have Aa:∀ o,w5.frozen? ⟨BX,o,none⟩=false:=λ o=>(E4.frozen (p:=⟨BX,o,none⟩) OC).trans (kp o)
  have W6:=zB nH E4;have l5:=Nw.lt;have l6:=Nx.lt;have l7:=Ns.lt;obtain⟨e0,e1⟩:=Nw;obtain⟨e2,e3⟩:=Nx;obtain⟨e4,e5,e6⟩:=Ns;clear k0 k1 Ot Ov
  by_cases Z7:z<=yv
  ·have t2:0<=zP yv z:=by unfold zP;rw[if_neg (by omega)];split<;>omega
   have XJ:zP yv z ≥ 0:=t2;have HG:=zC Z7;clear Z7;go_wp2_with fail;refine bodyPost_ret (v:=.agg X.q) (by simp[results,Tryz.results206,go_sem,e4,e5]) rfl ⟨z,⟨by omega,λ h9=>by omega,λ _=>⟨zA El (zA HG),zA Rz⟩⟩,X.neg,X.a,X.n,X.cap,rfl,?_,?_⟩
   ·exact (Wq.put2 e4 e5 _ _).mono (by omega)
   ·exact zFZ W6 (Nat.le_succ _) _ _
  ·have t2:¬ 0<=zP yv z:=by unfold zP;rw[if_pos (by omega)];omega
   have XJ:¬ zP yv z ≥ 0:=t2;have Wo:yv<z:=by omega
   clear Z7;go_wp2_with fail
   go_roundg yv.toNat
   case rel =>
    refine⟨xY,yv,⟨by simp[go_sem,e0,e1],by simp[go_sem,e0,e1]⟩,λ o=>by rw[zV,zV];exact Aa o,?_,tv,by omega,Yj _,zA Rk,?_,?_,?_,?_⟩
    ·exact (Wm.put2 e0 e1 _ _).fit (by omega) (by omega)
    ·exact⟨by simp[go_sem,MY.c0,nXA,tz],by simp[go_sem,MY.c1,nXA,tz]⟩
    ·exact⟨by simp[go_sem,e4,nXR,Bz],by simp[go_sem,e5,nXR,Bz],λ o=>by rw[zV,zV];exact e6 o⟩
    ·exact Rp.put2 e0 e1 _ _
    ·exact zFZ W6 (by omega) _ _
   case measure=>omega
theorem root_int (neg:Bool) (a:Option Addr) (n cap k:Nat) (x:Int) (w:World) (h1:IntAt w neg a n cap k x) (hk:k<=100000000) :
  Calls Tryz.prog 206 #[.agg #[.bool neg,.slice a n cap]] w λ r w'=>∃ z,RootOf x z/\zEO w (k+10) z r w':=by
 by_cases hx:0<x
 ·exact root_pos neg a n cap k x w h1 hk hx
 ·have t1:zP x 0<=0:=by unfold zP;split<;>(try split)<;>omega
  have HX:=zC hx;clear hx
  go_enter Tryz.func206,Tryz.ntmps206
  go_wp2_with fail;refine (zA5 _ _ _ _ k x _ (h1.bw (bl2 _ _ _))).mono ?_;rintro r w1 ⟨rfl,b9⟩;obtain⟨j8,D7,A9⟩:=zU (w.heap.size+1+1) (by simp) b9
  go_wp2_with fail;have q0:w1.cell? ⟨w.heap.size+1,0,none⟩=some (.bool false):=by simp[D7,go_sem]
  have q1:w1.cell? ⟨w.heap.size+1,1,none⟩=some (.slice none 0 0):=by simp[D7,go_sem]
  refine bodyPost_ret (v:=.agg #[.bool false,.slice none 0 0]) (by simp[results,Tryz.results206,go_sem,q0,q1]) rfl ⟨0,⟨by omega,λ _=>rfl,λ h9=>by have h8:=zA HX;omega⟩,false,none,0,0,rfl,zEN _ _,?_⟩
  exact zFZ (zB (bl2 _ _ _) b9) (Nat.le_succ _) _ _
theorem zG2 (neg j7:Bool) (a c:Option Addr) (n m cap m7 k k2:Nat) (x y:Int) (w:World) (h1:IntAt w neg a n cap k x) (h2:IntAt w j7 c m m7 k2 y) (hk:k<=800000000) (hy:0<y) :
  Calls Tryz.prog 127 #[.agg #[.bool neg,.slice a n cap],.agg #[.bool j7,.slice c m m7]] w (zDO w k (-(-x/y))) :=
 zO0 neg j7 a c n m cap m7 k k2 x y w h1 h2 hk (λ w' j9 a' n' m9 g1 g2=>zAN j9 j7 a' c n' m m9 m7 k k2 (-x) y w' g1 g2 (by omega) hy)
theorem jL (neg j7:Bool) (a c:Option Addr) (n m cap m7 k k2 b:Nat) (x y:Int) (w:World) (h1:IntAt w neg a n cap k x) (h2:IntAt w j7 c m m7 k2 y) (hk:k<=700000000) (hb:b<=1000000) (hy:0<y) :
  Calls Tryz.prog 88 #[.agg #[.bool neg,.slice a n cap],.agg #[.bool j7,.slice c m m7],.int .i64 b] w (zL w b (k+b/16+20) (x*Q b/y) (-(-(x*Q b)/y))):=by
 go_enter Tryz.func88,Tryz.ntmps88
 go_wp2_with (go_at_call 116;refine (zB2 _ _ _ _ b k x _ (h1.bw (bl3 _ _ _ _)) (by omega) (by omega)).mono ?_;rintro r w1 ⟨o7,a1,n1,c1,rfl,s9,b9⟩;obtain⟨j8,D7,A9⟩:=zU (w.heap.size+1+1+1) (by simp) b9;have F9:=Yn (Nat.lt_succ_self (w.heap.size+1+1)) j8;have R0:=Nat.lt_of_succ_lt F9)
 have s9:=s9.mono (show b/16+k+1<=k+b/16+10 by omega)
 have FB:Below w.heap.size w w1:=zB (bl3 _ _ _ _) b9;have k0:w1.cell? ⟨w.heap.size+1,0,none⟩=some (.bool j7):=by simp[D7,go_sem]
 have k1:w1.cell? ⟨w.heap.size+1,1,none⟩=some (.slice c m m7):=by simp[D7,go_sem]
 have r0:w1.cell? ⟨w.heap.size+1+1,0,none⟩=some (.bool false):=by simp[D7,go_sem]
 have r1:w1.cell? ⟨w.heap.size+1+1,1,none⟩=some (.slice none 0 0):=by simp[D7,go_sem]
 have r2:w1.cell? ⟨w.heap.size+1+1,2,none⟩=some (.bool false):=by simp[D7,go_sem]
 have r3:w1.cell? ⟨w.heap.size+1+1,3,none⟩=some (.slice none 0 0):=by simp[D7,go_sem]
 have r4:w1.cell? ⟨w.heap.size+1+1,4,none⟩=some (.int .i64 0):=by simp[D7,go_sem]
 have r5:∀ o,w1.frozen? ⟨w.heap.size+1+1,o,none⟩=false:=by intro o;simp[A9,go_sem]
 have H2:=zC (h2.bw FB);clear D7 A9;obtain⟨W,hW⟩:∃ W,W=w1.alloc (.cells #[.bool o7,.slice a1 n1 c1] 29):=⟨_,rfl⟩;have j6:Below w1.heap.size w1 W:=by rw[hW];exact bl1 _ _
 have u0:W.cell? ⟨w1.heap.size,0,none⟩=some (.bool o7):=by rw[hW];simp
 have u1:W.cell? ⟨w1.heap.size,1,none⟩=some (.slice a1 n1 c1):=by rw[hW];simp
 have hlW:w1.heap.size<W.heap.size:=by rw[hW];simp
 have HI:=zC (s9.bw j6);have vI:=zC ((zA H2).bw j6);have ak:w.heap.size+1<W.heap.size:=Nat.lt_trans R0 hlW;have Z9:w.heap.size+1+1<W.heap.size:=Nat.lt_trans F9 hlW
 have HK:=zC (show ∀ w',Below W.heap.size W w'->(w'.cell? ⟨w1.heap.size,0,none⟩=some (.bool o7)/\w'.cell? ⟨w1.heap.size,1,none⟩=some (.slice a1 n1 c1)/\w'.cell? ⟨w.heap.size+1,0,none⟩=some (.bool j7)/\w'.cell? ⟨w.heap.size+1,1,none⟩=some (.slice c m m7)) from λ w' hB =>
  ⟨(hB.cell (p:=⟨w1.heap.size,0,none⟩) hlW).trans u0,(hB.cell (p:=⟨w1.heap.size,1,none⟩) hlW).trans u1,(hB.cell (p:=⟨w.heap.size+1,0,none⟩) ak).trans ((j6.cell (p:=⟨w.heap.size+1,0,none⟩) R0).trans k0),(hB.cell (p:=⟨w.heap.size+1,1,none⟩) ak).trans ((j6.cell (p:=⟨w.heap.size+1,1,none⟩) R0).trans k1)⟩)
 have HR:=zC (show ∀ w',Below W.heap.size W w'->(w'.cell? ⟨w.heap.size+1+1,0,none⟩=some (.bool false)/\w'.cell? ⟨w.heap.size+1+1,1,none⟩=some (.slice none 0 0)/\w'.cell? ⟨w.heap.size+1+1,2,none⟩=some (.bool false)/\w'.cell? ⟨w.heap.size+1+1,3,none⟩=some (.slice none 0 0)/\w'.cell? ⟨w.heap.size+1+1,4,none⟩=some (.int .i64 0)/\∀ o,w'.frozen? ⟨w.heap.size+1+1,o,none⟩=false) from λ w' hB =>
  ⟨(hB.cell (p:=⟨w.heap.size+1+1,0,none⟩) Z9).trans ((j6.cell (p:=⟨w.heap.size+1+1,0,none⟩) F9).trans r0),(hB.cell (p:=⟨w.heap.size+1+1,1,none⟩) Z9).trans ((j6.cell (p:=⟨w.heap.size+1+1,1,none⟩) F9).trans r1),(hB.cell (p:=⟨w.heap.size+1+1,2,none⟩) Z9).trans ((j6.cell (p:=⟨w.heap.size+1+1,2,none⟩) F9).trans r2),(hB.cell (p:=⟨w.heap.size+1+1,3,none⟩) Z9).trans ((j6.cell (p:=⟨w.heap.size+1+1,3,none⟩) F9).trans r3),(hB.cell (p:=⟨w.heap.size+1+1,4,none⟩) Z9).trans ((j6.cell (p:=⟨w.heap.size+1+1,4,none⟩) F9).trans r4),λ o=>(hB.frozen (p:=⟨w.heap.size+1+1,o,none⟩) Z9).trans ((j6.frozen (p:=⟨w.heap.size+1+1,o,none⟩) F9).trans (r5 o))⟩)
 have zo:Below w.heap.size w W:=zB FB j6;have lI:w.heap.size+1+1≠w1.heap.size:=by omega
 have lJ:w1.heap.size≠w.heap.size+1+1:=by omega
 rw[<- hW];clear hW k0 k1 r0 r1 r2 r3 r4 r5 u0 u1 H2 s9 b9 FB j6
 go_region_held3 (λ w'=>w'.cell? ⟨w1.heap.size,0,none⟩=some (.bool o7)/\w'.cell? ⟨w1.heap.size,1,none⟩=some (.slice a1 n1 c1)/\w'.cell? ⟨w.heap.size+1,0,none⟩=some (.bool j7)/\w'.cell? ⟨w.heap.size+1,1,none⟩=some (.slice c m m7)) (first|exact zA HK _ (by first|exact (Below.refl _ _).drew|exact A7|exact D6)|go_keep)
  (first
   | (go_at_call 126;refine (zAN _ _ _ _ _ _ _ _ (k+b/16+10) k2 (x*Q b) y _ ((zA HI).bw (Below.refl _ _).drew) ((zA vI).bw (Below.refl _ _).drew) (by omega) hy).mono ?_;rintro r w2 ⟨E5,a4,n4,c4,rfl,H8,A5⟩;have A7:Below W.heap.size W w2:=zB (Below.refl _ _).drew A5)
   | (go_at_call 127;refine (zG2 _ _ _ _ _ _ _ _ (k+b/16+10) k2 (x*Q b) y _ ((zA HI).bw A7) ((zA vI).bw A7) (by omega) hy).mono ?_;rintro r w3 ⟨L8,a5,n5,c5,rfl,T8,E4⟩;have D6:=zB A7 E4;obtain⟨q0,q1,q2,q3,q4,q5⟩:=zA HR w3 D6;obtain⟨q6,q7,q8,q9⟩:=zA HK w3 D6))
 go_wp2;refine bodyPost_ret (v:=.agg #[.bool E5,.slice a4 n4 c4,.bool L8,.slice a5 n5 c5,.int .i64 b]) (by simp[results,Tryz.results88,go_sem,q0,q1,q2,q3,q4]) rfl ⟨⟨E5,a4,n4,c4,L8,a5,n5,c5,b⟩,rfl,rfl,?_,?_⟩
 ·exact SpAt.put5 ⟨(H8.bw E4).mono (by omega),T8.mono (by omega)⟩ q0 q1 q2 q3 q4 _ _ _ _ _
 ·exact kM (zo.trans (D6.mono zo.size)) (by omega) _ _ _ _ _
theorem zI0 (w:World) (s:Sp) (neg j7:Bool) (a c:Option Addr) (n m cap m7 k k1 k2:Nat) (lo hi x y:Int) (hs:SpAt w s k lo hi) (h1:IntAt w neg a n cap k1 x) (h2:IntAt w j7 c m m7 k2 y) (hk:k<=300000000) (V5:k1<=300000000) (hy:0<y) :
  Calls Tryz.prog 151 #[.agg s.q,.agg #[.bool neg,.slice a n cap],.agg #[.bool j7,.slice c m m7]] w (zL w s.bits (k+k1+10) (lo*x/y) (-(-(hi*x)/y))):=by
 obtain⟨W,hW⟩:∃ W,W=(((w.alloc (.cells s.q 31)).alloc (.cells #[.bool neg,.slice a n cap] 29)).alloc (.cells #[.bool j7,.slice c m m7] 29)).alloc (.cells zCq 31):=⟨_,rfl⟩;have j6:Below w.heap.size w W:=by rw[hW];exact bl4 _ _ _ _ _
 have A:SpC W w.heap.size s:=by rw[hW];constructor<;>simp[go_sem]
 have X:NmC W (w.heap.size+1) ⟨neg,a,n,cap⟩:=by rw[hW];constructor<;>simp[go_sem]
 have Y:NmC W (w.heap.size+1+1) ⟨j7,c,m,m7⟩:=by rw[hW];constructor<;>simp[go_sem]
 have R:NoC W (w.heap.size+1+1+1):=by rw[hW];constructor<;>simp[go_sem]
 have HS:=zC (hs.bw j6);have HX:=zC (h1.bw j6);have HY:=zC (h2.bw j6);have lR:=R.lt;have HK:=zC (show ∀ w',Below W.heap.size W w'->(cK w' w.heap.size s (w'.cell? ⟨w.heap.size+1,0,none⟩=some (.bool neg)/\w'.cell? ⟨w.heap.size+1,1,none⟩=some (.slice a n cap)/\w'.cell? ⟨w.heap.size+1+1,0,none⟩=some (.bool j7)/\w'.cell? ⟨w.heap.size+1+1,1,none⟩=some (.slice c m m7))) from λ w' hB=>⟨(A.bw hB).c0,(A.bw hB).c1,(A.bw hB).c2,(A.bw hB).c3,(A.bw hB).c4,(X.bw hB).c0,(X.bw hB).c1,(Y.bw hB).c0,(Y.bw hB).c1⟩)
 clear A X Y hs h1 h2
 go_enter Tryz.func151,Tryz.ntmps151
 go_wp2;rw[<- hW];clear hW;have n02:w.heap.size≠w.heap.size+1+1:=by omega
 have n20:w.heap.size+1+1≠w.heap.size:=by omega
 have n03:w.heap.size≠w.heap.size+1+1+1:=by omega
 have n30:w.heap.size+1+1+1≠w.heap.size:=by omega
 have n13:w.heap.size+1≠w.heap.size+1+1+1:=by omega
 have n31:w.heap.size+1+1+1≠w.heap.size+1:=by omega
 have n23:w.heap.size+1+1≠w.heap.size+1+1+1:=by omega
 have n32:w.heap.size+1+1+1≠w.heap.size+1+1:=by omega
 obtain⟨x0,x1,x2,x3,x4,x5,x6,x7,x8⟩:=zA HK _ (Below.refl _ _);have D8:Below W.heap.size W W.drew:=(Below.refl _ _).drew
 go_region_held3 (λ w'=>cK w' w.heap.size s (w'.cell? ⟨w.heap.size+1,0,none⟩=some (.bool neg)/\w'.cell? ⟨w.heap.size+1,1,none⟩=some (.slice a n cap)/\w'.cell? ⟨w.heap.size+1+1,0,none⟩=some (.bool j7)/\w'.cell? ⟨w.heap.size+1+1,1,none⟩=some (.slice c m m7))) (first|exact zA HK _ (by with_reducible first|exact D8|exact J0|exact G6|exact A6|exact y9)|(dsimp only[cK,cK0,nK,nK0,rK,rK0];go_keep)|go_keep)
  (first
   | (go_at_call 127;have hq:=G6;refine (zG2 _ _ _ _ _ _ _ _ (k+k1) k2 (hi*x) y _ E8 ((zA HY).bw G6) (by omega) hy).mono ?_;rintro r' w4 ⟨E5,a4,n4,c4,rfl,H8,A5⟩;have J0:=zB G6 A5;replace A8:=(A8.bw m8).bw A5;obtain⟨q0,q1,q2,q3,q4,q5⟩:=R.bw J0;obtain⟨y0,y1,y2,y3,y4,y5,y6,y7,y8⟩:=zA HK _ J0)
   | (go_at_call 83;have hq:=A6;refine (jA _ _ _ _ _ _ _ _ k k1 hi x _ ((zA HS).hi.bw A6) ((zA HX).bw A6) (by omega) (by omega)).mono ?_;rintro r' w3 ⟨C7,a3,n3,c3,rfl,E8,m8⟩;have G6:=zB A6 m8)
   | (go_at_call 126;have hq:=y9;refine (zAN _ _ _ _ _ _ _ _ (k+k1) k2 (lo*x) y _ s9 ((zA HY).bw y9) (by omega) hy).mono ?_;rintro r' w2 ⟨jo,a2,n2,c2,rfl,A8,j5⟩;have A6:=zB y9 j5)
   | (go_at_call 83;refine (jA _ _ _ _ _ _ _ _ k k1 lo x _ ((zA HS).lo.bw D8) ((zA HX).bw D8) (by omega) (by omega)).mono ?_;rintro r' w1 ⟨o7,a1,n1,c1,rfl,s9,b9⟩;have y9:=zB D8 b9))
 all_goals
  go_wp2_with fail;refine bodyPost_ret (v:=.agg #[.bool jo,.slice a2 n2 c2,.bool E5,.slice a4 n4 c4,.int .i64 s.bits]) (by simp[results,Tryz.results151,go_sem,q0,q1,q2,q3,q4]) rfl ⟨⟨jo,a2,n2,c2,E5,a4,n4,c4,s.bits⟩,rfl,rfl,?_,?_⟩
  ·exact SpAt.put5 ⟨A8.mono (by omega),H8.mono (by omega)⟩ q0 q1 q2 q3 q4 _ _ _ _ _
  ·exact kM (zB j6 J0) (by omega) _ _ _ _ _
theorem zQZ (w:World) (s:Sp) (k:Nat) (d lo hi:Int) (hs:SpAt w s k lo hi) (hk:k<=300000000) (hd:0<d) (mz:d<=9223372036854775807) :
  Calls Tryz.prog 123 #[.agg s.q,.int .i64 d] w (zL w s.bits (k+14) (lo*1/d) (-(-(hi*1)/d))):=by
 obtain⟨W,hW⟩:∃ W,W=(w.alloc (.cells s.q 31)).alloc (.cells zCq 31):=⟨_,rfl⟩;have j6:Below w.heap.size w W:=by rw[hW];exact bl2 _ _ _
 have A:SpC W w.heap.size s:=by rw[hW];constructor<;>simp[go_sem]
 have R:NoC W (w.heap.size+1):=by rw[hW];constructor<;>simp[go_sem]
 have HS:=zC (hs.bw j6);have lR:=R.lt;have HK:=zC (show ∀ w',Below W.heap.size W w'->(cK0 w' w.heap.size s) from λ w' hB=>⟨(A.bw hB).c0,(A.bw hB).c1,(A.bw hB).c2,(A.bw hB).c3,(A.bw hB).c4⟩)
 clear A hs
 go_enter Tryz.func123,Tryz.ntmps123
 go_wp2;rw[<- hW];clear hW;have WT:w.heap.size≠w.heap.size+1:=by omega
 have Pf:w.heap.size+1≠w.heap.size:=by omega
 obtain⟨x0,x1,x2,x3,x4⟩:=zA HK _ (Below.refl _ _);have D8:Below W.heap.size W W.drew:=(Below.refl _ _).drew
 go_region_held3 (λ w'=>cK0 w' w.heap.size s) (first|exact zA HK _ (by with_reducible first|exact D8|exact G6|exact A6|exact y9)|(dsimp only[cK,cK0,nK,nK0,rK,rK0];go_keep)|go_keep)
  (first
   | (go_at_call 151;have hq:=A6;refine (zI0 _ s _ _ _ _ _ _ _ _ k 4 4 lo hi 1 d ((zA HS).bw A6) (s9.bw j5) A8 (by omega) (by omega) hd).mono ?_;rintro r' w3 ⟨u,rfl,D5,B9,m8⟩;have HU:=zC D5;clear D5;have G6:=zB A6 m8;obtain⟨q0,q1,q2,q3,q4,q5⟩:=R.bw G6;obtain⟨y0,y1,y2,y3,y4⟩:=zA HK _ G6)
   | (go_at_call 33;have hq:=y9;refine (zE d _ (by omega) mz).mono ?_;rintro r' w2 ⟨j7,a2,n2,c2,rfl,A8,j5⟩;have A6:=zB y9 j5)
   | (go_at_call 33;refine (zE 1 _ (by decide) (by decide)).mono ?_;rintro r' w1 ⟨o7,a1,n1,c1,rfl,s9,b9⟩;have y9:=zB D8 b9))
 all_goals
  go_wp2_with fail;refine bodyPost_ret (v:=.agg u.q) (by simp[results,Tryz.results123,go_sem,q0,q1,q2,q3,q4]) rfl ⟨u,rfl,zA HU,?_,?_⟩
  ·exact SpAt.put5 (B9.mono (by omega)) q0 q1 q2 q3 q4 _ _ _ _ _
  ·exact kM (zB j6 G6) (Nat.le_succ _) _ _ _ _ _
theorem zCX (w:World) (b:Nat) (hb:b<=1000000):Calls Tryz.prog 93 #[.int .i64 b] w (zL w b (b/16+24) (1*Q b/1) (-(-(1*Q b)/1))):=by
 go_enter Tryz.func93,Tryz.ntmps93
 go_wp2_with fail;refine (zE 1 _ (by decide) (by decide)).mono ?_
 rintro r' w1 ⟨o7,a1,n1,c1,rfl,s9,b9⟩;have R:=(zS w 31).bw b9;have hB:Below w.heap.size w w1:=zB (bl1 _ _) b9;clear b9;go_wp2_with fail;refine (zE 1 _ (by decide) (by decide)).mono ?_
 rintro r' w2 ⟨j7,a2,n2,c2,rfl,A8,j5⟩;replace R:=R.bw j5;replace hB:=zB hB j5;replace s9:=s9.bw j5;clear j5;go_wp2_with fail;refine (jL _ _ _ _ _ _ _ _ 4 4 b 1 1 _ s9 A8 (by omega) hb (by omega)).mono ?_
 rintro r' w3 ⟨u,rfl,D5,B9,m8⟩;obtain⟨q0,q1,q2,q3,q4,q5⟩:=R.bw m8;replace hB:=zB hB m8;have HU:=zC D5;clear D5 m8;go_wp2_with fail;refine bodyPost_ret (v:=.agg u.q) (by simp[results,Tryz.results93,go_sem,q0,q1,q2,q3,q4]) rfl ⟨u,rfl,zA HU,?_,?_⟩
 ·exact SpAt.put5 (B9.mono (by omega)) q0 q1 q2 q3 q4 _ _ _ _ _
 ·exact kM hB (Yj _) _ _ _ _ _
end Go.Proofs.YtgmnknmjainabacGreat
