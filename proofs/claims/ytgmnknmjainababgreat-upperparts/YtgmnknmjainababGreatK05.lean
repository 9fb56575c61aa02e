/-
  Its own texts.
-/
import Derived.Test.YtgmnknmjainababGreatK04
set_option maxRecDepth 100000
set_option maxHeartbeats 8000000
set_option linter.unnecessarySimpa false
set_option linter.unusedSimpArgs false
set_option linter.unusedVariables false
namespace Go.Proofs.YtgmnknmjainababGreat
open Go.RowKit
attribute [local go_sem ↓] Go.wp_at_zero Go.wp_at_succ
theorem IntAt.put5 {w:World} {neg:Bool} {a:Option Addr} {n cap k:Nat} {z:Int} (h:IntAt w neg a n cap k z) {B:Nat} {x0 x2:Bool} {y0 y3:Option Addr} {y1 y2 y4 y5:Nat} {i:Int}
  (h0:w.cell? ⟨B,0,none⟩=some (.bool x0)) (h1:w.cell? ⟨B,1,none⟩=some (.slice y0 y1 y2)) (h2:w.cell? ⟨B,2,none⟩=some (.bool x2)) (h3:w.cell? ⟨B,3,none⟩=some (.slice y3 y4 y5)) (h4:w.cell? ⟨B,4,none⟩=some (.int .i64 i)) (u0 u1 u2 u3 u4:Value) :
  IntAt (((((w.setCell ⟨B,0,none⟩ u0).setCell ⟨B,1,none⟩ u1).setCell ⟨B,2,none⟩ u2).setCell ⟨B,3,none⟩ u3).setCell ⟨B,4,none⟩ u4) neg a n cap k z:=by
 have ne:∀ i j:Nat,i≠j→(⟨B,i,none⟩:Addr)≠⟨B,j,none⟩:=fun i j hij e=>hij (by injection e)
 have g1:(w.setCell ⟨B,0,none⟩ u0).cell? ⟨B,1,none⟩=some (.slice y0 y1 y2):=(World.cell?_setCell_other _ _ _ _ (ne 0 1 (by omega))).trans h1
 have g2:((w.setCell ⟨B,0,none⟩ u0).setCell ⟨B,1,none⟩ u1).cell? ⟨B,2,none⟩=some (.bool x2):=(World.cell?_setCell_other _ _ _ _ (ne 1 2 (by omega))).trans ((World.cell?_setCell_other _ _ _ _ (ne 0 2 (by omega))).trans h2)
 have g3:(((w.setCell ⟨B,0,none⟩ u0).setCell ⟨B,1,none⟩ u1).setCell ⟨B,2,none⟩ u2).cell? ⟨B,3,none⟩=some (.slice y3 y4 y5):=(World.cell?_setCell_other _ _ _ _ (ne 2 3 (by omega))).trans ((World.cell?_setCell_other _ _ _ _ (ne 1 3 (by omega))).trans ((World.cell?_setCell_other _ _ _ _ (ne 0 3 (by omega))).trans h3))
 have g4:((((w.setCell ⟨B,0,none⟩ u0).setCell ⟨B,1,none⟩ u1).setCell ⟨B,2,none⟩ u2).setCell ⟨B,3,none⟩ u3).cell? ⟨B,4,none⟩=some (.int .i64 i):=(World.cell?_setCell_other _ _ _ _ (ne 3 4 (by omega))).trans ((World.cell?_setCell_other _ _ _ _ (ne 2 4 (by omega))).trans ((World.cell?_setCell_other _ _ _ _ (ne 1 4 (by omega))).trans ((World.cell?_setCell_other _ _ _ _ (ne 0 4 (by omega))).trans h4)))
 exact ((((h.store h0 (fun _ e=>by cases e) u0).store g1 (fun _ e=>by cases e) u1).store g2 (fun _ e=>by cases e) u2).store g3 (fun _ e=>by cases e) u3).store g4 (fun _ e=>by cases e) u4
theorem SpAt.put5 {w:World} {s:Sp} {k:Nat} {lo hi:Int} (h:SpAt w s k lo hi) {B:Nat} {x0 x2:Bool} {y0 y3:Option Addr} {y1 y2 y4 y5:Nat} {i:Int}
  (h0:w.cell? ⟨B,0,none⟩=some (.bool x0)) (h1:w.cell? ⟨B,1,none⟩=some (.slice y0 y1 y2)) (h2:w.cell? ⟨B,2,none⟩=some (.bool x2)) (h3:w.cell? ⟨B,3,none⟩=some (.slice y3 y4 y5)) (h4:w.cell? ⟨B,4,none⟩=some (.int .i64 i)) (u0 u1 u2 u3 u4:Value) :
  SpAt (((((w.setCell ⟨B,0,none⟩ u0).setCell ⟨B,1,none⟩ u1).setCell ⟨B,2,none⟩ u2).setCell ⟨B,3,none⟩ u3).setCell ⟨B,4,none⟩ u4) s k lo hi:=⟨h.lo.put5 h0 h1 h2 h3 h4 u0 u1 u2 u3 u4,h.hi.put5 h0 h1 h2 h3 h4 u0 u1 u2 u3 u4⟩
theorem jV {B B':Nat} {a w:World} (h:Below B a w) (hB:B≤B') (u0 u1 u2 u3 u4:Value):Below B a (((((w.setCell ⟨B',0,none⟩ u0).setCell ⟨B',1,none⟩ u1).setCell ⟨B',2,none⟩ u2).setCell ⟨B',3,none⟩ u3).setCell ⟨B',4,none⟩ u4) :=
 ((((h.setCell (p:=⟨B',0,none⟩) hB u0).setCell (p:=⟨B',1,none⟩) hB u1).setCell (p:=⟨B',2,none⟩) hB u2).setCell (p:=⟨B',3,none⟩) hB u3).setCell (p:=⟨B',4,none⟩) hB u4
theorem zO9 (neg neg2:Bool) (a c:Option Addr) (n m cap cap2 k k2:Nat) (x y:Int) (w:World) (h1:IntAt w neg a n cap k x) (h2:IntAt w neg2 c m cap2 k2 y) (hk:k≤800000000)
  (hfl:∀ w' neg' a' n' cap',IntAt w' neg' a' n' cap' k (-x)→IntAt w' neg2 c m cap2 k2 y→Calls Tryz.prog 119 #[.agg #[.bool neg',.slice a' n' cap'],.agg #[.bool neg2,.slice c m cap2]] w' (zAC w' k (-x/y))) :
  Calls Tryz.prog 176 #[.agg #[.bool neg,.slice a n cap],.agg #[.bool neg2,.slice c m cap2]] w (zAC w k (-(-x/y))):=by
 have ne1:w.heap.size≠w.heap.size+1+1:=by omega
 have ne2:w.heap.size+1+1≠w.heap.size:=by omega
 have le2:w.heap.size≤w.heap.size+1+1:=by omega
 have HF:=zC hfl;clear hfl
 go_enter Tryz.func176,Tryz.ntmps176
 go_wp2
 go_region_held3 (fun w'=>w'.cell? ⟨w.heap.size,0,none⟩=some (.bool neg)∧w'.cell? ⟨w.heap.size,1,none⟩=some (.slice a n cap)∧w'.cell? ⟨w.heap.size+1,0,none⟩=some (.bool neg2)∧w'.cell? ⟨w.heap.size+1,1,none⟩=some (.slice c m cap2)) (go_keep)
  (first
   | (go_at_call 119;refine (zA HF _ _ _ _ _ hZ1 (h2.bw (zB (bl3 _ _ _ _).drew hb1))).mono ?_;rintro r w2 ⟨neg2',a2,n2,c2,rfl,hZ2,hb2⟩;obtain ⟨hsz2,kC2,hfz2⟩:=kK (w.heap.size+1+1+1) hsz1 hb2)
   | (go_at_call 103;have hq:=hb2;refine (jY _ _ _ _ (k+8) _ _ hZ2 (by omega)).mono ?_;rintro r w3 ⟨neg3,a3,n3,c3,rfl,hZ3,hb3⟩;obtain ⟨hsz3,kC3,hfz3⟩:=kK (w.heap.size+1+1+1) hsz2 hb3)
   | (go_at_call 103;refine (jY _ _ _ _ k x _ (h1.bw (bl3 _ _ _ _).drew) (by omega)).mono ?_;rintro r w1 ⟨neg1,a1,n1,c1,rfl,hZ1,hb1⟩;obtain ⟨hsz1,kC1,hfz1⟩:=kK (w.heap.size+1+1+1) (by simp) hb1))
 go_wp2;have h0:w3.cell? ⟨w.heap.size+1+1,0,none⟩=some (.bool false):=by simp[kC3,kC2,kC1,go_sem]
 have h1':w3.cell? ⟨w.heap.size+1+1,1,none⟩=some (.slice none 0 0):=by simp[kC3,kC2,kC1,go_sem]
 refine bodyPost_ret (v:=.agg #[.bool neg3,.slice a3 n3 c3]) (by simp[results,Tryz.results176,go_sem,h0,h1']) rfl ⟨neg3,a3,n3,c3,rfl,hZ3.put2 h0 h1' _ _,?_⟩
 exact ((zB (zB (zB (bl3 _ _ _ _).drew hb1) hb2) hb3).setCell (p:=⟨w.heap.size+1+1,0,none⟩) le2 _).setCell (p:=⟨w.heap.size+1+1,1,none⟩) le2 _
def zH (w:World) (b:Int) (k:Nat) (lo hi:Int) (r:Ending) (w':World):Prop :=
 ∃ s:Sp,r=.returned (.agg #[.bool s.ln,.slice s.la s.lN s.lc,.bool s.hn,.slice s.ha s.hN s.hc,.int .i64 s.bits])∧s.bits=b∧SpAt w' s k lo hi∧Below w.heap.size w w'
def rok (p q:Int):Prop := -1048576≤p∧p≤1048576∧1≤q∧q≤1024
instance (p q:Int):Decidable (rok p q):=by unfold rok;infer_instance
theorem zLE {p q:Int} (h:p < -1048576∨1048576<p∨q<1∨1024<q):decide (rok p q)=false:=by
 rw[decide_eq_false_iff_not];unfold rok;omega
theorem zCV (p q:Int) (w:World) :
  Calls Tryz.prog 80 #[.agg #[.int .i64 p,.int .i64 q]] w fun r w'=>r=.returned (.bool (decide (rok p q)))∧Below w.heap.size w w':=by
 by_cases h1 : -1048576≤p
 ·by_cases h2:p≤1048576
  ·by_cases h3:1≤q
   ·go_enter Tryz.func80,Tryz.ntmps80
    go_wp2
    go_ret
    exact ⟨by simp[rok,h1,h2,h3],bl1 _ _⟩
   ·go_enter Tryz.func80,Tryz.ntmps80
    go_wp2
    go_ret
    exact ⟨by rw[zLE (p:=p) (q:=q) (by omega)];rfl,bl1 _ _⟩
  ·go_enter Tryz.func80,Tryz.ntmps80
   go_wp2
   go_ret
   exact ⟨by rw[zLE (p:=p) (q:=q) (by omega)];rfl,bl1 _ _⟩
 ·go_enter Tryz.func80,Tryz.ntmps80
  go_wp2
  go_ret
  exact ⟨by rw[zLE (p:=p) (q:=q) (by omega)];rfl,bl1 _ _⟩
structure Rats (w:World) (b n:Nat) (p q:Nat→Int):Prop where
 lt:b<w.heap.size
 c0:∀ j,j<n→w.cell? ⟨b,j*2,none⟩=some (.int .i64 (p j))
 c1:∀ j,j<n→w.cell? ⟨b,j*2+1,none⟩=some (.int .i64 (q j))
theorem Rats.bw {w w':World} {b n:Nat} {p q:Nat→Int} (h:Rats w b n p q) (hb:Below w.heap.size w w'):Rats w' b n p q :=
 ⟨Nat.lt_of_lt_of_le h.lt hb.size,fun j hj=>(hb.cell (p:=⟨b,j*2,none⟩) h.lt).trans (h.c0 j hj),fun j hj=>(hb.cell (p:=⟨b,j*2+1,none⟩) h.lt).trans (h.c1 j hj)⟩
def RFlt (bt:Int) (p q:Nat→Int) (n:Nat) (z:Int):Prop :=
 (z=0∧(8≤bt∧bt≤120)∧∀ j,j<n→rok (p j) (q j))∨(z=3∧¬ ((8≤bt∧bt≤120)∧∀ j,j<n→rok (p j) (q j)))
theorem zFQ (bt : Int) (b n cap : Nat) (p q : Nat → Int) (w : World) (h : Rats w b n p q) (hn : n ≤ 1000) :
    Calls Tryz.prog 93 #[.int .i64 bt, .slice (some ⟨b, 0, none⟩) n cap] w fun r w' => ∃ z, r = .returned (.int .i64 z) ∧ RFlt bt p q n z ∧ Below w.heap.size w w' := by
  by_cases b1 : bt < 8
  · go_enter Tryz.func93, Tryz.ntmps93
    go_wp2
    go_ret
    exact ⟨3, rfl, Or.inr ⟨rfl, fun ⟨h1, _⟩ => by omega⟩, Below.refl _ _⟩
  by_cases b2 : 120 < bt
  · go_enter Tryz.func93, Tryz.ntmps93
    go_wp2
    go_ret
    exact ⟨3, rfl, Or.inr ⟨rfl, fun ⟨h1, _⟩ => by omega⟩, Below.refl _ _⟩
  have hblt := h.lt
  have HH := zC h
  clear h
  go_enter Tryz.func93, Tryz.ntmps93
  go_wp2
  go_loopw [15] (fun ii wr => ∃ i : Nat, i ≤ n ∧ ii = .int .i64 i ∧ (∀ j, j < i → rok (p j) (q j)) ∧ Below w.heap.size w wr) (fun ii _ => n - (intOf ii).toNat)
  case atStart => exact ⟨0, by omega, rfl, fun j hj => by omega, Below.refl _ _⟩
  case round =>
    obtain ⟨i, hi, rfl, hz, hB⟩ := hrel
    by_cases hin : i < n
    · have H2 := (zA HH).bw hB
      have g0 := H2.c0 i hin
      have g1 := H2.c1 i hin
      have hi1 : (i : Int) < (n : Int) := by omega
      have HZ := zC hz
      clear hz H2
      by_cases hc : rok (p i) (q i)
      · have hc' : decide (rok (p i) (q i)) = true := by simpa using hc
        have HC := zC hc
        clear hc
        go_wp2_with (go_at_call 80; refine (zCV _ _ _).mono ?_; rintro r w1 ⟨rfl, hb1⟩; rw [hc'])
        go_roundw
        case rel => exact ⟨i + 1, by omega, by go_num, fun j hj => by
                            by_cases hji : j = i
                            · subst hji; exact zA HC
                            · exact zA HZ j (by omega), zB (zK hB _) hb1⟩
        case measure => simp [intOf]; omega
      · have hc' : decide (rok (p i) (q i)) = false := by simpa using hc
        have HC := zC hc
        clear hc
        go_wp2_with (go_at_call 80; refine (zCV _ _ _).mono ?_; rintro r w1 ⟨rfl, hb1⟩; rw [hc'])
        go_ret
        exact ⟨3, rfl, Or.inr ⟨rfl, fun ⟨_, h2⟩ => zA HC (h2 i hin)⟩, zB (zK hB _) hb1⟩
    · have hiE : i = n := by omega
      subst hiE
      have HZ := zC hz
      clear hz hin hi
      go_wp2
      go_ret
      exact ⟨0, rfl, Or.inl ⟨rfl, ⟨by omega, by omega⟩, zA HZ⟩, hB⟩
def zBX (w:World) (b:Int) (k:Nat) (lo hi er:Int) (r:Ending) (w':World):Prop :=
 ∃ s:Sp,r=.returned (.tuple #[.agg #[.bool s.ln,.slice s.la s.lN s.lc,.bool s.hn,.slice s.ha s.hN s.hc,.int .i64 s.bits],.int .i64 er])∧s.bits=b∧SpAt w' s k lo hi∧Below w.heap.size w w'
theorem zBJ (w:World) (k:Nat):IntAt w false none 0 0 k 0 :=
 ⟨fun _=>0,⟨fun h=>by omega,fun _=>⟨by simp,by simp⟩,Nat.le_refl _,by omega⟩,Or.inl rfl,fun _=>rfl,by omega,by simp[sgn,V]⟩
theorem zeroSp (w:World) (k:Nat):SpAt w ⟨false,none,0,0,false,none,0,0,0⟩ k 0 0:=⟨zBJ w k,zBJ w k⟩
theorem rats1 (w:World) (p q:Int) (T:TypeId):Rats (w.alloc (.cells #[.int .i64 p,.int .i64 q] T)) w.heap.size 1 (fun _=>p) (fun _=>q):=by
 refine ⟨by simp,?_,?_⟩
 all_goals
  intro j hj
  match j,hj with
  | 0,_=>simp
theorem zES (w:World) (s t:Sp) (k:Nat) (lo hi lo' hi':Int) (hs:SpAt w s k lo hi) (ht:SpAt w t k lo' hi') (hk:k≤700000000) :
  Calls Tryz.prog 113 #[.agg #[.bool s.ln,.slice s.la s.lN s.lc,.bool s.hn,.slice s.ha s.hN s.hc,.int .i64 s.bits],.agg #[.bool t.ln,.slice t.la t.lN t.lc,.bool t.hn,.slice t.ha t.hN t.hc,.int .i64 t.bits]] w (zH w s.bits (k+1) (lo+lo') (hi+hi')):=by
 have ne1:w.heap.size≠w.heap.size+1+1:=by omega
 have ne2:w.heap.size+1+1≠w.heap.size:=by omega
 have le2:w.heap.size≤w.heap.size+1+1:=by omega
 go_enter Tryz.func113,Tryz.ntmps113
 go_wp2
 go_region_held3 (fun w'=>w'.cell? ⟨w.heap.size,0,none⟩=some (.bool s.ln)∧w'.cell? ⟨w.heap.size,1,none⟩=some (.slice s.la s.lN s.lc)∧w'.cell? ⟨w.heap.size,2,none⟩=some (.bool s.hn)∧w'.cell? ⟨w.heap.size,3,none⟩=some (.slice s.ha s.hN s.hc)∧w'.cell? ⟨w.heap.size,4,none⟩=some (.int .i64 s.bits)∧w'.cell? ⟨w.heap.size+1,0,none⟩=some (.bool t.ln)∧w'.cell? ⟨w.heap.size+1,1,none⟩=some (.slice t.la t.lN t.lc)∧w'.cell? ⟨w.heap.size+1,2,none⟩=some (.bool t.hn)∧w'.cell? ⟨w.heap.size+1,3,none⟩=some (.slice t.ha t.hN t.hc)) (go_keep)
  (first
   | (go_at_call 65;have hq:=hb1;refine (yQ _ _ _ _ _ _ _ _ k k hi hi' _ (hs.hi.bw (zB (bl3 _ _ _ _).drew hb1)) (ht.hi.bw (zB (bl3 _ _ _ _).drew hb1)) (by omega) (by omega)).mono ?_;rintro r w2 ⟨neg2,a2,n2,c2,rfl,hZ2,hb2⟩;obtain ⟨hsz2,kC2,hfz2⟩:=kK (w.heap.size+1+1+1) hsz1 hb2)
   | (go_at_call 65;refine (yQ _ _ _ _ _ _ _ _ k k lo lo' _ (hs.lo.bw (bl3 _ _ _ _).drew) (ht.lo.bw (bl3 _ _ _ _).drew) (by omega) (by omega)).mono ?_;rintro r w1 ⟨neg1,a1,n1,c1,rfl,hZ1,hb1⟩;obtain ⟨hsz1,kC1,hfz1⟩:=kK (w.heap.size+1+1+1) (by simp) hb1))
 go_wp2;have q0:w2.cell? ⟨w.heap.size+1+1,0,none⟩=some (.bool false):=by simp[kC2,kC1,go_sem]
 have q1:w2.cell? ⟨w.heap.size+1+1,1,none⟩=some (.slice none 0 0):=by simp[kC2,kC1,go_sem]
 have q2:w2.cell? ⟨w.heap.size+1+1,2,none⟩=some (.bool false):=by simp[kC2,kC1,go_sem]
 have q3:w2.cell? ⟨w.heap.size+1+1,3,none⟩=some (.slice none 0 0):=by simp[kC2,kC1,go_sem]
 have q4:w2.cell? ⟨w.heap.size+1+1,4,none⟩=some (.int .i64 0):=by simp[kC2,kC1,go_sem]
 refine bodyPost_ret (v:=.agg #[.bool neg1,.slice a1 n1 c1,.bool neg2,.slice a2 n2 c2,.int .i64 s.bits]) (by simp[results,Tryz.results113,go_sem,q0,q1,q2,q3,q4]) rfl ⟨⟨neg1,a1,n1,c1,neg2,a2,n2,c2,s.bits⟩,rfl,rfl,?_,?_⟩
 ·exact SpAt.put5 ⟨(hZ1.bw hb2).mono (by omega),hZ2.mono (by omega)⟩ q0 q1 q2 q3 q4 _ _ _ _ _
 ·exact jV (zB (zB (bl3 _ _ _ _).drew hb1) hb2) le2 _ _ _ _ _
theorem lenZ_le (n:Nat) (d:Nat→Int):lenZ n d≤16*n:=by
 unfold lenZ;have:=blenF_bd 16 (d (n-1));split <;> omega
theorem blenF_Q (f:Nat):∀ x:Int,0<x→x<Q f→∃ b:Nat,zCC f x=(b:Int)+1∧Q b≤x∧x<Q (b+1):=by
 induction f with
 | zero=>intro x h0 h1;simp[Q] at h1;omega
 | succ f ih =>
  intro x h0 h1
  have hx:¬ x≤0:=by omega
  simp only[zCC,hx,if_false];simp only[Q] at h1
  by_cases h2:x/2=0
  ·refine ⟨0,?_,by simp[Q];omega,by simp[Q];omega⟩
   rw[h2];cases f <;> simp[zCC]
  ·obtain ⟨b,e1,e2,e3⟩:=ih (x/2) (by omega) (by omega)
   refine ⟨b+1,by rw[e1];omega,?_,?_⟩
   ·simp only[Q];omega
   ·simp only[Q] at *;omega
theorem lenZ_Q {d:Nat→Int} (hd:Dgs d) {n:Nat} (hn:0<n) (ht:d (n-1)≠0):∃ L:Nat,lenZ n d=(L:Int)+1∧Q L≤V d n∧V d n<Q (L+1):=by
 obtain ⟨m,rfl⟩:∃ m,n=m+1:=⟨n-1,by omega⟩
 simp only[Nat.add_sub_cancel] at ht;have hx:=hd m;obtain ⟨b,e1,e2,e3⟩:=blenF_Q 16 (d m) (by omega) (by rw[Q16];omega)
 refine ⟨16*m+b,?_,?_,?_⟩
 ·unfold lenZ;rw[if_neg (by omega)];simp only[Nat.add_sub_cancel];rw[e1];omega
 ·rw[jC,Q_P];simp only[V]
  have h1:=jB hd m;have h2:P m*Q b≤P m*d m:=Int.mul_le_mul_of_nonneg_left e2 (by have:=kN m;omega)
  rw[Int.mul_comm (d m)];omega
 ·rw[show 16*m+b+1=16*m+(b+1) by omega,jC,Q_P];simp only[V]
  have h1:=zGU hd m;have h2:P m*(d m+1)≤P m*Q (b+1):=Int.mul_le_mul_of_nonneg_left (by omega) (by have:=kN m;omega)
  rw[Int.mul_add,Int.mul_one] at h2;rw[Int.mul_comm (d m)];omega
theorem zNP {a x:Int} (hx:0<x):a<((x+a/x)/2+1)*((x+a/x)/2+1):=by
 obtain ⟨t,ht⟩:∃ t,t=a/x:=⟨_,rfl⟩;obtain ⟨y,hy⟩:∃ y,y=(x+t)/2:=⟨_,rfl⟩;rw[← ht,← hy]
 have h1:a<(t+1)*x:=by
  have h2:=Int.mul_ediv_add_emod a x;have h3:=Int.emod_lt_of_pos a hx;rw[← ht] at h2;rw[Int.add_mul,Int.one_mul,Int.mul_comm t x];omega
 have h4:(x+t+1)*x≤(2*y+2)*x:=Int.mul_le_mul_of_nonneg_right (by omega) (by omega)
 have h5:0≤(y+1-x)*(y+1-x):=by
  rcases Int.le_total 0 (y+1-x) with h|h
  ·exact Int.mul_nonneg h h
  ·exact Int.mul_nonneg_of_nonpos_of_nonpos h h
 have h6:(y+1-x)*(y+1-x)=(y+1)*(y+1)-2*((y+1)*x)+x*x:=by
  rw[Int.sub_mul,Int.mul_sub,Int.mul_sub,Int.mul_comm x (y+1)];omega
 have h7:(2*y+2)*x=2*((y+1)*x):=by rw[← Int.mul_assoc];congr 1;omega
 have h8:(x+t+1)*x=x*x+(t+1)*x:=by rw[← Int.add_mul];congr 1;omega
 omega
theorem zMJ {a x:Int} (hx:0<x) (ha:0≤a) (h:x≤(x+a/x)/2):x*x≤a:=by
 have h1:x≤a/x:=by omega
 have h2:=Int.mul_ediv_add_emod a x;have h3:=Int.emod_nonneg a (show x≠0 by omega)
 have h4:=Int.mul_le_mul_of_nonneg_left h1 (show 0≤x by omega)
 omega
theorem zPT {neg:Bool} {n:Nat} {d:Nat→Int} (h1:n=0∨d (n-1)≠0) (h2:n=0→neg=false):zF5 neg n d≠false:=by
 unfold zF5
 by_cases h0:n=0
 ·simp[h0,h2 h0]
 ·rw[if_neg h0];simpa using (show d (n-1)≠0 by omega)
structure SpC (w:World) (B:Nat) (s:Sp):Prop where
 c0:w.cell? ⟨B,0,none⟩=some (.bool s.ln)
 c1:w.cell? ⟨B,1,none⟩=some (.slice s.la s.lN s.lc)
 c2:w.cell? ⟨B,2,none⟩=some (.bool s.hn)
 c3:w.cell? ⟨B,3,none⟩=some (.slice s.ha s.hN s.hc)
 c4:w.cell? ⟨B,4,none⟩=some (.int .i64 s.bits)
theorem SpC.lt {w:World} {B:Nat} {s:Sp} (h:SpC w B s):B<w.heap.size:=World.block_lt_of_cell? w ⟨B,0,none⟩ h.c0
theorem SpC.bw {w w':World} {B:Nat} {s:Sp} (h:SpC w B s) (hb:Below w.heap.size w w'):SpC w' B s :=
 ⟨(hb.cell (p:=⟨B,0,none⟩) h.lt).trans h.c0,(hb.cell (p:=⟨B,1,none⟩) h.lt).trans h.c1,(hb.cell (p:=⟨B,2,none⟩) h.lt).trans h.c2,(hb.cell (p:=⟨B,3,none⟩) h.lt).trans h.c3,(hb.cell (p:=⟨B,4,none⟩) h.lt).trans h.c4⟩
theorem yP (w:World) (s:Sp) (T:TypeId):SpC (w.alloc (.cells #[.bool s.ln,.slice s.la s.lN s.lc,.bool s.hn,.slice s.ha s.hN s.hc,.int .i64 s.bits] T)) w.heap.size s:=⟨by simp,by simp,by simp,by simp,by simp⟩
structure NoC (w:World) (B:Nat):Prop where
 c0:w.cell? ⟨B,0,none⟩=some (.bool false)
 c1:w.cell? ⟨B,1,none⟩=some (.slice none 0 0)
 c2:w.cell? ⟨B,2,none⟩=some (.bool false)
 c3:w.cell? ⟨B,3,none⟩=some (.slice none 0 0)
 c4:w.cell? ⟨B,4,none⟩=some (.int .i64 0)
 fz:∀ o,w.frozen? ⟨B,o,none⟩=false
theorem NoC.lt {w:World} {B:Nat} (h:NoC w B):B<w.heap.size:=World.block_lt_of_cell? w ⟨B,0,none⟩ h.c0
theorem NoC.bw {w w':World} {B:Nat} (h:NoC w B) (hb:Below w.heap.size w w'):NoC w' B :=
 ⟨(hb.cell (p:=⟨B,0,none⟩) h.lt).trans h.c0,(hb.cell (p:=⟨B,1,none⟩) h.lt).trans h.c1,(hb.cell (p:=⟨B,2,none⟩) h.lt).trans h.c2,(hb.cell (p:=⟨B,3,none⟩) h.lt).trans h.c3,(hb.cell (p:=⟨B,4,none⟩) h.lt).trans h.c4,fun o=>(hb.frozen (p:=⟨B,o,none⟩) h.lt).trans (h.fz o)⟩
theorem zO (w:World) (T:TypeId):NoC (w.alloc (.cells #[.bool false,.slice none 0 0,.bool false,.slice none 0 0,.int .i64 0] T)) w.heap.size:=⟨by simp,by simp,by simp,by simp,by simp,fun o=>by simp[go_sem]⟩
theorem SpAt.mono {w:World} {s:Sp} {k k':Nat} {lo hi:Int} (h:SpAt w s k lo hi) (hk:k≤k'):SpAt w s k' lo hi:=⟨h.lo.mono hk,h.hi.mono hk⟩
theorem zB4 (w:World) (s:Sp) (k:Nat) (lo hi:Int) (hs:SpAt w s k lo hi) (hk:k≤700000000) :
  Calls Tryz.prog 97 #[.agg #[.bool s.ln,.slice s.la s.lN s.lc,.bool s.hn,.slice s.ha s.hN s.hc,.int .i64 s.bits]] w (zH w s.bits k (-hi) (-lo)):=by
 go_enter Tryz.func97,Tryz.ntmps97
 go_wp2
 go_region_held3 (fun w'=>w'.cell? ⟨w.heap.size,0,none⟩=some (.bool s.ln)∧w'.cell? ⟨w.heap.size,1,none⟩=some (.slice s.la s.lN s.lc)∧w'.cell? ⟨w.heap.size,2,none⟩=some (.bool s.hn)∧w'.cell? ⟨w.heap.size,3,none⟩=some (.slice s.ha s.hN s.hc)∧w'.cell? ⟨w.heap.size,4,none⟩=some (.int .i64 s.bits)) (go_keep)
  (first
   | (go_at_call 103;have hq:=hb1;refine (jY _ _ _ _ k lo _ (hs.lo.bw (zB (bl2 _ _ _).drew hb1)) (by omega)).mono ?_;rintro r w2 ⟨neg2,a2,n2,c2,rfl,hZ2,hb2⟩;obtain ⟨hsz2,kC2,hfz2⟩:=kK (w.heap.size+1+1) hsz1 hb2)
   | (go_at_call 103;refine (jY _ _ _ _ k hi _ (hs.hi.bw (bl2 _ _ _).drew) (by omega)).mono ?_;rintro r w1 ⟨neg1,a1,n1,c1,rfl,hZ1,hb1⟩;obtain ⟨hsz1,kC1,hfz1⟩:=kK (w.heap.size+1+1) (by simp) hb1))
 go_wp2;have q0:w2.cell? ⟨w.heap.size+1,0,none⟩=some (.bool false):=by simp[kC2,kC1,go_sem]
 have q1:w2.cell? ⟨w.heap.size+1,1,none⟩=some (.slice none 0 0):=by simp[kC2,kC1,go_sem]
 have q2:w2.cell? ⟨w.heap.size+1,2,none⟩=some (.bool false):=by simp[kC2,kC1,go_sem]
 have q3:w2.cell? ⟨w.heap.size+1,3,none⟩=some (.slice none 0 0):=by simp[kC2,kC1,go_sem]
 have q4:w2.cell? ⟨w.heap.size+1,4,none⟩=some (.int .i64 0):=by simp[kC2,kC1,go_sem]
 refine bodyPost_ret (v:=.agg #[.bool neg1,.slice a1 n1 c1,.bool neg2,.slice a2 n2 c2,.int .i64 s.bits]) (by simp[results,Tryz.results97,go_sem,q0,q1,q2,q3,q4]) rfl ⟨⟨neg1,a1,n1,c1,neg2,a2,n2,c2,s.bits⟩,rfl,rfl,?_,?_⟩
 ·exact SpAt.put5 ⟨hZ1.bw hb2,hZ2⟩ q0 q1 q2 q3 q4 _ _ _ _ _
 ·exact jV (zB (zB (bl2 _ _ _).drew hb1) hb2) (Nat.le_succ _) _ _ _ _ _
theorem zFM (x:Int):zF x x=0:=by simp[zF]
theorem yY (neg:Bool) (a:Option Addr) (n cap k:Nat) (x:Int) (w:World) (h:IntAt w neg a n cap k x) :
  Calls Tryz.prog 49 #[.agg #[.bool neg,.slice a n cap]] w fun r w'=>r=.returned (.bool true)∧Below w.heap.size w w':=by
 obtain ⟨d,h1,h2,h3,h4,h5⟩:=h
 have h6:zF5 neg n d=true:=by
  have:=zPT (neg:=neg) h2 h3
  simpa using this
 exact (zJU neg a n cap d w h1).mono fun r w' ⟨p1,p2⟩=>⟨by rw[p1,h6],p2⟩
theorem zHE (w:World) (s:Sp):Calls Tryz.prog 51 #[.agg #[.bool s.ln,.slice s.la s.lN s.lc,.bool s.hn,.slice s.ha s.hN s.hc,.int .i64 s.bits]] w fun r w'=>r=.returned (.agg #[.bool s.ln,.slice s.la s.lN s.lc,.bool s.hn,.slice s.ha s.hN s.hc,.int .i64 s.bits])∧Below w.heap.size w w':=by
 go_enter Tryz.func51,Tryz.ntmps51
 go_wp2_with fail;refine bodyPost_ret (v:=.agg #[.bool s.ln,.slice s.la s.lN s.lc,.bool s.hn,.slice s.ha s.hN s.hc,.int .i64 s.bits]) (by simp[results,Tryz.results51,go_sem]) rfl ⟨rfl,?_⟩
 first|exact bl2 _ _ _|exact jV (bl2 _ _ _) (Nat.le_succ _) _ _ _ _ _
theorem zI6 (w:World) (s t:Sp) (k:Nat) (lo hi lo' hi':Int) (hs:SpAt w s k lo hi) (ht:SpAt w t k lo' hi') (hk:k≤700000000) :
  Calls Tryz.prog 57 #[.agg #[.bool s.ln,.slice s.la s.lN s.lc,.bool s.hn,.slice s.ha s.hN s.hc,.int .i64 s.bits],.agg #[.bool t.ln,.slice t.la t.lN t.lc,.bool t.hn,.slice t.ha t.hN t.hc,.int .i64 t.bits]] w (zH w s.bits (k+1) (lo+lo') (hi+hi')):=by
 have ne1:w.heap.size≠w.heap.size+1+1:=by omega
 have ne2:w.heap.size+1+1≠w.heap.size:=by omega
 have le2:w.heap.size≤w.heap.size+1+1:=by omega
 go_enter Tryz.func57,Tryz.ntmps57
 go_wp2
 go_region_held3 (fun w'=>w'.cell? ⟨w.heap.size,0,none⟩=some (.bool s.ln)∧w'.cell? ⟨w.heap.size,1,none⟩=some (.slice s.la s.lN s.lc)∧w'.cell? ⟨w.heap.size,2,none⟩=some (.bool s.hn)∧w'.cell? ⟨w.heap.size,3,none⟩=some (.slice s.ha s.hN s.hc)∧w'.cell? ⟨w.heap.size,4,none⟩=some (.int .i64 s.bits)∧w'.cell? ⟨w.heap.size+1,0,none⟩=some (.bool t.ln)∧w'.cell? ⟨w.heap.size+1,1,none⟩=some (.slice t.la t.lN t.lc)∧w'.cell? ⟨w.heap.size+1,2,none⟩=some (.bool t.hn)∧w'.cell? ⟨w.heap.size+1,3,none⟩=some (.slice t.ha t.hN t.hc)) (go_keep)
  (first
   | (go_at_call 65;have hq:=hb1;refine (yQ _ _ _ _ _ _ _ _ k k hi hi' _ (hs.hi.bw (zB (bl3 _ _ _ _).drew hb1)) (ht.hi.bw (zB (bl3 _ _ _ _).drew hb1)) (by omega) (by omega)).mono ?_;rintro r w2 ⟨neg2,a2,n2,c2,rfl,hZ2,hb2⟩;obtain ⟨hsz2,kC2,hfz2⟩:=kK (w.heap.size+1+1+1) hsz1 hb2)
   | (go_at_call 65;refine (yQ _ _ _ _ _ _ _ _ k k lo lo' _ (hs.lo.bw (bl3 _ _ _ _).drew) (ht.lo.bw (bl3 _ _ _ _).drew) (by omega) (by omega)).mono ?_;rintro r w1 ⟨neg1,a1,n1,c1,rfl,hZ1,hb1⟩;obtain ⟨hsz1,kC1,hfz1⟩:=kK (w.heap.size+1+1+1) (by simp) hb1))
 go_wp2;have q0:w2.cell? ⟨w.heap.size+1+1,0,none⟩=some (.bool false):=by simp[kC2,kC1,go_sem]
 have q1:w2.cell? ⟨w.heap.size+1+1,1,none⟩=some (.slice none 0 0):=by simp[kC2,kC1,go_sem]
 have q2:w2.cell? ⟨w.heap.size+1+1,2,none⟩=some (.bool false):=by simp[kC2,kC1,go_sem]
 have q3:w2.cell? ⟨w.heap.size+1+1,3,none⟩=some (.slice none 0 0):=by simp[kC2,kC1,go_sem]
 have q4:w2.cell? ⟨w.heap.size+1+1,4,none⟩=some (.int .i64 0):=by simp[kC2,kC1,go_sem]
 refine bodyPost_ret (v:=.agg #[.bool neg1,.slice a1 n1 c1,.bool neg2,.slice a2 n2 c2,.int .i64 s.bits]) (by simp[results,Tryz.results57,go_sem,q0,q1,q2,q3,q4]) rfl ⟨⟨neg1,a1,n1,c1,neg2,a2,n2,c2,s.bits⟩,rfl,rfl,?_,?_⟩
 ·exact SpAt.put5 ⟨(hZ1.bw hb2).mono (by omega),hZ2.mono (by omega)⟩ q0 q1 q2 q3 q4 _ _ _ _ _
 ·exact jV (zB (zB (bl3 _ _ _ _).drew hb1) hb2) le2 _ _ _ _ _
theorem zEM (w:World) (s t:Sp) (k:Nat) (lo hi lo' hi':Int) (hs:SpAt w s k lo hi) (ht:SpAt w t k lo' hi') (hk:k≤700000000) :
  Calls Tryz.prog 26 #[.agg #[.bool s.ln,.slice s.la s.lN s.lc,.bool s.hn,.slice s.ha s.hN s.hc,.int .i64 s.bits],.agg #[.bool t.ln,.slice t.la t.lN t.lc,.bool t.hn,.slice t.ha t.hN t.hc,.int .i64 t.bits]] w (zH w s.bits (k+1) (lo-hi') (hi-lo')):=by
 have ne1:w.heap.size≠w.heap.size+1+1:=by omega
 have ne2:w.heap.size+1+1≠w.heap.size:=by omega
 have le2:w.heap.size≤w.heap.size+1+1:=by omega
 go_enter Tryz.func26,Tryz.ntmps26
 go_wp2
 go_region_held3 (fun w'=>w'.cell? ⟨w.heap.size,0,none⟩=some (.bool s.ln)∧w'.cell? ⟨w.heap.size,1,none⟩=some (.slice s.la s.lN s.lc)∧w'.cell? ⟨w.heap.size,2,none⟩=some (.bool s.hn)∧w'.cell? ⟨w.heap.size,3,none⟩=some (.slice s.ha s.hN s.hc)∧w'.cell? ⟨w.heap.size,4,none⟩=some (.int .i64 s.bits)∧w'.cell? ⟨w.heap.size+1,0,none⟩=some (.bool t.ln)∧w'.cell? ⟨w.heap.size+1,1,none⟩=some (.slice t.la t.lN t.lc)∧w'.cell? ⟨w.heap.size+1,2,none⟩=some (.bool t.hn)∧w'.cell? ⟨w.heap.size+1,3,none⟩=some (.slice t.ha t.hN t.hc)) (go_keep)
  (first
   | (go_at_call 72;have hq:=hb1;refine (zAL _ _ _ _ _ _ _ _ k k hi lo' _ (hs.hi.bw (zB (bl3 _ _ _ _).drew hb1)) (ht.lo.bw (zB (bl3 _ _ _ _).drew hb1)) (by omega) (by omega)).mono ?_;rintro r w2 ⟨neg2,a2,n2,c2,rfl,hZ2,hb2⟩;obtain ⟨hsz2,kC2,hfz2⟩:=kK (w.heap.size+1+1+1) hsz1 hb2)
   | (go_at_call 72;refine (zAL _ _ _ _ _ _ _ _ k k lo hi' _ (hs.lo.bw (bl3 _ _ _ _).drew) (ht.hi.bw (bl3 _ _ _ _).drew) (by omega) (by omega)).mono ?_;rintro r w1 ⟨neg1,a1,n1,c1,rfl,hZ1,hb1⟩;obtain ⟨hsz1,kC1,hfz1⟩:=kK (w.heap.size+1+1+1) (by simp) hb1))
 go_wp2;have q0:w2.cell? ⟨w.heap.size+1+1,0,none⟩=some (.bool false):=by simp[kC2,kC1,go_sem]
 have q1:w2.cell? ⟨w.heap.size+1+1,1,none⟩=some (.slice none 0 0):=by simp[kC2,kC1,go_sem]
 have q2:w2.cell? ⟨w.heap.size+1+1,2,none⟩=some (.bool false):=by simp[kC2,kC1,go_sem]
 have q3:w2.cell? ⟨w.heap.size+1+1,3,none⟩=some (.slice none 0 0):=by simp[kC2,kC1,go_sem]
 have q4:w2.cell? ⟨w.heap.size+1+1,4,none⟩=some (.int .i64 0):=by simp[kC2,kC1,go_sem]
 refine bodyPost_ret (v:=.agg #[.bool neg1,.slice a1 n1 c1,.bool neg2,.slice a2 n2 c2,.int .i64 s.bits]) (by simp[results,Tryz.results26,go_sem,q0,q1,q2,q3,q4]) rfl ⟨⟨neg1,a1,n1,c1,neg2,a2,n2,c2,s.bits⟩,rfl,rfl,?_,?_⟩
 ·exact SpAt.put5 ⟨(hZ1.bw hb2).mono (by omega),hZ2.mono (by omega)⟩ q0 q1 q2 q3 q4 _ _ _ _ _
 ·exact jV (zB (zB (bl3 _ _ _ _).drew hb1) hb2) le2 _ _ _ _ _
theorem zJI (w:World) (s t:Sp) (k:Nat) (lo hi lo' hi':Int) (hs:SpAt w s k lo hi) (ht:SpAt w t k lo' hi') (hk:k≤600000000) :
  Calls Tryz.prog 118 #[.agg #[.bool s.ln,.slice s.la s.lN s.lc,.bool s.hn,.slice s.ha s.hN s.hc,.int .i64 s.bits],.agg #[.bool t.ln,.slice t.la t.lN t.lc,.bool t.hn,.slice t.ha t.hN t.hc,.int .i64 t.bits]] w (zH w s.bits (k+1) (lo-hi') (hi-lo')):=by
 have ne1:w.heap.size≠w.heap.size+1+1:=by omega
 have ne2:w.heap.size+1+1≠w.heap.size:=by omega
 have le2:w.heap.size≤w.heap.size+1+1:=by omega
 go_enter Tryz.func118,Tryz.ntmps118
 go_wp2
 go_region_held3 (fun w'=>w'.cell? ⟨w.heap.size,0,none⟩=some (.bool s.ln)∧w'.cell? ⟨w.heap.size,1,none⟩=some (.slice s.la s.lN s.lc)∧w'.cell? ⟨w.heap.size,2,none⟩=some (.bool s.hn)∧w'.cell? ⟨w.heap.size,3,none⟩=some (.slice s.ha s.hN s.hc)∧w'.cell? ⟨w.heap.size,4,none⟩=some (.int .i64 s.bits)∧w'.cell? ⟨w.heap.size+1,0,none⟩=some (.bool t.ln)∧w'.cell? ⟨w.heap.size+1,1,none⟩=some (.slice t.la t.lN t.lc)∧w'.cell? ⟨w.heap.size+1,2,none⟩=some (.bool t.hn)∧w'.cell? ⟨w.heap.size+1,3,none⟩=some (.slice t.ha t.hN t.hc)∧w'.cell? ⟨w.heap.size+1,4,none⟩=some (.int .i64 t.bits)) (go_keep)
  (first
   | (go_at_call 97;refine (zB4 _ t k lo' hi' (ht.bw (bl3 _ _ _ _).drew) (by omega)).mono ?_;rintro r w1 ⟨u,rfl,hub,hup,hb1⟩;have HUB:=zC hub;clear hub;obtain ⟨hsz1,kC1,hfz1⟩:=kK (w.heap.size+1+1+1) (by simp) hb1)
   | (go_at_call 113;refine (zES _ s u k lo hi (-hi') (-lo') (hs.bw (zB (bl3 _ _ _ _).drew hb1)) hup (by omega)).mono ?_;rintro r w2 ⟨v,rfl,hvb,hvp,hb2⟩;have HVB:=zC hvb;clear hvb;obtain ⟨hsz2,kC2,hfz2⟩:=kK (w.heap.size+1+1+1) hsz1 hb2))
 go_wp2;have q0:w2.cell? ⟨w.heap.size+1+1,0,none⟩=some (.bool false):=by simp[kC2,kC1,go_sem]
 have q1:w2.cell? ⟨w.heap.size+1+1,1,none⟩=some (.slice none 0 0):=by simp[kC2,kC1,go_sem]
 have q2:w2.cell? ⟨w.heap.size+1+1,2,none⟩=some (.bool false):=by simp[kC2,kC1,go_sem]
 have q3:w2.cell? ⟨w.heap.size+1+1,3,none⟩=some (.slice none 0 0):=by simp[kC2,kC1,go_sem]
 have q4:w2.cell? ⟨w.heap.size+1+1,4,none⟩=some (.int .i64 0):=by simp[kC2,kC1,go_sem]
 refine bodyPost_ret (v:=.agg #[.bool v.ln,.slice v.la v.lN v.lc,.bool v.hn,.slice v.ha v.hN v.hc,.int .i64 v.bits]) (by simp[results,Tryz.results118,go_sem,q0,q1,q2,q3,q4]) rfl ⟨v,rfl,zA HVB,?_,?_⟩
 ·rw[Int.sub_eq_add_neg,Int.sub_eq_add_neg]
  exact SpAt.put5 hvp q0 q1 q2 q3 q4 _ _ _ _ _
 ·exact jV (zB (zB (bl3 _ _ _ _).drew hb1) hb2) le2 _ _ _ _ _
theorem zO0 (w:World) (s t:Sp) (k:Nat) (lo hi:Int) (hs:SpAt w s k lo hi) (ht:SpAt w t k lo hi) (hb:s.bits=t.bits) :
  Calls Tryz.prog 48 #[.agg #[.bool s.ln,.slice s.la s.lN s.lc,.bool s.hn,.slice s.ha s.hN s.hc,.int .i64 s.bits],.agg #[.bool t.ln,.slice t.la t.lN t.lc,.bool t.hn,.slice t.ha t.hN t.hc,.int .i64 t.bits]] w fun r w'=>r=.returned (.bool true)∧Below w.heap.size w w':=by
 have hb1:(s.bits == t.bits)=true:=by simp[hb]
 clear hb
 go_enter Tryz.func48,Tryz.ntmps48
 go_wp2_with fail;refine (zS _ _ _ _ _ _ _ _ k k lo lo _ (hs.lo.bw (bl2 _ _ _)) (ht.lo.bw (bl2 _ _ _))).mono ?_;rintro r w1 ⟨rfl,hb1'⟩;obtain ⟨hsz1,kC1,hfz1⟩:=kK (w.heap.size+1+1) (by simp) hb1'
 have hB1:Below w.heap.size w w1:=zB (bl2 _ _ _) hb1';rw[zFM];go_wp2_with fail;refine (zS _ _ _ _ _ _ _ _ k k hi hi _ (hs.hi.bw hB1) (ht.hi.bw hB1)).mono ?_;rintro r w2 ⟨rfl,hb2⟩;obtain ⟨hsz2,kC2,hfz2⟩:=kK (w.heap.size+1+1) hsz1 hb2;have hB2:Below w.heap.size w w2:=zB hB1 hb2;rw[zFM];go_wp2_with fail;refine (yY _ _ _ _ k lo _ (hs.lo.bw hB2)).mono ?_;rintro r w3 ⟨rfl,hb3⟩;obtain ⟨hsz3,kC3,hfz3⟩:=kK (w.heap.size+1+1) hsz2 hb3;have hB3:Below w.heap.size w w3:=zB hB2 hb3;go_wp2_with fail;refine (yY _ _ _ _ k hi _ (hs.hi.bw hB3)).mono ?_;rintro r w4 ⟨rfl,hb4⟩;go_wp2_with fail
 go_ret
 exact ⟨rfl,zB hB3 hb4⟩
theorem zDR (neg:Bool) (a:Option Addr) (n cap k1:Nat) (k x:Int) (w:World) (h1:IntAt w neg a n cap k1 x) (hk1:k1≤900000000) (hk0 : -1000000000≤k) (hk:k≤1000000000) :
  Calls Tryz.prog 174 #[.agg #[.bool neg,.slice a n cap],.int .i64 k] w fun r w' =>
   ∃ neg' a' n' cap',r=.returned (.agg #[.bool neg',.slice a' n' cap'])∧IntAt w' neg' a' n' cap' ((-k).toNat/16+k1+5) (-(zAU (-x) k))∧Below w.heap.size w w':=by
 go_enter Tryz.func174,Tryz.ntmps174
 go_wp2_with (first
  | (go_at_call 103;have hq:=hb2;refine (jY _ _ _ _ ((-k).toNat/16+k1+5) _ _ hZ2 (by omega)).mono ?_;rintro r w3 ⟨neg3,a3,n3,c3,rfl,hZ3,hb3⟩;obtain ⟨hsz3,kC3,hfz3⟩:=kK (w.heap.size+1+1) hsz2 hb3)
  | (go_at_call 103;refine (jY _ _ _ _ k1 x _ (h1.bw (bl2 _ _ _)) (by omega)).mono ?_;rintro r w1 ⟨neg1,a1,n1,c1,rfl,hZ1,hb1⟩;obtain ⟨hsz1,kC1,hfz1⟩:=kK (w.heap.size+1+1) (by simp) hb1)
  | (go_at_call 105;refine (zD6 _ _ _ _ k1 k (-x) _ hZ1 (by omega) hk0 hk).mono ?_;rintro r w2 ⟨neg2,a2,n2,c2,rfl,hZ2,hb2⟩;obtain ⟨hsz2,kC2,hfz2⟩:=kK (w.heap.size+1+1) hsz1 hb2))
 have h0:w3.cell? ⟨w.heap.size+1,0,none⟩=some (.bool false):=by simp[kC3,kC2,kC1,go_sem]
 have h1':w3.cell? ⟨w.heap.size+1,1,none⟩=some (.slice none 0 0):=by simp[kC3,kC2,kC1,go_sem]
 refine bodyPost_ret (v:=.agg #[.bool neg3,.slice a3 n3 c3]) (by simp[results,Tryz.results174,go_sem,h0,h1']) rfl ⟨neg3,a3,n3,c3,rfl,hZ3.put2 h0 h1' _ _,?_⟩
 exact ((zB (zB (zB (bl2 _ _ _) hb1) hb2) hb3).setCell (p:=⟨w.heap.size+1,0,none⟩) (Nat.le_succ _) _).setCell (p:=⟨w.heap.size+1,1,none⟩) (Nat.le_succ _) _
theorem zJH (w:World) (s t:Sp) (k:Nat) (lo hi lo' hi':Int) (hs:SpAt w s k lo hi) (ht:SpAt w t k lo' hi') (hk:k≤300000000) :
  Calls Tryz.prog 178 #[.agg #[.bool s.ln,.slice s.la s.lN s.lc,.bool s.hn,.slice s.ha s.hN s.hc,.int .i64 s.bits],.agg #[.bool t.ln,.slice t.la t.lN t.lc,.bool t.hn,.slice t.ha t.hN t.hc,.int .i64 t.bits],.func (.func 66) #[] #[]] w fun r w' =>
   ∃ B f,r=.returned (.slice (some ⟨B,0,none⟩) 4 4)∧Nums w' B 4 (k+k) f (pr4 (lo*lo') (lo*hi') (hi*lo') (hi*hi'))∧Below w.heap.size w w':=by
 obtain ⟨W,hW⟩:∃ W,W=(w.alloc (.cells #[.bool s.ln,.slice s.la s.lN s.lc,.bool s.hn,.slice s.ha s.hN s.hc,.int .i64 s.bits] 28)).alloc (.cells #[.bool t.ln,.slice t.la t.lN t.lc,.bool t.hn,.slice t.ha t.hN t.hc,.int .i64 t.bits] 28):=⟨_,rfl⟩;have hBW:Below w.heap.size w W:=by rw[hW];exact bl2 _ _ _
 have a0:SpC W w.heap.size s:=by rw[hW];constructor <;> simp[go_sem]
 have g0:SpC W (w.heap.size+1) t:=by rw[hW];constructor <;> simp[go_sem]
 have HS:=zC (hs.bw hBW);have HT:=zC (ht.bw hBW);have hB0:Below W.heap.size W W.drew:=(Below.refl _ _).drew
 have HK:=zC (show ∀ w',Below W.heap.size W w'→(w'.cell? ⟨w.heap.size,0,none⟩=some (.bool s.ln)∧w'.cell? ⟨w.heap.size,1,none⟩=some (.slice s.la s.lN s.lc)∧w'.cell? ⟨w.heap.size,2,none⟩=some (.bool s.hn)∧w'.cell? ⟨w.heap.size,3,none⟩=some (.slice s.ha s.hN s.hc)∧w'.cell? ⟨w.heap.size+1,0,none⟩=some (.bool t.ln)∧w'.cell? ⟨w.heap.size+1,1,none⟩=some (.slice t.la t.lN t.lc)∧w'.cell? ⟨w.heap.size+1,2,none⟩=some (.bool t.hn)∧w'.cell? ⟨w.heap.size+1,3,none⟩=some (.slice t.ha t.hN t.hc)) from fun w' hB=>by
  obtain ⟨x0,x1,x2,x3,x4⟩:=a0.bw hB;obtain ⟨y0,y1,y2,y3,y4⟩:=g0.bw hB
  exact ⟨x0,x1,x2,x3,y0,y1,y2,y3⟩)
 go_enter Tryz.func178,Tryz.ntmps178
 go_wp2;obtain ⟨x0,x1,x2,x3,x4⟩:=a0;obtain ⟨y0,y1,y2,y3,y4⟩:=g0;rw[← hW];clear hW
 go_region_held3 (fun w'=>w'.cell? ⟨w.heap.size,0,none⟩=some (.bool s.ln)∧w'.cell? ⟨w.heap.size,1,none⟩=some (.slice s.la s.lN s.lc)∧w'.cell? ⟨w.heap.size,2,none⟩=some (.bool s.hn)∧w'.cell? ⟨w.heap.size,3,none⟩=some (.slice s.ha s.hN s.hc)∧w'.cell? ⟨w.heap.size+1,0,none⟩=some (.bool t.ln)∧w'.cell? ⟨w.heap.size+1,1,none⟩=some (.slice t.la t.lN t.lc)∧w'.cell? ⟨w.heap.size+1,2,none⟩=some (.bool t.hn)∧w'.cell? ⟨w.heap.size+1,3,none⟩=some (.slice t.ha t.hN t.hc)) (exact zA HK _ (by first|exact hB0|exact zK hB4 _|exact hB4|exact hB3|exact hB2|exact hB1))
  (first
   | (go_at_call 66;have hq:=hB3;refine (zX _ _ _ _ _ _ _ _ k k hi hi' _ ((zA HS).hi.bw hB3) ((zA HT).hi.bw hB3) (by omega) (by omega)).mono ?_;rintro r w4 ⟨neg4,a4,n4,c4,rfl,hZ4,hb4⟩;have hZ1:=hZ1.bw hb4;have hZ2:=hZ2.bw hb4;have hZ3:=hZ3.bw hb4;have hB4:=zB hB3 hb4)
   | (go_at_call 66;have hq:=hB2;refine (zX _ _ _ _ _ _ _ _ k k hi lo' _ ((zA HS).hi.bw hB2) ((zA HT).lo.bw hB2) (by omega) (by omega)).mono ?_;rintro r w3 ⟨neg3,a3,n3,c3,rfl,hZ3,hb3⟩;have hZ1:=hZ1.bw hb3;have hZ2:=hZ2.bw hb3;have hB3:=zB hB2 hb3)
   | (go_at_call 66;have hq:=hB1;refine (zX _ _ _ _ _ _ _ _ k k lo hi' _ ((zA HS).lo.bw hB1) ((zA HT).hi.bw hB1) (by omega) (by omega)).mono ?_;rintro r w2 ⟨neg2,a2,n2,c2,rfl,hZ2,hb2⟩;have hZ1:=hZ1.bw hb2;have hB2:=zB hB1 hb2)
   | (go_at_call 66;have hq:=hB0;refine (zX _ _ _ _ _ _ _ _ k k lo lo' _ ((zA HS).lo.bw hB0) ((zA HT).lo.bw hB0) (by omega) (by omega)).mono ?_;rintro r w1 ⟨neg1,a1,n1,c1,rfl,hZ1,hb1⟩;have hB1:=zB hB0 hb1))
 go_wp2
 go_ret
 exact ⟨w4.heap.size,pr4 ⟨neg1,a1,n1,c1⟩ ⟨neg2,a2,n2,c2⟩ ⟨neg3,a3,n3,c3⟩ ⟨neg4,a4,n4,c4⟩,rfl,zI2 w4 _ rfl ⟨neg1,a1,n1,c1⟩ ⟨neg2,a2,n2,c2⟩ ⟨neg3,a3,n3,c3⟩ ⟨neg4,a4,n4,c4⟩ _ _ _ _ _ _ hZ1 hZ2 hZ3 hZ4,zB hBW (zK hB4 _)⟩
theorem zI5 (w:World) (s t:Sp) (k:Nat) (lo hi lo' hi':Int) (hs:SpAt w s k lo hi) (ht:SpAt w t k lo' hi') (hk:k≤300000000) (hb0:0≤s.bits) (hbm:s.bits≤1000000) :
  Calls Tryz.prog 162 #[.agg #[.bool s.ln,.slice s.la s.lN s.lc,.bool s.hn,.slice s.ha s.hN s.hc,.int .i64 s.bits],.agg #[.bool t.ln,.slice t.la t.lN t.lc,.bool t.hn,.slice t.ha t.hN t.hc,.int .i64 t.bits]] w (zH w s.bits (k+k+8) (zAU (jA (pr4 (lo*lo') (lo*hi') (hi*lo') (hi*hi')) 3) s.bits) (-(zAU (-(jM (pr4 (lo*lo') (lo*hi') (hi*lo') (hi*hi')) 3)) s.bits))):=by
 have hbz:(-s.bits).toNat=0:=by omega
 have ne1:w.heap.size≠w.heap.size+1+1:=by omega
 have ne2:w.heap.size+1+1≠w.heap.size:=by omega
 obtain ⟨W,hW⟩:∃ W,W=((w.alloc (.cells #[.bool s.ln,.slice s.la s.lN s.lc,.bool s.hn,.slice s.ha s.hN s.hc,.int .i64 s.bits] 28)).alloc (.cells #[.bool t.ln,.slice t.la t.lN t.lc,.bool t.hn,.slice t.ha t.hN t.hc,.int .i64 t.bits] 28)).alloc (.cells #[.bool false,.slice none 0 0,.bool false,.slice none 0 0,.int .i64 0] 28):=⟨_,rfl⟩;have hBW:Below w.heap.size w W:=by rw[hW];exact bl3 _ _ _ _
 have a0:SpC W w.heap.size s:=by rw[hW];constructor <;> simp[go_sem]
 have g0:SpC W (w.heap.size+1) t:=by rw[hW];constructor <;> simp[go_sem]
 have r0:NoC W (w.heap.size+1+1):=by rw[hW];constructor <;> simp[go_sem]
 have HS:=zC (hs.bw hBW);have HT:=zC (ht.bw hBW);have hB0:Below W.heap.size W W.drew:=(Below.refl _ _).drew
 have HK:=zC (show ∀ w',Below W.heap.size W w'→(w'.cell? ⟨w.heap.size,0,none⟩=some (.bool s.ln)∧w'.cell? ⟨w.heap.size,1,none⟩=some (.slice s.la s.lN s.lc)∧w'.cell? ⟨w.heap.size,2,none⟩=some (.bool s.hn)∧w'.cell? ⟨w.heap.size,3,none⟩=some (.slice s.ha s.hN s.hc)∧w'.cell? ⟨w.heap.size+1,0,none⟩=some (.bool t.ln)∧w'.cell? ⟨w.heap.size+1,1,none⟩=some (.slice t.la t.lN t.lc)∧w'.cell? ⟨w.heap.size+1,2,none⟩=some (.bool t.hn)∧w'.cell? ⟨w.heap.size+1,3,none⟩=some (.slice t.ha t.hN t.hc)) from fun w' hB=>by
  obtain ⟨x0,x1,x2,x3,x4⟩:=a0.bw hB;obtain ⟨y0,y1,y2,y3,y4⟩:=g0.bw hB
  exact ⟨x0,x1,x2,x3,y0,y1,y2,y3⟩)
 go_enter Tryz.func162,Tryz.ntmps162
 go_wp2_with fail;rw[← hW];clear hW;refine (zJH _ s t k lo hi lo' hi' (zA HS) (zA HT) hk).mono ?_;rintro r w1 ⟨B,f,rfl,hN,hb1⟩;have hN1:=r0.bw hb1;have hl1:=hN1.lt;obtain ⟨x0,x1,x2,x3,x4⟩:=a0.bw hb1;have a1:SpC w1 w.heap.size s:=⟨x0,x1,x2,x3,x4⟩;have HK1:=zC (show ∀ w',Below w1.heap.size w1 w'→w'.cell? ⟨w.heap.size,4,none⟩=some (.int .i64 s.bits) from fun w' hB=>(a1.bw hB).c4)
 have hD0:Below w1.heap.size w1 w1.drew:=(Below.refl _ _).drew;clear x0 x1 x2 x3;go_wp2_with fail
 go_region_held3 (fun w'=>w'.cell? ⟨w.heap.size,4,none⟩=some (.int .i64 s.bits)) (first|exact zA HK1 _ (by first|exact hD0|exact hD5|exact hD4|exact hD3|exact hD2)|go_keep)
  (first
   | (go_at_call 177;refine (zCO _ 3 _ (k+k) f _ _ (hN.bw hD0) (by omega) (by omega)).mono ?_;rintro r w2 ⟨neg2,a2,n2,c2,rfl,hZ2,hb2⟩;have hD2:=zB hD0 hb2)
   | (go_at_call 105;refine (zD6 _ _ _ _ (k+k+1) s.bits _ _ hZ2 (by omega) (by omega) (by omega)).mono ?_;rintro r w3 ⟨neg3,a3,n3,c3,rfl,hZ3,hb3⟩;have hD3:=zB hD2 hb3)
   | (go_at_call 180;refine (zEL _ 3 _ (k+k) f _ _ (hN.bw hD3) (by omega) (by omega)).mono ?_;rintro r w4 ⟨neg4,a4,n4,c4,rfl,hZ4,hb4⟩;have hZ3:=hZ3.bw hb4;have hD4:=zB hD3 hb4)
   | (go_at_call 174;refine (zDR _ _ _ _ (k+k+1) s.bits _ _ hZ4 (by omega) (by omega) (by omega)).mono ?_;rintro r w5 ⟨neg5,a5,n5,c5,rfl,hZ5,hb5⟩;have hZ3:=hZ3.bw hb5;have hD5:=zB hD4 hb5;obtain ⟨q0,q1,q2,q3,q4,q5⟩:=hN1.bw hD5;have x5:=zA HK1 _ hD5))
 go_wp2;refine bodyPost_ret (v:=.agg #[.bool neg3,.slice a3 n3 c3,.bool neg5,.slice a5 n5 c5,.int .i64 s.bits]) (by simp[results,Tryz.results162,go_sem,q0,q1,q2,q3,q4]) rfl ⟨⟨neg3,a3,n3,c3,neg5,a5,n5,c5,s.bits⟩,rfl,rfl,?_,?_⟩
 ·exact SpAt.put5 ⟨hZ3.mono (by omega),hZ5.mono (by omega)⟩ q0 q1 q2 q3 q4 _ _ _ _ _
 ·exact jV (zB (zB hBW hb1) hD5) (by omega) _ _ _ _ _
theorem kI {w:World} {B B' o:Nat} {v:Option Value} (h:w.cell? ⟨B,o,none⟩=v) (hne:B≠B') (u0 u1 u2 u3 u4:Value) :
  (((((w.setCell ⟨B',0,none⟩ u0).setCell ⟨B',1,none⟩ u1).setCell ⟨B',2,none⟩ u2).setCell ⟨B',3,none⟩ u3).setCell ⟨B',4,none⟩ u4).cell? ⟨B,o,none⟩=v:=by
 have ne:∀ i:Nat,(⟨B',i,none⟩:Addr)≠⟨B,o,none⟩:=fun i e=>hne (by injection e with e1;exact e1.symm)
 rw[World.cell?_setCell_other _ _ _ _ (ne 4),World.cell?_setCell_other _ _ _ _ (ne 3),World.cell?_setCell_other _ _ _ _ (ne 2),World.cell?_setCell_other _ _ _ _ (ne 1),World.cell?_setCell_other _ _ _ _ (ne 0)];exact h
theorem SpC.put {w:World} {B B':Nat} {s:Sp} (h:SpC w B s) (hne:B≠B') (u0 u1 u2 u3 u4:Value) :
  SpC (((((w.setCell ⟨B',0,none⟩ u0).setCell ⟨B',1,none⟩ u1).setCell ⟨B',2,none⟩ u2).setCell ⟨B',3,none⟩ u3).setCell ⟨B',4,none⟩ u4) B s :=
 ⟨kI h.c0 hne _ _ _ _ _,kI h.c1 hne _ _ _ _ _,kI h.c2 hne _ _ _ _ _,kI h.c3 hne _ _ _ _ _,kI h.c4 hne _ _ _ _ _⟩
theorem nums2' (w:World) (B:Nat) (hB:w.heap.size=B) (x y:Nm) (k:Nat) (zx zy:Int) (T:TypeId) (hx:IntAt w x.neg x.a x.n x.cap k zx) (hy:IntAt w y.neg y.a y.n y.cap k zy) :
  Nums (w.alloc (.cells #[.bool x.neg,.slice x.a x.n x.cap,.bool y.neg,.slice y.a y.n y.cap] T)) B 2 k (pr x y) (pr zx zy):=by
 subst hB;exact nums2 w x y k zx zy T hx hy
theorem zHM (w:World) (s t:Sp) (k:Nat) (lo hi lo' hi':Int) (hs:SpAt w s k lo hi) (ht:SpAt w t k lo' hi') (hk:k≤300000000) (hb0:0≤s.bits) (hbm:s.bits≤1000000) :
  Calls Tryz.prog 52 #[.agg #[.bool s.ln,.slice s.la s.lN s.lc,.bool s.hn,.slice s.ha s.hN s.hc,.int .i64 s.bits],.agg #[.bool t.ln,.slice t.la t.lN t.lc,.bool t.hn,.slice t.ha t.hN t.hc,.int .i64 t.bits]] w (zH w s.bits (k+k+8) (zAU (jA (pr4 (lo*lo') (lo*hi') (hi*lo') (hi*hi')) 3) s.bits) (-(zAU (-(jM (pr4 (lo*lo') (lo*hi') (hi*lo') (hi*hi')) 3)) s.bits))):=by
 have hbz:(-s.bits).toNat=0:=by omega
 have ne1:w.heap.size≠w.heap.size+1+1:=by omega
 have ne2:w.heap.size+1+1≠w.heap.size:=by omega
 obtain ⟨W,hW⟩:∃ W,W=((w.alloc (.cells #[.bool s.ln,.slice s.la s.lN s.lc,.bool s.hn,.slice s.ha s.hN s.hc,.int .i64 s.bits] 36)).alloc (.cells #[.bool t.ln,.slice t.la t.lN t.lc,.bool t.hn,.slice t.ha t.hN t.hc,.int .i64 t.bits] 36)).alloc (.cells #[.bool false,.slice none 0 0,.bool false,.slice none 0 0,.int .i64 0] 36):=⟨_,rfl⟩;have hBW:Below w.heap.size w W:=by rw[hW];exact bl3 _ _ _ _
 have a0:SpC W w.heap.size s:=by rw[hW];constructor <;> simp[go_sem]
 have g0:SpC W (w.heap.size+1) t:=by rw[hW];constructor <;> simp[go_sem]
 have r0:NoC W (w.heap.size+1+1):=by rw[hW];constructor <;> simp[go_sem]
 have HS:=zC (hs.bw hBW);have HT:=zC (ht.bw hBW);have hB0:Below W.heap.size W W.drew:=(Below.refl _ _).drew
 have HK:=zC (show ∀ w',Below W.heap.size W w'→(w'.cell? ⟨w.heap.size,0,none⟩=some (.bool s.ln)∧w'.cell? ⟨w.heap.size,1,none⟩=some (.slice s.la s.lN s.lc)∧w'.cell? ⟨w.heap.size,2,none⟩=some (.bool s.hn)∧w'.cell? ⟨w.heap.size,3,none⟩=some (.slice s.ha s.hN s.hc)∧w'.cell? ⟨w.heap.size+1,0,none⟩=some (.bool t.ln)∧w'.cell? ⟨w.heap.size+1,1,none⟩=some (.slice t.la t.lN t.lc)∧w'.cell? ⟨w.heap.size+1,2,none⟩=some (.bool t.hn)∧w'.cell? ⟨w.heap.size+1,3,none⟩=some (.slice t.ha t.hN t.hc)) from fun w' hB=>by
  obtain ⟨x0,x1,x2,x3,x4⟩:=a0.bw hB;obtain ⟨y0,y1,y2,y3,y4⟩:=g0.bw hB
  exact ⟨x0,x1,x2,x3,y0,y1,y2,y3⟩)
 go_enter Tryz.func52,Tryz.ntmps52
 go_wp2;obtain ⟨x0,x1,x2,x3,x4⟩:=a0;obtain ⟨y0,y1,y2,y3,y4⟩:=g0;have a0:SpC W w.heap.size s:=⟨x0,x1,x2,x3,x4⟩;rw[← hW];clear hW
 go_region_held3 (fun w'=>w'.cell? ⟨w.heap.size,0,none⟩=some (.bool s.ln)∧w'.cell? ⟨w.heap.size,1,none⟩=some (.slice s.la s.lN s.lc)∧w'.cell? ⟨w.heap.size,2,none⟩=some (.bool s.hn)∧w'.cell? ⟨w.heap.size,3,none⟩=some (.slice s.ha s.hN s.hc)∧w'.cell? ⟨w.heap.size+1,0,none⟩=some (.bool t.ln)∧w'.cell? ⟨w.heap.size+1,1,none⟩=some (.slice t.la t.lN t.lc)∧w'.cell? ⟨w.heap.size+1,2,none⟩=some (.bool t.hn)∧w'.cell? ⟨w.heap.size+1,3,none⟩=some (.slice t.ha t.hN t.hc)) (exact zA HK _ (by first|exact hB0|exact zK hB4 _|exact hB4|exact hB3|exact hB2|exact hB1))
  (first
   | (go_at_call 66;have hq:=hB3;refine (zX _ _ _ _ _ _ _ _ k k hi hi' _ ((zA HS).hi.bw hB3) ((zA HT).hi.bw hB3) (by omega) (by omega)).mono ?_;rintro r w4 ⟨neg4,a4,n4,c4,rfl,hZ4,hb4⟩;have hZ1:=hZ1.bw hb4;have hZ2:=hZ2.bw hb4;have hZ3:=hZ3.bw hb4;have hB4:=zB hB3 hb4)
   | (go_at_call 66;have hq:=hB2;refine (zX _ _ _ _ _ _ _ _ k k hi lo' _ ((zA HS).hi.bw hB2) ((zA HT).lo.bw hB2) (by omega) (by omega)).mono ?_;rintro r w3 ⟨neg3,a3,n3,c3,rfl,hZ3,hb3⟩;have hZ1:=hZ1.bw hb3;have hZ2:=hZ2.bw hb3;have hB3:=zB hB2 hb3)
   | (go_at_call 66;have hq:=hB1;refine (zX _ _ _ _ _ _ _ _ k k lo hi' _ ((zA HS).lo.bw hB1) ((zA HT).hi.bw hB1) (by omega) (by omega)).mono ?_;rintro r w2 ⟨neg2,a2,n2,c2,rfl,hZ2,hb2⟩;have hZ1:=hZ1.bw hb2;have hB2:=zB hB1 hb2)
   | (go_at_call 66;have hq:=hB0;refine (zX _ _ _ _ _ _ _ _ k k lo lo' _ ((zA HS).lo.bw hB0) ((zA HT).lo.bw hB0) (by omega) (by omega)).mono ?_;rintro r w1 ⟨neg1,a1,n1,c1,rfl,hZ1,hb1⟩;have hB1:=zB hB0 hb1))
 obtain ⟨w5,hw5⟩:∃ w5,w5=w4.alloc (.cells #[.bool neg1,.slice a1 n1 c1,.bool neg2,.slice a2 n2 c2,.bool neg3,.slice a3 n3 c3,.bool neg4,.slice a4 n4 c4] 26):=⟨_,rfl⟩;have hB5:Below W.heap.size W w5:=by rw[hw5];exact zK hB4 _
 have hN:Nums w5 w4.heap.size 4 (k+k) (pr4 ⟨neg1,a1,n1,c1⟩ ⟨neg2,a2,n2,c2⟩ ⟨neg3,a3,n3,c3⟩ ⟨neg4,a4,n4,c4⟩) (pr4 (lo*lo') (lo*hi') (hi*lo') (hi*hi')):=by rw[hw5];exact zI2 w4 _ rfl ⟨neg1,a1,n1,c1⟩ ⟨neg2,a2,n2,c2⟩ ⟨neg3,a3,n3,c3⟩ ⟨neg4,a4,n4,c4⟩ _ _ _ _ _ _ hZ1 hZ2 hZ3 hZ4
 have hN1:=r0.bw hB5;have a5:=a0.bw hB5;have hl1:=hN1.lt;have x45:=a5.c4;have HK1:=zC (show ∀ w',Below w5.heap.size w5 w'→w'.cell? ⟨w.heap.size,4,none⟩=some (.int .i64 s.bits) from fun w' hB=>(a5.bw hB).c4)
 have hD0:Below w5.heap.size w5 w5.drew:=(Below.refl _ _).drew;clear x0 x1 x2 x3 x4 y0 y1 y2 y3 y4 hb1 hb2 hb3 hb4 hZ1 hZ2 hZ3 hZ4 hB1 hB2 hB3 hB4 hB0 a0 HK HS HT;go_wp2;rw[← hw5];clear hw5
 go_region_held3 (fun w'=>w'.cell? ⟨w.heap.size,4,none⟩=some (.int .i64 s.bits)) (first|exact zA HK1 _ (by first|exact hD0|exact hD11|exact hD10|exact hD9|exact hD8|exact hD7|exact hD6)|go_keep)
  (first
   | (go_at_call 106;refine (zEN _ 3 _ (k+k) _ _ _ (hN.bw hD0) (by omega)).mono ?_;rintro r w6 ⟨neg6,a6,n6,c6,rfl,hZ6,hb6⟩;have hD6:=zB hD0 hb6)
   | (go_at_call 103;have hq:=hD10;refine (jY _ _ _ _ (k+k+5) _ _ hZ10 (by omega)).mono ?_;rintro r w11 ⟨neg11,a11,n11,c11,rfl,hZ11,hb11⟩;have hZ7:=hZ7.bw hb11;have hD11:=zB hD10 hb11;obtain ⟨q0,q1,q2,q3,q4,q5⟩:=hN1.bw hD11;have x5:=zA HK1 _ hD11)
   | (go_at_call 105;have hq:=hD9;refine (zD6 _ _ _ _ (k+k) s.bits _ _ hZ9 (by omega) (by omega) (by omega)).mono ?_;rintro r w10 ⟨neg10,a10,n10,c10,rfl,hZ10,hb10⟩;have hZ10:=hZ10.mono (show _≤k+k+5 by omega);have hZ7:=hZ7.bw hb10;have hD10:=zB hD9 hb10)
   | (go_at_call 103;have hq:=hD8;refine (jY _ _ _ _ (k+k) _ _ hZ8 (by omega)).mono ?_;rintro r w9 ⟨neg9,a9,n9,c9,rfl,hZ9,hb9⟩;have hZ7:=hZ7.bw hb9;have hD9:=zB hD8 hb9)
   | (go_at_call 102;refine (zAF _ 3 _ (k+k) _ _ _ (hN.bw hD7) (by omega)).mono ?_;rintro r w8 ⟨neg8,a8,n8,c8,rfl,hZ8,hb8⟩;have hZ7:=hZ7.bw hb8;have hD8:=zB hD7 hb8)
   | (go_at_call 105;refine (zD6 _ _ _ _ (k+k) s.bits _ _ hZ6 (by omega) (by omega) (by omega)).mono ?_;rintro r w7 ⟨neg7,a7,n7,c7,rfl,hZ7,hb7⟩;have hD7:=zB hD6 hb7))
 go_wp2;refine bodyPost_ret (v:=.agg #[.bool neg7,.slice a7 n7 c7,.bool neg11,.slice a11 n11 c11,.int .i64 s.bits]) (by simp[results,Tryz.results52,go_sem,q0,q1,q2,q3,q4]) rfl ⟨⟨neg7,a7,n7,c7,neg11,a11,n11,c11,s.bits⟩,rfl,rfl,?_,?_⟩
 ·exact SpAt.put5 ⟨hZ7.mono (by omega),hZ11.mono (by omega)⟩ q0 q1 q2 q3 q4 _ _ _ _ _
 ·exact jV (zB (zB hBW hB5) hD11) (by omega) _ _ _ _ _
theorem zBN (w:World) (B:Nat) (hB:w.heap.size=B) (T:TypeId):NoC (w.alloc (.cells #[.bool false,.slice none 0 0,.bool false,.slice none 0 0,.int .i64 0] T)) B:=by subst hB;exact zO w T
end Go.Proofs.YtgmnknmjainababGreat
