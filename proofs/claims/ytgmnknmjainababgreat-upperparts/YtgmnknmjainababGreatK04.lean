/-
  Its own texts.
-/
import Derived.Deep.DeepCutAuto
import Derived.Test.YtgmnknmjainababGreatK03
set_option maxRecDepth 100000
set_option maxHeartbeats 8000000
set_option linter.unnecessarySimpa false
set_option linter.unusedSimpArgs false
set_option linter.unusedVariables false
namespace Go.Proofs.YtgmnknmjainababGreat
open Go.RowKit
theorem over_any (a c:Option Addr) (n m cap cap2:Nat) (d e:Nat→Int) (w:World) (ha:Dig w a n cap d) (hc:Dig w c m cap2 e) (hn:n≤900000000) (h1:n=0∨d (n-1)≠0) (h2:m=0∨e (m-1)≠0) (hpos:0<V e m) :
  Calls Tryz.prog 168 #[.slice a n cap,.slice c m cap2] w (zGM w d e n m):=by
 by_cases h:m≤3∨V d n<V e m
 ·exact zFW a c n m cap cap2 d e w ha hc (by omega) h1 h2 hpos h
 ·exact zNX a c n m cap cap2 d e w ha hc hn h1 h2 (by omega) (by omega)
theorem kO (neg neg2:Bool) (a c:Option Addr) (n m cap cap2 k k2:Nat) (x y:Int) (w:World) (h1:IntAt w neg a n cap k x) (h2:IntAt w neg2 c m cap2 k2 y) (hk:k≤900000000) (hy:0<y) :
  Calls Tryz.prog 119 #[.agg #[.bool neg,.slice a n cap],.agg #[.bool neg2,.slice c m cap2]] w (zAC w k (x/y)):=by
 obtain ⟨e,rfl,f0,f1,f2,f3,rfl⟩:=zJC h2 hy;obtain ⟨d,g1,g2,g3,g4,rfl⟩:=h1
 exact (zF7 neg a c n m cap cap2 d e w g1 f1 (by omega) f0 (fun w' p q=>over_any a c n m cap cap2 d e w' p q (by omega) g2 f2 hy)).mono
  fun _ _ ⟨n1,n2,n3,n4,q1,q2,q3⟩=>⟨n1,n2,n3,n4,q1,q2.mono (by omega),q3⟩
structure Sp where
 ln:Bool
 la:Option Addr
 lN:Nat
 lc:Nat
 hn:Bool
 ha:Option Addr
 hN:Nat
 hc:Nat
 bits:Int
theorem zBT (n l m:Int) (w:World) :
  Calls Tryz.prog 84 #[.int .i64 n,.int .i64 l,.int .i64 m] w fun r w'=>r=.returned (.bool (decide (l≤n) && decide (n≤m)))∧w'=w:=by
 by_cases h:l≤n
 ·go_enter Tryz.func84,Tryz.ntmps84
  go_wp2
  go_ret
  exact ⟨by simp[h],rfl⟩
 ·go_enter Tryz.func84,Tryz.ntmps84
  go_wp2
  go_ret
  exact ⟨by simp;omega,rfl⟩
attribute [local go_sem ↓] Go.wp_at_zero Go.wp_at_succ
structure Nm where
 neg:Bool
 a:Option Addr
 n:Nat
 cap:Nat
structure Nums (w:World) (b n k:Nat) (f:Nat→Nm) (z:Nat→Int):Prop where
 lt:b<w.heap.size
 c0:∀ j,j<n→w.cell? ⟨b,j*2,none⟩=some (.bool (f j).neg)
 c1:∀ j,j<n→w.cell? ⟨b,j*2+1,none⟩=some (.slice (f j).a (f j).n (f j).cap)
 int:∀ j,j<n→IntAt w (f j).neg (f j).a (f j).n (f j).cap k (z j)
theorem Nums.bw {w w':World} {b n k:Nat} {f:Nat→Nm} {z:Nat→Int} (h:Nums w b n k f z) (hb:Below w.heap.size w w'):Nums w' b n k f z :=
 ⟨Nat.lt_of_lt_of_le h.lt hb.size,fun j hj=>(hb.cell (p:=⟨b,j*2,none⟩) h.lt).trans (h.c0 j hj),fun j hj=>(hb.cell (p:=⟨b,j*2+1,none⟩) h.lt).trans (h.c1 j hj),fun j hj=>(h.int j hj).bw hb⟩
def jM (z:Nat→Int):Nat→Int
 | 0=>z 0
 | n+1=>if jM z n<z (n+1) then z (n+1) else jM z n
def jA (z:Nat→Int):Nat→Int
 | 0=>z 0
 | n+1=>if z (n+1)<jA z n then z (n+1) else jA z n
theorem zF6 {x y:Int} (h:¬ y<x):¬ 0<zF x y:=by
 unfold zF;simp only[h,if_false];split <;> omega
theorem zDO {x y:Int} (h:¬ x<y):¬ zF x y<0:=by
 unfold zF;rw[if_neg h];split <;> omega
theorem mostZ_up {z:Nat→Int} {i:Nat} (h:jM z (i-1)<z i):jM z (i+1-1)=z i:=by
 cases i with
 | zero=>rfl
 | succ j=>simp only[Nat.add_sub_cancel] at *;simp only[jM,h,if_true]
theorem zLZ {z:Nat→Int} {i:Nat} (h:¬ jM z (i-1)<z i):jM z (i+1-1)=jM z (i-1):=by
 cases i with
 | zero=>rfl
 | succ j=>simp only[Nat.add_sub_cancel] at *;simp only[jM,h,if_false]
theorem zOD {z:Nat→Int} {i:Nat} (h:z i<jA z (i-1)):jA z (i+1-1)=z i:=by
 cases i with
 | zero=>rfl
 | succ j=>simp only[Nat.add_sub_cancel] at *;simp only[jA,h,if_true]
theorem zJN {z:Nat→Int} {i:Nat} (h:¬ z i<jA z (i-1)):jA z (i+1-1)=jA z (i-1):=by
 cases i with
 | zero=>rfl
 | succ j=>simp only[Nat.add_sub_cancel] at *;simp only[jA,h,if_false]
theorem kC (k:Nat) (w:World) (hk:k≤1000000000) :
  Calls Tryz.prog 104 #[.int .i64 k] w fun r w' =>
   ∃ neg' a' n' cap',r=.returned (.agg #[.bool neg',.slice a' n' cap'])∧IntAt w' neg' a' n' cap' (k/16+5) (Q k)∧Below w.heap.size w w':=by
 go_enter Tryz.func104,Tryz.ntmps104
 go_wp2_with (first
  | (go_at_call 43;refine (zD 1 _ (by decide) (by decide)).mono ?_;rintro r w1 ⟨neg1,a1,n1,c1,rfl,hZ1,hb1⟩;obtain ⟨hsz1,kC1,hfz1⟩:=kK (w.heap.size+1) (by simp) hb1)
  | (go_at_call 95;refine (zAS _ _ _ _ k 4 1 _ hZ1 (by omega) hk).mono ?_;rintro r w2 ⟨neg',a2,n2,c2,rfl,hint,hb2⟩;obtain ⟨hsz2,kC2,hfz2⟩:=kK (w.heap.size+1) hsz1 hb2))
 have h0:w2.cell? ⟨w.heap.size,0,none⟩=some (.bool false):=by simp[kC2,kC1,go_sem]
 have h1':w2.cell? ⟨w.heap.size,1,none⟩=some (.slice none 0 0):=by simp[kC2,kC1,go_sem]
 refine bodyPost_ret (v:=.agg #[.bool neg',.slice a2 n2 c2]) (by simp[results,Tryz.results104,go_sem,h0,h1']) rfl ⟨neg',a2,n2,c2,rfl,?_,?_⟩
 ·rw[Int.one_mul] at hint
  exact (hint.put2 h0 h1' _ _).mono (by omega)
 ·exact ((zB (zB (bl1 _ _) hb1) hb2).setCell (p:=⟨w.heap.size,0,none⟩) (Nat.le_refl _) _).setCell (p:=⟨w.heap.size,1,none⟩) (Nat.le_refl _) _
theorem zMO (neg:Bool) (a:Option Addr) (n cap k1:Nat) (x:Int) (w:World) (h1:IntAt w neg a n cap k1 x) (hk1:k1≤1000000000) :
  Calls Tryz.prog 206 #[.agg #[.bool neg,.slice a n cap]] w fun r w' =>
   ∃ neg' a' n' cap',r=.returned (.agg #[.bool neg',.slice a' n' cap'])∧IntAt w' neg' a' n' cap' (k1+1) x∧Below w.heap.size w w':=by
 go_enter Tryz.func206,Tryz.ntmps206
 go_wp2_with (go_at_call 95;refine (zAS _ _ _ _ 0 k1 x _ (h1.bw (bl2 _ _ _)) hk1 (by omega)).mono ?_;rintro r w2 ⟨neg',a2,n2,c2,rfl,hint,hb2⟩;obtain ⟨hsz2,kC2,hfz2⟩:=kK (w.heap.size+1+1) (by simp) hb2)
 have h0:w2.cell? ⟨w.heap.size+1,0,none⟩=some (.bool false):=by simp[kC2,go_sem]
 have h1':w2.cell? ⟨w.heap.size+1,1,none⟩=some (.slice none 0 0):=by simp[kC2,go_sem]
 refine bodyPost_ret (v:=.agg #[.bool neg',.slice a2 n2 c2]) (by simp[results,Tryz.results206,go_sem,h0,h1']) rfl ⟨neg',a2,n2,c2,rfl,?_,?_⟩
 ·simp only[Q,Int.mul_one] at hint
  exact (hint.put2 h0 h1' _ _).mono (by omega)
 ·exact ((zB (bl2 _ _ _) hb2).setCell (p:=⟨w.heap.size+1,0,none⟩) (Nat.le_succ _) _).setCell (p:=⟨w.heap.size+1,1,none⟩) (Nat.le_succ _) _
theorem zAF (b n cap k:Nat) (f:Nat→Nm) (z:Nat→Int) (w:World) (h:Nums w b (n+1) k f z) (hn:n≤1000) :
  Calls Tryz.prog 102 #[.slice (some ⟨b,0,none⟩) (n+1) cap] w fun r w' =>
   ∃ neg' a' n' cap',r=.returned (.agg #[.bool neg',.slice a' n' cap'])∧IntAt w' neg' a' n' cap' k (jM z n)∧Below w.heap.size w w':=by
 have h00:=h.c0 0 (by omega)
 have h01:=h.c1 0 (by omega)
 simp only[Nat.zero_mul,Nat.zero_add] at h00 h01;have hnn:(0:Int)<(n:Int)+1:=by omega
 have hblt:=h.lt
 go_enter Tryz.func102,Tryz.ntmps102
 go_wp2
 go_loopw [4] (fun ii wr=>∃ (i:Nat) (x:Nm),i≤n+1∧ii=.int .i64 i∧wr.cell? ⟨w.heap.size+1,0,none⟩=some (.bool x.neg)∧wr.cell? ⟨w.heap.size+1,1,none⟩=some (.slice x.a x.n x.cap)∧(∀ o,wr.frozen? ⟨w.heap.size+1,o,none⟩=false)∧IntAt wr x.neg x.a x.n x.cap k (jM z (i-1))∧w.heap.size+1+1≤wr.heap.size ∧
   Below (w.heap.size+1) (w.alloc (.cells #[.bool false,.slice none 0 0] 26)) wr) (fun ii _=>n+1-(intOf ii).toNat)
 case atStart =>
  exact ⟨0,f 0,by omega,rfl,by simp[go_sem],by simp[go_sem],by intro o;simp[go_sem],(h.int 0 (by omega)).bw (bl2 _ _ _),by simp,(Below.refl _ _).alloc (by simp) _⟩
 case round =>
  obtain ⟨i,x,hi,rfl,x0,x1,x2,hx,hsw,hbl⟩:=hrel;have hB:Below w.heap.size w wr:=(bl1 _ _).trans (hbl.mono (by omega))
  by_cases hin:i<n+1
  ·have g0:=(h.bw hB).c0 i hin
   have g1:=(h.bw hB).c1 i hin;have hint:=(h.bw hB).int i hin;have hi0:(0:Int)≤(i:Int):=by omega
   have hi1:(i:Int)<(n:Int)+1:=by omega
   have hbb:b≤w.heap.size+1:=by omega
   have hne:w.heap.size+1≠b:=by omega
   have hne':b≠w.heap.size+1:=by omega
   have HH:=zC h;clear h h00 h01
   by_cases hc:jM z (i-1)<z i
   ·have hcm:zF (z i) (jM z (i-1))=1:=by unfold zF;rw[if_neg (by omega),if_pos hc]
    have HZ:=zC (mostZ_up hc);go_wp2
    go_region_held3 (fun w'=>w'.cell? ⟨b,i*2,none⟩=some (.bool (f i).neg)∧w'.cell? ⟨b,i*2+1,none⟩=some (.slice (f i).a (f i).n (f i).cap)∧w'.cell? ⟨w.heap.size+1,0,none⟩=some (.bool x.neg)∧w'.cell? ⟨w.heap.size+1,1,none⟩=some (.slice x.a x.n x.cap)) (go_keep)
     (first
      | (go_at_call 46;refine (zS _ _ _ _ _ _ _ _ k k (z i) (jM z (i-1)) _ (hint.bw (Below.refl _ _).drew) (hx.bw (Below.refl _ _).drew)).mono ?_;rintro r w1 ⟨rfl,hb1⟩;obtain ⟨hsz1,kC1,hfz1⟩:=kK (w.heap.size+1+1) (by exact hsw) hb1;rw[hcm]))
    have y0:w1.cell? ⟨w.heap.size+1,0,none⟩=some (.bool x.neg):=(kC1 _ _ (Nat.le_refl _)).trans x0;have y1:w1.cell? ⟨w.heap.size+1,1,none⟩=some (.slice x.a x.n x.cap):=(kC1 _ _ (Nat.le_refl _)).trans x1;have y2:∀ o,w1.frozen? ⟨w.heap.size+1,o,none⟩=false:=fun o=>(hfz1 _ _ (Nat.le_refl _)).trans (x2 o)
    go_wp2
    go_roundw
    case rel =>
     refine ⟨i+1,f i,by omega,by go_num,by simp[go_sem,y0,y1],by simp[go_sem,y0,y1],by intro o;simp[go_sem,y2],?_,?_,?_⟩
     ·rw[zA HZ];exact ((hint.bw (Below.refl _ _).drew).bw hb1).put2 y0 y1 _ _
     ·simpa [World.setCell] using hsz1
     ·exact ((hbl.trans ((zB (Below.refl _ _).drew hb1).mono (by omega))).setCell (p:=⟨w.heap.size+1,0,none⟩) (Nat.le_refl _) _).setCell (p:=⟨w.heap.size+1,1,none⟩) (Nat.le_refl _) _
    case measure=>simp[intOf];omega
   ·have hcm:¬ 0<zF (z i) (jM z (i-1)):=zF6 hc
    have HZ:=zC (zLZ hc);go_wp2
    go_region_held3 (fun w'=>w'.cell? ⟨b,i*2,none⟩=some (.bool (f i).neg)∧w'.cell? ⟨b,i*2+1,none⟩=some (.slice (f i).a (f i).n (f i).cap)∧w'.cell? ⟨w.heap.size+1,0,none⟩=some (.bool x.neg)∧w'.cell? ⟨w.heap.size+1,1,none⟩=some (.slice x.a x.n x.cap)) (go_keep)
     (first
      | (go_at_call 46;refine (zS _ _ _ _ _ _ _ _ k k (z i) (jM z (i-1)) _ (hint.bw (Below.refl _ _).drew) (hx.bw (Below.refl _ _).drew)).mono ?_;rintro r w1 ⟨rfl,hb1⟩;obtain ⟨hsz1,kC1,hfz1⟩:=kK (w.heap.size+1+1) (by exact hsw) hb1))
    have y0:w1.cell? ⟨w.heap.size+1,0,none⟩=some (.bool x.neg):=(kC1 _ _ (Nat.le_refl _)).trans x0;have y1:w1.cell? ⟨w.heap.size+1,1,none⟩=some (.slice x.a x.n x.cap):=(kC1 _ _ (Nat.le_refl _)).trans x1;have y2:∀ o,w1.frozen? ⟨w.heap.size+1,o,none⟩=false:=fun o=>(hfz1 _ _ (Nat.le_refl _)).trans (x2 o)
    go_wp2
    go_roundw
    case rel =>
     exact ⟨i+1,x,by omega,by go_num,y0,y1,y2,by rw[zA HZ];exact (hx.bw (Below.refl _ _).drew).bw hb1,hsz1,hbl.trans ((zB (Below.refl _ _).drew hb1).mono (by omega))⟩
    case measure=>simp[intOf];omega
  ·have hiE:i=n+1:=by omega
   subst hiE;have q3:wr.cell? ⟨w.heap.size,0,none⟩=some (.bool false):=(hbl.cell (p:=⟨w.heap.size,0,none⟩) (Nat.lt_succ_self _)).trans (by simp[go_sem])
   have q4:wr.cell? ⟨w.heap.size,1,none⟩=some (.slice none 0 0):=(hbl.cell (p:=⟨w.heap.size,1,none⟩) (Nat.lt_succ_self _)).trans (by simp[go_sem])
   have q5:∀ o,wr.frozen? ⟨w.heap.size,o,none⟩=false:=fun o=>(hbl.frozen (p:=⟨w.heap.size,o,none⟩) (Nat.lt_succ_self _)).trans (by simp[go_sem])
   clear h h00 h01;go_wp2;refine bodyPost_ret (v:=.agg #[.bool x.neg,.slice x.a x.n x.cap]) (by simp[results,Tryz.results102,go_sem,q3,q4]) rfl ⟨x.neg,x.a,x.n,x.cap,rfl,hx.put2 q3 q4 _ _,?_⟩
   exact (hB.setCell (p:=⟨w.heap.size,0,none⟩) (Nat.le_refl _) _).setCell (p:=⟨w.heap.size,1,none⟩) (Nat.le_refl _) _
theorem zEN (b n cap k:Nat) (f:Nat→Nm) (z:Nat→Int) (w:World) (h:Nums w b (n+1) k f z) (hn:n≤1000) :
  Calls Tryz.prog 106 #[.slice (some ⟨b,0,none⟩) (n+1) cap] w fun r w' =>
   ∃ neg' a' n' cap',r=.returned (.agg #[.bool neg',.slice a' n' cap'])∧IntAt w' neg' a' n' cap' k (jA z n)∧Below w.heap.size w w':=by
 have h00:=h.c0 0 (by omega)
 have h01:=h.c1 0 (by omega)
 simp only[Nat.zero_mul,Nat.zero_add] at h00 h01;have hnn:(0:Int)<(n:Int)+1:=by omega
 have hblt:=h.lt
 go_enter Tryz.func106,Tryz.ntmps106
 go_wp2
 go_loopw [4] (fun ii wr=>∃ (i:Nat) (x:Nm),i≤n+1∧ii=.int .i64 i∧wr.cell? ⟨w.heap.size+1,0,none⟩=some (.bool x.neg)∧wr.cell? ⟨w.heap.size+1,1,none⟩=some (.slice x.a x.n x.cap)∧(∀ o,wr.frozen? ⟨w.heap.size+1,o,none⟩=false)∧IntAt wr x.neg x.a x.n x.cap k (jA z (i-1))∧w.heap.size+1+1≤wr.heap.size ∧
   Below (w.heap.size+1) (w.alloc (.cells #[.bool false,.slice none 0 0] 26)) wr) (fun ii _=>n+1-(intOf ii).toNat)
 case atStart =>
  exact ⟨0,f 0,by omega,rfl,by simp[go_sem],by simp[go_sem],by intro o;simp[go_sem],(h.int 0 (by omega)).bw (bl2 _ _ _),by simp,(Below.refl _ _).alloc (by simp) _⟩
 case round =>
  obtain ⟨i,x,hi,rfl,x0,x1,x2,hx,hsw,hbl⟩:=hrel;have hB:Below w.heap.size w wr:=(bl1 _ _).trans (hbl.mono (by omega))
  by_cases hin:i<n+1
  ·have g0:=(h.bw hB).c0 i hin
   have g1:=(h.bw hB).c1 i hin;have hint:=(h.bw hB).int i hin;have hi0:(0:Int)≤(i:Int):=by omega
   have hi1:(i:Int)<(n:Int)+1:=by omega
   have hbb:b≤w.heap.size+1:=by omega
   have hne:w.heap.size+1≠b:=by omega
   have hne':b≠w.heap.size+1:=by omega
   have HH:=zC h;clear h h00 h01
   by_cases hc:z i<jA z (i-1)
   ·have hcm:zF (z i) (jA z (i-1)) = -1:=by unfold zF;rw[if_pos hc]
    have HZ:=zC (zOD hc);go_wp2
    go_region_held3 (fun w'=>w'.cell? ⟨b,i*2,none⟩=some (.bool (f i).neg)∧w'.cell? ⟨b,i*2+1,none⟩=some (.slice (f i).a (f i).n (f i).cap)∧w'.cell? ⟨w.heap.size+1,0,none⟩=some (.bool x.neg)∧w'.cell? ⟨w.heap.size+1,1,none⟩=some (.slice x.a x.n x.cap)) (go_keep)
     (first
      | (go_at_call 46;refine (zS _ _ _ _ _ _ _ _ k k (z i) (jA z (i-1)) _ (hint.bw (Below.refl _ _).drew) (hx.bw (Below.refl _ _).drew)).mono ?_;rintro r w1 ⟨rfl,hb1⟩;obtain ⟨hsz1,kC1,hfz1⟩:=kK (w.heap.size+1+1) (by exact hsw) hb1;rw[hcm]))
    have y0:w1.cell? ⟨w.heap.size+1,0,none⟩=some (.bool x.neg):=(kC1 _ _ (Nat.le_refl _)).trans x0;have y1:w1.cell? ⟨w.heap.size+1,1,none⟩=some (.slice x.a x.n x.cap):=(kC1 _ _ (Nat.le_refl _)).trans x1;have y2:∀ o,w1.frozen? ⟨w.heap.size+1,o,none⟩=false:=fun o=>(hfz1 _ _ (Nat.le_refl _)).trans (x2 o)
    go_wp2
    go_roundw
    case rel =>
     refine ⟨i+1,f i,by omega,by go_num,by simp[go_sem,y0,y1],by simp[go_sem,y0,y1],by intro o;simp[go_sem,y2],?_,?_,?_⟩
     ·rw[zA HZ];exact ((hint.bw (Below.refl _ _).drew).bw hb1).put2 y0 y1 _ _
     ·simpa [World.setCell] using hsz1
     ·exact ((hbl.trans ((zB (Below.refl _ _).drew hb1).mono (by omega))).setCell (p:=⟨w.heap.size+1,0,none⟩) (Nat.le_refl _) _).setCell (p:=⟨w.heap.size+1,1,none⟩) (Nat.le_refl _) _
    case measure=>simp[intOf];omega
   ·have hcm:¬ zF (z i) (jA z (i-1))<0:=zDO hc
    have HZ:=zC (zJN hc);go_wp2
    go_region_held3 (fun w'=>w'.cell? ⟨b,i*2,none⟩=some (.bool (f i).neg)∧w'.cell? ⟨b,i*2+1,none⟩=some (.slice (f i).a (f i).n (f i).cap)∧w'.cell? ⟨w.heap.size+1,0,none⟩=some (.bool x.neg)∧w'.cell? ⟨w.heap.size+1,1,none⟩=some (.slice x.a x.n x.cap)) (go_keep)
     (first
      | (go_at_call 46;refine (zS _ _ _ _ _ _ _ _ k k (z i) (jA z (i-1)) _ (hint.bw (Below.refl _ _).drew) (hx.bw (Below.refl _ _).drew)).mono ?_;rintro r w1 ⟨rfl,hb1⟩;obtain ⟨hsz1,kC1,hfz1⟩:=kK (w.heap.size+1+1) (by exact hsw) hb1))
    have y0:w1.cell? ⟨w.heap.size+1,0,none⟩=some (.bool x.neg):=(kC1 _ _ (Nat.le_refl _)).trans x0;have y1:w1.cell? ⟨w.heap.size+1,1,none⟩=some (.slice x.a x.n x.cap):=(kC1 _ _ (Nat.le_refl _)).trans x1;have y2:∀ o,w1.frozen? ⟨w.heap.size+1,o,none⟩=false:=fun o=>(hfz1 _ _ (Nat.le_refl _)).trans (x2 o)
    go_wp2
    go_roundw
    case rel =>
     exact ⟨i+1,x,by omega,by go_num,y0,y1,y2,by rw[zA HZ];exact (hx.bw (Below.refl _ _).drew).bw hb1,hsz1,hbl.trans ((zB (Below.refl _ _).drew hb1).mono (by omega))⟩
    case measure=>simp[intOf];omega
  ·have hiE:i=n+1:=by omega
   subst hiE;have q3:wr.cell? ⟨w.heap.size,0,none⟩=some (.bool false):=(hbl.cell (p:=⟨w.heap.size,0,none⟩) (Nat.lt_succ_self _)).trans (by simp[go_sem])
   have q4:wr.cell? ⟨w.heap.size,1,none⟩=some (.slice none 0 0):=(hbl.cell (p:=⟨w.heap.size,1,none⟩) (Nat.lt_succ_self _)).trans (by simp[go_sem])
   have q5:∀ o,wr.frozen? ⟨w.heap.size,o,none⟩=false:=fun o=>(hbl.frozen (p:=⟨w.heap.size,o,none⟩) (Nat.lt_succ_self _)).trans (by simp[go_sem])
   clear h h00 h01;go_wp2;refine bodyPost_ret (v:=.agg #[.bool x.neg,.slice x.a x.n x.cap]) (by simp[results,Tryz.results106,go_sem,q3,q4]) rfl ⟨x.neg,x.a,x.n,x.cap,rfl,hx.put2 q3 q4 _ _,?_⟩
   exact (hB.setCell (p:=⟨w.heap.size,0,none⟩) (Nat.le_refl _) _).setCell (p:=⟨w.heap.size,1,none⟩) (Nat.le_refl _) _
def zIO (t:Int) (z:Nat→Int):Nat→Int
 | 0=>z 0
 | n+1=>if zF (z (n+1)) (zIO t z n)=t then z (n+1) else zIO t z n
theorem zN0 (z:Nat→Int) (n:Nat):zIO 1 z n=jM z n:=by
 induction n with
 | zero=>rfl
 | succ n ih =>
  simp only[zIO,jM,ih]
  by_cases h:jM z n<z (n+1)
  ·have:zF (z (n+1)) (jM z n)=1:=by unfold zF;rw[if_neg (by omega),if_pos h]
   simp[this,h]
  ·have:zF (z (n+1)) (jM z n)≠1:=by have:=zF6 h;omega
   simp[this,h]
theorem zML (z:Nat→Int) (n:Nat):zIO (-1) z n=jA z n:=by
 induction n with
 | zero=>rfl
 | succ n ih =>
  simp only[zIO,jA,ih]
  by_cases h:z (n+1)<jA z n
  ·have:zF (z (n+1)) (jA z n) = -1:=by unfold zF;rw[if_pos h]
   simp[this,h]
  ·have:zF (z (n+1)) (jA z n) ≠ -1:=by have:=zDO h;omega
   simp[this,h]
theorem zJE (w:World) (o:Obj) (p:Addr) (h:p.block<w.heap.size):(w.alloc o).frozen? p=w.frozen? p:=World.frozen?_of_block (Below.heap_alloc w o p.block h)
theorem zD1 (t:Int) (b n cap k:Nat) (f:Nat→Nm) (z:Nat→Int) (w:World) (h:Nums w b (n+1) k f z) (hk:k≤1000000000) (hn:n≤1000) :
  Calls Tryz.prog 196 #[.int .i64 t,.slice (some ⟨b,0,none⟩) (n+1) cap] w fun r w' =>
   ∃ neg' a' n' cap',r=.returned (.agg #[.bool neg',.slice a' n' cap'])∧IntAt w' neg' a' n' cap' (k+1) (zIO t z n)∧Below w.heap.size w w':=by
 have hblt:=h.lt
 go_enter Tryz.func196,Tryz.ntmps196
 go_wp2
 go_loopw [10] (fun ii wr=>∃ (i:Nat) (x:Nm),i≤n+1∧ii=.int .i64 i∧wr.cell? ⟨w.heap.size+1,0,none⟩=some (.bool x.neg)∧wr.cell? ⟨w.heap.size+1,1,none⟩=some (.slice x.a x.n x.cap)∧(∀ o,wr.frozen? ⟨w.heap.size+1,o,none⟩=false)∧(0<i→IntAt wr x.neg x.a x.n x.cap k (zIO t z (i-1)))∧w.heap.size+1+1≤wr.heap.size ∧
   Below (w.heap.size+1) (w.alloc (.cells #[.bool false,.slice none 0 0] 26)) wr) (fun ii _=>n+1-(intOf ii).toNat)
 case atStart =>
  exact ⟨0,⟨false,none,0,0⟩,by omega,rfl,by simp[go_sem],by simp[go_sem],by intro o;simp[go_sem],fun h=>by omega,by simp,(Below.refl _ _).alloc (by simp) _⟩
 case round =>
  obtain ⟨i,x,hi,rfl,x0,x1,x2,hx,hsw,hbl⟩:=hrel;have hB:Below w.heap.size w wr:=(bl1 _ _).trans (hbl.mono (by omega))
  by_cases hin:i<n+1
  ·have g0:=(h.bw hB).c0 i hin
   have g1:=(h.bw hB).c1 i hin;have hint:=(h.bw hB).int i hin;have hi0:(0:Int)≤(i:Int):=by omega
   have hi1:(i:Int)<(n:Int)+1:=by omega
   have hbb:b≤w.heap.size+1:=by omega
   have hne:w.heap.size+1≠b:=by omega
   have hne':b≠w.heap.size+1:=by omega
   have hlw:w.heap.size+1<wr.heap.size:=by omega
   have hne2:w.heap.size+1≠wr.heap.size:=by omega
   have hne3:wr.heap.size≠w.heap.size+1:=by omega
   have HH:=zC h;clear h
   by_cases hz:i=0
   ·subst hz
    go_wp2
    go_roundw
    case rel =>
     refine ⟨1,f 0,by omega,rfl,?_,?_,?_,fun _=>?_,?_,?_⟩
     ·simp[go_sem,hlw,x0,x1]
     ·simp[go_sem,hlw,x0,x1]
     ·intro o;rw[zJE _ _ _ (by simpa [World.setCell] using hlw)];simp[go_sem,x2]
     ·exact ((hint.put2 x0 x1 _ _).bw (bl1 _ _))
     ·simp[World.setCell];omega
     ·exact ((hbl.setCell (p:=⟨w.heap.size+1,0,none⟩) (Nat.le_refl _) _).setCell (p:=⟨w.heap.size+1,1,none⟩) (Nat.le_refl _) _).alloc (by simp[World.setCell];omega) _
    case measure=>simp[intOf]
   ·have HX:=zC (hx (by omega))
    have hz':((i:Int) == 0)=false:=by simp;omega
    obtain ⟨j,hj⟩:∃ j,i=j+1:=⟨i-1,by omega⟩
    have hfz:zIO t z (i+1-1)=if zF (z i) (zIO t z (i-1))=t then z i else zIO t z (i-1):=by subst hj;rfl
    clear hj hx
    by_cases hc:zF (z i) (zIO t z (i-1))=t
    ·have hcm:(zF (z i) (zIO t z (i-1)) == t)=true:=by simp[hc]
     rw[if_pos hc] at hfz;have HF:=zC hfz;clear hfz hc;go_wp2_with (go_at_call 46;refine (zS _ _ _ _ _ _ _ _ k k (z i) (zIO t z (i-1)) _ (hint.bw (bl1 _ _)) ((zA HX).bw (bl1 _ _))).mono ?_;rintro r w1 ⟨rfl,hb1⟩;obtain ⟨hsz1,kC1,hfz1⟩:=kK (wr.heap.size+1) (by simp) hb1;have y3:w.heap.size+1+1≤wr.heap.size+1:=Nat.le_succ_of_le hsw;have y0:w1.cell? ⟨w.heap.size+1,0,none⟩=some (.bool x.neg):=((kC1 _ _ y3).trans (World.cell?_alloc_past _ _ _ hlw)).trans x0;have y1:w1.cell? ⟨w.heap.size+1,1,none⟩=some (.slice x.a x.n x.cap):=((kC1 _ _ y3).trans (World.cell?_alloc_past _ _ _ hlw)).trans x1;have y2:∀ o,w1.frozen? ⟨w.heap.size+1,o,none⟩=false:=fun o=>((hfz1 _ _ y3).trans (zJE _ _ _ hlw)).trans (x2 o))
     go_roundw
     case rel =>
      refine ⟨i+1,f i,by omega,by go_num,by simp[go_sem,y0,y1],by simp[go_sem,y0,y1],by intro o;simp[go_sem,y2],fun _=>?_,?_,?_⟩
      ·rw[zA HF];exact ((hint.bw (bl1 _ _)).bw hb1).put2 y0 y1 _ _
      ·have:=Nat.le_trans y3 hsz1;simpa [World.setCell] using this
      ·exact ((hbl.trans ((zB (bl1 _ _) hb1).mono (by omega))).setCell (p:=⟨w.heap.size+1,0,none⟩) (Nat.le_refl _) _).setCell (p:=⟨w.heap.size+1,1,none⟩) (Nat.le_refl _) _
     case measure=>simp[intOf];omega
    ·have hcm:(zF (z i) (zIO t z (i-1)) == t)=false:=by simp[hc]
     rw[if_neg hc] at hfz;have HF:=zC hfz;clear hfz hc;go_wp2_with (go_at_call 46;refine (zS _ _ _ _ _ _ _ _ k k (z i) (zIO t z (i-1)) _ (hint.bw (bl1 _ _)) ((zA HX).bw (bl1 _ _))).mono ?_;rintro r w1 ⟨rfl,hb1⟩;obtain ⟨hsz1,kC1,hfz1⟩:=kK (wr.heap.size+1) (by simp) hb1;have y3:w.heap.size+1+1≤wr.heap.size+1:=Nat.le_succ_of_le hsw;have y0:w1.cell? ⟨w.heap.size+1,0,none⟩=some (.bool x.neg):=((kC1 _ _ y3).trans (World.cell?_alloc_past _ _ _ hlw)).trans x0;have y1:w1.cell? ⟨w.heap.size+1,1,none⟩=some (.slice x.a x.n x.cap):=((kC1 _ _ y3).trans (World.cell?_alloc_past _ _ _ hlw)).trans x1;have y2:∀ o,w1.frozen? ⟨w.heap.size+1,o,none⟩=false:=fun o=>((hfz1 _ _ y3).trans (zJE _ _ _ hlw)).trans (x2 o))
     go_roundw
     case rel =>
      exact ⟨i+1,x,by omega,by go_num,y0,y1,y2,fun _=>by rw[zA HF];exact ((zA HX).bw (bl1 _ _)).bw hb1,Nat.le_trans y3 hsz1,hbl.trans ((zB (bl1 _ _) hb1).mono (by omega))⟩
     case measure=>simp[intOf];omega
  ·have hiE:i=n+1:=by omega
   subst hiE;have q3:wr.cell? ⟨w.heap.size,0,none⟩=some (.bool false):=(hbl.cell (p:=⟨w.heap.size,0,none⟩) (Nat.lt_succ_self _)).trans (by simp[go_sem])
   have q4:wr.cell? ⟨w.heap.size,1,none⟩=some (.slice none 0 0):=(hbl.cell (p:=⟨w.heap.size,1,none⟩) (Nat.lt_succ_self _)).trans (by simp[go_sem])
   have q5:∀ o,wr.frozen? ⟨w.heap.size,o,none⟩=false:=fun o=>(hbl.frozen (p:=⟨w.heap.size,o,none⟩) (Nat.lt_succ_self _)).trans (by simp[go_sem])
   have HX:=zC (hx (by omega))
   clear h hx;go_wp2_with (go_at_call 206;refine (zMO _ _ _ _ k _ _ (zA HX) hk).mono ?_;rintro r w1 ⟨neg1,a1,n1,c1,rfl,hZ1,hb1⟩;obtain ⟨hsz1,kC1,hfz1⟩:=kK (w.heap.size+1+1) hsw hb1);have y0:w1.cell? ⟨w.heap.size,0,none⟩=some (.bool false):=(kC1 _ _ (by omega)).trans q3
   have y1:w1.cell? ⟨w.heap.size,1,none⟩=some (.slice none 0 0):=(kC1 _ _ (by omega)).trans q4
   refine bodyPost_ret (v:=.agg #[.bool neg1,.slice a1 n1 c1]) (by simp[results,Tryz.results196,go_sem,y0,y1]) rfl ⟨neg1,a1,n1,c1,rfl,?_,?_⟩
   ·simp only[Nat.add_sub_cancel] at hZ1;exact hZ1.put2 y0 y1 _ _
   ·exact ((zB hB hb1).setCell (p:=⟨w.heap.size,0,none⟩) (Nat.le_refl _) _).setCell (p:=⟨w.heap.size,1,none⟩) (Nat.le_refl _) _
theorem zEL (b n cap k:Nat) (f:Nat→Nm) (z:Nat→Int) (w:World) (h:Nums w b (n+1) k f z) (hk:k≤1000000000) (hn:n≤1000) :
  Calls Tryz.prog 180 #[.slice (some ⟨b,0,none⟩) (n+1) cap] w fun r w' =>
   ∃ neg' a' n' cap',r=.returned (.agg #[.bool neg',.slice a' n' cap'])∧IntAt w' neg' a' n' cap' (k+1) (jM z n)∧Below w.heap.size w w':=by
 rw[← zN0]
 go_enter Tryz.func180,Tryz.ntmps180
 go_wp2_with (go_at_call 196;refine (zD1 (1) _ _ _ k f z _ (h.bw (bl1 _ _)) hk hn).mono ?_;rintro r w1 ⟨neg1,a1,n1,c1,rfl,hZ1,hb1⟩;obtain ⟨hsz1,kC1,hfz1⟩:=kK (w.heap.size+1) (by simp) hb1)
 have y0:w1.cell? ⟨w.heap.size,0,none⟩=some (.bool false):=by simp[kC1,go_sem]
 have y1:w1.cell? ⟨w.heap.size,1,none⟩=some (.slice none 0 0):=by simp[kC1,go_sem]
 refine bodyPost_ret (v:=.agg #[.bool neg1,.slice a1 n1 c1]) (by simp[results,Tryz.results180,go_sem,y0,y1]) rfl ⟨neg1,a1,n1,c1,rfl,hZ1.put2 y0 y1 _ _,?_⟩
 exact ((zB (bl1 _ _) hb1).setCell (p:=⟨w.heap.size,0,none⟩) (Nat.le_refl _) _).setCell (p:=⟨w.heap.size,1,none⟩) (Nat.le_refl _) _
theorem zCO (b n cap k:Nat) (f:Nat→Nm) (z:Nat→Int) (w:World) (h:Nums w b (n+1) k f z) (hk:k≤1000000000) (hn:n≤1000) :
  Calls Tryz.prog 177 #[.slice (some ⟨b,0,none⟩) (n+1) cap] w fun r w' =>
   ∃ neg' a' n' cap',r=.returned (.agg #[.bool neg',.slice a' n' cap'])∧IntAt w' neg' a' n' cap' (k+1) (jA z n)∧Below w.heap.size w w':=by
 rw[← zML]
 go_enter Tryz.func177,Tryz.ntmps177
 go_wp2_with (go_at_call 196;refine (zD1 (-1) _ _ _ k f z _ (h.bw (bl1 _ _)) hk hn).mono ?_;rintro r w1 ⟨neg1,a1,n1,c1,rfl,hZ1,hb1⟩;obtain ⟨hsz1,kC1,hfz1⟩:=kK (w.heap.size+1) (by simp) hb1)
 have y0:w1.cell? ⟨w.heap.size,0,none⟩=some (.bool false):=by simp[kC1,go_sem]
 have y1:w1.cell? ⟨w.heap.size,1,none⟩=some (.slice none 0 0):=by simp[kC1,go_sem]
 refine bodyPost_ret (v:=.agg #[.bool neg1,.slice a1 n1 c1]) (by simp[results,Tryz.results177,go_sem,y0,y1]) rfl ⟨neg1,a1,n1,c1,rfl,hZ1.put2 y0 y1 _ _,?_⟩
 exact ((zB (bl1 _ _) hb1).setCell (p:=⟨w.heap.size,0,none⟩) (Nat.le_refl _) _).setCell (p:=⟨w.heap.size,1,none⟩) (Nat.le_refl _) _
def pr {α:Type} (x y:α) (j:Nat):α:=if j=0 then x else y
structure SpAt (w:World) (s:Sp) (k:Nat) (lo hi:Int):Prop where
 lo:IntAt w s.ln s.la s.lN s.lc k lo
 hi:IntAt w s.hn s.ha s.hN s.hc k hi
theorem SpAt.bw {w w':World} {s:Sp} {k:Nat} {lo hi:Int} (h:SpAt w s k lo hi) (hb:Below w.heap.size w w'):SpAt w' s k lo hi:=⟨h.lo.bw hb,h.hi.bw hb⟩
def zEE (x y:Int):Int:=if x<y then y else x
def minZ (x y:Int):Int:=if y<x then y else x
theorem nums2 (w:World) (x y:Nm) (k:Nat) (zx zy:Int) (T:TypeId) (hx:IntAt w x.neg x.a x.n x.cap k zx) (hy:IntAt w y.neg y.a y.n y.cap k zy) :
  Nums (w.alloc (.cells #[.bool x.neg,.slice x.a x.n x.cap,.bool y.neg,.slice y.a y.n y.cap] T)) w.heap.size 2 k (pr x y) (pr zx zy):=by
 refine ⟨by simp,?_,?_,?_⟩
 all_goals
  intro j hj
  match j,hj with
  | 0,_=>first|(simp[pr];done)|exact hx.bw (bl1 _ _)
  | 1,_=>first|(simp[pr];done)|exact hy.bw (bl1 _ _)
theorem most2 (w:World) (B:Nat) (hB:w.heap.size=B) (x y:Nm) (k:Nat) (zx zy:Int) (T:TypeId) (cap:Nat) (hx:IntAt w x.neg x.a x.n x.cap k zx) (hy:IntAt w y.neg y.a y.n y.cap k zy) (hk:k≤1000000000) :
  Calls Tryz.prog 180 #[.slice (some ⟨B,0,none⟩) 2 cap] (w.alloc (.cells #[.bool x.neg,.slice x.a x.n x.cap,.bool y.neg,.slice y.a y.n y.cap] T)) fun r w' =>
   ∃ neg' a' n' cap',r=.returned (.agg #[.bool neg',.slice a' n' cap'])∧IntAt w' neg' a' n' cap' (k+1) (zEE zx zy)∧Below w.heap.size w w':=by
 subst hB;exact (zEL w.heap.size 1 cap k (pr x y) (pr zx zy) _ (nums2 w x y k zx zy T hx hy) hk (by omega)).mono fun _ _ ⟨n1,n2,n3,n4,q1,q2,q3⟩=>⟨n1,n2,n3,n4,q1,q2,(bl1 _ _).trans (q3.mono (by simp))⟩
theorem least2 (w:World) (B:Nat) (hB:w.heap.size=B) (x y:Nm) (k:Nat) (zx zy:Int) (T:TypeId) (cap:Nat) (hx:IntAt w x.neg x.a x.n x.cap k zx) (hy:IntAt w y.neg y.a y.n y.cap k zy) (hk:k≤1000000000) :
  Calls Tryz.prog 177 #[.slice (some ⟨B,0,none⟩) 2 cap] (w.alloc (.cells #[.bool x.neg,.slice x.a x.n x.cap,.bool y.neg,.slice y.a y.n y.cap] T)) fun r w' =>
   ∃ neg' a' n' cap',r=.returned (.agg #[.bool neg',.slice a' n' cap'])∧IntAt w' neg' a' n' cap' (k+1) (minZ zx zy)∧Below w.heap.size w w':=by
 subst hB;exact (zCO w.heap.size 1 cap k (pr x y) (pr zx zy) _ (nums2 w x y k zx zy T hx hy) hk (by omega)).mono fun _ _ ⟨n1,n2,n3,n4,q1,q2,q3⟩=>⟨n1,n2,n3,n4,q1,q2,(bl1 _ _).trans (q3.mono (by simp))⟩
theorem zBH (w:World) (s:Sp) (k:Nat) (lo hi:Int) (h:SpAt w s k lo hi) (hk:k≤900000000) :
  Calls Tryz.prog 175 #[.agg #[.bool s.ln,.slice s.la s.lN s.lc,.bool s.hn,.slice s.ha s.hN s.hc,.int .i64 s.bits]] w fun r w' =>
   ∃ neg' a' n' cap',r=.returned (.agg #[.bool neg',.slice a' n' cap'])∧IntAt w' neg' a' n' cap' (k+1) (zEE hi (-lo))∧Below w.heap.size w w':=by
 go_enter Tryz.func175,Tryz.ntmps175
 go_wp2
 go_region_held3 (fun w'=>w'.cell? ⟨w.heap.size,0,none⟩=some (.bool s.ln)∧w'.cell? ⟨w.heap.size,1,none⟩=some (.slice s.la s.lN s.lc)∧w'.cell? ⟨w.heap.size,2,none⟩=some (.bool s.hn)∧w'.cell? ⟨w.heap.size,3,none⟩=some (.slice s.ha s.hN s.hc)) (go_keep)
  (first
   | (go_at_call 103;refine (jY _ _ _ _ k lo _ (h.lo.bw (bl2 _ _ _).drew) (by omega)).mono ?_;rintro r w1 ⟨neg1,a1,n1,c1,rfl,hZ1,hb1⟩;obtain ⟨hsz1,kC1,hfz1⟩:=kK (w.heap.size+1+1) (by simp) hb1;have hz0:=Nat.lt_of_lt_of_le (Nat.lt_succ_of_lt (Nat.lt_succ_self w.heap.size)) hsz1;have hz1:=Nat.lt_of_lt_of_le (Nat.lt_succ_self (w.heap.size+1)) hsz1)
   | (go_at_call 180;refine (most2 w1 _ rfl ⟨s.hn,s.ha,s.hN,s.hc⟩ ⟨neg1,a1,n1,c1⟩ k hi (-lo) _ _ (h.hi.bw (zB (bl2 _ _ _).drew hb1)) hZ1 (by omega)).mono ?_;rintro r w2 ⟨neg2,a2,n2,c2,rfl,hZ2,hb2⟩;obtain ⟨hsz2,kC2,hfz2⟩:=kK (w.heap.size+1+1) hsz1 hb2))
 go_wp2;have y0:w2.cell? ⟨w.heap.size+1,0,none⟩=some (.bool false):=by simp[kC2,kC1,go_sem]
 have y1:w2.cell? ⟨w.heap.size+1,1,none⟩=some (.slice none 0 0):=by simp[kC2,kC1,go_sem]
 refine bodyPost_ret (v:=.agg #[.bool neg2,.slice a2 n2 c2]) (by simp[results,Tryz.results175,go_sem,y0,y1]) rfl ⟨neg2,a2,n2,c2,rfl,hZ2.put2 y0 y1 _ _,?_⟩
 exact ((zB (zB (bl2 _ _ _).drew hb1) hb2).setCell (p:=⟨w.heap.size+1,0,none⟩) (Nat.le_succ _) _).setCell (p:=⟨w.heap.size+1,1,none⟩) (Nat.le_succ _) _
def zID (lo hi K n:Int):Bool:=decide ((hi-lo)*K≤n*(K+zEE hi (-lo)))
theorem zJ2 (x y:Int):decide (zF x y≤0)=decide (x≤y):=by
 rw[decide_eq_decide];unfold zF
 by_cases h:x<y
 ·rw[if_pos h];omega
 ·rw[if_neg h]
  by_cases h2:y<x
  ·rw[if_pos h2];omega
  ·rw[if_neg h2];omega
def VarAt (w:World) (p:Value) (H k:Nat) (z:Int):Prop :=
 ∃ (B:Nat) (x:Nm),p=.pointer (some ⟨B,0,none⟩)∧w.cell? ⟨B,0,none⟩=some (.bool x.neg)∧w.cell? ⟨B,1,none⟩=some (.slice x.a x.n x.cap)∧IntAt w x.neg x.a x.n x.cap k z∧H≤B∧B<w.heap.size
theorem varA {w:World} {neg:Bool} {a:Option Addr} {n cap k:Nat} {z:Int} (h:IntAt w neg a n cap k z) (T:TypeId) (H:Nat) (hH:H≤w.heap.size):VarAt (w.alloc (.cells #[.bool neg,.slice a n cap] T)) (.pointer (some ⟨w.heap.size,0,none⟩)) H k z :=
 ⟨w.heap.size,⟨neg,a,n,cap⟩,rfl,by simp,by simp,h.bw (bl1 _ _),hH,by simp⟩
theorem varB {w:World} {neg:Bool} {a:Option Addr} {n cap k:Nat} {z:Int} (h:IntAt w neg a n cap k z) (H B:Nat) (h0:w.cell? ⟨B,0,none⟩=some (.bool false)) (h1:w.cell? ⟨B,1,none⟩=some (.slice none 0 0)) (hH:H≤B) :
  VarAt ((w.setCell ⟨B,0,none⟩ (.bool neg)).setCell ⟨B,1,none⟩ (.slice a n cap)) (.pointer (some ⟨B,0,none⟩)) H k z :=
 ⟨B,⟨neg,a,n,cap⟩,rfl,by simp[go_sem,h0,h1],by simp[go_sem,h0,h1],h.put2 h0 h1 _ _,hH,by
  have:=World.block_lt_of_cell? w ⟨B,0,none⟩ h0
  simpa [World.setCell] using this⟩
theorem VarAt.mono {w:World} {p:Value} {H k k':Nat} {z:Int} (h:VarAt w p H k z) (hk:k≤k'):VarAt w p H k' z:=by
 obtain ⟨B,x,h1,h2,h3,h4,h5,h6⟩:=h;exact ⟨B,x,h1,h2,h3,h4.mono hk,h5,h6⟩
theorem zF9 (w:World) (s:Sp) (b n:Nat) (lo hi:Int) (h:SpAt w s 250 lo hi) (hb:s.bits=b) (hb1:b≤120) (hn:n≤1000000) :
  Calls Tryz.prog 139 #[.agg #[.bool s.ln,.slice s.la s.lN s.lc,.bool s.hn,.slice s.ha s.hN s.hc,.int .i64 s.bits],.int .i64 n] w fun r w' =>
   r=.returned (.bool (zID lo hi (Q b) n))∧Below w.heap.size w w':=by
 rw[hb]
 go_enter Tryz.func139,Tryz.ntmps139
 go_wp2
 go_cut [5] (fun p wx=>VarAt wx p (w.heap.size+1) 400 ((hi-lo)*Q b)∧Below (w.heap.size+1) (w.alloc (.cells #[.bool s.ln,.slice s.la s.lN s.lc,.bool s.hn,.slice s.ha s.hN s.hc,.int .i64 b] 28)) wx)
 case first =>
  go_region_held3 (fun w'=>w'.cell? ⟨w.heap.size,0,none⟩=some (.bool s.ln)∧w'.cell? ⟨w.heap.size,1,none⟩=some (.slice s.la s.lN s.lc)∧w'.cell? ⟨w.heap.size,2,none⟩=some (.bool s.hn)∧w'.cell? ⟨w.heap.size,3,none⟩=some (.slice s.ha s.hN s.hc)∧w'.cell? ⟨w.heap.size,4,none⟩=some (.int .i64 b)) (go_keep)
   (first
    | (go_at_call 72;refine (zAL _ _ _ _ _ _ _ _ 250 250 hi lo _ (h.hi.bw (by first|exact (bl1 _ _).drew|exact (bl2 _ _ _).drew)) (h.lo.bw (by first|exact (bl1 _ _).drew|exact (bl2 _ _ _).drew)) (by omega) (by omega)).mono ?_;rintro r w1 ⟨neg1,a1,n1,c1,rfl,hZ1,hb1⟩;obtain ⟨hs1,kC1,hfz1⟩:=kK _ (Nat.le_refl _) hb1;(try simp at hs1);have hl1:w.heap.size<w1.heap.size:=Nat.lt_of_lt_of_le (by first|exact Nat.lt_succ_self _|exact Nat.lt_succ_of_lt (Nat.lt_succ_self _)) hs1;have hl1':=Nat.le_of_lt hl1;have hl1s:w.heap.size+1≤w1.heap.size:=hl1;have hn1:=Nat.ne_of_gt hl1;have hn1':=Nat.ne_of_lt hl1)
    | (go_at_call 95;refine (zAS _ _ _ _ b 251 (hi-lo) _ (hZ1.bw (by first|exact Below.refl _ _|exact bl1 _ _)) (by omega) (by omega)).mono ?_;rintro r w2 ⟨neg2,a2,n2,c2,rfl,hZ2,hb2⟩;obtain ⟨hs2,kC2,hfz2⟩:=kK _ (Nat.le_refl _) hb2;have hl2:w1.heap.size≤w2.heap.size:=Nat.le_trans (by simp) hs2;have hl2':=Nat.lt_of_lt_of_le hl1 hl2;have hn2:=Nat.ne_of_gt hl2';have hl2s:w.heap.size+1≤w2.heap.size:=hl2';have hn2':=Nat.ne_of_lt hl2';(try simp at hs2)))
  ·go_wp2_with fail
   go_meet;refine ⟨(varA hZ2 _ _ hl2s).mono (by omega),?_⟩
   exact (((zB (Below.refl _ _).drew hb1).mono (by simp)).trans (hb2.mono hl1s)).alloc hl2s _
  ·go_wp2_with fail
   go_meet;have h0:w2.cell? ⟨w1.heap.size,0,none⟩=some (.bool false):=by simp[kC2]
   have h1:w2.cell? ⟨w1.heap.size,1,none⟩=some (.slice none 0 0):=by simp[kC2]
   refine ⟨(varB hZ2 _ _ h0 h1 hl1s).mono (by omega),?_⟩
   exact (((((zB (Below.refl _ _).drew hb1).mono (by simp)).alloc hl1s _).trans (hb2.mono (by simp;omega))).setCell hl1s _).setCell hl1s _
  ·go_wp2_with fail
   go_meet;have h0:w2.cell? ⟨w.heap.size+1,0,none⟩=some (.bool false):=by simp[kC2,kC1,hs1,go_sem]
   have h1:w2.cell? ⟨w.heap.size+1,1,none⟩=some (.slice none 0 0):=by simp[kC2,kC1,hs1,go_sem]
   refine ⟨(varB hZ2 _ _ h0 h1 (Nat.le_refl _)).mono (by omega),?_⟩
   exact ((((((Below.refl _ _).alloc (by simp) _).drew.trans (hb1.mono (by simp))).trans (hb2.mono hl1s)).setCell (p:=⟨w.heap.size+1,0,none⟩) (Nat.le_refl _) _).setCell (p:=⟨w.heap.size+1,1,none⟩) (Nat.le_refl _) _)
 case rest =>
 obtain ⟨⟨B5,x5,rfl,c50,c51,hZ5,hB5,hlt5⟩,hbl5⟩:=hcut
 rename World=>wA
 have hw5:=hbl5.size;simp at hw5;have b50:wA.cell? ⟨w.heap.size,0,none⟩=some (.bool s.ln):=(hbl5.cell (p:=⟨w.heap.size,0,none⟩) (Nat.lt_succ_self _)).trans (by simp)
 have b51:wA.cell? ⟨w.heap.size,1,none⟩=some (.slice s.la s.lN s.lc):=(hbl5.cell (p:=⟨w.heap.size,1,none⟩) (Nat.lt_succ_self _)).trans (by simp)
 have b52:wA.cell? ⟨w.heap.size,2,none⟩=some (.bool s.hn):=(hbl5.cell (p:=⟨w.heap.size,2,none⟩) (Nat.lt_succ_self _)).trans (by simp)
 have b53:wA.cell? ⟨w.heap.size,3,none⟩=some (.slice s.ha s.hN s.hc):=(hbl5.cell (p:=⟨w.heap.size,3,none⟩) (Nat.lt_succ_self _)).trans (by simp)
 have b54:wA.cell? ⟨w.heap.size,4,none⟩=some (.int .i64 b):=(hbl5.cell (p:=⟨w.heap.size,4,none⟩) (Nat.lt_succ_self _)).trans (by simp)
 have hws:w.heap.size<wA.heap.size:=hw5;have hws1:w.heap.size+1≤wA.heap.size:=hw5;have hws2:w.heap.size≤wA.heap.size:=Nat.le_of_lt hw5;have hdr:wA.drew.heap.size=wA.heap.size:=rfl;have hwn:wA.heap.size≠w.heap.size:=by omega
 have hwn':w.heap.size≠wA.heap.size:=by omega
 go_wp2
 go_cut [6] (fun p wx=>VarAt wx p (w.heap.size+1) 20 (Q b)∧Below wA.heap.size wA wx)
 case first =>
  go_region_held3 (fun w'=>w'.cell? ⟨w.heap.size,4,none⟩=some (.int .i64 b)) (go_keep)
   (first
    | (go_at_call 43;refine (zD 1 _ (by decide) (by decide)).mono ?_;rintro r w1 ⟨neg1,a1,n1,c1,rfl,hZ1,hb1⟩;obtain ⟨hs1,kC1,hfz1⟩:=kK _ (Nat.le_refl _) hb1;(try simp at hs1);have hl0:wA.heap.size≤w1.heap.size:=Nat.le_trans (by simp) hs1;have hl1:w.heap.size<w1.heap.size:=Nat.lt_of_lt_of_le hws hl0;have hl1':=Nat.le_of_lt hl1;have hl1s:w.heap.size+1≤w1.heap.size:=hl1;have hn1:=Nat.ne_of_gt hl1;have hn1':=Nat.ne_of_lt hl1)
    | (go_at_call 95;refine (zAS _ _ _ _ b 4 1 _ (hZ1.bw (by first|exact Below.refl _ _|exact bl1 _ _)) (by omega) (by omega)).mono ?_;rintro r w2 ⟨neg2,a2,n2,c2,rfl,hZ2,hb2⟩;obtain ⟨hs2,kC2,hfz2⟩:=kK _ (Nat.le_refl _) hb2;have hl2:w1.heap.size≤w2.heap.size:=Nat.le_trans (by simp) hs2;have hl2':=Nat.lt_of_lt_of_le hl1 hl2;have hn2:=Nat.ne_of_gt hl2';have hl2s:w.heap.size+1≤w2.heap.size:=hl2';have hn2':=Nat.ne_of_lt hl2';(try simp at hs2)))
  all_goals rw[Int.one_mul] at hZ2
  ·go_wp2_with fail
   go_meet;refine ⟨(varA hZ2 _ _ hl2s).mono (by omega),?_⟩
   exact zK (zB (zB (Below.refl _ _).drew hb1) hb2) _
  ·go_wp2_with fail
   go_meet;have h0:w2.cell? ⟨w1.heap.size,0,none⟩=some (.bool false):=by simp[kC2]
   have h1:w2.cell? ⟨w1.heap.size,1,none⟩=some (.slice none 0 0):=by simp[kC2]
   refine ⟨(varB hZ2 _ _ h0 h1 hl1s).mono (by omega),?_⟩
   exact ((zB (zK (zB (Below.refl _ _).drew hb1) _) hb2).setCell (p:=⟨w1.heap.size,0,none⟩) hl0 _).setCell (p:=⟨w1.heap.size,1,none⟩) hl0 _
  ·go_wp2_with fail
   go_meet;have h0:w2.cell? ⟨wA.heap.size,0,none⟩=some (.bool false):=by simp[kC2,kC1,hs1,go_sem]
   have h1:w2.cell? ⟨wA.heap.size,1,none⟩=some (.slice none 0 0):=by simp[kC2,kC1,hs1,go_sem]
   refine ⟨(varB hZ2 _ _ h0 h1 hws1).mono (by omega),?_⟩
   exact ((zB (zB (bl1 _ _).drew hb1) hb2).setCell (p:=⟨wA.heap.size,0,none⟩) (Nat.le_refl _) _).setCell (p:=⟨wA.heap.size,1,none⟩) (Nat.le_refl _) _
 case rest =>
 obtain ⟨⟨B6,x6,rfl,c60,c61,hZ6,hB6,hlt6⟩,hbl6⟩:=hcut;have hsd:=hbl6.size;have d50:wc.cell? ⟨B5,0,none⟩=some (.bool x5.neg):=(hbl6.cell (p:=⟨B5,0,none⟩) hlt5).trans c50;have d51:wc.cell? ⟨B5,1,none⟩=some (.slice x5.a x5.n x5.cap):=(hbl6.cell (p:=⟨B5,1,none⟩) hlt5).trans c51;have hwd:w.heap.size+1≤wc.heap.size:=Nat.le_trans hws1 hsd;have e50:wc.cell? ⟨w.heap.size,0,none⟩=some (.bool s.ln):=(hbl6.cell (p:=⟨w.heap.size,0,none⟩) hws).trans b50;have e51:wc.cell? ⟨w.heap.size,1,none⟩=some (.slice s.la s.lN s.lc):=(hbl6.cell (p:=⟨w.heap.size,1,none⟩) hws).trans b51;have e52:wc.cell? ⟨w.heap.size,2,none⟩=some (.bool s.hn):=(hbl6.cell (p:=⟨w.heap.size,2,none⟩) hws).trans b52;have e53:wc.cell? ⟨w.heap.size,3,none⟩=some (.slice s.ha s.hN s.hc):=(hbl6.cell (p:=⟨w.heap.size,3,none⟩) hws).trans b53;have e54:wc.cell? ⟨w.heap.size,4,none⟩=some (.int .i64 b):=(hbl6.cell (p:=⟨w.heap.size,4,none⟩) hws).trans b54
 have hB:Below w.heap.size w wc:=((bl1 _ _).trans (hbl5.mono (by omega))).trans (hbl6.mono hws2)
 have HI5:=zC (hZ5.bw hbl6);have HI6:=zC hZ6;have HS:=zC (h.bw hB);have hl5:B5+1≤wc.heap.size:=Nat.lt_of_lt_of_le hlt5 hsd;have hl6:B6+1≤wc.heap.size:=hlt6;have HE:=zC (show (decide (zF ((hi-lo)*Q b) (n*(Q b+zEE hi (-lo)))≤0))=zID lo hi (Q b) n from zJ2 _ _)
 clear hZ5 hZ6 c50 c51 b50 b51 b52 b53 b54 h hbl5;go_wp2
 go_region_held3 (fun w'=>w'.cell? ⟨B5,0,none⟩=some (.bool x5.neg)∧w'.cell? ⟨B5,1,none⟩=some (.slice x5.a x5.n x5.cap)∧w'.cell? ⟨B6,0,none⟩=some (.bool x6.neg)∧w'.cell? ⟨B6,1,none⟩=some (.slice x6.a x6.n x6.cap)∧w'.cell? ⟨w.heap.size,0,none⟩=some (.bool s.ln)∧w'.cell? ⟨w.heap.size,1,none⟩=some (.slice s.la s.lN s.lc)∧w'.cell? ⟨w.heap.size,2,none⟩=some (.bool s.hn)∧w'.cell? ⟨w.heap.size,3,none⟩=some (.slice s.ha s.hN s.hc)∧w'.cell? ⟨w.heap.size,4,none⟩=some (.int .i64 b)) (go_keep)
  (first
   | (go_at_call 43;refine (zD (n:Int) _ (by omega) (by omega)).mono ?_;rintro r w1 ⟨neg1,a1,n1,c1,rfl,hZ1,hb1⟩;obtain ⟨hs1,kC1,hfz1⟩:=kK wc.heap.size (by exact Nat.le_refl _) hb1)
   | (go_at_call 175;refine (zBH _ ⟨s.ln,s.la,s.lN,s.lc,s.hn,s.ha,s.hN,s.hc,b⟩ 250 lo hi ⟨((zA HS).bw (zB (Below.refl _ _).drew hb1)).lo,((zA HS).bw (zB (Below.refl _ _).drew hb1)).hi⟩ (by omega)).mono ?_;rintro r w2 ⟨neg2,a2,n2,c2,rfl,hZ2,hb2⟩;obtain ⟨hs2,kC2,hfz2⟩:=kK wc.heap.size hs1 hb2)
   | (go_at_call 65;refine (yQ _ _ _ _ _ _ _ _ 20 251 _ _ _ ((zA HI6).bw (zB (zB (Below.refl _ _).drew hb1) hb2)) hZ2 (by omega) (by omega)).mono ?_;rintro r w3 ⟨neg3,a3,n3,c3,rfl,hZ3,hb3⟩;obtain ⟨hs3,kC3,hfz3⟩:=kK wc.heap.size hs2 hb3)
   | (go_at_call 66;refine (zX _ _ _ _ _ _ _ _ 4 252 _ _ _ (hZ1.bw (zB hb2 hb3)) hZ3 (by omega) (by omega)).mono ?_;rintro r w4 ⟨neg4,a4,n4,c4,rfl,hZ4,hb4⟩;obtain ⟨hs4,kC4,hfz4⟩:=kK wc.heap.size hs3 hb4)
   | (go_at_call 46;refine (zS _ _ _ _ _ _ _ _ 400 256 _ _ _ ((zA HI5).bw (zB (zB (zB (zB (Below.refl _ _).drew hb1) hb2) hb3) hb4)) hZ4).mono ?_;rintro r w5 ⟨rfl,hb5⟩;obtain ⟨hs5,kC5,hfz5⟩:=kK wc.heap.size hs4 hb5))
 go_wp2
 go_ret
 exact ⟨by rw[← zA HE];rfl,zB (zB (zB (zB (zB hB.drew hb1) hb2) hb3) hb4) hb5⟩
def pr4 {α:Type} (x y z t:α) (j:Nat):α:=if j=0 then x else if j=1 then y else if j=2 then z else t
theorem zI2 (w:World) (B:Nat) (hB:w.heap.size=B) (x y z t:Nm) (k:Nat) (zx zy zz zt:Int) (T:TypeId) (hx:IntAt w x.neg x.a x.n x.cap k zx) (hy:IntAt w y.neg y.a y.n y.cap k zy) (hz:IntAt w z.neg z.a z.n z.cap k zz) (ht:IntAt w t.neg t.a t.n t.cap k zt) :
  Nums (w.alloc (.cells #[.bool x.neg,.slice x.a x.n x.cap,.bool y.neg,.slice y.a y.n y.cap,.bool z.neg,.slice z.a z.n z.cap,.bool t.neg,.slice t.a t.n t.cap] T)) B 4 k (pr4 x y z t) (pr4 zx zy zz zt):=by
 subst hB;refine ⟨by simp,?_,?_,?_⟩
 all_goals
  intro j hj
  match j,hj with
  | 0,_=>first|(simp[pr4];done)|exact hx.bw (bl1 _ _)
  | 1,_=>first|(simp[pr4];done)|exact hy.bw (bl1 _ _)
  | 2,_=>first|(simp[pr4];done)|exact hz.bw (bl1 _ _)
  | 3,_=>first|(simp[pr4];done)|exact ht.bw (bl1 _ _)
theorem most4 (lo hi:Int) (h:lo≤hi):jM (pr4 lo hi (-lo) (-hi)) 3=zEE hi (-lo):=by
 have e1:jM (pr4 lo hi (-lo) (-hi)) 1=hi:=by
  show (if lo<hi then hi else lo)=hi
  split <;> omega
 have e2:jM (pr4 lo hi (-lo) (-hi)) 2=zEE hi (-lo):=by
  show (if jM (pr4 lo hi (-lo) (-hi)) 1 < -lo then -lo else jM (pr4 lo hi (-lo) (-hi)) 1)=_
  rw[e1];rfl
 show (if jM (pr4 lo hi (-lo) (-hi)) 2 < -hi then -hi else jM (pr4 lo hi (-lo) (-hi)) 2)=_
 rw[e2,if_neg];unfold zEE;split <;> omega
theorem zHN (w:World) (s:Sp) (b n:Nat) (lo hi:Int) (h:SpAt w s 250 lo hi) (hb:s.bits=b) (hb1:b≤120) (hn:n≤1000000) (hle:lo≤hi) :
  Calls Tryz.prog 47 #[.agg #[.bool s.ln,.slice s.la s.lN s.lc,.bool s.hn,.slice s.ha s.hN s.hc,.int .i64 s.bits],.int .i64 n] w fun r w' =>
   r=.returned (.bool (zID lo hi (Q b) n))∧Below w.heap.size w w':=by
 rw[hb];have HM:=zC (most4 lo hi hle)
 go_enter Tryz.func47,Tryz.ntmps47
 go_wp2;obtain ⟨W,hW⟩:∃ W,W=w.alloc (.cells #[.bool s.ln,.slice s.la s.lN s.lc,.bool s.hn,.slice s.ha s.hN s.hc,.int .i64 b] 28):=⟨_,rfl⟩;have k0:W.cell? ⟨w.heap.size,0,none⟩=some (.bool s.ln):=by rw[hW];simp
 have k1:W.cell? ⟨w.heap.size,1,none⟩=some (.slice s.la s.lN s.lc):=by rw[hW];simp
 have k2:W.cell? ⟨w.heap.size,2,none⟩=some (.bool s.hn):=by rw[hW];simp
 have k3:W.cell? ⟨w.heap.size,3,none⟩=some (.slice s.ha s.hN s.hc):=by rw[hW];simp
 have k4:W.cell? ⟨w.heap.size,4,none⟩=some (.int .i64 b):=by rw[hW];simp
 have hlt:w.heap.size<W.heap.size:=by rw[hW];simp
 have hlt1:w.heap.size+1≤W.heap.size:=hlt;have hBW:Below w.heap.size w W:=by rw[hW];exact bl1 _ _
 have hdr:W.drew.heap.size=W.heap.size:=rfl;have HS:=zC (h.bw hBW);have hne:W.heap.size≠w.heap.size:=by omega
 have hne':w.heap.size≠W.heap.size:=by omega
 rw[← hW];clear hW h
 have keepS:∀ w',Below W.heap.size W w'→(w'.cell? ⟨w.heap.size,0,none⟩=some (.bool s.ln)∧w'.cell? ⟨w.heap.size,1,none⟩=some (.slice s.la s.lN s.lc)∧w'.cell? ⟨w.heap.size,2,none⟩=some (.bool s.hn)∧w'.cell? ⟨w.heap.size,3,none⟩=some (.slice s.ha s.hN s.hc)):=fun w' hB =>
  ⟨(hB.cell (p:=⟨w.heap.size,0,none⟩) hlt).trans k0,(hB.cell (p:=⟨w.heap.size,1,none⟩) hlt).trans k1,(hB.cell (p:=⟨w.heap.size,2,none⟩) hlt).trans k2,(hB.cell (p:=⟨w.heap.size,3,none⟩) hlt).trans k3⟩
 have HK:=zC keepS;clear keepS
 go_cut [5] (fun p wx=>VarAt wx p W.heap.size 260 (zEE hi (-lo))∧Below W.heap.size W wx)
 case first =>
  go_region_held3 (fun w'=>w'.cell? ⟨w.heap.size,0,none⟩=some (.bool s.ln)∧w'.cell? ⟨w.heap.size,1,none⟩=some (.slice s.la s.lN s.lc)∧w'.cell? ⟨w.heap.size,2,none⟩=some (.bool s.hn)∧w'.cell? ⟨w.heap.size,3,none⟩=some (.slice s.ha s.hN s.hc)) (exact zA HK _ (by first|exact (Below.refl _ _).drew|exact (bl1 _ _).drew|exact hB1|exact zK hB1 _|exact hB2|exact zK hB2 _|exact zK (zK hB2 _) _|exact hB3|exact zK hB3 _|exact (hB3.setCell (by first|exact Nat.le_refl _|exact hB1.size|exact hB2.size|exact Nat.le_succ_of_le hB2.size) _).setCell (by first|exact Nat.le_refl _|exact hB1.size|exact hB2.size|exact Nat.le_succ_of_le hB2.size) _))
   (first
    | (go_at_call_of 103 s.la;refine (jY _ _ _ _ 250 lo _ ((zA HS).lo.bw (by first|exact (Below.refl _ _).drew|exact (bl1 _ _).drew)) (by omega)).mono ?_;rintro r w1 ⟨neg1,a1,n1,c1,rfl,hZ1,hb1⟩;obtain ⟨hs1,kC1,hfz1⟩:=kK _ (Nat.le_refl _) hb1;have hB1:Below W.heap.size W w1:=(by first|exact zB (Below.refl _ _).drew hb1|exact zB (bl1 _ _).drew hb1);have hl1:=hB1.size;have hm1:=Nat.lt_of_lt_of_le hlt hl1;have hm1s:w.heap.size+1≤w1.heap.size:=hm1;have hm1l:=Nat.le_of_lt hm1;have hm1ll:=Nat.le_succ_of_le hm1l;have hn1:=Nat.ne_of_gt hm1;have hn1':=Nat.ne_of_lt hm1;(try simp at hs1);(try have hq1:W.heap.size<w1.heap.size:=hs1);(try have hq1s:W.heap.size+1≤w1.heap.size:=hs1))
    | (go_at_call_of 103 s.ha;refine (jY _ _ _ _ 250 hi _ ((zA HS).hi.bw (by first|exact hB1|exact zK hB1 _)) (by omega)).mono ?_;rintro r w2 ⟨neg2,a2,n2,c2,rfl,hZ2,hb2⟩;obtain ⟨hs2,kC2,hfz2⟩:=kK _ (Nat.le_refl _) hb2;have hB12:Below w1.heap.size w1 w2:=(by first|exact hb2|exact zB (bl1 _ _) hb2);have hB2:=zB hB1 hB12;have hl2:=hB12.size;have hw2:=hB2.size;(try have hq2:=Nat.lt_of_lt_of_le hs1 hl2);have hm2:=Nat.lt_of_lt_of_le hm1 hl2;have hm2s:w.heap.size+1≤w2.heap.size:=hm2;have hm2l:=Nat.le_of_lt hm2;have hm2ll:=Nat.le_succ_of_le hm2l;have hn2:=Nat.ne_of_gt hm2;have hn2':=Nat.ne_of_lt hm2;(try simp at hs2);(try have hq12:w1.heap.size<w2.heap.size:=hs2);(try have hq12s:w1.heap.size+1≤w2.heap.size:=hs2);(try have hq2s:W.heap.size+1≤w2.heap.size:=hq2))
    | (go_at_call_of 102 (Addr.mk w2.heap.size 0 none);refine (zAF w2.heap.size 3 _ 250 (pr4 ⟨s.ln,s.la,s.lN,s.lc⟩ ⟨s.hn,s.ha,s.hN,s.hc⟩ ⟨neg1,a1,n1,c1⟩ ⟨neg2,a2,n2,c2⟩) (pr4 lo hi (-lo) (-hi)) _ (by first|exact zI2 w2 w2.heap.size rfl ⟨s.ln,s.la,s.lN,s.lc⟩ ⟨s.hn,s.ha,s.hN,s.hc⟩ ⟨neg1,a1,n1,c1⟩ ⟨neg2,a2,n2,c2⟩ 250 _ _ _ _ _ ((zA HS).lo.bw hB2) ((zA HS).hi.bw hB2) (hZ1.bw hB12) hZ2|exact (zI2 w2 w2.heap.size rfl ⟨s.ln,s.la,s.lN,s.lc⟩ ⟨s.hn,s.ha,s.hN,s.hc⟩ ⟨neg1,a1,n1,c1⟩ ⟨neg2,a2,n2,c2⟩ 250 _ _ _ _ _ ((zA HS).lo.bw hB2) ((zA HS).hi.bw hB2) (hZ1.bw hB12) hZ2).bw (bl1 _ _)) (by omega)).mono ?_;rintro r w3 ⟨neg3,a3,n3,c3,rfl,hZ3,hb3⟩;obtain ⟨hs3,kC3,hfz3⟩:=kK _ (Nat.le_refl _) hb3;have hB23:Below w2.heap.size w2 w3:=(by first|exact zB (bl1 _ _) hb3|exact zB (bl2 _ _ _) hb3);have hB3:=zB hB2 hB23;have hl3:=hB23.size;have hm3:=Nat.lt_of_lt_of_le hm2 hl3;have hm3s:w.heap.size+1≤w3.heap.size:=hm3;have hm3l:=Nat.le_of_lt hm3;have hm3ll:=Nat.le_succ_of_le hm3l;have hn3:=Nat.ne_of_gt hm3;have hn3':=Nat.ne_of_lt hm3;(try simp at hs3))
    | (go_at_call 102;refine (zAF (w2.heap.size+1) 3 _ 250 (pr4 ⟨s.ln,s.la,s.lN,s.lc⟩ ⟨s.hn,s.ha,s.hN,s.hc⟩ ⟨neg1,a1,n1,c1⟩ ⟨neg2,a2,n2,c2⟩) (pr4 lo hi (-lo) (-hi)) _ (by exact zI2 (w2.alloc (.cells #[.bool false,.slice none 0 0] 26)) (w2.heap.size+1) (Go.Deep.nblk_alloc _ _) ⟨s.ln,s.la,s.lN,s.lc⟩ ⟨s.hn,s.ha,s.hN,s.hc⟩ ⟨neg1,a1,n1,c1⟩ ⟨neg2,a2,n2,c2⟩ 250 _ _ _ _ _ ((zA HS).lo.bw (zK hB2 _)) ((zA HS).hi.bw (zK hB2 _)) (hZ1.bw (zK hB12 _)) (hZ2.bw (bl1 _ _))) (by omega)).mono ?_;rintro r w3 ⟨neg3,a3,n3,c3,rfl,hZ3,hb3⟩;obtain ⟨hs3,kC3,hfz3⟩:=kK _ (Nat.le_refl _) hb3;have hB23:Below w2.heap.size w2 w3:=(by first|exact zB (bl1 _ _) hb3|exact zB (bl2 _ _ _) hb3);have hB3:=zB hB2 hB23;have hl3:=hB23.size;have hm3:=Nat.lt_of_lt_of_le hm2 hl3;have hm3s:w.heap.size+1≤w3.heap.size:=hm3;have hm3l:=Nat.le_of_lt hm3;have hm3ll:=Nat.le_succ_of_le hm3l;have hn3:=Nat.ne_of_gt hm3;have hn3':=Nat.ne_of_lt hm3;(try simp at hs3)))
  all_goals rw[zA HM] at hZ3
  ·go_wp2_with fail
   go_meet;exact ⟨(varA hZ3 _ _ hB3.size).mono (by omega),zK hB3 _⟩
  ·go_wp2_with fail
   go_meet;have h0:w3.cell? ⟨w2.heap.size+1,0,none⟩=some (.bool false):=by simp[kC3,go_sem]
   have h1:w3.cell? ⟨w2.heap.size+1,1,none⟩=some (.slice none 0 0):=by simp[kC3,go_sem]
   exact ⟨(varB hZ3 _ _ h0 h1 (Nat.le_succ_of_le hw2)).mono (by omega),(hB3.setCell (p:=⟨w2.heap.size+1,0,none⟩) (Nat.le_succ_of_le hw2) _).setCell (p:=⟨w2.heap.size+1,1,none⟩) (Nat.le_succ_of_le hw2) _⟩
  ·go_wp2_with fail
   go_meet;have h0:w3.cell? ⟨w2.heap.size,0,none⟩=some (.bool false):=by simp[kC3,go_sem]
   have h1:w3.cell? ⟨w2.heap.size,1,none⟩=some (.slice none 0 0):=by simp[kC3,go_sem]
   exact ⟨(varB hZ3 _ _ h0 h1 hw2).mono (by omega),(hB3.setCell (p:=⟨w2.heap.size,0,none⟩) hw2 _).setCell (p:=⟨w2.heap.size,1,none⟩) hw2 _⟩
  ·go_wp2_with fail
   go_meet;have h0:w3.cell? ⟨w1.heap.size,0,none⟩=some (.bool false):=by simp[kC3,kC2,hq12,hl2,go_sem]
   have h1:w3.cell? ⟨w1.heap.size,1,none⟩=some (.slice none 0 0):=by simp[kC3,kC2,hq12,hl2,go_sem]
   exact ⟨(varB hZ3 _ _ h0 h1 hl1).mono (by omega),(hB3.setCell (p:=⟨w1.heap.size,0,none⟩) hl1 _).setCell (p:=⟨w1.heap.size,1,none⟩) hl1 _⟩
  ·go_wp2_with fail
   go_meet;have h0:w3.cell? ⟨W.heap.size,0,none⟩=some (.bool false):=by simp[kC3,kC2,kC1,hq1,hq1s,hq2,hq2s,hw2,go_sem]
   have h1:w3.cell? ⟨W.heap.size,1,none⟩=some (.slice none 0 0):=by simp[kC3,kC2,kC1,hq1,hq1s,hq2,hq2s,hw2,go_sem]
   exact ⟨(varB hZ3 _ _ h0 h1 (Nat.le_refl _)).mono (by omega),(hB3.setCell (p:=⟨W.heap.size,0,none⟩) (Nat.le_refl _) _).setCell (p:=⟨W.heap.size,1,none⟩) (Nat.le_refl _) _⟩
 case rest =>
 obtain ⟨⟨B5,x5,rfl,c50,c51,hZ5,hB5,hlt5⟩,hbl5⟩:=hcut;have HI5:=zC hZ5;have HS2:=zC ((zA HS).bw hbl5);have hltc:=Nat.lt_of_lt_of_le hlt hbl5.size;have e4:wc.cell? ⟨w.heap.size,4,none⟩=some (.int .i64 b):=(hbl5.cell (p:=⟨w.heap.size,4,none⟩) hlt).trans k4;obtain ⟨e0,e1,e2,e3⟩:=zA HK wc hbl5
 have HK2:=zC (show ∀ w',Below wc.heap.size wc w'→(w'.cell? ⟨w.heap.size,0,none⟩=some (.bool s.ln)∧w'.cell? ⟨w.heap.size,1,none⟩=some (.slice s.la s.lN s.lc)∧w'.cell? ⟨w.heap.size,2,none⟩=some (.bool s.hn)∧w'.cell? ⟨w.heap.size,3,none⟩=some (.slice s.ha s.hN s.hc)∧w'.cell? ⟨w.heap.size,4,none⟩=some (.int .i64 b)∧w'.cell? ⟨B5,0,none⟩=some (.bool x5.neg)∧w'.cell? ⟨B5,1,none⟩=some (.slice x5.a x5.n x5.cap)) from fun w' hB =>
  ⟨(hB.cell (p:=⟨w.heap.size,0,none⟩) hltc).trans e0,(hB.cell (p:=⟨w.heap.size,1,none⟩) hltc).trans e1,(hB.cell (p:=⟨w.heap.size,2,none⟩) hltc).trans e2,(hB.cell (p:=⟨w.heap.size,3,none⟩) hltc).trans e3,(hB.cell (p:=⟨w.heap.size,4,none⟩) hltc).trans e4,(hB.cell (p:=⟨B5,0,none⟩) hlt5).trans c50,(hB.cell (p:=⟨B5,1,none⟩) hlt5).trans c51⟩)
 have HE:=zC (show (decide (zF ((hi-lo)*Q b) (n*(Q b+zEE hi (-lo)))≤0))=zID lo hi (Q b) n from zJ2 _ _)
 have hBw:Below w.heap.size w wc:=hBW.trans (hbl5.mono (Nat.le_of_lt hlt));clear hZ5 k0 k1 k2 k3 k4 hbl5 HK HS HM;go_wp2
 go_region_held3 (fun w'=>w'.cell? ⟨w.heap.size,0,none⟩=some (.bool s.ln)∧w'.cell? ⟨w.heap.size,1,none⟩=some (.slice s.la s.lN s.lc)∧w'.cell? ⟨w.heap.size,2,none⟩=some (.bool s.hn)∧w'.cell? ⟨w.heap.size,3,none⟩=some (.slice s.ha s.hN s.hc)∧w'.cell? ⟨w.heap.size,4,none⟩=some (.int .i64 b)∧w'.cell? ⟨B5,0,none⟩=some (.bool x5.neg)∧w'.cell? ⟨B5,1,none⟩=some (.slice x5.a x5.n x5.cap)) (exact zA HK2 _ (by first|exact (Below.refl _ _).drew|exact hB1|exact hB2|exact hB3|exact hB4|exact hB5'|exact hB6|exact hB7|exact hB8))
  (first
   | (go_at_call 72;refine (zAL _ _ _ _ _ _ _ _ 250 250 hi lo _ ((zA HS2).hi.bw (Below.refl _ _).drew) ((zA HS2).lo.bw (Below.refl _ _).drew) (by omega) (by omega)).mono ?_;rintro r w1 ⟨neg1,a1,n1,c1,rfl,hZ1,hb1⟩;have hB1:Below wc.heap.size wc w1:=zB (Below.refl _ _).drew hb1)
   | (go_at_call_of 66 a1;refine (zX _ _ _ _ _ _ _ _ 251 20 _ _ _ (hZ1.bw hb2) hZ2 (by omega) (by omega)).mono ?_;rintro r w3 ⟨neg3,a3,n3,c3,rfl,hZ3,hb3⟩;have hB3:=zB hB2 hb3)
   | (go_at_call 43;refine (zD (n:Int) _ (by omega) (by omega)).mono ?_;rintro r w4 ⟨neg4,a4,n4,c4,rfl,hZ4,hb4⟩;have hB4:=zB hB3 hb4)
   | (go_at_call 104;have hB4':=hB4;refine (kC b _ (by omega)).mono ?_;rintro r w5 ⟨neg5,a5,n5,c5,rfl,hZ5,hb5⟩;have hB5':=zB hB4 hb5)
   | (go_at_call 104;refine (kC b _ (by omega)).mono ?_;rintro r w2 ⟨neg2,a2,n2,c2,rfl,hZ2,hb2⟩;have hZ2:=hZ2.mono (show b/16+5≤20 by omega);have hB2:=zB hB1 hb2)
   | (go_at_call 65;refine (yQ _ _ _ _ _ _ _ _ (b/16+5) 260 _ _ _ hZ5 ((zA HI5).bw hB5') (by omega) (by omega)).mono ?_;rintro r w6 ⟨neg6,a6,n6,c6,rfl,hZ6,hb6⟩;have hZ6:=hZ6.mono (show max (b/16+5) 260+1≤300 by omega);have hB6:=zB hB5' hb6)
   | (go_at_call 66;refine (zX _ _ _ _ _ _ _ _ 4 300 _ _ _ (hZ4.bw (zB hb5 hb6)) hZ6 (by omega) (by omega)).mono ?_;rintro r w7 ⟨neg7,a7,n7,c7,rfl,hZ7,hb7⟩;have hB7:=zB hB6 hb7)
   | (go_at_call 46;refine (zS _ _ _ _ _ _ _ _ 271 304 _ _ _ (hZ3.bw (zB (zB (zB hb4 hb5) hb6) hb7)) hZ7).mono ?_;rintro r w8 ⟨rfl,hb8⟩;have hB8:=zB hB7 hb8))
 go_wp2
 go_ret
 exact ⟨by rw[← zA HE];rfl,hBw.trans (hB8.mono (Nat.le_of_lt hltc))⟩
end Go.Proofs.YtgmnknmjainababGreat
