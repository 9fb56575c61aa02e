/-
  Its own texts.
-/
import Derived.Deep.DeepCutAuto
import Derived.Test.YtgmnknmjainabacGreatH03
set_option maxRecDepth 100000
set_option maxHeartbeats 40000000
set_option linter.unnecessarySimpa false
set_option linter.unusedSimpArgs false
set_option linter.unusedVariables false
namespace Go.Proofs.YtgmnknmjainabacGreat
open Go.RowKit
attribute [local go_sem ↓] Go.wp_at_zero Go.wp_at_succ
structure Nm where
 neg:Bool
 a:Option Addr
 n:Nat
 cap:Nat
abbrev cK (w:World) (B:Nat) (s:Sp) (R:Prop):Prop:=w.cell? ⟨B,0,none⟩=some (.bool s.ln)/\w.cell? ⟨B,1,none⟩=some (.slice s.la s.lN s.lc)/\w.cell? ⟨B,2,none⟩=some (.bool s.hn)/\w.cell? ⟨B,3,none⟩=some (.slice s.ha s.hN s.hc)/\w.cell? ⟨B,4,none⟩=some (.int .i64 s.bits)/\R
abbrev cK0 (w:World) (B:Nat) (s:Sp):Prop:=w.cell? ⟨B,0,none⟩=some (.bool s.ln)/\w.cell? ⟨B,1,none⟩=some (.slice s.la s.lN s.lc)/\w.cell? ⟨B,2,none⟩=some (.bool s.hn)/\w.cell? ⟨B,3,none⟩=some (.slice s.ha s.hN s.hc)/\w.cell? ⟨B,4,none⟩=some (.int .i64 s.bits)
abbrev nK (w:World) (B:Nat) (x:Nm) (R:Prop):Prop:=w.cell? ⟨B,0,none⟩=some (.bool x.neg)/\w.cell? ⟨B,1,none⟩=some (.slice x.a x.n x.cap)/\R
abbrev nK0 (w:World) (B:Nat) (x:Nm):Prop:=w.cell? ⟨B,0,none⟩=some (.bool x.neg)/\w.cell? ⟨B,1,none⟩=some (.slice x.a x.n x.cap)
abbrev rK (w:World) (B:Nat) (p q:Int) (R:Prop):Prop:=w.cell? ⟨B,0,none⟩=some (.int .i64 p)/\w.cell? ⟨B,1,none⟩=some (.int .i64 q)/\R
abbrev rK0 (w:World) (B:Nat) (p q:Int):Prop:=w.cell? ⟨B,0,none⟩=some (.int .i64 p)/\w.cell? ⟨B,1,none⟩=some (.int .i64 q)
abbrev Sp.q (s:Sp):Array Value:=#[.bool s.ln,.slice s.la s.lN s.lc,.bool s.hn,.slice s.ha s.hN s.hc,.int .i64 s.bits]
abbrev Nm.q (x:Nm):Array Value:=#[.bool x.neg,.slice x.a x.n x.cap]
abbrev zCq:Array Value:=#[.bool false,.slice none 0 0,.bool false,.slice none 0 0,.int .i64 0]
structure Nums (w:World) (b n k:Nat) (f:Nat->Nm) (z:Nat->Int):Prop where
 lt:b<w.heap.size
 c0:∀ j,j<n->w.cell? ⟨b,j*2,none⟩=some (.bool (f j).neg)
 c1:∀ j,j<n->w.cell? ⟨b,j*2+1,none⟩=some (.slice (f j).a (f j).n (f j).cap)
 int:∀ j,j<n->IntAt w (f j).neg (f j).a (f j).n (f j).cap k (z j)
theorem Nums.bw {w w':World} {b n k:Nat} {f:Nat->Nm} {z:Nat->Int} (h:Nums w b n k f z) (hb:Below w.heap.size w w'):Nums w' b n k f z :=
 ⟨Zd h.lt hb.size,λ j hj=>(hb.cell (p:=⟨b,j*2,none⟩) h.lt).trans (h.c0 j hj),λ j hj=>(hb.cell (p:=⟨b,j*2+1,none⟩) h.lt).trans (h.c1 j hj),λ j hj=>(h.int j hj).bw hb⟩
def jZ (z:Nat->Int):Nat->Int
 | 0=>z 0
 | n+1=>if jZ z n<z (n+1) then z (n+1) else jZ z n
def kM (z:Nat->Int):Nat->Int
 | 0=>z 0
 | n+1=>if z (n+1)<kM z n then z (n+1) else kM z n
theorem zG7 {x y:Int} (h:¬ y<x):¬ 0<zN x y:=by
 unfold zN;simp only[h,if_false];split<;>omega
theorem zG6 {x y:Int} (h:¬ x<y):¬ zN x y<0:=by
 unfold zN;rw[if_neg h];split<;>omega
theorem mostZ_up {z:Nat->Int} {i:Nat} (h:jZ z (i-1)<z i):jZ z (i+1-1)=z i:=by
 cases i with
 | zero=>rfl
 | succ j=>simp only[Nat.add_sub_cancel] at *;simp only[jZ,h,if_true]
theorem zO9 {z:Nat->Int} {i:Nat} (h:¬ jZ z (i-1)<z i):jZ z (i+1-1)=jZ z (i-1):=by
 cases i with
 | zero=>rfl
 | succ j=>simp only[Nat.add_sub_cancel] at *;simp only[jZ,h,if_false]
theorem zDJ (k:Nat) (w:World) (hk:k<=1000000000) :
  Calls Tryz.prog 82 #[.int .i64 k] w λ r w' =>
   ∃ j9 a' n' m7,r=.returned (.agg #[.bool j9,.slice a' n' m7])/\IntAt w' j9 a' n' m7 (k/16+5) (Q k)/\Below w.heap.size w w':=by
 go_enter Tryz.func82,Tryz.ntmps82
 go_wp2_with (first
  | (go_at_call 33;refine (zD 1 _ (by decide) (by decide)).mono ?_;rintro r w1 ⟨m9,a1,n1,c1,rfl,o8,b9⟩;obtain⟨C9,B9,D6⟩:=zZ (w.heap.size+1) (by simp) b9)
  | (go_at_call 116;refine (zCG _ _ _ _ k 4 1 _ o8 (by omega) hk).mono ?_;rintro r w2 ⟨j9,a2,n2,c2,rfl,hint,j7⟩;obtain⟨A9,B7,E7⟩:=zZ (w.heap.size+1) C9 j7))
 have h0:w2.cell? ⟨w.heap.size,0,none⟩=some (.bool false):=by simp[B7,B9,go_sem]
 have G6:w2.cell? ⟨w.heap.size,1,none⟩=some (.slice none 0 0):=by simp[B7,B9,go_sem]
 refine bodyPost_ret (v:=.agg #[.bool j9,.slice a2 n2 c2]) (by simp[results,Tryz.results82,go_sem,h0,G6]) rfl ⟨j9,a2,n2,c2,rfl,?_,?_⟩
 ·rw[Int.one_mul] at hint
  exact (hint.put2 h0 G6 _ _).mono (by omega)
 ·exact ((zB (zB (bl1 _ _) b9) j7).setCell (p:=⟨w.heap.size,0,none⟩) (Zb _) _).setCell (p:=⟨w.heap.size,1,none⟩) (Zb _) _
theorem zOO (neg:Bool) (a:Option Addr) (n cap k1:Nat) (x:Int) (w:World) (h1:IntAt w neg a n cap k1 x) (W6:k1<=1000000000) :
  Calls Tryz.prog 196 #[.agg #[.bool neg,.slice a n cap]] w λ r w' =>
   ∃ j9 a' n' m7,r=.returned (.agg #[.bool j9,.slice a' n' m7])/\IntAt w' j9 a' n' m7 (k1+1) x/\Below w.heap.size w w':=by
 go_enter Tryz.func196,Tryz.ntmps196
 go_wp2_with (go_at_call 116;refine (zCG _ _ _ _ 0 k1 x _ (h1.bw (bl2 _ _ _)) W6 (by omega)).mono ?_;rintro r w2 ⟨j9,a2,n2,c2,rfl,hint,j7⟩;obtain⟨A9,B7,E7⟩:=zZ (w.heap.size+1+1) (by simp) j7)
 have h0:w2.cell? ⟨w.heap.size+1,0,none⟩=some (.bool false):=by simp[B7,go_sem]
 have G6:w2.cell? ⟨w.heap.size+1,1,none⟩=some (.slice none 0 0):=by simp[B7,go_sem]
 refine bodyPost_ret (v:=.agg #[.bool j9,.slice a2 n2 c2]) (by simp[results,Tryz.results196,go_sem,h0,G6]) rfl ⟨j9,a2,n2,c2,rfl,?_,?_⟩
 ·simp only[Q,Int.mul_one] at hint
  exact (hint.put2 h0 G6 _ _).mono (by omega)
 ·exact ((zB (bl2 _ _ _) j7).setCell (p:=⟨w.heap.size+1,0,none⟩) (Nat.le_succ _) _).setCell (p:=⟨w.heap.size+1,1,none⟩) (Nat.le_succ _) _
theorem zFB (b n cap k:Nat) (f:Nat->Nm) (z:Nat->Int) (w:World) (h:Nums w b (n+1) k f z) (hn:n<=1000) :
  Calls Tryz.prog 86 #[.slice (some ⟨b,0,none⟩) (n+1) cap] w λ r w' =>
   ∃ j9 a' n' m7,r=.returned (.agg #[.bool j9,.slice a' n' m7])/\IntAt w' j9 a' n' m7 k (jZ z n)/\Below w.heap.size w w':=by
 have Ie:=h.c0 0 (by omega)
 have Ig:=h.c1 0 (by omega)
 simp only[Nat.zero_mul,Nat.zero_add] at Ie Ig;have hnn:(0:Int)<(n:Int)+1:=by omega
 have tV:=h.lt
 go_enter Tryz.func86,Tryz.ntmps86
 go_wp2
 go_loopw [4] (λ ii wr=>∃ (i:Nat) (x:Nm),i<=n+1/\ii=.int .i64 i/\wr.cell? ⟨w.heap.size+1,0,none⟩=some (.bool x.neg)/\wr.cell? ⟨w.heap.size+1,1,none⟩=some (.slice x.a x.n x.cap)/\(∀ o,wr.frozen? ⟨w.heap.size+1,o,none⟩=false)/\IntAt wr x.neg x.a x.n x.cap k (jZ z (i-1))/\w.heap.size+1+1<=wr.heap.size /\
   Below (w.heap.size+1) (w.alloc (.cells #[.bool false,.slice none 0 0] 29)) wr) (λ ii _=>n+1-(intOf ii).toNat)
 case atStart =>
  exact⟨0,f 0,by omega,rfl,by simp[go_sem],by simp[go_sem],by intro o;simp[go_sem],(h.int 0 (by omega)).bw (bl2 _ _ _),by simp,(Below.refl _ _).alloc (by simp) _⟩
 case round =>
  obtain⟨i,x,hi,rfl,x0,x1,x2,hx,L5,A7⟩:=hrel;have hB:Below w.heap.size w wr:=(bl1 _ _).trans (A7.mono (by omega))
  by_cases I9:i<n+1
  ·have g0:=(h.bw hB).c0 i I9
   have g1:=(h.bw hB).c1 i I9;have hint:=(h.bw hB).int i I9;have Jh:(0:Int)<=(i:Int):=by omega
   have fq:(i:Int)<(n:Int)+1:=by omega
   have IY:b<=w.heap.size+1:=by omega
   have hne:w.heap.size+1≠b:=by omega
   have Cz:b≠w.heap.size+1:=by omega
   have HH:=zC h;clear h Ie Ig
   by_cases hc:jZ z (i-1)<z i
   ·have nD:zN (z i) (jZ z (i-1))=1:=by unfold zN;rw[if_neg (by omega),if_pos hc]
    have HZ:=zC (mostZ_up hc);go_wp2
    go_region_held3 (λ w'=>w'.cell? ⟨b,i*2,none⟩=some (.bool (f i).neg)/\w'.cell? ⟨b,i*2+1,none⟩=some (.slice (f i).a (f i).n (f i).cap)/\nK0 w' (w.heap.size+1) x) ((dsimp only[cK,cK0,nK,nK0,rK,rK0];go_keep))
     (first
      | (go_at_call 17;refine (jY _ _ _ _ _ _ _ _ k k (z i) (jZ z (i-1)) _ (hint.bw (Below.refl _ _).drew) (hx.bw (Below.refl _ _).drew)).mono ?_;rintro r w1 ⟨rfl,b9⟩;obtain⟨C9,B9,D6⟩:=zZ (w.heap.size+1+1) (by exact L5) b9;rw[nD]))
    have y0:w1.cell? ⟨w.heap.size+1,0,none⟩=some (.bool x.neg):=(B9 _ _ (Zb _)).trans x0;have y1:w1.cell? ⟨w.heap.size+1,1,none⟩=some (.slice x.a x.n x.cap):=(B9 _ _ (Zb _)).trans x1;have y2:∀ o,w1.frozen? ⟨w.heap.size+1,o,none⟩=false:=λ o=>(D6 _ _ (Zb _)).trans (x2 o)
    go_wp2
    go_roundw
    case rel =>
     refine⟨i+1,f i,by omega,by go_num,by simp[go_sem,y0,y1],by simp[go_sem,y0,y1],by intro o;simp[go_sem,y2],?_,?_,?_⟩
     ·rw[zA HZ];exact ((hint.bw (Below.refl _ _).drew).bw b9).put2 y0 y1 _ _
     ·simpa [World.setCell] using C9
     ·exact ((A7.trans ((zB (Below.refl _ _).drew b9).mono (by omega))).setCell (p:=⟨w.heap.size+1,0,none⟩) (Zb _) _).setCell (p:=⟨w.heap.size+1,1,none⟩) (Zb _) _
    case measure=>simp[intOf];omega
   ·have nD:¬ 0<zN (z i) (jZ z (i-1)):=zG7 hc
    have HZ:=zC (zO9 hc);go_wp2
    go_region_held3 (λ w'=>w'.cell? ⟨b,i*2,none⟩=some (.bool (f i).neg)/\w'.cell? ⟨b,i*2+1,none⟩=some (.slice (f i).a (f i).n (f i).cap)/\nK0 w' (w.heap.size+1) x) ((dsimp only[cK,cK0,nK,nK0,rK,rK0];go_keep))
     (first
      | (go_at_call 17;refine (jY _ _ _ _ _ _ _ _ k k (z i) (jZ z (i-1)) _ (hint.bw (Below.refl _ _).drew) (hx.bw (Below.refl _ _).drew)).mono ?_;rintro r w1 ⟨rfl,b9⟩;obtain⟨C9,B9,D6⟩:=zZ (w.heap.size+1+1) (by exact L5) b9))
    have y0:w1.cell? ⟨w.heap.size+1,0,none⟩=some (.bool x.neg):=(B9 _ _ (Zb _)).trans x0;have y1:w1.cell? ⟨w.heap.size+1,1,none⟩=some (.slice x.a x.n x.cap):=(B9 _ _ (Zb _)).trans x1;have y2:∀ o,w1.frozen? ⟨w.heap.size+1,o,none⟩=false:=λ o=>(D6 _ _ (Zb _)).trans (x2 o)
    go_wp2
    go_roundw
    case rel =>
     exact⟨i+1,x,by omega,by go_num,y0,y1,y2,by rw[zA HZ];exact (hx.bw (Below.refl _ _).drew).bw b9,C9,A7.trans ((zB (Below.refl _ _).drew b9).mono (by omega))⟩
    case measure=>simp[intOf];omega
  ·have hiE:i=n+1:=by omega
   subst hiE;have q3:wr.cell? ⟨w.heap.size,0,none⟩=some (.bool false):=(A7.cell (p:=⟨w.heap.size,0,none⟩) (Nat.lt_succ_self _)).trans (by simp[go_sem])
   have q4:wr.cell? ⟨w.heap.size,1,none⟩=some (.slice none 0 0):=(A7.cell (p:=⟨w.heap.size,1,none⟩) (Nat.lt_succ_self _)).trans (by simp[go_sem])
   have q5:∀ o,wr.frozen? ⟨w.heap.size,o,none⟩=false:=λ o=>(A7.frozen (p:=⟨w.heap.size,o,none⟩) (Nat.lt_succ_self _)).trans (by simp[go_sem])
   clear h Ie Ig;go_wp2;refine bodyPost_ret (v:=.agg x.q) (by simp[results,Tryz.results86,go_sem,q3,q4]) rfl ⟨x.neg,x.a,x.n,x.cap,rfl,hx.put2 q3 q4 _ _,?_⟩
   exact (hB.setCell (p:=⟨w.heap.size,0,none⟩) (Zb _) _).setCell (p:=⟨w.heap.size,1,none⟩) (Zb _) _
def zK7 (t:Int) (z:Nat->Int):Nat->Int
 | 0=>z 0
 | n+1=>if zN (z (n+1)) (zK7 t z n)=t then z (n+1) else zK7 t z n
theorem zRH (z:Nat->Int) (n:Nat):zK7 1 z n=jZ z n:=by
 induction n with
 | zero=>rfl
 | succ n ih =>
  simp only[zK7,jZ,ih]
  by_cases h:jZ z n<z (n+1)
  ·have:zN (z (n+1)) (jZ z n)=1:=by unfold zN;rw[if_neg (by omega),if_pos h]
   simp[this,h]
  ·have:zN (z (n+1)) (jZ z n)≠1:=by have:=zG7 h;omega
   simp[this,h]
theorem zOY (z:Nat->Int) (n:Nat):zK7 (-1) z n=kM z n:=by
 induction n with
 | zero=>rfl
 | succ n ih =>
  simp only[zK7,kM,ih]
  by_cases h:z (n+1)<kM z n
  ·have:zN (z (n+1)) (kM z n) = -1:=by unfold zN;rw[if_pos h]
   simp[this,h]
  ·have:zN (z (n+1)) (kM z n) ≠ -1:=by have:=zG6 h;omega
   simp[this,h]
theorem zLU (w:World) (o:Obj) (p:Addr) (h:p.block<w.heap.size):(w.alloc o).frozen? p=w.frozen? p:=World.frozen?_of_block (Below.heap_alloc w o p.block h)
theorem zE8 (t:Int) (b n cap k:Nat) (f:Nat->Nm) (z:Nat->Int) (w:World) (h:Nums w b (n+1) k f z) (hk:k<=1000000000) (hn:n<=1000) :
  Calls Tryz.prog 174 #[.int .i64 t,.slice (some ⟨b,0,none⟩) (n+1) cap] w λ r w' =>
   ∃ j9 a' n' m7,r=.returned (.agg #[.bool j9,.slice a' n' m7])/\IntAt w' j9 a' n' m7 (k+1) (zK7 t z n)/\Below w.heap.size w w':=by
 have tV:=h.lt
 go_enter Tryz.func174,Tryz.ntmps174
 go_wp2
 go_loopw [10] (λ ii wr=>∃ (i:Nat) (x:Nm),i<=n+1/\ii=.int .i64 i/\wr.cell? ⟨w.heap.size+1,0,none⟩=some (.bool x.neg)/\wr.cell? ⟨w.heap.size+1,1,none⟩=some (.slice x.a x.n x.cap)/\(∀ o,wr.frozen? ⟨w.heap.size+1,o,none⟩=false)/\(0<i->IntAt wr x.neg x.a x.n x.cap k (zK7 t z (i-1)))/\w.heap.size+1+1<=wr.heap.size /\
   Below (w.heap.size+1) (w.alloc (.cells #[.bool false,.slice none 0 0] 29)) wr) (λ ii _=>n+1-(intOf ii).toNat)
 case atStart =>
  exact⟨0,⟨false,none,0,0⟩,by omega,rfl,by simp[go_sem],by simp[go_sem],by intro o;simp[go_sem],λ h=>by omega,by simp,(Below.refl _ _).alloc (by simp) _⟩
 case round =>
  obtain⟨i,x,hi,rfl,x0,x1,x2,hx,L5,A7⟩:=hrel;have hB:Below w.heap.size w wr:=(bl1 _ _).trans (A7.mono (by omega))
  by_cases I9:i<n+1
  ·have g0:=(h.bw hB).c0 i I9
   have g1:=(h.bw hB).c1 i I9;have hint:=(h.bw hB).int i I9;have Jh:(0:Int)<=(i:Int):=by omega
   have fq:(i:Int)<(n:Int)+1:=by omega
   have IY:b<=w.heap.size+1:=by omega
   have hne:w.heap.size+1≠b:=by omega
   have Cz:b≠w.heap.size+1:=by omega
   have iM:w.heap.size+1<wr.heap.size:=by omega
   have YD:w.heap.size+1≠wr.heap.size:=by omega
   have YE:wr.heap.size≠w.heap.size+1:=by omega
   have HH:=zC h;clear h
   by_cases hz:i=0
   ·subst hz
    go_wp2
    go_roundw
    case rel =>
     refine⟨1,f 0,by omega,rfl,?_,?_,?_,λ _=>?_,?_,?_⟩
     ·simp[go_sem,iM,x0,x1]
     ·simp[go_sem,iM,x0,x1]
     ·intro o;rw[zLU _ _ _ (by simpa [World.setCell] using iM)];simp[go_sem,x2]
     ·exact ((hint.put2 x0 x1 _ _).bw (bl1 _ _))
     ·simp[World.setCell];omega
     ·exact ((A7.setCell (p:=⟨w.heap.size+1,0,none⟩) (Zb _) _).setCell (p:=⟨w.heap.size+1,1,none⟩) (Zb _) _).alloc (by simp[World.setCell];omega) _
    case measure=>simp[intOf]
   ·have HX:=zC (hx (by omega))
    have QI:((i:Int) == 0)=false:=by simp;omega
    obtain⟨j,hj⟩:∃ j,i=j+1:=⟨i-1,by omega⟩
    have bI:zK7 t z (i+1-1)=if zN (z i) (zK7 t z (i-1))=t then z i else zK7 t z (i-1):=by subst hj;rfl
    clear hj hx
    by_cases hc:zN (z i) (zK7 t z (i-1))=t
    ·have nD:(zN (z i) (zK7 t z (i-1)) == t)=true:=by simp[hc]
     rw[if_pos hc] at bI;have HF:=zC bI;clear bI hc;go_wp2_with (go_at_call 17;refine (jY _ _ _ _ _ _ _ _ k k (z i) (zK7 t z (i-1)) _ (hint.bw (bl1 _ _)) ((zA HX).bw (bl1 _ _))).mono ?_;rintro r w1 ⟨rfl,b9⟩;obtain⟨C9,B9,D6⟩:=zZ (wr.heap.size+1) (by simp) b9;have y3:w.heap.size+1+1<=wr.heap.size+1:=Nat.le_succ_of_le L5;have y0:w1.cell? ⟨w.heap.size+1,0,none⟩=some (.bool x.neg):=((B9 _ _ y3).trans (World.cell?_alloc_past _ _ _ iM)).trans x0;have y1:w1.cell? ⟨w.heap.size+1,1,none⟩=some (.slice x.a x.n x.cap):=((B9 _ _ y3).trans (World.cell?_alloc_past _ _ _ iM)).trans x1;have y2:∀ o,w1.frozen? ⟨w.heap.size+1,o,none⟩=false:=λ o=>((D6 _ _ y3).trans (zLU _ _ _ iM)).trans (x2 o))
     go_roundw
     case rel =>
      refine⟨i+1,f i,by omega,by go_num,by simp[go_sem,y0,y1],by simp[go_sem,y0,y1],by intro o;simp[go_sem,y2],λ _=>?_,?_,?_⟩
      ·rw[zA HF];exact ((hint.bw (bl1 _ _)).bw b9).put2 y0 y1 _ _
      ·have:=Nat.le_trans y3 C9;simpa [World.setCell] using this
      ·exact ((A7.trans ((zB (bl1 _ _) b9).mono (by omega))).setCell (p:=⟨w.heap.size+1,0,none⟩) (Zb _) _).setCell (p:=⟨w.heap.size+1,1,none⟩) (Zb _) _
     case measure=>simp[intOf];omega
    ·have nD:(zN (z i) (zK7 t z (i-1)) == t)=false:=by simp[hc]
     rw[if_neg hc] at bI;have HF:=zC bI;clear bI hc;go_wp2_with (go_at_call 17;refine (jY _ _ _ _ _ _ _ _ k k (z i) (zK7 t z (i-1)) _ (hint.bw (bl1 _ _)) ((zA HX).bw (bl1 _ _))).mono ?_;rintro r w1 ⟨rfl,b9⟩;obtain⟨C9,B9,D6⟩:=zZ (wr.heap.size+1) (by simp) b9;have y3:w.heap.size+1+1<=wr.heap.size+1:=Nat.le_succ_of_le L5;have y0:w1.cell? ⟨w.heap.size+1,0,none⟩=some (.bool x.neg):=((B9 _ _ y3).trans (World.cell?_alloc_past _ _ _ iM)).trans x0;have y1:w1.cell? ⟨w.heap.size+1,1,none⟩=some (.slice x.a x.n x.cap):=((B9 _ _ y3).trans (World.cell?_alloc_past _ _ _ iM)).trans x1;have y2:∀ o,w1.frozen? ⟨w.heap.size+1,o,none⟩=false:=λ o=>((D6 _ _ y3).trans (zLU _ _ _ iM)).trans (x2 o))
     go_roundw
     case rel =>
      exact⟨i+1,x,by omega,by go_num,y0,y1,y2,λ _=>by rw[zA HF];exact ((zA HX).bw (bl1 _ _)).bw b9,Nat.le_trans y3 C9,A7.trans ((zB (bl1 _ _) b9).mono (by omega))⟩
     case measure=>simp[intOf];omega
  ·have hiE:i=n+1:=by omega
   subst hiE;have q3:wr.cell? ⟨w.heap.size,0,none⟩=some (.bool false):=(A7.cell (p:=⟨w.heap.size,0,none⟩) (Nat.lt_succ_self _)).trans (by simp[go_sem])
   have q4:wr.cell? ⟨w.heap.size,1,none⟩=some (.slice none 0 0):=(A7.cell (p:=⟨w.heap.size,1,none⟩) (Nat.lt_succ_self _)).trans (by simp[go_sem])
   have q5:∀ o,wr.frozen? ⟨w.heap.size,o,none⟩=false:=λ o=>(A7.frozen (p:=⟨w.heap.size,o,none⟩) (Nat.lt_succ_self _)).trans (by simp[go_sem])
   have HX:=zC (hx (by omega))
   clear h hx;go_wp2_with (go_at_call 196;refine (zOO _ _ _ _ k _ _ (zA HX) hk).mono ?_;rintro r w1 ⟨m9,a1,n1,c1,rfl,o8,b9⟩;obtain⟨C9,B9,D6⟩:=zZ (w.heap.size+1+1) L5 b9);have y0:w1.cell? ⟨w.heap.size,0,none⟩=some (.bool false):=(B9 _ _ (by omega)).trans q3
   have y1:w1.cell? ⟨w.heap.size,1,none⟩=some (.slice none 0 0):=(B9 _ _ (by omega)).trans q4
   refine bodyPost_ret (v:=.agg #[.bool m9,.slice a1 n1 c1]) (by simp[results,Tryz.results174,go_sem,y0,y1]) rfl ⟨m9,a1,n1,c1,rfl,?_,?_⟩
   ·simp only[Nat.add_sub_cancel] at o8;exact o8.put2 y0 y1 _ _
   ·exact ((zB hB b9).setCell (p:=⟨w.heap.size,0,none⟩) (Zb _) _).setCell (p:=⟨w.heap.size,1,none⟩) (Zb _) _
theorem zIV (b n cap k:Nat) (f:Nat->Nm) (z:Nat->Int) (w:World) (h:Nums w b (n+1) k f z) (hk:k<=1000000000) (hn:n<=1000) :
  Calls Tryz.prog 150 #[.slice (some ⟨b,0,none⟩) (n+1) cap] w λ r w' =>
   ∃ j9 a' n' m7,r=.returned (.agg #[.bool j9,.slice a' n' m7])/\IntAt w' j9 a' n' m7 (k+1) (jZ z n)/\Below w.heap.size w w':=by
 rw[<- zRH]
 go_enter Tryz.func150,Tryz.ntmps150
 go_wp2_with (go_at_call 174;refine (zE8 (1) _ _ _ k f z _ (h.bw (bl1 _ _)) hk hn).mono ?_;rintro r w1 ⟨m9,a1,n1,c1,rfl,o8,b9⟩;obtain⟨C9,B9,D6⟩:=zZ (w.heap.size+1) (by simp) b9)
 have y0:w1.cell? ⟨w.heap.size,0,none⟩=some (.bool false):=by simp[B9,go_sem]
 have y1:w1.cell? ⟨w.heap.size,1,none⟩=some (.slice none 0 0):=by simp[B9,go_sem]
 refine bodyPost_ret (v:=.agg #[.bool m9,.slice a1 n1 c1]) (by simp[results,Tryz.results150,go_sem,y0,y1]) rfl ⟨m9,a1,n1,c1,rfl,o8.put2 y0 y1 _ _,?_⟩
 exact ((zB (bl1 _ _) b9).setCell (p:=⟨w.heap.size,0,none⟩) (Zb _) _).setCell (p:=⟨w.heap.size,1,none⟩) (Zb _) _
theorem zEZ (b n cap k:Nat) (f:Nat->Nm) (z:Nat->Int) (w:World) (h:Nums w b (n+1) k f z) (hk:k<=1000000000) (hn:n<=1000) :
  Calls Tryz.prog 153 #[.slice (some ⟨b,0,none⟩) (n+1) cap] w λ r w' =>
   ∃ j9 a' n' m7,r=.returned (.agg #[.bool j9,.slice a' n' m7])/\IntAt w' j9 a' n' m7 (k+1) (kM z n)/\Below w.heap.size w w':=by
 rw[<- zOY]
 go_enter Tryz.func153,Tryz.ntmps153
 go_wp2_with (go_at_call 174;refine (zE8 (-1) _ _ _ k f z _ (h.bw (bl1 _ _)) hk hn).mono ?_;rintro r w1 ⟨m9,a1,n1,c1,rfl,o8,b9⟩;obtain⟨C9,B9,D6⟩:=zZ (w.heap.size+1) (by simp) b9)
 have y0:w1.cell? ⟨w.heap.size,0,none⟩=some (.bool false):=by simp[B9,go_sem]
 have y1:w1.cell? ⟨w.heap.size,1,none⟩=some (.slice none 0 0):=by simp[B9,go_sem]
 refine bodyPost_ret (v:=.agg #[.bool m9,.slice a1 n1 c1]) (by simp[results,Tryz.results153,go_sem,y0,y1]) rfl ⟨m9,a1,n1,c1,rfl,o8.put2 y0 y1 _ _,?_⟩
 exact ((zB (bl1 _ _) b9).setCell (p:=⟨w.heap.size,0,none⟩) (Zb _) _).setCell (p:=⟨w.heap.size,1,none⟩) (Zb _) _
def pr {α:Type} (x y:α) (j:Nat):α:=if j=0 then x else y
structure SpAt (w:World) (s:Sp) (k:Nat) (lo hi:Int):Prop where
 lo:IntAt w s.ln s.la s.lN s.lc k lo
 hi:IntAt w s.hn s.ha s.hN s.hc k hi
theorem SpAt.bw {w w':World} {s:Sp} {k:Nat} {lo hi:Int} (h:SpAt w s k lo hi) (hb:Below w.heap.size w w'):SpAt w' s k lo hi:=⟨h.lo.bw hb,h.hi.bw hb⟩
def zGA (x y:Int):Int:=if x<y then y else x
def zPT (x y:Int):Int:=if y<x then y else x
theorem nums2 (w:World) (x y:Nm) (k:Nat) (zx zy:Int) (T:TypeId) (hx:IntAt w x.neg x.a x.n x.cap k zx) (hy:IntAt w y.neg y.a y.n y.cap k zy) :
  Nums (w.alloc (.cells #[.bool x.neg,.slice x.a x.n x.cap,.bool y.neg,.slice y.a y.n y.cap] T)) w.heap.size 2 k (pr x y) (pr zx zy):=by
 refine⟨by simp,?_,?_,?_⟩
 all_goals
  intro j hj
  match j,hj with
  | 0,_=>first|(simp[pr];done)|exact hx.bw (bl1 _ _)
  | 1,_=>first|(simp[pr];done)|exact hy.bw (bl1 _ _)
theorem most2 (w:World) (B:Nat) (hB:w.heap.size=B) (x y:Nm) (k:Nat) (zx zy:Int) (T:TypeId) (cap:Nat) (hx:IntAt w x.neg x.a x.n x.cap k zx) (hy:IntAt w y.neg y.a y.n y.cap k zy) (hk:k<=1000000000) :
  Calls Tryz.prog 150 #[.slice (some ⟨B,0,none⟩) 2 cap] (w.alloc (.cells #[.bool x.neg,.slice x.a x.n x.cap,.bool y.neg,.slice y.a y.n y.cap] T)) λ r w' =>
   ∃ j9 a' n' m7,r=.returned (.agg #[.bool j9,.slice a' n' m7])/\IntAt w' j9 a' n' m7 (k+1) (zGA zx zy)/\Below w.heap.size w w':=by
 subst hB;exact (zIV w.heap.size 1 cap k (pr x y) (pr zx zy) _ (nums2 w x y k zx zy T hx hy) hk (by omega)).mono λ _ _ ⟨n1,n2,n3,n4,q1,q2,q3⟩=>⟨n1,n2,n3,n4,q1,q2,(bl1 _ _).trans (q3.mono (by simp))⟩
theorem least2 (w:World) (B:Nat) (hB:w.heap.size=B) (x y:Nm) (k:Nat) (zx zy:Int) (T:TypeId) (cap:Nat) (hx:IntAt w x.neg x.a x.n x.cap k zx) (hy:IntAt w y.neg y.a y.n y.cap k zy) (hk:k<=1000000000) :
  Calls Tryz.prog 153 #[.slice (some ⟨B,0,none⟩) 2 cap] (w.alloc (.cells #[.bool x.neg,.slice x.a x.n x.cap,.bool y.neg,.slice y.a y.n y.cap] T)) λ r w' =>
   ∃ j9 a' n' m7,r=.returned (.agg #[.bool j9,.slice a' n' m7])/\IntAt w' j9 a' n' m7 (k+1) (zPT zx zy)/\Below w.heap.size w w':=by
 subst hB;exact (zEZ w.heap.size 1 cap k (pr x y) (pr zx zy) _ (nums2 w x y k zx zy T hx hy) hk (by omega)).mono λ _ _ ⟨n1,n2,n3,n4,q1,q2,q3⟩=>⟨n1,n2,n3,n4,q1,q2,(bl1 _ _).trans (q3.mono (by simp))⟩
theorem zEK (w:World) (s:Sp) (k:Nat) (lo hi:Int) (h:SpAt w s k lo hi) (hk:k<=900000000) :
  Calls Tryz.prog 119 #[.agg s.q] w λ r w' =>
   ∃ j9 a' n' m7,r=.returned (.agg #[.bool j9,.slice a' n' m7])/\IntAt w' j9 a' n' m7 (k+1) (zGA hi (-lo))/\Below w.heap.size w w':=by
 go_enter Tryz.func119,Tryz.ntmps119
 go_wp2
 go_region_held3 (λ w'=>w'.cell? ⟨w.heap.size,0,none⟩=some (.bool s.ln)/\w'.cell? ⟨w.heap.size,1,none⟩=some (.slice s.la s.lN s.lc)/\w'.cell? ⟨w.heap.size,2,none⟩=some (.bool s.hn)/\w'.cell? ⟨w.heap.size,3,none⟩=some (.slice s.ha s.hN s.hc)) (go_keep)
  (first
   | (go_at_call 87;refine (zAQ _ _ _ _ k lo _ (h.lo.bw (bl2 _ _ _).drew) (by omega)).mono ?_;rintro r w1 ⟨m9,a1,n1,c1,rfl,o8,b9⟩;obtain⟨C9,B9,D6⟩:=zZ (w.heap.size+1+1) (by simp) b9;have M5:=Zd (Nat.lt_succ_of_lt (Nat.lt_succ_self w.heap.size)) C9;have H6:=Zd (Nat.lt_succ_self (w.heap.size+1)) C9)
   | (go_at_call 150;refine (most2 w1 _ rfl ⟨s.hn,s.ha,s.hN,s.hc⟩ ⟨m9,a1,n1,c1⟩ k hi (-lo) _ _ (h.hi.bw (zB (bl2 _ _ _).drew b9)) o8 (by omega)).mono ?_;rintro r w2 ⟨j6,a2,n2,c2,rfl,A5,j7⟩;obtain⟨A9,B7,E7⟩:=zZ (w.heap.size+1+1) C9 j7))
 go_wp2;have y0:w2.cell? ⟨w.heap.size+1,0,none⟩=some (.bool false):=by simp[B7,B9,go_sem]
 have y1:w2.cell? ⟨w.heap.size+1,1,none⟩=some (.slice none 0 0):=by simp[B7,B9,go_sem]
 refine bodyPost_ret (v:=.agg #[.bool j6,.slice a2 n2 c2]) (by simp[results,Tryz.results119,go_sem,y0,y1]) rfl ⟨j6,a2,n2,c2,rfl,A5.put2 y0 y1 _ _,?_⟩
 exact ((zB (zB (bl2 _ _ _).drew b9) j7).setCell (p:=⟨w.heap.size+1,0,none⟩) (Nat.le_succ _) _).setCell (p:=⟨w.heap.size+1,1,none⟩) (Nat.le_succ _) _
def zIW (lo hi K n:Int):Bool:=decide ((hi-lo)*K<=n*(K+zGA hi (-lo)))
theorem zLN (x y:Int):decide (zN x y<=0)=decide (x<=y):=by
 rw[decide_eq_decide];unfold zN
 by_cases h:x<y
 ·rw[if_pos h];omega
 ·rw[if_neg h]
  by_cases h2:y<x
  ·rw[if_pos h2];omega
  ·rw[if_neg h2];omega
def VarAt (w:World) (p:Value) (H k:Nat) (z:Int):Prop :=
 ∃ (B:Nat) (x:Nm),p=.pointer (some ⟨B,0,none⟩)/\w.cell? ⟨B,0,none⟩=some (.bool x.neg)/\w.cell? ⟨B,1,none⟩=some (.slice x.a x.n x.cap)/\IntAt w x.neg x.a x.n x.cap k z/\H<=B/\B<w.heap.size
theorem varA {w:World} {neg:Bool} {a:Option Addr} {n cap k:Nat} {z:Int} (h:IntAt w neg a n cap k z) (T:TypeId) (H:Nat) (hH:H<=w.heap.size):VarAt (w.alloc (.cells #[.bool neg,.slice a n cap] T)) (.pointer (some ⟨w.heap.size,0,none⟩)) H k z :=
 ⟨w.heap.size,⟨neg,a,n,cap⟩,rfl,by simp,by simp,h.bw (bl1 _ _),hH,by simp⟩
theorem varB {w:World} {neg:Bool} {a:Option Addr} {n cap k:Nat} {z:Int} (h:IntAt w neg a n cap k z) (H B:Nat) (h0:w.cell? ⟨B,0,none⟩=some (.bool false)) (h1:w.cell? ⟨B,1,none⟩=some (.slice none 0 0)) (hH:H<=B) :
  VarAt ((w.setCell ⟨B,0,none⟩ (.bool neg)).setCell ⟨B,1,none⟩ (.slice a n cap)) (.pointer (some ⟨B,0,none⟩)) H k z :=
 ⟨B,⟨neg,a,n,cap⟩,rfl,by simp[go_sem,h0,h1],by simp[go_sem,h0,h1],h.put2 h0 h1 _ _,hH,by
  have:=World.block_lt_of_cell? w ⟨B,0,none⟩ h0
  simpa [World.setCell] using this⟩
theorem VarAt.mono {w:World} {p:Value} {H k k':Nat} {z:Int} (h:VarAt w p H k z) (hk:k<=k'):VarAt w p H k' z:=by
 obtain⟨B,x,h1,h2,h3,h4,h5,h6⟩:=h;exact⟨B,x,h1,h2,h3,h4.mono hk,h5,h6⟩
theorem zHF (w:World) (s:Sp) (b n:Nat) (lo hi:Int) (h:SpAt w s 250 lo hi) (hb:s.bits=b) (b9:b<=120) (hn:n<=1000000) :
  Calls Tryz.prog 99 #[.agg #[.bool s.ln,.slice s.la s.lN s.lc,.bool s.hn,.slice s.ha s.hN s.hc,.int .i64 s.bits],.int .i64 n] w λ r w' =>
   r=.returned (.bool (zIW lo hi (Q b) n))/\Below w.heap.size w w':=by
 rw[hb]
 go_enter Tryz.func99,Tryz.ntmps99
 go_wp2
 go_cut [5] (λ p wx=>VarAt wx p (w.heap.size+1) 400 ((hi-lo)*Q b)/\Below (w.heap.size+1) (w.alloc (.cells #[.bool s.ln,.slice s.la s.lN s.lc,.bool s.hn,.slice s.ha s.hN s.hc,.int .i64 b] 31)) wx)
 case first =>
  go_region_held3 (λ w'=>w'.cell? ⟨w.heap.size,0,none⟩=some (.bool s.ln)/\w'.cell? ⟨w.heap.size,1,none⟩=some (.slice s.la s.lN s.lc)/\w'.cell? ⟨w.heap.size,2,none⟩=some (.bool s.hn)/\w'.cell? ⟨w.heap.size,3,none⟩=some (.slice s.ha s.hN s.hc)/\w'.cell? ⟨w.heap.size,4,none⟩=some (.int .i64 b)) (go_keep)
   (first
    | (go_at_call 35;refine (zCR _ _ _ _ _ _ _ _ 250 250 hi lo _ (h.hi.bw (by first|exact (bl1 _ _).drew|exact (bl2 _ _ _).drew)) (h.lo.bw (by first|exact (bl1 _ _).drew|exact (bl2 _ _ _).drew)) (by omega) (by omega)).mono ?_;rintro r w1 ⟨m9,a1,n1,c1,rfl,o8,b9⟩;obtain⟨hs1,B9,D6⟩:=zZ _ (Zb _) b9;(try simp at hs1);have W9:w.heap.size<w1.heap.size:=Zd (by first|exact Nat.lt_succ_self _|exact Nat.lt_succ_of_lt (Nat.lt_succ_self _)) hs1;have Jq:=Nat.le_of_lt W9;have cY:w.heap.size+1<=w1.heap.size:=W9;have ij:=Zf W9;have Cx:=Zg W9)
    | (go_at_call 116;refine (zCG _ _ _ _ b 251 (hi-lo) _ (o8.bw (by first|exact Below.refl _ _|exact bl1 _ _)) (by omega) (by omega)).mono ?_;rintro r w2 ⟨j6,a2,n2,c2,rfl,A5,j7⟩;obtain⟨ak,B7,E7⟩:=zZ _ (Zb _) j7;have W7:w1.heap.size<=w2.heap.size:=Nat.le_trans (by simp) ak;have fw:=Zd W9 W7;have bC:=Zf fw;have oF:w.heap.size+1<=w2.heap.size:=fw;have Cy:=Zg fw;(try simp at ak)))
  ·go_wp2_with fail
   go_meet;refine⟨(varA A5 _ _ oF).mono (by omega),?_⟩
   exact (((zB (Below.refl _ _).drew b9).mono (by simp)).trans (j7.mono cY)).alloc oF _
  ·go_wp2_with fail
   go_meet;have h0:w2.cell? ⟨w1.heap.size,0,none⟩=some (.bool false):=by simp[B7]
   have h1:w2.cell? ⟨w1.heap.size,1,none⟩=some (.slice none 0 0):=by simp[B7]
   refine⟨(varB A5 _ _ h0 h1 cY).mono (by omega),?_⟩
   exact (((((zB (Below.refl _ _).drew b9).mono (by simp)).alloc cY _).trans (j7.mono (by simp;omega))).setCell cY _).setCell cY _
  ·go_wp2_with fail
   go_meet;have h0:w2.cell? ⟨w.heap.size+1,0,none⟩=some (.bool false):=by simp[B7,B9,hs1,go_sem]
   have h1:w2.cell? ⟨w.heap.size+1,1,none⟩=some (.slice none 0 0):=by simp[B7,B9,hs1,go_sem]
   refine⟨(varB A5 _ _ h0 h1 (Zb _)).mono (by omega),?_⟩
   exact ((((((Below.refl _ _).alloc (by simp) _).drew.trans (b9.mono (by simp))).trans (j7.mono cY)).setCell (p:=⟨w.heap.size+1,0,none⟩) (Zb _) _).setCell (p:=⟨w.heap.size+1,1,none⟩) (Zb _) _)
 case rest =>
 obtain⟨⟨B5,x5,rfl,EE,EF,P9,O7,ib⟩,S8⟩:=hcut
 rename World=>wA
 have Fl:=S8.size;simp at Fl;have OI:wA.cell? ⟨w.heap.size,0,none⟩=some (.bool s.ln):=(S8.cell (p:=⟨w.heap.size,0,none⟩) (Nat.lt_succ_self _)).trans (by simp)
 have OJ:wA.cell? ⟨w.heap.size,1,none⟩=some (.slice s.la s.lN s.lc):=(S8.cell (p:=⟨w.heap.size,1,none⟩) (Nat.lt_succ_self _)).trans (by simp)
 have OK:wA.cell? ⟨w.heap.size,2,none⟩=some (.bool s.hn):=(S8.cell (p:=⟨w.heap.size,2,none⟩) (Nat.lt_succ_self _)).trans (by simp)
 have OL:wA.cell? ⟨w.heap.size,3,none⟩=some (.slice s.ha s.hN s.hc):=(S8.cell (p:=⟨w.heap.size,3,none⟩) (Nat.lt_succ_self _)).trans (by simp)
 have OM:wA.cell? ⟨w.heap.size,4,none⟩=some (.int .i64 b):=(S8.cell (p:=⟨w.heap.size,4,none⟩) (Nat.lt_succ_self _)).trans (by simp)
 have zm:w.heap.size<wA.heap.size:=Fl;have CS:w.heap.size+1<=wA.heap.size:=Fl;have JT:w.heap.size<=wA.heap.size:=Nat.le_of_lt Fl;have hdr:wA.drew.heap.size=wA.heap.size:=rfl;have hwn:wA.heap.size≠w.heap.size:=by omega
 have hwn':w.heap.size≠wA.heap.size:=by omega
 go_wp2
 go_cut [6] (λ p wx=>VarAt wx p (w.heap.size+1) 20 (Q b)/\Below wA.heap.size wA wx)
 case first =>
  go_region_held3 (λ w'=>w'.cell? ⟨w.heap.size,4,none⟩=some (.int .i64 b)) (go_keep)
   (first
    | (go_at_call 33;refine (zD 1 _ (by decide) (by decide)).mono ?_;rintro r w1 ⟨m9,a1,n1,c1,rfl,o8,b9⟩;obtain⟨hs1,B9,D6⟩:=zZ _ (Zb _) b9;(try simp at hs1);have ze:wA.heap.size<=w1.heap.size:=Nat.le_trans (by simp) hs1;have W9:w.heap.size<w1.heap.size:=Zd zm ze;have Jq:=Nat.le_of_lt W9;have cY:w.heap.size+1<=w1.heap.size:=W9;have ij:=Zf W9;have Cx:=Zg W9)
    | (go_at_call 116;refine (zCG _ _ _ _ b 4 1 _ (o8.bw (by first|exact Below.refl _ _|exact bl1 _ _)) (by omega) (by omega)).mono ?_;rintro r w2 ⟨j6,a2,n2,c2,rfl,A5,j7⟩;obtain⟨ak,B7,E7⟩:=zZ _ (Zb _) j7;have W7:w1.heap.size<=w2.heap.size:=Nat.le_trans (by simp) ak;have fw:=Zd W9 W7;have bC:=Zf fw;have oF:w.heap.size+1<=w2.heap.size:=fw;have Cy:=Zg fw;(try simp at ak)))
  all_goals rw[Int.one_mul] at A5
  ·go_wp2_with fail
   go_meet;refine⟨(varA A5 _ _ oF).mono (by omega),?_⟩
   exact zL (zB (zB (Below.refl _ _).drew b9) j7) _
  ·go_wp2_with fail
   go_meet;have h0:w2.cell? ⟨w1.heap.size,0,none⟩=some (.bool false):=by simp[B7]
   have h1:w2.cell? ⟨w1.heap.size,1,none⟩=some (.slice none 0 0):=by simp[B7]
   refine⟨(varB A5 _ _ h0 h1 cY).mono (by omega),?_⟩
   exact ((zB (zL (zB (Below.refl _ _).drew b9) _) j7).setCell (p:=⟨w1.heap.size,0,none⟩) ze _).setCell (p:=⟨w1.heap.size,1,none⟩) ze _
  ·go_wp2_with fail
   go_meet;have h0:w2.cell? ⟨wA.heap.size,0,none⟩=some (.bool false):=by simp[B7,B9,hs1,go_sem]
   have h1:w2.cell? ⟨wA.heap.size,1,none⟩=some (.slice none 0 0):=by simp[B7,B9,hs1,go_sem]
   refine⟨(varB A5 _ _ h0 h1 CS).mono (by omega),?_⟩
   exact ((zB (zB (bl1 _ _).drew b9) j7).setCell (p:=⟨wA.heap.size,0,none⟩) (Zb _) _).setCell (p:=⟨wA.heap.size,1,none⟩) (Zb _) _
 case rest =>
 obtain⟨⟨B6,x6,rfl,c60,c61,cT,gQ,Jv⟩,bz⟩:=hcut;have Qs:=bz.size;have d50:wc.cell? ⟨B5,0,none⟩=some (.bool x5.neg):=(bz.cell (p:=⟨B5,0,none⟩) ib).trans EE;have d51:wc.cell? ⟨B5,1,none⟩=some (.slice x5.a x5.n x5.cap):=(bz.cell (p:=⟨B5,1,none⟩) ib).trans EF;have JS:w.heap.size+1<=wc.heap.size:=Nat.le_trans CS Qs;have e50:wc.cell? ⟨w.heap.size,0,none⟩=some (.bool s.ln):=(bz.cell (p:=⟨w.heap.size,0,none⟩) zm).trans OI;have e51:wc.cell? ⟨w.heap.size,1,none⟩=some (.slice s.la s.lN s.lc):=(bz.cell (p:=⟨w.heap.size,1,none⟩) zm).trans OJ;have e52:wc.cell? ⟨w.heap.size,2,none⟩=some (.bool s.hn):=(bz.cell (p:=⟨w.heap.size,2,none⟩) zm).trans OK;have e53:wc.cell? ⟨w.heap.size,3,none⟩=some (.slice s.ha s.hN s.hc):=(bz.cell (p:=⟨w.heap.size,3,none⟩) zm).trans OL;have e54:wc.cell? ⟨w.heap.size,4,none⟩=some (.int .i64 b):=(bz.cell (p:=⟨w.heap.size,4,none⟩) zm).trans OM
 have hB:Below w.heap.size w wc:=((bl1 _ _).trans (S8.mono (by omega))).trans (bz.mono JT)
 have Gq:=zC (P9.bw bz);have Ta:=zC cT;have HS:=zC (h.bw hB);have hl5:B5+1<=wc.heap.size:=Zd ib Qs;have hl6:B6+1<=wc.heap.size:=Jv;have HE:=zC (show (decide (zN ((hi-lo)*Q b) (n*(Q b+zGA hi (-lo)))<=0))=zIW lo hi (Q b) n from zLN _ _)
 clear P9 cT EE EF OI OJ OK OL OM h S8;go_wp2
 go_region_held3 (λ w'=>nK w' B5 x5 (nK w' B6 x6 (w'.cell? ⟨w.heap.size,0,none⟩=some (.bool s.ln)/\w'.cell? ⟨w.heap.size,1,none⟩=some (.slice s.la s.lN s.lc)/\w'.cell? ⟨w.heap.size,2,none⟩=some (.bool s.hn)/\w'.cell? ⟨w.heap.size,3,none⟩=some (.slice s.ha s.hN s.hc)/\w'.cell? ⟨w.heap.size,4,none⟩=some (.int .i64 b)))) ((dsimp only[cK,cK0,nK,nK0,rK,rK0];go_keep))
  (first
   | (go_at_call 33;refine (zD (n:Int) _ (by omega) (by omega)).mono ?_;rintro r w1 ⟨m9,a1,n1,c1,rfl,o8,b9⟩;obtain⟨hs1,B9,D6⟩:=zZ wc.heap.size (by exact Zb _) b9)
   | (go_at_call 119;refine (zEK _ ⟨s.ln,s.la,s.lN,s.lc,s.hn,s.ha,s.hN,s.hc,b⟩ 250 lo hi ⟨((zA HS).bw (zB (Below.refl _ _).drew b9)).lo,((zA HS).bw (zB (Below.refl _ _).drew b9)).hi⟩ (by omega)).mono ?_;rintro r w2 ⟨j6,a2,n2,c2,rfl,A5,j7⟩;obtain⟨ak,B7,E7⟩:=zZ wc.heap.size hs1 j7)
   | (go_at_call 32;refine (zA5 _ _ _ _ _ _ _ _ 20 251 _ _ _ ((zA Ta).bw (zB (zB (Below.refl _ _).drew b9) j7)) A5 (by omega) (by omega)).mono ?_;rintro r w3 ⟨B8,a3,n3,c3,rfl,G0,o7⟩;obtain⟨bD,L6,O0⟩:=zZ wc.heap.size ak o7)
   | (go_at_call 83;refine (zX _ _ _ _ _ _ _ _ 4 252 _ _ _ (o8.bw (zB j7 o7)) G0 (by omega) (by omega)).mono ?_;rintro r w4 ⟨E6,a4,n4,c4,rfl,I2,y9⟩;obtain⟨qh,fS,cA⟩:=zZ wc.heap.size bD y9)
   | (go_at_call 17;refine (jY _ _ _ _ _ _ _ _ 400 256 _ _ _ ((zA Gq).bw (zB (zB (zB (zB (Below.refl _ _).drew b9) j7) o7) y9)) I2).mono ?_;rintro r w5 ⟨rfl,D8⟩;obtain⟨Qr,kC5,Yd⟩:=zZ wc.heap.size qh D8))
 go_wp2
 go_ret
 exact⟨by rw[<- zA HE];rfl,zB (zB (zB (zB (zB hB.drew b9) j7) o7) y9) D8⟩
def pr4 {α:Type} (x y z t:α) (j:Nat):α:=if j=0 then x else if j=1 then y else if j=2 then z else t
theorem zPB (w:World) (B:Nat) (hB:w.heap.size=B) (x y z t:Nm) (k:Nat) (zx zy zz zt:Int) (T:TypeId) (hx:IntAt w x.neg x.a x.n x.cap k zx) (hy:IntAt w y.neg y.a y.n y.cap k zy) (hz:IntAt w z.neg z.a z.n z.cap k zz) (ht:IntAt w t.neg t.a t.n t.cap k zt) :
  Nums (w.alloc (.cells #[.bool x.neg,.slice x.a x.n x.cap,.bool y.neg,.slice y.a y.n y.cap,.bool z.neg,.slice z.a z.n z.cap,.bool t.neg,.slice t.a t.n t.cap] T)) B 4 k (pr4 x y z t) (pr4 zx zy zz zt):=by
 subst hB;refine⟨by simp,?_,?_,?_⟩
 all_goals
  intro j hj
  match j,hj with
  | 0,_=>first|(simp[pr4];done)|exact hx.bw (bl1 _ _)
  | 1,_=>first|(simp[pr4];done)|exact hy.bw (bl1 _ _)
  | 2,_=>first|(simp[pr4];done)|exact hz.bw (bl1 _ _)
  | 3,_=>first|(simp[pr4];done)|exact ht.bw (bl1 _ _)
theorem most4 (lo hi:Int) (h:lo<=hi):jZ (pr4 lo hi (-lo) (-hi)) 3=zGA hi (-lo):=by
 have e1:jZ (pr4 lo hi (-lo) (-hi)) 1=hi:=by
  show (if lo<hi then hi else lo)=hi
  split<;>omega
 have e2:jZ (pr4 lo hi (-lo) (-hi)) 2=zGA hi (-lo):=by
  show (if jZ (pr4 lo hi (-lo) (-hi)) 1 < -lo then -lo else jZ (pr4 lo hi (-lo) (-hi)) 1)=_
  rw[e1];rfl
 show (if jZ (pr4 lo hi (-lo) (-hi)) 2 < -hi then -hi else jZ (pr4 lo hi (-lo) (-hi)) 2)=_
 rw[e2,if_neg];unfold zGA;split<;>omega
theorem zKC (w:World) (s:Sp) (b n:Nat) (lo hi:Int) (h:SpAt w s 250 lo hi) (hb:s.bits=b) (b9:b<=120) (hn:n<=1000000) (hle:lo<=hi) :
  Calls Tryz.prog 44 #[.agg #[.bool s.ln,.slice s.la s.lN s.lc,.bool s.hn,.slice s.ha s.hN s.hc,.int .i64 s.bits],.int .i64 n] w λ r w' =>
   r=.returned (.bool (zIW lo hi (Q b) n))/\Below w.heap.size w w':=by
 rw[hb];have HM:=zC (most4 lo hi hle)
 go_enter Tryz.func44,Tryz.ntmps44
 go_wp2;obtain⟨W,hW⟩:∃ W,W=w.alloc (.cells #[.bool s.ln,.slice s.la s.lN s.lc,.bool s.hn,.slice s.ha s.hN s.hc,.int .i64 b] 31):=⟨_,rfl⟩;have k0:W.cell? ⟨w.heap.size,0,none⟩=some (.bool s.ln):=by rw[hW];simp
 have k1:W.cell? ⟨w.heap.size,1,none⟩=some (.slice s.la s.lN s.lc):=by rw[hW];simp
 have k2:W.cell? ⟨w.heap.size,2,none⟩=some (.bool s.hn):=by rw[hW];simp
 have k3:W.cell? ⟨w.heap.size,3,none⟩=some (.slice s.ha s.hN s.hc):=by rw[hW];simp
 have k4:W.cell? ⟨w.heap.size,4,none⟩=some (.int .i64 b):=by rw[hW];simp
 have E2:w.heap.size<W.heap.size:=by rw[hW];simp
 have Yl:w.heap.size+1<=W.heap.size:=E2;have j8:Below w.heap.size w W:=by rw[hW];exact bl1 _ _
 have hdr:W.drew.heap.size=W.heap.size:=rfl;have HS:=zC (h.bw j8);have hne:W.heap.size≠w.heap.size:=by omega
 have Cz:w.heap.size≠W.heap.size:=by omega
 rw[<- hW];clear hW h
 have keepS:∀ w',Below W.heap.size W w'->(w'.cell? ⟨w.heap.size,0,none⟩=some (.bool s.ln)/\w'.cell? ⟨w.heap.size,1,none⟩=some (.slice s.la s.lN s.lc)/\w'.cell? ⟨w.heap.size,2,none⟩=some (.bool s.hn)/\w'.cell? ⟨w.heap.size,3,none⟩=some (.slice s.ha s.hN s.hc)):=λ w' hB =>
  ⟨(hB.cell (p:=⟨w.heap.size,0,none⟩) E2).trans k0,(hB.cell (p:=⟨w.heap.size,1,none⟩) E2).trans k1,(hB.cell (p:=⟨w.heap.size,2,none⟩) E2).trans k2,(hB.cell (p:=⟨w.heap.size,3,none⟩) E2).trans k3⟩
 have HK:=zC keepS;clear keepS
 go_cut [5] (λ p wx=>VarAt wx p W.heap.size 260 (zGA hi (-lo))/\Below W.heap.size W wx)
 case first =>
  go_region_held3 (λ w'=>w'.cell? ⟨w.heap.size,0,none⟩=some (.bool s.ln)/\w'.cell? ⟨w.heap.size,1,none⟩=some (.slice s.la s.lN s.lc)/\w'.cell? ⟨w.heap.size,2,none⟩=some (.bool s.hn)/\w'.cell? ⟨w.heap.size,3,none⟩=some (.slice s.ha s.hN s.hc)) (exact zA HK _ (by first|exact (Below.refl _ _).drew|exact (bl1 _ _).drew|exact A6|exact zL A6 _|exact o9|exact zL o9 _|exact zL (zL o9 _) _|exact D3|exact zL D3 _|exact (D3.setCell (by first|exact Zb _|exact A6.size|exact o9.size|exact Nat.le_succ_of_le o9.size) _).setCell (by first|exact Zb _|exact A6.size|exact o9.size|exact Nat.le_succ_of_le o9.size) _))
   (first
    | (go_at_call_of 87 s.la;refine (zAQ _ _ _ _ 250 lo _ ((zA HS).lo.bw (by first|exact (Below.refl _ _).drew|exact (bl1 _ _).drew)) (by omega)).mono ?_;rintro r w1 ⟨m9,a1,n1,c1,rfl,o8,b9⟩;obtain⟨hs1,B9,D6⟩:=zZ _ (Zb _) b9;have A6:Below W.heap.size W w1:=(by first|exact zB (Below.refl _ _).drew b9|exact zB (bl1 _ _).drew b9);have W9:=A6.size;have zg:=Zd E2 W9;have Ym:w.heap.size+1<=w1.heap.size:=zg;have Jw:=Nat.le_of_lt zg;have Qj:=Nat.le_succ_of_le Jw;have ij:=Zf zg;have Cx:=Zg zg;(try simp at hs1);(try have dN:W.heap.size<w1.heap.size:=hs1);(try have CG:W.heap.size+1<=w1.heap.size:=hs1))
    | (go_at_call_of 87 s.ha;refine (zAQ _ _ _ _ 250 hi _ ((zA HS).hi.bw (by first|exact A6|exact zL A6 _)) (by omega)).mono ?_;rintro r w2 ⟨j6,a2,n2,c2,rfl,A5,j7⟩;obtain⟨ak,B7,E7⟩:=zZ _ (Zb _) j7;have jr:Below w1.heap.size w1 w2:=(by first|exact j7|exact zB (bl1 _ _) j7);have o9:=zB A6 jr;have W7:=jr.size;have qV:=o9.size;(try have bl:=Zd hs1 W7);have O2:=Zd zg W7;have Yn:w.heap.size+1<=w2.heap.size:=O2;have Jx:=Nat.le_of_lt O2;have Qk:=Nat.le_succ_of_le Jx;have bC:=Zf O2;have Cy:=Zg O2;(try simp at ak);(try have CF:w1.heap.size<w2.heap.size:=ak);(try have Qo:w1.heap.size+1<=w2.heap.size:=ak);(try have CH:W.heap.size+1<=w2.heap.size:=bl))
    | (go_at_call_of 86 (Addr.mk w2.heap.size 0 none);refine (zFB w2.heap.size 3 _ 250 (pr4 ⟨s.ln,s.la,s.lN,s.lc⟩ ⟨s.hn,s.ha,s.hN,s.hc⟩ ⟨m9,a1,n1,c1⟩ ⟨j6,a2,n2,c2⟩) (pr4 lo hi (-lo) (-hi)) _ (by first|exact zPB w2 w2.heap.size rfl ⟨s.ln,s.la,s.lN,s.lc⟩ ⟨s.hn,s.ha,s.hN,s.hc⟩ ⟨m9,a1,n1,c1⟩ ⟨j6,a2,n2,c2⟩ 250 _ _ _ _ _ ((zA HS).lo.bw o9) ((zA HS).hi.bw o9) (o8.bw jr) A5|exact (zPB w2 w2.heap.size rfl ⟨s.ln,s.la,s.lN,s.lc⟩ ⟨s.hn,s.ha,s.hN,s.hc⟩ ⟨m9,a1,n1,c1⟩ ⟨j6,a2,n2,c2⟩ 250 _ _ _ _ _ ((zA HS).lo.bw o9) ((zA HS).hi.bw o9) (o8.bw jr) A5).bw (bl1 _ _)) (by omega)).mono ?_;rintro r w3 ⟨B8,a3,n3,c3,rfl,G0,o7⟩;obtain⟨bD,L6,O0⟩:=zZ _ (Zb _) o7;have js:Below w2.heap.size w2 w3:=(by first|exact zB (bl1 _ _) o7|exact zB (bl2 _ _ _) o7);have D3:=zB o9 js;have vn:=js.size;have iN:=Zd O2 vn;have Jy:w.heap.size+1<=w3.heap.size:=iN;have vY:=Nat.le_of_lt iN;have Cw:=Nat.le_succ_of_le vY;have Yy:=Zf iN;have Jz:=Zg iN;(try simp at bD))
    | (go_at_call 86;refine (zFB (w2.heap.size+1) 3 _ 250 (pr4 ⟨s.ln,s.la,s.lN,s.lc⟩ ⟨s.hn,s.ha,s.hN,s.hc⟩ ⟨m9,a1,n1,c1⟩ ⟨j6,a2,n2,c2⟩) (pr4 lo hi (-lo) (-hi)) _ (by exact zPB (w2.alloc (.cells #[.bool false,.slice none 0 0] 29)) (w2.heap.size+1) (Go.Deep.nblk_alloc _ _) ⟨s.ln,s.la,s.lN,s.lc⟩ ⟨s.hn,s.ha,s.hN,s.hc⟩ ⟨m9,a1,n1,c1⟩ ⟨j6,a2,n2,c2⟩ 250 _ _ _ _ _ ((zA HS).lo.bw (zL o9 _)) ((zA HS).hi.bw (zL o9 _)) (o8.bw (zL jr _)) (A5.bw (bl1 _ _))) (by omega)).mono ?_;rintro r w3 ⟨B8,a3,n3,c3,rfl,G0,o7⟩;obtain⟨bD,L6,O0⟩:=zZ _ (Zb _) o7;have js:Below w2.heap.size w2 w3:=(by first|exact zB (bl1 _ _) o7|exact zB (bl2 _ _ _) o7);have D3:=zB o9 js;have vn:=js.size;have iN:=Zd O2 vn;have Jy:w.heap.size+1<=w3.heap.size:=iN;have vY:=Nat.le_of_lt iN;have Cw:=Nat.le_succ_of_le vY;have Yy:=Zf iN;have Jz:=Zg iN;(try simp at bD)))
  all_goals rw[zA HM] at G0
  ·go_wp2_with fail
   go_meet;exact⟨(varA G0 _ _ D3.size).mono (by omega),zL D3 _⟩
  ·go_wp2_with fail
   go_meet;have h0:w3.cell? ⟨w2.heap.size+1,0,none⟩=some (.bool false):=by simp[L6,go_sem]
   have h1:w3.cell? ⟨w2.heap.size+1,1,none⟩=some (.slice none 0 0):=by simp[L6,go_sem]
   exact⟨(varB G0 _ _ h0 h1 (Nat.le_succ_of_le qV)).mono (by omega),(D3.setCell (p:=⟨w2.heap.size+1,0,none⟩) (Nat.le_succ_of_le qV) _).setCell (p:=⟨w2.heap.size+1,1,none⟩) (Nat.le_succ_of_le qV) _⟩
  ·go_wp2_with fail
   go_meet;have h0:w3.cell? ⟨w2.heap.size,0,none⟩=some (.bool false):=by simp[L6,go_sem]
   have h1:w3.cell? ⟨w2.heap.size,1,none⟩=some (.slice none 0 0):=by simp[L6,go_sem]
   exact⟨(varB G0 _ _ h0 h1 qV).mono (by omega),(D3.setCell (p:=⟨w2.heap.size,0,none⟩) qV _).setCell (p:=⟨w2.heap.size,1,none⟩) qV _⟩
  ·go_wp2_with fail
   go_meet;have h0:w3.cell? ⟨w1.heap.size,0,none⟩=some (.bool false):=by simp[L6,B7,CF,W7,go_sem]
   have h1:w3.cell? ⟨w1.heap.size,1,none⟩=some (.slice none 0 0):=by simp[L6,B7,CF,W7,go_sem]
   exact⟨(varB G0 _ _ h0 h1 W9).mono (by omega),(D3.setCell (p:=⟨w1.heap.size,0,none⟩) W9 _).setCell (p:=⟨w1.heap.size,1,none⟩) W9 _⟩
  ·go_wp2_with fail
   go_meet;have h0:w3.cell? ⟨W.heap.size,0,none⟩=some (.bool false):=by simp[L6,B7,B9,dN,CG,bl,CH,qV,go_sem]
   have h1:w3.cell? ⟨W.heap.size,1,none⟩=some (.slice none 0 0):=by simp[L6,B7,B9,dN,CG,bl,CH,qV,go_sem]
   exact⟨(varB G0 _ _ h0 h1 (Zb _)).mono (by omega),(D3.setCell (p:=⟨W.heap.size,0,none⟩) (Zb _) _).setCell (p:=⟨W.heap.size,1,none⟩) (Zb _) _⟩
 case rest =>
 obtain⟨⟨B5,x5,rfl,EE,EF,P9,O7,ib⟩,S8⟩:=hcut;have Gq:=zC P9;have Et:=zC ((zA HS).bw S8);have ie:=Zd E2 S8.size;have e4:wc.cell? ⟨w.heap.size,4,none⟩=some (.int .i64 b):=(S8.cell (p:=⟨w.heap.size,4,none⟩) E2).trans k4;obtain⟨e0,e1,e2,e3⟩:=zA HK wc S8
 have gM:=zC (show ∀ w',Below wc.heap.size wc w'->(w'.cell? ⟨w.heap.size,0,none⟩=some (.bool s.ln)/\w'.cell? ⟨w.heap.size,1,none⟩=some (.slice s.la s.lN s.lc)/\w'.cell? ⟨w.heap.size,2,none⟩=some (.bool s.hn)/\w'.cell? ⟨w.heap.size,3,none⟩=some (.slice s.ha s.hN s.hc)/\w'.cell? ⟨w.heap.size,4,none⟩=some (.int .i64 b)/\nK0 w' B5 x5) from λ w' hB =>
  ⟨(hB.cell (p:=⟨w.heap.size,0,none⟩) ie).trans e0,(hB.cell (p:=⟨w.heap.size,1,none⟩) ie).trans e1,(hB.cell (p:=⟨w.heap.size,2,none⟩) ie).trans e2,(hB.cell (p:=⟨w.heap.size,3,none⟩) ie).trans e3,(hB.cell (p:=⟨w.heap.size,4,none⟩) ie).trans e4,(hB.cell (p:=⟨B5,0,none⟩) ib).trans EE,(hB.cell (p:=⟨B5,1,none⟩) ib).trans EF⟩)
 have HE:=zC (show (decide (zN ((hi-lo)*Q b) (n*(Q b+zGA hi (-lo)))<=0))=zIW lo hi (Q b) n from zLN _ _)
 have X9:Below w.heap.size w wc:=j8.trans (S8.mono (Nat.le_of_lt E2));clear P9 k0 k1 k2 k3 k4 S8 HK HS HM;go_wp2
 go_region_held3 (λ w'=>w'.cell? ⟨w.heap.size,0,none⟩=some (.bool s.ln)/\w'.cell? ⟨w.heap.size,1,none⟩=some (.slice s.la s.lN s.lc)/\w'.cell? ⟨w.heap.size,2,none⟩=some (.bool s.hn)/\w'.cell? ⟨w.heap.size,3,none⟩=some (.slice s.ha s.hN s.hc)/\w'.cell? ⟨w.heap.size,4,none⟩=some (.int .i64 b)/\nK0 w' B5 x5) (exact zA gM _ (by first|exact (Below.refl _ _).drew|exact A6|exact o9|exact D3|exact I1|exact rX|exact gQ|exact yh|exact gR))
  (first
   | (go_at_call 35;refine (zCR _ _ _ _ _ _ _ _ 250 250 hi lo _ ((zA Et).hi.bw (Below.refl _ _).drew) ((zA Et).lo.bw (Below.refl _ _).drew) (by omega) (by omega)).mono ?_;rintro r w1 ⟨m9,a1,n1,c1,rfl,o8,b9⟩;have A6:Below wc.heap.size wc w1:=zB (Below.refl _ _).drew b9)
   | (go_at_call_of 83 a1;refine (zX _ _ _ _ _ _ _ _ 251 20 _ _ _ (o8.bw j7) A5 (by omega) (by omega)).mono ?_;rintro r w3 ⟨B8,a3,n3,c3,rfl,G0,o7⟩;have D3:=zB o9 o7)
   | (go_at_call 33;refine (zD (n:Int) _ (by omega) (by omega)).mono ?_;rintro r w4 ⟨E6,a4,n4,c4,rfl,I2,y9⟩;have I1:=zB D3 y9)
   | (go_at_call 82;have WX:=I1;refine (zDJ b _ (by omega)).mono ?_;rintro r w5 ⟨L4,a5,n5,c5,rfl,P9,D8⟩;have rX:=zB I1 D8)
   | (go_at_call 82;refine (zDJ b _ (by omega)).mono ?_;rintro r w2 ⟨j6,a2,n2,c2,rfl,A5,j7⟩;have A5:=A5.mono (show b/16+5<=20 by omega);have o9:=zB A6 j7)
   | (go_at_call 32;refine (zA5 _ _ _ _ _ _ _ _ (b/16+5) 260 _ _ _ P9 ((zA Gq).bw rX) (by omega) (by omega)).mono ?_;rintro r w6 ⟨dI,a6,n6,c6,rfl,cT,K8⟩;have cT:=cT.mono (show max (b/16+5) 260+1<=300 by omega);have gQ:=zB rX K8)
   | (go_at_call 83;refine (zX _ _ _ _ _ _ _ _ 4 300 _ _ _ (I2.bw (zB D8 K8)) cT (by omega) (by omega)).mono ?_;rintro r w7 ⟨mI,a7,n7,c7,rfl,ox,W5⟩;have yh:=zB gQ W5)
   | (go_at_call 17;refine (jY _ _ _ _ _ _ _ _ 271 304 _ _ _ (G0.bw (zB (zB (zB y9 D8) K8) W5)) ox).mono ?_;rintro r w8 ⟨rfl,Z7⟩;have gR:=zB yh Z7))
 go_wp2
 go_ret
 exact⟨by rw[<- zA HE];rfl,X9.trans (gR.mono (Nat.le_of_lt ie))⟩
theorem IntAt.put5 {w:World} {neg:Bool} {a:Option Addr} {n cap k:Nat} {z:Int} (h:IntAt w neg a n cap k z) {B:Nat} {x0 x2:Bool} {y0 y3:Option Addr} {y1 y2 y4 y5:Nat} {i:Int}
  (h0:w.cell? ⟨B,0,none⟩=some (.bool x0)) (h1:w.cell? ⟨B,1,none⟩=some (.slice y0 y1 y2)) (h2:w.cell? ⟨B,2,none⟩=some (.bool x2)) (h3:w.cell? ⟨B,3,none⟩=some (.slice y3 y4 y5)) (h4:w.cell? ⟨B,4,none⟩=some (.int .i64 i)) (u0 u1 u2 u3 u4:Value) :
  IntAt (((((w.setCell ⟨B,0,none⟩ u0).setCell ⟨B,1,none⟩ u1).setCell ⟨B,2,none⟩ u2).setCell ⟨B,3,none⟩ u3).setCell ⟨B,4,none⟩ u4) neg a n cap k z:=by
 have ne:∀ i j:Nat,i≠j->(⟨B,i,none⟩:Addr)≠⟨B,j,none⟩:=λ i j nH e=>nH (by injection e)
 have g1:(w.setCell ⟨B,0,none⟩ u0).cell? ⟨B,1,none⟩=some (.slice y0 y1 y2):=(World.cell?_setCell_other _ _ _ _ (ne 0 1 (by omega))).trans h1
 have g2:((w.setCell ⟨B,0,none⟩ u0).setCell ⟨B,1,none⟩ u1).cell? ⟨B,2,none⟩=some (.bool x2):=(World.cell?_setCell_other _ _ _ _ (ne 1 2 (by omega))).trans ((World.cell?_setCell_other _ _ _ _ (ne 0 2 (by omega))).trans h2)
 have g3:(((w.setCell ⟨B,0,none⟩ u0).setCell ⟨B,1,none⟩ u1).setCell ⟨B,2,none⟩ u2).cell? ⟨B,3,none⟩=some (.slice y3 y4 y5):=(World.cell?_setCell_other _ _ _ _ (ne 2 3 (by omega))).trans ((World.cell?_setCell_other _ _ _ _ (ne 1 3 (by omega))).trans ((World.cell?_setCell_other _ _ _ _ (ne 0 3 (by omega))).trans h3))
 have g4:((((w.setCell ⟨B,0,none⟩ u0).setCell ⟨B,1,none⟩ u1).setCell ⟨B,2,none⟩ u2).setCell ⟨B,3,none⟩ u3).cell? ⟨B,4,none⟩=some (.int .i64 i):=(World.cell?_setCell_other _ _ _ _ (ne 3 4 (by omega))).trans ((World.cell?_setCell_other _ _ _ _ (ne 2 4 (by omega))).trans ((World.cell?_setCell_other _ _ _ _ (ne 1 4 (by omega))).trans ((World.cell?_setCell_other _ _ _ _ (ne 0 4 (by omega))).trans h4)))
 exact ((((h.store h0 (λ _ e=>by cases e) u0).store g1 (λ _ e=>by cases e) u1).store g2 (λ _ e=>by cases e) u2).store g3 (λ _ e=>by cases e) u3).store g4 (λ _ e=>by cases e) u4
theorem SpAt.put5 {w:World} {s:Sp} {k:Nat} {lo hi:Int} (h:SpAt w s k lo hi) {B:Nat} {x0 x2:Bool} {y0 y3:Option Addr} {y1 y2 y4 y5:Nat} {i:Int}
  (h0:w.cell? ⟨B,0,none⟩=some (.bool x0)) (h1:w.cell? ⟨B,1,none⟩=some (.slice y0 y1 y2)) (h2:w.cell? ⟨B,2,none⟩=some (.bool x2)) (h3:w.cell? ⟨B,3,none⟩=some (.slice y3 y4 y5)) (h4:w.cell? ⟨B,4,none⟩=some (.int .i64 i)) (u0 u1 u2 u3 u4:Value) :
  SpAt (((((w.setCell ⟨B,0,none⟩ u0).setCell ⟨B,1,none⟩ u1).setCell ⟨B,2,none⟩ u2).setCell ⟨B,3,none⟩ u3).setCell ⟨B,4,none⟩ u4) s k lo hi:=⟨h.lo.put5 h0 h1 h2 h3 h4 u0 u1 u2 u3 u4,h.hi.put5 h0 h1 h2 h3 h4 u0 u1 u2 u3 u4⟩
theorem jS {B B':Nat} {a w:World} (h:Below B a w) (hB:B<=B') (u0 u1 u2 u3 u4:Value):Below B a (((((w.setCell ⟨B',0,none⟩ u0).setCell ⟨B',1,none⟩ u1).setCell ⟨B',2,none⟩ u2).setCell ⟨B',3,none⟩ u3).setCell ⟨B',4,none⟩ u4) :=
 ((((h.setCell (p:=⟨B',0,none⟩) hB u0).setCell (p:=⟨B',1,none⟩) hB u1).setCell (p:=⟨B',2,none⟩) hB u2).setCell (p:=⟨B',3,none⟩) hB u3).setCell (p:=⟨B',4,none⟩) hB u4
theorem zQY (neg j6:Bool) (a c:Option Addr) (n m cap m8 k k2:Nat) (x y:Int) (w:World) (h1:IntAt w neg a n cap k x) (h2:IntAt w j6 c m m8 k2 y) (hk:k<=800000000)
  (cG:∀ w' j9 a' n' m7,IntAt w' j9 a' n' m7 k (-x)->IntAt w' j6 c m m8 k2 y->Calls Tryz.prog 126 #[.agg #[.bool j9,.slice a' n' m7],.agg #[.bool j6,.slice c m m8]] w' (zBS w' k (-x/y))) :
  Calls Tryz.prog 127 #[.agg #[.bool neg,.slice a n cap],.agg #[.bool j6,.slice c m m8]] w (zBS w k (-(-x/y))):=by
 have iA:w.heap.size≠w.heap.size+1+1:=by omega
 have iB:w.heap.size+1+1≠w.heap.size:=by omega
 have le2:w.heap.size<=w.heap.size+1+1:=by omega
 have HF:=zC cG;clear cG
 go_enter Tryz.func127,Tryz.ntmps127
 go_wp2
 go_region_held3 (λ w'=>w'.cell? ⟨w.heap.size,0,none⟩=some (.bool neg)/\w'.cell? ⟨w.heap.size,1,none⟩=some (.slice a n cap)/\w'.cell? ⟨w.heap.size+1,0,none⟩=some (.bool j6)/\w'.cell? ⟨w.heap.size+1,1,none⟩=some (.slice c m m8)) (go_keep)
  (first
   | (go_at_call 126;refine (zA HF _ _ _ _ _ o8 (h2.bw (zB (bl3 _ _ _ _).drew b9))).mono ?_;rintro r w2 ⟨mH,a2,n2,c2,rfl,A5,j7⟩;obtain⟨A9,B7,E7⟩:=zZ (w.heap.size+1+1+1) C9 j7)
   | (go_at_call 87;have hq:=j7;refine (zAQ _ _ _ _ (k+8) _ _ A5 (by omega)).mono ?_;rintro r w3 ⟨B8,a3,n3,c3,rfl,G0,o7⟩;obtain⟨J1,L6,O0⟩:=zZ (w.heap.size+1+1+1) A9 o7)
   | (go_at_call 87;refine (zAQ _ _ _ _ k x _ (h1.bw (bl3 _ _ _ _).drew) (by omega)).mono ?_;rintro r w1 ⟨m9,a1,n1,c1,rfl,o8,b9⟩;obtain⟨C9,B9,D6⟩:=zZ (w.heap.size+1+1+1) (by simp) b9))
 go_wp2;have h0:w3.cell? ⟨w.heap.size+1+1,0,none⟩=some (.bool false):=by simp[L6,B7,B9,go_sem]
 have G6:w3.cell? ⟨w.heap.size+1+1,1,none⟩=some (.slice none 0 0):=by simp[L6,B7,B9,go_sem]
 refine bodyPost_ret (v:=.agg #[.bool B8,.slice a3 n3 c3]) (by simp[results,Tryz.results127,go_sem,h0,G6]) rfl ⟨B8,a3,n3,c3,rfl,G0.put2 h0 G6 _ _,?_⟩
 exact ((zB (zB (zB (bl3 _ _ _ _).drew b9) j7) o7).setCell (p:=⟨w.heap.size+1+1,0,none⟩) le2 _).setCell (p:=⟨w.heap.size+1+1,1,none⟩) le2 _
def zG (w:World) (b:Int) (k:Nat) (lo hi:Int) (r:Ending) (w':World):Prop :=
 ∃ s:Sp,r=.returned (.agg s.q)/\s.bits=b/\SpAt w' s k lo hi/\Below w.heap.size w w'
def rok (p q:Int):Prop := -1048576<=p/\p<=1048576/\1<=q/\q<=1024
instance (p q:Int):Decidable (rok p q):=by unfold rok;infer_instance
theorem zTG {p q:Int} (h:p < -1048576\/1048576<p\/q<1\/1024<q):decide (rok p q)=false:=by
 rw[decide_eq_false_iff_not];unfold rok;omega
theorem zO (p q:Int) (w:World) :
  Calls Tryz.prog 118 #[.agg #[.int .i64 p,.int .i64 q]] w λ r w'=>r=.returned (.bool (decide (rok p q)))/\Below w.heap.size w w':=by
 by_cases h1 : -1048576<=p
 ·by_cases h2:p<=1048576
  ·by_cases h3:1<=q
   ·go_enter Tryz.func118,Tryz.ntmps118
    go_wp2
    go_ret
    exact⟨by simp[rok,h1,h2,h3],bl1 _ _⟩
   ·go_enter Tryz.func118,Tryz.ntmps118
    go_wp2
    go_ret
    exact⟨by rw[zTG (p:=p) (q:=q) (by omega)];rfl,bl1 _ _⟩
  ·go_enter Tryz.func118,Tryz.ntmps118
   go_wp2
   go_ret
   exact⟨by rw[zTG (p:=p) (q:=q) (by omega)];rfl,bl1 _ _⟩
 ·go_enter Tryz.func118,Tryz.ntmps118
  go_wp2
  go_ret
  exact⟨by rw[zTG (p:=p) (q:=q) (by omega)];rfl,bl1 _ _⟩
def zFO (p q bt:Int):Int:=if rok p q/\8<=bt/\bt<=120 then 0 else 3
structure Rats (w:World) (b n:Nat) (p q:Nat->Int):Prop where
 lt:b<w.heap.size
 c0:∀ j,j<n->w.cell? ⟨b,j*2,none⟩=some (.int .i64 (p j))
 c1:∀ j,j<n->w.cell? ⟨b,j*2+1,none⟩=some (.int .i64 (q j))
theorem Rats.bw {w w':World} {b n:Nat} {p q:Nat->Int} (h:Rats w b n p q) (hb:Below w.heap.size w w'):Rats w' b n p q :=
 ⟨Zd h.lt hb.size,λ j hj=>(hb.cell (p:=⟨b,j*2,none⟩) h.lt).trans (h.c0 j hj),λ j hj=>(hb.cell (p:=⟨b,j*2+1,none⟩) h.lt).trans (h.c1 j hj)⟩
def RFlt (bt:Int) (p q:Nat->Int) (n:Nat) (z:Int):Prop :=
 (z=0/\(8<=bt/\bt<=120)/\∀ j,j<n->rok (p j) (q j))\/(z=3/\¬ ((8<=bt/\bt<=120)/\∀ j,j<n->rok (p j) (q j)))
theorem zGZ (bt : Int) (b n cap : Nat) (p q : Nat → Int) (w : World) (h : Rats w b n p q) (hn : n ≤ 1000) :
    Calls Tryz.prog 74 #[.int .i64 bt, .slice (some ⟨b, 0, none⟩) n cap] w fun r w' => ∃ z, r = .returned (.int .i64 z) ∧ RFlt bt p q n z ∧ Below w.heap.size w w' := by
  by_cases b1 : bt < 8
  · go_enter Tryz.func74, Tryz.ntmps74
    go_wp2
    go_ret
    exact ⟨3, rfl, Or.inr ⟨rfl, fun ⟨h1, _⟩ => by omega⟩, Below.refl _ _⟩
  by_cases b2 : 120 < bt
  · go_enter Tryz.func74, Tryz.ntmps74
    go_wp2
    go_ret
    exact ⟨3, rfl, Or.inr ⟨rfl, fun ⟨h1, _⟩ => by omega⟩, Below.refl _ _⟩
  have hblt := h.lt
  have HH := zC h
  clear h
  go_enter Tryz.func74, Tryz.ntmps74
  go_wp2
  go_loopw [15] (fun ii wr => ∃ i : Nat, i ≤ n ∧ ii = .int .i64 i ∧ (∀ j, j < i → rok (p j) (q j)) ∧ Below w.heap.size w wr) (fun ii _ => n - (intOf ii).toNat)
  case atStart => exact ⟨0, by omega, rfl, fun j hj => by omega, Below.refl _ _⟩
  case round =>
    obtain ⟨i, hi, rfl, hz, hB⟩ := hrel
    by_cases hin : i < n
    · have H2 := (zA HH).bw hB
      have g0 := H2.c0 i hin
      have g1 := H2.c1 i hin
      have hi1 : (i : Int) < (n : Int) := by omega
      have HZ := zC hz
      clear hz H2
      by_cases hc : rok (p i) (q i)
      · have hc' : decide (rok (p i) (q i)) = true := by simpa using hc
        have HC := zC hc
        clear hc
        go_wp2_with (go_at_call 118; refine (zO _ _ _).mono ?_; rintro r w1 ⟨rfl, hb1⟩; rw [hc'])
        go_roundw
        case rel => exact ⟨i + 1, by omega, by go_num, fun j hj => by
                            by_cases hji : j = i
                            · subst hji; exact zA HC
                            · exact zA HZ j (by omega), zB (zL hB _) hb1⟩
        case measure => simp [intOf]; omega
      · have hc' : decide (rok (p i) (q i)) = false := by simpa using hc
        have HC := zC hc
        clear hc
        go_wp2_with (go_at_call 118; refine (zO _ _ _).mono ?_; rintro r w1 ⟨rfl, hb1⟩; rw [hc'])
        go_ret
        exact ⟨3, rfl, Or.inr ⟨rfl, fun ⟨_, h2⟩ => zA HC (h2 i hin)⟩, zB (zL hB _) hb1⟩
    · have hiE : i = n := by omega
      subst hiE
      have HZ := zC hz
      clear hz hin hi
      go_wp2
      go_ret
      exact ⟨0, rfl, Or.inl ⟨rfl, ⟨by omega, by omega⟩, zA HZ⟩, hB⟩
def zB1 (w:World) (b:Int) (k:Nat) (lo hi er:Int) (r:Ending) (w':World):Prop :=
 ∃ s:Sp,r=.returned (.tuple #[.agg s.q,.int .i64 er])/\s.bits=b/\SpAt w' s k lo hi/\Below w.heap.size w w'
theorem zE6 (w:World) (k:Nat):IntAt w false none 0 0 k 0 :=
 ⟨λ _=>0,⟨λ h=>by omega,λ _=>⟨by simp,by simp⟩,Zb _,by omega⟩,Or.inl rfl,λ _=>rfl,by omega,by simp[sgn,V]⟩
theorem zGR (w:World) (k:Nat):SpAt w ⟨false,none,0,0,false,none,0,0,0⟩ k 0 0:=⟨zE6 w k,zE6 w k⟩
theorem rats1 (w:World) (p q:Int) (T:TypeId):Rats (w.alloc (.cells #[.int .i64 p,.int .i64 q] T)) w.heap.size 1 (λ _=>p) (λ _=>q):=by
 refine⟨by simp,?_,?_⟩
 all_goals
  intro j hj
  match j,hj with
  | 0,_=>simp
theorem yG (bt:Int) (w:World) (B:Nat) (hB:w.heap.size=B) (p q:Int) (T:TypeId) (cap:Nat) :
  Calls Tryz.prog 74 #[.int .i64 bt,.slice (some ⟨B,0,none⟩) 1 cap] (w.alloc (.cells #[.int .i64 p,.int .i64 q] T)) λ r w' =>
   r=.returned (.int .i64 (zFO p q bt))/\Below w.heap.size w w':=by
 subst hB
 exact (zGZ bt w.heap.size 1 cap (λ _=>p) (λ _=>q) _ (rats1 w p q T) (by omega)).mono λ r w' ⟨z,h1,h2,h3⟩=>by
  refine⟨?_,(bl1 _ _).trans (h3.mono (by simp))⟩
  rw[h1];unfold zFO
  rcases h2 with⟨rfl,h4,h5⟩|⟨rfl,h4⟩
  ·rw[if_pos ⟨h5 0 (by omega),h4⟩]
  ·rw[if_neg (λ ⟨h5,h6⟩=>h4 ⟨h6,λ _ _=>h5⟩)]
theorem zGP (w:World) (s t:Sp) (k:Nat) (lo hi lo' hi':Int) (hs:SpAt w s k lo hi) (ht:SpAt w t k lo' hi') (hk:k<=700000000) :
  Calls Tryz.prog 51 #[.agg s.q,.agg t.q] w (zG w s.bits (k+1) (lo+lo') (hi+hi')):=by
 have iA:w.heap.size≠w.heap.size+1+1:=by omega
 have iB:w.heap.size+1+1≠w.heap.size:=by omega
 have le2:w.heap.size<=w.heap.size+1+1:=by omega
 go_enter Tryz.func51,Tryz.ntmps51
 go_wp2
 go_region_held3 (λ w'=>cK w' w.heap.size s (w'.cell? ⟨w.heap.size+1,0,none⟩=some (.bool t.ln)/\w'.cell? ⟨w.heap.size+1,1,none⟩=some (.slice t.la t.lN t.lc)/\w'.cell? ⟨w.heap.size+1,2,none⟩=some (.bool t.hn)/\w'.cell? ⟨w.heap.size+1,3,none⟩=some (.slice t.ha t.hN t.hc))) ((dsimp only[cK,cK0,nK,nK0,rK,rK0];go_keep))
  (first
   | (go_at_call 32;have hq:=b9;refine (zA5 _ _ _ _ _ _ _ _ k k hi hi' _ (hs.hi.bw (zB (bl3 _ _ _ _).drew b9)) (ht.hi.bw (zB (bl3 _ _ _ _).drew b9)) (by omega) (by omega)).mono ?_;rintro r w2 ⟨j6,a2,n2,c2,rfl,A5,j7⟩;obtain⟨A9,B7,E7⟩:=zZ (w.heap.size+1+1+1) C9 j7)
   | (go_at_call 32;refine (zA5 _ _ _ _ _ _ _ _ k k lo lo' _ (hs.lo.bw (bl3 _ _ _ _).drew) (ht.lo.bw (bl3 _ _ _ _).drew) (by omega) (by omega)).mono ?_;rintro r w1 ⟨m9,a1,n1,c1,rfl,o8,b9⟩;obtain⟨C9,B9,D6⟩:=zZ (w.heap.size+1+1+1) (by simp) b9))
 go_wp2;have q0:w2.cell? ⟨w.heap.size+1+1,0,none⟩=some (.bool false):=by simp[B7,B9,go_sem]
 have q1:w2.cell? ⟨w.heap.size+1+1,1,none⟩=some (.slice none 0 0):=by simp[B7,B9,go_sem]
 have q2:w2.cell? ⟨w.heap.size+1+1,2,none⟩=some (.bool false):=by simp[B7,B9,go_sem]
 have q3:w2.cell? ⟨w.heap.size+1+1,3,none⟩=some (.slice none 0 0):=by simp[B7,B9,go_sem]
 have q4:w2.cell? ⟨w.heap.size+1+1,4,none⟩=some (.int .i64 0):=by simp[B7,B9,go_sem]
 refine bodyPost_ret (v:=.agg #[.bool m9,.slice a1 n1 c1,.bool j6,.slice a2 n2 c2,.int .i64 s.bits]) (by simp[results,Tryz.results51,go_sem,q0,q1,q2,q3,q4]) rfl ⟨⟨m9,a1,n1,c1,j6,a2,n2,c2,s.bits⟩,rfl,rfl,?_,?_⟩
 ·exact SpAt.put5 ⟨(o8.bw j7).mono (by omega),A5.mono (by omega)⟩ q0 q1 q2 q3 q4 _ _ _ _ _
 ·exact jS (zB (zB (bl3 _ _ _ _).drew b9) j7) le2 _ _ _ _ _
theorem lenZ_le (n:Nat) (d:Nat->Int):lenZ n d<=16*n:=by
 unfold lenZ;have:=blenF_bd 16 (d (n-1));split<;>omega
theorem blenF_Q (f:Nat):∀ x:Int,0<x->x<Q f->∃ b:Nat,zCX f x=(b:Int)+1/\Q b<=x/\x<Q (b+1):=by
 induction f with
 | zero=>intro x h0 h1;simp[Q] at h1;omega
 | succ f ih =>
  intro x h0 h1
  have hx:¬ x<=0:=by omega
  simp only[zCX,hx,if_false];simp only[Q] at h1
  by_cases h2:x/2=0
  ·refine⟨0,?_,by simp[Q];omega,by simp[Q];omega⟩
   rw[h2];cases f<;>simp[zCX]
  ·obtain⟨b,e1,e2,e3⟩:=ih (x/2) (by omega) (by omega)
   refine⟨b+1,by rw[e1];omega,?_,?_⟩
   ·simp only[Q];omega
   ·simp only[Q] at *;omega
theorem zRZ {d:Nat->Int} (hd:Dgs d) {n:Nat} (hn:0<n) (ht:d (n-1)≠0):∃ L:Nat,lenZ n d=(L:Int)+1/\Q L<=V d n/\V d n<Q (L+1):=by
 obtain⟨m,rfl⟩:∃ m,n=m+1:=⟨n-1,by omega⟩
 simp only[Nat.add_sub_cancel] at ht;have hx:=hd m;obtain⟨b,e1,e2,e3⟩:=blenF_Q 16 (d m) (by omega) (by rw[Q16];omega)
 refine⟨16*m+b,?_,?_,?_⟩
 ·unfold lenZ;rw[if_neg (by omega)];simp only[Nat.add_sub_cancel];rw[e1];omega
 ·rw[jD,Q_P];simp only[V]
  have h1:=jA hd m;have h2:P m*Q b<=P m*d m:=Za e2 (by have:=yI m;omega)
  rw[Int.mul_comm (d m)];omega
 ·rw[show 16*m+b+1=16*m+(b+1) by omega,jD,Q_P];simp only[V]
  have h1:=zHT hd m;have h2:P m*(d m+1)<=P m*Q (b+1):=Za (by omega) (by have:=yI m;omega)
  rw[Int.mul_add,Int.mul_one] at h2;rw[Int.mul_comm (d m)];omega
theorem zSR {a x:Int} (hx:0<x):a<((x+a/x)/2+1)*((x+a/x)/2+1):=by
 obtain⟨t,ht⟩:∃ t,t=a/x:=⟨_,rfl⟩;obtain⟨y,hy⟩:∃ y,y=(x+t)/2:=⟨_,rfl⟩;rw[<- ht,<- hy]
 have h1:a<(t+1)*x:=by
  have h2:=Int.mul_ediv_add_emod a x;have h3:=Int.emod_lt_of_pos a hx;rw[<- ht] at h2;rw[Int.add_mul,Int.one_mul,Int.mul_comm t x];omega
 have h4:(x+t+1)*x<=(2*y+2)*x:=YW (by omega) (by omega)
 have h5:0<=(y+1-x)*(y+1-x):=by
  rcases Int.le_total 0 (y+1-x) with h|h
  ·exact Zc h h
  ·exact Int.mul_nonneg_of_nonpos_of_nonpos h h
 have h6:(y+1-x)*(y+1-x)=(y+1)*(y+1)-2*((y+1)*x)+x*x:=by
  rw[Int.sub_mul,Int.mul_sub,Int.mul_sub,Int.mul_comm x (y+1)];omega
 have h7:(2*y+2)*x=2*((y+1)*x):=by rw[<- Int.mul_assoc];congr 1;omega
 have h8:(x+t+1)*x=x*x+(t+1)*x:=by rw[<- Int.add_mul];congr 1;omega
 omega
theorem zPA {a x:Int} (hx:0<x) (ha:0<=a) (h:x<=(x+a/x)/2):x*x<=a:=by
 have h1:x<=a/x:=by omega
 have h2:=Int.mul_ediv_add_emod a x;have h3:=Int.emod_nonneg a (show x≠0 by omega)
 have h4:=Za h1 (show 0<=x by omega)
 omega
theorem zL9 {x y:Int} (hx:0<=x) (hy:0<=y) (h:x*x<y*y):x<y:=by
 rcases Int.lt_or_le x y with h1|h1
 ·exact h1
 ·have:=Int.mul_le_mul h1 h1 hy hx;omega
theorem zTK {a x y:Int} (hx:0<=x) (hy:0<=y) (h1:x*x<=a) (h2:a<(x+1)*(x+1)) (h3:y*y<=a) (h4:a<(y+1)*(y+1)):x=y:=by
 have:=zL9 hx (show 0<=y+1 by omega) (by omega)
 have:=zL9 hy (show 0<=x+1 by omega) (by omega)
 omega
theorem zTF {neg:Bool} {n:Nat} {d:Nat->Int} (h1:n=0\/d (n-1)≠0) (h2:n=0->neg=false):zHJ neg n d≠false:=by
 unfold zHJ
 by_cases h0:n=0
 ·simp[h0,h2 h0]
 ·rw[if_neg h0];simpa using (show d (n-1)≠0 by omega)
structure SpC (w:World) (B:Nat) (s:Sp):Prop where
 c0:w.cell? ⟨B,0,none⟩=some (.bool s.ln)
 c1:w.cell? ⟨B,1,none⟩=some (.slice s.la s.lN s.lc)
 c2:w.cell? ⟨B,2,none⟩=some (.bool s.hn)
 c3:w.cell? ⟨B,3,none⟩=some (.slice s.ha s.hN s.hc)
 c4:w.cell? ⟨B,4,none⟩=some (.int .i64 s.bits)
theorem SpC.lt {w:World} {B:Nat} {s:Sp} (h:SpC w B s):B<w.heap.size:=World.block_lt_of_cell? w ⟨B,0,none⟩ h.c0
theorem SpC.bw {w w':World} {B:Nat} {s:Sp} (h:SpC w B s) (hb:Below w.heap.size w w'):SpC w' B s :=
 ⟨(hb.cell (p:=⟨B,0,none⟩) h.lt).trans h.c0,(hb.cell (p:=⟨B,1,none⟩) h.lt).trans h.c1,(hb.cell (p:=⟨B,2,none⟩) h.lt).trans h.c2,(hb.cell (p:=⟨B,3,none⟩) h.lt).trans h.c3,(hb.cell (p:=⟨B,4,none⟩) h.lt).trans h.c4⟩
theorem yW (w:World) (s:Sp) (T:TypeId):SpC (w.alloc (.cells s.q T)) w.heap.size s:=⟨by simp,by simp,by simp,by simp,by simp⟩
structure NoC (w:World) (B:Nat):Prop where
 c0:w.cell? ⟨B,0,none⟩=some (.bool false)
 c1:w.cell? ⟨B,1,none⟩=some (.slice none 0 0)
 c2:w.cell? ⟨B,2,none⟩=some (.bool false)
 c3:w.cell? ⟨B,3,none⟩=some (.slice none 0 0)
 c4:w.cell? ⟨B,4,none⟩=some (.int .i64 0)
 fz:∀ o,w.frozen? ⟨B,o,none⟩=false
theorem NoC.lt {w:World} {B:Nat} (h:NoC w B):B<w.heap.size:=World.block_lt_of_cell? w ⟨B,0,none⟩ h.c0
theorem NoC.bw {w w':World} {B:Nat} (h:NoC w B) (hb:Below w.heap.size w w'):NoC w' B :=
 ⟨(hb.cell (p:=⟨B,0,none⟩) h.lt).trans h.c0,(hb.cell (p:=⟨B,1,none⟩) h.lt).trans h.c1,(hb.cell (p:=⟨B,2,none⟩) h.lt).trans h.c2,(hb.cell (p:=⟨B,3,none⟩) h.lt).trans h.c3,(hb.cell (p:=⟨B,4,none⟩) h.lt).trans h.c4,λ o=>(hb.frozen (p:=⟨B,o,none⟩) h.lt).trans (h.fz o)⟩
theorem zS (w:World) (T:TypeId):NoC (w.alloc (.cells zCq T)) w.heap.size:=⟨by simp,by simp,by simp,by simp,by simp,λ o=>by simp[go_sem]⟩
theorem SpAt.mono {w:World} {s:Sp} {k k':Nat} {lo hi:Int} (h:SpAt w s k lo hi) (hk:k<=k'):SpAt w s k' lo hi:=⟨h.lo.mono hk,h.hi.mono hk⟩
theorem zC9 (w:World) (s:Sp) (k:Nat) (lo hi:Int) (hs:SpAt w s k lo hi) (hk:k<=700000000) :
  Calls Tryz.prog 139 #[.agg s.q] w (zG w s.bits k (-hi) (-lo)):=by
 go_enter Tryz.func139,Tryz.ntmps139
 go_wp2
 go_region_held3 (λ w'=>cK0 w' w.heap.size s) ((dsimp only[cK,cK0,nK,nK0,rK,rK0];go_keep))
  (first
   | (go_at_call 87;have hq:=b9;refine (zAQ _ _ _ _ k lo _ (hs.lo.bw (zB (bl2 _ _ _).drew b9)) (by omega)).mono ?_;rintro r w2 ⟨j6,a2,n2,c2,rfl,A5,j7⟩;obtain⟨A9,B7,E7⟩:=zZ (w.heap.size+1+1) C9 j7)
   | (go_at_call 87;refine (zAQ _ _ _ _ k hi _ (hs.hi.bw (bl2 _ _ _).drew) (by omega)).mono ?_;rintro r w1 ⟨m9,a1,n1,c1,rfl,o8,b9⟩;obtain⟨C9,B9,D6⟩:=zZ (w.heap.size+1+1) (by simp) b9))
 go_wp2;have q0:w2.cell? ⟨w.heap.size+1,0,none⟩=some (.bool false):=by simp[B7,B9,go_sem]
 have q1:w2.cell? ⟨w.heap.size+1,1,none⟩=some (.slice none 0 0):=by simp[B7,B9,go_sem]
 have q2:w2.cell? ⟨w.heap.size+1,2,none⟩=some (.bool false):=by simp[B7,B9,go_sem]
 have q3:w2.cell? ⟨w.heap.size+1,3,none⟩=some (.slice none 0 0):=by simp[B7,B9,go_sem]
 have q4:w2.cell? ⟨w.heap.size+1,4,none⟩=some (.int .i64 0):=by simp[B7,B9,go_sem]
 refine bodyPost_ret (v:=.agg #[.bool m9,.slice a1 n1 c1,.bool j6,.slice a2 n2 c2,.int .i64 s.bits]) (by simp[results,Tryz.results139,go_sem,q0,q1,q2,q3,q4]) rfl ⟨⟨m9,a1,n1,c1,j6,a2,n2,c2,s.bits⟩,rfl,rfl,?_,?_⟩
 ·exact SpAt.put5 ⟨o8.bw j7,A5⟩ q0 q1 q2 q3 q4 _ _ _ _ _
 ·exact jS (zB (zB (bl2 _ _ _).drew b9) j7) (Nat.le_succ _) _ _ _ _ _
end Go.Proofs.YtgmnknmjainabacGreat
