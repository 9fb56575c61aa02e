/-
  Its own texts.
-/
import Derived.Deep.DeepCutAuto
import Derived.Test.YtgmnknmjainababGreatK05
set_option maxRecDepth 100000
set_option maxHeartbeats 40000000
set_option linter.unnecessarySimpa false
set_option linter.unusedSimpArgs false
set_option linter.unusedVariables false
namespace Go.Proofs.YtgmnknmjainababGreat
open Go.RowKit
attribute [local go_sem ↓] Go.wp_at_zero Go.wp_at_succ
structure Nm where
 neg:Bool
 a:Option Addr
 n:Nat
 cap:Nat
abbrev cK (w:World) (B:Nat) (s:Sp) (R:Prop):Prop:=w.cell? ⟨B,0,none⟩=some (.bool s.ln)/\w.cell? ⟨B,1,none⟩=some (.slice s.la s.lN s.lc)/\w.cell? ⟨B,2,none⟩=some (.bool s.hn)/\w.cell? ⟨B,3,none⟩=some (.slice s.ha s.hN s.hc)/\w.cell? ⟨B,4,none⟩=some (.int .i64 s.bits)/\R
abbrev cK0 (w:World) (B:Nat) (s:Sp):Prop:=w.cell? ⟨B,0,none⟩=some (.bool s.ln)/\w.cell? ⟨B,1,none⟩=some (.slice s.la s.lN s.lc)/\w.cell? ⟨B,2,none⟩=some (.bool s.hn)/\w.cell? ⟨B,3,none⟩=some (.slice s.ha s.hN s.hc)/\w.cell? ⟨B,4,none⟩=some (.int .i64 s.bits)
abbrev nK (w:World) (B:Nat) (x:Nm) (R:Prop):Prop:=w.cell? ⟨B,0,none⟩=some (.bool x.neg)/\w.cell? ⟨B,1,none⟩=some (.slice x.a x.n x.cap)/\R
abbrev nK0 (w:World) (B:Nat) (x:Nm):Prop:=w.cell? ⟨B,0,none⟩=some (.bool x.neg)/\w.cell? ⟨B,1,none⟩=some (.slice x.a x.n x.cap)
abbrev rK (w:World) (B:Nat) (p q:Int) (R:Prop):Prop:=w.cell? ⟨B,0,none⟩=some (.int .i64 p)/\w.cell? ⟨B,1,none⟩=some (.int .i64 q)/\R
abbrev rK0 (w:World) (B:Nat) (p q:Int):Prop:=w.cell? ⟨B,0,none⟩=some (.int .i64 p)/\w.cell? ⟨B,1,none⟩=some (.int .i64 q)
abbrev Sp.q (s:Sp):Array Value:=#[.bool s.ln,.slice s.la s.lN s.lc,.bool s.hn,.slice s.ha s.hN s.hc,.int .i64 s.bits]
abbrev Nm.q (x:Nm):Array Value:=#[.bool x.neg,.slice x.a x.n x.cap]
abbrev zCq:Array Value:=#[.bool false,.slice none 0 0,.bool false,.slice none 0 0,.int .i64 0]
structure Nums (w:World) (b n k:Nat) (f:Nat->Nm) (z:Nat->Int):Prop where
 lt:b<w.heap.size
 c0:∀ j,j<n->w.cell? ⟨b,j*2,none⟩=some (.bool (f j).neg)
 c1:∀ j,j<n->w.cell? ⟨b,j*2+1,none⟩=some (.slice (f j).a (f j).n (f j).cap)
 int:∀ j,j<n->IntAt w (f j).neg (f j).a (f j).n (f j).cap k (z j)
theorem Nums.bw {w w':World} {b n k:Nat} {f:Nat->Nm} {z:Nat->Int} (h:Nums w b n k f z) (hb:Below w.heap.size w w'):Nums w' b n k f z :=
 ⟨Yd h.lt hb.size,λ j hj=>(hb.cell (p:=⟨b,j*2,none⟩) h.lt).trans (h.c0 j hj),λ j hj=>(hb.cell (p:=⟨b,j*2+1,none⟩) h.lt).trans (h.c1 j hj),λ j hj=>(h.int j hj).bw hb⟩
def jP (z:Nat->Int):Nat->Int
 | 0=>z 0
 | n+1=>if jP z n<z (n+1) then z (n+1) else jP z n
def jB (z:Nat->Int):Nat->Int
 | 0=>z 0
 | n+1=>if z (n+1)<jB z n then z (n+1) else jB z n
theorem zD7 {x y:Int} (h:¬ y<x):¬ 0<zF x y:=by
 unfold zF;simp only[h,if_false];split<;>omega
theorem zD4 {x y:Int} (h:¬ x<y):¬ zF x y<0:=by
 unfold zF;rw[if_neg h];split<;>omega
theorem mostZ_up {z:Nat->Int} {i:Nat} (h:jP z (i-1)<z i):jP z (i+1-1)=z i:=by
 cases i with
 | zero=>rfl
 | succ j=>simp only[Nat.add_sub_cancel] at *;simp only[jP,h,if_true]
theorem zM8 {z:Nat->Int} {i:Nat} (h:¬ jP z (i-1)<z i):jP z (i+1-1)=jP z (i-1):=by
 cases i with
 | zero=>rfl
 | succ j=>simp only[Nat.add_sub_cancel] at *;simp only[jP,h,if_false]
theorem zQ3 {z:Nat->Int} {i:Nat} (h:z i<jB z (i-1)):jB z (i+1-1)=z i:=by
 cases i with
 | zero=>rfl
 | succ j=>simp only[Nat.add_sub_cancel] at *;simp only[jB,h,if_true]
theorem zKG {z:Nat->Int} {i:Nat} (h:¬ z i<jB z (i-1)):jB z (i+1-1)=jB z (i-1):=by
 cases i with
 | zero=>rfl
 | succ j=>simp only[Nat.add_sub_cancel] at *;simp only[jB,h,if_false]
theorem kT (k:Nat) (w:World) (hk:k<=1000000000) :
  Calls Tryz.prog 104 #[.int .i64 k] w λ r w' =>
   ∃ j8 a' n' m7,r=.returned (.agg #[.bool j8,.slice a' n' m7])/\IntAt w' j8 a' n' m7 (k/16+5) (Q k)/\Below w.heap.size w w':=by
 go_enter Tryz.func104,Tryz.ntmps104
 go_wp2_with (first
  | (go_at_call 43;refine (zD 1 _ (by decide) (by decide)).mono ?_;rintro r w1 ⟨g9,a1,n1,c1,rfl,k9,b7⟩;obtain⟨C5,A9,D8⟩:=jY (w.heap.size+1) (by simp) b7)
  | (go_at_call 95;refine (zBF _ _ _ _ k 4 1 _ k9 (by omega) hk).mono ?_;rintro r w2 ⟨j8,a2,n2,c2,rfl,hint,b9⟩;obtain⟨D7,C7,G0⟩:=jY (w.heap.size+1) C5 b9))
 have h0:w2.cell? ⟨w.heap.size,0,none⟩=some (.bool false):=by simp[C7,A9,go_sem]
 have I1:w2.cell? ⟨w.heap.size,1,none⟩=some (.slice none 0 0):=by simp[C7,A9,go_sem]
 refine bodyPost_ret (v:=.agg #[.bool j8,.slice a2 n2 c2]) (by simp[results,Tryz.results104,go_sem,h0,I1]) rfl ⟨j8,a2,n2,c2,rfl,?_,?_⟩
 ·rw[Int.one_mul] at hint
  exact (hint.put2 h0 I1 _ _).mono (by omega)
 ·exact ((zB (zB (bl1 _ _) b7) b9).setCell (p:=⟨w.heap.size,0,none⟩) (XW _) _).setCell (p:=⟨w.heap.size,1,none⟩) (XW _) _
theorem zN4 (neg:Bool) (a:Option Addr) (n cap k1:Nat) (x:Int) (w:World) (h1:IntAt w neg a n cap k1 x) (S7:k1<=1000000000) :
  Calls Tryz.prog 206 #[.agg #[.bool neg,.slice a n cap]] w λ r w' =>
   ∃ j8 a' n' m7,r=.returned (.agg #[.bool j8,.slice a' n' m7])/\IntAt w' j8 a' n' m7 (k1+1) x/\Below w.heap.size w w':=by
 go_enter Tryz.func206,Tryz.ntmps206
 go_wp2_with (go_at_call 95;refine (zBF _ _ _ _ 0 k1 x _ (h1.bw (bl2 _ _ _)) S7 (by omega)).mono ?_;rintro r w2 ⟨j8,a2,n2,c2,rfl,hint,b9⟩;obtain⟨D7,C7,G0⟩:=jY (w.heap.size+1+1) (by simp) b9)
 have h0:w2.cell? ⟨w.heap.size+1,0,none⟩=some (.bool false):=by simp[C7,go_sem]
 have I1:w2.cell? ⟨w.heap.size+1,1,none⟩=some (.slice none 0 0):=by simp[C7,go_sem]
 refine bodyPost_ret (v:=.agg #[.bool j8,.slice a2 n2 c2]) (by simp[results,Tryz.results206,go_sem,h0,I1]) rfl ⟨j8,a2,n2,c2,rfl,?_,?_⟩
 ·simp only[Q,Int.mul_one] at hint
  exact (hint.put2 h0 I1 _ _).mono (by omega)
 ·exact ((zB (bl2 _ _ _) b9).setCell (p:=⟨w.heap.size+1,0,none⟩) (Yh _) _).setCell (p:=⟨w.heap.size+1,1,none⟩) (Yh _) _
theorem zAU (b n cap k:Nat) (f:Nat->Nm) (z:Nat->Int) (w:World) (h:Nums w b (n+1) k f z) (hn:n<=1000) :
  Calls Tryz.prog 102 #[.slice (some ⟨b,0,none⟩) (n+1) cap] w λ r w' =>
   ∃ j8 a' n' m7,r=.returned (.agg #[.bool j8,.slice a' n' m7])/\IntAt w' j8 a' n' m7 k (jP z n)/\Below w.heap.size w w':=by
 have tR:=h.c0 0 (by omega)
 have tS:=h.c1 0 (by omega)
 simp only[Nat.zero_mul,Nat.zero_add] at tR tS;have hnn:(0:Int)<(n:Int)+1:=by omega
 have iF:=h.lt
 go_enter Tryz.func102,Tryz.ntmps102
 go_wp2
 go_loopw [4] (λ ii wr=>∃ (i:Nat) (x:Nm),i<=n+1/\ii=.int .i64 i/\wr.cell? ⟨w.heap.size+1,0,none⟩=some (.bool x.neg)/\wr.cell? ⟨w.heap.size+1,1,none⟩=some (.slice x.a x.n x.cap)/\(∀ o,wr.frozen? ⟨w.heap.size+1,o,none⟩=false)/\IntAt wr x.neg x.a x.n x.cap k (jP z (i-1))/\w.heap.size+1+1<=wr.heap.size /\
   Below (w.heap.size+1) (w.alloc (.cells #[.bool false,.slice none 0 0] 26)) wr) (λ ii _=>n+1-(intOf ii).toNat)
 case atStart =>
  exact⟨0,f 0,by omega,rfl,by simp[go_sem],by simp[go_sem],by intro o;simp[go_sem],(h.int 0 (by omega)).bw (bl2 _ _ _),by simp,(Below.refl _ _).alloc (by simp) _⟩
 case round =>
  obtain⟨i,x,hi,rfl,x0,x1,x2,hx,S8,B8⟩:=hrel;have hB:Below w.heap.size w wr:=(bl1 _ _).trans (B8.mono (by omega))
  by_cases G4:i<n+1
  ·have g0:=(h.bw hB).c0 i G4
   have g1:=(h.bw hB).c1 i G4;have hint:=(h.bw hB).int i G4;have oT:(0:Int)<=(i:Int):=by omega
   have O9:(i:Int)<(n:Int)+1:=by omega
   have Il:b<=w.heap.size+1:=by omega
   have hne:w.heap.size+1≠b:=by omega
   have tT:b≠w.heap.size+1:=by omega
   have HH:=zC h;clear h tR tS
   by_cases hc:jP z (i-1)<z i
   ·have iA:zF (z i) (jP z (i-1))=1:=by unfold zF;rw[if_neg (by omega),if_pos hc]
    have HZ:=zC (mostZ_up hc);go_wp2
    go_region_held3 (λ w'=>w'.cell? ⟨b,i*2,none⟩=some (.bool (f i).neg)/\w'.cell? ⟨b,i*2+1,none⟩=some (.slice (f i).a (f i).n (f i).cap)/\nK0 w' (w.heap.size+1) x) ((dsimp only[cK,cK0,nK,nK0,rK,rK0];go_keep))
     (first
      | (go_at_call 46;refine (zU _ _ _ _ _ _ _ _ k k (z i) (jP z (i-1)) _ (hint.bw (Below.refl _ _).drew) (hx.bw (Below.refl _ _).drew)).mono ?_;rintro r w1 ⟨rfl,b7⟩;obtain⟨C5,A9,D8⟩:=jY (w.heap.size+1+1) (by exact S8) b7;rw[iA]))
    have y0:w1.cell? ⟨w.heap.size+1,0,none⟩=some (.bool x.neg):=(A9 _ _ (XW _)).trans x0;have y1:w1.cell? ⟨w.heap.size+1,1,none⟩=some (.slice x.a x.n x.cap):=(A9 _ _ (XW _)).trans x1;have y2:∀ o,w1.frozen? ⟨w.heap.size+1,o,none⟩=false:=λ o=>(D8 _ _ (XW _)).trans (x2 o)
    go_wp2
    go_roundw
    case rel =>
     refine⟨i+1,f i,by omega,by go_num,by simp[go_sem,y0,y1],by simp[go_sem,y0,y1],by intro o;simp[go_sem,y2],?_,?_,?_⟩
     ·rw[zA HZ];exact ((hint.bw (Below.refl _ _).drew).bw b7).put2 y0 y1 _ _
     ·simpa [World.setCell] using C5
     ·exact ((B8.trans ((zB (Below.refl _ _).drew b7).mono (by omega))).setCell (p:=⟨w.heap.size+1,0,none⟩) (XW _) _).setCell (p:=⟨w.heap.size+1,1,none⟩) (XW _) _
    case measure=>simp[intOf];omega
   ·have iA:¬ 0<zF (z i) (jP z (i-1)):=zD7 hc
    have HZ:=zC (zM8 hc);go_wp2
    go_region_held3 (λ w'=>w'.cell? ⟨b,i*2,none⟩=some (.bool (f i).neg)/\w'.cell? ⟨b,i*2+1,none⟩=some (.slice (f i).a (f i).n (f i).cap)/\nK0 w' (w.heap.size+1) x) ((dsimp only[cK,cK0,nK,nK0,rK,rK0];go_keep))
     (first
      | (go_at_call 46;refine (zU _ _ _ _ _ _ _ _ k k (z i) (jP z (i-1)) _ (hint.bw (Below.refl _ _).drew) (hx.bw (Below.refl _ _).drew)).mono ?_;rintro r w1 ⟨rfl,b7⟩;obtain⟨C5,A9,D8⟩:=jY (w.heap.size+1+1) (by exact S8) b7))
    have y0:w1.cell? ⟨w.heap.size+1,0,none⟩=some (.bool x.neg):=(A9 _ _ (XW _)).trans x0;have y1:w1.cell? ⟨w.heap.size+1,1,none⟩=some (.slice x.a x.n x.cap):=(A9 _ _ (XW _)).trans x1;have y2:∀ o,w1.frozen? ⟨w.heap.size+1,o,none⟩=false:=λ o=>(D8 _ _ (XW _)).trans (x2 o)
    go_wp2
    go_roundw
    case rel =>
     exact⟨i+1,x,by omega,by go_num,y0,y1,y2,by rw[zA HZ];exact (hx.bw (Below.refl _ _).drew).bw b7,C5,B8.trans ((zB (Below.refl _ _).drew b7).mono (by omega))⟩
    case measure=>simp[intOf];omega
  ·have hiE:i=n+1:=by omega
   subst hiE;have q3:wr.cell? ⟨w.heap.size,0,none⟩=some (.bool false):=(B8.cell (p:=⟨w.heap.size,0,none⟩) (Nat.lt_succ_self _)).trans (by simp[go_sem])
   have q4:wr.cell? ⟨w.heap.size,1,none⟩=some (.slice none 0 0):=(B8.cell (p:=⟨w.heap.size,1,none⟩) (Nat.lt_succ_self _)).trans (by simp[go_sem])
   have q5:∀ o,wr.frozen? ⟨w.heap.size,o,none⟩=false:=λ o=>(B8.frozen (p:=⟨w.heap.size,o,none⟩) (Nat.lt_succ_self _)).trans (by simp[go_sem])
   clear h tR tS;go_wp2;refine bodyPost_ret (v:=.agg x.q) (by simp[results,Tryz.results102,go_sem,q3,q4]) rfl ⟨x.neg,x.a,x.n,x.cap,rfl,hx.put2 q3 q4 _ _,?_⟩
   exact (hB.setCell (p:=⟨w.heap.size,0,none⟩) (XW _) _).setCell (p:=⟨w.heap.size,1,none⟩) (XW _) _
theorem zFH (b n cap k:Nat) (f:Nat->Nm) (z:Nat->Int) (w:World) (h:Nums w b (n+1) k f z) (hn:n<=1000) :
  Calls Tryz.prog 106 #[.slice (some ⟨b,0,none⟩) (n+1) cap] w λ r w' =>
   ∃ j8 a' n' m7,r=.returned (.agg #[.bool j8,.slice a' n' m7])/\IntAt w' j8 a' n' m7 k (jB z n)/\Below w.heap.size w w':=by
 have tR:=h.c0 0 (by omega)
 have tS:=h.c1 0 (by omega)
 simp only[Nat.zero_mul,Nat.zero_add] at tR tS;have hnn:(0:Int)<(n:Int)+1:=by omega
 have iF:=h.lt
 go_enter Tryz.func106,Tryz.ntmps106
 go_wp2
 go_loopw [4] (λ ii wr=>∃ (i:Nat) (x:Nm),i<=n+1/\ii=.int .i64 i/\wr.cell? ⟨w.heap.size+1,0,none⟩=some (.bool x.neg)/\wr.cell? ⟨w.heap.size+1,1,none⟩=some (.slice x.a x.n x.cap)/\(∀ o,wr.frozen? ⟨w.heap.size+1,o,none⟩=false)/\IntAt wr x.neg x.a x.n x.cap k (jB z (i-1))/\w.heap.size+1+1<=wr.heap.size /\
   Below (w.heap.size+1) (w.alloc (.cells #[.bool false,.slice none 0 0] 26)) wr) (λ ii _=>n+1-(intOf ii).toNat)
 case atStart =>
  exact⟨0,f 0,by omega,rfl,by simp[go_sem],by simp[go_sem],by intro o;simp[go_sem],(h.int 0 (by omega)).bw (bl2 _ _ _),by simp,(Below.refl _ _).alloc (by simp) _⟩
 case round =>
  obtain⟨i,x,hi,rfl,x0,x1,x2,hx,S8,B8⟩:=hrel;have hB:Below w.heap.size w wr:=(bl1 _ _).trans (B8.mono (by omega))
  by_cases G4:i<n+1
  ·have g0:=(h.bw hB).c0 i G4
   have g1:=(h.bw hB).c1 i G4;have hint:=(h.bw hB).int i G4;have oT:(0:Int)<=(i:Int):=by omega
   have O9:(i:Int)<(n:Int)+1:=by omega
   have Il:b<=w.heap.size+1:=by omega
   have hne:w.heap.size+1≠b:=by omega
   have tT:b≠w.heap.size+1:=by omega
   have HH:=zC h;clear h tR tS
   by_cases hc:z i<jB z (i-1)
   ·have iA:zF (z i) (jB z (i-1)) = -1:=by unfold zF;rw[if_pos hc]
    have HZ:=zC (zQ3 hc);go_wp2
    go_region_held3 (λ w'=>w'.cell? ⟨b,i*2,none⟩=some (.bool (f i).neg)/\w'.cell? ⟨b,i*2+1,none⟩=some (.slice (f i).a (f i).n (f i).cap)/\nK0 w' (w.heap.size+1) x) ((dsimp only[cK,cK0,nK,nK0,rK,rK0];go_keep))
     (first
      | (go_at_call 46;refine (zU _ _ _ _ _ _ _ _ k k (z i) (jB z (i-1)) _ (hint.bw (Below.refl _ _).drew) (hx.bw (Below.refl _ _).drew)).mono ?_;rintro r w1 ⟨rfl,b7⟩;obtain⟨C5,A9,D8⟩:=jY (w.heap.size+1+1) (by exact S8) b7;rw[iA]))
    have y0:w1.cell? ⟨w.heap.size+1,0,none⟩=some (.bool x.neg):=(A9 _ _ (XW _)).trans x0;have y1:w1.cell? ⟨w.heap.size+1,1,none⟩=some (.slice x.a x.n x.cap):=(A9 _ _ (XW _)).trans x1;have y2:∀ o,w1.frozen? ⟨w.heap.size+1,o,none⟩=false:=λ o=>(D8 _ _ (XW _)).trans (x2 o)
    go_wp2
    go_roundw
    case rel =>
     refine⟨i+1,f i,by omega,by go_num,by simp[go_sem,y0,y1],by simp[go_sem,y0,y1],by intro o;simp[go_sem,y2],?_,?_,?_⟩
     ·rw[zA HZ];exact ((hint.bw (Below.refl _ _).drew).bw b7).put2 y0 y1 _ _
     ·simpa [World.setCell] using C5
     ·exact ((B8.trans ((zB (Below.refl _ _).drew b7).mono (by omega))).setCell (p:=⟨w.heap.size+1,0,none⟩) (XW _) _).setCell (p:=⟨w.heap.size+1,1,none⟩) (XW _) _
    case measure=>simp[intOf];omega
   ·have iA:¬ zF (z i) (jB z (i-1))<0:=zD4 hc
    have HZ:=zC (zKG hc);go_wp2
    go_region_held3 (λ w'=>w'.cell? ⟨b,i*2,none⟩=some (.bool (f i).neg)/\w'.cell? ⟨b,i*2+1,none⟩=some (.slice (f i).a (f i).n (f i).cap)/\nK0 w' (w.heap.size+1) x) ((dsimp only[cK,cK0,nK,nK0,rK,rK0];go_keep))
     (first
      | (go_at_call 46;refine (zU _ _ _ _ _ _ _ _ k k (z i) (jB z (i-1)) _ (hint.bw (Below.refl _ _).drew) (hx.bw (Below.refl _ _).drew)).mono ?_;rintro r w1 ⟨rfl,b7⟩;obtain⟨C5,A9,D8⟩:=jY (w.heap.size+1+1) (by exact S8) b7))
    have y0:w1.cell? ⟨w.heap.size+1,0,none⟩=some (.bool x.neg):=(A9 _ _ (XW _)).trans x0;have y1:w1.cell? ⟨w.heap.size+1,1,none⟩=some (.slice x.a x.n x.cap):=(A9 _ _ (XW _)).trans x1;have y2:∀ o,w1.frozen? ⟨w.heap.size+1,o,none⟩=false:=λ o=>(D8 _ _ (XW _)).trans (x2 o)
    go_wp2
    go_roundw
    case rel =>
     exact⟨i+1,x,by omega,by go_num,y0,y1,y2,by rw[zA HZ];exact (hx.bw (Below.refl _ _).drew).bw b7,C5,B8.trans ((zB (Below.refl _ _).drew b7).mono (by omega))⟩
    case measure=>simp[intOf];omega
  ·have hiE:i=n+1:=by omega
   subst hiE;have q3:wr.cell? ⟨w.heap.size,0,none⟩=some (.bool false):=(B8.cell (p:=⟨w.heap.size,0,none⟩) (Nat.lt_succ_self _)).trans (by simp[go_sem])
   have q4:wr.cell? ⟨w.heap.size,1,none⟩=some (.slice none 0 0):=(B8.cell (p:=⟨w.heap.size,1,none⟩) (Nat.lt_succ_self _)).trans (by simp[go_sem])
   have q5:∀ o,wr.frozen? ⟨w.heap.size,o,none⟩=false:=λ o=>(B8.frozen (p:=⟨w.heap.size,o,none⟩) (Nat.lt_succ_self _)).trans (by simp[go_sem])
   clear h tR tS;go_wp2;refine bodyPost_ret (v:=.agg x.q) (by simp[results,Tryz.results106,go_sem,q3,q4]) rfl ⟨x.neg,x.a,x.n,x.cap,rfl,hx.put2 q3 q4 _ _,?_⟩
   exact (hB.setCell (p:=⟨w.heap.size,0,none⟩) (XW _) _).setCell (p:=⟨w.heap.size,1,none⟩) (XW _) _
def zJK (t:Int) (z:Nat->Int):Nat->Int
 | 0=>z 0
 | n+1=>if zF (z (n+1)) (zJK t z n)=t then z (n+1) else zJK t z n
theorem zOD (z:Nat->Int) (n:Nat):zJK 1 z n=jP z n:=by
 induction n with
 | zero=>rfl
 | succ n ih =>
  simp only[zJK,jP,ih]
  by_cases h:jP z n<z (n+1)
  ·have:zF (z (n+1)) (jP z n)=1:=by unfold zF;rw[if_neg (by omega),if_pos h]
   simp[this,h]
  ·have:zF (z (n+1)) (jP z n)≠1:=by have:=zD7 h;omega
   simp[this,h]
theorem zNJ (z:Nat->Int) (n:Nat):zJK (-1) z n=jB z n:=by
 induction n with
 | zero=>rfl
 | succ n ih =>
  simp only[zJK,jB,ih]
  by_cases h:z (n+1)<jB z n
  ·have:zF (z (n+1)) (jB z n) = -1:=by unfold zF;rw[if_pos h]
   simp[this,h]
  ·have:zF (z (n+1)) (jB z n) ≠ -1:=by have:=zD4 h;omega
   simp[this,h]
theorem zJU (w:World) (o:Obj) (p:Addr) (h:p.block<w.heap.size):(w.alloc o).frozen? p=w.frozen? p:=World.frozen?_of_block (Below.heap_alloc w o p.block h)
theorem zEK (t:Int) (b n cap k:Nat) (f:Nat->Nm) (z:Nat->Int) (w:World) (h:Nums w b (n+1) k f z) (hk:k<=1000000000) (hn:n<=1000) :
  Calls Tryz.prog 196 #[.int .i64 t,.slice (some ⟨b,0,none⟩) (n+1) cap] w λ r w' =>
   ∃ j8 a' n' m7,r=.returned (.agg #[.bool j8,.slice a' n' m7])/\IntAt w' j8 a' n' m7 (k+1) (zJK t z n)/\Below w.heap.size w w':=by
 have iF:=h.lt
 go_enter Tryz.func196,Tryz.ntmps196
 go_wp2
 go_loopw [10] (λ ii wr=>∃ (i:Nat) (x:Nm),i<=n+1/\ii=.int .i64 i/\wr.cell? ⟨w.heap.size+1,0,none⟩=some (.bool x.neg)/\wr.cell? ⟨w.heap.size+1,1,none⟩=some (.slice x.a x.n x.cap)/\(∀ o,wr.frozen? ⟨w.heap.size+1,o,none⟩=false)/\(0<i->IntAt wr x.neg x.a x.n x.cap k (zJK t z (i-1)))/\w.heap.size+1+1<=wr.heap.size /\
   Below (w.heap.size+1) (w.alloc (.cells #[.bool false,.slice none 0 0] 26)) wr) (λ ii _=>n+1-(intOf ii).toNat)
 case atStart =>
  exact⟨0,⟨false,none,0,0⟩,by omega,rfl,by simp[go_sem],by simp[go_sem],by intro o;simp[go_sem],λ h=>by omega,by simp,(Below.refl _ _).alloc (by simp) _⟩
 case round =>
  obtain⟨i,x,hi,rfl,x0,x1,x2,hx,S8,B8⟩:=hrel;have hB:Below w.heap.size w wr:=(bl1 _ _).trans (B8.mono (by omega))
  by_cases G4:i<n+1
  ·have g0:=(h.bw hB).c0 i G4
   have g1:=(h.bw hB).c1 i G4;have hint:=(h.bw hB).int i G4;have oT:(0:Int)<=(i:Int):=by omega
   have O9:(i:Int)<(n:Int)+1:=by omega
   have Il:b<=w.heap.size+1:=by omega
   have hne:w.heap.size+1≠b:=by omega
   have tT:b≠w.heap.size+1:=by omega
   have pc:w.heap.size+1<wr.heap.size:=by omega
   have hne2:w.heap.size+1≠wr.heap.size:=by omega
   have hne3:wr.heap.size≠w.heap.size+1:=by omega
   have HH:=zC h;clear h
   by_cases hz:i=0
   ·subst hz
    go_wp2
    go_roundw
    case rel =>
     refine⟨1,f 0,by omega,rfl,?_,?_,?_,λ _=>?_,?_,?_⟩
     ·simp[go_sem,pc,x0,x1]
     ·simp[go_sem,pc,x0,x1]
     ·intro o;rw[zJU _ _ _ (by simpa [World.setCell] using pc)];simp[go_sem,x2]
     ·exact ((hint.put2 x0 x1 _ _).bw (bl1 _ _))
     ·simp[World.setCell];omega
     ·exact ((B8.setCell (p:=⟨w.heap.size+1,0,none⟩) (XW _) _).setCell (p:=⟨w.heap.size+1,1,none⟩) (XW _) _).alloc (by simp[World.setCell];omega) _
    case measure=>simp[intOf]
   ·have HX:=zC (hx (by omega))
    have Ix:((i:Int) == 0)=false:=by simp;omega
    obtain⟨j,hj⟩:∃ j,i=j+1:=⟨i-1,by omega⟩
    have gF:zJK t z (i+1-1)=if zF (z i) (zJK t z (i-1))=t then z i else zJK t z (i-1):=by subst hj;rfl
    clear hj hx
    by_cases hc:zF (z i) (zJK t z (i-1))=t
    ·have iA:(zF (z i) (zJK t z (i-1)) == t)=true:=by simp[hc]
     rw[if_pos hc] at gF;have HF:=zC gF;clear gF hc;go_wp2_with (go_at_call 46;refine (zU _ _ _ _ _ _ _ _ k k (z i) (zJK t z (i-1)) _ (hint.bw (bl1 _ _)) ((zA HX).bw (bl1 _ _))).mono ?_;rintro r w1 ⟨rfl,b7⟩;obtain⟨C5,A9,D8⟩:=jY (wr.heap.size+1) (by simp) b7;have y3:w.heap.size+1+1<=wr.heap.size+1:=Yf S8;have y0:w1.cell? ⟨w.heap.size+1,0,none⟩=some (.bool x.neg):=((A9 _ _ y3).trans (World.cell?_alloc_past _ _ _ pc)).trans x0;have y1:w1.cell? ⟨w.heap.size+1,1,none⟩=some (.slice x.a x.n x.cap):=((A9 _ _ y3).trans (World.cell?_alloc_past _ _ _ pc)).trans x1;have y2:∀ o,w1.frozen? ⟨w.heap.size+1,o,none⟩=false:=λ o=>((D8 _ _ y3).trans (zJU _ _ _ pc)).trans (x2 o))
     go_roundw
     case rel =>
      refine⟨i+1,f i,by omega,by go_num,by simp[go_sem,y0,y1],by simp[go_sem,y0,y1],by intro o;simp[go_sem,y2],λ _=>?_,?_,?_⟩
      ·rw[zA HF];exact ((hint.bw (bl1 _ _)).bw b7).put2 y0 y1 _ _
      ·have:=Nat.le_trans y3 C5;simpa [World.setCell] using this
      ·exact ((B8.trans ((zB (bl1 _ _) b7).mono (by omega))).setCell (p:=⟨w.heap.size+1,0,none⟩) (XW _) _).setCell (p:=⟨w.heap.size+1,1,none⟩) (XW _) _
     case measure=>simp[intOf];omega
    ·have iA:(zF (z i) (zJK t z (i-1)) == t)=false:=by simp[hc]
     rw[if_neg hc] at gF;have HF:=zC gF;clear gF hc;go_wp2_with (go_at_call 46;refine (zU _ _ _ _ _ _ _ _ k k (z i) (zJK t z (i-1)) _ (hint.bw (bl1 _ _)) ((zA HX).bw (bl1 _ _))).mono ?_;rintro r w1 ⟨rfl,b7⟩;obtain⟨C5,A9,D8⟩:=jY (wr.heap.size+1) (by simp) b7;have y3:w.heap.size+1+1<=wr.heap.size+1:=Yf S8;have y0:w1.cell? ⟨w.heap.size+1,0,none⟩=some (.bool x.neg):=((A9 _ _ y3).trans (World.cell?_alloc_past _ _ _ pc)).trans x0;have y1:w1.cell? ⟨w.heap.size+1,1,none⟩=some (.slice x.a x.n x.cap):=((A9 _ _ y3).trans (World.cell?_alloc_past _ _ _ pc)).trans x1;have y2:∀ o,w1.frozen? ⟨w.heap.size+1,o,none⟩=false:=λ o=>((D8 _ _ y3).trans (zJU _ _ _ pc)).trans (x2 o))
     go_roundw
     case rel =>
      exact⟨i+1,x,by omega,by go_num,y0,y1,y2,λ _=>by rw[zA HF];exact ((zA HX).bw (bl1 _ _)).bw b7,Nat.le_trans y3 C5,B8.trans ((zB (bl1 _ _) b7).mono (by omega))⟩
     case measure=>simp[intOf];omega
  ·have hiE:i=n+1:=by omega
   subst hiE;have q3:wr.cell? ⟨w.heap.size,0,none⟩=some (.bool false):=(B8.cell (p:=⟨w.heap.size,0,none⟩) (Nat.lt_succ_self _)).trans (by simp[go_sem])
   have q4:wr.cell? ⟨w.heap.size,1,none⟩=some (.slice none 0 0):=(B8.cell (p:=⟨w.heap.size,1,none⟩) (Nat.lt_succ_self _)).trans (by simp[go_sem])
   have q5:∀ o,wr.frozen? ⟨w.heap.size,o,none⟩=false:=λ o=>(B8.frozen (p:=⟨w.heap.size,o,none⟩) (Nat.lt_succ_self _)).trans (by simp[go_sem])
   have HX:=zC (hx (by omega))
   clear h hx;go_wp2_with (go_at_call 206;refine (zN4 _ _ _ _ k _ _ (zA HX) hk).mono ?_;rintro r w1 ⟨g9,a1,n1,c1,rfl,k9,b7⟩;obtain⟨C5,A9,D8⟩:=jY (w.heap.size+1+1) S8 b7);have y0:w1.cell? ⟨w.heap.size,0,none⟩=some (.bool false):=(A9 _ _ (by omega)).trans q3
   have y1:w1.cell? ⟨w.heap.size,1,none⟩=some (.slice none 0 0):=(A9 _ _ (by omega)).trans q4
   refine bodyPost_ret (v:=.agg #[.bool g9,.slice a1 n1 c1]) (by simp[results,Tryz.results196,go_sem,y0,y1]) rfl ⟨g9,a1,n1,c1,rfl,?_,?_⟩
   ·simp only[Nat.add_sub_cancel] at k9;exact k9.put2 y0 y1 _ _
   ·exact ((zB hB b7).setCell (p:=⟨w.heap.size,0,none⟩) (XW _) _).setCell (p:=⟨w.heap.size,1,none⟩) (XW _) _
theorem zEV (b n cap k:Nat) (f:Nat->Nm) (z:Nat->Int) (w:World) (h:Nums w b (n+1) k f z) (hk:k<=1000000000) (hn:n<=1000) :
  Calls Tryz.prog 180 #[.slice (some ⟨b,0,none⟩) (n+1) cap] w λ r w' =>
   ∃ j8 a' n' m7,r=.returned (.agg #[.bool j8,.slice a' n' m7])/\IntAt w' j8 a' n' m7 (k+1) (jP z n)/\Below w.heap.size w w':=by
 rw[<- zOD]
 go_enter Tryz.func180,Tryz.ntmps180
 go_wp2_with (go_at_call 196;refine (zEK (1) _ _ _ k f z _ (h.bw (bl1 _ _)) hk hn).mono ?_;rintro r w1 ⟨g9,a1,n1,c1,rfl,k9,b7⟩;obtain⟨C5,A9,D8⟩:=jY (w.heap.size+1) (by simp) b7)
 have y0:w1.cell? ⟨w.heap.size,0,none⟩=some (.bool false):=by simp[A9,go_sem]
 have y1:w1.cell? ⟨w.heap.size,1,none⟩=some (.slice none 0 0):=by simp[A9,go_sem]
 refine bodyPost_ret (v:=.agg #[.bool g9,.slice a1 n1 c1]) (by simp[results,Tryz.results180,go_sem,y0,y1]) rfl ⟨g9,a1,n1,c1,rfl,k9.put2 y0 y1 _ _,?_⟩
 exact ((zB (bl1 _ _) b7).setCell (p:=⟨w.heap.size,0,none⟩) (XW _) _).setCell (p:=⟨w.heap.size,1,none⟩) (XW _) _
theorem zC2 (b n cap k:Nat) (f:Nat->Nm) (z:Nat->Int) (w:World) (h:Nums w b (n+1) k f z) (hk:k<=1000000000) (hn:n<=1000) :
  Calls Tryz.prog 177 #[.slice (some ⟨b,0,none⟩) (n+1) cap] w λ r w' =>
   ∃ j8 a' n' m7,r=.returned (.agg #[.bool j8,.slice a' n' m7])/\IntAt w' j8 a' n' m7 (k+1) (jB z n)/\Below w.heap.size w w':=by
 rw[<- zNJ]
 go_enter Tryz.func177,Tryz.ntmps177
 go_wp2_with (go_at_call 196;refine (zEK (-1) _ _ _ k f z _ (h.bw (bl1 _ _)) hk hn).mono ?_;rintro r w1 ⟨g9,a1,n1,c1,rfl,k9,b7⟩;obtain⟨C5,A9,D8⟩:=jY (w.heap.size+1) (by simp) b7)
 have y0:w1.cell? ⟨w.heap.size,0,none⟩=some (.bool false):=by simp[A9,go_sem]
 have y1:w1.cell? ⟨w.heap.size,1,none⟩=some (.slice none 0 0):=by simp[A9,go_sem]
 refine bodyPost_ret (v:=.agg #[.bool g9,.slice a1 n1 c1]) (by simp[results,Tryz.results177,go_sem,y0,y1]) rfl ⟨g9,a1,n1,c1,rfl,k9.put2 y0 y1 _ _,?_⟩
 exact ((zB (bl1 _ _) b7).setCell (p:=⟨w.heap.size,0,none⟩) (XW _) _).setCell (p:=⟨w.heap.size,1,none⟩) (XW _) _
def pr {α:Type} (x y:α) (j:Nat):α:=if j=0 then x else y
structure SpAt (w:World) (s:Sp) (k:Nat) (lo hi:Int):Prop where
 lo:IntAt w s.ln s.la s.lN s.lc k lo
 hi:IntAt w s.hn s.ha s.hN s.hc k hi
theorem SpAt.bw {w w':World} {s:Sp} {k:Nat} {lo hi:Int} (h:SpAt w s k lo hi) (hb:Below w.heap.size w w'):SpAt w' s k lo hi:=⟨h.lo.bw hb,h.hi.bw hb⟩
def zF7 (x y:Int):Int:=if x<y then y else x
def minZ (x y:Int):Int:=if y<x then y else x
theorem nums2 (w:World) (x y:Nm) (k:Nat) (zx zy:Int) (T:TypeId) (hx:IntAt w x.neg x.a x.n x.cap k zx) (hy:IntAt w y.neg y.a y.n y.cap k zy) :
  Nums (w.alloc (.cells #[.bool x.neg,.slice x.a x.n x.cap,.bool y.neg,.slice y.a y.n y.cap] T)) w.heap.size 2 k (pr x y) (pr zx zy):=by
 refine⟨by simp,?_,?_,?_⟩
 all_goals
  intro j hj
  match j,hj with
  | 0,_=>first|(simp[pr];done)|exact hx.bw (bl1 _ _)
  | 1,_=>first|(simp[pr];done)|exact hy.bw (bl1 _ _)
theorem most2 (w:World) (B:Nat) (hB:w.heap.size=B) (x y:Nm) (k:Nat) (zx zy:Int) (T:TypeId) (cap:Nat) (hx:IntAt w x.neg x.a x.n x.cap k zx) (hy:IntAt w y.neg y.a y.n y.cap k zy) (hk:k<=1000000000) :
  Calls Tryz.prog 180 #[.slice (some ⟨B,0,none⟩) 2 cap] (w.alloc (.cells #[.bool x.neg,.slice x.a x.n x.cap,.bool y.neg,.slice y.a y.n y.cap] T)) λ r w' =>
   ∃ j8 a' n' m7,r=.returned (.agg #[.bool j8,.slice a' n' m7])/\IntAt w' j8 a' n' m7 (k+1) (zF7 zx zy)/\Below w.heap.size w w':=by
 subst hB;exact (zEV w.heap.size 1 cap k (pr x y) (pr zx zy) _ (nums2 w x y k zx zy T hx hy) hk (by omega)).mono λ _ _ ⟨n1,n2,n3,n4,q1,q2,q3⟩=>⟨n1,n2,n3,n4,q1,q2,(bl1 _ _).trans (q3.mono (by simp))⟩
theorem least2 (w:World) (B:Nat) (hB:w.heap.size=B) (x y:Nm) (k:Nat) (zx zy:Int) (T:TypeId) (cap:Nat) (hx:IntAt w x.neg x.a x.n x.cap k zx) (hy:IntAt w y.neg y.a y.n y.cap k zy) (hk:k<=1000000000) :
  Calls Tryz.prog 177 #[.slice (some ⟨B,0,none⟩) 2 cap] (w.alloc (.cells #[.bool x.neg,.slice x.a x.n x.cap,.bool y.neg,.slice y.a y.n y.cap] T)) λ r w' =>
   ∃ j8 a' n' m7,r=.returned (.agg #[.bool j8,.slice a' n' m7])/\IntAt w' j8 a' n' m7 (k+1) (minZ zx zy)/\Below w.heap.size w w':=by
 subst hB;exact (zC2 w.heap.size 1 cap k (pr x y) (pr zx zy) _ (nums2 w x y k zx zy T hx hy) hk (by omega)).mono λ _ _ ⟨n1,n2,n3,n4,q1,q2,q3⟩=>⟨n1,n2,n3,n4,q1,q2,(bl1 _ _).trans (q3.mono (by simp))⟩
theorem zBO (w:World) (s:Sp) (k:Nat) (lo hi:Int) (h:SpAt w s k lo hi) (hk:k<=900000000) :
  Calls Tryz.prog 175 #[.agg s.q] w λ r w' =>
   ∃ j8 a' n' m7,r=.returned (.agg #[.bool j8,.slice a' n' m7])/\IntAt w' j8 a' n' m7 (k+1) (zF7 hi (-lo))/\Below w.heap.size w w':=by
 go_enter Tryz.func175,Tryz.ntmps175
 go_wp2
 go_region_held3 (λ w'=>w'.cell? ⟨w.heap.size,0,none⟩=some (.bool s.ln)/\w'.cell? ⟨w.heap.size,1,none⟩=some (.slice s.la s.lN s.lc)/\w'.cell? ⟨w.heap.size,2,none⟩=some (.bool s.hn)/\w'.cell? ⟨w.heap.size,3,none⟩=some (.slice s.ha s.hN s.hc)) (go_keep)
  (first
   | (go_at_call 103;refine (kC _ _ _ _ k lo _ (h.lo.bw (bl2 _ _ _).drew) (by omega)).mono ?_;rintro r w1 ⟨g9,a1,n1,c1,rfl,k9,b7⟩;obtain⟨C5,A9,D8⟩:=jY (w.heap.size+1+1) (by simp) b7;have L4:=Yd (Nat.lt_succ_of_lt (Nat.lt_succ_self w.heap.size)) C5;have J8:=Yd (Nat.lt_succ_self (w.heap.size+1)) C5)
   | (go_at_call 180;refine (most2 w1 _ rfl ⟨s.hn,s.ha,s.hN,s.hc⟩ ⟨g9,a1,n1,c1⟩ k hi (-lo) _ _ (h.hi.bw (zB (bl2 _ _ _).drew b7)) k9 (by omega)).mono ?_;rintro r w2 ⟨b6,a2,n2,c2,rfl,o0,b9⟩;obtain⟨D7,C7,G0⟩:=jY (w.heap.size+1+1) C5 b9))
 go_wp2;have y0:w2.cell? ⟨w.heap.size+1,0,none⟩=some (.bool false):=by simp[C7,A9,go_sem]
 have y1:w2.cell? ⟨w.heap.size+1,1,none⟩=some (.slice none 0 0):=by simp[C7,A9,go_sem]
 refine bodyPost_ret (v:=.agg #[.bool b6,.slice a2 n2 c2]) (by simp[results,Tryz.results175,go_sem,y0,y1]) rfl ⟨b6,a2,n2,c2,rfl,o0.put2 y0 y1 _ _,?_⟩
 exact ((zB (zB (bl2 _ _ _).drew b7) b9).setCell (p:=⟨w.heap.size+1,0,none⟩) (Yh _) _).setCell (p:=⟨w.heap.size+1,1,none⟩) (Yh _) _
def zJJ (lo hi K n:Int):Bool:=decide ((hi-lo)*K<=n*(K+zF7 hi (-lo)))
theorem zH1 (x y:Int):decide (zF x y<=0)=decide (x<=y):=by
 rw[decide_eq_decide];unfold zF
 by_cases h:x<y
 ·rw[if_pos h];omega
 ·rw[if_neg h]
  by_cases h2:y<x
  ·rw[if_pos h2];omega
  ·rw[if_neg h2];omega
def VarAt (w:World) (p:Value) (H k:Nat) (z:Int):Prop :=
 ∃ (B:Nat) (x:Nm),p=.pointer (some ⟨B,0,none⟩)/\w.cell? ⟨B,0,none⟩=some (.bool x.neg)/\w.cell? ⟨B,1,none⟩=some (.slice x.a x.n x.cap)/\IntAt w x.neg x.a x.n x.cap k z/\H<=B/\B<w.heap.size
theorem varA {w:World} {neg:Bool} {a:Option Addr} {n cap k:Nat} {z:Int} (h:IntAt w neg a n cap k z) (T:TypeId) (H:Nat) (hH:H<=w.heap.size):VarAt (w.alloc (.cells #[.bool neg,.slice a n cap] T)) (.pointer (some ⟨w.heap.size,0,none⟩)) H k z :=
 ⟨w.heap.size,⟨neg,a,n,cap⟩,rfl,by simp,by simp,h.bw (bl1 _ _),hH,by simp⟩
theorem varB {w:World} {neg:Bool} {a:Option Addr} {n cap k:Nat} {z:Int} (h:IntAt w neg a n cap k z) (H B:Nat) (h0:w.cell? ⟨B,0,none⟩=some (.bool false)) (h1:w.cell? ⟨B,1,none⟩=some (.slice none 0 0)) (hH:H<=B) :
  VarAt ((w.setCell ⟨B,0,none⟩ (.bool neg)).setCell ⟨B,1,none⟩ (.slice a n cap)) (.pointer (some ⟨B,0,none⟩)) H k z :=
 ⟨B,⟨neg,a,n,cap⟩,rfl,by simp[go_sem,h0,h1],by simp[go_sem,h0,h1],h.put2 h0 h1 _ _,hH,by
  have:=World.block_lt_of_cell? w ⟨B,0,none⟩ h0
  simpa [World.setCell] using this⟩
theorem VarAt.mono {w:World} {p:Value} {H k k':Nat} {z:Int} (h:VarAt w p H k z) (hk:k<=k'):VarAt w p H k' z:=by
 obtain⟨B,x,h1,h2,h3,h4,h5,h6⟩:=h;exact⟨B,x,h1,h2,h3,h4.mono hk,h5,h6⟩
theorem zGU (w:World) (s:Sp) (b n:Nat) (lo hi:Int) (h:SpAt w s 250 lo hi) (hb:s.bits=b) (b7:b<=120) (hn:n<=1000000) :
  Calls Tryz.prog 139 #[.agg #[.bool s.ln,.slice s.la s.lN s.lc,.bool s.hn,.slice s.ha s.hN s.hc,.int .i64 s.bits],.int .i64 n] w λ r w' =>
   r=.returned (.bool (zJJ lo hi (Q b) n))/\Below w.heap.size w w':=by
 rw[hb]
 go_enter Tryz.func139,Tryz.ntmps139
 go_wp2
 go_cut [5] (λ p wx=>VarAt wx p (w.heap.size+1) 400 ((hi-lo)*Q b)/\Below (w.heap.size+1) (w.alloc (.cells #[.bool s.ln,.slice s.la s.lN s.lc,.bool s.hn,.slice s.ha s.hN s.hc,.int .i64 b] 28)) wx)
 case first =>
  go_region_held3 (λ w'=>w'.cell? ⟨w.heap.size,0,none⟩=some (.bool s.ln)/\w'.cell? ⟨w.heap.size,1,none⟩=some (.slice s.la s.lN s.lc)/\w'.cell? ⟨w.heap.size,2,none⟩=some (.bool s.hn)/\w'.cell? ⟨w.heap.size,3,none⟩=some (.slice s.ha s.hN s.hc)/\w'.cell? ⟨w.heap.size,4,none⟩=some (.int .i64 b)) (go_keep)
   (first
    | (go_at_call 72;refine (zAD _ _ _ _ _ _ _ _ 250 250 hi lo _ (h.hi.bw (by first|exact (bl1 _ _).drew|exact (bl2 _ _ _).drew)) (h.lo.bw (by first|exact (bl1 _ _).drew|exact (bl2 _ _ _).drew)) (by omega) (by omega)).mono ?_;rintro r w1 ⟨g9,a1,n1,c1,rfl,k9,b7⟩;obtain⟨hs1,A9,D8⟩:=jY _ (XW _) b7;(try simp at hs1);have O5:w.heap.size<w1.heap.size:=Yd (by first|exact Nat.lt_succ_self _|exact Nat.lt_succ_of_lt (Nat.lt_succ_self _)) hs1;have KY:=Nat.le_of_lt O5;have di:w.heap.size+1<=w1.heap.size:=O5;have kl:=Yi O5;have CH:=Yj O5)
    | (go_at_call 95;refine (zBF _ _ _ _ b 251 (hi-lo) _ (k9.bw (by first|exact Below.refl _ _|exact bl1 _ _)) (by omega) (by omega)).mono ?_;rintro r w2 ⟨b6,a2,n2,c2,rfl,o0,b9⟩;obtain⟨aT,C7,G0⟩:=jY _ (XW _) b9;have Z3:w1.heap.size<=w2.heap.size:=Nat.le_trans (by simp) aT;have eO:=Yd O5 Z3;have km:=Yi eO;have pd:w.heap.size+1<=w2.heap.size:=eO;have CI:=Yj eO;(try simp at aT)))
  ·go_wp2_with fail
   go_meet;refine⟨(varA o0 _ _ pd).mono (by omega),?_⟩
   exact (((zB (Below.refl _ _).drew b7).mono (by simp)).trans (b9.mono di)).alloc pd _
  ·go_wp2_with fail
   go_meet;have h0:w2.cell? ⟨w1.heap.size,0,none⟩=some (.bool false):=by simp[C7]
   have h1:w2.cell? ⟨w1.heap.size,1,none⟩=some (.slice none 0 0):=by simp[C7]
   refine⟨(varB o0 _ _ h0 h1 di).mono (by omega),?_⟩
   exact (((((zB (Below.refl _ _).drew b7).mono (by simp)).alloc di _).trans (b9.mono (by simp;omega))).setCell di _).setCell di _
  ·go_wp2_with fail
   go_meet;have h0:w2.cell? ⟨w.heap.size+1,0,none⟩=some (.bool false):=by simp[C7,A9,hs1,go_sem]
   have h1:w2.cell? ⟨w.heap.size+1,1,none⟩=some (.slice none 0 0):=by simp[C7,A9,hs1,go_sem]
   refine⟨(varB o0 _ _ h0 h1 (XW _)).mono (by omega),?_⟩
   exact ((((((Below.refl _ _).alloc (by simp) _).drew.trans (b7.mono (by simp))).trans (b9.mono di)).setCell (p:=⟨w.heap.size+1,0,none⟩) (XW _) _).setCell (p:=⟨w.heap.size+1,1,none⟩) (XW _) _)
 case rest =>
 obtain⟨⟨B5,x5,rfl,Iy,Iz,O0,M6,iG⟩,Q0⟩:=hcut
 rename World=>wA
 have cf:=Q0.size;simp at cf;have SX:wA.cell? ⟨w.heap.size,0,none⟩=some (.bool s.ln):=(Q0.cell (p:=⟨w.heap.size,0,none⟩) (Nat.lt_succ_self _)).trans (by simp)
 have SY:wA.cell? ⟨w.heap.size,1,none⟩=some (.slice s.la s.lN s.lc):=(Q0.cell (p:=⟨w.heap.size,1,none⟩) (Nat.lt_succ_self _)).trans (by simp)
 have SZ:wA.cell? ⟨w.heap.size,2,none⟩=some (.bool s.hn):=(Q0.cell (p:=⟨w.heap.size,2,none⟩) (Nat.lt_succ_self _)).trans (by simp)
 have Ta:wA.cell? ⟨w.heap.size,3,none⟩=some (.slice s.ha s.hN s.hc):=(Q0.cell (p:=⟨w.heap.size,3,none⟩) (Nat.lt_succ_self _)).trans (by simp)
 have Tb:wA.cell? ⟨w.heap.size,4,none⟩=some (.int .i64 b):=(Q0.cell (p:=⟨w.heap.size,4,none⟩) (Nat.lt_succ_self _)).trans (by simp)
 have Ba:w.heap.size<wA.heap.size:=cf;have CJ:w.heap.size+1<=wA.heap.size:=cf;have KZ:w.heap.size<=wA.heap.size:=Nat.le_of_lt cf;have hdr:wA.drew.heap.size=wA.heap.size:=rfl;have hwn:wA.heap.size≠w.heap.size:=by omega
 have hwn':w.heap.size≠wA.heap.size:=by omega
 go_wp2
 go_cut [6] (λ p wx=>VarAt wx p (w.heap.size+1) 20 (Q b)/\Below wA.heap.size wA wx)
 case first =>
  go_region_held3 (λ w'=>w'.cell? ⟨w.heap.size,4,none⟩=some (.int .i64 b)) (go_keep)
   (first
    | (go_at_call 43;refine (zD 1 _ (by decide) (by decide)).mono ?_;rintro r w1 ⟨g9,a1,n1,c1,rfl,k9,b7⟩;obtain⟨hs1,A9,D8⟩:=jY _ (XW _) b7;(try simp at hs1);have CK:wA.heap.size<=w1.heap.size:=Nat.le_trans (by simp) hs1;have O5:w.heap.size<w1.heap.size:=Yd Ba CK;have KY:=Nat.le_of_lt O5;have di:w.heap.size+1<=w1.heap.size:=O5;have kl:=Yi O5;have CH:=Yj O5)
    | (go_at_call 95;refine (zBF _ _ _ _ b 4 1 _ (k9.bw (by first|exact Below.refl _ _|exact bl1 _ _)) (by omega) (by omega)).mono ?_;rintro r w2 ⟨b6,a2,n2,c2,rfl,o0,b9⟩;obtain⟨aT,C7,G0⟩:=jY _ (XW _) b9;have Z3:w1.heap.size<=w2.heap.size:=Nat.le_trans (by simp) aT;have eO:=Yd O5 Z3;have km:=Yi eO;have pd:w.heap.size+1<=w2.heap.size:=eO;have CI:=Yj eO;(try simp at aT)))
  all_goals rw[Int.one_mul] at o0
  ·go_wp2_with fail
   go_meet;refine⟨(varA o0 _ _ pd).mono (by omega),?_⟩
   exact zL (zB (zB (Below.refl _ _).drew b7) b9) _
  ·go_wp2_with fail
   go_meet;have h0:w2.cell? ⟨w1.heap.size,0,none⟩=some (.bool false):=by simp[C7]
   have h1:w2.cell? ⟨w1.heap.size,1,none⟩=some (.slice none 0 0):=by simp[C7]
   refine⟨(varB o0 _ _ h0 h1 di).mono (by omega),?_⟩
   exact ((zB (zL (zB (Below.refl _ _).drew b7) _) b9).setCell (p:=⟨w1.heap.size,0,none⟩) CK _).setCell (p:=⟨w1.heap.size,1,none⟩) CK _
  ·go_wp2_with fail
   go_meet;have h0:w2.cell? ⟨wA.heap.size,0,none⟩=some (.bool false):=by simp[C7,A9,hs1,go_sem]
   have h1:w2.cell? ⟨wA.heap.size,1,none⟩=some (.slice none 0 0):=by simp[C7,A9,hs1,go_sem]
   refine⟨(varB o0 _ _ h0 h1 CJ).mono (by omega),?_⟩
   exact ((zB (zB (bl1 _ _).drew b7) b9).setCell (p:=⟨wA.heap.size,0,none⟩) (XW _) _).setCell (p:=⟨wA.heap.size,1,none⟩) (XW _) _
 case rest =>
 obtain⟨⟨B6,x6,rfl,c60,c61,L9,CN,La⟩,bh⟩:=hcut;have Tc:=bh.size;have d50:wc.cell? ⟨B5,0,none⟩=some (.bool x5.neg):=(bh.cell (p:=⟨B5,0,none⟩) iG).trans Iy;have d51:wc.cell? ⟨B5,1,none⟩=some (.slice x5.a x5.n x5.cap):=(bh.cell (p:=⟨B5,1,none⟩) iG).trans Iz;have hwd:w.heap.size+1<=wc.heap.size:=Nat.le_trans CJ Tc;have e50:wc.cell? ⟨w.heap.size,0,none⟩=some (.bool s.ln):=(bh.cell (p:=⟨w.heap.size,0,none⟩) Ba).trans SX;have e51:wc.cell? ⟨w.heap.size,1,none⟩=some (.slice s.la s.lN s.lc):=(bh.cell (p:=⟨w.heap.size,1,none⟩) Ba).trans SY;have e52:wc.cell? ⟨w.heap.size,2,none⟩=some (.bool s.hn):=(bh.cell (p:=⟨w.heap.size,2,none⟩) Ba).trans SZ;have e53:wc.cell? ⟨w.heap.size,3,none⟩=some (.slice s.ha s.hN s.hc):=(bh.cell (p:=⟨w.heap.size,3,none⟩) Ba).trans Ta;have e54:wc.cell? ⟨w.heap.size,4,none⟩=some (.int .i64 b):=(bh.cell (p:=⟨w.heap.size,4,none⟩) Ba).trans Tb
 have hB:Below w.heap.size w wc:=((bl1 _ _).trans (Q0.mono (by omega))).trans (bh.mono KZ)
 have Lb:=zC (O0.bw bh);have Lc:=zC L9;have HS:=zC (h.bw hB);have hl5:B5+1<=wc.heap.size:=Yd iG Tc;have hl6:B6+1<=wc.heap.size:=La;have HE:=zC (show (decide (zF ((hi-lo)*Q b) (n*(Q b+zF7 hi (-lo)))<=0))=zJJ lo hi (Q b) n from zH1 _ _)
 clear O0 L9 Iy Iz SX SY SZ Ta Tb h Q0;go_wp2
 go_region_held3 (λ w'=>nK w' B5 x5 (nK w' B6 x6 (w'.cell? ⟨w.heap.size,0,none⟩=some (.bool s.ln)/\w'.cell? ⟨w.heap.size,1,none⟩=some (.slice s.la s.lN s.lc)/\w'.cell? ⟨w.heap.size,2,none⟩=some (.bool s.hn)/\w'.cell? ⟨w.heap.size,3,none⟩=some (.slice s.ha s.hN s.hc)/\w'.cell? ⟨w.heap.size,4,none⟩=some (.int .i64 b)))) ((dsimp only[cK,cK0,nK,nK0,rK,rK0];go_keep))
  (first
   | (go_at_call 43;refine (zD (n:Int) _ (by omega) (by omega)).mono ?_;rintro r w1 ⟨g9,a1,n1,c1,rfl,k9,b7⟩;obtain⟨hs1,A9,D8⟩:=jY wc.heap.size (by exact XW _) b7)
   | (go_at_call 175;refine (zBO _ ⟨s.ln,s.la,s.lN,s.lc,s.hn,s.ha,s.hN,s.hc,b⟩ 250 lo hi ⟨((zA HS).bw (zB (Below.refl _ _).drew b7)).lo,((zA HS).bw (zB (Below.refl _ _).drew b7)).hi⟩ (by omega)).mono ?_;rintro r w2 ⟨b6,a2,n2,c2,rfl,o0,b9⟩;obtain⟨aT,C7,G0⟩:=jY wc.heap.size hs1 b9)
   | (go_at_call 65;refine (kX _ _ _ _ _ _ _ _ 20 251 _ _ _ ((zA Lc).bw (zB (zB (Below.refl _ _).drew b7) b9)) o0 (by omega) (by omega)).mono ?_;rintro r w3 ⟨p9,a3,n3,c3,rfl,A8,k8⟩;obtain⟨cg,T6,Z9⟩:=jY wc.heap.size aT k8)
   | (go_at_call 66;refine (zW _ _ _ _ _ _ _ _ 4 252 _ _ _ (k9.bw (zB b9 k8)) A8 (by omega) (by omega)).mono ?_;rintro r w4 ⟨o9,a4,n4,c4,rfl,D9,m9⟩;obtain⟨hs4,oZ,ks⟩:=jY wc.heap.size cg m9)
   | (go_at_call 46;refine (zU _ _ _ _ _ _ _ _ 400 256 _ _ _ ((zA Lb).bw (zB (zB (zB (zB (Below.refl _ _).drew b7) b9) k8) m9)) D9).mono ?_;rintro r w5 ⟨rfl,A7⟩;obtain⟨hs5,SV,CG⟩:=jY wc.heap.size hs4 A7))
 go_wp2
 go_ret
 exact⟨by rw[<- zA HE];rfl,zB (zB (zB (zB (zB hB.drew b7) b9) k8) m9) A7⟩
def pr4 {α:Type} (x y z t:α) (j:Nat):α:=if j=0 then x else if j=1 then y else if j=2 then z else t
theorem zKF (w:World) (B:Nat) (hB:w.heap.size=B) (x y z t:Nm) (k:Nat) (zx zy zz zt:Int) (T:TypeId) (hx:IntAt w x.neg x.a x.n x.cap k zx) (hy:IntAt w y.neg y.a y.n y.cap k zy) (hz:IntAt w z.neg z.a z.n z.cap k zz) (ht:IntAt w t.neg t.a t.n t.cap k zt) :
  Nums (w.alloc (.cells #[.bool x.neg,.slice x.a x.n x.cap,.bool y.neg,.slice y.a y.n y.cap,.bool z.neg,.slice z.a z.n z.cap,.bool t.neg,.slice t.a t.n t.cap] T)) B 4 k (pr4 x y z t) (pr4 zx zy zz zt):=by
 subst hB;refine⟨by simp,?_,?_,?_⟩
 all_goals
  intro j hj
  match j,hj with
  | 0,_=>first|(simp[pr4];done)|exact hx.bw (bl1 _ _)
  | 1,_=>first|(simp[pr4];done)|exact hy.bw (bl1 _ _)
  | 2,_=>first|(simp[pr4];done)|exact hz.bw (bl1 _ _)
  | 3,_=>first|(simp[pr4];done)|exact ht.bw (bl1 _ _)
theorem most4 (lo hi:Int) (h:lo<=hi):jP (pr4 lo hi (-lo) (-hi)) 3=zF7 hi (-lo):=by
 have e1:jP (pr4 lo hi (-lo) (-hi)) 1=hi:=by
  show (if lo<hi then hi else lo)=hi
  split<;>omega
 have e2:jP (pr4 lo hi (-lo) (-hi)) 2=zF7 hi (-lo):=by
  show (if jP (pr4 lo hi (-lo) (-hi)) 1 < -lo then -lo else jP (pr4 lo hi (-lo) (-hi)) 1)=_
  rw[e1];rfl
 show (if jP (pr4 lo hi (-lo) (-hi)) 2 < -hi then -hi else jP (pr4 lo hi (-lo) (-hi)) 2)=_
 rw[e2,if_neg];unfold zF7;split<;>omega
theorem zJA (w:World) (s:Sp) (b n:Nat) (lo hi:Int) (h:SpAt w s 250 lo hi) (hb:s.bits=b) (b7:b<=120) (hn:n<=1000000) (hle:lo<=hi) :
  Calls Tryz.prog 47 #[.agg #[.bool s.ln,.slice s.la s.lN s.lc,.bool s.hn,.slice s.ha s.hN s.hc,.int .i64 s.bits],.int .i64 n] w λ r w' =>
   r=.returned (.bool (zJJ lo hi (Q b) n))/\Below w.heap.size w w':=by
 rw[hb];have HM:=zC (most4 lo hi hle)
 go_enter Tryz.func47,Tryz.ntmps47
 go_wp2;obtain⟨W,hW⟩:∃ W,W=w.alloc (.cells #[.bool s.ln,.slice s.la s.lN s.lc,.bool s.hn,.slice s.ha s.hN s.hc,.int .i64 b] 28):=⟨_,rfl⟩;have k0:W.cell? ⟨w.heap.size,0,none⟩=some (.bool s.ln):=by rw[hW];simp
 have k1:W.cell? ⟨w.heap.size,1,none⟩=some (.slice s.la s.lN s.lc):=by rw[hW];simp
 have k2:W.cell? ⟨w.heap.size,2,none⟩=some (.bool s.hn):=by rw[hW];simp
 have k3:W.cell? ⟨w.heap.size,3,none⟩=some (.slice s.ha s.hN s.hc):=by rw[hW];simp
 have k4:W.cell? ⟨w.heap.size,4,none⟩=some (.int .i64 b):=by rw[hW];simp
 have E4:w.heap.size<W.heap.size:=by rw[hW];simp
 have hlt1:w.heap.size+1<=W.heap.size:=E4;have b8:Below w.heap.size w W:=by rw[hW];exact bl1 _ _
 have hdr:W.drew.heap.size=W.heap.size:=rfl;have HS:=zC (h.bw b8);have hne:W.heap.size≠w.heap.size:=by omega
 have tT:w.heap.size≠W.heap.size:=by omega
 rw[<- hW];clear hW h
 have keepS:∀ w',Below W.heap.size W w'->(w'.cell? ⟨w.heap.size,0,none⟩=some (.bool s.ln)/\w'.cell? ⟨w.heap.size,1,none⟩=some (.slice s.la s.lN s.lc)/\w'.cell? ⟨w.heap.size,2,none⟩=some (.bool s.hn)/\w'.cell? ⟨w.heap.size,3,none⟩=some (.slice s.ha s.hN s.hc)):=λ w' hB =>
  ⟨(hB.cell (p:=⟨w.heap.size,0,none⟩) E4).trans k0,(hB.cell (p:=⟨w.heap.size,1,none⟩) E4).trans k1,(hB.cell (p:=⟨w.heap.size,2,none⟩) E4).trans k2,(hB.cell (p:=⟨w.heap.size,3,none⟩) E4).trans k3⟩
 have HK:=zC keepS;clear keepS
 go_cut [5] (λ p wx=>VarAt wx p W.heap.size 260 (zF7 hi (-lo))/\Below W.heap.size W wx)
 case first =>
  go_region_held3 (λ w'=>w'.cell? ⟨w.heap.size,0,none⟩=some (.bool s.ln)/\w'.cell? ⟨w.heap.size,1,none⟩=some (.slice s.la s.lN s.lc)/\w'.cell? ⟨w.heap.size,2,none⟩=some (.bool s.hn)/\w'.cell? ⟨w.heap.size,3,none⟩=some (.slice s.ha s.hN s.hc)) (exact zA HK _ (by first|exact (Below.refl _ _).drew|exact (bl1 _ _).drew|exact A6|exact zL A6 _|exact o7|exact zL o7 _|exact zL (zL o7 _) _|exact E2|exact zL E2 _|exact (E2.setCell (by first|exact XW _|exact A6.size|exact o7.size|exact Yf o7.size) _).setCell (by first|exact XW _|exact A6.size|exact o7.size|exact Yf o7.size) _))
   (first
    | (go_at_call_of 103 s.la;refine (kC _ _ _ _ 250 lo _ ((zA HS).lo.bw (by first|exact (Below.refl _ _).drew|exact (bl1 _ _).drew)) (by omega)).mono ?_;rintro r w1 ⟨g9,a1,n1,c1,rfl,k9,b7⟩;obtain⟨hs1,A9,D8⟩:=jY _ (XW _) b7;have A6:Below W.heap.size W w1:=(by first|exact zB (Below.refl _ _).drew b7|exact zB (bl1 _ _).drew b7);have O5:=A6.size;have X9:=Yd E4 O5;have hm1s:w.heap.size+1<=w1.heap.size:=X9;have Ld:=Nat.le_of_lt X9;have Td:=Yf Ld;have kl:=Yi X9;have CH:=Yj X9;(try simp at hs1);(try have eG:W.heap.size<w1.heap.size:=hs1);(try have CO:W.heap.size+1<=w1.heap.size:=hs1))
    | (go_at_call_of 103 s.ha;refine (kC _ _ _ _ 250 hi _ ((zA HS).hi.bw (by first|exact A6|exact zL A6 _)) (by omega)).mono ?_;rintro r w2 ⟨b6,a2,n2,c2,rfl,o0,b9⟩;obtain⟨aT,C7,G0⟩:=jY _ (XW _) b9;have kt:Below w1.heap.size w1 w2:=(by first|exact b9|exact zB (bl1 _ _) b9);have o7:=zB A6 kt;have Z3:=kt.size;have qL:=o7.size;(try have ag:=Yd hs1 Z3);have T7:=Yd X9 Z3;have hm2s:w.heap.size+1<=w2.heap.size:=T7;have Le:=Nat.le_of_lt T7;have Te:=Yf Le;have km:=Yi T7;have CI:=Yj T7;(try simp at aT);(try have CP:w1.heap.size<w2.heap.size:=aT);(try have Tf:w1.heap.size+1<=w2.heap.size:=aT);(try have CQ:W.heap.size+1<=w2.heap.size:=ag))
    | (go_at_call_of 102 (Addr.mk w2.heap.size 0 none);refine (zAU w2.heap.size 3 _ 250 (pr4 ⟨s.ln,s.la,s.lN,s.lc⟩ ⟨s.hn,s.ha,s.hN,s.hc⟩ ⟨g9,a1,n1,c1⟩ ⟨b6,a2,n2,c2⟩) (pr4 lo hi (-lo) (-hi)) _ (by first|exact zKF w2 w2.heap.size rfl ⟨s.ln,s.la,s.lN,s.lc⟩ ⟨s.hn,s.ha,s.hN,s.hc⟩ ⟨g9,a1,n1,c1⟩ ⟨b6,a2,n2,c2⟩ 250 _ _ _ _ _ ((zA HS).lo.bw o7) ((zA HS).hi.bw o7) (k9.bw kt) o0|exact (zKF w2 w2.heap.size rfl ⟨s.ln,s.la,s.lN,s.lc⟩ ⟨s.hn,s.ha,s.hN,s.hc⟩ ⟨g9,a1,n1,c1⟩ ⟨b6,a2,n2,c2⟩ 250 _ _ _ _ _ ((zA HS).lo.bw o7) ((zA HS).hi.bw o7) (k9.bw kt) o0).bw (bl1 _ _)) (by omega)).mono ?_;rintro r w3 ⟨p9,a3,n3,c3,rfl,A8,k8⟩;obtain⟨cg,T6,Z9⟩:=jY _ (XW _) k8;have lb:Below w2.heap.size w2 w3:=(by first|exact zB (bl1 _ _) k8|exact zB (bl2 _ _ _) k8);have E2:=zB o7 lb;have Bb:=lb.size;have ae:=Yd T7 Bb;have Lf:w.heap.size+1<=w3.heap.size:=ae;have tV:=Nat.le_of_lt ae;have CR:=Yf tV;have hn3:=Yi ae;have Lh:=Yj ae;(try simp at cg))
    | (go_at_call 102;refine (zAU (w2.heap.size+1) 3 _ 250 (pr4 ⟨s.ln,s.la,s.lN,s.lc⟩ ⟨s.hn,s.ha,s.hN,s.hc⟩ ⟨g9,a1,n1,c1⟩ ⟨b6,a2,n2,c2⟩) (pr4 lo hi (-lo) (-hi)) _ (by exact zKF (w2.alloc (.cells #[.bool false,.slice none 0 0] 26)) (w2.heap.size+1) (Go.Deep.nblk_alloc _ _) ⟨s.ln,s.la,s.lN,s.lc⟩ ⟨s.hn,s.ha,s.hN,s.hc⟩ ⟨g9,a1,n1,c1⟩ ⟨b6,a2,n2,c2⟩ 250 _ _ _ _ _ ((zA HS).lo.bw (zL o7 _)) ((zA HS).hi.bw (zL o7 _)) (k9.bw (zL kt _)) (o0.bw (bl1 _ _))) (by omega)).mono ?_;rintro r w3 ⟨p9,a3,n3,c3,rfl,A8,k8⟩;obtain⟨cg,T6,Z9⟩:=jY _ (XW _) k8;have lb:Below w2.heap.size w2 w3:=(by first|exact zB (bl1 _ _) k8|exact zB (bl2 _ _ _) k8);have E2:=zB o7 lb;have Bb:=lb.size;have ae:=Yd T7 Bb;have Lf:w.heap.size+1<=w3.heap.size:=ae;have tV:=Nat.le_of_lt ae;have CR:=Yf tV;have hn3:=Yi ae;have Lh:=Yj ae;(try simp at cg)))
  all_goals rw[zA HM] at A8
  ·go_wp2_with fail
   go_meet;exact⟨(varA A8 _ _ E2.size).mono (by omega),zL E2 _⟩
  ·go_wp2_with fail
   go_meet;have h0:w3.cell? ⟨w2.heap.size+1,0,none⟩=some (.bool false):=by simp[T6,go_sem]
   have h1:w3.cell? ⟨w2.heap.size+1,1,none⟩=some (.slice none 0 0):=by simp[T6,go_sem]
   exact⟨(varB A8 _ _ h0 h1 (Yf qL)).mono (by omega),(E2.setCell (p:=⟨w2.heap.size+1,0,none⟩) (Yf qL) _).setCell (p:=⟨w2.heap.size+1,1,none⟩) (Yf qL) _⟩
  ·go_wp2_with fail
   go_meet;have h0:w3.cell? ⟨w2.heap.size,0,none⟩=some (.bool false):=by simp[T6,go_sem]
   have h1:w3.cell? ⟨w2.heap.size,1,none⟩=some (.slice none 0 0):=by simp[T6,go_sem]
   exact⟨(varB A8 _ _ h0 h1 qL).mono (by omega),(E2.setCell (p:=⟨w2.heap.size,0,none⟩) qL _).setCell (p:=⟨w2.heap.size,1,none⟩) qL _⟩
  ·go_wp2_with fail
   go_meet;have h0:w3.cell? ⟨w1.heap.size,0,none⟩=some (.bool false):=by simp[T6,C7,CP,Z3,go_sem]
   have h1:w3.cell? ⟨w1.heap.size,1,none⟩=some (.slice none 0 0):=by simp[T6,C7,CP,Z3,go_sem]
   exact⟨(varB A8 _ _ h0 h1 O5).mono (by omega),(E2.setCell (p:=⟨w1.heap.size,0,none⟩) O5 _).setCell (p:=⟨w1.heap.size,1,none⟩) O5 _⟩
  ·go_wp2_with fail
   go_meet;have h0:w3.cell? ⟨W.heap.size,0,none⟩=some (.bool false):=by simp[T6,C7,A9,eG,CO,ag,CQ,qL,go_sem]
   have h1:w3.cell? ⟨W.heap.size,1,none⟩=some (.slice none 0 0):=by simp[T6,C7,A9,eG,CO,ag,CQ,qL,go_sem]
   exact⟨(varB A8 _ _ h0 h1 (XW _)).mono (by omega),(E2.setCell (p:=⟨W.heap.size,0,none⟩) (XW _) _).setCell (p:=⟨W.heap.size,1,none⟩) (XW _) _⟩
 case rest =>
 obtain⟨⟨B5,x5,rfl,Iy,Iz,O0,M6,iG⟩,Q0⟩:=hcut;have Lb:=zC O0;have cm:=zC ((zA HS).bw Q0);have iH:=Yd E4 Q0.size;have e4:wc.cell? ⟨w.heap.size,4,none⟩=some (.int .i64 b):=(Q0.cell (p:=⟨w.heap.size,4,none⟩) E4).trans k4;obtain⟨e0,e1,e2,e3⟩:=zA HK wc Q0
 have iI:=zC (show ∀ w',Below wc.heap.size wc w'->(w'.cell? ⟨w.heap.size,0,none⟩=some (.bool s.ln)/\w'.cell? ⟨w.heap.size,1,none⟩=some (.slice s.la s.lN s.lc)/\w'.cell? ⟨w.heap.size,2,none⟩=some (.bool s.hn)/\w'.cell? ⟨w.heap.size,3,none⟩=some (.slice s.ha s.hN s.hc)/\w'.cell? ⟨w.heap.size,4,none⟩=some (.int .i64 b)/\nK0 w' B5 x5) from λ w' hB =>
  ⟨(hB.cell (p:=⟨w.heap.size,0,none⟩) iH).trans e0,(hB.cell (p:=⟨w.heap.size,1,none⟩) iH).trans e1,(hB.cell (p:=⟨w.heap.size,2,none⟩) iH).trans e2,(hB.cell (p:=⟨w.heap.size,3,none⟩) iH).trans e3,(hB.cell (p:=⟨w.heap.size,4,none⟩) iH).trans e4,(hB.cell (p:=⟨B5,0,none⟩) iG).trans Iy,(hB.cell (p:=⟨B5,1,none⟩) iG).trans Iz⟩)
 have HE:=zC (show (decide (zF ((hi-lo)*Q b) (n*(Q b+zF7 hi (-lo)))<=0))=zJJ lo hi (Q b) n from zH1 _ _)
 have pg:Below w.heap.size w wc:=b8.trans (Q0.mono (Nat.le_of_lt E4));clear O0 k0 k1 k2 k3 k4 Q0 HK HS HM;go_wp2
 go_region_held3 (λ w'=>w'.cell? ⟨w.heap.size,0,none⟩=some (.bool s.ln)/\w'.cell? ⟨w.heap.size,1,none⟩=some (.slice s.la s.lN s.lc)/\w'.cell? ⟨w.heap.size,2,none⟩=some (.bool s.hn)/\w'.cell? ⟨w.heap.size,3,none⟩=some (.slice s.ha s.hN s.hc)/\w'.cell? ⟨w.heap.size,4,none⟩=some (.int .i64 b)/\nK0 w' B5 x5) (exact zA iI _ (by first|exact (Below.refl _ _).drew|exact A6|exact o7|exact E2|exact L5|exact tW|exact CN|exact Tg|exact Th))
  (first
   | (go_at_call 72;refine (zAD _ _ _ _ _ _ _ _ 250 250 hi lo _ ((zA cm).hi.bw (Below.refl _ _).drew) ((zA cm).lo.bw (Below.refl _ _).drew) (by omega) (by omega)).mono ?_;rintro r w1 ⟨g9,a1,n1,c1,rfl,k9,b7⟩;have A6:Below wc.heap.size wc w1:=zB (Below.refl _ _).drew b7)
   | (go_at_call_of 66 a1;refine (zW _ _ _ _ _ _ _ _ 251 20 _ _ _ (k9.bw b9) o0 (by omega) (by omega)).mono ?_;rintro r w3 ⟨p9,a3,n3,c3,rfl,A8,k8⟩;have E2:=zB o7 k8)
   | (go_at_call 43;refine (zD (n:Int) _ (by omega) (by omega)).mono ?_;rintro r w4 ⟨o9,a4,n4,c4,rfl,D9,m9⟩;have L5:=zB E2 m9)
   | (go_at_call 104;have hB4':=L5;refine (kT b _ (by omega)).mono ?_;rintro r w5 ⟨G9,a5,n5,c5,rfl,O0,A7⟩;have tW:=zB L5 A7)
   | (go_at_call 104;refine (kT b _ (by omega)).mono ?_;rintro r w2 ⟨b6,a2,n2,c2,rfl,o0,b9⟩;have o0:=o0.mono (show b/16+5<=20 by omega);have o7:=zB A6 b9)
   | (go_at_call 65;refine (kX _ _ _ _ _ _ _ _ (b/16+5) 260 _ _ _ O0 ((zA Lb).bw tW) (by omega) (by omega)).mono ?_;rintro r w6 ⟨D4,a6,n6,c6,rfl,L9,G3⟩;have L9:=L9.mono (show max (b/16+5) 260+1<=300 by omega);have CN:=zB tW G3)
   | (go_at_call 66;refine (zW _ _ _ _ _ _ _ _ 4 300 _ _ _ (D9.bw (zB A7 G3)) L9 (by omega) (by omega)).mono ?_;rintro r w7 ⟨P1,a7,n7,c7,rfl,O1,I8⟩;have Tg:=zB CN I8)
   | (go_at_call 46;refine (zU _ _ _ _ _ _ _ _ 271 304 _ _ _ (A8.bw (zB (zB (zB m9 A7) G3) I8)) O1).mono ?_;rintro r w8 ⟨rfl,Q7⟩;have Th:=zB Tg Q7))
 go_wp2
 go_ret
 exact⟨by rw[<- zA HE];rfl,pg.trans (Th.mono (Nat.le_of_lt iH))⟩
theorem IntAt.put5 {w:World} {neg:Bool} {a:Option Addr} {n cap k:Nat} {z:Int} (h:IntAt w neg a n cap k z) {B:Nat} {x0 x2:Bool} {y0 y3:Option Addr} {y1 y2 y4 y5:Nat} {i:Int}
  (h0:w.cell? ⟨B,0,none⟩=some (.bool x0)) (h1:w.cell? ⟨B,1,none⟩=some (.slice y0 y1 y2)) (h2:w.cell? ⟨B,2,none⟩=some (.bool x2)) (h3:w.cell? ⟨B,3,none⟩=some (.slice y3 y4 y5)) (h4:w.cell? ⟨B,4,none⟩=some (.int .i64 i)) (u0 u1 u2 u3 u4:Value) :
  IntAt (((((w.setCell ⟨B,0,none⟩ u0).setCell ⟨B,1,none⟩ u1).setCell ⟨B,2,none⟩ u2).setCell ⟨B,3,none⟩ u3).setCell ⟨B,4,none⟩ u4) neg a n cap k z:=by
 have ne:∀ i j:Nat,i≠j->(⟨B,i,none⟩:Addr)≠⟨B,j,none⟩:=λ i j tJ e=>tJ (by injection e)
 have g1:(w.setCell ⟨B,0,none⟩ u0).cell? ⟨B,1,none⟩=some (.slice y0 y1 y2):=(World.cell?_setCell_other _ _ _ _ (ne 0 1 (by omega))).trans h1
 have g2:((w.setCell ⟨B,0,none⟩ u0).setCell ⟨B,1,none⟩ u1).cell? ⟨B,2,none⟩=some (.bool x2):=(World.cell?_setCell_other _ _ _ _ (ne 1 2 (by omega))).trans ((World.cell?_setCell_other _ _ _ _ (ne 0 2 (by omega))).trans h2)
 have g3:(((w.setCell ⟨B,0,none⟩ u0).setCell ⟨B,1,none⟩ u1).setCell ⟨B,2,none⟩ u2).cell? ⟨B,3,none⟩=some (.slice y3 y4 y5):=(World.cell?_setCell_other _ _ _ _ (ne 2 3 (by omega))).trans ((World.cell?_setCell_other _ _ _ _ (ne 1 3 (by omega))).trans ((World.cell?_setCell_other _ _ _ _ (ne 0 3 (by omega))).trans h3))
 have g4:((((w.setCell ⟨B,0,none⟩ u0).setCell ⟨B,1,none⟩ u1).setCell ⟨B,2,none⟩ u2).setCell ⟨B,3,none⟩ u3).cell? ⟨B,4,none⟩=some (.int .i64 i):=(World.cell?_setCell_other _ _ _ _ (ne 3 4 (by omega))).trans ((World.cell?_setCell_other _ _ _ _ (ne 2 4 (by omega))).trans ((World.cell?_setCell_other _ _ _ _ (ne 1 4 (by omega))).trans ((World.cell?_setCell_other _ _ _ _ (ne 0 4 (by omega))).trans h4)))
 exact ((((h.store h0 (λ _ e=>by cases e) u0).store g1 (λ _ e=>by cases e) u1).store g2 (λ _ e=>by cases e) u2).store g3 (λ _ e=>by cases e) u3).store g4 (λ _ e=>by cases e) u4
theorem SpAt.put5 {w:World} {s:Sp} {k:Nat} {lo hi:Int} (h:SpAt w s k lo hi) {B:Nat} {x0 x2:Bool} {y0 y3:Option Addr} {y1 y2 y4 y5:Nat} {i:Int}
  (h0:w.cell? ⟨B,0,none⟩=some (.bool x0)) (h1:w.cell? ⟨B,1,none⟩=some (.slice y0 y1 y2)) (h2:w.cell? ⟨B,2,none⟩=some (.bool x2)) (h3:w.cell? ⟨B,3,none⟩=some (.slice y3 y4 y5)) (h4:w.cell? ⟨B,4,none⟩=some (.int .i64 i)) (u0 u1 u2 u3 u4:Value) :
  SpAt (((((w.setCell ⟨B,0,none⟩ u0).setCell ⟨B,1,none⟩ u1).setCell ⟨B,2,none⟩ u2).setCell ⟨B,3,none⟩ u3).setCell ⟨B,4,none⟩ u4) s k lo hi:=⟨h.lo.put5 h0 h1 h2 h3 h4 u0 u1 u2 u3 u4,h.hi.put5 h0 h1 h2 h3 h4 u0 u1 u2 u3 u4⟩
theorem kB {B B':Nat} {a w:World} (h:Below B a w) (hB:B<=B') (u0 u1 u2 u3 u4:Value):Below B a (((((w.setCell ⟨B',0,none⟩ u0).setCell ⟨B',1,none⟩ u1).setCell ⟨B',2,none⟩ u2).setCell ⟨B',3,none⟩ u3).setCell ⟨B',4,none⟩ u4) :=
 ((((h.setCell (p:=⟨B',0,none⟩) hB u0).setCell (p:=⟨B',1,none⟩) hB u1).setCell (p:=⟨B',2,none⟩) hB u2).setCell (p:=⟨B',3,none⟩) hB u3).setCell (p:=⟨B',4,none⟩) hB u4
theorem zQI (neg b6:Bool) (a c:Option Addr) (n m cap j6 k k2:Nat) (x y:Int) (w:World) (h1:IntAt w neg a n cap k x) (h2:IntAt w b6 c m j6 k2 y) (hk:k<=800000000)
  (gO:∀ w' j8 a' n' m7,IntAt w' j8 a' n' m7 k (-x)->IntAt w' b6 c m j6 k2 y->Calls Tryz.prog 119 #[.agg #[.bool j8,.slice a' n' m7],.agg #[.bool b6,.slice c m j6]] w' (zAN w' k (-x/y))) :
  Calls Tryz.prog 176 #[.agg #[.bool neg,.slice a n cap],.agg #[.bool b6,.slice c m j6]] w (zAN w k (-(-x/y))):=by
 have iC:w.heap.size≠w.heap.size+1+1:=by omega
 have iD:w.heap.size+1+1≠w.heap.size:=by omega
 have le2:w.heap.size<=w.heap.size+1+1:=by omega
 have HF:=zC gO;clear gO
 go_enter Tryz.func176,Tryz.ntmps176
 go_wp2
 go_region_held3 (λ w'=>w'.cell? ⟨w.heap.size,0,none⟩=some (.bool neg)/\w'.cell? ⟨w.heap.size,1,none⟩=some (.slice a n cap)/\w'.cell? ⟨w.heap.size+1,0,none⟩=some (.bool b6)/\w'.cell? ⟨w.heap.size+1,1,none⟩=some (.slice c m j6)) (go_keep)
  (first
   | (go_at_call 119;refine (zA HF _ _ _ _ _ k9 (h2.bw (zB (bl3 _ _ _ _).drew b7))).mono ?_;rintro r w2 ⟨lf,a2,n2,c2,rfl,o0,b9⟩;obtain⟨D7,C7,G0⟩:=jY (w.heap.size+1+1+1) C5 b9)
   | (go_at_call 103;have hq:=b9;refine (kC _ _ _ _ (k+8) _ _ o0 (by omega)).mono ?_;rintro r w3 ⟨p9,a3,n3,c3,rfl,A8,k8⟩;obtain⟨P0,T6,Z9⟩:=jY (w.heap.size+1+1+1) D7 k8)
   | (go_at_call 103;refine (kC _ _ _ _ k x _ (h1.bw (bl3 _ _ _ _).drew) (by omega)).mono ?_;rintro r w1 ⟨g9,a1,n1,c1,rfl,k9,b7⟩;obtain⟨C5,A9,D8⟩:=jY (w.heap.size+1+1+1) (by simp) b7))
 go_wp2;have h0:w3.cell? ⟨w.heap.size+1+1,0,none⟩=some (.bool false):=by simp[T6,C7,A9,go_sem]
 have I1:w3.cell? ⟨w.heap.size+1+1,1,none⟩=some (.slice none 0 0):=by simp[T6,C7,A9,go_sem]
 refine bodyPost_ret (v:=.agg #[.bool p9,.slice a3 n3 c3]) (by simp[results,Tryz.results176,go_sem,h0,I1]) rfl ⟨p9,a3,n3,c3,rfl,A8.put2 h0 I1 _ _,?_⟩
 exact ((zB (zB (zB (bl3 _ _ _ _).drew b7) b9) k8).setCell (p:=⟨w.heap.size+1+1,0,none⟩) le2 _).setCell (p:=⟨w.heap.size+1+1,1,none⟩) le2 _
def zJ (w:World) (b:Int) (k:Nat) (lo hi:Int) (r:Ending) (w':World):Prop :=
 ∃ s:Sp,r=.returned (.agg s.q)/\s.bits=b/\SpAt w' s k lo hi/\Below w.heap.size w w'
def rok (p q:Int):Prop := -1048576<=p/\p<=1048576/\1<=q/\q<=1024
instance (p q:Int):Decidable (rok p q):=by unfold rok;infer_instance
theorem zMK {p q:Int} (h:p < -1048576\/1048576<p\/q<1\/1024<q):decide (rok p q)=false:=by
 rw[decide_eq_false_iff_not];unfold rok;omega
theorem zDA (p q:Int) (w:World) :
  Calls Tryz.prog 80 #[.agg #[.int .i64 p,.int .i64 q]] w λ r w'=>r=.returned (.bool (decide (rok p q)))/\Below w.heap.size w w':=by
 by_cases h1 : -1048576<=p
 ·by_cases h2:p<=1048576
  ·by_cases h3:1<=q
   ·go_enter Tryz.func80,Tryz.ntmps80
    go_wp2
    go_ret
    exact⟨by simp[rok,h1,h2,h3],bl1 _ _⟩
   ·go_enter Tryz.func80,Tryz.ntmps80
    go_wp2
    go_ret
    exact⟨by rw[zMK (p:=p) (q:=q) (by omega)];rfl,bl1 _ _⟩
  ·go_enter Tryz.func80,Tryz.ntmps80
   go_wp2
   go_ret
   exact⟨by rw[zMK (p:=p) (q:=q) (by omega)];rfl,bl1 _ _⟩
 ·go_enter Tryz.func80,Tryz.ntmps80
  go_wp2
  go_ret
  exact⟨by rw[zMK (p:=p) (q:=q) (by omega)];rfl,bl1 _ _⟩
structure Rats (w:World) (b n:Nat) (p q:Nat->Int):Prop where
 lt:b<w.heap.size
 c0:∀ j,j<n->w.cell? ⟨b,j*2,none⟩=some (.int .i64 (p j))
 c1:∀ j,j<n->w.cell? ⟨b,j*2+1,none⟩=some (.int .i64 (q j))
theorem Rats.bw {w w':World} {b n:Nat} {p q:Nat->Int} (h:Rats w b n p q) (hb:Below w.heap.size w w'):Rats w' b n p q :=
 ⟨Yd h.lt hb.size,λ j hj=>(hb.cell (p:=⟨b,j*2,none⟩) h.lt).trans (h.c0 j hj),λ j hj=>(hb.cell (p:=⟨b,j*2+1,none⟩) h.lt).trans (h.c1 j hj)⟩
def RFlt (bt:Int) (p q:Nat->Int) (n:Nat) (z:Int):Prop :=
 (z=0/\(8<=bt/\bt<=120)/\∀ j,j<n->rok (p j) (q j))\/(z=3/\¬ ((8<=bt/\bt<=120)/\∀ j,j<n->rok (p j) (q j)))
theorem zGF (bt : Int) (b n cap : Nat) (p q : Nat → Int) (w : World) (h : Rats w b n p q) (hn : n ≤ 1000) :
    Calls Tryz.prog 93 #[.int .i64 bt, .slice (some ⟨b, 0, none⟩) n cap] w fun r w' => ∃ z, r = .returned (.int .i64 z) ∧ RFlt bt p q n z ∧ Below w.heap.size w w' := by
  by_cases b1 : bt < 8
  · go_enter Tryz.func93, Tryz.ntmps93
    go_wp2
    go_ret
    exact ⟨3, rfl, Or.inr ⟨rfl, fun ⟨h1, _⟩ => by omega⟩, Below.refl _ _⟩
  by_cases b2 : 120 < bt
  · go_enter Tryz.func93, Tryz.ntmps93
    go_wp2
    go_ret
    exact ⟨3, rfl, Or.inr ⟨rfl, fun ⟨h1, _⟩ => by omega⟩, Below.refl _ _⟩
  have hblt := h.lt
  have HH := zC h
  clear h
  go_enter Tryz.func93, Tryz.ntmps93
  go_wp2
  go_loopw [15] (fun ii wr => ∃ i : Nat, i ≤ n ∧ ii = .int .i64 i ∧ (∀ j, j < i → rok (p j) (q j)) ∧ Below w.heap.size w wr) (fun ii _ => n - (intOf ii).toNat)
  case atStart => exact ⟨0, by omega, rfl, fun j hj => by omega, Below.refl _ _⟩
  case round =>
    obtain ⟨i, hi, rfl, hz, hB⟩ := hrel
    by_cases hin : i < n
    · have H2 := (zA HH).bw hB
      have g0 := H2.c0 i hin
      have g1 := H2.c1 i hin
      have hi1 : (i : Int) < (n : Int) := by omega
      have HZ := zC hz
      clear hz H2
      by_cases hc : rok (p i) (q i)
      · have hc' : decide (rok (p i) (q i)) = true := by simpa using hc
        have HC := zC hc
        clear hc
        go_wp2_with (go_at_call 80; refine (zDA _ _ _).mono ?_; rintro r w1 ⟨rfl, hb1⟩; rw [hc'])
        go_roundw
        case rel => exact ⟨i + 1, by omega, by go_num, fun j hj => by
                            by_cases hji : j = i
                            · subst hji; exact zA HC
                            · exact zA HZ j (by omega), zB (zL hB _) hb1⟩
        case measure => simp [intOf]; omega
      · have hc' : decide (rok (p i) (q i)) = false := by simpa using hc
        have HC := zC hc
        clear hc
        go_wp2_with (go_at_call 80; refine (zDA _ _ _).mono ?_; rintro r w1 ⟨rfl, hb1⟩; rw [hc'])
        go_ret
        exact ⟨3, rfl, Or.inr ⟨rfl, fun ⟨_, h2⟩ => zA HC (h2 i hin)⟩, zB (zL hB _) hb1⟩
    · have hiE : i = n := by omega
      subst hiE
      have HZ := zC hz
      clear hz hin hi
      go_wp2
      go_ret
      exact ⟨0, rfl, Or.inl ⟨rfl, ⟨by omega, by omega⟩, zA HZ⟩, hB⟩
def zJ0 (w:World) (b:Int) (k:Nat) (lo hi er:Int) (r:Ending) (w':World):Prop :=
 ∃ s:Sp,r=.returned (.tuple #[.agg s.q,.int .i64 er])/\s.bits=b/\SpAt w' s k lo hi/\Below w.heap.size w w'
theorem zE6 (w:World) (k:Nat):IntAt w false none 0 0 k 0 :=
 ⟨λ _=>0,⟨λ h=>by omega,λ _=>⟨by simp,by simp⟩,XW _,by omega⟩,Or.inl rfl,λ _=>rfl,by omega,by simp[sgn,V]⟩
theorem zL8 (w:World) (k:Nat):SpAt w ⟨false,none,0,0,false,none,0,0,0⟩ k 0 0:=⟨zE6 w k,zE6 w k⟩
theorem zE8 (w:World) (s t:Sp) (k:Nat) (lo hi lo' hi':Int) (hs:SpAt w s k lo hi) (ht:SpAt w t k lo' hi') (hk:k<=700000000) :
  Calls Tryz.prog 113 #[.agg s.q,.agg t.q] w (zJ w s.bits (k+1) (lo+lo') (hi+hi')):=by
 have iC:w.heap.size≠w.heap.size+1+1:=by omega
 have iD:w.heap.size+1+1≠w.heap.size:=by omega
 have le2:w.heap.size<=w.heap.size+1+1:=by omega
 go_enter Tryz.func113,Tryz.ntmps113
 go_wp2
 go_region_held3 (λ w'=>cK w' w.heap.size s (w'.cell? ⟨w.heap.size+1,0,none⟩=some (.bool t.ln)/\w'.cell? ⟨w.heap.size+1,1,none⟩=some (.slice t.la t.lN t.lc)/\w'.cell? ⟨w.heap.size+1,2,none⟩=some (.bool t.hn)/\w'.cell? ⟨w.heap.size+1,3,none⟩=some (.slice t.ha t.hN t.hc))) ((dsimp only[cK,cK0,nK,nK0,rK,rK0];go_keep))
  (first
   | (go_at_call 65;have hq:=b7;refine (kX _ _ _ _ _ _ _ _ k k hi hi' _ (hs.hi.bw (zB (bl3 _ _ _ _).drew b7)) (ht.hi.bw (zB (bl3 _ _ _ _).drew b7)) (by omega) (by omega)).mono ?_;rintro r w2 ⟨b6,a2,n2,c2,rfl,o0,b9⟩;obtain⟨D7,C7,G0⟩:=jY (w.heap.size+1+1+1) C5 b9)
   | (go_at_call 65;refine (kX _ _ _ _ _ _ _ _ k k lo lo' _ (hs.lo.bw (bl3 _ _ _ _).drew) (ht.lo.bw (bl3 _ _ _ _).drew) (by omega) (by omega)).mono ?_;rintro r w1 ⟨g9,a1,n1,c1,rfl,k9,b7⟩;obtain⟨C5,A9,D8⟩:=jY (w.heap.size+1+1+1) (by simp) b7))
 go_wp2;have q0:w2.cell? ⟨w.heap.size+1+1,0,none⟩=some (.bool false):=by simp[C7,A9,go_sem]
 have q1:w2.cell? ⟨w.heap.size+1+1,1,none⟩=some (.slice none 0 0):=by simp[C7,A9,go_sem]
 have q2:w2.cell? ⟨w.heap.size+1+1,2,none⟩=some (.bool false):=by simp[C7,A9,go_sem]
 have q3:w2.cell? ⟨w.heap.size+1+1,3,none⟩=some (.slice none 0 0):=by simp[C7,A9,go_sem]
 have q4:w2.cell? ⟨w.heap.size+1+1,4,none⟩=some (.int .i64 0):=by simp[C7,A9,go_sem]
 refine bodyPost_ret (v:=.agg #[.bool g9,.slice a1 n1 c1,.bool b6,.slice a2 n2 c2,.int .i64 s.bits]) (by simp[results,Tryz.results113,go_sem,q0,q1,q2,q3,q4]) rfl ⟨⟨g9,a1,n1,c1,b6,a2,n2,c2,s.bits⟩,rfl,rfl,?_,?_⟩
 ·exact SpAt.put5 ⟨(k9.bw b9).mono (by omega),o0.mono (by omega)⟩ q0 q1 q2 q3 q4 _ _ _ _ _
 ·exact kB (zB (zB (bl3 _ _ _ _).drew b7) b9) le2 _ _ _ _ _
theorem lenZ_le (n:Nat) (d:Nat->Int):zIX n d<=16*n:=by
 unfold zIX;have:=blenF_bd 16 (d (n-1));split<;>omega
end Go.Proofs.YtgmnknmjainababGreat
