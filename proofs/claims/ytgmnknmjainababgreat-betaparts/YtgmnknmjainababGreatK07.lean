/-
  Its own texts.
-/
import Derived.Test.YtgmnknmjainababGreatK06
set_option maxRecDepth 100000
set_option maxHeartbeats 40000000
set_option linter.unnecessarySimpa false
set_option linter.unusedSimpArgs false
set_option linter.unusedVariables false
namespace Go.Proofs.YtgmnknmjainababGreat
open Go.RowKit
theorem blenF_Q (f:Nat):∀ x:Int,0<x->x<Q f->∃ b:Nat,zCI f x=(b:Int)+1/\Q b<=x/\x<Q (b+1):=by
 induction f with
 | zero=>intro x h0 h1;simp[Q] at h1;omega
 | succ f ih =>
  intro x h0 h1
  have hx:¬ x<=0:=by omega
  simp only[zCI,hx,if_false];simp only[Q] at h1
  by_cases h2:x/2=0
  ·refine⟨0,?_,by simp[Q];omega,by simp[Q];omega⟩
   rw[h2];cases f<;>simp[zCI]
  ·obtain⟨b,e1,e2,e3⟩:=ih (x/2) (by omega) (by omega)
   refine⟨b+1,by rw[e1];omega,?_,?_⟩
   ·simp only[Q];omega
   ·simp only[Q] at *;omega
theorem zQX {d:Nat->Int} (hd:Dgs d) {n:Nat} (hn:0<n) (ht:d (n-1)≠0):∃ L:Nat,zIX n d=(L:Int)+1/\Q L<=V d n/\V d n<Q (L+1):=by
 obtain⟨m,rfl⟩:∃ m,n=m+1:=⟨n-1,by omega⟩
 simp only[Nat.add_sub_cancel] at ht;have hx:=hd m;obtain⟨b,e1,e2,e3⟩:=blenF_Q 16 (d m) (by omega) (by rw[Q16];omega)
 refine⟨16*m+b,?_,?_,?_⟩
 ·unfold zIX;rw[if_neg (by omega)];simp only[Nat.add_sub_cancel];rw[e1];omega
 ·rw[jD,Q_P];simp only[V]
  have h1:=zZ hd m;have h2:P m*Q b<=P m*d m:=XR e2 (by have:=yB m;omega)
  rw[Int.mul_comm (d m)];omega
 ·rw[show 16*m+b+1=16*m+(b+1) by omega,jD,Q_P];simp only[V]
  have h1:=zHY hd m;have h2:P m*(d m+1)<=P m*Q (b+1):=XR (by omega) (by have:=yB m;omega)
  rw[Int.mul_add,Int.mul_one] at h2;rw[Int.mul_comm (d m)];omega
def big (z:Int):Prop:=Q 4000<=z\/z <=-Q 4000
instance (z:Int):Decidable (big z):=by unfold big;infer_instance
theorem zLZ {d:Nat->Int} (hd:Dgs d) {n:Nat} (ht:n=0\/d (n-1)≠0) (neg:Bool):4000<zIX n d ↔ big (sgn neg (V d n)):=by
 have hq:=zG 4000
 by_cases hn:n=0
 ·subst hn
  have h1:zIX 0 d=0:=by simp[zIX]
  have h2:sgn neg (V d 0)=0:=by cases neg<;>simp[sgn,V]
  rw[h1,h2];unfold big;constructor<;>intro h<;>omega
 ·obtain⟨L,e1,e2,e3⟩:=zQX hd (show 0<n by omega) (by omega)
  rw[e1]
  have key:(4000:Int)<(L:Int)+1 ↔ Q 4000<=V d n:=by
   constructor
   ·intro h
    have:=zK (show 4000<=L by omega)
    omega
   ·intro h
    rcases Nat.lt_or_ge 4000 (L+1) with h2|h2
    ·omega
    ·have:=zK h2;omega
  have hv:=zZ hd n;rw[key];unfold big
  cases neg<;>simp only[sgn]<;>constructor<;>intro h<;>simp at*<;> omega
theorem zOM {a x:Int} (hx:0<x):a<((x+a/x)/2+1)*((x+a/x)/2+1):=by
 obtain⟨t,ht⟩:∃ t,t=a/x:=⟨_,rfl⟩;obtain⟨y,hy⟩:∃ y,y=(x+t)/2:=⟨_,rfl⟩;rw[<- ht,<- hy]
 have h1:a<(t+1)*x:=by
  have h2:=Int.mul_ediv_add_emod a x;have h3:=Int.emod_lt_of_pos a hx;rw[<- ht] at h2;rw[Int.add_mul,Int.one_mul,Int.mul_comm t x];omega
 have h4:(x+t+1)*x<=(2*y+2)*x:=XK (by omega) (by omega)
 have h5:0<=(y+1-x)*(y+1-x):=by
  rcases Int.le_total 0 (y+1-x) with h|h
  ·exact Yb h h
  ·exact Int.mul_nonneg_of_nonpos_of_nonpos h h
 have h6:(y+1-x)*(y+1-x)=(y+1)*(y+1)-2*((y+1)*x)+x*x:=by
  rw[Int.sub_mul,Int.mul_sub,Int.mul_sub,Int.mul_comm x (y+1)];omega
 have h7:(2*y+2)*x=2*((y+1)*x):=by rw[<- Int.mul_assoc];congr 1;omega
 have h8:(x+t+1)*x=x*x+(t+1)*x:=by rw[<- Int.add_mul];congr 1;omega
 omega
theorem zNG {a x:Int} (hx:0<x) (ha:0<=a) (h:x<=(x+a/x)/2):x*x<=a:=by
 have h1:x<=a/x:=by omega
 have h2:=Int.mul_ediv_add_emod a x;have h3:=Int.emod_nonneg a (show x≠0 by omega)
 have h4:=XR h1 (show 0<=x by omega)
 omega
def bigs (lo hi:Int):Prop:=big lo\/big hi
instance (lo hi:Int):Decidable (bigs lo hi):=by unfold bigs;infer_instance
def fitE (lo hi:Int):Int:=if bigs lo hi then 2 else 0
def fitZ (lo hi z:Int):Int:=if bigs lo hi then 0 else z
theorem zFO {neg:Bool} {n:Nat} {d:Nat->Int} (h1:n=0\/d (n-1)≠0) (h2:n=0->neg=false):zCD neg n d≠false:=by
 unfold zCD
 by_cases h0:n=0
 ·simp[h0,h2 h0]
 ·rw[if_neg h0];simpa using (show d (n-1)≠0 by omega)
theorem chk_fit {w:World} {s:Sp} {k:Nat} {lo hi:Int} (h:SpAt w s k lo hi) (hle:lo<=hi) (h1:1<=s.bits) (h2:s.bits<=120):∃ d e,SpDig w s d e/\zGC s d e=fitE lo hi:=by
 obtain⟨⟨d,p1,p2,p3,p4,p5⟩,⟨e,r1,r2,r3,r4,r5⟩⟩:=h;refine⟨d,e,⟨p1,r1⟩,?_⟩;have g1:=zFO (neg:=s.ln) p2 p3;have g2:=zFO (neg:=s.hn) r2 r3;have b1:=zLZ p1.dgs p2 s.ln;have b2:=zLZ r1.dgs r2 s.hn;rw[<- p5] at b1;rw[<- r5] at b2
 have g3:¬ 0<cmpI s.ln s.hn d e s.lN s.hN:=by
  rw[zDU p1.dgs r1.dgs s.ln s.hn s.lN s.hN p2 r2 p3 r3,<- p5,<- r5];exact zD7 (by omega)
 by_cases hb:bigs lo hi
 ·have f:fitE lo hi=2:=if_pos hb
  rw[f];unfold zGC;rw[if_neg (by omega),if_neg (λ q=>q.elim g1 g2),if_pos (by rw[b1,b2];exact hb)]
 ·have f:fitE lo hi=0:=if_neg hb
  rw[f];unfold zGC;rw[if_neg (by omega),if_neg (λ q=>q.elim g1 g2),if_neg (by rw[b1,b2];exact hb),if_neg g3]
theorem zIE (lo hi:Int):(bigs lo hi/\fitE lo hi=2/\∀ z,fitZ lo hi z=0)\/(¬ bigs lo hi/\fitE lo hi=0/\∀ z,fitZ lo hi z=z):=by
 by_cases hb:bigs lo hi
 ·exact Or.inl ⟨hb,if_pos hb,λ _=>if_pos hb⟩
 ·exact Or.inr ⟨hb,if_neg hb,λ _=>if_neg hb⟩
theorem zI9 {lo hi:Int} (h:fitE lo hi=0) (z:Int):fitZ lo hi z=z:=by
 rcases zIE lo hi with⟨_,h2,_⟩|⟨_,_,h3⟩
 ·omega
 ·exact h3 z
attribute [local go_sem ↓] Go.wp_at_zero Go.wp_at_succ
structure SpC (w:World) (B:Nat) (s:Sp):Prop where
 c0:w.cell? ⟨B,0,none⟩=some (.bool s.ln)
 c1:w.cell? ⟨B,1,none⟩=some (.slice s.la s.lN s.lc)
 c2:w.cell? ⟨B,2,none⟩=some (.bool s.hn)
 c3:w.cell? ⟨B,3,none⟩=some (.slice s.ha s.hN s.hc)
 c4:w.cell? ⟨B,4,none⟩=some (.int .i64 s.bits)
theorem SpC.lt {w:World} {B:Nat} {s:Sp} (h:SpC w B s):B<w.heap.size:=World.block_lt_of_cell? w ⟨B,0,none⟩ h.c0
theorem SpC.bw {w w':World} {B:Nat} {s:Sp} (h:SpC w B s) (hb:Below w.heap.size w w'):SpC w' B s :=
 ⟨(hb.cell (p:=⟨B,0,none⟩) h.lt).trans h.c0,(hb.cell (p:=⟨B,1,none⟩) h.lt).trans h.c1,(hb.cell (p:=⟨B,2,none⟩) h.lt).trans h.c2,(hb.cell (p:=⟨B,3,none⟩) h.lt).trans h.c3,(hb.cell (p:=⟨B,4,none⟩) h.lt).trans h.c4⟩
theorem zA0 (w:World) (s:Sp) (T:TypeId):SpC (w.alloc (.cells s.q T)) w.heap.size s:=⟨by simp,by simp,by simp,by simp,by simp⟩
structure NoC (w:World) (B:Nat):Prop where
 c0:w.cell? ⟨B,0,none⟩=some (.bool false)
 c1:w.cell? ⟨B,1,none⟩=some (.slice none 0 0)
 c2:w.cell? ⟨B,2,none⟩=some (.bool false)
 c3:w.cell? ⟨B,3,none⟩=some (.slice none 0 0)
 c4:w.cell? ⟨B,4,none⟩=some (.int .i64 0)
 fz:∀ o,w.frozen? ⟨B,o,none⟩=false
theorem NoC.lt {w:World} {B:Nat} (h:NoC w B):B<w.heap.size:=World.block_lt_of_cell? w ⟨B,0,none⟩ h.c0
theorem NoC.bw {w w':World} {B:Nat} (h:NoC w B) (hb:Below w.heap.size w w'):NoC w' B :=
 ⟨(hb.cell (p:=⟨B,0,none⟩) h.lt).trans h.c0,(hb.cell (p:=⟨B,1,none⟩) h.lt).trans h.c1,(hb.cell (p:=⟨B,2,none⟩) h.lt).trans h.c2,(hb.cell (p:=⟨B,3,none⟩) h.lt).trans h.c3,(hb.cell (p:=⟨B,4,none⟩) h.lt).trans h.c4,λ o=>(hb.frozen (p:=⟨B,o,none⟩) h.lt).trans (h.fz o)⟩
theorem zM (w:World) (T:TypeId):NoC (w.alloc (.cells zCq T)) w.heap.size:=⟨by simp,by simp,by simp,by simp,by simp,λ o=>by simp[go_sem]⟩
theorem SpAt.mono {w:World} {s:Sp} {k k':Nat} {lo hi:Int} (h:SpAt w s k lo hi) (hk:k<=k'):SpAt w s k' lo hi:=⟨h.lo.mono hk,h.hi.mono hk⟩
theorem zCO (w:World) (s:Sp) (k:Nat) (lo hi:Int) (hs:SpAt w s k lo hi) (hk:k<=700000000) :
  Calls Tryz.prog 97 #[.agg s.q] w (zJ w s.bits k (-hi) (-lo)):=by
 go_enter Tryz.func97,Tryz.ntmps97
 go_wp2
 go_region_held3 (λ w'=>cK0 w' w.heap.size s) ((dsimp only[cK,cK0,nK,nK0,rK,rK0];go_keep))
  (first
   | (go_at_call 103;have hq:=b7;refine (kC _ _ _ _ k lo _ (hs.lo.bw (zB (bl2 _ _ _).drew b7)) (by omega)).mono ?_;rintro r w2 ⟨b6,a2,n2,c2,rfl,o0,b9⟩;obtain⟨D7,C7,G0⟩:=jY (w.heap.size+1+1) C5 b9)
   | (go_at_call 103;refine (kC _ _ _ _ k hi _ (hs.hi.bw (bl2 _ _ _).drew) (by omega)).mono ?_;rintro r w1 ⟨g9,a1,n1,c1,rfl,k9,b7⟩;obtain⟨C5,A9,D8⟩:=jY (w.heap.size+1+1) (by simp) b7))
 go_wp2;have q0:w2.cell? ⟨w.heap.size+1,0,none⟩=some (.bool false):=by simp[C7,A9,go_sem]
 have q1:w2.cell? ⟨w.heap.size+1,1,none⟩=some (.slice none 0 0):=by simp[C7,A9,go_sem]
 have q2:w2.cell? ⟨w.heap.size+1,2,none⟩=some (.bool false):=by simp[C7,A9,go_sem]
 have q3:w2.cell? ⟨w.heap.size+1,3,none⟩=some (.slice none 0 0):=by simp[C7,A9,go_sem]
 have q4:w2.cell? ⟨w.heap.size+1,4,none⟩=some (.int .i64 0):=by simp[C7,A9,go_sem]
 refine bodyPost_ret (v:=.agg #[.bool g9,.slice a1 n1 c1,.bool b6,.slice a2 n2 c2,.int .i64 s.bits]) (by simp[results,Tryz.results97,go_sem,q0,q1,q2,q3,q4]) rfl ⟨⟨g9,a1,n1,c1,b6,a2,n2,c2,s.bits⟩,rfl,rfl,?_,?_⟩
 ·exact SpAt.put5 ⟨k9.bw b9,o0⟩ q0 q1 q2 q3 q4 _ _ _ _ _
 ·exact kB (zB (zB (bl2 _ _ _).drew b7) b9) (Yh _) _ _ _ _ _
theorem zFK (x:Int):zF x x=0:=by simp[zF]
theorem zAG (neg:Bool) (a:Option Addr) (n cap k:Nat) (x:Int) (w:World) (h:IntAt w neg a n cap k x) :
  Calls Tryz.prog 49 #[.agg #[.bool neg,.slice a n cap]] w λ r w'=>r=.returned (.bool true)/\Below w.heap.size w w':=by
 obtain⟨d,h1,h2,h3,h4,h5⟩:=h
 have h6:zCD neg n d=true:=by
  have:=zFO (neg:=neg) h2 h3
  simpa using this
 exact (jW neg a n cap d w h1).mono λ r w' ⟨p1,p2⟩=>⟨by rw[p1,h6],p2⟩
theorem zFY (w:World) (s:Sp):Calls Tryz.prog 51 #[.agg s.q] w λ r w'=>r=.returned (.agg s.q)/\Below w.heap.size w w':=by
 go_enter Tryz.func51,Tryz.ntmps51
 go_wp2_with fail;refine bodyPost_ret (v:=.agg s.q) (by simp[results,Tryz.results51,go_sem]) rfl ⟨rfl,?_⟩
 first|exact bl2 _ _ _|exact kB (bl2 _ _ _) (Yh _) _ _ _ _ _
theorem zKI (w:World) (s t:Sp) (k:Nat) (lo hi lo' hi':Int) (hs:SpAt w s k lo hi) (ht:SpAt w t k lo' hi') (hk:k<=700000000) :
  Calls Tryz.prog 57 #[.agg s.q,.agg t.q] w (zJ w s.bits (k+1) (lo+lo') (hi+hi')):=by
 have iC:w.heap.size≠w.heap.size+1+1:=by omega
 have iD:w.heap.size+1+1≠w.heap.size:=by omega
 have le2:w.heap.size<=w.heap.size+1+1:=by omega
 go_enter Tryz.func57,Tryz.ntmps57
 go_wp2
 go_region_held3 (λ w'=>cK w' w.heap.size s (w'.cell? ⟨w.heap.size+1,0,none⟩=some (.bool t.ln)/\w'.cell? ⟨w.heap.size+1,1,none⟩=some (.slice t.la t.lN t.lc)/\w'.cell? ⟨w.heap.size+1,2,none⟩=some (.bool t.hn)/\w'.cell? ⟨w.heap.size+1,3,none⟩=some (.slice t.ha t.hN t.hc))) ((dsimp only[cK,cK0,nK,nK0,rK,rK0];go_keep))
  (first
   | (go_at_call 65;have hq:=b7;refine (kX _ _ _ _ _ _ _ _ k k hi hi' _ (hs.hi.bw (zB (bl3 _ _ _ _).drew b7)) (ht.hi.bw (zB (bl3 _ _ _ _).drew b7)) (by omega) (by omega)).mono ?_;rintro r w2 ⟨b6,a2,n2,c2,rfl,o0,b9⟩;obtain⟨D7,C7,G0⟩:=jY (w.heap.size+1+1+1) C5 b9)
   | (go_at_call 65;refine (kX _ _ _ _ _ _ _ _ k k lo lo' _ (hs.lo.bw (bl3 _ _ _ _).drew) (ht.lo.bw (bl3 _ _ _ _).drew) (by omega) (by omega)).mono ?_;rintro r w1 ⟨g9,a1,n1,c1,rfl,k9,b7⟩;obtain⟨C5,A9,D8⟩:=jY (w.heap.size+1+1+1) (by simp) b7))
 go_wp2;have q0:w2.cell? ⟨w.heap.size+1+1,0,none⟩=some (.bool false):=by simp[C7,A9,go_sem]
 have q1:w2.cell? ⟨w.heap.size+1+1,1,none⟩=some (.slice none 0 0):=by simp[C7,A9,go_sem]
 have q2:w2.cell? ⟨w.heap.size+1+1,2,none⟩=some (.bool false):=by simp[C7,A9,go_sem]
 have q3:w2.cell? ⟨w.heap.size+1+1,3,none⟩=some (.slice none 0 0):=by simp[C7,A9,go_sem]
 have q4:w2.cell? ⟨w.heap.size+1+1,4,none⟩=some (.int .i64 0):=by simp[C7,A9,go_sem]
 refine bodyPost_ret (v:=.agg #[.bool g9,.slice a1 n1 c1,.bool b6,.slice a2 n2 c2,.int .i64 s.bits]) (by simp[results,Tryz.results57,go_sem,q0,q1,q2,q3,q4]) rfl ⟨⟨g9,a1,n1,c1,b6,a2,n2,c2,s.bits⟩,rfl,rfl,?_,?_⟩
 ·exact SpAt.put5 ⟨(k9.bw b9).mono (by omega),o0.mono (by omega)⟩ q0 q1 q2 q3 q4 _ _ _ _ _
 ·exact kB (zB (zB (bl3 _ _ _ _).drew b7) b9) le2 _ _ _ _ _
theorem zFD (w:World) (s t:Sp) (k:Nat) (lo hi lo' hi':Int) (hs:SpAt w s k lo hi) (ht:SpAt w t k lo' hi') (hk:k<=700000000) :
  Calls Tryz.prog 26 #[.agg s.q,.agg t.q] w (zJ w s.bits (k+1) (lo-hi') (hi-lo')):=by
 have iC:w.heap.size≠w.heap.size+1+1:=by omega
 have iD:w.heap.size+1+1≠w.heap.size:=by omega
 have le2:w.heap.size<=w.heap.size+1+1:=by omega
 go_enter Tryz.func26,Tryz.ntmps26
 go_wp2
 go_region_held3 (λ w'=>cK w' w.heap.size s (w'.cell? ⟨w.heap.size+1,0,none⟩=some (.bool t.ln)/\w'.cell? ⟨w.heap.size+1,1,none⟩=some (.slice t.la t.lN t.lc)/\w'.cell? ⟨w.heap.size+1,2,none⟩=some (.bool t.hn)/\w'.cell? ⟨w.heap.size+1,3,none⟩=some (.slice t.ha t.hN t.hc))) ((dsimp only[cK,cK0,nK,nK0,rK,rK0];go_keep))
  (first
   | (go_at_call 72;have hq:=b7;refine (zAD _ _ _ _ _ _ _ _ k k hi lo' _ (hs.hi.bw (zB (bl3 _ _ _ _).drew b7)) (ht.lo.bw (zB (bl3 _ _ _ _).drew b7)) (by omega) (by omega)).mono ?_;rintro r w2 ⟨b6,a2,n2,c2,rfl,o0,b9⟩;obtain⟨D7,C7,G0⟩:=jY (w.heap.size+1+1+1) C5 b9)
   | (go_at_call 72;refine (zAD _ _ _ _ _ _ _ _ k k lo hi' _ (hs.lo.bw (bl3 _ _ _ _).drew) (ht.hi.bw (bl3 _ _ _ _).drew) (by omega) (by omega)).mono ?_;rintro r w1 ⟨g9,a1,n1,c1,rfl,k9,b7⟩;obtain⟨C5,A9,D8⟩:=jY (w.heap.size+1+1+1) (by simp) b7))
 go_wp2;have q0:w2.cell? ⟨w.heap.size+1+1,0,none⟩=some (.bool false):=by simp[C7,A9,go_sem]
 have q1:w2.cell? ⟨w.heap.size+1+1,1,none⟩=some (.slice none 0 0):=by simp[C7,A9,go_sem]
 have q2:w2.cell? ⟨w.heap.size+1+1,2,none⟩=some (.bool false):=by simp[C7,A9,go_sem]
 have q3:w2.cell? ⟨w.heap.size+1+1,3,none⟩=some (.slice none 0 0):=by simp[C7,A9,go_sem]
 have q4:w2.cell? ⟨w.heap.size+1+1,4,none⟩=some (.int .i64 0):=by simp[C7,A9,go_sem]
 refine bodyPost_ret (v:=.agg #[.bool g9,.slice a1 n1 c1,.bool b6,.slice a2 n2 c2,.int .i64 s.bits]) (by simp[results,Tryz.results26,go_sem,q0,q1,q2,q3,q4]) rfl ⟨⟨g9,a1,n1,c1,b6,a2,n2,c2,s.bits⟩,rfl,rfl,?_,?_⟩
 ·exact SpAt.put5 ⟨(k9.bw b9).mono (by omega),o0.mono (by omega)⟩ q0 q1 q2 q3 q4 _ _ _ _ _
 ·exact kB (zB (zB (bl3 _ _ _ _).drew b7) b9) le2 _ _ _ _ _
theorem zJS (w:World) (s t:Sp) (k:Nat) (lo hi lo' hi':Int) (hs:SpAt w s k lo hi) (ht:SpAt w t k lo' hi') (hk:k<=600000000) :
  Calls Tryz.prog 118 #[.agg s.q,.agg t.q] w (zJ w s.bits (k+1) (lo-hi') (hi-lo')):=by
 have iC:w.heap.size≠w.heap.size+1+1:=by omega
 have iD:w.heap.size+1+1≠w.heap.size:=by omega
 have le2:w.heap.size<=w.heap.size+1+1:=by omega
 go_enter Tryz.func118,Tryz.ntmps118
 go_wp2
 go_region_held3 (λ w'=>cK w' w.heap.size s (cK0 w' (w.heap.size+1) t)) ((dsimp only[cK,cK0,nK,nK0,rK,rK0];go_keep))
  (first
   | (go_at_call 97;refine (zCO _ t k lo' hi' (ht.bw (bl3 _ _ _ _).drew) (by omega)).mono ?_;rintro r w1 ⟨u,rfl,I0,E9,b7⟩;have tX:=zC I0;clear I0;obtain⟨C5,A9,D8⟩:=jY (w.heap.size+1+1+1) (by simp) b7)
   | (go_at_call 113;refine (zE8 _ s u k lo hi (-hi') (-lo') (hs.bw (zB (bl3 _ _ _ _).drew b7)) E9 (by omega)).mono ?_;rintro r w2 ⟨v,rfl,I4,H5,b9⟩;have HVB:=zC I4;clear I4;obtain⟨D7,C7,G0⟩:=jY (w.heap.size+1+1+1) C5 b9))
 go_wp2;have q0:w2.cell? ⟨w.heap.size+1+1,0,none⟩=some (.bool false):=by simp[C7,A9,go_sem]
 have q1:w2.cell? ⟨w.heap.size+1+1,1,none⟩=some (.slice none 0 0):=by simp[C7,A9,go_sem]
 have q2:w2.cell? ⟨w.heap.size+1+1,2,none⟩=some (.bool false):=by simp[C7,A9,go_sem]
 have q3:w2.cell? ⟨w.heap.size+1+1,3,none⟩=some (.slice none 0 0):=by simp[C7,A9,go_sem]
 have q4:w2.cell? ⟨w.heap.size+1+1,4,none⟩=some (.int .i64 0):=by simp[C7,A9,go_sem]
 refine bodyPost_ret (v:=.agg v.q) (by simp[results,Tryz.results118,go_sem,q0,q1,q2,q3,q4]) rfl ⟨v,rfl,zA HVB,?_,?_⟩
 ·rw[Int.sub_eq_add_neg,Int.sub_eq_add_neg]
  exact SpAt.put5 H5 q0 q1 q2 q3 q4 _ _ _ _ _
 ·exact kB (zB (zB (bl3 _ _ _ _).drew b7) b9) le2 _ _ _ _ _
theorem zE2 (w:World) (s t:Sp) (k:Nat) (lo hi:Int) (hs:SpAt w s k lo hi) (ht:SpAt w t k lo hi) (hb:s.bits=t.bits) :
  Calls Tryz.prog 48 #[.agg s.q,.agg t.q] w λ r w'=>r=.returned (.bool true)/\Below w.heap.size w w':=by
 have b7:(s.bits == t.bits)=true:=by simp[hb]
 clear hb
 go_enter Tryz.func48,Tryz.ntmps48
 go_wp2_with fail;refine (zU _ _ _ _ _ _ _ _ k k lo lo _ (hs.lo.bw (bl2 _ _ _)) (ht.lo.bw (bl2 _ _ _))).mono ?_;rintro r w1 ⟨rfl,K6⟩;obtain⟨C5,A9,D8⟩:=jY (w.heap.size+1+1) (by simp) K6
 have A6:Below w.heap.size w w1:=zB (bl2 _ _ _) K6;rw[zFK];go_wp2_with fail;refine (zU _ _ _ _ _ _ _ _ k k hi hi _ (hs.hi.bw A6) (ht.hi.bw A6)).mono ?_;rintro r w2 ⟨rfl,b9⟩;obtain⟨D7,C7,G0⟩:=jY (w.heap.size+1+1) C5 b9;have o7:Below w.heap.size w w2:=zB A6 b9;rw[zFK];go_wp2_with fail;refine (zAG _ _ _ _ k lo _ (hs.lo.bw o7)).mono ?_;rintro r w3 ⟨rfl,k8⟩;obtain⟨P0,T6,Z9⟩:=jY (w.heap.size+1+1) D7 k8;have E2:Below w.heap.size w w3:=zB o7 k8;go_wp2_with fail;refine (zAG _ _ _ _ k hi _ (hs.hi.bw E2)).mono ?_;rintro r w4 ⟨rfl,m9⟩;go_wp2_with fail
 go_ret
 exact⟨rfl,zB E2 m9⟩
theorem zJ2 (w:World) (s t:Sp) (k:Nat) (lo hi er:Int) (hs:SpAt w s k lo hi) (ht:SpAt w t k lo hi) (hb:s.bits=t.bits) (hz:er≠0->lo=0/\hi=0/\s.bits=0) :
  Calls Tryz.prog 31 #[.agg s.q,.int .i64 er,.int .i64 er,.agg t.q] w λ r w'=>r=.returned (.bool true)/\Below w.heap.size w w':=by
 have HB:=zC hb;have HZ:=zC hz;clear hb hz
 by_cases he:er=0
 ·subst he
  go_enter Tryz.func31,Tryz.ntmps31
  go_wp2_with fail;refine (zE2 _ s t k lo hi (hs.bw (bl2 _ _ _)) (ht.bw (bl2 _ _ _)) (zA HB)).mono ?_;rintro r w1 ⟨rfl,b7⟩;go_wp2_with fail
  go_ret
  exact⟨rfl,zB (bl2 _ _ _) b7⟩
 ·have Ik:(er != 0)=true:=by simpa using he
  obtain⟨z1,z2,z3⟩:=zA HZ he;subst z1 z2;have Li:=zC z3;clear z3
  go_enter Tryz.func31,Tryz.ntmps31
  go_wp2_with fail;refine (zE2 _ s ⟨false,none,0,0,false,none,0,0,0⟩ k 0 0 (hs.bw (bl2 _ _ _)) (zL8 _ _) (zA Li)).mono ?_;rintro r w1 ⟨rfl,b7⟩;go_wp2_with fail
  go_ret
  exact⟨rfl,zB (bl2 _ _ _) b7⟩
theorem done_fit (w:World) (s:Sp) (k:Nat) (lo hi:Int) (hs:SpAt w s k lo hi) (hle:lo<=hi) (h1:1<=s.bits) (h2:s.bits<=120) :
  Calls Tryz.prog 30 #[.agg s.q] w (zJ0 w (fitZ lo hi s.bits) k (fitZ lo hi lo) (fitZ lo hi hi) (fitE lo hi)):=by
 obtain⟨d,e,aZ,CS⟩:=chk_fit hs hle h1 h2;have HC:=zC CS;clear CS h1 h2 hle
 rcases zIE lo hi with⟨_,f2,f3⟩|⟨_,f2,f3⟩
 ·have IA:=zC f2
  have dt:(zGC s d e != 0)=true:=by rw[zA HC,f2];rfl
  rw[f2,f3,f3,f3];clear f2 f3
  go_enter Tryz.func30,Tryz.ntmps30
  go_wp2_with fail;refine (zDW s d e _ (aZ.bw (bl3 _ _ _ _))).mono ?_;rintro r w1 ⟨rfl,b7⟩;obtain⟨C5,A9,D8⟩:=jY (w.heap.size+1+1+1) (by simp) b7
  go_wp2_with fail;have q0:w1.cell? ⟨w.heap.size+1,0,none⟩=some (.bool false):=by simp[A9,go_sem]
  have q1:w1.cell? ⟨w.heap.size+1,1,none⟩=some (.slice none 0 0):=by simp[A9,go_sem]
  have q2:w1.cell? ⟨w.heap.size+1,2,none⟩=some (.bool false):=by simp[A9,go_sem]
  have q3:w1.cell? ⟨w.heap.size+1,3,none⟩=some (.slice none 0 0):=by simp[A9,go_sem]
  have q4:w1.cell? ⟨w.heap.size+1,4,none⟩=some (.int .i64 0):=by simp[A9,go_sem]
  refine bodyPost_ret (v:=.tuple #[.agg zCq,.int .i64 2]) (by simp[results,Tryz.results30,go_sem,q0,q1,q2,q3,q4]) rfl ⟨⟨false,none,0,0,false,none,0,0,0⟩,rfl,rfl,zL8 _ _,?_⟩
  exact kB (zB (bl3 _ _ _ _) b7) (Yh _) _ _ _ _ _
 ·have IA:=zC f2
  have dt:(zGC s d e != 0)=false:=by rw[zA HC,f2];rfl
  rw[f2,f3,f3,f3];clear f2 f3
  go_enter Tryz.func30,Tryz.ntmps30
  go_wp2_with fail;refine (zDW s d e _ (aZ.bw (bl3 _ _ _ _))).mono ?_;rintro r w1 ⟨rfl,b7⟩;obtain⟨C5,A9,D8⟩:=jY (w.heap.size+1+1+1) (by simp) b7
  go_wp2_with fail;have q0:w1.cell? ⟨w.heap.size+1,0,none⟩=some (.bool false):=by simp[A9,go_sem]
  have q1:w1.cell? ⟨w.heap.size+1,1,none⟩=some (.slice none 0 0):=by simp[A9,go_sem]
  have q2:w1.cell? ⟨w.heap.size+1,2,none⟩=some (.bool false):=by simp[A9,go_sem]
  have q3:w1.cell? ⟨w.heap.size+1,3,none⟩=some (.slice none 0 0):=by simp[A9,go_sem]
  have q4:w1.cell? ⟨w.heap.size+1,4,none⟩=some (.int .i64 0):=by simp[A9,go_sem]
  refine bodyPost_ret (v:=.tuple #[.agg s.q,.int .i64 0]) (by simp[results,Tryz.results30,go_sem,q0,q1,q2,q3,q4]) rfl ⟨s,rfl,rfl,?_,?_⟩
  ·exact SpAt.put5 (hs.bw (zB (bl3 _ _ _ _) b7)) q0 q1 q2 q3 q4 _ _ _ _ _
  ·exact kB (zB (bl3 _ _ _ _) b7) (Yh _) _ _ _ _ _
theorem zD2 (neg:Bool) (a:Option Addr) (n cap k1:Nat) (k x:Int) (w:World) (h1:IntAt w neg a n cap k1 x) (S7:k1<=900000000) (T5 : -1000000000<=k) (hk:k<=1000000000) :
  Calls Tryz.prog 174 #[.agg #[.bool neg,.slice a n cap],.int .i64 k] w λ r w' =>
   ∃ j8 a' n' m7,r=.returned (.agg #[.bool j8,.slice a' n' m7])/\IntAt w' j8 a' n' m7 ((-k).toNat/16+k1+5) (-(zBC (-x) k))/\Below w.heap.size w w':=by
 go_enter Tryz.func174,Tryz.ntmps174
 go_wp2_with (first
  | (go_at_call 103;have hq:=b9;refine (kC _ _ _ _ ((-k).toNat/16+k1+5) _ _ o0 (by omega)).mono ?_;rintro r w3 ⟨p9,a3,n3,c3,rfl,A8,k8⟩;obtain⟨P0,T6,Z9⟩:=jY (w.heap.size+1+1) D7 k8)
  | (go_at_call 103;refine (kC _ _ _ _ k1 x _ (h1.bw (bl2 _ _ _)) (by omega)).mono ?_;rintro r w1 ⟨g9,a1,n1,c1,rfl,k9,b7⟩;obtain⟨C5,A9,D8⟩:=jY (w.heap.size+1+1) (by simp) b7)
  | (go_at_call 105;refine (zEE _ _ _ _ k1 k (-x) _ k9 (by omega) T5 hk).mono ?_;rintro r w2 ⟨b6,a2,n2,c2,rfl,o0,b9⟩;obtain⟨D7,C7,G0⟩:=jY (w.heap.size+1+1) C5 b9))
 have h0:w3.cell? ⟨w.heap.size+1,0,none⟩=some (.bool false):=by simp[T6,C7,A9,go_sem]
 have I1:w3.cell? ⟨w.heap.size+1,1,none⟩=some (.slice none 0 0):=by simp[T6,C7,A9,go_sem]
 refine bodyPost_ret (v:=.agg #[.bool p9,.slice a3 n3 c3]) (by simp[results,Tryz.results174,go_sem,h0,I1]) rfl ⟨p9,a3,n3,c3,rfl,A8.put2 h0 I1 _ _,?_⟩
 exact ((zB (zB (zB (bl2 _ _ _) b7) b9) k8).setCell (p:=⟨w.heap.size+1,0,none⟩) (Yh _) _).setCell (p:=⟨w.heap.size+1,1,none⟩) (Yh _) _
theorem zKH (w:World) (s t:Sp) (k:Nat) (lo hi lo' hi':Int) (hs:SpAt w s k lo hi) (ht:SpAt w t k lo' hi') (hk:k<=300000000) :
  Calls Tryz.prog 178 #[.agg s.q,.agg t.q,.func (.func 66) #[] #[]] w λ r w' =>
   ∃ B f,r=.returned (.slice (some ⟨B,0,none⟩) 4 4)/\Nums w' B 4 (k+k) f (pr4 (lo*lo') (lo*hi') (hi*lo') (hi*hi'))/\Below w.heap.size w w':=by
 obtain⟨W,hW⟩:∃ W,W=(w.alloc (.cells s.q 28)).alloc (.cells t.q 28):=⟨_,rfl⟩;have b8:Below w.heap.size w W:=by rw[hW];exact bl2 _ _ _
 have a0:SpC W w.heap.size s:=by rw[hW];constructor<;>simp[go_sem]
 have g0:SpC W (w.heap.size+1) t:=by rw[hW];constructor<;>simp[go_sem]
 have HS:=zC (hs.bw b8);have HT:=zC (ht.bw b8);have C4:Below W.heap.size W W.drew:=(Below.refl _ _).drew
 have HK:=zC (show ∀ w',Below W.heap.size W w'->(w'.cell? ⟨w.heap.size,0,none⟩=some (.bool s.ln)/\w'.cell? ⟨w.heap.size,1,none⟩=some (.slice s.la s.lN s.lc)/\w'.cell? ⟨w.heap.size,2,none⟩=some (.bool s.hn)/\w'.cell? ⟨w.heap.size,3,none⟩=some (.slice s.ha s.hN s.hc)/\w'.cell? ⟨w.heap.size+1,0,none⟩=some (.bool t.ln)/\w'.cell? ⟨w.heap.size+1,1,none⟩=some (.slice t.la t.lN t.lc)/\w'.cell? ⟨w.heap.size+1,2,none⟩=some (.bool t.hn)/\w'.cell? ⟨w.heap.size+1,3,none⟩=some (.slice t.ha t.hN t.hc)) from λ w' hB=>by
  obtain⟨x0,x1,x2,x3,x4⟩:=a0.bw hB;obtain⟨y0,y1,y2,y3,y4⟩:=g0.bw hB
  exact⟨x0,x1,x2,x3,y0,y1,y2,y3⟩)
 go_enter Tryz.func178,Tryz.ntmps178
 go_wp2;obtain⟨x0,x1,x2,x3,x4⟩:=a0;obtain⟨y0,y1,y2,y3,y4⟩:=g0;rw[<- hW];clear hW
 go_region_held3 (λ w'=>w'.cell? ⟨w.heap.size,0,none⟩=some (.bool s.ln)/\w'.cell? ⟨w.heap.size,1,none⟩=some (.slice s.la s.lN s.lc)/\w'.cell? ⟨w.heap.size,2,none⟩=some (.bool s.hn)/\w'.cell? ⟨w.heap.size,3,none⟩=some (.slice s.ha s.hN s.hc)/\w'.cell? ⟨w.heap.size+1,0,none⟩=some (.bool t.ln)/\w'.cell? ⟨w.heap.size+1,1,none⟩=some (.slice t.la t.lN t.lc)/\w'.cell? ⟨w.heap.size+1,2,none⟩=some (.bool t.hn)/\w'.cell? ⟨w.heap.size+1,3,none⟩=some (.slice t.ha t.hN t.hc)) (exact zA HK _ (by first|exact C4|exact zL L5 _|exact L5|exact E2|exact o7|exact A6))
  (first
   | (go_at_call 66;have hq:=E2;refine (zW _ _ _ _ _ _ _ _ k k hi hi' _ ((zA HS).hi.bw E2) ((zA HT).hi.bw E2) (by omega) (by omega)).mono ?_;rintro r w4 ⟨o9,a4,n4,c4,rfl,D9,m9⟩;have k9:=k9.bw m9;have o0:=o0.bw m9;have A8:=A8.bw m9;have L5:=zB E2 m9)
   | (go_at_call 66;have hq:=o7;refine (zW _ _ _ _ _ _ _ _ k k hi lo' _ ((zA HS).hi.bw o7) ((zA HT).lo.bw o7) (by omega) (by omega)).mono ?_;rintro r w3 ⟨p9,a3,n3,c3,rfl,A8,k8⟩;have k9:=k9.bw k8;have o0:=o0.bw k8;have E2:=zB o7 k8)
   | (go_at_call 66;have hq:=A6;refine (zW _ _ _ _ _ _ _ _ k k lo hi' _ ((zA HS).lo.bw A6) ((zA HT).hi.bw A6) (by omega) (by omega)).mono ?_;rintro r w2 ⟨b6,a2,n2,c2,rfl,o0,b9⟩;have k9:=k9.bw b9;have o7:=zB A6 b9)
   | (go_at_call 66;have hq:=C4;refine (zW _ _ _ _ _ _ _ _ k k lo lo' _ ((zA HS).lo.bw C4) ((zA HT).lo.bw C4) (by omega) (by omega)).mono ?_;rintro r w1 ⟨g9,a1,n1,c1,rfl,k9,b7⟩;have A6:=zB C4 b7))
 go_wp2
 go_ret
 exact⟨w4.heap.size,pr4 ⟨g9,a1,n1,c1⟩ ⟨b6,a2,n2,c2⟩ ⟨p9,a3,n3,c3⟩ ⟨o9,a4,n4,c4⟩,rfl,zKF w4 _ rfl ⟨g9,a1,n1,c1⟩ ⟨b6,a2,n2,c2⟩ ⟨p9,a3,n3,c3⟩ ⟨o9,a4,n4,c4⟩ _ _ _ _ _ _ k9 o0 A8 D9,zB b8 (zL L5 _)⟩
theorem zK0 (w:World) (s t:Sp) (k:Nat) (lo hi lo' hi':Int) (hs:SpAt w s k lo hi) (ht:SpAt w t k lo' hi') (hk:k<=300000000) (C9:0<=s.bits) (gP:s.bits<=1000000) :
  Calls Tryz.prog 162 #[.agg s.q,.agg t.q] w (zJ w s.bits (k+k+8) (zBC (jB (pr4 (lo*lo') (lo*hi') (hi*lo') (hi*hi')) 3) s.bits) (-(zBC (-(jP (pr4 (lo*lo') (lo*hi') (hi*lo') (hi*hi')) 3)) s.bits))):=by
 have hbz:(-s.bits).toNat=0:=by omega
 have iC:w.heap.size≠w.heap.size+1+1:=by omega
 have iD:w.heap.size+1+1≠w.heap.size:=by omega
 obtain⟨W,hW⟩:∃ W,W=((w.alloc (.cells s.q 28)).alloc (.cells t.q 28)).alloc (.cells zCq 28):=⟨_,rfl⟩;have b8:Below w.heap.size w W:=by rw[hW];exact bl3 _ _ _ _
 have a0:SpC W w.heap.size s:=by rw[hW];constructor<;>simp[go_sem]
 have g0:SpC W (w.heap.size+1) t:=by rw[hW];constructor<;>simp[go_sem]
 have r0:NoC W (w.heap.size+1+1):=by rw[hW];constructor<;>simp[go_sem]
 have HS:=zC (hs.bw b8);have HT:=zC (ht.bw b8);have C4:Below W.heap.size W W.drew:=(Below.refl _ _).drew
 have HK:=zC (show ∀ w',Below W.heap.size W w'->(w'.cell? ⟨w.heap.size,0,none⟩=some (.bool s.ln)/\w'.cell? ⟨w.heap.size,1,none⟩=some (.slice s.la s.lN s.lc)/\w'.cell? ⟨w.heap.size,2,none⟩=some (.bool s.hn)/\w'.cell? ⟨w.heap.size,3,none⟩=some (.slice s.ha s.hN s.hc)/\w'.cell? ⟨w.heap.size+1,0,none⟩=some (.bool t.ln)/\w'.cell? ⟨w.heap.size+1,1,none⟩=some (.slice t.la t.lN t.lc)/\w'.cell? ⟨w.heap.size+1,2,none⟩=some (.bool t.hn)/\w'.cell? ⟨w.heap.size+1,3,none⟩=some (.slice t.ha t.hN t.hc)) from λ w' hB=>by
  obtain⟨x0,x1,x2,x3,x4⟩:=a0.bw hB;obtain⟨y0,y1,y2,y3,y4⟩:=g0.bw hB
  exact⟨x0,x1,x2,x3,y0,y1,y2,y3⟩)
 go_enter Tryz.func162,Tryz.ntmps162
 go_wp2_with fail;rw[<- hW];clear hW;refine (zKH _ s t k lo hi lo' hi' (zA HS) (zA HT) hk).mono ?_;rintro r w1 ⟨B,f,rfl,hN,b7⟩;have Q3:=r0.bw b7;have O5:=Q3.lt;obtain⟨x0,x1,x2,x3,x4⟩:=a0.bw b7;have a1:SpC w1 w.heap.size s:=⟨x0,x1,x2,x3,x4⟩;have ah:=zC (show ∀ w',Below w1.heap.size w1 w'->w'.cell? ⟨w.heap.size,4,none⟩=some (.int .i64 s.bits) from λ w' hB=>(a1.bw hB).c4)
 have m8:Below w1.heap.size w1 w1.drew:=(Below.refl _ _).drew;clear x0 x1 x2 x3;go_wp2_with fail
 go_region_held3 (λ w'=>w'.cell? ⟨w.heap.size,4,none⟩=some (.int .i64 s.bits)) (first|exact zA ah _ (by first|exact m8|exact I5|exact C8|exact y9|exact j9)|go_keep)
  (first
   | (go_at_call 177;refine (zC2 _ 3 _ (k+k) f _ _ (hN.bw m8) (by omega) (by omega)).mono ?_;rintro r w2 ⟨b6,a2,n2,c2,rfl,o0,b9⟩;have j9:=zB m8 b9)
   | (go_at_call 105;refine (zEE _ _ _ _ (k+k+1) s.bits _ _ o0 (by omega) (by omega) (by omega)).mono ?_;rintro r w3 ⟨p9,a3,n3,c3,rfl,A8,k8⟩;have y9:=zB j9 k8)
   | (go_at_call 180;refine (zEV _ 3 _ (k+k) f _ _ (hN.bw y9) (by omega) (by omega)).mono ?_;rintro r w4 ⟨o9,a4,n4,c4,rfl,D9,m9⟩;have A8:=A8.bw m9;have C8:=zB y9 m9)
   | (go_at_call 174;refine (zD2 _ _ _ _ (k+k+1) s.bits _ _ D9 (by omega) (by omega) (by omega)).mono ?_;rintro r w5 ⟨G9,a5,n5,c5,rfl,O0,A7⟩;have A8:=A8.bw A7;have I5:=zB C8 A7;obtain⟨q0,q1,q2,q3,q4,q5⟩:=Q3.bw I5;have x5:=zA ah _ I5))
 go_wp2;refine bodyPost_ret (v:=.agg #[.bool p9,.slice a3 n3 c3,.bool G9,.slice a5 n5 c5,.int .i64 s.bits]) (by simp[results,Tryz.results162,go_sem,q0,q1,q2,q3,q4]) rfl ⟨⟨p9,a3,n3,c3,G9,a5,n5,c5,s.bits⟩,rfl,rfl,?_,?_⟩
 ·exact SpAt.put5 ⟨A8.mono (by omega),O0.mono (by omega)⟩ q0 q1 q2 q3 q4 _ _ _ _ _
 ·exact kB (zB (zB b8 b7) I5) (by omega) _ _ _ _ _
theorem kN {w:World} {B B' o:Nat} {v:Option Value} (h:w.cell? ⟨B,o,none⟩=v) (hne:B≠B') (u0 u1 u2 u3 u4:Value) :
  (((((w.setCell ⟨B',0,none⟩ u0).setCell ⟨B',1,none⟩ u1).setCell ⟨B',2,none⟩ u2).setCell ⟨B',3,none⟩ u3).setCell ⟨B',4,none⟩ u4).cell? ⟨B,o,none⟩=v:=by
 have ne:∀ i:Nat,(⟨B',i,none⟩:Addr)≠⟨B,o,none⟩:=λ i e=>hne (by injection e with e1;exact e1.symm)
 rw[World.cell?_setCell_other _ _ _ _ (ne 4),World.cell?_setCell_other _ _ _ _ (ne 3),World.cell?_setCell_other _ _ _ _ (ne 2),World.cell?_setCell_other _ _ _ _ (ne 1),World.cell?_setCell_other _ _ _ _ (ne 0)];exact h
theorem SpC.put {w:World} {B B':Nat} {s:Sp} (h:SpC w B s) (hne:B≠B') (u0 u1 u2 u3 u4:Value) :
  SpC (((((w.setCell ⟨B',0,none⟩ u0).setCell ⟨B',1,none⟩ u1).setCell ⟨B',2,none⟩ u2).setCell ⟨B',3,none⟩ u3).setCell ⟨B',4,none⟩ u4) B s :=
 ⟨kN h.c0 hne _ _ _ _ _,kN h.c1 hne _ _ _ _ _,kN h.c2 hne _ _ _ _ _,kN h.c3 hne _ _ _ _ _,kN h.c4 hne _ _ _ _ _⟩
theorem nums2' (w:World) (B:Nat) (hB:w.heap.size=B) (x y:Nm) (k:Nat) (zx zy:Int) (T:TypeId) (hx:IntAt w x.neg x.a x.n x.cap k zx) (hy:IntAt w y.neg y.a y.n y.cap k zy) :
  Nums (w.alloc (.cells #[.bool x.neg,.slice x.a x.n x.cap,.bool y.neg,.slice y.a y.n y.cap] T)) B 2 k (pr x y) (pr zx zy):=by
 subst hB;exact nums2 w x y k zx zy T hx hy
theorem zIP (w:World) (s t:Sp) (k:Nat) (lo hi lo' hi':Int) (hs:SpAt w s k lo hi) (ht:SpAt w t k lo' hi') (hk:k<=300000000) (C9:0<=s.bits) (gP:s.bits<=1000000) :
  Calls Tryz.prog 52 #[.agg s.q,.agg t.q] w (zJ w s.bits (k+k+8) (zBC (jB (pr4 (lo*lo') (lo*hi') (hi*lo') (hi*hi')) 3) s.bits) (-(zBC (-(jP (pr4 (lo*lo') (lo*hi') (hi*lo') (hi*hi')) 3)) s.bits))):=by
 have hbz:(-s.bits).toNat=0:=by omega
 have iC:w.heap.size≠w.heap.size+1+1:=by omega
 have iD:w.heap.size+1+1≠w.heap.size:=by omega
 obtain⟨W,hW⟩:∃ W,W=((w.alloc (.cells s.q 36)).alloc (.cells t.q 36)).alloc (.cells zCq 36):=⟨_,rfl⟩;have b8:Below w.heap.size w W:=by rw[hW];exact bl3 _ _ _ _
 have a0:SpC W w.heap.size s:=by rw[hW];constructor<;>simp[go_sem]
 have g0:SpC W (w.heap.size+1) t:=by rw[hW];constructor<;>simp[go_sem]
 have r0:NoC W (w.heap.size+1+1):=by rw[hW];constructor<;>simp[go_sem]
 have HS:=zC (hs.bw b8);have HT:=zC (ht.bw b8);have C4:Below W.heap.size W W.drew:=(Below.refl _ _).drew
 have HK:=zC (show ∀ w',Below W.heap.size W w'->(w'.cell? ⟨w.heap.size,0,none⟩=some (.bool s.ln)/\w'.cell? ⟨w.heap.size,1,none⟩=some (.slice s.la s.lN s.lc)/\w'.cell? ⟨w.heap.size,2,none⟩=some (.bool s.hn)/\w'.cell? ⟨w.heap.size,3,none⟩=some (.slice s.ha s.hN s.hc)/\w'.cell? ⟨w.heap.size+1,0,none⟩=some (.bool t.ln)/\w'.cell? ⟨w.heap.size+1,1,none⟩=some (.slice t.la t.lN t.lc)/\w'.cell? ⟨w.heap.size+1,2,none⟩=some (.bool t.hn)/\w'.cell? ⟨w.heap.size+1,3,none⟩=some (.slice t.ha t.hN t.hc)) from λ w' hB=>by
  obtain⟨x0,x1,x2,x3,x4⟩:=a0.bw hB;obtain⟨y0,y1,y2,y3,y4⟩:=g0.bw hB
  exact⟨x0,x1,x2,x3,y0,y1,y2,y3⟩)
 go_enter Tryz.func52,Tryz.ntmps52
 go_wp2;obtain⟨x0,x1,x2,x3,x4⟩:=a0;obtain⟨y0,y1,y2,y3,y4⟩:=g0;have a0:SpC W w.heap.size s:=⟨x0,x1,x2,x3,x4⟩;rw[<- hW];clear hW
 go_region_held3 (λ w'=>w'.cell? ⟨w.heap.size,0,none⟩=some (.bool s.ln)/\w'.cell? ⟨w.heap.size,1,none⟩=some (.slice s.la s.lN s.lc)/\w'.cell? ⟨w.heap.size,2,none⟩=some (.bool s.hn)/\w'.cell? ⟨w.heap.size,3,none⟩=some (.slice s.ha s.hN s.hc)/\w'.cell? ⟨w.heap.size+1,0,none⟩=some (.bool t.ln)/\w'.cell? ⟨w.heap.size+1,1,none⟩=some (.slice t.la t.lN t.lc)/\w'.cell? ⟨w.heap.size+1,2,none⟩=some (.bool t.hn)/\w'.cell? ⟨w.heap.size+1,3,none⟩=some (.slice t.ha t.hN t.hc)) (exact zA HK _ (by first|exact C4|exact zL L5 _|exact L5|exact E2|exact o7|exact A6))
  (first
   | (go_at_call 66;have hq:=E2;refine (zW _ _ _ _ _ _ _ _ k k hi hi' _ ((zA HS).hi.bw E2) ((zA HT).hi.bw E2) (by omega) (by omega)).mono ?_;rintro r w4 ⟨o9,a4,n4,c4,rfl,D9,m9⟩;have k9:=k9.bw m9;have o0:=o0.bw m9;have A8:=A8.bw m9;have L5:=zB E2 m9)
   | (go_at_call 66;have hq:=o7;refine (zW _ _ _ _ _ _ _ _ k k hi lo' _ ((zA HS).hi.bw o7) ((zA HT).lo.bw o7) (by omega) (by omega)).mono ?_;rintro r w3 ⟨p9,a3,n3,c3,rfl,A8,k8⟩;have k9:=k9.bw k8;have o0:=o0.bw k8;have E2:=zB o7 k8)
   | (go_at_call 66;have hq:=A6;refine (zW _ _ _ _ _ _ _ _ k k lo hi' _ ((zA HS).lo.bw A6) ((zA HT).hi.bw A6) (by omega) (by omega)).mono ?_;rintro r w2 ⟨b6,a2,n2,c2,rfl,o0,b9⟩;have k9:=k9.bw b9;have o7:=zB A6 b9)
   | (go_at_call 66;have hq:=C4;refine (zW _ _ _ _ _ _ _ _ k k lo lo' _ ((zA HS).lo.bw C4) ((zA HT).lo.bw C4) (by omega) (by omega)).mono ?_;rintro r w1 ⟨g9,a1,n1,c1,rfl,k9,b7⟩;have A6:=zB C4 b7))
 obtain⟨w5,cf⟩:∃ w5,w5=w4.alloc (.cells #[.bool g9,.slice a1 n1 c1,.bool b6,.slice a2 n2 c2,.bool p9,.slice a3 n3 c3,.bool o9,.slice a4 n4 c4] 26):=⟨_,rfl⟩;have M6:Below W.heap.size W w5:=by rw[cf];exact zL L5 _
 have hN:Nums w5 w4.heap.size 4 (k+k) (pr4 ⟨g9,a1,n1,c1⟩ ⟨b6,a2,n2,c2⟩ ⟨p9,a3,n3,c3⟩ ⟨o9,a4,n4,c4⟩) (pr4 (lo*lo') (lo*hi') (hi*lo') (hi*hi')):=by rw[cf];exact zKF w4 _ rfl ⟨g9,a1,n1,c1⟩ ⟨b6,a2,n2,c2⟩ ⟨p9,a3,n3,c3⟩ ⟨o9,a4,n4,c4⟩ _ _ _ _ _ _ k9 o0 A8 D9
 have Q3:=r0.bw M6;have a5:=a0.bw M6;have O5:=Q3.lt;have x45:=a5.c4;have ah:=zC (show ∀ w',Below w5.heap.size w5 w'->w'.cell? ⟨w.heap.size,4,none⟩=some (.int .i64 s.bits) from λ w' hB=>(a5.bw hB).c4)
 have m8:Below w5.heap.size w5 w5.drew:=(Below.refl _ _).drew;clear x0 x1 x2 x3 x4 y0 y1 y2 y3 y4 b7 b9 k8 m9 k9 o0 A8 D9 A6 o7 E2 L5 C4 a0 HK HS HT;go_wp2;rw[<- cf];clear cf
 go_region_held3 (λ w'=>w'.cell? ⟨w.heap.size,4,none⟩=some (.int .i64 s.bits)) (first|exact zA ah _ (by first|exact m8|exact ph|exact tY|exact Lj|exact dx|exact Q4|exact I6)|go_keep)
  (first
   | (go_at_call 106;refine (zFH _ 3 _ (k+k) _ _ _ (hN.bw m8) (by omega)).mono ?_;rintro r w6 ⟨D4,a6,n6,c6,rfl,L9,G3⟩;have I6:=zB m8 G3)
   | (go_at_call 103;have hq:=tY;refine (kC _ _ _ _ (k+k+5) _ _ bl (by omega)).mono ?_;rintro r Bc ⟨bM,Be,tZ,qM,rfl,dy,P2⟩;have O1:=O1.bw P2;have ph:=zB tY P2;obtain⟨q0,q1,q2,q3,q4,q5⟩:=Q3.bw ph;have x5:=zA ah _ ph)
   | (go_at_call 105;have hq:=Lj;refine (zEE _ _ _ _ (k+k) s.bits _ _ jv (by omega) (by omega) (by omega)).mono ?_;rintro r oB ⟨lj,Lk,lq,gM,rfl,bl,P6⟩;have bl:=bl.mono (show _<=k+k+5 by omega);have O1:=O1.bw P6;have tY:=zB Lj P6)
   | (go_at_call 103;have hq:=dx;refine (kC _ _ _ _ (k+k) _ _ vd (by omega)).mono ?_;rintro r w9 ⟨eQ,a9,n9,c9,rfl,jv,cn⟩;have O1:=O1.bw cn;have Lj:=zB dx cn)
   | (go_at_call 102;refine (zAU _ 3 _ (k+k) _ _ _ (hN.bw Q4) (by omega)).mono ?_;rintro r w8 ⟨CT,a8,n8,c8,rfl,vd,Q7⟩;have O1:=O1.bw Q7;have dx:=zB Q4 Q7)
   | (go_at_call 105;refine (zEE _ _ _ _ (k+k) s.bits _ _ L9 (by omega) (by omega) (by omega)).mono ?_;rintro r w7 ⟨P1,a7,n7,c7,rfl,O1,I8⟩;have Q4:=zB I6 I8))
 go_wp2;refine bodyPost_ret (v:=.agg #[.bool P1,.slice a7 n7 c7,.bool bM,.slice Be tZ qM,.int .i64 s.bits]) (by simp[results,Tryz.results52,go_sem,q0,q1,q2,q3,q4]) rfl ⟨⟨P1,a7,n7,c7,bM,Be,tZ,qM,s.bits⟩,rfl,rfl,?_,?_⟩
 ·exact SpAt.put5 ⟨O1.mono (by omega),dy.mono (by omega)⟩ q0 q1 q2 q3 q4 _ _ _ _ _
 ·exact kB (zB (zB b8 M6) ph) (by omega) _ _ _ _ _
theorem zB4 (w:World) (B:Nat) (hB:w.heap.size=B) (T:TypeId):NoC (w.alloc (.cells zCq T)) B:=by subst hB;exact zM w T
structure NmC (w:World) (B:Nat) (x:Nm):Prop where
 c0:w.cell? ⟨B,0,none⟩=some (.bool x.neg)
 c1:w.cell? ⟨B,1,none⟩=some (.slice x.a x.n x.cap)
theorem NmC.lt {w:World} {B:Nat} {x:Nm} (h:NmC w B x):B<w.heap.size:=World.block_lt_of_cell? w ⟨B,0,none⟩ h.c0
theorem NmC.bw {w w':World} {B:Nat} {x:Nm} (h:NmC w B x) (hb:Below w.heap.size w w'):NmC w' B x :=
 ⟨(hb.cell (p:=⟨B,0,none⟩) h.lt).trans h.c0,(hb.cell (p:=⟨B,1,none⟩) h.lt).trans h.c1⟩
theorem zAK (w:World) (x:Nm) (T:TypeId):NmC (w.alloc (.cells x.q T)) w.heap.size x:=⟨by simp,by simp⟩
structure NoI (w:World) (B:Nat):Prop where
 c0:w.cell? ⟨B,0,none⟩=some (.bool false)
 c1:w.cell? ⟨B,1,none⟩=some (.slice none 0 0)
 fz:∀ o,w.frozen? ⟨B,o,none⟩=false
theorem NoI.lt {w:World} {B:Nat} (h:NoI w B):B<w.heap.size:=World.block_lt_of_cell? w ⟨B,0,none⟩ h.c0
theorem NoI.bw {w w':World} {B:Nat} (h:NoI w B) (hb:Below w.heap.size w w'):NoI w' B :=
 ⟨(hb.cell (p:=⟨B,0,none⟩) h.lt).trans h.c0,(hb.cell (p:=⟨B,1,none⟩) h.lt).trans h.c1,λ o=>(hb.frozen (p:=⟨B,o,none⟩) h.lt).trans (h.fz o)⟩
theorem zD5 {B B':Nat} {a w:World} (h:Below B a w) (hB:B<=B') (u0 u1:Value):Below B a ((w.setCell ⟨B',0,none⟩ u0).setCell ⟨B',1,none⟩ u1) :=
 (h.setCell (p:=⟨B',0,none⟩) hB u0).setCell (p:=⟨B',1,none⟩) hB u1
def zDQ (w:World) (k:Nat) (z:Int) (r:Ending) (w':World):Prop :=
 ∃ j8 a' n' m7,r=.returned (.agg #[.bool j8,.slice a' n' m7])/\IntAt w' j8 a' n' m7 k z/\Below w.heap.size w w'
theorem zCS (neg b6:Bool) (a c:Option Addr) (n m cap j6 k k2:Nat) (x y:Int) (w:World) (h1:IntAt w neg a n cap k x) (h2:IntAt w b6 c m j6 k2 y) (hk:k<=700000000) (ba:k2<=100000000) (gO:∀ w',IntAt w' neg a n cap k x->IntAt w' b6 c m j6 k2 y->Calls Tryz.prog 119 #[.agg #[.bool neg,.slice a n cap],.agg #[.bool b6,.slice c m j6]] w' (zAN w' k (x/y))) :
  Calls Tryz.prog 108 #[.agg #[.bool neg,.slice a n cap],.agg #[.bool b6,.slice c m j6]] w (zDQ w (k+8) (x/y)):=by
 have HF:=zC gO;clear gO;have le2:w.heap.size<=w.heap.size+1+1:=by omega
 go_enter Tryz.func108,Tryz.ntmps108
 go_wp2_with fail;refine (zA HF _ (h1.bw (bl3 _ _ _ _)) (h2.bw (bl3 _ _ _ _))).mono ?_;rintro r w1 ⟨g9,a1,n1,c1,rfl,k9,b7⟩;obtain⟨C5,A9,D8⟩:=jY (w.heap.size+1+1+1) (by simp) b7
 go_wp2_with fail;have q0:w1.cell? ⟨w.heap.size+1+1,0,none⟩=some (.bool false):=by simp[A9,go_sem]
 have q1:w1.cell? ⟨w.heap.size+1+1,1,none⟩=some (.slice none 0 0):=by simp[A9,go_sem]
 refine bodyPost_ret (v:=.agg #[.bool g9,.slice a1 n1 c1]) (by simp[results,Tryz.results108,go_sem,q0,q1]) rfl ⟨g9,a1,n1,c1,rfl,k9.put2 q0 q1 _ _,?_⟩
 exact zD5 (zB (bl3 _ _ _ _) b7) le2 _ _
theorem ceil_up {x y:Int} (hy:0<y) (h:x/y*y<x):x/y+1 = -(-x/y):=by
 have h1:=Int.mul_ediv_add_emod x y;have h2:=Int.mul_ediv_add_emod (-x) y;have h3:=Int.emod_lt_of_pos x hy;have h4:=Int.emod_nonneg (-x) (show y≠0 by omega)
 have h5:=Int.emod_lt_of_pos (-x) hy;rw[Int.mul_comm y] at h1 h2;generalize x/y=p at *;generalize -x/y=q at *;generalize x % y=r at *;generalize -x % y=t at *;have h6:(p+q)*y=p*y+q*y:=Int.add_mul _ _ _
 have h7:p+q<0:=by
  rcases Int.lt_or_le (p+q) 0 with h|h
  ·exact h
  ·have:=Yb h (show 0<=y by omega);omega
 have h8 : -2<p+q:=by
  rcases Int.lt_or_le (-2) (p+q) with h|h
  ·exact h
  ·have:=XK h (show 0<=y by omega);omega
 omega
theorem zP1 {x y:Int} (hy:0<y) (h:¬ x/y*y<x):x/y = -(-x/y):=by
 have h1:=Int.mul_ediv_add_emod x y;have h3:=Int.emod_nonneg x (show y≠0 by omega)
 rw[Int.mul_comm y] at h1;have h4:x=x/y*y:=by omega
 have h5 : -x = -(x/y)*y:=by rw[Int.neg_mul];omega
 rw[h5,Int.mul_ediv_cancel _ (show y≠0 by omega)];omega
theorem zD9 (neg b6:Bool) (a c:Option Addr) (n m cap j6 k k2:Nat) (x y:Int) (w:World) (h1:IntAt w neg a n cap k x) (h2:IntAt w b6 c m j6 k2 y) (hk:k<=700000000) (ba:k2<=100000000) (hy:0<y) (gO:∀ w',IntAt w' neg a n cap k x->IntAt w' b6 c m j6 k2 y->Calls Tryz.prog 119 #[.agg #[.bool neg,.slice a n cap],.agg #[.bool b6,.slice c m j6]] w' (zAN w' k (x/y))) :
  Calls Tryz.prog 109 #[.agg #[.bool neg,.slice a n cap],.agg #[.bool b6,.slice c m j6]] w (zDQ w (k+9) (-(-x/y))):=by
 have HF:=zC gO;clear gO
 by_cases E4:x/y*y<x
 ·have t1:zF (x/y*y) x<0:=by simp[zF,E4]
  have HE:=zC (ceil_up hy E4);clear E4
  go_enter Tryz.func109,Tryz.ntmps109
  go_wp2_with fail;refine (zA HF _ (h1.bw (bl3 _ _ _ _)) (h2.bw (bl3 _ _ _ _))).mono ?_;rintro r w1 ⟨g9,a1,n1,c1,rfl,k9,b7⟩;have pg:Below w.heap.size w w1:=zB (bl3 _ _ _ _) b7;obtain⟨C5,A9,D8⟩:=jY (w.heap.size+1+1+1) (by simp) b7
  have A:NmC w1 w.heap.size ⟨neg,a,n,cap⟩:=⟨by simp[A9,go_sem],by simp[A9,go_sem]⟩
  have G:NmC w1 (w.heap.size+1) ⟨b6,c,m,j6⟩:=⟨by simp[A9,go_sem],by simp[A9,go_sem]⟩
  have R:NoI w1 (w.heap.size+1+1):=⟨by simp[A9,go_sem],by simp[A9,go_sem],λ o=>by simp[D8,go_sem]⟩
  have Cy:=R.lt;clear A9 D8 b7 C5;obtain⟨W1,cp⟩:∃ W',W'=w1.alloc (.cells #[.bool g9,.slice a1 n1 c1] 26):=⟨_,rfl⟩;have F8:Below w1.heap.size w1 W1:=by rw[cp];exact bl1 _ _
  have X:NmC W1 w1.heap.size ⟨g9,a1,n1,c1⟩:=by rw[cp];exact zAK w1 ⟨g9,a1,n1,c1⟩ _
  replace A:=A.bw F8;replace G:=G.bw F8;replace R:=R.bw F8;have o7:=zB pg F8;have HX:=zC (h1.bw o7);have HY:=zC (h2.bw o7);replace k9:=zC (k9.bw F8);have lR:=R.lt;have lX:=X.lt;have nR:w1.heap.size≠w.heap.size+1+1:=Yi Cy;have CV:w.heap.size+1+1≠w1.heap.size:=λ e=>nR e.symm
  have C4:Below W1.heap.size W1 W1.drew:=(Below.refl _ _).drew
  have HK:=zC (show ∀ w',Below W1.heap.size W1 w'->(w'.cell? ⟨w.heap.size,0,none⟩=some (.bool neg)/\w'.cell? ⟨w.heap.size,1,none⟩=some (.slice a n cap)/\w'.cell? ⟨w.heap.size+1,0,none⟩=some (.bool b6)/\w'.cell? ⟨w.heap.size+1,1,none⟩=some (.slice c m j6)/\w'.cell? ⟨w1.heap.size,0,none⟩=some (.bool g9)/\w'.cell? ⟨w1.heap.size,1,none⟩=some (.slice a1 n1 c1)) from λ w' hB =>
   ⟨(A.bw hB).c0,(A.bw hB).c1,(G.bw hB).c0,(G.bw hB).c1,(X.bw hB).c0,(X.bw hB).c1⟩)
  go_wp2;rw[<- cp];clear cp;obtain⟨j0,j1,j2,j3,j4,j5⟩:=zA HK _ (Below.refl _ _)
  go_region_held3 (λ w'=>w'.cell? ⟨w.heap.size,0,none⟩=some (.bool neg)/\w'.cell? ⟨w.heap.size,1,none⟩=some (.slice a n cap)/\w'.cell? ⟨w.heap.size+1,0,none⟩=some (.bool b6)/\w'.cell? ⟨w.heap.size+1,1,none⟩=some (.slice c m j6)/\w'.cell? ⟨w1.heap.size,0,none⟩=some (.bool g9)/\w'.cell? ⟨w1.heap.size,1,none⟩=some (.slice a1 n1 c1)) (exact zA HK _ (by with_reducible first|exact C4|exact M6|exact L5))
   (first
    | (go_at_call 66;refine (zW _ _ _ _ _ _ _ _ (k+8) k2 (x/y) y _ ((zA k9).bw C4) ((zA HY).bw C4) (by omega) (by omega)).mono ?_;rintro r w4 ⟨o9,a4,n4,c4,rfl,D9,m9⟩;have L5:=zB C4 m9)
    | (go_at_call 46;refine (zU _ _ _ _ _ _ _ _ (k+8+k2) k (x/y*y) x _ D9 ((zA HX).bw L5)).mono ?_;rintro r w5 ⟨rfl,A7⟩;have M6:=zB L5 A7))
  clear j0 j1 j2 j3 j4 j5;have X5:=X.bw M6;have R5:=R.bw M6;have Ti:=R5.lt;have lX5:=X5.lt;obtain⟨j4,j5⟩:=X5;obtain⟨q0,q1,q2⟩:=R5;have m8:Below w5.heap.size w5 w5.drew:=(Below.refl _ _).drew;have X5:NmC w5 w1.heap.size ⟨g9,a1,n1,c1⟩:=⟨j4,j5⟩;have R5:NoI w5 (w.heap.size+1+1):=⟨q0,q1,q2⟩;have Tj:=zC (show ∀ w',Below w5.heap.size w5 w'->(w'.cell? ⟨w1.heap.size,0,none⟩=some (.bool g9)/\w'.cell? ⟨w1.heap.size,1,none⟩=some (.slice a1 n1 c1)) from λ w' hB=>⟨(X5.bw hB).c0,(X5.bw hB).c1⟩)
  go_wp2
  go_region_held3 (λ w'=>w'.cell? ⟨w1.heap.size,0,none⟩=some (.bool g9)/\w'.cell? ⟨w1.heap.size,1,none⟩=some (.slice a1 n1 c1)) (first|exact zA Tj _ (by with_reducible first|exact m8|exact Q4|exact I6)|go_keep)
   (first
    | (go_at_call 43;refine (zD 1 _ (by decide) (by decide)).mono ?_;rintro r w6 ⟨D4,a6,n6,c6,rfl,L9,G3⟩;have I6:=zB m8 G3)
    | (go_at_call 65;refine (kX _ _ _ _ _ _ _ _ (k+8) 4 (x/y) 1 _ (((zA k9).bw M6).bw I6) L9 (by omega) (by omega)).mono ?_;rintro r w7 ⟨P1,a7,n7,c7,rfl,O1,I8⟩;have Q4:=zB I6 I8;obtain⟨p0,p1,p2⟩:=R5.bw Q4;obtain⟨i0,i1⟩:=zA Tj _ Q4))
  go_wp2;refine bodyPost_ret (v:=.agg #[.bool P1,.slice a7 n7 c7]) (by simp[results,Tryz.results109,go_sem,p0,p1]) rfl ⟨P1,a7,n7,c7,rfl,?_,?_⟩
  ·rw[zA HE] at O1
   exact (O1.put2 p0 p1 _ _).mono (by omega)
  ·exact zD5 (zB (zB o7 M6) Q4) (by omega) _ _
 ·have t1:¬ zF (x/y*y) x<0:=zD4 E4
  have HE:=zC (zP1 hy E4);clear E4
  go_enter Tryz.func109,Tryz.ntmps109
  go_wp2_with fail;refine (zA HF _ (h1.bw (bl3 _ _ _ _)) (h2.bw (bl3 _ _ _ _))).mono ?_;rintro r w1 ⟨g9,a1,n1,c1,rfl,k9,b7⟩;have pg:Below w.heap.size w w1:=zB (bl3 _ _ _ _) b7;obtain⟨C5,A9,D8⟩:=jY (w.heap.size+1+1+1) (by simp) b7
  have A:NmC w1 w.heap.size ⟨neg,a,n,cap⟩:=⟨by simp[A9,go_sem],by simp[A9,go_sem]⟩
  have G:NmC w1 (w.heap.size+1) ⟨b6,c,m,j6⟩:=⟨by simp[A9,go_sem],by simp[A9,go_sem]⟩
  have R:NoI w1 (w.heap.size+1+1):=⟨by simp[A9,go_sem],by simp[A9,go_sem],λ o=>by simp[D8,go_sem]⟩
  have Cy:=R.lt;clear A9 D8 b7 C5;obtain⟨W1,cp⟩:∃ W',W'=w1.alloc (.cells #[.bool g9,.slice a1 n1 c1] 26):=⟨_,rfl⟩;have F8:Below w1.heap.size w1 W1:=by rw[cp];exact bl1 _ _
  have X:NmC W1 w1.heap.size ⟨g9,a1,n1,c1⟩:=by rw[cp];exact zAK w1 ⟨g9,a1,n1,c1⟩ _
  replace A:=A.bw F8;replace G:=G.bw F8;replace R:=R.bw F8;have o7:=zB pg F8;have HX:=zC (h1.bw o7);have HY:=zC (h2.bw o7);replace k9:=zC (k9.bw F8);have lR:=R.lt;have lX:=X.lt;have nR:w1.heap.size≠w.heap.size+1+1:=Yi Cy;have CV:w.heap.size+1+1≠w1.heap.size:=λ e=>nR e.symm
  have C4:Below W1.heap.size W1 W1.drew:=(Below.refl _ _).drew
  have HK:=zC (show ∀ w',Below W1.heap.size W1 w'->(w'.cell? ⟨w.heap.size,0,none⟩=some (.bool neg)/\w'.cell? ⟨w.heap.size,1,none⟩=some (.slice a n cap)/\w'.cell? ⟨w.heap.size+1,0,none⟩=some (.bool b6)/\w'.cell? ⟨w.heap.size+1,1,none⟩=some (.slice c m j6)/\w'.cell? ⟨w1.heap.size,0,none⟩=some (.bool g9)/\w'.cell? ⟨w1.heap.size,1,none⟩=some (.slice a1 n1 c1)) from λ w' hB =>
   ⟨(A.bw hB).c0,(A.bw hB).c1,(G.bw hB).c0,(G.bw hB).c1,(X.bw hB).c0,(X.bw hB).c1⟩)
  go_wp2;rw[<- cp];clear cp;obtain⟨j0,j1,j2,j3,j4,j5⟩:=zA HK _ (Below.refl _ _)
  go_region_held3 (λ w'=>w'.cell? ⟨w.heap.size,0,none⟩=some (.bool neg)/\w'.cell? ⟨w.heap.size,1,none⟩=some (.slice a n cap)/\w'.cell? ⟨w.heap.size+1,0,none⟩=some (.bool b6)/\w'.cell? ⟨w.heap.size+1,1,none⟩=some (.slice c m j6)/\w'.cell? ⟨w1.heap.size,0,none⟩=some (.bool g9)/\w'.cell? ⟨w1.heap.size,1,none⟩=some (.slice a1 n1 c1)) (exact zA HK _ (by with_reducible first|exact C4|exact M6|exact L5))
   (first
    | (go_at_call 66;refine (zW _ _ _ _ _ _ _ _ (k+8) k2 (x/y) y _ ((zA k9).bw C4) ((zA HY).bw C4) (by omega) (by omega)).mono ?_;rintro r w4 ⟨o9,a4,n4,c4,rfl,D9,m9⟩;have L5:=zB C4 m9)
    | (go_at_call 46;refine (zU _ _ _ _ _ _ _ _ (k+8+k2) k (x/y*y) x _ D9 ((zA HX).bw L5)).mono ?_;rintro r w5 ⟨rfl,A7⟩;have M6:=zB L5 A7))
  clear j0 j1 j2 j3 j4 j5;have X5:=X.bw M6;have R5:=R.bw M6;have Ti:=R5.lt;have lX5:=X5.lt;obtain⟨j4,j5⟩:=X5;obtain⟨q0,q1,q2⟩:=R5;go_wp2;refine bodyPost_ret (v:=.agg #[.bool g9,.slice a1 n1 c1]) (by simp[results,Tryz.results109,go_sem,q0,q1]) rfl ⟨g9,a1,n1,c1,rfl,?_,?_⟩
  ·replace k9:=(zA k9).bw M6
   rw[zA HE] at k9;exact (k9.put2 q0 q1 _ _).mono (by omega)
  ·exact zD5 (zB o7 M6) (by omega) _ _
theorem jO (w:World) (T:TypeId):NoI (w.alloc (.cells #[.bool false,.slice none 0 0] T)) w.heap.size:=⟨by simp,by simp,λ o=>by simp[go_sem]⟩
theorem zCA (neg b6:Bool) (a c:Option Addr) (n m cap j6 k k2 b:Nat) (x y:Int) (w:World) (h1:IntAt w neg a n cap k x) (h2:IntAt w b6 c m j6 k2 y) (hk:k<=600000000) (ba:k2<=100000000) (hb:b<=100000) (hy:0<y)
  (gO:∀ j8 a' n' m7 w',IntAt w' j8 a' n' m7 (k+b/16+5) (x*Q b)->IntAt w' b6 c m j6 k2 y->Calls Tryz.prog 119 #[.agg #[.bool j8,.slice a' n' m7],.agg #[.bool b6,.slice c m j6]] w' (zAN w' (k+b/16+5) (x*Q b/y))) :
  Calls Tryz.prog 54 #[.agg #[.bool neg,.slice a n cap],.agg #[.bool b6,.slice c m j6],.int .i64 b] w (zJ w b (k+b/16+14) (x*Q b/y) (-(-(x*Q b)/y))):=by
 have HF:=zC gO;clear gO;obtain⟨W,hW⟩:∃ W,W=((w.alloc (.cells #[.bool neg,.slice a n cap] 26)).alloc (.cells #[.bool b6,.slice c m j6] 26)).alloc (.cells zCq 36):=⟨_,rfl⟩;have b8:Below w.heap.size w W:=by rw[hW];exact bl3 _ _ _ _
 have A:NmC W w.heap.size ⟨neg,a,n,cap⟩:=by rw[hW];constructor<;>simp[go_sem]
 have G:NmC W (w.heap.size+1) ⟨b6,c,m,j6⟩:=by rw[hW];constructor<;>simp[go_sem]
 have R:NoC W (w.heap.size+1+1):=by rw[hW];constructor<;>simp[go_sem]
 have HX:=zC (h1.bw b8);have HY:=zC (h2.bw b8);have HK:=zC (show ∀ w',Below W.heap.size W w'->(w'.cell? ⟨w.heap.size,0,none⟩=some (.bool neg)/\w'.cell? ⟨w.heap.size,1,none⟩=some (.slice a n cap)) from λ w' hB=>⟨(A.bw hB).c0,(A.bw hB).c1⟩)
 go_enter Tryz.func54,Tryz.ntmps54
 go_wp2;rw[<- hW];clear hW;obtain⟨i0,i1⟩:=A;have lW:=G.lt;have lR:=R.lt
 go_cut [7] (λ p wx=>VarAt wx p W.heap.size (k+b/16+5) (x*Q b)/\Below W.heap.size W wx)
 case first =>
  go_region_held3 (λ w'=>w'.cell? ⟨w.heap.size,0,none⟩=some (.bool neg)/\w'.cell? ⟨w.heap.size,1,none⟩=some (.slice a n cap)) (exact zA HK _ (by repeat' (first|with_reducible exact T8|with_reducible exact J0|with_reducible exact Below.refl _ _|with_reducible refine Below.drew ?_|with_reducible refine zL ?_ _|with_reducible refine Below.setCell ?_ (by first|exact XW _|exact ai|exact aj) _)))
   (first
    | (go_at_call 66;have hq:=J0;refine (zW _ _ _ _ _ _ _ _ k (b/16+5) x (Q b) _ ((zA HX).bw (by with_reducible first|exact J0|exact zL J0 _)) (T9.bw (by with_reducible first|exact Below.refl _ _|exact bl1 _ _)) (by omega) (by omega)).mono ?_;rintro r qN ⟨lF,Ll,Lm,Ln,rfl,lI,ak⟩;have ao:Below gQ.heap.size gQ qN:=(by with_reducible first|exact ak|exact zB (bl1 _ _) ak);have T8:=zB J0 ao;(try with_reducible have oC:=(jO gQ 26).bw ak);replace T9:=T9.bw ao;(try replace ez:=ez.bw ao);have aj:=T8.size;(try have qO:=ez.lt);(try have Tk:=Yj qO);(try have CW:=Yi qO);(try obtain⟨CZ,Db,Dc⟩:=ez);(try have qP:=oC.lt);(try have Tl:=Yj qP);(try have Dd:=Yi qP);(try obtain⟨De,Df,Dg⟩:=oC))
    | (go_at_call 104;refine (kT b _ (by omega)).mono ?_;rintro r gQ ⟨qQ,Tm,Tn,To,rfl,T9,aq⟩;have J0:Below W.heap.size W gQ:=(by with_reducible first|exact zB (Below.refl _ _).drew aq|exact zB (bl1 _ _).drew aq);(try with_reducible have ez:=((jO W 26).bw (Below.refl _ _).drew).bw aq);have ai:=J0.size))
  all_goals
   go_wp2_with fail;go_meet;refine⟨⟨_,⟨lF,Ll,Lm,Ln⟩,rfl,?_,?_,?_,?_,?_⟩,?_⟩
   ·simp[go_sem, *]
   ·simp[go_sem, *]
   ·first|with_reducible exact IntAt.mono (lI.bw (bl1 _ _)) (by omega)|with_reducible exact IntAt.mono (lI.put2 (by assumption) (by assumption) _ _) (by omega)
   ·first|exact XW _|exact ai|exact aj
   ·simp[World.setCell];try omega
   ·repeat' (first|with_reducible exact T8|with_reducible exact J0|with_reducible exact Below.refl _ _|with_reducible refine Below.drew ?_|with_reducible refine zL ?_ _|with_reducible refine Below.setCell ?_ (by first|exact XW _|exact ai|exact aj) _)
 case rest =>
 obtain⟨⟨BX,xX,rfl,Bf,Bg,iJ,Bh,hltX⟩,hblX⟩:=hcut;have XX:NmC wc BX xX:=⟨Bf,Bg⟩;clear i0 i1 HK;replace G:=G.bw hblX;replace R:=R.bw hblX;replace HY:=zC ((zA HY).bw hblX);replace iJ:=zC iJ;have Y1:=R.lt;have Dh:=XX.lt;have nR:BX≠w.heap.size+1+1:=Yi (Yd lR Bh);have CV:w.heap.size+1+1≠BX:=λ e=>nR e.symm
 have iL:=zB b8 hblX;have m8:Below wc.heap.size wc wc.drew:=(Below.refl _ _).drew;have HK:=zC (show ∀ w',Below wc.heap.size wc w'->(nK w' BX xX (w'.cell? ⟨w.heap.size+1,0,none⟩=some (.bool b6)/\w'.cell? ⟨w.heap.size+1,1,none⟩=some (.slice c m j6))) from λ w' hB=>⟨(XX.bw hB).c0,(XX.bw hB).c1,(G.bw hB).c0,(G.bw hB).c1⟩)
 obtain⟨i2,i3⟩:=G;go_wp2
 go_region_held3 (λ w'=>nK w' BX xX (w'.cell? ⟨w.heap.size+1,0,none⟩=some (.bool b6)/\w'.cell? ⟨w.heap.size+1,1,none⟩=some (.slice c m j6))) (first|exact zA HK _ (by with_reducible first|exact m8|exact j9|exact j7)|(dsimp only[cK,cK0,nK,nK0,rK,rK0];go_keep)|go_keep)
  (first
   | (go_at_call 108;refine (zCS _ _ _ _ _ _ _ _ (k+b/16+5) k2 (x*Q b) y _ ((zA iJ).bw m8) ((zA HY).bw m8) (by omega) (by omega) (λ w' p q=>zA HF _ _ _ _ w' p q)).mono ?_;rintro r w1 ⟨g9,a1,n1,c1,rfl,k9,b7⟩;have j7:=zB m8 b7)
   | (go_at_call 109;refine (zD9 _ _ _ _ _ _ _ _ (k+b/16+5) k2 (x*Q b) y _ ((zA iJ).bw j7) ((zA HY).bw j7) (by omega) (by omega) hy (λ w' p q=>zA HF _ _ _ _ w' p q)).mono ?_;rintro r w2 ⟨p9,a3,n3,c3,rfl,A8,b9⟩;replace k9:=k9.bw b9;have j9:=zB j7 b9;obtain⟨q0,q1,q2,q3,q4,q5⟩:=R.bw j9;obtain⟨d0,d1,d2,d3⟩:=zA HK _ j9))
 go_wp2;refine bodyPost_ret (v:=.agg #[.bool g9,.slice a1 n1 c1,.bool p9,.slice a3 n3 c3,.int .i64 b]) (by simp[results,Tryz.results54,go_sem,q0,q1,q2,q3,q4]) rfl ⟨⟨g9,a1,n1,c1,p9,a3,n3,c3,b⟩,rfl,rfl,?_,?_⟩
 ·exact SpAt.put5 ⟨k9.mono (by omega),A8.mono (by omega)⟩ q0 q1 q2 q3 q4 _ _ _ _ _
 ·exact kB (zB iL j9) (by omega) _ _ _ _ _
def zQB (b:Int):Bool:=decide (8<=b) && decide (b<=120)
theorem zEI (b:Int) (w:World) :
  Calls Tryz.prog 37 #[.int .i64 b] w λ r w'=>r=.returned (.bool (zQB b))/\w'=w:=by
 go_enter Tryz.func37,Tryz.ntmps37
 go_wp2_with fail;refine (jX _ _ _ _).mono ?_;rintro r w1 ⟨rfl,hw⟩;subst hw;go_wp2_with fail
 go_ret
 exact⟨rfl,rfl⟩
theorem zDK (p q:Int) (w:World) :
  Calls Tryz.prog 44 #[.agg #[.int .i64 p,.int .i64 q]] w λ r w'=>r=.returned (.bool (decide (rok p q)))/\Below w.heap.size w w':=by
 by_cases h : -1048576<=p/\p<=1048576
 ·have h1:(decide (-1048576<=p) && decide (p<=1048576))=true:=by simp;omega
  have h2:(decide (1<=q) && decide (q<=1024))=decide (rok p q):=by
   rw[Bool.eq_iff_iff,Bool.and_eq_true,decide_eq_true_iff,decide_eq_true_iff,decide_eq_true_iff];exact⟨λ ⟨a,b⟩=>⟨h.1,h.2,a,b⟩,λ ⟨_,_,a,b⟩=>⟨a,b⟩⟩
  have HE:=zC h2;clear h2
  go_enter Tryz.func44,Tryz.ntmps44
  go_wp2_with fail;refine (jX _ _ _ _).mono ?_;rintro r w1 ⟨rfl,hw⟩;subst hw;rw[h1];go_wp2_with fail;refine (jX _ _ _ _).mono ?_;rintro r w2 ⟨rfl,hw⟩;subst hw;rw[zA HE];go_wp2_with fail
  go_ret
  exact⟨rfl,bl1 _ _⟩
 ·have h1:(decide (-1048576<=p) && decide (p<=1048576))=false:=by
   rw[Bool.and_eq_false_iff];simp;omega
  have h2:decide (rok p q)=false:=zMK (by omega)
  have HE:=zC h2;clear h2 h
  go_enter Tryz.func44,Tryz.ntmps44
  go_wp2_with fail;refine (jX _ _ _ _).mono ?_;rintro r w1 ⟨rfl,hw⟩;subst hw;rw[h1];go_wp2_with fail
  go_ret
  exact⟨by rw[zA HE];rfl,bl1 _ _⟩
theorem zGH (p q:Int) (b:Nat) (w:World) (h:rok p q) (hb:b<=100000) :
  Calls Tryz.prog 14 #[.agg #[.int .i64 p,.int .i64 q],.int .i64 b] w (zJ w b (b/16+18) (p*Q b/q) (-(-(p*Q b)/q))):=by
 obtain⟨r1,r2,r3,r4⟩:=h;obtain⟨W,hW⟩:∃ W,W=(w.alloc (.cells #[.int .i64 p,.int .i64 q] 23)).alloc (.cells zCq 36):=⟨_,rfl⟩;have b8:Below w.heap.size w W:=by rw[hW];exact bl2 _ _ _
 have k0:W.cell? ⟨w.heap.size,0,none⟩=some (.int .i64 p):=by rw[hW];simp[go_sem]
 have k1:W.cell? ⟨w.heap.size,1,none⟩=some (.int .i64 q):=by rw[hW];simp[go_sem]
 have lw:w.heap.size<W.heap.size:=by rw[hW];simp;omega
 have R:NoC W (w.heap.size+1):=by rw[hW];constructor<;>simp[go_sem]
 have lR:=R.lt;have C4:Below W.heap.size W W.drew:=(Below.refl _ _).drew;have HK:=zC (show ∀ w',Below W.heap.size W w'->(rK0 w' w.heap.size p q) from λ w' hB=>⟨(hB.cell (p:=⟨w.heap.size,0,none⟩) lw).trans k0,(hB.cell (p:=⟨w.heap.size,1,none⟩) lw).trans k1⟩)
 go_enter Tryz.func14,Tryz.ntmps14
 go_wp2;rw[<- hW];clear hW
 go_region_held3 (λ w'=>rK0 w' w.heap.size p q) (first|exact zA HK _ (by with_reducible first|exact C4|exact E2|exact o7|exact A6)|(dsimp only[cK,cK0,nK,nK0,rK,rK0];go_keep)|go_keep)
  (first
   | (go_at_call 43;have hq:=A6;refine (zD q _ (by omega) (by omega)).mono ?_;rintro r w2 ⟨b6,a2,n2,c2,rfl,o0,b9⟩;replace k9:=k9.bw b9;have o7:=zB A6 b9)
   | (go_at_call 43;refine (zD p _ (by omega) (by omega)).mono ?_;rintro r w1 ⟨g9,a1,n1,c1,rfl,k9,b7⟩;have A6:=zB C4 b7)
   | (go_at_call 54;refine (zCA _ _ _ _ _ _ _ _ 4 4 b p q _ k9 o0 (by omega) (by omega) hb (by omega) (λ j8 a' n' m7 w' p1 p2=>zJM j8 _ a' _ n' _ m7 _ _ 4 (p*Q b) q w' p1 p2 (by omega) (by omega) (by omega))).mono ?_;rintro r w3 ⟨s,rfl,dA,IB,k8⟩;have Q8:=zC dA;clear dA;have E2:=zB o7 k8;obtain⟨q0,q1,q2,q3,q4,q5⟩:=R.bw E2;obtain⟨i0,i1⟩:=zA HK _ E2))
 go_wp2;refine bodyPost_ret (v:=.agg s.q) (by simp[results,Tryz.results14,go_sem,q0,q1,q2,q3,q4]) rfl ⟨s,rfl,zA Q8,?_,?_⟩
 ·exact SpAt.put5 (IB.mono (by omega)) q0 q1 q2 q3 q4 _ _ _ _ _
 ·exact kB (zB b8 E2) (Yh _) _ _ _ _ _
theorem zN6 (w:World) (s:Sp) (k:Nat) (bt lo hi:Int) (hs:SpAt w s k lo hi) (hk:k<=300000000) (C9:0<=s.bits) (gP:s.bits<=1000000) (qI:0<=bt) (iA:bt<=1000000) :
  Calls Tryz.prog 138 #[.agg s.q,.int .i64 bt] w (zJ w bt (k+62505) (zBC lo (s.bits-bt)) (-(zBC (-hi) (s.bits-bt)))):=by
 obtain⟨W,hW⟩:∃ W,W=(w.alloc (.cells s.q 28)).alloc (.cells zCq 28):=⟨_,rfl⟩;have b8:Below w.heap.size w W:=by rw[hW];exact bl2 _ _ _
 have A:SpC W w.heap.size s:=by rw[hW];constructor<;>simp[go_sem]
 have R:NoC W (w.heap.size+1):=by rw[hW];constructor<;>simp[go_sem]
 have HS:=zC (hs.bw b8);have lA:=A.lt;have lR:=R.lt;have C4:Below W.heap.size W W.drew:=(Below.refl _ _).drew
 have HK:=zC (show ∀ w',Below W.heap.size W w'->(w'.cell? ⟨w.heap.size,0,none⟩=some (.bool s.ln)/\w'.cell? ⟨w.heap.size,1,none⟩=some (.slice s.la s.lN s.lc)/\w'.cell? ⟨w.heap.size,2,none⟩=some (.bool s.hn)/\w'.cell? ⟨w.heap.size,3,none⟩=some (.slice s.ha s.hN s.hc)) from λ w' hB=>by
  obtain⟨x0,x1,x2,x3,x4⟩:=A.bw hB
  exact⟨x0,x1,x2,x3⟩)
 go_enter Tryz.func138,Tryz.ntmps138
 go_wp2;obtain⟨x0,x1,x2,x3,x4⟩:=A;rw[<- hW];clear hW
 go_region_held3 (λ w'=>w'.cell? ⟨w.heap.size,0,none⟩=some (.bool s.ln)/\w'.cell? ⟨w.heap.size,1,none⟩=some (.slice s.la s.lN s.lc)/\w'.cell? ⟨w.heap.size,2,none⟩=some (.bool s.hn)/\w'.cell? ⟨w.heap.size,3,none⟩=some (.slice s.ha s.hN s.hc)) (first|exact zA HK _ (by with_reducible first|exact C4|exact o7|exact A6)|go_keep)
  (first
   | (go_at_call 105;refine (zEE _ _ _ _ k (s.bits-bt) lo _ ((zA HS).lo.bw C4) (by omega) (by omega) (by omega)).mono ?_;rintro r w1 ⟨g9,a1,n1,c1,rfl,k9,b7⟩;have A6:=zB C4 b7)
   | (go_at_call 174;refine (zD2 _ _ _ _ k (s.bits-bt) hi _ ((zA HS).hi.bw A6) (by omega) (by omega) (by omega)).mono ?_;rintro r w2 ⟨b6,a2,n2,c2,rfl,o0,b9⟩;replace k9:=k9.bw b9;have o7:=zB A6 b9;obtain⟨q0,q1,q2,q3,q4,q5⟩:=R.bw o7;obtain⟨i0,i1,i2,i3⟩:=zA HK _ o7))
 go_wp2;refine bodyPost_ret (v:=.agg #[.bool g9,.slice a1 n1 c1,.bool b6,.slice a2 n2 c2,.int .i64 bt]) (by simp[results,Tryz.results138,go_sem,q0,q1,q2,q3,q4]) rfl ⟨⟨g9,a1,n1,c1,b6,a2,n2,c2,bt⟩,rfl,rfl,?_,?_⟩
 ·exact SpAt.put5 ⟨k9.mono (by omega),o0.mono (by omega)⟩ q0 q1 q2 q3 q4 _ _ _ _ _
 ·exact kB (zB b8 o7) (Yh _) _ _ _ _ _
end Go.Proofs.YtgmnknmjainababGreat
