/-
  Its own texts.
-/
import Derived.Test.YtgmnknmjainabacGreatH02
set_option maxRecDepth 100000
set_option maxHeartbeats 40000000
set_option linter.unnecessarySimpa false
set_option linter.unusedSimpArgs false
set_option linter.unusedVariables false
namespace Go.Proofs.YtgmnknmjainabacGreat
open Go.RowKit
attribute [local go_sem ↓] Go.wp_at_zero Go.wp_at_succ
def Mine (m:Nat) (w:World) (a:Option Addr) (n:Nat):Prop:=0<n->∃ b off,a=some ⟨b,off,none⟩/\m<=b/\b<w.heap.size/\∀ o,w.frozen? ⟨b,o,none⟩=false
theorem Mine.bw {m:Nat} {w w':World} {a:Option Addr} {n:Nat} (h:Mine m w a n) (hb:Below w.heap.size w w'):Mine m w' a n:=λ hn=>by
 obtain⟨b,off,h1,h2,h3,h4⟩:=h hn;exact⟨b,off,h1,h2,Zd h3 hb.size,λ o=>(hb.frozen (p:=⟨b,o,none⟩) h3).trans (h4 o)⟩
theorem Mine.mono {m m':Nat} {w:World} {a:Option Addr} {n:Nat} (h:Mine m w a n) (hm:m'<=m):Mine m' w a n:=λ hn=>by
 obtain⟨b,off,h1,h2,h3⟩:=h hn;exact⟨b,off,h1,Nat.le_trans hm h2,h3⟩
theorem Mine.take {m:Nat} {w:World} {a:Option Addr} {n n':Nat} (h:Mine m w a n) (hn:n'<=n):Mine m w a n':=λ h0=>h (Zd h0 hn)
theorem Mine.set {m:Nat} {w:World} {a:Option Addr} {n:Nat} (h:Mine m w a n) (p:Addr) (v:Value):Mine m (w.setCell p v) a n:=λ hn=>by
 obtain⟨b,off,h1,h2,h3,h4⟩:=h hn;exact⟨b,off,h1,h2,by simpa [World.setCell] using h3,λ o=>by rw[World.frozen?_setCell];exact h4 o⟩
theorem Mine.nil (m:Nat) (w:World) (a:Option Addr):Mine m w a 0:=λ h=>absurd h (by omega)
theorem zIU {m:Nat} {w:World} {b t N:Nat} {f:Nat->Value} (h:w.rowIs b t N f) (hm:m<=b):Mine m w (some ⟨b,0,none⟩) N:=λ _=>⟨b,0,rfl,hm,h.lt,λ o=>h.frozen o⟩
theorem mine_own {w:World} {base:Nat} {e:TypeId} {a:Option Addr} {n cap:Nat} {d:Nat->Int} (h:Own w base e a n cap d):Mine base w a n:=λ h0=>by
 have h':w.ownsRow base e 1 (.slice a n cap) n (kC d n):=h
 rcases h'.2 with⟨hv,h1⟩|⟨g,c2,cur,hv,hb,hg,_⟩
 ·omega
 ·simp only[Value.slice.injEq] at hv
  obtain⟨rfl,_,rfl⟩:=hv;obtain⟨E2,_⟩:=Array.getElem?_eq_some_iff.1 hg;exact⟨g,0,rfl,hb,E2,λ o=>by simp[World.frozen?,hg]⟩
theorem zIZ (m:Nat) (neg:Bool) (a:Option Addr) (n cap:Nat) (d:Nat->Int) (w:World) (h:Dig w a n cap d) (hm:Mine m w a n) :
  Calls Tryz.prog 70 #[.bool neg,.slice a n cap] w λ e w'=>∃ j9 a' n' m7,e=.returned (.agg #[.bool j9,.slice a' n' m7])/\IntAt w' j9 a' n' m7 n (sgn neg (V d n))/\Below w.heap.size w w'/\Mine m w' a' n' :=
 (zSV neg a n cap d w h).mono λ _ _ ⟨h1,h2⟩=>⟨_,_,_,_,h1,(ofInt neg h).bw h2,h2,(hm.take (zBC d n)).bw h2⟩
theorem plus_fr (a c:Option Addr) (n m cap m8:Nat) (d e:Nat->Int) (w:World) (ha:Dig w a n cap d) (hc:Dig w c m m8 e) (hn:n<=1000000000) (hm:m<=1000000000) :
  Calls Tryz.prog 71 #[.slice a n cap,.slice c m m8] w λ r w'=>∃ a' N,Hid (N=max n m+1)/\r=.returned (.slice a' N N)/\Dig w' a' N N (zB4 d e n m)/\Below w.heap.size w w'/\Mine w.heap.size w' a' N :=
 (zNY a c n m cap m8 d e w ha hc hn hm).mono λ _ _ ⟨N,h1,h2,h3,h4⟩=>⟨_,N,h1,h2,zDD h3 (zGD _ _ _ _) (by omega),h4,zIU h3 (Zb _)⟩
theorem zR6 (a c:Option Addr) (n m cap m8:Nat) (d e:Nat->Int) (w:World) (ha:Dig w a n cap d) (hc:Dig w c m m8 e) (hn:n<=1000000000) (hm:m<=1000000000) :
  Calls Tryz.prog 72 #[.slice a n cap,.slice c m m8] w λ r w'=>∃ a',r=.returned (.slice a' n n)/\Dig w' a' n n (zAM d e m)/\Below w.heap.size w w'/\Mine w.heap.size w' a' n :=
 (zNI a c n m cap m8 d e w ha hc hn hm).mono λ _ _ ⟨h2,h3,h4⟩=>⟨_,h2,zDD h3 (zEB ha.dgs hc.dgs _) (by omega),h4,zIU h3 (Zb _)⟩
theorem zQC (neg j6:Bool) (a c:Option Addr) (n m cap m8:Nat) (d e:Nat->Int) (w:World) (ha:Dig w a n cap d) (hc:Dig w c m m8 e) (hn:n<=1000000000) (hm:m<=1000000000)
  (h1:n=0\/d (n-1)≠0) (h2:m=0\/e (m-1)≠0) :
  Calls Tryz.prog 32 #[.agg #[.bool neg,.slice a n cap],.agg #[.bool j6,.slice c m m8]] w λ r w' =>
   ∃ j9 a' n' m7,r=.returned (.agg #[.bool j9,.slice a' n' m7])/\IntAt w' j9 a' n' m7 (max n m+1) (sgn neg (V d n)+sgn j6 (V e m))/\Below w.heap.size w w'/\Mine w.heap.size w' a' n':=by
 by_cases hs:neg=j6
 ·subst hs
  have hs:(neg == neg)=true:=by simp
  have iA:w.heap.size≠w.heap.size+1+1:=by omega
  have iB:w.heap.size+1+1≠w.heap.size:=by omega
  go_enter Tryz.func32,Tryz.ntmps32
  go_wp2
  go_region_held3 (λ w'=>w'.cell? ⟨w.heap.size,0,none⟩=some (.bool neg)/\w'.cell? ⟨w.heap.size,1,none⟩=some (.slice a n cap)/\w'.cell? ⟨w.heap.size+1,1,none⟩=some (.slice c m m8)) (go_keep)
   (first
    | (go_at_call 71;refine (plus_fr _ _ _ _ _ _ d e _ (ha.bw (bl3 _ _ _ _).drew) (hc.bw (bl3 _ _ _ _).drew) hn hm).mono ?_;rintro r w1 ⟨a',N,HN,rfl,M9,hb,dR⟩;obtain⟨K3,hcell,bI⟩:=zZ (w.heap.size+3) (by simp) hb)
    | (go_at_call 70;refine (zIZ _ _ _ _ _ (zB4 d e n m) _ M9 dR).mono ?_;rintro r w2 ⟨j9,a2,n2,c2,rfl,hint,j7,av⟩;obtain⟨A9,B7,E7⟩:=zZ (w.heap.size+3) K3 j7))
  go_wp2;refine bodyPost_ret (v:=.agg #[.bool j9,.slice a2 n2 c2]) (by simp[results,Tryz.results32,go_sem,B7,hcell]) rfl ⟨j9,a2,n2,c2,rfl,?_,?_,?_⟩
  ·have hV:=plus_V ha.dgs hc.dgs n m
   have h0:w2.cell? ⟨w.heap.size+1+1,0,none⟩=some (.bool false):=by simp[B7,hcell,go_sem]
   have G6:w2.cell? ⟨w.heap.size+1+1,1,none⟩=some (.slice none 0 0):=by simp[B7,hcell,go_sem]
   rw[zA HN,hV] at hint;have e1:sgn neg (V d n+V e m)=sgn neg (V d n)+sgn neg (V e m):=by cases neg<;>simp[sgn];omega
   rw[e1] at hint;exact hint.put2 h0 G6 _ _
  ·exact ((zB (zB (bl3 _ _ _ _).drew hb) j7).setCell (by simp;omega) _).setCell (by simp;omega) _
  ·exact ((av.mono (bl3 _ _ _ _).drew.size).set _ _).set _ _
 ·have ak:(neg == j6)=false:=by simpa using hs
  have iA:w.heap.size≠w.heap.size+1+1:=by omega
  have iB:w.heap.size+1+1≠w.heap.size:=by omega
  have hcv:=zG8 ha.dgs hc.dgs n m h1 h2
  by_cases O1:0<=zFZ d e n m
  ·have hle:V e m<=V d n:=by
    rw[hcv] at O1;unfold zN at O1;split at O1<;>omega
   have iO:m<=n:=by
    unfold zFZ at O1;split at O1<;>omega
   have Hv:=zC (show sgn neg (V (zAM d e m) n)=sgn neg (V d n)+sgn j6 (V e m) by
    rw[zJ3 ha.dgs hc.dgs n m iO hle];cases neg<;>cases j6<;>simp[sgn] at*<;> omega)
   clear hcv
   go_enter Tryz.func32,Tryz.ntmps32
   go_wp2_with (go_at_call 53;refine (kJ _ _ _ _ _ _ d e _ (ha.bw (bl3 _ _ _ _)) (hc.bw (bl3 _ _ _ _))).mono ?_;rintro r w0 ⟨rfl,E8⟩;obtain⟨Y9,bc,hZ⟩:=zZ (w.heap.size+3) (by simp) E8)
   go_region_held3 (λ w'=>w'.cell? ⟨w.heap.size,0,none⟩=some (.bool neg)/\w'.cell? ⟨w.heap.size,1,none⟩=some (.slice a n cap)/\w'.cell? ⟨w.heap.size+1,1,none⟩=some (.slice c m m8)) (go_keep)
    (first
     | (go_at_call 72;refine (zR6 _ _ _ _ _ _ d e _ (ha.bw (zB (bl3 _ _ _ _) E8).drew) (hc.bw (zB (bl3 _ _ _ _) E8).drew) hn hm).mono ?_;rintro r w1 ⟨a',rfl,M9,hb,dR⟩;obtain⟨K3,hcell,bI⟩:=zZ (w.heap.size+3) (by exact Y9) hb)
     | (go_at_call 70;refine (zIZ _ _ _ _ _ (zAM d e m) _ M9 dR).mono ?_;rintro r w2 ⟨j9,a2,n2,c2,rfl,hint,j7,av⟩;obtain⟨A9,B7,E7⟩:=zZ (w.heap.size+3) K3 j7))
   go_wp2;refine bodyPost_ret (v:=.agg #[.bool j9,.slice a2 n2 c2]) (by simp[results,Tryz.results32,go_sem,B7,hcell,bc]) rfl ⟨j9,a2,n2,c2,rfl,?_,?_,?_⟩
   ·have h0:w2.cell? ⟨w.heap.size+1+1,0,none⟩=some (.bool false):=by simp[B7,hcell,bc,go_sem]
    have G6:w2.cell? ⟨w.heap.size+1+1,1,none⟩=some (.slice none 0 0):=by simp[B7,hcell,bc,go_sem]
    rw[zA Hv] at hint;exact (hint.put2 h0 G6 _ _).mono (by omega)
   ·exact ((zB (zB (zB (bl3 _ _ _ _) E8).drew hb) j7).setCell (by simp;omega) _).setCell (by simp;omega) _
   ·exact ((av.mono (zB (bl3 _ _ _ _) E8).drew.size).set _ _).set _ _
  ·have hle:V d n<=V e m:=by
    rw[hcv] at O1;unfold zN at O1;split at O1<;>omega
   have iO:n<=m:=by
    unfold zFZ at O1;split at O1<;>(try split at O1)<;>omega
   have Hv:=zC (show sgn j6 (V (zAM e d n) m)=sgn neg (V d n)+sgn j6 (V e m) by
    rw[zJ3 hc.dgs ha.dgs m n iO hle];cases neg<;>cases j6<;>simp[sgn] at*<;> omega)
   clear hcv
   go_enter Tryz.func32,Tryz.ntmps32
   go_wp2_with (go_at_call 53;refine (kJ _ _ _ _ _ _ d e _ (ha.bw (bl3 _ _ _ _)) (hc.bw (bl3 _ _ _ _))).mono ?_;rintro r w0 ⟨rfl,E8⟩;obtain⟨Y9,bc,hZ⟩:=zZ (w.heap.size+3) (by simp) E8)
   go_region_held3 (λ w'=>w'.cell? ⟨w.heap.size+1,0,none⟩=some (.bool j6)/\w'.cell? ⟨w.heap.size+1,1,none⟩=some (.slice c m m8)/\w'.cell? ⟨w.heap.size,1,none⟩=some (.slice a n cap)) (go_keep)
    (first
     | (go_at_call 72;refine (zR6 _ _ _ _ _ _ e d _ (hc.bw (zB (bl3 _ _ _ _) E8).drew) (ha.bw (zB (bl3 _ _ _ _) E8).drew) hm hn).mono ?_;rintro r w1 ⟨a',rfl,M9,hb,dR⟩;obtain⟨K3,hcell,bI⟩:=zZ (w.heap.size+3) (by exact Y9) hb)
     | (go_at_call 70;refine (zIZ _ _ _ _ _ (zAM e d n) _ M9 dR).mono ?_;rintro r w2 ⟨j9,a2,n2,c2,rfl,hint,j7,av⟩;obtain⟨A9,B7,E7⟩:=zZ (w.heap.size+3) K3 j7))
   go_wp2;refine bodyPost_ret (v:=.agg #[.bool j9,.slice a2 n2 c2]) (by simp[results,Tryz.results32,go_sem,B7,hcell,bc]) rfl ⟨j9,a2,n2,c2,rfl,?_,?_,?_⟩
   ·have h0:w2.cell? ⟨w.heap.size+1+1,0,none⟩=some (.bool false):=by simp[B7,hcell,bc,go_sem]
    have G6:w2.cell? ⟨w.heap.size+1+1,1,none⟩=some (.slice none 0 0):=by simp[B7,hcell,bc,go_sem]
    rw[zA Hv] at hint;exact (hint.put2 h0 G6 _ _).mono (by omega)
   ·exact ((zB (zB (zB (bl3 _ _ _ _) E8).drew hb) j7).setCell (by simp;omega) _).setCell (by simp;omega) _
   ·exact ((av.mono (zB (bl3 _ _ _ _) E8).drew.size).set _ _).set _ _
theorem add_fr (neg j6:Bool) (a c:Option Addr) (n m cap m8 k k2:Nat) (x y:Int) (w:World) (h1:IntAt w neg a n cap k x) (h2:IntAt w j6 c m m8 k2 y) (hk:k<=1000000000) (cH:k2<=1000000000) :
  Calls Tryz.prog 32 #[.agg #[.bool neg,.slice a n cap],.agg #[.bool j6,.slice c m m8]] w λ r w' =>
   ∃ j9 a' n' m7,r=.returned (.agg #[.bool j9,.slice a' n' m7])/\IntAt w' j9 a' n' m7 (max k k2+1) (x+y)/\Below w.heap.size w w'/\Mine w.heap.size w' a' n':=by
 obtain⟨d,g1,g2,g3,g4,rfl⟩:=h1;obtain⟨e,f1,f2,f3,f4,rfl⟩:=h2;exact (zQC neg j6 a c n m cap m8 d e w g1 f1 (by omega) (by omega) g2 f2).mono λ _ _ ⟨n1,n2,n3,n4,q1,q2,q3,q4⟩=>⟨n1,n2,n3,n4,q1,q2.mono (by omega),q3,q4⟩
theorem sub_fr (neg j6:Bool) (a c:Option Addr) (n m cap m8 k k2:Nat) (x y:Int) (w:World) (h1:IntAt w neg a n cap k x) (h2:IntAt w j6 c m m8 k2 y) (hk:k<=1000000000) (cH:k2<=1000000000) :
  Calls Tryz.prog 35 #[.agg #[.bool neg,.slice a n cap],.agg #[.bool j6,.slice c m m8]] w λ r w' =>
   ∃ j9 a' n' m7,r=.returned (.agg #[.bool j9,.slice a' n' m7])/\IntAt w' j9 a' n' m7 (max k k2+1) (x-y)/\Below w.heap.size w w'/\Mine w.heap.size w' a' n':=by
 have H1:=zC h1;obtain⟨e,f1,f2,f3,f4,fy⟩:=h2;have Hy:=zC (show sgn (!j6) (V e m) = -y by rw[fy];cases j6<;>simp[sgn])
 have Hx:=zC (show x + -y=x-y by omega)
 clear h1 fy;have iA:w.heap.size≠w.heap.size+1+1:=by omega
 have iB:w.heap.size+1+1≠w.heap.size:=by omega
 go_enter Tryz.func35,Tryz.ntmps35
 go_wp2
 go_region_held3 (λ w'=>w'.cell? ⟨w.heap.size,0,none⟩=some (.bool neg)/\w'.cell? ⟨w.heap.size,1,none⟩=some (.slice a n cap)/\w'.cell? ⟨w.heap.size+1,0,none⟩=some (.bool j6)/\w'.cell? ⟨w.heap.size+1,1,none⟩=some (.slice c m m8)) (go_keep)
  (first
   | (go_at_call 70;refine (zBM _ _ _ _ e _ (f1.bw (bl3 _ _ _ _).drew)).mono ?_;rintro r w1 ⟨m9,a1,n1,c1,rfl,o8,hb⟩;obtain⟨K3,hcell,bI⟩:=zZ (w.heap.size+3) (by simp) hb)
   | (go_at_call 32;refine (add_fr _ _ _ _ _ _ _ _ k m x _ _ ((zA H1).bw (zB (bl3 _ _ _ _).drew hb)) o8 hk (by omega)).mono ?_;rintro r w2 ⟨j9,a2,n2,c2,rfl,hint,j7,av⟩;obtain⟨A9,B7,E7⟩:=zZ (w.heap.size+3) K3 j7))
 go_wp2;refine bodyPost_ret (v:=.agg #[.bool j9,.slice a2 n2 c2]) (by simp[results,Tryz.results35,go_sem,B7,hcell]) rfl ⟨j9,a2,n2,c2,rfl,?_,?_,?_⟩
 ·have h0:w2.cell? ⟨w.heap.size+1+1,0,none⟩=some (.bool false):=by simp[B7,hcell,go_sem]
  have G6:w2.cell? ⟨w.heap.size+1+1,1,none⟩=some (.slice none 0 0):=by simp[B7,hcell,go_sem]
  rw[zA Hy,zA Hx] at hint;exact (hint.put2 h0 G6 _ _).mono (by omega)
 ·exact ((zB (zB (bl3 _ _ _ _).drew hb) j7).setCell (by simp;omega) _).setCell (by simp;omega) _
 ·exact ((av.mono (zB (bl3 _ _ _ _).drew hb).size).set _ _).set _ _
theorem zEP {Pr:Program} (w:World) (t ty e:TypeId) (i:TypeInfo) (z:Value) (ht:Pr.underlying t=some (.slice e)) (hi:Pr.info? e=some i) (hz:i.zero=some z) (h4:i.size=1) (hb:i.bytes=2)
  (b:Nat) (ad:Option Addr) (n cap:Nat) (d:Nat->Int) (hD:Dig w ad n cap d) (hn:n<=1000000000) :
  ∃ a' m7 w',(Builtin.append_ #[t,t] ty #[.slice (some ⟨b,0,none⟩) 0 0,.slice ad n cap]).run Pr w=.ok (.slice a' n m7) w'/\Dig w' a' n m7 d/\Below w.heap.size w w'/\Mine w.heap.size w' a' n:=by
 by_cases h0:n=0
 ·subst h0
  have hs:Src Pr i.size t (.slice ad 0 cap) 0 [] w:=by
   cases ad with
   | none=>exact Src.ofNil w ht cap
   | some ad=>exact Src.ofSlice w ht ad 0 cap [] (by simp) (by simp) (by simp)
  have hr:=run_append_room_src (P:=Pr) w t t ty e i ht hi b 0 0 0 (.slice ad 0 cap) 0 [] hs (by omega) (by simp) (by simp)
  exact⟨_,_,_,hr,⟨λ h=>by omega,hD.dgs,Zb _,by omega⟩,by simp[World.setCells];exact Below.refl _ _,Mine.nil _ _ _⟩
 ·obtain⟨b1,off,rfl,b9,hc⟩:=hD.at_ (by omega)
  have hs:Src Pr i.size t (.slice (some ⟨b1,off,none⟩) n cap) n (kC d n) w :=
   Src.ofSlice w ht ⟨b1,off,none⟩ n cap (kC d n) (by rw[jX,h4];omega) (λ j u hu=>by
    obtain⟨hj,rfl⟩:=zCJ hu
    rw[zCI];exact hc j hj) (zDG d n)
  have hr:=run_append_grow_src (P:=Pr) w t t ty e i z ht hi hz (some ⟨b,0,none⟩) 0 0 [] (run_firstCells_some w.drew i.size 0 ⟨b,0,none⟩ 0 0 [] (by simp) (by simp)) (.slice (some ⟨b1,off,none⟩) n cap) n (kC d n) hs (by omega) (by omega)
   (by rw[hb];unfold Builtin.nextslicecap;rw[if_pos (by omega)];omega)
  simp only[Nat.zero_add,List.nil_append] at hr;refine⟨_,_,_,hr,⟨λ _=>⟨w.heap.size,0,rfl,?_,λ j hj=>?_⟩,hD.dgs,grownCap_ge w n 0 e,by omega⟩,(Below.refl _ _).drew.alloc (Zb _) _,λ _=>⟨w.heap.size,0,rfl,Zb _,?_,λ o=>?_⟩⟩
  ·show w.heap.size<(w.drew.alloc _).heap.size
   simp
  ·rw[World.cell?_alloc_at _ _ _ _ (show w.heap.size=w.drew.heap.size from rfl)]
   rw[Nat.zero_add,Array.getElem?_append_left (by simp[jX];exact hj)]
   simpa using zA1 d n j hj
  ·show w.heap.size<(w.drew.alloc _).heap.size
   simp
  ·simp[go_sem]
theorem zD0 {Pr:Program} {ops:Array Oper} {o:Oper} {a:Act} {w:World} {K:Act->World->Prop} {Q:Exit->Act->World->Prop} {E:Prop}
  (hg:o.guard=none) (s x:Operand) (t:TypeId) (mD:o.op=Op.call { callee:=Callee.builtin Builtin.append,args:=#[s,x],argTypes:=#[t,t] })
  (e:TypeId) (ht:Pr.underlying t=some (.slice e)) (hinfo:(Pr.info? e).map (λ i=>(i.zero,i.size,i.bytes))=some (some (.int .u16 0),1,2))
  (b:Nat) (hs:a.eval s=.slice (some ⟨b,0,none⟩) 0 0) (ad:Option Addr) (n cap:Nat) (d:Nat->Int) (hx:a.eval x=.slice ad n cap) (hD:Dig w ad n cap d) (hn:n<=1000000000)
  (hK:∀ a' m7 w',Dig w' a' n m7 d->Below w.heap.size w w'->Mine w.heap.size w' a' n->K (a.put o.dst (.slice a' n m7)) w') :
  if Region.wanted o (yielded ops a.tmps)=true then Oper.wp Pr o a w K Q else E:=by
 have hw:Region.wanted o (yielded ops a.tmps)=true:=by simp[Region.wanted,hg]
 rw[if_pos hw];obtain⟨i,hi,qZ⟩:=Option.map_eq_some_iff.1 hinfo;simp only[Prod.mk.injEq] at qZ;obtain⟨hz,K3,Cd⟩:=qZ;obtain⟨a',m7,w',fQ,h1,h2,h3⟩:=zEP (Pr:=Pr) w t o.type e i _ ht hi hz K3 Cd b ad n cap d hD hn;unfold Oper.wp;simp[execOp,mD,resolve,invoke,builtin,hs,hx,fQ,Result.andThen];exact hK a' m7 w' h1 h2 h3
theorem neg_fr (neg:Bool) (a:Option Addr) (n cap k:Nat) (x:Int) (w:World) (h1:IntAt w neg a n cap k x) (hk:k<=1000000000) :
  Calls Tryz.prog 87 #[.agg #[.bool neg,.slice a n cap]] w λ r w' =>
   ∃ j9 a' n' m7,r=.returned (.agg #[.bool j9,.slice a' n' m7])/\IntAt w' j9 a' n' m7 k (-x)/\Below w.heap.size w w'/\Mine w.heap.size w' a' n':=by
 obtain⟨d,f1,f2,f3,f4,fy⟩:=h1;have Hy:=zC (show sgn (!neg) (V d n) = -x by rw[fy];cases neg<;>simp[sgn])
 clear fy
 go_enter Tryz.func87,Tryz.ntmps87
 go_wp2
 go_region_held3 (λ w'=>w'.cell? ⟨w.heap.size,0,none⟩=some (.bool neg)/\w'.cell? ⟨w.heap.size,1,none⟩=some (.slice a n cap)) (go_keep)
  (first
   | (refine zD0 (by rfl) _ _ 27 (by rfl) 94 Tryz.underlying27 Tryz.infoU16 _ (by rfl) _ _ _ d (by rfl) (f1.bw (bl3 _ _ _ _).drew) (by omega) ?_;intro a1 c1 w1 M9 hb dR;obtain⟨K3,hcell,bI⟩:=zZ (w.heap.size+2) (by simp) hb)
   | (go_at_call 70;refine (zIZ _ _ _ _ _ d _ M9 dR).mono ?_;rintro r w2 ⟨j9,a2,n2,c2,rfl,hint,j7,av⟩;obtain⟨A9,B7,E7⟩:=zZ (w.heap.size+2) K3 j7))
 go_wp2;refine bodyPost_ret (v:=.agg #[.bool j9,.slice a2 n2 c2]) (by simp[results,Tryz.results87,go_sem,B7,hcell]) rfl ⟨j9,a2,n2,c2,rfl,?_,?_,?_⟩
 ·have h0:w2.cell? ⟨w.heap.size+1,0,none⟩=some (.bool false):=by simp[B7,hcell,go_sem]
  have G6:w2.cell? ⟨w.heap.size+1,1,none⟩=some (.slice none 0 0):=by simp[B7,hcell,go_sem]
  rw[zA Hy] at hint;exact (hint.put2 h0 G6 _ _).mono (by omega)
 ·exact ((zB (zB (bl3 _ _ _ _).drew hb) j7).setCell (by simp) _).setCell (by simp) _
 ·exact ((av.mono (bl3 _ _ _ _).drew.size).set _ _).set _ _
theorem upAny_fr (neg:Bool) (a:Option Addr) (n cap k:Nat) (d:Nat->Int) (w:World) (ha:Dig w a n cap d) (hn:n<=1000000000) (hk:k<=1000000000) :
  Calls Tryz.prog 116 #[.agg #[.bool neg,.slice a n cap],.int .i64 k] w λ r w' =>
   ∃ j9 a' n' m7,r=.returned (.agg #[.bool j9,.slice a' n' m7])/\IntAt w' j9 a' n' m7 (k/16+n+1) (sgn neg (V d n*Q k))/\Below w.heap.size w w'/\Mine w.heap.size w' a' n':=by
 obtain⟨q,hq⟩:∃ q,q=k/16:=⟨_,rfl⟩;obtain⟨s,hs⟩:∃ s,s=k % 16:=⟨_,rfl⟩;have Fg:(k:Int)/16=(q:Int):=by omega
 have qf:(k:Int) % 16=(s:Int):=by omega
 have di:s<16:=by omega
 have nI:¬ (k:Int)<0:=by omega
 obtain⟨W,hW⟩:∃ W,W=(w.alloc (.cells #[.bool neg,.slice a n cap] 29)).alloc (.cells #[.bool false,.slice none 0 0] 29):=⟨_,rfl⟩;have b3:Below w.heap.size w W:=by rw[hW];exact bl2 _ _ _
 have s3:W.heap.size=w.heap.size+1+1:=by rw[hW];simp
 have k0:W.cell? ⟨w.heap.size,0,none⟩=some (.bool neg):=by rw[hW];simp[go_sem]
 have k3:W.cell? ⟨w.heap.size+1,0,none⟩=some (.bool false):=by rw[hW];simp[go_sem]
 have k4:W.cell? ⟨w.heap.size+1,1,none⟩=some (.slice none 0 0):=by rw[hW];simp[go_sem]
 have k5:∀ o,W.frozen? ⟨w.heap.size+1,o,none⟩=false:=by intro o;rw[hW];simp[go_sem]
 have HW:=zC hW;clear hW;have aj:=run_make_row' (P:=Tryz.prog) 27 94 (.int .u16 0) 2 Tryz.underlying27 Tryz.infoU16 rfl .i64 .i64 (q+n+1) (by omega) (by omega)
 have dM:((q+n+1:Nat):Int)=(q:Int)+n+1:=by omega
 rw[dM] at aj;have Hq:=zC hq;have Hs:=zC hs;clear dM hq hs
 go_enter Tryz.func116,Tryz.ntmps116
 go_wp2;clear aj
 go_loopw [26] (λ ii wr=>∃ (i:Nat) (o:Nat->Int),i<=n/\ii=.int .i64 i/\wr.rowIs (w.heap.size+1+1) 94 (q+n+1) (λ j=>.int .u16 (o j))/\Dgs o/\V o (q+n+1)=V d i*Q s*P q/\(∀ j,i+q<j->o j=0)/\o (i+q)<Q s/\Below (w.heap.size+1+1) W wr) (λ ii _=>n-(intOf ii).toNat)
 case atStart =>
  refine⟨0,λ _=>0,Nat.zero_le _,rfl,?_,λ _=>⟨by simp,by simp⟩,?_,λ _ _=>rfl,?_,?_⟩
  ·have:=World.rowIs_made W (.int .u16 0) (q+n+1) 94
   rw[s3,zA HW] at this;exact this
  ·rw[zMQ];simp[V]
  ·have:=zE s;simp;omega
  ·rw[zA HW];exact (Below.refl _ _).alloc (by simp) _
 case round =>
  obtain⟨i,o,hi,rfl,C8,J0,Z8,aY,CC,A7⟩:=hrel
  by_cases I9:i<n
  ·obtain⟨b1,o1,rfl,b9,E4⟩:=ha.at_ (by omega)
   have g1:wr.cell? ⟨b1,o1+i,none⟩=some (.int .u16 (d i)):=(A7.cell (p:=⟨b1,o1+i,none⟩) (by show b1<_;omega)).trans ((b3.cell (p:=⟨b1,o1+i,none⟩) b9).trans (E4 i I9))
   have db:=ha.dgs i;have r1:=C8.cell (show i+q<q+n+1 by omega)
   have r2:=C8.frozen (i+q);have r3:=C8.cell (show i+q+1<q+n+1 by omega)
   have r4:=C8.frozen (i+q+1);have H6:=aY (i+q+1) (by omega)
   rw[H6] at r3;have ob:=J0 (i+q);have HV:=zC Z8;have HZ:=zC aY;have HR:=zC C8;have HD:=zC J0;have Bg:=zC H6;clear E4 Z8 aY C8 J0 H6;obtain⟨c,cZ⟩:=zUC (d i) s (by omega)
   have hhigh:=zI9 (d i) s db.1 db.2;have E2:=up_lt (d i) s di db.1 db.2;have P1:d i*2 ^ s % 4294967296=d i*Q s:=by rw[zGT];omega
   have fP:=or16 (o (i+q)) (d i*Q s % 65536) c s (by omega) ob.1 CC cZ (by omega) (by omega)
   have dh:=or16 0 (d i*Q s/65536) (d i*Q s/65536) 0 (by omega) (by omega) (by simp[Q]) (by simp[Q]) hhigh.1 (by omega)
   have H1:=zC (show bits .or .u16 (o (i+q)) (IntKind.u16.wrap (d i*2 ^ s % 4294967296))=o (i+q)+d i*Q s % 65536 by rw[P1,yQ];exact fP.1)
   have H2:=zC (show bits .or .u16 0 (d i*2 ^ s % 4294967296/65536)=d i*Q s/65536 by rw[P1,dh.1];omega)
   have H3:=zC fP.2;have H4:=zC hhigh;have lq:=zH (show s<=15 by omega)
   have gP:Q 15=32768:=rfl;rw[gP] at lq;clear cZ E2 P1 fP dh hhigh gP;go_wp2
   go_roundw
   case rel =>
    have h3:=zA H3;have h4:=zA H4;have hne:i+q+1≠i+q:=by omega
    have hz:upd o (i+q) (o (i+q)+d i*Q s % 65536) (i+q+1)=0:=by simp[upd];exact zA Bg
    refine⟨i+1,upd (upd o (i+q) (o (i+q)+d i*Q s % 65536)) (i+q+1) (d i*Q s/65536),by omega,by go_num,zB6 (zB6 (zA HR) (i+q) (zA H1)) (i+q+1) (zA H2),jP (jP (zA HD) _ (by omega) h3) _ h4.1 (by omega),?_,λ j hj=>?_,?_,(A7.setCell (by simp) _).setCell (by simp) _⟩
    ·rw[zK3 _ _ _ _ (by omega),zK3 _ _ _ _ (by omega),hz,zA HV]
     exact zUB (V d i) (d i) (o (i+q)) i q s
    ·have e1:j≠i+q:=by omega
     have e2:j≠i+q+1:=by omega
     simp only[upd,e1,e2,if_false];exact zA HZ j (by omega)
    ·have e1:i+1+q=i+q+1:=by omega
     rw[e1];simp only[upd,if_true];exact h4.2
   case measure=>simp[intOf];omega
  ·have hiE:i=n:=by omega
   subst hiE;have q0:wr.cell? ⟨w.heap.size,0,none⟩=some (.bool neg):=(A7.cell (p:=⟨w.heap.size,0,none⟩) (by show w.heap.size<_;omega)).trans k0
   have q3:wr.cell? ⟨w.heap.size+1,0,none⟩=some (.bool false):=(A7.cell (p:=⟨w.heap.size+1,0,none⟩) (by simp)).trans k3
   have q4:wr.cell? ⟨w.heap.size+1,1,none⟩=some (.slice none 0 0):=(A7.cell (p:=⟨w.heap.size+1,1,none⟩) (by simp)).trans k4
   have q5:∀ o,wr.frozen? ⟨w.heap.size+1,o,none⟩=false:=λ o=>(A7.frozen (p:=⟨w.heap.size+1,o,none⟩) (by simp)).trans (k5 o)
   have L5:=A7.size;rw[s3] at L5;have HR:=zC (zDD C8 J0 (by omega))
   have FR:=zC (zIU (m:=w.heap.size) C8 (by omega))
   have HV:=zC Z8;clear Z8 aY C8 J0;go_wp2_with (go_at_call 70;refine (zIZ w.heap.size _ _ _ _ o _ (zA HR) (zA FR)).mono ?_;rintro r w2 ⟨j9,a2,n2,c2,rfl,hint,j7,av⟩;obtain⟨A9,B7,E7⟩:=zZ (w.heap.size+1+1) L5 j7);refine bodyPost_ret (v:=.agg #[.bool j9,.slice a2 n2 c2]) (by simp[results,Tryz.results116,go_sem,B7,q3,q4]) rfl ⟨j9,a2,n2,c2,rfl,?_,?_,?_⟩
   ·have h0:w2.cell? ⟨w.heap.size+1,0,none⟩=some (.bool false):=by simp[B7,q3]
    have G6:w2.cell? ⟨w.heap.size+1,1,none⟩=some (.slice none 0 0):=by simp[B7,q4]
    rw[zA HV,Int.mul_assoc,zA Hs,zA Hq,<- zHS] at hint;exact hint.put2 h0 G6 _ _
   ·exact ((zB (b3.trans (A7.mono (by omega))) j7).setCell (by simp) _).setCell (by simp) _
   ·exact (av.set _ _).set _ _
theorem up_fr (neg:Bool) (a:Option Addr) (n cap k k1:Nat) (x:Int) (w:World) (h1:IntAt w neg a n cap k1 x) (W6:k1<=1000000000) (hk:k<=1000000000) :
  Calls Tryz.prog 116 #[.agg #[.bool neg,.slice a n cap],.int .i64 k] w λ r w' =>
   ∃ j9 a' n' m7,r=.returned (.agg #[.bool j9,.slice a' n' m7])/\IntAt w' j9 a' n' m7 (k/16+k1+1) (x*Q k)/\Below w.heap.size w w'/\Mine w.heap.size w' a' n':=by
 obtain⟨d,g1,g2,g3,g4,rfl⟩:=h1;have hs:sgn neg (V d n*Q k)=sgn neg (V d n)*Q k:=by cases neg<;>simp[sgn,Int.neg_mul]
 rw[<- hs];exact (upAny_fr neg a n cap k d w g1 (by omega) hk).mono λ _ _ ⟨n1,n2,n3,n4,q1,q2,q3,q4⟩=>⟨n1,n2,n3,n4,q1,q2.mono (by omega),q3,q4⟩
theorem zOR (neg:Bool) (a:Option Addr) (n cap k:Nat) (d:Nat->Int) (w:World) (ha:Dig w a n cap d) (hn:n<=1000000000) (hk:k<=1000000000) :
  Calls Tryz.prog 96 #[.agg #[.bool neg,.slice a n cap],.int .i64 k] w λ r w' =>
   ∃ j9 a' n' m7,r=.returned (.agg #[.bool j9,.slice a' n' m7])/\IntAt w' j9 a' n' m7 (n+5) (sgn neg (V d n)/Q k)/\Below w.heap.size w w'/\Mine w.heap.size w' a' n':=by
 obtain⟨q,hq⟩:∃ q,q=k/16:=⟨_,rfl⟩;obtain⟨s,hs⟩:∃ s,s=k % 16:=⟨_,rfl⟩;have Fg:(k:Int)/16=(q:Int):=by omega
 have qf:(k:Int) % 16=(s:Int):=by omega
 have di:s<16:=by omega
 have nI:¬ (k:Int)<0:=by omega
 obtain⟨W,hW⟩:∃ W,W=(w.alloc (.cells #[.bool neg,.slice a n cap] 29)).alloc (.cells #[.bool false,.slice none 0 0] 29):=⟨_,rfl⟩;have b3:Below w.heap.size w W:=by rw[hW];exact bl2 _ _ _
 have s3:W.heap.size=w.heap.size+1+1:=by rw[hW];simp
 have k0:W.cell? ⟨w.heap.size,0,none⟩=some (.bool neg):=by rw[hW];simp[go_sem]
 have k1:W.cell? ⟨w.heap.size,1,none⟩=some (.slice a n cap):=by rw[hW];simp[go_sem]
 have k3:W.cell? ⟨w.heap.size+1,0,none⟩=some (.bool false):=by rw[hW];simp[go_sem]
 have k4:W.cell? ⟨w.heap.size+1,1,none⟩=some (.slice none 0 0):=by rw[hW];simp[go_sem]
 have k5:∀ o,W.frozen? ⟨w.heap.size+1,o,none⟩=false:=by intro o;rw[hW];simp[go_sem]
 have HW:=zC hW;have Hq:=zC hq;have Hs:=zC hs;clear hW hq hs
 go_enter Tryz.func96,Tryz.ntmps96
 go_wp2
 go_loopw [5,6,20] (λ out lost ii wr=>∃ (i m:Nat) (a':Option Addr) (m7:Nat) (o:Nat->Int) (b:Bool),i<=n/\ii=.int .i64 i/\m=i-q/\out=.slice a' m m7/\lost=.bool b/\(b=true ↔ yA d q s i≠0) /\
   Own wr (w.heap.size+1+1) 94 a' m m7 o/\Dgs o/\V o m*Q s+dg d n q % Q s=V (λ j=>dg d n (q+j)) m+dg d n (q+m) % Q s*P m/\Below (w.heap.size+1+1) W wr) (λ _ _ ii _=>n-(intOf ii).toNat)
 case atStart =>
  refine⟨0,0,none,0,λ _=>0,false,Nat.zero_le _,rfl,by omega,rfl,rfl,by simp[yA,V],Own.nil _ _ _ _,λ _=>⟨by simp,by simp⟩,by simp[V,P],?_⟩
  rw[zA HW];exact Below.refl _ _
 case round =>
  obtain⟨i,m,a',m7,o,b,hi,rfl,hm,rfl,rfl,hb,G8,J0,hV,A7⟩:=hrel;have L5:=A7.size;rw[s3] at L5
  by_cases I9:i<n
  ·obtain⟨b1,o1,rfl,b9,E4⟩:=ha.at_ (by omega)
   have g1:wr.cell? ⟨b1,o1+i,none⟩=some (.int .u16 (d i)):=(A7.cell (p:=⟨b1,o1+i,none⟩) (by show b1<_;omega)).trans ((b3.cell (p:=⟨b1,o1+i,none⟩) b9).trans (E4 i I9))
   have q1:wr.cell? ⟨w.heap.size,1,none⟩=some (.slice (some ⟨b1,o1,none⟩) n cap):=(A7.cell (p:=⟨w.heap.size,1,none⟩) (by show w.heap.size<_;omega)).trans k1
   have db:=ha.dgs i
   by_cases Jk:i<q
   ·have pW:m=0:=by omega
    subst pW;have vg:(i:Int)<q:=by omega
    have Hm:=zC hm;have HO:=zC G8;have HV:=zC hV;have HB:=zC hb;clear hm G8 hV hb E4;have oG:=zNN (s:=s) ha.dgs Jk
    cases b
    ·have HL:=zC (show (d i != 0)=true ↔ yA d q s (i+1)≠0 by rw[oG];have:=zA HB;simp at this;simp[this])
     clear oG;go_wp2
     go_roundw
     case rel=>exact⟨i+1,0,a',m7,o,_,by omega,by go_num,by omega,rfl,rfl,zA HL,zA HO,J0,zA HV,A7⟩
     case measure=>simp[intOf];omega
    ·have HL:=zC (show true=true ↔ yA d q s (i+1)≠0 by rw[oG];have:=zA HB;simp at this;simp[this])
     clear oG;go_wp2
     go_roundw
     case rel=>exact⟨i+1,0,a',m7,o,_,by omega,by go_num,by omega,rfl,rfl,zA HL,zA HO,J0,zA HV,A7⟩
     case measure=>simp[intOf];omega
   ·have vg:¬ (i:Int)<q:=by omega
    have iO:m<=n:=by omega
    have Hm:=zC hm;have HO:=zC G8;have HV:=zC hV;have HB:=zC hb;clear hm G8 hV hb;have eqm:q+m=i:=by have:=zA Hm;omega
    have hand:bits BinOp.and IntKind.u16 (d i) (IntKind.u16.wrap (IntKind.u16.wrap (2 ^ s)-1))=d i % Q s:=by
     have h1:=zH (show s<=15 by omega)
     have gP:Q 15=32768:=rfl;have h2:=zE s;have h3:IntKind.u16.wrap (IntKind.u16.wrap (2 ^ s)-1)=Q s-1:=by rw[yQ,yQ,zGT];omega
     rw[h3];exact and16 (d i) s (by omega) db.1 db.2
    have dgi:dg d n (q+m)=d i:=by rw[eqm];simp[dg,I9]
    by_cases fq:i+1<n
    ·have g2:wr.cell? ⟨b1,o1+(i+1),none⟩=some (.int .u16 (d (i+1))):=(A7.cell (p:=⟨b1,o1+(i+1),none⟩) (by show b1<_;omega)).trans ((b3.cell (p:=⟨b1,o1+(i+1),none⟩) b9).trans (E4 (i+1) fq))
     have Bj:=ha.dgs (i+1);have vd:(i:Int)+1<n:=by omega
     have T9:IntKind.u16.wrap (bits BinOp.or IntKind.u32 (d i) (d (i+1)*65536)/2 ^ s)=(dg d n (q+m)+65536*dg d n (q+(m+1)))/Q s % 65536:=by
      have e1:dg d n (q+(m+1))=d (i+1):=by rw[<- Nat.add_assoc,eqm];simp[dg,fq]
      rw[yQ,or32 (d i) (d (i+1)*65536) (d (i+1)) db.1 db.2 (by omega) Bj.1 Bj.2,zGT,dgi,e1,Int.mul_comm (d (i+1)) 65536]
     clear E4 dgi eqm
     by_cases cX:i=q
     ·subst cX
      have ft:((i:Int) == i)=true:=by simp
      cases b
      ·have HL:=zC (show (bits BinOp.and IntKind.u16 (d i) (IntKind.u16.wrap (IntKind.u16.wrap (2 ^ s)-1)) != 0)=true ↔ yA d i s (i+1)≠0 by rw[zC5 ha.dgs,hand];have:=zA HB;simp at this;simp[this])
       clear hand;have HE:=zC (show IntKind.u16.wrap (bits BinOp.or IntKind.u32 (d i) (d (i+1)*65536)/2 ^ s)=(dg d n (i+m)+65536*dg d n (i+(m+1)))/Q s % 65536 by rw[T9])
       clear T9;go_wp2_with (at_builtin;refine zQ _ rfl _ _ 27 rfl (w.heap.size+1+1) 94 Tryz.underlying27 Tryz.infoU16 a' m m7 o rfl ((zA HO).alloc _) wr.heap.size 1 (IntKind.u16.wrap (bits BinOp.or IntKind.u32 (d i) (d (i+1)*65536)/2 ^ s)) rfl (by simp[go_sem]) (by omega) (by simp;omega) ?_;intro a2 m8 w1 E5 j7)
       go_roundw
       case rel =>
        rw[zA HE] at E5;refine⟨i+1,m+1,a2,m8,upd o m ((dg d n (i+m)+65536*dg d n (i+(m+1)))/Q s % 65536),_,by omega,by go_num,by have:=zA Hm;omega,rfl,rfl,zA HL,E5,jP J0 _ (by omega) (by omega),kX d o n i m s (by omega) ha.dgs rfl (zA HV),?_⟩
        exact (A7.alloc (by omega) _).trans j7
       case measure=>simp[intOf];omega
      ·have HL:=zC (show true=true ↔ yA d i s (i+1)≠0 by rw[zC5 ha.dgs];have:=zA HB;simp at this;simp[this])
       clear hand;have HE:=zC (show IntKind.u16.wrap (bits BinOp.or IntKind.u32 (d i) (d (i+1)*65536)/2 ^ s)=(dg d n (i+m)+65536*dg d n (i+(m+1)))/Q s % 65536 by rw[T9])
       clear T9;go_wp2_with (at_builtin;refine zQ _ rfl _ _ 27 rfl (w.heap.size+1+1) 94 Tryz.underlying27 Tryz.infoU16 a' m m7 o rfl ((zA HO).alloc _) wr.heap.size 1 (IntKind.u16.wrap (bits BinOp.or IntKind.u32 (d i) (d (i+1)*65536)/2 ^ s)) rfl (by simp[go_sem]) (by omega) (by simp;omega) ?_;intro a2 m8 w1 E5 j7)
       go_roundw
       case rel =>
        rw[zA HE] at E5;refine⟨i+1,m+1,a2,m8,upd o m ((dg d n (i+m)+65536*dg d n (i+(m+1)))/Q s % 65536),_,by omega,by go_num,by have:=zA Hm;omega,rfl,rfl,zA HL,E5,jP J0 _ (by omega) (by omega),kX d o n i m s (by omega) ha.dgs rfl (zA HV),?_⟩
        exact (A7.alloc (by omega) _).trans j7
       case measure=>simp[intOf];omega
     ·have ft:((i:Int) == q)=false:=by simp;omega
      have HL:=zC (show b=true ↔ yA d q s (i+1)≠0 by rw[zED (by omega)];exact zA HB)
      clear hand;have HE:=zC (show IntKind.u16.wrap (bits BinOp.or IntKind.u32 (d i) (d (i+1)*65536)/2 ^ s)=(dg d n (q+m)+65536*dg d n (q+(m+1)))/Q s % 65536 by rw[T9])
      clear T9;go_wp2_with (at_builtin;refine zQ _ rfl _ _ 27 rfl (w.heap.size+1+1) 94 Tryz.underlying27 Tryz.infoU16 a' m m7 o rfl ((zA HO).alloc _) wr.heap.size 1 (IntKind.u16.wrap (bits BinOp.or IntKind.u32 (d i) (d (i+1)*65536)/2 ^ s)) rfl (by simp[go_sem]) (by omega) (by simp;omega) ?_;intro a2 m8 w1 E5 j7)
      go_roundw
      case rel =>
       rw[zA HE] at E5;refine⟨i+1,m+1,a2,m8,upd o m ((dg d n (q+m)+65536*dg d n (q+(m+1)))/Q s % 65536),_,by omega,by go_num,by have:=zA Hm;omega,rfl,rfl,zA HL,E5,jP J0 _ (by omega) (by omega),kX d o n q m s (by omega) ha.dgs rfl (zA HV),?_⟩
       exact (A7.alloc (by omega) _).trans j7
      case measure=>simp[intOf];omega
    ·have vd:¬ (i:Int)+1<n:=by omega
     have T9:IntKind.u16.wrap (d i/2 ^ s)=(dg d n (q+m)+65536*dg d n (q+(m+1)))/Q s % 65536:=by
      have e1:dg d n (q+(m+1))=0:=by rw[<- Nat.add_assoc,eqm];simp[dg,fq]
      rw[yQ,zGT,dgi,e1];simp
     clear E4 dgi eqm
     by_cases cX:i=q
     ·subst cX
      have ft:((i:Int) == i)=true:=by simp
      cases b
      ·have HL:=zC (show (bits BinOp.and IntKind.u16 (d i) (IntKind.u16.wrap (IntKind.u16.wrap (2 ^ s)-1)) != 0)=true ↔ yA d i s (i+1)≠0 by rw[zC5 ha.dgs,hand];have:=zA HB;simp at this;simp[this])
       clear hand;have HE:=zC (show IntKind.u16.wrap (d i/2 ^ s)=(dg d n (i+m)+65536*dg d n (i+(m+1)))/Q s % 65536 by rw[T9])
       clear T9;go_wp2_with (at_builtin;refine zQ _ rfl _ _ 27 rfl (w.heap.size+1+1) 94 Tryz.underlying27 Tryz.infoU16 a' m m7 o rfl ((zA HO).alloc _) wr.heap.size 1 (IntKind.u16.wrap (d i/2 ^ s)) rfl (by simp[go_sem]) (by omega) (by simp;omega) ?_;intro a2 m8 w1 E5 j7)
       go_roundw
       case rel =>
        rw[zA HE] at E5;refine⟨i+1,m+1,a2,m8,upd o m ((dg d n (i+m)+65536*dg d n (i+(m+1)))/Q s % 65536),_,by omega,by go_num,by have:=zA Hm;omega,rfl,rfl,zA HL,E5,jP J0 _ (by omega) (by omega),kX d o n i m s (by omega) ha.dgs rfl (zA HV),?_⟩
        exact (A7.alloc (by omega) _).trans j7
       case measure=>simp[intOf];omega
      ·have HL:=zC (show true=true ↔ yA d i s (i+1)≠0 by rw[zC5 ha.dgs];have:=zA HB;simp at this;simp[this])
       clear hand;have HE:=zC (show IntKind.u16.wrap (d i/2 ^ s)=(dg d n (i+m)+65536*dg d n (i+(m+1)))/Q s % 65536 by rw[T9])
       clear T9;go_wp2_with (at_builtin;refine zQ _ rfl _ _ 27 rfl (w.heap.size+1+1) 94 Tryz.underlying27 Tryz.infoU16 a' m m7 o rfl ((zA HO).alloc _) wr.heap.size 1 (IntKind.u16.wrap (d i/2 ^ s)) rfl (by simp[go_sem]) (by omega) (by simp;omega) ?_;intro a2 m8 w1 E5 j7)
       go_roundw
       case rel =>
        rw[zA HE] at E5;refine⟨i+1,m+1,a2,m8,upd o m ((dg d n (i+m)+65536*dg d n (i+(m+1)))/Q s % 65536),_,by omega,by go_num,by have:=zA Hm;omega,rfl,rfl,zA HL,E5,jP J0 _ (by omega) (by omega),kX d o n i m s (by omega) ha.dgs rfl (zA HV),?_⟩
        exact (A7.alloc (by omega) _).trans j7
       case measure=>simp[intOf];omega
     ·have ft:((i:Int) == q)=false:=by simp;omega
      have HL:=zC (show b=true ↔ yA d q s (i+1)≠0 by rw[zED (by omega)];exact zA HB)
      clear hand;have HE:=zC (show IntKind.u16.wrap (d i/2 ^ s)=(dg d n (q+m)+65536*dg d n (q+(m+1)))/Q s % 65536 by rw[T9])
      clear T9;go_wp2_with (at_builtin;refine zQ _ rfl _ _ 27 rfl (w.heap.size+1+1) 94 Tryz.underlying27 Tryz.infoU16 a' m m7 o rfl ((zA HO).alloc _) wr.heap.size 1 (IntKind.u16.wrap (d i/2 ^ s)) rfl (by simp[go_sem]) (by omega) (by simp;omega) ?_;intro a2 m8 w1 E5 j7)
      go_roundw
      case rel =>
       rw[zA HE] at E5;refine⟨i+1,m+1,a2,m8,upd o m ((dg d n (q+m)+65536*dg d n (q+(m+1)))/Q s % 65536),_,by omega,by go_num,by have:=zA Hm;omega,rfl,rfl,zA HL,E5,jP J0 _ (by omega) (by omega),kX d o n q m s (by omega) ha.dgs rfl (zA HV),?_⟩
       exact (A7.alloc (by omega) _).trans j7
      case measure=>simp[intOf];omega
  ·have hiE:i=n:=by omega
   subst hiE;have q0:wr.cell? ⟨w.heap.size,0,none⟩=some (.bool neg):=(A7.cell (p:=⟨w.heap.size,0,none⟩) (by show w.heap.size<_;omega)).trans k0
   have q3:wr.cell? ⟨w.heap.size+1,0,none⟩=some (.bool false):=(A7.cell (p:=⟨w.heap.size+1,0,none⟩) (by simp)).trans k3
   have q4:wr.cell? ⟨w.heap.size+1,1,none⟩=some (.slice none 0 0):=(A7.cell (p:=⟨w.heap.size+1,1,none⟩) (by simp)).trans k4
   have q5:∀ o,wr.frozen? ⟨w.heap.size+1,o,none⟩=false:=λ o=>(A7.frozen (p:=⟨w.heap.size+1,o,none⟩) (by simp)).trans (k5 o)
   obtain⟨f1,f2,f3⟩:=zM4 ha.dgs (zA Hq) (zA Hs) hm hV;have om:0<Q k:=by have:=zE k;omega
   have HR:=zC (G8.dig J0 (by omega))
   have FR:=zC ((mine_own G8).mono (show w.heap.size<=_ by omega))
   have W8:m<=i:=by omega
   have IZ:(b=true/\0<yA d q s i)\/(b=false/\yA d q s i=0):=by
    cases b
    ·right;simp at hb;exact⟨rfl,hb⟩
    ·left;simp at hb;exact⟨rfl,by omega⟩
   clear hV hb G8 J0 hm
   rcases IZ with⟨rfl,hl⟩|⟨rfl,hl⟩
   ·cases neg
    ·have HE:=zC (show sgn false (V o m)=sgn false (V d i)/Q k by simp only[sgn];exact (zBE om f1 f2 f3).symm)
     clear f1 f2 f3 hl;go_wp2_with (go_at_call 70;refine (zIZ w.heap.size _ _ _ _ o _ (zA HR) (zA FR)).mono ?_;rintro r w2 ⟨j9,a2,n2,c2,rfl,hint,j7,av⟩;obtain⟨A9,B7,E7⟩:=zZ (w.heap.size+1+1) L5 j7;have M5:=Zd (Nat.lt_succ_of_lt (Nat.lt_succ_self w.heap.size)) A9;have H6:=Zd (Nat.lt_succ_self (w.heap.size+1)) A9);refine bodyPost_ret (v:=.agg #[.bool j9,.slice a2 n2 c2]) (by simp[results,Tryz.results96,go_sem,B7,M5,H6,q3,q4]) rfl ⟨j9,a2,n2,c2,rfl,?_,?_,?_⟩
     ·have h0:w2.cell? ⟨w.heap.size+1,0,none⟩=some (.bool false):=by simp[B7,q3]
      have G6:w2.cell? ⟨w.heap.size+1,1,none⟩=some (.slice none 0 0):=by simp[B7,q4]
      rw[zA HE] at hint;exact ((hint.put2 h0 G6 _ _).bw (bl1 _ _)).mono (by omega)
     ·exact zL (((zB (b3.trans (A7.mono (by omega))) j7).setCell (p:=⟨w.heap.size+1,0,none⟩) (Nat.le_succ _) _).setCell (p:=⟨w.heap.size+1,1,none⟩) (Nat.le_succ _) _) _
     ·exact ((av.set _ _).set _ _).bw (bl1 _ _)
    ·have HE:=zC (show sgn true (V o m)-1=sgn true (V d i)/Q k by simp only[sgn];exact (zC1 om f1 hl f3).symm)
     clear f1 f2 f3 hl;go_wp2_with (go_at_call 70;refine (zIZ w.heap.size _ _ _ _ o _ (zA HR) (zA FR)).mono ?_;rintro r w2 ⟨j9,a2,n2,c2,rfl,hint,j7,av⟩;obtain⟨A9,B7,E7⟩:=zZ (w.heap.size+1+1) L5 j7;have M5:=Zd (Nat.lt_succ_of_lt (Nat.lt_succ_self w.heap.size)) A9;have H6:=Zd (Nat.lt_succ_self (w.heap.size+1)) A9);have nz:w2.heap.size≠w.heap.size+1:=by omega
     have RP:w.heap.size+1≠w2.heap.size:=by omega
     go_region_held3 (λ w'=>w'.cell? ⟨w2.heap.size,0,none⟩=some (.bool j9)/\w'.cell? ⟨w2.heap.size,1,none⟩=some (.slice a2 n2 c2)) (go_keep)
      (first
       | (go_at_call 33;refine (zD 1 _ (by decide) (by decide)).mono ?_;rintro r w3 ⟨B8,a3,n3,c3,rfl,G0,o7⟩;obtain⟨J1,L6,O0⟩:=zZ (w2.heap.size+1) (by simp) o7)
       | (go_at_call 35;refine (sub_fr _ _ _ _ _ _ _ _ m 4 _ _ _ (hint.bw (zB (bl1 _ _).drew o7)) G0 (by omega) (by omega)).mono ?_;rintro r w4 ⟨E6,a4,n4,c4,rfl,I2,y9,WO⟩;obtain⟨dt,fS,cA⟩:=zZ (w2.heap.size+1) J1 y9;have y1:=Nat.le_succ_of_le H6;have y0:w2.cell? ⟨w.heap.size+1,0,none⟩=some (.bool false):=(B7 _ _ (Zb _)).trans q3;have y2:w2.cell? ⟨w.heap.size+1,1,none⟩=some (.slice none 0 0):=(B7 _ _ (Zb _)).trans q4;have y3:∀ o,w2.frozen? ⟨w.heap.size+1,o,none⟩=false:=λ o=>(E7 _ _ (Zb _)).trans (q5 o)))
     go_wp2;have h0:w4.cell? ⟨w.heap.size+1,0,none⟩=some (.bool false):=by rw[fS _ _ y1,L6 _ _ y1];exact (World.cell?_alloc_past _ _ _ H6).trans y0
     have G6:w4.cell? ⟨w.heap.size+1,1,none⟩=some (.slice none 0 0):=by rw[fS _ _ y1,L6 _ _ y1];exact (World.cell?_alloc_past _ _ _ H6).trans y2
     refine bodyPost_ret (v:=.agg #[.bool E6,.slice a4 n4 c4]) (by simp[results,Tryz.results96,go_sem,h0,G6]) rfl ⟨E6,a4,n4,c4,rfl,?_,?_,?_⟩
     ·rw[zA HE] at I2
      exact (I2.put2 h0 G6 _ _).mono (by omega)
     ·exact ((zB (zB (zL (zB (b3.trans (A7.mono (by omega))) j7) _).drew o7) y9).setCell (p:=⟨w.heap.size+1,0,none⟩) (Nat.le_succ _) _).setCell (p:=⟨w.heap.size+1,1,none⟩) (Nat.le_succ _) _
     ·exact ((WO.mono (zB (zL (zB (b3.trans (A7.mono (by omega))) j7) _).drew o7).size).set _ _).set _ _
   ·cases neg
    ·have HE:=zC (show sgn false (V o m)=sgn false (V d i)/Q k by simp only[sgn];exact (zBE om f1 f2 f3).symm)
     clear f1 f2 f3 hl;go_wp2_with (go_at_call 70;refine (zIZ w.heap.size _ _ _ _ o _ (zA HR) (zA FR)).mono ?_;rintro r w2 ⟨j9,a2,n2,c2,rfl,hint,j7,av⟩;obtain⟨A9,B7,E7⟩:=zZ (w.heap.size+1+1) L5 j7;have M5:=Zd (Nat.lt_succ_of_lt (Nat.lt_succ_self w.heap.size)) A9;have H6:=Zd (Nat.lt_succ_self (w.heap.size+1)) A9);refine bodyPost_ret (v:=.agg #[.bool j9,.slice a2 n2 c2]) (by simp[results,Tryz.results96,go_sem,B7,M5,H6,q3,q4]) rfl ⟨j9,a2,n2,c2,rfl,?_,?_,?_⟩
     ·have h0:w2.cell? ⟨w.heap.size+1,0,none⟩=some (.bool false):=by simp[B7,q3]
      have G6:w2.cell? ⟨w.heap.size+1,1,none⟩=some (.slice none 0 0):=by simp[B7,q4]
      rw[zA HE] at hint;exact ((hint.put2 h0 G6 _ _).bw (bl1 _ _)).mono (by omega)
     ·exact zL (((zB (b3.trans (A7.mono (by omega))) j7).setCell (p:=⟨w.heap.size+1,0,none⟩) (Nat.le_succ _) _).setCell (p:=⟨w.heap.size+1,1,none⟩) (Nat.le_succ _) _) _
     ·exact ((av.set _ _).set _ _).bw (bl1 _ _)
    ·have HE:=zC (show sgn true (V o m)=sgn true (V d i)/Q k by simp only[sgn];exact (zEV om (by rw[f1,hl];omega)).symm)
     clear f1 f2 f3 hl;go_wp2_with (go_at_call 70;refine (zIZ w.heap.size _ _ _ _ o _ (zA HR) (zA FR)).mono ?_;rintro r w2 ⟨j9,a2,n2,c2,rfl,hint,j7,av⟩;obtain⟨A9,B7,E7⟩:=zZ (w.heap.size+1+1) L5 j7;have M5:=Zd (Nat.lt_succ_of_lt (Nat.lt_succ_self w.heap.size)) A9;have H6:=Zd (Nat.lt_succ_self (w.heap.size+1)) A9);refine bodyPost_ret (v:=.agg #[.bool j9,.slice a2 n2 c2]) (by simp[results,Tryz.results96,go_sem,B7,M5,H6,q3,q4]) rfl ⟨j9,a2,n2,c2,rfl,?_,?_,?_⟩
     ·have h0:w2.cell? ⟨w.heap.size+1,0,none⟩=some (.bool false):=by simp[B7,q3]
      have G6:w2.cell? ⟨w.heap.size+1,1,none⟩=some (.slice none 0 0):=by simp[B7,q4]
      rw[zA HE] at hint;exact ((hint.put2 h0 G6 _ _).bw (bl1 _ _)).mono (by omega)
     ·exact zL (((zB (b3.trans (A7.mono (by omega))) j7).setCell (p:=⟨w.heap.size+1,0,none⟩) (Nat.le_succ _) _).setCell (p:=⟨w.heap.size+1,1,none⟩) (Nat.le_succ _) _) _
     ·exact ((av.set _ _).set _ _).bw (bl1 _ _)
theorem down_fr (neg:Bool) (a:Option Addr) (n cap k k1:Nat) (x:Int) (w:World) (h1:IntAt w neg a n cap k1 x) (W6:k1<=1000000000) (hk:k<=1000000000) :
  Calls Tryz.prog 96 #[.agg #[.bool neg,.slice a n cap],.int .i64 k] w λ r w' =>
   ∃ j9 a' n' m7,r=.returned (.agg #[.bool j9,.slice a' n' m7])/\IntAt w' j9 a' n' m7 (k1+5) (x/Q k)/\Below w.heap.size w w'/\Mine w.heap.size w' a' n':=by
 obtain⟨d,g1,g2,g3,g4,rfl⟩:=h1;exact (zOR neg a n cap k d w g1 (by omega) hk).mono λ _ _ ⟨n1,n2,n3,n4,q1,q2,q3,q4⟩=>⟨n1,n2,n3,n4,q1,q2.mono (by omega),q3,q4⟩
theorem zLQ (neg:Bool) (a:Option Addr) (n cap k k1:Nat) (x:Int) (w:World) (h1:IntAt w neg a n cap k1 x) (W6:k1<=1000000000) (hk:k<=1000000000) (bA:0<k) :
  Calls Tryz.prog 96 #[.agg #[.bool neg,.slice a n cap],.int .i64 (-(k:Int))] w λ r w' =>
   ∃ j9 a' n' m7,r=.returned (.agg #[.bool j9,.slice a' n' m7])/\IntAt w' j9 a' n' m7 (k/16+k1+1) (x*Q k)/\Below w.heap.size w w'/\Mine w.heap.size w' a' n':=by
 have K5 : -(k:Int)<0:=by omega
 go_enter Tryz.func96,Tryz.ntmps96
 go_wp2_with (go_at_call 116;refine (up_fr _ _ _ _ k k1 x _ (h1.bw (bl2 _ _ _)) W6 hk).mono ?_;rintro r w2 ⟨j9,a2,n2,c2,rfl,hint,j7,av⟩;obtain⟨A9,B7,E7⟩:=zZ (w.heap.size+1+1) (by simp) j7)
 have h0:w2.cell? ⟨w.heap.size+1,0,none⟩=some (.bool false):=by simp[B7,go_sem]
 have G6:w2.cell? ⟨w.heap.size+1,1,none⟩=some (.slice none 0 0):=by simp[B7,go_sem]
 refine bodyPost_ret (v:=.agg #[.bool j9,.slice a2 n2 c2]) (by simp[results,Tryz.results96,go_sem,h0,G6]) rfl ⟨j9,a2,n2,c2,rfl,?_,?_,?_⟩
 ·exact hint.put2 h0 G6 _ _
 ·exact ((zB (bl2 _ _ _) j7).setCell (p:=⟨w.heap.size+1,0,none⟩) (Nat.le_succ _) _).setCell (p:=⟨w.heap.size+1,1,none⟩) (Nat.le_succ _) _
 ·exact ((av.mono (bl2 _ _ _).size).set _ _).set _ _
theorem zQ2 (neg:Bool) (a:Option Addr) (n cap k1:Nat) (k x:Int) (w:World) (h1:IntAt w neg a n cap k1 x) (W6:k1<=1000000000) (bA : -1000000000<=k) (hk:k<=1000000000) :
  Calls Tryz.prog 96 #[.agg #[.bool neg,.slice a n cap],.int .i64 k] w λ r w' =>
   ∃ j9 a' n' m7,r=.returned (.agg #[.bool j9,.slice a' n' m7])/\IntAt w' j9 a' n' m7 ((-k).toNat/16+k1+5) (zA9 x k)/\Below w.heap.size w w'/\Mine w.heap.size w' a' n':=by
 unfold zA9
 by_cases h:0<=k
 ·obtain⟨K,rfl⟩:=Int.eq_ofNat_of_zero_le h
  rw[if_pos h,Int.toNat_natCast];exact (down_fr neg a n cap K k1 x w h1 W6 (by omega)).mono λ _ _ ⟨n1,n2,n3,n4,q1,q2,q3,q4⟩=>⟨n1,n2,n3,n4,q1,q2.mono (by omega),q3,q4⟩
 ·rw[if_neg h]
  obtain⟨K,hK⟩:∃ K:Nat,k = -(K:Int):=⟨(-k).toNat,by omega⟩
  subst hK;rw[show (- -(K:Int)).toNat=K by omega]
  exact (zLQ neg a n cap K k1 x w h1 W6 (by omega) (by omega)).mono λ _ _ ⟨n1,n2,n3,n4,q1,q2,q3,q4⟩=>⟨n1,n2,n3,n4,q1,q2.mono (by omega),q3,q4⟩
def Tp (d:Nat->Int) (j n:Nat):Int:=V (λ t=>d (j+t)) (n-j)
theorem V_shift (d:Nat->Int) (m:Nat):V d (m+1)=d 0+65536*V (λ t=>d (1+t)) m:=by
 have h:=zHU d 1 m;rw[Nat.add_comm 1 m] at h;rw[h];simp[V,P]
theorem zMP (d:Nat->Int) (n:Nat):Tp d n n=0:=by simp[Tp,V]
theorem zFW (d:Nat->Int) (n:Nat):Tp d 0 n=V d n:=by simp[Tp]
theorem zFV (d:Nat->Int) (j n:Nat) (h:j<n):Tp d j n=d j+65536*Tp d (j+1) n:=by
 unfold Tp;obtain⟨m,rfl⟩:∃ m,n=j+1+m:=⟨n-j-1,by omega⟩
 rw[show j+1+m-j=m+1 by omega,show j+1+m-(j+1)=m by omega,V_shift]
 have:(λ t=>d (j+(1+t)))=(λ t=>d (j+1+t)):=by funext t;congr 1;omega
 rw[this];simp
theorem zD4 {d:Nat->Int} (hd:Dgs d) (j n:Nat):0<=Tp d j n:=jA (λ t=>hd (j+t)) _
theorem Tp_lt {d:Nat->Int} (hd:Dgs d) (j n:Nat):Tp d j n<P (n-j):=zHT (λ t=>hd (j+t)) _
theorem P3:P 3=281474976710656:=rfl
theorem or64 (a b c:Int) (hb:0<=b) (b9:b<65536) (ha:a=65536*c) (oz:0<=c) (E4:c<281474976710656):bits .or .u64 a b=a+b:=by
 obtain⟨B,rfl⟩:=Int.eq_ofNat_of_zero_le hb;obtain⟨C,rfl⟩:=Int.eq_ofNat_of_zero_le oz;have h3:=zNV B (65536*C) C 16 (by omega) (by omega)
 have ha':a=((65536*C:Nat):Int):=by omega
 rw[ha',u64_or_nat (65536*C) B (by omega) (by omega),Nat.or_comm,h3]
 omega
theorem Tp_upd (o:Nat->Int) (i n:Nat) (v:Int):Tp (upd o i v) (i+1) n=Tp o (i+1) n:=by
 unfold Tp;exact zCH _ (λ j _=>by simp[upd];omega)
theorem zPM {d o:Nat->Int} {i n:Nat} (hi:i<n) {D L:Int} (hD:0<D) (hT:Tp d (i+1) n=Tp o (i+1) n*D+L) :
  Tp d i n=Tp (upd o i ((L*65536+d i)/D)) i n*D+(L*65536+d i) % D:=by
 rw[zFV d i n hi,zFV (upd o i _) i n hi,Tp_upd,hT];have h1:upd o i ((L*65536+d i)/D) i=(L*65536+d i)/D:=by simp[upd]
 rw[h1,Int.add_mul,Int.mul_assoc];have h2:=Int.mul_ediv_add_emod (L*65536+d i) D;rw[Int.mul_comm D] at h2;omega
theorem short_bd {x D L:Int} (hD:0<D) (hx:0<=x/\x<65536) (sV:0<=L) (Iq:L<D):0<=(L*65536+x)/D/\(L*65536+x)/D<65536/\0<=(L*65536+x) % D/\(L*65536+x) % D<D :=
 ⟨Int.ediv_nonneg (by omega) (by omega),Int.ediv_lt_of_lt_mul hD (by omega),Int.emod_nonneg _ (by omega),Int.emod_lt_of_pos _ hD⟩
theorem zK0 {d:Nat->Int} (hd:Dgs d) (n:Nat):0<kB d n ↔ V d n≠0:=by
 have h1:=zDE d n;have h2:=zCD d n;constructor
 ·intro h
  have h3:=V_ge hd (kB d n-1) (by omega)
  rw[show kB d n-1+1=kB d n by omega,h1] at h3
  have:=yI (kB d n-1);omega
 ·intro h
  rcases Nat.eq_zero_or_pos (kB d n) with h0|h0
  ·rw[h0] at h1;simp[V] at h1;omega
  ·exact h0
def rd (L:Int) (j:Nat):Int:=if j=0 then L % 65536 else if j=1 then L/65536 % 65536 else if j=2 then L/4294967296 % 65536 else 0
theorem rd_dgs (L:Int):Dgs (rd L):=by
 intro j;unfold rd;split
 ·omega
 ·split
  ·omega
  ·split<;>omega
theorem rd_V (L:Int) (h0:0<=L) (h1:L<281474976710656):V (rd L) 3=L:=by
 simp[V,rd,P];omega
theorem dig3 (w:World) (t:TypeId) (x y z:Int) (f:Nat->Int) (hf:Dgs f) (h0:f 0=x) (h1:f 1=y) (h2:f 2=z):Dig (w.alloc (.cells #[.int .u16 x,.int .u16 y,.int .u16 z] t)) (some ⟨w.heap.size,0,none⟩) 3 3 f :=
 ⟨λ _=>⟨w.heap.size,0,rfl,by simp,λ j hj=>by
  rw[World.cell?_alloc_at _ _ _ _ rfl,Nat.zero_add]
  match j,hj with
  | 0,_=>simp[h0]
  | 1,_=>simp[h1]
  | 2,_=>simp[h2]⟩,hf,by omega,by omega⟩
theorem zTP (a c:Option Addr) (n m cap m8:Nat) (d e:Nat->Int) (w:World) (ha:Dig w a n cap d) (hc:Dig w c m m8 e) (hn:n<=1000000000) (hm:m<=3) (O3:0<V e m) :
  Calls Tryz.prog 176 #[.slice a n cap,.slice c m m8] w λ r w' =>
   ∃ a1 n1 c1 o a2 n2 c2 rem,r=.returned (.tuple #[.slice a1 n1 c1,.slice a2 n2 c2])/\Dig w' a1 n1 c1 o/\n1<=n/\(0<n2 ↔ rem≠0)/\n2<=3/\V d n=V o n1*V e m+rem/\0<=rem/\rem<V e m/\Below w.heap.size w w':=by
 have aj:=run_make_row' (P:=Tryz.prog) 27 94 (.int .u16 0) 2 Tryz.underlying27 Tryz.infoU16 rfl .i64 .i64 n (by omega) (by omega)
 have hD:V e m<281474976710656:=by
  have h1:=zHT hc.dgs m;have h2:=zBT hm;rw[P3] at h2;omega
 have Hmk:=zC aj;clear aj
 go_enter Tryz.func176,Tryz.ntmps176
 go_wp2
 go_loop [6,7] (λ dd ii=>∃ j:Nat,j<=m/\ii=.int .i64 ((j:Int)-1)/\dd=.int .u64 (Tp e j m)) (λ _ ii=>(intOf ii+1).toNat)
 case atStart=>exact⟨m,Zb _,rfl,by rw[zMP]⟩
 case round =>
  obtain⟨j,hj,rfl,rfl⟩:=hrel
  by_cases Cm:j=0
  ·subst Cm
   rw[zFW];have aj:=zA Hmk;go_wp2;clear aj;obtain⟨D,Ik⟩:∃ D,D=V e m:=⟨_,rfl⟩;rw[<- Ik] at hD O3 ⊢;have D5:(D == 0)=false:=by simp;omega
   have NX:=zC Ik;clear Ik
   go_loopw [9,10] (λ ll ii wr=>∃ (j:Nat) (o:Nat->Int) (L:Int),j<=n/\ii=.int .i64 ((j:Int)-1)/\ll=.int .u64 L/\wr.rowIs w.heap.size 94 n (λ t=>.int .u16 (o t))/\Dgs o/\Tp d j n=Tp o j n*D+L/\0<=L/\L<D/\Below w.heap.size w wr) (λ _ ii _=>(intOf ii+1).toNat)
   case atStart =>
    refine⟨n,λ _=>0,0,Zb _,rfl,rfl,World.rowIs_made w (.int .u16 0) n 94,λ _=>⟨by simp,by simp⟩,?_,by omega,by omega,bl1 _ _⟩
    rw[zMP,zMP];simp
   case round =>
    obtain⟨j,o,L,hj,rfl,rfl,C8,J0,hT,sV,Iq,A7⟩:=hrel
    by_cases Cm:j=0
    ·subst Cm
     rw[zFW,zFW] at hT;have HT:=zC hT;have HR:=zC (zDD C8 J0 (by omega))
     clear hT C8 J0;go_wp2_with (go_at_call 117;refine (yH _ _ _ (rd L) _ (dig3 _ _ _ _ _ _ (rd_dgs L) (by simp[rd,yQ]) (by simp[rd,yQ]) (by simp[rd];omega))).mono ?_;rintro r w2 ⟨rfl,j7⟩)
     go_ret2
     refine⟨_,n,n,o,_,kB (rd L) 3,3,L,rfl,(zA HR).bw (zB (bl1 _ _) j7),Zb _,?_,zBC _ _,?_,sV,?_,zB (zL A7 _) j7⟩
     ·rw[zK0 (rd_dgs L),rd_V L sV (by omega)]
     ·rw[<- zA NX];exact zA HT
     ·rw[<- zA NX];exact Iq
    ·obtain⟨i,rfl⟩:∃ i,j=i+1:=⟨j-1,by omega⟩
     have e0:((i+1:Nat):Int)-1=(i:Int):=by omega
     rw[e0];obtain⟨b1,o1,rfl,b9,E4⟩:=ha.at_ (by omega)
     have g1:wr.cell? ⟨b1,o1+i,none⟩=some (.int .u16 (d i)):=(A7.cell (p:=⟨b1,o1+i,none⟩) b9).trans (E4 i (by omega))
     have db:=ha.dgs i;have r1:=C8.cell (show i<n by omega)
     have r2:=C8.frozen i;have fP:=or64 (L*65536) (d i) L db.1 db.2 (by omega) sV (by omega)
     have I9:(i:Int)<n:=by omega
     have HT:=zC hT;clear hT E4 e0;have zj:=zPM (o:=o) (show i<n by omega) O3 (zA HT)
     have sb:=short_bd O3 db sV Iq;have HS:=zC zj;clear zj;go_wp2
     go_roundw
     case rel =>
      exact⟨i,upd o i ((L*65536+d i)/D),(L*65536+d i) % D,by omega,by go_num,rfl,zB6 C8 i rfl,jP J0 _ sb.1 sb.2.1,zA HS,sb.2.2.1,sb.2.2.2,A7.setCell (Zb _) _⟩
     case measure=>simp[intOf];try omega
  ·obtain⟨i,rfl⟩:∃ i,j=i+1:=⟨j-1,by omega⟩
   have e0:((i+1:Nat):Int)-1=(i:Int):=by omega
   rw[e0];obtain⟨b2,o2,rfl,j7,G3⟩:=hc.at_ (by omega)
   have g2:w.cell? ⟨b2,o2+i,none⟩=some (.int .u16 (e i)):=G3 i (by omega)
   have eb:=hc.dgs i;have t0:=zD4 hc.dgs (i+1) m;have t1:=Tp_lt hc.dgs (i+1) m;have t2:=zBT (show m-(i+1)<=2 by omega)
   have EG:P 2=4294967296:=rfl;rw[EG] at t2;have ts:=zFV e i m (by omega)
   have H1:=zC (show bits .or .u64 (Tp e (i+1) m*65536) (e i)=Tp e i m by rw[or64 _ _ (Tp e (i+1) m) eb.1 eb.2 (by omega) t0 (by omega),ts];omega)
   have im:(i:Int)<m:=by omega
   clear ts G3 e0 EG;go_wp2
   go_round
   case rel=>exact⟨i,by omega,by go_num,by rw[<- zA H1];try rfl⟩
   case measure=>simp[intOf];try omega
def zHR (w:World) (d e:Nat->Int) (n m:Nat) (r:Ending) (w':World):Prop :=
 ∃ a1 n1 c1 o a2 n2 c2 rem,r=.returned (.tuple #[.slice a1 n1 c1,.slice a2 n2 c2])/\Dig w' a1 n1 c1 o/\n1<=n+3/\(0<n2 ↔ rem≠0)/\n2<=n+3/\V d n=V o n1*V e m+rem/\0<=rem/\rem<V e m/\Below w.heap.size w w'
theorem zPD (a c:Option Addr) (n m cap m8:Nat) (d e:Nat->Int) (w:World) (ha:Dig w a n cap d) (hc:Dig w c m m8 e) (hn:n<=1000000000) (h1:n=0\/d (n-1)≠0) (h2:m=0\/e (m-1)≠0) (O3:0<V e m)
  (hm:m<=3\/V d n<V e m) :
  Calls Tryz.prog 157 #[.slice a n cap,.slice c m m8] w (zHR w d e n m):=by
 have hcv:=zG8 ha.dgs hc.dgs n m h1 h2
 by_cases E2:V d n<V e m
 ·have K5:zFZ d e n m<0:=by rw[hcv];simp[zN,E2]
  clear hcv
  have HF:=zC (show 0<n ↔ V d n≠0 by
   have:=zK0 ha.dgs n;rwa [zPO h1] at this)
  go_enter Tryz.func157,Tryz.ntmps157
  go_wp2_with (go_at_call 53;refine (kJ _ _ _ _ _ _ d e _ ha hc).mono ?_;rintro r w0 ⟨rfl,E8⟩)
  go_ret2
  exact⟨none,0,0,λ _=>0,a,n,cap,V d n,rfl,⟨λ h=>by omega,λ _=>⟨by simp,by simp⟩,Zb _,by omega⟩,by omega,zA HF,by omega,by simp[V],jA ha.dgs n,E2,E8⟩
 ·have K5:¬ zFZ d e n m<0:=by rw[hcv];simp only[zN,E2,if_false];split<;>omega
  have iN:m<=3:=by omega
  have Yo:(m:Int)<=3:=by omega
  clear hcv
  go_enter Tryz.func157,Tryz.ntmps157
  go_wp2_with (first
   | (go_at_call 53;refine (kJ _ _ _ _ _ _ d e _ ha hc).mono ?_;rintro r w0 ⟨rfl,E8⟩)
   | (go_at_call 176;refine (zTP _ _ _ _ _ _ d e _ (ha.bw E8) (hc.bw E8) hn iN O3).mono ?_;rintro r w1 ⟨a1,n1,c1,o,a2,n2,c2,rem,rfl,p1,p2,p3,p4,p5,p6,p7,p8⟩))
  go_ret2
  exact⟨a1,n1,c1,o,a2,n2,c2,rem,rfl,p1,by omega,p3,by omega,p5,p6,p7,zB E8 p8⟩
def zBS (w:World) (n:Nat) (z:Int) (r:Ending) (w':World):Prop :=
 ∃ j9 a' n' m7,r=.returned (.agg #[.bool j9,.slice a' n' m7])/\IntAt w' j9 a' n' m7 (n+8) z/\Below w.heap.size w w'
theorem zOZ (neg : Bool) (a c : Option Addr) (n m cap cap2 : Nat) (d e : Nat → Int) (w : World) (ha : Dig w a n cap d) (hc : Dig w c m cap2 e) (hn : n ≤ 900000000) (hm : 0 < m)
    (hov : ∀ w', Dig w' a n cap d → Dig w' c m cap2 e → Calls Tryz.prog 157 #[.slice a n cap, .slice c m cap2] w' (zHR w' d e n m)) :
    Calls Tryz.prog 126 #[.agg #[.bool neg, .slice a n cap], .agg #[.bool false, .slice c m cap2]] w (zBS w n (sgn neg (V d n) / V e m)) := by
  have hsg : zL7 false m = 1 := by simp [zL7]; omega
  have le2 : w.heap.size ≤ w.heap.size + 1 + 1 := by omega
  have ne1 : w.heap.size ≠ w.heap.size + 1 + 1 := by omega
  have ne2 : w.heap.size + 1 + 1 ≠ w.heap.size := by omega
  cases neg
  · go_enter Tryz.func126, Tryz.ntmps126
    go_wp2_with (first
      | (go_at_call 73; refine (zI5 _ _ _ _ _ hc.room).mono ?_; rintro r w0 ⟨rfl, hb0⟩; obtain ⟨hsz0, kC0, hfz0⟩ := zZ (w.heap.size + 1 + 1 + 1) (by simp) hb0; rw [hsg])
      | (go_at_call 157; refine (hov _ (ha.bw (zB (bl3 _ _ _ _) hb0)) (hc.bw (zB (bl3 _ _ _ _) hb0))).mono ?_; rintro r w1 ⟨a1, n1, c1, o, a9, n9, c9, rem, rfl, p1, p2, p3, p4, p5, p6, p7, p8⟩; obtain ⟨hsz1, kC1, hfz1⟩ := zZ (w.heap.size + 1 + 1 + 1) hsz0 p8; skip)
      | (go_at_call 70; refine (zBM _ _ _ _ o _ p1).mono ?_; rintro r w2 ⟨neg', a2, n2, c2, rfl, hint, hb2⟩; obtain ⟨hsz2, kC2, hfz2⟩ := zZ (w.heap.size + 1 + 1 + 1) hsz1 hb2; have hz0 := Nat.lt_of_lt_of_le (Nat.lt_succ_of_lt (Nat.lt_succ_of_lt (Nat.lt_succ_self w.heap.size))) hsz2; have hz1 := Nat.lt_of_lt_of_le (Nat.lt_succ_self (w.heap.size + 1 + 1)) hsz2))
    have h0 : w2.cell? ⟨w.heap.size + 1 + 1, 0, none⟩ = some (.bool false) := by simp [kC2, kC1, kC0, go_sem]
    have h1' : w2.cell? ⟨w.heap.size + 1 + 1, 1, none⟩ = some (.slice none 0 0) := by simp [kC2, kC1, kC0, go_sem]
    refine bodyPost_ret (v := .agg #[.bool neg', .slice a2 n2 c2]) (by simp [results, Tryz.results126, go_sem, hz0, hz1, h0, h1']) rfl ⟨neg', a2, n2, c2, rfl, ?_, ?_⟩
    · rw [show sgn false (V o n1) = sgn false (V d n) / V e m by simp only [sgn]; exact (zBE (by omega) p5 p6 p7).symm] at hint
      exact ((hint.put2 h0 h1' _ _).bw (bl1 _ _)).mono (by omega)
    · exact zL (((zB (zB (zB (bl3 _ _ _ _) hb0) p8) hb2).setCell (p := ⟨w.heap.size + 1 + 1, 0, none⟩) le2 _).setCell (p := ⟨w.heap.size + 1 + 1, 1, none⟩) le2 _) _
  · go_enter Tryz.func126, Tryz.ntmps126
    go_wp2_with (first
      | (go_at_call 73; refine (zI5 _ _ _ _ _ hc.room).mono ?_; rintro r w0 ⟨rfl, hb0⟩; obtain ⟨hsz0, kC0, hfz0⟩ := zZ (w.heap.size + 1 + 1 + 1) (by simp) hb0; rw [hsg])
      | (go_at_call 157; refine (hov _ (ha.bw (zB (bl3 _ _ _ _) hb0)) (hc.bw (zB (bl3 _ _ _ _) hb0))).mono ?_; rintro r w1 ⟨a1, n1, c1, o, a9, n9, c9, rem, rfl, p1, p2, p3, p4, p5, p6, p7, p8⟩; obtain ⟨hsz1, kC1, hfz1⟩ := zZ (w.heap.size + 1 + 1 + 1) hsz0 p8; skip)
      | (go_at_call 70; refine (zBM _ _ _ _ o _ p1).mono ?_; rintro r w2 ⟨neg', a2, n2, c2, rfl, hint, hb2⟩; obtain ⟨hsz2, kC2, hfz2⟩ := zZ (w.heap.size + 1 + 1 + 1) hsz1 hb2; have hz0 := Nat.lt_of_lt_of_le (Nat.lt_succ_of_lt (Nat.lt_succ_of_lt (Nat.lt_succ_self w.heap.size))) hsz2; have hz1 := Nat.lt_of_lt_of_le (Nat.lt_succ_self (w.heap.size + 1 + 1)) hsz2))
    · have hr : rem ≠ 0 := by have h : (!decide (rem = 0)) = true := by assumption
                              simpa using h
      have h0 : w2.cell? ⟨w.heap.size + 1 + 1, 0, none⟩ = some (.bool false) := by simp [kC2, kC1, kC0, go_sem]
      have h1' : w2.cell? ⟨w.heap.size + 1 + 1, 1, none⟩ = some (.slice none 0 0) := by simp [kC2, kC1, kC0, go_sem]
      have h2' : ∀ o, w2.frozen? ⟨w.heap.size + 1 + 1, o, none⟩ = false := by intro o; simp [hfz2, hfz1, hfz0, go_sem]
      have HE := zC (show sgn true (V o n1) - 1 = sgn true (V d n) / V e m by simp only [sgn]; exact (zC1 (by omega) p5 (by omega) p7).symm)
      have nz : w2.heap.size ≠ w.heap.size + 1 + 1 := by omega
      have nz' : w.heap.size + 1 + 1 ≠ w2.heap.size := by omega
      have y1 := Nat.le_succ_of_le hz1
      go_region_held3 (fun w' => w'.cell? ⟨w2.heap.size, 0, none⟩ = some (.bool neg') ∧ w'.cell? ⟨w2.heap.size, 1, none⟩ = some (.slice a2 n2 c2)) (go_keep)
        (first
          | (go_at_call 33; refine (zD 1 _ (by decide) (by decide)).mono ?_; rintro r w3 ⟨neg3, a3, n3, c3, rfl, hZ3, hb3⟩; obtain ⟨hsz3, kC3, hfz3⟩ := zZ (w2.heap.size + 1) (by simp) hb3)
          | (go_at_call 35; refine (zCR _ _ _ _ _ _ _ _ n1 4 _ _ _ (hint.bw (zB (bl1 _ _).drew hb3)) hZ3 (by omega) (by omega)).mono ?_; rintro r w4 ⟨neg4, a4, n4, c4, rfl, hZ4, hb4⟩; obtain ⟨hsz4, kC4, hfz4⟩ := zZ (w2.heap.size + 1) hsz3 hb4))
      go_wp2
      have h0 : w4.cell? ⟨w.heap.size + 1 + 1, 0, none⟩ = some (.bool false) := by rw [kC4 _ _ y1, kC3 _ _ y1]; exact (World.cell?_alloc_past _ _ _ hz1).trans h0
      have h1' : w4.cell? ⟨w.heap.size + 1 + 1, 1, none⟩ = some (.slice none 0 0) := by rw [kC4 _ _ y1, kC3 _ _ y1]; exact (World.cell?_alloc_past _ _ _ hz1).trans h1'
      refine bodyPost_ret (v := .agg #[.bool neg4, .slice a4 n4 c4]) (by simp [results, Tryz.results126, go_sem, h0, h1']) rfl ⟨neg4, a4, n4, c4, rfl, ?_, ?_⟩
      · rw [zA HE] at hZ4
        exact (hZ4.put2 h0 h1' _ _).mono (by omega)
      · exact ((zB (zB (zL (zB (zB (zB (bl3 _ _ _ _) hb0) p8) hb2) _).drew hb3) hb4).setCell (p := ⟨w.heap.size + 1 + 1, 0, none⟩) le2 _).setCell (p := ⟨w.heap.size + 1 + 1, 1, none⟩) le2 _
    · have hr : rem = 0 := by have h : (!decide (rem = 0)) = false := by assumption
                              simpa using h
      have h0 : w2.cell? ⟨w.heap.size + 1 + 1, 0, none⟩ = some (.bool false) := by simp [kC2, kC1, kC0, go_sem]
      have h1' : w2.cell? ⟨w.heap.size + 1 + 1, 1, none⟩ = some (.slice none 0 0) := by simp [kC2, kC1, kC0, go_sem]
      refine bodyPost_ret (v := .agg #[.bool neg', .slice a2 n2 c2]) (by simp [results, Tryz.results126, go_sem, hz0, hz1, h0, h1']) rfl ⟨neg', a2, n2, c2, rfl, ?_, ?_⟩
      · rw [show sgn true (V o n1) = sgn true (V d n) / V e m by simp only [sgn]; exact (zEV (by omega) (by rw [p5, hr]; omega)).symm] at hint
        exact ((hint.put2 h0 h1' _ _).bw (bl1 _ _)).mono (by omega)
      · exact zL (((zB (zB (zB (bl3 _ _ _ _) hb0) p8) hb2).setCell (p := ⟨w.heap.size + 1 + 1, 0, none⟩) le2 _).setCell (p := ⟨w.heap.size + 1 + 1, 1, none⟩) le2 _) _
theorem zRR {w:World} {neg:Bool} {a:Option Addr} {n cap k:Nat} {y:Int} (h:IntAt w neg a n cap k y) (hy:0<y):∃ e,neg=false/\0<n/\Dig w a n cap e/\(n=0\/e (n-1)≠0)/\n<=k/\y=V e n:=by
 obtain⟨e,h1,h2,h3,h4,h5⟩:=h;have hv:=jA h1.dgs n
 cases neg
 ·have hn:0<n:=by
   rcases Nat.eq_zero_or_pos n with h0|h0
   ·subst h0;simp[sgn,V] at h5;omega
   ·exact h0
  exact⟨e,rfl,hn,h1,h2,h4,by simpa [sgn] using h5⟩
 ·simp[sgn] at h5;omega
theorem zHC {e:Nat->Int} (he:Dgs e) {m k:Nat} (h2:m=0\/e (m-1)≠0) (h:V e m<P k):m<=k:=by
 rcases Nat.lt_or_ge k m with hk|hk
 ·have h3:=V_ge he (m-1) (by omega)
  rw[show m-1+1=m by omega] at h3
  have:=zBT (show k<=m-1 by omega);omega
 ·exact hk
structure Sp where
 ln:Bool
 la:Option Addr
 lN:Nat
 lc:Nat
 hn:Bool
 ha:Option Addr
 hN:Nat
 hc:Nat
 bits:Int
structure SpDig (w:World) (s:Sp) (d e:Nat->Int):Prop where
 lo:Dig w s.la s.lN s.lc d
 hi:Dig w s.ha s.hN s.hc e
theorem SpDig.bw {w w':World} {s:Sp} {d e:Nat->Int} (h:SpDig w s d e) (hb:Below w.heap.size w w'):SpDig w' s d e:=⟨h.lo.bw hb,h.hi.bw hb⟩
end Go.Proofs.YtgmnknmjainabacGreat
