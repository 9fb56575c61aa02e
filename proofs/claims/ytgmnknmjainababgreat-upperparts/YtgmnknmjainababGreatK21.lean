/-
  Its own texts.
-/
import Derived.Test.YtgmnknmjainababGreatK20
set_option maxRecDepth 100000
set_option maxHeartbeats 8000000
set_option linter.unnecessarySimpa false
set_option linter.unusedSimpArgs false
set_option linter.unusedVariables false
namespace Go.Proofs.YtgmnknmjainababGreat
open Ex
theorem Lns_ex:∃ L,Lns L:=by
 have each:∀ x:Rat,∃ l:Nat→Rat,0<x→IsLog l (fun _=>x):=fun x=>by
  by_cases h:0<x
  ·have hn:0<x.num:=by have:=(Rat.lt_iff (0:Rat) x).1 h;simpa using this
   have hd:(0:Int)<(x.den:Int):=by exact_mod_cast x.den_pos
   obtain ⟨l,hl⟩:=log_ex hn hd;have e:(x.num:Rat)/((x.den:Int):Rat)=x:=(Rat.divInt_eq_div _ _).symm.trans (Rat.num_divInt_den x);rw[e] at hl;exact ⟨l,fun _=>hl⟩
  ·exact ⟨fun _=>0,fun h'=>absurd h' h⟩
 obtain ⟨L,hL⟩:=Classical.skolem.1 each;exact ⟨L,fun x hx=>hL x hx⟩
def gA (n d:Int):Rat:=((n-(stN n d:Int)*d:Int):Rat)/(d:Rat)
structure zIP (L G:Rat→Nat→Rat) (X:Int→Int→Nat→Rat):Prop where
 lns:Lns L
 gam:∀ a,0<a→a≤1→Gam1 L a (G a)
 lg:∀ n d,StIn n d→IsLog (X n d) (gmV n d (G (gA n d)))
theorem zH3 {n d:Int} (h:StIn n d):0<gA n d∧gA n d≤1:=by
 obtain ⟨r1,r2,r3⟩:=h.rest;have d0:(0:Rat)<(d:Rat):=by exact_mod_cast h.d0
 have a0:(0:Rat)<((n-(stN n d:Int)*d:Int):Rat):=by exact_mod_cast r1
 exact ⟨zL a0 d0,jS d0 (by have:=zW r2;grind)⟩
theorem gmV_log {L:Rat→Nat→Rat} (hL:Lns L) {n d:Int} (h:StIn n d) {g:Nat→Rat} (hg:Gam1 L (gA n d) g):∃ x,IsLog x (gmV n d g):=by
 have ig:=hg.isGam hL (zH3 h).1;have p0:(0:Rat)<(stP n d (stN n d):Rat):=by exact_mod_cast zNI h (Nat.le_refl _)
 have q0:(0:Rat)<(stQ d (stN n d):Rat):=by exact_mod_cast zIU h.d0 _
 have r0:=zL p0 q0;refine zN5 hL ((Bdd.const _).mul ig.bdd) ?_;obtain ⟨c,c0,N,hc⟩:=ig.pos;exact ⟨_,Rat.mul_pos r0 c0,N,fun M hM=>Rat.mul_le_mul_of_nonneg_left (hc M hM) (Rat.le_of_lt r0)⟩
theorem zPO:∃ L G X,zIP L G X:=by
 obtain ⟨L,hL⟩:=Lns_ex
 have e1:∀ a:Rat,∃ g:Nat→Rat,0<a→a≤1→Gam1 L a g:=fun a=>by
  by_cases h:0<a∧a≤1
  ·obtain ⟨g,hg⟩:=gam1_ex hL h.1 h.2
   exact ⟨g,fun _ _=>hg⟩
  ·exact ⟨fun _=>0,fun h1 h2=>absurd ⟨h1,h2⟩ h⟩
 obtain ⟨G,hG⟩:=Classical.skolem.1 e1
 have e2:∀ z:Int × Int,∃ x:Nat→Rat,StIn z.1 z.2→IsLog x (gmV z.1 z.2 (G (gA z.1 z.2))):=fun z=>by
  by_cases h:StIn z.1 z.2
  ·obtain ⟨x,hx⟩:=gmV_log hL h (hG _ (zH3 h).1 (zH3 h).2)
   exact ⟨x,fun _=>hx⟩
  ·exact ⟨fun _=>0,fun h'=>absurd h' h⟩
 obtain ⟨X,hX⟩:=Classical.skolem.1 e2;exact ⟨L,G,fun n d=>X (n,d),hL,hG,fun n d h=>hX (n,d) h⟩
theorem Q_fit {b m k:Nat} (h:b+k≤3200):Q (b+m+k)≤P 200*Q m:=by
 rw[← Q_P,← jC];exact zJ (by omega)
structure SuV (x:Nat→Rat) (b:Nat) (L H:Int):Prop where
 le:L≤H
 nar:zID L H (Q b) 4=true
 val:Iv b (L,H) x
theorem sure_su {x:Nat→Rat} {b:Nat} {Pr:Nat→Int→Int→Prop} {L H:Int} (h:zMX b Pr L H) (hp:∀ B lo hi,Pr B lo hi→lo≤hi∧Iv B (lo,hi) x):SuV x b L H:=by
 obtain ⟨m,lo,hi,pr,hm,e1,e2,h6⟩:=h;obtain ⟨g1,iv⟩:=hp _ _ _ pr;obtain ⟨n1,n2⟩:=sure_nar g1 e1 e2 h6;refine ⟨n1,n2,?_⟩;have:=Iv.to (B:=b) (m:=m) iv;rw[e1,e2];exact this
open Go.RowKit
attribute [local go_sem ↓] Go.wp_at_zero Go.wp_at_succ
def zOB (lo hi:Int) (i:Nat) (lo' hi':Int) (j:Nat):Bool:=decide (lo*Q i≤hi'*Q j) && decide (lo'*Q j≤hi*Q i)
theorem zCK (x:Int) (a b:Int) (i:Nat) (h:b-a=(i:Int)):zAU x (a-b)=x*Q i:=by
 unfold zAU
 by_cases h0:i=0
 ·subst h0
  have e:a-b=0:=by omega
  rw[e];simp[Q]
 ·rw[if_neg (by omega)];congr 2;omega
theorem zB0 (x:Int) (a b:Int) (i:Nat) (h:b-a=(i:Int)) : -(zAU (-x) (a-b))=x*Q i:=by
 rw[zCK _ a b i h,Int.neg_mul,Int.neg_neg]
theorem zKP (w:World) (s t:Sp) (k i j:Nat) (lo hi lo' hi':Int) (hs:SpAt w s k lo hi) (ht:SpAt w t k lo' hi') (hk:k≤300000000) (s0:0≤s.bits) (s1:s.bits≤1000000) (t0:0≤t.bits) (t1:t.bits≤1000000) (hc:s.bits<t.bits) (hi1:t.bits-s.bits=(i:Int)) (hj1:t.bits-t.bits=(j:Int)) :
  Calls Tryz.prog 50 #[.agg #[.bool s.ln,.slice s.la s.lN s.lc,.bool s.hn,.slice s.ha s.hN s.hc,.int .i64 s.bits],.agg #[.bool t.ln,.slice t.la t.lN t.lc,.bool t.hn,.slice t.ha t.hN t.hc,.int .i64 t.bits]] w fun r w'=>r=.returned (.bool (zOB lo hi i lo' hi' j))∧Below w.heap.size w w':=by
 obtain ⟨W,hW⟩:∃ W,W=(w.alloc (.cells #[.bool s.ln,.slice s.la s.lN s.lc,.bool s.hn,.slice s.ha s.hN s.hc,.int .i64 s.bits] 36)).alloc (.cells #[.bool t.ln,.slice t.la t.lN t.lc,.bool t.hn,.slice t.ha t.hN t.hc,.int .i64 t.bits] 36):=⟨_,rfl⟩;have hBW:Below w.heap.size w W:=by rw[hW];exact bl2 _ _ _
 have A:SpC W w.heap.size s:=by rw[hW];constructor <;> simp[go_sem]
 have G:SpC W (w.heap.size+1) t:=by rw[hW];constructor <;> simp[go_sem]
 have FA:∀ o,W.frozen? ⟨w.heap.size,o,none⟩=false:=by intro o;rw[hW];simp[go_sem]
 have FG:∀ o,W.frozen? ⟨w.heap.size+1,o,none⟩=false:=by intro o;rw[hW];simp[go_sem]
 have a1:=zC (zCK lo s.bits (t.bits) i hi1);have a2:=zC (zB0 hi s.bits (t.bits) i hi1);have a3:=zC (zCK lo' t.bits (t.bits) j hj1);have a4:=zC (zB0 hi' t.bits (t.bits) j hj1);have HS:=zC (hs.bw hBW);have HT:=zC (ht.bw hBW);have HA:=zC A;have HG:=zC G;have lA:=A.lt;have lG:=G.lt;have nAG:w.heap.size≠w.heap.size+1:=by omega
 clear hi1 hj1 hs ht
 go_enter Tryz.func50,Tryz.ntmps50
 go_wp2_with fail;rw[← hW];clear hW;obtain ⟨x0,x1,x2,x3,x4⟩:=A;obtain ⟨y0,y1,y2,y3,y4⟩:=G
 try go_wp2_with fail
 go_cut [] (fun wx=>∃ s2 t2:Sp,SpC wx w.heap.size s2∧SpC wx (w.heap.size+1) t2∧SpAt wx s2 (k+62505) (lo*Q i) (hi*Q i)∧SpAt wx t2 (k+62505) (lo'*Q j) (hi'*Q j)∧Below w.heap.size w wx)
 case first =>
  go_region_with
   (first
    | (go_at_call 90;have hq:=hB1;refine (kY _ t k (t.bits) lo' hi' ((zA HT).bw hB1) hk t0 t1 (by omega) (by omega)).mono ?_;rintro r w2 ⟨u2,rfl,hub2,hup2,hb2⟩;rw[zA a3,zA a4] at hup2;clear hub2;have hB2:=zB hB1 hb2;replace hup1:=hup1.bw hb2;have l2A:=Nat.lt_of_lt_of_le lA hB2.size;have l2G:=Nat.lt_of_lt_of_le lG hB2.size;obtain ⟨a0,a1,a2,a3,a4⟩:=(zA HA).bw hB2;obtain ⟨g0,g1,g2,g3,g4⟩:=(zA HG).bw hB2;have fA2:∀ o,w2.frozen? ⟨w.heap.size,o,none⟩=false:=(fun o=>(hB2.frozen (p:=⟨w.heap.size,o,none⟩) lA).trans (FA o));have fG2:∀ o,w2.frozen? ⟨w.heap.size+1,o,none⟩=false:=(fun o=>(hB2.frozen (p:=⟨w.heap.size+1,o,none⟩) lG).trans (FG o)))
    | (go_at_call 90;refine (kY _ s k (t.bits) lo hi ((zA HS).bw (by repeat' (first|with_reducible exact Below.refl _ _|with_reducible refine Below.drew ?_))) hk s0 s1 (by omega) (by omega)).mono ?_;rintro r w1 ⟨u1,rfl,hub1,hup1,hb1⟩;rw[zA a1,zA a2] at hup1;clear hub1;have hB1:Below W.heap.size W w1:=zB (by repeat' (first|with_reducible exact Below.refl _ _|with_reducible refine Below.drew ?_)) hb1;obtain ⟨b0,b1,b2,b3,b4⟩:=(zA HA).bw hB1;obtain ⟨d0,d1,d2,d3,d4⟩:=(zA HG).bw hB1;have l1A:=Nat.lt_of_lt_of_le lA hB1.size;have l1G:=Nat.lt_of_lt_of_le lG hB1.size))
  all_goals
   go_wp2_with fail;go_meet;have A2:SpC w2 w.heap.size s:=⟨a0,a1,a2,a3,a4⟩;have G2:SpC w2 (w.heap.size+1) t:=⟨g0,g1,g2,g3,g4⟩;obtain ⟨p1,p2,p3,p4⟩:=two_sp A2 G2 nAG u1 u2;exact ⟨u1,u2,p1,p2,p3 hup1,p3 hup2,jV (jV (zB hBW hB2) (Nat.le_refl _) _ _ _ _ _) (Nat.le_succ _) _ _ _ _ _⟩
 case rest =>
 obtain ⟨s2,t2,A,G,hs,ht,hBW⟩:=hcut;clear HA HG HS HT lA lG x0 x1 x2 x3 x4 y0 y1 y2 y3 y4 FA FG;have lA:=A.lt;have lG:=G.lt
 by_cases hq:lo*Q i≤hi'*Q j
 ·have c1:zF (lo*Q i) (hi'*Q j)≤0:=by unfold zF;split;omega;rw[if_neg (by omega)];omega
  have HE:=zC (show decide (zF (lo'*Q j) (hi*Q i)≤0)=zOB lo hi i lo' hi' j by rw[zJ2];unfold zOB;rw[decide_eq_true hq,Bool.true_and])
  obtain ⟨x0,x1,x2,x3,x4⟩:=A;obtain ⟨y0,y1,y2,y3,y4⟩:=G;clear hq;go_wp2_with fail;refine (zS _ _ _ _ _ _ _ _ (k+62505) (k+62505) (lo*Q i) (hi'*Q j) _ hs.lo ht.hi).mono ?_;rintro r w1 ⟨rfl,hb1⟩;have A:=(SpC.mk x0 x1 x2 x3 x4).bw hb1;have G:=(SpC.mk y0 y1 y2 y3 y4).bw hb1;replace hs:=hs.bw hb1;replace ht:=ht.bw hb1;replace hBW:=zB hBW hb1;clear x0 x1 x2 x3 x4 y0 y1 y2 y3 y4 hb1;obtain ⟨x0,x1,x2,x3,x4⟩:=A;obtain ⟨y0,y1,y2,y3,y4⟩:=G;go_wp2_with fail;refine (zS _ _ _ _ _ _ _ _ (k+62505) (k+62505) (lo'*Q j) (hi*Q i) _ ht.lo hs.hi).mono ?_;rintro r w2 ⟨rfl,hb2⟩;replace hBW:=zB hBW hb2;go_wp2_with fail
  go_ret
  exact ⟨by rw[← zA HE];rfl,hBW⟩
 ·have c1:¬ zF (lo*Q i) (hi'*Q j)≤0:=by unfold zF;rw[if_neg (by omega),if_pos (by omega)];omega
  have HE:=zC (show zOB lo hi i lo' hi' j=false by unfold zOB;rw[decide_eq_false hq,Bool.false_and])
  obtain ⟨x0,x1,x2,x3,x4⟩:=A;obtain ⟨y0,y1,y2,y3,y4⟩:=G;clear hq;go_wp2_with fail;refine (zS _ _ _ _ _ _ _ _ (k+62505) (k+62505) (lo*Q i) (hi'*Q j) _ hs.lo ht.hi).mono ?_;rintro r w1 ⟨rfl,hb1⟩;replace hBW:=zB hBW hb1;go_wp2_with fail
  go_ret
  exact ⟨by rw[zA HE];rfl,hBW⟩
theorem zGR (B:Nat) (z:Int):Iv B (z,z) (fun _=>(z:Rat)/(Q B:Rat)):=Ex.Has.const Rat.le_refl Rat.le_refl
theorem rats2 (w:World) (p q kn kd:Int) (T:TypeId):Rats (w.alloc (.cells #[.int .i64 p,.int .i64 q,.int .i64 kn,.int .i64 kd] T)) w.heap.size 2 (fun j=>if j=0 then p else kn) (fun j=>if j=0 then q else kd):=by
 refine ⟨by simp,?_,?_⟩
 all_goals
  intro j hj
  match j,hj with
  | 0,_=>simp
  | 1,_=>simp
def zJJ (p q kn kd b:Int):Int:=if (rok p q∧rok kn kd)∧8≤b∧b≤120 then 0 else 3
theorem rat2_of {bt p q kn kd z:Int} (h:RFlt bt (fun j=>if j=0 then p else kn) (fun j=>if j=0 then q else kd) 2 z):z=zJJ p q kn kd bt:=by
 unfold zJJ
 rcases h with ⟨rfl,h4,h5⟩|⟨rfl,h4⟩
 ·rw[if_pos ⟨⟨h5 0 (by omega),h5 1 (by omega)⟩,h4⟩]
 ·have h8:¬ ((rok p q∧rok kn kd)∧8≤bt∧bt≤120):=fun ⟨⟨h5,h6⟩,h7⟩=>h4 ⟨h7,fun j hj=>by
   match j,hj with
   | 0,_=>exact h5
   | 1,_=>exact h6⟩
  rw[if_neg h8]
theorem rats1' (w:World) (B:Nat) (hB:w.heap.size=B) (p q:Int) (T:TypeId):Rats (w.alloc (.cells #[.int .i64 p,.int .i64 q] T)) B 1 (fun _=>p) (fun _=>q):=by subst hB;exact rats1 w p q T
theorem rats2' (w:World) (B:Nat) (hB:w.heap.size=B) (p q kn kd:Int) (T:TypeId):Rats (w.alloc (.cells #[.int .i64 p,.int .i64 q,.int .i64 kn,.int .i64 kd] T)) B 2 (fun j=>if j=0 then p else kn) (fun j=>if j=0 then q else kd):=by subst hB;exact rats2 w p q kn kd T
theorem zHO (bt : Int) (b n cap : Nat) (p q : Nat → Int) (w : World) (h : Rats w b n p q) (hn : n ≤ 1000) :
    Calls Tryz.prog 10 #[.int .i64 bt, .slice (some ⟨b, 0, none⟩) n cap] w fun r w' => ∃ z, r = .returned (.int .i64 z) ∧ RFlt bt p q n z ∧ Below w.heap.size w w' := by
  have hblt := h.lt
  have HH := zC h
  clear h
  go_enter Tryz.func10, Tryz.ntmps10
  go_wp2
  go_loopw [5] (fun ii wr => ∃ i : Nat, i ≤ n ∧ ii = .int .i64 i ∧ (∀ j, j < i → rok (p j) (q j)) ∧ Below w.heap.size w wr) (fun ii _ => n - (intOf ii).toNat)
  case atStart => exact ⟨0, by omega, rfl, fun j hj => by omega, Below.refl _ _⟩
  case round =>
    obtain ⟨i, hi, rfl, hz, hB⟩ := hrel
    by_cases hin : i < n
    · have H2 := (zA HH).bw hB
      have g0 := H2.c0 i hin
      have g1 := H2.c1 i hin
      have hi1 : (i : Int) < (n : Int) := by omega
      have HZ := zC hz
      clear hz H2
      by_cases hc : rok (p i) (q i)
      · have hc' : decide (rok (p i) (q i)) = true := by simpa using hc
        have HC := zC hc
        clear hc
        go_wp2_with (go_at_call 44; refine (zDB _ _ _).mono ?_; rintro r w1 ⟨rfl, hb1⟩; rw [hc'])
        go_roundw
        case rel => exact ⟨i + 1, by omega, by go_num, fun j hj => by
                            by_cases hji : j = i
                            · subst hji; exact zA HC
                            · exact zA HZ j (by omega), zB hB hb1⟩
        case measure => simp [intOf]; omega
      · have hc' : decide (rok (p i) (q i)) = false := by simpa using hc
        have HC := zC hc
        clear hc
        go_wp2_with (go_at_call 44; refine (zDB _ _ _).mono ?_; rintro r w1 ⟨rfl, hb1⟩; rw [hc'])
        go_ret
        exact ⟨3, rfl, Or.inr ⟨rfl, fun ⟨_, h2⟩ => zA HC (h2 i hin)⟩, zB hB hb1⟩
    · have hiE : i = n := by omega
      subst hiE
      have HZ := zC hz
      clear hz hin hi
      by_cases hc : 8 ≤ bt ∧ bt ≤ 120
      · have hc' : zO3 bt = true := by unfold zO3; simpa using hc
        go_wp2_with (go_at_call 37; refine (zD7 _ _).mono ?_; rintro r w1 ⟨rfl, rfl⟩; rw [hc'])
        go_ret
        exact ⟨0, rfl, Or.inl ⟨rfl, hc, zA HZ⟩, hB⟩
      · have hc' : zO3 bt = false := by unfold zO3; simpa using hc
        have HC := zC hc
        clear hc
        go_wp2_with (go_at_call 37; refine (zD7 _ _).mono ?_; rintro r w1 ⟨rfl, rfl⟩; rw [hc'])
        go_ret
        exact ⟨3, rfl, Or.inr ⟨rfl, fun ⟨h1, _⟩ => zA HC h1⟩, hB⟩
theorem zE0 (w:World) (s t:Sp) (k:Nat) (er bt:Int) (hs:SpAt w s k 0 0) (hb:s.bits=0) (her:er≠0) :
  Calls Tryz.prog 12 #[.agg #[.bool s.ln,.slice s.la s.lN s.lc,.bool s.hn,.slice s.ha s.hN s.hc,.int .i64 s.bits],.int .i64 er,.int .i64 er,.int .i64 bt,.agg #[.bool t.ln,.slice t.la t.lN t.lc,.bool t.hn,.slice t.ha t.hN t.hc,.int .i64 t.bits]] w fun r w'=>r=.returned (.bool true)∧Below w.heap.size w w':=by
 have he':(er != 0)=true:=by simpa using her
 have HZ3:=zC hb;clear hb
 go_enter Tryz.func12,Tryz.ntmps12
 go_wp2_with fail;refine (zO0 _ s ⟨false,none,0,0,false,none,0,0,0⟩ k 0 0 (hs.bw (bl2 _ _ _)) (zeroSp _ _) (zA HZ3)).mono ?_;rintro r w1 ⟨rfl,hb1⟩;go_wp2_with fail
 go_ret
 exact ⟨rfl,zB (bl2 _ _ _) hb1⟩
theorem yD (w:World) (s:Sp) (b:Nat) (lo hi:Int) (h:SpAt w s 250 lo hi) (hb:s.bits=b) (hb1:b≤120) (hle:lo≤hi) (hN:zID lo hi (Q b) 4=true) :
  Calls Tryz.prog 47 #[.agg #[.bool s.ln,.slice s.la s.lN s.lc,.bool s.hn,.slice s.ha s.hN s.hc,.int .i64 s.bits],.int .i64 4] w fun r w'=>r=.returned (.bool true)∧Below w.heap.size w w' :=
 (zHN w s b 4 lo hi h hb hb1 (by omega) hle).mono fun r w' ⟨h1,h2⟩=>⟨by rw[h1];congr 2,h2⟩
theorem zPB (w:World) (s t:Sp) (b i k:Nat) (lo hi lo' hi':Int) (hs:SpAt w s 250 lo hi) (ht:SpAt w t k lo' hi') (hk0:250≤k) (hk:k≤300000000) (hb:s.bits=b) (hbm:b≤120) (hle:lo≤hi) (hi0:1≤i) (hi1:i≤1000) (htb:t.bits=((b+i:Nat):Int)) (hN:zID lo hi (Q b) 4=true) (hT:zOB lo hi i lo' hi' 0=true) (hc:zF lo hi = -1) :
  Calls Tryz.prog 12 #[.agg #[.bool s.ln,.slice s.la s.lN s.lc,.bool s.hn,.slice s.ha s.hN s.hc,.int .i64 s.bits],.int .i64 0,.int .i64 0,.int .i64 s.bits,.agg #[.bool t.ln,.slice t.la t.lN t.lc,.bool t.hn,.slice t.ha t.hN t.hc,.int .i64 t.bits]] w fun r w'=>r=.returned (.bool true)∧Below w.heap.size w w':=by
 obtain ⟨W,hW⟩:∃ W,W=(w.alloc (.cells #[.bool s.ln,.slice s.la s.lN s.lc,.bool s.hn,.slice s.ha s.hN s.hc,.int .i64 s.bits] 28)).alloc (.cells #[.bool t.ln,.slice t.la t.lN t.lc,.bool t.hn,.slice t.ha t.hN t.hc,.int .i64 t.bits] 36):=⟨_,rfl⟩;have hBW:Below w.heap.size w W:=by rw[hW];exact bl2 _ _ _
 have A:SpC W w.heap.size s:=by rw[hW];constructor <;> simp[go_sem]
 have C:SpC W (w.heap.size+1) t:=by rw[hW];constructor <;> simp[go_sem]
 have HS:=zC (hs.bw hBW);have HT:=zC (ht.bw hBW);have HSB:=zC hb;have HTB:=zC htb;have HN:=zC hN;have HTO:=zC hT;have HC:=zC hc;have HLE:=zC hle;have HK:=zC (show ∀ w',Below W.heap.size W w'→(w'.cell? ⟨w.heap.size,0,none⟩=some (.bool s.ln)∧w'.cell? ⟨w.heap.size,1,none⟩=some (.slice s.la s.lN s.lc)∧w'.cell? ⟨w.heap.size,2,none⟩=some (.bool s.hn)∧w'.cell? ⟨w.heap.size,3,none⟩=some (.slice s.ha s.hN s.hc)∧w'.cell? ⟨w.heap.size,4,none⟩=some (.int .i64 s.bits)∧w'.cell? ⟨w.heap.size+1,0,none⟩=some (.bool t.ln)∧w'.cell? ⟨w.heap.size+1,1,none⟩=some (.slice t.la t.lN t.lc)∧w'.cell? ⟨w.heap.size+1,2,none⟩=some (.bool t.hn)∧w'.cell? ⟨w.heap.size+1,3,none⟩=some (.slice t.ha t.hN t.hc)∧w'.cell? ⟨w.heap.size+1,4,none⟩=some (.int .i64 t.bits)) from fun w' hB=>⟨(A.bw hB).c0,(A.bw hB).c1,(A.bw hB).c2,(A.bw hB).c3,(A.bw hB).c4,(C.bw hB).c0,(C.bw hB).c1,(C.bw hB).c2,(C.bw hB).c3,(C.bw hB).c4⟩)
 clear A C hs ht hb htb hN hT hc hle
 go_enter Tryz.func12,Tryz.ntmps12
 go_wp2;rw[← hW];clear hW;obtain ⟨x0,x1,x2,x3,x4,y0,y1,y2,y3,y4⟩:=zA HK _ (Below.refl _ _);have hD0:Below W.heap.size W W.drew:=(Below.refl _ _).drew
 go_region_held3 (fun w'=>w'.cell? ⟨w.heap.size,0,none⟩=some (.bool s.ln)∧w'.cell? ⟨w.heap.size,1,none⟩=some (.slice s.la s.lN s.lc)∧w'.cell? ⟨w.heap.size,2,none⟩=some (.bool s.hn)∧w'.cell? ⟨w.heap.size,3,none⟩=some (.slice s.ha s.hN s.hc)∧w'.cell? ⟨w.heap.size,4,none⟩=some (.int .i64 s.bits)∧w'.cell? ⟨w.heap.size+1,0,none⟩=some (.bool t.ln)∧w'.cell? ⟨w.heap.size+1,1,none⟩=some (.slice t.la t.lN t.lc)∧w'.cell? ⟨w.heap.size+1,2,none⟩=some (.bool t.hn)∧w'.cell? ⟨w.heap.size+1,3,none⟩=some (.slice t.ha t.hN t.hc)∧w'.cell? ⟨w.heap.size+1,4,none⟩=some (.int .i64 t.bits)) (first|exact zA HK _ (by with_reducible first|exact hD0|exact hD6|exact hD5|exact hD4|exact hD3|exact hD2|exact hD1)|go_keep)
  (first
   | (go_at_call 50;have hq:=hD5;refine (zKP _ s t k i 0 lo hi lo' hi' (((zA HS).bw hD5).mono hk0) ((zA HT).bw hD5) hk (by have:=zA HSB;omega) (by have:=zA HSB;omega) (by have:=zA HTB;omega) (by have:=zA HTB;omega) (by have:=zA HSB;have:=zA HTB;omega) (by have:=zA HSB;have:=zA HTB;omega) (by have:=zA HTB;omega)).mono ?_;rintro r' w6 ⟨rfl,hb6⟩;rw[zA HTO];have hD6:=zB hD5 hb6)
   | (go_at_call 51;have hq:=hD4;refine (zHE _ s).mono ?_;rintro r' w5 ⟨rfl,hb5⟩;have hD5:=zB hD4 hb5)
   | (go_at_call 47;have hq:=hD3;refine (yD _ s b lo hi ((zA HS).bw hD3) (zA HSB) hbm (zA HLE) (zA HN)).mono ?_;rintro r' w4 ⟨rfl,hb4⟩;have hD4:=zB hD3 hb4)
   | (go_at_call 46;have hq:=hD2;refine (zS _ _ _ _ _ _ _ _ _ _ lo hi _ ((zA HS).lo.bw hD2) ((zA HS).hi.bw hD2)).mono ?_;rintro r' w3 ⟨rfl,hb3⟩;rw[zA HC];have hD3:=zB hD2 hb3)
   | (go_at_call 49;have hq:=hD1;refine (yY _ _ _ _ 250 hi _ ((zA HS).hi.bw hD1)).mono ?_;rintro r' w2 ⟨rfl,hb2⟩;have hD2:=zB hD1 hb2)
   | (go_at_call 49;refine (yY _ _ _ _ 250 lo _ ((zA HS).lo.bw hD0)).mono ?_;rintro r' w1 ⟨rfl,hb1⟩;have hD1:=zB hD0 hb1))
 all_goals
  go_wp2_with fail
  go_ret
  exact ⟨rfl,zB hBW hD6⟩
theorem zO5 (w:World) (s t:Sp) (b i k:Nat) (lo hi lo' hi':Int) (hs:SpAt w s 250 lo hi) (ht:SpAt w t k lo' hi') (hk0:250≤k) (hk:k≤300000000) (hb:s.bits=b) (hbm:b≤120) (hle:lo≤hi) (hi0:1≤i) (hi1:i≤1000) (htb:t.bits=((b+i:Nat):Int)) (hN:zID lo hi (Q b) 4=true) (hT:zOB lo hi i lo' hi' 0=true) (hc:zF lo hi=0) :
  Calls Tryz.prog 12 #[.agg #[.bool s.ln,.slice s.la s.lN s.lc,.bool s.hn,.slice s.ha s.hN s.hc,.int .i64 s.bits],.int .i64 0,.int .i64 0,.int .i64 s.bits,.agg #[.bool t.ln,.slice t.la t.lN t.lc,.bool t.hn,.slice t.ha t.hN t.hc,.int .i64 t.bits]] w fun r w'=>r=.returned (.bool true)∧Below w.heap.size w w':=by
 obtain ⟨W,hW⟩:∃ W,W=(w.alloc (.cells #[.bool s.ln,.slice s.la s.lN s.lc,.bool s.hn,.slice s.ha s.hN s.hc,.int .i64 s.bits] 28)).alloc (.cells #[.bool t.ln,.slice t.la t.lN t.lc,.bool t.hn,.slice t.ha t.hN t.hc,.int .i64 t.bits] 36):=⟨_,rfl⟩;have hBW:Below w.heap.size w W:=by rw[hW];exact bl2 _ _ _
 have A:SpC W w.heap.size s:=by rw[hW];constructor <;> simp[go_sem]
 have C:SpC W (w.heap.size+1) t:=by rw[hW];constructor <;> simp[go_sem]
 have HS:=zC (hs.bw hBW);have HT:=zC (ht.bw hBW);have HSB:=zC hb;have HTB:=zC htb;have HN:=zC hN;have HTO:=zC hT;have HC:=zC hc;have HLE:=zC hle;have HK:=zC (show ∀ w',Below W.heap.size W w'→(w'.cell? ⟨w.heap.size,0,none⟩=some (.bool s.ln)∧w'.cell? ⟨w.heap.size,1,none⟩=some (.slice s.la s.lN s.lc)∧w'.cell? ⟨w.heap.size,2,none⟩=some (.bool s.hn)∧w'.cell? ⟨w.heap.size,3,none⟩=some (.slice s.ha s.hN s.hc)∧w'.cell? ⟨w.heap.size,4,none⟩=some (.int .i64 s.bits)∧w'.cell? ⟨w.heap.size+1,0,none⟩=some (.bool t.ln)∧w'.cell? ⟨w.heap.size+1,1,none⟩=some (.slice t.la t.lN t.lc)∧w'.cell? ⟨w.heap.size+1,2,none⟩=some (.bool t.hn)∧w'.cell? ⟨w.heap.size+1,3,none⟩=some (.slice t.ha t.hN t.hc)∧w'.cell? ⟨w.heap.size+1,4,none⟩=some (.int .i64 t.bits)) from fun w' hB=>⟨(A.bw hB).c0,(A.bw hB).c1,(A.bw hB).c2,(A.bw hB).c3,(A.bw hB).c4,(C.bw hB).c0,(C.bw hB).c1,(C.bw hB).c2,(C.bw hB).c3,(C.bw hB).c4⟩)
 clear A C hs ht hb htb hN hT hc hle
 go_enter Tryz.func12,Tryz.ntmps12
 go_wp2;rw[← hW];clear hW;obtain ⟨x0,x1,x2,x3,x4,y0,y1,y2,y3,y4⟩:=zA HK _ (Below.refl _ _);have hD0:Below W.heap.size W W.drew:=(Below.refl _ _).drew
 go_region_held3 (fun w'=>w'.cell? ⟨w.heap.size,0,none⟩=some (.bool s.ln)∧w'.cell? ⟨w.heap.size,1,none⟩=some (.slice s.la s.lN s.lc)∧w'.cell? ⟨w.heap.size,2,none⟩=some (.bool s.hn)∧w'.cell? ⟨w.heap.size,3,none⟩=some (.slice s.ha s.hN s.hc)∧w'.cell? ⟨w.heap.size,4,none⟩=some (.int .i64 s.bits)∧w'.cell? ⟨w.heap.size+1,0,none⟩=some (.bool t.ln)∧w'.cell? ⟨w.heap.size+1,1,none⟩=some (.slice t.la t.lN t.lc)∧w'.cell? ⟨w.heap.size+1,2,none⟩=some (.bool t.hn)∧w'.cell? ⟨w.heap.size+1,3,none⟩=some (.slice t.ha t.hN t.hc)∧w'.cell? ⟨w.heap.size+1,4,none⟩=some (.int .i64 t.bits)) (first|exact zA HK _ (by with_reducible first|exact hD0|exact hD6|exact hD5|exact hD4|exact hD3|exact hD2|exact hD1)|go_keep)
  (first
   | (go_at_call 50;have hq:=hD5;refine (zKP _ s t k i 0 lo hi lo' hi' (((zA HS).bw hD5).mono hk0) ((zA HT).bw hD5) hk (by have:=zA HSB;omega) (by have:=zA HSB;omega) (by have:=zA HTB;omega) (by have:=zA HTB;omega) (by have:=zA HSB;have:=zA HTB;omega) (by have:=zA HSB;have:=zA HTB;omega) (by have:=zA HTB;omega)).mono ?_;rintro r' w6 ⟨rfl,hb6⟩;rw[zA HTO];have hD6:=zB hD5 hb6)
   | (go_at_call 51;have hq:=hD4;refine (zHE _ s).mono ?_;rintro r' w5 ⟨rfl,hb5⟩;have hD5:=zB hD4 hb5)
   | (go_at_call 47;have hq:=hD3;refine (yD _ s b lo hi ((zA HS).bw hD3) (zA HSB) hbm (zA HLE) (zA HN)).mono ?_;rintro r' w4 ⟨rfl,hb4⟩;have hD4:=zB hD3 hb4)
   | (go_at_call 46;have hq:=hD2;refine (zS _ _ _ _ _ _ _ _ _ _ lo hi _ ((zA HS).lo.bw hD2) ((zA HS).hi.bw hD2)).mono ?_;rintro r' w3 ⟨rfl,hb3⟩;rw[zA HC];have hD3:=zB hD2 hb3)
   | (go_at_call 49;have hq:=hD1;refine (yY _ _ _ _ 250 hi _ ((zA HS).hi.bw hD1)).mono ?_;rintro r' w2 ⟨rfl,hb2⟩;have hD2:=zB hD1 hb2)
   | (go_at_call 49;refine (yY _ _ _ _ 250 lo _ ((zA HS).lo.bw hD0)).mono ?_;rintro r' w1 ⟨rfl,hb1⟩;have hD1:=zB hD0 hb1))
 all_goals
  go_wp2_with fail
  go_ret
  exact ⟨rfl,zB hBW hD6⟩
theorem zHQ (w:World) (s:Sp) (k b:Nat) (a:Int × Int) (hs:SpAt w s k a.1 a.2) (hle:a.1≤a.2) (hk:k≤1000000) (hbits:s.bits=(b:Int)) :
  Calls Tryz.prog 121 #[.agg #[.bool s.ln,.slice s.la s.lN s.lc,.bool s.hn,.slice s.ha s.hN s.hc,.int .i64 s.bits],.int .i64 64] w (zH w b (k+34) (zE a 1 (Q 64)).1 (zE a 1 (Q 64)).2):=by
 obtain ⟨W,hW⟩:∃ W,W=(w.alloc (.cells #[.bool s.ln,.slice s.la s.lN s.lc,.bool s.hn,.slice s.ha s.hN s.hc,.int .i64 s.bits] 36)).alloc (.cells #[.bool false,.slice none 0 0,.bool false,.slice none 0 0,.int .i64 0] 36):=⟨_,rfl⟩;have hBW:Below w.heap.size w W:=by rw[hW];exact bl2 _ _ _
 have A:SpC W w.heap.size s:=by rw[hW];constructor <;> simp[go_sem]
 have R:NoC W (w.heap.size+1):=by rw[hW];constructor <;> simp[go_sem]
 have HS:=zC (hs.bw hBW);have HB:=zC hbits;have lR:=R.lt;have lA:=A.lt;have HK:=zC (show ∀ w',Below W.heap.size W w'→(w'.cell? ⟨w.heap.size,0,none⟩=some (.bool s.ln)∧w'.cell? ⟨w.heap.size,1,none⟩=some (.slice s.la s.lN s.lc)∧w'.cell? ⟨w.heap.size,2,none⟩=some (.bool s.hn)∧w'.cell? ⟨w.heap.size,3,none⟩=some (.slice s.ha s.hN s.hc)∧w'.cell? ⟨w.heap.size,4,none⟩=some (.int .i64 s.bits)) from fun w' hB=>⟨(A.bw hB).c0,(A.bw hB).c1,(A.bw hB).c2,(A.bw hB).c3,(A.bw hB).c4⟩)
 clear A hs hbits
 go_enter Tryz.func121,Tryz.ntmps121
 go_wp2;rw[← hW];clear hW;have n10:w.heap.size+1≠w.heap.size:=by omega
 obtain ⟨x0,x1,x2,x3,x4⟩:=zA HK _ (Below.refl _ _);have hD0:Below W.heap.size W W.drew:=(Below.refl _ _).drew
 go_region_held3 (fun w'=>w'.cell? ⟨w.heap.size,0,none⟩=some (.bool s.ln)∧w'.cell? ⟨w.heap.size,1,none⟩=some (.slice s.la s.lN s.lc)∧w'.cell? ⟨w.heap.size,2,none⟩=some (.bool s.hn)∧w'.cell? ⟨w.heap.size,3,none⟩=some (.slice s.ha s.hN s.hc)∧w'.cell? ⟨w.heap.size,4,none⟩=some (.int .i64 s.bits)) (first|exact zA HK _ (by with_reducible first|exact hD0|exact hD2|exact hD1)|go_keep)
  (first
   | (go_at_call 135;have hqq:=hD1;refine (zEV 64 _ s ⟨neg1,a1,n1,c1⟩ k 4 64 b rfl a 1 ((zA HS).bw hD1) hZ1 hle (by decide) (by omega) (by omega) (by omega) (zA HB)).mono ?_;rintro r' w2 ⟨t,rfl,htb,htp,hb2⟩;have HT:=zC htb;clear htb;have hD2:=zB hD1 hb2;obtain ⟨q0,q1,q2,q3,q4,q5⟩:=R.bw hD2;obtain ⟨i0,i1,i2,i3,i4⟩:=zA HK _ hD2)
   | (go_at_call 43;refine (zD 1 _ (by omega) (by omega)).mono ?_;rintro r' w1 ⟨neg1,a1,n1,c1,rfl,hZ1,hb1⟩;have hD1:=zB hD0 hb1))
 all_goals
  go_wp2_with fail;refine bodyPost_ret (v:=.agg #[.bool t.ln,.slice t.la t.lN t.lc,.bool t.hn,.slice t.ha t.hN t.hc,.int .i64 t.bits]) (by simp[results,Tryz.results121,go_sem,q0,q1,q2,q3,q4]) rfl ⟨t,rfl,zA HT,?_,?_⟩
  ·exact SpAt.put5 (htp.mono (by omega)) q0 q1 q2 q3 q4 _ _ _ _ _
  ·exact jV (zB hBW hD2) (Nat.le_succ _) _ _ _ _ _
def mx (F h:Int):Int:=if F≤h then h else F
theorem mx_ge (F h:Int):h≤mx F h∧F≤mx F h:=by unfold mx;split <;> omega
theorem mx_le {F h:Int} (hF:0≤F) (hh:0≤h):mx F h≤h+F:=by unfold mx;split <;> omega
theorem yN {a:Int × Int} {u v:Int} (hv:0<v) (hu:0≤u) (h0:0≤a.1) (hl:a.1≤a.2):0≤(zE a u v).1∧(zE a u v).1≤(zE a u v).2∧a.2*u≤(zE a u v).2*v∧((zE a u v).2-1)*v<a.2*u∧((zE a u v).2-(zE a u v).1-2)*v≤(a.2-a.1)*u∧(zE a u v).1*v≤a.1*u:=by
 have f1:=kE (a.1*u) hv;have f2:=kE (-(a.2*u)) hv;have f3:=zAW (a.2*u) hv;have f4:=zJ5 (a.1*u) hv;have e1:(zE a u v).1=a.1*u/v:=rfl;have e2:(zE a u v).2 = -(-(a.2*u)/v):=rfl;rw[← e1] at f1 f4;rw[← e2] at f3
 have c2:((zE a u v).2-1)*v<a.2*u:=by
  have:(-(a.2*u)/v+1)*v = -(((zE a u v).2-1)*v):=by rw[e2];grind
  omega
 refine ⟨by rw[e1];exact Int.ediv_nonneg (Int.mul_nonneg h0 hu) (by omega),jQ hl hv hu,f3,c2,?_,f4⟩
 have r1:((zE a u v).2-(zE a u v).1-2)*v=((zE a u v).2-1)*v-((zE a u v).1+1)*v:=by grind
 have r2:(a.2-a.1)*u=a.2*u-a.1*u:=by grind
 omega
theorem sc_w {a:Int × Int} {u v F c:Int} (hv:0<v) (hu:0≤u) (h0:0≤a.1) (hl:a.1≤a.2) (hF:0<F) (hc:0≤c) (hw:(a.2-a.1)*F≤c*mx F a.2) (hr:F≤a.2∨u≤v):((zE a u v).2-(zE a u v).1)*F≤(c+2)*mx F (zE a u v).2:=by
 obtain ⟨s0,s1,s2,s3,s4,s5⟩:=yN hv hu h0 hl;obtain ⟨m1,m2⟩:=mx_ge F (zE a u v).2;generalize (zE a u v).2=h1 at *;generalize (zE a u v).1=l1 at *;generalize mx F h1=M at *
 have key:(h1-l1-2)*F≤c*M:=by
  have k1:=Int.mul_le_mul_of_nonneg_right s4 (show 0≤F by omega)
  have k2:=Int.mul_le_mul_of_nonneg_right hw hu;refine Int.le_of_mul_le_mul_right (a:=v) ?_ hv;have r1:(h1-l1-2)*F*v=(h1-l1-2)*v*F:=by grind
  have r2:(a.2-a.1)*u*F=(a.2-a.1)*F*u:=by grind
  have k3:mx F a.2*u≤M*v:=by
   unfold mx;split
   ·exact Int.le_trans s2 (Int.mul_le_mul_of_nonneg_right m1 (by omega))
   ·rcases hr with h|h
    ·omega
    ·exact Int.le_trans (Int.mul_le_mul_of_nonneg_left h (by omega)) (Int.mul_le_mul_of_nonneg_right m2 (by omega))
  have k4:=Int.mul_le_mul_of_nonneg_left k3 hc;have r3:c*mx F a.2*u=c*(mx F a.2*u):=by grind
  have r4:c*M*v=c*(M*v):=by grind
  omega
 have r5:(h1-l1-2)*F=(h1-l1)*F-2*F:=by grind
 have r6:(c+2)*M=c*M+2*M:=by grind
 omega
structure zIV (n d:Int) (b x:Nat):Prop where
 n0:0<n
 d0:0<d
 dd:d≤2199023255552
 up:n≤201*d
 b0:8≤b
 b1:b≤400
 x2:2*n≤(x:Int)*d
 xb:2*b+64≤x
 x1:x≤1300
structure LmSt where
 T:Int × Int
 U:Int × Int
 e:Nat
def lmT (n d:Int) (x k:Nat) (T:Int × Int):Int × Int:=zE T ((x:Int)*d) (n+((k:Int)+1)*d)
def zBA (n d:Int) (x m k:Nat) (s:LmSt):LmSt :=
 if Q (m+128)≤(jJ s.U (lmT n d x k s.T)).2 then ⟨zE (lmT n d x k s.T) 1 (Q 64),zE (jJ s.U (lmT n d x k s.T)) 1 (Q 64),s.e+1⟩ else ⟨lmT n d x k s.T,jJ s.U (lmT n d x k s.T),s.e⟩
def lmS (n d:Int) (x m:Nat):Nat→LmSt
 | 0=>⟨ofI d n m,ofI d n m,0⟩
 | k+1=>zBA n d x m k (lmS n d x m k)
structure LmOk (n d:Int) (x m k:Nat) (s:LmSt):Prop where
 t0:0≤s.T.1
 tl:s.T.1≤s.T.2
 u1:1048576≤s.U.1
 ul:s.U.1≤s.U.2
 tu:s.T.2≤s.U.2
 us:s.U.2<Q (m+128)
 rs:n+(k:Int)*d≤(x:Int)*d→Q (m-9)≤s.T.2∧s.U.2≤(2*(k:Int)+2)*s.T.2
 tw:(s.T.2-s.T.1)*Q (m-9)≤(4*(k:Int)+1)*mx (Q (m-9)) s.T.2
 uw:(s.U.2-s.U.1)*Q (m-9)≤(4*(k:Int)+1)*(s.U.2+((k:Int)+1)*Q (m-9))
theorem lm_zero {n d:Int} {b x m:Nat} (h:zIV n d b x) (hm:m=b+128):LmOk n d x m 0 (lmS n d x m 0):=by
 have n0:=h.n0;have d0:=h.d0;have up:=h.up;have F:=zG (m-9)
 have e8:Q m=256*Q (m-8):=by
  have e:Q (m-8+8)=Q (m-8)*Q 8:=jC _ _;have e2:m-8+8=m:=by omega
  have e3:Q 8=256:=rfl;rw[e2,e3] at e;omega
 have e9:Q (m-8)=2*Q (m-9):=by
  have:m-8=(m-9)+1:=by omega
  rw[this];rfl
 have lo:Q (m-8)≤(ofI d n m).1:=by
  refine Int.le_ediv_of_mul_le n0 ?_;have a:=Int.mul_le_mul_of_nonneg_left up (show 0≤Q (m-8) by omega)
  have b':=Int.mul_nonneg (show 0≤Q (m-8) by omega) (show 0≤d by omega)
  have r1:Q (m-8)*(201*d)=201*(Q (m-8)*d):=by grind
  have r2:d*(256*Q (m-8))=256*(Q (m-8)*d):=by grind
  rw[e8,r2];omega
 have le:=zDA (n:=d) n0 m;have wd:=zC6 (n:=d) n0 m
 have hi:(ofI d n m).2≤Q (m+41):=by
  have e41:Q (m+41)=Q m*Q 41:=jC m 41;have c41:Q 41=2199023255552:=rfl;have qm:=zG m
  have r:=(jD (x:=d*Q m) (m:=Q (m+41)) (q:=n) n0 (by
   have:=Int.mul_nonneg (show 0≤d by omega) (show 0≤Q m by omega)
   have:=Int.mul_nonneg (show 0≤Q (m+41) by have:=zG (m+41);omega) (show 0≤n by omega)
   omega) (by
   have m1:=Int.mul_le_mul_of_nonneg_right h.dd (show 0≤Q m by omega)
   have m2:=Int.mul_le_mul_of_nonneg_left (show 1≤n by omega) (show 0≤Q (m+41) by have:=zG (m+41);omega)
   rw[e41,c41] at m2 ⊢;have:Q m*2199023255552=2199023255552*Q m:=Int.mul_comm _ _
   omega)).2.2.2
  exact r
 have up2:=zJ (show m+42≤m+128 by omega)
 have e42:Q (m+42)=2*Q (m+41):=rfl;have q41:=zG (m+41);have mxe:mx (Q (m-9)) (ofI d n m).2=(ofI d n m).2:=by unfold mx;rw[if_pos (by omega)]
 have c0:((0:Nat):Int)=0:=rfl;have w1:((ofI d n m).2-(ofI d n m).1)*Q (m-9)≤1*Q (m-9):=Int.mul_le_mul_of_nonneg_right wd (by omega)
 refine ⟨?_,le,?_,le,Int.le_refl _,?_,fun _=>⟨?_,?_⟩,?_,?_⟩
 ·show 0≤(ofI d n m).1;omega
 ·show 1048576≤(ofI d n m).1
  have e20:Q 20=1048576:=rfl;have:=zJ (show 20≤m-8 by omega)
  omega
 ·show (ofI d n m).2<_;omega
 ·show _≤(ofI d n m).2;omega
 ·show (ofI d n m).2≤(2*((0:Nat):Int)+2)*(ofI d n m).2;rw[c0];omega
 ·show ((ofI d n m).2-(ofI d n m).1)*Q (m-9)≤(4*((0:Nat):Int)+1)*mx (Q (m-9)) (ofI d n m).2;rw[mxe,c0];omega
 ·show ((ofI d n m).2-(ofI d n m).1)*Q (m-9)≤(4*((0:Nat):Int)+1)*((ofI d n m).2+(((0:Nat):Int)+1)*Q (m-9));rw[c0];omega
structure LmMid (n d:Int) (x m k:Nat) (T U:Int × Int):Prop where
 t0:0≤T.1
 tl:T.1≤T.2
 u1:1048576≤U.1
 ul:U.1≤U.2
 tu:T.2≤U.2
 us:U.2≤Q (m+140)
 rs:n+((k:Int)+1)*d≤(x:Int)*d→Q (m-9)≤T.2∧U.2≤(2*(k:Int)+3)*T.2
 tw:(T.2-T.1)*Q (m-9)≤(4*(k:Int)+3)*mx (Q (m-9)) T.2
 uw:(U.2-U.1)*Q (m-9)≤(4*(k:Int)+3)*(U.2+((k:Int)+2)*Q (m-9))
theorem lm_mid {n d:Int} {b x m k:Nat} {s:LmSt} (h:zIV n d b x) (hm:m=b+128) (o:LmOk n d x m k s):LmMid n d x m k (lmT n d x k s.T) (jJ s.U (lmT n d x k s.T)):=by
 have n0:=h.n0;have d0:=h.d0;have F:=zG (m-9);have kd:=Int.mul_nonneg (show (0:Int)≤(k:Int) by omega) (show 0≤d by omega)
 have ed:((k:Int)+1)*d=(k:Int)*d+d:=by grind
 have v0:0<n+((k:Int)+1)*d:=by omega
 have u0:0≤(x:Int)*d:=Int.mul_nonneg (by omega) (by omega)
 obtain ⟨s0,s1,s2,s3,s4,s5⟩:=yN v0 u0 o.t0 o.tl
 have tw:=sc_w (F:=Q (m-9)) (c:=4*(k:Int)+1) v0 u0 o.t0 o.tl (by omega) (by omega) o.tw (by
  by_cases c:n+(k:Int)*d≤(x:Int)*d
  ·exact Or.inl (o.rs c).1
  ·exact Or.inr (by omega))
 have uw:=o.uw;have u1:=o.u1;have ul:=o.ul;have tu:=o.tu;have us:=o.us;have t0:=o.t0;have tl:=o.tl;have rs0:=o.rs
 have hi:(lmT n d x k s.T).2≤2048*s.T.2+1:=by
  have a:=Int.mul_le_mul (show (x:Int)≤2048 by have:=h.x1;omega) (show d≤n+((k:Int)+1)*d by omega) (by omega) (by omega)
  have b':=Int.mul_le_mul_of_nonneg_left a (show 0≤s.T.2 by omega)
  have r1:s.T.2*(2048*(n+((k:Int)+1)*d))=2048*s.T.2*(n+((k:Int)+1)*d):=by grind
  have lt:((zE s.T ((x:Int)*d) (n+((k:Int)+1)*d)).2-1)*(n+((k:Int)+1)*d)<(2048*s.T.2)*(n+((k:Int)+1)*d):=by omega
  have:=Int.lt_of_mul_lt_mul_right lt (by omega)
  show (zE s.T ((x:Int)*d) (n+((k:Int)+1)*d)).2≤_
  omega
 have eT:zE s.T ((x:Int)*d) (n+((k:Int)+1)*d)=lmT n d x k s.T:=rfl;rw[eT] at s0 s1 s2 s3 s4 s5 tw;have ea1:(jJ s.U (lmT n d x k s.T)).1=s.U.1+(lmT n d x k s.T).1:=rfl;have ea2:(jJ s.U (lmT n d x k s.T)).2=s.U.2+(lmT n d x k s.T).2:=rfl
 have e140:Q (m+140)=4096*Q (m+128):=by
  have e:Q (m+128+12)=Q (m+128)*Q 12:=jC _ _;have e12:Q 12=4096:=rfl;have e3:m+128+12=m+140:=by omega
  rw[e3,e12] at e;omega
 generalize lmT n d x k s.T=T at *;refine ⟨s0,s1,by omega,by omega,by omega,?_,fun c=>?_,?_,?_⟩
 ·have:=zG (m+128)
  rw[ea2,e140];omega
 ·have c':n+(k:Int)*d≤(x:Int)*d:=by omega
  obtain ⟨g1,g2⟩:=rs0 c'
  have g3:s.T.2≤T.2:=by
   have a:=Int.mul_le_mul_of_nonneg_left c (show 0≤s.T.2 by omega)
   exact Int.le_of_mul_le_mul_right (Int.le_trans a s2) v0
  refine ⟨by omega,?_⟩
  have a:=Int.mul_le_mul_of_nonneg_left g3 (show 0≤2*(k:Int)+2 by omega)
  have r:(2*(k:Int)+3)*T.2=(2*(k:Int)+2)*T.2+T.2:=by grind
  rw[ea2,r];omega
 ·have r:(4*(k:Int)+1+2)=4*(k:Int)+3:=by omega
  rw[r] at tw;exact tw
 ·have r:(4*(k:Int)+1+2)=4*(k:Int)+3:=by omega
  rw[r] at tw;have ml:=mx_le (F:=Q (m-9)) (h:=T.2) (by omega) (by omega)
  have a1:=Int.mul_le_mul_of_nonneg_left ml (show 0≤4*(k:Int)+3 by omega)
  have kF:=Int.mul_nonneg (show (0:Int)≤(k:Int) by omega) (show 0≤Q (m-9) by omega)
  have rk:((k:Int)+1)*Q (m-9)=(k:Int)*Q (m-9)+Q (m-9):=by grind
  have a2:=Int.mul_le_mul_of_nonneg_right (show 4*(k:Int)+1≤4*(k:Int)+3 by omega) (show 0≤s.U.2+((k:Int)+1)*Q (m-9) by omega)
  rw[ea1,ea2];have r1:(s.U.2+T.2-(s.U.1+T.1))*Q (m-9)=(s.U.2-s.U.1)*Q (m-9)+(T.2-T.1)*Q (m-9):=by grind
  have r2:(4*(k:Int)+3)*(s.U.2+T.2+((k:Int)+2)*Q (m-9))=(4*(k:Int)+3)*(s.U.2+((k:Int)+1)*Q (m-9))+(4*(k:Int)+3)*(T.2+Q (m-9)):=by grind
  rw[r1,r2];omega
theorem su_w {U:Int × Int} {q F c j:Int} (hq:0<q) (h0:0≤U.1) (hl:U.1≤U.2) (hF:0<F) (hc:0≤c) (hj:1≤j) (hw:(U.2-U.1)*F≤c*(U.2+j*F)):((zE U 1 q).2-(zE U 1 q).1)*F≤(c+2)*((zE U 1 q).2+j*F):=by
 obtain ⟨s0,s1,s2,s3,s4,s5⟩:=yN hq (show (0:Int)≤1 by decide) h0 hl
 generalize (zE U 1 q).2=h1 at *;generalize (zE U 1 q).1=l1 at *;rw[Int.mul_one] at s2 s4;have jF:=Int.mul_nonneg (show 0≤j by omega) (show 0≤F by omega)
 have jq:=Int.mul_le_mul_of_nonneg_left (show 1≤q by omega) jF
 have key:(h1-l1-2)*F≤c*(h1+j*F):=by
  have k1:=Int.mul_le_mul_of_nonneg_right s4 (show 0≤F by omega)
  have k2:=Int.mul_le_mul_of_nonneg_left (show U.2+j*F≤h1*q+j*F*q by omega) hc
  refine Int.le_of_mul_le_mul_right (a:=q) ?_ hq;have r1:(h1-l1-2)*F*q=(h1-l1-2)*q*F:=by grind
  have r2:c*(h1+j*F)*q=c*(h1*q+j*F*q):=by grind
  omega
 have Fj:=Int.mul_le_mul_of_nonneg_right hj (show 0≤F by omega)
 have r5:(h1-l1-2)*F=(h1-l1)*F-2*F:=by grind
 have r6:(c+2)*(h1+j*F)=c*(h1+j*F)+2*h1+2*(j*F):=by grind
 omega
theorem lm_half {n d:Int} {b x m k:Nat} {T U:Int × Int} (hm:m=b+128) (hk:k≤25000) (o:LmMid n d x m k T U) (hg:Q (m+128)≤U.2):U.2≤2*U.1:=by
 have F:=zG (m-9);have F1:Q 119≤Q (m-9):=zJ (by omega)
 have c119:Q 119=664613997892457936451903530140172288:=by decide +kernel
 have G1:Q 128≤Q (m+128):=zJ (by omega)
 have c128:Q 128=340282366920938463463374607431768211456:=by decide +kernel
 have uw:=o.uw;have ul:=o.ul;have u1:=o.u1;rw[c119] at F1;rw[c128] at G1;generalize Q (m-9)=f at *;generalize Q (m+128)=gq at *;have a1:=Int.mul_le_mul_of_nonneg_right (show 4*(4*(k:Int)+3)≤f by omega) (show 0≤U.2 by omega)
 have cj:=Int.mul_le_mul (show 4*(k:Int)+3≤100003 by omega) (show (k:Int)+2≤25002 by omega) (by omega) (by omega)
 have a2:=Int.mul_le_mul_of_nonneg_right (show 4*((4*(k:Int)+3)*((k:Int)+2))≤U.2 by omega) (show 0≤f by omega)
 have key:2*(U.2-U.1)≤U.2:=by
  refine Int.le_of_mul_le_mul_right (a:=f) ?_ (by omega)
  have r1:(4*(k:Int)+3)*(U.2+((k:Int)+2)*f)=(4*(k:Int)+3)*U.2+(4*(k:Int)+3)*((k:Int)+2)*f:=by grind
  have r2:4*(4*(k:Int)+3)*U.2=4*((4*(k:Int)+3)*U.2):=by grind
  have r3:4*((4*(k:Int)+3)*((k:Int)+2))*f=4*((4*(k:Int)+3)*((k:Int)+2)*f):=by grind
  have r4:2*(U.2-U.1)*f=2*((U.2-U.1)*f):=by grind
  have r5:f*U.2=U.2*f:=Int.mul_comm _ _;rw[r1] at uw;rw[r2,r5] at a1;rw[r3] at a2;omega
 omega
theorem lm_step {n d:Int} {b x m k:Nat} {s:LmSt} (h:zIV n d b x) (hm:m=b+128) (hk:k≤25000) (o:LmOk n d x m k s):LmOk n d x m (k+1) (zBA n d x m k s):=by
 have md:=lm_mid h hm o;have F:=zG (m-9);have ec:((k+1:Nat):Int)=(k:Int)+1:=by omega
 unfold zBA;generalize lmT n d x k s.T=T at *;generalize jJ s.U T=U at *
 by_cases hg:Q (m+128)≤U.2
 ·rw[if_pos hg]
  have hf:=lm_half hm hk md hg;have q64:(0:Int)<Q 64:=by have:=zG 64;omega
  have e64:Q 64=18446744073709551616:=by decide +kernel
  obtain ⟨a0,a1,a2,a3,a4,a5⟩:=yN (a:=T) q64 (show (0:Int)≤1 by decide) md.t0 md.tl
  obtain ⟨b0,b1,b2,b3,b4,b5⟩:=yN (a:=U) q64 (show (0:Int)≤1 by decide) (by have:=md.u1;omega) md.ul
  have tw:=sc_w (F:=Q (m-9)) (c:=4*(k:Int)+3) q64 (show (0:Int)≤1 by decide) md.t0 md.tl (by omega) (by omega) md.tw (Or.inr (by omega))
  have uw:=su_w (F:=Q (m-9)) (c:=4*(k:Int)+3) (j:=(k:Int)+2) q64 (by have:=md.u1;omega) md.ul (by omega) (by omega) (by omega) md.uw
  have us:=md.us;have tu:=md.tu;have rs:=md.rs
  have lo:Q (m+127)≤U.1:=by
   have e:Q (m+127+1)=2*Q (m+127):=rfl;have e2:m+127+1=m+128:=by omega
   rw[e2] at e;omega
  have lo1:1048576≤(zE U 1 (Q 64)).1:=by
   refine Int.le_ediv_of_mul_le q64 ?_;have e84:Q 84=Q 20*Q 64:=jC 20 64;have e20:Q 20=1048576:=rfl;rw[e20] at e84;have:=zJ (show 84≤m+127 by omega)
   omega
  have e76:Q (m+140)=Q (m+76)*Q 64:=by rw[← jC]
  have hi:(zE U 1 (Q 64)).2≤Q (m+76):=by
   have lt:((zE U 1 (Q 64)).2-1)*Q 64<Q (m+76)*Q 64:=by rw[← e76];omega
   have:=Int.lt_of_mul_lt_mul_right lt (by omega)
   omega
  have e128:=zJ (show m+77≤m+128 by omega)
  have e77:Q (m+77)=2*Q (m+76):=rfl;have q76:=zG (m+76)
  have tu2:(zE T 1 (Q 64)).2≤(zE U 1 (Q 64)).2:=by
   have lt:((zE T 1 (Q 64)).2-1)*Q 64<(zE U 1 (Q 64)).2*Q 64:=by omega
   have:=Int.lt_of_mul_lt_mul_right lt (by omega)
   omega
  refine ⟨a0,a1,lo1,b1,tu2,by show (zE U 1 (Q 64)).2<_;omega,fun c=>?_,?_,?_⟩
  ·rw[ec] at c
   obtain ⟨g1,g2⟩:=rs c;have T0:0≤T.2:=by have:=md.t0;have:=md.tl;omega
   have big:Q (m+112)≤T.2:=by
    refine Int.not_lt.1 fun hlt=>?_
    have e:Q (m+112+16)=Q (m+112)*Q 16:=jC _ _;have e16:Q 16=65536:=rfl;have e4:m+112+16=m+128:=by omega
    rw[e4,e16] at e;have a:=Int.mul_le_mul_of_nonneg_right (show 2*(k:Int)+3≤65536 by omega) T0
    omega
   have e48:Q (m+112)=Q (m+48)*Q 64:=by rw[← jC]
   rw[Int.mul_one] at a2 b3;have h48:Q (m+48)≤(zE T 1 (Q 64)).2:=Int.le_of_mul_le_mul_right (a:=Q 64) (by omega) q64
   have F48:=zJ (show m-9≤m+48 by omega)
   refine ⟨by show Q (m-9)≤(zE T 1 (Q 64)).2;omega,?_⟩
   rw[ec]
   show (zE U 1 (Q 64)).2≤(2*((k:Int)+1)+2)*(zE T 1 (Q 64)).2
   have q48:=zG (m+48);have a6:=Int.mul_le_mul_of_nonneg_left a2 (show 0≤2*(k:Int)+3 by omega)
   have r1:(2*(k:Int)+3)*((zE T 1 (Q 64)).2*Q 64)=(2*(k:Int)+3)*(zE T 1 (Q 64)).2*Q 64:=by grind
   have lt:((zE U 1 (Q 64)).2-1)*Q 64<(2*(k:Int)+3)*(zE T 1 (Q 64)).2*Q 64:=by omega
   have lt2:=Int.lt_of_mul_lt_mul_right lt (by omega)
   have r2:(2*((k:Int)+1)+2)*(zE T 1 (Q 64)).2=(2*(k:Int)+3)*(zE T 1 (Q 64)).2+(zE T 1 (Q 64)).2:=by grind
   omega
  ·have r:((4*(k:Int)+3)+2)=4*((k:Int)+1)+1:=by omega
   rw[r] at tw;rw[ec];exact tw
  ·have r:((4*(k:Int)+3)+2)=4*((k:Int)+1)+1:=by omega
   rw[r] at uw;rw[ec];have r2:((k:Int)+1+1)=(k:Int)+2:=by omega
   rw[r2];exact uw
 ·rw[if_neg hg]
  refine ⟨md.t0,md.tl,md.u1,md.ul,md.tu,by show U.2<_;omega,fun c=>?_,?_,?_⟩
  ·rw[ec] at c
   obtain ⟨g1,g2⟩:=md.rs c;refine ⟨g1,?_⟩;have t0:=md.t0;have tl:=md.tl;rw[ec]
   show U.2≤(2*((k:Int)+1)+2)*T.2
   have r:(2*((k:Int)+1)+2)*T.2=(2*(k:Int)+3)*T.2+T.2:=by grind
   omega
  ·have tw:=md.tw
   obtain ⟨m1,m2⟩:=mx_ge (Q (m-9)) T.2;have a:=Int.mul_le_mul_of_nonneg_right (show 4*(k:Int)+3≤4*((k:Int)+1)+1 by omega) (show 0≤mx (Q (m-9)) T.2 by omega)
   rw[ec];exact Int.le_trans tw a
  ·have uw:=md.uw
   have ul:=md.ul;have u1:=md.u1;have kF:=Int.mul_nonneg (show (0:Int)≤(k:Int)+2 by omega) (show 0≤Q (m-9) by omega)
   have a:=Int.mul_le_mul_of_nonneg_right (show 4*(k:Int)+3≤4*((k:Int)+1)+1 by omega) (show 0≤U.2+((k:Int)+2)*Q (m-9) by omega)
   rw[ec];have r2:((k:Int)+1+1)=(k:Int)+2:=by omega
   rw[r2];exact Int.le_trans uw a
theorem zD5 {n d:Int} {b x m:Nat} (h:zIV n d b x) (hm:m=b+128) (k:Nat) (hk:k≤25000):LmOk n d x m k (lmS n d x m k):=by
 induction k with
 | zero=>exact lm_zero h hm
 | succ k ih=>exact lm_step h hm (by omega) (ih (by omega))
theorem zOX {n d:Int} {b x m k:Nat} (h:zIV n d b x) (hm:m=b+128) (hk:k≤24000) (hx:2*x≤k):2*(lmS n d x m (k+1)).T.2≤(lmS n d x m k).T.2+1:=by
 have o:=zD5 h hm k (by omega)
 have n0:=h.n0;have d0:=h.d0;obtain ⟨s,hs⟩:∃ s,s=lmS n d x m k:=⟨_,rfl⟩;rw[← hs] at o;have kd:=Int.mul_nonneg (show (0:Int)≤(k:Int) by omega) (show 0≤d by omega)
 have ed:((k:Int)+1)*d=(k:Int)*d+d:=by grind
 have v0:0<n+((k:Int)+1)*d:=by omega
 have u0:0≤(x:Int)*d:=Int.mul_nonneg (by omega) (by omega)
 obtain ⟨s0,s1,s2,s3,s4,s5⟩:=yN v0 u0 o.t0 o.tl;have T0:0≤s.T.2:=by have:=o.t0;have:=o.tl;omega
 have half:2*(lmT n d x k s.T).2≤s.T.2+1:=by
  show 2*(zE s.T ((x:Int)*d) (n+((k:Int)+1)*d)).2≤_
  generalize (zE s.T ((x:Int)*d) (n+((k:Int)+1)*d)).2=y at *;have a:=Int.mul_le_mul_of_nonneg_right (show 2*(x:Int)≤(k:Int) by omega) (show 0≤d by omega)
  have r1:2*(x:Int)*d=2*((x:Int)*d):=by grind
  have le:2*((x:Int)*d)≤n+((k:Int)+1)*d:=by omega
  have b':=Int.mul_le_mul_of_nonneg_left le T0;have r2:s.T.2*(2*((x:Int)*d))=2*(s.T.2*((x:Int)*d)):=by grind
  have lt:(2*(y-1))*(n+((k:Int)+1)*d)<s.T.2*(n+((k:Int)+1)*d):=by
   have r3:(2*(y-1))*(n+((k:Int)+1)*d)=2*((y-1)*(n+((k:Int)+1)*d)):=by grind
   omega
  have:=Int.lt_of_mul_lt_mul_right lt (by omega)
  omega
 show 2*(zBA n d x m k (lmS n d x m k)).T.2≤(lmS n d x m k).T.2+1
 rw[← hs];unfold zBA;have t1:0≤(lmT n d x k s.T).1:=s0;have t2:(lmT n d x k s.T).1≤(lmT n d x k s.T).2:=s1;split
 ·have q64:(0:Int)<Q 64:=by have:=zG 64;omega
  obtain ⟨a0,a1,a2,a3,a4,a5⟩:=yN (a:=lmT n d x k s.T) q64 (show (0:Int)≤1 by decide) t1 t2
  show 2*(zE (lmT n d x k s.T) 1 (Q 64)).2≤_
  have le:(zE (lmT n d x k s.T) 1 (Q 64)).2≤(lmT n d x k s.T).2:=by
   generalize (zE (lmT n d x k s.T) 1 (Q 64)).2=y at *;generalize (lmT n d x k s.T).2=z at *
   by_cases c:y≤1
   ·by_cases c2:y≤0
    ·omega
    ·have m:=Int.mul_le_mul_of_nonneg_left (show (1:Int)≤Q 64 by omega) (show 0≤y-1 by omega)
     omega
   ·have m:=Int.mul_le_mul_of_nonneg_left (show (2:Int)≤Q 64 by have:=zJ (show 1≤64 by omega);have:Q 1=2:=rfl;omega) (show 0≤y-1 by omega)
    omega
  omega
 ·exact half
theorem lm_ends {n d:Int} {b x m:Nat} (h:zIV n d b x) (hm:m=b+128):∃ K,2*x<K∧K<16*x∧(lmS n d x m K).T.2≤1∧∀ k,2*x<k→k<K→1<(lmS n d x m k).T.2:=by
 have x1:=h.x1;have xb:=h.xb;have b1:=h.b1
 have fall:∀ j:Nat,j≤m+130→(lmS n d x m (2*x+1+j)).T.2≤1∨(lmS n d x m (2*x+1+j)).T.2≤Q (m+129-j)+1:=fun j=>by
  induction j with
  | zero =>
   intro _
   have o:=zD5 h hm (2*x+1+0) (by omega)
   have:=o.tu;have:=o.us;have e:Q (m+129-0)=2*Q (m+128):=rfl;have qq:=zG (m+128);refine Or.inr ?_;rw[e];omega
  | succ j ih =>
   intro hj
   have f:=zOX h hm (k:=2*x+1+j) (by omega) (by omega)
   have e0:2*x+1+(j+1)=2*x+1+j+1:=by omega
   rw[e0]
   rcases ih (by omega) with c|c
   ·exact Or.inl (by omega)
   ·by_cases hz:j≤m+128
    ·have e:Q (m+129-j)=2*Q (m+129-(j+1)):=by
      have:m+129-j=(m+129-(j+1))+1:=by omega
      rw[this];rfl
     exact Or.inr (by omega)
    ·have e:m+129-j=0:=by omega
     rw[e] at c;have:Q 0=1:=rfl;exact Or.inl (by omega)
 have last:(lmS n d x m (2*x+1+(m+130))).T.2≤1:=by
  rcases fall (m+130) (Nat.le_refl _) with c|c
  ·exact c
  ·have c9:=fall (m+129) (by omega)
   have f:=zOX h hm (k:=2*x+1+(m+129)) (by omega) (by omega)
   have e0:2*x+1+(m+130)=2*x+1+(m+129)+1:=by omega
   rw[e0]
   rcases c9 with c9|c9
   ·omega
   ·have e:m+129-(m+129)=0:=by omega
    rw[e] at c9;have:Q 0=1:=rfl;omega
 obtain ⟨K,k1,k2,k3⟩:=zAE (p:=fun k=>2*x<k∧(lmS n d x m k).T.2≤1) (K:=2*x+1+(m+130)) ⟨by omega,last⟩
 refine ⟨K,k2.1,by omega,k2.2,fun k hk hK=>?_⟩
 have:=k3 k hK;exact Int.not_le.1 fun c=>this ⟨hk,c⟩
theorem Has.of_constL {a b c:Rat} (h:Has a b (fun _=>c)):a≤c∧c≤b:=by
 refine ⟨Rat.not_lt.1 fun hlt=>?_,Rat.not_lt.1 fun hlt=>?_⟩
 ·obtain ⟨N,k⟩:=h ((a-c)/2) (by grind)
  have:=(k N (Nat.le_refl _)).1;grind
 ·obtain ⟨N,k⟩:=h ((c-b)/2) (by grind)
  have:=(k N (Nat.le_refl _)).2;grind
theorem rat_frac {n d:Int} {x k:Nat} (hn:0<n) (hd:0<d):(((x:Int)*d:Int):Rat)/((n+((k:Int)+1)*d:Int):Rat)=(x:Rat)/((n:Rat)/(d:Rat)+((k:Rat)+1)):=by
 have d0:(0:Rat)<(d:Rat):=by exact_mod_cast hd
 have n0:(0:Rat)<(n:Rat):=by exact_mod_cast hn
 have k0:(0:Rat)<(k:Rat)+1:=zCD k;have kd:=Rat.mul_pos k0 d0
 have e1:((n+((k:Int)+1)*d:Int):Rat)=(n:Rat)+((k:Rat)+1)*(d:Rat):=by
  rw[Rat.intCast_add,Rat.intCast_mul,Rat.intCast_add];rfl
 have e2:(((x:Int)*d:Int):Rat)=(x:Rat)*(d:Rat):=by rw[Rat.intCast_mul];rfl
 have p:0<(n:Rat)+((k:Rat)+1)*(d:Rat):=by grind
 have q:0<(n:Rat)/(d:Rat)+((k:Rat)+1):=by have:=zL n0 d0;grind
 rw[e1,e2];have m1:=rdm (a:=(x:Rat)*(d:Rat)) p;have m2:=rdm (a:=(x:Rat)) q;have m3:=rdm (a:=(n:Rat)) d0;refine zU (Rat.mul_pos p q) ?_;generalize (x:Rat)*(d:Rat)/((n:Rat)+((k:Rat)+1)*(d:Rat))=y at *;generalize (x:Rat)/((n:Rat)/(d:Rat)+((k:Rat)+1))=z at *;have r1:((n:Rat)+((k:Rat)+1)*(d:Rat))*((n:Rat)/(d:Rat)+((k:Rat)+1))*y=y*((n:Rat)+((k:Rat)+1)*(d:Rat))*((n:Rat)/(d:Rat)+((k:Rat)+1)):=by grind
 have r2:((n:Rat)+((k:Rat)+1)*(d:Rat))*((n:Rat)/(d:Rat)+((k:Rat)+1))*z=z*((n:Rat)/(d:Rat)+((k:Rat)+1))*((n:Rat)+((k:Rat)+1)*(d:Rat)):=by grind
 rw[r1,r2,m1,m2]
 have r3:(n:Rat)+((k:Rat)+1)*(d:Rat)=((n:Rat)/(d:Rat)+((k:Rat)+1))*(d:Rat):=by
  have:((n:Rat)/(d:Rat)+((k:Rat)+1))*(d:Rat)=(n:Rat)/(d:Rat)*(d:Rat)+((k:Rat)+1)*(d:Rat):=by grind
  rw[this,m3]
 rw[r3];grind
def h64 (e:Nat):Rat:=1/(Q (64*e):Rat)
theorem zK6 (e:Nat):(1:Int)/((Q 64:Int):Rat)*h64 e=h64 (e+1):=by
 unfold h64;have e1:Q (64*(e+1))=Q 64*Q (64*e):=by rw[← jC];congr 1;omega
 rw[e1,Rat.intCast_mul];have p:=zV 64;have q:=zV (64*e);have c1:((1:Int):Rat)=1:=rfl;rw[c1];generalize (Q 64:Rat)=y at *;generalize (Q (64*e):Rat)=z at *;have a:=rdm (a:=1) p;have b:=rdm (a:=1) q;have c:=rdm (a:=1) (Rat.mul_pos p q);refine zU (Rat.mul_pos p q) ?_;have r1:y*z*(1/y*(1/z))=1/y*y*(1/z*z):=by grind
 have r2:y*z*(1/(y*z))=1/(y*z)*(y*z):=by grind
 rw[r1,r2,a,b,c];grind
theorem lm_has {n d:Int} {b x m:Nat} (h:zIV n d b x) (k:Nat):Iv m (lmS n d x m k).T (fun _=>h64 (lmS n d x m k).e*upT ((n:Rat)/(d:Rat)) (x:Rat) k)∧Iv m (lmS n d x m k).U (fun _=>h64 (lmS n d x m k).e*uS ((n:Rat)/(d:Rat)) (x:Rat) (k+1)):=by
 have n0:=h.n0;have d0:=h.d0;have nr:(0:Rat)<(n:Rat):=by exact_mod_cast n0
 have dr:(0:Rat)<(d:Rat):=by exact_mod_cast d0
 have a0:(0:Rat)<(n:Rat)/(d:Rat):=zL nr dr
 induction k with
 | zero =>
  have i:=Iv.of m (n:=d) (d:=n) n0
  have e:(d:Rat)/(n:Rat)=1/((n:Rat)/(d:Rat)):=by
   have m1:=rdm (a:=(d:Rat)) nr;have m2:=rdm (a:=1) a0;have m3:=rdm (a:=(n:Rat)) dr;refine zU (Rat.mul_pos nr a0) ?_;generalize 1/((n:Rat)/(d:Rat))=z at *;generalize (n:Rat)/(d:Rat)=y at *;generalize (d:Rat)/(n:Rat)=u at *;have r1:(n:Rat)*y*u=u*(n:Rat)*y:=by grind
   have r2:(n:Rat)*y*z=(n:Rat)*(z*y):=by grind
   rw[r1,r2,m1,m2];grind
  have e1:h64 0=1:=by
   unfold h64
   show (1:Rat)/((1:Int):Rat)=1
   decide +kernel
  refine ⟨Has.of_eq i fun M=>?_,Has.of_eq i fun M=>?_⟩
  ·show h64 0*(1/((n:Rat)/(d:Rat)))=_
   rw[e1,e];grind
  ·show h64 0*(0+1/((n:Rat)/(d:Rat)))=_
   rw[e1,e];grind
 | succ k ih =>
  obtain ⟨i1,i2⟩:=ih;obtain ⟨s,hs⟩:∃ s,s=lmS n d x m k:=⟨_,rfl⟩;rw[← hs] at i1 i2;have kd:=Int.mul_nonneg (show (0:Int)≤(k:Int) by omega) (show 0≤d by omega)
  have ed:((k:Int)+1)*d=(k:Int)*d+d:=by grind
  have t1:Iv m (lmT n d x k s.T) (fun _=>h64 s.e*upT ((n:Rat)/(d:Rat)) (x:Rat) (k+1)):=by
   refine Has.of_eq (i1.scale (n:=(x:Int)*d) (d:=n+((k:Int)+1)*d) (Int.mul_nonneg (by omega) (by omega)) (by omega)) fun M=>?_
   rw[rat_frac n0 d0]
   show h64 s.e*((x:Rat)/((n:Rat)/(d:Rat)+((k:Rat)+1))*upT ((n:Rat)/(d:Rat)) (x:Rat) k)=_
   generalize (x:Rat)/((n:Rat)/(d:Rat)+((k:Rat)+1))=y;grind
  have t2:Iv m (jJ s.U (lmT n d x k s.T)) (fun _=>h64 s.e*uS ((n:Rat)/(d:Rat)) (x:Rat) (k+1+1)):=by
   refine Has.of_eq (i2.add t1) fun M=>?_
   rw[yF _ _ (k+1)];grind
  have e:lmS n d x m (k+1)=zBA n d x m k s:=by rw[hs];rfl
  rw[e];unfold zBA;have q64:=zG 64;split
  ·refine ⟨Has.of_eq (t1.scale (n:=1) (d:=Q 64) (by decide) (by omega)) fun M=>?_,Has.of_eq (t2.scale (n:=1) (d:=Q 64) (by decide) (by omega)) fun M=>?_⟩
   ·show h64 (s.e+1)*_=_
    rw[← zK6];grind
   ·show h64 (s.e+1)*_=_
    rw[← zK6];grind
  ·exact ⟨t1,t2⟩
theorem upT_half {a x:Rat} {K:Nat} (ha:0<a) (hx:0≤x) (hK:2*x≤(K:Rat)) (i:Nat):2*upT a x (K+i+1)≤upT a x (K+i):=by
 have e:=kD ha x (K+i);have t0:=jL ha hx (K+i);have t1:=jL ha hx (K+i+1);have ik:(K:Rat)≤((K+i:Nat):Rat):=by exact_mod_cast (show K≤K+i by omega)
 by_cases hz:x=0
 ·have:upT a x (K+i+1)=0:=by
   show x/(a+(((K+i:Nat):Rat)+1))*upT a x (K+i)=0
   rw[hz,Rat.div_def];grind
  rw[this];grind
 ·have xp:0<x:=by grind
  have m:=Rat.mul_le_mul_of_nonneg_right (show 2*x≤a+(((K+i:Nat):Rat)+1) by grind) t1
  rw[e] at m;refine Rat.le_of_mul_le_mul_left (c:=x) ?_ xp;grind
theorem uS_rest {a x:Rat} {K:Nat} (ha:0<a) (hx:0≤x) (hK:2*x≤(K:Rat)) (i:Nat):uS a x (K+1+i)+upT a x (K+i)≤uS a x (K+1)+upT a x K:=by
 induction i with
 | zero=>exact Rat.le_refl
 | succ i ih =>
  have e:uS a x (K+1+(i+1))=uS a x (K+1+i)+upT a x (K+1+i):=rfl;have e2:K+1+i=K+i+1:=by omega
  have e3:K+(i+1)=K+i+1:=by omega
  have hh:=upT_half ha hx hK i;rw[e,e3];rw[e2] at ih ⊢;grind
def lmL (U:Int × Int):Int:=U.1-2
def lmH (m e:Nat) (U:Int × Int):Int:=U.2+2 + -(-(Q (m+1))/Q (64*e))
theorem zNR {n d:Int} {b x m K:Nat} (h:zIV n d b x) (hK:2*x<K) (hT:(lmS n d x m K).T.2≤1):LeN (fun _=>(lmL (lmS n d x m K).U:Rat)/(Q m:Rat)) (fun M=>h64 (lmS n d x m K).e*uS ((n:Rat)/(d:Rat)) (x:Rat) M)∧LeN (fun M=>h64 (lmS n d x m K).e*(uS ((n:Rat)/(d:Rat)) (x:Rat) M+2)) (fun _=>(lmH m (lmS n d x m K).e (lmS n d x m K).U:Rat)/(Q m:Rat)):=by
 have n0:=h.n0;have d0:=h.d0;have nr:(0:Rat)<(n:Rat):=by exact_mod_cast n0
 have dr:(0:Rat)<(d:Rat):=by exact_mod_cast d0
 have a0:(0:Rat)<(n:Rat)/(d:Rat):=zL nr dr;have x0:(0:Rat)≤(x:Rat):=by exact_mod_cast Nat.zero_le x
 have xK:2*(x:Rat)≤(K:Rat):=by exact_mod_cast (show 2*x≤K by omega)
 obtain ⟨i1,i2⟩:=lm_has (m:=m) h K;obtain ⟨s,hs⟩:∃ s,s=lmS n d x m K:=⟨_,rfl⟩;rw[← hs] at i1 i2 hT ⊢;have q:=zV m;have he:0<h64 s.e:=zL (by grind) (zV _)
 obtain ⟨l1,u1⟩:=Has.of_constL i2;obtain ⟨l2,u2⟩:=Has.of_constL i1;have T1:(s.T.2:Rat)/(Q m:Rat)≤1/(Q m:Rat):=jS q (by rw[rdm q];exact_mod_cast zW hT)
 obtain ⟨j,hj⟩:∃ j,j=1/(Q m:Rat):=⟨_,rfl⟩;have jm:j*(Q m:Rat)=1:=by rw[hj];exact rdm q
 rw[← hj] at T1;have j0:0<j:=by rw[hj];exact zL (by grind) q
 have eL:(lmL s.U:Rat)/(Q m:Rat)=(s.U.1:Rat)/(Q m:Rat)-2*j:=by
  unfold lmL;rw[Rat.intCast_sub,zEF]
  have:((2:Int):Rat)/(Q m:Rat)=2*j:=by
   rw[hj,Rat.div_def,Rat.div_def];have c2:((2:Int):Rat)=2:=rfl;rw[c2];grind
  rw[this]
 refine ⟨LeN.of_le (K+1) fun M hM=>?_,LeN.of_le (K+1) fun M hM=>?_⟩
 ·obtain ⟨i,rfl⟩:∃ i,M=K+1+i:=⟨M-(K+1),by omega⟩
  have mono:∀ i,uS ((n:Rat)/(d:Rat)) (x:Rat) (K+1)≤uS ((n:Rat)/(d:Rat)) (x:Rat) (K+1+i):=fun i=>by
   induction i with
   | zero=>exact Rat.le_refl
   | succ i ih=>have:=jL a0 x0 (K+1+i);have e:uS ((n:Rat)/(d:Rat)) (x:Rat) (K+1+(i+1))=uS ((n:Rat)/(d:Rat)) (x:Rat) (K+1+i)+upT ((n:Rat)/(d:Rat)) (x:Rat) (K+1+i):=rfl;rw[e];grind
  have m1:=Rat.mul_le_mul_of_nonneg_left (mono i) (Rat.le_of_lt he);rw[eL];grind
 ·obtain ⟨i,rfl⟩:∃ i,M=K+1+i:=⟨M-(K+1),by omega⟩
  have r:=uS_rest a0 x0 xK i;have t0:=jL a0 x0 (K+i);have m1:=Rat.mul_le_mul_of_nonneg_left (show uS ((n:Rat)/(d:Rat)) (x:Rat) (K+1+i)≤uS ((n:Rat)/(d:Rat)) (x:Rat) (K+1)+upT ((n:Rat)/(d:Rat)) (x:Rat) K by grind) (Rat.le_of_lt he)
  have e64p:0<Q (64*s.e):=by have:=zG (64*s.e);omega
  have cl:=zAW (Q (m+1)) e64p
  have beyond:2*h64 s.e≤((-(-(Q (m+1))/Q (64*s.e)):Int):Rat)/(Q m:Rat):=by
   refine kR q ?_;have c:=zW cl;have e1:Q (m+1)=2*Q m:=rfl;rw[Rat.intCast_mul,e1,Rat.intCast_mul] at c;have c2:((2:Int):Rat)=2:=rfl;rw[c2] at c;rw[e1];generalize ((-(-(2*Q m)/Q (64*s.e)):Int):Rat)=z at *;unfold h64;have p:=zV (64*s.e);have dm:=rdm (a:=1) p;refine Rat.le_of_mul_le_mul_right (c:=(Q (64*s.e):Rat)) ?_ p;have r1:2*(1/(Q (64*s.e):Rat))*(Q m:Rat)*(Q (64*s.e):Rat)=2*(Q m:Rat)*(1/(Q (64*s.e):Rat)*(Q (64*s.e):Rat)):=by grind
   rw[r1,dm];grind
  have eH:(lmH m s.e s.U:Rat)/(Q m:Rat)=(s.U.2:Rat)/(Q m:Rat)+2*j+((-(-(Q (m+1))/Q (64*s.e)):Int):Rat)/(Q m:Rat):=by
   unfold lmH;rw[Rat.intCast_add,yC,Rat.intCast_add,yC]
   have:((2:Int):Rat)/(Q m:Rat)=2*j:=by
    rw[hj,Rat.div_def,Rat.div_def];have c2:((2:Int):Rat)=2:=rfl;rw[c2];grind
   rw[this]
  rw[eH];grind
end Go.Proofs.YtgmnknmjainababGreat
