/-
  Its own texts.
-/
import Derived.Test.YtgmnknmjainabacGreatI26
set_option maxRecDepth 100000
set_option maxHeartbeats 40000000
set_option linter.unnecessarySimpa false
set_option linter.unusedSimpArgs false
set_option linter.unusedVariables false
namespace Go.Proofs.YtgmnknmjainabacGreat
open Go.RowKit
attribute [local go_sem ↓] Go.wp_at_zero Go.wp_at_succ
open Ex
def zG1 (k:Int):Bool:=k == 6 || k == 7
def qE (k p q r s pn pd st b:Int):Int:=if kN k p q r s≠0 then kN k p q r s else if zGH pn pd b≠0 then zGH pn pd b else if pn<0\/pd<pn\/st<0\/6<st then 3 else if zG1 k=true/\st≠0 then 6 else 0
theorem zIV {k p q r s pn pd st b:Int} (h:qE k p q r s pn pd st b=0):kN k p q r s=0/\(rok pn pd/\8<=b/\b<=120)/\(0<=pn/\pn<=pd/\0<=st/\st<=6)/\(zG1 k=true->st=0):=by
 unfold qE at h
 by_cases c1:kN k p q r s=0
 ·rw[if_neg (by simp[c1])] at h
  by_cases c2:zGH pn pd b=0
  ·rw[if_neg (by simp[c2])] at h
   have h2:rok pn pd/\8<=b/\b<=120:=by
    unfold zGH at c2
    by_cases c:rok pn pd/\8<=b/\b<=120
    ·exact c
    ·rw[if_neg c] at c2;omega
   by_cases c3:pn<0\/pd<pn\/st<0\/6<st
   ·rw[if_pos c3] at h;omega
   ·rw[if_neg c3] at h
    by_cases c4:zG1 k=true/\st≠0
    ·rw[if_pos c4] at h;omega
    ·exact⟨c1,h2,⟨by omega,by omega,by omega,by omega⟩,λ hk=>Classical.byContradiction λ hs=>c4 ⟨hk,hs⟩⟩
  ·rw[if_pos c2] at h;exact absurd h c2
 ·rw[if_pos c1] at h;exact absurd h c1
def qLo (k:Int) (st:Nat):Int:=if zG1 k=true then 0 else -(50*Q st)
def qHi (k:Int) (st:Nat):Int:=if zG1 k=true then 100 else 50*Q st
theorem Q6 {st:Nat} (h:st<=6):1<=Q st/\Q st<=64:=by
 have:=zE st;have m:=zJ h;have e:Q 6=64:=rfl;omega
theorem zG2 (k:Int) (w:World):Calls Tryz.prog 115 #[.int .i64 k] w λ z w'=>z=.returned (.bool (zG1 k))/\Below w.heap.size w w':=by
 by_cases h6:k=6
 ·subst h6
  go_enter Tryz.func115,Tryz.ntmps115
  go_wp2
  go_ret
  exact⟨rfl,Below.refl _ _⟩
 ·go_enter Tryz.func115,Tryz.ntmps115
  go_wp2
  go_ret
  exact⟨by simp[zG1,h6],Below.refl _ _⟩
theorem zOL (k:Int) (st:Nat) (w:World) (h:st<=6):Calls Tryz.prog 65 #[.int .i64 k,.int .i64 (st:Int)] w λ z w'=>z=.returned (.tuple #[.int .i64 (qLo k st),.int .i64 (qHi k st)])/\Below w.heap.size w w':=by
 have hc:∀ c,zG1 k=c->Calls Tryz.prog 115 #[.int .i64 k] w λ z w'=>z=.returned (.bool c)/\Below w.heap.size w w':=λ c e=>by rw[<- e];exact zG2 k w
 unfold qLo qHi
 cases hk:zG1 k
 ·have HC:=zC (hc false hk)
  rw[if_neg (by simp),if_neg (by simp)]
  clear hc hk
  rcases (show st=0\/st=1\/st=2\/st=3\/st=4\/st=5\/st=6 by omega) with rfl|rfl|rfl|rfl|rfl|rfl|rfl
  all_goals
   go_enter Tryz.func65,Tryz.ntmps65
   go_wp2_with fail;refine (zA HC).mono ?_;rintro z w1 ⟨rfl,hb⟩;go_wp2;exact bodyPost_ret (by simp[results,Tryz.results65,go_sem];rfl) rfl ⟨rfl,hb⟩
 ·have HC:=zC (hc true hk)
  rw[if_pos rfl,if_pos rfl];clear hc hk
  go_enter Tryz.func65,Tryz.ntmps65
  go_wp2_with fail;refine (zA HC).mono ?_;rintro z w1 ⟨rfl,hb⟩;go_wp2;exact bodyPost_ret (v:=.tuple #[.int .i64 0,.int .i64 100]) (by simp[results,Tryz.results65,go_sem]) rfl ⟨rfl,hb⟩
theorem zL3 (w:World) (s:Sp) (pn pd L H:Int) (b:Nat) (hs:SpAt w s 250 L H) (fJ:s.bits=(b:Int)) (hb:b<=120) (hr:rok pn pd) :
  Calls Tryz.prog 68 #[.agg s.q,.agg #[.int .i64 pn,.int .i64 pd]] w λ z w'=>z=.returned (.bool (decide (pn*Q b<=H*pd)))/\Below w.heap.size w w':=by
 obtain⟨a1,a2,a3,a4⟩:=hr;obtain⟨W,hW⟩:∃ W,W=(w.alloc (.cells s.q 31)).alloc (.cells #[.int .i64 pn,.int .i64 pd] 23):=⟨_,rfl⟩;have j7:Below w.heap.size w W:=by rw[hW];exact bl2 _ _ _
 have A:SpC W w.heap.size s:=by rw[hW];constructor<;>simp[go_sem]
 have D:RaC W (w.heap.size+1) pn pd:=by rw[hW];constructor<;>simp[go_sem]
 have HS:=zC (hs.bw j7);have HB:=zC fJ;have lA:=A.lt;have lD:=D.lt;have HK:=zC (show ∀ w',Below W.heap.size W w'->(cK w' w.heap.size s (rK0 w' (w.heap.size+1) pn pd)) from λ w' hB=>⟨(A.bw hB).c0,(A.bw hB).c1,(A.bw hB).c2,(A.bw hB).c3,(A.bw hB).c4,(D.bw hB).c0,(D.bw hB).c1⟩)
 have HC:=zC (show decide (0<=zM (H*pd) (pn*Q b))=decide (pn*Q b<=H*pd) by
  unfold zM
  by_cases c:pn*Q b<=H*pd
  ·rw[decide_eq_true c];apply decide_eq_true;split<;>(try split)<;>omega
  ·rw[decide_eq_false c];apply decide_eq_false;rw[if_pos (by omega)];decide)
 clear hs fJ A D
 go_enter Tryz.func68,Tryz.ntmps68
 go_wp2;rw[<- hW];clear hW;have C8:Below W.heap.size W W.drew:=(Below.refl _ _).drew;obtain⟨x0,x1,x2,x3,x4,x5,x6⟩:=zA HK _ (Below.refl _ _)
 go_region_held3 (λ w'=>cK w' w.heap.size s (rK0 w' (w.heap.size+1) pn pd)) (first|exact zA HK _ (by with_reducible first|exact C8|exact J2|exact G0|exact A8|exact o9|exact A6)|(dsimp only[cK,cK0,nK,nK0,rK,rK0];go_keep)|go_keep)
  (first
   | (go_at_call 17;have K4:=G0;refine (jO _ _ _ _ _ _ _ _ _ _ (H*pd) (pn*Q b) _ ((A5.bw m9).bw y9) G6).mono ?_;rintro zz w5 ⟨rfl,D6⟩;have J2:=zB G0 D6)
   | (go_at_call 116;have K4:=A8;rw[zA HB];refine (zBU _ _ _ _ b 4 pn _ E5 (by omega) (by omega)).mono ?_;rintro zz w4 ⟨D8,e4,m4,c4,rfl,G6,y9⟩;have G0:=zB A8 y9)
   | (go_at_call 33;have K4:=o9;refine (zD pn _ (by omega) (by omega)).mono ?_;rintro zz w3 ⟨A7,e3,m3,c3,rfl,E5,m9⟩;have A8:=zB o9 m9)
   | (go_at_call 83;have K4:=A6;refine (zT _ _ _ _ _ _ _ _ 250 4 H pd _ ((zA HS).hi.bw A6) o8 (by omega) (by omega)).mono ?_;rintro zz w2 ⟨j6,e2,m2,c2,rfl,A5,j8⟩;have o9:=zB A6 j8)
   | (go_at_call 33;refine (zD pd _ (by omega) (by omega)).mono ?_;rintro zz w1 ⟨m7,e1,m1,c1,rfl,o8,b9⟩;have A6:=zB C8 b9))
 all_goals
  go_wp2_with fail;refine bodyPost_ret (v:=.bool (decide (pn*Q b<=H*pd))) (by simp[results,Tryz.results68,go_sem,<- zA HC]) rfl ⟨rfl,zB j7 J2⟩
theorem zHF (w:World) (k p q r s pn pd st b:Int) :
  Calls Tryz.prog 64 #[.agg #[.int .i64 k,.int .i64 p,.int .i64 q,.int .i64 r,.int .i64 s],.agg #[.int .i64 pn,.int .i64 pd],.int .i64 st,.int .i64 b] w λ z w'=>z=.returned (.int .i64 (qE k p q r s pn pd st b))/\Below w.heap.size w w':=by
 unfold qE
 by_cases h0:kN k p q r s=0
 case neg =>
  rw[if_pos h0];have h1:(kN k p q r s != 0)=true:=by simpa using h0
  go_enter Tryz.func64,Tryz.ntmps64
  go_wp2_with fail;refine (jI k p q r s _).mono ?_;rintro z w1 ⟨rfl,b9⟩;go_wp2_with fail
  go_ret
  exact⟨rfl,zB (bl2 _ _ _) b9⟩
 rw[if_neg (by simp[h0])]
 have E0:=zC h0;obtain⟨X,hX⟩:∃ X,X=(if zGH pn pd b≠0 then zGH pn pd b else if pn<0\/pd<pn\/st<0\/6<st then 3 else if zG1 k=true/\st≠0 then 6 else 0):=⟨_,rfl⟩
 have HX:=zC hX;rw[<- hX];clear h0 hX
 go_enter Tryz.func64,Tryz.ntmps64
 go_wp2_with fail;refine (jI k p q r s _).mono ?_;rintro z w1 ⟨rfl,b9⟩;rw[zA E0];have A:LwC w1 w.heap.size k p q r s:=LwC.bw ⟨by simp[go_sem],by simp[go_sem],by simp[go_sem],by simp[go_sem],by simp[go_sem]⟩ b9
 have D:RaC w1 (w.heap.size+1) pn pd:=RaC.bw ⟨by simp[go_sem],by simp[go_sem]⟩ b9
 have hB:Below w.heap.size w w1:=zB (bl2 _ _ _) b9;clear b9;have d0:=D.c0;have d1:=D.c1;have lD:=D.lt;go_wp2_with fail;refine (zCV b w1 _ (by simp) pn pd _ _).mono ?_
 rintro z w2 ⟨rfl,j8⟩;replace A:=A.bw j8;replace D:=D.bw j8;replace hB:=zB hB j8;clear j8 d0 d1 lD;obtain⟨d0,d1⟩:=D;have a0:=A.c0;have lA:=A.lt;have lD:w.heap.size+1<w2.heap.size:=World.block_lt_of_cell? w2 ⟨w.heap.size+1,0,none⟩ d0;have hx:=zA HX;clear A HX
 by_cases h1:zGH pn pd b=0
 case neg =>
  rw[if_pos h1] at hx;have h2:(zGH pn pd b != 0)=true:=by simpa using h1
  have HX:=zC hx;clear hx;go_wp2_with fail
  go_ret
  exact⟨by rw[zA HX];rfl,hB⟩
 rw[if_neg (by simp[h1])] at hx
 rw[h1];clear h1
 by_cases g:pn<0\/pd<pn\/st<0\/6<st
 case pos =>
  rw[if_pos g] at hx;have HX:=zC hx;clear hx
  by_cases g1:pn<0
  ·go_wp2_with fail
   go_ret
   exact⟨by rw[zA HX];rfl,hB⟩
  by_cases g2:pd<pn
  ·go_wp2_with fail
   go_ret
   exact⟨by rw[zA HX];rfl,hB⟩
  by_cases g3:st<0
  ·go_wp2_with fail
   go_ret
   exact⟨by rw[zA HX];rfl,hB⟩
  have g4:6<st:=by omega
  go_wp2_with fail
  go_ret
  exact⟨by rw[zA HX];rfl,hB⟩
 rw[if_neg g] at hx;have g1:¬ pn<0:=by omega
 have g2:¬ pd<pn:=by omega
 have g3:¬ st<0:=by omega
 have g4:¬ 6<st:=by omega
 clear g;have hc:∀ c w',zG1 k=c->Calls Tryz.prog 115 #[.int .i64 k] w' λ z I9=>z=.returned (.bool c)/\Below w'.heap.size w' I9:=λ c w' e=>by rw[<- e];exact zG2 k w'
 cases hk:zG1 k
 ·have HC:=zC (λ w'=>hc false w' hk)
  rw[hk,if_neg (by simp)] at hx
  have HX:=zC hx;clear hc hk hx;go_wp2_with fail;refine (zA HC _).mono ?_;rintro z w3 ⟨rfl,m9⟩;go_wp2_with fail
  go_ret
  exact⟨by rw[zA HX];rfl,zB hB m9⟩
 ·have HC:=zC (λ w'=>hc true w' hk)
  rw[hk] at hx
  by_cases hs:st=0
  ·rw[if_neg (by simp[hs])] at hx
   have hs1:(st != 0)=false:=by simp[hs]
   have HX:=zC hx;clear hc hk hx;go_wp2_with fail;refine (zA HC _).mono ?_;rintro z w3 ⟨rfl,m9⟩;go_wp2_with fail
   go_ret
   exact⟨by rw[zA HX];rfl,zB hB m9⟩
  ·rw[if_pos ⟨rfl,hs⟩] at hx
   have hs1:(st != 0)=true:=by simp[hs]
   have HX:=zC hx;clear hc hk hx;go_wp2_with fail;refine (zA HC _).mono ?_;rintro z w3 ⟨rfl,m9⟩;go_wp2_with fail
   go_ret
   exact⟨by rw[zA HX];rfl,zB hB m9⟩
theorem zPL (ff:Nat) (cs:Array Value) (JM:∀ (args:Array Value) (w:World),(callFunc ff args).run Tryz.prog w=.ok (.enter ff args) w) (n:Nat) (T F:Nat->Prop) (W:World) (hn:n<=1000000)
  (hF:∀ (i:Nat) w',i<n->Below W.heap.size W w'->Calls Tryz.prog ff (#[.int .i64 (i:Int)] ++ cs) w' (λ z I9=>∃ c:Bool,z=.returned (.bool c)/\(c=true->T i)/\(c=false->F i)/\Below w'.heap.size w' I9)) :
  Calls Tryz.prog 66 #[.int .i64 (n:Int),.func (.func ff) #[] cs] W (λ z w'=>∃ k:Nat,z=.returned (.int .i64 (k:Int))/\k<=n/\(0<k->F (k-1))/\(k<n->T k)/\Below W.heap.size W w'):=by
 have HF:=zC hF;clear hF
 go_enter Tryz.func66,Tryz.ntmps66
 go_wp2_with fail
 go_loopw [5,6] (λ ii jj wr=>∃ i j:Nat,ii=.int .i64 (i:Int)/\jj=.int .i64 (j:Int)/\i<=j/\j<=n/\Hid ((0<i->F (i-1))/\(j<n->T j))/\Below W.heap.size W wr) (λ ii jj _=>(intOf jj).toNat-(intOf ii).toNat)
 case atStart=>exact⟨0,n,rfl,rfl,Nat.zero_le _,YE _,zC ⟨λ h=>absurd h (Nat.lt_irrefl _),λ h=>absurd h (Nat.lt_irrefl _)⟩,Below.refl _ _⟩
 case round =>
  obtain⟨i,j,rfl,rfl,lK,hj,HI,hB⟩:=hrel
  by_cases D5:i<j
  ·have wM:(i:Int)<(j:Int):=by omega
   obtain⟨h,hh⟩:∃ h,h=(i+j)/2:=⟨_,rfl⟩;have h1:i<=h:=by omega
   have h2:h<j:=by omega
   go_wp2_with fail;have eh:((i:Int)+(j:Int))/2=(h:Int):=by omega
   rw[eh];refine (zA HF h _ (by omega) hB).mono ?_
   rintro z w1 ⟨c,rfl,hT,Qq,b9⟩;have bc:=zC (And.intro hT Qq);replace hB:=zB hB b9;clear hT Qq b9 eh
   cases c
   ·go_wp2_with fail
    go_roundw
    case rel=>exact⟨h+1,j,by go_num,rfl,by omega,hj,zC ⟨λ _=>by first|exact (zA bc).2 trivial|exact (zA bc).2 rfl,(zA HI).2⟩,hB⟩
    case measure=>simp[intOf];omega
   ·go_wp2_with fail
    go_roundw
    case rel=>exact⟨i,h,rfl,by first|rfl|exact congrArg (Value.int .i64) (show ((i:Int)+(j:Int))/2=(h:Int) by omega),h1,by omega,zC ⟨(zA HI).1,λ _=>by first|exact (zA bc).1 trivial|exact (zA bc).1 rfl⟩,hB⟩
    case measure=>simp[intOf];omega
  ·have wM:¬ (i:Int)<(j:Int):=by omega
   have he:i=j:=by omega
   subst he;go_wp2_with fail
   go_ret
   exact⟨i,rfl,hj,(zA HI).1,(zA HI).2,hB⟩
def maX (k p q r s:Int) (n:Nat):Nat->Rat:=if k=6 then (if p<(n:Int) then λ _=>((0:Int):Rat)/((1:Int):Rat) else λ _=>(((ch p.toNat n:Int)*(r ^ n*(s-r) ^ (p.toNat-n)):Int):Rat)/((s ^ p.toNat:Int):Rat)) else zDS p q n
theorem mas_b {x:Nat->Rat} {b:Nat} {L H:Int} (h:zFT b (zEL x) L H):SuB x b L H:=su_b h λ B lo hi ⟨p1,p2,p3,p4,p5⟩=>⟨p4,p2,p5,p1⟩
theorem zSR (w:World) (k p q r s:Int) (n b:Nat) (h0:kN k p q r s=0) (hk:6<=k) (hn:n<=100) (h5:8<=b) (h6:b<=120) :
  Calls Tryz.prog 19 #[.agg #[.int .i64 k,.int .i64 p,.int .i64 q,.int .i64 r,.int .i64 s],.int .i64 (n:Int),.int .i64 (b:Int)] w (λ z w'=>∃ L H,SuB (maX k p q r s n) b L H/\zC3 w b 250 L H 0 z w'):=by
 have k7:=(zAG h0).1
 have mE:masE k p q r s n b=0:=by
  unfold masE;rw[if_neg (by rw[h0];simp),if_neg (by omega),if_neg (by omega),if_neg (by omega)]
 rcases (show k=6\/k=7 by omega) with rfl|rfl
 ·obtain⟨a,c,e,f,g,i⟩:=law_6 h0
  obtain⟨P,rfl⟩:∃ P:Nat,p=(P:Int):=⟨p.toNat,by omega⟩
  have eP:(P:Int).toNat=P:=by omega
  unfold maX;rw[if_pos rfl,eP]
  by_cases hP:(P:Int)<(n:Int)
  ·rw[if_pos hP]
   exact (zLU w 6 P q r s n b _ h5 h6 mE (λ m w9 hm K5=>just_big w9 P q r s n m (by omega) (by omega) hP)).mono λ z w' ⟨L,H,h1,h2⟩=>⟨L,H,mas_b h1,h2⟩
  ·rw[if_neg hP]
   exact (zLU w 6 P q r s n b _ h5 h6 mE (λ m w9 hm K5=>zOX w9 q r s P n m (by omega) (by omega) (by omega) g i a.2.2.1 a.2.2.2)).mono λ z w' ⟨L,H,h1,h2⟩=>⟨L,H,mas_b h1,h2⟩
 ·obtain⟨a,c,e⟩:=law_7 h0
  have em:maX 7 p q r s n=zDS p q n:=by unfold maX;rfl
  rw[em];exact (zLU w 7 p q r s n b _ h5 h6 mE (λ m w9 hm K5=>zRW w9 p q r s n m hm K5 hn a (by omega) e)).mono λ z w' ⟨L,H,h1,h2⟩=>⟨L,H,mas_b h1,h2⟩
theorem lb_mono {R R2:Nat->Rat} {L G:Rat->Nat->Rat} {X:Int->Int->Nat->Rat} (hE:LEnv R R2 L G X) {k p q r s n d n2 d2:Int} (h0:kN k p q r s=0) (d0:0<d) (d20:0<d2) (hle:n*d2<=n2*d):LeN (lbX R R2 L G k p q r s n d) (lbX R R2 L G k p q r s n2 d2):=by
 have k7:=(zAG h0).1
 rcases (show k=1\/k=2\/k=3\/k=4\/k=5\/k=6\/k=7 by omega) with rfl|rfl|rfl|rfl|rfl|rfl|rfl
 ·obtain⟨a,b,c,e⟩:=law_1 h0
  exact noX_mono hE.r hE.r2 (by have:=a.2.2.1;omega) c (by have:=b.2.2.1;omega) d0 d20 hle
 ·obtain⟨a,c,e⟩:=law_2 h0
  exact waX_mono c (by have:=a.2.2.1;omega) d0 d20 hle
 ·obtain⟨a,b,c,e,f,g⟩:=law_3 h0
  exact gaX_mono hE.g (st_law a c e) f (by have:=b.2.2.1;omega) d0 d20 hle
 ·obtain⟨a,b,c,e,f,g⟩:=law_4 h0
  exact beX_mono hE.g.lns c (by have:=a.2.2.1;omega) f (by have:=b.2.2.1;omega) d0 d20 hle
 ·obtain⟨a,c,e⟩:=law_5 h0
  exact stX_mono hE.g.lns c (by have:=a.2.2.1;omega) d0 d20 hle
 ·obtain⟨a,c,e,f,g,i⟩:=law_6 h0
  exact coX_mono g i (by have:=a.2.2.1;omega) d0 d20 hle
 ·obtain⟨a,c,e⟩:=law_7 h0
  exact raX_mono (by omega) (by have:=a.2.2.1;omega) d0 d20 hle
theorem zRY {k p q r s n d b:Int} (h0:kN k p q r s=0) (h1:rok n d) (h2:8<=b) (h3:b<=120):lbE k p q r s n d b=0:=by
 unfold lbE zGH;rw[if_pos h0,if_pos ⟨h1,h2,h3⟩]
theorem zHU {R R2 : Nat → Rat} {L G : Rat → Nat → Rat} {X : Int → Int → Nat → Rat} (hE : LEnv R R2 L G X) (w : World) (k p q r s n d : Int) (b : Nat) (h : lbE k p q r s n d b = 0) :
    Calls Tryz.prog 11 #[.agg #[.int .i64 k, .int .i64 p, .int .i64 q, .int .i64 r, .int .i64 s], .agg #[.int .i64 n, .int .i64 d], .int .i64 (b : Int)] w (fun z w' => ∃ L1 H1, SuB (lbX R R2 L G k p q r s n d) b L1 H1 ∧ zC3 w b 250 L1 H1 0 z w') :=
  (zOI hE w k p q r s n d b).mono fun z w' ⟨bt, L1, H1, e, h1, h2⟩ => by
    rcases h1 with ⟨_, rfl, rfl, h3⟩ | ⟨h3, _⟩
    · exact ⟨L1, H1, by have eb : ((b : Int)).toNat = b := by omega
                        rw [eb] at h3; exact h3, h2⟩
    · exact absurd h h3
def QT (x:Nat->Rat) (pn pd:Int) (b:Nat):Prop:=∃ L H,SuB x b L H/\pn*Q b<=H*pd
def QF (x:Nat->Rat) (pn pd:Int) (b:Nat):Prop:=∃ L H,SuB x b L H/\H*pd<pn*Q b
structure QAt (X:Int->Nat->Rat) (lo hi pn pd:Int) (b j:Nat):Prop where
 le:lo+(j:Int)<=hi+1
 f:0<j->QF (X (lo+(j:Int)-1)) pn pd b
 t:lo+(j:Int)<=hi->QT (X (lo+(j:Int))) pn pd b
theorem shl_Q {st:Nat} (h:st<=6):(2:Int) ^ st=Q st:=by
 rcases (show st=0\/st=1\/st=2\/st=3\/st=4\/st=5\/st=6 by omega) with rfl|rfl|rfl|rfl|rfl|rfl|rfl<;>rfl
theorem q_rok {k:Int} {st j:Nat} (h:st<=6) (hc:zG1 k=true->st=0) (hj:qLo k st+(j:Int)<=qHi k st):rok (qLo k st+(j:Int)) (Q st):=by
 have q:=Q6 h;unfold qLo qHi at *
 by_cases c:zG1 k=true
 ·rw[if_pos c] at *;rw[if_pos c] at hj;exact⟨by omega,by omega,by omega,by omega⟩
 ·rw[if_neg c] at *;rw[if_neg c] at hj;exact⟨by omega,by omega,by omega,by omega⟩
theorem en_qu (args:Array Value) (w:World):(callFunc 67 args).run Tryz.prog w=.ok (.enter 67 args) w:=by simp[go_sem,callFunc,Tryz.func67];kernel_rfl
theorem zPF {R R2:Nat->Rat} {L G:Rat->Nat->Rat} {X:Int->Int->Nat->Rat} (hE:LEnv R R2 L G X) (w:World) (B1 B2 B3 B4 B5:Nat) (k p q r s lst pn pd:Int) (st i b:Nat) (A:LwC w B1 k p q r s) (C2:IcC w B2 lst) (C3:IcC w B3 (st:Int)) (C4:IcC w B4 (b:Int)) (D:RaC w B5 pn pd) (qx:st<=6) (hb:b<=120) (hr:rok pn pd) (hl:rok (lst+(i:Int)) (Q st)) (h0:lbE k p q r s (lst+(i:Int)) (Q st) b=0) :
  Calls Tryz.prog 67 #[.int .i64 (i:Int),.pointer (some ⟨B1,0,none⟩),.pointer (some ⟨B2,0,none⟩),.pointer (some ⟨B3,0,none⟩),.pointer (some ⟨B4,0,none⟩),.pointer (some ⟨B5,0,none⟩)] w (λ z w'=>∃ c:Bool,z=.returned (.bool c)/\(c=true->QT (lbX R R2 L G k p q r s (lst+(i:Int)) (Q st)) pn pd b)/\(c=false->QF (lbX R R2 L G k p q r s (lst+(i:Int)) (Q st)) pn pd b)/\Below w.heap.size w w'):=by
 have HE:=zC hE;have H0:=zC h0;have HR:=zC hr;obtain⟨g1,g2,g3,g4⟩:=hl;have P5:=zC (show IntKind.i64.wrap (lst+(i:Int))=lst+(i:Int) from jB _ (by omega) (by omega))
 have qs:=Q6 qx;have X6:IntKind.i64.wrap ((2:Int) ^ st)=Q st:=by rw[shl_Q qx];exact jB _ (by omega) (by omega)
 have l1:=A.lt;have l2:=C2.lt;have l3:=C3.lt;have l4:=C4.lt;have l5:=D.lt;have HK:=zC (show ∀ w',Below w.heap.size w w'->(rK w' B1 k p (w'.cell? ⟨B1,2,none⟩=some (.int .i64 q)/\w'.cell? ⟨B1,3,none⟩=some (.int .i64 r)/\w'.cell? ⟨B1,4,none⟩=some (.int .i64 s)/\w'.cell? ⟨B2,0,none⟩=some (.int .i64 lst)/\w'.cell? ⟨B3,0,none⟩=some (.int .i64 (st:Int))/\w'.cell? ⟨B4,0,none⟩=some (.int .i64 (b:Int))/\rK0 w' B5 pn pd)) from λ w' hB=>⟨(A.bw hB).c0,(A.bw hB).c1,(A.bw hB).c2,(A.bw hB).c3,(A.bw hB).c4,(C2.bw hB).c0,(C3.bw hB).c0,(C4.bw hB).c0,(D.bw hB).c0,(D.bw hB).c1⟩)
 have ph:=zC X6;clear A C2 C3 C4 hE h0 hr X6
 go_enter Tryz.func67,Tryz.ntmps67
 go_wp2_with fail;obtain⟨x0,x1,x2,x3,x4,x5,x6,x7,x8,x9⟩:=zA HK _ (Below.refl _ _)
 go_cut [8] (λ pz wx=>∃ (B:Nat) (u:Sp) (L1 H1:Int),pz=.pointer (some ⟨B,0,none⟩)/\SuB (lbX R R2 L G k p q r s (lst+(i:Int)) (Q st)) b L1 H1/\w.heap.size<=B/\VrC wx B u/\SpAt wx u 250 (((L1,H1):Int × Int)).1 (((L1,H1):Int × Int)).2/\u.bits=(b:Int)/\Below w.heap.size w wx)
 case first =>
  go_region_held3 (λ w'=>rK w' B1 k p (w'.cell? ⟨B1,2,none⟩=some (.int .i64 q)/\w'.cell? ⟨B1,3,none⟩=some (.int .i64 r)/\w'.cell? ⟨B1,4,none⟩=some (.int .i64 s)/\w'.cell? ⟨B2,0,none⟩=some (.int .i64 lst)/\w'.cell? ⟨B3,0,none⟩=some (.int .i64 (st:Int))/\w'.cell? ⟨B4,0,none⟩=some (.int .i64 (b:Int))/\rK0 w' B5 pn pd)) (exact zA HK _ (by repeat' (first|with_reducible exact H6|with_reducible exact Below.refl _ _|with_reducible refine Below.drew ?_|with_reducible refine zL ?_ _|with_reducible refine Below.setCell ?_ (by first|exact YE _|exact M4) _)))
   (first
    | (go_at_call 11;(try rw[zA P5]);(try rw[zA ph]);refine (zHU (zA HE) _ k p q r s (lst+(i:Int)) (Q st) b (zA H0)).mono ?_;rintro r' aM ⟨L1,H1,Dr,AQ,rfl,Y6,J3,L9⟩;have cn:=zC Y6;have EM:=zC Dr;clear Y6 Dr;have H6:Below w.heap.size w aM:=(by with_reducible first|exact zB (Below.refl _ _).drew L9|exact zB (bl1 _ _).drew L9);(try with_reducible have T9:=((zQ w 31).bw (Below.refl _ _).drew).bw L9);have M4:=H6.size;(try have iA:=T9.lt);(try have IF:=YJ iA);(try have rW:=YI iA);(try obtain⟨bZ,cf,fw,fA,fB,ya⟩:=T9)))
  all_goals
   have hfinS:SpAt aM AQ 250 (((L1,H1):Int × Int)).1 (((L1,H1):Int × Int)).2:=J3;go_wp2_with fail;go_meet;refine⟨_,AQ,L1,H1,rfl,zA EM,?_,⟨⟨?_,?_,?_,?_,?_⟩,?_⟩,?_,zA cn,?_⟩
   ·first|exact YE _|exact M4
   ·simp[go_sem, *]
   ·simp[go_sem, *]
   ·simp[go_sem, *]
   ·simp[go_sem, *]
   ·simp[go_sem, *]
   ·intro o;simp[go_sem, *]
   ·first|with_reducible exact SpAt.put5 hfinS bZ cf fw fA fB _ _ _ _ _|with_reducible exact hfinS.bw (bl1 _ _)
   ·repeat' (first|with_reducible exact H6|with_reducible exact Below.refl _ _|with_reducible refine Below.drew ?_|with_reducible refine zL ?_ _|with_reducible refine Below.setCell ?_ (by first|exact YE _|exact M4) _)
 case rest =>
 obtain⟨BS,xS,L1,H1,rfl,Dr,tj,XS,hpS,hxbS,hblS⟩:=hcut;replace D:=D.bw hblS;have lD:=D.lt;have lS:=XS.lt;have EM:=zC Dr;have EL:=zC hpS;have Tw:=zC hxbS;obtain⟨⟨y0,y1,y2,y3,y4⟩,y5⟩:=XS;obtain⟨d0,d1⟩:=D;clear Dr hpS hxbS x0 x1 x2 x3 x4 x5 x6 x7 x8 x9 HK;go_wp2_with fail;refine (zL3 _ xS pn pd L1 H1 b (zA EL) (zA Tw) hb (zA HR)).mono ?_;rintro z w2 ⟨rfl,j8⟩;have hB:=zB hblS j8;have HF:=zC (show (decide (pn*Q b<=H1*pd)=true->QT (lbX R R2 L G k p q r s (lst+(i:Int)) (Q st)) pn pd b)/\(decide (pn*Q b<=H1*pd)=false->QF (lbX R R2 L G k p q r s (lst+(i:Int)) (Q st)) pn pd b) from⟨λ h=>⟨L1,H1,zA EM,of_decide_eq_true h⟩,λ h=>⟨L1,H1,zA EM,by have:=of_decide_eq_false h;omega⟩⟩)
 clear y0 y1 y2 y3 y4 y5 d0 d1 j8;go_wp2_with fail
 go_ret
 exact⟨_,rfl,(zA HF).1,(zA HF).2,hB⟩
theorem zIW {R R2:Nat->Rat} {L G:Rat->Nat->Rat} {X:Int->Int->Nat->Rat} (hE:LEnv R R2 L G X) (w:World) (k p q r s pn pd:Int) (st b:Nat) (h:qE k p q r s pn pd st b=0) :
  Calls Tryz.prog 27 #[.agg #[.int .i64 k,.int .i64 p,.int .i64 q,.int .i64 r,.int .i64 s],.agg #[.int .i64 pn,.int .i64 pd],.int .i64 (st:Int),.int .i64 (b:Int)] w (λ z w'=>∃ j:Nat,z=.returned (.tuple #[.int .i64 (qLo k st+(j:Int)),.int .i64 0])/\QAt (λ z=>lbX R R2 L G k p q r s z (Q st)) (qLo k st) (qHi k st) pn pd b j/\Below w.heap.size w w'):=by
 have HQ:=zC h;obtain⟨h0,⟨hr,b8,W4⟩,⟨p0,p1,s0,s6⟩,hc⟩:=zIV h;have rH:st<=6:=by omega
 have qs:=Q6 rH
 obtain⟨N,hN⟩:∃ N:Nat,(N:Int)=qHi k st-qLo k st+1/\N<=7000 /\ -3200<=qLo k st/\qHi k st<=3200:=by
  unfold qLo qHi
  by_cases c:zG1 k=true
  ·rw[if_pos c,if_pos c];exact⟨101,by omega,by omega,by omega,by omega⟩
  ·rw[if_neg c,if_neg c];exact⟨(50*Q st - -(50*Q st)+1).toNat,by omega,by omega,by omega,by omega⟩
 obtain⟨T4,Z7,Ae,Ft⟩:=hN;have HE:=zC hE;have H0:=zC h0;have HR:=zC hr;have HC:=zC hc
 have HG:=zC (show ∀ i:Nat,i<N->rok (qLo k st+(i:Int)) (Q st)/\lbE k p q r s (qLo k st+(i:Int)) (Q st) b=0 from λ i hi=>by
  have r:=q_rok (k:=k) (j:=i) rH (λ c=>by have:=hc c;omega) (by omega)
  exact⟨r,zRY h0 r (by omega) (by omega)⟩)
 clear h h0 hr hc hE;obtain⟨lo,cS⟩:∃ lo,lo=qLo k st:=⟨_,rfl⟩;obtain⟨hi,fO⟩:∃ hi,hi=qHi k st:=⟨_,rfl⟩;have Tv:=zC (show ∀ w',Calls Tryz.prog 65 #[.int .i64 k,.int .i64 (st:Int)] w' λ z I9=>z=.returned (.tuple #[.int .i64 lo,.int .i64 hi])/\Below w'.heap.size w' I9 from λ w'=>by rw[cS,fO];exact zOL k st w' rH)
 rw[<- cS,<- fO] at T4;rw[<- cS] at Ae;rw[<- fO] at Ft;rw[<- cS,<- fO];rw[<- cS] at HG;clear cS fO
 go_enter Tryz.func27,Tryz.ntmps27
 go_wp2_with fail;refine (zHF _ k p q r s pn pd st b).mono ?_;rintro z w1 ⟨rfl,b9⟩;rw[zA HQ];have A:LwC w1 (w.heap.size) k p q r s:=LwC.bw ⟨by simp[go_sem],by simp[go_sem],by simp[go_sem],by simp[go_sem],by simp[go_sem]⟩ b9
 have D:RaC w1 (w.heap.size+1) pn pd:=RaC.bw ⟨by simp[go_sem],by simp[go_sem]⟩ b9
 have C3:IcC w1 (w.heap.size+1+1) (st:Int):=IcC.bw ⟨by simp[go_sem]⟩ b9
 have C4:IcC w1 (w.heap.size+1+1+1) (b:Int):=IcC.bw ⟨by simp[go_sem]⟩ b9
 have hB:Below w.heap.size w w1:=zB (bl4 _ _ _ _ _) b9;clear b9;have a0:=A.c0;have lA:=A.lt;have c3:=C3.c0;have l3:=C3.lt;go_wp2_with fail;refine (zA Tv _).mono ?_;rintro z w2 ⟨rfl,j8⟩;obtain⟨V,hV⟩:∃ V,V=w2.alloc (.cells #[.int .i64 lo] 3):=⟨_,rfl⟩;have bV:Below w2.heap.size w2 V:=by rw[hV];exact bl1 _ _
 have C2:IcC V w2.heap.size lo:=by rw[hV];exact⟨by simp[go_sem]⟩
 have M8:=zB j8 bV;replace A:=A.bw M8;replace D:=D.bw M8;replace C3:=C3.bw M8;replace C4:=C4.bw M8;replace hB:=zB hB M8;clear j8 bV M8 a0 lA c3 l3
 go_upto_region 5 with fail
 rw[<- hV];clear hV;have c2:=C2.c0;have l2:=C2.lt;have A9:Below V.heap.size V V.drew:=(Below.refl _ _).drew;have HK:=zC (show ∀ w',Below V.heap.size V w'->(w'.cell? ⟨w2.heap.size,0,none⟩=some (.int .i64 lo)) from λ w' hB=>(C2.bw hB).c0)
 have P5:=zC (show IntKind.i64.wrap (hi-lo)=hi-lo from jB _ (by omega) (by omega))
 have Y7:=zC (show IntKind.i64.wrap (hi-lo+1)=(N:Int) by rw[T4];exact jB _ (by omega) (by omega))
 have cg:=zC (show ∀ W',Below V.heap.size V W'->∀ (i:Nat) w',i<N->Below W'.heap.size W' w'->Calls Tryz.prog 67 #[.int .i64 (i:Int),.pointer (some ⟨w.heap.size,0,none⟩),.pointer (some ⟨w2.heap.size,0,none⟩),.pointer (some ⟨w.heap.size+1+1,0,none⟩),.pointer (some ⟨w.heap.size+1+1+1,0,none⟩),.pointer (some ⟨w.heap.size+1,0,none⟩)] w' (λ z I9=>∃ c:Bool,z=.returned (.bool c)/\(c=true->QT (lbX R R2 L G k p q r s (lo+(i:Int)) (Q st)) pn pd b)/\(c=false->QF (lbX R R2 L G k p q r s (lo+(i:Int)) (Q st)) pn pd b)/\Below w'.heap.size w' I9) from λ W' tx i w' hi' O7=>by
  have M8:=zB tx O7;obtain⟨r1,r2⟩:=zA HG i hi'
  exact zPF (zA HE) w' _ _ _ _ _ k p q r s lo pn pd st i b (A.bw M8) (C2.bw M8) (C3.bw M8) (C4.bw M8) (D.bw M8) rH (by omega) (zA HR) r1 r2)
 clear A D C3 C4
 go_region_held3 (λ w'=>w'.cell? ⟨w2.heap.size,0,none⟩=some (.int .i64 lo)) (first|exact zA HK _ (by with_reducible first|exact A9|exact p9)|go_keep)
  (first
   | (go_at_call 66;(try rw[zA P5]);(try rw[zA Y7]);refine (zPL _ #[.pointer (some ⟨w.heap.size,0,none⟩),.pointer (some ⟨w2.heap.size,0,none⟩),.pointer (some ⟨w.heap.size+1+1,0,none⟩),.pointer (some ⟨w.heap.size+1+1+1,0,none⟩),.pointer (some ⟨w.heap.size+1,0,none⟩)] en_qu N (λ i=>QT (lbX R R2 L G k p q r s (lo+(i:Int)) (Q st)) pn pd b) (λ i=>QF (lbX R R2 L G k p q r s (lo+(i:Int)) (Q st)) pn pd b) _ (by omega) (zA cg _ A9)).mono ?_;rintro zz w3 ⟨j,rfl,hj,hF,hT,m9⟩;have p9:=zB A9 m9;have TE:=zC hF;have Hr:=zC hT;clear hF hT))
 all_goals
  have e3:IntKind.i64.wrap (lo+(j:Int))=lo+(j:Int):=jB _ (by omega) (by omega)
  go_wp2_with fail;refine bodyPost_ret (v:=.tuple #[.int .i64 (lo+(j:Int)),.int .i64 0]) (by simp[results,Tryz.results27,go_sem,e3]) rfl ⟨j,rfl,⟨by omega,λ h=>?_,λ h=>zA Hr (by omega)⟩,zB hB p9⟩
  have e:=zA TE h;have ej:lo+((j-1:Nat):Int)=lo+(j:Int)-1:=by omega
  rw[ej] at e;exact e
theorem zKA (w:World) (k p q r s pn pd st b e:Int) (h:qE k p q r s pn pd st b=e) (he:e≠0) :
  Calls Tryz.prog 27 #[.agg #[.int .i64 k,.int .i64 p,.int .i64 q,.int .i64 r,.int .i64 s],.agg #[.int .i64 pn,.int .i64 pd],.int .i64 st,.int .i64 b] w λ z w'=>z=.returned (.tuple #[.int .i64 0,.int .i64 e])/\Below w.heap.size w w':=by
 have HQ:=zC h;have h1:(e != 0)=true:=by simpa using he
 clear h
 go_enter Tryz.func27,Tryz.ntmps27
 go_wp2_with fail;refine (zHF _ k p q r s pn pd st b).mono ?_;rintro z w1 ⟨rfl,b9⟩;rw[zA HQ];go_wp2_with fail;exact bodyPost_ret (v:=.tuple #[.int .i64 0,.int .i64 e]) (by simp[results,Tryz.results27,go_sem]) rfl ⟨rfl,zB (bl4 _ _ _ _ _) b9⟩
theorem cnt_dec {k:Int} (h1:1<=k) (h7:k<=7):zG1 k=decide (6<=k):=by
 unfold zG1
 by_cases c6:6<=k
 ·rw[decide_eq_true c6]
  rcases (show k=6\/k=7 by omega) with rfl|rfl<;>rfl
 ·rw[decide_eq_false c6]
  have n6:(k == 6)=false:=by simp;omega
  have n7:(k == 7)=false:=by simp;omega
  rw[n6,n7];rfl
theorem zL4 (neg j6:Bool) (a c:Option Addr) (n m cap j9 k k2:Nat) (x y z:Int) (w:World) (h1:IntAt w neg a n cap k x) (h2:IntAt w j6 c m j9 k2 y) (hk:k<=700000000) (aJ:k2<=100000000) (S8:∀ w',IntAt w' neg a n cap k x->IntAt w' j6 c m j9 k2 y->Calls Tryz.prog 126 #[.agg #[.bool neg,.slice a n cap],.agg #[.bool j6,.slice c m j9]] w' (kY w' k z)) :
  Calls Tryz.prog 84 #[.agg #[.bool neg,.slice a n cap],.agg #[.bool j6,.slice c m j9]] w (zCY w (k+8) z):=by
 have HF:=zC S8;clear S8;have le2:w.heap.size<=w.heap.size+1+1:=by omega
 go_enter Tryz.func84,Tryz.ntmps84
 go_wp2_with fail;refine (zA HF _ (h1.bw (bl3 _ _ _ _)) (h2.bw (bl3 _ _ _ _))).mono ?_;rintro r w1 ⟨m7,a1,n1,c1,rfl,o8,b9⟩;obtain⟨C7,C9,D9⟩:=jJ (w.heap.size+1+1+1) (by simp) b9
 go_wp2_with fail;have q0:w1.cell? ⟨w.heap.size+1+1,0,none⟩=some (.bool false):=by simp[C9,go_sem]
 have q1:w1.cell? ⟨w.heap.size+1+1,1,none⟩=some (.slice none 0 0):=by simp[C9,go_sem]
 refine bodyPost_ret (v:=.agg #[.bool m7,.slice a1 n1 c1]) (by simp[results,Tryz.results84,go_sem,q0,q1]) rfl ⟨m7,a1,n1,c1,rfl,o8.put2 q0 q1 _ _,?_⟩
 exact zD2 (zB (bl3 _ _ _ _) b9) le2 _ _
theorem zTH (neg j6:Bool) (a c:Option Addr) (n m cap j9 k k2:Nat) (x y z V:Int) (w:World) (h1:IntAt w neg a n cap k x) (h2:IntAt w j6 c m j9 k2 y) (hk:k<=700000000) (aJ:k2<=100000000) (hV:V=if z*y<x then z+1 else z) (S8:∀ w',IntAt w' neg a n cap k x->IntAt w' j6 c m j9 k2 y->Calls Tryz.prog 126 #[.agg #[.bool neg,.slice a n cap],.agg #[.bool j6,.slice c m j9]] w' (kY w' k z)) :
  Calls Tryz.prog 85 #[.agg #[.bool neg,.slice a n cap],.agg #[.bool j6,.slice c m j9]] w (zCY w (k+9) V):=by
 have HF:=zC S8;clear S8
 by_cases D5:z*y<x
 ·have t1:zM (z*y) x<0:=by simp[zM,D5]
  have HE:=zC (show z+1=V by rw[hV,if_pos D5])
  clear D5 hV
  go_enter Tryz.func85,Tryz.ntmps85
  go_wp2_with fail;refine (zA HF _ (h1.bw (bl3 _ _ _ _)) (h2.bw (bl3 _ _ _ _))).mono ?_;rintro r w1 ⟨m7,a1,n1,c1,rfl,o8,b9⟩;have gm:Below w.heap.size w w1:=zB (bl3 _ _ _ _) b9;obtain⟨C7,C9,D9⟩:=jJ (w.heap.size+1+1+1) (by simp) b9
  have A:NmC w1 w.heap.size ⟨neg,a,n,cap⟩:=⟨by simp[C9,go_sem],by simp[C9,go_sem]⟩
  have G:NmC w1 (w.heap.size+1) ⟨j6,c,m,j9⟩:=⟨by simp[C9,go_sem],by simp[C9,go_sem]⟩
  have R:NoI w1 (w.heap.size+1+1):=⟨by simp[C9,go_sem],by simp[C9,go_sem],λ o=>by simp[D9,go_sem]⟩
  have oJ:=R.lt;clear C9 D9 b9 C7;obtain⟨W1,T5⟩:∃ W',W'=w1.alloc (.cells #[.bool m7,.slice a1 n1 c1] 29):=⟨_,rfl⟩;have D7:Below w1.heap.size w1 W1:=by rw[T5];exact bl1 _ _
  have X:NmC W1 w1.heap.size ⟨m7,a1,n1,c1⟩:=by rw[T5];exact zBZ w1 ⟨m7,a1,n1,c1⟩ _
  replace A:=A.bw D7;replace G:=G.bw D7;replace R:=R.bw D7;have o9:=zB gm D7;have HX:=zC (h1.bw o9);have HY:=zC (h2.bw o9);replace o8:=zC (o8.bw D7);have lR:=R.lt;have lX:=X.lt;have nR:w1.heap.size≠w.heap.size+1+1:=YI oJ;have AL:w.heap.size+1+1≠w1.heap.size:=λ e=>nR e.symm
  have C8:Below W1.heap.size W1 W1.drew:=(Below.refl _ _).drew
  have HK:=zC (show ∀ w',Below W1.heap.size W1 w'->(w'.cell? ⟨w.heap.size,0,none⟩=some (.bool neg)/\w'.cell? ⟨w.heap.size,1,none⟩=some (.slice a n cap)/\w'.cell? ⟨w.heap.size+1,0,none⟩=some (.bool j6)/\w'.cell? ⟨w.heap.size+1,1,none⟩=some (.slice c m j9)/\w'.cell? ⟨w1.heap.size,0,none⟩=some (.bool m7)/\w'.cell? ⟨w1.heap.size,1,none⟩=some (.slice a1 n1 c1)) from λ w' hB =>
   ⟨(A.bw hB).c0,(A.bw hB).c1,(G.bw hB).c0,(G.bw hB).c1,(X.bw hB).c0,(X.bw hB).c1⟩)
  go_wp2;rw[<- T5];clear T5;obtain⟨j0,j1,j2,j3,j4,j5⟩:=zA HK _ (Below.refl _ _)
  go_region_held3 (λ w'=>w'.cell? ⟨w.heap.size,0,none⟩=some (.bool neg)/\w'.cell? ⟨w.heap.size,1,none⟩=some (.slice a n cap)/\w'.cell? ⟨w.heap.size+1,0,none⟩=some (.bool j6)/\w'.cell? ⟨w.heap.size+1,1,none⟩=some (.slice c m j9)/\w'.cell? ⟨w1.heap.size,0,none⟩=some (.bool m7)/\w'.cell? ⟨w1.heap.size,1,none⟩=some (.slice a1 n1 c1)) (exact zA HK _ (by with_reducible first|exact C8|exact J2|exact G0))
   (first
    | (go_at_call 83;refine (zT _ _ _ _ _ _ _ _ (k+8) k2 z y _ ((zA o8).bw C8) ((zA HY).bw C8) (by omega) (by omega)).mono ?_;rintro r w4 ⟨D8,a4,n4,c4,rfl,G6,y9⟩;have G0:=zB C8 y9)
    | (go_at_call 17;refine (jO _ _ _ _ _ _ _ _ (k+8+k2) k (z*y) x _ G6 ((zA HX).bw G0)).mono ?_;rintro r w5 ⟨rfl,D6⟩;have J2:=zB G0 D6))
  clear j0 j1 j2 j3 j4 j5;have X5:=X.bw J2;have R5:=R.bw J2;have La:=R5.lt;have Lc:=X5.lt;obtain⟨j4,j5⟩:=X5;obtain⟨q0,q1,q2⟩:=R5;have A9:Below w5.heap.size w5 w5.drew:=(Below.refl _ _).drew;have X5:NmC w5 w1.heap.size ⟨m7,a1,n1,c1⟩:=⟨j4,j5⟩;have R5:NoI w5 (w.heap.size+1+1):=⟨q0,q1,q2⟩;have nS:=zC (show ∀ w',Below w5.heap.size w5 w'->(w'.cell? ⟨w1.heap.size,0,none⟩=some (.bool m7)/\w'.cell? ⟨w1.heap.size,1,none⟩=some (.slice a1 n1 c1)) from λ w' hB=>⟨(X5.bw hB).c0,(X5.bw hB).c1⟩)
  go_wp2
  go_region_held3 (λ w'=>w'.cell? ⟨w1.heap.size,0,none⟩=some (.bool m7)/\w'.cell? ⟨w1.heap.size,1,none⟩=some (.slice a1 n1 c1)) (first|exact zA nS _ (by with_reducible first|exact A9|exact gz|exact kf)|go_keep)
   (first
    | (go_at_call 33;refine (zD 1 _ (by decide) (by decide)).mono ?_;rintro r w6 ⟨bO,a6,n6,c6,rfl,bC,K7⟩;have kf:=zB A9 K7)
    | (go_at_call 32;refine (zAE _ _ _ _ _ _ _ _ (k+8) 4 z 1 _ (((zA o8).bw J2).bw kf) bC (by omega) (by omega)).mono ?_;rintro r w7 ⟨cP,a7,n7,c7,rfl,ie,Q4⟩;have gz:=zB kf Q4;obtain⟨p0,p1,p2⟩:=R5.bw gz;obtain⟨i0,i1⟩:=zA nS _ gz))
  go_wp2;refine bodyPost_ret (v:=.agg #[.bool cP,.slice a7 n7 c7]) (by simp[results,Tryz.results85,go_sem,p0,p1]) rfl ⟨cP,a7,n7,c7,rfl,?_,?_⟩
  ·rw[zA HE] at ie
   exact (ie.put2 p0 p1 _ _).mono (by omega)
  ·exact zD2 (zB (zB o9 J2) gz) (by omega) _ _
 ·have t1:¬ zM (z*y) x<0:=zEP D5
  have HE:=zC (show z=V by rw[hV,if_neg D5])
  clear D5 hV
  go_enter Tryz.func85,Tryz.ntmps85
  go_wp2_with fail;refine (zA HF _ (h1.bw (bl3 _ _ _ _)) (h2.bw (bl3 _ _ _ _))).mono ?_;rintro r w1 ⟨m7,a1,n1,c1,rfl,o8,b9⟩;have gm:Below w.heap.size w w1:=zB (bl3 _ _ _ _) b9;obtain⟨C7,C9,D9⟩:=jJ (w.heap.size+1+1+1) (by simp) b9
  have A:NmC w1 w.heap.size ⟨neg,a,n,cap⟩:=⟨by simp[C9,go_sem],by simp[C9,go_sem]⟩
  have G:NmC w1 (w.heap.size+1) ⟨j6,c,m,j9⟩:=⟨by simp[C9,go_sem],by simp[C9,go_sem]⟩
  have R:NoI w1 (w.heap.size+1+1):=⟨by simp[C9,go_sem],by simp[C9,go_sem],λ o=>by simp[D9,go_sem]⟩
  have oJ:=R.lt;clear C9 D9 b9 C7;obtain⟨W1,T5⟩:∃ W',W'=w1.alloc (.cells #[.bool m7,.slice a1 n1 c1] 29):=⟨_,rfl⟩;have D7:Below w1.heap.size w1 W1:=by rw[T5];exact bl1 _ _
  have X:NmC W1 w1.heap.size ⟨m7,a1,n1,c1⟩:=by rw[T5];exact zBZ w1 ⟨m7,a1,n1,c1⟩ _
  replace A:=A.bw D7;replace G:=G.bw D7;replace R:=R.bw D7;have o9:=zB gm D7;have HX:=zC (h1.bw o9);have HY:=zC (h2.bw o9);replace o8:=zC (o8.bw D7);have lR:=R.lt;have lX:=X.lt;have nR:w1.heap.size≠w.heap.size+1+1:=YI oJ;have AL:w.heap.size+1+1≠w1.heap.size:=λ e=>nR e.symm
  have C8:Below W1.heap.size W1 W1.drew:=(Below.refl _ _).drew
  have HK:=zC (show ∀ w',Below W1.heap.size W1 w'->(w'.cell? ⟨w.heap.size,0,none⟩=some (.bool neg)/\w'.cell? ⟨w.heap.size,1,none⟩=some (.slice a n cap)/\w'.cell? ⟨w.heap.size+1,0,none⟩=some (.bool j6)/\w'.cell? ⟨w.heap.size+1,1,none⟩=some (.slice c m j9)/\w'.cell? ⟨w1.heap.size,0,none⟩=some (.bool m7)/\w'.cell? ⟨w1.heap.size,1,none⟩=some (.slice a1 n1 c1)) from λ w' hB =>
   ⟨(A.bw hB).c0,(A.bw hB).c1,(G.bw hB).c0,(G.bw hB).c1,(X.bw hB).c0,(X.bw hB).c1⟩)
  go_wp2;rw[<- T5];clear T5;obtain⟨j0,j1,j2,j3,j4,j5⟩:=zA HK _ (Below.refl _ _)
  go_region_held3 (λ w'=>w'.cell? ⟨w.heap.size,0,none⟩=some (.bool neg)/\w'.cell? ⟨w.heap.size,1,none⟩=some (.slice a n cap)/\w'.cell? ⟨w.heap.size+1,0,none⟩=some (.bool j6)/\w'.cell? ⟨w.heap.size+1,1,none⟩=some (.slice c m j9)/\w'.cell? ⟨w1.heap.size,0,none⟩=some (.bool m7)/\w'.cell? ⟨w1.heap.size,1,none⟩=some (.slice a1 n1 c1)) (exact zA HK _ (by with_reducible first|exact C8|exact J2|exact G0))
   (first
    | (go_at_call 83;refine (zT _ _ _ _ _ _ _ _ (k+8) k2 z y _ ((zA o8).bw C8) ((zA HY).bw C8) (by omega) (by omega)).mono ?_;rintro r w4 ⟨D8,a4,n4,c4,rfl,G6,y9⟩;have G0:=zB C8 y9)
    | (go_at_call 17;refine (jO _ _ _ _ _ _ _ _ (k+8+k2) k (z*y) x _ G6 ((zA HX).bw G0)).mono ?_;rintro r w5 ⟨rfl,D6⟩;have J2:=zB G0 D6))
  clear j0 j1 j2 j3 j4 j5;have X5:=X.bw J2;have R5:=R.bw J2;have La:=R5.lt;have Lc:=X5.lt;obtain⟨j4,j5⟩:=X5;obtain⟨q0,q1,q2⟩:=R5;go_wp2;refine bodyPost_ret (v:=.agg #[.bool m7,.slice a1 n1 c1]) (by simp[results,Tryz.results85,go_sem,q0,q1]) rfl ⟨m7,a1,n1,c1,rfl,?_,?_⟩
  ·replace o8:=(zA o8).bw J2
   rw[zA HE] at o8;exact (o8.put2 q0 q1 _ _).mono (by omega)
  ·exact zD2 (zB o9 J2) (by omega) _ _
theorem zKH (neg j6:Bool) (a c:Option Addr) (n m cap j9 k k2 b:Nat) (x y z V:Int) (w:World) (h1:IntAt w neg a n cap k x) (h2:IntAt w j6 c m j9 k2 y) (hk:k<=600000000) (aJ:k2<=100000000) (hb:b<=100000) (hV:V=if z*y<x*Q b then z+1 else z)
  (S8:∀ m8 a' n' o7 w',IntAt w' m8 a' n' o7 (k+b/16+5) (x*Q b)->IntAt w' j6 c m j9 k2 y->Calls Tryz.prog 126 #[.agg #[.bool m8,.slice a' n' o7],.agg #[.bool j6,.slice c m j9]] w' (kY w' (k+b/16+5) z)) :
  Calls Tryz.prog 43 #[.agg #[.bool neg,.slice a n cap],.agg #[.bool j6,.slice c m j9],.int .i64 b] w (zH w b (k+b/16+14) z V):=by
 have HF:=zC S8;have Ia:=zC hV;clear S8 hV;obtain⟨W,hW⟩:∃ W,W=((w.alloc (.cells #[.bool neg,.slice a n cap] 29)).alloc (.cells #[.bool j6,.slice c m j9] 29)).alloc (.cells zCq 38):=⟨_,rfl⟩;have j7:Below w.heap.size w W:=by rw[hW];exact bl3 _ _ _ _
 have A:NmC W w.heap.size ⟨neg,a,n,cap⟩:=by rw[hW];constructor<;>simp[go_sem]
 have G:NmC W (w.heap.size+1) ⟨j6,c,m,j9⟩:=by rw[hW];constructor<;>simp[go_sem]
 have R:NoC W (w.heap.size+1+1):=by rw[hW];constructor<;>simp[go_sem]
 have HX:=zC (h1.bw j7);have HY:=zC (h2.bw j7);have HK:=zC (show ∀ w',Below W.heap.size W w'->(w'.cell? ⟨w.heap.size,0,none⟩=some (.bool neg)/\w'.cell? ⟨w.heap.size,1,none⟩=some (.slice a n cap)) from λ w' hB=>⟨(A.bw hB).c0,(A.bw hB).c1⟩)
 go_enter Tryz.func43,Tryz.ntmps43
 go_wp2;rw[<- hW];clear hW;obtain⟨i0,i1⟩:=A;have lW:=G.lt;have lR:=R.lt
 go_cut [7] (λ p wx=>VarAt wx p W.heap.size (k+b/16+5) (x*Q b)/\Below W.heap.size W wx)
 case first =>
  go_region_held3 (λ w'=>w'.cell? ⟨w.heap.size,0,none⟩=some (.bool neg)/\w'.cell? ⟨w.heap.size,1,none⟩=some (.slice a n cap)) (exact zA HK _ (by repeat' (first|with_reducible exact L4|with_reducible exact H7|with_reducible exact Below.refl _ _|with_reducible refine Below.drew ?_|with_reducible refine zL ?_ _|with_reducible refine Below.setCell ?_ (by first|exact YE _|exact S4|exact S5) _)))
   (first
    | (go_at_call 83;have hq:=H7;refine (zT _ _ _ _ _ _ _ _ k (b/16+5) x (Q b) _ ((zA HX).bw (by with_reducible first|exact H7|exact zL H7 _)) (L6.bw (by with_reducible first|exact Below.refl _ _|exact bl1 _ _)) (by omega) (by omega)).mono ?_;rintro r gW ⟨fX,EV,Gd,EZ,rfl,bK,R0⟩;have Q1:Below bX.heap.size bX gW:=(by with_reducible first|exact R0|exact zB (bl1 _ _) R0);have L4:=zB H7 Q1;(try with_reducible have dh:=(jL bX 29).bw R0);replace L6:=L6.bw Q1;(try replace ah:=ah.bw Q1);have S5:=L4.size;(try have mD:=ah.lt);(try have IH:=YJ mD);(try have rX:=YI mD);(try obtain⟨yn,yo,yq⟩:=ah);(try have mF:=dh.lt);(try have II:=YJ mF);(try have rY:=YI mF);(try obtain⟨yr,yt,yw⟩:=dh))
    | (go_at_call 82;refine (zCB b _ (by omega)).mono ?_;rintro r bX ⟨mH,Il,Lo,Iq,rfl,L6,Q9⟩;have H7:Below W.heap.size W bX:=(by with_reducible first|exact zB (Below.refl _ _).drew Q9|exact zB (bl1 _ _).drew Q9);(try with_reducible have ah:=((jL W 29).bw (Below.refl _ _).drew).bw Q9);have S4:=H7.size))
  all_goals
   go_wp2_with fail;go_meet;refine⟨⟨_,⟨fX,EV,Gd,EZ⟩,rfl,?_,?_,?_,?_,?_⟩,?_⟩
   ·simp[go_sem, *]
   ·simp[go_sem, *]
   ·first|with_reducible exact IntAt.mono (bK.bw (bl1 _ _)) (by omega)|with_reducible exact IntAt.mono (bK.put2 (by assumption) (by assumption) _ _) (by omega)
   ·first|exact YE _|exact S4|exact S5
   ·simp[World.setCell];try omega
   ·repeat' (first|with_reducible exact L4|with_reducible exact H7|with_reducible exact Below.refl _ _|with_reducible refine Below.drew ?_|with_reducible refine zL ?_ _|with_reducible refine Below.setCell ?_ (by first|exact YE _|exact S4|exact S5) _)
 case rest =>
 obtain⟨⟨BX,xX,rfl,rv,ry,dN,pJ,hltX⟩,hblX⟩:=hcut;have XX:NmC wc BX xX:=⟨rv,ry⟩;clear i0 i1 HK;replace G:=G.bw hblX;replace R:=R.bw hblX;replace HY:=zC ((zA HY).bw hblX);replace dN:=zC dN;have ae:=R.lt;have FV:=XX.lt;have nR:BX≠w.heap.size+1+1:=YI (YH lR pJ);have AL:w.heap.size+1+1≠BX:=λ e=>nR e.symm
 have gj:=zB j7 hblX;have A9:Below wc.heap.size wc wc.drew:=(Below.refl _ _).drew;have HK:=zC (show ∀ w',Below wc.heap.size wc w'->(nK w' BX xX (w'.cell? ⟨w.heap.size+1,0,none⟩=some (.bool j6)/\w'.cell? ⟨w.heap.size+1,1,none⟩=some (.slice c m j9))) from λ w' hB=>⟨(XX.bw hB).c0,(XX.bw hB).c1,(G.bw hB).c0,(G.bw hB).c1⟩)
 obtain⟨i2,i3⟩:=G;go_wp2
 go_region_held3 (λ w'=>nK w' BX xX (w'.cell? ⟨w.heap.size+1,0,none⟩=some (.bool j6)/\w'.cell? ⟨w.heap.size+1,1,none⟩=some (.slice c m j9))) (first|exact zA HK _ (by with_reducible first|exact A9|exact s9|exact p9)|(dsimp only[cK,cK0,nK,nK0,rK,rK0];go_keep)|go_keep)
  (first
   | (go_at_call 84;refine (zL4 _ _ _ _ _ _ _ _ (k+b/16+5) k2 (x*Q b) y z _ ((zA dN).bw A9) ((zA HY).bw A9) (by omega) (by omega) (λ w' p q=>zA HF _ _ _ _ w' p q)).mono ?_;rintro r w1 ⟨m7,a1,n1,c1,rfl,o8,b9⟩;have p9:=zB A9 b9)
   | (go_at_call 85;refine (zTH _ _ _ _ _ _ _ _ (k+b/16+5) k2 (x*Q b) y z V _ ((zA dN).bw p9) ((zA HY).bw p9) (by omega) (by omega) (zA Ia) (λ w' p q=>zA HF _ _ _ _ w' p q)).mono ?_;rintro r w2 ⟨A7,a3,n3,c3,rfl,E5,j8⟩;replace o8:=o8.bw j8;have s9:=zB p9 j8;obtain⟨q0,q1,q2,q3,q4,q5⟩:=R.bw s9;obtain⟨d0,d1,d2,d3⟩:=zA HK _ s9))
 go_wp2;refine bodyPost_ret (v:=.agg #[.bool m7,.slice a1 n1 c1,.bool A7,.slice a3 n3 c3,.int .i64 b]) (by simp[results,Tryz.results43,go_sem,q0,q1,q2,q3,q4]) rfl ⟨⟨m7,a1,n1,c1,A7,a3,n3,c3,b⟩,rfl,rfl,?_,?_⟩
 ·exact SpAt.put5 ⟨o8.mono (by omega),E5.mono (by omega)⟩ q0 q1 q2 q3 q4 _ _ _ _ _
 ·exact jY (zB gj s9) (by omega) _ _ _ _ _
theorem floor_no (neg j6:Bool) (a c:Option Addr) (n m cap j9 k k2:Nat) (y:Int) (w:World) (h2:IntAt w j6 c m j9 k2 y) (hy:y<=0) :
  Calls Tryz.prog 126 #[.agg #[.bool neg,.slice a n cap],.agg #[.bool j6,.slice c m j9]] w (kY w k 0):=by
 have cc:zM y 0<=0:=by unfold zM;split<;>(try split)<;>omega
 have H2:=zC (h2.bw (bl3 w (.cells #[.bool neg,.slice a n cap] 29) (.cells #[.bool j6,.slice c m j9] 29) (.cells #[.bool false,.slice none 0 0] 29)));clear h2
 go_enter Tryz.func126,Tryz.ntmps126
 go_wp2_with fail;refine (zBS _ _ _ _ k2 y _ (zA H2)).mono ?_;rintro z w1 ⟨rfl,b9⟩;have R:NoI w1 (w.heap.size+1+1):=NoI.bw ⟨by simp[go_sem],by simp[go_sem],λ o=>by simp[go_sem]⟩ b9
 have lR:=R.lt;have hB:Below w.heap.size w w1:=zB (bl3 _ _ _ _) b9;clear b9;obtain⟨q0,q1,q2⟩:=R;go_wp2_with fail;refine bodyPost_ret (v:=.agg #[.bool false,.slice none 0 0]) (by simp[results,Tryz.results126,go_sem,q0,q1]) rfl ⟨false,none,0,0,rfl,zD3 _ _,?_⟩
 exact zD2 hB (by omega) _ _
theorem zDU (p q z V:Int) (b:Nat) (w:World) (r1 : -9223372036854775808<=p) (r2:p<=9223372036854775807) (r3 : -9223372036854775808<=q) (r4:q<=9223372036854775807) (hb:b<=100000) (hV:V=if z*q<p*Q b then z+1 else z) (S8:∀ m8 a' n' o7 j6 c m j9 w',IntAt w' m8 a' n' o7 (4+b/16+5) (p*Q b)->IntAt w' j6 c m j9 4 q->Calls Tryz.prog 126 #[.agg #[.bool m8,.slice a' n' o7],.agg #[.bool j6,.slice c m j9]] w' (kY w' (4+b/16+5) z)) :
  Calls Tryz.prog 34 #[.agg #[.int .i64 p,.int .i64 q],.int .i64 b] w (zH w b (b/16+18) z V):=by
 have TF:=zC S8;have Ia:=zC hV;clear S8 hV;obtain⟨W,hW⟩:∃ W,W=(w.alloc (.cells #[.int .i64 p,.int .i64 q] 23)).alloc (.cells zCq 38):=⟨_,rfl⟩;have j7:Below w.heap.size w W:=by rw[hW];exact bl2 _ _ _
 have k0:W.cell? ⟨w.heap.size,0,none⟩=some (.int .i64 p):=by rw[hW];simp[go_sem]
 have k1:W.cell? ⟨w.heap.size,1,none⟩=some (.int .i64 q):=by rw[hW];simp[go_sem]
 have lw:w.heap.size<W.heap.size:=by rw[hW];simp;omega
 have R:NoC W (w.heap.size+1):=by rw[hW];constructor<;>simp[go_sem]
 have lR:=R.lt;have C8:Below W.heap.size W W.drew:=(Below.refl _ _).drew;have HK:=zC (show ∀ w',Below W.heap.size W w'->(rK0 w' w.heap.size p q) from λ w' hB=>⟨(hB.cell (p:=⟨w.heap.size,0,none⟩) lw).trans k0,(hB.cell (p:=⟨w.heap.size,1,none⟩) lw).trans k1⟩)
 go_enter Tryz.func34,Tryz.ntmps34
 go_wp2;rw[<- hW];clear hW
 go_region_held3 (λ w'=>rK0 w' w.heap.size p q) (first|exact zA HK _ (by with_reducible first|exact C8|exact A8|exact o9|exact A6)|(dsimp only[cK,cK0,nK,nK0,rK,rK0];go_keep)|go_keep)
  (first
   | (go_at_call 33;have hq:=A6;refine (zD q _ (by omega) (by omega)).mono ?_;rintro r w2 ⟨j6,a2,n2,c2,rfl,A5,j8⟩;replace o8:=o8.bw j8;have o9:=zB A6 j8)
   | (go_at_call 33;refine (zD p _ (by omega) (by omega)).mono ?_;rintro r w1 ⟨m7,a1,n1,c1,rfl,o8,b9⟩;have A6:=zB C8 b9)
   | (go_at_call 43;refine (zKH _ _ _ _ _ _ _ _ 4 4 b p q z V _ o8 A5 (by omega) (by omega) hb (zA Ia) (λ m8 a' n' o7 w' p1 p2=>zA TF m8 a' n' o7 _ _ _ _ w' p1 p2)).mono ?_;rintro r w3 ⟨s,rfl,cV,oK,m9⟩;have cY:=zC cV;clear cV;have A8:=zB o9 m9;obtain⟨q0,q1,q2,q3,q4,q5⟩:=R.bw A8;obtain⟨i0,i1⟩:=zA HK _ A8))
 go_wp2;refine bodyPost_ret (v:=.agg s.q) (by simp[results,Tryz.results34,go_sem,q0,q1,q2,q3,q4]) rfl ⟨s,rfl,zA cY,?_,?_⟩
 ·exact SpAt.put5 (oK.mono (by omega)) q0 q1 q2 q3 q4 _ _ _ _ _
 ·exact jY (zB j7 A8) (Nat.le_succ _) _ _ _ _ _
theorem zGI (p q:Int) (b:Nat) (w:World) (r1 : -9223372036854775808<=p) (r2:p<=9223372036854775807) (r3 : -9223372036854775808<=q) (r4:q<=9223372036854775807) (hb:b<=120) :
  Calls Tryz.prog 34 #[.agg #[.int .i64 p,.int .i64 q],.int .i64 b] w (λ r w'=>∃ lo hi,zH w b 60 lo hi r w'):=by
 by_cases hq:0<q
 ·exact (zDU p q (p*Q b/q) _ b w r1 r2 r3 r4 (by omega) rfl (λ m8 a' n' o7 j6 c m j9 w' p1 p2=>yI _ _ _ _ _ _ _ _ _ 4 _ _ w' p1 p2 (by omega) hq)).mono λ r w' ⟨s,e1,e2,e3,e4⟩=>⟨_,_,s,e1,e2,e3.mono (by omega),e4⟩
 ·exact (zDU p q 0 _ b w r1 r2 r3 r4 (by omega) rfl (λ m8 a' n' o7 j6 c m j9 w' p1 p2=>floor_no _ _ _ _ _ _ _ _ _ 4 _ w' p2 (by omega))).mono λ r w' ⟨s,e1,e2,e3,e4⟩=>⟨_,_,s,e1,e2,e3.mono (by omega),e4⟩
theorem zGG (k:Nat) (w:World) (hk:k<=6):Calls Tryz.prog 69 #[.int .i64 2,.int .i64 (k:Int)] w λ z w'=>z=.returned (.int .i64 (Q k))/\Below w.heap.size w w':=by
 go_enter Tryz.func69,Tryz.ntmps69
 go_wp2_with fail
 go_loopw [5,6] (λ oo ii wr=>∃ i:Nat,oo=.int .i64 (Q i)/\ii=.int .i64 (i:Int)/\i<=k/\wr=w) (λ _ ii _=>k-(intOf ii).toNat)
 case atStart=>exact⟨0,rfl,rfl,Nat.zero_le _,rfl⟩
 case round =>
  obtain⟨i,rfl,rfl,hi,rfl⟩:=hrel
  by_cases I7:i<k
  ·have gI:(i:Int)<(k:Int):=by omega
   have q:=zE i;have q6:=zJ (show i<=6 by omega)
   have e6:Q 6=64:=rfl;rw[e6] at q6;obtain⟨Z,dL⟩:∃ Z,Z=Q i:=⟨_,rfl⟩;have Ie:=zC dL;rw[<- dL];rw[<- dL] at q q6;clear e6 dL;go_wp2_with fail
   go_roundw
   case rel=>exact⟨i+1,by rw[show Q (i+1)=Z*2 by rw[zA Ie];show 2*Q i=_;omega],by go_num,by omega,by first|trivial|rfl⟩
   case measure=>simp[intOf];omega
  ·have gI:¬ (i:Int)<(k:Int):=by omega
   have he:i=k:=by omega
   subst he;go_wp2_with fail
   go_ret
   exact⟨rfl,Below.refl _ _⟩
theorem zTG (w:World) (k p q r s:Int) (st:Nat) (qx:st<=6) (h1:1<=k) (h7:k<=7):Calls Tryz.prog 31 #[.agg #[.int .i64 k,.int .i64 p,.int .i64 q,.int .i64 r,.int .i64 s],.int .i64 (st:Int)] w λ z w'=>z=.returned (.tuple #[.int .i64 (qLo k st),.int .i64 (qHi k st)])/\Below w.heap.size w w':=by
 have qs:=Q6 qx;have Ak:zG1 k=decide (6<=k):=cnt_dec h1 h7
 by_cases c6:6<=k
 ·have e1:qLo k st=0:=by unfold qLo;rw[Ak,decide_eq_true c6,if_pos rfl]
  have e2:qHi k st=100:=by unfold qHi;rw[Ak,decide_eq_true c6,if_pos rfl]
  rw[e1,e2];clear Ak e1 e2
  go_enter Tryz.func31,Tryz.ntmps31
  go_wp2_with fail;exact bodyPost_ret (v:=.tuple #[.int .i64 0,.int .i64 100]) (by simp[results,Tryz.results31,go_sem]) rfl ⟨rfl,bl1 _ _⟩
 ·obtain⟨Z,dL⟩:∃ Z,Z=Q st:=⟨_,rfl⟩
  have e1:qLo k st = -50*Z:=by unfold qLo;rw[Ak,decide_eq_false c6,if_neg (by simp),dL];omega
  have e2:qHi k st=50*Z:=by unfold qHi;rw[Ak,decide_eq_false c6,if_neg (by simp),dL]
  have HR:=zC (show ∀ w',Calls Tryz.prog 69 #[.int .i64 2,.int .i64 (st:Int)] w' λ z I9=>z=.returned (.int .i64 Z)/\Below w'.heap.size w' I9 from λ w'=>by rw[dL];exact zGG st w' qx)
  rw[e1,e2];rw[<- dL] at qs;clear Ak e1 e2 dL
  go_enter Tryz.func31,Tryz.ntmps31
  go_wp2_with fail;refine (zA HR _).mono ?_;rintro z w1 ⟨rfl,b9⟩;go_wp2_with fail;refine (zA HR _).mono ?_;rintro z w2 ⟨rfl,j8⟩;go_wp2_with fail;exact bodyPost_ret (v:=.tuple #[.int .i64 (-50*Z),.int .i64 (50*Z)]) (by simp[results,Tryz.results31,go_sem]) rfl ⟨rfl,zB (zB (bl1 _ _) b9) j8⟩
theorem zE7 (w:World):Calls Tryz.prog 9 #[] w λ r w'=>r=.returned (.bool true)/\Below w.heap.size w w':=by
 obtain⟨R,R2,L0,GG,X,hE⟩:=zLS;have hl:kN 6 2 1 1 2=0:=by decide
 have HE:=zC hE;clear hE
 go_enter Tryz.func9,Tryz.ntmps9
 go_wp2_with fail;refine (zHU (zA HE) _ 6 2 1 1 2 1 1 20 (zRY hl ⟨by decide,by decide,by decide,by decide⟩ (by decide) (by decide))).mono ?_
 rintro r' w1 ⟨L1,H1,hv,s,rfl,cV,hs,b9⟩
 have e3:lbX R R2 L0 GG 6 2 1 1 2 1 1=λ _=>((3:Int):Rat)/((4:Int):Rat):=by
  have:lbX R R2 L0 GG 6 2 1 1 2 1 1=coX (2:Int).toNat 1 2 1 1:=by unfold lbX;rfl
  rw[this]
  funext M
  have a:zC0 (zD4 ((2:Int).toNat:Nat) 1 2) (coN (2:Int).toNat 1 1)=3:=by decide
  have c:(2:Int) ^ (2:Int).toNat=4:=by decide
  unfold coX;rw[a,c]
 have Vl:=zC (zHL (a:=(L1,H1)) hv.v.val (by rw[e3];exact Iv.of 20 (n:=3) (d:=4) (by decide)))
 have FZ:=hv.v.le;have HN:=zC hv.v.nar;have C:LwC w1 w.heap.size 6 2 1 1 2:=(kV w 6 2 1 1 2 _).bw b9;have hB:Below w.heap.size w w1:=zB (bl1 _ _) b9;have cY:=zC cV;clear b9 cV e3 hv;have lC:=C.lt;obtain⟨x0,x1,x2,x3,x4⟩:=C;go_wp2_with fail;refine (zSR _ 6 2 1 1 2 1 20 hl (by decide) (by decide) (by decide) (by decide)).mono ?_
 rintro r' w2 ⟨L2,H2,hv,t,rfl,I8,ht,j8⟩;have e2:maX 6 2 1 1 2 1=λ _=>((2:Int):Rat)/((4:Int):Rat):=by unfold maX;rfl
 have Vm:=zC (zHL (a:=(L2,H2)) hv.v.val (by
  rw[e2];have i:=Iv.of 20 (n:=1) (d:=2) (by decide)
  exact Has.of_eq i λ M=>by decide +kernel))
 have S:SpC w2 w1.heap.size s:=(zB2 w1 s _).bw j8;replace hs:=(hs.bw (bl1 _ _)).bw j8;replace hB:=zB (zL hB _) j8;have zk:=zC I8;clear j8 I8 x0 x1 x2 x3 x4 e2 hv;have lS:=S.lt;have S2:=S;have lS2:=S2.lt;obtain⟨V,hV⟩:∃ V,V=w2.alloc (.cells t.q 31):=⟨_,rfl⟩;have bV:Below w2.heap.size w2 V:=by rw[hV];exact bl1 _ _
 have T:SpC V w2.heap.size t:=by rw[hV];exact zB2 _ _ _
 replace S:=S.bw bV;replace hs:=hs.bw bV;replace ht:=ht.bw bV;replace hB:=zB hB bV;clear bV lS;have lS:=S.lt;have lT:=T.lt;obtain⟨x0,x1,x2,x3,x4⟩:=S2;go_wp2_with fail;rw[<- hV];refine (zKF _ s).mono ?_;rintro r' w3 ⟨rfl,m9⟩;clear hV x0 x1 x2 x3 x4;replace S:=S.bw m9;replace T:=T.bw m9;replace hB:=zB hB m9;replace hs:=hs.bw m9;replace ht:=ht.bw m9;clear m9;go_wp2_with fail;refine (zD 3 _ (by decide) (by decide)).mono ?_
 rintro r' w4 ⟨D8,a4,n4,c4,rfl,G6,y9⟩;replace S:=S.bw y9;replace T:=T.bw y9;replace hB:=zB hB y9;replace hs:=hs.bw y9;replace ht:=ht.bw y9;clear y9;go_wp2_with fail;refine (zD 4 _ (by decide) (by decide)).mono ?_
 rintro r' w5 ⟨M7,a5,n5,c5,rfl,P6,D6⟩;replace G6:=G6.bw D6;replace S:=S.bw D6;replace T:=T.bw D6;replace hB:=zB hB D6;replace hs:=hs.bw D6;replace ht:=ht.bw D6;clear D6;go_wp2_with fail;refine (zCW _ _ _ _ _ _ _ _ 4 4 20 3 4 _ G6 P6 (by omega) (by omega) (by omega) (by decide) (λ m8 a' n' o7 w' p1 p2=>yI _ _ _ _ _ _ _ _ _ 4 _ _ w' p1 p2 (by omega) (by decide))).mono ?_
 rintro r' w6 ⟨u,rfl,B8,B7,K7⟩;have iD:=zC B8;clear B8;replace S:=S.bw K7;replace T:=T.bw K7;replace hB:=zB hB K7;replace hs:=hs.bw K7;replace ht:=ht.bw K7;clear K7;go_wp2_with fail;refine (touch_le _ s u 250 0 0 L1 H1 _ _ hs (B7.mono (by omega)) (by omega) (by have:=zA cY;omega) (by have:=zA cY;omega) (by have:=zA iD;omega) (by have:=zA iD;omega) (by have:=zA cY;have:=zA iD;omega) (by omega) (by have:=zA cY;have:=zA iD;omega)).mono ?_
 rintro r' w7 ⟨rfl,Q4⟩;rw[show touB L1 H1 0 ((3:Int)*Q 20/4) (-(-((3:Int)*Q 20)/4)) 0=true from zA Vl]
 clear iD B7 P6 G6;replace S:=S.bw Q4;replace T:=T.bw Q4;replace hB:=zB hB Q4;replace hs:=hs.bw Q4;replace ht:=ht.bw Q4;clear Q4;obtain⟨x0,x1,x2,x3,x4⟩:=S;obtain⟨y0,y1,y2,y3,y4⟩:=T;go_wp2_with fail;refine (zKF _ t).mono ?_;rintro r' w8 ⟨rfl,Y1⟩;have S:=SpC.mk x0 x1 x2 x3 x4;have T:=SpC.mk y0 y1 y2 y3 y4;clear x0 x1 x2 x3 x4 y0 y1 y2 y3 y4;replace S:=S.bw Y1;replace T:=T.bw Y1;replace hB:=zB hB Y1;replace hs:=hs.bw Y1;replace ht:=ht.bw Y1;clear Y1;go_wp2_with fail;refine (zD 1 _ (by decide) (by decide)).mono ?_
 rintro r' w9 ⟨neg9,a9,n9,c9,rfl,FC,Z2⟩;replace S:=S.bw Z2;replace T:=T.bw Z2;replace hB:=zB hB Z2;replace hs:=hs.bw Z2;replace ht:=ht.bw Z2;clear Z2;go_wp2_with fail;refine (zD 2 _ (by decide) (by decide)).mono ?_
 rintro r' gV ⟨Sr,a10,Lj,iJ,rfl,CD,O5⟩;replace FC:=FC.bw O5;replace S:=S.bw O5;replace T:=T.bw O5;replace hB:=zB hB O5;replace hs:=hs.bw O5;replace ht:=ht.bw O5;clear O5;go_wp2_with fail;refine (zCW _ _ _ _ _ _ _ _ 4 4 20 1 2 _ FC CD (by omega) (by omega) (by omega) (by decide) (λ m8 a' n' o7 w' p1 p2=>yI _ _ _ _ _ _ _ _ _ 4 _ _ w' p1 p2 (by omega) (by decide))).mono ?_
 rintro r' w11 ⟨u,rfl,B8,B7,gC⟩;have iD:=zC B8;clear B8;replace S:=S.bw gC;replace T:=T.bw gC;replace hB:=zB hB gC;replace hs:=hs.bw gC;replace ht:=ht.bw gC;clear gC;go_wp2_with fail;refine (touch_le _ t u 250 0 0 L2 H2 _ _ ht (B7.mono (by omega)) (by omega) (by have:=zA zk;omega) (by have:=zA zk;omega) (by have:=zA iD;omega) (by have:=zA iD;omega) (by have:=zA zk;have:=zA iD;omega) (by omega) (by have:=zA zk;have:=zA iD;omega)).mono ?_
 rintro r' w12 ⟨rfl,ay⟩;rw[show touB L2 H2 0 ((1:Int)*Q 20/2) (-(-((1:Int)*Q 20)/2)) 0=true from zA Vm]
 clear iD B7 CD FC;replace S:=S.bw ay;replace T:=T.bw ay;replace hB:=zB hB ay;replace hs:=hs.bw ay;replace ht:=ht.bw ay;clear ay;obtain⟨x0,x1,x2,x3,x4⟩:=S;obtain⟨y0,y1,y2,y3,y4⟩:=T;go_wp2_with fail;refine (zIR _ s 20 L1 H1 hs (zA cY) (by omega) FZ (zA HN)).mono ?_
 rintro r' wz ⟨rfl,QH⟩;replace hB:=zB hB QH;go_wp2_with fail
 go_ret
 exact⟨rfl,hB⟩
theorem zTX {x:Nat->Rat} {b:Nat} {L H:Int} (h:SuB x b L H):H-L<=8:=by
 have q:=zE b;have n:=h.v.nar;have l:=h.lo;have u:=h.hi;have e:=h.v.le;unfold zK2 at n;have n':=of_decide_eq_true n;have m:zFK H (-L)<=Q b:=by unfold zFK;split<;>omega
 have m2:(H-L)*Q b<=8*Q b:=by
  have:=YD (show Q b+zFK H (-L)<=2*Q b by omega) (show (0:Int)<=4 by decide)
  omega
 exact Int.le_of_mul_le_mul_right m2 q
theorem zTW {N D:Int} (hD:0<D) {b:Nat} {L H:Int} {x:Nat->Rat} (h:SuB x b L H) (hx:x=λ _=>(N:Rat)/(D:Rat)):L*D<=N*Q b/\N*Q b<=H*D:=by
 have v:=h.v.val;rw[hx] at v;obtain⟨h1,h2⟩:=Has.of_const v;have q:=jH b;have d:(0:Rat)<(D:Rat):=by exact_mod_cast hD
 constructor
 ·have m:=YB (YB h1 (YC q)) (YC d)
  simp only[] at m;rw[rdm q] at m;have e:(N:Rat)/(D:Rat)*(Q b:Rat)*(D:Rat)=(N:Rat)/(D:Rat)*(D:Rat)*(Q b:Rat):=by grind
  rw[e,rdm d,<- YG,<- YG] at m
  exact_mod_cast m
 ·have m:=YB (YB h2 (YC q)) (YC d)
  simp only[] at m;rw[rdm q] at m;have e:(N:Rat)/(D:Rat)*(Q b:Rat)*(D:Rat)=(N:Rat)/(D:Rat)*(D:Rat)*(Q b:Rat):=by grind
  rw[e,rdm d,<- YG,<- YG] at m
  exact_mod_cast m
theorem q_two {R R2:Nat->Rat} {L G:Rat->Nat->Rat} {j:Nat} (h:QAt (λ z=>lbX R R2 L G 6 3 1 1 2 z (Q 0)) (qLo 6 0) (qHi 6 0) 3 5 20 j):j=2:=by
 have lo:qLo 6 0=0:=rfl;have hi:qHi 6 0=100:=rfl;have xc:Q 20=1048576:=rfl;obtain⟨h1,h2,h3⟩:=h;rw[lo] at h1 h2 h3;rw[hi] at h1 h3
 have ex:∀ z:Int,lbX R R2 L G 6 3 1 1 2 z (Q 0)=λ _=>((zC0 (zD4 (3:Nat) 1 2) (coN 3 z 1):Int):Rat)/((8:Int):Rat):=λ z=>by
  have:lbX R R2 L G 6 3 1 1 2 z (Q 0)=coX (3:Int).toNat 1 2 z (Q 0):=by unfold lbX;rfl
  rw[this];rfl
 have c1:zC0 (zD4 (3:Nat) 1 2) (coN 3 0 1)=1:=by decide
 have c2:zC0 (zD4 (3:Nat) 1 2) (coN 3 1 1)=4:=by decide
 have c3:zC0 (zD4 (3:Nat) 1 2) 3=7:=by decide
 have c4:zC0 (zD4 (3:Nat) 1 2) 4=8:=by decide
 rcases (show j=0\/j=1\/j=2\/3<=j by omega) with rfl|rfl|rfl|hj
 ·obtain⟨a,b,s,t⟩:=h3 (by omega)
  have w:=zTX s;have v:=(zTW (N:=1) (D:=8) (by decide) s (by have:=ex 0;rw[c1] at this;exact this)).1
  rw[xc] at *;omega
 ·obtain⟨a,b,s,t⟩:=h3 (by omega)
  have w:=zTX s;have v:=(zTW (N:=4) (D:=8) (by decide) s (by have:=ex 1;rw[c2] at this;exact this)).1
  rw[xc] at *;omega
 ·rfl
 ·obtain⟨a,b,s,t⟩:=h2 (by omega)
  have w:=zTX s
  have cN:7<=zC0 (zD4 (3:Nat) 1 2) (coN 3 (0+(j:Int)-1) 1):=by
   by_cases c:j=3
   ·subst c;decide
   ·have e:coN 3 (0+(j:Int)-1) 1=4:=by unfold coN;rw[Int.ediv_one];omega
    rw[e,c4];decide
  have v:=(zTW (N:=zC0 (zD4 (3:Nat) 1 2) (coN 3 (0+(j:Int)-1) 1)) (D:=8) (by decide) s (ex _)).2
  rw[xc] at *;omega
theorem zCD (w:World):Calls Tryz.prog 30 #[] w λ z w'=>z=.returned (.bool true)/\Below w.heap.size w w':=by
 obtain⟨R,R2,L0,GG,X,hE⟩:=zLS;have HE:=zC hE;clear hE
 go_enter Tryz.func30,Tryz.ntmps30
 go_wp2_with fail;refine (zIW (zA HE) _ 6 3 1 1 2 3 5 0 20 (by decide)).mono ?_
 rintro z w1 ⟨j,rfl,hq,b9⟩;have hj:=q_two hq;subst hj;clear hq;have e2:qLo 6 0+((2:Nat):Int)=2:=rfl;rw[e2];clear e2;go_wp2_with fail
 go_ret
 exact⟨rfl,b9⟩
end Go.Proofs.YtgmnknmjainabacGreat
