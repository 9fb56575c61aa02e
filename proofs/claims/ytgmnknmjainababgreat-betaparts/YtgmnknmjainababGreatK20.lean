/-
  Its own texts.
-/
import Derived.Test.YtgmnknmjainababGreatK19
set_option maxRecDepth 100000
set_option maxHeartbeats 40000000
set_option linter.unnecessarySimpa false
set_option linter.unusedSimpArgs false
set_option linter.unusedVariables false
namespace Go.Proofs.YtgmnknmjainababGreat
open Go.RowKit
attribute [local go_sem ↓] Go.wp_at_zero Go.wp_at_succ
structure RootSt (w wr:World) (b K i:Nat) (l:Nat->Rat) (ss:Sp) (a:Int × Int):Prop where
 s:VrC wr w.heap.size ss
 sp:SpAt wr ss K a.1 a.2
 sb:ss.bits=(b:Int)
 iv:RInv b l i a
 no:NoC wr (w.heap.size+1)
 be:Below w.heap.size w wr
theorem RootSt.bw {w wr wr':World} {b K i:Nat} {l:Nat->Rat} {ss:Sp} {a:Int × Int} (h:RootSt w wr b K i l ss a) (hb:Below wr.heap.size wr wr'):RootSt w wr' b K i l ss a :=
 ⟨h.s.bw hb,h.sp.bw hb,h.sb,h.iv,h.no.bw hb,zB h.be hb⟩
theorem add_le2 {x:Int × Int} (h:x.1<=x.2):(jJ x (-2,2)).1<=(jJ x (-2,2)).2:=by unfold jJ;simp only[];omega
theorem zG5 (w:World) (s:Sp) (k b K:Nat) (a:Int × Int) (l:Nat->Rat) (hs:SpAt w s k a.1 a.2) (hbits:s.bits=(b:Int)) (hkK:k<=K) (hl:Ex.Bdd l) (hx:Iv b a (Ex.Ev l)) (h1:Q b<=a.1) (h2:a.1<=a.2) (h3:a.2<=2*Q b) (hb:b<=100000) (b9:20<=b) (hK:Q (b+20)<P K) (Z4:K<=1000000) (rR:b/16+18<=K) :
  Calls Tryz.prog 169 #[.agg s.q] w (λ r w'=>∃ o:Int × Int,Iv b o l/\Abs o (3*Q b)/\zJ w b (K+30) o.1 o.2 r w'):=by
 obtain⟨W,hW⟩:∃ W,W=(w.alloc (.cells s.q 36)).alloc (.cells zCq 36):=⟨_,rfl⟩;have b8:Below w.heap.size w W:=by rw[hW];exact bl2 _ _ _
 have A:VrC W w.heap.size s:=by rw[hW];exact⟨⟨by simp[go_sem],by simp[go_sem],by simp[go_sem],by simp[go_sem],by simp[go_sem]⟩,λ o=>by simp[go_sem]⟩
 have R:NoC W (w.heap.size+1):=by rw[hW];constructor<;>simp[go_sem]
 have N9:RootSt w W b K 0 l s a:=⟨A,(hs.bw b8).mono hkK,hbits,zNF hx h1 h2 h3,R,b8⟩;clear A R hs hbits hx h1 h2 h3
 go_enter Tryz.func169,Tryz.ntmps169
 go_wp2;rw[<- hW];clear hW
 go_loopw [3] (λ nn wr=>∃ (i:Nat) (ss:Sp) (c:Int × Int),nn=.int .i64 (i:Int)/\i<=8/\RootSt w wr b K i l ss c) (λ nn _=>8-(intOf nn).toNat)
 case atStart=>exact⟨0,s,a,rfl,by omega,N9⟩
 case round =>
  obtain⟨i,ss,c,rfl,hi,st⟩:=hrel;clear N9;have ls:=st.s.lt
  by_cases JF:i<8
  ·have O9:(i:Int)<8:=by omega
   obtain⟨g0,g1,g2,g3,g4,g5,g6,g7,g8⟩:=ss;have hg:g8=(b:Int):=st.sb;subst hg;obtain⟨⟨y0,y1,y2,y3,y4⟩,y5⟩:=st.s;go_wp2_with fail;refine (kT b _ (by omega)).mono ?_
   rintro r' w1 ⟨g9,a1,n1,c1,rfl,k9,b7⟩;replace st:=st.bw b7;clear b7 y0 y1 y2 y3 y4 y5 ls;have l1:=st.s.lt;obtain⟨V1,M4⟩:∃ V1,V1=w1.alloc (.cells #[.bool g9,.slice a1 n1 c1] 26):=⟨_,rfl⟩;have aX:Below w1.heap.size w1 V1:=by rw[M4];exact bl1 _ _
   have NP:NmC V1 w1.heap.size ⟨g9,a1,n1,c1⟩:=by rw[M4];constructor<;>simp[go_sem]
   replace st:=st.bw aX;replace k9:=k9.bw aX;clear aX;go_wp2_with fail;rw[<- M4];clear M4;have K9:=zC st;have hO:=zC st.sp;have HP:=zC k9;have m8:Below V1.heap.size V1 V1.drew:=(Below.refl _ _).drew;have HK:=zC (show ∀ w',Below V1.heap.size V1 w'->(w'.cell? ⟨w.heap.size,0,none⟩=some (.bool g0)/\w'.cell? ⟨w.heap.size,1,none⟩=some (.slice g1 g2 g3)/\w'.cell? ⟨w.heap.size,2,none⟩=some (.bool g4)/\w'.cell? ⟨w.heap.size,3,none⟩=some (.slice g5 g6 g7)/\w'.cell? ⟨w.heap.size,4,none⟩=some (.int .i64 (b:Int))/\w'.cell? ⟨w1.heap.size,0,none⟩=some (.bool g9)/\w'.cell? ⟨w1.heap.size,1,none⟩=some (.slice a1 n1 c1)) from λ w' hB=>⟨(st.s.bw hB).c.c0,(st.s.bw hB).c.c1,(st.s.bw hB).c.c2,(st.s.bw hB).c.c3,(st.s.bw hB).c.c4,(NP.bw hB).c0,(NP.bw hB).c1⟩)
   clear st k9 NP;refine AnyL.start (S:=λ w'=>w'.cell? ⟨w.heap.size,0,none⟩=some (.bool g0)/\w'.cell? ⟨w.heap.size,1,none⟩=some (.slice g1 g2 g3)/\w'.cell? ⟨w.heap.size,2,none⟩=some (.bool g4)/\w'.cell? ⟨w.heap.size,3,none⟩=some (.slice g5 g6 g7)/\w'.cell? ⟨w.heap.size,4,none⟩=some (.int .i64 (b:Int))/\w'.cell? ⟨w1.heap.size,0,none⟩=some (.bool g9)/\w'.cell? ⟨w1.heap.size,1,none⟩=some (.slice a1 n1 c1)) (l:=15) (by kernel_rfl) (zA HK _ m8) (λ hHeld=>?_)
   refine AnyL.take (i:=0) (oi:={ dst:=some 12,op:=Go.Op.fieldAddr 36 (Go.Operand.tmp 1) 0,type:=0,pos := "func.go:93",after:=#[],guard:=none }) (v:=.pointer (some ⟨w.heap.size,0,none⟩)) rfl (by kernel_rfl) (by kernel_rfl) (by kernel_rfl) (by kernel_rfl) (λ _ _ _ h=>h) (Or.inl ⟨by rfl,λ w hSw=>?_⟩) hHeld ?_
   ·obtain⟨s0,s1,s2,s3,s4,s5,s6⟩:=hSw;go_simp
   try simp only[Act.put,XH,XI,XJ]
   refine AnyL.take (i:=1) (oi:={ dst:=some 13,op:=Go.Op.load 26 (Go.Operand.tmp 12),type:=26,pos := "func.go:93",after:=#[{ on:=0,ground:=Go.Ground.data }],guard:=none }) (v:=.agg #[.bool g0,.slice g1 g2 g3]) rfl (by kernel_rfl) (by kernel_rfl) (by kernel_rfl) (by kernel_rfl) (λ _ _ _ h=>h) (Or.inl ⟨by rfl,λ w hSw=>?_⟩) hHeld ?_
   ·obtain⟨s0,s1,s2,s3,s4,s5,s6⟩:=hSw;go_simp
   try simp only[Act.put,XH,XI,XJ]
   refine AnyL.take (i:=2) (oi:={ dst:=some 14,op:=Go.Op.load 26 (Go.Operand.tmp 4),type:=26,pos := "func.go:93",after:=#[],guard:=none }) (v:=.agg #[.bool g9,.slice a1 n1 c1]) rfl (by kernel_rfl) (by kernel_rfl) (by kernel_rfl) (by kernel_rfl) (λ _ _ _ h=>h) (Or.inl ⟨by rfl,λ w hSw=>?_⟩) hHeld ?_
   ·obtain⟨s0,s1,s2,s3,s4,s5,s6⟩:=hSw;go_simp
   try simp only[Act.put,XH,XI,XJ]
   refine AnyL.take (i:=5) (oi:={ dst:=some 17,op:=Go.Op.fieldAddr 36 (Go.Operand.tmp 1) 1,type:=0,pos := "func.go:93",after:=#[],guard:=none }) (v:=.pointer (some ⟨w.heap.size,2,none⟩)) rfl (by kernel_rfl) (by kernel_rfl) (by kernel_rfl) (by kernel_rfl) (λ _ _ _ h=>h) (Or.inl ⟨by rfl,λ w hSw=>?_⟩) hHeld ?_
   ·obtain⟨s0,s1,s2,s3,s4,s5,s6⟩:=hSw;go_simp
   try simp only[Act.put,XH,XI,XJ]
   refine AnyL.take (i:=6) (oi:={ dst:=some 18,op:=Go.Op.load 26 (Go.Operand.tmp 17),type:=26,pos := "func.go:93",after:=#[{ on:=5,ground:=Go.Ground.data }],guard:=none }) (v:=.agg #[.bool g4,.slice g5 g6 g7]) rfl (by kernel_rfl) (by kernel_rfl) (by kernel_rfl) (by kernel_rfl) (λ _ _ _ h=>h) (Or.inl ⟨by rfl,λ w hSw=>?_⟩) hHeld ?_
   ·obtain⟨s0,s1,s2,s3,s4,s5,s6⟩:=hSw;go_simp
   try simp only[Act.put,XH,XI,XJ]
   refine AnyL.take (i:=7) (oi:={ dst:=some 19,op:=Go.Op.load 26 (Go.Operand.tmp 4),type:=26,pos := "func.go:93",after:=#[],guard:=none }) (v:=.agg #[.bool g9,.slice a1 n1 c1]) rfl (by kernel_rfl) (by kernel_rfl) (by kernel_rfl) (by kernel_rfl) (λ _ _ _ h=>h) (Or.inl ⟨by rfl,λ w hSw=>?_⟩) hHeld ?_
   ·obtain⟨s0,s1,s2,s3,s4,s5,s6⟩:=hSw;go_simp
   try simp only[Act.put,XH,XI,XJ]
   refine AnyL.take (i:=12) (oi:={ dst:=some 24,op:=Go.Op.fieldAddr 36 (Go.Operand.tmp 1) 2,type:=0,pos := "func.go:93",after:=#[],guard:=none }) (v:=.pointer (some ⟨w.heap.size,4,none⟩)) rfl (by kernel_rfl) (by kernel_rfl) (by kernel_rfl) (by kernel_rfl) (λ _ _ _ h=>h) (Or.inl ⟨by rfl,λ w hSw=>?_⟩) hHeld ?_
   ·obtain⟨s0,s1,s2,s3,s4,s5,s6⟩:=hSw;go_simp
   try simp only[Act.put,XH,XI,XJ]
   refine AnyL.take (i:=13) (oi:={ dst:=some 25,op:=Go.Op.load 3 (Go.Operand.tmp 24),type:=3,pos := "func.go:93",after:=#[{ on:=12,ground:=Go.Ground.data }],guard:=none }) (v:=.int .i64 (b:Int)) rfl (by kernel_rfl) (by kernel_rfl) (by kernel_rfl) (by kernel_rfl) (λ _ _ _ h=>h) (Or.inl ⟨by rfl,λ w hSw=>?_⟩) hHeld ?_
   ·obtain⟨s0,s1,s2,s3,s4,s5,s6⟩:=hSw;go_simp
   try simp only[Act.put,XH,XI,XJ]
   refine AnyL.one (i:=3) (o:={ dst:=some 15,op:=Go.Op.call { callee:=Go.Callee.value (Go.Operand.func 66),args:=#[Go.Operand.tmp 13,Go.Operand.tmp 14],argTypes:=#[26,26] },type:=26,pos := "func.go:93",after:=#[{ on:=1,ground:=Go.Ground.data },{ on:=2,ground:=Go.Ground.data }],guard:=none }) (by kernel_rfl) rfl (λ Kc A0=>?_)
   go_simp
   refine (zW _ _ _ _ _ _ _ _ K (b/16+5) c.1 (Q b) _ ((zA hO).lo.bw m8) ((zA HP).bw m8) (by omega) (by omega)).mono ?_
   rintro r' v1 ⟨eQ,a9,n9,c9,rfl,h1,hb⟩;have j7:=zB m8 hb;clear hb;go_wp2_with fail;refine A0.out _ _ (zA HK _ j7) (λ hHeld=>?_)
   clear A0 Kc
   try simp only[Act.put,XH,XI,XJ]
   refine AnyL.one (i:=4) (o:={ dst:=some 16,op:=Go.Op.call { callee:=Go.Callee.value (Go.Operand.func 189),args:=#[Go.Operand.tmp 15],argTypes:=#[26] },type:=26,pos := "func.go:93",after:=#[{ on:=3,ground:=Go.Ground.data },{ on:=3,ground:=Go.Ground.chain }],guard:=none }) (by kernel_rfl) rfl (λ Kc A0=>?_)
   go_simp
   refine (zLJ _ _ _ _ _ (c.1*Q b) _ h1 (by omega)).mono ?_
   rintro r' v2 ⟨z,hz,b6,a2,n2,c2,rfl,h2,hb⟩;have j9:=zB j7 hb;clear hb;have HZ:=zC hz;clear hz h1;go_wp2_with fail;refine A0.out _ _ (zA HK _ j9) (λ hHeld=>?_)
   clear A0 Kc
   try simp only[Act.put,XH,XI,XJ]
   refine AnyL.one (i:=8) (o:={ dst:=some 20,op:=Go.Op.call { callee:=Go.Callee.value (Go.Operand.func 66),args:=#[Go.Operand.tmp 18,Go.Operand.tmp 19],argTypes:=#[26,26] },type:=26,pos := "func.go:93",after:=#[{ on:=6,ground:=Go.Ground.data },{ on:=7,ground:=Go.Ground.data },{ on:=4,ground:=Go.Ground.chain }],guard:=none }) (by kernel_rfl) rfl (λ Kc A0=>?_)
   go_simp
   refine (zW _ _ _ _ _ _ _ _ K (b/16+5) c.2 (Q b) _ ((zA hO).hi.bw j9) ((zA HP).bw j9) (by omega) (by omega)).mono ?_
   rintro r' v3 ⟨p9,a3,n3,c3,rfl,h3,hb⟩;have y9:=zB j9 hb;replace h2:=h2.bw hb;clear hb;go_wp2_with fail;refine A0.out _ _ (zA HK _ y9) (λ hHeld=>?_)
   clear A0 Kc
   try simp only[Act.put,XH,XI,XJ]
   refine AnyL.one (i:=9) (o:={ dst:=some 21,op:=Go.Op.call { callee:=Go.Callee.value (Go.Operand.func 189),args:=#[Go.Operand.tmp 20],argTypes:=#[26] },type:=26,pos := "func.go:93",after:=#[{ on:=8,ground:=Go.Ground.data },{ on:=8,ground:=Go.Ground.chain }],guard:=none }) (by kernel_rfl) rfl (λ Kc A0=>?_)
   go_simp
   refine (zLJ _ _ _ _ _ (c.2*Q b) _ h3 (by omega)).mono ?_
   rintro r' v4 ⟨t,ht,o9,a4,n4,c4,rfl,h4,hb⟩;have C8:=zB y9 hb;replace h2:=h2.bw hb;clear hb;have HT:=zC ht;clear ht h3;go_wp2_with fail;refine A0.out _ _ (zA HK _ C8) (λ hHeld=>?_)
   clear A0 Kc
   try simp only[Act.put,XH,XI,XJ]
   refine AnyL.one (i:=10) (o:={ dst:=some 22,op:=Go.Op.call { callee:=Go.Callee.value (Go.Operand.func 43),args:=#[Go.Operand.const (Go.Value.int Go.IntKind.i64 1)],argTypes:=#[3] },type:=26,pos := "func.go:93",after:=#[{ on:=9,ground:=Go.Ground.chain }],guard:=none }) (by kernel_rfl) rfl (λ Kc A0=>?_)
   go_simp
   refine (zD 1 _ (by decide) (by decide)).mono ?_
   rintro r' v5 ⟨G9,a5,n5,c5,rfl,h5,hb⟩;have I5:=zB C8 hb;replace h2:=h2.bw hb;replace h4:=h4.bw hb;clear hb;go_wp2_with fail;refine A0.out _ _ (zA HK _ I5) (λ hHeld=>?_)
   clear A0 Kc
   try simp only[Act.put,XH,XI,XJ]
   refine AnyL.one (i:=11) (o:={ dst:=some 23,op:=Go.Op.call { callee:=Go.Callee.value (Go.Operand.func 65),args:=#[Go.Operand.tmp 21,Go.Operand.tmp 22],argTypes:=#[26,26] },type:=26,pos := "func.go:93",after:=#[{ on:=9,ground:=Go.Ground.data },{ on:=10,ground:=Go.Ground.data },{ on:=10,ground:=Go.Ground.chain }],guard:=none }) (by kernel_rfl) rfl (λ Kc A0=>?_)
   go_simp
   refine (kX _ _ _ _ _ _ _ _ _ _ t 1 _ h4 h5 (by omega) (by omega)).mono ?_
   rintro r' v6 ⟨D4,a6,n6,c6,rfl,h6,hb⟩;have I6:=zB I5 hb;replace h2:=h2.bw hb;clear hb;clear h4 h5;go_wp2_with fail;refine A0.out _ _ (zA HK _ I6) (λ hHeld=>?_)
   clear A0 Kc
   try simp only[Act.put,XH,XI,XJ]
   refine AnyL.take (i:=14) (oi:={ dst:=some 26,op:=Go.Op.build 36 #[(0,Go.Operand.tmp 16),(1,Go.Operand.tmp 23),(2,Go.Operand.tmp 25)],type:=36,pos := "func.go:93",after:=#[{ on:=4,ground:=Go.Ground.data },{ on:=11,ground:=Go.Ground.data },{ on:=13,ground:=Go.Ground.data }],guard:=none }) (v:=.agg #[.bool b6,.slice a2 n2 c2,.bool D4,.slice a6 n6 c6,.int .i64 (b:Int)]) rfl (by kernel_rfl) (by kernel_rfl) (by kernel_rfl) (by kernel_rfl) (λ _ _ _ h=>h) (Or.inl ⟨by rfl,λ w hSw=>?_⟩) hHeld ?_
   ·obtain⟨s0,s1,s2,s3,s4,s5,s6⟩:=hSw;go_simp
   try simp only[Act.put,XH,XI,XJ]
   refine AnyL.last (o:={ dst:=none,op:=Go.Op.store 36 (Go.Operand.tmp 1) (Go.Operand.tmp 26),type:=0,pos := "func.go:93",after:=#[{ on:=14,ground:=Go.Ground.data },{ on:=11,ground:=Go.Ground.chain },{ on:=0,ground:=Go.Ground.phase },{ on:=1,ground:=Go.Ground.phase },{ on:=2,ground:=Go.Ground.phase },{ on:=3,ground:=Go.Ground.phase },{ on:=4,ground:=Go.Ground.phase },{ on:=5,ground:=Go.Ground.phase },{ on:=6,ground:=Go.Ground.phase },{ on:=7,ground:=Go.Ground.phase },{ on:=8,ground:=Go.Ground.phase },{ on:=9,ground:=Go.Ground.phase },{ on:=10,ground:=Go.Ground.phase },{ on:=11,ground:=Go.Ground.phase },{ on:=12,ground:=Go.Ground.phase },{ on:=13,ground:=Go.Ground.phase },{ on:=14,ground:=Go.Ground.phase }],guard:=none }) (by kernel_rfl) rfl (by kernel_rfl) (λ Kc A0=>?_)
   obtain⟨y0,y1,y2,y3,y4,_,_⟩:=hHeld;have y5:=((zA K9).s.bw I6).fz;have lD:=((zA K9).s.bw I6).lt
   go_simp
   refine A0.out _ _ ?_;clear A0 Kc
   have stn:RootSt w (zQ v6 w.heap.size ⟨b6,a2,n2,c2,D4,a6,n6,c6,(b:Int)⟩) b K (i+1) l ⟨b6,a2,n2,c2,D4,a6,n6,c6,(b:Int)⟩ (z,t+1):=by
    have st:=(zA K9).bw I6;have hq:=zG b;have cc1:=st.iv.lo;have cc2:=st.iv.le;have m1:=Int.mul_pos (show 0<c.1 by omega) (show 0<Q b by omega)
    have m2:=Int.mul_pos (show 0<c.2 by omega) (show 0<Q b by omega)
    obtain⟨z0,_,z1⟩:=zA HZ;obtain⟨t0,_,t1⟩:=zA HT;have iv:=zP0 hl st.iv z0 (z1 m1).1 (z1 m1).2 t0 (t1 m2).1 (t1 m2).2;have sp0:SpAt v6 ⟨b6,a2,n2,c2,D4,a6,n6,c6,(b:Int)⟩ (2*K+b+100) z (t+1):=⟨h2.mono (by omega),h6.mono (by omega)⟩
    have hh:=iv.hi;have qi:=zG (i+1)
    have VQ:t+1<=2*Q b+2:=by
     refine Int.not_lt.1 λ hn=>?_
     have:=XR (show 1<=Q (i+1) by omega) (show 0<=t+1-Q b-2 by omega)
     simp only[] at hh;omega
    have Im:Q (b+20)=Q b*1048576:=by rw[jD];rfl
    have sp1:=sp0.fits (K:=K) iv.le (by have:=iv.lo;simp only[] at this;omega) (by omega)
    exact⟨st.s.put _,sp1.put st.s.c _,rfl,iv,st.no.off (by omega) _,jC st.be (XW _) _⟩
   unfold zQ at stn;go_wp2_with fail
   go_roundw
   case rel=>exact⟨i+1,_,_,by go_num,by omega,stn⟩
   case measure=>simp[intOf];omega
  ·have HI:=zC (show i=8 by omega)
   have O9:¬ (i:Int)<8:=by omega
   clear hi JF;obtain⟨g0,g1,g2,g3,g4,g5,g6,g7,g8⟩:=ss;have hg:g8=(b:Int):=st.sb;subst hg;have R:=st.no;have oD:=st.be;have lR:=R.lt;have hO:=zC st.sp;have Ce:=zC (show RInv b l 8 c by have h:=st.iv;rw[zA HI] at h;exact h)
   have HF:=zC (show -P K<c.1-Q b/\c.2-Q b<P K by
    obtain⟨⟨f1,f2,f3,f4⟩,_,_,_⟩:=zHF (show 10<=b by omega) (zA Ce) (show Q 8=256 from rfl)
    have:=zK (show b-6<=b+20 by omega)
    simp only[] at f1 f2 f3 f4
    omega)
   have HK:=zC (show ∀ w',Below wr.heap.size wr w'->(w'.cell? ⟨w.heap.size,0,none⟩=some (.bool g0)/\w'.cell? ⟨w.heap.size,1,none⟩=some (.slice g1 g2 g3)/\w'.cell? ⟨w.heap.size,2,none⟩=some (.bool g4)/\w'.cell? ⟨w.heap.size,3,none⟩=some (.slice g5 g6 g7)/\w'.cell? ⟨w.heap.size,4,none⟩=some (.int .i64 (b:Int))) from λ w' hB=>⟨(st.s.bw hB).c.c0,(st.s.bw hB).c.c1,(st.s.bw hB).c.c2,(st.s.bw hB).c.c3,(st.s.bw hB).c.c4⟩)
   have HE:=zC (zHF (show 10<=b by omega) (zA Ce) (show Q 8=256 from rfl))
   clear st;obtain⟨y0,y1,y2,y3,y4⟩:=zA HK _ (Below.refl _ _);have IW:w.heap.size≠w.heap.size+1:=by omega
   have lq:w.heap.size+1≠w.heap.size:=by omega
   have m8:Below wr.heap.size wr wr.drew:=(Below.refl _ _).drew;go_wp2_with fail
   go_region_held3 (λ w'=>w'.cell? ⟨w.heap.size,0,none⟩=some (.bool g0)/\w'.cell? ⟨w.heap.size,1,none⟩=some (.slice g1 g2 g3)/\w'.cell? ⟨w.heap.size,2,none⟩=some (.bool g4)/\w'.cell? ⟨w.heap.size,3,none⟩=some (.slice g5 g6 g7)/\w'.cell? ⟨w.heap.size,4,none⟩=some (.int .i64 (b:Int))) (first|exact zA HK _ (by with_reducible first|exact m8|exact I6|exact I5|exact C8|exact y9|exact j9|exact j7)|go_keep)
    (first
     | (go_at_call 56;have hq:=I5;refine (zGG _ v3 ⟨o9,a4,n4,c4⟩ ⟨G9,a5,n5,c5⟩ (K+1) _ _ b _ 256 1 cg D9 O0 (by omega) (by omega) (by omega) (by omega) (zA BC)).mono ?_;rintro r' w6 ⟨v6,rfl,FQ,LA,G3⟩;have HB6:=zC FQ;clear FQ;have I6:=zB I5 G3;obtain⟨q0,q1,q2,q3,q4,q5⟩:=R.bw I6)
     | (go_at_call 43;have hq:=C8;refine (zD 1 _ (by decide) (by decide)).mono ?_;rintro r' w5 ⟨G9,a5,n5,c5,rfl,O0,A7⟩;have I5:=zB C8 A7;replace cg:=cg.bw A7;replace D9:=D9.bw A7)
     | (go_at_call 43;have hq:=y9;refine (zD 256 _ (by decide) (by decide)).mono ?_;rintro r' w4 ⟨o9,a4,n4,c4,rfl,D9,m9⟩;have C8:=zB y9 m9;replace cg:=cg.bw m9)
     | (go_at_call 195;have hq:=j9;refine (zNY _ v2 K b K (c.1-Q b,c.2-Q b) aT (zA Bx) (XW _) (zA HE).2.1 ((zA HE).1.mono (zK (by omega))) hb (by omega) hK (by omega) (by omega)).mono ?_;rintro r' w3 ⟨N,tL,hN,v3,rfl,FR,cg,k8⟩;have HN0:=zC tL;have BC:=zC FR;have HN:=zC hN;clear FR hN tL;have y9:=zB j9 k8)
     | (go_at_call 26;have hq:=j7;refine (zC3 _ ⟨g0,g1,g2,g3,g4,g5,g6,g7,(b:Int)⟩ v1 K b c (1*Q b,1*Q b) ((zA hO).bw j7) (hs1.mono (by omega)) (by omega) rfl).mono ?_;rintro r' w2 ⟨v2,rfl,FT,aT,Ph⟩;have Bx:=zC FT;clear FT;have j9:=zB j7 Ph;rw[show zAF c (1*Q b,1*Q b)=(c.1-Q b,c.2-Q b) by unfold zAF;simp only[Int.one_mul]] at aT;replace aT:=aT.fits (K:=K) (zA HE).2.1 (zA HF).1 (zA HF).2)
     | (go_at_call 27;refine (zDS _ 1 b hb (by decide) (by decide)).mono ?_;rintro r' w1 ⟨v1,rfl,FV,hs1,b7⟩;have HB1:=zC FV;clear FV;have j7:=zB m8 b7))
   all_goals
    have Pj:=zC (zKX b9 (zA Ce) (show Q 8=256 from rfl) (zA HN0))
    have HO:=zC (zLE hl (by omega) (zA Ce) (show Q 8=256 from rfl) rfl (zA HN))
    rw[zA7 (add_le2 (zPL (zA HE).2.1 N)) (by omega)] at LA
    go_wp2_with fail;refine bodyPost_ret (v:=.agg v6.q) (by simp[results,Tryz.results169,go_sem,q0,q1,q2,q3,q4]) rfl ⟨_,zA HO,zA Pj,v6,rfl,zA HB6,?_,?_⟩
    ·exact SpAt.put5 (LA.mono (by omega)) q0 q1 q2 q3 q4 _ _ _ _ _
    ·exact kB (zB oD I6) (Yh _) _ _ _ _ _
structure LgSt (w wr:World) (X Y:Nm) (k:Nat) (n d:Int):Prop where
 x:NmC wr w.heap.size X
 fx:∀ o,wr.frozen? ⟨w.heap.size,o,none⟩=false
 y:NmC wr (w.heap.size+1) Y
 fy:∀ o,wr.frozen? ⟨w.heap.size+1,o,none⟩=false
 ix:IntAt wr X.neg X.a X.n X.cap k n
 iy:IntAt wr Y.neg Y.a Y.n Y.cap k d
 no:NoC wr (w.heap.size+1+1)
 be:Below w.heap.size w wr
theorem LgSt.bw {w wr wr':World} {X Y:Nm} {k:Nat} {n d:Int} (h:LgSt w wr X Y k n d) (hb:Below wr.heap.size wr wr'):LgSt w wr' X Y k n d :=
 ⟨h.x.bw hb,λ o=>(hb.frozen (p:=⟨w.heap.size,o,none⟩) h.x.lt).trans (h.fx o),h.y.bw hb,λ o=>(hb.frozen (p:=⟨w.heap.size+1,o,none⟩) h.y.lt).trans (h.fy o),h.ix.bw hb,h.iy.bw hb,h.no.bw hb,zB h.be hb⟩
theorem NoC.offN {w:World} {B B':Nat} (h:NoC w B) (hne:B≠B') (u0 u1:Value):NoC ((w.setCell ⟨B',0,none⟩ u0).setCell ⟨B',1,none⟩ u1) B:=by
 obtain⟨q0,q1,q2,q3,q4,q5⟩:=h;exact⟨by simp[go_sem,q0,hne,Ne.symm hne],by simp[go_sem,q1,hne,Ne.symm hne],by simp[go_sem,q2,hne,Ne.symm hne],by simp[go_sem,q3,hne,Ne.symm hne],by simp[go_sem,q4,hne,Ne.symm hne],zA9 q5 _ _⟩
theorem LgSt.putX {w wr:World} {X Y Z:Nm} {k:Nat} {n d m:Int} (h:LgSt w wr X Y k n d) (hz:IntAt wr Z.neg Z.a Z.n Z.cap k m) :
  LgSt w ((wr.setCell ⟨w.heap.size,0,none⟩ (.bool Z.neg)).setCell ⟨w.heap.size,1,none⟩ (.slice Z.a Z.n Z.cap)) Z Y k m d :=
 ⟨zE4 h.x Z,zA9 h.fx _ _,h.y.off (by omega) _ _,zA9 h.fy _ _,hz.put2 h.x.c0 h.x.c1 _ _,h.iy.put2 h.x.c0 h.x.c1 _ _,h.no.offN (by omega) _ _,zD5 h.be (XW _) _ _⟩
theorem LgSt.putY {w wr:World} {X Y Z:Nm} {k:Nat} {n d m:Int} (h:LgSt w wr X Y k n d) (hz:IntAt wr Z.neg Z.a Z.n Z.cap k m) :
  LgSt w ((wr.setCell ⟨w.heap.size+1,0,none⟩ (.bool Z.neg)).setCell ⟨w.heap.size+1,1,none⟩ (.slice Z.a Z.n Z.cap)) X Z k n m :=
 ⟨h.x.off (by omega) _ _,zA9 h.fx _ _,zE4 h.y Z,zA9 h.fy _ _,h.ix.put2 h.y.c0 h.y.c1 _ _,hz.put2 h.y.c0 h.y.c1 _ _,h.no.offN (by omega) _ _,zD5 h.be (Yh _) _ _⟩
theorem zEH (x y:Nm) (k k2 b:Nat) (n d:Int) (w:World) (h1:IntAt w x.neg x.a x.n x.cap k n) (h2:IntAt w y.neg y.a y.n y.cap k2 d) (hk:k<=600000000) (ba:k2<=100000000) (hb:b<=100000) (hy:0<d) :
  Calls Tryz.prog 54 #[.agg x.q,.agg y.q,.int .i64 b] w (zJ w b (k+b/16+14) (ofI n d b).1 (ofI n d b).2) :=
 zCA _ _ _ _ _ _ _ _ k k2 b n d _ h1 h2 (by omega) (by omega) hb hy (λ j8 a' n' m7 w' p1 p2=>yH _ _ _ _ _ _ _ _ _ k2 _ _ w' p1 p2 (by omega) hy)
theorem zJP {n d:Int} (b:Nat) (hd:0<d) (h1:d<=n) (h2:n<2*d):Q b<=(ofI n d b).1/\(ofI n d b).1<=(ofI n d b).2/\(ofI n d b).2<=2*Q b:=by
 have q:=zG b;have g1:=XK h1 (show 0<=Q b by omega)
 have g2:=XK (show n<=2*d by omega) (show 0<=Q b by omega)
 have e1:d*Q b=Q b*d:=Int.mul_comm _ _;have e2:2*d*Q b=2*Q b*d:=by grind
 refine⟨?_,(Iv.of b hd).le,?_⟩
 ·show Q b<=n*Q b/d
  exact Int.le_ediv_of_mul_le hd (by omega)
 ·show -(-(n*Q b)/d)<=2*Q b
  have : -(2*Q b) <= -(n*Q b)/d:=Int.le_ediv_of_mul_le hd (by rw[Int.neg_mul];omega)
  omega
theorem cge {x y:Int} (h:y<=x):0<=zF x y:=by unfold zF;rw[if_neg (by omega)];split<;>omega
theorem clt {x y:Int} (h:x<y):zF x y<0:=by unfold zF;rw[if_pos h];omega
theorem iv_exp {b:Nat} {n d:Int} (hd:0<d) {l:Nat->Rat} (hl:Ex.IsLog l (λ _=>(n:Rat)/(d:Rat))):Iv b (ofI n d b) (Ex.Ev l):=(Iv.of b hd).congr hl.2
theorem whole_iv {b:Nat}:Iv b (2*Q b,2*Q b) (Ex.Ev (λ M=>2*Ex.Az (zR 2 1) M)):=by
 have h:=(Iv.of b (n:=2) (d:=1) (by decide))
 have e:ofI 2 1 b=(2*Q b,2*Q b):=by unfold ofI;simp only[Int.ediv_one,Int.neg_neg]
 rw[e] at h;refine h.congr ((isLog_two.2).of_eq λ M=>?_)
 have e2:((2:Int):Rat)/((1:Int):Rat)=2:=by decide +kernel
 rw[e2]
theorem zN9 (w:World) (x y:Nm) (k b J:Nat) (n d:Int) (hx:IntAt w x.neg x.a x.n x.cap k n) (hy:IntAt w y.neg y.a y.n y.cap k d) (hk:k<=10000000) (hb:b<=50000) (hn:0<n) (hd:0<d) (JG:n<P k) (JH:2*d<P k) (fR:d<=n*Q J) (cX:n<d*Q (J+1)) (hJ:J<=1000) :
  Calls Tryz.prog 124 #[.agg x.q,.agg y.q,.int .i64 b] w (λ r w'=>∃ (o:Int × Int) (l:Nat->Rat),Ex.IsLog l (λ _=>(n:Rat)/(d:Rat))/\Iv b o l/\Abs o (3*((J:Int)+1)*Q b)/\zJ w b (b/16+10) o.1 o.2 r w'):=by
 obtain⟨W,hW⟩:∃ W,W=((w.alloc (.cells x.q 26)).alloc (.cells y.q 26)).alloc (.cells zCq 36):=⟨_,rfl⟩;have b8:Below w.heap.size w W:=by rw[hW];exact bl3 _ _ _ _
 have N9:LgSt w W x y k (n*Q 0) d:=⟨by rw[hW];exact⟨by simp[go_sem],by simp[go_sem]⟩,λ o=>by rw[hW];simp[go_sem],by rw[hW];exact⟨by simp[go_sem],by simp[go_sem]⟩,λ o=>by rw[hW];simp[go_sem],by rw[show n*Q 0=n by show n*1=n;omega];exact hx.bw b8,hy.bw b8,by rw[hW];exact⟨by simp[go_sem],by simp[go_sem],by simp[go_sem],by simp[go_sem],by simp[go_sem],λ o=>by simp[go_sem]⟩,b8⟩
 clear hx hy b8;obtain⟨m,hm⟩:∃ m:Nat,(b:Int)+48=(m:Int):=⟨b+48,by omega⟩
 have HM:=zC (show m=b+48 by omega)
 have HJ:=zC (And.intro fR cX);have HN:=zC (And.intro hn hd);have HK:=zC (And.intro JG JH);have HMB:=zC hm;have X9:m<=100000:=by omega
 have T7:48<=m:=by omega
 clear fR cX hn hd JG JH hm
 go_enter Tryz.func124,Tryz.ntmps124
 go_wp2_with fail;rw[<- hW,zA HMB];clear hW
 go_loopw [8] (λ kk wr=>∃ (j:Nat) (X:Nm),kk=.int .i64 (-(j:Int))/\j<=J/\(j=0\/n*Q j<2*d)/\LgSt w wr X y k (n*Q j) d) (λ kk _=>J+1-(-(intOf kk)).toNat)
 case atStart=>exact⟨0,x,rfl,by omega,Or.inl rfl,N9⟩
 case round =>
  obtain⟨j,X,rfl,hj,Jj,st⟩:=hrel;clear N9;have HJ2:=zC Jj;clear Jj;have lX:=st.x.lt;have lY:=st.y.lt;obtain⟨x0,x1⟩:=st.x;obtain⟨y0,y1⟩:=st.y;go_wp2_with fail;refine (zU _ _ _ _ _ _ _ _ _ _ (n*Q j) d _ st.ix st.iy).mono ?_;rintro r w1 ⟨rfl,b7⟩;replace st:=st.bw b7;clear b7 x0 x1 y0 y1 lX lY
  by_cases E4:n*Q j<d
  ·have hc:=clt E4
   have pE:=zC E4;have lX:=st.x.lt;have fx:=st.fx;obtain⟨x0,x1⟩:=st.x;clear E4;go_wp2_with fail;refine (zBF _ _ _ _ 1 k (n*Q j) _ st.ix (by omega) (by omega)).mono ?_
   rintro r w2 ⟨b6,a2,n2,c2,rfl,o0,b9⟩;replace st:=st.bw b9;have hj3:=steps_lo (zA HN).1 (zA pE) (zA HJ).1
   have he:n*Q j*Q 1=n*Q (j+1):=by
    have e1:Q 1=2:=rfl;have e2:Q (j+1)=2*Q j:=rfl;rw[e1,e2];grind
   have FW:n*Q (j+1)<2*d:=by
    have e1:Q 1=2:=rfl;have:=zA pE;rw[<- he,e1];omega
   have P8:0<n*Q (j+1):=Int.mul_pos (zA HN).1 (by have:=zG (j+1);omega)
   rw[he] at o0;have stn:=st.putX (Z:=⟨b6,a2,n2,c2⟩) (o0.fits (K:=k) (by have:=yB k;omega) (by have:=(zA HK).2;omega))
   have K9:=zC stn;have cm:=zC FW;clear b9 x0 x1 fx lX hc he FW P8 stn;have lX:=st.x.lt;have fx:=st.fx;obtain⟨x0,x1⟩:=st.x;go_wp2_with fail
   go_roundw
   case rel=>exact⟨j+1,_,by go_num,by omega,Or.inr (zA cm),zA K9⟩
   case measure=>simp[intOf];omega
  ·have hc:¬ zF (n*Q j) d<0:=λ h=>by have:=cge (Int.not_lt.1 E4);omega
   have P9:=Int.not_lt.1 E4;have HGE:=zC P9;clear E4 P9;go_wp2_with fail;clear hc;have XD:LgSt w w1 X y k (n*Q j) (d*Q 0):=by rw[show d*Q 0=d by show d*1=d;omega];exact st
   clear st
   go_loopw [8] (λ kk wr=>∃ (i:Nat) (Y:Nm),kk=.int .i64 ((i:Int)-(j:Int))/\i<=J/\(j=0\/i=0)/\d*Q i<=n*Q j/\LgSt w wr X Y k (n*Q j) (d*Q i)) (λ kk _=>J+1-(intOf kk+j).toNat)
   case atStart=>exact⟨0,y,by go_num,by omega,Or.inr rfl,by rw[show d*Q 0=d by show d*1=d;omega];exact zA HGE,XD⟩
   case round =>
    obtain⟨i,Y,rfl,hi,bQ,hle,st⟩:=hrel;clear XD;have HI:=zC (And.intro bQ hle);clear bQ hle;have e1:d*Q i*Q 1=2*(d*Q i):=by have e1:Q 1=2:=rfl;rw[e1];omega
    have aY:=zC e1;clear e1;have Q5:=zC (show ∀ w',Below wr.heap.size wr w'->(nK w' w.heap.size X (nK0 w' (w.heap.size+1) Y)) from λ w' hB=>⟨(st.x.bw hB).c0,(st.x.bw hB).c1,(st.y.bw hB).c0,(st.y.bw hB).c1⟩)
    have lX:=st.x.lt;have lY:=st.y.lt;obtain⟨x0,x1,y0,y1⟩:=zA Q5 _ (Below.refl _ _);have m8:Below wr.heap.size wr wr.drew:=(Below.refl _ _).drew;have K9:=zC st;clear st
    by_cases P9:2*(d*Q i)<=n*Q j
    ·have hc:0<=zF (n*Q j) (d*Q i*Q 1):=by rw[zA aY];exact cge P9
     have G8:¬ zF (n*Q j) (d*Q i*Q 1)<0:=by omega
     have FZ:=zC P9;clear P9;go_wp2_with fail
     go_region_held3 (λ w'=>nK w' w.heap.size X (nK0 w' (w.heap.size+1) Y)) (first|exact zA Q5 _ (by with_reducible first|exact m8|exact j9|exact j7)|(dsimp only[cK,cK0,nK,nK0,rK,rK0];go_keep)|go_keep)
      (first
       | (go_at_call 46;have hq:=j7;refine (zU _ _ _ _ _ _ _ _ _ _ (n*Q j) (d*Q i*Q 1) _ ((zA K9).ix.bw j7) k9).mono ?_;rintro r' w3 ⟨rfl,k8⟩;have j9:=zB j7 k8)
       | (go_at_call 95;refine (zBF _ _ _ _ 1 k (d*Q i) _ ((zA K9).iy.bw m8) (by omega) (by omega)).mono ?_;rintro r' w2 ⟨b6,a2,n2,c2,rfl,k9,b9⟩;have j7:=zB m8 b9))
     all_goals
      have st:=(zA K9).bw j9;have Bn:=st.y.lt;have fy:=st.fy;clear x0 x1 y0 y1 k9;obtain⟨y0,y1⟩:=st.y;go_wp2_with fail;refine (zBF _ _ _ _ 1 k (d*Q i) _ st.iy (by omega) (by omega)).mono ?_
      rintro r w4 ⟨o9,a4,n4,c4,rfl,D9,m9⟩;replace st:=st.bw m9;clear y0 y1 fy Bn
      have he:d*Q i*Q 1=d*Q (i+1):=by
       have e1:Q 1=2:=rfl;have e2:Q (i+1)=2*Q i:=rfl;rw[e1,e2];grind
      have mI:d*Q (i+1)<=n*Q j:=by
       have:=zA FZ;rw[<- he,zA aY];exact this
      have cV:j=0:=by
       rcases zA HJ2 with h|h
       ·exact h
       ·have q1:=zG i
        have q2:=XR (show 1<=Q i by omega) (show 0<=d by have:=(zA HN).2;omega)
        have:=zA FZ;omega
      have hi3:i<J:=by
       have h1:=(zA HJ).2;have e0:n*Q j=n:=by rw[cV];show n*1=n;omega
       refine Nat.lt_of_not_le λ vw=>?_
       have:=XR (zK (show J+1<=i+1 by omega)) (show 0<=d by have:=(zA HN).2;omega)
       omega
      have P8:0<d*Q (i+1):=Int.mul_pos (zA HN).2 (by have:=zG (i+1);omega)
      have J1:d*Q (i+1)<P k:=by
       have h1:=(zA HK).1;have e0:n*Q j=n:=by rw[cV];show n*1=n;omega
       omega
      rw[he] at D9;have stn:=st.putY (Z:=⟨o9,a4,n4,c4⟩) (D9.fits (K:=k) (by have:=yB k;omega) J1)
      have HSN:=zC stn;have xV:=zC mI;have HJ0:=zC cV;clear stn mI cV he P8 J1;have Bn:=st.y.lt;have fy:=st.fy;obtain⟨y0,y1⟩:=st.y;go_wp2_with fail
      go_roundw
      case rel=>exact⟨i+1,_,by go_num,by omega,Or.inl (zA HJ0),zA xV,zA HSN⟩
      case measure=>simp[intOf];omega
    ·have G8:zF (n*Q j) (d*Q i*Q 1)<0:=by rw[zA aY];exact clt (by omega)
     have hc:¬ 0<=zF (n*Q j) (d*Q i*Q 1):=by omega
     have Ga:=zC (Int.not_le.1 P9);clear P9;go_wp2_with fail
     go_region_held3 (λ w'=>nK w' w.heap.size X (nK0 w' (w.heap.size+1) Y)) (first|exact zA Q5 _ (by with_reducible first|exact m8|exact j9|exact j7)|(dsimp only[cK,cK0,nK,nK0,rK,rK0];go_keep)|go_keep)
      (first
       | (go_at_call 46;have hq:=j7;refine (zU _ _ _ _ _ _ _ _ _ _ (n*Q j) (d*Q i*Q 1) _ ((zA K9).ix.bw j7) k9).mono ?_;rintro r' w3 ⟨rfl,k8⟩;have j9:=zB j7 k8)
       | (go_at_call 95;refine (zBF _ _ _ _ 1 k (d*Q i) _ ((zA K9).iy.bw m8) (by omega) (by omega)).mono ?_;rintro r' w2 ⟨b6,a2,n2,c2,rfl,k9,b9⟩;have j7:=zB m8 b9))
     all_goals
      have st:=(zA K9).bw j9;have Dh:=st.x.lt;have Bn:=st.y.lt;have Y1:=st.no.lt;clear x0 x1 y0 y1 k9;obtain⟨y0,y1⟩:=st.y;obtain⟨x0,x1⟩:=st.x;have JI:0<d*Q i:=Int.mul_pos (zA HN).2 (by have:=zG i;omega)
      have K7:=zME (zA HN).1 (zA HN).2 rfl rfl (zA HI).2 (zA Ga) (zA HI).1;have aV:=zJP m JI (zA HI).2 (zA Ga);have O5:=zDX K7.1;have pJ:=zC K7;have L6:=zC aV;have Gb:=zC O5
      have XF:Q (m+20)<P (m/16+20):=by
       rw[<- Q_P];have h1:=zK (show m+20+1<=16*(m/16+20) by omega)
       have h2:Q (m+20+1)=2*Q (m+20):=rfl;have:=zG (m+20);omega
      have XG:2*Q m<P (m/16+20):=by
       have h1:=zK (show m+1<=m+20 by omega)
       have h2:Q (m+1)=2*Q m:=rfl;omega
      have tP:=zG m;have HKK:=zC XF;have H2K:=zC XG;clear K7 aV O5 XF XG;go_wp2_with fail;refine (zEH X Y k k m (n*Q j) (d*Q i) _ st.ix st.iy (by omega) (by omega) X9 JI).mono ?_
      rintro r w5 ⟨v5,rfl,J5,G5,A7⟩;replace st:=st.bw A7;have ka:=zC J5;replace G5:=G5.fits (K:=m/16+20) (zA L6).2.1 (by have:=(zA L6).1;have:=yB (m/16+20);omega) (by have:=(zA L6).2.2;have:=zA H2K;omega)
      clear A7 J5 x0 x1 y0 y1 Dh Bn Y1;go_wp2_with fail;refine (zG5 _ v5 (m/16+20) m (m/16+20) (ofI (n*Q j) (d*Q i) m) _ G5 (zA ka) (XW _) (zA Gb).1 (iv_exp JI (zA Gb)) (zA L6).1 (zA L6).2.1 (zA L6).2.2 X9 (by omega) (zA HKK) (by omega) (by omega)).mono ?_
      rintro r w6 ⟨o6,hi6,ha6,v6,rfl,S3,M8,G3⟩;replace st:=st.bw G3;have BG:=zC S3;have Lc:=zC hi6;have HA6:=zC ha6;clear G3 S3 hi6 ha6 G5;go_wp2_with fail;refine (zDS _ 2 m X9 (by decide) (by decide)).mono ?_
      rintro r w7 ⟨v7,rfl,H9,M3,I8⟩;replace st:=st.bw I8;replace M8:=M8.bw I8;have jz:=zC H9;clear I8 H9;go_wp2_with fail;refine (zG5 _ v7 (m/16+18) m (m/16+20) (2*Q m,2*Q m) _ M3 (zA jz) (by omega) isLog_two.1 whole_iv (by simp only[];omega) (Int.le_refl _) (Int.le_refl _) X9 (by omega) (zA HKK) (by omega) (by omega)).mono ?_
      rintro r w8 ⟨o8,JF,ha8,v8,rfl,nv,jf,Q7⟩;replace st:=st.bw Q7;replace M8:=M8.bw Q7;have HV8:=zC nv;have HI8:=zC JF;have HA8:=zC ha8;clear Q7 nv JF ha8 M3;go_wp2_with fail;refine (zD ((i:Int)-(j:Int)) _ (by omega) (by omega)).mono ?_
      rintro r w9 ⟨eQ,a9,n9,c9,rfl,jv,cn⟩;replace st:=st.bw cn;replace M8:=M8.bw cn;replace jf:=jf.bw cn;clear cn;go_wp2_with fail;refine (zD 1 _ (by decide) (by decide)).mono ?_
      rintro r oB ⟨lj,Lk,lq,gM,rfl,bl,P6⟩;replace st:=st.bw P6;replace M8:=M8.bw P6;replace jf:=jf.bw P6;replace jv:=jv.bw P6;clear P6;go_wp2_with fail;refine (zGG _ v8 ⟨eQ,a9,n9,c9⟩ ⟨lj,Lk,lq,gM⟩ (m/16+20+30) 4 4 m o8 ((i:Int)-(j:Int)) 1 jf jv bl (by omega) (by omega) (by omega) (by omega) (zA HV8)).mono ?_
      rintro r Bc ⟨v11,rfl,dQ,sF,P2⟩;replace st:=st.bw P2;replace M8:=M8.bw P2;have HV11:=zC dQ;clear P2 dQ jf jv bl;go_wp2_with fail;refine (yY _ v6 v11 (m/16+20+30+4+9) m o6 (byI o8 ((i:Int)-(j:Int)) 1) (M8.mono (by omega)) sF (by omega) (zA BG)).mono ?_
      rintro r BJ ⟨v12,rfl,sG,hZ,T4⟩;replace st:=st.bw T4;have xW:=zC sG;clear T4 sG M8 sF;obtain⟨z,hz⟩:∃ z:Int × Int,jJ o6 (byI o8 ((i:Int)-(j:Int)) 1)=z:=⟨_,rfl⟩;rw[hz] at hZ
      have Gc:Iv b (zN z 48) (λ M=>2*Ex.Az (zR (n*Q j) (d*Q i)) M+(((i:Int)-(j:Int):Int):Rat)*(2*Ex.Az (zR 2 1) M)):=by
       have h1:=(zA Lc).add ((zA HI8).by_ ((i:Int)-(j:Int)) (d:=1) (by omega))
       rw[hz,zA HM] at h1;refine h1.to.congr (Ex.null_zero.of_eq λ M=>?_)
       have e:(((i:Int)-(j:Int):Int):Rat)/((1:Int):Rat)=(((i:Int)-(j:Int):Int):Rat):=by rw[Yg,show ((1:Int):Rat)⁻¹=1 from by decide +kernel,Rat.mul_one]
       rw[e];grind
      have IQ:=zIO (zA HN).2 (zA pJ) (zA Gb) isLog_two
      have BD:Abs z (3*((J:Int)+1)*Q m):=by
       have h1:=zDG (p:=3*Q m*(J:Int)) (n:=(i:Int)-(j:Int)) (d:=1) (c:=(J:Int)) (zA HA8) (by omega) (by omega) (by omega) (by omega)
       have h2:=(zA HA6).add h1;rw[hz] at h2;exact h2.mono (by rw[show 3*((J:Int)+1)*Q m=3*Q m+3*Q m*(J:Int) by grind];omega)
      have Gd:Q m=Q b*Q 48:=by rw[zA HM,jD]
      have Bq:Abs (zN z 48) (3*((J:Int)+1)*Q b):=zPV 48 BD (by rw[Gd,<- Int.mul_assoc];omega)
      have HZI:=zC Gc;have MO:=zC IQ;have Bw:=zC Bq
      have hkb:3*((J:Int)+1)*Q b<P (b/16+10):=by
       rw[<- Q_P];have h1:=zK (show b+13<=16*(b/16+10) by omega)
       have h2:Q (b+13)=Q b*8192:=by rw[jD];rfl
       have hq:=zG b;have h3:=XK (show 3*((J:Int)+1)<=8191 by omega) (show 0<=Q b by omega)
       omega
      have my:=zC hkb;clear Gc IQ BD Gd Bq hz hkb JI;obtain⟨V,hV⟩:∃ V,V=BJ.alloc (.cells v12.q 36):=⟨_,rfl⟩;have bV:Below BJ.heap.size BJ V:=by rw[hV];exact bl1 _ _
      replace st:=st.bw bV;replace hZ:=hZ.bw bV;have lR:=st.no.lt;go_wp2_with fail;rw[<- hV];clear hV bV;refine (kQ _ v12 (m/16+20+30+4+9+1) b z.1 z.2 hZ (by omega) (by have:=zA xW;omega) (by have:=zA xW;omega) (by omega) (by omega)).mono ?_
      rintro r Jg ⟨Pk,rfl,sH,nw,bC⟩;rw[zA xW,show (m:Int)-(b:Int)=((48:Nat):Int) by have:=zA HM;omega,kK,kK] at nw
      replace st:=st.bw bC;have Pl:=zC sH;clear bC sH;have hd4:=(zA Bw).1;have IJ:=(zA Bw).2.2.2;have hd6:=zA my;have hvf:SpAt Jg Pk (b/16+10) (zN z 48).1 (zN z 48).2:=SpAt.fits (k:=m/16+20+30+4+9+1+62505) nw (zA HZI).le (by omega) (by omega)
      have fD:=st.be;obtain⟨q0,q1,q2,q3,q4,q5⟩:=st.no;clear nw hd4 IJ hd6 st;go_wp2_with fail;refine bodyPost_ret (v:=.agg Pk.q) (by simp[results,Tryz.results124,go_sem,q0,q1,q2,q3,q4]) rfl ⟨zN z 48,_,zA MO,zA HZI,zA Bw,Pk,rfl,zA Pl,?_,?_⟩
      ·exact SpAt.put5 hvf q0 q1 q2 q3 q4 _ _ _ _ _
      ·exact kB fD (by omega) _ _ _ _ _
theorem zAS {b:Nat} (z:Int) (hz:z=(b:Int)) (w:World) (n:Int) (hb:b<=100000) (h0 : -9223372036854775808<=n) (h1:n<=9223372036854775807) :
  Calls Tryz.prog 27 #[.int .i64 n,.int .i64 z] w (zJ w b (b/16+18) (n*Q b) (n*Q b)):=by
 subst hz;exact zDS w n b hb h0 h1
theorem ins_aa (w:World) (s:Sp) (K b:Nat) (lo hi m1 m2:Int) (hs:SpAt w s K lo hi) (hbits:s.bits=(b:Int)) (hb:b<=10000) (X9 : -1000<=m1) (T7:m1<=1000) (ae : -1000<=m2) (sI:m2<=1000) (h1:zF lo (m1*Q b)=0) (h2:zF hi (m2*Q b) = -1) :
  Calls Tryz.prog 15 #[.agg s.q,.int .i64 m1,.int .i64 m2] w λ r w'=>r=.returned (.bool true)/\Below w.heap.size w w':=by
 obtain⟨W,hW⟩:∃ W,W=w.alloc (.cells s.q 28):=⟨_,rfl⟩;have b8:Below w.heap.size w W:=by rw[hW];exact bl1 _ _
 have A:SpC W w.heap.size s:=by rw[hW];constructor<;>simp[go_sem]
 have HS:=zC (hs.bw b8);have HB:=zC hbits;have H1:=zC h1;have H2:=zC h2;have HK:=zC (show ∀ w',Below W.heap.size W w'->(cK0 w' w.heap.size s) from λ w' hB=>⟨(A.bw hB).c0,(A.bw hB).c1,(A.bw hB).c2,(A.bw hB).c3,(A.bw hB).c4⟩)
 clear hs hbits h1 h2 A;have pS:=zCK
 go_enter Tryz.func15,Tryz.ntmps15
 go_wp2;rw[<- hW];clear hW;obtain⟨x0,x1,x2,x3,x4⟩:=zA HK _ (Below.refl _ _);have m8:Below W.heap.size W W.drew:=(Below.refl _ _).drew
 go_region_held3 (λ w'=>cK0 w' w.heap.size s) (first|exact zA HK _ (by with_reducible first|exact m8|exact C8|exact y9|exact j9|exact j7)|(dsimp only[cK,cK0,nK,nK0,rK,rK0];go_keep)|go_keep)
  (first
   | (go_at_call 46;have H7:=y9;refine (zU _ _ _ _ _ _ _ _ _ _ hi (m2*Q b) _ ((zA HS).hi.bw y9) cg.lo).mono ?_;rintro r' w4 ⟨rfl,m9⟩;rw[zA H2];have C8:=zB y9 m9)
   | (go_at_call 27;have H7:=j9;refine (zAS s.bits (zA HB) _ m2 (by omega) (by omega) (by omega)).mono ?_;rintro r' w3 ⟨v3,rfl,E6,cg,k8⟩;clear E6;have y9:=zB j9 k8)
   | (go_at_call 46;have H7:=j7;refine (zU _ _ _ _ _ _ _ _ _ _ lo (m1*Q b) _ ((zA HS).lo.bw j7) hs1.lo).mono ?_;rintro r' w2 ⟨rfl,b9⟩;rw[zA H1];have j9:=zB j7 b9)
   | (go_at_call 27;refine (zAS s.bits (zA HB) _ m1 (by omega) (by omega) (by omega)).mono ?_;rintro r' w1 ⟨v1,rfl,D6,hs1,b7⟩;clear D6;have j7:=zB m8 b7))
 all_goals
  go_wp2_with fail
  go_ret
  exact⟨rfl,zB b8 C8⟩
theorem ins_ab (w:World) (s:Sp) (K b:Nat) (lo hi m1 m2:Int) (hs:SpAt w s K lo hi) (hbits:s.bits=(b:Int)) (hb:b<=10000) (X9 : -1000<=m1) (T7:m1<=1000) (ae : -1000<=m2) (sI:m2<=1000) (h1:zF lo (m1*Q b)=0) (h2:zF hi (m2*Q b)=0) :
  Calls Tryz.prog 15 #[.agg s.q,.int .i64 m1,.int .i64 m2] w λ r w'=>r=.returned (.bool true)/\Below w.heap.size w w':=by
 obtain⟨W,hW⟩:∃ W,W=w.alloc (.cells s.q 28):=⟨_,rfl⟩;have b8:Below w.heap.size w W:=by rw[hW];exact bl1 _ _
 have A:SpC W w.heap.size s:=by rw[hW];constructor<;>simp[go_sem]
 have HS:=zC (hs.bw b8);have HB:=zC hbits;have H1:=zC h1;have H2:=zC h2;have HK:=zC (show ∀ w',Below W.heap.size W w'->(cK0 w' w.heap.size s) from λ w' hB=>⟨(A.bw hB).c0,(A.bw hB).c1,(A.bw hB).c2,(A.bw hB).c3,(A.bw hB).c4⟩)
 clear hs hbits h1 h2 A;have pS:=zCK
 go_enter Tryz.func15,Tryz.ntmps15
 go_wp2;rw[<- hW];clear hW;obtain⟨x0,x1,x2,x3,x4⟩:=zA HK _ (Below.refl _ _);have m8:Below W.heap.size W W.drew:=(Below.refl _ _).drew
 go_region_held3 (λ w'=>cK0 w' w.heap.size s) (first|exact zA HK _ (by with_reducible first|exact m8|exact C8|exact y9|exact j9|exact j7)|(dsimp only[cK,cK0,nK,nK0,rK,rK0];go_keep)|go_keep)
  (first
   | (go_at_call 46;have H7:=y9;refine (zU _ _ _ _ _ _ _ _ _ _ hi (m2*Q b) _ ((zA HS).hi.bw y9) cg.lo).mono ?_;rintro r' w4 ⟨rfl,m9⟩;rw[zA H2];have C8:=zB y9 m9)
   | (go_at_call 27;have H7:=j9;refine (zAS s.bits (zA HB) _ m2 (by omega) (by omega) (by omega)).mono ?_;rintro r' w3 ⟨v3,rfl,E6,cg,k8⟩;clear E6;have y9:=zB j9 k8)
   | (go_at_call 46;have H7:=j7;refine (zU _ _ _ _ _ _ _ _ _ _ lo (m1*Q b) _ ((zA HS).lo.bw j7) hs1.lo).mono ?_;rintro r' w2 ⟨rfl,b9⟩;rw[zA H1];have j9:=zB j7 b9)
   | (go_at_call 27;refine (zAS s.bits (zA HB) _ m1 (by omega) (by omega) (by omega)).mono ?_;rintro r' w1 ⟨v1,rfl,D6,hs1,b7⟩;clear D6;have j7:=zB m8 b7))
 all_goals
  go_wp2_with fail
  go_ret
  exact⟨rfl,zB b8 C8⟩
theorem ins_ba (w:World) (s:Sp) (K b:Nat) (lo hi m1 m2:Int) (hs:SpAt w s K lo hi) (hbits:s.bits=(b:Int)) (hb:b<=10000) (X9 : -1000<=m1) (T7:m1<=1000) (ae : -1000<=m2) (sI:m2<=1000) (h1:zF lo (m1*Q b)=1) (h2:zF hi (m2*Q b) = -1) :
  Calls Tryz.prog 15 #[.agg s.q,.int .i64 m1,.int .i64 m2] w λ r w'=>r=.returned (.bool true)/\Below w.heap.size w w':=by
 obtain⟨W,hW⟩:∃ W,W=w.alloc (.cells s.q 28):=⟨_,rfl⟩;have b8:Below w.heap.size w W:=by rw[hW];exact bl1 _ _
 have A:SpC W w.heap.size s:=by rw[hW];constructor<;>simp[go_sem]
 have HS:=zC (hs.bw b8);have HB:=zC hbits;have H1:=zC h1;have H2:=zC h2;have HK:=zC (show ∀ w',Below W.heap.size W w'->(cK0 w' w.heap.size s) from λ w' hB=>⟨(A.bw hB).c0,(A.bw hB).c1,(A.bw hB).c2,(A.bw hB).c3,(A.bw hB).c4⟩)
 clear hs hbits h1 h2 A;have pS:=zCK
 go_enter Tryz.func15,Tryz.ntmps15
 go_wp2;rw[<- hW];clear hW;obtain⟨x0,x1,x2,x3,x4⟩:=zA HK _ (Below.refl _ _);have m8:Below W.heap.size W W.drew:=(Below.refl _ _).drew
 go_region_held3 (λ w'=>cK0 w' w.heap.size s) (first|exact zA HK _ (by with_reducible first|exact m8|exact C8|exact y9|exact j9|exact j7)|(dsimp only[cK,cK0,nK,nK0,rK,rK0];go_keep)|go_keep)
  (first
   | (go_at_call 46;have H7:=y9;refine (zU _ _ _ _ _ _ _ _ _ _ hi (m2*Q b) _ ((zA HS).hi.bw y9) cg.lo).mono ?_;rintro r' w4 ⟨rfl,m9⟩;rw[zA H2];have C8:=zB y9 m9)
   | (go_at_call 27;have H7:=j9;refine (zAS s.bits (zA HB) _ m2 (by omega) (by omega) (by omega)).mono ?_;rintro r' w3 ⟨v3,rfl,E6,cg,k8⟩;clear E6;have y9:=zB j9 k8)
   | (go_at_call 46;have H7:=j7;refine (zU _ _ _ _ _ _ _ _ _ _ lo (m1*Q b) _ ((zA HS).lo.bw j7) hs1.lo).mono ?_;rintro r' w2 ⟨rfl,b9⟩;rw[zA H1];have j9:=zB j7 b9)
   | (go_at_call 27;refine (zAS s.bits (zA HB) _ m1 (by omega) (by omega) (by omega)).mono ?_;rintro r' w1 ⟨v1,rfl,D6,hs1,b7⟩;clear D6;have j7:=zB m8 b7))
 all_goals
  go_wp2_with fail
  go_ret
  exact⟨rfl,zB b8 C8⟩
theorem ins_bb (w:World) (s:Sp) (K b:Nat) (lo hi m1 m2:Int) (hs:SpAt w s K lo hi) (hbits:s.bits=(b:Int)) (hb:b<=10000) (X9 : -1000<=m1) (T7:m1<=1000) (ae : -1000<=m2) (sI:m2<=1000) (h1:zF lo (m1*Q b)=1) (h2:zF hi (m2*Q b)=0) :
  Calls Tryz.prog 15 #[.agg s.q,.int .i64 m1,.int .i64 m2] w λ r w'=>r=.returned (.bool true)/\Below w.heap.size w w':=by
 obtain⟨W,hW⟩:∃ W,W=w.alloc (.cells s.q 28):=⟨_,rfl⟩;have b8:Below w.heap.size w W:=by rw[hW];exact bl1 _ _
 have A:SpC W w.heap.size s:=by rw[hW];constructor<;>simp[go_sem]
 have HS:=zC (hs.bw b8);have HB:=zC hbits;have H1:=zC h1;have H2:=zC h2;have HK:=zC (show ∀ w',Below W.heap.size W w'->(cK0 w' w.heap.size s) from λ w' hB=>⟨(A.bw hB).c0,(A.bw hB).c1,(A.bw hB).c2,(A.bw hB).c3,(A.bw hB).c4⟩)
 clear hs hbits h1 h2 A;have pS:=zCK
 go_enter Tryz.func15,Tryz.ntmps15
 go_wp2;rw[<- hW];clear hW;obtain⟨x0,x1,x2,x3,x4⟩:=zA HK _ (Below.refl _ _);have m8:Below W.heap.size W W.drew:=(Below.refl _ _).drew
 go_region_held3 (λ w'=>cK0 w' w.heap.size s) (first|exact zA HK _ (by with_reducible first|exact m8|exact C8|exact y9|exact j9|exact j7)|(dsimp only[cK,cK0,nK,nK0,rK,rK0];go_keep)|go_keep)
  (first
   | (go_at_call 46;have H7:=y9;refine (zU _ _ _ _ _ _ _ _ _ _ hi (m2*Q b) _ ((zA HS).hi.bw y9) cg.lo).mono ?_;rintro r' w4 ⟨rfl,m9⟩;rw[zA H2];have C8:=zB y9 m9)
   | (go_at_call 27;have H7:=j9;refine (zAS s.bits (zA HB) _ m2 (by omega) (by omega) (by omega)).mono ?_;rintro r' w3 ⟨v3,rfl,E6,cg,k8⟩;clear E6;have y9:=zB j9 k8)
   | (go_at_call 46;have H7:=j7;refine (zU _ _ _ _ _ _ _ _ _ _ lo (m1*Q b) _ ((zA HS).lo.bw j7) hs1.lo).mono ?_;rintro r' w2 ⟨rfl,b9⟩;rw[zA H1];have j9:=zB j7 b9)
   | (go_at_call 27;refine (zAS s.bits (zA HB) _ m1 (by omega) (by omega) (by omega)).mono ?_;rintro r' w1 ⟨v1,rfl,D6,hs1,b7⟩;clear D6;have j7:=zB m8 b7))
 all_goals
  go_wp2_with fail
  go_ret
  exact⟨rfl,zB b8 C8⟩
theorem ins_ok (w:World) (s:Sp) (K b:Nat) (lo hi m1 m2:Int) (hs:SpAt w s K lo hi) (hbits:s.bits=(b:Int)) (hb:b<=10000) (X9 : -1000<=m1) (T7:m1<=1000) (ae : -1000<=m2) (sI:m2<=1000) (h1:m1*Q b<=lo) (h2:hi<=m2*Q b) :
  Calls Tryz.prog 15 #[.agg s.q,.int .i64 m1,.int .i64 m2] w λ r w'=>r=.returned (.bool true)/\Below w.heap.size w w':=by
 rcases cmp3 lo (m1*Q b) with⟨e1,g1⟩|⟨e1,g1⟩|⟨e1,g1⟩
 ·omega
 ·rcases cmp3 hi (m2*Q b) with⟨e2,g2⟩|⟨e2,g2⟩|⟨e2,g2⟩
  ·exact ins_aa w s K b lo hi m1 m2 hs hbits hb X9 T7 ae sI e1 e2
  ·exact ins_ab w s K b lo hi m1 m2 hs hbits hb X9 T7 ae sI e1 e2
  ·omega
 ·rcases cmp3 hi (m2*Q b) with⟨e2,g2⟩|⟨e2,g2⟩|⟨e2,g2⟩
  ·exact ins_ba w s K b lo hi m1 m2 hs hbits hb X9 T7 ae sI e1 e2
  ·exact ins_bb w s K b lo hi m1 m2 hs hbits hb X9 T7 ae sI e1 e2
  ·omega
open Ex
theorem zED {b:Nat} (z:Int) (hz:z=(b:Int)) (x y:Nm) (k k2:Nat) (n d:Int) (w:World) (h1:IntAt w x.neg x.a x.n x.cap k n) (h2:IntAt w y.neg y.a y.n y.cap k2 d) (hk:k<=600000000) (ba:k2<=100000000) (hb:b<=100000) (hy:0<d) :
  Calls Tryz.prog 54 #[.agg x.q,.agg y.q,.int .i64 z] w (zJ w b (k+b/16+14) (ofI n d b).1 (ofI n d b).2):=by
 subst hz;exact zEH x y k k2 b n d w h1 h2 hk ba hb hy
theorem zMX {n d:Int} {x m k:Nat} {s:LmSt} (o:LmOk n d x m k s) (hm:m<=1000):s.T.2<P 100/\s.U.2<P 100 /\ -P 100<s.T.1 /\ -P 100<s.U.1:=by
 have h1:=zK (show m+128+1<=16*100 by omega)
 have h2:=zG (m+128);have h3:Q (m+128+1)=2*Q (m+128):=rfl;rw[Q_P] at h1;have:=o.us;have:=o.tu;have:=o.t0;have:=o.u1;omega
theorem lm_great {n d:Int} {x m k:Nat} (hg:Q (m+128)<=(jJ (lmS n d x m k).U (lmT n d x k (lmS n d x m k).T)).2):lmS n d x m (k+1)=⟨zE (lmT n d x k (lmS n d x m k).T) 1 (Q 64),zE (jJ (lmS n d x m k).U (lmT n d x k (lmS n d x m k).T)) 1 (Q 64),(lmS n d x m k).e+1⟩:=by
 show zBQ n d x m k (lmS n d x m k)=_
 unfold zBQ;rw[if_pos hg]
theorem zP5 {n d:Int} {x m k:Nat} (hg:¬ Q (m+128)<=(jJ (lmS n d x m k).U (lmT n d x k (lmS n d x m k).T)).2):lmS n d x m (k+1)=⟨lmT n d x k (lmS n d x m k).T,jJ (lmS n d x m k).U (lmT n d x k (lmS n d x m k).T),(lmS n d x m k).e⟩:=by
 show zBQ n d x m k (lmS n d x m k)=_
 unfold zBQ;rw[if_neg hg]
theorem zC1 {b:Nat} (z:Int) (hz:z=(b:Int)) (w:World) (x y:Nm) (k J:Nat) (n d:Int) (hx:IntAt w x.neg x.a x.n x.cap k n) (hy:IntAt w y.neg y.a y.n y.cap k d) (hk:k<=10000000) (hb:b<=50000) (hn:0<n) (hd:0<d) (JG:n<P k) (JH:2*d<P k) (fR:d<=n*Q J) (cX:n<d*Q (J+1)) (hJ:J<=1000) :
  Calls Tryz.prog 124 #[.agg x.q,.agg y.q,.int .i64 z] w (λ r w'=>∃ (lo hi:Int) (l:Nat->Rat),Ex.IsLog l (λ _=>(n:Rat)/(d:Rat))/\(Iv b (lo,hi) l/\Abs (lo,hi) (3*((J:Int)+1)*Q b))/\zJ w b (b/16+10) lo hi r w'):=by
 subst hz;exact (zN9 w x y k b J n d hx hy hk hb hn hd JG JH fR cX hJ).mono λ r w' ⟨o,l,h1,h2,h3,h4⟩=>⟨o.1,o.2,l,h1,⟨h2,h3⟩,h4⟩
structure LnW (w wr:World) (X Y:Nm) (n d:Int) (BU:Nat) (U:Sp) (m K:Nat) (c:Int × Int):Prop where
 x:NmC wr w.heap.size X
 y:NmC wr (w.heap.size+1) Y
 ix:IntAt wr X.neg X.a X.n X.cap 20 n
 iy:IntAt wr Y.neg Y.a Y.n Y.cap 20 d
 u:VrC wr BU U
 ub:U.bits=(m:Int)
 up:SpAt wr U K c.1 c.2
 r:NoC wr (w.heap.size+1+1)
 be:Below w.heap.size w wr
 l2:w.heap.size+1+1<BU
theorem LmW.ln {w wr:World} {X Y:Nm} {n d:Int} {BT BU BA:Nat} {T U:Sp} {A:Nm} {m k K:Nat} {a c:Int × Int} (h:LmW w wr X Y n d BT BU BA T U A m k K a c):LnW w wr X Y n d BU U m K c:=⟨h.x,h.y,h.ix,h.iy,h.u,h.ub,h.up,h.r,h.be,h.l2⟩
theorem LnW.bw {w wr:World} {X Y:Nm} {n d:Int} {BU:Nat} {U:Sp} {m K:Nat} {c:Int × Int} (h:LnW w wr X Y n d BU U m K c) {wr':World} (hb:Below wr.heap.size wr wr'):LnW w wr' X Y n d BU U m K c :=
 ⟨h.x.bw hb,h.y.bw hb,h.ix.bw hb,h.iy.bw hb,h.u.bw hb,h.ub,h.up.bw hb,h.r.bw hb,zB h.be hb,h.l2⟩
theorem LnW.putU {w wr:World} {X Y:Nm} {n d:Int} {BU:Nat} {U:Sp} {m K:Nat} {c:Int × Int} (h:LnW w wr X Y n d BU U m K c) {U':Sp} {K':Nat} {c':Int × Int} (hb:U'.bits=(m:Int)) (hp:SpAt wr U' K' c'.1 c'.2):LnW w (zQ wr BU U') X Y n d BU U' m K' c' :=
 have l2:=h.l2
 ⟨h.x.offP (by omega) _,h.y.offP (by omega) _,h.ix.put h.u.c _,h.iy.put h.u.c _,h.u.put _,hb,hp.put h.u.c _,h.r.off (by omega) _,kB h.be (by omega) _ _ _ _ _,h.l2⟩
theorem NmC.offH {w:World} {B B':Nat} {x:Nm} (h:NmC w B x) (hne:B≠B') (u0 u1:Value):NmC ((w.setCell ⟨B',2,none⟩ u0).setCell ⟨B',3,none⟩ u1) B x:=by
 obtain⟨q0,q1⟩:=h;exact⟨by simp[go_sem,q0,hne,Ne.symm hne],by simp[go_sem,q1,hne,Ne.symm hne]⟩
theorem LnW.putH {w wr:World} {X Y:Nm} {n d:Int} {BU:Nat} {U:Sp} {m K:Nat} {c:Int × Int} (h:LnW w wr X Y n d BU U m K c) {H:Nm} {z:Int} {K':Nat} (hK:K<=K') (hp:IntAt wr H.neg H.a H.n H.cap K' z):LnW w ((wr.setCell ⟨BU,2,none⟩ (.bool H.neg)).setCell ⟨BU,3,none⟩ (.slice H.a H.n H.cap)) X Y n d BU ⟨U.ln,U.la,U.lN,U.lc,H.neg,H.a,H.n,H.cap,U.bits⟩ m K' (c.1,z) :=
 have l2:=h.l2
 ⟨h.x.offH (by omega) _ _,h.y.offH (by omega) _ _,h.ix.putH h.u.c.c2 h.u.c.c3 _ _,h.iy.putH h.u.c.c2 h.u.c.c3 _ _,zHX h.u H,h.ub,⟨(h.up.lo.mono hK).putH h.u.c.c2 h.u.c.c3 _ _,hp.putH h.u.c.c2 h.u.c.c3 _ _⟩,h.r.offH (by omega) _ _,(h.be.setCell (p:=⟨BU,2,none⟩) (by show w.heap.size<=BU;omega) _).setCell (p:=⟨BU,3,none⟩) (by show w.heap.size<=BU;omega) _,h.l2⟩
theorem lg_end {L:Rat->Nat->Rat} (hL:Lns L) {n d:Int} {b x K:Nat} (h:zJ6 n d b x) (hK:2*x<K) (Z4:K<=25000) (hT:(lmS n d x (b+128) K).T.2<=1) {g X l1 l2 l3 l4:Nat->Rat} {a1 b1 a2 b2 a3 b3 a4 b4:Int} (hg:IsGam L ((n:Rat)/(d:Rat)) g) (hX:IsLog X g)
  (g1:IsLog l1 (λ _=>(lmL (lmS n d x (b+128) K).U:Rat)/(Q (b+128):Rat))) (g2:IsLog l2 (λ _=>(lmH (b+128) (lmS n d x (b+128) K).e (lmS n d x (b+128) K).U:Rat)/(Q (b+128):Rat))) (g3:IsLog l3 (λ _=>((2:Int):Rat)/((1:Int):Rat))) (g4:IsLog l4 (λ _=>((x:Int):Rat)/((1:Int):Rat)))
  (i1:Iv (b+40) (a1,b1) l1) (i2:Iv (b+40) (a2,b2) l2) (i3:Iv (b+40) (a3,b3) l3) (i4:Iv (b+40) (a4,b4) l4):Iv b (zN (lgR (b+40) n d ((64*(lmS n d x (b+128) K).e:Nat):Int) (x:Int) (a1,b1) (a2,b2) (a3,b3) (a4,b4)) 40) X:=by
 have inv1:(1:Rat)⁻¹=1:=by decide +kernel
 have e3:((2:Int):Rat)/((1:Int):Rat)=2:=by decide +kernel
 have e4:((x:Int):Rat)/((1:Int):Rat)=(x:Rat):=by
  have e1:((1:Int):Rat)=1:=rfl;have e2:((x:Int):Rat)=(x:Rat):=rfl;rw[e1,e2,Yg,inv1,Rat.mul_one]
 rw[e3] at g3;rw[e4] at g4;have x0:(0:Rat)<(x:Rat):=by exact_mod_cast (show 0<x by have:=h.xb;omega)
 obtain⟨low,up⟩:=lm_log hL h rfl hK Z4 hT hg hX g1 g2 g3;exact (lgR_has h.d0 i1 i2 i3 (i4.congr ((hL _ x0).uniq g4)) low up).to
theorem lm_lg {n d:Int} {x b k:Nat} {s:LmSt} (o:LmOk n d x (b+128) k s) (C9:8<=b) (hb:b<=400):0<lmL s.U/\0<Q (b+128)/\lmL s.U<P 110/\2*Q (b+128)<P 110/\Q (b+128)<=lmL s.U*Q (b+128)/\lmL s.U<Q (b+128)*Q (b+128+1)/\0<lmH (b+128) s.e s.U/\lmH (b+128) s.e s.U<P 110/\Q (b+128)<=lmH (b+128) s.e s.U*Q (b+128)/\lmH (b+128) s.e s.U<Q (b+128)*Q (b+128+1):=by
 have u1:=o.u1;have ul:=o.ul;have us:=o.us;have q:=zG (b+128);have qe:=zG (64*s.e);have q1:=zG (b+128+1)
 have c0:0 <= -(-(Q (b+128+1))/Q (64*s.e)) /\ -(-(Q (b+128+1))/Q (64*s.e))<=Q (b+128+1):=by
  have m:=XR qe (show 0<=Q (b+128+1) by omega)
  have r:=jA (x:=Q (b+128+1)) (m:=Q (b+128+1)) (q:=Q (64*s.e)) (by omega) (by omega) (by omega)
  have c:=zCP (Q (b+128+1)) (show 0<Q (64*s.e) by omega)
  refine⟨Int.not_lt.1 λ hn=>?_,r.2.2.2⟩
  have:=XK (show -(-(Q (b+128+1))/Q (64*s.e)) <= -1 by omega) (show 0<=Q (64*s.e) by omega)
  omega
 have eL:lmL s.U=s.U.1-2:=rfl;have eH:lmH (b+128) s.e s.U=s.U.2+2 + -(-(Q (b+128+1))/Q (64*s.e)):=rfl;have m1:=zK (show b+128+128+2<=b+128+(b+128+1) by omega)
 rw[jD (b+128) (b+128+1)] at m1;have m2:=zK (show b+128+(b+128+1)<=16*110 by omega)
 rw[Q_P,jD (b+128) (b+128+1)] at m2;have m3:=zK (show b+128+1<=b+128+128 by omega)
 have e2:Q (b+128+128+2)=4*Q (b+128+128):=by
  have e:=jD (b+128+128) 2;have e4:Q 2=4:=rfl;rw[e4] at e;omega
 have e3:Q (b+128+1)=2*Q (b+128):=rfl;have k1:=XK (show 1<=lmL s.U by omega) (show 0<=Q (b+128) by omega)
 have k2:=XK (show 1<=lmH (b+128) s.e s.U by omega) (show 0<=Q (b+128) by omega)
 refine⟨by omega,by omega,by omega,by omega,by omega,by omega,by omega,by omega,by omega,by omega⟩
theorem lm_x4 {z:Int} (h0:0<z) (h1:z<=1300):z<P 4/\1<=z*Q 11/\z<1*Q (11+1):=by
 have e1:P 4=18446744073709551616:=by decide +kernel
 have e2:Q 11=2048:=rfl;have e3:Q (11+1)=4096:=rfl;rw[e1,e2,e3];omega
namespace Ex
theorem ex1_le (M:Nat):ex 1 M<=3:=by
 have key:∀ m:Nat,E 1 (m+2)<=3-tm 1 (m+1):=λ m=>by
  induction m with
  | zero=>decide +kernel
  | succ m ih =>
   have e:E 1 (m+1+2)=E 1 (m+2)+tm 1 (m+2):=rfl;have s:=kU 1 (m+1);have p:(0:Rat)<=tm 1 (m+2):=zCN (by grind) _
   have c:(((m+1:Nat):Rat)+1)=(m:Rat)+2:=by push_cast;grind
   have m0:(0:Rat)<=(m:Rat):=by exact_mod_cast Nat.zero_le m
   rw[c] at s;have q:=Yc (show (2:Rat)<=(m:Rat)+2 by grind) p
   rw[e]
   show E 1 (m+2)+tm 1 (m+2)<=3-tm 1 (m+2)
   grind
 match M with
 | 0=>decide +kernel
 | 1=>decide +kernel
 | m+2 =>
  have p:(0:Rat)<=tm 1 (m+1):=zCN (by grind) _
  have:=key m
  show E 1 (m+2)<=3
  grind
theorem ex_four (n:Nat):LeN (ex (n:Rat)) (λ _=>(Q (2*n):Rat)):=by
 induction n with
 | zero =>
  refine LeN.of_le 1 λ M hM=>?_
  obtain⟨m,rfl⟩:∃ m,M=m+1:=⟨M-1,by omega⟩
  have:ex ((0:Nat):Rat) (m+1)=1:=zAB m;rw[this];exact Rat.le_refl
 | succ n ih =>
  have c:((n+1:Nat):Rat)=(n:Rat)+1:=by push_cast;rfl
  rw[c];have s:=zFX (n:Rat) 1;have l:LeN (ex 1) (λ _=>3):=LeN.of_le 0 λ M _=>ex1_le M
  have q0:=zY (2*n);have m:=ih.mul l (yD 1) (zCE 1) (Bdd.const _) (Nn.const (XV q0));refine (LeN.of_eqN s.symm).trans (m.trans (LeN.of_le 0 λ M _=>?_))
  have e:Q (2*(n+1))=4*Q (2*n):=by
   have h1:=jD (2*n) 2;have h2:Q 2=4:=rfl;have h3:2*n+2=2*(n+1):=by omega
   rw[h2,h3] at h1;omega
  rw[e,Ye];have c4:((4:Int):Rat)=4:=rfl;rw[c4];generalize (Q (2*n):Rat)=y at *;grind
end Ex
theorem leN_cst {a b:Rat} (h:LeN (λ _=>a) (λ _=>b)):a<=b:=by
 refine Rat.not_lt.1 λ E4=>?_
 obtain⟨N,k⟩:=h ((a-b)/2) (by grind)
 have:=k N (XW _);grind
theorem lm_eb {n d:Int} {b x K:Nat} (h:zJ6 n d b x) (hK:2*x<K) (Z4:K<=25000) (hT:(lmS n d x (b+128) K).T.2<=1):64*(lmS n d x (b+128) K).e<=b+128+2*x+22:=by
 obtain⟨s1,s2⟩:=zPW (m:=b+128) h hK hT;have ok:=zEM (m:=b+128) h rfl K Z4;obtain⟨s,hs⟩:∃ s,s=lmS n d x (b+128) K:=⟨_,rfl⟩;rw[<- hs] at s1 ok ⊢;have nr:(0:Rat)<(n:Rat):=by exact_mod_cast h.n0
 have dr:(0:Rat)<(d:Rat):=by exact_mod_cast h.d0
 have a0:=zH nr dr;have x0:(0:Rat)<=(x:Rat):=by exact_mod_cast Nat.zero_le x
 have Qe:=zY (64*s.e);have Qm:=zY (b+128);have hq:=zQ4 s.e;have hp:0<h64 s.e:=zH (by grind) Qe
 have l1:LeN (λ _=>(n:Rat)/(d:Rat)*((lmL s.U:Rat)/(Q (b+128):Rat))) (λ _=>h64 s.e*(Q (2*x):Rat)):=by
  refine ((s1.cmul (c:=(n:Rat)/(d:Rat)) (XV a0)).trans ?_);refine LeN.trans (LeN.of_le 0 λ M _=>?_) ((ex_four x).cmul (c:=h64 s.e) (XV hp))
  have u:=uS_E a0 x0 M;have m:=Ya u (XV hp)
  show (n:Rat)/(d:Rat)*(h64 s.e*uS ((n:Rat)/(d:Rat)) (x:Rat) M)<=h64 s.e*E (x:Rat) M
  grind
 have k:=leN_cst l1;have k2:=Yc k (XV (Rat.mul_pos (Rat.mul_pos dr Qm) Qe));have dm:=rdm (a:=(n:Rat)) dr;have dl:=rdm (a:=(lmL s.U:Rat)) Qm
 have k3:(n:Rat)*(lmL s.U:Rat)*(Q (64*s.e):Rat)<=(Q (2*x):Rat)*((d:Rat)*(Q (b+128):Rat)):=by
  have r1:(n:Rat)/(d:Rat)*((lmL s.U:Rat)/(Q (b+128):Rat))*((d:Rat)*(Q (b+128):Rat)*(Q (64*s.e):Rat))=(n:Rat)/(d:Rat)*(d:Rat)*((lmL s.U:Rat)/(Q (b+128):Rat)*(Q (b+128):Rat))*(Q (64*s.e):Rat):=by grind
  have r2:h64 s.e*(Q (2*x):Rat)*((d:Rat)*(Q (b+128):Rat)*(Q (64*s.e):Rat))=h64 s.e*(Q (64*s.e):Rat)*((Q (2*x):Rat)*((d:Rat)*(Q (b+128):Rat))):=by grind
  rw[r1,r2,dm,dl,hq] at k2;grind
 have k4:n*lmL s.U*Q (64*s.e)<=Q (2*x)*(d*Q (b+128)):=by exact_mod_cast k3
 have q1:=zG (64*s.e);have q2:=zG (2*x);have q3:=zG (b+128);have u1:=ok.u1;have eL:lmL s.U=s.U.1-2:=rfl;have n0:=h.n0
 have nl:524288<=n*lmL s.U:=by
  have:=XK (show 1<=n by omega) (show 0<=lmL s.U by omega)
  omega
 have m1:=XK nl (show 0<=Q (64*s.e) by omega)
 have m2:=XR (XK h.dd (show 0<=Q (b+128) by omega)) (show 0<=Q (2*x) by omega)
 refine Nat.not_lt.1 λ E4=>?_
 have g:=zK (show b+128+2*x+23<=64*s.e by omega)
 have e1:Q (b+128+2*x+23)=Q (2*x)*Q (b+128)*8388608:=by
  have h1:=jD (b+128+2*x) 23;have h2:=jD (b+128) (2*x);have h3:Q 23=8388608:=rfl;rw[h1,h2,h3,Int.mul_comm (Q (b+128))]
 have pp:=Int.mul_pos (show 0<Q (2*x) by omega) (show 0<Q (b+128) by omega)
 have r1:Q (2*x)*(2199023255552*Q (b+128))=2199023255552*(Q (2*x)*Q (b+128)):=by grind
 generalize Q (2*x)*Q (b+128)=y at *;omega
theorem lg_abs {n d:Int} {b z e:Nat} (h:zJ6 n d b z) (he:64*e<=b+128+2*z+22) {a1 b1 a2 b2 a3 b3 a4 b4 zz:Int} (hz:(z:Int)=zz) (h1:Abs (a1,b1) (3*(((b+128:Nat):Int)+1)*Q (b+40))) (h2:Abs (a2,b2) (3*(((b+128:Nat):Int)+1)*Q (b+40))) (h3:Abs (a3,b3) (3*(((1:Nat):Int)+1)*Q (b+40))) (h4:Abs (a4,b4) (3*(((11:Nat):Int)+1)*Q (b+40))) :
  Abs (zN (zAF (jJ (jJ (a1,b2) (byI (a3,b3) (64*(e:Int)) 1)) (byI (a4,b4) n d)) (zz*Q (b+40),zz*Q (b+40))) 40) (30000*Q b):=by
 have q:=zG (b+40);have qb:=zG b;have b1':=h.b1;have z1:=h.x1;have n0:=h.n0;have d0:=h.d0
 have A3:=zDG (n:=64*(e:Int)) (d:=1) (c:=64*(e:Int)) (p:=19200*Q (b+40)) h3 (by decide) (by omega) (Int.le_refl _) (by
  have m:=XR (show 64*(e:Int)<=3200 by omega) (show 0<=3*(((1:Nat):Int)+1)*Q (b+40) by omega)
  omega)
 have A4:=zDG (n:=n) (d:=d) (c:=n) (p:=7236*Q (b+40)) h4 d0 (by omega) (Int.le_refl _) (by
  have m:=XR h.up (show 0<=3*(((11:Nat):Int)+1)*Q (b+40) by omega)
  have r:3*(((11:Nat):Int)+1)*Q (b+40)*(201*d)=7236*Q (b+40)*d:=by
   have:(((11:Nat):Int)+1)=12:=rfl;rw[this];grind
  omega)
 obtain⟨x1,x2,x3,x4⟩:=h1;obtain⟨y1,y2,y3,y4⟩:=h2;obtain⟨s1,s2,s3,s4⟩:=A3;obtain⟨t1,t2,t3,t4⟩:=A4;simp only[] at x1 x2 x3 x4 y1 y2 y3 y4;have m1:=XK (show 3*(((b+128:Nat):Int)+1)<=1587 by omega) (show 0<=Q (b+40) by omega)
 have m2:=XK (show zz<=1300 by omega) (show 0<=Q (b+40) by omega)
 have m3:=Yb (show 0<=zz by omega) (show 0<=Q (b+40) by omega)
 have DM:Q (b+40)=Q b*Q 40:=jD b 40;obtain⟨P,hP⟩:∃ P,P=zAF (jJ (jJ (a1,b2) (byI (a3,b3) (64*(e:Int)) 1)) (byI (a4,b4) n d)) (zz*Q (b+40),zz*Q (b+40)):=⟨_,rfl⟩;have p1:P.1=a1+(byI (a3,b3) (64*(e:Int)) 1).1+(byI (a4,b4) n d).1-zz*Q (b+40):=by rw[hP];rfl
 have p2:P.2=b2+(byI (a3,b3) (64*(e:Int)) 1).2+(byI (a4,b4) n d).2-zz*Q (b+40):=by rw[hP];rfl
 rw[<- hP];have TR:=zG 40;have e3:30000*Q b*Q 40=30000*Q (b+40):=by rw[DM];grind
 have r1:=jA (x:=P.1) (m:=30000*Q b) (q:=Q 40) (by omega) (by rw[e3];omega) (by rw[e3];omega)
 have r2:=jA (x:=P.2) (m:=30000*Q b) (q:=Q 40) (by omega) (by rw[e3];omega) (by rw[e3];omega)
 exact⟨r1.1,r1.2.1,r2.2.2.1,r2.2.2.2⟩
end Go.Proofs.YtgmnknmjainababGreat
