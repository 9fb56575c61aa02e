/-
  Its own texts.
-/
import Derived.Test.YtgmnknmjainabacGreatK26
set_option maxRecDepth 100000
set_option maxHeartbeats 40000000
set_option linter.unnecessarySimpa false
set_option linter.unusedSimpArgs false
set_option linter.unusedVariables false
namespace Go.Proofs.YtgmnknmjainabacGreat
open Go.RowKit
attribute [local go_sem ↓] Go.wp_at_zero Go.wp_at_succ
open Ex
theorem zRA (u:Sp) (w:World):Calls Tryz.prog 47 #[.agg u.q] w λ r w'=>r=.returned (.agg u.q)/\Below w.heap.size w w':=by
 obtain⟨W,hW⟩:∃ W,W=(w.alloc (.cells u.q 31)).alloc (.cells zCq 31):=⟨_,rfl⟩;have j6:Below w.heap.size w W:=by rw[hW];exact bl2 _ _ _
 have U:SpC W w.heap.size u:=by rw[hW];exact (kO w u _).bw (bl1 _ _)
 have R:NoC W (w.heap.size+1):=by rw[hW];constructor<;>simp[go_sem]
 have lR:=R.lt;have lU:=U.lt;obtain⟨x0,x1,x2,x3,x4⟩:=U;obtain⟨q0,q1,q2,q3,q4,q5⟩:=R
 go_enter Tryz.func47,Tryz.ntmps47
 go_wp2
 try rw[<- hW]
 clear hW
 try go_wp2
 refine bodyPost_ret (v:=.agg u.q) (by simp[results,Tryz.results47,go_sem,q0,q1,q2,q3,q4]) rfl ⟨rfl,?_⟩
 exact bl2 _ _ _
structure MdAt (w:World) (hv:Value) (k p q r s n d:Int) (B1 B2 B3:Nat):Prop where
 f:w.cell? ⟨B1,0,none⟩=some hv
 l:LwC w B2 k p q r s
 x:RaC w B3 n d
theorem MdAt.lt {w:World} {hv:Value} {k p q r s n d:Int} {B1 B2 B3:Nat} (h:MdAt w hv k p q r s n d B1 B2 B3):B1<w.heap.size:=World.block_lt_of_cell? w ⟨B1,0,none⟩ h.f
theorem MdAt.bw {w w':World} {hv:Value} {k p q r s n d:Int} {B1 B2 B3:Nat} (h:MdAt w hv k p q r s n d B1 B2 B3) (hb:Below w.heap.size w w'):MdAt w' hv k p q r s n d B1 B2 B3 :=
 ⟨(hb.cell (p:=⟨B1,0,none⟩) h.lt).trans h.f,h.l.bw hb,h.x.bw hb⟩
theorem zGL (b:Nat) (B1 B2 B3:Nat) (w:World) (k p q r s n d:Int) (Pr:Int->Int->Prop) (h:MdAt w (.func (.func 47) #[] #[]) k p q r s n d B1 B2 B3) (hb:b<=10000) (hC:∀ w',Calls Tryz.prog 91 #[.agg #[.int .i64 k,.int .i64 p,.int .i64 q,.int .i64 r,.int .i64 s],.agg #[.int .i64 n,.int .i64 d],.int .i64 b] w' (BlG 30000 Pr w' b)) :
  Calls Tryz.prog 90 #[.int .i64 b,.pointer (some ⟨B1,0,none⟩),.pointer (some ⟨B2,0,none⟩),.pointer (some ⟨B3,0,none⟩)] w (BlG 30000 Pr w b):=by
 have l1:=h.lt;have l2:=h.l.lt;have l3:=h.x.lt;obtain⟨W,hW⟩:∃ W,W=w.alloc (.cells zCq 31):=⟨_,rfl⟩;have j6:Below w.heap.size w W:=by rw[hW];exact bl1 _ _
 have R:NoC W w.heap.size:=by rw[hW];exact zQ _ _
 have h':=h.bw j6;have HK:=zC (show ∀ w',Below W.heap.size W w'->(w'.cell? ⟨B1,0,none⟩=some (.func (.func 47) #[] #[])/\rK w' B2 k p (w'.cell? ⟨B2,2,none⟩=some (.int .i64 q)/\w'.cell? ⟨B2,3,none⟩=some (.int .i64 r)/\w'.cell? ⟨B2,4,none⟩=some (.int .i64 s)/\rK0 w' B3 n d)) from λ w' hB=>⟨(h'.bw hB).f,(h'.bw hB).l.c0,(h'.bw hB).l.c1,(h'.bw hB).l.c2,(h'.bw hB).l.c3,(h'.bw hB).l.c4,(h'.bw hB).x.c0,(h'.bw hB).x.c1⟩)
 have HC:=zC hC;clear h h' hC
 go_enter Tryz.func90,Tryz.ntmps90
 go_wp2;rw[<- hW];clear hW;have lR:=R.lt;have nA:B1≠w.heap.size:=by omega
 have SA:w.heap.size≠B1:=by omega
 have nB:B2≠w.heap.size:=by omega
 have Lo:w.heap.size≠B2:=by omega
 have nC:B3≠w.heap.size:=by omega
 have nC':w.heap.size≠B3:=by omega
 obtain⟨x0,x1,x2,x3,x4,x5,x6,x7⟩:=zA HK _ (Below.refl _ _);have D5:Below W.heap.size W W.drew:=(Below.refl _ _).drew
 go_region_held3 (λ w'=>w'.cell? ⟨B1,0,none⟩=some (.func (.func 47) #[] #[])/\rK w' B2 k p (w'.cell? ⟨B2,2,none⟩=some (.int .i64 q)/\w'.cell? ⟨B2,3,none⟩=some (.int .i64 r)/\w'.cell? ⟨B2,4,none⟩=some (.int .i64 s)/\rK0 w' B3 n d)) (first|exact zA HK _ (by with_reducible first|exact D5|exact s9|exact y9)|(dsimp only[cK,cK0,nK,nK0,rK,rK0];go_keep)|go_keep)
  (first
   | (go_at_call 47;have O3:=y9;refine (zRA u _).mono ?_;rintro r' w2 ⟨rfl,j8⟩;have s9:=zB y9 j8;obtain⟨q0,q1,q2,q3,q4,q5⟩:=R.bw s9;obtain⟨y0,y1,y2,y3,y4,y5,y6,y7⟩:=zA HK _ s9)
   | (go_at_call 91;refine (zA HC _).mono ?_;rintro r' w1 ⟨lo,hi,I9,u,rfl,B8,B7,b9⟩;have y9:=zB D5 b9;have G8:=zC B8;have M9:=zC I9;clear B8 I9))
 all_goals
  go_wp2_with fail;refine bodyPost_ret (v:=.agg u.q) (by simp[results,Tryz.results90,go_sem,q0,q1,q2,q3,q4]) rfl ⟨lo,hi,zA M9,u,rfl,zA G8,?_,?_⟩
  ·exact SpAt.put5 (B7.bw j8) q0 q1 q2 q3 q4 _ _ _ _ _
  ·exact jV (zB j6 s9) (Yy _) _ _ _ _ _
theorem zHF (b:Nat) (B1 B2 B3:Nat) (w:World) (k p q r s n d:Int) (Pr:Int->Int->Prop) (h:MdAt w (.func (.func 48) #[] #[]) k p q r s n d B1 B2 B3) (hb:b<=10000) (hC:∀ w',Calls Tryz.prog 91 #[.agg #[.int .i64 k,.int .i64 p,.int .i64 q,.int .i64 r,.int .i64 s],.agg #[.int .i64 n,.int .i64 d],.int .i64 b] w' (BlG 30000 Pr w' b)) :
  Calls Tryz.prog 90 #[.int .i64 b,.pointer (some ⟨B1,0,none⟩),.pointer (some ⟨B2,0,none⟩),.pointer (some ⟨B3,0,none⟩)] w (BlG 30001 (λ l h=>∃ l0 h0,Pr l0 h0/\l=(zBE b (l0,h0)).1/\h=(zBE b (l0,h0)).2) w b):=by
 have l1:=h.lt;have l2:=h.l.lt;have l3:=h.x.lt;obtain⟨W,hW⟩:∃ W,W=w.alloc (.cells zCq 31):=⟨_,rfl⟩;have j6:Below w.heap.size w W:=by rw[hW];exact bl1 _ _
 have R:NoC W w.heap.size:=by rw[hW];exact zQ _ _
 have h':=h.bw j6;have HK:=zC (show ∀ w',Below W.heap.size W w'->(w'.cell? ⟨B1,0,none⟩=some (.func (.func 48) #[] #[])/\rK w' B2 k p (w'.cell? ⟨B2,2,none⟩=some (.int .i64 q)/\w'.cell? ⟨B2,3,none⟩=some (.int .i64 r)/\w'.cell? ⟨B2,4,none⟩=some (.int .i64 s)/\rK0 w' B3 n d)) from λ w' hB=>⟨(h'.bw hB).f,(h'.bw hB).l.c0,(h'.bw hB).l.c1,(h'.bw hB).l.c2,(h'.bw hB).l.c3,(h'.bw hB).l.c4,(h'.bw hB).x.c0,(h'.bw hB).x.c1⟩)
 have HC:=zC hC;clear h h' hC
 go_enter Tryz.func90,Tryz.ntmps90
 go_wp2;rw[<- hW];clear hW;have lR:=R.lt;have nA:B1≠w.heap.size:=by omega
 have SA:w.heap.size≠B1:=by omega
 have nB:B2≠w.heap.size:=by omega
 have Lo:w.heap.size≠B2:=by omega
 have nC:B3≠w.heap.size:=by omega
 have nC':w.heap.size≠B3:=by omega
 obtain⟨x0,x1,x2,x3,x4,x5,x6,x7⟩:=zA HK _ (Below.refl _ _);have D5:Below W.heap.size W W.drew:=(Below.refl _ _).drew
 go_region_held3 (λ w'=>w'.cell? ⟨B1,0,none⟩=some (.func (.func 48) #[] #[])/\rK w' B2 k p (w'.cell? ⟨B2,2,none⟩=some (.int .i64 q)/\w'.cell? ⟨B2,3,none⟩=some (.int .i64 r)/\w'.cell? ⟨B2,4,none⟩=some (.int .i64 s)/\rK0 w' B3 n d)) (first|exact zA HK _ (by with_reducible first|exact D5|exact s9|exact y9)|(dsimp only[cK,cK0,nK,nK0,rK,rK0];go_keep)|go_keep)
  (first
   | (go_at_call 48;have O3:=y9;refine (zE0 _ u 30000 b (lo,hi) B7 (zA G8) (by omega) (by omega) (by omega)).mono ?_;rintro r' w2 ⟨v,rfl,J8,J6,j8⟩;have s9:=zB y9 j8;have Hi:=zC J8;clear J8;obtain⟨q0,q1,q2,q3,q4,q5⟩:=R.bw s9;obtain⟨y0,y1,y2,y3,y4,y5,y6,y7⟩:=zA HK _ s9)
   | (go_at_call 91;refine (zA HC _).mono ?_;rintro r' w1 ⟨lo,hi,I9,u,rfl,B8,B7,b9⟩;have y9:=zB D5 b9;have G8:=zC B8;have M9:=zC I9;clear B8 I9))
 all_goals
  go_wp2_with fail;refine bodyPost_ret (v:=.agg v.q) (by simp[results,Tryz.results90,go_sem,q0,q1,q2,q3,q4]) rfl ⟨_,_,⟨lo,hi,zA M9,rfl,rfl⟩,v,rfl,zA Hi,?_,?_⟩
  ·exact SpAt.put5 (J6) q0 q1 q2 q3 q4 _ _ _ _ _
  ·exact jV (zB j6 s9) (Yy _) _ _ _ _ _
theorem nat_add (b m:Nat):((b:Int)+(m:Int))=((b+m:Nat):Int):=by omega
theorem zTA (w:World) (ff:Nat) (k p q r s n d:Int) (b:Nat) (h0:kT k p q r s=0) (h1:rok n d) (h5:8<=b) (h6:b<=120) (Kw KD:Nat) (Pr:Nat->Int->Int->Prop) (QF:Kw<=900000) (Cr:KD<=100000000) (hE:zFL b Kw Pr) (hF:∀ (m:Nat) w' B1 B2 B3,32<=m->m<=Kw+120->MdAt w' (.func (.func ff) #[] #[]) k p q r s n d B1 B2 B3->Calls Tryz.prog 90 #[.int .i64 ((b+m:Nat):Int),.pointer (some ⟨B1,0,none⟩),.pointer (some ⟨B2,0,none⟩),.pointer (some ⟨B3,0,none⟩)] w' (BlG KD (Pr (b+m)) w' (b+m))) :
  Calls Tryz.prog 46 #[.agg #[.int .i64 k,.int .i64 p,.int .i64 q,.int .i64 r,.int .i64 s],.agg #[.int .i64 n,.int .i64 d],.int .i64 b,.func (.func ff) #[] #[]] w (λ z w'=>∃ L H,zFZ b Pr L H/\PairAns w b 250 L H 0 z w'):=by
 have e1:zI9 n d b=0:=by unfold zI9;rw[if_pos ⟨h1,by omega,by omega⟩]
 have E0:=zC h0;have E1:=zC e1;have HF:=zC hF;clear h0 e1 hF;have HE:=zC hE;clear hE
 go_enter Tryz.func46,Tryz.ntmps46
 go_wp2_with fail;refine (jO k p q r s _).mono ?_;rintro r' w1 ⟨rfl,b9⟩;rw[zA E0];have C:MdAt w1 (.func (.func ff) #[] #[]) k p q r s n d (w.heap.size+1+1) w.heap.size (w.heap.size+1):=MdAt.bw ⟨by simp[go_sem],⟨by simp[go_sem],by simp[go_sem],by simp[go_sem],by simp[go_sem],by simp[go_sem]⟩,⟨by simp[go_sem],by simp[go_sem]⟩⟩ b9
 have R:NoC w1 (w.heap.size+1+1+1):=NoC.bw ⟨by simp[go_sem],by simp[go_sem],by simp[go_sem],by simp[go_sem],by simp[go_sem],λ o=>by simp[go_sem]⟩ b9
 have hB:Below w.heap.size w w1:=zB (bl4 _ _ _ _ _) b9;have lR:=R.lt;obtain⟨x0,⟨x1,x2,x3,x4,x5⟩,⟨x6,x7⟩⟩:=C;have C:MdAt w1 (.func (.func ff) #[] #[]) k p q r s n d (w.heap.size+1+1) w.heap.size (w.heap.size+1):=⟨x0,⟨x1,x2,x3,x4,x5⟩,⟨x6,x7⟩⟩;clear b9;go_wp2_with fail;refine (zCZ b w1 _ (by simp) n d _ _).mono ?_
 rintro r' w2 ⟨rfl,j8⟩;rw[zA E1];replace C:=C.bw j8;replace R:=R.bw j8;replace hB:=zB hB j8;clear j8 x0 x1 x2 x3 x4 x5 x6 x7;go_wp2_with fail;refine (zOJ _ _ zO9 b Kw KD Pr _ h6 QF Cr (zA HE) (λ m w' hm J5 C8=>by rw[nat_add];exact zA HF m w' _ _ _ hm J5 (C.bw C8))).mono ?_
 rintro r' w3 ⟨L,H,hS,u,rfl,B8,B7,m8⟩;obtain⟨q0,q1,q2,q3,q4,q5⟩:=R.bw m8;replace hB:=zB hB m8;have G8:=zC B8;have Hf:=zC hS;clear B8 hS;go_wp2_with fail;refine bodyPost_ret (v:=.tuple #[.agg u.q,.int .i64 0]) (by simp[results,Tryz.results46,go_sem,q0,q1,q2,q3,q4]) rfl ⟨L,H,zA Hf,u,rfl,zA G8,?_,?_⟩
 ·exact SpAt.put5 B7 q0 q1 q2 q3 q4 _ _ _ _ _
 ·exact jV hB (by omega) _ _ _ _ _
theorem zI6 (p1 p2 p3:Value) (bits KD:Nat) (lo hi L H:Int) (W:World) (hb:bits<=120) (Cr:KD<=100000000) (hL:L=lo/Q 32) (hH:H = -(-hi/Q 32)) (v1:0<=H-L) (hw:H-L<=1) (f1 : -P 250<L) (f2:H<P 250)
  (hF:∀ w',Below W.heap.size W w'->Calls Tryz.prog 90 #[.int .i64 ((bits:Int)+32),p1,p2,p3] w' (zH w' ((bits:Int)+32) KD lo hi)) :
  Calls Tryz.prog 55 #[.int .i64 bits,.func (.func 90) #[] #[p1,p2,p3]] W (zH W bits 250 L H):=by
 have HF:=zC hF;have Vg:=zC hL;have Va:=zC hH;clear hF hL hH;have zr:=zQ W 31
 go_enter Tryz.func55,Tryz.ntmps55
 go_wp2_with fail
 go_loopw [5,6] (λ mm tt wr=>mm=.int .i64 32/\tt=.int .i64 1/\NoC wr W.heap.size/\Below W.heap.size W wr) (λ _ _ _=>0)
 case atStart=>exact⟨rfl,rfl,zr,bl1 _ _⟩
 case round =>
  obtain⟨rfl,rfl,R,hB⟩:=hrel;go_wp2_with fail;refine (zA HF _ hB).mono ?_;rintro r w1 ⟨s,rfl,aV,bl,b9⟩;replace R:=R.bw b9;replace hB:=zB hB b9;clear b9;have mL:0<=s.bits:=by omega
  have hs1:s.bits<=1000000:=by omega
  have d1:zA5 lo (s.bits-bits)=L:=by rw[zA Vg];unfold zA5;rw[aV,if_pos (by omega)];congr 2;omega
  have d2 : -zA5 (-hi) (s.bits-bits)=H:=by rw[zA Va];unfold zA5;rw[aV,if_pos (by omega)];congr 3;omega
  have AK:=zC d1;have AL:=zC d2;clear d1 d2 aV;go_wp2_with fail;refine (zHQ _ s KD bits lo hi bl (by omega) mL hs1 (by omega) (by omega)).mono ?_
  rintro r w2 ⟨u,rfl,B8,B7,j8⟩;rw[zA AK,zA AL] at B7;replace B7:=B7.fits (K:=250) (by omega) f1 f2
  replace R:=R.bw j8;replace hB:=zB hB j8;have G8:=zC B8;clear j8 B8 mL hs1 AK AL bl;have lR:=R.lt;obtain⟨V,hV⟩:∃ V,V=w2.alloc (.cells u.q 31):=⟨_,rfl⟩;have bV:Below w2.heap.size w2 V:=by rw[hV];exact bl1 _ _
  have U:SpC V w2.heap.size u:=by rw[hV];exact⟨by simp,by simp,by simp,by simp,by simp⟩
  replace R:=R.bw bV;replace hB:=zB hB bV;replace B7:=B7.bw bV;clear bV;go_wp2_with fail;rw[<- hV];clear hV;refine (zBP _ _ _ _ _ _ _ _ 250 250 H L _ B7.hi B7.lo (by omega) (by omega)).mono ?_
  rintro r w3 ⟨B9,a3,n3,c3,rfl,E7,m8⟩;replace U:=U.bw m8;replace R:=R.bw m8;replace hB:=zB hB m8;replace B7:=B7.bw m8;clear m8;go_wp2_with fail;refine (zD2 _ _ _ _ _ (H-L) _ E7 v1).mono ?_;rintro r w4 ⟨l,hlen,rfl,p9⟩;replace U:=U.bw p9;replace R:=R.bw p9;replace hB:=zB hB p9;replace B7:=B7.bw p9
  have hc:l<=1:=by
   obtain⟨g1,g2,g3⟩:=hlen
   by_cases hp:0<H-L
   ·obtain⟨L',e1,e2,e3⟩:=g3 hp
    have:¬ 1<=L':=λ h=>by
     have:=zJ h;have:Q 1=2:=rfl;omega
    omega
   ·have:=g2 (by omega);omega
  clear p9 E7 hlen;have lU:=U.lt;have Z6:=R.lt;have nRU:W.heap.size≠w2.heap.size:=by omega
  have Lq:w2.heap.size≠W.heap.size:=by omega
  obtain⟨x0,x1,x2,x3,x4⟩:=U;obtain⟨q0,q1,q2,q3,q4,q5⟩:=R;go_wp2_with fail;refine bodyPost_ret (v:=.agg u.q) (by simp[results,Tryz.results55,go_sem,q0,q1,q2,q3,q4]) rfl ⟨u,rfl,zA G8,?_,?_⟩
  ·exact SpAt.put5 B7 q0 q1 q2 q3 q4 _ _ _ _ _
  ·exact jV hB (Yy _) _ _ _ _ _
theorem zNU (w:World) (ff:Nat) (k p q r s n d:Int) (b:Nat) (h0:kT k p q r s=0) (h1:rok n d) (h5:8<=b) (h6:b<=120) (KD:Nat) (lo hi L H:Int) (Cr:KD<=100000000) (hL:L=lo/Q 32) (hH:H = -(-hi/Q 32)) (v1:0<=H-L) (hw:H-L<=1) (f1 : -P 250<L) (f2:H<P 250) (hF:∀ w' B1 B2 B3,MdAt w' (.func (.func ff) #[] #[]) k p q r s n d B1 B2 B3->Calls Tryz.prog 90 #[.int .i64 ((b:Int)+32),.pointer (some ⟨B1,0,none⟩),.pointer (some ⟨B2,0,none⟩),.pointer (some ⟨B3,0,none⟩)] w' (zH w' ((b:Int)+32) KD lo hi)) :
  Calls Tryz.prog 46 #[.agg #[.int .i64 k,.int .i64 p,.int .i64 q,.int .i64 r,.int .i64 s],.agg #[.int .i64 n,.int .i64 d],.int .i64 b,.func (.func ff) #[] #[]] w (PairAns w b 250 L H 0):=by
 have e1:zI9 n d b=0:=by unfold zI9;rw[if_pos ⟨h1,by omega,by omega⟩]
 have E0:=zC h0;have E1:=zC e1;have HF:=zC hF;clear h0 e1 hF;have HL:=zC hL;have HH:=zC hH;have AM:=zC (And.intro f1 f2);clear hL hH f1 f2
 go_enter Tryz.func46,Tryz.ntmps46
 go_wp2_with fail;refine (jO k p q r s _).mono ?_;rintro r' w1 ⟨rfl,b9⟩;rw[zA E0];have C:MdAt w1 (.func (.func ff) #[] #[]) k p q r s n d (w.heap.size+1+1) w.heap.size (w.heap.size+1):=MdAt.bw ⟨by simp[go_sem],⟨by simp[go_sem],by simp[go_sem],by simp[go_sem],by simp[go_sem],by simp[go_sem]⟩,⟨by simp[go_sem],by simp[go_sem]⟩⟩ b9
 have R:NoC w1 (w.heap.size+1+1+1):=NoC.bw ⟨by simp[go_sem],by simp[go_sem],by simp[go_sem],by simp[go_sem],by simp[go_sem],λ o=>by simp[go_sem]⟩ b9
 have hB:Below w.heap.size w w1:=zB (bl4 _ _ _ _ _) b9;have lR:=R.lt;obtain⟨x0,⟨x1,x2,x3,x4,x5⟩,⟨x6,x7⟩⟩:=C;have C:MdAt w1 (.func (.func ff) #[] #[]) k p q r s n d (w.heap.size+1+1) w.heap.size (w.heap.size+1):=⟨x0,⟨x1,x2,x3,x4,x5⟩,⟨x6,x7⟩⟩;clear b9;go_wp2_with fail;refine (zCZ b w1 _ (by simp) n d _ _).mono ?_
 rintro r' w2 ⟨rfl,j8⟩;rw[zA E1];replace C:=C.bw j8;replace R:=R.bw j8;replace hB:=zB hB j8;clear j8 x0 x1 x2 x3 x4 x5 x6 x7;go_wp2_with fail;refine (zI6 _ _ _ b KD lo hi L H _ h6 Cr (zA HL) (zA HH) v1 hw (zA AM).1 (zA AM).2 (λ w' C8=>zA HF w' _ _ _ (C.bw C8))).mono ?_
 rintro r' w3 ⟨u,rfl,B8,B7,m8⟩;obtain⟨q0,q1,q2,q3,q4,q5⟩:=R.bw m8;replace hB:=zB hB m8;have G8:=zC B8;clear B8;go_wp2_with fail;refine bodyPost_ret (v:=.tuple #[.agg u.q,.int .i64 0]) (by simp[results,Tryz.results46,go_sem,q0,q1,q2,q3,q4]) rfl ⟨u,rfl,zA G8,?_,?_⟩
 ·exact SpAt.put5 B7 q0 q1 q2 q3 q4 _ _ _ _ _
 ·exact jV hB (by omega) _ _ _ _ _
theorem zS6 (w:World) (ff:Nat) (k p q r s n d b:Int) (h0:kT k p q r s≠0) :
  Calls Tryz.prog 46 #[.agg #[.int .i64 k,.int .i64 p,.int .i64 q,.int .i64 r,.int .i64 s],.agg #[.int .i64 n,.int .i64 d],.int .i64 b,.func (.func ff) #[] #[]] w (PairAns w 0 250 0 0 (kT k p q r s)):=by
 go_enter Tryz.func46,Tryz.ntmps46
 go_wp2_with fail;refine (jO k p q r s _).mono ?_;rintro r' w1 ⟨rfl,b9⟩;have h1:(kT k p q r s != 0)=true:=by simpa using h0
 have R:NoC w1 (w.heap.size+1+1+1):=NoC.bw ⟨by simp[go_sem],by simp[go_sem],by simp[go_sem],by simp[go_sem],by simp[go_sem],λ o=>by simp[go_sem]⟩ b9
 have hB:Below w.heap.size w w1:=zB (bl4 _ _ _ _ _) b9;have lR:=R.lt;clear b9;obtain⟨q0,q1,q2,q3,q4,q5⟩:=R;go_wp2_with fail;refine bodyPost_ret (v:=.tuple #[.agg zCq,.int .i64 (kT k p q r s)]) (by simp[results,Tryz.results46,go_sem,q0,q1,q2,q3,q4]) rfl ⟨⟨false,none,0,0,false,none,0,0,0⟩,rfl,rfl,zOR _ _,?_⟩
 exact jV hB (by omega) _ _ _ _ _
theorem zS7 (w:World) (ff:Nat) (k p q r s n d b:Int) (h0:kT k p q r s=0) (h1:zI9 n d b≠0) :
  Calls Tryz.prog 46 #[.agg #[.int .i64 k,.int .i64 p,.int .i64 q,.int .i64 r,.int .i64 s],.agg #[.int .i64 n,.int .i64 d],.int .i64 b,.func (.func ff) #[] #[]] w (PairAns w 0 250 0 0 (zI9 n d b)):=by
 have E0:=zC h0;clear h0
 go_enter Tryz.func46,Tryz.ntmps46
 go_wp2_with fail;refine (jO k p q r s _).mono ?_;rintro r' w1 ⟨rfl,b9⟩;rw[zA E0];have D:RaC w1 (w.heap.size+1) n d:=RaC.bw ⟨by simp[go_sem],by simp[go_sem]⟩ b9
 have R:NoC w1 (w.heap.size+1+1+1):=NoC.bw ⟨by simp[go_sem],by simp[go_sem],by simp[go_sem],by simp[go_sem],by simp[go_sem],λ o=>by simp[go_sem]⟩ b9
 have hB:Below w.heap.size w w1:=zB (bl4 _ _ _ _ _) b9;have lR:=R.lt;obtain⟨x6,x7⟩:=D;clear b9;go_wp2_with fail;refine (zCZ b w1 _ (by simp) n d _ _).mono ?_
 rintro r' w2 ⟨rfl,j8⟩;have h2:(zI9 n d b != 0)=true:=by simpa using h1
 replace R:=R.bw j8;replace hB:=zB hB j8;clear j8 x6 x7;have Z6:=R.lt;obtain⟨q0,q1,q2,q3,q4,q5⟩:=R;go_wp2_with fail;refine bodyPost_ret (v:=.tuple #[.agg zCq,.int .i64 (zI9 n d b)]) (by simp[results,Tryz.results46,go_sem,q0,q1,q2,q3,q4]) rfl ⟨⟨false,none,0,0,false,none,0,0,0⟩,rfl,rfl,zOR _ _,?_⟩
 exact jV hB (by omega) _ _ _ _ _
def PaG (Rel:Int->Int->Int->Int->Prop) (w:World) (z:Ending) (w':World):Prop:=∃ bt L H e,Rel bt L H e/\PairAns w bt 250 L H e z w'
theorem zOT (w:World) (k p q r s n d b:Int) (Rel:Int->Int->Int->Int->Prop) (hC:∀ w',Calls Tryz.prog 46 #[.agg #[.int .i64 k,.int .i64 p,.int .i64 q,.int .i64 r,.int .i64 s],.agg #[.int .i64 n,.int .i64 d],.int .i64 b,.func (.func 47) #[] #[]] w' (PaG Rel w')) :
  Calls Tryz.prog 11 #[.agg #[.int .i64 k,.int .i64 p,.int .i64 q,.int .i64 r,.int .i64 s],.agg #[.int .i64 n,.int .i64 d],.int .i64 b] w (PaG Rel w):=by
 have HC:=zC hC;clear hC
 go_enter Tryz.func11,Tryz.ntmps11
 go_wp2_with fail;refine (zA HC _).mono ?_;rintro r' w1 ⟨bt,L,H,e,hrel,u,rfl,B8,B7,b9⟩;have R:NoC w1 (w.heap.size+1+1):=NoC.bw ⟨by simp[go_sem],by simp[go_sem],by simp[go_sem],by simp[go_sem],by simp[go_sem],λ o=>by simp[go_sem]⟩ b9
 have hB:Below w.heap.size w w1:=zB (bl3 _ _ _ _) b9;obtain⟨q0,q1,q2,q3,q4,q5⟩:=R;have G8:=zC B8;have oD:=zC hrel;clear B8 b9 hrel;go_wp2_with fail;refine bodyPost_ret (v:=.tuple #[.agg u.q,.int .i64 e]) (by simp[results,Tryz.results11,go_sem,q0,q1,q2,q3,q4]) rfl ⟨bt,L,H,e,zA oD,u,rfl,zA G8,?_,?_⟩
 ·exact SpAt.put5 B7 q0 q1 q2 q3 q4 _ _ _ _ _
 ·exact jV hB (by omega) _ _ _ _ _
theorem zOS (w:World) (k p q r s n d b:Int) (Rel:Int->Int->Int->Int->Prop) (hC:∀ w',Calls Tryz.prog 46 #[.agg #[.int .i64 k,.int .i64 p,.int .i64 q,.int .i64 r,.int .i64 s],.agg #[.int .i64 n,.int .i64 d],.int .i64 b,.func (.func 48) #[] #[]] w' (PaG Rel w')) :
  Calls Tryz.prog 12 #[.agg #[.int .i64 k,.int .i64 p,.int .i64 q,.int .i64 r,.int .i64 s],.agg #[.int .i64 n,.int .i64 d],.int .i64 b] w (PaG Rel w):=by
 have HC:=zC hC;clear hC
 go_enter Tryz.func12,Tryz.ntmps12
 go_wp2_with fail;refine (zA HC _).mono ?_;rintro r' w1 ⟨bt,L,H,e,hrel,u,rfl,B8,B7,b9⟩;have R:NoC w1 (w.heap.size+1+1):=NoC.bw ⟨by simp[go_sem],by simp[go_sem],by simp[go_sem],by simp[go_sem],by simp[go_sem],λ o=>by simp[go_sem]⟩ b9
 have hB:Below w.heap.size w w1:=zB (bl3 _ _ _ _) b9;obtain⟨q0,q1,q2,q3,q4,q5⟩:=R;have G8:=zC B8;have oD:=zC hrel;clear B8 b9 hrel;go_wp2_with fail;refine bodyPost_ret (v:=.tuple #[.agg u.q,.int .i64 e]) (by simp[results,Tryz.results12,go_sem,q0,q1,q2,q3,q4]) rfl ⟨bt,L,H,e,zA oD,u,rfl,zA G8,?_,?_⟩
 ·exact SpAt.put5 B7 q0 q1 q2 q3 q4 _ _ _ _ _
 ·exact jV hB (by omega) _ _ _ _ _
structure LkPr (K:Nat) (x:Nat->Rat) (B:Nat) (l u:Int):Prop where
 lo:0<=l
 le:l<=u
 hi:u<=Q B
 wd:u-l<=Q K
 iv:Iv B (l,u) x
theorem zSU (K:Nat) (x:Nat->Rat) {bits:Nat} (hb:bits<=120):zFL bits K (LkPr K x):=λ m lo hi h=>by
 have q:=zE (bits+m);have b1:=big_Q (z:=hi) hb (show hi<=2*Q (bits+m) by have:=h.hi;omega)
 have b2:=big_Q (z := -lo) hb (show -lo<=2*Q (bits+m) by have:=h.lo;omega)
 exact⟨h.le,h.wd,by omega,b1⟩
theorem lk_rest {K:Nat} {x:Nat->Rat} {B:Nat} {l u:Int} (h:LkPr K x B l u):LkPr K (λ M=>1-x M) B (zBE B (l,u)).1 (zBE B (l,u)).2:=by
 have a:=h.lo;have b:=h.le;have c:=h.hi;have d:=h.wd;exact⟨by show 0<=Q B-u;omega,by show Q B-u<=Q B-l;omega,by show Q B-l<=Q B;omega,by show Q B-l-(Q B-u)<=Q K;omega,zFU h.iv⟩
theorem LwPr.k {x:Nat->Rat} {B:Nat} {l u:Int} (h:LwPr x B l u):LkPr 89 x B l u:=⟨h.lo,h.le,h.hi,h.wd,h.iv⟩
structure zP7 (R R2:Nat->Rat) (L G:Rat->Nat->Rat) (X:Int->Int->Nat->Rat):Prop where
 r:yG piS R
 r2:yG (λ _=>(2:Rat)) R2
 g:zLD L G X
theorem Ms:∃ R R2 L G X,zP7 R R2 L G X:=by
 obtain⟨R,hR⟩:=piR_ex;obtain⟨R2,h2⟩:=rt2_ex;obtain⟨L,G,X,hE⟩:=genv_ex;exact⟨R,R2,L,G,X,hR,h2,hE⟩
def lbX (R R2:Nat->Rat) (L G:Rat->Nat->Rat) (k p q r s n d:Int):Nat->Rat :=
 if k=1 then noX R R2 p q r s n d else if k=2 then waX p q n d else if k=3 then gaX L G p q r s n d else if k=4 then beX L p q r s n d else if k=5 then stX L p q n d else if k=6 then coX p.toNat r s n d else raX p q n d
theorem law_2 {p q r s:Int} (h:kT 2 p q r s=0):rok p q/\0<p/\p<=100*q:=by
 obtain⟨_,a,b,c,d,e⟩:=zAH h;simp[yR] at c;simp[zEB,zFT,zAC] at d;exact⟨a,c,by omega⟩
theorem law_5 {p q r s:Int} (h:kT 5 p q r s=0):rok p q/\0<p/\p<=100*q:=by
 obtain⟨_,a,b,c,d,e⟩:=zAH h;simp[yR] at c;simp[zEB,zFT,zAC] at d;exact⟨a,c,by omega⟩
theorem law_7 {p q r s:Int} (h:kT 7 p q r s=0):rok p q/\0<p/\p<=100*q:=by
 obtain⟨_,a,b,c,d,e⟩:=zAH h;simp[yR] at c;simp[zEB,zFT,zAC] at d;exact⟨a,c,by omega⟩
theorem law_3 {p q r s:Int} (h:kT 3 p q r s=0):rok p q/\rok r s/\0<p/\p<=100*q/\0<r/\r<=100*s:=by
 obtain⟨_,a,b,c,d,e⟩:=zAH h;simp[yR] at c;simp[zEB,zFT,zAC] at d;exact⟨a,b,by omega,by omega,by omega,by omega⟩
theorem law_4 {p q r s:Int} (h:kT 4 p q r s=0):rok p q/\rok r s/\0<p/\p<=100*q/\0<r/\r<=100*s:=by
 obtain⟨_,a,b,c,d,e⟩:=zAH h;simp[yR] at c;simp[zEB,zFT,zAC] at d;exact⟨a,b,by omega,by omega,by omega,by omega⟩
theorem law_1 {p q r s:Int} (h:kT 1 p q r s=0):rok p q/\rok r s/\0<r/\r<=100*s:=by
 obtain⟨_,a,b,c,d,e⟩:=zAH h;simp[yR] at c;simp[zEB,zFT,zAC] at d;exact⟨a,b,by omega,by omega⟩
theorem law_6 {p q r s:Int} (h:kT 6 p q r s=0):rok r s/\q=1/\0<=p/\p<=100/\0<=r/\r<=s:=by
 obtain⟨_,a,b,c,d,e⟩:=zAH h;simp[yR] at c;exact⟨b,by omega,by omega,by omega,by omega,by omega⟩
theorem st_law {p q:Int} (h:rok p q) (hp:0<p) (I8:p<=100*q):StIn p q:=(bp_st hp (by have:=h.2.2.1;omega) I8 (by have:=h.2.2.2;omega) (show (0:Int)<1 by decide) (show (0:Int)<1 by decide) (by decide) (by decide)).1
theorem below_lw {R R2:Nat->Rat} {L G:Rat->Nat->Rat} {X:Int->Int->Nat->Rat} (hE:zP7 R R2 L G X) (w:World) (k p q r s n d:Int) (b:Nat) (h0:kT k p q r s=0) (hk:k≠1) (hr:rok n d) (E8:40<=b) (hb:b<=400) :
  Calls Tryz.prog 91 #[.agg #[.int .i64 k,.int .i64 p,.int .i64 q,.int .i64 r,.int .i64 s],.agg #[.int .i64 n,.int .i64 d],.int .i64 b] w (BlG 30000 (LwPr (lbX R R2 L G k p q r s n d) b) w b):=by
 have k17:=(zAH h0).1;have d0:0<d:=by have:=hr.2.2.1;omega
 rcases (show k=2\/k=3\/k=4\/k=5\/k=6\/k=7 by omega) with rfl|rfl|rfl|rfl|rfl|rfl
 ·obtain⟨a,c,e⟩:=law_2 h0
  have ex:lbX R R2 L G 2 p q r s n d=waX p q n d:=by unfold lbX;rfl
  rw[ex];refine below_2 w p q r s n d b _ λ w'=>?_
  unfold waX
  by_cases hn:n<=0
  ·rw[if_pos hn];exact lwait_no w' 2 p q r s n d b (by omega) hn
  ·rw[if_neg hn];exact lwait_iv w' 2 p q r s n d b E8 hb (by omega) a hr c e
 ·obtain⟨a,a2,c,e,f,g⟩:=law_3 h0
  have ex:lbX R R2 L G 3 p q r s n d=gaX L G p q r s n d:=by unfold lbX;rfl
  rw[ex];refine below_3 w p q r s n d b _ λ w'=>?_
  unfold gaX
  by_cases hn:n<=0
  ·rw[if_pos hn];exact zST w' 3 p q r s n d b (by omega) hn
  ·rw[if_neg hn];exact zSS L G X hE.g w' 3 p q r s n d b E8 hb (by omega) a hr a2 c e f
 ·obtain⟨a,a2,c,e,f,g⟩:=law_4 h0
  have ex:lbX R R2 L G 4 p q r s n d=beX L p q r s n d:=by unfold lbX;rfl
  rw[ex];refine below_4 w p q r s n d b _ λ w'=>?_
  unfold beX clX
  by_cases hn:n<=0
  ·have ez:bvX L p q r s 0 d=λ _=>0:=by unfold bvX;rw[if_pos rfl]
   rw[if_pos hn,ez];exact lbeta_no w' 4 p q r s n d b (by omega) hn
  ·by_cases hd:d<=n
   ·have ez:bvX L p q r s d d=λ _=>1:=by unfold bvX;rw[if_neg (by omega),if_pos rfl]
    rw[if_neg hn,if_pos hd,ez];exact zSK w' 4 p q r s n d b hb hn hd
   ·rw[if_neg hn,if_neg hd];exact lbeta_iv L G X hE.g w' 4 p q r s n d b E8 hb (by omega) (by omega) a hr a2 c e f g
 ·obtain⟨a,c,e⟩:=law_5 h0
  have ex:lbX R R2 L G 5 p q r s n d=stX L p q n d:=by unfold lbX;rfl
  rw[ex];refine below_5 w p q r s n d b _ λ w'=>?_
  by_cases hz:n=0
  ·unfold stX
   rw[if_pos (by omega)]
   refine (zPL w' p q n d b hb hz).mono λ z T4 ⟨lo,hi,h1,h2⟩=>⟨lo,hi,h1.congr (null_zero.of_eq λ M=>?_),h2⟩
   unfold stX0;have f0:=Int.mul_pos c (Int.mul_pos d0 d0)
   have ez:bvX L p (2*q) 1 2 (p*(d*d)) (p*(d*d)+q*(n*n))=λ _=>1:=by
    unfold bvX;rw[if_neg (by omega),if_pos (by rw[hz];simp)]
   rw[ez];grind
  ·exact lstud_iv L G X hE.g w' p q n d b E8 hb hz a hr c e
 ·obtain⟨a,c,e,f,g,i⟩:=law_6 h0
  have ex:lbX R R2 L G 6 p q r s n d=coX p.toNat r s n d:=by unfold lbX;rfl
  rw[ex];obtain⟨P,rfl⟩:∃ P:Nat,p=(P:Int):=⟨p.toNat,by omega⟩
  have eP:(P:Int).toNat=P:=by omega
  rw[eP];have s0:0<s:=by have:=a.2.2.1;omega
  have sp:0<s ^ P:=Int.pow_pos s0;have cb:=cnt_le (P:=P) g i (coN P n d) (by unfold coN;omega)
  refine (zLO q r s n d P (coN P n d) b w hr rfl (by omega) g i (by omega) a.2.2.2 (by omega)).mono λ z w' ⟨u,e1,e2,e3,e4⟩=>⟨_,_,of_lw b cb.1 sp cb.2,u,e1,e2,e3.mono (by omega),e4⟩
 ·obtain⟨a,c,e⟩:=law_7 h0
  have ex:lbX R R2 L G 7 p q r s n d=raX p q n d:=by unfold lbX;rfl
  rw[ex];refine below_7 w p q r s n d b _ hr λ w'=>?_
  by_cases hn:n/d<0
  ·refine (lrare_no w' p q (n/d) n d b (by omega) hn).mono λ z T4 ⟨lo,hi,h1,h2⟩=>⟨lo,hi,h1.congr (null_zero.of_eq λ M=>?_),h2⟩
   unfold raX raN;rw[show (n/d+1).toNat=0 by omega]
   show (0:Rat)-0=0
   grind
  ·have hu:n/d<=1000000000:=by
    have:=hr.2.1;exact Int.le_trans (Int.ediv_le_ediv d0 (show n<=1048576 by omega)) (Int.le_trans (Int.ediv_le_self _ (by decide)) (by decide))
   exact lrare_iv w' p q (n/d) n d b a c e (by omega) hu rfl E8 hb
def lbE (k p q r s n d b:Int):Int:=if kT k p q r s=0 then zI9 n d b else kT k p q r s
structure SuB (x:Nat->Rat) (b:Nat) (L H:Int):Prop where
 v:SuV x b L H
 lo:0<=L
 hi:H<=Q b
def BeR (x:Nat->Rat) (E b bt L H e:Int):Prop:=(E=0/\e=0/\bt=b/\SuB x b.toNat L H)\/(E≠0/\e=E/\bt=0/\L=0/\H=0)
theorem su_b {b:Nat} {x:Nat->Rat} {Pr:Nat->Int->Int->Prop} {L H:Int} (h:zFZ b Pr L H) (hp:∀ B lo hi,Pr B lo hi->0<=lo/\lo<=hi/\hi<=Q B/\Iv B (lo,hi) x):SuB x b L H:=by
 refine⟨sure_su h λ B lo hi p=>⟨(hp B lo hi p).2.1,(hp B lo hi p).2.2.2⟩,?_,?_⟩
 ·obtain⟨m,lo,hi,pr,hm,e1,e2,h6⟩:=h
  rw[e1];exact Int.ediv_nonneg (hp _ _ _ pr).1 (by have:=zE m;omega)
 ·obtain⟨m,lo,hi,pr,hm,e1,e2,h6⟩:=h
  obtain⟨p1,p2,p3,p4⟩:=hp _ _ _ pr;have q0:=zE m;have qb:=zE b;have e3:Q (b+m)=Q b*Q m:=jF b m;have r:=(kD (x:=hi) (m:=Q b) (q:=Q m) (by omega) (by omega) (by omega)).2.2.2
  rw[e2];exact r
theorem lk_su {K b:Nat} {x:Nat->Rat} {L H:Int} (h:zFZ b (LkPr K x) L H):SuB x b L H:=su_b h λ B lo hi p=>⟨p.lo,p.le,p.hi,p.iv⟩
theorem rest_far {b:Nat} {lo hi L H:Int} (hL:L=lo/Q 32) (hH:H = -(-hi/Q 32)):Q b-H=(zBE (b+32) (lo,hi)).1/Q 32/\Q b-L = -(-(zBE (b+32) (lo,hi)).2/Q 32):=by
 have q:=zE 32;have e:Q (b+32)=Q b*Q 32:=jF b 32;have e1:(zBE (b+32) (lo,hi)).1 = -hi+Q b*Q 32:=by show Q (b+32)-hi=_;omega
 have e2 : -(zBE (b+32) (lo,hi)).2=lo + -Q b*Q 32:=by
  show -(Q (b+32)-lo)=_
  have : -Q b*Q 32 = -(Q b*Q 32):=Int.neg_mul _ _;omega
 rw[e1,e2,Int.add_mul_ediv_right _ _ (by omega),Int.add_mul_ediv_right _ _ (by omega),hL,hH]
 omega
theorem no_lk {E:Nat->Rat} {p:Int} {B:Nat} {s e:Int} (h:NoCore E B s e):LkPr 4500 (nrV E p) B (zFI B p (s,e)).1 (zFI B p (s,e)).2:=by
 obtain⟨c1,c2,c3,c4,c5⟩:=h;obtain⟨g1,g2,g3,g4⟩:=norI_ok (p:=p) (B:=B) c2 c3 c4 c5;exact⟨g2,g1,g3,g4,norI_iv c1⟩
theorem zRD (w:World) (p q r s n d:Int) (b:Nat) (h0:kT 1 p q r s=0) (hr:rok n d) (E8:40<=b) (hb:b<=10000) (hf:(d*q*r)*(d*q*r)*2*(b:Int)<=((n*q-p*d)*s)*((n*q-p*d)*s)) :
  Calls Tryz.prog 91 #[.agg #[.int .i64 1,.int .i64 p,.int .i64 q,.int .i64 r,.int .i64 s],.agg #[.int .i64 n,.int .i64 d],.int .i64 b] w (BlG 30000 (λ l u=>l=(zFI b ((n*q-p*d)*s) (Q b-1,Q b)).1/\u=(zFI b ((n*q-p*d)*s) (Q b-1,Q b)).2) w b):=by
 obtain⟨a,a2,c,e⟩:=law_1 h0;refine zRB w p q r s n d b _ λ w'=>?_
 exact (zNR w' 1 p q r s n d b _ _ E8 hb a hr a2 c e (nor_farN E8 hb hf)).mono λ z T4 ⟨u,e1,e2,e3,e4⟩=>⟨_,_,⟨rfl,rfl⟩,u,e1,e2,e3.mono (by omega),e4⟩
theorem zS8 (w:World) (ff:Nat) (up:Bool) (k p q r s n d:Int) (B K:Nat) (x:Nat->Rat) (hh:(up=false/\ff=47)\/(up=true/\ff=48)) (h0:kT k p q r s=0) (hr:rok n d) (b8:8<=B) (Y5:B<=120) (hK:K<=100000)
  (hc:∀ m:Nat,32<=m->m<=K+120->B+m<=10000/\∀ T4,Calls Tryz.prog 91 #[.agg #[.int .i64 k,.int .i64 p,.int .i64 q,.int .i64 r,.int .i64 s],.agg #[.int .i64 n,.int .i64 d],.int .i64 ((B+m:Nat):Int)] T4 (BlG 30000 (LkPr K x (B+m)) T4 (B+m))) :
  Calls Tryz.prog 46 #[.agg #[.int .i64 k,.int .i64 p,.int .i64 q,.int .i64 r,.int .i64 s],.agg #[.int .i64 n,.int .i64 d],.int .i64 (B:Int),.func (.func ff) #[] #[]] w (PaG (BeR (if up then λ M=>1-x M else x) 0 (B:Int)) w):=by
 have eB:((B:Int)).toNat=B:=by omega
 rcases hh with⟨rfl,rfl⟩|⟨rfl,rfl⟩
 ·refine (zTA w _ k p q r s n d B h0 hr b8 Y5 K 30000 (LkPr K x) (by omega) (by omega) (zSU K x Y5) (λ m w' B1 B2 B3 hm J5 at_=>zGL (B+m) B1 B2 B3 w' k p q r s n d _ at_ (hc m hm J5).1 (hc m hm J5).2)).mono λ z w' ⟨l,h,hs,ha⟩=>⟨(B:Int),l,h,0,Or.inl ⟨rfl,rfl,rfl,?_⟩,ha⟩
  rw[eB];exact lk_su hs
 ·refine (zTA w _ k p q r s n d B h0 hr b8 Y5 K 30001 (LkPr K (λ M=>1-x M)) (by omega) (by omega) (zSU K _ Y5) (λ m w' B1 B2 B3 hm J5 at_=>(zHF (B+m) B1 B2 B3 w' k p q r s n d _ at_ (hc m hm J5).1 (hc m hm J5).2).mono λ z T4 ⟨l,h,⟨l0,u0,g1,g2,g3⟩,ga⟩=>⟨l,h,by rw[g2,g3];exact lk_rest g1,ga⟩)).mono λ z w' ⟨l,h,hs,ha⟩=>⟨(B:Int),l,h,0,Or.inl ⟨rfl,rfl,rfl,?_⟩,ha⟩
  rw[eB];exact lk_su hs
theorem made_fx (w:World) (ff:Nat) (up:Bool) (k p q r s n d:Int) (B C:Nat) (x:Nat->Rat) (lo hi L H:Int) (hh:(up=false/\ff=47)\/(up=true/\ff=48)) (h0:kT k p q r s=0) (hr:rok n d) (b8:8<=B) (Y5:B<=120) (hC:C=B+32) (eL:L=lo/Q 32) (eH:H = -(-hi/Q 32)) (g:H-L=1) (v:SuB x B L H)
  (bf:∀ T4,Calls Tryz.prog 91 #[.agg #[.int .i64 k,.int .i64 p,.int .i64 q,.int .i64 r,.int .i64 s],.agg #[.int .i64 n,.int .i64 d],.int .i64 (C:Int)] T4 (BlG 30000 (λ l u=>l=lo/\u=hi) T4 C)) :
  Calls Tryz.prog 46 #[.agg #[.int .i64 k,.int .i64 p,.int .i64 q,.int .i64 r,.int .i64 s],.agg #[.int .i64 n,.int .i64 d],.int .i64 (B:Int),.func (.func ff) #[] #[]] w (PaG (BeR (if up then λ M=>1-x M else x) 0 (B:Int)) w):=by
 have eB:((B:Int)).toNat=B:=by omega
 have Fc:(C:Int)=(B:Int)+32:=by omega
 have pb:=P250_big Y5;have qb:=zE B;have g1:=v.lo;have g2:=v.hi
 rcases hh with⟨rfl,rfl⟩|⟨rfl,rfl⟩
 ·refine (zNU w _ k p q r s n d B h0 hr b8 Y5 30000 lo hi L H (by omega) eL eH (by omega) (by omega) (by omega) (by omega) (λ w' B1 B2 B3 at_=>?_)).mono λ z w' ha=>⟨(B:Int),_,_,0,Or.inl ⟨rfl,rfl,rfl,by rw[eB];exact v⟩,ha⟩
  have m:=zGL C B1 B2 B3 w' k p q r s n d _ at_ (by omega) bf
  rw[Fc] at m;exact m.mono λ z T4 ⟨l,u,⟨u1,u2⟩,ha⟩=>by rw[u1,u2,Fc] at ha;exact ha
 ·obtain⟨f1,f2⟩:=rest_far (b:=B) eL eH
  have FQ:Q B-H<=Q B-L:=by omega
  have le2:Q B-L-(Q B-H)<=4:=by omega
  have iv1:Iv B (Q B-H,Q B-L) (λ M=>1-x M):=zFU (a:=(L,H)) v.v.val
  have sr:SuB (λ M=>1-x M) B (Q B-H) (Q B-L):=⟨⟨FQ,zDP FQ le2,iv1⟩,by omega,by omega⟩
  refine (zNU w _ k p q r s n d B h0 hr b8 Y5 30001 _ _ (Q B-H) (Q B-L) (by omega) f1 f2 (by omega) (by omega) (by omega) (by omega) (λ w' B1 B2 B3 at_=>?_)).mono λ z w' ha=>⟨(B:Int),_,_,0,Or.inl ⟨rfl,rfl,rfl,by rw[eB];exact sr⟩,ha⟩
  have m:=zHF C B1 B2 B3 w' k p q r s n d _ at_ (by omega) bf
  rw[Fc] at m;exact m.mono λ z T4 ⟨l,u,⟨l0,u0,⟨u1,u2⟩,u3,u4⟩,ha⟩=>by rw[u3,u4,u1,u2,Fc,hC] at ha;exact ha
theorem zOX {R R2:Nat->Rat} {L G:Rat->Nat->Rat} {X:Int->Int->Nat->Rat} (hE:zP7 R R2 L G X) (w:World) (p q r s n d:Int) (b:Nat) (h0:kT 1 p q r s=0) (hr:rok n d) (E8:40<=b) (hb:b<=10000) (hn:((n*q-p*d)*s)*((n*q-p*d)*s)<152*((d*q*r)*(d*q*r)*2)) (D9:((n*q-p*d)*s)*((n*q-p*d)*s)<(d*q*r)*(d*q*r)*2*(b:Int)) :
  Calls Tryz.prog 91 #[.agg #[.int .i64 1,.int .i64 p,.int .i64 q,.int .i64 r,.int .i64 s],.agg #[.int .i64 n,.int .i64 d],.int .i64 b] w (BlG 30000 (LkPr 4500 (noX R R2 p q r s n d) b) w b):=by
 obtain⟨a,a2,c,e⟩:=law_1 h0;obtain⟨s0,e0,c1,c2⟩:=nor_near hE.r hE.r2 (zTG a hr a2 c e) hn E8 hb D9;refine zRB w p q r s n d b _ λ w'=>?_
 exact (zNR w' 1 p q r s n d b s0 e0 E8 hb a hr a2 c e c1).mono λ z T4 ⟨u,e1,e2,e3,e4⟩=>⟨_,_,no_lk c2,u,e1,e2,e3.mono (by omega),e4⟩
theorem zS9 {R R2:Nat->Rat} {L G:Rat->Nat->Rat} {X:Int->Int->Nat->Rat} (hE:zP7 R R2 L G X) (w:World) (ff:Nat) (up:Bool) (p q r s n d:Int) (B:Nat) (hh:(up=false/\ff=47)\/(up=true/\ff=48)) (h0:kT 1 p q r s=0) (hr:rok n d) (b8:8<=B) (Y5:B<=120) :
  Calls Tryz.prog 46 #[.agg #[.int .i64 1,.int .i64 p,.int .i64 q,.int .i64 r,.int .i64 s],.agg #[.int .i64 n,.int .i64 d],.int .i64 (B:Int),.func (.func ff) #[] #[]] w (PaG (BeR (if up then λ M=>1-noX R R2 p q r s n d M else noX R R2 p q r s n d) 0 (B:Int)) w):=by
 obtain⟨a,a2,c,e'⟩:=law_1 h0;have hw:=zTG a hr a2 c e';obtain⟨Pn,hP⟩:∃ Pn,Pn=(n*q-p*d)*s:=⟨_,rfl⟩;obtain⟨Zn,Fx⟩:∃ Zn,Zn=d*q*r:=⟨_,rfl⟩;have z0:0<Zn:=by rw[Fx];have:=hw.2.2.1;omega
 have zz:0<Zn*Zn:=Int.mul_pos z0 z0
 by_cases hn:Pn*Pn<Zn*Zn*2*((B:Int)+32)
 ·have Cg:Pn*Pn<152*(Zn*Zn*2):=by
   have:=Yx (show (B:Int)+32<=152 by omega) (show 0<=Zn*Zn*2 by omega)
   have e:Zn*Zn*2*152=152*(Zn*Zn*2):=by grind
   omega
  refine zS8 w ff up 1 p q r s n d B 4500 _ hh h0 hr b8 Y5 (by omega) λ m hm J5=>⟨by omega,λ T4=>?_⟩
  have D9:Pn*Pn<Zn*Zn*2*((B+m:Nat):Int):=by
   have:=Yx (show (B:Int)+32<=((B+m:Nat):Int) by omega) (show 0<=Zn*Zn*2 by omega)
   omega
  rw[hP,Fx] at Cg D9;exact zOX hE T4 p q r s n d (B+m) h0 hr (by omega) (by omega) Cg D9
 ·have hf:Zn*Zn*2*((B:Int)+32)<=Pn*Pn:=by omega
  obtain⟨C,hC⟩:∃ C:Nat,C=B+32:=⟨_,rfl⟩
  have Rb:Zn*Zn*2*(C:Int)<=Pn*Pn:=by
   have e:(C:Int)=(B:Int)+32:=by omega
   rw[e];omega
  obtain⟨e1,e2⟩:=far_no Pn B;have vv:=far_noV hE.r hE.r2 (p:=Pn) z0 hf;have evv:noX R R2 p q r s n d=nrV (zC9 R (nrY Pn Zn) (nrR R2 Pn Zn)) Pn:=by rw[hP,Fx];rfl
  rw[<- evv] at vv
  have g:(zNC Pn B).2-(zNC Pn B).1=1:=by
   have qb:=zE B;unfold zNC
   by_cases hp:0<Pn
   ·rw[if_pos hp];simp only[];omega
   ·rw[if_neg hp];simp only[];omega
  rw[hP,Fx] at Rb;have bf:=λ T4=>zRD T4 p q r s n d C h0 hr (by omega) (by omega) Rb
  rw[<- hP] at bf;rw[<- hC] at e1 e2;exact made_fx w ff up 1 p q r s n d B C _ _ _ _ _ hh h0 hr b8 Y5 hC e1 e2 g ⟨⟨vv.le,vv.nar,vv.val⟩,vv.lo,vv.hi⟩ bf
theorem zJ5 {R R2:Nat->Rat} {L G:Rat->Nat->Rat} {X:Int->Int->Nat->Rat} (hE:zP7 R R2 L G X) (w:World) (ff:Nat) (up:Bool) (k p q r s n d b:Int) (hh:(up=false/\ff=47)\/(up=true/\ff=48)) :
  Calls Tryz.prog 46 #[.agg #[.int .i64 k,.int .i64 p,.int .i64 q,.int .i64 r,.int .i64 s],.agg #[.int .i64 n,.int .i64 d],.int .i64 b,.func (.func ff) #[] #[]] w (PaG (BeR (if up then λ M=>1-lbX R R2 L G k p q r s n d M else lbX R R2 L G k p q r s n d) (lbE k p q r s n d b) b) w):=by
 by_cases h0:kT k p q r s=0
 case neg =>
  have e:lbE k p q r s n d b=kT k p q r s:=by unfold lbE;rw[if_neg h0]
  rw[e];exact (zS6 w ff k p q r s n d b h0).mono λ z w' h=>⟨0,0,0,_,Or.inr ⟨h0,rfl,rfl,rfl,rfl⟩,h⟩
 have e:lbE k p q r s n d b=zI9 n d b:=by unfold lbE;rw[if_pos h0]
 rw[e]
 by_cases h1:zI9 n d b=0
 case neg=>exact (zS7 w ff k p q r s n d b h0 h1).mono λ z w' h=>⟨0,0,0,_,Or.inr ⟨h1,rfl,rfl,rfl,rfl⟩,h⟩
 rw[h1]
 have h2:rok n d/\8<=b/\b<=120:=by
  unfold zI9 at h1
  by_cases c:rok n d/\8<=b/\b<=120
  ·exact c
  ·rw[if_neg c] at h1;omega
 obtain⟨hr,b8,Y5⟩:=h2;obtain⟨B,rfl⟩:∃ B:Nat,b=(B:Int):=⟨b.toNat,by omega⟩
 by_cases k1:k=1
 ·subst k1
  have ex:lbX R R2 L G 1 p q r s n d=noX R R2 p q r s n d:=by unfold lbX;rfl
  rw[ex];exact zS9 hE w ff up p q r s n d B hh h0 hr (by omega) (by omega)
 ·exact zS8 w ff up k p q r s n d B 89 _ hh h0 hr (by omega) (by omega) (by omega) λ m hm J5=>⟨by omega,λ T4=>(below_lw hE T4 k p q r s n d (B+m) h0 k1 hr (by omega) (by omega)).mono λ z w3 ⟨l,u,g1,g2⟩=>⟨l,u,g1.k,g2⟩⟩
theorem zER {R R2:Nat->Rat} {L G:Rat->Nat->Rat} {X:Int->Int->Nat->Rat} (hE:zP7 R R2 L G X) (w:World) (k p q r s n d b:Int) :
  Calls Tryz.prog 11 #[.agg #[.int .i64 k,.int .i64 p,.int .i64 q,.int .i64 r,.int .i64 s],.agg #[.int .i64 n,.int .i64 d],.int .i64 b] w (PaG (BeR (lbX R R2 L G k p q r s n d) (lbE k p q r s n d b) b) w) :=
 zOT w k p q r s n d b _ λ w'=>zJ5 hE w' _ false k p q r s n d b (Or.inl ⟨rfl,rfl⟩)
theorem zG1 {R R2:Nat->Rat} {L G:Rat->Nat->Rat} {X:Int->Int->Nat->Rat} (hE:zP7 R R2 L G X) (w:World) (k p q r s n d b:Int) :
  Calls Tryz.prog 12 #[.agg #[.int .i64 k,.int .i64 p,.int .i64 q,.int .i64 r,.int .i64 s],.agg #[.int .i64 n,.int .i64 d],.int .i64 b] w (PaG (BeR (λ M=>1-lbX R R2 L G k p q r s n d M) (lbE k p q r s n d b) b) w) :=
 zOS w k p q r s n d b _ λ w'=>zJ5 hE w' _ true k p q r s n d b (Or.inr ⟨rfl,rfl⟩)
def maX (k p q r s:Int) (n:Nat):Nat->Rat:=if k=6 then (if p<(n:Int) then λ _=>((0:Int):Rat)/((1:Int):Rat) else λ _=>(((ch p.toNat n:Int)*(r ^ n*(s-r) ^ (p.toNat-n)):Int):Rat)/((s ^ p.toNat:Int):Rat)) else zCY p q n
theorem mas_b {x:Nat->Rat} {b:Nat} {L H:Int} (h:zFZ b (zEP x) L H):SuB x b L H:=su_b h λ B lo hi ⟨p1,p2,p3,p4,p5⟩=>⟨p4,p2,p5,p1⟩
theorem zJ8 (w:World) (k p q r s:Int) (n b:Nat) (h0:kT k p q r s=0) (hk:6<=k) (hn:n<=100) (h5:8<=b) (h6:b<=120) :
  Calls Tryz.prog 19 #[.agg #[.int .i64 k,.int .i64 p,.int .i64 q,.int .i64 r,.int .i64 s],.int .i64 (n:Int),.int .i64 (b:Int)] w (λ z w'=>∃ L H,SuB (maX k p q r s n) b L H/\PairAns w b 250 L H 0 z w'):=by
 have k7:=(zAH h0).1
 have mE:zTB k p q r s n b=0:=by
  unfold zTB;rw[if_neg (by rw[h0];simp),if_neg (by omega),if_neg (by omega),if_neg (by omega)]
 rcases (show k=6\/k=7 by omega) with rfl|rfl
 ·obtain⟨a,c,e,f,g,i⟩:=law_6 h0
  obtain⟨P,rfl⟩:∃ P:Nat,p=(P:Int):=⟨p.toNat,by omega⟩
  have eP:(P:Int).toNat=P:=by omega
  unfold maX;rw[if_pos rfl,eP]
  by_cases hP:(P:Int)<(n:Int)
  ·rw[if_pos hP]
   exact (zL3 w 6 P q r s n b _ h5 h6 mE (λ m w9 hm J5=>just_big w9 P q r s n m (by omega) (by omega) hP)).mono λ z w' ⟨L,H,h1,h2⟩=>⟨L,H,mas_b h1,h2⟩
  ·rw[if_neg hP]
   exact (zL3 w 6 P q r s n b _ h5 h6 mE (λ m w9 hm J5=>zPD w9 q r s P n m (by omega) (by omega) (by omega) g i a.2.2.1 a.2.2.2)).mono λ z w' ⟨L,H,h1,h2⟩=>⟨L,H,mas_b h1,h2⟩
 ·obtain⟨a,c,e⟩:=law_7 h0
  have em:maX 7 p q r s n=zCY p q n:=by unfold maX;rfl
  rw[em];exact (zL3 w 7 p q r s n b _ h5 h6 mE (λ m w9 hm J5=>zSH w9 p q r s n m hm J5 hn a (by omega) e)).mono λ z w' ⟨L,H,h1,h2⟩=>⟨L,H,mas_b h1,h2⟩
theorem lb_sum {R R2:Nat->Rat} {L G:Rat->Nat->Rat} {k p q r s:Int} (h0:kT k p q r s=0) (hk:6<=k) (n:Nat):Null (λ M=>lbX R R2 L G k p q r s (n:Int) 1 M-(lbX R R2 L G k p q r s ((n:Int)-1) 1 M+maX k p q r s n M)):=by
 have k7:=(zAH h0).1
 rcases (show k=6\/k=7 by omega) with rfl|rfl
 ·obtain⟨a,c,e,f,g,i⟩:=law_6 h0
  obtain⟨P,rfl⟩:∃ P:Nat,p=(P:Int):=⟨p.toNat,by omega⟩
  have eP:(P:Int).toNat=P:=by omega
  have e1:∀ z,lbX R R2 L G 6 P q r s z 1=coX P r s z 1:=λ z=>by
   have:lbX R R2 L G 6 P q r s z 1=coX (P:Int).toNat r s z 1:=by unfold lbX;rfl
   rw[this,eP]
  rw[e1,e1];unfold maX;rw[if_pos rfl,eP];refine null_zero.of_eq λ M=>?_
  have s0:0<s:=by have:=a.2.2.1;omega
  have sp:(0:Rat)<((s ^ P:Int):Rat):=by exact_mod_cast Int.pow_pos s0
  by_cases hP:(P:Int)<(n:Int)
  ·rw[if_pos hP]
   have z:((0:Int):Rat)/((1:Int):Rat)=0:=by decide +kernel
   have en:coN P (n:Int) 1=coN P ((n:Int)-1) 1:=by unfold coN;rw[Int.ediv_one,Int.ediv_one];omega
   unfold coX;rw[z,en];grind
  ·rw[if_neg hP]
   have en:coN P (n:Int) 1=n+1:=by unfold coN;rw[Int.ediv_one];omega
   have IB:coN P ((n:Int)-1) 1=n:=by unfold coN;rw[Int.ediv_one];omega
   unfold coX;rw[en,IB];have ew:zEO P r s n=(ch P n:Int)*(r ^ n*(s-r) ^ (P-n)):=by unfold zEO;exact zOP (by omega) r s
   have ec:zDT (zEO P r s) (n+1)=zDT (zEO P r s) n+zEO P r s n:=rfl;rw[ec,ew,Rat.intCast_add,YE,YE,YE];grind
 ·have e1:∀ z,lbX R R2 L G 7 p q r s z 1=raX p q z 1:=λ z=>by unfold lbX;rfl
  have em:maX 7 p q r s n=zCY p q n:=by unfold maX;rfl
  rw[e1,e1,em];refine null_zero.of_eq λ M=>?_
  unfold raX;have en:raN (n:Int) 1=n+1:=by unfold raN;rw[Int.ediv_one];omega
  have IB:raN ((n:Int)-1) 1=n:=by unfold raN;rw[Int.ediv_one];omega
  rw[en,IB]
  show S (λ i=>zCY p q i M) n+zCY p q n M-_=0
  grind
theorem lb_mono {R R2:Nat->Rat} {L G:Rat->Nat->Rat} {X:Int->Int->Nat->Rat} (hE:zP7 R R2 L G X) {k p q r s n d n2 d2:Int} (h0:kT k p q r s=0) (d0:0<d) (d20:0<d2) (hle:n*d2<=n2*d):LeN (lbX R R2 L G k p q r s n d) (lbX R R2 L G k p q r s n2 d2):=by
 have k7:=(zAH h0).1
 rcases (show k=1\/k=2\/k=3\/k=4\/k=5\/k=6\/k=7 by omega) with rfl|rfl|rfl|rfl|rfl|rfl|rfl
 ·obtain⟨a,b,c,e⟩:=law_1 h0
  exact noX_mono hE.r hE.r2 (by have:=a.2.2.1;omega) c (by have:=b.2.2.1;omega) d0 d20 hle
 ·obtain⟨a,c,e⟩:=law_2 h0
  exact waX_mono c (by have:=a.2.2.1;omega) d0 d20 hle
 ·obtain⟨a,b,c,e,f,g⟩:=law_3 h0
  exact gaX_mono hE.g (st_law a c e) f (by have:=b.2.2.1;omega) d0 d20 hle
 ·obtain⟨a,b,c,e,f,g⟩:=law_4 h0
  exact beX_mono hE.g.lns c (by have:=a.2.2.1;omega) f (by have:=b.2.2.1;omega) d0 d20 hle
 ·obtain⟨a,c,e⟩:=law_5 h0
  exact stX_mono hE.g.lns c (by have:=a.2.2.1;omega) d0 d20 hle
 ·obtain⟨a,c,e,f,g,i⟩:=law_6 h0
  exact coX_mono g i (by have:=a.2.2.1;omega) d0 d20 hle
 ·obtain⟨a,c,e⟩:=law_7 h0
  exact raX_mono (by omega) (by have:=a.2.2.1;omega) d0 d20 hle
theorem zID {k p q r s n d b:Int} (h:lbE k p q r s n d b=0):kT k p q r s=0/\rok n d/\8<=b/\b<=120:=by
 unfold lbE at h
 by_cases c:kT k p q r s=0
 ·rw[if_pos c] at h
  unfold zI9 at h
  by_cases c2:rok n d/\8<=b/\b<=120
  ·exact⟨c,c2⟩
  ·rw[if_neg c2] at h;omega
 ·rw[if_neg c] at h;exact absurd h c
theorem zSJ {k p q r s n d b:Int} (h0:kT k p q r s=0) (h1:rok n d) (h2:8<=b) (h3:b<=120):lbE k p q r s n d b=0:=by
 unfold lbE zI9;rw[if_pos h0,if_pos ⟨h1,h2,h3⟩]
theorem mas_kind {k p q r s n b:Int} (h0:kT k p q r s=0) (hk:k<6):zTB k p q r s n b=6:=by
 unfold zTB;rw[if_neg (by rw[h0];simp),if_pos (by omega)]
theorem zFM {R R2 : Nat → Rat} {L G : Rat → Nat → Rat} {X : Int → Int → Nat → Rat} (hE : zP7 R R2 L G X) (w : World) (k p q r s n d : Int) (b : Nat) (h : lbE k p q r s n d b = 0) :
    Calls Tryz.prog 11 #[.agg #[.int .i64 k, .int .i64 p, .int .i64 q, .int .i64 r, .int .i64 s], .agg #[.int .i64 n, .int .i64 d], .int .i64 (b : Int)] w (fun z w' => ∃ L1 H1, SuB (lbX R R2 L G k p q r s n d) b L1 H1 ∧ PairAns w b 250 L1 H1 0 z w') :=
  (zER hE w k p q r s n d b).mono fun z w' ⟨bt, L1, H1, e, h1, h2⟩ => by
    rcases h1 with ⟨_, rfl, rfl, h3⟩ | ⟨h3, _⟩
    · exact ⟨L1, H1, by have eb : ((b : Int)).toNat = b := by omega
                        rw [eb] at h3; exact h3, h2⟩
    · exact absurd h h3
theorem above_ok {R R2 : Nat → Rat} {L G : Rat → Nat → Rat} {X : Int → Int → Nat → Rat} (hE : zP7 R R2 L G X) (w : World) (k p q r s n d : Int) (b : Nat) (h : lbE k p q r s n d b = 0) :
    Calls Tryz.prog 12 #[.agg #[.int .i64 k, .int .i64 p, .int .i64 q, .int .i64 r, .int .i64 s], .agg #[.int .i64 n, .int .i64 d], .int .i64 (b : Int)] w (fun z w' => ∃ L1 H1, SuB (fun M => 1 - lbX R R2 L G k p q r s n d M) b L1 H1 ∧ PairAns w b 250 L1 H1 0 z w') :=
  (zG1 hE w k p q r s n d b).mono fun z w' ⟨bt, L1, H1, e, h1, h2⟩ => by
    rcases h1 with ⟨_, rfl, rfl, h3⟩ | ⟨h3, _⟩
    · exact ⟨L1, H1, by have eb : ((b : Int)).toNat = b := by omega
                        rw [eb] at h3; exact h3, h2⟩
    · exact absurd h h3
theorem zRC {R R2:Nat->Rat} {L G:Rat->Nat->Rat} {X:Int->Int->Nat->Rat} (hE:zP7 R R2 L G X) (w:World) (k p q r s n d b e:Int) (h:lbE k p q r s n d b=e) (he:e≠0) :
  Calls Tryz.prog 11 #[.agg #[.int .i64 k,.int .i64 p,.int .i64 q,.int .i64 r,.int .i64 s],.agg #[.int .i64 n,.int .i64 d],.int .i64 b] w (PairAns w 0 250 0 0 e) :=
 (zER hE w k p q r s n d b).mono λ z w' ⟨bt,L1,H1,e1,h1,h2⟩=>by
  rcases h1 with⟨h3,_⟩|⟨_,rfl,rfl,rfl,rfl⟩
  ·exact absurd (h.symm.trans h3) he
  ·rw[h] at h2;exact h2
theorem zQT {R R2:Nat->Rat} {L G:Rat->Nat->Rat} {X:Int->Int->Nat->Rat} (hE:zP7 R R2 L G X) (w:World) (k p q r s n d b e:Int) (h:lbE k p q r s n d b=e) (he:e≠0) :
  Calls Tryz.prog 12 #[.agg #[.int .i64 k,.int .i64 p,.int .i64 q,.int .i64 r,.int .i64 s],.agg #[.int .i64 n,.int .i64 d],.int .i64 b] w (PairAns w 0 250 0 0 e) :=
 (zG1 hE w k p q r s n d b).mono λ z w' ⟨bt,L1,H1,e1,h1,h2⟩=>by
  rcases h1 with⟨h3,_⟩|⟨_,rfl,rfl,rfl,rfl⟩
  ·exact absurd (h.symm.trans h3) he
  ·rw[h] at h2;exact h2
theorem zFD (w:World):Calls Tryz.prog 9 #[] w λ r w'=>r=.returned (.bool true)/\Below w.heap.size w w':=by
 obtain⟨R,R2,L0,GG,X,hE⟩:=Ms;have hl:kT 6 2 1 1 2=0:=by decide
 have HE:=zC hE;clear hE
 go_enter Tryz.func9,Tryz.ntmps9
 go_wp2_with fail;refine (zFM (zA HE) _ 6 2 1 1 2 1 1 20 (zSJ hl ⟨by decide,by decide,by decide,by decide⟩ (by decide) (by decide))).mono ?_
 rintro r' w1 ⟨L1,H1,hv,s,rfl,aV,hs,b9⟩
 have e3:lbX R R2 L0 GG 6 2 1 1 2 1 1=λ _=>((3:Int):Rat)/((4:Int):Rat):=by
  have:lbX R R2 L0 GG 6 2 1 1 2 1 1=coX (2:Int).toNat 1 2 1 1:=by unfold lbX;rfl
  rw[this]
  funext M
  have a:zDT (zEO ((2:Int).toNat:Nat) 1 2) (coN (2:Int).toNat 1 1)=3:=by decide
  have c:(2:Int) ^ (2:Int).toNat=4:=by decide
  unfold coX;rw[a,c]
 have Vr:=zC (zE3 (a:=(L1,H1)) hv.v.val (by rw[e3];exact Iv.of 20 (n:=3) (d:=4) (by decide)))
 have FQ:=hv.v.le;have HN:=zC hv.v.nar;have C:LwC w1 w.heap.size 6 2 1 1 2:=(kX w 6 2 1 1 2 _).bw b9;have hB:Below w.heap.size w w1:=zB (bl1 _ _) b9;have gV:=zC aV;clear b9 aV e3 hv;have lC:=C.lt;obtain⟨x0,x1,x2,x3,x4⟩:=C;go_wp2_with fail;refine (zJ8 _ 6 2 1 1 2 1 20 hl (by decide) (by decide) (by decide) (by decide)).mono ?_
 rintro r' w2 ⟨L2,H2,hv,t,rfl,I2,ht,j8⟩;have e2:maX 6 2 1 1 2 1=λ _=>((2:Int):Rat)/((4:Int):Rat):=by unfold maX;rfl
 have Vs:=zC (zE3 (a:=(L2,H2)) hv.v.val (by
  rw[e2];have i:=Iv.of 20 (n:=1) (d:=2) (by decide)
  exact Has.of_eq i λ M=>by decide +kernel))
 have S:SpC w2 w1.heap.size s:=(kO w1 s _).bw j8;replace hs:=(hs.bw (bl1 _ _)).bw j8;replace hB:=zB (zL hB _) j8;have oF:=zC I2;clear j8 I2 x0 x1 x2 x3 x4 e2 hv;have lS:=S.lt;have S2:=S;have lS2:=S2.lt;obtain⟨V,hV⟩:∃ V,V=w2.alloc (.cells t.q 31):=⟨_,rfl⟩;have bV:Below w2.heap.size w2 V:=by rw[hV];exact bl1 _ _
 have T:SpC V w2.heap.size t:=by rw[hV];exact kO _ _ _
 replace S:=S.bw bV;replace hs:=hs.bw bV;replace ht:=ht.bw bV;replace hB:=zB hB bV;clear bV lS;have lS:=S.lt;have lT:=T.lt;obtain⟨x0,x1,x2,x3,x4⟩:=S2;go_wp2_with fail;rw[<- hV];refine (zDI _ s).mono ?_;rintro r' w3 ⟨rfl,m8⟩;clear hV x0 x1 x2 x3 x4;replace S:=S.bw m8;replace T:=T.bw m8;replace hB:=zB hB m8;replace hs:=hs.bw m8;replace ht:=ht.bw m8;clear m8;go_wp2_with fail;refine (zD 3 _ (by decide) (by decide)).mono ?_
 rintro r' w4 ⟨E4,a4,n4,c4,rfl,H8,p9⟩;replace S:=S.bw p9;replace T:=T.bw p9;replace hB:=zB hB p9;replace hs:=hs.bw p9;replace ht:=ht.bw p9;clear p9;go_wp2_with fail;refine (zD 4 _ (by decide) (by decide)).mono ?_
 rintro r' w5 ⟨J3,a5,n5,c5,rfl,O0,D8⟩;replace H8:=H8.bw D8;replace S:=S.bw D8;replace T:=T.bw D8;replace hB:=zB hB D8;replace hs:=hs.bw D8;replace ht:=ht.bw D8;clear D8;go_wp2_with fail;refine (zC0 _ _ _ _ _ _ _ _ 4 4 20 3 4 _ H8 O0 (by omega) (by omega) (by omega) (by decide) (λ m9 a' n' o7 w' p1 p2=>yN _ _ _ _ _ _ _ _ _ 4 _ _ w' p1 p2 (by omega) (by decide))).mono ?_
 rintro r' w6 ⟨u,rfl,B8,B7,K7⟩;have jc:=zC B8;clear B8;replace S:=S.bw K7;replace T:=T.bw K7;replace hB:=zB hB K7;replace hs:=hs.bw K7;replace ht:=ht.bw K7;clear K7;go_wp2_with fail;refine (touch_le _ s u 250 0 0 L1 H1 _ _ hs (B7.mono (by omega)) (by omega) (by have:=zA gV;omega) (by have:=zA gV;omega) (by have:=zA jc;omega) (by have:=zA jc;omega) (by have:=zA gV;have:=zA jc;omega) (by omega) (by have:=zA gV;have:=zA jc;omega)).mono ?_
 rintro r' w7 ⟨rfl,Q7⟩;rw[show zOM L1 H1 0 ((3:Int)*Q 20/4) (-(-((3:Int)*Q 20)/4)) 0=true from zA Vr]
 clear jc B7 O0 H8;replace S:=S.bw Q7;replace T:=T.bw Q7;replace hB:=zB hB Q7;replace hs:=hs.bw Q7;replace ht:=ht.bw Q7;clear Q7;obtain⟨x0,x1,x2,x3,x4⟩:=S;obtain⟨y0,y1,y2,y3,y4⟩:=T;go_wp2_with fail;refine (zDI _ t).mono ?_;rintro r' w8 ⟨rfl,T9⟩;have S:=SpC.mk x0 x1 x2 x3 x4;have T:=SpC.mk y0 y1 y2 y3 y4;clear x0 x1 x2 x3 x4 y0 y1 y2 y3 y4;replace S:=S.bw T9;replace T:=T.bw T9;replace hB:=zB hB T9;replace hs:=hs.bw T9;replace ht:=ht.bw T9;clear T9;go_wp2_with fail;refine (zD 1 _ (by decide) (by decide)).mono ?_
 rintro r' w9 ⟨neg9,a9,n9,c9,rfl,Fz,Z2⟩;replace S:=S.bw Z2;replace T:=T.bw Z2;replace hB:=zB hB Z2;replace hs:=hs.bw Z2;replace ht:=ht.bw Z2;clear Z2;go_wp2_with fail;refine (zD 2 _ (by decide) (by decide)).mono ?_
 rintro r' gL ⟨SJ,a10,Lm,jm,rfl,Cz,O8⟩;replace Fz:=Fz.bw O8;replace S:=S.bw O8;replace T:=T.bw O8;replace hB:=zB hB O8;replace hs:=hs.bw O8;replace ht:=ht.bw O8;clear O8;go_wp2_with fail;refine (zC0 _ _ _ _ _ _ _ _ 4 4 20 1 2 _ Fz Cz (by omega) (by omega) (by omega) (by decide) (λ m9 a' n' o7 w' p1 p2=>yN _ _ _ _ _ _ _ _ _ 4 _ _ w' p1 p2 (by omega) (by decide))).mono ?_
 rintro r' Tl ⟨u,rfl,B8,B7,hZ⟩;have jc:=zC B8;clear B8;replace S:=S.bw hZ;replace T:=T.bw hZ;replace hB:=zB hB hZ;replace hs:=hs.bw hZ;replace ht:=ht.bw hZ;clear hZ;go_wp2_with fail;refine (touch_le _ t u 250 0 0 L2 H2 _ _ ht (B7.mono (by omega)) (by omega) (by have:=zA oF;omega) (by have:=zA oF;omega) (by have:=zA jc;omega) (by have:=zA jc;omega) (by have:=zA oF;have:=zA jc;omega) (by omega) (by have:=zA oF;have:=zA jc;omega)).mono ?_
 rintro r' Tm ⟨rfl,aB⟩;rw[show zOM L2 H2 0 ((1:Int)*Q 20/2) (-(-((1:Int)*Q 20)/2)) 0=true from zA Vs]
 clear jc B7 Cz Fz;replace S:=S.bw aB;replace T:=T.bw aB;replace hB:=zB hB aB;replace hs:=hs.bw aB;replace ht:=ht.bw aB;clear aB;obtain⟨x0,x1,x2,x3,x4⟩:=S;obtain⟨y0,y1,y2,y3,y4⟩:=T;go_wp2_with fail;refine (zIW _ s 20 L1 H1 hs (zA gV) (by omega) FQ (zA HN)).mono ?_
 rintro r' wz ⟨rfl,QS⟩;replace hB:=zB hB QS;go_wp2_with fail
 go_ret
 exact⟨rfl,hB⟩
theorem chk_sp {w:World} {s:Sp} {k:Nat} {lo hi:Int} (h:SpAt w s k lo hi) (hk:k<=250) (hle:lo<=hi) (h1:1<=s.bits) (h2:s.bits<=120):∃ d e,SpDig w s d e/\zAL s d e=0/\lo=loZ s d/\hi=hiZ s e:=by
 obtain⟨⟨d,p1,p2,p3,p4,p5⟩,⟨e,r1,r2,r3,r4,r5⟩⟩:=h;refine⟨d,e,⟨p1,r1⟩,?_,p5,r5⟩;have l1:=zGE s.lN d;have l2:=zGE s.hN e
 have g1:yO s.ln s.lN d≠false:=by
  unfold yO
  by_cases h0:s.lN=0
  ·simp[h0,p3 h0]
  ·rw[if_neg h0];simpa using (show d (s.lN-1)≠0 by omega)
 have g2:yO s.hn s.hN e≠false:=by
  unfold yO
  by_cases h0:s.hN=0
  ·simp[h0,r3 h0]
  ·rw[if_neg h0];simpa using (show e (s.hN-1)≠0 by omega)
 have g3:¬ 0<cmpI s.ln s.hn d e s.lN s.hN:=by
  rw[zAI p1.dgs r1.dgs s.ln s.hn s.lN s.hN p2 r2 p3 r3,<- p5,<- r5];exact zB9 (by omega)
 unfold zAL;rw[if_neg (by omega),if_neg (λ q=>q.elim g1 g2),if_neg (by omega),if_neg g3]
theorem flt_ok {s t:Sp} {d e d' e':Nat->Int} (h1:zAL s d e=0) (h2:zAL t d' e'=0) (h3:s.bits=t.bits):zH6 (zAL s d e) (zAL t d' e') s.bits t.bits=0:=by
 unfold zH6;rw[h1,h2,h3];simp
theorem zUC {lo hi M:Int} (hM:M<Q 4000) (h:Abs (lo,hi) M):fitE lo hi=0/\∀ z,zQA lo hi z=z:=by
 obtain⟨h1,h2,h3,h4⟩:=h;simp only[] at h1 h2 h3 h4
 rcases zJZ lo hi with⟨f1,_,_⟩|⟨_,f2,f3⟩
 ·exfalso
  rcases f1 with f1|f1<;>rcases f1 with f1|f1<;>omega
 ·exact⟨f2,f3⟩
theorem zHN (w:World) (s t:Sp) (b:Nat) (a c:Int × Int) (hs:SpAt w s 250 a.1 a.2) (ht:SpAt w t 250 c.1 c.2) (h1:s.bits=(b:Int)) (h2:t.bits=(b:Int)) (b9:1<=b) (j8:b<=120) (la:a.1<=a.2) (lc:c.1<=c.2) {M:Int} (hM:M<Q 4000) (hf:Abs (zAR a c) M) :
  Calls Tryz.prog 13 #[.agg s.q,.agg t.q] w (PairAns w b 600 (zAR a c).1 (zAR a c).2 0):=by
 obtain⟨d,e,g1,g2,g3,g4⟩:=chk_sp hs (by omega) la (by omega) (by omega)
 obtain⟨d',e',f1,f2,f3,f4⟩:=chk_sp ht (by omega) lc (by omega) (by omega)
 have hS:=saidAdd s t d e d' e' (flt_ok g2 f2 (by omega)) a.1 a.2 c.1 c.2 g3 g4 f3 f4 w g1 f1
 obtain⟨k1,k2⟩:=zUC (lo:=(zAR a c).1) (hi:=(zAR a c).2) hM hf;refine hS.mono λ r w' h=>?_
 have e1:a.1+c.1=(zAR a c).1:=rfl;have e2:a.2+c.2=(zAR a c).2:=rfl;rw[e1,e2,k1,k2,k2,k2,h1] at h;exact h
theorem zRL {x y:Int} (h:x<=y):zM x y<=0:=by unfold zM;split<;>(try split)<;>omega
theorem prodBd {p q:Int} (h1 : -1048576<=p) (h2:p<=1048576) (h3:1<=q) (h4:q<=1024) : -1073741824<=p*q/\p*q<=1073741824:=by
 have:=yI h1 h2 (show -1024<=q by omega) h4
 omega
end Go.Proofs.YtgmnknmjainabacGreat
