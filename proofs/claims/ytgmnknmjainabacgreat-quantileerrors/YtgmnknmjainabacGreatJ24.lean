/-
  Its own texts.
-/
import Derived.Test.YtgmnknmjainabacGreatJ23
set_option maxRecDepth 100000
set_option maxHeartbeats 40000000
set_option linter.unnecessarySimpa false
set_option linter.unusedSimpArgs false
set_option linter.unusedVariables false
namespace Go.Proofs.YtgmnknmjainabacGreat
open Go.RowKit
attribute [local go_sem ↓] Go.wp_at_zero Go.wp_at_succ
open Ex
theorem zOT (u:Sp) (w:World):Calls Tryz.prog 47 #[.agg u.q] w λ r w'=>r=.returned (.agg u.q)/\Below w.heap.size w w':=by
 obtain⟨W,hW⟩:∃ W,W=(w.alloc (.cells u.q 31)).alloc (.cells zCq 31):=⟨_,rfl⟩;have j6:Below w.heap.size w W:=by rw[hW];exact bl2 _ _ _
 have U:SpC W w.heap.size u:=by rw[hW];exact (zDM w u _).bw (bl1 _ _)
 have R:NoC W (w.heap.size+1):=by rw[hW];constructor<;>simp[go_sem]
 have lR:=R.lt;have lU:=U.lt;obtain⟨x0,x1,x2,x3,x4⟩:=U;obtain⟨q0,q1,q2,q3,q4,q5⟩:=R
 go_enter Tryz.func47,Tryz.ntmps47
 go_wp2
 try rw[<- hW]
 clear hW
 try go_wp2
 refine bodyPost_ret (v:=.agg u.q) (by simp[results,Tryz.results47,go_sem,q0,q1,q2,q3,q4]) rfl ⟨rfl,?_⟩
 exact bl2 _ _ _
structure MdAt (w:World) (hv:Value) (k p q r s n d:Int) (B1 B2 B3:Nat):Prop where
 f:w.cell? ⟨B1,0,none⟩=some hv
 l:LwC w B2 k p q r s
 x:RaC w B3 n d
theorem MdAt.lt {w:World} {hv:Value} {k p q r s n d:Int} {B1 B2 B3:Nat} (h:MdAt w hv k p q r s n d B1 B2 B3):B1<w.heap.size:=World.block_lt_of_cell? w ⟨B1,0,none⟩ h.f
theorem MdAt.bw {w w':World} {hv:Value} {k p q r s n d:Int} {B1 B2 B3:Nat} (h:MdAt w hv k p q r s n d B1 B2 B3) (hb:Below w.heap.size w w'):MdAt w' hv k p q r s n d B1 B2 B3 :=
 ⟨(hb.cell (p:=⟨B1,0,none⟩) h.lt).trans h.f,h.l.bw hb,h.x.bw hb⟩
theorem zFU (b:Nat) (B1 B2 B3:Nat) (w:World) (k p q r s n d:Int) (Pr:Int->Int->Prop) (h:MdAt w (.func (.func 47) #[] #[]) k p q r s n d B1 B2 B3) (hb:b<=10000) (hC:∀ w',Calls Tryz.prog 91 #[.agg #[.int .i64 k,.int .i64 p,.int .i64 q,.int .i64 r,.int .i64 s],.agg #[.int .i64 n,.int .i64 d],.int .i64 b] w' (BlG 30000 Pr w' b)) :
  Calls Tryz.prog 90 #[.int .i64 b,.pointer (some ⟨B1,0,none⟩),.pointer (some ⟨B2,0,none⟩),.pointer (some ⟨B3,0,none⟩)] w (BlG 30000 Pr w b):=by
 have l1:=h.lt;have l2:=h.l.lt;have l3:=h.x.lt;obtain⟨W,hW⟩:∃ W,W=w.alloc (.cells zCq 31):=⟨_,rfl⟩;have j6:Below w.heap.size w W:=by rw[hW];exact bl1 _ _
 have R:NoC W w.heap.size:=by rw[hW];exact zS _ _
 have h':=h.bw j6;have HK:=zC (show ∀ w',Below W.heap.size W w'->(w'.cell? ⟨B1,0,none⟩=some (.func (.func 47) #[] #[])/\rK w' B2 k p (w'.cell? ⟨B2,2,none⟩=some (.int .i64 q)/\w'.cell? ⟨B2,3,none⟩=some (.int .i64 r)/\w'.cell? ⟨B2,4,none⟩=some (.int .i64 s)/\rK0 w' B3 n d)) from λ w' hB=>⟨(h'.bw hB).f,(h'.bw hB).l.c0,(h'.bw hB).l.c1,(h'.bw hB).l.c2,(h'.bw hB).l.c3,(h'.bw hB).l.c4,(h'.bw hB).x.c0,(h'.bw hB).x.c1⟩)
 have HC:=zC hC;clear h h' hC
 go_enter Tryz.func90,Tryz.ntmps90
 go_wp2;rw[<- hW];clear hW;have lR:=R.lt;have nA:B1≠w.heap.size:=by omega
 have Pj:w.heap.size≠B1:=by omega
 have nB:B2≠w.heap.size:=by omega
 have Ii:w.heap.size≠B2:=by omega
 have nC:B3≠w.heap.size:=by omega
 have WV:w.heap.size≠B3:=by omega
 obtain⟨x0,x1,x2,x3,x4,x5,x6,x7⟩:=zA HK _ (Below.refl _ _);have D8:Below W.heap.size W W.drew:=(Below.refl _ _).drew
 go_region_held3 (λ w'=>w'.cell? ⟨B1,0,none⟩=some (.func (.func 47) #[] #[])/\rK w' B2 k p (w'.cell? ⟨B2,2,none⟩=some (.int .i64 q)/\w'.cell? ⟨B2,3,none⟩=some (.int .i64 r)/\w'.cell? ⟨B2,4,none⟩=some (.int .i64 s)/\rK0 w' B3 n d)) (first|exact zA HK _ (by with_reducible first|exact D8|exact A6|exact y9)|(dsimp only[cK,cK0,nK,nK0,rK,rK0];go_keep)|go_keep)
  (first
   | (go_at_call 47;have K9:=y9;refine (zOT u _).mono ?_;rintro r' w2 ⟨rfl,j5⟩;have A6:=zB y9 j5;obtain⟨q0,q1,q2,q3,q4,q5⟩:=R.bw A6;obtain⟨y0,y1,y2,y3,y4,y5,y6,y7⟩:=zA HK _ A6)
   | (go_at_call 91;refine (zA HC _).mono ?_;rintro r' w1 ⟨lo,hi,I2,u,rfl,D5,B9,b9⟩;have y9:=zB D8 b9;have G3:=zC D5;have R5:=zC I2;clear D5 I2))
 all_goals
  go_wp2_with fail;refine bodyPost_ret (v:=.agg u.q) (by simp[results,Tryz.results90,go_sem,q0,q1,q2,q3,q4]) rfl ⟨lo,hi,zA R5,u,rfl,zA G3,?_,?_⟩
  ·exact SpAt.put5 (B9.bw j5) q0 q1 q2 q3 q4 _ _ _ _ _
  ·exact kM (zB j6 A6) (Yj _) _ _ _ _ _
theorem zGK (b:Nat) (B1 B2 B3:Nat) (w:World) (k p q r s n d:Int) (Pr:Int->Int->Prop) (h:MdAt w (.func (.func 48) #[] #[]) k p q r s n d B1 B2 B3) (hb:b<=10000) (hC:∀ w',Calls Tryz.prog 91 #[.agg #[.int .i64 k,.int .i64 p,.int .i64 q,.int .i64 r,.int .i64 s],.agg #[.int .i64 n,.int .i64 d],.int .i64 b] w' (BlG 30000 Pr w' b)) :
  Calls Tryz.prog 90 #[.int .i64 b,.pointer (some ⟨B1,0,none⟩),.pointer (some ⟨B2,0,none⟩),.pointer (some ⟨B3,0,none⟩)] w (BlG 30001 (λ l h=>∃ l0 h0,Pr l0 h0/\l=(zA3 b (l0,h0)).1/\h=(zA3 b (l0,h0)).2) w b):=by
 have l1:=h.lt;have l2:=h.l.lt;have l3:=h.x.lt;obtain⟨W,hW⟩:∃ W,W=w.alloc (.cells zCq 31):=⟨_,rfl⟩;have j6:Below w.heap.size w W:=by rw[hW];exact bl1 _ _
 have R:NoC W w.heap.size:=by rw[hW];exact zS _ _
 have h':=h.bw j6;have HK:=zC (show ∀ w',Below W.heap.size W w'->(w'.cell? ⟨B1,0,none⟩=some (.func (.func 48) #[] #[])/\rK w' B2 k p (w'.cell? ⟨B2,2,none⟩=some (.int .i64 q)/\w'.cell? ⟨B2,3,none⟩=some (.int .i64 r)/\w'.cell? ⟨B2,4,none⟩=some (.int .i64 s)/\rK0 w' B3 n d)) from λ w' hB=>⟨(h'.bw hB).f,(h'.bw hB).l.c0,(h'.bw hB).l.c1,(h'.bw hB).l.c2,(h'.bw hB).l.c3,(h'.bw hB).l.c4,(h'.bw hB).x.c0,(h'.bw hB).x.c1⟩)
 have HC:=zC hC;clear h h' hC
 go_enter Tryz.func90,Tryz.ntmps90
 go_wp2;rw[<- hW];clear hW;have lR:=R.lt;have nA:B1≠w.heap.size:=by omega
 have Pj:w.heap.size≠B1:=by omega
 have nB:B2≠w.heap.size:=by omega
 have Ii:w.heap.size≠B2:=by omega
 have nC:B3≠w.heap.size:=by omega
 have WV:w.heap.size≠B3:=by omega
 obtain⟨x0,x1,x2,x3,x4,x5,x6,x7⟩:=zA HK _ (Below.refl _ _);have D8:Below W.heap.size W W.drew:=(Below.refl _ _).drew
 go_region_held3 (λ w'=>w'.cell? ⟨B1,0,none⟩=some (.func (.func 48) #[] #[])/\rK w' B2 k p (w'.cell? ⟨B2,2,none⟩=some (.int .i64 q)/\w'.cell? ⟨B2,3,none⟩=some (.int .i64 r)/\w'.cell? ⟨B2,4,none⟩=some (.int .i64 s)/\rK0 w' B3 n d)) (first|exact zA HK _ (by with_reducible first|exact D8|exact A6|exact y9)|(dsimp only[cK,cK0,nK,nK0,rK,rK0];go_keep)|go_keep)
  (first
   | (go_at_call 48;have K9:=y9;refine (zEJ _ u 30000 b (lo,hi) B9 (zA G3) (by omega) (by omega) (by omega)).mono ?_;rintro r' w2 ⟨v,rfl,J1,I6,j5⟩;have A6:=zB y9 j5;have EJ:=zC J1;clear J1;obtain⟨q0,q1,q2,q3,q4,q5⟩:=R.bw A6;obtain⟨y0,y1,y2,y3,y4,y5,y6,y7⟩:=zA HK _ A6)
   | (go_at_call 91;refine (zA HC _).mono ?_;rintro r' w1 ⟨lo,hi,I2,u,rfl,D5,B9,b9⟩;have y9:=zB D8 b9;have G3:=zC D5;have R5:=zC I2;clear D5 I2))
 all_goals
  go_wp2_with fail;refine bodyPost_ret (v:=.agg v.q) (by simp[results,Tryz.results90,go_sem,q0,q1,q2,q3,q4]) rfl ⟨_,_,⟨lo,hi,zA R5,rfl,rfl⟩,v,rfl,zA EJ,?_,?_⟩
  ·exact SpAt.put5 (I6) q0 q1 q2 q3 q4 _ _ _ _ _
  ·exact kM (zB j6 A6) (Yj _) _ _ _ _ _
theorem nat_add (b m:Nat):((b:Int)+(m:Int))=((b+m:Nat):Int):=by omega
theorem zQN (w:World) (ff:Nat) (k p q r s n d:Int) (b:Nat) (h0:yD k p q r s=0) (h1:rok n d) (h5:8<=b) (h6:b<=120) (Kw KD:Nat) (Pr:Nat->Int->Int->Prop) (Nj:Kw<=900000) (Ae:KD<=100000000) (hE:zGW b Kw Pr) (hF:∀ (m:Nat) w' B1 B2 B3,32<=m->m<=Kw+120->MdAt w' (.func (.func ff) #[] #[]) k p q r s n d B1 B2 B3->Calls Tryz.prog 90 #[.int .i64 ((b+m:Nat):Int),.pointer (some ⟨B1,0,none⟩),.pointer (some ⟨B2,0,none⟩),.pointer (some ⟨B3,0,none⟩)] w' (BlG KD (Pr (b+m)) w' (b+m))) :
  Calls Tryz.prog 46 #[.agg #[.int .i64 k,.int .i64 p,.int .i64 q,.int .i64 r,.int .i64 s],.agg #[.int .i64 n,.int .i64 d],.int .i64 b,.func (.func ff) #[] #[]] w (λ z w'=>∃ L H,zH3 b Pr L H/\zD7 w b 250 L H 0 z w'):=by
 have e1:zD0 n d b=0:=by unfold zD0;rw[if_pos ⟨h1,by omega,by omega⟩]
 have E0:=zC h0;have E1:=zC e1;have HF:=zC hF;clear h0 e1 hF;have HE:=zC hE;clear hE
 go_enter Tryz.func46,Tryz.ntmps46
 go_wp2_with fail;refine (zBU k p q r s _).mono ?_;rintro r' w1 ⟨rfl,b9⟩;rw[zA E0];have C:MdAt w1 (.func (.func ff) #[] #[]) k p q r s n d (w.heap.size+1+1) w.heap.size (w.heap.size+1):=MdAt.bw ⟨by simp[go_sem],⟨by simp[go_sem],by simp[go_sem],by simp[go_sem],by simp[go_sem],by simp[go_sem]⟩,⟨by simp[go_sem],by simp[go_sem]⟩⟩ b9
 have R:NoC w1 (w.heap.size+1+1+1):=NoC.bw ⟨by simp[go_sem],by simp[go_sem],by simp[go_sem],by simp[go_sem],by simp[go_sem],λ o=>by simp[go_sem]⟩ b9
 have hB:Below w.heap.size w w1:=zB (bl4 _ _ _ _ _) b9;have lR:=R.lt;obtain⟨x0,⟨x1,x2,x3,x4,x5⟩,⟨x6,x7⟩⟩:=C;have C:MdAt w1 (.func (.func ff) #[] #[]) k p q r s n d (w.heap.size+1+1) w.heap.size (w.heap.size+1):=⟨x0,⟨x1,x2,x3,x4,x5⟩,⟨x6,x7⟩⟩;clear b9;go_wp2_with fail;refine (zCF b w1 _ (by simp) n d _ _).mono ?_
 rintro r' w2 ⟨rfl,j5⟩;rw[zA E1];replace C:=C.bw j5;replace R:=R.bw j5;replace hB:=zB hB j5;clear j5 x0 x1 x2 x3 x4 x5 x6 x7;go_wp2_with fail;refine (sure_gen _ _ zMY b Kw KD Pr _ h6 Nj Ae (zA HE) (λ m w' hm P6 C8=>by rw[nat_add];exact zA HF m w' _ _ _ hm P6 (C.bw C8))).mono ?_
 rintro r' w3 ⟨L,H,hS,u,rfl,D5,B9,m8⟩;obtain⟨q0,q1,q2,q3,q4,q5⟩:=R.bw m8;replace hB:=zB hB m8;have G3:=zC D5;have Rh:=zC hS;clear D5 hS;go_wp2_with fail;refine bodyPost_ret (v:=.tuple #[.agg u.q,.int .i64 0]) (by simp[results,Tryz.results46,go_sem,q0,q1,q2,q3,q4]) rfl ⟨L,H,zA Rh,u,rfl,zA G3,?_,?_⟩
 ·exact SpAt.put5 B9 q0 q1 q2 q3 q4 _ _ _ _ _
 ·exact kM hB (by omega) _ _ _ _ _
theorem zHV (p1 p2 p3:Value) (bits KD:Nat) (lo hi L H:Int) (W:World) (hb:bits<=120) (Ae:KD<=100000000) (hL:L=lo/Q 32) (hH:H = -(-hi/Q 32)) (v1:0<=H-L) (hw:H-L<=1) (f1 : -P 250<L) (f2:H<P 250)
  (hF:∀ w',Below W.heap.size W w'->Calls Tryz.prog 90 #[.int .i64 ((bits:Int)+32),p1,p2,p3] w' (zL w' ((bits:Int)+32) KD lo hi)) :
  Calls Tryz.prog 55 #[.int .i64 bits,.func (.func 90) #[] #[p1,p2,p3]] W (zL W bits 250 L H):=by
 have HF:=zC hF;have QQ:=zC hL;have QJ:=zC hH;clear hF hL hH;have wm:=zS W 31
 go_enter Tryz.func55,Tryz.ntmps55
 go_wp2_with fail
 go_loopw [5,6] (λ mm tt wr=>mm=.int .i64 32/\tt=.int .i64 1/\NoC wr W.heap.size/\Below W.heap.size W wr) (λ _ _ _=>0)
 case atStart=>exact⟨rfl,rfl,wm,bl1 _ _⟩
 case round =>
  obtain⟨rfl,rfl,R,hB⟩:=hrel;go_wp2_with fail;refine (zA HF _ hB).mono ?_;rintro r w1 ⟨s,rfl,tj,AP,b9⟩;replace R:=R.bw b9;replace hB:=zB hB b9;clear b9;have AO:0<=s.bits:=by omega
  have hs1:s.bits<=1000000:=by omega
  have d1:zCR lo (s.bits-bits)=L:=by rw[zA QQ];unfold zCR;rw[tj,if_pos (by omega)];congr 2;omega
  have d2 : -zCR (-hi) (s.bits-bits)=H:=by rw[zA QJ];unfold zCR;rw[tj,if_pos (by omega)];congr 3;omega
  have xl:=zC d1;have xm:=zC d2;clear d1 d2 tj;go_wp2_with fail;refine (zGT _ s KD bits lo hi AP (by omega) AO hs1 (by omega) (by omega)).mono ?_
  rintro r w2 ⟨u,rfl,D5,B9,j5⟩;rw[zA xl,zA xm] at B9;replace B9:=B9.fits (K:=250) (by omega) f1 f2
  replace R:=R.bw j5;replace hB:=zB hB j5;have G3:=zC D5;clear j5 D5 AO hs1 xl xm AP;have lR:=R.lt;obtain⟨V,hV⟩:∃ V,V=w2.alloc (.cells u.q 31):=⟨_,rfl⟩;have bV:Below w2.heap.size w2 V:=by rw[hV];exact bl1 _ _
  have U:SpC V w2.heap.size u:=by rw[hV];exact⟨by simp,by simp,by simp,by simp,by simp⟩
  replace R:=R.bw bV;replace hB:=zB hB bV;replace B9:=B9.bw bV;clear bV;go_wp2_with fail;rw[<- hV];clear hV;refine (zBR _ _ _ _ _ _ _ _ 250 250 H L _ B9.hi B9.lo (by omega) (by omega)).mono ?_
  rintro r w3 ⟨C7,a3,n3,c3,rfl,E8,m8⟩;replace U:=U.bw m8;replace R:=R.bw m8;replace hB:=zB hB m8;replace B9:=B9.bw m8;clear m8;go_wp2_with fail;refine (zDL _ _ _ _ _ (H-L) _ E8 v1).mono ?_;rintro r w4 ⟨l,hlen,rfl,A5⟩;replace U:=U.bw A5;replace R:=R.bw A5;replace hB:=zB hB A5;replace B9:=B9.bw A5
  have hc:l<=1:=by
   obtain⟨g1,g2,g3⟩:=hlen
   by_cases hp:0<H-L
   ·obtain⟨L',e1,e2,e3⟩:=g3 hp
    have:¬ 1<=L':=λ h=>by
     have:=zK h;have:Q 1=2:=rfl;omega
    omega
   ·have:=g2 (by omega);omega
  clear A5 E8 hlen;have lU:=U.lt;have W5:=R.lt;have nRU:W.heap.size≠w2.heap.size:=by omega
  have Ij:w2.heap.size≠W.heap.size:=by omega
  obtain⟨x0,x1,x2,x3,x4⟩:=U;obtain⟨q0,q1,q2,q3,q4,q5⟩:=R;go_wp2_with fail;refine bodyPost_ret (v:=.agg u.q) (by simp[results,Tryz.results55,go_sem,q0,q1,q2,q3,q4]) rfl ⟨u,rfl,zA G3,?_,?_⟩
  ·exact SpAt.put5 B9 q0 q1 q2 q3 q4 _ _ _ _ _
  ·exact kM hB (Yj _) _ _ _ _ _
theorem zLQ (w:World) (ff:Nat) (k p q r s n d:Int) (b:Nat) (h0:yD k p q r s=0) (h1:rok n d) (h5:8<=b) (h6:b<=120) (KD:Nat) (lo hi L H:Int) (Ae:KD<=100000000) (hL:L=lo/Q 32) (hH:H = -(-hi/Q 32)) (v1:0<=H-L) (hw:H-L<=1) (f1 : -P 250<L) (f2:H<P 250) (hF:∀ w' B1 B2 B3,MdAt w' (.func (.func ff) #[] #[]) k p q r s n d B1 B2 B3->Calls Tryz.prog 90 #[.int .i64 ((b:Int)+32),.pointer (some ⟨B1,0,none⟩),.pointer (some ⟨B2,0,none⟩),.pointer (some ⟨B3,0,none⟩)] w' (zL w' ((b:Int)+32) KD lo hi)) :
  Calls Tryz.prog 46 #[.agg #[.int .i64 k,.int .i64 p,.int .i64 q,.int .i64 r,.int .i64 s],.agg #[.int .i64 n,.int .i64 d],.int .i64 b,.func (.func ff) #[] #[]] w (zD7 w b 250 L H 0):=by
 have e1:zD0 n d b=0:=by unfold zD0;rw[if_pos ⟨h1,by omega,by omega⟩]
 have E0:=zC h0;have E1:=zC e1;have HF:=zC hF;clear h0 e1 hF;have HL:=zC hL;have HH:=zC hH;have xn:=zC (And.intro f1 f2);clear hL hH f1 f2
 go_enter Tryz.func46,Tryz.ntmps46
 go_wp2_with fail;refine (zBU k p q r s _).mono ?_;rintro r' w1 ⟨rfl,b9⟩;rw[zA E0];have C:MdAt w1 (.func (.func ff) #[] #[]) k p q r s n d (w.heap.size+1+1) w.heap.size (w.heap.size+1):=MdAt.bw ⟨by simp[go_sem],⟨by simp[go_sem],by simp[go_sem],by simp[go_sem],by simp[go_sem],by simp[go_sem]⟩,⟨by simp[go_sem],by simp[go_sem]⟩⟩ b9
 have R:NoC w1 (w.heap.size+1+1+1):=NoC.bw ⟨by simp[go_sem],by simp[go_sem],by simp[go_sem],by simp[go_sem],by simp[go_sem],λ o=>by simp[go_sem]⟩ b9
 have hB:Below w.heap.size w w1:=zB (bl4 _ _ _ _ _) b9;have lR:=R.lt;obtain⟨x0,⟨x1,x2,x3,x4,x5⟩,⟨x6,x7⟩⟩:=C;have C:MdAt w1 (.func (.func ff) #[] #[]) k p q r s n d (w.heap.size+1+1) w.heap.size (w.heap.size+1):=⟨x0,⟨x1,x2,x3,x4,x5⟩,⟨x6,x7⟩⟩;clear b9;go_wp2_with fail;refine (zCF b w1 _ (by simp) n d _ _).mono ?_
 rintro r' w2 ⟨rfl,j5⟩;rw[zA E1];replace C:=C.bw j5;replace R:=R.bw j5;replace hB:=zB hB j5;clear j5 x0 x1 x2 x3 x4 x5 x6 x7;go_wp2_with fail;refine (zHV _ _ _ b KD lo hi L H _ h6 Ae (zA HL) (zA HH) v1 hw (zA xn).1 (zA xn).2 (λ w' C8=>zA HF w' _ _ _ (C.bw C8))).mono ?_
 rintro r' w3 ⟨u,rfl,D5,B9,m8⟩;obtain⟨q0,q1,q2,q3,q4,q5⟩:=R.bw m8;replace hB:=zB hB m8;have G3:=zC D5;clear D5;go_wp2_with fail;refine bodyPost_ret (v:=.tuple #[.agg u.q,.int .i64 0]) (by simp[results,Tryz.results46,go_sem,q0,q1,q2,q3,q4]) rfl ⟨u,rfl,zA G3,?_,?_⟩
 ·exact SpAt.put5 B9 q0 q1 q2 q3 q4 _ _ _ _ _
 ·exact kM hB (by omega) _ _ _ _ _
theorem zQI (w:World) (ff:Nat) (k p q r s n d b:Int) (h0:yD k p q r s≠0) :
  Calls Tryz.prog 46 #[.agg #[.int .i64 k,.int .i64 p,.int .i64 q,.int .i64 r,.int .i64 s],.agg #[.int .i64 n,.int .i64 d],.int .i64 b,.func (.func ff) #[] #[]] w (zD7 w 0 250 0 0 (yD k p q r s)):=by
 go_enter Tryz.func46,Tryz.ntmps46
 go_wp2_with fail;refine (zBU k p q r s _).mono ?_;rintro r' w1 ⟨rfl,b9⟩;have h1:(yD k p q r s != 0)=true:=by simpa using h0
 have R:NoC w1 (w.heap.size+1+1+1):=NoC.bw ⟨by simp[go_sem],by simp[go_sem],by simp[go_sem],by simp[go_sem],by simp[go_sem],λ o=>by simp[go_sem]⟩ b9
 have hB:Below w.heap.size w w1:=zB (bl4 _ _ _ _ _) b9;have lR:=R.lt;clear b9;obtain⟨q0,q1,q2,q3,q4,q5⟩:=R;go_wp2_with fail;refine bodyPost_ret (v:=.tuple #[.agg zCq,.int .i64 (yD k p q r s)]) (by simp[results,Tryz.results46,go_sem,q0,q1,q2,q3,q4]) rfl ⟨⟨false,none,0,0,false,none,0,0,0⟩,rfl,rfl,zeroSp _ _,?_⟩
 exact kM hB (by omega) _ _ _ _ _
theorem zQJ (w:World) (ff:Nat) (k p q r s n d b:Int) (h0:yD k p q r s=0) (h1:zD0 n d b≠0) :
  Calls Tryz.prog 46 #[.agg #[.int .i64 k,.int .i64 p,.int .i64 q,.int .i64 r,.int .i64 s],.agg #[.int .i64 n,.int .i64 d],.int .i64 b,.func (.func ff) #[] #[]] w (zD7 w 0 250 0 0 (zD0 n d b)):=by
 have E0:=zC h0;clear h0
 go_enter Tryz.func46,Tryz.ntmps46
 go_wp2_with fail;refine (zBU k p q r s _).mono ?_;rintro r' w1 ⟨rfl,b9⟩;rw[zA E0];have D:RaC w1 (w.heap.size+1) n d:=RaC.bw ⟨by simp[go_sem],by simp[go_sem]⟩ b9
 have R:NoC w1 (w.heap.size+1+1+1):=NoC.bw ⟨by simp[go_sem],by simp[go_sem],by simp[go_sem],by simp[go_sem],by simp[go_sem],λ o=>by simp[go_sem]⟩ b9
 have hB:Below w.heap.size w w1:=zB (bl4 _ _ _ _ _) b9;have lR:=R.lt;obtain⟨x6,x7⟩:=D;clear b9;go_wp2_with fail;refine (zCF b w1 _ (by simp) n d _ _).mono ?_
 rintro r' w2 ⟨rfl,j5⟩;have h2:(zD0 n d b != 0)=true:=by simpa using h1
 replace R:=R.bw j5;replace hB:=zB hB j5;clear j5 x6 x7;have W5:=R.lt;obtain⟨q0,q1,q2,q3,q4,q5⟩:=R;go_wp2_with fail;refine bodyPost_ret (v:=.tuple #[.agg zCq,.int .i64 (zD0 n d b)]) (by simp[results,Tryz.results46,go_sem,q0,q1,q2,q3,q4]) rfl ⟨⟨false,none,0,0,false,none,0,0,0⟩,rfl,rfl,zeroSp _ _,?_⟩
 exact kM hB (by omega) _ _ _ _ _
def PaG (Rel:Int->Int->Int->Int->Prop) (w:World) (z:Ending) (w':World):Prop:=∃ bt L H e,Rel bt L H e/\zD7 w bt 250 L H e z w'
theorem zMH (w:World) (k p q r s n d b:Int) (Rel:Int->Int->Int->Int->Prop) (hC:∀ w',Calls Tryz.prog 46 #[.agg #[.int .i64 k,.int .i64 p,.int .i64 q,.int .i64 r,.int .i64 s],.agg #[.int .i64 n,.int .i64 d],.int .i64 b,.func (.func 47) #[] #[]] w' (PaG Rel w')) :
  Calls Tryz.prog 11 #[.agg #[.int .i64 k,.int .i64 p,.int .i64 q,.int .i64 r,.int .i64 s],.agg #[.int .i64 n,.int .i64 d],.int .i64 b] w (PaG Rel w):=by
 have HC:=zC hC;clear hC
 go_enter Tryz.func11,Tryz.ntmps11
 go_wp2_with fail;refine (zA HC _).mono ?_;rintro r' w1 ⟨bt,L,H,e,hrel,u,rfl,D5,B9,b9⟩;have R:NoC w1 (w.heap.size+1+1):=NoC.bw ⟨by simp[go_sem],by simp[go_sem],by simp[go_sem],by simp[go_sem],by simp[go_sem],λ o=>by simp[go_sem]⟩ b9
 have hB:Below w.heap.size w w1:=zB (bl3 _ _ _ _) b9;obtain⟨q0,q1,q2,q3,q4,q5⟩:=R;have G3:=zC D5;have Rc:=zC hrel;clear D5 b9 hrel;go_wp2_with fail;refine bodyPost_ret (v:=.tuple #[.agg u.q,.int .i64 e]) (by simp[results,Tryz.results11,go_sem,q0,q1,q2,q3,q4]) rfl ⟨bt,L,H,e,zA Rc,u,rfl,zA G3,?_,?_⟩
 ·exact SpAt.put5 B9 q0 q1 q2 q3 q4 _ _ _ _ _
 ·exact kM hB (by omega) _ _ _ _ _
structure LkPr (K:Nat) (x:Nat->Rat) (B:Nat) (l u:Int):Prop where
 lo:0<=l
 le:l<=u
 hi:u<=Q B
 wd:u-l<=Q K
 iv:Iv B (l,u) x
theorem zP5 (K:Nat) (x:Nat->Rat) {bits:Nat} (hb:bits<=120):zGW bits K (LkPr K x):=λ m lo hi h=>by
 have q:=zF (bits+m);have b1:=big_Q (z:=hi) hb (show hi<=2*Q (bits+m) by have:=h.hi;omega)
 have b2:=big_Q (z := -lo) hb (show -lo<=2*Q (bits+m) by have:=h.lo;omega)
 exact⟨h.le,h.wd,by omega,b1⟩
theorem lk_rest {K:Nat} {x:Nat->Rat} {B:Nat} {l u:Int} (h:LkPr K x B l u):LkPr K (λ M=>1-x M) B (zA3 B (l,u)).1 (zA3 B (l,u)).2:=by
 have a:=h.lo;have b:=h.le;have c:=h.hi;have d:=h.wd;exact⟨by show 0<=Q B-u;omega,by show Q B-u<=Q B-l;omega,by show Q B-l<=Q B;omega,by show Q B-l-(Q B-u)<=Q K;omega,zFA h.iv⟩
theorem LwPr.k {x:Nat->Rat} {B:Nat} {l u:Int} (h:LwPr x B l u):LkPr 89 x B l u:=⟨h.lo,h.le,h.hi,h.wd,h.iv⟩
structure LEnv (R R2:Nat->Rat) (L G:Rat->Nat->Rat) (X:Int->Int->Nat->Rat):Prop where
 r:zAA piS R
 r2:zAA (λ _=>(2:Rat)) R2
 g:zNU L G X
theorem Qi:∃ R R2 L G X,LEnv R R2 L G X:=by
 obtain⟨R,hR⟩:=piR_ex;obtain⟨R2,h2⟩:=rt2_ex;obtain⟨L,G,X,hE⟩:=genv_ex;exact⟨R,R2,L,G,X,hR,h2,hE⟩
def lbX (R R2:Nat->Rat) (L G:Rat->Nat->Rat) (k p q r s n d:Int):Nat->Rat :=
 if k=1 then noX R R2 p q r s n d else if k=2 then waX p q n d else if k=3 then gaX L G p q r s n d else if k=4 then beX L p q r s n d else if k=5 then stX L p q n d else if k=6 then coX p.toNat r s n d else raX p q n d
theorem law_2 {p q r s:Int} (h:yD 2 p q r s=0):rok p q/\0<p/\p<=100*q:=by
 obtain⟨_,a,b,c,d,e⟩:=zA2 h;simp[jP] at c;simp[zA1,zBI,jF] at d;exact⟨a,c,by omega⟩
theorem law_5 {p q r s:Int} (h:yD 5 p q r s=0):rok p q/\0<p/\p<=100*q:=by
 obtain⟨_,a,b,c,d,e⟩:=zA2 h;simp[jP] at c;simp[zA1,zBI,jF] at d;exact⟨a,c,by omega⟩
theorem law_7 {p q r s:Int} (h:yD 7 p q r s=0):rok p q/\0<p/\p<=100*q:=by
 obtain⟨_,a,b,c,d,e⟩:=zA2 h;simp[jP] at c;simp[zA1,zBI,jF] at d;exact⟨a,c,by omega⟩
theorem law_3 {p q r s:Int} (h:yD 3 p q r s=0):rok p q/\rok r s/\0<p/\p<=100*q/\0<r/\r<=100*s:=by
 obtain⟨_,a,b,c,d,e⟩:=zA2 h;simp[jP] at c;simp[zA1,zBI,jF] at d;exact⟨a,b,by omega,by omega,by omega,by omega⟩
theorem law_4 {p q r s:Int} (h:yD 4 p q r s=0):rok p q/\rok r s/\0<p/\p<=100*q/\0<r/\r<=100*s:=by
 obtain⟨_,a,b,c,d,e⟩:=zA2 h;simp[jP] at c;simp[zA1,zBI,jF] at d;exact⟨a,b,by omega,by omega,by omega,by omega⟩
theorem law_1 {p q r s:Int} (h:yD 1 p q r s=0):rok p q/\rok r s/\0<r/\r<=100*s:=by
 obtain⟨_,a,b,c,d,e⟩:=zA2 h;simp[jP] at c;simp[zA1,zBI,jF] at d;exact⟨a,b,by omega,by omega⟩
theorem law_6 {p q r s:Int} (h:yD 6 p q r s=0):rok r s/\q=1/\0<=p/\p<=100/\0<=r/\r<=s:=by
 obtain⟨_,a,b,c,d,e⟩:=zA2 h;simp[jP] at c;exact⟨b,by omega,by omega,by omega,by omega,by omega⟩
theorem below_lw {R R2:Nat->Rat} {L G:Rat->Nat->Rat} {X:Int->Int->Nat->Rat} (hE:LEnv R R2 L G X) (w:World) (k p q r s n d:Int) (b:Nat) (h0:yD k p q r s=0) (hk:k≠1) (hr:rok n d) (E7:40<=b) (hb:b<=400) :
  Calls Tryz.prog 91 #[.agg #[.int .i64 k,.int .i64 p,.int .i64 q,.int .i64 r,.int .i64 s],.agg #[.int .i64 n,.int .i64 d],.int .i64 b] w (BlG 30000 (LwPr (lbX R R2 L G k p q r s n d) b) w b):=by
 have Wz:=(zA2 h0).1;have d0:0<d:=by have:=hr.2.2.1;omega
 rcases (show k=2\/k=3\/k=4\/k=5\/k=6\/k=7 by omega) with rfl|rfl|rfl|rfl|rfl|rfl
 ·obtain⟨a,c,e⟩:=law_2 h0
  have ex:lbX R R2 L G 2 p q r s n d=waX p q n d:=by unfold lbX;rfl
  rw[ex];refine below_2 w p q r s n d b _ λ w'=>?_
  unfold waX
  by_cases hn:n<=0
  ·rw[if_pos hn];exact lwait_no w' 2 p q r s n d b (by omega) hn
  ·rw[if_neg hn];exact lwait_iv w' 2 p q r s n d b E7 hb (by omega) a hr c e
 ·obtain⟨a,a2,c,e,f,g⟩:=law_3 h0
  have ex:lbX R R2 L G 3 p q r s n d=gaX L G p q r s n d:=by unfold lbX;rfl
  rw[ex];refine below_3 w p q r s n d b _ λ w'=>?_
  unfold gaX
  by_cases hn:n<=0
  ·rw[if_pos hn];exact zP4 w' 3 p q r s n d b (by omega) hn
  ·rw[if_neg hn];exact zP3 L G X hE.g w' 3 p q r s n d b E7 hb (by omega) a hr a2 c e f
 ·obtain⟨a,a2,c,e,f,g⟩:=law_4 h0
  have ex:lbX R R2 L G 4 p q r s n d=beX L p q r s n d:=by unfold lbX;rfl
  rw[ex];refine below_4 w p q r s n d b _ λ w'=>?_
  unfold beX clX
  by_cases hn:n<=0
  ·have ez:bvX L p q r s 0 d=λ _=>0:=by unfold bvX;rw[if_pos rfl]
   rw[if_pos hn,ez];exact lbeta_no w' 4 p q r s n d b (by omega) hn
  ·by_cases hd:d<=n
   ·have ez:bvX L p q r s d d=λ _=>1:=by unfold bvX;rw[if_neg (by omega),if_pos rfl]
    rw[if_neg hn,if_pos hd,ez];exact zPU w' 4 p q r s n d b hb hn hd
   ·rw[if_neg hn,if_neg hd];exact lbeta_iv L G X hE.g w' 4 p q r s n d b E7 hb (by omega) (by omega) a hr a2 c e f g
 ·obtain⟨a,c,e⟩:=law_5 h0
  have ex:lbX R R2 L G 5 p q r s n d=stX L p q n d:=by unfold lbX;rfl
  rw[ex];refine below_5 w p q r s n d b _ λ w'=>?_
  by_cases hz:n=0
  ·unfold stX
   rw[if_pos (by omega)]
   refine (zM9 w' p q n d b hb hz).mono λ z J2 ⟨lo,hi,h1,h2⟩=>⟨lo,hi,h1.congr (null_zero.of_eq λ M=>?_),h2⟩
   unfold stX0;have f0:=Int.mul_pos c (Int.mul_pos d0 d0)
   have ez:bvX L p (2*q) 1 2 (p*(d*d)) (p*(d*d)+q*(n*n))=λ _=>1:=by
    unfold bvX;rw[if_neg (by omega),if_pos (by rw[hz];simp)]
   rw[ez];grind
  ·exact lstud_iv L G X hE.g w' p q n d b E7 hb hz a hr c e
 ·obtain⟨a,c,e,f,g,i⟩:=law_6 h0
  have ex:lbX R R2 L G 6 p q r s n d=coX p.toNat r s n d:=by unfold lbX;rfl
  rw[ex];obtain⟨P,rfl⟩:∃ P:Nat,p=(P:Int):=⟨p.toNat,by omega⟩
  have eP:(P:Int).toNat=P:=by omega
  rw[eP];have s0:0<s:=by have:=a.2.2.1;omega
  have sp:0<s ^ P:=Int.pow_pos s0;have cb:=cnt_le (P:=P) g i (coN P n d) (by unfold coN;omega)
  refine (zJS q r s n d P (coN P n d) b w hr rfl (by omega) g i (by omega) a.2.2.2 (by omega)).mono λ z w' ⟨u,e1,e2,e3,e4⟩=>⟨_,_,of_lw b cb.1 sp cb.2,u,e1,e2,e3.mono (by omega),e4⟩
 ·obtain⟨a,c,e⟩:=law_7 h0
  have ex:lbX R R2 L G 7 p q r s n d=raX p q n d:=by unfold lbX;rfl
  rw[ex];refine below_7 w p q r s n d b _ hr λ w'=>?_
  by_cases hn:n/d<0
  ·refine (lrare_no w' p q (n/d) n d b (by omega) hn).mono λ z J2 ⟨lo,hi,h1,h2⟩=>⟨lo,hi,h1.congr (null_zero.of_eq λ M=>?_),h2⟩
   unfold raX raN;rw[show (n/d+1).toNat=0 by omega]
   show (0:Rat)-0=0
   grind
  ·have hu:n/d<=1000000000:=by
    have:=hr.2.1;exact Int.le_trans (Int.ediv_le_ediv d0 (show n<=1048576 by omega)) (Int.le_trans (Int.ediv_le_self _ (by decide)) (by decide))
   exact lrare_iv w' p q (n/d) n d b a c e (by omega) hu rfl E7 hb
def lbE (k p q r s n d b:Int):Int:=if yD k p q r s=0 then zD0 n d b else yD k p q r s
structure SuB (x:Nat->Rat) (b:Nat) (L H:Int):Prop where
 v:SuV x b L H
 lo:0<=L
 hi:H<=Q b
def BeR (x:Nat->Rat) (E b bt L H e:Int):Prop:=(E=0/\e=0/\bt=b/\SuB x b.toNat L H)\/(E≠0/\e=E/\bt=0/\L=0/\H=0)
theorem su_b {b:Nat} {x:Nat->Rat} {Pr:Nat->Int->Int->Prop} {L H:Int} (h:zH3 b Pr L H) (hp:∀ B lo hi,Pr B lo hi->0<=lo/\lo<=hi/\hi<=Q B/\Iv B (lo,hi) x):SuB x b L H:=by
 refine⟨sure_su h λ B lo hi p=>⟨(hp B lo hi p).2.1,(hp B lo hi p).2.2.2⟩,?_,?_⟩
 ·obtain⟨m,lo,hi,pr,hm,e1,e2,h6⟩:=h
  rw[e1];exact Int.ediv_nonneg (hp _ _ _ pr).1 (by have:=zF m;omega)
 ·obtain⟨m,lo,hi,pr,hm,e1,e2,h6⟩:=h
  obtain⟨p1,p2,p3,p4⟩:=hp _ _ _ pr;have q0:=zF m;have qb:=zF b;have e3:Q (b+m)=Q b*Q m:=jI b m;have r:=(jZ (x:=hi) (m:=Q b) (q:=Q m) (by omega) (by omega) (by omega)).2.2.2
  rw[e2];exact r
theorem lk_su {K b:Nat} {x:Nat->Rat} {L H:Int} (h:zH3 b (LkPr K x) L H):SuB x b L H:=su_b h λ B lo hi p=>⟨p.lo,p.le,p.hi,p.iv⟩
theorem rest_far {b:Nat} {lo hi L H:Int} (hL:L=lo/Q 32) (hH:H = -(-hi/Q 32)):Q b-H=(zA3 (b+32) (lo,hi)).1/Q 32/\Q b-L = -(-(zA3 (b+32) (lo,hi)).2/Q 32):=by
 have q:=zF 32;have e:Q (b+32)=Q b*Q 32:=jI b 32;have e1:(zA3 (b+32) (lo,hi)).1 = -hi+Q b*Q 32:=by show Q (b+32)-hi=_;omega
 have e2 : -(zA3 (b+32) (lo,hi)).2=lo + -Q b*Q 32:=by
  show -(Q (b+32)-lo)=_
  have : -Q b*Q 32 = -(Q b*Q 32):=Int.neg_mul _ _;omega
 rw[e1,e2,Int.add_mul_ediv_right _ _ (by omega),Int.add_mul_ediv_right _ _ (by omega),hL,hH]
 omega
theorem no_lk {E:Nat->Rat} {p:Int} {B:Nat} {s e:Int} (h:NoCore E B s e):LkPr 4500 (nrV E p) B (zEZ B p (s,e)).1 (zEZ B p (s,e)).2:=by
 obtain⟨c1,c2,c3,c4,c5⟩:=h;obtain⟨g1,g2,g3,g4⟩:=norI_ok (p:=p) (B:=B) c2 c3 c4 c5;exact⟨g2,g1,g3,g4,norI_iv c1⟩
theorem zOV (w:World) (p q r s n d:Int) (b:Nat) (h0:yD 1 p q r s=0) (hr:rok n d) (E7:40<=b) (hb:b<=10000) (hf:(d*q*r)*(d*q*r)*2*(b:Int)<=((n*q-p*d)*s)*((n*q-p*d)*s)) :
  Calls Tryz.prog 91 #[.agg #[.int .i64 1,.int .i64 p,.int .i64 q,.int .i64 r,.int .i64 s],.agg #[.int .i64 n,.int .i64 d],.int .i64 b] w (BlG 30000 (λ l u=>l=(zEZ b ((n*q-p*d)*s) (Q b-1,Q b)).1/\u=(zEZ b ((n*q-p*d)*s) (Q b-1,Q b)).2) w b):=by
 obtain⟨a,a2,c,e⟩:=law_1 h0;refine zOU w p q r s n d b _ λ w'=>?_
 exact (zLN w' 1 p q r s n d b _ _ E7 hb a hr a2 c e (nor_farN E7 hb hf)).mono λ z J2 ⟨u,e1,e2,e3,e4⟩=>⟨_,_,⟨rfl,rfl⟩,u,e1,e2,e3.mono (by omega),e4⟩
theorem zQL (w:World) (ff:Nat) (up:Bool) (k p q r s n d:Int) (B K:Nat) (x:Nat->Rat) (hh:(up=false/\ff=47)\/(up=true/\ff=48)) (h0:yD k p q r s=0) (hr:rok n d) (b8:8<=B) (P8:B<=120) (hK:K<=100000)
  (hc:∀ m:Nat,32<=m->m<=K+120->B+m<=10000/\∀ J2,Calls Tryz.prog 91 #[.agg #[.int .i64 k,.int .i64 p,.int .i64 q,.int .i64 r,.int .i64 s],.agg #[.int .i64 n,.int .i64 d],.int .i64 ((B+m:Nat):Int)] J2 (BlG 30000 (LkPr K x (B+m)) J2 (B+m))) :
  Calls Tryz.prog 46 #[.agg #[.int .i64 k,.int .i64 p,.int .i64 q,.int .i64 r,.int .i64 s],.agg #[.int .i64 n,.int .i64 d],.int .i64 (B:Int),.func (.func ff) #[] #[]] w (PaG (BeR (if up then λ M=>1-x M else x) 0 (B:Int)) w):=by
 have eB:((B:Int)).toNat=B:=by omega
 rcases hh with⟨rfl,rfl⟩|⟨rfl,rfl⟩
 ·refine (zQN w _ k p q r s n d B h0 hr b8 P8 K 30000 (LkPr K x) (by omega) (by omega) (zP5 K x P8) (λ m w' B1 B2 B3 hm P6 at_=>zFU (B+m) B1 B2 B3 w' k p q r s n d _ at_ (hc m hm P6).1 (hc m hm P6).2)).mono λ z w' ⟨l,h,hs,ha⟩=>⟨(B:Int),l,h,0,Or.inl ⟨rfl,rfl,rfl,?_⟩,ha⟩
  rw[eB];exact lk_su hs
 ·refine (zQN w _ k p q r s n d B h0 hr b8 P8 K 30001 (LkPr K (λ M=>1-x M)) (by omega) (by omega) (zP5 K _ P8) (λ m w' B1 B2 B3 hm P6 at_=>(zGK (B+m) B1 B2 B3 w' k p q r s n d _ at_ (hc m hm P6).1 (hc m hm P6).2).mono λ z J2 ⟨l,h,⟨l0,u0,g1,g2,g3⟩,ga⟩=>⟨l,h,by rw[g2,g3];exact lk_rest g1,ga⟩)).mono λ z w' ⟨l,h,hs,ha⟩=>⟨(B:Int),l,h,0,Or.inl ⟨rfl,rfl,rfl,?_⟩,ha⟩
  rw[eB];exact lk_su hs
theorem made_fx (w:World) (ff:Nat) (up:Bool) (k p q r s n d:Int) (B C:Nat) (x:Nat->Rat) (lo hi L H:Int) (hh:(up=false/\ff=47)\/(up=true/\ff=48)) (h0:yD k p q r s=0) (hr:rok n d) (b8:8<=B) (P8:B<=120) (hC:C=B+32) (eL:L=lo/Q 32) (eH:H = -(-hi/Q 32)) (g:H-L=1) (v:SuB x B L H)
  (bf:∀ J2,Calls Tryz.prog 91 #[.agg #[.int .i64 k,.int .i64 p,.int .i64 q,.int .i64 r,.int .i64 s],.agg #[.int .i64 n,.int .i64 d],.int .i64 (C:Int)] J2 (BlG 30000 (λ l u=>l=lo/\u=hi) J2 C)) :
  Calls Tryz.prog 46 #[.agg #[.int .i64 k,.int .i64 p,.int .i64 q,.int .i64 r,.int .i64 s],.agg #[.int .i64 n,.int .i64 d],.int .i64 (B:Int),.func (.func ff) #[] #[]] w (PaG (BeR (if up then λ M=>1-x M else x) 0 (B:Int)) w):=by
 have eB:((B:Int)).toNat=B:=by omega
 have CE:(C:Int)=(B:Int)+32:=by omega
 have pb:=P250_big P8;have qb:=zF B;have g1:=v.lo;have g2:=v.hi
 rcases hh with⟨rfl,rfl⟩|⟨rfl,rfl⟩
 ·refine (zLQ w _ k p q r s n d B h0 hr b8 P8 30000 lo hi L H (by omega) eL eH (by omega) (by omega) (by omega) (by omega) (λ w' B1 B2 B3 at_=>?_)).mono λ z w' ha=>⟨(B:Int),_,_,0,Or.inl ⟨rfl,rfl,rfl,by rw[eB];exact v⟩,ha⟩
  have m:=zFU C B1 B2 B3 w' k p q r s n d _ at_ (by omega) bf
  rw[CE] at m;exact m.mono λ z J2 ⟨l,u,⟨u1,u2⟩,ha⟩=>by rw[u1,u2,CE] at ha;exact ha
 ·obtain⟨f1,f2⟩:=rest_far (b:=B) eL eH
  have OD:Q B-H<=Q B-L:=by omega
  have le2:Q B-L-(Q B-H)<=4:=by omega
  have Wx:Iv B (Q B-H,Q B-L) (λ M=>1-x M):=zFA (a:=(L,H)) v.v.val
  have sr:SuB (λ M=>1-x M) B (Q B-H) (Q B-L):=⟨⟨OD,zC8 OD le2,Wx⟩,by omega,by omega⟩
  refine (zLQ w _ k p q r s n d B h0 hr b8 P8 30001 _ _ (Q B-H) (Q B-L) (by omega) f1 f2 (by omega) (by omega) (by omega) (by omega) (λ w' B1 B2 B3 at_=>?_)).mono λ z w' ha=>⟨(B:Int),_,_,0,Or.inl ⟨rfl,rfl,rfl,by rw[eB];exact sr⟩,ha⟩
  have m:=zGK C B1 B2 B3 w' k p q r s n d _ at_ (by omega) bf
  rw[CE] at m;exact m.mono λ z J2 ⟨l,u,⟨l0,u0,⟨u1,u2⟩,u3,u4⟩,ha⟩=>by rw[u3,u4,u1,u2,CE,hC] at ha;exact ha
theorem zMM {R R2:Nat->Rat} {L G:Rat->Nat->Rat} {X:Int->Int->Nat->Rat} (hE:LEnv R R2 L G X) (w:World) (p q r s n d:Int) (b:Nat) (h0:yD 1 p q r s=0) (hr:rok n d) (E7:40<=b) (hb:b<=10000) (hn:((n*q-p*d)*s)*((n*q-p*d)*s)<152*((d*q*r)*(d*q*r)*2)) (E2:((n*q-p*d)*s)*((n*q-p*d)*s)<(d*q*r)*(d*q*r)*2*(b:Int)) :
  Calls Tryz.prog 91 #[.agg #[.int .i64 1,.int .i64 p,.int .i64 q,.int .i64 r,.int .i64 s],.agg #[.int .i64 n,.int .i64 d],.int .i64 b] w (BlG 30000 (LkPr 4500 (noX R R2 p q r s n d) b) w b):=by
 obtain⟨a,a2,c,e⟩:=law_1 h0;obtain⟨s0,e0,c1,c2⟩:=nor_near hE.r hE.r2 (zQS a hr a2 c e) hn E7 hb E2;refine zOU w p q r s n d b _ λ w'=>?_
 exact (zLN w' 1 p q r s n d b s0 e0 E7 hb a hr a2 c e c1).mono λ z J2 ⟨u,e1,e2,e3,e4⟩=>⟨_,_,no_lk c2,u,e1,e2,e3.mono (by omega),e4⟩
theorem zQM {R R2:Nat->Rat} {L G:Rat->Nat->Rat} {X:Int->Int->Nat->Rat} (hE:LEnv R R2 L G X) (w:World) (ff:Nat) (up:Bool) (p q r s n d:Int) (B:Nat) (hh:(up=false/\ff=47)\/(up=true/\ff=48)) (h0:yD 1 p q r s=0) (hr:rok n d) (b8:8<=B) (P8:B<=120) :
  Calls Tryz.prog 46 #[.agg #[.int .i64 1,.int .i64 p,.int .i64 q,.int .i64 r,.int .i64 s],.agg #[.int .i64 n,.int .i64 d],.int .i64 (B:Int),.func (.func ff) #[] #[]] w (PaG (BeR (if up then λ M=>1-noX R R2 p q r s n d M else noX R R2 p q r s n d) 0 (B:Int)) w):=by
 obtain⟨a,a2,c,e'⟩:=law_1 h0;have hw:=zQS a hr a2 c e';obtain⟨Pn,hP⟩:∃ Pn,Pn=(n*q-p*d)*s:=⟨_,rfl⟩;obtain⟨Zn,Dg⟩:∃ Zn,Zn=d*q*r:=⟨_,rfl⟩;have z0:0<Zn:=by rw[Dg];have:=hw.2.2.1;omega
 have zz:0<Zn*Zn:=Int.mul_pos z0 z0
 by_cases hn:Pn*Pn<Zn*Zn*2*((B:Int)+32)
 ·have zm:Pn*Pn<152*(Zn*Zn*2):=by
   have:=Yi (show (B:Int)+32<=152 by omega) (show 0<=Zn*Zn*2 by omega)
   have e:Zn*Zn*2*152=152*(Zn*Zn*2):=by grind
   omega
  refine zQL w ff up 1 p q r s n d B 4500 _ hh h0 hr b8 P8 (by omega) λ m hm P6=>⟨by omega,λ J2=>?_⟩
  have E2:Pn*Pn<Zn*Zn*2*((B+m:Nat):Int):=by
   have:=Yi (show (B:Int)+32<=((B+m:Nat):Int) by omega) (show 0<=Zn*Zn*2 by omega)
   omega
  rw[hP,Dg] at zm E2;exact zMM hE J2 p q r s n d (B+m) h0 hr (by omega) (by omega) zm E2
 ·have hf:Zn*Zn*2*((B:Int)+32)<=Pn*Pn:=by omega
  obtain⟨C,hC⟩:∃ C:Nat,C=B+32:=⟨_,rfl⟩
  have NG:Zn*Zn*2*(C:Int)<=Pn*Pn:=by
   have e:(C:Int)=(B:Int)+32:=by omega
   rw[e];omega
  obtain⟨e1,e2⟩:=far_no Pn B;have vv:=far_noV hE.r hE.r2 (p:=Pn) z0 hf;have evv:noX R R2 p q r s n d=nrV (zJF R (nrY Pn Zn) (nrR R2 Pn Zn)) Pn:=by rw[hP,Dg];rfl
  rw[<- evv] at vv
  have g:(zK9 Pn B).2-(zK9 Pn B).1=1:=by
   have qb:=zF B;unfold zK9
   by_cases hp:0<Pn
   ·rw[if_pos hp];simp only[];omega
   ·rw[if_neg hp];simp only[];omega
  rw[hP,Dg] at NG;have bf:=λ J2=>zOV J2 p q r s n d C h0 hr (by omega) (by omega) NG
  rw[<- hP] at bf;rw[<- hC] at e1 e2;exact made_fx w ff up 1 p q r s n d B C _ _ _ _ _ hh h0 hr b8 P8 hC e1 e2 g ⟨⟨vv.le,vv.nar,vv.val⟩,vv.lo,vv.hi⟩ bf
theorem zQK {R R2:Nat->Rat} {L G:Rat->Nat->Rat} {X:Int->Int->Nat->Rat} (hE:LEnv R R2 L G X) (w:World) (ff:Nat) (up:Bool) (k p q r s n d b:Int) (hh:(up=false/\ff=47)\/(up=true/\ff=48)) :
  Calls Tryz.prog 46 #[.agg #[.int .i64 k,.int .i64 p,.int .i64 q,.int .i64 r,.int .i64 s],.agg #[.int .i64 n,.int .i64 d],.int .i64 b,.func (.func ff) #[] #[]] w (PaG (BeR (if up then λ M=>1-lbX R R2 L G k p q r s n d M else lbX R R2 L G k p q r s n d) (lbE k p q r s n d b) b) w):=by
 by_cases h0:yD k p q r s=0
 case neg =>
  have e:lbE k p q r s n d b=yD k p q r s:=by unfold lbE;rw[if_neg h0]
  rw[e];exact (zQI w ff k p q r s n d b h0).mono λ z w' h=>⟨0,0,0,_,Or.inr ⟨h0,rfl,rfl,rfl,rfl⟩,h⟩
 have e:lbE k p q r s n d b=zD0 n d b:=by unfold lbE;rw[if_pos h0]
 rw[e]
 by_cases h1:zD0 n d b=0
 case neg=>exact (zQJ w ff k p q r s n d b h0 h1).mono λ z w' h=>⟨0,0,0,_,Or.inr ⟨h1,rfl,rfl,rfl,rfl⟩,h⟩
 rw[h1]
 have h2:rok n d/\8<=b/\b<=120:=by
  unfold zD0 at h1
  by_cases c:rok n d/\8<=b/\b<=120
  ·exact c
  ·rw[if_neg c] at h1;omega
 obtain⟨hr,b8,P8⟩:=h2;obtain⟨B,rfl⟩:∃ B:Nat,b=(B:Int):=⟨b.toNat,by omega⟩
 by_cases k1:k=1
 ·subst k1
  have ex:lbX R R2 L G 1 p q r s n d=noX R R2 p q r s n d:=by unfold lbX;rfl
  rw[ex];exact zQM hE w ff up p q r s n d B hh h0 hr (by omega) (by omega)
 ·exact zQL w ff up k p q r s n d B 89 _ hh h0 hr (by omega) (by omega) (by omega) λ m hm P6=>⟨by omega,λ J2=>(below_lw hE J2 k p q r s n d (B+m) h0 k1 hr (by omega) (by omega)).mono λ z w3 ⟨l,u,g1,g2⟩=>⟨l,u,g1.k,g2⟩⟩
theorem zML {R R2:Nat->Rat} {L G:Rat->Nat->Rat} {X:Int->Int->Nat->Rat} (hE:LEnv R R2 L G X) (w:World) (k p q r s n d b:Int) :
  Calls Tryz.prog 11 #[.agg #[.int .i64 k,.int .i64 p,.int .i64 q,.int .i64 r,.int .i64 s],.agg #[.int .i64 n,.int .i64 d],.int .i64 b] w (PaG (BeR (lbX R R2 L G k p q r s n d) (lbE k p q r s n d b) b) w) :=
 zMH w k p q r s n d b _ λ w'=>zQK hE w' _ false k p q r s n d b (Or.inl ⟨rfl,rfl⟩)
def zHX (k:Int):Bool:=k == 6 || k == 7
def qE (k p q r s pn pd st b:Int):Int:=if yD k p q r s≠0 then yD k p q r s else if zD0 pn pd b≠0 then zD0 pn pd b else if pn<0\/pd<pn\/st<0\/6<st then 3 else if zHX k=true/\st≠0 then 6 else 0
theorem zRF {k p q r s pn pd st b:Int} (h:qE k p q r s pn pd st b=0):yD k p q r s=0/\(rok pn pd/\8<=b/\b<=120)/\(0<=pn/\pn<=pd/\0<=st/\st<=6)/\(zHX k=true->st=0):=by
 unfold qE at h
 by_cases c1:yD k p q r s=0
 ·rw[if_neg (by simp[c1])] at h
  by_cases c2:zD0 pn pd b=0
  ·rw[if_neg (by simp[c2])] at h
   have h2:rok pn pd/\8<=b/\b<=120:=by
    unfold zD0 at c2
    by_cases c:rok pn pd/\8<=b/\b<=120
    ·exact c
    ·rw[if_neg c] at c2;omega
   by_cases c3:pn<0\/pd<pn\/st<0\/6<st
   ·rw[if_pos c3] at h;omega
   ·rw[if_neg c3] at h
    by_cases c4:zHX k=true/\st≠0
    ·rw[if_pos c4] at h;omega
    ·exact⟨c1,h2,⟨by omega,by omega,by omega,by omega⟩,λ hk=>Classical.byContradiction λ hs=>c4 ⟨hk,hs⟩⟩
  ·rw[if_pos c2] at h;exact absurd h c2
 ·rw[if_pos c1] at h;exact absurd h c1
def qLo (k:Int) (st:Nat):Int:=if zHX k=true then 0 else -(50*Q st)
def qHi (k:Int) (st:Nat):Int:=if zHX k=true then 100 else 50*Q st
theorem Q6 {st:Nat} (h:st<=6):1<=Q st/\Q st<=64:=by
 have:=zF st;have m:=zK h;have e:Q 6=64:=rfl;omega
theorem zGD (k:Int) (w:World):Calls Tryz.prog 115 #[.int .i64 k] w λ z w'=>z=.returned (.bool (zHX k))/\Below w.heap.size w w':=by
 by_cases h6:k=6
 ·subst h6
  go_enter Tryz.func115,Tryz.ntmps115
  go_wp2
  go_ret
  exact⟨rfl,Below.refl _ _⟩
 ·go_enter Tryz.func115,Tryz.ntmps115
  go_wp2
  go_ret
  exact⟨by simp[zHX,h6],Below.refl _ _⟩
theorem zMO (k:Int) (st:Nat) (w:World) (h:st<=6):Calls Tryz.prog 65 #[.int .i64 k,.int .i64 (st:Int)] w λ z w'=>z=.returned (.tuple #[.int .i64 (qLo k st),.int .i64 (qHi k st)])/\Below w.heap.size w w':=by
 have hc:∀ c,zHX k=c->Calls Tryz.prog 115 #[.int .i64 k] w λ z w'=>z=.returned (.bool c)/\Below w.heap.size w w':=λ c e=>by rw[<- e];exact zGD k w
 unfold qLo qHi
 cases hk:zHX k
 ·have HC:=zC (hc false hk)
  rw[if_neg (by simp),if_neg (by simp)]
  clear hc hk
  rcases (show st=0\/st=1\/st=2\/st=3\/st=4\/st=5\/st=6 by omega) with rfl|rfl|rfl|rfl|rfl|rfl|rfl
  all_goals
   go_enter Tryz.func65,Tryz.ntmps65
   go_wp2_with fail;refine (zA HC).mono ?_;rintro z w1 ⟨rfl,hb⟩;go_wp2;exact bodyPost_ret (by simp[results,Tryz.results65,go_sem];rfl) rfl ⟨rfl,hb⟩
 ·have HC:=zC (hc true hk)
  rw[if_pos rfl,if_pos rfl];clear hc hk
  go_enter Tryz.func65,Tryz.ntmps65
  go_wp2_with fail;refine (zA HC).mono ?_;rintro z w1 ⟨rfl,hb⟩;go_wp2;exact bodyPost_ret (v:=.tuple #[.int .i64 0,.int .i64 100]) (by simp[results,Tryz.results65,go_sem]) rfl ⟨rfl,hb⟩
theorem zJ8 (w:World) (s:Sp) (pn pd L H:Int) (b:Nat) (hs:SpAt w s 250 L H) (Z0:s.bits=(b:Int)) (hb:b<=120) (hr:rok pn pd) :
  Calls Tryz.prog 68 #[.agg s.q,.agg #[.int .i64 pn,.int .i64 pd]] w λ z w'=>z=.returned (.bool (decide (pn*Q b<=H*pd)))/\Below w.heap.size w w':=by
 obtain⟨a1,a2,a3,a4⟩:=hr;obtain⟨W,hW⟩:∃ W,W=(w.alloc (.cells s.q 31)).alloc (.cells #[.int .i64 pn,.int .i64 pd] 23):=⟨_,rfl⟩;have j6:Below w.heap.size w W:=by rw[hW];exact bl2 _ _ _
 have A:SpC W w.heap.size s:=by rw[hW];constructor<;>simp[go_sem]
 have D:RaC W (w.heap.size+1) pn pd:=by rw[hW];constructor<;>simp[go_sem]
 have HS:=zC (hs.bw j6);have HB:=zC Z0;have lA:=A.lt;have lD:=D.lt;have HK:=zC (show ∀ w',Below W.heap.size W w'->(cK w' w.heap.size s (rK0 w' (w.heap.size+1) pn pd)) from λ w' hB=>⟨(A.bw hB).c0,(A.bw hB).c1,(A.bw hB).c2,(A.bw hB).c3,(A.bw hB).c4,(D.bw hB).c0,(D.bw hB).c1⟩)
 have HC:=zC (show decide (0<=zP (H*pd) (pn*Q b))=decide (pn*Q b<=H*pd) by
  unfold zP
  by_cases c:pn*Q b<=H*pd
  ·rw[decide_eq_true c];apply decide_eq_true;split<;>(try split)<;>omega
  ·rw[decide_eq_false c];apply decide_eq_false;rw[if_pos (by omega)];decide)
 clear hs Z0 A D
 go_enter Tryz.func68,Tryz.ntmps68
 go_wp2;rw[<- hW];clear hW;have D9:Below W.heap.size W W.drew:=(Below.refl _ _).drew;obtain⟨x0,x1,x2,x3,x4,x5,x6⟩:=zA HK _ (Below.refl _ _)
 go_region_held3 (λ w'=>cK w' w.heap.size s (rK0 w' (w.heap.size+1) pn pd)) (first|exact zA HK _ (by with_reducible first|exact D9|exact W6|exact H6|exact D6|exact A7|exact C9)|(dsimp only[cK,cK0,nK,nK0,rK,rK0];go_keep)|go_keep)
  (first
   | (go_at_call 17;have K9:=H6;refine (yS _ _ _ _ _ _ _ _ _ _ (H*pd) (pn*Q b) _ ((A8.bw m8).bw A5) H8).mono ?_;rintro zz w5 ⟨rfl,E4⟩;have W6:=zB H6 E4)
   | (go_at_call 116;have K9:=D6;rw[zA HB];refine (zB2 _ _ _ _ b 4 pn _ E8 (by omega) (by omega)).mono ?_;rintro zz w4 ⟨E5,e4,m4,c4,rfl,H8,A5⟩;have H6:=zB D6 A5)
   | (go_at_call 33;have K9:=A7;refine (zE pn _ (by omega) (by omega)).mono ?_;rintro zz w3 ⟨C7,e3,m3,c3,rfl,E8,m8⟩;have D6:=zB A7 m8)
   | (go_at_call 83;have K9:=C9;refine (jA _ _ _ _ _ _ _ _ 250 4 H pd _ ((zA HS).hi.bw C9) s9 (by omega) (by omega)).mono ?_;rintro zz w2 ⟨j7,e2,m2,c2,rfl,A8,j5⟩;have A7:=zB C9 j5)
   | (go_at_call 33;refine (zE pd _ (by omega) (by omega)).mono ?_;rintro zz w1 ⟨o7,e1,m1,c1,rfl,s9,b9⟩;have C9:=zB D9 b9))
 all_goals
  go_wp2_with fail;refine bodyPost_ret (v:=.bool (decide (pn*Q b<=H*pd))) (by simp[results,Tryz.results68,go_sem,<- zA HC]) rfl ⟨rfl,zB j6 W6⟩
theorem zGN (w:World) (k p q r s pn pd st b:Int) :
  Calls Tryz.prog 64 #[.agg #[.int .i64 k,.int .i64 p,.int .i64 q,.int .i64 r,.int .i64 s],.agg #[.int .i64 pn,.int .i64 pd],.int .i64 st,.int .i64 b] w λ z w'=>z=.returned (.int .i64 (qE k p q r s pn pd st b))/\Below w.heap.size w w':=by
 unfold qE
 by_cases h0:yD k p q r s=0
 case neg =>
  rw[if_pos h0];have h1:(yD k p q r s != 0)=true:=by simpa using h0
  go_enter Tryz.func64,Tryz.ntmps64
  go_wp2_with fail;refine (zBU k p q r s _).mono ?_;rintro z w1 ⟨rfl,b9⟩;go_wp2_with fail
  go_ret
  exact⟨rfl,zB (bl2 _ _ _) b9⟩
 rw[if_neg (by simp[h0])]
 have E0:=zC h0;obtain⟨X,hX⟩:∃ X,X=(if zD0 pn pd b≠0 then zD0 pn pd b else if pn<0\/pd<pn\/st<0\/6<st then 3 else if zHX k=true/\st≠0 then 6 else 0):=⟨_,rfl⟩
 have HX:=zC hX;rw[<- hX];clear h0 hX
 go_enter Tryz.func64,Tryz.ntmps64
 go_wp2_with fail;refine (zBU k p q r s _).mono ?_;rintro z w1 ⟨rfl,b9⟩;rw[zA E0];have A:LwC w1 w.heap.size k p q r s:=LwC.bw ⟨by simp[go_sem],by simp[go_sem],by simp[go_sem],by simp[go_sem],by simp[go_sem]⟩ b9
 have D:RaC w1 (w.heap.size+1) pn pd:=RaC.bw ⟨by simp[go_sem],by simp[go_sem]⟩ b9
 have hB:Below w.heap.size w w1:=zB (bl2 _ _ _) b9;clear b9;have d0:=D.c0;have d1:=D.c1;have lD:=D.lt;go_wp2_with fail;refine (zCF b w1 _ (by simp) pn pd _ _).mono ?_
 rintro z w2 ⟨rfl,j5⟩;replace A:=A.bw j5;replace D:=D.bw j5;replace hB:=zB hB j5;clear j5 d0 d1 lD;obtain⟨d0,d1⟩:=D;have a0:=A.c0;have lA:=A.lt;have lD:w.heap.size+1<w2.heap.size:=World.block_lt_of_cell? w2 ⟨w.heap.size+1,0,none⟩ d0;have hx:=zA HX;clear A HX
 by_cases h1:zD0 pn pd b=0
 case neg =>
  rw[if_pos h1] at hx;have h2:(zD0 pn pd b != 0)=true:=by simpa using h1
  have HX:=zC hx;clear hx;go_wp2_with fail
  go_ret
  exact⟨by rw[zA HX];rfl,hB⟩
 rw[if_neg (by simp[h1])] at hx
 rw[h1];clear h1
 by_cases g:pn<0\/pd<pn\/st<0\/6<st
 case pos =>
  rw[if_pos g] at hx;have HX:=zC hx;clear hx
  by_cases g1:pn<0
  ·go_wp2_with fail
   go_ret
   exact⟨by rw[zA HX];rfl,hB⟩
  by_cases g2:pd<pn
  ·go_wp2_with fail
   go_ret
   exact⟨by rw[zA HX];rfl,hB⟩
  by_cases g3:st<0
  ·go_wp2_with fail
   go_ret
   exact⟨by rw[zA HX];rfl,hB⟩
  have g4:6<st:=by omega
  go_wp2_with fail
  go_ret
  exact⟨by rw[zA HX];rfl,hB⟩
 rw[if_neg g] at hx;have g1:¬ pn<0:=by omega
 have g2:¬ pd<pn:=by omega
 have g3:¬ st<0:=by omega
 have g4:¬ 6<st:=by omega
 clear g;have hc:∀ c w',zHX k=c->Calls Tryz.prog 115 #[.int .i64 k] w' λ z J2=>z=.returned (.bool c)/\Below w'.heap.size w' J2:=λ c w' e=>by rw[<- e];exact zGD k w'
 cases hk:zHX k
 ·have HC:=zC (λ w'=>hc false w' hk)
  rw[hk,if_neg (by simp)] at hx
  have HX:=zC hx;clear hc hk hx;go_wp2_with fail;refine (zA HC _).mono ?_;rintro z w3 ⟨rfl,m8⟩;go_wp2_with fail
  go_ret
  exact⟨by rw[zA HX];rfl,zB hB m8⟩
 ·have HC:=zC (λ w'=>hc true w' hk)
  rw[hk] at hx
  by_cases hs:st=0
  ·rw[if_neg (by simp[hs])] at hx
   have hs1:(st != 0)=false:=by simp[hs]
   have HX:=zC hx;clear hc hk hx;go_wp2_with fail;refine (zA HC _).mono ?_;rintro z w3 ⟨rfl,m8⟩;go_wp2_with fail
   go_ret
   exact⟨by rw[zA HX];rfl,zB hB m8⟩
  ·rw[if_pos ⟨rfl,hs⟩] at hx
   have hs1:(st != 0)=true:=by simp[hs]
   have HX:=zC hx;clear hc hk hx;go_wp2_with fail;refine (zA HC _).mono ?_;rintro z w3 ⟨rfl,m8⟩;go_wp2_with fail
   go_ret
   exact⟨by rw[zA HX];rfl,zB hB m8⟩
theorem zNN (ff:Nat) (cs:Array Value) (Gp:∀ (args:Array Value) (w:World),(callFunc ff args).run Tryz.prog w=.ok (.enter ff args) w) (n:Nat) (T F:Nat->Prop) (W:World) (hn:n<=1000000)
  (hF:∀ (i:Nat) w',i<n->Below W.heap.size W w'->Calls Tryz.prog ff (#[.int .i64 (i:Int)] ++ cs) w' (λ z J2=>∃ c:Bool,z=.returned (.bool c)/\(c=true->T i)/\(c=false->F i)/\Below w'.heap.size w' J2)) :
  Calls Tryz.prog 66 #[.int .i64 (n:Int),.func (.func ff) #[] cs] W (λ z w'=>∃ k:Nat,z=.returned (.int .i64 (k:Int))/\k<=n/\(0<k->F (k-1))/\(k<n->T k)/\Below W.heap.size W w'):=by
 have HF:=zC hF;clear hF
 go_enter Tryz.func66,Tryz.ntmps66
 go_wp2_with fail
 go_loopw [5,6] (λ ii jj wr=>∃ i j:Nat,ii=.int .i64 (i:Int)/\jj=.int .i64 (j:Int)/\i<=j/\j<=n/\Hid ((0<i->F (i-1))/\(j<n->T j))/\Below W.heap.size W wr) (λ ii jj _=>(intOf jj).toNat-(intOf ii).toNat)
 case atStart=>exact⟨0,n,rfl,rfl,Nat.zero_le _,Yj _,zC ⟨λ h=>absurd h (Nat.lt_irrefl _),λ h=>absurd h (Nat.lt_irrefl _)⟩,Below.refl _ _⟩
 case round =>
  obtain⟨i,j,rfl,rfl,mF,hj,HI,hB⟩:=hrel
  by_cases E2:i<j
  ·have sV:(i:Int)<(j:Int):=by omega
   obtain⟨h,hh⟩:∃ h,h=(i+j)/2:=⟨_,rfl⟩;have h1:i<=h:=by omega
   have h2:h<j:=by omega
   go_wp2_with fail;have eh:((i:Int)+(j:Int))/2=(h:Int):=by omega
   rw[eh];refine (zA HF h _ (by omega) hB).mono ?_
   rintro z w1 ⟨c,rfl,hT,Ng,b9⟩;have ar:=zC (And.intro hT Ng);replace hB:=zB hB b9;clear hT Ng b9 eh
   cases c
   ·go_wp2_with fail
    go_roundw
    case rel=>exact⟨h+1,j,by go_num,rfl,by omega,hj,zC ⟨λ _=>by first|exact (zA ar).2 trivial|exact (zA ar).2 rfl,(zA HI).2⟩,hB⟩
    case measure=>simp[intOf];omega
   ·go_wp2_with fail
    go_roundw
    case rel=>exact⟨i,h,rfl,by first|rfl|exact congrArg (Value.int .i64) (show ((i:Int)+(j:Int))/2=(h:Int) by omega),h1,by omega,zC ⟨(zA HI).1,λ _=>by first|exact (zA ar).1 trivial|exact (zA ar).1 rfl⟩,hB⟩
    case measure=>simp[intOf];omega
  ·have sV:¬ (i:Int)<(j:Int):=by omega
   have he:i=j:=by omega
   subst he;go_wp2_with fail
   go_ret
   exact⟨i,rfl,hj,(zA HI).1,(zA HI).2,hB⟩
theorem lbE_ok {k p q r s n d b:Int} (h0:yD k p q r s=0) (h1:rok n d) (h2:8<=b) (h3:b<=120):lbE k p q r s n d b=0:=by
 unfold lbE zD0;rw[if_pos h0,if_pos ⟨h1,h2,h3⟩]
theorem below_ok {R R2 : Nat → Rat} {L G : Rat → Nat → Rat} {X : Int → Int → Nat → Rat} (hE : LEnv R R2 L G X) (w : World) (k p q r s n d : Int) (b : Nat) (h : lbE k p q r s n d b = 0) :
    Calls Tryz.prog 11 #[.agg #[.int .i64 k, .int .i64 p, .int .i64 q, .int .i64 r, .int .i64 s], .agg #[.int .i64 n, .int .i64 d], .int .i64 (b : Int)] w (fun z w' => ∃ L1 H1, SuB (lbX R R2 L G k p q r s n d) b L1 H1 ∧ zD7 w b 250 L1 H1 0 z w') :=
  (zML hE w k p q r s n d b).mono fun z w' ⟨bt, L1, H1, e, h1, h2⟩ => by
    rcases h1 with ⟨_, rfl, rfl, h3⟩ | ⟨h3, _⟩
    · exact ⟨L1, H1, by have eb : ((b : Int)).toNat = b := by omega
                        rw [eb] at h3; exact h3, h2⟩
    · exact absurd h h3
def QT (x:Nat->Rat) (pn pd:Int) (b:Nat):Prop:=∃ L H,SuB x b L H/\pn*Q b<=H*pd
def QF (x:Nat->Rat) (pn pd:Int) (b:Nat):Prop:=∃ L H,SuB x b L H/\H*pd<pn*Q b
structure QAt (X:Int->Nat->Rat) (lo hi pn pd:Int) (b j:Nat):Prop where
 le:lo+(j:Int)<=hi+1
 f:0<j->QF (X (lo+(j:Int)-1)) pn pd b
 t:lo+(j:Int)<=hi->QT (X (lo+(j:Int))) pn pd b
theorem shl_Q {st:Nat} (h:st<=6):(2:Int) ^ st=Q st:=by
 rcases (show st=0\/st=1\/st=2\/st=3\/st=4\/st=5\/st=6 by omega) with rfl|rfl|rfl|rfl|rfl|rfl|rfl<;>rfl
theorem q_rok {k:Int} {st j:Nat} (h:st<=6) (hc:zHX k=true->st=0) (hj:qLo k st+(j:Int)<=qHi k st):rok (qLo k st+(j:Int)) (Q st):=by
 have q:=Q6 h;unfold qLo qHi at *
 by_cases c:zHX k=true
 ·rw[if_pos c] at *;rw[if_pos c] at hj;exact⟨by omega,by omega,by omega,by omega⟩
 ·rw[if_neg c] at *;rw[if_neg c] at hj;exact⟨by omega,by omega,by omega,by omega⟩
theorem en_qu (args:Array Value) (w:World):(callFunc 67 args).run Tryz.prog w=.ok (.enter 67 args) w:=by simp[go_sem,callFunc,Tryz.func67];kernel_rfl
theorem zNJ {R R2:Nat->Rat} {L G:Rat->Nat->Rat} {X:Int->Int->Nat->Rat} (hE:LEnv R R2 L G X) (w:World) (B1 B2 B3 B4 B5:Nat) (k p q r s lst pn pd:Int) (st i b:Nat) (A:LwC w B1 k p q r s) (C2:IcC w B2 lst) (C3:IcC w B3 (st:Int)) (C4:IcC w B4 (b:Int)) (D:RaC w B5 pn pd) (AQ:st<=6) (hb:b<=120) (hr:rok pn pd) (hl:rok (lst+(i:Int)) (Q st)) (h0:lbE k p q r s (lst+(i:Int)) (Q st) b=0) :
  Calls Tryz.prog 67 #[.int .i64 (i:Int),.pointer (some ⟨B1,0,none⟩),.pointer (some ⟨B2,0,none⟩),.pointer (some ⟨B3,0,none⟩),.pointer (some ⟨B4,0,none⟩),.pointer (some ⟨B5,0,none⟩)] w (λ z w'=>∃ c:Bool,z=.returned (.bool c)/\(c=true->QT (lbX R R2 L G k p q r s (lst+(i:Int)) (Q st)) pn pd b)/\(c=false->QF (lbX R R2 L G k p q r s (lst+(i:Int)) (Q st)) pn pd b)/\Below w.heap.size w w'):=by
 have HE:=zC hE;have H0:=zC h0;have HR:=zC hr;obtain⟨g1,g2,g3,g4⟩:=hl;have M5:=zC (show IntKind.i64.wrap (lst+(i:Int))=lst+(i:Int) from jC _ (by omega) (by omega))
 have qs:=Q6 AQ;have ag:IntKind.i64.wrap ((2:Int) ^ st)=Q st:=by rw[shl_Q AQ];exact jC _ (by omega) (by omega)
 have l1:=A.lt;have l2:=C2.lt;have l3:=C3.lt;have l4:=C4.lt;have l5:=D.lt;have HK:=zC (show ∀ w',Below w.heap.size w w'->(rK w' B1 k p (w'.cell? ⟨B1,2,none⟩=some (.int .i64 q)/\w'.cell? ⟨B1,3,none⟩=some (.int .i64 r)/\w'.cell? ⟨B1,4,none⟩=some (.int .i64 s)/\w'.cell? ⟨B2,0,none⟩=some (.int .i64 lst)/\w'.cell? ⟨B3,0,none⟩=some (.int .i64 (st:Int))/\w'.cell? ⟨B4,0,none⟩=some (.int .i64 (b:Int))/\rK0 w' B5 pn pd)) from λ w' hB=>⟨(A.bw hB).c0,(A.bw hB).c1,(A.bw hB).c2,(A.bw hB).c3,(A.bw hB).c4,(C2.bw hB).c0,(C3.bw hB).c0,(C4.bw hB).c0,(D.bw hB).c0,(D.bw hB).c1⟩)
 have xI:=zC ag;clear A C2 C3 C4 hE h0 hr ag
 go_enter Tryz.func67,Tryz.ntmps67
 go_wp2_with fail;obtain⟨x0,x1,x2,x3,x4,x5,x6,x7,x8,x9⟩:=zA HK _ (Below.refl _ _)
 go_cut [8] (λ pz wx=>∃ (B:Nat) (u:Sp) (L1 H1:Int),pz=.pointer (some ⟨B,0,none⟩)/\SuB (lbX R R2 L G k p q r s (lst+(i:Int)) (Q st)) b L1 H1/\w.heap.size<=B/\VrC wx B u/\SpAt wx u 250 (((L1,H1):Int × Int)).1 (((L1,H1):Int × Int)).2/\u.bits=(b:Int)/\Below w.heap.size w wx)
 case first =>
  go_region_held3 (λ w'=>rK w' B1 k p (w'.cell? ⟨B1,2,none⟩=some (.int .i64 q)/\w'.cell? ⟨B1,3,none⟩=some (.int .i64 r)/\w'.cell? ⟨B1,4,none⟩=some (.int .i64 s)/\w'.cell? ⟨B2,0,none⟩=some (.int .i64 lst)/\w'.cell? ⟨B3,0,none⟩=some (.int .i64 (st:Int))/\w'.cell? ⟨B4,0,none⟩=some (.int .i64 (b:Int))/\rK0 w' B5 pn pd)) (exact zA HK _ (by repeat' (first|with_reducible exact G1|with_reducible exact Below.refl _ _|with_reducible refine Below.drew ?_|with_reducible refine zO ?_ _|with_reducible refine Below.setCell ?_ (by first|exact Yj _|exact J9) _)))
   (first
    | (go_at_call 11;(try rw[zA M5]);(try rw[zA xI]);refine (below_ok (zA HE) _ k p q r s (lst+(i:Int)) (Q st) b (zA H0)).mono ?_;rintro r' Z2 ⟨L1,H1,AV,xe,rfl,R9,I1,J7⟩;have bc:=zC R9;have Cy:=zC AV;clear R9 AV;have G1:Below w.heap.size w Z2:=(by with_reducible first|exact zB (Below.refl _ _).drew J7|exact zB (bl1 _ _).drew J7);(try with_reducible have P5:=((zS w 31).bw (Below.refl _ _).drew).bw J7);have J9:=G1.size;(try have fZ:=P5.lt);(try have Fg:=Yo fZ);(try have pJ:=Nat.ne_of_gt fZ);(try obtain⟨aR,aS,eC,eE,eG,vn⟩:=P5)))
  all_goals
   have hfinS:SpAt Z2 xe 250 (((L1,H1):Int × Int)).1 (((L1,H1):Int × Int)).2:=I1;go_wp2_with fail;go_meet;refine⟨_,xe,L1,H1,rfl,zA Cy,?_,⟨⟨?_,?_,?_,?_,?_⟩,?_⟩,?_,zA bc,?_⟩
   ·first|exact Yj _|exact J9
   ·simp[go_sem, *]
   ·simp[go_sem, *]
   ·simp[go_sem, *]
   ·simp[go_sem, *]
   ·simp[go_sem, *]
   ·intro o;simp[go_sem, *]
   ·first|with_reducible exact SpAt.put5 hfinS aR aS eC eE eG _ _ _ _ _|with_reducible exact hfinS.bw (bl1 _ _)
   ·repeat' (first|with_reducible exact G1|with_reducible exact Below.refl _ _|with_reducible refine Below.drew ?_|with_reducible refine zO ?_ _|with_reducible refine Below.setCell ?_ (by first|exact Yj _|exact J9) _)
 case rest =>
 obtain⟨BS,xS,L1,H1,rfl,AV,qH,XS,hpS,hxbS,hblS⟩:=hcut;replace D:=D.bw hblS;have lD:=D.lt;have lS:=XS.lt;have Cy:=zC AV;have Cx:=zC hpS;have Qv:=zC hxbS;obtain⟨⟨y0,y1,y2,y3,y4⟩,y5⟩:=XS;obtain⟨d0,d1⟩:=D;clear AV hpS hxbS x0 x1 x2 x3 x4 x5 x6 x7 x8 x9 HK;go_wp2_with fail;refine (zJ8 _ xS pn pd L1 H1 b (zA Cx) (zA Qv) hb (zA HR)).mono ?_;rintro z w2 ⟨rfl,j5⟩;have hB:=zB hblS j5;have HF:=zC (show (decide (pn*Q b<=H1*pd)=true->QT (lbX R R2 L G k p q r s (lst+(i:Int)) (Q st)) pn pd b)/\(decide (pn*Q b<=H1*pd)=false->QF (lbX R R2 L G k p q r s (lst+(i:Int)) (Q st)) pn pd b) from⟨λ h=>⟨L1,H1,zA Cy,of_decide_eq_true h⟩,λ h=>⟨L1,H1,zA Cy,by have:=of_decide_eq_false h;omega⟩⟩)
 clear y0 y1 y2 y3 y4 y5 d0 d1 j5;go_wp2_with fail
 go_ret
 exact⟨_,rfl,(zA HF).1,(zA HF).2,hB⟩
theorem zL1 {R R2:Nat->Rat} {L G:Rat->Nat->Rat} {X:Int->Int->Nat->Rat} (hE:LEnv R R2 L G X) (w:World) (k p q r s pn pd:Int) (st b:Nat) (h:qE k p q r s pn pd st b=0) :
  Calls Tryz.prog 27 #[.agg #[.int .i64 k,.int .i64 p,.int .i64 q,.int .i64 r,.int .i64 s],.agg #[.int .i64 pn,.int .i64 pd],.int .i64 (st:Int),.int .i64 (b:Int)] w (λ z w'=>∃ j:Nat,z=.returned (.tuple #[.int .i64 (qLo k st+(j:Int)),.int .i64 0])/\QAt (λ z=>lbX R R2 L G k p q r s z (Q st)) (qLo k st) (qHi k st) pn pd b j/\Below w.heap.size w w'):=by
 have HQ:=zC h;obtain⟨h0,⟨hr,b8,P8⟩,⟨p0,p1,s0,s6⟩,hc⟩:=zRF h;have DG:st<=6:=by omega
 have qs:=Q6 DG
 obtain⟨N,hN⟩:∃ N:Nat,(N:Int)=qHi k st-qLo k st+1/\N<=7000 /\ -3200<=qLo k st/\qHi k st<=3200:=by
  unfold qLo qHi
  by_cases c:zHX k=true
  ·rw[if_pos c,if_pos c];exact⟨101,by omega,by omega,by omega,by omega⟩
  ·rw[if_neg c,if_neg c];exact⟨(50*Q st - -(50*Q st)+1).toNat,by omega,by omega,by omega,by omega⟩
 obtain⟨P1,T7,wa,Db⟩:=hN;have HE:=zC hE;have H0:=zC h0;have HR:=zC hr;have HC:=zC hc
 have HG:=zC (show ∀ i:Nat,i<N->rok (qLo k st+(i:Int)) (Q st)/\lbE k p q r s (qLo k st+(i:Int)) (Q st) b=0 from λ i hi=>by
  have r:=q_rok (k:=k) (j:=i) DG (λ c=>by have:=hc c;omega) (by omega)
  exact⟨r,lbE_ok h0 r (by omega) (by omega)⟩)
 clear h h0 hr hc hE;obtain⟨lo,mJ⟩:∃ lo,lo=qLo k st:=⟨_,rfl⟩;obtain⟨hi,rQ⟩:∃ hi,hi=qHi k st:=⟨_,rfl⟩;have Qt:=zC (show ∀ w',Calls Tryz.prog 65 #[.int .i64 k,.int .i64 (st:Int)] w' λ z J2=>z=.returned (.tuple #[.int .i64 lo,.int .i64 hi])/\Below w'.heap.size w' J2 from λ w'=>by rw[mJ,rQ];exact zMO k st w' DG)
 rw[<- mJ,<- rQ] at P1;rw[<- mJ] at wa;rw[<- rQ] at Db;rw[<- mJ,<- rQ];rw[<- mJ] at HG;clear mJ rQ
 go_enter Tryz.func27,Tryz.ntmps27
 go_wp2_with fail;refine (zGN _ k p q r s pn pd st b).mono ?_;rintro z w1 ⟨rfl,b9⟩;rw[zA HQ];have A:LwC w1 (w.heap.size) k p q r s:=LwC.bw ⟨by simp[go_sem],by simp[go_sem],by simp[go_sem],by simp[go_sem],by simp[go_sem]⟩ b9
 have D:RaC w1 (w.heap.size+1) pn pd:=RaC.bw ⟨by simp[go_sem],by simp[go_sem]⟩ b9
 have C3:IcC w1 (w.heap.size+1+1) (st:Int):=IcC.bw ⟨by simp[go_sem]⟩ b9
 have C4:IcC w1 (w.heap.size+1+1+1) (b:Int):=IcC.bw ⟨by simp[go_sem]⟩ b9
 have hB:Below w.heap.size w w1:=zB (bl4 _ _ _ _ _) b9;clear b9;have a0:=A.c0;have lA:=A.lt;have c3:=C3.c0;have l3:=C3.lt;go_wp2_with fail;refine (zA Qt _).mono ?_;rintro z w2 ⟨rfl,j5⟩;obtain⟨V,hV⟩:∃ V,V=w2.alloc (.cells #[.int .i64 lo] 3):=⟨_,rfl⟩;have bV:Below w2.heap.size w2 V:=by rw[hV];exact bl1 _ _
 have C2:IcC V w2.heap.size lo:=by rw[hV];exact⟨by simp[go_sem]⟩
 have K5:=zB j5 bV;replace A:=A.bw K5;replace D:=D.bw K5;replace C3:=C3.bw K5;replace C4:=C4.bw K5;replace hB:=zB hB K5;clear j5 bV K5 a0 lA c3 l3
 go_upto_region 5 with fail
 rw[<- hV];clear hV;have c2:=C2.c0;have l2:=C2.lt;have D8:Below V.heap.size V V.drew:=(Below.refl _ _).drew;have HK:=zC (show ∀ w',Below V.heap.size V w'->(w'.cell? ⟨w2.heap.size,0,none⟩=some (.int .i64 lo)) from λ w' hB=>(C2.bw hB).c0)
 have M5:=zC (show IntKind.i64.wrap (hi-lo)=hi-lo from jC _ (by omega) (by omega))
 have S3:=zC (show IntKind.i64.wrap (hi-lo+1)=(N:Int) by rw[P1];exact jC _ (by omega) (by omega))
 have aT:=zC (show ∀ W',Below V.heap.size V W'->∀ (i:Nat) w',i<N->Below W'.heap.size W' w'->Calls Tryz.prog 67 #[.int .i64 (i:Int),.pointer (some ⟨w.heap.size,0,none⟩),.pointer (some ⟨w2.heap.size,0,none⟩),.pointer (some ⟨w.heap.size+1+1,0,none⟩),.pointer (some ⟨w.heap.size+1+1+1,0,none⟩),.pointer (some ⟨w.heap.size+1,0,none⟩)] w' (λ z J2=>∃ c:Bool,z=.returned (.bool c)/\(c=true->QT (lbX R R2 L G k p q r s (lo+(i:Int)) (Q st)) pn pd b)/\(c=false->QF (lbX R R2 L G k p q r s (lo+(i:Int)) (Q st)) pn pd b)/\Below w'.heap.size w' J2) from λ W' qL i w' hi' M4=>by
  have K5:=zB qL M4;obtain⟨r1,r2⟩:=zA HG i hi'
  exact zNJ (zA HE) w' _ _ _ _ _ k p q r s lo pn pd st i b (A.bw K5) (C2.bw K5) (C3.bw K5) (C4.bw K5) (D.bw K5) DG (by omega) (zA HR) r1 r2)
 clear A D C3 C4
 go_region_held3 (λ w'=>w'.cell? ⟨w2.heap.size,0,none⟩=some (.int .i64 lo)) (first|exact zA HK _ (by with_reducible first|exact D8|exact y9)|go_keep)
  (first
   | (go_at_call 66;(try rw[zA M5]);(try rw[zA S3]);refine (zNN _ #[.pointer (some ⟨w.heap.size,0,none⟩),.pointer (some ⟨w2.heap.size,0,none⟩),.pointer (some ⟨w.heap.size+1+1,0,none⟩),.pointer (some ⟨w.heap.size+1+1+1,0,none⟩),.pointer (some ⟨w.heap.size+1,0,none⟩)] en_qu N (λ i=>QT (lbX R R2 L G k p q r s (lo+(i:Int)) (Q st)) pn pd b) (λ i=>QF (lbX R R2 L G k p q r s (lo+(i:Int)) (Q st)) pn pd b) _ (by omega) (zA aT _ D8)).mono ?_;rintro zz w3 ⟨j,rfl,hj,hF,hT,m8⟩;have y9:=zB D8 m8;have QC:=zC hF;have EH:=zC hT;clear hF hT))
 all_goals
  have e3:IntKind.i64.wrap (lo+(j:Int))=lo+(j:Int):=jC _ (by omega) (by omega)
  go_wp2_with fail;refine bodyPost_ret (v:=.tuple #[.int .i64 (lo+(j:Int)),.int .i64 0]) (by simp[results,Tryz.results27,go_sem,e3]) rfl ⟨j,rfl,⟨by omega,λ h=>?_,λ h=>zA EH (by omega)⟩,zB hB y9⟩
  have e:=zA QC h;have ej:lo+((j-1:Nat):Int)=lo+(j:Int)-1:=by omega
  rw[ej] at e;exact e
theorem zRG (w:World) (k p q r s pn pd st b e:Int) (h:qE k p q r s pn pd st b=e) (he:e≠0) :
  Calls Tryz.prog 27 #[.agg #[.int .i64 k,.int .i64 p,.int .i64 q,.int .i64 r,.int .i64 s],.agg #[.int .i64 pn,.int .i64 pd],.int .i64 st,.int .i64 b] w λ z w'=>z=.returned (.tuple #[.int .i64 0,.int .i64 e])/\Below w.heap.size w w':=by
 have HQ:=zC h;have h1:(e != 0)=true:=by simpa using he
 clear h
 go_enter Tryz.func27,Tryz.ntmps27
 go_wp2_with fail;refine (zGN _ k p q r s pn pd st b).mono ?_;rintro z w1 ⟨rfl,b9⟩;rw[zA HQ];go_wp2_with fail;exact bodyPost_ret (v:=.tuple #[.int .i64 0,.int .i64 e]) (by simp[results,Tryz.results27,go_sem]) rfl ⟨rfl,zB (bl4 _ _ _ _ _) b9⟩
theorem zQO (w:World) (k p q r s st b:Int) (Rel:Int->Int->Prop) (hC:∀ w',Calls Tryz.prog 27 #[.agg #[.int .i64 k,.int .i64 p,.int .i64 q,.int .i64 r,.int .i64 s],.agg #[.int .i64 1,.int .i64 2],.int .i64 st,.int .i64 b] w' λ z J2=>∃ n e,z=.returned (.tuple #[.int .i64 n,.int .i64 e])/\Rel n e/\Below w'.heap.size w' J2) :
  Calls Tryz.prog 28 #[.agg #[.int .i64 k,.int .i64 p,.int .i64 q,.int .i64 r,.int .i64 s],.int .i64 st,.int .i64 b] w λ z w'=>∃ n e,z=.returned (.tuple #[.int .i64 n,.int .i64 e])/\Rel n e/\Below w.heap.size w w':=by
 have HC:=zC hC;clear hC
 go_enter Tryz.func28,Tryz.ntmps28
 go_wp2_with fail;refine (zA HC _).mono ?_;rintro z w1 ⟨n,e,rfl,hr,b9⟩;have HR:=zC hr;clear hr;go_wp2_with fail;exact bodyPost_ret (v:=.tuple #[.int .i64 n,.int .i64 e]) (by simp[results,Tryz.results28,go_sem]) rfl ⟨n,e,rfl,zA HR,zB (bl1 _ _) b9⟩
end Go.Proofs.YtgmnknmjainabacGreat
