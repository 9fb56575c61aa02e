/-
  Its own texts.
-/
import Derived.Test.YtgmnknmjainabacGreatK04
set_option maxRecDepth 100000
set_option maxHeartbeats 40000000
set_option linter.unnecessarySimpa false
set_option linter.unusedSimpArgs false
set_option linter.unusedVariables false
namespace Go.Proofs.YtgmnknmjainabacGreat
open Go.RowKit
attribute [local go_sem ↓] Go.wp_at_zero Go.wp_at_succ
structure SpC (w:World) (B:Nat) (s:Sp):Prop where
 c0:w.cell? ⟨B,0,none⟩=some (.bool s.ln)
 c1:w.cell? ⟨B,1,none⟩=some (.slice s.la s.lN s.lc)
 c2:w.cell? ⟨B,2,none⟩=some (.bool s.hn)
 c3:w.cell? ⟨B,3,none⟩=some (.slice s.ha s.hN s.hc)
 c4:w.cell? ⟨B,4,none⟩=some (.int .i64 s.bits)
theorem SpC.lt {w:World} {B:Nat} {s:Sp} (h:SpC w B s):B<w.heap.size:=World.block_lt_of_cell? w ⟨B,0,none⟩ h.c0
theorem SpC.bw {w w':World} {B:Nat} {s:Sp} (h:SpC w B s) (hb:Below w.heap.size w w'):SpC w' B s :=
 ⟨(hb.cell (p:=⟨B,0,none⟩) h.lt).trans h.c0,(hb.cell (p:=⟨B,1,none⟩) h.lt).trans h.c1,(hb.cell (p:=⟨B,2,none⟩) h.lt).trans h.c2,(hb.cell (p:=⟨B,3,none⟩) h.lt).trans h.c3,(hb.cell (p:=⟨B,4,none⟩) h.lt).trans h.c4⟩
theorem kO (w:World) (s:Sp) (T:TypeId):SpC (w.alloc (.cells s.q T)) w.heap.size s:=⟨by simp,by simp,by simp,by simp,by simp⟩
structure NoC (w:World) (B:Nat):Prop where
 c0:w.cell? ⟨B,0,none⟩=some (.bool false)
 c1:w.cell? ⟨B,1,none⟩=some (.slice none 0 0)
 c2:w.cell? ⟨B,2,none⟩=some (.bool false)
 c3:w.cell? ⟨B,3,none⟩=some (.slice none 0 0)
 c4:w.cell? ⟨B,4,none⟩=some (.int .i64 0)
 fz:∀ o,w.frozen? ⟨B,o,none⟩=false
theorem NoC.lt {w:World} {B:Nat} (h:NoC w B):B<w.heap.size:=World.block_lt_of_cell? w ⟨B,0,none⟩ h.c0
theorem NoC.bw {w w':World} {B:Nat} (h:NoC w B) (hb:Below w.heap.size w w'):NoC w' B :=
 ⟨(hb.cell (p:=⟨B,0,none⟩) h.lt).trans h.c0,(hb.cell (p:=⟨B,1,none⟩) h.lt).trans h.c1,(hb.cell (p:=⟨B,2,none⟩) h.lt).trans h.c2,(hb.cell (p:=⟨B,3,none⟩) h.lt).trans h.c3,(hb.cell (p:=⟨B,4,none⟩) h.lt).trans h.c4,λ o=>(hb.frozen (p:=⟨B,o,none⟩) h.lt).trans (h.fz o)⟩
theorem zQ (w:World) (T:TypeId):NoC (w.alloc (.cells zCq T)) w.heap.size:=⟨by simp,by simp,by simp,by simp,by simp,λ o=>by simp[go_sem]⟩
theorem SpAt.putN {w:World} {s:Sp} {k:Nat} {lo hi:Int} (h:SpAt w s k lo hi) {B:Nat} (hB:NoC w B) (u0 u1 u2 u3 u4:Value) :
  SpAt (((((w.setCell ⟨B,0,none⟩ u0).setCell ⟨B,1,none⟩ u1).setCell ⟨B,2,none⟩ u2).setCell ⟨B,3,none⟩ u3).setCell ⟨B,4,none⟩ u4) s k lo hi:=SpAt.put5 h hB.c0 hB.c1 hB.c2 hB.c3 hB.c4 _ _ _ _ _
theorem SpAt.mono {w:World} {s:Sp} {k k':Nat} {lo hi:Int} (h:SpAt w s k lo hi) (hk:k<=k'):SpAt w s k' lo hi:=⟨h.lo.mono hk,h.hi.mono hk⟩
theorem PairAns.mono {w:World} {b:Int} {k k':Nat} {lo hi er:Int} {r:Ending} {w':World} (h:PairAns w b k lo hi er r w') (hk:k<=k'):PairAns w b k' lo hi er r w':=by
 obtain⟨s,h1,h2,h3,h4⟩:=h;exact⟨s,h1,h2,h3.mono hk,h4⟩
theorem flt_pr {s t:Sp} {d e d' e':Nat->Int} {z:Int} (hz:Flt (λ j=>zAL (pr s t j) (pr d d' j) (pr e e' j)) (λ j=>(pr s t j).bits) 2 z):z=zH6 (zAL s d e) (zAL t d' e') s.bits t.bits:=by
 have e1:(λ j=>zAL (pr s t j) (pr d d' j) (pr e e' j))=(λ j=>pr (zAL s d e) (zAL t d' e') j):=by
  funext j;unfold pr;split<;>rfl
 have e2:(λ j=>(pr s t j).bits)=(λ j=>pr s.bits t.bits j):=by
  funext j;unfold pr;split<;>rfl
 rw[e1,e2] at hz;exact flt2 hz
theorem zJ6 (p1 p2:Value) (B:Nat) (W:World) (f:Nat->Sp) (d e:Nat->Nat->Int) (n cap:Nat) (hn:n<=1000) (hS:Spans W B n f d e) (h0:∀ z,Flt (λ j=>zAL (f j) (d j) (e j)) (λ j=>(f j).bits) n z->z=0) (b:Int) (k:Nat) (lo hi:Int)
  (hF:∀ w',Below W.heap.size W w'->Calls Tryz.prog 50 #[p1,p2] w' (PairAns w' b k lo hi 0)) (hle:lo<=hi) (b9:1<=b) (j8:b<=120) :
  Calls Tryz.prog 49 #[.func (.func 50) #[] #[p1,p2],.slice (some ⟨B,0,none⟩) n cap] W (PairAns W (zQA lo hi b) k (zQA lo hi lo) (zQA lo hi hi) (fitE lo hi)):=by
 have HF:=zC hF;have HZ:=zC h0;have HS:=zC hS;clear hF h0 hS
 go_enter Tryz.func49,Tryz.ntmps49
 go_wp2_with fail;refine (zJY _ _ _ f d e _ ((zA HS).bw (bl1 _ _)) hn).mono ?_;rintro r w1 ⟨z,rfl,hz,L9⟩;have K4:=zA HZ z hz;subst K4;have T8:=(zQ W 31).bw L9;have A7:Below W.heap.size W w1:=zB (bl1 _ _) L9;clear hz;go_wp2_with fail;refine (zA HF _ A7).mono ?_;rintro r w2 ⟨s,rfl,aV,bl,m8⟩;have o9:=zB A7 m8;have X6:=T8.bw m8;have D9:=X6.lt;obtain⟨dd,ee,S3,cZ⟩:=chk_fit bl hle (by omega) (by omega)
 obtain⟨q0,q1,q2,q3,q4,q5⟩:=X6;have HB:=zC aV;have HC:=zC cZ;clear aV L9 cZ;go_wp2_with fail;refine (zR8 _ s dd ee (S3.bw (bl1 _ _))).mono ?_;rintro r w3 ⟨hr,p9⟩;have A9:Below w2.heap.size w2 w3:=zB (bl1 _ _) p9;have zo:=(NoC.mk q0 q1 q2 q3 q4 q5).bw A9;obtain⟨t0,t1,t2,t3,t4,t5⟩:=zo
 have KE:∃ u:Sp,r=.returned (.tuple #[.agg u.q,.int .i64 (fitE lo hi)])/\u.bits=zQA lo hi b/\SpAt w3 u k (zQA lo hi lo) (zQA lo hi hi):=by
  have hc:=zA HC
  rcases zJZ lo hi with⟨_,f2,f3⟩|⟨_,f2,f3⟩
  ·rcases hr with⟨h1,h⟩|⟨h1,h⟩
   ·omega
   ·refine⟨⟨false,none,0,0,false,none,0,0,0⟩,by rw[h,hc],by rw[f3],?_⟩
    rw[f3,f3];exact zOR _ _
  ·rcases hr with⟨h1,h⟩|⟨h1,h⟩
   ·refine⟨s,by rw[h,f2],by rw[f3];exact zA HB,?_⟩
    rw[f3,f3];exact bl.bw A9
   ·omega
 obtain⟨u,Rs,B8,B7⟩:=KE;clear hr;rw[Rs];clear Rs;have HU:=zC B8;clear B8;have Yf:=zB o9 A9;generalize fitE lo hi=er at *;go_wp2_with fail;refine bodyPost_ret (v:=.tuple #[.agg u.q,.int .i64 er]) (by simp[results,Tryz.results49,go_sem,t0,t1,t2,t3,t4]) rfl ⟨u,rfl,zA HU,?_,?_⟩
 ·exact SpAt.putN B7 ⟨t0,t1,t2,t3,t4,t5⟩ _ _ _ _ _
 ·exact jV Yf (Yy _) _ _ _ _ _
theorem zUE (w:World) (s t:Sp) (d e d' e':Nat->Int) (hs:SpDig w s d e) (ht:SpDig w t d' e') (b':Int) (k:Nat) (lo hi er:Int)
  (hM:∀ (W:World) (B0 B1 B cap:Nat),Below w.heap.size w W->SpC W B0 s->SpC W B1 t->Spans W B 2 (pr s t) (pr d d') (pr e e')->Calls Tryz.prog 49 #[.func (.func 50) #[] #[.pointer (some ⟨B0,0,none⟩),.pointer (some ⟨B1,0,none⟩)],.slice (some ⟨B,0,none⟩) 2 cap] W (PairAns W b' k lo hi er)) :
  Calls Tryz.prog 13 #[.agg s.q,.agg t.q] w (PairAns w b' k lo hi er):=by
 have HM:=zC hM;have HS:=zC (λ W hS hT=>spans2 W s t d e d' e' 31 hS hT)
 clear hM
 go_enter Tryz.func13,Tryz.ntmps13
 go_wp2_with fail;obtain⟨W,hW⟩:∃ W,W=((w.alloc (.cells s.q 31)).alloc (.cells t.q 31)).alloc (.cells zCq 31):=⟨_,rfl⟩;have s3:W.heap.size=w.heap.size+1+1+1:=by rw[hW];simp
 have j6:Below w.heap.size w W:=by rw[hW];exact bl3 _ _ _ _
 have a0:SpC W w.heap.size s:=by rw[hW];constructor<;>simp[go_sem]
 have g0:SpC W (w.heap.size+1) t:=by rw[hW];constructor<;>simp[go_sem]
 have r0:NoC W (w.heap.size+1+1):=by rw[hW];constructor<;>simp[go_sem]
 rw[<- hW,<- s3];clear hW;refine (zA HM _ _ _ _ _ (zB j6 (bl1 _ _)) (a0.bw (bl1 _ _)) (g0.bw (bl1 _ _)) (zA HS W (hs.bw j6) (ht.bw j6))).mono ?_;rintro r w1 ⟨u,rfl,B8,B7,b9⟩;have A7:Below W.heap.size W w1:=zB (bl1 _ _) b9;obtain⟨q0,q1,q2,q3,q4,q5⟩:=r0.bw A7;have HB:=zC B8;clear B8;go_wp2_with fail;refine bodyPost_ret (v:=.tuple #[.agg u.q,.int .i64 er]) (by simp[results,Tryz.results13,go_sem,q0,q1,q2,q3,q4]) rfl ⟨u,rfl,zA HB,?_,?_⟩
 ·exact SpAt.put5 B7 q0 q1 q2 q3 q4 _ _ _ _ _
 ·exact jV (zB j6 A7) (by omega) _ _ _ _ _
theorem zDF (w:World) (s:Sp) (k:Nat) (lo hi:Int) (hs:SpAt w s k lo hi) (hk:k<=700000000) :
  Calls Tryz.prog 139 #[.agg s.q] w (zH w s.bits k (-hi) (-lo)):=by
 go_enter Tryz.func139,Tryz.ntmps139
 go_wp2
 go_region_held3 (λ w'=>cK0 w' w.heap.size s) ((dsimp only[cK,cK0,nK,nK0,rK,rK0];go_keep))
  (first
   | (go_at_call 87;have hq:=b9;refine (zA8 _ _ _ _ k lo _ (hs.lo.bw (zB (bl2 _ _ _).drew b9)) (by omega)).mono ?_;rintro r w2 ⟨j7,a2,n2,c2,rfl,A5,j8⟩;obtain⟨C9,D6,E6⟩:=jC (w.heap.size+1+1) A8 j8)
   | (go_at_call 87;refine (zA8 _ _ _ _ k hi _ (hs.hi.bw (bl2 _ _ _).drew) (by omega)).mono ?_;rintro r w1 ⟨m7,a1,n1,c1,rfl,o8,b9⟩;obtain⟨A8,C7,D3⟩:=jC (w.heap.size+1+1) (by simp) b9))
 go_wp2;have q0:w2.cell? ⟨w.heap.size+1,0,none⟩=some (.bool false):=by simp[D6,C7,go_sem]
 have q1:w2.cell? ⟨w.heap.size+1,1,none⟩=some (.slice none 0 0):=by simp[D6,C7,go_sem]
 have q2:w2.cell? ⟨w.heap.size+1,2,none⟩=some (.bool false):=by simp[D6,C7,go_sem]
 have q3:w2.cell? ⟨w.heap.size+1,3,none⟩=some (.slice none 0 0):=by simp[D6,C7,go_sem]
 have q4:w2.cell? ⟨w.heap.size+1,4,none⟩=some (.int .i64 0):=by simp[D6,C7,go_sem]
 refine bodyPost_ret (v:=.agg #[.bool m7,.slice a1 n1 c1,.bool j7,.slice a2 n2 c2,.int .i64 s.bits]) (by simp[results,Tryz.results139,go_sem,q0,q1,q2,q3,q4]) rfl ⟨⟨m7,a1,n1,c1,j7,a2,n2,c2,s.bits⟩,rfl,rfl,?_,?_⟩
 ·exact SpAt.put5 ⟨o8.bw j8,A5⟩ q0 q1 q2 q3 q4 _ _ _ _ _
 ·exact jV (zB (zB (bl2 _ _ _).drew b9) j8) (Nat.le_succ _) _ _ _ _ _
theorem zDI (w:World) (s:Sp):Calls Tryz.prog 15 #[.agg s.q] w λ r w'=>r=.returned (.agg s.q)/\Below w.heap.size w w':=by
 go_enter Tryz.func15,Tryz.ntmps15
 go_wp2_with fail;refine bodyPost_ret (v:=.agg s.q) (by simp[results,Tryz.results15,go_sem]) rfl ⟨rfl,?_⟩
 first|exact bl2 _ _ _|exact jV (bl2 _ _ _) (Nat.le_succ _) _ _ _ _ _
theorem zMQ (w:World) (s t:Sp) (k:Nat) (lo hi lo' hi':Int) (hs:SpAt w s k lo hi) (ht:SpAt w t k lo' hi') (hk:k<=600000000) :
  Calls Tryz.prog 92 #[.agg s.q,.agg t.q] w (zH w s.bits (k+1) (lo-hi') (hi-lo')):=by
 have mS:w.heap.size≠w.heap.size+1+1:=by omega
 have mV:w.heap.size+1+1≠w.heap.size:=by omega
 have le2:w.heap.size<=w.heap.size+1+1:=by omega
 go_enter Tryz.func92,Tryz.ntmps92
 go_wp2
 go_region_held3 (λ w'=>cK w' w.heap.size s (cK0 w' (w.heap.size+1) t)) ((dsimp only[cK,cK0,nK,nK0,rK,rK0];go_keep))
  (first
   | (go_at_call 139;refine (zDF _ t k lo' hi' (ht.bw (bl3 _ _ _ _).drew) (by omega)).mono ?_;rintro r w1 ⟨u,rfl,B8,B7,b9⟩;have G8:=zC B8;clear B8;obtain⟨A8,C7,D3⟩:=jC (w.heap.size+1+1+1) (by simp) b9)
   | (go_at_call 51;refine (zD3 _ s u k lo hi (-hi') (-lo') (hs.bw (zB (bl3 _ _ _ _).drew b9)) B7 (by omega)).mono ?_;rintro r w2 ⟨v,rfl,J8,J6,j8⟩;have Hi:=zC J8;clear J8;obtain⟨C9,D6,E6⟩:=jC (w.heap.size+1+1+1) A8 j8))
 go_wp2;have q0:w2.cell? ⟨w.heap.size+1+1,0,none⟩=some (.bool false):=by simp[D6,C7,go_sem]
 have q1:w2.cell? ⟨w.heap.size+1+1,1,none⟩=some (.slice none 0 0):=by simp[D6,C7,go_sem]
 have q2:w2.cell? ⟨w.heap.size+1+1,2,none⟩=some (.bool false):=by simp[D6,C7,go_sem]
 have q3:w2.cell? ⟨w.heap.size+1+1,3,none⟩=some (.slice none 0 0):=by simp[D6,C7,go_sem]
 have q4:w2.cell? ⟨w.heap.size+1+1,4,none⟩=some (.int .i64 0):=by simp[D6,C7,go_sem]
 refine bodyPost_ret (v:=.agg v.q) (by simp[results,Tryz.results92,go_sem,q0,q1,q2,q3,q4]) rfl ⟨v,rfl,zA Hi,?_,?_⟩
 ·rw[Int.sub_eq_add_neg,Int.sub_eq_add_neg]
  exact SpAt.put5 J6 q0 q1 q2 q3 q4 _ _ _ _ _
 ·exact jV (zB (zB (bl3 _ _ _ _).drew b9) j8) le2 _ _ _ _ _
theorem zET (neg:Bool) (a:Option Addr) (n cap k1:Nat) (k x:Int) (w:World) (h1:IntAt w neg a n cap k1 x) (ae:k1<=900000000) (fw : -1000000000<=k) (hk:k<=1000000000) :
  Calls Tryz.prog 120 #[.agg #[.bool neg,.slice a n cap],.int .i64 k] w λ r w' =>
   ∃ m9 a' n' o7,r=.returned (.agg #[.bool m9,.slice a' n' o7])/\IntAt w' m9 a' n' o7 ((-k).toNat/16+k1+5) (-(zA5 (-x) k))/\Below w.heap.size w w':=by
 go_enter Tryz.func120,Tryz.ntmps120
 go_wp2_with (first
  | (go_at_call 87;have hq:=j8;refine (zA8 _ _ _ _ ((-k).toNat/16+k1+5) _ _ A5 (by omega)).mono ?_;rintro r w3 ⟨B9,a3,n3,c3,rfl,E7,m8⟩;obtain⟨I1,O7,M7⟩:=jC (w.heap.size+1+1) C9 m8)
  | (go_at_call 87;refine (zA8 _ _ _ _ k1 x _ (h1.bw (bl2 _ _ _)) (by omega)).mono ?_;rintro r w1 ⟨m7,a1,n1,c1,rfl,o8,b9⟩;obtain⟨A8,C7,D3⟩:=jC (w.heap.size+1+1) (by simp) b9)
  | (go_at_call 96;refine (zHA _ _ _ _ k1 k (-x) _ o8 (by omega) fw hk).mono ?_;rintro r w2 ⟨j7,a2,n2,c2,rfl,A5,j8⟩;obtain⟨C9,D6,E6⟩:=jC (w.heap.size+1+1) A8 j8))
 have h0:w3.cell? ⟨w.heap.size+1,0,none⟩=some (.bool false):=by simp[O7,D6,C7,go_sem]
 have J0:w3.cell? ⟨w.heap.size+1,1,none⟩=some (.slice none 0 0):=by simp[O7,D6,C7,go_sem]
 refine bodyPost_ret (v:=.agg #[.bool B9,.slice a3 n3 c3]) (by simp[results,Tryz.results120,go_sem,h0,J0]) rfl ⟨B9,a3,n3,c3,rfl,E7.put2 h0 J0 _ _,?_⟩
 exact ((zB (zB (zB (bl2 _ _ _) b9) j8) m8).setCell (p:=⟨w.heap.size+1,0,none⟩) (Nat.le_succ _) _).setCell (p:=⟨w.heap.size+1,1,none⟩) (Nat.le_succ _) _
theorem zLT (w:World) (s t:Sp) (k:Nat) (lo hi lo' hi':Int) (hs:SpAt w s k lo hi) (ht:SpAt w t k lo' hi') (hk:k<=300000000) :
  Calls Tryz.prog 152 #[.agg s.q,.agg t.q,.func (.func 83) #[] #[]] w λ r w' =>
   ∃ B f,r=.returned (.slice (some ⟨B,0,none⟩) 4 4)/\Nums w' B 4 (k+k) f (pr4 (lo*lo') (lo*hi') (hi*lo') (hi*hi'))/\Below w.heap.size w w':=by
 obtain⟨W,hW⟩:∃ W,W=(w.alloc (.cells s.q 31)).alloc (.cells t.q 31):=⟨_,rfl⟩;have j6:Below w.heap.size w W:=by rw[hW];exact bl2 _ _ _
 have a0:SpC W w.heap.size s:=by rw[hW];constructor<;>simp[go_sem]
 have g0:SpC W (w.heap.size+1) t:=by rw[hW];constructor<;>simp[go_sem]
 have HS:=zC (hs.bw j6);have HT:=zC (ht.bw j6);have E2:Below W.heap.size W W.drew:=(Below.refl _ _).drew
 have HK:=zC (show ∀ w',Below W.heap.size W w'->(w'.cell? ⟨w.heap.size,0,none⟩=some (.bool s.ln)/\w'.cell? ⟨w.heap.size,1,none⟩=some (.slice s.la s.lN s.lc)/\w'.cell? ⟨w.heap.size,2,none⟩=some (.bool s.hn)/\w'.cell? ⟨w.heap.size,3,none⟩=some (.slice s.ha s.hN s.hc)/\w'.cell? ⟨w.heap.size+1,0,none⟩=some (.bool t.ln)/\w'.cell? ⟨w.heap.size+1,1,none⟩=some (.slice t.la t.lN t.lc)/\w'.cell? ⟨w.heap.size+1,2,none⟩=some (.bool t.hn)/\w'.cell? ⟨w.heap.size+1,3,none⟩=some (.slice t.ha t.hN t.hc)) from λ w' hB=>by
  obtain⟨x0,x1,x2,x3,x4⟩:=a0.bw hB;obtain⟨y0,y1,y2,y3,y4⟩:=g0.bw hB
  exact⟨x0,x1,x2,x3,y0,y1,y2,y3⟩)
 go_enter Tryz.func152,Tryz.ntmps152
 go_wp2;obtain⟨x0,x1,x2,x3,x4⟩:=a0;obtain⟨y0,y1,y2,y3,y4⟩:=g0;rw[<- hW];clear hW
 go_region_held3 (λ w'=>w'.cell? ⟨w.heap.size,0,none⟩=some (.bool s.ln)/\w'.cell? ⟨w.heap.size,1,none⟩=some (.slice s.la s.lN s.lc)/\w'.cell? ⟨w.heap.size,2,none⟩=some (.bool s.hn)/\w'.cell? ⟨w.heap.size,3,none⟩=some (.slice s.ha s.hN s.hc)/\w'.cell? ⟨w.heap.size+1,0,none⟩=some (.bool t.ln)/\w'.cell? ⟨w.heap.size+1,1,none⟩=some (.slice t.la t.lN t.lc)/\w'.cell? ⟨w.heap.size+1,2,none⟩=some (.bool t.hn)/\w'.cell? ⟨w.heap.size+1,3,none⟩=some (.slice t.ha t.hN t.hc)) (exact zA HK _ (by first|exact E2|exact zL G3 _|exact G3|exact A9|exact o9|exact A7))
  (first
   | (go_at_call 83;have hq:=A9;refine (zV _ _ _ _ _ _ _ _ k k hi hi' _ ((zA HS).hi.bw A9) ((zA HT).hi.bw A9) (by omega) (by omega)).mono ?_;rintro r w4 ⟨E4,a4,n4,c4,rfl,H8,p9⟩;have o8:=o8.bw p9;have A5:=A5.bw p9;have E7:=E7.bw p9;have G3:=zB A9 p9)
   | (go_at_call 83;have hq:=o9;refine (zV _ _ _ _ _ _ _ _ k k hi lo' _ ((zA HS).hi.bw o9) ((zA HT).lo.bw o9) (by omega) (by omega)).mono ?_;rintro r w3 ⟨B9,a3,n3,c3,rfl,E7,m8⟩;have o8:=o8.bw m8;have A5:=A5.bw m8;have A9:=zB o9 m8)
   | (go_at_call 83;have hq:=A7;refine (zV _ _ _ _ _ _ _ _ k k lo hi' _ ((zA HS).lo.bw A7) ((zA HT).hi.bw A7) (by omega) (by omega)).mono ?_;rintro r w2 ⟨j7,a2,n2,c2,rfl,A5,j8⟩;have o8:=o8.bw j8;have o9:=zB A7 j8)
   | (go_at_call 83;have hq:=E2;refine (zV _ _ _ _ _ _ _ _ k k lo lo' _ ((zA HS).lo.bw E2) ((zA HT).lo.bw E2) (by omega) (by omega)).mono ?_;rintro r w1 ⟨m7,a1,n1,c1,rfl,o8,b9⟩;have A7:=zB E2 b9))
 go_wp2
 go_ret
 exact⟨w4.heap.size,pr4 ⟨m7,a1,n1,c1⟩ ⟨j7,a2,n2,c2⟩ ⟨B9,a3,n3,c3⟩ ⟨E4,a4,n4,c4⟩,rfl,zPR w4 _ rfl ⟨m7,a1,n1,c1⟩ ⟨j7,a2,n2,c2⟩ ⟨B9,a3,n3,c3⟩ ⟨E4,a4,n4,c4⟩ _ _ _ _ _ _ o8 A5 E7 H8,zB j6 (zL G3 _)⟩
theorem zMP (w:World) (s t:Sp) (k:Nat) (lo hi lo' hi':Int) (hs:SpAt w s k lo hi) (ht:SpAt w t k lo' hi') (hk:k<=300000000) (F9:0<=s.bits) (qI:s.bits<=1000000) :
  Calls Tryz.prog 124 #[.agg s.q,.agg t.q] w (zH w s.bits (k+k+8) (zA5 (kK (pr4 (lo*lo') (lo*hi') (hi*lo') (hi*hi')) 3) s.bits) (-(zA5 (-(kA (pr4 (lo*lo') (lo*hi') (hi*lo') (hi*hi')) 3)) s.bits))):=by
 have QS:(-s.bits).toNat=0:=by omega
 have mS:w.heap.size≠w.heap.size+1+1:=by omega
 have mV:w.heap.size+1+1≠w.heap.size:=by omega
 obtain⟨W,hW⟩:∃ W,W=((w.alloc (.cells s.q 31)).alloc (.cells t.q 31)).alloc (.cells zCq 31):=⟨_,rfl⟩;have j6:Below w.heap.size w W:=by rw[hW];exact bl3 _ _ _ _
 have a0:SpC W w.heap.size s:=by rw[hW];constructor<;>simp[go_sem]
 have g0:SpC W (w.heap.size+1) t:=by rw[hW];constructor<;>simp[go_sem]
 have r0:NoC W (w.heap.size+1+1):=by rw[hW];constructor<;>simp[go_sem]
 have HS:=zC (hs.bw j6);have HT:=zC (ht.bw j6);have E2:Below W.heap.size W W.drew:=(Below.refl _ _).drew
 have HK:=zC (show ∀ w',Below W.heap.size W w'->(w'.cell? ⟨w.heap.size,0,none⟩=some (.bool s.ln)/\w'.cell? ⟨w.heap.size,1,none⟩=some (.slice s.la s.lN s.lc)/\w'.cell? ⟨w.heap.size,2,none⟩=some (.bool s.hn)/\w'.cell? ⟨w.heap.size,3,none⟩=some (.slice s.ha s.hN s.hc)/\w'.cell? ⟨w.heap.size+1,0,none⟩=some (.bool t.ln)/\w'.cell? ⟨w.heap.size+1,1,none⟩=some (.slice t.la t.lN t.lc)/\w'.cell? ⟨w.heap.size+1,2,none⟩=some (.bool t.hn)/\w'.cell? ⟨w.heap.size+1,3,none⟩=some (.slice t.ha t.hN t.hc)) from λ w' hB=>by
  obtain⟨x0,x1,x2,x3,x4⟩:=a0.bw hB;obtain⟨y0,y1,y2,y3,y4⟩:=g0.bw hB
  exact⟨x0,x1,x2,x3,y0,y1,y2,y3⟩)
 go_enter Tryz.func124,Tryz.ntmps124
 go_wp2_with fail;rw[<- hW];clear hW;refine (zLT _ s t k lo hi lo' hi' (zA HS) (zA HT) hk).mono ?_;rintro r w1 ⟨B,f,rfl,hN,b9⟩;have T8:=r0.bw b9;have K8:=T8.lt;obtain⟨x0,x1,x2,x3,x4⟩:=a0.bw b9;have a1:SpC w1 w.heap.size s:=⟨x0,x1,x2,x3,x4⟩;have nG:=zC (show ∀ w',Below w1.heap.size w1 w'->w'.cell? ⟨w.heap.size,4,none⟩=some (.int .i64 s.bits) from λ w' hB=>(a1.bw hB).c4)
 have D5:Below w1.heap.size w1 w1.drew:=(Below.refl _ _).drew;clear x0 x1 x2 x3;go_wp2_with fail
 go_region_held3 (λ w'=>w'.cell? ⟨w.heap.size,4,none⟩=some (.int .i64 s.bits)) (first|exact zA nG _ (by first|exact D5|exact gX|exact J1|exact G0|exact s9)|go_keep)
  (first
   | (go_at_call 153;refine (zEY _ 3 _ (k+k) f _ _ (hN.bw D5) (by omega) (by omega)).mono ?_;rintro r w2 ⟨j7,a2,n2,c2,rfl,A5,j8⟩;have s9:=zB D5 j8)
   | (go_at_call 96;refine (zHA _ _ _ _ (k+k+1) s.bits _ _ A5 (by omega) (by omega) (by omega)).mono ?_;rintro r w3 ⟨B9,a3,n3,c3,rfl,E7,m8⟩;have G0:=zB s9 m8)
   | (go_at_call 150;refine (zIV _ 3 _ (k+k) f _ _ (hN.bw G0) (by omega) (by omega)).mono ?_;rintro r w4 ⟨E4,a4,n4,c4,rfl,H8,p9⟩;have E7:=E7.bw p9;have J1:=zB G0 p9)
   | (go_at_call 120;refine (zET _ _ _ _ (k+k+1) s.bits _ _ H8 (by omega) (by omega) (by omega)).mono ?_;rintro r w5 ⟨J3,a5,n5,c5,rfl,O0,D8⟩;have E7:=E7.bw D8;have gX:=zB J1 D8;obtain⟨q0,q1,q2,q3,q4,q5⟩:=T8.bw gX;have x5:=zA nG _ gX))
 go_wp2;refine bodyPost_ret (v:=.agg #[.bool B9,.slice a3 n3 c3,.bool J3,.slice a5 n5 c5,.int .i64 s.bits]) (by simp[results,Tryz.results124,go_sem,q0,q1,q2,q3,q4]) rfl ⟨⟨B9,a3,n3,c3,J3,a5,n5,c5,s.bits⟩,rfl,rfl,?_,?_⟩
 ·exact SpAt.put5 ⟨E7.mono (by omega),O0.mono (by omega)⟩ q0 q1 q2 q3 q4 _ _ _ _ _
 ·exact jV (zB (zB j6 b9) gX) (by omega) _ _ _ _ _
theorem yX {w:World} {B B' o:Nat} {v:Option Value} (h:w.cell? ⟨B,o,none⟩=v) (hne:B≠B') (u0 u1 u2 u3 u4:Value) :
  (((((w.setCell ⟨B',0,none⟩ u0).setCell ⟨B',1,none⟩ u1).setCell ⟨B',2,none⟩ u2).setCell ⟨B',3,none⟩ u3).setCell ⟨B',4,none⟩ u4).cell? ⟨B,o,none⟩=v:=by
 have ne:∀ i:Nat,(⟨B',i,none⟩:Addr)≠⟨B,o,none⟩:=λ i e=>hne (by injection e with e1;exact e1.symm)
 rw[World.cell?_setCell_other _ _ _ _ (ne 4),World.cell?_setCell_other _ _ _ _ (ne 3),World.cell?_setCell_other _ _ _ _ (ne 2),World.cell?_setCell_other _ _ _ _ (ne 1),World.cell?_setCell_other _ _ _ _ (ne 0)];exact h
theorem SpC.put {w:World} {B B':Nat} {s:Sp} (h:SpC w B s) (hne:B≠B') (u0 u1 u2 u3 u4:Value) :
  SpC (((((w.setCell ⟨B',0,none⟩ u0).setCell ⟨B',1,none⟩ u1).setCell ⟨B',2,none⟩ u2).setCell ⟨B',3,none⟩ u3).setCell ⟨B',4,none⟩ u4) B s :=
 ⟨yX h.c0 hne _ _ _ _ _,yX h.c1 hne _ _ _ _ _,yX h.c2 hne _ _ _ _ _,yX h.c3 hne _ _ _ _ _,yX h.c4 hne _ _ _ _ _⟩
theorem zP1 (w:World) (s t:Sp) (d e d' e':Nat->Int) (k:Nat) (lo hi lo' hi':Int) (hs:SpDig w s d e) (ht:SpDig w t d' e') (c1:zAL s d e=0) (c2:zAL t d' e'=0) (fj:s.bits=t.bits) (ps:SpAt w s k lo hi) (pt:SpAt w t k lo' hi')
  (hk:k<=249) (l1:lo<=hi) (l2:lo'<=hi') (b1:1<=s.bits) (b2:s.bits<=120) :
  Calls Tryz.prog 13 #[.agg s.q,.agg t.q] w (PairAns w s.bits (k+1) (lo+lo') (hi+hi') 0):=by
 have HM:=zC (λ p1 p2 B W cap hS hF=>zL2 p1 p2 B W (pr s t) (pr d d') (pr e e') 2 cap (by omega) hS (λ z hz=>by
  have e1:(λ j=>zAL (pr s t j) (pr d d' j) (pr e e' j))=(λ j=>pr (zAL s d e) (zAL t d' e') j):=by
   funext j;unfold pr;split<;>rfl
  have e2:(λ j=>(pr s t j).bits)=(λ j=>pr s.bits t.bits j):=by
   funext j;unfold pr;split<;>rfl
  rw[e1,e2] at hz
  rw[flt2 hz];simp[zH6,c1,c2,fj]) s.bits (k+1) (lo+lo') (hi+hi') hF (by omega) (by omega) b1 b2)
 have HS:=zC (λ W hS hT=>spans2 W s t d e d' e' 31 hS hT)
 clear c1 c2 fj b1 b2 l1 l2
 go_enter Tryz.func13,Tryz.ntmps13
 go_wp2_with fail;obtain⟨W,hW⟩:∃ W,W=((w.alloc (.cells s.q 31)).alloc (.cells t.q 31)).alloc (.cells zCq 31):=⟨_,rfl⟩;have s3:W.heap.size=w.heap.size+1+1+1:=by rw[hW];simp
 have j6:Below w.heap.size w W:=by rw[hW];exact bl3 _ _ _ _
 have a0:W.cell? ⟨w.heap.size,0,none⟩=some (.bool s.ln):=by rw[hW];simp[go_sem]
 have a1:W.cell? ⟨w.heap.size,1,none⟩=some (.slice s.la s.lN s.lc):=by rw[hW];simp[go_sem]
 have a2:W.cell? ⟨w.heap.size,2,none⟩=some (.bool s.hn):=by rw[hW];simp[go_sem]
 have a3:W.cell? ⟨w.heap.size,3,none⟩=some (.slice s.ha s.hN s.hc):=by rw[hW];simp[go_sem]
 have a4:W.cell? ⟨w.heap.size,4,none⟩=some (.int .i64 s.bits):=by rw[hW];simp[go_sem]
 have g0:W.cell? ⟨w.heap.size+1,0,none⟩=some (.bool t.ln):=by rw[hW];simp[go_sem]
 have g1:W.cell? ⟨w.heap.size+1,1,none⟩=some (.slice t.la t.lN t.lc):=by rw[hW];simp[go_sem]
 have g2:W.cell? ⟨w.heap.size+1,2,none⟩=some (.bool t.hn):=by rw[hW];simp[go_sem]
 have g3:W.cell? ⟨w.heap.size+1,3,none⟩=some (.slice t.ha t.hN t.hc):=by rw[hW];simp[go_sem]
 have g4:W.cell? ⟨w.heap.size+1,4,none⟩=some (.int .i64 t.bits):=by rw[hW];simp[go_sem]
 have r0:W.cell? ⟨w.heap.size+1+1,0,none⟩=some (.bool false):=by rw[hW];simp[go_sem]
 have r1:W.cell? ⟨w.heap.size+1+1,1,none⟩=some (.slice none 0 0):=by rw[hW];simp[go_sem]
 have r2:W.cell? ⟨w.heap.size+1+1,2,none⟩=some (.bool false):=by rw[hW];simp[go_sem]
 have r3:W.cell? ⟨w.heap.size+1+1,3,none⟩=some (.slice none 0 0):=by rw[hW];simp[go_sem]
 have r4:W.cell? ⟨w.heap.size+1+1,4,none⟩=some (.int .i64 0):=by rw[hW];simp[go_sem]
 have r5:∀ o,W.frozen? ⟨w.heap.size+1+1,o,none⟩=false:=by intro o;rw[hW];simp[go_sem]
 rw[<- hW,<- s3];clear hW;have n0:w.heap.size<W.heap.size:=by omega
 have n1:w.heap.size+1<W.heap.size:=by omega
 have n2:w.heap.size+1+1<W.heap.size:=by omega
 refine (zA HM _ _ _ _ _ (zA HS W (hs.bw j6) (ht.bw j6)) (λ w' hB=>zMV w' _ _ s t k lo hi lo' hi' ((ps.bw j6).bw (zB (bl1 _ _) hB)) ((pt.bw j6).bw (zB (bl1 _ _) hB)) (by omega)
  (((zB (bl1 _ _) hB).cell (p:=⟨w.heap.size,0,none⟩) n0).trans a0) (((zB (bl1 _ _) hB).cell (p:=⟨w.heap.size,1,none⟩) n0).trans a1) (((zB (bl1 _ _) hB).cell (p:=⟨w.heap.size,2,none⟩) n0).trans a2) (((zB (bl1 _ _) hB).cell (p:=⟨w.heap.size,3,none⟩) n0).trans a3) (((zB (bl1 _ _) hB).cell (p:=⟨w.heap.size,4,none⟩) n0).trans a4)
  (((zB (bl1 _ _) hB).cell (p:=⟨w.heap.size+1,0,none⟩) n1).trans g0) (((zB (bl1 _ _) hB).cell (p:=⟨w.heap.size+1,1,none⟩) n1).trans g1) (((zB (bl1 _ _) hB).cell (p:=⟨w.heap.size+1,2,none⟩) n1).trans g2) (((zB (bl1 _ _) hB).cell (p:=⟨w.heap.size+1,3,none⟩) n1).trans g3) (((zB (bl1 _ _) hB).cell (p:=⟨w.heap.size+1,4,none⟩) n1).trans g4))).mono ?_
 rintro r w1 ⟨u,rfl,B8,B7,b9⟩;have A7:Below W.heap.size W w1:=zB (bl1 _ _) b9;have q0:=(A7.cell (p:=⟨w.heap.size+1+1,0,none⟩) n2).trans r0;have q1:=(A7.cell (p:=⟨w.heap.size+1+1,1,none⟩) n2).trans r1;have q2:=(A7.cell (p:=⟨w.heap.size+1+1,2,none⟩) n2).trans r2;have q3:=(A7.cell (p:=⟨w.heap.size+1+1,3,none⟩) n2).trans r3;have q4:=(A7.cell (p:=⟨w.heap.size+1+1,4,none⟩) n2).trans r4;have q5:∀ o,w1.frozen? ⟨w.heap.size+1+1,o,none⟩=false:=λ o=>(A7.frozen (p:=⟨w.heap.size+1+1,o,none⟩) n2).trans (r5 o)
 have HB:=zC B8;clear B8;go_wp2_with fail;refine bodyPost_ret (v:=.tuple #[.agg u.q,.int .i64 0]) (by simp[results,Tryz.results13,go_sem,q0,q1,q2,q3,q4]) rfl ⟨u,rfl,zA HB,?_,?_⟩
 ·exact SpAt.put5 B7 q0 q1 q2 q3 q4 _ _ _ _ _
 ·exact jV (zB j6 A7) (by omega) _ _ _ _ _
theorem zEN (w:World):Calls Tryz.prog 10 #[] w λ r w'=>r=.returned (.bool true)/\Below w.heap.size w w':=by
 have e1:(1:Int)*Q 8/3=85:=by decide
 have e2 : -(-((1:Int)*Q 8)/3)=86:=by decide
 have HO:=zC (λ W=>zUF 1 3 8 W (by omega) (by omega) (by omega) (by omega) (by omega) (by omega))
 rw[e1,e2] at HO;clear e1 e2
 go_enter Tryz.func10,Tryz.ntmps10
 go_wp2_with fail;refine (zA HO _).mono ?_;rintro r w1 ⟨s,rfl,aV,bl,b9⟩;obtain⟨dd,ee,S3,cZ⟩:=zJN bl (by omega) (by omega) (by omega) (by omega)
 have HB:=zC aV;have HC:=zC cZ;have hs1:1<=s.bits:=by omega
 have X7:s.bits<=120:=by omega
 clear aV cZ;go_wp2_with fail;refine (zP1 _ s s dd ee dd ee 100 85 86 85 86 (S3.bw (bl1 _ _)) (S3.bw (bl1 _ _)) (zA HC) (zA HC) rfl (bl.bw (bl1 _ _)) (bl.bw (bl1 _ _)) (by omega) (by omega) (by omega) hs1 X7).mono ?_
 rintro r w2 ⟨t,rfl,I2,K5,j8⟩;have o9:Below w.heap.size w w2:=zB (zL b9 _) j8;have cV:Below w1.heap.size w1 w2:=zB (bl1 _ _) j8;have Gy:=zC I2;clear I2;obtain⟨C9,D6,E6⟩:=jC (w1.heap.size+1) (by simp) j8
 have z1:=YB (Nat.lt_succ_self w1.heap.size) C9;have a0:w2.cell? ⟨w1.heap.size,0,none⟩=some (.bool s.ln):=by simp[D6]
 have a1:w2.cell? ⟨w1.heap.size,1,none⟩=some (.slice s.la s.lN s.lc):=by simp[D6]
 have a2:w2.cell? ⟨w1.heap.size,2,none⟩=some (.bool s.hn):=by simp[D6]
 have a3:w2.cell? ⟨w1.heap.size,3,none⟩=some (.slice s.ha s.hN s.hc):=by simp[D6]
 go_wp2_with fail;obtain⟨W,hW⟩:∃ W,W=w2.alloc (.cells t.q 31):=⟨_,rfl⟩;have j6:Below w2.heap.size w2 W:=by rw[hW];exact bl1 _ _
 have g0:W.cell? ⟨w2.heap.size,0,none⟩=some (.bool t.ln):=by rw[hW];simp
 have g1:W.cell? ⟨w2.heap.size,1,none⟩=some (.slice t.la t.lN t.lc):=by rw[hW];simp
 have M8:w2.heap.size<W.heap.size:=by rw[hW];simp
 have K8:w1.heap.size<W.heap.size:=Nat.lt_trans z1 M8;have HS:=zC ((bl.bw cV).bw j6);have HT:=zC (K5.bw j6)
 have HK:=zC (show ∀ w',Below W.heap.size W w'->(w'.cell? ⟨w1.heap.size,0,none⟩=some (.bool s.ln)/\w'.cell? ⟨w1.heap.size,1,none⟩=some (.slice s.la s.lN s.lc)/\w'.cell? ⟨w1.heap.size,2,none⟩=some (.bool s.hn)/\w'.cell? ⟨w1.heap.size,3,none⟩=some (.slice s.ha s.hN s.hc)/\w'.cell? ⟨w2.heap.size,0,none⟩=some (.bool t.ln)/\w'.cell? ⟨w2.heap.size,1,none⟩=some (.slice t.la t.lN t.lc)) from λ w' hB =>
  ⟨(hB.cell (p:=⟨w1.heap.size,0,none⟩) K8).trans ((j6.cell (p:=⟨w1.heap.size,0,none⟩) z1).trans a0),(hB.cell (p:=⟨w1.heap.size,1,none⟩) K8).trans ((j6.cell (p:=⟨w1.heap.size,1,none⟩) z1).trans a1),(hB.cell (p:=⟨w1.heap.size,2,none⟩) K8).trans ((j6.cell (p:=⟨w1.heap.size,2,none⟩) z1).trans a2),(hB.cell (p:=⟨w1.heap.size,3,none⟩) K8).trans ((j6.cell (p:=⟨w1.heap.size,3,none⟩) z1).trans a3),(hB.cell (p:=⟨w2.heap.size,0,none⟩) M8).trans g0,(hB.cell (p:=⟨w2.heap.size,1,none⟩) M8).trans g1⟩)
 have cA:Below w.heap.size w W:=zB o9 j6;have f1:zM 85 85=0:=rfl;have f2:zM 86 86=0:=rfl;have f3:zM (85+85) 170=0:=rfl;have F1:=zC f1;have F2:=zC f2;have F3:=zC f3;obtain⟨k0,k1,k2,k3,k4,k5⟩:=zA HK W (Below.refl _ _);rw[<- hW];clear hW a0 a1 a2 a3 g0 g1 D6 E6 j8 b9 S3 bl K5 j6 o9 cV HO f1 f2 f3
 go_region_held3 (λ w'=>w'.cell? ⟨w1.heap.size,0,none⟩=some (.bool s.ln)/\w'.cell? ⟨w1.heap.size,1,none⟩=some (.slice s.la s.lN s.lc)/\w'.cell? ⟨w1.heap.size,2,none⟩=some (.bool s.hn)/\w'.cell? ⟨w1.heap.size,3,none⟩=some (.slice s.ha s.hN s.hc)/\w'.cell? ⟨w2.heap.size,0,none⟩=some (.bool t.ln)/\w'.cell? ⟨w2.heap.size,1,none⟩=some (.slice t.la t.lN t.lc)) (exact zA HK _ (by first|exact (Below.refl _ _).drew|exact iN|exact jx|exact cW|exact M6|exact G3|exact A9))
  (first
   | (go_at_call 33;have hq:=cW;refine (zD 170 _ (by decide) (by decide)).mono ?_;rintro r w7 ⟨iF,a7,n7,c7,rfl,lK,Q7⟩;have jx:=zB cW Q7)
   | (go_at_call 33;have hq:=G3;refine (zD 86 _ (by decide) (by decide)).mono ?_;rintro r w5 ⟨J3,a5,n5,c5,rfl,O0,D8⟩;have M6:=zB G3 D8)
   | (go_at_call 33;refine (zD 85 _ (by decide) (by decide)).mono ?_;rintro r w3 ⟨B9,a3,n3,c3,rfl,E7,m8⟩;have A9:Below W.heap.size W w3:=zB (Below.refl _ _).drew m8)
   | (go_at_call 17;have hq:=jx;refine (jP _ _ _ _ _ _ _ _ 101 4 (85+85) 170 _ ((zA HT).lo.bw jx) lK).mono ?_;rintro r w8 ⟨rfl,T9⟩;have iN:=zB jx T9;rw[zA F3])
   | (go_at_call 17;have hq:=M6;refine (jP _ _ _ _ _ _ _ _ 100 4 86 86 _ ((zA HS).hi.bw M6) O0).mono ?_;rintro r w6 ⟨rfl,K7⟩;have cW:=zB M6 K7;rw[zA F2])
   | (go_at_call 17;refine (jP _ _ _ _ _ _ _ _ 100 4 85 85 _ ((zA HS).lo.bw A9) E7).mono ?_;rintro r w4 ⟨rfl,p9⟩;have G3:=zB A9 p9;rw[zA F1]))
 go_wp2
 go_ret
 exact⟨rfl,zB cA iN⟩
def SaidP (F:Nat) (s t:Sp) (d e d' e':Nat->Int) (b:Int) (k:Nat) (lo hi er:Int):Prop :=
 ∀ W,SpDig W s d e->SpDig W t d' e'->Calls Tryz.prog F #[.agg s.q,.agg t.q] W (PairAns W b k lo hi er)
theorem flt0 {x y b1 b2:Int} (h:zH6 x y b1 b2=0):x=0/\y=0/\b1=b2:=by
 unfold zH6 at h
 by_cases hx:x=0
 ·by_cases hy:y=0
  ·by_cases hb:b1=b2
   ·exact⟨hx,hy,hb⟩
   ·simp[hx,hy,hb] at h
  ·simp[hx,hy] at h
 ·simp[hx] at h
theorem zQU (w:World) (B0 B1:Nat) (s t:Sp) (k:Nat) (lo hi lo' hi':Int) (hs:SpAt w s k lo hi) (ht:SpAt w t k lo' hi') (hk:k<=300000000) (a:SpC w B0 s) (g:SpC w B1 t) :
  Calls Tryz.prog 50 #[.pointer (some ⟨B0,0,none⟩),.pointer (some ⟨B1,0,none⟩)] w (PairAns w s.bits (k+1) (lo+lo') (hi+hi') 0) :=
 zMV w B0 B1 s t k lo hi lo' hi' hs ht (by omega) a.c0 a.c1 a.c2 a.c3 a.c4 g.c0 g.c1 g.c2 g.c3 g.c4
theorem saidAdd (s t:Sp) (d e d' e':Nat->Int) (hE:zH6 (zAL s d e) (zAL t d' e') s.bits t.bits=0) (lo hi lo' hi':Int) (FE:lo=loZ s d) (Ka:hi=hiZ s e) (Ko:lo'=loZ t d') (Kb:hi'=hiZ t e') :
  SaidP 13 s t d e d' e' (zQA (lo+lo') (hi+hi') s.bits) 600 (zQA (lo+lo') (hi+hi') (lo+lo')) (zQA (lo+lo') (hi+hi') (hi+hi')) (fitE (lo+lo') (hi+hi')):=by
 intro W hs ht
 obtain⟨c1,c2,fj⟩:=flt0 hE;obtain⟨p1,p2,p3,p4⟩:=chk_ok hs c1;obtain⟨r1,r2,r3,r4⟩:=chk_ok ht c2;subst FE Ka Ko Kb;replace p1:SpAt W s 250 (loZ s d) (hiZ s e):=p1;replace r1:SpAt W t 250 (loZ t d') (hiZ t e'):=r1;have hl:loZ s d<=hiZ s e:=p4;have hl':loZ t d'<=hiZ t e':=r4;refine zUE W s t d e d' e' hs ht _ _ _ _ _ λ W1 B0 B1 B cap hB hA hG hS=>?_
 exact zJ6 _ _ B W1 _ _ _ 2 cap (by omega) hS (λ z hz=>by rw[flt_pr hz,hE]) s.bits 600 _ _
  (λ w' hb=>(zQU w' B0 B1 s t 250 _ _ _ _ ((p1.bw hB).bw hb) ((r1.bw hB).bw hb) (by omega) (hA.bw hb) (hG.bw hb)).mono λ r w2 h=>h.mono (by omega)) (by omega) p2 p3
structure NmC (w:World) (B:Nat) (x:Nm):Prop where
 c0:w.cell? ⟨B,0,none⟩=some (.bool x.neg)
 c1:w.cell? ⟨B,1,none⟩=some (.slice x.a x.n x.cap)
theorem NmC.lt {w:World} {B:Nat} {x:Nm} (h:NmC w B x):B<w.heap.size:=World.block_lt_of_cell? w ⟨B,0,none⟩ h.c0
theorem NmC.bw {w w':World} {B:Nat} {x:Nm} (h:NmC w B x) (hb:Below w.heap.size w w'):NmC w' B x :=
 ⟨(hb.cell (p:=⟨B,0,none⟩) h.lt).trans h.c0,(hb.cell (p:=⟨B,1,none⟩) h.lt).trans h.c1⟩
theorem zDC (w:World) (x:Nm) (T:TypeId):NmC (w.alloc (.cells x.q T)) w.heap.size x:=⟨by simp,by simp⟩
structure NoI (w:World) (B:Nat):Prop where
 c0:w.cell? ⟨B,0,none⟩=some (.bool false)
 c1:w.cell? ⟨B,1,none⟩=some (.slice none 0 0)
 fz:∀ o,w.frozen? ⟨B,o,none⟩=false
theorem NoI.lt {w:World} {B:Nat} (h:NoI w B):B<w.heap.size:=World.block_lt_of_cell? w ⟨B,0,none⟩ h.c0
theorem NoI.bw {w w':World} {B:Nat} (h:NoI w B) (hb:Below w.heap.size w w'):NoI w' B :=
 ⟨(hb.cell (p:=⟨B,0,none⟩) h.lt).trans h.c0,(hb.cell (p:=⟨B,1,none⟩) h.lt).trans h.c1,λ o=>(hb.frozen (p:=⟨B,o,none⟩) h.lt).trans (h.fz o)⟩
theorem zE2 {B B':Nat} {a w:World} (h:Below B a w) (hB:B<=B') (u0 u1:Value):Below B a ((w.setCell ⟨B',0,none⟩ u0).setCell ⟨B',1,none⟩ u1) :=
 (h.setCell (p:=⟨B',0,none⟩) hB u0).setCell (p:=⟨B',1,none⟩) hB u1
def zDV (w:World) (k:Nat) (z:Int) (r:Ending) (w':World):Prop :=
 ∃ m9 a' n' o7,r=.returned (.agg #[.bool m9,.slice a' n' o7])/\IntAt w' m9 a' n' o7 k z/\Below w.heap.size w w'
theorem zKN (neg j7:Bool) (a c:Option Addr) (n m cap j9 k k2:Nat) (x y:Int) (w:World) (h1:IntAt w neg a n cap k x) (h2:IntAt w j7 c m j9 k2 y) (hk:k<=700000000) (cn:k2<=100000000) (cB:∀ w',IntAt w' neg a n cap k x->IntAt w' j7 c m j9 k2 y->Calls Tryz.prog 126 #[.agg #[.bool neg,.slice a n cap],.agg #[.bool j7,.slice c m j9]] w' (zAQ w' k (x/y))) :
  Calls Tryz.prog 84 #[.agg #[.bool neg,.slice a n cap],.agg #[.bool j7,.slice c m j9]] w (zDV w (k+8) (x/y)):=by
 have HF:=zC cB;clear cB;have le2:w.heap.size<=w.heap.size+1+1:=by omega
 go_enter Tryz.func84,Tryz.ntmps84
 go_wp2_with fail;refine (zA HF _ (h1.bw (bl3 _ _ _ _)) (h2.bw (bl3 _ _ _ _))).mono ?_;rintro r w1 ⟨m7,a1,n1,c1,rfl,o8,b9⟩;obtain⟨A8,C7,D3⟩:=jC (w.heap.size+1+1+1) (by simp) b9
 go_wp2_with fail;have q0:w1.cell? ⟨w.heap.size+1+1,0,none⟩=some (.bool false):=by simp[C7,go_sem]
 have q1:w1.cell? ⟨w.heap.size+1+1,1,none⟩=some (.slice none 0 0):=by simp[C7,go_sem]
 refine bodyPost_ret (v:=.agg #[.bool m7,.slice a1 n1 c1]) (by simp[results,Tryz.results84,go_sem,q0,q1]) rfl ⟨m7,a1,n1,c1,rfl,o8.put2 q0 q1 _ _,?_⟩
 exact zE2 (zB (bl3 _ _ _ _) b9) le2 _ _
theorem ceil_up {x y:Int} (hy:0<y) (h:x/y*y<x):x/y+1 = -(-x/y):=by
 have h1:=Int.mul_ediv_add_emod x y;have h2:=Int.mul_ediv_add_emod (-x) y;have h3:=Int.emod_lt_of_pos x hy;have h4:=Int.emod_nonneg (-x) (show y≠0 by omega)
 have h5:=Int.emod_lt_of_pos (-x) hy;rw[Int.mul_comm y] at h1 h2;generalize x/y=p at *;generalize -x/y=q at *;generalize x % y=r at *;generalize -x % y=t at *;have h6:(p+q)*y=p*y+q*y:=Int.add_mul _ _ _
 have h7:p+q<0:=by
  rcases Int.lt_or_le (p+q) 0 with h|h
  ·exact h
  ·have:=Yz h (show 0<=y by omega);omega
 have h8 : -2<p+q:=by
  rcases Int.lt_or_le (-2) (p+q) with h|h
  ·exact h
  ·have:=Yt h (show 0<=y by omega);omega
 omega
theorem zRK {x y:Int} (hy:0<y) (h:¬ x/y*y<x):x/y = -(-x/y):=by
 have h1:=Int.mul_ediv_add_emod x y;have h3:=Int.emod_nonneg x (show y≠0 by omega)
 rw[Int.mul_comm y] at h1;have h4:x=x/y*y:=by omega
 have h5 : -x = -(x/y)*y:=by rw[Int.neg_mul];omega
 rw[h5,Int.mul_ediv_cancel _ (show y≠0 by omega)];omega
theorem zPX (neg j7:Bool) (a c:Option Addr) (n m cap j9 k k2:Nat) (x y:Int) (w:World) (h1:IntAt w neg a n cap k x) (h2:IntAt w j7 c m j9 k2 y) (hk:k<=700000000) (cn:k2<=100000000) (hy:0<y) (cB:∀ w',IntAt w' neg a n cap k x->IntAt w' j7 c m j9 k2 y->Calls Tryz.prog 126 #[.agg #[.bool neg,.slice a n cap],.agg #[.bool j7,.slice c m j9]] w' (zAQ w' k (x/y))) :
  Calls Tryz.prog 85 #[.agg #[.bool neg,.slice a n cap],.agg #[.bool j7,.slice c m j9]] w (zDV w (k+9) (-(-x/y))):=by
 have HF:=zC cB;clear cB
 by_cases D9:x/y*y<x
 ·have t1:zM (x/y*y) x<0:=by simp[zM,D9]
  have HE:=zC (ceil_up hy D9);clear D9
  go_enter Tryz.func85,Tryz.ntmps85
  go_wp2_with fail;refine (zA HF _ (h1.bw (bl3 _ _ _ _)) (h2.bw (bl3 _ _ _ _))).mono ?_;rintro r w1 ⟨m7,a1,n1,c1,rfl,o8,b9⟩;have cA:Below w.heap.size w w1:=zB (bl3 _ _ _ _) b9;obtain⟨A8,C7,D3⟩:=jC (w.heap.size+1+1+1) (by simp) b9
  have A:NmC w1 w.heap.size ⟨neg,a,n,cap⟩:=⟨by simp[C7,go_sem],by simp[C7,go_sem]⟩
  have G:NmC w1 (w.heap.size+1) ⟨j7,c,m,j9⟩:=⟨by simp[C7,go_sem],by simp[C7,go_sem]⟩
  have R:NoI w1 (w.heap.size+1+1):=⟨by simp[C7,go_sem],by simp[C7,go_sem],λ o=>by simp[D3,go_sem]⟩
  have De:=R.lt;clear C7 D3 b9 A8;obtain⟨W1,cf⟩:∃ W',W'=w1.alloc (.cells #[.bool m7,.slice a1 n1 c1] 29):=⟨_,rfl⟩;have E5:Below w1.heap.size w1 W1:=by rw[cf];exact bl1 _ _
  have X:NmC W1 w1.heap.size ⟨m7,a1,n1,c1⟩:=by rw[cf];exact zDC w1 ⟨m7,a1,n1,c1⟩ _
  replace A:=A.bw E5;replace G:=G.bw E5;replace R:=R.bw E5;have o9:=zB cA E5;have HX:=zC (h1.bw o9);have HY:=zC (h2.bw o9);replace o8:=zC (o8.bw E5);have lR:=R.lt;have lX:=X.lt;have nR:w1.heap.size≠w.heap.size+1+1:=YC De;have Lp:w.heap.size+1+1≠w1.heap.size:=λ e=>nR e.symm
  have E2:Below W1.heap.size W1 W1.drew:=(Below.refl _ _).drew
  have HK:=zC (show ∀ w',Below W1.heap.size W1 w'->(w'.cell? ⟨w.heap.size,0,none⟩=some (.bool neg)/\w'.cell? ⟨w.heap.size,1,none⟩=some (.slice a n cap)/\w'.cell? ⟨w.heap.size+1,0,none⟩=some (.bool j7)/\w'.cell? ⟨w.heap.size+1,1,none⟩=some (.slice c m j9)/\w'.cell? ⟨w1.heap.size,0,none⟩=some (.bool m7)/\w'.cell? ⟨w1.heap.size,1,none⟩=some (.slice a1 n1 c1)) from λ w' hB =>
   ⟨(A.bw hB).c0,(A.bw hB).c1,(G.bw hB).c0,(G.bw hB).c1,(X.bw hB).c0,(X.bw hB).c1⟩)
  go_wp2;rw[<- cf];clear cf;obtain⟨j0,j1,j2,j3,j4,j5⟩:=zA HK _ (Below.refl _ _)
  go_region_held3 (λ w'=>w'.cell? ⟨w.heap.size,0,none⟩=some (.bool neg)/\w'.cell? ⟨w.heap.size,1,none⟩=some (.slice a n cap)/\w'.cell? ⟨w.heap.size+1,0,none⟩=some (.bool j7)/\w'.cell? ⟨w.heap.size+1,1,none⟩=some (.slice c m j9)/\w'.cell? ⟨w1.heap.size,0,none⟩=some (.bool m7)/\w'.cell? ⟨w1.heap.size,1,none⟩=some (.slice a1 n1 c1)) (exact zA HK _ (by with_reducible first|exact E2|exact M6|exact G3))
   (first
    | (go_at_call 83;refine (zV _ _ _ _ _ _ _ _ (k+8) k2 (x/y) y _ ((zA o8).bw E2) ((zA HY).bw E2) (by omega) (by omega)).mono ?_;rintro r w4 ⟨E4,a4,n4,c4,rfl,H8,p9⟩;have G3:=zB E2 p9)
    | (go_at_call 17;refine (jP _ _ _ _ _ _ _ _ (k+8+k2) k (x/y*y) x _ H8 ((zA HX).bw G3)).mono ?_;rintro r w5 ⟨rfl,D8⟩;have M6:=zB G3 D8))
  clear j0 j1 j2 j3 j4 j5;have X5:=X.bw M6;have R5:=R.bw M6;have lR5:=R5.lt;have lX5:=X5.lt;obtain⟨j4,j5⟩:=X5;obtain⟨q0,q1,q2⟩:=R5;have D5:Below w5.heap.size w5 w5.drew:=(Below.refl _ _).drew;have X5:NmC w5 w1.heap.size ⟨m7,a1,n1,c1⟩:=⟨j4,j5⟩;have R5:NoI w5 (w.heap.size+1+1):=⟨q0,q1,q2⟩;have yq:=zC (show ∀ w',Below w5.heap.size w5 w'->(w'.cell? ⟨w1.heap.size,0,none⟩=some (.bool m7)/\w'.cell? ⟨w1.heap.size,1,none⟩=some (.slice a1 n1 c1)) from λ w' hB=>⟨(X5.bw hB).c0,(X5.bw hB).c1⟩)
  go_wp2
  go_region_held3 (λ w'=>w'.cell? ⟨w1.heap.size,0,none⟩=some (.bool m7)/\w'.cell? ⟨w1.heap.size,1,none⟩=some (.slice a1 n1 c1)) (first|exact zA yq _ (by with_reducible first|exact D5|exact qx|exact tz)|go_keep)
   (first
    | (go_at_call 33;refine (zD 1 _ (by decide) (by decide)).mono ?_;rintro r w6 ⟨dJ,a6,n6,c6,rfl,cX,K7⟩;have tz:=zB D5 K7)
    | (go_at_call 32;refine (zA3 _ _ _ _ _ _ _ _ (k+8) 4 (x/y) 1 _ (((zA o8).bw M6).bw tz) cX (by omega) (by omega)).mono ?_;rintro r w7 ⟨iF,a7,n7,c7,rfl,lK,Q7⟩;have qx:=zB tz Q7;obtain⟨p0,p1,p2⟩:=R5.bw qx;obtain⟨i0,i1⟩:=zA yq _ qx))
  go_wp2;refine bodyPost_ret (v:=.agg #[.bool iF,.slice a7 n7 c7]) (by simp[results,Tryz.results85,go_sem,p0,p1]) rfl ⟨iF,a7,n7,c7,rfl,?_,?_⟩
  ·rw[zA HE] at lK
   exact (lK.put2 p0 p1 _ _).mono (by omega)
  ·exact zE2 (zB (zB o9 M6) qx) (by omega) _ _
 ·have t1:¬ zM (x/y*y) x<0:=zG6 D9
  have HE:=zC (zRK hy D9);clear D9
  go_enter Tryz.func85,Tryz.ntmps85
  go_wp2_with fail;refine (zA HF _ (h1.bw (bl3 _ _ _ _)) (h2.bw (bl3 _ _ _ _))).mono ?_;rintro r w1 ⟨m7,a1,n1,c1,rfl,o8,b9⟩;have cA:Below w.heap.size w w1:=zB (bl3 _ _ _ _) b9;obtain⟨A8,C7,D3⟩:=jC (w.heap.size+1+1+1) (by simp) b9
  have A:NmC w1 w.heap.size ⟨neg,a,n,cap⟩:=⟨by simp[C7,go_sem],by simp[C7,go_sem]⟩
  have G:NmC w1 (w.heap.size+1) ⟨j7,c,m,j9⟩:=⟨by simp[C7,go_sem],by simp[C7,go_sem]⟩
  have R:NoI w1 (w.heap.size+1+1):=⟨by simp[C7,go_sem],by simp[C7,go_sem],λ o=>by simp[D3,go_sem]⟩
  have De:=R.lt;clear C7 D3 b9 A8;obtain⟨W1,cf⟩:∃ W',W'=w1.alloc (.cells #[.bool m7,.slice a1 n1 c1] 29):=⟨_,rfl⟩;have E5:Below w1.heap.size w1 W1:=by rw[cf];exact bl1 _ _
  have X:NmC W1 w1.heap.size ⟨m7,a1,n1,c1⟩:=by rw[cf];exact zDC w1 ⟨m7,a1,n1,c1⟩ _
  replace A:=A.bw E5;replace G:=G.bw E5;replace R:=R.bw E5;have o9:=zB cA E5;have HX:=zC (h1.bw o9);have HY:=zC (h2.bw o9);replace o8:=zC (o8.bw E5);have lR:=R.lt;have lX:=X.lt;have nR:w1.heap.size≠w.heap.size+1+1:=YC De;have Lp:w.heap.size+1+1≠w1.heap.size:=λ e=>nR e.symm
  have E2:Below W1.heap.size W1 W1.drew:=(Below.refl _ _).drew
  have HK:=zC (show ∀ w',Below W1.heap.size W1 w'->(w'.cell? ⟨w.heap.size,0,none⟩=some (.bool neg)/\w'.cell? ⟨w.heap.size,1,none⟩=some (.slice a n cap)/\w'.cell? ⟨w.heap.size+1,0,none⟩=some (.bool j7)/\w'.cell? ⟨w.heap.size+1,1,none⟩=some (.slice c m j9)/\w'.cell? ⟨w1.heap.size,0,none⟩=some (.bool m7)/\w'.cell? ⟨w1.heap.size,1,none⟩=some (.slice a1 n1 c1)) from λ w' hB =>
   ⟨(A.bw hB).c0,(A.bw hB).c1,(G.bw hB).c0,(G.bw hB).c1,(X.bw hB).c0,(X.bw hB).c1⟩)
  go_wp2;rw[<- cf];clear cf;obtain⟨j0,j1,j2,j3,j4,j5⟩:=zA HK _ (Below.refl _ _)
  go_region_held3 (λ w'=>w'.cell? ⟨w.heap.size,0,none⟩=some (.bool neg)/\w'.cell? ⟨w.heap.size,1,none⟩=some (.slice a n cap)/\w'.cell? ⟨w.heap.size+1,0,none⟩=some (.bool j7)/\w'.cell? ⟨w.heap.size+1,1,none⟩=some (.slice c m j9)/\w'.cell? ⟨w1.heap.size,0,none⟩=some (.bool m7)/\w'.cell? ⟨w1.heap.size,1,none⟩=some (.slice a1 n1 c1)) (exact zA HK _ (by with_reducible first|exact E2|exact M6|exact G3))
   (first
    | (go_at_call 83;refine (zV _ _ _ _ _ _ _ _ (k+8) k2 (x/y) y _ ((zA o8).bw E2) ((zA HY).bw E2) (by omega) (by omega)).mono ?_;rintro r w4 ⟨E4,a4,n4,c4,rfl,H8,p9⟩;have G3:=zB E2 p9)
    | (go_at_call 17;refine (jP _ _ _ _ _ _ _ _ (k+8+k2) k (x/y*y) x _ H8 ((zA HX).bw G3)).mono ?_;rintro r w5 ⟨rfl,D8⟩;have M6:=zB G3 D8))
  clear j0 j1 j2 j3 j4 j5;have X5:=X.bw M6;have R5:=R.bw M6;have lR5:=R5.lt;have lX5:=X5.lt;obtain⟨j4,j5⟩:=X5;obtain⟨q0,q1,q2⟩:=R5;go_wp2;refine bodyPost_ret (v:=.agg #[.bool m7,.slice a1 n1 c1]) (by simp[results,Tryz.results85,go_sem,q0,q1]) rfl ⟨m7,a1,n1,c1,rfl,?_,?_⟩
  ·replace o8:=(zA o8).bw M6
   rw[zA HE] at o8;exact (o8.put2 q0 q1 _ _).mono (by omega)
  ·exact zE2 (zB o9 M6) (by omega) _ _
theorem kB (w:World) (T:TypeId):NoI (w.alloc (.cells #[.bool false,.slice none 0 0] T)) w.heap.size:=⟨by simp,by simp,λ o=>by simp[go_sem]⟩
theorem zC0 (neg j7:Bool) (a c:Option Addr) (n m cap j9 k k2 b:Nat) (x y:Int) (w:World) (h1:IntAt w neg a n cap k x) (h2:IntAt w j7 c m j9 k2 y) (hk:k<=600000000) (cn:k2<=100000000) (hb:b<=100000) (hy:0<y)
  (cB:∀ m9 a' n' o7 w',IntAt w' m9 a' n' o7 (k+b/16+5) (x*Q b)->IntAt w' j7 c m j9 k2 y->Calls Tryz.prog 126 #[.agg #[.bool m9,.slice a' n' o7],.agg #[.bool j7,.slice c m j9]] w' (zAQ w' (k+b/16+5) (x*Q b/y))) :
  Calls Tryz.prog 43 #[.agg #[.bool neg,.slice a n cap],.agg #[.bool j7,.slice c m j9],.int .i64 b] w (zH w b (k+b/16+14) (x*Q b/y) (-(-(x*Q b)/y))):=by
 have HF:=zC cB;clear cB;obtain⟨W,hW⟩:∃ W,W=((w.alloc (.cells #[.bool neg,.slice a n cap] 29)).alloc (.cells #[.bool j7,.slice c m j9] 29)).alloc (.cells zCq 38):=⟨_,rfl⟩;have j6:Below w.heap.size w W:=by rw[hW];exact bl3 _ _ _ _
 have A:NmC W w.heap.size ⟨neg,a,n,cap⟩:=by rw[hW];constructor<;>simp[go_sem]
 have G:NmC W (w.heap.size+1) ⟨j7,c,m,j9⟩:=by rw[hW];constructor<;>simp[go_sem]
 have R:NoC W (w.heap.size+1+1):=by rw[hW];constructor<;>simp[go_sem]
 have HX:=zC (h1.bw j6);have HY:=zC (h2.bw j6);have HK:=zC (show ∀ w',Below W.heap.size W w'->(w'.cell? ⟨w.heap.size,0,none⟩=some (.bool neg)/\w'.cell? ⟨w.heap.size,1,none⟩=some (.slice a n cap)) from λ w' hB=>⟨(A.bw hB).c0,(A.bw hB).c1⟩)
 go_enter Tryz.func43,Tryz.ntmps43
 go_wp2;rw[<- hW];clear hW;obtain⟨i0,i1⟩:=A;have lW:=G.lt;have lR:=R.lt
 go_cut [7] (λ p wx=>VarAt wx p W.heap.size (k+b/16+5) (x*Q b)/\Below W.heap.size W wx)
 case first =>
  go_region_held3 (λ w'=>w'.cell? ⟨w.heap.size,0,none⟩=some (.bool neg)/\w'.cell? ⟨w.heap.size,1,none⟩=some (.slice a n cap)) (exact zA HK _ (by repeat' (first|with_reducible exact Q1|with_reducible exact J9|with_reducible exact Below.refl _ _|with_reducible refine Below.drew ?_|with_reducible refine zL ?_ _|with_reducible refine Below.setCell ?_ (by first|exact Yy _|exact aM|exact aN) _)))
   (first
    | (go_at_call 83;have hq:=J9;refine (zV _ _ _ _ _ _ _ _ k (b/16+5) x (Q b) _ ((zA HX).bw (by with_reducible first|exact J9|exact zL J9 _)) (Q5.bw (by with_reducible first|exact Below.refl _ _|exact bl1 _ _)) (by omega) (by omega)).mono ?_;rintro r na ⟨rW,Pz,SG,PN,rfl,hO,aG⟩;have ax:Below gM.heap.size gM na:=(by with_reducible first|exact aG|exact zB (bl1 _ _) aG);have Q1:=zB J9 ax;(try with_reducible have iL:=(kB gM 29).bw aG);replace Q5:=Q5.bw ax;(try replace cx:=cx.bw ax);have aN:=Q1.size;(try have rP:=cx.lt);(try have Qa:=YD rP);(try have BV:=YC rP);(try obtain⟨Ez,EA,EB⟩:=cx);(try have rQ:=iL.lt);(try have Qb:=YD rQ);(try have BW:=YC rQ);(try obtain⟨EC,ED,EE⟩:=iL))
    | (go_at_call 82;refine (zDQ b _ (by omega)).mono ?_;rintro r gM ⟨rV,Py,SF,PM,rfl,Q5,aC⟩;have J9:Below W.heap.size W gM:=(by with_reducible first|exact zB (Below.refl _ _).drew aC|exact zB (bl1 _ _).drew aC);(try with_reducible have cx:=((kB W 29).bw (Below.refl _ _).drew).bw aC);have aM:=J9.size))
  all_goals
   go_wp2_with fail;go_meet;refine⟨⟨_,⟨rW,Pz,SG,PN⟩,rfl,?_,?_,?_,?_,?_⟩,?_⟩
   ·simp[go_sem, *]
   ·simp[go_sem, *]
   ·first|with_reducible exact IntAt.mono (hO.bw (bl1 _ _)) (by omega)|with_reducible exact IntAt.mono (hO.put2 (by assumption) (by assumption) _ _) (by omega)
   ·first|exact Yy _|exact aM|exact aN
   ·simp[World.setCell];try omega
   ·repeat' (first|with_reducible exact Q1|with_reducible exact J9|with_reducible exact Below.refl _ _|with_reducible refine Below.drew ?_|with_reducible refine zL ?_ _|with_reducible refine Below.setCell ?_ (by first|exact Yy _|exact aM|exact aN) _)
 case rest =>
 obtain⟨⟨BX,xX,rfl,Ap,Aq,nZ,zn,hltX⟩,hblX⟩:=hcut;have XX:NmC wc BX xX:=⟨Ap,Aq⟩;clear i0 i1 HK;replace G:=G.bw hblX;replace R:=R.bw hblX;replace HY:=zC ((zA HY).bw hblX);replace nZ:=zC nZ;have Z6:=R.lt;have Le:=XX.lt;have nR:BX≠w.heap.size+1+1:=YC (YB lR zn);have Lp:w.heap.size+1+1≠BX:=λ e=>nR e.symm
 have dX:=zB j6 hblX;have D5:Below wc.heap.size wc wc.drew:=(Below.refl _ _).drew;have HK:=zC (show ∀ w',Below wc.heap.size wc w'->(nK w' BX xX (w'.cell? ⟨w.heap.size+1,0,none⟩=some (.bool j7)/\w'.cell? ⟨w.heap.size+1,1,none⟩=some (.slice c m j9))) from λ w' hB=>⟨(XX.bw hB).c0,(XX.bw hB).c1,(G.bw hB).c0,(G.bw hB).c1⟩)
 obtain⟨i2,i3⟩:=G;go_wp2
 go_region_held3 (λ w'=>nK w' BX xX (w'.cell? ⟨w.heap.size+1,0,none⟩=some (.bool j7)/\w'.cell? ⟨w.heap.size+1,1,none⟩=some (.slice c m j9))) (first|exact zA HK _ (by with_reducible first|exact D5|exact s9|exact y9)|(dsimp only[cK,cK0,nK,nK0,rK,rK0];go_keep)|go_keep)
  (first
   | (go_at_call 84;refine (zKN _ _ _ _ _ _ _ _ (k+b/16+5) k2 (x*Q b) y _ ((zA nZ).bw D5) ((zA HY).bw D5) (by omega) (by omega) (λ w' p q=>zA HF _ _ _ _ w' p q)).mono ?_;rintro r w1 ⟨m7,a1,n1,c1,rfl,o8,b9⟩;have y9:=zB D5 b9)
   | (go_at_call 85;refine (zPX _ _ _ _ _ _ _ _ (k+b/16+5) k2 (x*Q b) y _ ((zA nZ).bw y9) ((zA HY).bw y9) (by omega) (by omega) hy (λ w' p q=>zA HF _ _ _ _ w' p q)).mono ?_;rintro r w2 ⟨B9,a3,n3,c3,rfl,E7,j8⟩;replace o8:=o8.bw j8;have s9:=zB y9 j8;obtain⟨q0,q1,q2,q3,q4,q5⟩:=R.bw s9;obtain⟨d0,d1,d2,d3⟩:=zA HK _ s9))
 go_wp2;refine bodyPost_ret (v:=.agg #[.bool m7,.slice a1 n1 c1,.bool B9,.slice a3 n3 c3,.int .i64 b]) (by simp[results,Tryz.results43,go_sem,q0,q1,q2,q3,q4]) rfl ⟨⟨m7,a1,n1,c1,B9,a3,n3,c3,b⟩,rfl,rfl,?_,?_⟩
 ·exact SpAt.put5 ⟨o8.mono (by omega),E7.mono (by omega)⟩ q0 q1 q2 q3 q4 _ _ _ _ _
 ·exact jV (zB dX s9) (by omega) _ _ _ _ _
end Go.Proofs.YtgmnknmjainabacGreat
