/-
  Its own texts.
-/
import Derived.Test.YtgmnknmjainabacGreatH08
set_option maxRecDepth 100000
set_option maxHeartbeats 40000000
set_option linter.unnecessarySimpa false
set_option linter.unusedSimpArgs false
set_option linter.unusedVariables false
namespace Go.Proofs.YtgmnknmjainabacGreat
open Go.RowKit
attribute [local go_sem ↓] Go.wp_at_zero Go.wp_at_succ
theorem zKT (w:World) (s:Sp) (neg j6:Bool) (a c:Option Addr) (n m cap m8 k k1 k2:Nat) (lo hi x y:Int) (hs:SpAt w s k lo hi) (h1:IntAt w neg a n cap k1 x) (h2:IntAt w j6 c m m8 k2 y) (hk:k<=300000000) (W6:k1<=300000000) (hy:0<y) :
  Calls Tryz.prog 151 #[.agg s.q,.agg #[.bool neg,.slice a n cap],.agg #[.bool j6,.slice c m m8]] w (zG w s.bits (k+k1+10) (lo*x/y) (-(-(hi*x)/y))):=by
 obtain⟨W,hW⟩:∃ W,W=(((w.alloc (.cells s.q 31)).alloc (.cells #[.bool neg,.slice a n cap] 29)).alloc (.cells #[.bool j6,.slice c m m8] 29)).alloc (.cells zCq 31):=⟨_,rfl⟩;have j8:Below w.heap.size w W:=by rw[hW];exact bl4 _ _ _ _ _
 have A:SpC W w.heap.size s:=by rw[hW];constructor<;>simp[go_sem]
 have X:NmC W (w.heap.size+1) ⟨neg,a,n,cap⟩:=by rw[hW];constructor<;>simp[go_sem]
 have Y:NmC W (w.heap.size+1+1) ⟨j6,c,m,m8⟩:=by rw[hW];constructor<;>simp[go_sem]
 have R:NoC W (w.heap.size+1+1+1):=by rw[hW];constructor<;>simp[go_sem]
 have HS:=zC (hs.bw j8);have HX:=zC (h1.bw j8);have HY:=zC (h2.bw j8);have lR:=R.lt;have HK:=zC (show ∀ w',Below W.heap.size W w'->(cK w' w.heap.size s (w'.cell? ⟨w.heap.size+1,0,none⟩=some (.bool neg)/\w'.cell? ⟨w.heap.size+1,1,none⟩=some (.slice a n cap)/\w'.cell? ⟨w.heap.size+1+1,0,none⟩=some (.bool j6)/\w'.cell? ⟨w.heap.size+1+1,1,none⟩=some (.slice c m m8))) from λ w' hB=>⟨(A.bw hB).c0,(A.bw hB).c1,(A.bw hB).c2,(A.bw hB).c3,(A.bw hB).c4,(X.bw hB).c0,(X.bw hB).c1,(Y.bw hB).c0,(Y.bw hB).c1⟩)
 clear A X Y hs h1 h2
 go_enter Tryz.func151,Tryz.ntmps151
 go_wp2;rw[<- hW];clear hW;have n02:w.heap.size≠w.heap.size+1+1:=by omega
 have n20:w.heap.size+1+1≠w.heap.size:=by omega
 have n03:w.heap.size≠w.heap.size+1+1+1:=by omega
 have n30:w.heap.size+1+1+1≠w.heap.size:=by omega
 have n13:w.heap.size+1≠w.heap.size+1+1+1:=by omega
 have n31:w.heap.size+1+1+1≠w.heap.size+1:=by omega
 have n23:w.heap.size+1+1≠w.heap.size+1+1+1:=by omega
 have n32:w.heap.size+1+1+1≠w.heap.size+1+1:=by omega
 obtain⟨x0,x1,x2,x3,x4,x5,x6,x7,x8⟩:=zA HK _ (Below.refl _ _);have D5:Below W.heap.size W W.drew:=(Below.refl _ _).drew
 go_region_held3 (λ w'=>cK w' w.heap.size s (w'.cell? ⟨w.heap.size+1,0,none⟩=some (.bool neg)/\w'.cell? ⟨w.heap.size+1,1,none⟩=some (.slice a n cap)/\w'.cell? ⟨w.heap.size+1+1,0,none⟩=some (.bool j6)/\w'.cell? ⟨w.heap.size+1+1,1,none⟩=some (.slice c m m8))) (first|exact zA HK _ (by with_reducible first|exact D5|exact I5|exact F9|exact p9|exact s9)|(dsimp only[cK,cK0,nK,nK0,rK,rK0];go_keep)|go_keep)
  (first
   | (go_at_call 127;have hq:=F9;refine (zHY _ _ _ _ _ _ _ _ (k+k1) k2 (hi*x) y _ G0 ((zA HY).bw F9) (by omega) hy).mono ?_;rintro r' w4 ⟨E6,a4,n4,c4,rfl,I2,y9⟩;have I5:=zB F9 y9;replace A5:=(A5.bw o7).bw y9;obtain⟨q0,q1,q2,q3,q4,q5⟩:=R.bw I5;obtain⟨y0,y1,y2,y3,y4,y5,y6,y7,y8⟩:=zA HK _ I5)
   | (go_at_call 83;have hq:=p9;refine (zX _ _ _ _ _ _ _ _ k k1 hi x _ ((zA HS).hi.bw p9) ((zA HX).bw p9) (by omega) (by omega)).mono ?_;rintro r' w3 ⟨B8,a3,n3,c3,rfl,G0,o7⟩;have F9:=zB p9 o7)
   | (go_at_call 126;have hq:=s9;refine (zAB _ _ _ _ _ _ _ _ (k+k1) k2 (lo*x) y _ o8 ((zA HY).bw s9) (by omega) hy).mono ?_;rintro r' w2 ⟨mH,a2,n2,c2,rfl,A5,j7⟩;have p9:=zB s9 j7)
   | (go_at_call 83;refine (zX _ _ _ _ _ _ _ _ k k1 lo x _ ((zA HS).lo.bw D5) ((zA HX).bw D5) (by omega) (by omega)).mono ?_;rintro r' w1 ⟨m9,a1,n1,c1,rfl,o8,b9⟩;have s9:=zB D5 b9))
 all_goals
  go_wp2_with fail;refine bodyPost_ret (v:=.agg #[.bool mH,.slice a2 n2 c2,.bool E6,.slice a4 n4 c4,.int .i64 s.bits]) (by simp[results,Tryz.results151,go_sem,q0,q1,q2,q3,q4]) rfl ⟨⟨mH,a2,n2,c2,E6,a4,n4,c4,s.bits⟩,rfl,rfl,?_,?_⟩
  ·exact SpAt.put5 ⟨A5.mono (by omega),I2.mono (by omega)⟩ q0 q1 q2 q3 q4 _ _ _ _ _
  ·exact jS (zB j8 I5) (by omega) _ _ _ _ _
theorem zS0 (w:World) (s:Sp) (k:Nat) (d lo hi:Int) (hs:SpAt w s k lo hi) (hk:k<=300000000) (hd:0<d) (nG:d<=9223372036854775807) :
  Calls Tryz.prog 123 #[.agg s.q,.int .i64 d] w (zG w s.bits (k+14) (lo*1/d) (-(-(hi*1)/d))):=by
 obtain⟨W,hW⟩:∃ W,W=(w.alloc (.cells s.q 31)).alloc (.cells zCq 31):=⟨_,rfl⟩;have j8:Below w.heap.size w W:=by rw[hW];exact bl2 _ _ _
 have A:SpC W w.heap.size s:=by rw[hW];constructor<;>simp[go_sem]
 have R:NoC W (w.heap.size+1):=by rw[hW];constructor<;>simp[go_sem]
 have HS:=zC (hs.bw j8);have lR:=R.lt;have HK:=zC (show ∀ w',Below W.heap.size W w'->(cK0 w' w.heap.size s) from λ w' hB=>⟨(A.bw hB).c0,(A.bw hB).c1,(A.bw hB).c2,(A.bw hB).c3,(A.bw hB).c4⟩)
 clear A hs
 go_enter Tryz.func123,Tryz.ntmps123
 go_wp2;rw[<- hW];clear hW;have Kh:w.heap.size≠w.heap.size+1:=by omega
 have Dn:w.heap.size+1≠w.heap.size:=by omega
 obtain⟨x0,x1,x2,x3,x4⟩:=zA HK _ (Below.refl _ _);have D5:Below W.heap.size W W.drew:=(Below.refl _ _).drew
 go_region_held3 (λ w'=>cK0 w' w.heap.size s) (first|exact zA HK _ (by with_reducible first|exact D5|exact F9|exact p9|exact s9)|(dsimp only[cK,cK0,nK,nK0,rK,rK0];go_keep)|go_keep)
  (first
   | (go_at_call 151;have hq:=p9;refine (zKT _ s _ _ _ _ _ _ _ _ k 4 4 lo hi 1 d ((zA HS).bw p9) (o8.bw j7) A5 (by omega) (by omega) hd).mono ?_;rintro r' w3 ⟨u,rfl,A8,C7,o7⟩;have HU:=zC A8;clear A8;have F9:=zB p9 o7;obtain⟨q0,q1,q2,q3,q4,q5⟩:=R.bw F9;obtain⟨y0,y1,y2,y3,y4⟩:=zA HK _ F9)
   | (go_at_call 33;have hq:=s9;refine (zD d _ (by omega) nG).mono ?_;rintro r' w2 ⟨j6,a2,n2,c2,rfl,A5,j7⟩;have p9:=zB s9 j7)
   | (go_at_call 33;refine (zD 1 _ (by decide) (by decide)).mono ?_;rintro r' w1 ⟨m9,a1,n1,c1,rfl,o8,b9⟩;have s9:=zB D5 b9))
 all_goals
  go_wp2_with fail;refine bodyPost_ret (v:=.agg u.q) (by simp[results,Tryz.results123,go_sem,q0,q1,q2,q3,q4]) rfl ⟨u,rfl,zA HU,?_,?_⟩
  ·exact SpAt.put5 (C7.mono (by omega)) q0 q1 q2 q3 q4 _ _ _ _ _
  ·exact jS (zB j8 F9) (Nat.le_succ _) _ _ _ _ _
theorem zC8 (w:World) (b:Nat) (hb:b<=1000000):Calls Tryz.prog 93 #[.int .i64 b] w (zG w b (b/16+24) (1*Q b/1) (-(-(1*Q b)/1))):=by
 go_enter Tryz.func93,Tryz.ntmps93
 go_wp2_with fail;refine (zD 1 _ (by decide) (by decide)).mono ?_
 rintro r' w1 ⟨m9,a1,n1,c1,rfl,o8,b9⟩;have R:=(zS w 31).bw b9;have hB:Below w.heap.size w w1:=zB (bl1 _ _) b9;clear b9;go_wp2_with fail;refine (zD 1 _ (by decide) (by decide)).mono ?_
 rintro r' w2 ⟨j6,a2,n2,c2,rfl,A5,j7⟩;replace R:=R.bw j7;replace hB:=zB hB j7;replace o8:=o8.bw j7;clear j7;go_wp2_with fail;refine (jL _ _ _ _ _ _ _ _ 4 4 b 1 1 _ o8 A5 (by omega) hb (by omega)).mono ?_
 rintro r' w3 ⟨u,rfl,A8,C7,o7⟩;obtain⟨q0,q1,q2,q3,q4,q5⟩:=R.bw o7;replace hB:=zB hB o7;have HU:=zC A8;clear A8 o7;go_wp2_with fail;refine bodyPost_ret (v:=.agg u.q) (by simp[results,Tryz.results93,go_sem,q0,q1,q2,q3,q4]) rfl ⟨u,rfl,zA HU,?_,?_⟩
 ·exact SpAt.put5 (C7.mono (by omega)) q0 q1 q2 q3 q4 _ _ _ _ _
 ·exact jS hB (Zb _) _ _ _ _ _
theorem zT0 (w:World) (s:Sp) (k:Nat) (d lo hi:Int) (hs:SpAt w s k lo hi) (hk:k<=300000000) (hd : -9223372036854775808<=d) (nG:d<=9223372036854775807) :
  Calls Tryz.prog 156 #[.agg s.q,.int .i64 d] w (zG w s.bits (k+4) (lo*d) (hi*d)):=by
 obtain⟨W,hW⟩:∃ W,W=(w.alloc (.cells s.q 31)).alloc (.cells zCq 31):=⟨_,rfl⟩;have j8:Below w.heap.size w W:=by rw[hW];exact bl2 _ _ _
 have A:SpC W w.heap.size s:=by rw[hW];constructor<;>simp[go_sem]
 have R:NoC W (w.heap.size+1):=by rw[hW];constructor<;>simp[go_sem]
 have HS:=zC (hs.bw j8);have lR:=R.lt;have HK:=zC (show ∀ w',Below W.heap.size W w'->(cK0 w' w.heap.size s) from λ w' hB=>⟨(A.bw hB).c0,(A.bw hB).c1,(A.bw hB).c2,(A.bw hB).c3,(A.bw hB).c4⟩)
 clear A hs
 go_enter Tryz.func156,Tryz.ntmps156
 go_wp2;rw[<- hW];clear hW;have Kh:w.heap.size≠w.heap.size+1:=by omega
 have Dn:w.heap.size+1≠w.heap.size:=by omega
 obtain⟨x0,x1,x2,x3,x4⟩:=zA HK _ (Below.refl _ _);have D5:Below W.heap.size W W.drew:=(Below.refl _ _).drew
 go_region_held3 (λ w'=>cK0 w' w.heap.size s) (first|exact zA HK _ (by with_reducible first|exact D5|exact I5|exact F9|exact p9|exact s9)|(dsimp only[cK,cK0,nK,nK0,rK,rK0];go_keep)|go_keep)
  (first
   | (go_at_call 83;have hq:=F9;refine (zX _ _ _ _ _ _ _ _ k 4 hi d _ ((zA HS).hi.bw F9) G0 (by omega) (by omega)).mono ?_;rintro r' w4 ⟨E6,a4,n4,c4,rfl,I2,y9⟩;have I5:=zB F9 y9;replace A5:=(A5.bw o7).bw y9;obtain⟨q0,q1,q2,q3,q4,q5⟩:=R.bw I5;obtain⟨y0,y1,y2,y3,y4⟩:=zA HK _ I5)
   | (go_at_call 33;have hq:=p9;refine (zD d _ hd nG).mono ?_;rintro r' w3 ⟨B8,a3,n3,c3,rfl,G0,o7⟩;have F9:=zB p9 o7)
   | (go_at_call 83;have hq:=s9;refine (zX _ _ _ _ _ _ _ _ k 4 lo d _ ((zA HS).lo.bw s9) o8 (by omega) (by omega)).mono ?_;rintro r' w2 ⟨j6,a2,n2,c2,rfl,A5,j7⟩;have p9:=zB s9 j7)
   | (go_at_call 33;refine (zD d _ hd nG).mono ?_;rintro r' w1 ⟨m9,a1,n1,c1,rfl,o8,b9⟩;have s9:=zB D5 b9))
 all_goals
  go_wp2_with fail;refine bodyPost_ret (v:=.agg #[.bool j6,.slice a2 n2 c2,.bool E6,.slice a4 n4 c4,.int .i64 s.bits]) (by simp[results,Tryz.results156,go_sem,q0,q1,q2,q3,q4]) rfl ⟨⟨j6,a2,n2,c2,E6,a4,n4,c4,s.bits⟩,rfl,rfl,?_,?_⟩
  ·exact SpAt.put5 ⟨A5,I2⟩ q0 q1 q2 q3 q4 _ _ _ _ _
  ·exact jS (zB j8 I5) (Nat.le_succ _) _ _ _ _ _
theorem zD5 (x:Int) (b:Nat):zA9 x (b:Int)=x/Q b:=by unfold zA9;rw[if_pos (by omega)];simp
theorem zKA (w:World) (s t:Sp) (k b:Nat) (a c:Int × Int) (hs:SpAt w s k a.1 a.2) (ht:SpAt w t k c.1 c.2) (hk:k<=300000000) (hb:s.bits=(b:Int)) (pN:b<=1000000) :
  Calls Tryz.prog 124 #[.agg s.q,.agg t.q] w (zG w b (k+k+8) (zAL b a c).1 (zAL b a c).2) :=
 (zMJ w s t k a.1 a.2 c.1 c.2 hs ht hk (by omega) (by omega)).mono λ r w' h=>by
  rw[hb,zD5,zD5] at h;exact h
theorem zCT (w:World) (s t:Sp) (k b:Nat) (a c:Int × Int) (hs:SpAt w s k a.1 a.2) (ht:SpAt w t k c.1 c.2) (hk:k<=700000000) (hb:s.bits=(b:Int)) :
  Calls Tryz.prog 51 #[.agg s.q,.agg t.q] w (zG w b (k+1) (zB8 a c).1 (zB8 a c).2) :=
 (zGP w s t k a.1 a.2 c.1 c.2 hs ht hk).mono λ r w' h=>by rw[hb] at h;exact h
theorem zHM (w:World) (s t:Sp) (k b:Nat) (a c:Int × Int) (hs:SpAt w s k a.1 a.2) (ht:SpAt w t k c.1 c.2) (hk:k<=600000000) (hb:s.bits=(b:Int)) :
  Calls Tryz.prog 92 #[.agg s.q,.agg t.q] w (zG w b (k+1) (zJB a c).1 (zJB a c).2) :=
 (zMK w s t k a.1 a.2 c.1 c.2 hs ht hk).mono λ r w' h=>by rw[hb] at h;exact h
theorem zI0 (w:World) (s:Sp) (k b:Nat) (d:Int) (a:Int × Int) (hs:SpAt w s k a.1 a.2) (hk:k<=300000000) (hb:s.bits=(b:Int)) (hd:0<d) (nG:d<=9223372036854775807) :
  Calls Tryz.prog 123 #[.agg s.q,.int .i64 d] w (zG w b (k+14) (zJ a 1 d).1 (zJ a 1 d).2) :=
 (zS0 w s k d a.1 a.2 hs hk hd nG).mono λ r w' h=>by rw[hb] at h;exact h
theorem zDK (w:World) (s:Sp) (k b:Nat) (d:Int) (a:Int × Int) (hs:SpAt w s k a.1 a.2) (hk:k<=300000000) (hb:s.bits=(b:Int)) (hd : -9223372036854775808<=d) (nG:d<=9223372036854775807) :
  Calls Tryz.prog 156 #[.agg s.q,.int .i64 d] w (zG w b (k+4) (kI a d).1 (kI a d).2) :=
 (zT0 w s k d a.1 a.2 hs hk hd nG).mono λ r w' h=>by rw[hb] at h;exact h
theorem exp1_iv (w:World) (B0:Nat) (s u:Sp) (k b:Nat) (n:Int) (a c:Int × Int) (hs:SpAt w s k a.1 a.2) (hu:SpAt w u k c.1 c.2) (hU:SpC w B0 u) (hk:k<=100000000) (hb:s.bits=(b:Int)) (pN:b<=1000000) (hn:0<n) (bC:n<=9223372036854775807) :
  Calls Tryz.prog 122 #[.agg s.q,.int .i64 n,.pointer (some ⟨B0,0,none⟩)] w (zG w b (k+k+22) (zJ (zAL b a c) 1 n).1 (zJ (zAL b a c) 1 n).2):=by
 obtain⟨W,hW⟩:∃ W,W=(w.alloc (.cells s.q 31)).alloc (.cells zCq 31):=⟨_,rfl⟩;have j8:Below w.heap.size w W:=by rw[hW];exact bl2 _ _ _
 have A:SpC W w.heap.size s:=by rw[hW];constructor<;>simp[go_sem]
 have R:NoC W (w.heap.size+1):=by rw[hW];constructor<;>simp[go_sem]
 have HS:=zC (hs.bw j8);have HU:=zC (hu.bw j8);have l0:=hU.lt;obtain⟨y0,y1,y2,y3,y4⟩:=hU;have HB:=zC hb;clear hs hu hb A
 go_enter Tryz.func122,Tryz.ntmps122
 go_wp2_with fail;rw[<- hW];clear hW;refine (zKA _ s u k b a c (zA HS) (zA HU) (by omega) (zA HB) pN).mono ?_
 rintro r' w1 ⟨v,rfl,J7,J5,b9⟩;have HV:=zC J7;clear J7 y0 y1 y2 y3 y4;replace R:=R.bw b9;replace j8:=zB j8 b9;go_wp2_with fail;refine (zI0 _ v _ b n _ J5 (by omega) (zA HV) hn bC).mono ?_
 rintro r' w2 ⟨t,rfl,J2,P5,j7⟩;obtain⟨q0,q1,q2,q3,q4,q5⟩:=R.bw j7;replace j8:=zB j8 j7;have HT:=zC J2;clear J2;go_wp2_with fail;refine bodyPost_ret (v:=.agg t.q) (by simp[results,Tryz.results122,go_sem,q0,q1,q2,q3,q4]) rfl ⟨t,rfl,zA HT,?_,?_⟩
 ·exact SpAt.put5 (P5.mono (by omega)) q0 q1 q2 q3 q4 _ _ _ _ _
 ·exact jS j8 (Nat.le_succ _) _ _ _ _ _
structure VrC (w:World) (B:Nat) (s:Sp):Prop where
 c:SpC w B s
 fz:∀ o,w.frozen? ⟨B,o,none⟩=false
theorem VrC.lt {w:World} {B:Nat} {s:Sp} (h:VrC w B s):B<w.heap.size:=h.c.lt
theorem VrC.bw {w w':World} {B:Nat} {s:Sp} (h:VrC w B s) (hb:Below w.heap.size w w'):VrC w' B s :=
 ⟨h.c.bw hb,λ o=>(hb.frozen (p:=⟨B,o,none⟩) h.lt).trans (h.fz o)⟩
abbrev zAC (w:World) (B:Nat) (u:Sp):World:=((((w.setCell ⟨B,0,none⟩ (.bool u.ln)).setCell ⟨B,1,none⟩ (.slice u.la u.lN u.lc)).setCell ⟨B,2,none⟩ (.bool u.hn)).setCell ⟨B,3,none⟩ (.slice u.ha u.hN u.hc)).setCell ⟨B,4,none⟩ (.int .i64 u.bits)
theorem zLV {w:World} {B B':Nat} (h:∀ o,w.frozen? ⟨B,o,none⟩=false) (u:Sp):∀ o,(zAC w B' u).frozen? ⟨B,o,none⟩=false:=λ o=>by
 show (zAC w B' u).frozen? ⟨B,o,none⟩=false
 unfold zAC;rw[zT,zT,zT,zT,zT];exact h o
theorem VrC.put {w:World} {B:Nat} {s:Sp} (h:VrC w B s) (u:Sp):VrC (zAC w B u) B u:=by
 refine⟨?_,zLV h.fz u⟩;obtain⟨⟨q0,q1,q2,q3,q4⟩,q5⟩:=h;constructor<;>simp[go_sem,q0,q1,q2,q3,q4]
theorem SpC.off {w:World} {B B':Nat} {s:Sp} (h:SpC w B s) (hne:B≠B') (u:Sp):SpC (zAC w B' u) B s:=h.put hne _ _ _ _ _
theorem VrC.off {w:World} {B B':Nat} {s:Sp} (h:VrC w B s) (hne:B≠B') (u:Sp):VrC (zAC w B' u) B s:=⟨h.c.off hne u,zLV h.fz u⟩
theorem NoC.off {w:World} {B B':Nat} (h:NoC w B) (hne:B≠B') (u:Sp):NoC (zAC w B' u) B:=by
 obtain⟨q0,q1,q2,q3,q4,q5⟩:=h;exact⟨yZ q0 hne _ _ _ _ _,yZ q1 hne _ _ _ _ _,yZ q2 hne _ _ _ _ _,yZ q3 hne _ _ _ _ _,yZ q4 hne _ _ _ _ _,zLV q5 u⟩
theorem SpAt.put {w:World} {s:Sp} {k:Nat} {lo hi:Int} (h:SpAt w s k lo hi) {B:Nat} {z:Sp} (hB:SpC w B z) (u:Sp):SpAt (zAC w B u) s k lo hi:=SpAt.put5 h hB.c0 hB.c1 hB.c2 hB.c3 hB.c4 _ _ _ _ _
theorem zA0 {B B':Nat} {a w:World} (h:Below B a w) (hB:B<=B') (u:Sp):Below B a (zAC w B' u):=jS h hB _ _ _ _ _
def TwoS (W wx:World) (s t:Sp) (p q:Value):Prop :=
 ∃ B B',p=.pointer (some ⟨B,0,none⟩)/\q=.pointer (some ⟨B',0,none⟩)/\W.heap.size<=B/\W.heap.size<=B'/\B≠B'/\VrC wx B s/\VrC wx B' t/\Below W.heap.size W wx
theorem zT1 (V:World) (s t:Sp) (T:TypeId):TwoS V ((V.alloc (.cells s.q T)).alloc (.cells t.q T)).drew s t (.pointer (some ⟨V.heap.size,0,none⟩)) (.pointer (some ⟨V.heap.size+1,0,none⟩)):=by
 refine⟨_,_,rfl,rfl,Zb _,Nat.le_succ _,Zg (Nat.lt_succ_self _),VrC.bw (w:=(V.alloc (.cells s.q T)).alloc (.cells t.q T)) ⟨⟨by simp[go_sem],by simp[go_sem],by simp[go_sem],by simp[go_sem],by simp[go_sem]⟩,λ o=>by simp[go_sem]⟩ (Below.refl _ _).drew,VrC.bw (w:=(V.alloc (.cells s.q T)).alloc (.cells t.q T)) ⟨⟨by simp[go_sem],by simp[go_sem],by simp[go_sem],by simp[go_sem],by simp[go_sem]⟩,λ o=>by simp[go_sem]⟩ (Below.refl _ _).drew,(bl2 _ _ _).drew⟩
theorem twoS_b (V:World) (s t:Sp) (T:TypeId):TwoS V ((V.alloc (.cells t.q T)).alloc (.cells s.q T)).drew s t (.pointer (some ⟨V.heap.size+1,0,none⟩)) (.pointer (some ⟨V.heap.size,0,none⟩)):=by
 obtain⟨B,B',h1,h2,h3,h4,h5,h6,h7,h8⟩:=zT1 V t s T;exact⟨B',B,h2,h1,h4,h3,λ e=>h5 e.symm,h7,h6,h8⟩
structure SumSt (W wr:World) (B5 B6 b K:Nat) (s X Y:Sp) (f:Nat->Int × Int) (i:Nat):Prop where
 x:VrC wr B5 X
 y:VrC wr B6 Y
 xp:SpAt wr X K (jE f i).1 (jE f i).2
 yp:SpAt wr Y K (f i).1 (f i).2
 xb:X.bits=(b:Int)
 yb:Y.bits=(b:Int)
 fs:SpC wr W.heap.size s
 no:NoC wr (W.heap.size+1)
 be:Below W.heap.size W wr
 l5:W.heap.size+1<B5
 l6:W.heap.size+1<B6
 ne:B5≠B6
theorem SumSt.bw {W wr wr':World} {B5 B6 b K:Nat} {s X Y:Sp} {f:Nat->Int × Int} {i:Nat} (h:SumSt W wr B5 B6 b K s X Y f i) (hb:Below wr.heap.size wr wr'):SumSt W wr' B5 B6 b K s X Y f i :=
 ⟨h.x.bw hb,h.y.bw hb,h.xp.bw hb,h.yp.bw hb,h.xb,h.yb,h.fs.bw hb,h.no.bw hb,zB h.be hb,h.l5,h.l6,h.ne⟩
theorem zMB (ff:Nat) (cs:Array Value) (PZ:∀ (args:Array Value) (w:World),(callFunc ff args).run Tryz.prog w=.ok (.enter ff args) w) (f:Nat->Int × Int) (N b K KF:Nat) (s:Sp) (W:World) (hs:SpAt W s K (f 0).1 (f 0).2) (hbits:s.bits=(b:Int)) (hb:b<=1000000) (hK:K<=100000000) (Xe:KF<=900000000) (hN:zU f N) (ym:N<=1000000000)
  (hle:∀ n,(f n).1<=(f n).2) (ai:∀ n,n<=N -> -P K<(f n).1/\(f n).2<P K) (hfitS:∀ n,n<=N -> -P K<(jE f n).1/\(jE f n).2<P K)
  (hF:∀ (n:Nat) (u:Sp) w',n<N->u.bits=(b:Int)->SpAt w' u K (f n).1 (f n).2->Below W.heap.size W w'->Calls Tryz.prog ff (#[.agg u.q,.int .i64 ((n:Int)+1)] ++ cs) w' (zG w' b KF (f (n+1)).1 (f (n+1)).2)) :
  Calls Tryz.prog 121 #[.agg s.q,.func (.func ff) #[] cs] W (zG W b (K+3) (zM f N).1 (zM f N).2):=by
 have HF:=zC hF;have HN:=zC hN;have gJ:=zC hbits;clear hF hN hbits;obtain⟨V,hV⟩:∃ V,V=(W.alloc (.cells s.q 31)).alloc (.cells zCq 31):=⟨_,rfl⟩;have sD:Below W.heap.size W V:=by rw[hV];exact bl2 _ _ _
 have A:SpC V W.heap.size s:=by rw[hV];constructor<;>simp[go_sem]
 have R:NoC V (W.heap.size+1):=by rw[hV];constructor<;>simp[go_sem]
 have HS:=zC (hs.bw sD);have lA:=A.lt;have lR:=R.lt;clear hs
 go_enter Tryz.func121,Tryz.ntmps121
 go_wp2;rw[<- hV];clear hV
 go_cut [5,6] (λ p q wx=>TwoS V wx s s p q)
 case first =>
  obtain⟨x0,x1,x2,x3,x4⟩:=A
  go_region
  all_goals
   go_wp2_with fail;go_meet
   first
    | with_reducible exact zT1 _ _ _ _
    | with_reducible exact twoS_b _ _ _ _
 case rest =>
 obtain⟨B5,B6,rfl,rfl,l5,l6,hne,X,Y,hB⟩:=hcut;have n5:W.heap.size+1<B5:=by omega
 have n6:W.heap.size+1<B6:=by omega
 have iD:SumSt W wc B5 B6 b K s s s f 0:=⟨X,Y,(zA HS).bw hB,(zA HS).bw hB,zA gJ,zA gJ,A.bw hB,R.bw hB,zB sD hB,n5,n6,hne⟩;clear X Y hB A R HS l5 l6 n5 n6 hne sD lA lR;go_wp2_with fail
 go_loopw [7] (λ nn wr=>∃ (i:Nat) (X Y:Sp),nn=.int .i64 ((i:Int)+1)/\i<=N/\SumSt W wr B5 B6 b K s X Y f i) (λ nn _=>N+1-(intOf nn).toNat)
 case atStart=>exact⟨0,s,s,rfl,Nat.zero_le _,iD⟩
 case round =>
  obtain⟨i,X,Y,rfl,hi,st⟩:=hrel;have iQ:=zAS (hle i);obtain⟨⟨y0,y1,y2,y3,y4⟩,y5⟩:=st.y;go_wp2_with fail;refine (zEK _ Y K _ _ st.yp (by omega)).mono ?_
  rintro r w1 ⟨m9,a1,n1,c1,rfl,o8,b9⟩;replace st:=st.bw b9;clear b9 y0 y1 y2 y3 y4 y5;go_wp2_with fail;refine (zE0 _ _ _ _ _ (zW (f i)) _ o8 iQ).mono ?_;rintro r w2 ⟨l,hlen,rfl,j7⟩;replace st:=st.bw j7;clear j7 o8
  by_cases I9:i<N
  ·have hl:1<l:=by
    refine Int.not_le.1 λ hl=>?_
    have:=zR3 hlen hl iQ;have:=(zA HN).2 i I9;omega
   clear hlen;obtain⟨⟨y0,y1,y2,y3,y4⟩,y5⟩:=st.y;go_wp2_with fail;refine (zA HF i Y _ I9 st.yb st.yp st.be).mono ?_;rintro r w3 ⟨u,rfl,A8,C7,o7⟩;replace st:=st.bw o7;replace C7:=C7.fits (K:=K) (hle _) (ai _ (by omega)).1 (ai _ (by omega)).2
   have HU:=zC A8;clear o7 y0 y1 y2 y3 y4 y5 A8;obtain⟨V3,I6⟩:∃ V3,V3=zAC w3 B6 u:=⟨_,rfl⟩;have X3:VrC V3 B5 X:=by rw[I6];exact st.x.off st.ne u
   have Y3:VrC V3 B6 u:=by rw[I6];exact st.y.put u
   have P3:SpAt V3 X K (jE f i).1 (jE f i).2:=by rw[I6];exact st.xp.put st.y.c u
   have U3:SpAt V3 u K (f (i+1)).1 (f (i+1)).2:=by rw[I6];exact C7.put st.y.c u
   have F3:SpC V3 W.heap.size s:=by rw[I6];exact st.fs.off (by have:=st.l6;omega) u
   have R3:NoC V3 (W.heap.size+1):=by rw[I6];exact st.no.off (by have:=st.l6;omega) u
   have B3:Below W.heap.size W V3:=by rw[I6];exact zA0 st.be (by have:=st.l6;omega) u
   have xb:=zC st.xb;have l5:=st.l5;have l6:=st.l6;have hne:=st.ne;have lY:=st.y.lt;have lX:=st.x.lt;obtain⟨⟨y0,y1,y2,y3,y4⟩,y5⟩:=st.y;obtain⟨⟨x0,x1,x2,x3,x4⟩,x5⟩:=st.x;clear st C7;go_wp2_with fail;have R7:V3=zAC w3 B6 u:=I6;unfold zAC at R7;rw[<- R7];clear R7 y0 y1 y2 y3 y4 y5 x0 x1 x2 x3 x4 x5;have Fq:B5<V3.heap.size:=X3.lt;refine (zCT _ X u K b (jE f i) (f (i+1)) P3 U3 (by omega) (zA xb)).mono ?_
   rintro r w4 ⟨v,rfl,J7,J5,y9⟩;have X4:=X3.bw y9;have Y4:=Y3.bw y9;have U4:=U3.bw y9;have F4:=F3.bw y9;have R4:=R3.bw y9;have B4:=zB B3 y9;have e:zB8 (jE f i) (f (i+1))=jE f (i+1):=rfl;rw[e] at J5;replace J5:=J5.fits (K:=K) (zGK hle _) (hfitS _ (by omega)).1 (hfitS _ (by omega)).2
   have HV:=zC J7;clear y9 J7 X3 Y3 P3 U3 F3 R3 B3 I6;have stn:SumSt W (zAC w4 B5 v) B5 B6 b K s v u f (i+1):=⟨X4.put v,Y4.off (Ne.symm hne) v,J5.put X4.c v,U4.put X4.c v,zA HV,zA HU,F4.off (by omega) v,R4.off (by omega) v,zA0 B4 (by omega) v,l5,l6,hne⟩
   unfold zAC at stn;obtain⟨⟨x0,x1,x2,x3,x4⟩,x5⟩:=X4;go_wp2_with fail
   go_roundw
   case rel=>exact⟨i+1,v,u,by go_num,by omega,stn⟩
   case measure=>simp[intOf];omega
  ·have cX:i=N:=by omega
   subst cX
   have hl:¬ 1<l:=by
    have h1:=(zA HN).1
    intro hl
    obtain⟨g1,g2,g3⟩:=hlen
    by_cases hp:0<zW (f i)
    ·obtain⟨L,e1,e2,e3⟩:=g3 hp
     have:1<=L:=by omega
     have:=zH this;have:Q 1=2:=rfl;omega
    ·have:=g2 (by omega);omega
   clear hlen;obtain⟨⟨y0,y1,y2,y3,y4⟩,y5⟩:=st.y;go_wp2_with fail;refine (zEK _ Y K _ _ st.yp (by omega)).mono ?_
   rintro r w3 ⟨B8,a3,n3,c3,rfl,G0,o7⟩;replace st:=st.bw o7;clear o7 y0 y1 y2 y3 y4 y5;obtain⟨V3,I6⟩:∃ V3,V3=w3.alloc (.cells #[.bool B8,.slice a3 n3 c3] 29):=⟨_,rfl⟩;have bV:Below w3.heap.size w3 V3:=by rw[I6];exact bl1 _ _
   have L3:NmC V3 w3.heap.size ⟨B8,a3,n3,c3⟩:=by rw[I6];exact zC6 w3 ⟨B8,a3,n3,c3⟩ _
   have X6:=st.bw bV;have HI:=zC (G0.bw bV);have l5:=st.l5;have lX:=st.x.lt;have aq:=zC (show ∀ w',Below V3.heap.size V3 w'->(cK w' B5 X (w'.cell? ⟨w3.heap.size,0,none⟩=some (.bool B8)/\w'.cell? ⟨w3.heap.size,1,none⟩=some (.slice a3 n3 c3)/\w'.cell? ⟨W.heap.size,4,none⟩=some (.int .i64 s.bits))) from λ w' hB=>⟨(X6.x.c.bw hB).c0,(X6.x.c.bw hB).c1,(X6.x.c.bw hB).c2,(X6.x.c.bw hB).c3,(X6.x.c.bw hB).c4,(L3.bw hB).c0,(L3.bw hB).c1,(X6.fs.bw hB).c4⟩)
   have lL:=L3.lt;have R3:=X6.no;have iz:=R3.lt;clear st L3 G0;go_wp2_with fail;rw[<- I6];clear I6;obtain⟨x0,x1,x2,x3,x4,x5,x6,x7⟩:=zA aq _ (Below.refl _ _);have D5:Below V3.heap.size V3 V3.drew:=(Below.refl _ _).drew;have Dr:W.heap.size+1≠B5:=by omega
   have rj:W.heap.size+1≠w3.heap.size:=by omega
   have Ft:W.heap.size+1≠W.heap.size:=by omega
   go_region_held3 (λ w'=>cK w' B5 X (w'.cell? ⟨w3.heap.size,0,none⟩=some (.bool B8)/\w'.cell? ⟨w3.heap.size,1,none⟩=some (.slice a3 n3 c3)/\w'.cell? ⟨W.heap.size,4,none⟩=some (.int .i64 s.bits))) (first|exact zA aq _ (by with_reducible first|exact D5|exact p9|exact s9)|(dsimp only[cK,cK0,nK,nK0,rK,rK0];go_keep)|go_keep)
    (first
     | (go_at_call 51;have hq:=s9;refine (zCT _ X ⟨E6,a4,n4,c4,B8,a3,n3,c3,s.bits⟩ (K+1) b (jE f i) (-zW (f i),zW (f i)) ((X6.xp.bw s9).mono (by omega)) ⟨I2,(zA HI).bw s9⟩ (by omega) X6.xb).mono ?_;rintro r' w5 ⟨v,rfl,J7,J5,D8⟩;have p9:=zB s9 D8;have HV:=zC J7;clear J7;obtain⟨q0,q1,q2,q3,q4,q5⟩:=R3.bw p9;obtain⟨y0,y1,y2,y3,y4,y5,y6,y7⟩:=zA aq _ p9)
     | (go_at_call 87;refine (zAQ _ _ _ _ (K+1) (zW (f i)) _ ((zA HI).bw D5) (by omega)).mono ?_;rintro r' w4 ⟨E6,a4,n4,c4,rfl,I2,y9⟩;have s9:=zB D5 y9))
   all_goals
    go_wp2_with fail;refine bodyPost_ret (v:=.agg v.q) (by simp[results,Tryz.results121,go_sem,q0,q1,q2,q3,q4]) rfl ⟨v,rfl,zA HV,?_,?_⟩
    ·exact SpAt.put5 (J5.mono (by omega)) q0 q1 q2 q3 q4 _ _ _ _ _
    ·exact jS (zB X6.be p9) (Nat.le_succ _) _ _ _ _ _
theorem en_exp (args:Array Value) (w:World):(callFunc 122 args).run Tryz.prog w=.ok (.enter 122 args) w:=by simp[go_sem,callFunc,Tryz.func122];kernel_rfl
theorem len_uniq {z l l':Int} (h:yR z l) (h':yR z l') (hz:0<=z):l=l':=by
 obtain⟨a1,a2,a3⟩:=h;obtain⟨b1,b2,b3⟩:=h'
 by_cases hp:0<z
 ·obtain⟨L,e1,e2,e3⟩:=a3 hp
  obtain⟨L',f1,f2,f3⟩:=b3 hp
  have:L=L':=by
   rcases Nat.lt_trichotomy L L' with h|h|h
   ·have:=zH (show L+1<=L' by omega);omega
   ·exact h
   ·have:=zH (show L'+1<=L by omega);omega
  omega
 ·have:=a2 (by omega);have:=b2 (by omega);omega
theorem exp_one {b N:Nat} {sm:Int × Int} (hb:16<=b) (hN:zU (zV b sm) N):1<=N:=by
 refine Nat.pos_of_ne_zero λ e=>?_
 have:=hN.1;rw[e] at this
 have h2:zW (zV b sm 0)=Q b:=by
  show zGA (Q b) (-Q b)=Q b
  have:=zE b;unfold zGA;rw[if_neg (by omega)]
 rw[h2] at this;have:=zH hb;have:Q 16=65536:=rfl;omega
theorem zRG {z l l' bt:Int} {b t:Nat} (h':yR z l') (h:yR z l) (ht:(t:Int)=max 0 (l-b+8)) (hb:bt=(b:Int)) (pN:b<=1000000) (dO:t<=1000000) (hz:0<=z) :
  (if 0<IntKind.i64.wrap (IntKind.i64.wrap (l'-bt)+8) then IntKind.i64.wrap (IntKind.i64.wrap (l'-bt)+8) else 0)=(t:Int):=by
 have e:=len_uniq h' h hz;have l0:=h.1;have l1:l<=3000000:=by omega
 subst e;rw[hb,jI (l'-b) (by omega) (by omega),jI (l'-b+8) (by omega) (by omega)]
 split<;>omega
theorem zGQ (w:World) (s:Sp) (K b t N:Nat) (a:Int × Int) (l:Int) (hs:SpAt w s K a.1 a.2) (hbits:s.bits=(b:Int)) (hle:a.1<=a.2) (K4:16<=b) (hb:b<=1000000) (hl:yR (zW a) l) (ht:(t:Int)=max 0 (l-b+8)) (dO:t<=1000000)
  (gC:Abs (zF a t) (Q (b-8))) (hN:zU (zV b (zF a t)) N) (hK:Q (b+2)<P K) (hU:∀ i,i<=t -> -P K<(sqI b (zM (zV b (zF a t)) N) i).1/\(sqI b (zM (zV b (zF a t)) N) i).2<P K) (gz:K<=10000000) :
  Calls Tryz.prog 77 #[.agg s.q] w (zG w b K (sqI b (zM (zV b (zF a t)) N) t).1 (sqI b (zM (zV b (zF a t)) N) t).2):=by
 obtain⟨W,hW⟩:∃ W,W=(w.alloc (.cells s.q 31)).alloc (.cells zCq 31):=⟨_,rfl⟩;have j8:Below w.heap.size w W:=by rw[hW];exact bl2 _ _ _
 have A:SpC W w.heap.size s:=by rw[hW];constructor<;>simp[go_sem]
 have R:NoC W (w.heap.size+1):=by rw[hW];constructor<;>simp[go_sem]
 have HS:=zC (hs.bw j8);have lA:=A.lt;have lR:=R.lt;have HB:=zC hbits;have HT:=zC ht;have iQ:=zAS hle;have HK:=zC (show ∀ w',Below W.heap.size W w'->(cK0 w' w.heap.size s) from λ w' hB=>⟨(A.bw hB).c0,(A.bw hB).c1,(A.bw hB).c2,(A.bw hB).c3,(A.bw hB).c4⟩)
 clear hs hbits ht
 go_enter Tryz.func77,Tryz.ntmps77
 go_wp2;rw[<- hW];clear hW;obtain⟨x0,x1,x2,x3,x4⟩:=zA HK _ (Below.refl _ _);have D5:Below W.heap.size W W.drew:=(Below.refl _ _).drew
 go_cut [3] (λ p wx=>p=.int .i64 (t:Int)/\Below W.heap.size W wx)
 case first =>
  go_region_held3 (λ w'=>cK0 w' w.heap.size s) (first|exact zA HK _ (by with_reducible first|exact D5|exact p9|exact s9)|(dsimp only[cK,cK0,nK,nK0,rK,rK0];go_keep)|go_keep)
   (first
    | (go_at_call 98;have hq:=s9;refine (zE0 _ _ _ _ _ (zW a) _ o8 iQ).mono ?_;rintro r' w2 ⟨l',hlen,rfl,j7⟩;have p9:=zB s9 j7)
    | (go_at_call 119;refine (zEK _ s K _ _ ((zA HS).bw D5) (by omega)).mono ?_;rintro r' w1 ⟨m9,a1,n1,c1,rfl,o8,b9⟩;have s9:=zB D5 b9))
  all_goals go_wp2_with fail
  all_goals
   go_meet;refine⟨congrArg _ ?_,p9⟩;have e:=zRG hlen hl (zA HT) (zA HB) hb dO iQ;split at e<;>omega
 case rest =>
 obtain⟨rfl,E8⟩:=hcut;replace A:=A.bw E8;replace R:=R.bw E8;replace j8:=zB j8 E8;replace HS:=zC ((zA HS).bw E8);have lA:=A.lt;have lR:=R.lt;have HK:=zC (show ∀ w',Below wc.heap.size wc w'->(cK0 w' w.heap.size s) from λ w' hB=>⟨(A.bw hB).c0,(A.bw hB).c1,(A.bw hB).c2,(A.bw hB).c3,(A.bw hB).c4⟩)
 clear x0 x1 x2 x3 x4 D5 E8;obtain⟨x0,x1,x2,x3,x4⟩:=zA HK _ (Below.refl _ _);go_wp2_with fail
 go_cut [4] (λ p wx=>∃ (B:Nat) (u:Sp),p=.pointer (some ⟨B,0,none⟩)/\wc.heap.size<=B/\VrC wx B u/\SpAt wx u (K+5) (zF a t).1 (zF a t).2/\u.bits=(b:Int)/\Below wc.heap.size wc wx)
 case first =>
  go_region_held3 (λ w'=>cK0 w' w.heap.size s) (exact zA HK _ (by repeat' (first|with_reducible exact K7|with_reducible exact G9|with_reducible exact Below.refl _ _|with_reducible refine Below.drew ?_|with_reducible refine zL ?_ _|with_reducible refine Below.setCell ?_ (by first|exact Zb _|exact T5|exact T6) _)))
   (first
    | (go_at_call 120;have hq:=G9;refine (zG5 _ _ _ _ K (t:Int) a.2 _ ((zA HS).hi.bw (by with_reducible first|exact G9|exact zL G9 _)) (by omega) (by omega) (by omega)).mono ?_;rintro r fX ⟨bh,rJ,wo,rL,rfl,W3,S7⟩;have R6:Below cD.heap.size cD fX:=(by with_reducible first|exact S7|exact zB (bl1 _ _) S7);have K7:=zB G9 R6;(try with_reducible have cS:=(zS cD 31).bw S7);replace J6:=J6.bw R6;(try replace ag:=ag.bw R6);have T6:=K7.size;(try have oM:=ag.lt);(try have Pa:=Zg oM);(try have Bn:=Zf oM);(try obtain⟨mR,mS,xl,xm,xn,DT⟩:=ag);(try have oN:=cS.lt);(try have Pb:=Zg oN);(try have Bo:=Zf oN);(try obtain⟨mV,mW,xo,xq,xw,DV⟩:=cS))
    | (go_at_call 96;refine (zG9 _ _ _ _ K (t:Int) a.1 _ ((zA HS).lo.bw (by with_reducible first|exact (Below.refl _ _).drew|exact (bl1 _ _).drew)) (by omega) (by omega) (by omega)).mono ?_;rintro r cD ⟨bK,xT,Ab,xW,rfl,J6,S6⟩;have G9:Below wc.heap.size wc cD:=(by with_reducible first|exact zB (Below.refl _ _).drew S6|exact zB (bl1 _ _).drew S6);(try with_reducible have ag:=((zS wc 31).bw (Below.refl _ _).drew).bw S6);have T5:=G9.size))
  all_goals
   have hfinU:SpAt fX ⟨bK,xT,Ab,xW,bh,rJ,wo,rL,s.bits⟩ (K+5) (zF a t).1 (zF a t).2:=⟨by rw[zD5] at J6;exact J6.mono (by omega),by rw[zD5] at W3;exact W3.mono (by omega)⟩
   go_wp2_with fail;go_meet;refine⟨_,⟨bK,xT,Ab,xW,bh,rJ,wo,rL,s.bits⟩,rfl,?_,⟨⟨?_,?_,?_,?_,?_⟩,?_⟩,?_,zA HB,?_⟩
   ·first|exact Zb _|exact T5|exact T6
   ·simp[go_sem, *]
   ·simp[go_sem, *]
   ·simp[go_sem, *]
   ·simp[go_sem, *]
   ·simp[go_sem, *]
   ·intro o;simp[go_sem, *]
   ·first|with_reducible exact hfinU.bw (bl1 _ _)|with_reducible exact SpAt.put5 hfinU (by assumption) (by assumption) (by assumption) (by assumption) (by assumption) _ _ _ _ _
   ·repeat' (first|with_reducible exact K7|with_reducible exact G9|with_reducible exact Below.refl _ _|with_reducible refine Below.drew ?_|with_reducible refine zL ?_ _|with_reducible refine Below.setCell ?_ (by first|exact Zb _|exact T5|exact T6) _)
 case rest =>
 obtain⟨BU,xU,rfl,BG,XU,hpU,hxbU,hblU⟩:=hcut;replace A:=A.bw hblU;replace R:=R.bw hblU;replace j8:=zB j8 hblU;have lU:=XU.lt;have nRU:w.heap.size+1<BU:=by omega
 have Db:=A.lt;have bg:=R.lt;have oc:=zC hxbU;have cO:=zC hpU;clear hxbU hpU HS HK x0 x1 x2 x3 x4 hblU;have x4:=A.c4;rw[zA HB] at x4;go_wp2_with fail;refine (zC8 _ b hb).mono ?_;rintro r w1 ⟨v1,rfl,J3,T8,b9⟩;have PJ:=zE b
 have JO:(zV b (zF a t) 0).1=1*Q b/1/\(zV b (zF a t) 0).2 = -(-(1*Q b)/1):=by
  constructor
  ·show Q b=_;omega
  ·show Q b=_;omega
 rw[<- JO.1,<- JO.2] at T8
 have gX:Q b*2<P K/\2*Q b+Q b<P K:=by
  have e:Q (b+2)=2*(2*Q b):=rfl;omega
 have HU:=zC hU;clear hU;have hT:=zBX (by omega) gC
 have hlT:=zAK b (zF a t)
 have ai:∀ n,n<=N -> -P K<(zV b (zF a t) n).1/\(zV b (zF a t) n).2<P K:=λ n _=>by
  obtain⟨g1,g2,g3,g4⟩:=hT n;have:=zH (show b-8*n<=b by omega)
  omega
 have hfitS:∀ n,n<=N -> -P K<(jE (zV b (zF a t)) n).1/\(jE (zV b (zF a t)) n).2<P K:=λ n hn=>by
  obtain⟨g1,g2,g3,g4⟩:=zFQ (s:=8) (by omega) hT hN n hn
  have:=zE (b-8*n);omega
 have ym:N<=1000000000:=by
  obtain⟨N',n1,n2⟩:=zB7 (s:=8) (by omega) hT
  have:N<=N':=Nat.not_lt.1 λ E2=>by have:=hN.2 N' E2;have:=n2.1;omega
  omega
 replace T8:=T8.fits (K:=K) (hlT 0) (ai 0 (by omega)).1 (ai 0 (by omega)).2
 have az:=zC hT;have rC:=zC hlT;have gL:=zC ai;have cM:=zC hfitS;have nZ:=zC T8;have rG:=zC J3;have GH:=zC gX;clear hT hlT ai hfitS JO T8 J3 gX;replace XU:=XU.bw b9;replace cO:=zC ((zA cO).bw b9);replace R:=R.bw b9;replace j8:=zB j8 b9;have lU3:=XU.lt;have iz:=R.lt;clear b9 x4 A Db;go_wp2_with fail;refine (zMB _ _ en_exp (zV b (zF a t)) N b K (K+5+(K+5)+22) v1 _ (zA nZ) (zA rG) hb (by omega) (by omega) hN ym (zA rC) (zA gL) (zA cM) (λ n u w' hn A8 C7 M8=>?_)).mono ?_
 ·exact exp1_iv w' BU u xU (K+5) b ((n:Int)+1) (zV b (zF a t) n) (zF a t) (C7.mono (by omega)) ((zA cO).bw M8) (XU.c.bw M8) (by omega) A8 hb (by omega) (by omega)
 rintro r w2 ⟨v2,rfl,P6,Z3,j7⟩;replace XU:=XU.bw j7;replace R:=R.bw j7;replace j8:=zB j8 j7;have yr:=zCK (zA rC) N;have Jb:=zF0 (s:=8) (by omega) (zA rC) (zA az) hN
 replace Z3:=Z3.fits (K:=K) yr (by have:=Jb.1;have:=zA GH;omega) (by have:=Jb.2.2.2;have:=zA GH;omega)
 have mZ:=zC P6;clear P6 j7 nZ rG yr Jb;have lR4:=R.lt;go_wp2_with fail
 go_loopw [31] (λ ii wr=>∃ (i:Nat) (X:Sp),ii=.int .i64 (i:Int)/\i<=t/\VrC wr w2.heap.size X/\SpAt wr X K (sqI b (zM (zV b (zF a t)) N) i).1 (sqI b (zM (zV b (zF a t)) N) i).2/\X.bits=(b:Int)/\NoC wr (w.heap.size+1)/\Below w.heap.size w wr) (λ ii _=>t-(intOf ii).toNat)
 case atStart =>
  refine⟨0,v2,rfl,Nat.zero_le _,⟨⟨by simp[go_sem],by simp[go_sem],by simp[go_sem],by simp[go_sem],by simp[go_sem]⟩,λ o=>by simp[go_sem]⟩,Z3.bw (bl1 _ _),zA mZ,R.bw (bl1 _ _),zL j8 _⟩
 case round =>
  obtain⟨i,X,rfl,hi,hX,hp,QD,hR,hB⟩:=hrel;have oc:=zC QD;clear QD;have lX:=hX.lt
  by_cases I9:i<t
  ·have ve:(i:Int)<(t:Int):=by omega
   obtain⟨⟨x0,x1,x2,x3,x4⟩,x5⟩:=hX;go_wp2_with fail;refine (zKA _ X X K b _ _ hp hp (by omega) (zA oc) hb).mono ?_
   rintro r w3 ⟨v,rfl,J7,J5,o7⟩;have X3:=VrC.bw ⟨⟨x0,x1,x2,x3,x4⟩,x5⟩ o7;have R3:=hR.bw o7;have B3:=zB hB o7;have e:zAL b (sqI b (zM (zV b (zF a t)) N) i) (sqI b (zM (zV b (zF a t)) N) i)=sqI b (zM (zV b (zF a t)) N) (i+1):=rfl;rw[e] at J5;replace J5:=J5.fits (K:=K) (zB2 b) (zA HU (i+1) (by omega)).1 (zA HU (i+1) (by omega)).2
   have HV:=zC J7;have nB:w.heap.size+1≠w2.heap.size:=by omega
   have stn:VrC (zAC w3 w2.heap.size v) w2.heap.size v/\SpAt (zAC w3 w2.heap.size v) v K (sqI b (zM (zV b (zF a t)) N) (i+1)).1 (sqI b (zM (zV b (zF a t)) N) (i+1)).2/\NoC (zAC w3 w2.heap.size v) (w.heap.size+1)/\Below w.heap.size w (zAC w3 w2.heap.size v):=⟨X3.put v,J5.put X3.c v,R3.off nB v,zA0 B3 (by omega) v⟩
   unfold zAC at stn;clear J7 o7 x0 x1 x2 x3 x4 x5 J5;obtain⟨⟨x0,x1,x2,x3,x4⟩,x5⟩:=X3;go_wp2_with fail
   go_roundw
   case rel=>exact⟨i+1,v,by go_num,by omega,stn.1,stn.2.1,zA HV,stn.2.2.1,stn.2.2.2⟩
   case measure=>simp[intOf];omega
  ·have cX:i=t:=by omega
   subst cX;have ve:¬ (i:Int)<(i:Int):=by omega
   obtain⟨⟨x0,x1,x2,x3,x4⟩,x5⟩:=hX;obtain⟨q0,q1,q2,q3,q4,q5⟩:=hR;go_wp2_with fail;refine bodyPost_ret (v:=.agg X.q) (by simp[results,Tryz.results77,go_sem,q0,q1,q2,q3,q4]) rfl ⟨X,rfl,zA oc,?_,?_⟩
   ·exact SpAt.put5 hp q0 q1 q2 q3 q4 _ _ _ _ _
   ·exact jS hB (Nat.le_succ _) _ _ _ _ _
theorem zBG (w:World) (s:Sp) (K b t N:Nat) (a:Int × Int) (l:Int) (hs:SpAt w s K a.1 a.2) (hbits:s.bits=(b:Int)) (hle:a.1<=a.2) (K4:16<=b) (hb:b<=1000000) (hl:yR (zW a) l) (ht:(t:Int)=max 0 (l-b+8)) (dO:t<=1000000)
  (gC:Abs (zF a t) (Q (b-8))) (hN:zU (zV b (zF a t)) N) (hK:Q (b+eb t)<P K) (gz:K<=10000000) :
  Calls Tryz.prog 77 #[.agg s.q] w (zG w b K (sqI b (zM (zV b (zF a t)) N) t).1 (sqI b (zM (zV b (zF a t)) N) t).2):=by
 have h12:12<=eb t:=by have:=zAP (show 0<=t by omega);simpa [eb] using this
 have O2:=zH (show b+2<=b+eb t by omega)
 refine zGQ w s K b t N a l hs hbits hle K4 hb hl ht dO gC hN (by omega) (λ i hi=>?_) gz
 have EN:1<=N:=exp_one K4 hN;have ha:=zTS K4 (zJR (s:=8) (by omega) (zAK b (zF a t)) (zBX (by omega) gC) hN EN) i
 have hm:=zH (show b+eb i<=b+eb t by have:=zAP hi;omega)
 exact⟨by have:=ha.1;omega,by have:=ha.2.2.2;omega⟩
def zFN (k:Int):Bool:=k == 2 || k == 5 || k == 7
theorem jC (k:Int) (w:World) :
  Calls Tryz.prog 128 #[.int .i64 k] w λ r w'=>r=.returned (.bool (zFN k))/\Below w.heap.size w w':=by
 by_cases h2:k=2
 ·subst h2
  go_enter Tryz.func128,Tryz.ntmps128
  go_wp2
  go_ret
  exact⟨rfl,Below.refl _ _⟩
 by_cases h5:k=5
 ·subst h5
  go_enter Tryz.func128,Tryz.ntmps128
  go_wp2
  go_ret
  exact⟨rfl,Below.refl _ _⟩
 ·go_enter Tryz.func128,Tryz.ntmps128
  go_wp2
  go_ret
  exact⟨by simp[zFN,h2,h5],Below.refl _ _⟩
def kW (p q n:Int):Bool:=decide (-(n*q)<=p) && decide (p<=n*q)
theorem zAG (p q n:Int) (w:World) (cJ:0<=n) (hn:n<=100000) (nJ:1<=q) (hq:q<=1024) :
  Calls Tryz.prog 75 #[.agg #[.int .i64 p,.int .i64 q],.int .i64 n] w λ r w'=>r=.returned (.bool (kW p q n))/\Below w.heap.size w w':=by
 have e : -n*q = -(n*q):=Int.neg_mul _ _;have b1:0<=n*q:=Zc cJ (by omega)
 have b2:n*q<=102400000:=Int.le_trans (Int.mul_le_mul hn hq (by omega) (by omega)) (by decide)
 by_cases h1 : -(n*q)<=p
 ·go_enter Tryz.func75,Tryz.ntmps75
  go_wp2
  go_ret
  exact⟨by simp[kW,h1];try omega,bl1 _ _⟩
 ·go_enter Tryz.func75,Tryz.ntmps75
  go_wp2
  go_ret
  exact⟨by simp[kW,h1];try omega,bl1 _ _⟩
def yJ (k p q r s:Int):Bool :=
 if k=1 then decide (0<r) else if k=3\/k=4 then decide (0<p) && decide (0<r)
 else if k=6 then decide (q=1) && (decide (0<=p) && (decide (p<=100) && (decide (0<=r) && decide (r<=s)))) else decide (0<p)
theorem zBD (k p q r s:Int) (w:World) (h1:1<=k) (h7:k<=7) :
  Calls Tryz.prog 129 #[.agg #[.int .i64 k,.int .i64 p,.int .i64 q,.int .i64 r,.int .i64 s]] w λ z w'=>z=.returned (.bool (yJ k p q r s))/\Below w.heap.size w w':=by
 obtain rfl|rfl|rfl|rfl|rfl|rfl|rfl:k=1\/k=2\/k=3\/k=4\/k=5\/k=6\/k=7:=by omega
 ·go_enter Tryz.func129,Tryz.ntmps129
  go_wp2
  go_ret
  exact⟨by simp[yJ];try omega,bl1 _ _⟩
 ·go_enter Tryz.func129,Tryz.ntmps129
  go_wp2
  go_ret
  exact⟨by simp[yJ];try omega,bl1 _ _⟩
 ·by_cases c:0<p
  all_goals
   go_enter Tryz.func129,Tryz.ntmps129
   go_wp2
   go_ret
   exact⟨by simp[yJ,c];try omega,bl1 _ _⟩
 ·by_cases c:0<p
  all_goals
   go_enter Tryz.func129,Tryz.ntmps129
   go_wp2
   go_ret
   exact⟨by simp[yJ,c];try omega,bl1 _ _⟩
 ·go_enter Tryz.func129,Tryz.ntmps129
  go_wp2
  go_ret
  exact⟨by simp[yJ];try omega,bl1 _ _⟩
 ·by_cases c1:q=1
  ·subst c1
   by_cases c2:0<=p
   ·by_cases c3:p<=100
    ·by_cases c4:0<=r
     ·go_enter Tryz.func129,Tryz.ntmps129
      go_wp2
      go_ret
      exact⟨by simp[yJ,c2,c3,c4];try omega,bl1 _ _⟩
     ·go_enter Tryz.func129,Tryz.ntmps129
      go_wp2
      go_ret
      exact⟨by simp[yJ,c2,c3,c4];try omega,bl1 _ _⟩
    ·go_enter Tryz.func129,Tryz.ntmps129
     go_wp2
     go_ret
     exact⟨by simp[yJ,c2,c3];try omega,bl1 _ _⟩
   ·go_enter Tryz.func129,Tryz.ntmps129
    go_wp2
    go_ret
    exact⟨by simp[yJ,c2];try omega,bl1 _ _⟩
  ·go_enter Tryz.func129,Tryz.ntmps129
   go_wp2
   go_ret
   exact⟨by simp[yJ,c1];try omega,bl1 _ _⟩
 ·go_enter Tryz.func129,Tryz.ntmps129
  go_wp2
  go_ret
  exact⟨by simp[yJ];try omega,bl1 _ _⟩
def zD7 (k p q r s:Int):Bool :=
 if k=6 then false else (!zFN k && decide (r*100<s)) || (!kW p q 100 || !kW r s 100)
theorem zDL (k p q r s:Int) (w:World) (h1:rok p q) (h2:rok r s) :
  Calls Tryz.prog 130 #[.agg #[.int .i64 k,.int .i64 p,.int .i64 q,.int .i64 r,.int .i64 s]] w λ z w'=>z=.returned (.bool (zD7 k p q r s))/\Below w.heap.size w w':=by
 obtain⟨a1,a2,a3,a4⟩:=h1;obtain⟨b1,b2,b3,b4⟩:=h2
 by_cases c6:k=6
 ·subst c6
  go_enter Tryz.func130,Tryz.ntmps130
  go_wp2
  go_ret
  exact⟨by simp[zD7],bl1 _ _⟩
 cases ho:zFN k
 ·by_cases ht:r*100<s
  ·have HE:=zC (show zD7 k p q r s=true by simp[zD7,c6,ho,ht])
   go_enter Tryz.func130,Tryz.ntmps130
   go_wp2_with (go_at_call 128;refine (jC _ _).mono ?_;rintro r' w1 ⟨rfl,b9⟩;rw[ho];obtain⟨C9,B9,D6⟩:=zZ (w.heap.size+1) (by simp) b9)
   go_ret
   exact⟨by rw[zA HE];first|rfl|simp[show ¬ r*100<s by omega],zB (bl1 _ _) b9⟩
  ·cases nM:kW p q 100
   ·have HE:=zC (show zD7 k p q r s=true by simp[zD7,c6,ho,ht,nM])
    go_enter Tryz.func130,Tryz.ntmps130
    go_wp2_with (first
     | (go_at_call 128;refine (jC _ _).mono ?_;rintro r' w1 ⟨rfl,b9⟩;rw[ho];obtain⟨C9,B9,D6⟩:=zZ (w.heap.size+1) (by simp) b9)
     | (go_at_call 75;refine (zAG p q 100 _ (by omega) (by omega) a3 a4).mono ?_;rintro r' w2 ⟨rfl,j7⟩;rw[nM]))
    go_ret
    exact⟨by rw[zA HE];first|rfl|simp[show ¬ r*100<s by omega],zB (zB (bl1 _ _) b9) j7⟩
   ·have HE:=zC (show zD7 k p q r s=!kW r s 100 by simp[zD7,c6,ho,ht,nM])
    go_enter Tryz.func130,Tryz.ntmps130
    go_wp2_with (first
     | (go_at_call 128;refine (jC _ _).mono ?_;rintro r' w1 ⟨rfl,b9⟩;rw[ho];obtain⟨C9,B9,D6⟩:=zZ (w.heap.size+1) (by simp) b9)
     | (go_at_call 75;have hq:=j7;refine (zAG r s 100 _ (by omega) (by omega) b3 b4).mono ?_;rintro r' w3 ⟨rfl,o7⟩)
     | (go_at_call 75;refine (zAG p q 100 _ (by omega) (by omega) a3 a4).mono ?_;rintro r' w2 ⟨rfl,j7⟩;rw[nM];obtain⟨A9,B7,E7⟩:=zZ (w.heap.size+1) C9 j7))
    go_ret
    exact⟨by rw[zA HE];first|rfl|simp[show ¬ r*100<s by omega],zB (zB (zB (bl1 _ _) b9) j7) o7⟩
 ·cases nM:kW p q 100
  ·have HE:=zC (show zD7 k p q r s=true by simp[zD7,c6,ho,nM])
   go_enter Tryz.func130,Tryz.ntmps130
   go_wp2_with (first
    | (go_at_call 128;refine (jC _ _).mono ?_;rintro r' w1 ⟨rfl,b9⟩;rw[ho];obtain⟨C9,B9,D6⟩:=zZ (w.heap.size+1) (by simp) b9)
    | (go_at_call 75;refine (zAG p q 100 _ (by omega) (by omega) a3 a4).mono ?_;rintro r' w2 ⟨rfl,j7⟩;rw[nM]))
   go_ret
   exact⟨by rw[zA HE];first|rfl|simp[show ¬ r*100<s by omega],zB (zB (bl1 _ _) b9) j7⟩
  ·have HE:=zC (show zD7 k p q r s=!kW r s 100 by simp[zD7,c6,ho,nM])
   go_enter Tryz.func130,Tryz.ntmps130
   go_wp2_with (first
    | (go_at_call 128;refine (jC _ _).mono ?_;rintro r' w1 ⟨rfl,b9⟩;rw[ho];obtain⟨C9,B9,D6⟩:=zZ (w.heap.size+1) (by simp) b9)
    | (go_at_call 75;have hq:=j7;refine (zAG r s 100 _ (by omega) (by omega) b3 b4).mono ?_;rintro r' w3 ⟨rfl,o7⟩)
    | (go_at_call 75;refine (zAG p q 100 _ (by omega) (by omega) a3 a4).mono ?_;rintro r' w2 ⟨rfl,j7⟩;rw[nM];obtain⟨A9,B7,E7⟩:=zZ (w.heap.size+1) C9 j7))
   go_ret
   exact⟨by rw[zA HE];first|rfl|simp[show ¬ r*100<s by omega],zB (zB (zB (bl1 _ _) b9) j7) o7⟩
theorem len_ex {z:Int} (hz:0<=z) {e:Nat} (he:z<Q e):∃ l,yR z l/\l<=e/\z<Q l.toNat:=by
 by_cases hp:0<z
 ·have key:∀ e:Nat,z<Q e->∃ L:Nat,L+1<=e/\Q L<=z/\z<Q (L+1):=λ e=>by
   induction e with
   | zero=>intro h;simp[Q] at h;omega
   | succ e ih =>
    intro h
    by_cases hq:Q e<=z
    ·exact⟨e,Zb _,hq,h⟩
    ·obtain⟨L,h1,h2⟩:=ih (by omega)
     exact⟨L,by omega,h2⟩
  obtain⟨L,h1,h2,h3⟩:=key e he;exact⟨(L:Int)+1,⟨by omega,λ h=>by omega,λ _=>⟨L,rfl,h2,h3⟩⟩,by omega,by rw[show ((L:Int)+1).toNat=L+1 by omega];exact h3⟩
 ·have:z=0:=by omega
  subst this;exact⟨0,⟨by omega,λ _=>rfl,λ h=>by omega⟩,by omega,by simp[Q]⟩
theorem zC3 {B e:Nat} {a:Int × Int} (hB:16<=B) (ha:a.1<=a.2) (h:zW a<Q (B+e)) :
  ∃ (l:Int) (t N:Nat),yR (zW a) l/\(t:Int)=max 0 (l-B+8)/\t<=e+8/\Abs (zF a t) (Q (B-8))/\zU (zV B (zF a t)) N:=by
 obtain⟨l,h1,h2,h3⟩:=len_ex (zAS ha) h;obtain⟨t,ht⟩:∃ t:Nat,(t:Int)=max 0 (l-B+8):=⟨(max 0 (l-(B:Int)+8)).toNat,by omega⟩
 have hA:Abs (zF a t) (Q (B-8)):=by
  obtain⟨g1,g2,g3,g4⟩:=zEJ ha;have q:=zE t;have hm:=zH (show l.toNat<=B-8+t by omega)
  rw[jD] at hm;have r1:=jJ (x:=a.1) (m:=Q (B-8)) (q:=Q t) (by omega) (by omega) (by omega)
  have r2:=jJ (x:=a.2) (m:=Q (B-8)) (q:=Q t) (by omega) (by omega) (by omega)
  exact⟨r1.1,r1.2.1,r2.2.2.1,r2.2.2.2⟩
 obtain⟨N,n1,n2⟩:=zB7 (s:=8) (by omega) (zBX (by omega) hA)
 exact⟨l,t,N,h1,ht,by omega,hA,n2⟩
theorem P200 (m:Nat):P 200*Q m=Q (3200+m):=by rw[jD,<- Q_P]
def zLA (x:Nat->Rat) (Kw ee B:Nat) (lo hi:Int):Prop :=
 Iv B (lo,hi) (Ex.Ev x)/\lo<=hi/\hi-lo<=Q Kw /\ -Q (B+ee)<=lo/\hi<=Q (B+ee)
theorem exp_ends (bits:Nat) (x:Nat->Rat) (Kw ee:Nat) (h:bits+ee<=3200):zBU bits Kw (zLA x Kw ee):=λ m lo hi ⟨h1,h2,h3,h4,h5⟩=>by
 have:=zH (show bits+m+ee<=3200+m by omega)
 rw[P200];exact⟨h2,h3,by omega,by omega⟩
theorem wb_17:wb 17=1678:=by decide
theorem DQ:eb 17=1536:=by decide
theorem exp_pr {bits m t N T:Nat} {a:Int × Int} {x:Nat->Rat} (hb:bits<=120) (hm:32<=m) (O2:m<=1820) (ha:a.1<=a.2) (hw:a.2-a.1<=1) (hx:Iv (bits+m) a x) (ht:t<=T) (hT:T<=17) (hA:Abs (zF a t) (Q (bits+m-8))) (hN:zU (zV (bits+m) (zF a t)) N) :
  zLA x 1700 (eb T) (bits+m) (sqI (bits+m) (zM (zV (bits+m) (zF a t)) N) t).1 (sqI (bits+m) (zM (zV (bits+m) (zF a t)) N) t).2:=by
 have q:=zE t;obtain⟨g1,g2,g3,g4⟩:=zBL (ws:=1) (by omega) hA ha (by omega) hN
 have qW:=zH (zMH (show t<=17 by omega))
 rw[wb_17] at qW;have yw:Q (bits+m+eb t)<=Q (bits+m+eb T):=zH (by have:=zAP ht;omega)
 refine⟨zDZ (by omega) hx hA,g1,?_,?_,?_⟩
 ·refine Int.le_trans g4 ?_
  have e:Q 1700=4194304*Q 1678:=by
   have:=jD 22 1678;rw[show 22+1678=1700 by omega] at this
   rw[this];rfl
  rw[e];have q2:=zE (wb t);exact Int.mul_le_mul (by omega) qW (by omega) (by omega)
 ·have:=g2.1;omega
 ·have:=g2.2.2.2;omega
structure RaC (w:World) (B:Nat) (p q:Int):Prop where
 c0:w.cell? ⟨B,0,none⟩=some (.int .i64 p)
 c1:w.cell? ⟨B,1,none⟩=some (.int .i64 q)
theorem RaC.lt {w:World} {B:Nat} {p q:Int} (h:RaC w B p q):B<w.heap.size:=World.block_lt_of_cell? w ⟨B,0,none⟩ h.c0
theorem RaC.bw {w w':World} {B:Nat} {p q:Int} (h:RaC w B p q) (hb:Below w.heap.size w w'):RaC w' B p q :=
 ⟨(hb.cell (p:=⟨B,0,none⟩) h.lt).trans h.c0,(hb.cell (p:=⟨B,1,none⟩) h.lt).trans h.c1⟩
theorem zL4 (w:World) (p q:Int) (T:TypeId):RaC (w.alloc (.cells #[.int .i64 p,.int .i64 q] T)) w.heap.size p q:=⟨by simp,by simp⟩
theorem powOf_iv (w:World) (p q:Int) (b:Nat) (hr:rok p q) (hb:b<=1000000) :
  Calls Tryz.prog 78 #[.agg #[.int .i64 p,.int .i64 q],.int .i64 b] w (zG w b (4+b/16+20) (ofI p q b).1 (ofI p q b).2):=by
 obtain⟨r1,r2,r3,r4⟩:=hr;obtain⟨W,hW⟩:∃ W,W=(w.alloc (.cells #[.int .i64 p,.int .i64 q] 23)).alloc (.cells zCq 31):=⟨_,rfl⟩;have j8:Below w.heap.size w W:=by rw[hW];exact bl2 _ _ _
 have A:RaC W w.heap.size p q:=by rw[hW];constructor<;>simp[go_sem]
 have R:NoC W (w.heap.size+1):=by rw[hW];constructor<;>simp[go_sem]
 have lA:=A.lt;have lR:=R.lt;have HK:=zC (show ∀ w',Below W.heap.size W w'->(rK0 w' w.heap.size p q) from λ w' hB=>⟨(A.bw hB).c0,(A.bw hB).c1⟩)
 go_enter Tryz.func78,Tryz.ntmps78
 go_wp2;rw[<- hW];clear hW;obtain⟨x0,x1⟩:=zA HK _ (Below.refl _ _);have D5:Below W.heap.size W W.drew:=(Below.refl _ _).drew;have Kh:w.heap.size≠w.heap.size+1:=by omega
 have Dn:w.heap.size+1≠w.heap.size:=by omega
 go_region_held3 (λ w'=>rK0 w' w.heap.size p q) (first|exact zA HK _ (by with_reducible first|exact D5|exact F9|exact p9|exact s9)|(dsimp only[cK,cK0,nK,nK0,rK,rK0];go_keep)|go_keep)
  (first
   | (go_at_call 88;have hq:=p9;refine (jL _ _ _ _ _ _ _ _ 4 4 b p q _ (o8.bw j7) A5 (by omega) hb (by omega)).mono ?_;rintro r' w3 ⟨u,rfl,A8,C7,o7⟩;have F9:=zB p9 o7;have HU:=zC A8;clear A8;obtain⟨q0,q1,q2,q3,q4,q5⟩:=R.bw F9;obtain⟨y0,y1⟩:=zA HK _ F9)
   | (go_at_call 33;have hq:=s9;refine (zD q _ (by omega) (by omega)).mono ?_;rintro r' w2 ⟨j6,a2,n2,c2,rfl,A5,j7⟩;have p9:=zB s9 j7)
   | (go_at_call 33;refine (zD p _ (by omega) (by omega)).mono ?_;rintro r' w1 ⟨m9,a1,n1,c1,rfl,o8,b9⟩;have s9:=zB D5 b9))
 all_goals
  go_wp2_with fail;refine bodyPost_ret (v:=.agg u.q) (by simp[results,Tryz.results78,go_sem,q0,q1,q2,q3,q4]) rfl ⟨u,rfl,zA HU,?_,?_⟩
  ·exact SpAt.put5 C7 q0 q1 q2 q3 q4 _ _ _ _ _
  ·exact jS (zB j8 F9) (Nat.le_succ _) _ _ _ _ _
theorem pexp1_iv (w:World) (B0:Nat) (p q:Int) (b t N K:Nat) (l:Int) (hr:rok p q) (D7:RaC w B0 p q) (K4:16<=b) (hb:b<=100000) (hl:yR (zW (ofI p q b)) l) (ht:(t:Int)=max 0 (l-b+8)) (dO:t<=1000000)
  (gC:Abs (zF (ofI p q b) t) (Q (b-8))) (hN:zU (zV b (zF (ofI p q b) t)) N) (hK:Q (b+eb t)<P K) (gz:K<=10000000) (Xc:4+b/16+20<=K) :
  Calls Tryz.prog 76 #[.int .i64 b,.pointer (some ⟨B0,0,none⟩)] w (zG w b K (sqI b (zM (zV b (zF (ofI p q b) t)) N) t).1 (sqI b (zM (zV b (zF (ofI p q b) t)) N) t).2):=by
 have l0:=D7.lt;obtain⟨y0,y1⟩:=D7;have hd:0<q:=by have:=hr.2.2.1;omega
 have HL:=zC hl;have HT:=zC ht;have HS:=zC gC;have HN:=zC hN;have HR:=zC hr;have R:=zS w 31;clear hl ht gC hN hr
 go_enter Tryz.func76,Tryz.ntmps76
 go_wp2_with fail;refine (powOf_iv _ p q b (zA HR) (by omega)).mono ?_
 rintro r' w1 ⟨u,rfl,A8,C7,b9⟩;replace R:=R.bw b9;have j8:Below w.heap.size w w1:=zB (bl1 _ _) b9;have HU:=zC A8;clear A8 y0 y1 b9;go_wp2_with fail;refine (zBG _ u K b t N (ofI p q b) l (C7.mono Xc) (zA HU) (kO hd b) K4 (by omega) (zA HL) (zA HT) dO (zA HS) (zA HN) hK gz).mono ?_
 rintro r' w2 ⟨v,rfl,J7,J5,j7⟩;obtain⟨q0,q1,q2,q3,q4,q5⟩:=R.bw j7;replace j8:=zB j8 j7;have HV:=zC J7;clear J7;go_wp2_with fail;refine bodyPost_ret (v:=.agg v.q) (by simp[results,Tryz.results76,go_sem,q0,q1,q2,q3,q4]) rfl ⟨v,rfl,zA HV,?_,?_⟩
 ·exact SpAt.put5 J5 q0 q1 q2 q3 q4 _ _ _ _ _
 ·exact jS j8 (Zb _) _ _ _ _ _
theorem within_t {p q n:Int} (h1 : -(n*q)<=p) (h2:p<=n*q):kW p q n=true:=by simp[kW,h1,h2]
theorem within_f {p q n:Int} (h:¬ (-(n*q)<=p/\p<=n*q)):kW p q n=false:=by
 unfold kW
 by_cases h1 : -(n*q)<=p
 ·have:¬ p<=n*q:=λ h2=>h ⟨h1,h2⟩
  simp[this]
 ·simp[h1]
theorem zFM {p q:Int} {n b e:Nat} (hq:0<q) (h1 : -((n:Int)*q)<=p) (h2:p<=(n:Int)*q) (he:(n:Int)<Q e):zW (ofI p q b)<Q (b+e):=by
 have qb:=zE b;have g1:=YW h1 (show 0<=Q b by omega)
 have g2:=YW h2 (show 0<=Q b by omega)
 have e1:(n:Int)*q*Q b=(n:Int)*Q b*q:=by grind
 have e2 : -((n:Int)*q)*Q b = -((n:Int)*Q b*q):=by grind
 have:=zAJ (zGC (n:=p) (m:=(n:Int)*Q b) hq b (by omega) (by omega))
 have h3:=Int.mul_lt_mul_of_pos_right he (show 0<Q b by omega)
 rw[jD,Int.mul_comm (Q b)];omega
theorem zKI (p q b:Int) (w:World) (h:¬ (rok p q/\8<=b/\b<=120)) :
  Calls Tryz.prog 37 #[.agg #[.int .i64 p,.int .i64 q],.int .i64 b] w (zB1 w 0 250 0 0 3):=by
 have d1:zFO p q b=3:=by unfold zFO;rw[if_neg h]
 clear h
 go_enter Tryz.func37,Tryz.ntmps37
 go_wp2_with (go_at_call 74;refine (yG _ _ _ (by simp) _ _ _ _).mono ?_;rintro r w1 ⟨rfl,b9⟩;rw[d1];obtain⟨C9,B9,D6⟩:=zZ (w.heap.size+1+1) (by simp) b9)
 refine bodyPost_ret (v:=.tuple #[.agg zCq,.int .i64 3]) (by simp[results,Tryz.results37,go_sem,B9]) rfl ⟨⟨false,none,0,0,false,none,0,0,0⟩,rfl,rfl,zGR _ _,?_⟩
 exact jS (zB (bl2 _ _ _) b9) (Nat.le_succ _) _ _ _ _ _
theorem zI1 (p q b:Int) (w:World) (hr:rok p q) (h5:8<=b) (h6:b<=120) (h:¬ (-(500*q)<=p/\p<=500*q)) :
  Calls Tryz.prog 37 #[.agg #[.int .i64 p,.int .i64 q],.int .i64 b] w (zB1 w 0 250 0 0 2):=by
 have d1:zFO p q b=0:=by unfold zFO;rw[if_pos];exact⟨hr,by omega,by omega⟩
 have d2:=within_f h;clear h;obtain⟨r1,r2,r3,r4⟩:=hr
 go_enter Tryz.func37,Tryz.ntmps37
 go_wp2_with (go_at_call 74;refine (yG _ _ _ (by simp) _ _ _ _).mono ?_;rintro r w1 ⟨rfl,b9⟩;rw[d1];obtain⟨C9,B9,D6⟩:=zZ (w.heap.size+1+1) (by simp) b9)
 have A:RaC w1 w.heap.size p q:=⟨by simp[B9,go_sem],by simp[B9,go_sem]⟩
 have R:NoC w1 (w.heap.size+1):=⟨by simp[B9,go_sem],by simp[B9,go_sem],by simp[B9,go_sem],by simp[B9,go_sem],by simp[B9,go_sem],λ o=>by simp[D6,go_sem]⟩
 have X9:Below w.heap.size w w1:=zB (bl2 _ _ _) b9;clear B9 D6 b9;have lA:=A.lt;have lR:=R.lt;obtain⟨x0,x1⟩:=A;refine (zAG p q 500 _ (by omega) (by omega) r3 r4).mono ?_
 rintro r' w2 ⟨rfl,j7⟩;rw[d2];obtain⟨q0,q1,q2,q3,q4,q5⟩:=R.bw j7;replace X9:=zB X9 j7;go_wp2_with fail;refine bodyPost_ret (v:=.tuple #[.agg zCq,.int .i64 2]) (by simp[results,Tryz.results37,go_sem,q0,q1,q2,q3,q4]) rfl ⟨⟨false,none,0,0,false,none,0,0,0⟩,rfl,rfl,zGR _ _,?_⟩
 exact jS X9 (Nat.le_succ _) _ _ _ _ _
open Ex
theorem Iv.le {B:Nat} {a:Int × Int} {x:Nat->Rat} (h:Iv B a x):a.1<=a.2 :=
 Int.le_of_mul_le_mul_right (h.touch h) (by have:=zE B;omega)
theorem zQR {n d n' d':Int} {i j:Nat} (hn:0<n) (hd:0<d) (pY:n'=n*Q j) (Ja:d'=d*Q i) (h1:d'<=n') (h2:n'<2*d') (h0:j=0\/i=0):Bal n d n' d' ((i:Int)-(j:Int)):=by
 have qi:=zE i;have qj:=zE j;have p1:0<n':=by rw[pY];exact Int.mul_pos hn (by omega)
 have p2:0<d':=by rw[Ja];exact Int.mul_pos hd (by omega)
 have e0:Q 0=1:=rfl;refine⟨⟨p1,p2,by omega,by omega⟩,λ h=>?_,λ h=>?_⟩
 ·have hj:j=0:=by omega
  subst hj;rw[show ((i:Int)-((0:Nat):Int)).toNat=i by omega,pY,Ja,e0,Int.mul_one,Int.mul_assoc]
 ·have hi:i=0:=by omega
  subst hi;rw[show (-(((0:Nat):Int)-(j:Int))).toNat=j by omega,pY,Ja,e0,Int.mul_one];grind
theorem zRT:Ex.IsLog (λ M=>2*Ex.Az (zR 2 1) M) (λ _=>(2:Rat)):=by
 have h:=zFK (n:=2) (d:=1) ⟨by omega,by omega,by omega,by omega⟩
 refine h.congr_r (Ex.null_zero.of_eq λ M=>?_)
 have e:((2:Int):Rat)/((1:Int):Rat)=2:=by decide +kernel
 rw[e];grind
end Go.Proofs.YtgmnknmjainabacGreat
