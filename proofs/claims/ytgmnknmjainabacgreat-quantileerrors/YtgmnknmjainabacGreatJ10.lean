/-
  Its own texts.
-/
import Derived.Test.YtgmnknmjainabacGreatJ09
set_option maxRecDepth 100000
set_option maxHeartbeats 40000000
set_option linter.unnecessarySimpa false
set_option linter.unusedSimpArgs false
set_option linter.unusedVariables false
namespace Go.Proofs.YtgmnknmjainabacGreat
open Go.RowKit
attribute [local go_sem ↓] Go.wp_at_zero Go.wp_at_succ
theorem zE2 (neg j7:Bool) (a c:Option Addr) (n m cap m7 k k2 b B:Nat) (x y:Int) (w:World) (h1:IntAt w neg a n cap k x) (h2:IntAt w j7 c m m7 k2 y) (hk:k<=300000000) (hb:b<=1000000) (hy:0<y) (hc:w.cell? ⟨B,4,none⟩=some (.int .i64 b)) :
  Calls Tryz.prog 190 #[.agg #[.bool neg,.slice a n cap],.agg #[.bool j7,.slice c m m7],.pointer (some ⟨B,0,none⟩)] w (zEO w (b/16+k+9) (x*Q b/y)):=by
 have lB:B<w.heap.size:=World.block_lt_of_cell? w ⟨B,4,none⟩ hc;have lI:w.heap.size≠w.heap.size+1+1:=by omega
 have lJ:w.heap.size+1+1≠w.heap.size:=by omega
 obtain⟨W,hW⟩:∃ W,W=((w.alloc (.cells #[.bool neg,.slice a n cap] 29)).alloc (.cells #[.bool j7,.slice c m m7] 29)).alloc (.cells #[.bool false,.slice none 0 0] 29):=⟨_,rfl⟩;have j6:Below w.heap.size w W:=by rw[hW];exact bl3 _ _ _ _
 have A:NmC W w.heap.size ⟨neg,a,n,cap⟩:=by rw[hW];constructor<;>simp[go_sem]
 have G:NmC W (w.heap.size+1) ⟨j7,c,m,m7⟩:=by rw[hW];constructor<;>simp[go_sem]
 have R:NoI W (w.heap.size+1+1):=by rw[hW];constructor<;>simp[go_sem]
 have hcW:=(j6.cell (p:=⟨B,4,none⟩) lB).trans hc;have lBW:=Yn lB j6.size;have HX:=zC (h1.bw j6);have HY:=zC (h2.bw j6);have D9:Below W.heap.size W W.drew:=(Below.refl _ _).drew;have lR:=R.lt;have nB:B≠w.heap.size+1+1:=by omega
 have Ii:w.heap.size+1+1≠B:=by omega
 have HK:=zC (show ∀ w',Below W.heap.size W w'->(w'.cell? ⟨w.heap.size,0,none⟩=some (.bool neg)/\w'.cell? ⟨w.heap.size,1,none⟩=some (.slice a n cap)/\w'.cell? ⟨w.heap.size+1,0,none⟩=some (.bool j7)/\w'.cell? ⟨w.heap.size+1,1,none⟩=some (.slice c m m7)/\w'.cell? ⟨B,4,none⟩=some (.int .i64 b)) from λ w' hB=>⟨(A.bw hB).c0,(A.bw hB).c1,(G.bw hB).c0,(G.bw hB).c1,(hB.cell (p:=⟨B,4,none⟩) lBW).trans hcW⟩)
 go_enter Tryz.func190,Tryz.ntmps190
 go_wp2;rw[<- hW];clear hW;obtain⟨i0,i1,i2,i3,i4⟩:=zA HK _ (Below.refl _ _)
 go_region_held3 (λ w'=>w'.cell? ⟨w.heap.size,0,none⟩=some (.bool neg)/\w'.cell? ⟨w.heap.size,1,none⟩=some (.slice a n cap)/\w'.cell? ⟨w.heap.size+1,0,none⟩=some (.bool j7)/\w'.cell? ⟨w.heap.size+1,1,none⟩=some (.slice c m m7)/\w'.cell? ⟨B,4,none⟩=some (.int .i64 b)) (first|exact zA HK _ (by with_reducible first|exact D9|exact A7|exact C9)|go_keep)
  (first
   | (go_at_call 116;refine (zB2 _ _ _ _ b k x _ ((zA HX).bw D9) (by omega) (by omega)).mono ?_;rintro r w1 ⟨o7,a1,n1,c1,rfl,s9,b9⟩;have C9:=zB D9 b9)
   | (go_at_call 126;refine (zAN _ _ _ _ _ _ _ _ (b/16+k+1) k2 (x*Q b) y _ s9 ((zA HY).bw C9) (by omega) hy).mono ?_;rintro r w2 ⟨C7,a3,n3,c3,rfl,E8,j5⟩;have A7:=zB C9 j5;obtain⟨q0,q1,q2⟩:=R.bw A7;obtain⟨d0,d1,d2,d3,d4⟩:=zA HK _ A7))
 clear i0 i1 i2 i3 i4;go_wp2;refine bodyPost_ret (v:=.agg #[.bool C7,.slice a3 n3 c3]) (by simp[results,Tryz.results190,go_sem,q0,q1]) rfl ⟨C7,a3,n3,c3,rfl,(E8.put2 q0 q1 _ _).mono (by omega),?_⟩
 exact zFZ (zB j6 A7) (by omega) _ _
theorem zE3 (neg j7:Bool) (a c:Option Addr) (n m cap m7 k k2 b B:Nat) (x y:Int) (w:World) (h1:IntAt w neg a n cap k x) (h2:IntAt w j7 c m m7 k2 y) (hk:k<=300000000) (hb:b<=1000000) (hy:0<y) (hc:w.cell? ⟨B,4,none⟩=some (.int .i64 b)) :
  Calls Tryz.prog 191 #[.agg #[.bool neg,.slice a n cap],.agg #[.bool j7,.slice c m m7],.pointer (some ⟨B,0,none⟩)] w (zEO w (b/16+k+9) (-(-(x*Q b)/y))):=by
 have lB:B<w.heap.size:=World.block_lt_of_cell? w ⟨B,4,none⟩ hc;have lI:w.heap.size≠w.heap.size+1+1:=by omega
 have lJ:w.heap.size+1+1≠w.heap.size:=by omega
 obtain⟨W,hW⟩:∃ W,W=((w.alloc (.cells #[.bool neg,.slice a n cap] 29)).alloc (.cells #[.bool j7,.slice c m m7] 29)).alloc (.cells #[.bool false,.slice none 0 0] 29):=⟨_,rfl⟩;have j6:Below w.heap.size w W:=by rw[hW];exact bl3 _ _ _ _
 have A:NmC W w.heap.size ⟨neg,a,n,cap⟩:=by rw[hW];constructor<;>simp[go_sem]
 have G:NmC W (w.heap.size+1) ⟨j7,c,m,m7⟩:=by rw[hW];constructor<;>simp[go_sem]
 have R:NoI W (w.heap.size+1+1):=by rw[hW];constructor<;>simp[go_sem]
 have hcW:=(j6.cell (p:=⟨B,4,none⟩) lB).trans hc;have lBW:=Yn lB j6.size;have HX:=zC (h1.bw j6);have HY:=zC (h2.bw j6);have D9:Below W.heap.size W W.drew:=(Below.refl _ _).drew;have lR:=R.lt;have nB:B≠w.heap.size+1+1:=by omega
 have Ii:w.heap.size+1+1≠B:=by omega
 have HK:=zC (show ∀ w',Below W.heap.size W w'->(w'.cell? ⟨w.heap.size,0,none⟩=some (.bool neg)/\w'.cell? ⟨w.heap.size,1,none⟩=some (.slice a n cap)/\w'.cell? ⟨w.heap.size+1,0,none⟩=some (.bool j7)/\w'.cell? ⟨w.heap.size+1,1,none⟩=some (.slice c m m7)/\w'.cell? ⟨B,4,none⟩=some (.int .i64 b)) from λ w' hB=>⟨(A.bw hB).c0,(A.bw hB).c1,(G.bw hB).c0,(G.bw hB).c1,(hB.cell (p:=⟨B,4,none⟩) lBW).trans hcW⟩)
 go_enter Tryz.func191,Tryz.ntmps191
 go_wp2;rw[<- hW];clear hW;obtain⟨i0,i1,i2,i3,i4⟩:=zA HK _ (Below.refl _ _)
 go_region_held3 (λ w'=>w'.cell? ⟨w.heap.size,0,none⟩=some (.bool neg)/\w'.cell? ⟨w.heap.size,1,none⟩=some (.slice a n cap)/\w'.cell? ⟨w.heap.size+1,0,none⟩=some (.bool j7)/\w'.cell? ⟨w.heap.size+1,1,none⟩=some (.slice c m m7)/\w'.cell? ⟨B,4,none⟩=some (.int .i64 b)) (first|exact zA HK _ (by with_reducible first|exact D9|exact A7|exact C9)|go_keep)
  (first
   | (go_at_call 116;refine (zB2 _ _ _ _ b k x _ ((zA HX).bw D9) (by omega) (by omega)).mono ?_;rintro r w1 ⟨o7,a1,n1,c1,rfl,s9,b9⟩;have C9:=zB D9 b9)
   | (go_at_call 127;refine (zG2 _ _ _ _ _ _ _ _ (b/16+k+1) k2 (x*Q b) y _ s9 ((zA HY).bw C9) (by omega) hy).mono ?_;rintro r w2 ⟨C7,a3,n3,c3,rfl,E8,j5⟩;have A7:=zB C9 j5;obtain⟨q0,q1,q2⟩:=R.bw A7;obtain⟨d0,d1,d2,d3,d4⟩:=zA HK _ A7))
 clear i0 i1 i2 i3 i4;go_wp2;refine bodyPost_ret (v:=.agg #[.bool C7,.slice a3 n3 c3]) (by simp[results,Tryz.results191,go_sem,q0,q1]) rfl ⟨C7,a3,n3,c3,rfl,(E8.put2 q0 q1 _ _).mono (by omega),?_⟩
 exact zFZ (zB j6 A7) (by omega) _ _
theorem zID (w:World) (s t:Sp) (k b B:Nat) (lo hi lo' hi':Int) (hs:SpAt w s k lo hi) (ht:SpAt w t k lo' hi') (hk:k<=300000000) (hb:b<=1000000) (hp:0<lo') (J3:0<hi') (hc:w.cell? ⟨B,4,none⟩=some (.int .i64 b)) :
  Calls Tryz.prog 152 #[.agg s.q,.agg t.q,.func (.func 190) #[] #[.pointer (some ⟨B,0,none⟩)]] w λ r w' =>
   ∃ B' f,r=.returned (.slice (some ⟨B',0,none⟩) 4 4)/\Nums w' B' 4 (b/16+k+9) f (pr4 (lo*Q b/lo') (lo*Q b/hi') (hi*Q b/lo') (hi*Q b/hi'))/\Below w.heap.size w w':=by
 have lB:B<w.heap.size:=World.block_lt_of_cell? w ⟨B,4,none⟩ hc;obtain⟨W,hW⟩:∃ W,W=(w.alloc (.cells s.q 31)).alloc (.cells t.q 31):=⟨_,rfl⟩;have j6:Below w.heap.size w W:=by rw[hW];exact bl2 _ _ _
 have a0:SpC W w.heap.size s:=by rw[hW];constructor<;>simp[go_sem]
 have g0:SpC W (w.heap.size+1) t:=by rw[hW];constructor<;>simp[go_sem]
 have hcW:=(j6.cell (p:=⟨B,4,none⟩) lB).trans hc;have lBW:=Yn lB j6.size;have HS:=zC (hs.bw j6);have HT:=zC (ht.bw j6);have D9:Below W.heap.size W W.drew:=(Below.refl _ _).drew;have mb:=zC (show ∀ w',Below W.heap.size W w'->w'.cell? ⟨B,4,none⟩=some (.int .i64 b) from λ w' hB=>(hB.cell (p:=⟨B,4,none⟩) lBW).trans hcW)
 have HK:=zC (show ∀ w',Below W.heap.size W w'->(w'.cell? ⟨w.heap.size,0,none⟩=some (.bool s.ln)/\w'.cell? ⟨w.heap.size,1,none⟩=some (.slice s.la s.lN s.lc)/\w'.cell? ⟨w.heap.size,2,none⟩=some (.bool s.hn)/\w'.cell? ⟨w.heap.size,3,none⟩=some (.slice s.ha s.hN s.hc)/\w'.cell? ⟨w.heap.size+1,0,none⟩=some (.bool t.ln)/\w'.cell? ⟨w.heap.size+1,1,none⟩=some (.slice t.la t.lN t.lc)/\w'.cell? ⟨w.heap.size+1,2,none⟩=some (.bool t.hn)/\w'.cell? ⟨w.heap.size+1,3,none⟩=some (.slice t.ha t.hN t.hc)) from λ w' hB=>by
  obtain⟨x0,x1,x2,x3,x4⟩:=a0.bw hB;obtain⟨y0,y1,y2,y3,y4⟩:=g0.bw hB
  exact⟨x0,x1,x2,x3,y0,y1,y2,y3⟩)
 go_enter Tryz.func152,Tryz.ntmps152
 go_wp2;obtain⟨x0,x1,x2,x3,x4⟩:=a0;obtain⟨y0,y1,y2,y3,y4⟩:=g0;rw[<- hW];clear hW
 go_region_held3 (λ w'=>w'.cell? ⟨w.heap.size,0,none⟩=some (.bool s.ln)/\w'.cell? ⟨w.heap.size,1,none⟩=some (.slice s.la s.lN s.lc)/\w'.cell? ⟨w.heap.size,2,none⟩=some (.bool s.hn)/\w'.cell? ⟨w.heap.size,3,none⟩=some (.slice s.ha s.hN s.hc)/\w'.cell? ⟨w.heap.size+1,0,none⟩=some (.bool t.ln)/\w'.cell? ⟨w.heap.size+1,1,none⟩=some (.slice t.la t.lN t.lc)/\w'.cell? ⟨w.heap.size+1,2,none⟩=some (.bool t.hn)/\w'.cell? ⟨w.heap.size+1,3,none⟩=some (.slice t.ha t.hN t.hc)) (exact zA HK _ (by with_reducible first|exact D9|exact zO H6 _|exact H6|exact D6|exact A7|exact C9))
  (first
   | (go_at_call 190;have hq:=D6;refine (zE2 _ _ _ _ _ _ _ _ k k b B hi hi' _ ((zA HS).hi.bw D6) ((zA HT).hi.bw D6) hk hb J3 (zA mb _ D6)).mono ?_;rintro r w4 ⟨E5,a4,n4,c4,rfl,H8,A5⟩;replace s9:=s9.bw A5;replace A8:=A8.bw A5;replace E8:=E8.bw A5;have H6:=zB D6 A5)
   | (go_at_call 190;have hq:=A7;refine (zE2 _ _ _ _ _ _ _ _ k k b B hi lo' _ ((zA HS).hi.bw A7) ((zA HT).lo.bw A7) hk hb hp (zA mb _ A7)).mono ?_;rintro r w3 ⟨C7,a3,n3,c3,rfl,E8,m8⟩;replace s9:=s9.bw m8;replace A8:=A8.bw m8;have D6:=zB A7 m8)
   | (go_at_call 190;have hq:=C9;refine (zE2 _ _ _ _ _ _ _ _ k k b B lo hi' _ ((zA HS).lo.bw C9) ((zA HT).hi.bw C9) hk hb J3 (zA mb _ C9)).mono ?_;rintro r w2 ⟨j7,a2,n2,c2,rfl,A8,j5⟩;replace s9:=s9.bw j5;have A7:=zB C9 j5)
   | (go_at_call 190;have hq:=D9;refine (zE2 _ _ _ _ _ _ _ _ k k b B lo lo' _ ((zA HS).lo.bw D9) ((zA HT).lo.bw D9) hk hb hp (zA mb _ D9)).mono ?_;rintro r w1 ⟨o7,a1,n1,c1,rfl,s9,b9⟩;have C9:=zB D9 b9))
 go_wp2
 go_ret
 exact⟨w4.heap.size,pr4 ⟨o7,a1,n1,c1⟩ ⟨j7,a2,n2,c2⟩ ⟨C7,a3,n3,c3⟩ ⟨E5,a4,n4,c4⟩,rfl,nums4 w4 _ rfl ⟨o7,a1,n1,c1⟩ ⟨j7,a2,n2,c2⟩ ⟨C7,a3,n3,c3⟩ ⟨E5,a4,n4,c4⟩ _ _ _ _ _ _ s9 A8 E8 H8,zB j6 (zO H6 _)⟩
theorem zIE (w:World) (s t:Sp) (k b B:Nat) (lo hi lo' hi':Int) (hs:SpAt w s k lo hi) (ht:SpAt w t k lo' hi') (hk:k<=300000000) (hb:b<=1000000) (hp:0<lo') (J3:0<hi') (hc:w.cell? ⟨B,4,none⟩=some (.int .i64 b)) :
  Calls Tryz.prog 152 #[.agg s.q,.agg t.q,.func (.func 191) #[] #[.pointer (some ⟨B,0,none⟩)]] w λ r w' =>
   ∃ B' f,r=.returned (.slice (some ⟨B',0,none⟩) 4 4)/\Nums w' B' 4 (b/16+k+9) f (pr4 (-(-(lo*Q b)/lo')) (-(-(lo*Q b)/hi')) (-(-(hi*Q b)/lo')) (-(-(hi*Q b)/hi')))/\Below w.heap.size w w':=by
 have lB:B<w.heap.size:=World.block_lt_of_cell? w ⟨B,4,none⟩ hc;obtain⟨W,hW⟩:∃ W,W=(w.alloc (.cells s.q 31)).alloc (.cells t.q 31):=⟨_,rfl⟩;have j6:Below w.heap.size w W:=by rw[hW];exact bl2 _ _ _
 have a0:SpC W w.heap.size s:=by rw[hW];constructor<;>simp[go_sem]
 have g0:SpC W (w.heap.size+1) t:=by rw[hW];constructor<;>simp[go_sem]
 have hcW:=(j6.cell (p:=⟨B,4,none⟩) lB).trans hc;have lBW:=Yn lB j6.size;have HS:=zC (hs.bw j6);have HT:=zC (ht.bw j6);have D9:Below W.heap.size W W.drew:=(Below.refl _ _).drew;have mb:=zC (show ∀ w',Below W.heap.size W w'->w'.cell? ⟨B,4,none⟩=some (.int .i64 b) from λ w' hB=>(hB.cell (p:=⟨B,4,none⟩) lBW).trans hcW)
 have HK:=zC (show ∀ w',Below W.heap.size W w'->(w'.cell? ⟨w.heap.size,0,none⟩=some (.bool s.ln)/\w'.cell? ⟨w.heap.size,1,none⟩=some (.slice s.la s.lN s.lc)/\w'.cell? ⟨w.heap.size,2,none⟩=some (.bool s.hn)/\w'.cell? ⟨w.heap.size,3,none⟩=some (.slice s.ha s.hN s.hc)/\w'.cell? ⟨w.heap.size+1,0,none⟩=some (.bool t.ln)/\w'.cell? ⟨w.heap.size+1,1,none⟩=some (.slice t.la t.lN t.lc)/\w'.cell? ⟨w.heap.size+1,2,none⟩=some (.bool t.hn)/\w'.cell? ⟨w.heap.size+1,3,none⟩=some (.slice t.ha t.hN t.hc)) from λ w' hB=>by
  obtain⟨x0,x1,x2,x3,x4⟩:=a0.bw hB;obtain⟨y0,y1,y2,y3,y4⟩:=g0.bw hB
  exact⟨x0,x1,x2,x3,y0,y1,y2,y3⟩)
 go_enter Tryz.func152,Tryz.ntmps152
 go_wp2;obtain⟨x0,x1,x2,x3,x4⟩:=a0;obtain⟨y0,y1,y2,y3,y4⟩:=g0;rw[<- hW];clear hW
 go_region_held3 (λ w'=>w'.cell? ⟨w.heap.size,0,none⟩=some (.bool s.ln)/\w'.cell? ⟨w.heap.size,1,none⟩=some (.slice s.la s.lN s.lc)/\w'.cell? ⟨w.heap.size,2,none⟩=some (.bool s.hn)/\w'.cell? ⟨w.heap.size,3,none⟩=some (.slice s.ha s.hN s.hc)/\w'.cell? ⟨w.heap.size+1,0,none⟩=some (.bool t.ln)/\w'.cell? ⟨w.heap.size+1,1,none⟩=some (.slice t.la t.lN t.lc)/\w'.cell? ⟨w.heap.size+1,2,none⟩=some (.bool t.hn)/\w'.cell? ⟨w.heap.size+1,3,none⟩=some (.slice t.ha t.hN t.hc)) (exact zA HK _ (by with_reducible first|exact D9|exact zO H6 _|exact H6|exact D6|exact A7|exact C9))
  (first
   | (go_at_call 191;have hq:=D6;refine (zE3 _ _ _ _ _ _ _ _ k k b B hi hi' _ ((zA HS).hi.bw D6) ((zA HT).hi.bw D6) hk hb J3 (zA mb _ D6)).mono ?_;rintro r w4 ⟨E5,a4,n4,c4,rfl,H8,A5⟩;replace s9:=s9.bw A5;replace A8:=A8.bw A5;replace E8:=E8.bw A5;have H6:=zB D6 A5)
   | (go_at_call 191;have hq:=A7;refine (zE3 _ _ _ _ _ _ _ _ k k b B hi lo' _ ((zA HS).hi.bw A7) ((zA HT).lo.bw A7) hk hb hp (zA mb _ A7)).mono ?_;rintro r w3 ⟨C7,a3,n3,c3,rfl,E8,m8⟩;replace s9:=s9.bw m8;replace A8:=A8.bw m8;have D6:=zB A7 m8)
   | (go_at_call 191;have hq:=C9;refine (zE3 _ _ _ _ _ _ _ _ k k b B lo hi' _ ((zA HS).lo.bw C9) ((zA HT).hi.bw C9) hk hb J3 (zA mb _ C9)).mono ?_;rintro r w2 ⟨j7,a2,n2,c2,rfl,A8,j5⟩;replace s9:=s9.bw j5;have A7:=zB C9 j5)
   | (go_at_call 191;have hq:=D9;refine (zE3 _ _ _ _ _ _ _ _ k k b B lo lo' _ ((zA HS).lo.bw D9) ((zA HT).lo.bw D9) hk hb hp (zA mb _ D9)).mono ?_;rintro r w1 ⟨o7,a1,n1,c1,rfl,s9,b9⟩;have C9:=zB D9 b9))
 go_wp2
 go_ret
 exact⟨w4.heap.size,pr4 ⟨o7,a1,n1,c1⟩ ⟨j7,a2,n2,c2⟩ ⟨C7,a3,n3,c3⟩ ⟨E5,a4,n4,c4⟩,rfl,nums4 w4 _ rfl ⟨o7,a1,n1,c1⟩ ⟨j7,a2,n2,c2⟩ ⟨C7,a3,n3,c3⟩ ⟨E5,a4,n4,c4⟩ _ _ _ _ _ _ s9 A8 E8 H8,zB j6 (zO H6 _)⟩
theorem zKK (w:World) (s t:Sp) (k b:Nat) (lo hi lo' hi':Int) (hs:SpAt w s k lo hi) (ht:SpAt w t k lo' hi') (hk:k<=300000000) (hb:b<=1000000) (hbits:s.bits=b) (hp:0<lo') (J3:0<hi') :
  Calls Tryz.prog 162 #[.agg s.q,.agg t.q] w (zL w b (b/16+k+10) (kI (pr4 (lo*Q b/lo') (lo*Q b/hi') (hi*Q b/lo') (hi*Q b/hi')) 3) (zAP (pr4 (-(-(lo*Q b)/lo')) (-(-(lo*Q b)/hi')) (-(-(hi*Q b)/lo')) (-(-(hi*Q b)/hi'))) 3)):=by
 have aY:=zC hbits;have t1:¬ zP hi' 0<0:=by unfold zP;rw[if_neg (by omega)];split<;>omega
 clear hbits;obtain⟨W,hW⟩:∃ W,W=((w.alloc (.cells s.q 31)).alloc (.cells t.q 31)).alloc (.cells zCq 31):=⟨_,rfl⟩;have j6:Below w.heap.size w W:=by rw[hW];exact bl3 _ _ _ _
 have A:SpC W w.heap.size s:=by rw[hW];constructor<;>simp[go_sem]
 have G:SpC W (w.heap.size+1) t:=by rw[hW];constructor<;>simp[go_sem]
 have R:NoC W (w.heap.size+1+1):=by rw[hW];constructor<;>simp[go_sem]
 replace hs:=hs.bw j6;replace ht:=ht.bw j6
 go_enter Tryz.func162,Tryz.ntmps162
 go_wp2_with fail;rw[<- hW];clear hW;refine (zA5 _ _ _ _ k hi' _ ht.hi).mono ?_;rintro r w0 ⟨rfl,E6⟩;replace j6:=zB j6 E6;replace A:=A.bw E6;replace G:=G.bw E6;replace R:=R.bw E6;replace hs:=hs.bw E6;replace ht:=ht.bw E6;clear E6;have lA:=A.lt;have lG:=G.lt;obtain⟨x0,x1,x2,x3,x4⟩:=A;obtain⟨y0,y1,y2,y3,y4⟩:=G;have A:SpC w0 w.heap.size s:=⟨x0,x1,x2,x3,x4⟩;have G:SpC w0 (w.heap.size+1) t:=⟨y0,y1,y2,y3,y4⟩;go_wp2_with fail;clear lA lG x0 x1 x2 x3 x4 y0 y1 y2 y3 y4;refine (zID _ s t k b w.heap.size lo hi lo' hi' hs ht hk hb hp J3 (by rw[<- zA aY];exact A.c4)).mono ?_
 rintro r w1 ⟨B1,f1,rfl,P1,b9⟩;replace j6:=zB j6 b9;replace A:=A.bw b9;replace G:=G.bw b9;replace R:=R.bw b9;replace hs:=hs.bw b9;replace ht:=ht.bw b9;clear b9;go_wp2_with fail;refine (zEF _ 3 _ (b/16+k+9) f1 _ _ P1 (by omega) (by omega)).mono ?_
 rintro r w2 ⟨j7,a2,n2,c2,rfl,A8,j5⟩;replace j6:=zB j6 j5;replace A:=A.bw j5;replace G:=G.bw j5;replace R:=R.bw j5;replace hs:=hs.bw j5;replace ht:=ht.bw j5;clear j5 P1;obtain⟨W2,kt⟩:∃ W',W'=w2.alloc (.cells #[.bool j7,.slice a2 n2 c2] 29):=⟨_,rfl⟩;have o9:Below w2.heap.size w2 W2:=by rw[kt];exact bl1 _ _
 have X2:NmC W2 w2.heap.size ⟨j7,a2,n2,c2⟩:=by rw[kt];exact zFW w2 ⟨j7,a2,n2,c2⟩ _
 have lA:=A.lt;have lG:=G.lt;obtain⟨x0,x1,x2,x3,x4⟩:=A;obtain⟨y0,y1,y2,y3,y4⟩:=G;have A:SpC w2 w.heap.size s:=⟨x0,x1,x2,x3,x4⟩;have G:SpC w2 (w.heap.size+1) t:=⟨y0,y1,y2,y3,y4⟩;go_wp2_with fail;rw[<- kt];clear kt;clear lA lG x0 x1 x2 x3 x4 y0 y1 y2 y3 y4;have oV:w2.heap.size≠w.heap.size+1+1:=Nat.ne_of_gt R.lt;replace j6:=zB j6 o9;replace A:=A.bw o9;replace G:=G.bw o9;replace R:=R.bw o9;replace hs:=hs.bw o9;replace ht:=ht.bw o9;replace A8:=A8.bw o9;clear o9;refine (zIE _ s t k b w.heap.size lo hi lo' hi' hs ht hk hb hp J3 (by rw[<- zA aY];exact A.c4)).mono ?_
 rintro r w3 ⟨B3,f3,rfl,wa,m8⟩;replace j6:=zB j6 m8;replace A:=A.bw m8;replace R:=R.bw m8;replace A8:=A8.bw m8;replace X2:=X2.bw m8;clear m8;go_wp2_with fail;refine (zHL _ 3 _ (b/16+k+9) f3 _ _ wa (by omega) (by omega)).mono ?_
 rintro r w4 ⟨E5,a4,n4,c4,rfl,H8,A5⟩;replace j6:=zB j6 A5;replace A:=A.bw A5;replace R:=R.bw A5;replace A8:=A8.bw A5;replace X2:=X2.bw A5;clear A5 wa;have lA:=A.lt;have lX:=X2.lt;have lR:=R.lt;have Bx:w.heap.size+1+1≠w2.heap.size:=λ e9=>oV e9.symm
 have Pm:w4.heap.size≠w.heap.size+1+1:=Nat.ne_of_gt lR;have WX:w.heap.size+1+1≠w4.heap.size:=Yo lR;have nX4:w2.heap.size≠w4.heap.size:=Yo lX;obtain⟨x0,x1,x2,x3,x4⟩:=A;obtain⟨z0,z1⟩:=X2;obtain⟨q0,q1,q2,q3,q4,q5⟩:=R;go_wp2_with fail;refine bodyPost_ret (v:=.agg #[.bool j7,.slice a2 n2 c2,.bool E5,.slice a4 n4 c4,.int .i64 s.bits]) (by simp[results,Tryz.results162,go_sem,lR,q0,q1,q2,q3,q4]) rfl ⟨⟨j7,a2,n2,c2,E5,a4,n4,c4,s.bits⟩,rfl,zA aY,?_,?_⟩
 ·first|with_reducible exact SpAt.put5 ⟨(A8.bw (bl1 _ _)).mono (by omega),(H8.bw (bl1 _ _)).mono (by omega)⟩ (by simp[go_sem,lR,q0]) (by simp[go_sem,lR,q1]) (by simp[go_sem,lR,q2]) (by simp[go_sem,lR,q3]) (by simp[go_sem,lR,q4]) _ _ _ _ _|with_reducible exact SpAt.bw (SpAt.put5 ⟨A8.mono (by omega),H8.mono (by omega)⟩ q0 q1 q2 q3 q4 _ _ _ _ _) (bl1 _ _)
 ·first|with_reducible exact kM (zO j6 _) (by omega) _ _ _ _ _|with_reducible exact zO (kM j6 (by omega) _ _ _ _ _) _
theorem zC5 (w:World) (s t:Sp) (k b:Nat) (lo hi lo' hi':Int) (hs:SpAt w s k lo hi) (ht:SpAt w t k lo' hi') (hk:k<=300000000) (hb:b<=1000000) (hbits:s.bits=b) (hl:lo<=hi) (hp:0<lo') (J3:lo'<=hi') :
  Calls Tryz.prog 162 #[.agg s.q,.agg t.q] w (zL w b (b/16+k+10) (zEC lo hi lo' hi' b) (zF6 lo hi lo' hi' b)):=by
 have hq:=zF b;unfold zEC zF6;have h:¬ hi'<0:=by omega
 rw[if_neg h,if_neg h];have:=zKK w s t k b lo hi lo' hi' hs ht hk hb hbits (by omega) (by omega)
 rw[zNF (Yg hl (by omega)) (by omega) (by omega),zQ2 (Yg hl (by omega)) (by omega) (by omega)] at this
 exact this
open Ex
theorem Has.of_const {a b c:Rat} (h:Has a b (λ _=>c)):a<=c/\c<=b:=by
 constructor
 ·refine Rat.not_lt.1 λ E2=>?_
  obtain⟨N,k⟩:=h ((a-c)/2) (by grind)
  have:=(k N (Yj _)).1;grind
 ·refine Rat.not_lt.1 λ E2=>?_
  obtain⟨N,k⟩:=h ((c-b)/2) (by grind)
  have:=(k N (Yj _)).2;grind
theorem zRL (B:Nat) (x:Int):((x:Rat)/(Q B:Rat))*((x:Rat)/(Q B:Rat))*((Q B:Rat)*(Q B:Rat))=(x:Rat)*(x:Rat):=by
 have q:=jJ B;have:=rdm (a:=(x:Rat)) q;have e:((x:Rat)/(Q B:Rat))*((x:Rat)/(Q B:Rat))*((Q B:Rat)*(Q B:Rat))=((x:Rat)/(Q B:Rat)*(Q B:Rat))*((x:Rat)/(Q B:Rat)*(Q B:Rat)):=by grind
 rw[e,this]
def yA (B:Nat) (a:Int × Int):Int × Int:=(rtZ (a.1*Q B),rtU (a.2*Q B))
theorem sqI_le {a b:Int} (ha:0<=a) (hb:0<=b) (h:a*a<=b*b):a<=b:=by
 refine Int.not_lt.1 λ E2=>?_
 have m1:=Int.mul_lt_mul_of_pos_left E2 (show 0<a by omega)
 have m2:=Yg (show b<=a by omega) hb
 omega
theorem rtU_lt {x:Int} (h:0<=x) (h0:0<rtU x):(rtU x-1)*(rtU x-1)<x:=by
 obtain⟨h3,h4⟩:=zD5 h;have:=zAF x;unfold rtU at *;split
 ·rename_i hh;rw[Int.add_sub_cancel];exact hh
 ·rename_i hh
  rw[if_neg hh] at h0;have e:(rtZ x-1)*(rtZ x-1)=rtZ x*rtZ x-2*rtZ x+1:=by grind
  omega
theorem zC2 {B:Nat} {a:Int × Int} (ha:0<=a.1) (hl:a.1<=a.2):0<=(yA B a).1/\(yA B a).1<=(yA B a).2/\(yA B a).1*(yA B a).1<=a.1*Q B/\a.2*Q B<=(yA B a).2*(yA B a).2:=by
 have q:=zF B;have p1:=Yl ha (show 0<=Q B by omega)
 have p2:=Yg hl (show 0<=Q B by omega)
 exact⟨zAF _,zNM p2 p1,(zD5 p1).1,rtU_sq (by omega)⟩
theorem zGP {B:Nat} {a:Int × Int} {W g:Int} (ha:0<=a.1) (hl:a.1<=a.2) (hw:a.2-a.1<=W) (hg:0<g) (hr:Q B<=g*(yA B a).2):(yA B a).2-(yA B a).1<=g*W+2:=by
 obtain⟨r0,r1,r2,r3⟩:=zC2 (B:=B) ha hl;have q:=zF B;have p1:=Yl ha (show 0<=Q B by omega)
 have p2:=Yg hl (show 0<=Q B by omega)
 have z:=(zD5 p1).2
 have t0:0<(yA B a).2:=by
  refine Int.not_le.1 λ h=>?_
  have:=Yi h (show 0<=g by omega)
  omega
 have u:=rtU_lt (show 0<=a.2*Q B by omega) t0
 have e1:rtZ (a.1*Q B)=(yA B a).1:=rfl;have e2:rtU (a.2*Q B)=(yA B a).2:=rfl;rw[e1] at z;rw[e2] at u;generalize (yA B a).1=r at *;generalize (yA B a).2=t at *
 have k1:(t-r-2)*(t+r)<W*Q B:=by
  have m:=Yg hw (show 0<=Q B by omega)
  have e:(t-r-2)*(t+r)=(t-1)*(t-1)-(r+1)*(r+1):=by grind
  have e3:(a.2-a.1)*Q B=a.2*Q B-a.1*Q B:=by grind
  omega
 refine Int.not_lt.1 λ hn=>?_
 have W0:0<=W:=by omega
 have m1:=Yg (show g*W<=t-r-2 by omega) (show 0<=t+r by omega)
 have m2:=Yi hr W0;have m3:=Yl (Yl (show 0<=g by omega) W0) r0
 have e4:g*W*(t+r)=W*(g*t)+g*W*r:=by grind
 omega
theorem zL5 {B:Nat} {a:Int × Int} {c:Int} (ha:0<=a.2) (hc:0<=c) (h:a.2<=c*c*Q B):(yA B a).2<=c*Q B+1:=by
 have q:=zF B;have p:=Yl ha (show 0<=Q B by omega)
 have z:=(zD5 p).1;have m:=Yg h (show 0<=Q B by omega)
 have h1:rtZ (a.2*Q B)<=c*Q B:=sqI_le (zAF _) (Yl hc (by omega)) (by
  have e:c*Q B*(c*Q B)=c*c*Q B*Q B:=by grind
  omega)
 show rtU (a.2*Q B)<=_
 unfold rtU;split<;>omega
def erU (n:Int) (_:Nat):Int:=2*n
def erD (d:Int) (k:Nat):Int:=d*(2*(k:Int)+1)
theorem zMZ {n d:Int} (hn:0<=n) (hd:0<d):zN6 (erU n) (erD d):=⟨λ _=>by unfold erU;omega,λ k=>Int.mul_pos hd (by omega)⟩
def zAY (n d:Int):Nat:=(2*n/d).toNat
theorem er_34 {n d:Int} (hn:0<=n) (hd:0<d) (k:Nat) (h:zAY n d<=k):4*erU n (k+1)<=3*erD d (k+1):=by
 have h1:2*n/d<=(k:Int):=by unfold zAY at h;omega
 have h2:=Int.lt_ediv_add_one_mul_self (2*n) hd;have h3:=Yg (show 2*n/d+1<=(k:Int)+1 by omega) (show 0<=d by omega)
 have k0:=Yl (show 0<=d by omega) (show 0<=(k:Int) by omega)
 unfold erU erD;have e1:((k:Int)+1)*d=d*(k:Int)+d:=by grind
 have e2:3*(d*(2*((k+1:Nat):Int)+1))=6*(d*(k:Int))+9*d:=by push_cast;grind
 omega
theorem zG6 {n d:Int} (hn:0<=n) (hd:0<d) (h:n<152*d):zAY n d<=303:=by
 have:2*n/d<304:=Int.ediv_lt_of_lt_mul hd (by omega)
 unfold zAY;omega
theorem ceil_mul {x u v c:Int} (hv:0<v) (hx:0<=x) (h:u<=c*v) : -(-(x*u)/v)<=c*x:=by
 have h1:=Yi h hx
 have h2 : -(c*x) <= -(x*u)/v:=Int.le_ediv_of_mul_le hv (by
  have e : -(c*x)*v = -(x*(c*v)):=by grind
  omega)
 omega
theorem zPB {n d:Int} (hn:0<=n) (hd:0<d) (h:n<152*d) (k:Nat):erU n (k+1)<=512*erD d (k+1):=by
 have k0:=Yl (show 0<=d by omega) (show 0<=(k:Int) by omega)
 unfold erU erD;have e:512*(d*(2*((k+1:Nat):Int)+1))=1024*(d*(k:Int))+1536*d:=by push_cast;grind
 omega
theorem er_hi {B:Nat} {a:Int × Int} {n d:Int} (hn:0<=n) (hd:0<d) (h:n<152*d) (ha:0<=a.1) (hl:a.1<=a.2) (hb:a.2<=Q (B+4)) (k:Nat):(riT a (erU n) (erD d) k).2<=Q (B+2740):=by
 have ok:=zMZ hn hd
 have low:∀ j,j<=304->(riT a (erU n) (erD d) j).2<=Q (B+4+9*j):=λ j=>by
  induction j with
  | zero=>intro _;exact hb
  | succ j ih =>
   intro hj
   have i1:=ih (by omega)
   have n1:=zAE ok ha j;have n2:=zD3 ok hl j;have c:=ceil_mul (ok.d0 (j+1)) (show 0<=(riT a (erU n) (erD d) j).2 by omega) (zPB hn hd h j)
   have e:Q (B+4+9*(j+1))=512*Q (B+4+9*j):=by
    rw[show B+4+9*(j+1)=(B+4+9*j)+9 by omega,jI]
    have:Q 9=512:=rfl;rw[this];omega
   show -(-((riT a (erU n) (erD d) j).2*erU n (j+1))/erD d (j+1))<=_
   omega
 have hturn:=zG6 hn hd h
 have up:∀ j,(riT a (erU n) (erD d) (303+j)).2<=Q (B+2740):=λ j=>by
  induction j with
  | zero =>
   have:=low 303 (by omega)
   have:=zK (show B+4+9*303<=B+2740 by omega)
   simp only[Nat.add_zero];omega
  | succ j ih =>
   have n1:=zAE ok ha (303+j);have n2:=zD3 ok hl (303+j);have f:=zK8 (x:=(riT a (erU n) (erD d) (303+j)).2) (ok.d0 (303+j+1)) (by omega) (er_34 hn hd (303+j) (by omega))
   have q:=zK (show 2<=B+2740 by omega)
   have q2:Q 2=4:=rfl
   show -(-((riT a (erU n) (erD d) (303+j)).2*erU n (303+j+1))/erD d (303+j+1))<=_
   omega
 by_cases hk:k<=303
 ·have:=low k (by omega)
  have:=zK (show B+4+9*k<=B+2740 by omega)
  omega
 ·have:=up (k-303)
  rwa [show 303+(k-303)=k by omega] at this
theorem er_wide {a:Int × Int} {n d:Int} (hn:0<=n) (hd:0<d) (h:n<152*d) (hl:a.1<=a.2) (hw:a.2-a.1+1<=Q 42) (k:Nat):(riT a (erU n) (erD d) k).2-(riT a (erU n) (erD d) k).1<=Q 2780:=by
 have ok:=zMZ hn hd
 have low:∀ j,j<=304->(riT a (erU n) (erD d) j).2-(riT a (erU n) (erD d) j).1+1<=Q (42+9*j):=λ j=>by
  induction j with
  | zero=>intro _;exact hw
  | succ j ih =>
   intro hj
   have i1:=ih (by omega)
   have n2:=zD3 ok hl j
   have c:=kH (a:=riT a (erU n) (erD d) j) (n:=erU n (j+1)) (d:=erD d (j+1)) (c:=512*((riT a (erU n) (erD d) j).2-(riT a (erU n) (erD d) j).1)) (ok.d0 (j+1)) (by
    have:=Yi (zPB hn hd h j) (show 0<=(riT a (erU n) (erD d) j).2-(riT a (erU n) (erD d) j).1 by omega)
    have e:((riT a (erU n) (erD d) j).2-(riT a (erU n) (erD d) j).1)*(512*erD d (j+1))=512*((riT a (erU n) (erD d) j).2-(riT a (erU n) (erD d) j).1)*erD d (j+1):=by grind
    omega)
   have e:Q (42+9*(j+1))=512*Q (42+9*j):=by
    rw[show 42+9*(j+1)=(42+9*j)+9 by omega,jI]
    have:Q 9=512:=rfl;rw[this];omega
   show (zJ (riT a (erU n) (erD d) j) (erU n (j+1)) (erD d (j+1))).2-(zJ (riT a (erU n) (erD d) j) (erU n (j+1)) (erD d (j+1))).1+1<=_
   omega
 have hturn:=zG6 hn hd h
 have q9:9<=Q 2780:=by
  have:=zK (show 4<=2780 by omega)
  have:Q 4=16:=rfl;omega
 have up:∀ j,(riT a (erU n) (erD d) (303+j)).2-(riT a (erU n) (erD d) (303+j)).1<=Q 2780:=λ j=>by
  induction j with
  | zero =>
   have:=low 303 (by omega)
   have:=zK (show 42+9*303<=2780 by omega)
   simp only[Nat.add_zero];omega
  | succ j ih =>
   have n2:=zD3 ok hl (303+j);obtain⟨D,hD⟩:∃ D,D=(riT a (erU n) (erD d) (303+j)).2-(riT a (erU n) (erD d) (303+j)).1:=⟨_,rfl⟩
   have c:=kH (a:=riT a (erU n) (erD d) (303+j)) (n:=erU n (303+j+1)) (d:=erD d (303+j+1)) (c:=Q 2780-1) (ok.d0 (303+j+1)) (by
    rw[<- hD] at ih ⊢;have f:=er_34 hn hd (303+j) (by omega)
    have d0:=ok.d0 (303+j+1);have u0:=ok.u0 (303+j+1);generalize erU n (303+j+1)=u at *;generalize erD d (303+j+1)=v at *;generalize Q 2780=q at *;have m1:=Yg ih u0;have m2:=Yi f (show 0<=q by omega)
    have m3:=Yg (show 4<=q by omega) (show 0<=v by omega)
    have e1:q*(4*u)=4*(q*u):=by grind
    have e2:q*(3*v)=3*(q*v):=by grind
    have e3:(q-1)*v=q*v-v:=by grind
    omega)
   show (zJ (riT a (erU n) (erD d) (303+j)) (erU n (303+j+1)) (erD d (303+j+1))).2-(zJ (riT a (erU n) (erD d) (303+j)) (erU n (303+j+1)) (erD d (303+j+1))).1<=_
   omega
 by_cases hk:k<=303
 ·have:=low k (by omega)
  have:=zK (show 42+9*k<=2780 by omega)
  omega
 ·have:=up (k-303)
  rwa [show 303+(k-303)=k by omega] at this
end Go.Proofs.YtgmnknmjainabacGreat
namespace Go.Proofs.YtgmnknmjainabacGreat.Ex
def gT (y:Rat):Nat->Rat
 | 0=>1
 | n+1=>2*y/(2*((n:Rat)+1)+1)*gT y n
def gS (y:Rat) (M:Nat):Rat:=S (gT y) M
theorem eT_gT (x:Rat) (n:Nat):eT x n=x*gT (x*x) n:=by
 induction n with
 | zero=>show x=x*1;grind
 | succ n ih =>
  show 2*(x*x)/(2*((n:Rat)+1)+1)*eT x n=x*(2*(x*x)/(2*((n:Rat)+1)+1)*gT (x*x) n)
  rw[ih];generalize 2*(x*x)/(2*((n:Rat)+1)+1)=c;grind
theorem eS_gS (x:Rat) (M:Nat):eS x M=x*gS (x*x) M:=by
 induction M with
 | zero=>show (0:Rat)=x*0;grind
 | succ n ih =>
  show eS x n+eT x n=x*(gS (x*x) n+gT (x*x) n)
  rw[ih,eT_gT];grind
theorem zIJ {y:Rat} (h:0<=y) (n:Nat):0<=gT y n:=by
 induction n with
 | zero=>show (0:Rat)<=1;grind
 | succ n ih=>exact Ye (jY (zCW n) (by grind)) ih
theorem gT_mono {y y':Rat} (h:0<=y) (hy:y<=y') (n:Nat):gT y n<=gT y' n:=by
 induction n with
 | zero=>exact Rat.le_refl
 | succ n ih =>
  have p:=zCW n;have c:2*y/(2*((n:Rat)+1)+1)<=2*y'/(2*((n:Rat)+1)+1):=jX p (by rw[rdm p];grind)
  have c0:0<=2*y/(2*((n:Rat)+1)+1):=jY p (by grind)
  have g0:=zIJ (show 0<=y' by grind) n
  exact Rat.le_trans (Yd ih c0) (Yf c g0)
theorem zDU {y:Rat} (h:0<=y) (M:Nat):0<=gS y M:=by
 induction M with
 | zero=>show (0:Rat)<=0;grind
 | succ n ih=>have:=zIJ h n;show 0<=gS y n+gT y n;grind
theorem zG9 {y y':Rat} (h:0<=y) (hy:y<=y') (M:Nat):gS y M<=gS y' M:=by
 induction M with
 | zero=>show (0:Rat)<=0;grind
 | succ n ih=>have:=gT_mono h hy n;show gS y n+gT y n<=gS y' n+gT y' n;grind
theorem gS_bdd {y:Rat} (h:0<=y):∃ K,0<=K/\∀ M,gS y M<=K:=by
 obtain⟨K,k0,hK⟩:=zII (x:=y+1) (by grind)
 refine⟨K,k0,λ M=>?_⟩
 have q:=Ye h h;have m:=zG9 (y':=(y+1)*(y+1)) h (by grind) M
 have e:=eS_gS (y+1) M;have g0:=zDU (y:=(y+1)*(y+1)) (by grind) M
 have m2:=Ye h g0;have:=hK M;grind
def qS (f:Nat->Rat) (y:Rat) (M:Nat):Rat:=f M*gS y M/ex y M
theorem ex_ge {y:Rat} (h:0<=y) {M:Nat} (hM:1<=M):1<=ex y M:=E_one h hM
theorem qS_ok {f:Nat->Rat} {y F K:Rat} (h:0<=y) {M:Nat} (hM:1<=M) (f0:0<=f M) (fF:f M<=F) (hK:gS y M<=K):0<=qS f y M/\qS f y M<=F*K/\qS f y M*ex y M=f M*gS y M:=by
 have e1:=ex_ge h hM;have g0:=zDU h M;have p:=Ye f0 g0;obtain⟨d1,d2⟩:=zDJ p e1;refine⟨d1,?_,rdm (by grind)⟩
 have m1:=Yf fF g0;have m2:=Yd hK (show 0<=F by grind)
 unfold qS;grind
theorem cmp_key {a c E E' f f' g g' t e:Rat} (a0:0<=a) (c0:0<=c) (e0:0<e) (t0:0<=t) (t4:t<=1/4) (E1:1<=E) (Ed:1<=E') (hE:E'<=E*(1+2*t)+e) (ha:a*E=f*g) (hc:c*E'=f'*g') (Aw:0<=f) (hf:f<=f'+e) (g0:0<=g) (gg:g<=g'):a<=c*(1+2*t)+e*(2*g'+a):=by
 have h1:a*E'<=f*g*(1+2*t)+a*e:=by
  have:=Yd hE a0;have e1:a*(E*(1+2*t)+e)=a*E*(1+2*t)+a*e:=by grind
  rw[e1,ha] at this;exact this
 have h2:f*g<=f'*g'+e*g':=by
  have m1:=Yd gg Aw;have m2:=Yf hf (show 0<=g' by grind)
  grind
 have h3:=Yf h2 (show 0<=1+2*t by grind)
 have eg:=Ye (Yh e0) (show 0<=g' by grind)
 have h4:e*g'*(1+2*t)<=e*g'*2:=Yd (by grind) eg
 have h5:a*E'<=c*E'*(1+2*t)+e*(2*g'+a):=by rw[hc];grind
 have r0:0<=e*(2*g'+a):=Ye (Yh e0) (by grind)
 have h6:=Yd Ed r0;refine Rat.le_of_mul_le_mul_right (c:=E') ?_ (by grind)
 have e2:(c*(1+2*t)+e*(2*g'+a))*E'=c*E'*(1+2*t)+e*(2*g'+a)*E':=by grind
 rw[e2];grind
theorem cmpG {y y':Rat} (hy:0<=y) (Ok:y<=y') (h4:y'-y<=1/4) {f f':Nat->Rat} {F:Rat} {N0:Nat} (f0:∀ M,0<=f M) (Tr:∀ M,0<=f' M) (fF:∀ M,N0<=M->f M<=F) (Fx:∀ M,N0<=M->f' M<=F) (hf:LeN f f') {K:Rat} (hK:∀ M,gS y' M<=K):LeN (qS f y) (λ M=>qS f' y' M+2*(F*K)*(y'-y)):=by
 have F0:0<=F:=Rat.le_trans (f0 N0) (fF N0 (Yj _));have K0:0<=K:=Rat.le_trans (zDU (show 0<=y' by grind) 0) (hK 0)
 have FK:=Ye F0 K0;obtain⟨t,ht⟩:∃ t,t=y'-y:=⟨_,rfl⟩;have t0:0<=t:=by grind
 intro e0 Dj
 obtain⟨D,hD⟩:∃ D,D=2*K+F*K+1:=⟨_,rfl⟩;have D0:0<D:=by grind
 obtain⟨e,he⟩:∃ e,e=e0/D:=⟨_,rfl⟩;have eD:e*D=e0:=by rw[he];exact rdm D0
 have ep:0<e:=by rw[he];exact zH Dj D0
 obtain⟨N1,k1⟩:=hf e ep;obtain⟨N2,k2⟩:=zAZ y t e ep;refine⟨N0+N1+N2+2,λ M hM=>?_⟩
 obtain⟨a1,a2,a3⟩:=qS_ok (f:=f) hy (show 1<=M by omega) (f0 M) (fF M (by omega)) (Rat.le_trans (zG9 hy Ok M) (hK M))
 obtain⟨c1,c2,c3⟩:=qS_ok (f:=f') (show 0<=y' by grind) (show 1<=M by omega) (Tr M) (Fx M (by omega)) (hK M)
 have E1:=ex_ge hy (show 1<=M by omega)
 have Ed:=ex_ge (show 0<=y' by grind) (show 1<=M by omega)
 have lit:=(yV (h:=t) (b:=t) ⟨by grind,by grind⟩ (by grind) (M:=M) (by omega)).2
 have et:ex t M=E t M:=rfl;have ey:y+t=y':=by grind
 have kk:=(k2 M (by omega)).1
 simp only[] at kk;rw[ey] at kk;have tt:t*t<=t*(1/4):=Yd (by grind) t0
 have hE:ex y' M<=ex y M*(1+2*t)+e:=by
  have l2:ex t M<=1+2*t:=by rw[et];grind
  have:=Yd l2 (show 0<=ex y M by grind)
  grind
 have key:=cmp_key a1 c1 ep t0 (by grind) E1 Ed hE a3 c3 (f0 M) (k1 M (by omega)) (zDU hy M) (zG9 hy Ok M)
 have b1:=Yd (show 2*gS y' M+qS f y M<=D by have:=hK M;grind) (Yh ep)
 have b2:=Yf c2 t0;rw[eD] at b1;simp only[];rw[<- ht];grind
def zJF (R:Nat->Rat) (y:Rat) (f:Nat->Rat) (M:Nat):Rat:=2*(f M*gS y M)/(R M*ex y M)
theorem zGG (R:Nat->Rat) (x:Rat):zJF R (x*x) (λ _=>x)=zPD R x:=by
 funext M
 unfold zJF zPD;rw[eS_gS]
theorem zPC {P R:Nat->Rat} (h:zAA P R) {y:Rat} (hy:0<=y) (f:Nat->Rat) {M:Nat} (hM:1<=M):zJF R y f M=qS f y M*(2*(1/R M)):=by
 have r1:=h.one M;have h1:=ex_ge hy hM;have p1:0<R M:=by grind
 have p2:0<ex y M:=by grind
 have p3:0<R M*ex y M:=Rat.mul_pos p1 p2;have a:=rdm (a:=2*(f M*gS y M)) p3;have b:=rdm (a:=f M*gS y M) p2;have c:=rdm (a:=1) p1;unfold zJF qS
 have lhs:f M*gS y M/ex y M*(2*(1/R M))*(R M*ex y M)=2*(f M*gS y M):=by
  have:f M*gS y M/ex y M*(2*(1/R M))*(R M*ex y M)=2*((f M*gS y M/ex y M*ex y M)*(1/R M*R M)):=by grind
  rw[this,b,c];grind
 exact Rat.le_antisymm (Rat.le_of_mul_le_mul_right (by rw[lhs,a];exact Rat.le_refl) p3) (Rat.le_of_mul_le_mul_right (by rw[lhs,a];exact Rat.le_refl) p3)
theorem cmpE {P R:Nat->Rat} (h:zAA P R) {y y' C:Rat} (hy:0<=y) (mM:0<=y') (C0:0<=C) {f f':Nat->Rat} (hq:LeN (qS f y) (λ M=>qS f' y' M+C)):LeN (zJF R y f) (λ M=>zJF R y' f' M+2*C):=by
 obtain⟨z,hz,k⟩:=hq.null;refine LeN.of_null (hz.bmul ((Bdd.const 2).mul (zHE h.one))) 1 λ M hM=>?_
 rw[zPC h hy f hM,zPC h mM f' hM];obtain⟨i0,i1⟩:=zDJ (a:=1) (by grind) (h.one M)
 have m:=Yf (k M) (show 0<=2*(1/R M) by grind)
 have m2:=Yd i1 C0;grind
theorem root0 (p:Rat) (hp:0<=p) (k:Nat):∃ r:Rat,0<=r/\r*r<=p/\p<=(r+1/((k:Rat)+1))*(r+1/((k:Rat)+1)):=by
 obtain⟨n,hn⟩:=kC p;have k0:(0:Rat)<(k:Rat)+1:=zAT k;have u0:(0:Rat)<1/((k:Rat)+1):=zH (by grind) k0
 have um:1/((k:Rat)+1)*((k:Rat)+1)=1:=rdm k0;obtain⟨u,hu⟩:∃ u,u=1/((k:Rat)+1):=⟨_,rfl⟩;rw[<- hu] at u0 um ⊢
 have top:p<=((((n+1)*(k+1):Nat):Rat)*u)*((((n+1)*(k+1):Nat):Rat)*u):=by
  have e:(((n+1)*(k+1):Nat):Rat)*u=(n:Rat)+1:=by
   have:(((n+1)*(k+1):Nat):Rat)=((n:Rat)+1)*((k:Rat)+1):=by push_cast;rfl
   rw[this];grind
  rw[e];have n0:(0:Rat)<=(n:Rat):=by exact_mod_cast Nat.zero_le n
  have:=Ye n0 n0;have:=hn.2;grind
 obtain⟨j,_,j1,j2⟩:=zBF (p:=λ j=>p<=((j:Rat)*u)*((j:Rat)*u)) (K:=(n+1)*(k+1)) top
 cases j with
 | zero =>
  have e:(((0:Nat):Rat)*u)=0:=by grind
  rw[e] at j1;exact⟨0,by grind,by grind,by have:=Ye (Yh u0) (Yh u0);grind⟩
 | succ i =>
  have h:=j2 i (Nat.lt_succ_self i);have i0:(0:Rat)<=(i:Rat):=by exact_mod_cast Nat.zero_le i
  have iu:=Ye i0 (Yh u0);refine⟨(i:Rat)*u,by grind,by grind,?_⟩
  have e:((i+1:Nat):Rat)=(i:Rat)+1:=by push_cast;rfl
  rw[e] at j1;have e2:((i:Rat)+1)*u=(i:Rat)*u+u:=by grind
  rw[e2] at j1;exact j1
structure RtOf (y:Rat) (r:Nat->Rat):Prop where
 nn:∀ M,0<=r M
 sq:Null (λ M=>r M*r M-y)
theorem zI2 {a b:Rat} (ha:0<=a) (h:a*a<=b*b) (hb:0<=b):a<=b:=by
 refine Rat.not_lt.1 λ E2=>?_
 have m1:=Rat.mul_lt_mul_of_pos_left E2 (show 0<a by grind)
 have m2:=Yf (Yh E2) hb;grind
theorem RtOf.ge {y:Rat} {r:Nat->Rat} (h:RtOf y r) {x:Rat} (hx:0<=x) (O9:x*x<=y):LeN (λ _=>x) r:=λ e he=>by
 obtain⟨N,k⟩:=h.sq (e*e) (Rat.mul_pos he he);refine⟨N,λ M hM=>?_⟩
 have a:=(k M hM).1;have n:=h.nn M;simp only[] at a ⊢;have re:=Ye n (Yh he);exact zI2 hx (by grind) (by grind)
theorem RtOf.le {y:Rat} {r:Nat->Rat} (h:RtOf y r) {x:Rat} (hx:0<=x) (O9:y<=x*x):LeN r (λ _=>x):=λ e he=>by
 obtain⟨N,k⟩:=h.sq (e*e) (Rat.mul_pos he he);refine⟨N,λ M hM=>?_⟩
 have a:=(k M hM).2;have n:=h.nn M;simp only[] at a ⊢;have re:=Ye hx (Yh he);exact zI2 n (by grind) (by grind)
theorem RtOf.y0 {y:Rat} {r:Nat->Rat} (h:RtOf y r):0<=y:=by
 refine Rat.not_lt.1 λ E2=>?_
 obtain⟨N,k⟩:=h.sq (-y/2) (by grind)
 have a:=(k N (Yj _)).2;have n:=Ye (h.nn N) (h.nn N);simp only[] at a;grind
theorem RtOf.bd {y:Rat} {r:Nat->Rat} (h:RtOf y r):∃ N:Nat,∀ M,N<=M->r M<=y+2:=by
 have y0:=h.y0;have q:=Ye y0 y0;obtain⟨N,k⟩:=h.le (x:=y+1) (by grind) (by grind) 1 (by grind)
 exact⟨N,λ M hM=>by have:=k M hM;simp only[] at this;grind⟩
theorem zKC {r y u:Rat} (hr:0<=r) (h1:r*r<=y) (hu:0<=u) (u1:u<=1):(r+u)*(r+u)-r*r<=(2*y+3)*u:=by
 have y0:=Ye hr hr;have r1:r<=y+1:=zI2 hr (by have:=Ye (show 0<=y by grind) (show 0<=y by grind);grind) (by grind)
 have m1:=Yf r1 hu;have m2:=Yf u1 hu;grind
theorem zLS {a C:Rat} {n K:Nat} (h:4*C<=(K:Rat)) (C0:0<=C):1/(((n+K:Nat):Rat)+1)<=1/((n:Rat)+1)/\C*(1/(((n+K:Nat):Rat)+1))<=1/4/\0<=1/(((n+K:Nat):Rat)+1)/\1/(((n+K:Nat):Rat)+1)<=1:=by
 have p1:(0:Rat)<((n+K:Nat):Rat)+1:=zAT (n+K);have p2:(0:Rat)<(n:Rat)+1:=zAT n;have e:((n+K:Nat):Rat)=(n:Rat)+(K:Rat):=by push_cast;rfl
 have n0:(0:Rat)<=(n:Rat):=by exact_mod_cast Nat.zero_le n
 have K0:(0:Rat)<=(K:Rat):=by exact_mod_cast Nat.zero_le K
 have a:=rdm (a:=1) p1;have b:=rdm (a:=1) p2;obtain⟨u,hu⟩:∃ u,u=1/(((n+K:Nat):Rat)+1):=⟨_,rfl⟩;have u0:0<=u:=by rw[hu];exact jY p1 (by grind)
 rw[<- hu] at a ⊢;rw[e] at a;have nu:=Ye u0 n0;have Ku:=Ye u0 K0;refine⟨jY p2 (by grind),?_,u0,by grind⟩
 have:=Yd h u0;grind
theorem erfG_ge {P R:Nat->Rat} (h:zAA P R) {y:Rat} {r:Nat->Rat} (hr:RtOf y r) {x:Rat} (hx:0<=x) (O9:x*x<=y):LeN (zPD R x) (zJF R y r):=by
 have y0:=hr.y0;obtain⟨N0,qJ⟩:=hr.bd;obtain⟨K,K0,hK⟩:=gS_bdd y0;obtain⟨k,hk⟩:=kC (4*(2*y+3));have FK:=Ye (show 0<=y+2 by grind) K0
 refine LeN.lim (C:=2*(2*((y+2)*K)*(2*y+3))) (by have:=Ye FK (show 0<=2*y+3 by grind);grind) λ n=>?_
 obtain⟨w1,w2,w3,w4⟩:=zLS (a:=0) (n:=n) hk.2 (show 0<=2*y+3 by grind)
 obtain⟨s,s0,s1,s2⟩:=root0 y y0 (n+k);obtain⟨u,hu⟩:∃ u,u=1/(((n+k:Nat):Rat)+1):=⟨_,rfl⟩;rw[<- hu] at w1 w2 w3 w4 s2;have st:=zKC s0 s1 w3 w4
 obtain⟨x',cn,ah,Bf⟩:∃ x',x<=x'/\s<=x'/\x'*x'<=y:=by
  by_cases c:x<=s
  ·exact⟨s,c,Rat.le_refl,s1⟩
  ·exact⟨x,Rat.le_refl,by grind,O9⟩
 have x0:0<=x':=by grind
 have ss:s*s<=x'*x':=Rat.le_trans (Yd ah s0) (Yf ah x0);have d:y-x'*x'<=(2*y+3)*u:=by grind
 have xx:=Ye x0 x0
 have x2:x'<=y+2:=by
  have:=zI2 (b:=y+1) x0 (by have:=Ye y0 y0;grind) (by grind)
  grind
 have c:=cmpG (f:=λ _=>x') (f':=r) (F:=y+2) (N0:=N0) xx Bf (by grind) (λ _=>x0) hr.nn (λ _ _=>x2) qJ (hr.ge x0 Bf) hK
 have c2:=cmpE h xx y0 (Ye (by grind) (by grind)) c
 rw[zGG] at c2;refine (zK7 h hx cn).trans (c2.trans (LeN.of_le 0 λ M _=>?_))
 have m1:=Yd (Rat.le_trans d (Yd w1 (show 0<=2*y+3 by grind))) (show 0<=2*((y+2)*K) by grind)
 grind
theorem erfG_le {P R:Nat->Rat} (h:zAA P R) {y:Rat} {r:Nat->Rat} (hr:RtOf y r) {x:Rat} (hx:0<=x) (O9:y<=x*x):LeN (zJF R y r) (zPD R x):=by
 have y0:=hr.y0;obtain⟨N0,qJ⟩:=hr.bd;obtain⟨K,K0,hK⟩:=gS_bdd (y:=y+1) (by grind)
 obtain⟨k,hk⟩:=kC (4*(2*y+3));have FK:=Ye (show 0<=y+2 by grind) K0
 refine LeN.lim (C:=2*(2*((y+2)*K)*(2*y+3))) (by have:=Ye FK (show 0<=2*y+3 by grind);grind) λ n=>?_
 obtain⟨w1,w2,w3,w4⟩:=zLS (a:=0) (n:=n) hk.2 (show 0<=2*y+3 by grind)
 obtain⟨s,s0,s1,s2⟩:=root0 y y0 (n+k);obtain⟨u,hu⟩:∃ u,u=1/(((n+k:Nat):Rat)+1):=⟨_,rfl⟩;rw[<- hu] at w1 w2 w3 w4 s2;have st:=zKC s0 s1 w3 w4
 obtain⟨x',cn,ah,Bf,x0⟩:∃ x',x'<=x/\x'<=s+u/\y<=x'*x'/\0<=x':=by
  by_cases c:x<=s+u
  ·exact⟨x,Rat.le_refl,c,O9,hx⟩
  ·exact⟨s+u,by grind,Rat.le_refl,s2,by grind⟩
 have ss:x'*x'<=(s+u)*(s+u):=Rat.le_trans (Yd ah x0) (Yf ah (by grind))
 have d:x'*x'-y<=(2*y+3)*u:=by grind
 have x2:x'<=y+2:=by
  have:=zI2 (a:=x') (b:=y+1) x0 (by have:=Ye y0 y0;grind) (by grind)
  grind
 have K':∀ M,gS (x'*x') M<=K:=λ M=>Rat.le_trans (zG9 (by grind) (by grind) M) (hK M)
 have c:=cmpG (f:=r) (f':=λ _=>x') (F:=y+2) (N0:=N0) y0 Bf (by grind) hr.nn (λ _=>x0) qJ (λ _ _=>x2) (hr.le x0 Bf) K'
 have c2:=cmpE h y0 (by grind) (Ye (by grind) (by grind)) c
 rw[zGG] at c2;refine c2.trans (LeN.trans (LeN.of_le 0 λ M _=>?_) ((zK7 h x0 cn).add (LeN.refl (λ _=>2*(2*((y+2)*K)*(2*y+3))*(1/((n:Rat)+1))))))
 have m1:=Yd (Rat.le_trans d (Yd w1 (show 0<=2*y+3 by grind))) (show 0<=2*((y+2)*K) by grind)
 grind
theorem zK6 {R:Nat->Rat} (h:zAA piS R) {y:Rat} {r:Nat->Rat} (hr:RtOf y r):LeN (zJF R y r) (λ _=>1):=by
 have y0:=hr.y0;have q:=Ye y0 y0;exact (erfG_le h hr (x:=y+1) (by grind) (by grind)).trans (erf_one h (by grind))
end Go.Proofs.YtgmnknmjainabacGreat.Ex
namespace Go.Proofs.YtgmnknmjainabacGreat
open Ex
structure ErIn (n d:Int) (x:Nat->Rat):Prop where
 n0:0<=n
 d0:0<d
 rt:RtOf ((n:Rat)/(d:Rat)) x
 up:n<152*d
 low:n=0\/d<=Q 76*n
def erF (n d:Int) (B:Nat):Int × Int:=yA B (ofI n d B)
theorem root_rtS {B:Nat} {a:Int × Int} {y:Rat} {x:Nat->Rat} (hx:RtOf y x) (h:Iv B a (λ _=>y)) {r t:Int} (fX:0<=r) (hr:r*r<=a.1*Q B) (GY:0<=t) (ht:a.2*Q B<=t*t):Iv B (r,t) x:=by
 have q:=jJ B;obtain⟨h1,h2⟩:=Has.of_const h;have qq:(0:Rat)<(Q B:Rat)*(Q B:Rat):=Rat.mul_pos q q
 have pos:∀ y:Int,0<=y->(0:Rat)<=(y:Rat)/(Q B:Rat):=λ y hy=>jY q (by
  have:(0:Rat)<=(y:Rat):=by exact_mod_cast hy
  grind)
 have mid:∀ y:Int,(y:Rat)/(Q B:Rat)*((Q B:Rat)*(Q B:Rat))=(y:Rat)*(Q B:Rat):=λ y=>by
  rw[<- Rat.mul_assoc,rdm (a:=(y:Rat)) q]
 have l1:((r:Rat)/(Q B:Rat))*((r:Rat)/(Q B:Rat))<=y:=by
  refine Rat.le_trans (Rat.le_of_mul_le_mul_right (c:=(Q B:Rat)*(Q B:Rat)) ?_ qq) h1;rw[zRL,mid];have:=jG hr;rw[Ym,Ym] at this;exact this
 have l2:y<=((t:Rat)/(Q B:Rat))*((t:Rat)/(Q B:Rat)):=by
  refine Rat.le_trans h2 (Rat.le_of_mul_le_mul_right (c:=(Q B:Rat)*(Q B:Rat)) ?_ qq);rw[zRL,mid];have:=jG ht;rw[Ym,Ym] at this;exact this
 intro e he
 obtain⟨N1,k1⟩:=hx.ge (pos r fX) l1 e he;obtain⟨N2,k2⟩:=hx.le (pos t GY) l2 e he;exact⟨N1+N2,λ M hM=>⟨by have:=k1 M (by omega);simp only[] at this ⊢;grind,k2 M (by omega)⟩⟩
theorem ErIn.of_lo {n d:Int} {x:Nat->Rat} (h:ErIn n d x) (B:Nat):0<=(ofI n d B).1:=by
 have:=zF B;exact Int.ediv_nonneg (Yl h.n0 (by omega)) (by have:=h.d0;omega)
theorem rtZ_zero:rtZ 0=0:=rfl
theorem rtU_zero:rtU 0=0:=rfl
theorem zK4 {n d:Int} {x:Nat->Rat} (h:ErIn n d x) (B:Nat):0<=(erF n d B).1/\(erF n d B).1<=(erF n d B).2/\(erF n d B).2<=Q (B+4)/\(erF n d B).2-(erF n d B).1+1<=Q 42/\Iv B (erF n d B) x:=by
 have q:=zF B;have a0:=h.of_lo B;have al:=yU (n:=n) h.d0 B;obtain⟨r0,r1,r2,r3⟩:=zC2 (B:=B) a0 al
 have up:(ofI n d B).2<=152*Q B:=by
  have m:=Yg (show n<=152*d by have:=h.up;omega) (show 0<=Q B by omega)
  have : -(152*Q B) <= -(n*Q B)/d:=Int.le_ediv_of_mul_le h.d0 (by
   have e : -(152*Q B)*d = -(152*d*Q B):=by grind
   omega)
  show -(-(n*Q B)/d)<=_
  omega
 have hi:=zL5 (B:=B) (a:=ofI n d B) (c:=13) (by omega) (by omega) (by omega)
 refine⟨r0,r1,?_,?_,root_rtS h.rt (Iv.of B (n:=n) h.d0) r0 r2 (by have:=r0;show 0<=(yA B (ofI n d B)).2;omega) r3⟩
 ·have e:Q (B+4)=16*Q B:=by rw[jI];have:Q 4=16:=rfl;rw[this];omega
  show (yA B (ofI n d B)).2<=_
  omega
 ·have q38:0<Q 38:=zF 38
  have PD:Q 42=16*Q 38:=by rw[show 42=4+38 by rfl,jI];rfl
  have Xs:Q 76=Q 38*Q 38:=by rw[<- jI]
  rcases h.low with hz|hz
  ·have e:ofI n d B=(0,0):=by unfold ofI;rw[hz];simp
   show (yA B (ofI n d B)).2-(yA B (ofI n d B)).1+1<=_
   rw[e];unfold yA;simp only[Int.zero_mul,rtZ_zero,rtU_zero];rw[PD];omega
  ·have c1:n*Q B<=(ofI n d B).2*d:=by
    have:=zED (n*Q B) h.d0;exact this
   have c2:Q B<=Q 76*(ofI n d B).2:=by
    refine Int.le_of_mul_le_mul_right (a:=d) ?_ h.d0;have m1:=Yg hz (show 0<=Q B by omega)
    have m2:=Yi c1 (show 0<=Q 76 by have:=zF 76;omega)
    have e1:Q B*d=d*Q B:=Int.mul_comm _ _;have e2:Q 76*(ofI n d B).2*d=Q 76*((ofI n d B).2*d):=Int.mul_assoc _ _ _;have e3:Q 76*n*Q B=Q 76*(n*Q B):=Int.mul_assoc _ _ _;rw[e1,e2];rw[e3] at m1;exact Int.le_trans m1 m2
   have c3:Q B<=Q 38*(yA B (ofI n d B)).2:=sqI_le (by omega) (Yl (by omega) (by show 0<=(yA B (ofI n d B)).2;omega)) (by
    have m1:=Yg c2 (show 0<=Q B by omega)
    have m2:=Yi r3 (show 0<=Q 76 by have:=zF 76;omega)
    have e1:Q 38*(yA B (ofI n d B)).2*(Q 38*(yA B (ofI n d B)).2)=Q 76*((yA B (ofI n d B)).2*(yA B (ofI n d B)).2):=by rw[Xs];grind
    have e2:Q 76*(ofI n d B).2*Q B=Q 76*((ofI n d B).2*Q B):=Int.mul_assoc _ _ _;rw[e1];rw[e2] at m1
    exact Int.le_trans m1 m2)
   have:=zGP (B:=B) (W:=1) (g:=Q 38) a0 al (yQ h.d0 B) (by omega) c3
   show (yA B (ofI n d B)).2-(yA B (ofI n d B)).1+1<=_
   have q3:4<=Q 38:=by have:=zK (show 2<=38 by omega);have:Q 2=4:=rfl;omega
   rw[PD];omega
def erT (n d:Int) (B:Nat):Nat->Int × Int:=riT (erF n d B) (erU n) (erD d)
theorem sum_hi {f:Nat->Int × Int} {U:Int} (h:∀ n,(f n).2<=U) (n:Nat):(jH f n).2<=((n:Int)+1)*U:=by
 induction n with
 | zero=>have:=h 0;show (f 0).2<=_;omega
 | succ n ih =>
  have:=h (n+1)
  show (jH f n).2+(f (n+1)).2<=_
  have e:(((n+1:Nat):Int)+1)*U=((n:Int)+1)*U+U:=by push_cast;grind
  omega
theorem sum_lo {f:Nat->Int × Int} (h:∀ n,0<=(f n).1) (n:Nat):0<=(jH f n).1:=by
 induction n with
 | zero=>exact h 0
 | succ n ih=>have:=h (n+1);show 0<=(jH f n).1+(f (n+1)).1;omega
theorem erT_set {n d:Int} {x:Nat->Rat} (h:ErIn n d x) (B:Nat):∃ N,N<=3*B+8523/\yG (erT n d B) (zAY n d) N:=by
 obtain⟨f1,f2,f3,f4,f5⟩:=zK4 h B;have hh:=er_hi (B:=B) h.n0 h.d0 h.up f1 f2 f3 (zAY n d);have ht:=zG6 h.n0 h.d0 h.up;obtain⟨N,n1,n2⟩:=zJ9 (turn:=zAY n d) (H:=B+2740) (zMZ h.n0 h.d0) f1 f2 (λ k hk=>er_34 h.n0 h.d0 k hk) (by omega)
 have e:3*(B+2740)=3*B+8220:=Nat.mul_add 3 B 2740;rw[e] at n1;refine⟨N,Nat.le_trans n1 (Nat.le_trans (Nat.add_le_add_right ht _) (Nat.le_of_eq ?_)),n2⟩;rw[Nat.add_comm 303,Nat.add_assoc]
theorem zB9 {n d:Int} {x:Nat->Rat} (h:ErIn n d x) (B k:Nat):0<=(erT n d B k).1/\(erT n d B k).1<=(erT n d B k).2/\(erT n d B k).2<=Q (B+2740)/\(erT n d B k).2-(erT n d B k).1<=Q 2780:=by
 obtain⟨f1,f2,f3,f4,f5⟩:=zK4 h B;exact⟨zAE (zMZ h.n0 h.d0) f1 k,zD3 (zMZ h.n0 h.d0) f2 k,er_hi h.n0 h.d0 h.up f1 f2 f3 k,er_wide h.n0 h.d0 h.up f2 f4 k⟩
theorem Q_s (k:Nat):Q (k+1)=2*Q k:=rfl
theorem zQP {N:Nat} (hN:N<=50000) (U:Nat) (hU:4<=U):((N:Int)+1)*Q U+9<=Q (U+20):=by
 have q:=zF U;have q4:=zK hU;have e4:Q 4=16:=rfl;have e:Q (U+20)=1048576*Q U:=by rw[jI];have:Q 20=1048576:=rfl;rw[this];omega
 have m:=Yg (show (N:Int)+1<=50001 by omega) (show 0<=Q U by omega)
 omega
theorem zPA {n d:Int} {x:Nat->Rat} (h:ErIn n d x) (B:Nat) (hB:B<=10000) (k:Nat) (hk:k<=50000):0<=(jH (erT n d B) k).1/\(jH (erT n d B) k).1<=(jH (erT n d B) k).2/\(jH (erT n d B) k).2+9<=Q (B+2760)/\(jH (erT n d B) k).2-(jH (erT n d B) k).1+9<=Q 2800:=by
 have h1:=sum_lo (f:=erT n d B) (λ j=>(zB9 h B j).1) k
 have h2:=zF0 (f:=erT n d B) (λ j=>(zB9 h B j).2.1) k
 have h3:=sum_hi (f:=erT n d B) (λ j=>(zB9 h B j).2.2.1) k
 have h4:=zMC (f:=erT n d B) (λ j=>(zB9 h B j).2.2.2) k
 have m1:=zQP hk (B+2740) (by omega)
 have m2:=zQP hk 2780 (by omega)
 rw[show B+2740+20=B+2760 by omega] at m1
 rw[show 2780+20=2800 by rfl] at m2
 exact⟨h1,h2,by omega,by omega⟩
theorem er_valG {n d:Int} {x:Nat->Rat} (hd:0<d) (k M:Nat):riV x (erU n) (erD d) k M=x M*gT ((n:Rat)/(d:Rat)) k:=by
 induction k with
 | zero=>show x M=x M*1;grind
 | succ k ih =>
  show ((erU n (k+1):Int):Rat)/((erD d (k+1):Int):Rat)*riV x (erU n) (erD d) k M=x M*(2*((n:Rat)/(d:Rat))/(2*((k:Rat)+1)+1)*gT ((n:Rat)/(d:Rat)) k)
  rw[ih];have d0:(0:Rat)<(d:Rat):=by exact_mod_cast hd
  have p:=zCW k;have e1:((erU n (k+1):Int):Rat)=2*(n:Rat):=by unfold erU;rw[Ym];rfl
  have e2:((erD d (k+1):Int):Rat)=(d:Rat)*(2*((k:Rat)+1)+1):=by
   unfold erD;rw[Ym]
   congr 1
   rw[Rat.intCast_add,Ym]
   push_cast
   rfl
  have q:(0:Rat)<(d:Rat)*(2*((k:Rat)+1)+1):=Rat.mul_pos d0 p;have r0:=rdm (a:=(n:Rat)) d0;have r1:=rdm (a:=2*(n:Rat)) q;have r2:=rdm (a:=2*((n:Rat)/(d:Rat))) p
  have e3:2*(n:Rat)/((d:Rat)*(2*((k:Rat)+1)+1))=2*((n:Rat)/(d:Rat))/(2*((k:Rat)+1)+1):=by
   have lhs:2*((n:Rat)/(d:Rat))/(2*((k:Rat)+1)+1)*((d:Rat)*(2*((k:Rat)+1)+1))=2*(n:Rat):=by
    have:2*((n:Rat)/(d:Rat))/(2*((k:Rat)+1)+1)*((d:Rat)*(2*((k:Rat)+1)+1))=(2*((n:Rat)/(d:Rat))/(2*((k:Rat)+1)+1)*(2*((k:Rat)+1)+1))*(d:Rat):=by grind
    rw[this,r2,Rat.mul_assoc,r0]
   exact Rat.le_antisymm (Rat.le_of_mul_le_mul_right (by rw[lhs,r1];exact Rat.le_refl) q) (Rat.le_of_mul_le_mul_right (by rw[lhs,r1];exact Rat.le_refl) q)
  rw[e1,e2,e3];generalize 2*((n:Rat)/(d:Rat))/(2*((k:Rat)+1)+1)=c;grind
theorem er_hasG {B N:Nat} {a:Int × Int} {n d:Int} {x:Nat->Rat} (hn:0<=n) (hd:0<d) (hx:RtOf ((n:Rat)/(d:Rat)) x) (ha:Iv B a x) (hN:yG (riT a (erU n) (erD d)) (zAY n d) N):Iv B (kT (riT a (erU n) (erD d)) N) (λ M=>x M*gS ((n:Rat)/(d:Rat)) M):=by
 have h:=zBY (zMZ hn hd) ha 0 (λ M _=>hx.nn M) (λ k hk=>er_34 hn hd k hk) hN
 refine Has.of_eq h λ M=>?_
 have:∀ j,S (λ k=>riV x (erU n) (erD d) k M) j=x M*S (gT ((n:Rat)/(d:Rat))) j:=λ j=>by
  induction j with
  | zero=>show (0:Rat)=x M*0;grind
  | succ j ih =>
   show S (λ k=>riV x (erU n) (erD d) k M) j+riV x (erU n) (erD d) j M=x M*(S (gT ((n:Rat)/(d:Rat))) j+gT ((n:Rat)/(d:Rat)) j)
   rw[ih,er_valG hd];grind
 exact (this M).symm
def zAV (n d:Int) (B N:Nat):Int × Int:=kT (erT n d B) N
theorem zK5 {n d:Int} {x:Nat->Rat} (h:ErIn n d x) {B N:Nat} (hB:B<=10000) (hN:N<=3*B+8523) (hR:yG (erT n d B) (zAY n d) N):0<=(zAV n d B N).1/\(zAV n d B N).1<=(zAV n d B N).2/\(zAV n d B N).2<=Q (B+2760)/\(zAV n d B N).2-(zAV n d B N).1<=Q 2800/\Iv B (zAV n d B N) (λ M=>x M*gS ((n:Rat)/(d:Rat)) M):=by
 have TL:N<=50000:=by omega
 obtain⟨s1,s2,s3,s4⟩:=zPA h B hB N TL;obtain⟨f1,f2,f3,f4,f5⟩:=zK4 h B;have e1:(zAV n d B N).1=(jH (erT n d B) N).1:=by show (jH (erT n d B) N).1+0=_;omega
 have e2:(zAV n d B N).2=(jH (erT n d B) N).2+9:=rfl;refine⟨by omega,by omega,by omega,by omega,er_hasG h.n0 h.d0 h.rt f5 hR⟩
def erX (n d:Int) (B t N:Nat):Int × Int:=sqI B (zM (zW B (zG (ofI n d B) t)) N) t
theorem erX_set {n d:Int} {x:Nat->Rat} (h:ErIn n d x) {B:Nat} (hB:40<=B):∃ (l:Int) (t N:Nat),zBM (zX (ofI n d B)) l/\(t:Int)=max 0 (l-B+8)/\t<=16/\Abs (zG (ofI n d B) t) (Q (B-8))/\zT (zW B (zG (ofI n d B) t)) N:=by
 have:=h.n0;have:=h.d0;have:=h.up;obtain⟨l,t,N,e1,e2,e3,e4,e5⟩:=zEE (B:=B) (e:=8) (by omega) (yU h.d0 B) (zHN (p:=n) (q:=d) (n:=152) (b:=B) (e:=8) h.d0 (by omega) (by omega) (by decide))
 exact⟨l,t,N,e1,e2,by omega,e4,e5⟩
theorem erX_ok {n d:Int} {x:Nat->Rat} (h:ErIn n d x) {B t N:Nat} (hB:40<=B) (A7:B<=10000) (ht:t<=16) (hA:Abs (zG (ofI n d B) t) (Q (B-8))) (hN:zT (zW B (zG (ofI n d B) t)) N) :
  Q B+1<=2*(erX n d B t N).1/\(erX n d B t N).1<=(erX n d B t N).2/\Abs (erX n d B t N) (Q (B+1536))/\(erX n d B t N).2-(erX n d B t N).1<=Q 1700/\Iv B (erX n d B t N) (ex ((n:Rat)/(d:Rat))):=by
 have q:=zF t;have al:=yU (n:=n) h.d0 B;obtain⟨g1,g2,g3,g4⟩:=zCT (ws:=1) (by omega) hA al (by have:=yQ (n:=n) h.d0 B;omega) hN
 have Og:=zK (wb_mono (show t<=17 by omega))
 rw[wb_17] at Og;have Av:=zK (show B+eb t<=B+1536 by have:=zB8 (show t<=17 by omega);rw[eb_17] at this;omega)
 have VA:=Iv.of B (n:=n) h.d0;refine⟨zPI (h.of_lo B) al (by omega) hB hN,g1,g2.mono Av,?_,zFM (by omega) VA hA⟩
 have m:=Int.mul_le_mul (show ((N:Int)+1)*(2*1+6)+3<=1048576 by omega) Og (by have:=zF (wb t);omega) (by omega)
 have e:Q 1700=4*(1048576*Q 1678):=by
  rw[show 1700=1678+22 by rfl,jI];have:Q 22=4194304:=rfl;rw[this];omega
 have q2:=zF 1678
 show (sqI B (zM (zW B (zG (ofI n d B) t)) N) t).2-(sqI B (zM (zW B (zG (ofI n d B) t)) N) t).1<=_
 omega
def erP (B N5 N9:Nat):Int × Int:=yA B (piI B N5 N9)
theorem erP_ok {B N5 N9:Nat} {R:Nat->Rat} (hR:zAA piS R) (hB:32<=B) (A7:B<=10000) (h5:zT (agT 5 B) N5) (h9:zT (agT 239 B) N9) :
  Q B<=(erP B N5 N9).1/\(erP B N5 N9).1<=(erP B N5 N9).2/\(erP B N5 N9).2<=8*Q B+1/\(erP B N5 N9).2-(erP B N5 N9).1<=1048576/\Iv B (erP B N5 N9) R:=by
 obtain⟨p1,p2,p3,p4⟩:=pi_bound hB h5 h9;have q:=zF B;obtain⟨r0,r1,r2,r3⟩:=zC2 (B:=B) (a:=piI B N5 N9) (by omega) p1
 have lo:Q B<=(yA B (piI B N5 N9)).1:=by
  have m:=Yg p2 (show 0<=Q B by omega)
  have z:=(zD5 (show 0<=(piI B N5 N9).1*Q B by have:=Yl (show 0<=Q B by omega) (show 0<=Q B by omega);omega)).2
  have n0:=zAF ((piI B N5 N9).1*Q B)
  show Q B<=rtZ ((piI B N5 N9).1*Q B)
  refine Int.not_lt.1 λ E2=>?_
  have m2:=Int.mul_le_mul (show rtZ ((piI B N5 N9).1*Q B)+1<=Q B by omega) (show rtZ ((piI B N5 N9).1*Q B)+1<=Q B by omega) (by omega) (by omega)
  omega
 have hi:=zL5 (B:=B) (a:=piI B N5 N9) (c:=8) (by omega) (by omega) (by omega)
 have w:=zGP (B:=B) (a:=piI B N5 N9) (W:=20*(B:Int)+120) (g:=1) (by omega) p1 p4 (by omega) (by omega)
 refine⟨lo,r1,hi,?_,root_iv (r:=(yA B (piI B N5 N9)).1) (t:=(yA B (piI B N5 N9)).2) (pi_has B N5 N9) hR r2 (by omega) r3⟩
 show (yA B (piI B N5 N9)).2-(yA B (piI B N5 N9)).1<=_
 omega
def zE4 (n d:Int) (B t N N5 N9:Nat):Int × Int:=yZ B (erP B N5 N9) (erX n d B t N)
theorem zO9 {n d:Int} {x:Nat->Rat} {R:Nat->Rat} (hR:zAA piS R) (h:ErIn n d x) {B t N N5 N9:Nat} (hB:40<=B) (A7:B<=10000) (ht:t<=16) (hA:Abs (zG (ofI n d B) t) (Q (B-8))) (hN:zT (zW B (zG (ofI n d B) t)) N) (h5:zT (agT 5 B) N5) (h9:zT (agT 239 B) N9) :
  Q B+1<=2*(zE4 n d B t N N5 N9).1/\(zE4 n d B t N N5 N9).1<=(zE4 n d B t N N5 N9).2/\(zE4 n d B t N N5 N9).2<=Q (B+1540)/\(zE4 n d B t N N5 N9).2-(zE4 n d B t N N5 N9).1<=Q 1710/\Iv B (zE4 n d B t N N5 N9) (λ M=>R M*ex ((n:Rat)/(d:Rat)) M):=by
 obtain⟨x1,x2,x3,x4,x5⟩:=erX_ok h hB A7 ht hA hN;obtain⟨p1,p2,p3,p4,p5⟩:=erP_ok hR (by omega) A7 h5 h9
 have q:=zF B;have PA:Abs (erP B N5 N9) (16*Q B):=⟨by omega,by omega,by omega,by omega⟩
 have Fa:Q (B+1540)*Q B=16*Q B*Q (B+1536):=by
  rw[show B+1540=(B+1536)+4 by omega,jI (B+1536) 4]
  have:Q 4=16:=rfl;rw[this];grind
 have ab:=zCD (B:=B) (p:=Q (B+1540)) PA x3 (by omega)
 refine⟨?_,zBO B,ab.2.2.2,?_,p5.mul x5⟩
 ·obtain⟨_,_,_,_,hh⟩:=zDX ((erP B N5 N9).1*(erX n d B t N).1) ((erP B N5 N9).1*(erX n d B t N).2) ((erP B N5 N9).2*(erX n d B t N).1) ((erP B N5 N9).2*(erX n d B t N).2)
  have y0:0<=(erX n d B t N).1:=by omega
  have m0:=Yg p1 y0;have m1:=Yi x2 (show 0<=(erP B N5 N9).1 by omega)
  have m2:=Yg p2 y0;have m3:=Yi x2 (show 0<=(erP B N5 N9).2 by omega)
  have k:(erX n d B t N).1<=(zE4 n d B t N N5 N9).1:=by
   refine Int.le_ediv_of_mul_le (by omega) ?_
   rw[Int.mul_comm];omega
  omega
 ·have w:=zAQ (B:=B) (c:=16*Q 1700+Q 1536*1048576) PA x3 p2 x2 (by
   have m1:=Yi x4 (show 0<=16*Q B by omega)
   have m2:=Yi p4 (show 0<=Q (B+1536) by have:=zF (B+1536);omega)
   have e:Q (B+1536)=Q B*Q 1536:=jI B 1536;have e2:(16*Q 1700+Q 1536*1048576)*Q B=16*Q B*Q 1700+Q B*Q 1536*1048576:=by grind
   rw[e] at m2 ⊢
   omega)
  have e1:Q 1710=1024*Q 1700:=by rw[show 1710=1700+10 by rfl,jI];have:Q 10=1024:=rfl;rw[this];omega
  have e3:Q 1556=Q 1536*1048576:=by rw[show 1556=1536+20 by rfl,jI];rfl
  have e4:=zK (show 1556<=1700 by omega)
  have q2:=zF 1700
  show (yZ B (erP B N5 N9) (erX n d B t N)).2-(yZ B (erP B N5 N9) (erX n d B t N)).1<=_
  omega
theorem dv_wide2 {s1 s2 t1 t2 q V W C:Int} (hq:0<q) (h0:0<=s1) (hV:0<=V) (h1:s2-s1<=V) (hC:1<=C) (h2:s1<=C*t2) (h3:t1<=t2) (h4:t2-t1<=W) (h5:q+1<=2*t1) : -(-(s2*q)/t1)-s1*q/t2<=2*V+2*(C*W)+4:=by
 obtain⟨hi,ehi⟩:∃ hi,hi = -(-(s2*q)/t1):=⟨_,rfl⟩;obtain⟨lo,elo⟩:∃ lo,lo=s1*q/t2:=⟨_,rfl⟩;rw[<- ehi,<- elo];have t0:0<t1:=by omega
 have c1:(hi-1)*t1<s2*q:=by
  have:=Int.lt_ediv_add_one_mul_self (-(s2*q)) t0;have e:(hi-1)*t1 = -((-(s2*q)/t1+1)*t1):=by rw[ehi];grind
  omega
 have c2:s1*q<(lo+1)*t2:=by rw[elo];exact Int.lt_ediv_add_one_mul_self _ (by omega)
 have c3:lo<=C*q:=by
  rw[elo];refine Int.ediv_le_of_le_mul (by omega) ?_
  have:=Yg h2 (show 0<=q by omega)
  have e:C*t2*q=C*q*t2:=by grind
  omega
 have c4:0<=lo:=by rw[elo];exact Int.ediv_nonneg (Yl h0 (by omega)) (by omega)
 refine Int.not_lt.1 λ hn=>?_
 have W0:0<=W:=by omega
 have CW:W<=C*W:=by have:=Yg hC W0;omega
 obtain⟨X,hX⟩:∃ X,X=C*W:=⟨_,rfl⟩;rw[<- hX] at hn CW;have d1:=Yg (show (lo+1)+(2*V+2*X+3)<=hi-1 by omega) (show 0<=t1 by omega)
 have d2:=Yi h4 (show 0<=lo+1 by omega)
 have d3:=Yg (show lo+1<=C*q+1 by omega) W0
 have d4:=Yg h1 (show 0<=q by omega)
 have d5:=Yi h5 (show 0<=V+X by omega)
 have e1:(lo+1+(2*V+2*X+3))*t1=(lo+1)*t2-(lo+1)*(t2-t1)+(V+X)*(2*t1)+3*t1:=by grind
 have e2:(s2-s1)*q=s2*q-s1*q:=by grind
 have e3:(C*q+1)*W=X*q+W:=by rw[hX];grind
 have e4:(V+X)*(q+1)=V*q+X*q+V+X:=by grind
 omega
theorem w_fin {x v y z:Int} (h:x<=2*(2*v)+2*y+4) (hv:v<=y) (hy:0<y) (hz:z=134217728*y):x<=z:=by omega
def zJE (B:Nat) (a:Int × Int):Int × Int:=(a.1,if a.2<=Q B then a.2 else Q B)
def erQ (n d:Int) (B M t N N5 N9:Nat):Int × Int:=(zEC ((zAV n d B M).1*2) ((zAV n d B M).2*2) (zE4 n d B t N N5 N9).1 (zE4 n d B t N N5 N9).2 B,zF6 ((zAV n d B M).1*2) ((zAV n d B M).2*2) (zE4 n d B t N N5 N9).1 (zE4 n d B t N N5 N9).2 B)
theorem zOZ {B:Nat} {a:Int × Int} {w:Int} (h:a.2-a.1<=w) (h2:a.1<=Q B):(zJE B a).2-(zJE B a).1<=w:=by
 unfold zJE;simp only[];split<;>omega
theorem Iv.capN {B:Nat} {a:Int × Int} {x:Nat->Rat} (h:Iv B a x) (hx:LeN x (λ _=>1)):Iv B (zJE B a) x:=by
 unfold zJE;split
 ·exact h
 ·intro e he
  obtain⟨N,hN⟩:=h e he;obtain⟨N0,qJ⟩:=hx e he;refine⟨N+N0,λ M hM=>?_⟩
  have g:=(hN M (by omega)).1
  have g2:=qJ M (by omega)
  have q:=jJ B;have e1:(Q B:Rat)/(Q B:Rat)=1:=by rw[Yp,Rat.mul_inv_cancel _ (by grind)]
  simp only[];rw[e1];constructor<;>grind
theorem Iv.lo_one {B:Nat} {a:Int × Int} {x:Nat->Rat} (h:Iv B a x) (hx:LeN x (λ _=>1)):a.1<=Q B:=by
 refine Int.not_lt.1 λ E2=>?_
 have q:=jJ B;have h1:((Q B+1:Int):Rat)<=(a.1:Rat):=jG (by omega)
 have h2:1+1/(Q B:Rat)<=(a.1:Rat)/(Q B:Rat):=by
  refine jY q ?_;have e:(1+1/(Q B:Rat))*(Q B:Rat)=(Q B:Rat)+1/(Q B:Rat)*(Q B:Rat):=by grind
  rw[e,rdm q];rw[Rat.intCast_add] at h1;exact h1
 have u0:(0:Rat)<1/(Q B:Rat):=zH (by grind) q
 obtain⟨N1,k1⟩:=h (1/(Q B:Rat)/4) (by grind)
 obtain⟨N2,k2⟩:=hx (1/(Q B:Rat)/4) (by grind)
 have a1:=(k1 (N1+N2) (by omega)).1
 have a2:=k2 (N1+N2) (by omega)
 grind
theorem erf_ok {n d:Int} {x:Nat->Rat} {R:Nat->Rat} (hR:zAA piS R) (h:ErIn n d x) {B M t N N5 N9:Nat} (hB:40<=B) (A7:B<=10000) (hM:M<=3*B+8523) (nM:yG (erT n d B) (zAY n d) M) (ht:t<=16) (hA:Abs (zG (ofI n d B) t) (Q (B-8))) (hN:zT (zW B (zG (ofI n d B) t)) N) (h5:zT (agT 5 B) N5) (h9:zT (agT 239 B) N9) :
  Iv B (zJE B (erQ n d B M t N N5 N9)) (zJF R ((n:Rat)/(d:Rat)) x)/\0<=(zJE B (erQ n d B M t N N5 N9)).1/\(zJE B (erQ n d B M t N N5 N9)).1<=(zJE B (erQ n d B M t N N5 N9)).2/\(zJE B (erQ n d B M t N N5 N9)).2<=Q B/\(zJE B (erQ n d B M t N N5 N9)).2-(zJE B (erQ n d B M t N N5 N9)).1<=Q 4500:=by
 obtain⟨s1,s2,s3,s4,s5⟩:=zK5 h A7 hM nM;obtain⟨d1,d2,d3,d4,d5⟩:=zO9 hR h hB A7 ht hA hN h5 h9;have q:=zF B;have one:=zK6 hR h.rt
 have iv:Iv B (erQ n d B M t N N5 N9) (zJF R ((n:Rat)/(d:Rat)) x):=by
  have:=Iv.dv (s:=kF (zAV n d B M) 2) (s5.times 2) d5 (show 0<=(zAV n d B M).1*2 by omega) (by omega)
  exact this
 obtain⟨e1,e2⟩:=zK3 (b:=B) (lo:=(zAV n d B M).1*2) (hi:=(zAV n d B M).2*2) (lo':=(zE4 n d B t N N5 N9).1) (hi':=(zE4 n d B t N N5 N9).2) (by omega) (by omega) (by omega) d2
 have WN:=iv.lo_one one;have ML:(erQ n d B M t N N5 N9).1=(zAV n d B M).1*2*Q B/(zE4 n d B t N N5 N9).2:=e1;have Tq:(erQ n d B M t N N5 N9).2 = -(-((zAV n d B M).2*2*Q B)/(zE4 n d B t N N5 N9).1):=e2
 have l0:0<=(erQ n d B M t N N5 N9).1:=by
  rw[ML];exact Int.ediv_nonneg (Yl (by omega) (by omega)) (by omega)
 have le:=iv.le
 have w:(erQ n d B M t N N5 N9).2-(erQ n d B M t N N5 N9).1<=Q 4500:=by
  rw[ML,Tq];have C0:=zF 2763
  have:=dv_wide2 (s1:=(zAV n d B M).1*2) (s2:=(zAV n d B M).2*2) (t1:=(zE4 n d B t N N5 N9).1) (t2:=(zE4 n d B t N N5 N9).2) (q:=Q B) (V:=2*Q 2800) (W:=Q 1710) (C:=Q 2763) (by omega) (by omega) (by have:=zF 2800;omega) (by omega) (by omega) (by
   have m:=Yi (show Q B<=2*(zE4 n d B t N N5 N9).2 by omega) (show 0<=Q 2761 by have:=zF 2761;omega)
   have e:Q (B+2760)=Q B*Q 2760:=jI B 2760;have e6:Q 2761=2*Q 2760:=Q_s 2760;have e7:Q 2763=2*(2*Q 2761):=by rw[<- Q_s 2761];exact Q_s 2762
   have e8:Q 2761*Q B=2*(Q B*Q 2760):=by rw[e6];grind
   have e9:Q 2763*(zE4 n d B t N N5 N9).2=2*(Q 2761*(2*(zE4 n d B t N N5 N9).2)):=by rw[e7];grind
   have q9:=Yl (show 0<=Q B by omega) (show 0<=Q 2760 by have:=zF 2760;omega)
   omega) d2 d4 d1
  have e3:Q 4473=Q 2763*Q 1710:=by rw[<- jI]
  have e4:=zK (show 2800<=4473 by omega)
  have e5:Q 4500=134217728*Q 4473:=by
   rw[show 4500=27+4473 by rfl,jI]
   rfl
  rw[e3] at e4 e5;exact w_fin this e4 (by rw[<- e3];exact zF 4473) e5
 refine⟨iv.capN one,l0,?_,?_,zOZ w WN⟩
 ·clear w;unfold zJE;simp only[];split<;>omega
 ·clear w;unfold zJE;simp only[];split<;>omega
end Go.Proofs.YtgmnknmjainabacGreat
