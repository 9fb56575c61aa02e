/-
  Its own texts.
-/
import Derived.Deep.RegionHeld3
import Derived.Test.YtgmnknmjainabacGreatH10
set_option maxRecDepth 100000
set_option maxHeartbeats 40000000
set_option linter.unnecessarySimpa false
set_option linter.unusedSimpArgs false
set_option linter.unusedVariables false
namespace Go.Proofs.YtgmnknmjainabacGreat
open Go.RowKit
attribute [local go_sem ↓] Go.wp_at_zero Go.wp_at_succ
theorem zFG (neg j6:Bool) (a c:Option Addr) (n m cap m8 k k2 b B:Nat) (x y:Int) (w:World) (h1:IntAt w neg a n cap k x) (h2:IntAt w j6 c m m8 k2 y) (hk:k<=300000000) (hb:b<=1000000) (hy:0<y) (hc:w.cell? ⟨B,4,none⟩=some (.int .i64 b)) :
  Calls Tryz.prog 190 #[.agg #[.bool neg,.slice a n cap],.agg #[.bool j6,.slice c m m8],.pointer (some ⟨B,0,none⟩)] w (zDP w (b/16+k+9) (x*Q b/y)):=by
 have lB:B<w.heap.size:=World.block_lt_of_cell? w ⟨B,4,none⟩ hc;have iA:w.heap.size≠w.heap.size+1+1:=by omega
 have iB:w.heap.size+1+1≠w.heap.size:=by omega
 obtain⟨W,hW⟩:∃ W,W=((w.alloc (.cells #[.bool neg,.slice a n cap] 29)).alloc (.cells #[.bool j6,.slice c m m8] 29)).alloc (.cells #[.bool false,.slice none 0 0] 29):=⟨_,rfl⟩;have j8:Below w.heap.size w W:=by rw[hW];exact bl3 _ _ _ _
 have A:NmC W w.heap.size ⟨neg,a,n,cap⟩:=by rw[hW];constructor<;>simp[go_sem]
 have G:NmC W (w.heap.size+1) ⟨j6,c,m,m8⟩:=by rw[hW];constructor<;>simp[go_sem]
 have R:NoI W (w.heap.size+1+1):=by rw[hW];constructor<;>simp[go_sem]
 have hcW:=(j8.cell (p:=⟨B,4,none⟩) lB).trans hc;have lBW:=Zd lB j8.size;have HX:=zC (h1.bw j8);have HY:=zC (h2.bw j8);have D7:Below W.heap.size W W.drew:=(Below.refl _ _).drew;have lR:=R.lt;have nB:B≠w.heap.size+1+1:=by omega
 have Ry:w.heap.size+1+1≠B:=by omega
 have HK:=zC (show ∀ w',Below W.heap.size W w'->(w'.cell? ⟨w.heap.size,0,none⟩=some (.bool neg)/\w'.cell? ⟨w.heap.size,1,none⟩=some (.slice a n cap)/\w'.cell? ⟨w.heap.size+1,0,none⟩=some (.bool j6)/\w'.cell? ⟨w.heap.size+1,1,none⟩=some (.slice c m m8)/\w'.cell? ⟨B,4,none⟩=some (.int .i64 b)) from λ w' hB=>⟨(A.bw hB).c0,(A.bw hB).c1,(G.bw hB).c0,(G.bw hB).c1,(hB.cell (p:=⟨B,4,none⟩) lBW).trans hcW⟩)
 go_enter Tryz.func190,Tryz.ntmps190
 go_wp2;rw[<- hW];clear hW;obtain⟨i0,i1,i2,i3,i4⟩:=zA HK _ (Below.refl _ _)
 go_region_held3 (λ w'=>w'.cell? ⟨w.heap.size,0,none⟩=some (.bool neg)/\w'.cell? ⟨w.heap.size,1,none⟩=some (.slice a n cap)/\w'.cell? ⟨w.heap.size+1,0,none⟩=some (.bool j6)/\w'.cell? ⟨w.heap.size+1,1,none⟩=some (.slice c m m8)/\w'.cell? ⟨B,4,none⟩=some (.int .i64 b)) (first|exact zA HK _ (by with_reducible first|exact D7|exact o9|exact A6)|go_keep)
  (first
   | (go_at_call 116;refine (zCG _ _ _ _ b k x _ ((zA HX).bw D7) (by omega) (by omega)).mono ?_;rintro r w1 ⟨m9,a1,n1,c1,rfl,o8,b9⟩;have A6:=zB D7 b9)
   | (go_at_call 126;refine (zAB _ _ _ _ _ _ _ _ (b/16+k+1) k2 (x*Q b) y _ o8 ((zA HY).bw A6) (by omega) hy).mono ?_;rintro r w2 ⟨B8,a3,n3,c3,rfl,G0,j7⟩;have o9:=zB A6 j7;obtain⟨q0,q1,q2⟩:=R.bw o9;obtain⟨d0,d1,d2,d3,d4⟩:=zA HK _ o9))
 clear i0 i1 i2 i3 i4;go_wp2;refine bodyPost_ret (v:=.agg #[.bool B8,.slice a3 n3 c3]) (by simp[results,Tryz.results190,go_sem,q0,q1]) rfl ⟨B8,a3,n3,c3,rfl,(G0.put2 q0 q1 _ _).mono (by omega),?_⟩
 exact zE4 (zB j8 o9) (by omega) _ _
theorem zFH (neg j6:Bool) (a c:Option Addr) (n m cap m8 k k2 b B:Nat) (x y:Int) (w:World) (h1:IntAt w neg a n cap k x) (h2:IntAt w j6 c m m8 k2 y) (hk:k<=300000000) (hb:b<=1000000) (hy:0<y) (hc:w.cell? ⟨B,4,none⟩=some (.int .i64 b)) :
  Calls Tryz.prog 191 #[.agg #[.bool neg,.slice a n cap],.agg #[.bool j6,.slice c m m8],.pointer (some ⟨B,0,none⟩)] w (zDP w (b/16+k+9) (-(-(x*Q b)/y))):=by
 have lB:B<w.heap.size:=World.block_lt_of_cell? w ⟨B,4,none⟩ hc;have iA:w.heap.size≠w.heap.size+1+1:=by omega
 have iB:w.heap.size+1+1≠w.heap.size:=by omega
 obtain⟨W,hW⟩:∃ W,W=((w.alloc (.cells #[.bool neg,.slice a n cap] 29)).alloc (.cells #[.bool j6,.slice c m m8] 29)).alloc (.cells #[.bool false,.slice none 0 0] 29):=⟨_,rfl⟩;have j8:Below w.heap.size w W:=by rw[hW];exact bl3 _ _ _ _
 have A:NmC W w.heap.size ⟨neg,a,n,cap⟩:=by rw[hW];constructor<;>simp[go_sem]
 have G:NmC W (w.heap.size+1) ⟨j6,c,m,m8⟩:=by rw[hW];constructor<;>simp[go_sem]
 have R:NoI W (w.heap.size+1+1):=by rw[hW];constructor<;>simp[go_sem]
 have hcW:=(j8.cell (p:=⟨B,4,none⟩) lB).trans hc;have lBW:=Zd lB j8.size;have HX:=zC (h1.bw j8);have HY:=zC (h2.bw j8);have D7:Below W.heap.size W W.drew:=(Below.refl _ _).drew;have lR:=R.lt;have nB:B≠w.heap.size+1+1:=by omega
 have Ry:w.heap.size+1+1≠B:=by omega
 have HK:=zC (show ∀ w',Below W.heap.size W w'->(w'.cell? ⟨w.heap.size,0,none⟩=some (.bool neg)/\w'.cell? ⟨w.heap.size,1,none⟩=some (.slice a n cap)/\w'.cell? ⟨w.heap.size+1,0,none⟩=some (.bool j6)/\w'.cell? ⟨w.heap.size+1,1,none⟩=some (.slice c m m8)/\w'.cell? ⟨B,4,none⟩=some (.int .i64 b)) from λ w' hB=>⟨(A.bw hB).c0,(A.bw hB).c1,(G.bw hB).c0,(G.bw hB).c1,(hB.cell (p:=⟨B,4,none⟩) lBW).trans hcW⟩)
 go_enter Tryz.func191,Tryz.ntmps191
 go_wp2;rw[<- hW];clear hW;obtain⟨i0,i1,i2,i3,i4⟩:=zA HK _ (Below.refl _ _)
 go_region_held3 (λ w'=>w'.cell? ⟨w.heap.size,0,none⟩=some (.bool neg)/\w'.cell? ⟨w.heap.size,1,none⟩=some (.slice a n cap)/\w'.cell? ⟨w.heap.size+1,0,none⟩=some (.bool j6)/\w'.cell? ⟨w.heap.size+1,1,none⟩=some (.slice c m m8)/\w'.cell? ⟨B,4,none⟩=some (.int .i64 b)) (first|exact zA HK _ (by with_reducible first|exact D7|exact o9|exact A6)|go_keep)
  (first
   | (go_at_call 116;refine (zCG _ _ _ _ b k x _ ((zA HX).bw D7) (by omega) (by omega)).mono ?_;rintro r w1 ⟨m9,a1,n1,c1,rfl,o8,b9⟩;have A6:=zB D7 b9)
   | (go_at_call 127;refine (zHY _ _ _ _ _ _ _ _ (b/16+k+1) k2 (x*Q b) y _ o8 ((zA HY).bw A6) (by omega) hy).mono ?_;rintro r w2 ⟨B8,a3,n3,c3,rfl,G0,j7⟩;have o9:=zB A6 j7;obtain⟨q0,q1,q2⟩:=R.bw o9;obtain⟨d0,d1,d2,d3,d4⟩:=zA HK _ o9))
 clear i0 i1 i2 i3 i4;go_wp2;refine bodyPost_ret (v:=.agg #[.bool B8,.slice a3 n3 c3]) (by simp[results,Tryz.results191,go_sem,q0,q1]) rfl ⟨B8,a3,n3,c3,rfl,(G0.put2 q0 q1 _ _).mono (by omega),?_⟩
 exact zE4 (zB j8 o9) (by omega) _ _
theorem zJP (w:World) (s t:Sp) (k b B:Nat) (lo hi lo' hi':Int) (hs:SpAt w s k lo hi) (ht:SpAt w t k lo' hi') (hk:k<=300000000) (hb:b<=1000000) (hp:0<lo') (L9:0<hi') (hc:w.cell? ⟨B,4,none⟩=some (.int .i64 b)) :
  Calls Tryz.prog 152 #[.agg s.q,.agg t.q,.func (.func 190) #[] #[.pointer (some ⟨B,0,none⟩)]] w λ r w' =>
   ∃ B' f,r=.returned (.slice (some ⟨B',0,none⟩) 4 4)/\Nums w' B' 4 (b/16+k+9) f (pr4 (lo*Q b/lo') (lo*Q b/hi') (hi*Q b/lo') (hi*Q b/hi'))/\Below w.heap.size w w':=by
 have lB:B<w.heap.size:=World.block_lt_of_cell? w ⟨B,4,none⟩ hc;obtain⟨W,hW⟩:∃ W,W=(w.alloc (.cells s.q 31)).alloc (.cells t.q 31):=⟨_,rfl⟩;have j8:Below w.heap.size w W:=by rw[hW];exact bl2 _ _ _
 have a0:SpC W w.heap.size s:=by rw[hW];constructor<;>simp[go_sem]
 have g0:SpC W (w.heap.size+1) t:=by rw[hW];constructor<;>simp[go_sem]
 have hcW:=(j8.cell (p:=⟨B,4,none⟩) lB).trans hc;have lBW:=Zd lB j8.size;have HS:=zC (hs.bw j8);have HT:=zC (ht.bw j8);have D7:Below W.heap.size W W.drew:=(Below.refl _ _).drew;have nT:=zC (show ∀ w',Below W.heap.size W w'->w'.cell? ⟨B,4,none⟩=some (.int .i64 b) from λ w' hB=>(hB.cell (p:=⟨B,4,none⟩) lBW).trans hcW)
 have HK:=zC (show ∀ w',Below W.heap.size W w'->(w'.cell? ⟨w.heap.size,0,none⟩=some (.bool s.ln)/\w'.cell? ⟨w.heap.size,1,none⟩=some (.slice s.la s.lN s.lc)/\w'.cell? ⟨w.heap.size,2,none⟩=some (.bool s.hn)/\w'.cell? ⟨w.heap.size,3,none⟩=some (.slice s.ha s.hN s.hc)/\w'.cell? ⟨w.heap.size+1,0,none⟩=some (.bool t.ln)/\w'.cell? ⟨w.heap.size+1,1,none⟩=some (.slice t.la t.lN t.lc)/\w'.cell? ⟨w.heap.size+1,2,none⟩=some (.bool t.hn)/\w'.cell? ⟨w.heap.size+1,3,none⟩=some (.slice t.ha t.hN t.hc)) from λ w' hB=>by
  obtain⟨x0,x1,x2,x3,x4⟩:=a0.bw hB;obtain⟨y0,y1,y2,y3,y4⟩:=g0.bw hB
  exact⟨x0,x1,x2,x3,y0,y1,y2,y3⟩)
 go_enter Tryz.func152,Tryz.ntmps152
 go_wp2;obtain⟨x0,x1,x2,x3,x4⟩:=a0;obtain⟨y0,y1,y2,y3,y4⟩:=g0;rw[<- hW];clear hW
 go_region_held3 (λ w'=>w'.cell? ⟨w.heap.size,0,none⟩=some (.bool s.ln)/\w'.cell? ⟨w.heap.size,1,none⟩=some (.slice s.la s.lN s.lc)/\w'.cell? ⟨w.heap.size,2,none⟩=some (.bool s.hn)/\w'.cell? ⟨w.heap.size,3,none⟩=some (.slice s.ha s.hN s.hc)/\w'.cell? ⟨w.heap.size+1,0,none⟩=some (.bool t.ln)/\w'.cell? ⟨w.heap.size+1,1,none⟩=some (.slice t.la t.lN t.lc)/\w'.cell? ⟨w.heap.size+1,2,none⟩=some (.bool t.hn)/\w'.cell? ⟨w.heap.size+1,3,none⟩=some (.slice t.ha t.hN t.hc)) (exact zA HK _ (by with_reducible first|exact D7|exact zL I1 _|exact I1|exact D3|exact o9|exact A6))
  (first
   | (go_at_call 190;have hq:=D3;refine (zFG _ _ _ _ _ _ _ _ k k b B hi hi' _ ((zA HS).hi.bw D3) ((zA HT).hi.bw D3) hk hb L9 (zA nT _ D3)).mono ?_;rintro r w4 ⟨E6,a4,n4,c4,rfl,I2,y9⟩;replace o8:=o8.bw y9;replace A5:=A5.bw y9;replace G0:=G0.bw y9;have I1:=zB D3 y9)
   | (go_at_call 190;have hq:=o9;refine (zFG _ _ _ _ _ _ _ _ k k b B hi lo' _ ((zA HS).hi.bw o9) ((zA HT).lo.bw o9) hk hb hp (zA nT _ o9)).mono ?_;rintro r w3 ⟨B8,a3,n3,c3,rfl,G0,o7⟩;replace o8:=o8.bw o7;replace A5:=A5.bw o7;have D3:=zB o9 o7)
   | (go_at_call 190;have hq:=A6;refine (zFG _ _ _ _ _ _ _ _ k k b B lo hi' _ ((zA HS).lo.bw A6) ((zA HT).hi.bw A6) hk hb L9 (zA nT _ A6)).mono ?_;rintro r w2 ⟨j6,a2,n2,c2,rfl,A5,j7⟩;replace o8:=o8.bw j7;have o9:=zB A6 j7)
   | (go_at_call 190;have hq:=D7;refine (zFG _ _ _ _ _ _ _ _ k k b B lo lo' _ ((zA HS).lo.bw D7) ((zA HT).lo.bw D7) hk hb hp (zA nT _ D7)).mono ?_;rintro r w1 ⟨m9,a1,n1,c1,rfl,o8,b9⟩;have A6:=zB D7 b9))
 go_wp2
 go_ret
 exact⟨w4.heap.size,pr4 ⟨m9,a1,n1,c1⟩ ⟨j6,a2,n2,c2⟩ ⟨B8,a3,n3,c3⟩ ⟨E6,a4,n4,c4⟩,rfl,zPB w4 _ rfl ⟨m9,a1,n1,c1⟩ ⟨j6,a2,n2,c2⟩ ⟨B8,a3,n3,c3⟩ ⟨E6,a4,n4,c4⟩ _ _ _ _ _ _ o8 A5 G0 I2,zB j8 (zL I1 _)⟩
theorem zJQ (w:World) (s t:Sp) (k b B:Nat) (lo hi lo' hi':Int) (hs:SpAt w s k lo hi) (ht:SpAt w t k lo' hi') (hk:k<=300000000) (hb:b<=1000000) (hp:0<lo') (L9:0<hi') (hc:w.cell? ⟨B,4,none⟩=some (.int .i64 b)) :
  Calls Tryz.prog 152 #[.agg s.q,.agg t.q,.func (.func 191) #[] #[.pointer (some ⟨B,0,none⟩)]] w λ r w' =>
   ∃ B' f,r=.returned (.slice (some ⟨B',0,none⟩) 4 4)/\Nums w' B' 4 (b/16+k+9) f (pr4 (-(-(lo*Q b)/lo')) (-(-(lo*Q b)/hi')) (-(-(hi*Q b)/lo')) (-(-(hi*Q b)/hi')))/\Below w.heap.size w w':=by
 have lB:B<w.heap.size:=World.block_lt_of_cell? w ⟨B,4,none⟩ hc;obtain⟨W,hW⟩:∃ W,W=(w.alloc (.cells s.q 31)).alloc (.cells t.q 31):=⟨_,rfl⟩;have j8:Below w.heap.size w W:=by rw[hW];exact bl2 _ _ _
 have a0:SpC W w.heap.size s:=by rw[hW];constructor<;>simp[go_sem]
 have g0:SpC W (w.heap.size+1) t:=by rw[hW];constructor<;>simp[go_sem]
 have hcW:=(j8.cell (p:=⟨B,4,none⟩) lB).trans hc;have lBW:=Zd lB j8.size;have HS:=zC (hs.bw j8);have HT:=zC (ht.bw j8);have D7:Below W.heap.size W W.drew:=(Below.refl _ _).drew;have nT:=zC (show ∀ w',Below W.heap.size W w'->w'.cell? ⟨B,4,none⟩=some (.int .i64 b) from λ w' hB=>(hB.cell (p:=⟨B,4,none⟩) lBW).trans hcW)
 have HK:=zC (show ∀ w',Below W.heap.size W w'->(w'.cell? ⟨w.heap.size,0,none⟩=some (.bool s.ln)/\w'.cell? ⟨w.heap.size,1,none⟩=some (.slice s.la s.lN s.lc)/\w'.cell? ⟨w.heap.size,2,none⟩=some (.bool s.hn)/\w'.cell? ⟨w.heap.size,3,none⟩=some (.slice s.ha s.hN s.hc)/\w'.cell? ⟨w.heap.size+1,0,none⟩=some (.bool t.ln)/\w'.cell? ⟨w.heap.size+1,1,none⟩=some (.slice t.la t.lN t.lc)/\w'.cell? ⟨w.heap.size+1,2,none⟩=some (.bool t.hn)/\w'.cell? ⟨w.heap.size+1,3,none⟩=some (.slice t.ha t.hN t.hc)) from λ w' hB=>by
  obtain⟨x0,x1,x2,x3,x4⟩:=a0.bw hB;obtain⟨y0,y1,y2,y3,y4⟩:=g0.bw hB
  exact⟨x0,x1,x2,x3,y0,y1,y2,y3⟩)
 go_enter Tryz.func152,Tryz.ntmps152
 go_wp2;obtain⟨x0,x1,x2,x3,x4⟩:=a0;obtain⟨y0,y1,y2,y3,y4⟩:=g0;rw[<- hW];clear hW
 go_region_held3 (λ w'=>w'.cell? ⟨w.heap.size,0,none⟩=some (.bool s.ln)/\w'.cell? ⟨w.heap.size,1,none⟩=some (.slice s.la s.lN s.lc)/\w'.cell? ⟨w.heap.size,2,none⟩=some (.bool s.hn)/\w'.cell? ⟨w.heap.size,3,none⟩=some (.slice s.ha s.hN s.hc)/\w'.cell? ⟨w.heap.size+1,0,none⟩=some (.bool t.ln)/\w'.cell? ⟨w.heap.size+1,1,none⟩=some (.slice t.la t.lN t.lc)/\w'.cell? ⟨w.heap.size+1,2,none⟩=some (.bool t.hn)/\w'.cell? ⟨w.heap.size+1,3,none⟩=some (.slice t.ha t.hN t.hc)) (exact zA HK _ (by with_reducible first|exact D7|exact zL I1 _|exact I1|exact D3|exact o9|exact A6))
  (first
   | (go_at_call 191;have hq:=D3;refine (zFH _ _ _ _ _ _ _ _ k k b B hi hi' _ ((zA HS).hi.bw D3) ((zA HT).hi.bw D3) hk hb L9 (zA nT _ D3)).mono ?_;rintro r w4 ⟨E6,a4,n4,c4,rfl,I2,y9⟩;replace o8:=o8.bw y9;replace A5:=A5.bw y9;replace G0:=G0.bw y9;have I1:=zB D3 y9)
   | (go_at_call 191;have hq:=o9;refine (zFH _ _ _ _ _ _ _ _ k k b B hi lo' _ ((zA HS).hi.bw o9) ((zA HT).lo.bw o9) hk hb hp (zA nT _ o9)).mono ?_;rintro r w3 ⟨B8,a3,n3,c3,rfl,G0,o7⟩;replace o8:=o8.bw o7;replace A5:=A5.bw o7;have D3:=zB o9 o7)
   | (go_at_call 191;have hq:=A6;refine (zFH _ _ _ _ _ _ _ _ k k b B lo hi' _ ((zA HS).lo.bw A6) ((zA HT).hi.bw A6) hk hb L9 (zA nT _ A6)).mono ?_;rintro r w2 ⟨j6,a2,n2,c2,rfl,A5,j7⟩;replace o8:=o8.bw j7;have o9:=zB A6 j7)
   | (go_at_call 191;have hq:=D7;refine (zFH _ _ _ _ _ _ _ _ k k b B lo lo' _ ((zA HS).lo.bw D7) ((zA HT).lo.bw D7) hk hb hp (zA nT _ D7)).mono ?_;rintro r w1 ⟨m9,a1,n1,c1,rfl,o8,b9⟩;have A6:=zB D7 b9))
 go_wp2
 go_ret
 exact⟨w4.heap.size,pr4 ⟨m9,a1,n1,c1⟩ ⟨j6,a2,n2,c2⟩ ⟨B8,a3,n3,c3⟩ ⟨E6,a4,n4,c4⟩,rfl,zPB w4 _ rfl ⟨m9,a1,n1,c1⟩ ⟨j6,a2,n2,c2⟩ ⟨B8,a3,n3,c3⟩ ⟨E6,a4,n4,c4⟩ _ _ _ _ _ _ o8 A5 G0 I2,zB j8 (zL I1 _)⟩
theorem zMI (w:World) (s t:Sp) (k b:Nat) (lo hi lo' hi':Int) (hs:SpAt w s k lo hi) (ht:SpAt w t k lo' hi') (hk:k<=300000000) (hb:b<=1000000) (hbits:s.bits=b) (hp:0<lo') (L9:0<hi') :
  Calls Tryz.prog 162 #[.agg s.q,.agg t.q] w (zG w b (b/16+k+10) (kM (pr4 (lo*Q b/lo') (lo*Q b/hi') (hi*Q b/lo') (hi*Q b/hi')) 3) (jZ (pr4 (-(-(lo*Q b)/lo')) (-(-(lo*Q b)/hi')) (-(-(hi*Q b)/lo')) (-(-(hi*Q b)/hi'))) 3)):=by
 have gJ:=zC hbits;have t1:¬ zN hi' 0<0:=by unfold zN;rw[if_neg (by omega)];split<;>omega
 clear hbits;obtain⟨W,hW⟩:∃ W,W=((w.alloc (.cells s.q 31)).alloc (.cells t.q 31)).alloc (.cells zCq 31):=⟨_,rfl⟩;have j8:Below w.heap.size w W:=by rw[hW];exact bl3 _ _ _ _
 have A:SpC W w.heap.size s:=by rw[hW];constructor<;>simp[go_sem]
 have G:SpC W (w.heap.size+1) t:=by rw[hW];constructor<;>simp[go_sem]
 have R:NoC W (w.heap.size+1+1):=by rw[hW];constructor<;>simp[go_sem]
 replace hs:=hs.bw j8;replace ht:=ht.bw j8
 go_enter Tryz.func162,Tryz.ntmps162
 go_wp2_with fail;rw[<- hW];clear hW;refine (zAY _ _ _ _ k hi' _ ht.hi).mono ?_;rintro r w0 ⟨rfl,E8⟩;replace j8:=zB j8 E8;replace A:=A.bw E8;replace G:=G.bw E8;replace R:=R.bw E8;replace hs:=hs.bw E8;replace ht:=ht.bw E8;clear E8;have lA:=A.lt;have lG:=G.lt;obtain⟨x0,x1,x2,x3,x4⟩:=A;obtain⟨y0,y1,y2,y3,y4⟩:=G;have A:SpC w0 w.heap.size s:=⟨x0,x1,x2,x3,x4⟩;have G:SpC w0 (w.heap.size+1) t:=⟨y0,y1,y2,y3,y4⟩;go_wp2_with fail;clear lA lG x0 x1 x2 x3 x4 y0 y1 y2 y3 y4;refine (zJP _ s t k b w.heap.size lo hi lo' hi' hs ht hk hb hp L9 (by rw[<- zA gJ];exact A.c4)).mono ?_
 rintro r w1 ⟨B1,f1,rfl,cF,b9⟩;replace j8:=zB j8 b9;replace A:=A.bw b9;replace G:=G.bw b9;replace R:=R.bw b9;replace hs:=hs.bw b9;replace ht:=ht.bw b9;clear b9;go_wp2_with fail;refine (zEZ _ 3 _ (b/16+k+9) f1 _ _ cF (by omega) (by omega)).mono ?_
 rintro r w2 ⟨j6,a2,n2,c2,rfl,A5,j7⟩;replace j8:=zB j8 j7;replace A:=A.bw j7;replace G:=G.bw j7;replace R:=R.bw j7;replace hs:=hs.bw j7;replace ht:=ht.bw j7;clear j7 cF;obtain⟨W2,nv⟩:∃ W',W'=w2.alloc (.cells #[.bool j6,.slice a2 n2 c2] 29):=⟨_,rfl⟩;have G3:Below w2.heap.size w2 W2:=by rw[nv];exact bl1 _ _
 have X2:NmC W2 w2.heap.size ⟨j6,a2,n2,c2⟩:=by rw[nv];exact zC6 w2 ⟨j6,a2,n2,c2⟩ _
 have lA:=A.lt;have lG:=G.lt;obtain⟨x0,x1,x2,x3,x4⟩:=A;obtain⟨y0,y1,y2,y3,y4⟩:=G;have A:SpC w2 w.heap.size s:=⟨x0,x1,x2,x3,x4⟩;have G:SpC w2 (w.heap.size+1) t:=⟨y0,y1,y2,y3,y4⟩;go_wp2_with fail;rw[<- nv];clear nv;clear lA lG x0 x1 x2 x3 x4 y0 y1 y2 y3 y4;have rj:w2.heap.size≠w.heap.size+1+1:=Zf R.lt;replace j8:=zB j8 G3;replace A:=A.bw G3;replace G:=G.bw G3;replace R:=R.bw G3;replace hs:=hs.bw G3;replace ht:=ht.bw G3;replace A5:=A5.bw G3;clear G3;refine (zJQ _ s t k b w.heap.size lo hi lo' hi' hs ht hk hb hp L9 (by rw[<- zA gJ];exact A.c4)).mono ?_
 rintro r w3 ⟨B3,f3,rfl,Iw,o7⟩;replace j8:=zB j8 o7;replace A:=A.bw o7;replace R:=R.bw o7;replace A5:=A5.bw o7;replace X2:=X2.bw o7;clear o7;go_wp2_with fail;refine (zIV _ 3 _ (b/16+k+9) f3 _ _ Iw (by omega) (by omega)).mono ?_
 rintro r w4 ⟨E6,a4,n4,c4,rfl,I2,y9⟩;replace j8:=zB j8 y9;replace A:=A.bw y9;replace R:=R.bw y9;replace A5:=A5.bw y9;replace X2:=X2.bw y9;clear y9 Iw;have lA:=A.lt;have lX:=X2.lt;have lR:=R.lt;have Ds:w.heap.size+1+1≠w2.heap.size:=λ e9=>rj e9.symm
 have RB:w4.heap.size≠w.heap.size+1+1:=Zf lR;have nR4':w.heap.size+1+1≠w4.heap.size:=Zg lR;have nX4:w2.heap.size≠w4.heap.size:=Zg lX;obtain⟨x0,x1,x2,x3,x4⟩:=A;obtain⟨z0,z1⟩:=X2;obtain⟨q0,q1,q2,q3,q4,q5⟩:=R;go_wp2_with fail;refine bodyPost_ret (v:=.agg #[.bool j6,.slice a2 n2 c2,.bool E6,.slice a4 n4 c4,.int .i64 s.bits]) (by simp[results,Tryz.results162,go_sem,lR,q0,q1,q2,q3,q4]) rfl ⟨⟨j6,a2,n2,c2,E6,a4,n4,c4,s.bits⟩,rfl,zA gJ,?_,?_⟩
 ·first|with_reducible exact SpAt.put5 ⟨(A5.bw (bl1 _ _)).mono (by omega),(I2.bw (bl1 _ _)).mono (by omega)⟩ (by simp[go_sem,lR,q0]) (by simp[go_sem,lR,q1]) (by simp[go_sem,lR,q2]) (by simp[go_sem,lR,q3]) (by simp[go_sem,lR,q4]) _ _ _ _ _|with_reducible exact SpAt.bw (SpAt.put5 ⟨A5.mono (by omega),I2.mono (by omega)⟩ q0 q1 q2 q3 q4 _ _ _ _ _) (bl1 _ _)
 ·first|with_reducible exact jS (zL j8 _) (by omega) _ _ _ _ _|with_reducible exact zL (jS j8 (by omega) _ _ _ _ _) _
theorem SpC.put5n {w:World} {B B':Nat} {s:Sp} (h:SpC w B s) (hne:B≠B') (u0 u1 u2 u3 u4:Value) :
  SpC (((((w.setCell ⟨B',0,none⟩ u0).setCell ⟨B',1,none⟩ u1).setCell ⟨B',2,none⟩ u2).setCell ⟨B',3,none⟩ u3).setCell ⟨B',4,none⟩ u4) B s :=
 ⟨jH h.c0 hne _ _ _ _ _,jH h.c1 hne _ _ _ _ _,jH h.c2 hne _ _ _ _ _,jH h.c3 hne _ _ _ _ _,jH h.c4 hne _ _ _ _ _⟩
theorem NoC.put5n {w:World} {B B':Nat} (h:NoC w B) (hne:B≠B') (u0 u1 u2 u3 u4:Value) :
  NoC (((((w.setCell ⟨B',0,none⟩ u0).setCell ⟨B',1,none⟩ u1).setCell ⟨B',2,none⟩ u2).setCell ⟨B',3,none⟩ u3).setCell ⟨B',4,none⟩ u4) B:=by
 obtain⟨q0,q1,q2,q3,q4,q5⟩:=h;exact⟨jH q0 hne _ _ _ _ _,jH q1 hne _ _ _ _ _,jH q2 hne _ _ _ _ _,jH q3 hne _ _ _ _ _,jH q4 hne _ _ _ _ _,λ o=>by rw[zT,zT,zT,zT,zT];exact q5 o⟩
theorem sp_put {w:World} {B:Nat} {t:Sp} (h:SpC w B t) (s:Sp):SpC (((((w.setCell ⟨B,0,none⟩ (.bool s.ln)).setCell ⟨B,1,none⟩ (.slice s.la s.lN s.lc)).setCell ⟨B,2,none⟩ (.bool s.hn)).setCell ⟨B,3,none⟩ (.slice s.ha s.hN s.hc)).setCell ⟨B,4,none⟩ (.int .i64 s.bits)) B s:=by
 obtain⟨q0,q1,q2,q3,q4⟩:=h;constructor<;>simp[go_sem,q0,q1,q2,q3,q4]
theorem two_sp {w:World} {B B':Nat} {s t:Sp} (hA:SpC w B s) (hG:SpC w B' t) (hne:B≠B') (u v:Sp) :
  let w1:=((((w.setCell ⟨B,0,none⟩ (.bool u.ln)).setCell ⟨B,1,none⟩ (.slice u.la u.lN u.lc)).setCell ⟨B,2,none⟩ (.bool u.hn)).setCell ⟨B,3,none⟩ (.slice u.ha u.hN u.hc)).setCell ⟨B,4,none⟩ (.int .i64 u.bits)
  let w2:=((((w1.setCell ⟨B',0,none⟩ (.bool v.ln)).setCell ⟨B',1,none⟩ (.slice v.la v.lN v.lc)).setCell ⟨B',2,none⟩ (.bool v.hn)).setCell ⟨B',3,none⟩ (.slice v.ha v.hN v.hc)).setCell ⟨B',4,none⟩ (.int .i64 v.bits)
  SpC w2 B u/\SpC w2 B' v/\(∀ {x:Sp} {k:Nat} {lo hi:Int},SpAt w x k lo hi->SpAt w2 x k lo hi)/\(∀ {C:Nat},NoC w C->C≠B->C≠B'->NoC w2 C):=by
 intro w1 w2
 have h1:SpC w1 B u:=sp_put hA u;have h2:SpC w1 B' t:=hG.put5n (λ e=>hne e.symm) _ _ _ _ _
 exact⟨h1.put5n hne _ _ _ _ _,sp_put h2 v,λ h=>SpAt.put5 (SpAt.put5 h hA.c0 hA.c1 hA.c2 hA.c3 hA.c4 _ _ _ _ _) h2.c0 h2.c1 h2.c2 h2.c3 h2.c4 _ _ _ _ _,λ h n1 n2=>(h.put5n n1 _ _ _ _ _).put5n n2 _ _ _ _ _⟩
theorem zDF (w:World) (s t:Sp) (k b:Nat) (lo hi lo' hi':Int) (hs:SpAt w s k lo hi) (ht:SpAt w t k lo' hi') (hk:k<=300000000) (hb:b<=1000000) (hbits:s.bits=b) (hl:lo<=hi) (hp:0<lo') (L9:lo'<=hi') :
  Calls Tryz.prog 162 #[.agg s.q,.agg t.q] w (zG w b (b/16+k+10) (zDN lo hi lo' hi' b) (zEX lo hi lo' hi' b)):=by
 have hq:=zE b;unfold zDN zEX;have h:¬ hi'<0:=by omega
 rw[if_neg h,if_neg h];have:=zMI w s t k b lo hi lo' hi' hs ht hk hb hbits (by omega) (by omega)
 rw[zPC (YW hl (by omega)) (by omega) (by omega),zS3 (YW hl (by omega)) (by omega) (by omega)] at this
 exact this
open Go
section
variable {Pg : Program} {ops : Array Oper} {Q : Exit -> Act -> World -> Prop} {md : Region.Mode} {S : World -> Prop} {l : Nat}
def AnyL (Pg:Program) (md:Region.Mode) (ops:Array Oper) (Q:Exit->Act->World->Prop) (S:World->Prop) (l:Nat):Nat->Array Bool->Act->World->Prop
 | 0,listed,a,w=>Region.ready md ops listed=[]/\Q .normal a w
 | fuel+1,listed,a,w =>
  (Region.ready md ops listed=[]->Q .normal a w) /\
  ∀ i ∈ Region.ready md ops listed,wpOp Pg ops Q i (λ a' w'=>(i≠l->S w')/\AnyL Pg md ops Q S l fuel (listed.setIfInBounds i true) a' w') a w
theorem AnyL.any:∀ (fuel:Nat) (listed:Array Bool) (a:Act) (w:World),AnyL Pg md ops Q S l fuel listed a w->wpAny Pg md ops Q fuel listed a w
 | 0,_,_,_,h=>h
 | fuel+1,_,_,_,h=>⟨h.1,λ i hi=>wpOp_mono (λ a' w' h'=>AnyL.any fuel _ a' w' h'.2) (h.2 i hi)⟩
def zMF (md:Region.Mode) (ops:Array Oper) (l i:Nat):Bool :=
 match ops[l]? with
 | some o=>o.after.any (λ e=>Region.binds md e && e.on == i)
 | none=>false
theorem zK4 {i:Nat} {listed:Array Bool} (hw:zMF md ops l i=true) (hi:i ∈ Region.ready md ops listed) (hl:l ∈ Region.ready md ops listed):False:=by
 obtain⟨_,ol,YF,mj⟩:=mem_ready.1 hl;obtain⟨h0,oi,JC,_⟩:=mem_ready.1 hi;unfold zMF at hw;rw[YF] at hw;simp only[Array.any_eq_true'] at hw;obtain⟨e,he,h2⟩:=hw;simp only[Bool.and_eq_true,beq_iff_eq] at h2;have h1:=mj e he h2.1;rw[h2.2] at h1
 rcases Nat.lt_or_ge i listed.size with h'|h'
 ·simp[h'] at h0 h1;rw[h0] at h1;cases h1
 ·simp[Array.getElem?_eq_none h'] at h1
theorem AnyL.first {i:Nat} {oi:Oper} {v:Value} (hi:ops[i]?=some oi) (mE:∀ (j:Nat) (o:Oper) cs b,ops[j]?=some o->o.op≠.select cs b)
  (hQ:∀ c a w,Q (.panic c) (a.put oi.dst v) w->Q (.panic c) a w) (JV:zMF md ops l i=true) :
  ∀ (fuel:Nat) (listed:Array Bool) (a:Act) (w:World),
   (∀ j oj,ops[j]?=some oj->j≠i->listed.getD j true=false->(∀ e ∈ oj.after,Region.binds md e=true->e.on≠i)->oi.apart ops oj=true) ->
   i ∈ Region.ready md ops listed->YieldsIf Pg ops S oi v a->S w ->
   AnyL Pg md ops Q S l fuel (listed.setIfInBounds i true) (a.put oi.dst v) w->AnyL Pg md ops Q S l (fuel+1) listed a w:=by
 intro fuel
 induction fuel with
 | zero =>
  intro listed a w _ hr hy hS H
  refine⟨λ h=>(by rw[h] at hr;cases hr),λ j hj=>?_⟩
  by_cases cB:j=i
  ·subst cB;exact hy.wpOp hi hS ⟨λ _=>hS,H⟩
  ·have:=ready_mono hj cB
   rw[H.1] at this
   cases this
 | succ fuel ih =>
  intro listed a w hfree hr hy hS H
  refine⟨λ h=>(by rw[h] at hr;cases hr),λ j hj=>?_⟩
  by_cases cB:j=i
  ·subst cB;exact hy.wpOp hi hS ⟨λ _=>hS,H⟩
  ·have Qf:j≠l:=λ h=>zK4 JV hr (h ▸ hj)
   have h1:=H.2 j (ready_mono hj cB);obtain⟨ia,oj,wa,mj⟩:=mem_ready.1 hj
   have vZ:∀ e ∈ oj.after,Region.binds md e=true->e.on≠i:=λ e he hb heq=>by
    have h1:=mj e he hb;have h0:=(mem_ready.1 hr).1;rw[heq] at h1
    rcases Nat.lt_or_ge i listed.size with h'|h'
    ·simp[h'] at h0 h1;rw[h0] at h1;cases h1
    ·simp[Array.getElem?_eq_none h'] at h1
   have h2:=wpOp_putIf wa (hfree j oj wa cB ia vZ) (λ cs b=>mE i oi cs b hi) (λ cs b=>mE j oj cs b wa) hQ hy h1
   have fp:∀ k ok,ops[k]?=some ok->k≠i->(listed.setIfInBounds j true).getD k true=false ->
     (∀ e ∈ ok.after,Region.binds md e=true->e.on≠i)->oi.apart ops ok=true:=λ k ok hk Jo CJ JA=>by
    refine hfree k ok hk Jo ?_ JA
    by_cases oD:j=k
    ·subst oD;exact ia
    ·rw[getD_set_ne true oD] at CJ;exact CJ
   refine wpOp_mono (λ a' w' h3=>⟨λ _=>h3.2.1 Qf,ih (listed.setIfInBounds j true) a' w' fp (ready_mono hr (Ne.symm cB)) h3.1 (h3.2.1 Qf) ?_⟩) h2
   rw[Array.setIfInBounds_comm _ _ cB];exact h3.2.2
theorem AnyL.take {i:Nat} {oi:Oper} {v:Value} {fuel:Nat} {listed:Array Bool} {a:Act} {w:World} (hi:ops[i]?=some oi)
  (hs:Region.noSelect ops=true) (hf:Region.free md ops listed i=true) (hr:(Region.ready md ops listed).contains i=true) (JV:zMF md ops l i=true)
  (hQ:∀ c a w,Q (.panic c) (a.put oi.dst v) w->Q (.panic c) a w) (hy:YieldsIf Pg ops S oi v a) (hS:S w)
  (h:AnyL Pg md ops Q S l fuel (listed.setIfInBounds i true) (a.put oi.dst v) w):AnyL Pg md ops Q S l (fuel+1) listed a w :=
 AnyL.first hi (Region.noSelect_spec hs) hQ JV fuel listed a w (Region.free_spec hi hf) (by simpa using hr) hy hS h
theorem AnyL.one {i:Nat} {o:Oper} {fuel:Nat} {listed:Array Bool} {a:Act} {w:World} (hr:Region.ready md ops listed=[i]) (ho:ops[i]?=some o)
  (h:∀ K':Act->World->Prop,Shut (∀ a w,S w->(S w->AnyL Pg md ops Q S l fuel (listed.setIfInBounds i true) a w)->K' a w)->if Region.wanted o (yielded ops a.tmps)=true then Oper.wp Pg o a w K' Q else K' (a.put o.dst undef) w) :
  AnyL Pg md ops Q S l (fuel+1) listed a w :=
 ⟨λ h0=>absurd (hr ▸ h0) (by simp),λ j hj=>by
  rw[hr] at hj;have pT:j=i:=by simpa using hj
  subst pT
  exact wpOp_step ho (λ K' hK=>h K' (λ a w hS hW=>hK a w ⟨λ _=>hS,hW hS⟩))⟩
theorem AnyL.last {o:Oper} {fuel:Nat} {listed:Array Bool} {a:Act} {w:World} (hr:Region.ready md ops listed=[l]) (ho:ops[l]?=some o)
  (hd:Region.ready md ops (listed.setIfInBounds l true)=[])
  (h:∀ K':Act->World->Prop,Shut (∀ a w,Q .normal a w->K' a w)->if Region.wanted o (yielded ops a.tmps)=true then Oper.wp Pg o a w K' Q else K' (a.put o.dst undef) w) :
  AnyL Pg md ops Q S l (fuel+1) listed a w :=
 ⟨λ h0=>absurd (hr ▸ h0) (by simp),λ j hj=>by
  rw[hr] at hj;have pT:j=l:=by simpa using hj
  subst pT;refine wpOp_step ho (λ K' hK=>h K' (λ a w hW=>hK a w ⟨λ h=>absurd rfl h,?_⟩))
  cases fuel with
  | zero=>exact⟨hd,hW⟩
  | succ fuel=>exact⟨λ _=>hW,by rw[hd];simp⟩⟩
theorem AnyL.start {id:Nat} {a:Act} {w:World} (hm:Pg.follows .mixedOrders=true) (hS:S w.drew)
  (h:S w.drew->AnyL Pg .any ops Q S l ops.size (Array.replicate ops.size false) a w.drew):(Code.region id ops true).wp Pg Q a w :=
 wp_region_any hm (AnyL.any _ _ _ _ (h hS))
end
open Go.RowKit
attribute [local go_sem ↓] Go.wp_at_zero Go.wp_at_succ
theorem zEF (x q:Int):zPT x q=if x<=q then x else q:=by unfold zPT;split<;>split<;>omega
theorem wideOf_z {b:Nat} (z:Int) (hz:z=(b:Int)) (neg j6:Bool) (a c:Option Addr) (n m cap m8 k k2:Nat) (x y:Int) (w:World) (h1:IntAt w neg a n cap k x) (h2:IntAt w j6 c m m8 k2 y) (hk:k<=700000000) (hb:b<=1000000) (hy:0<y) :
  Calls Tryz.prog 88 #[.agg #[.bool neg,.slice a n cap],.agg #[.bool j6,.slice c m m8],.int .i64 z] w (zG w b (k+b/16+20) (ofI x y b).1 (ofI x y b).2):=by
 subst hz;exact jL _ _ _ _ _ _ _ _ k k2 b x y w h1 h2 hk hb hy
theorem fieldP1 (x y:Bool) (a a':Option Addr) (n c n' c':Nat) (b:Int) (w:World):(Instr.field 31 (.agg #[.bool x,.slice a n c,.bool y,.slice a' n' c',.int .i64 b]) 1).run Tryz.prog w=.ok (.agg #[.bool y,.slice a' n' c']) w:=by kernel_rfl
theorem zN9 {w:World} {B:Nat} {s:Sp} (h:VrC w B s) (x:Nm):VrC ((w.setCell ⟨B,2,none⟩ (.bool x.neg)).setCell ⟨B,3,none⟩ (.slice x.a x.n x.cap)) B ⟨s.ln,s.la,s.lN,s.lc,x.neg,x.a,x.n,x.cap,s.bits⟩:=by
 obtain⟨⟨q0,q1,q2,q3,q4⟩,q5⟩:=h;exact⟨⟨by simp[go_sem,q0],by simp[go_sem,q1],by simp[go_sem,q2],by simp[go_sem,q3],by simp[go_sem,q4]⟩,λ o=>by rw[zT,zT];exact q5 o⟩
theorem NoC.offH {w:World} {B B':Nat} (h:NoC w B) (hne:B≠B') (u0 u1:Value):NoC ((w.setCell ⟨B',2,none⟩ u0).setCell ⟨B',3,none⟩ u1) B:=by
 obtain⟨q0,q1,q2,q3,q4,q5⟩:=h;exact⟨by simp[go_sem,q0,hne,Ne.symm hne],by simp[go_sem,q1,hne,Ne.symm hne],by simp[go_sem,q2,hne,Ne.symm hne],by simp[go_sem,q3,hne,Ne.symm hne],by simp[go_sem,q4,hne,Ne.symm hne],λ o=>by rw[zT,zT];exact q5 o⟩
theorem IntAt.putH {w:World} {neg:Bool} {a:Option Addr} {n cap k:Nat} {z:Int} (h:IntAt w neg a n cap k z) {B:Nat} {x0:Bool} {y0:Option Addr} {y1 y2:Nat} (h0:w.cell? ⟨B,2,none⟩=some (.bool x0))
  (h1:w.cell? ⟨B,3,none⟩=some (.slice y0 y1 y2)) (u0 u1:Value):IntAt ((w.setCell ⟨B,2,none⟩ u0).setCell ⟨B,3,none⟩ u1) neg a n cap k z:=by
 have hne:(⟨B,2,none⟩:Addr)≠⟨B,3,none⟩:=by simp
 have h2:(w.setCell ⟨B,2,none⟩ u0).cell? ⟨B,3,none⟩=some (.slice y0 y1 y2):=(World.cell?_setCell_other _ _ _ _ hne).trans h1;exact (h.store h0 (λ _ e=>by cases e) u0).store h2 (λ _ e=>by cases e) u1
theorem zBR (w:World) (s:Sp) (k b:Nat) (lo hi:Int) (hs:SpAt w s k lo hi) (hbits:s.bits=(b:Int)) (hb:b<=100000) (bA:b/16+24<=k) (hk:k<=100000000) :
  Calls Tryz.prog 141 #[.agg s.q] w (zG w b (k+1) lo (zPT hi (Q b))):=by
 obtain⟨W,hW⟩:∃ W,W=(w.alloc (.cells s.q 31)).alloc (.cells zCq 31):=⟨_,rfl⟩;have j8:Below w.heap.size w W:=by rw[hW];exact bl2 _ _ _
 have A:VrC W w.heap.size s:=by rw[hW];exact⟨⟨by simp[go_sem],by simp[go_sem],by simp[go_sem],by simp[go_sem],by simp[go_sem]⟩,λ o=>by simp[go_sem]⟩
 have R:NoC W (w.heap.size+1):=by rw[hW];constructor<;>simp[go_sem]
 have Gc:=zC j8;have HS:=zC (hs.bw j8);have HB:=zC hbits;have HA:=zC A;have HR:=zC R;have HO:=zC (show -(-(1*Q b)/1)=Q b by rw[Int.ediv_one];omega)
 have HK:=zC (show ∀ w',Below W.heap.size W w'->(w'.cell? ⟨w.heap.size,2,none⟩=some (.bool s.hn)/\w'.cell? ⟨w.heap.size,3,none⟩=some (.slice s.ha s.hN s.hc)/\w'.cell? ⟨w.heap.size,4,none⟩=some (.int .i64 s.bits)) from λ w' hB=>⟨(A.bw hB).c.c2,(A.bw hB).c.c3,(A.bw hB).c.c4⟩)
 have D5:Below W.heap.size W W.drew:=(Below.refl _ _).drew;clear hs hbits j8 A R
 go_enter Tryz.func141,Tryz.ntmps141
 go_wp2;rw[<- hW];clear hW;refine AnyL.start (S:=λ w'=>w'.cell? ⟨w.heap.size,2,none⟩=some (.bool s.hn)/\w'.cell? ⟨w.heap.size,3,none⟩=some (.slice s.ha s.hN s.hc)/\w'.cell? ⟨w.heap.size,4,none⟩=some (.int .i64 s.bits)) (l:=9) (by kernel_rfl) (zA HK _ D5) (λ hHeld=>?_)
 refine AnyL.take (i:=0) (oi:={ dst:=some 3,op:=Go.Op.fieldAddr 31 (Go.Operand.tmp 1) 1,type:=0,pos := "part.go:53",after:=#[],guard:=none }) (v:=.pointer (some ⟨w.heap.size,2,none⟩)) rfl (by kernel_rfl) (by kernel_rfl) (by kernel_rfl) (by kernel_rfl) (λ _ _ _ h=>h) (Or.inl ⟨by rfl,λ w hSw=>?_⟩) hHeld ?_
 ·obtain⟨s0,s1,s2⟩:=hSw;go_simp
 try simp only[Act.put,YQ,YR,YS]
 refine AnyL.take (i:=1) (oi:={ dst:=some 4,op:=Go.Op.load 29 (Go.Operand.tmp 3),type:=29,pos := "part.go:53",after:=#[{ on:=0,ground:=Go.Ground.data }],guard:=none }) (v:=.agg #[.bool s.hn,.slice s.ha s.hN s.hc]) rfl (by kernel_rfl) (by kernel_rfl) (by kernel_rfl) (by kernel_rfl) (λ _ _ _ h=>h) (Or.inl ⟨by rfl,λ w hSw=>?_⟩) hHeld ?_
 ·obtain⟨s0,s1,s2⟩:=hSw;go_simp
 try simp only[Act.put,YQ,YR,YS]
 refine AnyL.take (i:=2) (oi:={ dst:=some 5,op:=Go.Op.fieldAddr 31 (Go.Operand.tmp 1) 2,type:=0,pos := "part.go:53",after:=#[],guard:=none }) (v:=.pointer (some ⟨w.heap.size,4,none⟩)) rfl (by kernel_rfl) (by kernel_rfl) (by kernel_rfl) (by kernel_rfl) (λ _ _ _ h=>h) (Or.inl ⟨by rfl,λ w hSw=>?_⟩) hHeld ?_
 ·obtain⟨s0,s1,s2⟩:=hSw;go_simp
 try simp only[Act.put,YQ,YR,YS]
 refine AnyL.take (i:=3) (oi:={ dst:=some 6,op:=Go.Op.load 3 (Go.Operand.tmp 5),type:=3,pos := "part.go:53",after:=#[{ on:=2,ground:=Go.Ground.data }],guard:=none }) (v:=.int .i64 s.bits) rfl (by kernel_rfl) (by kernel_rfl) (by kernel_rfl) (by kernel_rfl) (λ _ _ _ h=>h) (Or.inl ⟨by rfl,λ w hSw=>?_⟩) hHeld ?_
 ·obtain⟨s0,s1,s2⟩:=hSw;go_simp
 try simp only[Act.put,YQ,YR,YS]
 refine AnyL.one (i:=4) (o:={ dst:=some 7,op:=Go.Op.call { callee:=Go.Callee.value (Go.Operand.func 93),args:=#[Go.Operand.tmp 6],argTypes:=#[3] },type:=31,pos := "part.go:53",after:=#[{ on:=3,ground:=Go.Ground.data }],guard:=none }) (by kernel_rfl) rfl (λ Kc I7=>?_)
 go_simp
 rw[zA HB];refine (zC8 _ b (by omega)).mono ?_
 rintro r' w1 ⟨v1,rfl,J3,hs1,hb⟩;have s9:=zB D5 hb;clear hb J3;go_wp2_with fail;refine I7.out _ _ (zA HK _ s9) (λ hHeld=>?_)
 clear I7 Kc
 try simp only[Act.put,YQ,YR,YS]
 refine AnyL.take (i:=5) (oi:={ dst:=some 8,op:=Go.Op.field 31 (Go.Operand.tmp 7) 1,type:=29,pos := "part.go:53",after:=#[{ on:=4,ground:=Go.Ground.data }],guard:=none }) (v:=.agg #[.bool v1.hn,.slice v1.ha v1.hN v1.hc]) rfl (by kernel_rfl) (by kernel_rfl) (by kernel_rfl) (by kernel_rfl) (λ _ _ _ h=>h) (Or.inl ⟨by rfl,λ w hSw=>?_⟩) hHeld ?_
 ·obtain⟨s0,s1,s2⟩:=hSw;(have Yc:=fieldP1;go_simp)
 try simp only[Act.put,YQ,YR,YS]
 refine AnyL.one (i:=6) (o:={ dst:=some 9,op:=Go.Op.buildSlice 101 2 #[(0,Go.Operand.tmp 4),(1,Go.Operand.tmp 8)],type:=101,pos := "part.go:53",after:=#[{ on:=1,ground:=Go.Ground.data },{ on:=5,ground:=Go.Ground.data }],guard:=none }) (by kernel_rfl) rfl (λ Kc I7=>?_)
 go_simp
 refine I7.out _ _ (zA HK _ (zL s9 _)) (λ hHeld=>?_)
 clear I7 Kc
 try simp only[Act.put,YQ,YR,YS]
 refine AnyL.one (i:=7) (o:={ dst:=some 10,op:=Go.Op.call { callee:=Go.Callee.value (Go.Operand.func 153),args:=#[Go.Operand.tmp 9],argTypes:=#[101] },type:=29,pos := "part.go:53",after:=#[{ on:=6,ground:=Go.Ground.data },{ on:=4,ground:=Go.Ground.chain }],guard:=none }) (by kernel_rfl) rfl (λ Kc I7=>?_)
 go_simp
 refine (least2 w1 _ rfl ⟨s.hn,s.ha,s.hN,s.hc⟩ ⟨v1.hn,v1.ha,v1.hN,v1.hc⟩ k hi (Q b) _ _ ((zA HS).hi.bw s9) ((zA HO ▸ hs1.hi).mono bA) (by omega)).mono ?_
 rintro r' w2 ⟨j6,a2,n2,c2,rfl,A5,j7⟩;have p9:=zB s9 j7;clear j7;go_wp2_with fail;refine I7.out _ _ (zA HK _ p9) (λ hHeld=>?_)
 clear I7 Kc
 try simp only[Act.put,YQ,YR,YS]
 refine AnyL.take (i:=8) (oi:={ dst:=some 11,op:=Go.Op.fieldAddr 31 (Go.Operand.tmp 1) 1,type:=0,pos := "part.go:53",after:=#[{ on:=0,ground:=Go.Ground.phase },{ on:=1,ground:=Go.Ground.phase },{ on:=2,ground:=Go.Ground.phase },{ on:=3,ground:=Go.Ground.phase },{ on:=4,ground:=Go.Ground.phase },{ on:=5,ground:=Go.Ground.phase },{ on:=6,ground:=Go.Ground.phase },{ on:=7,ground:=Go.Ground.phase }],guard:=none }) (v:=.pointer (some ⟨w.heap.size,2,none⟩)) rfl (by kernel_rfl) (by kernel_rfl) (by kernel_rfl) (by kernel_rfl) (λ _ _ _ h=>h) (Or.inl ⟨by rfl,λ w hSw=>?_⟩) hHeld ?_
 ·obtain⟨s0,s1,s2⟩:=hSw;go_simp
 try simp only[Act.put,YQ,YR,YS]
 have V2:=(zA HA).bw p9;have lA:=V2.lt;obtain⟨⟨y0,y1,y2,y3,y4⟩,y5⟩:=V2;refine AnyL.last (o:={ dst:=none,op:=Go.Op.store 29 (Go.Operand.tmp 11) (Go.Operand.tmp 10),type:=0,pos := "part.go:53",after:=#[{ on:=8,ground:=Go.Ground.data },{ on:=7,ground:=Go.Ground.data },{ on:=7,ground:=Go.Ground.chain },{ on:=0,ground:=Go.Ground.phase },{ on:=1,ground:=Go.Ground.phase },{ on:=2,ground:=Go.Ground.phase },{ on:=3,ground:=Go.Ground.phase },{ on:=4,ground:=Go.Ground.phase },{ on:=5,ground:=Go.Ground.phase },{ on:=6,ground:=Go.Ground.phase },{ on:=7,ground:=Go.Ground.phase }],guard:=none }) (by kernel_rfl) rfl (by kernel_rfl) (λ Kc I7=>?_)
 go_simp
 refine I7.out _ _ ?_;clear I7 Kc;have R2:=(zA HR).bw p9;obtain⟨V,hV⟩:∃ V,V=((w2.setCell ⟨w.heap.size,2,none⟩ (.bool j6)).setCell ⟨w.heap.size,3,none⟩ (.slice a2 n2 c2)):=⟨_,rfl⟩;have R3:NoC V (w.heap.size+1):=by rw[hV];exact R2.offH (by omega) _ _
 have A3:VrC V w.heap.size ⟨s.ln,s.la,s.lN,s.lc,j6,a2,n2,c2,s.bits⟩:=by rw[hV];exact zN9 ((zA HA).bw p9) ⟨j6,a2,n2,c2⟩
 have i1:IntAt V s.ln s.la s.lN s.lc k lo:=by rw[hV];exact ((zA HS).lo.bw p9).putH y2 y3 _ _
 have i2:IntAt V j6 a2 n2 c2 (k+1) (zPT hi (Q b)):=by rw[hV];exact A5.putH y2 y3 _ _
 have D3:Below w.heap.size w V:=by rw[hV];exact ((zB (zA Gc) p9).setCell (p:=⟨w.heap.size,2,none⟩) (Zb _) _).setCell (p:=⟨w.heap.size,3,none⟩) (Zb _) _
 rw[<- hV];clear hV y0 y1 y2 y3 y4 y5 lA;have lA:=A3.lt;have lR:=R3.lt;obtain⟨⟨y0,y1,y2,y3,y4⟩,y5⟩:=A3;obtain⟨q0,q1,q2,q3,q4,q5⟩:=R3;go_wp2_with fail;refine bodyPost_ret (v:=.agg #[.bool s.ln,.slice s.la s.lN s.lc,.bool j6,.slice a2 n2 c2,.int .i64 s.bits]) (by simp[results,Tryz.results141,go_sem,q0,q1,q2,q3,q4]) rfl ⟨⟨s.ln,s.la,s.lN,s.lc,j6,a2,n2,c2,s.bits⟩,rfl,zA HB,?_,?_⟩
 ·exact SpAt.put5 (show SpAt V ⟨s.ln,s.la,s.lN,s.lc,j6,a2,n2,c2,s.bits⟩ (k+1) lo (zPT hi (Q b)) from⟨i1.mono (by omega),i2⟩) q0 q1 q2 q3 q4 _ _ _ _ _
 ·exact jS D3 (Nat.le_succ _) _ _ _ _ _
theorem zHH (w:World) (s:Sp) (p q:Int) (k b t N:Nat) (l:Int) (a:Int × Int) (hs:SpAt w s k a.1 a.2) (hbits:s.bits=(b:Int)) (Fb:a.1<=a.2) (hr:rok p q) (K4:40<=b) (hb:b<=3000) (hp:0<=p)
  (hl:yR (zW (ofI p q b)) l) (ht:(t:Int)=max 0 (l-b+8)) (dO:t<=17) (gC:Abs (zF (ofI p q b) t) (Q (b-8))) (hN:zU (zV b (zF (ofI p q b) t)) N) (hK:Q (b+eb t)<P k) (cH:k<=1000000) (Jm:4+b/16+20<=k) :
  Calls Tryz.prog 142 #[.agg s.q,.agg #[.int .i64 p,.int .i64 q]] w (zG w b (b/16+k+10) (zDN a.1 a.2 (sqI b (zM (zV b (zF (ofI p q b) t)) N) t).1 (sqI b (zM (zV b (zF (ofI p q b) t)) N) t).2 b) (zEX a.1 a.2 (sqI b (zM (zV b (zF (ofI p q b) t)) N) t).1 (sqI b (zM (zV b (zF (ofI p q b) t)) N) t).2 b)):=by
 obtain⟨W,hW⟩:∃ W,W=((w.alloc (.cells s.q 31)).alloc (.cells #[.int .i64 p,.int .i64 q] 23)).alloc (.cells zCq 31):=⟨_,rfl⟩;have j8:Below w.heap.size w W:=by rw[hW];exact bl3 _ _ _ _
 have A:SpC W w.heap.size s:=by rw[hW];constructor<;>simp[go_sem]
 have C:RaC W (w.heap.size+1) p q:=by rw[hW];constructor<;>simp[go_sem]
 have R:NoC W (w.heap.size+1+1):=by rw[hW];constructor<;>simp[go_sem]
 obtain⟨r1,r2,r3,r4⟩:=hr;have hq:0<q:=by omega
 have hle:=kO (n:=p) hq b;have CD:0<=(ofI p q b).1:=Int.ediv_nonneg (Zc hp (by have:=zE b;omega)) (by omega)
 have iM:=zLS CD hle dO K4 hN;have yw:=(zBL (ws:=1) (by omega) gC hle (by have:=zE t;have:=kU (n:=p) hq b;omega) hN).1
 obtain⟨E,hE⟩:∃ E:Int × Int,E=sqI b (zM (zV b (zF (ofI p q b) t)) N) t:=⟨_,rfl⟩;rw[<- hE] at iM yw ⊢;have SS:=zC hE;have ni:0<E.1:=by have:=zE b;omega
 have NY:=zC (And.intro ni yw);clear iM yw hE ni;have xJ:=zC (And.intro hl (And.intro ht (And.intro gC hN)));have Tf:=zC hle;have HS:=zC (hs.bw j8);have HB:=zC hbits;have Tc:=zC hK;have SI:=zC Fb;have HK:=zC (show ∀ w',Below W.heap.size W w'->(cK w' w.heap.size s (rK0 w' (w.heap.size+1) p q)) from λ w' hB=>⟨(A.bw hB).c0,(A.bw hB).c1,(A.bw hB).c2,(A.bw hB).c3,(A.bw hB).c4,(C.bw hB).c0,(C.bw hB).c1⟩)
 have D5:Below W.heap.size W W.drew:=(Below.refl _ _).drew;have lA:=A.lt;have lC:=C.lt;have lR:=R.lt;have m1:w.heap.size≠w.heap.size+1+1:=by omega
 have m2:w.heap.size+1+1≠w.heap.size:=by omega
 have m3:w.heap.size+1≠w.heap.size+1+1:=by omega
 have m4:w.heap.size+1+1≠w.heap.size+1:=by omega
 clear hs hbits A C hl ht gC hN hle CD hK Fb
 go_enter Tryz.func142,Tryz.ntmps142
 go_wp2;rw[<- hW];clear hW;obtain⟨x0,x1,x2,x3,x4,x5,x6⟩:=zA HK _ (Below.refl _ _)
 go_region_held3 (λ w'=>cK w' w.heap.size s (rK0 w' (w.heap.size+1) p q)) (first|exact zA HK _ (by with_reducible first|exact D5|exact gV|exact I5|exact F9|exact p9|exact s9)|(dsimp only[cK,cK0,nK,nK0,rK,rK0];go_keep)|go_keep)
  (first
   | (go_at_call 162;have O4:=I5;refine (zDF _ s v4 k b a.1 a.2 E.1 E.2 ((zA HS).bw I5) qh (by omega) (by omega) (zA HB) (zA SI) (zA NY).1 (zA NY).2).mono ?_;rintro r' w5 ⟨v5,rfl,mF,Qr,D8⟩;have Ty:=zC mF;clear mF;have gV:=zB I5 D8;obtain⟨q0,q1,q2,q3,q4,q5⟩:=R.bw gV;obtain⟨y0,y1,y2,y3,y4,y5,y6⟩:=zA HK _ gV)
   | (go_at_call 77;have O4:=F9;refine (zBG _ v3 k b t N (ofI p q b) l (bD.mono Jm) (zA iH) (zA Tf) (by omega) (by omega) (zA xJ).1 (zA xJ).2.1 (by omega) (zA xJ).2.2.1 (zA xJ).2.2.2 (zA Tc) (by omega)).mono ?_;rintro r' w4 ⟨v4,rfl,ba,qh,y9⟩;rw[<- zA SS] at qh;have Ew:=zC ba;clear ba;have I5:=zB F9 y9)
   | (go_at_call 88;have O4:=p9;refine (wideOf_z s.bits (zA HB) _ _ _ _ _ _ _ _ 4 4 p q _ o8 A5 (by omega) (by omega) hq).mono ?_;rintro r' w3 ⟨v3,rfl,I0,bD,o7⟩;have iH:=zC I0;clear I0;have F9:=zB p9 o7)
   | (go_at_call 33;have O4:=s9;refine (zD q _ (by omega) (by omega)).mono ?_;rintro r' w2 ⟨j6,a2,n2,c2,rfl,A5,j7⟩;have p9:=zB s9 j7;replace o8:=o8.bw j7)
   | (go_at_call 33;refine (zD p _ (by omega) (by omega)).mono ?_;rintro r' w1 ⟨m9,a1,n1,c1,rfl,o8,b9⟩;have s9:=zB D5 b9))
 all_goals
  go_wp2_with fail;refine bodyPost_ret (v:=.agg v5.q) (by simp[results,Tryz.results142,go_sem,q0,q1,q2,q3,q4]) rfl ⟨v5,rfl,zA Ty,?_,?_⟩
  ·exact SpAt.put5 Qr q0 q1 q2 q3 q4 _ _ _ _ _
  ·exact jS (zB j8 gV) (by omega) _ _ _ _ _
structure VnC (w:World) (B:Nat) (x:Nm):Prop where
 c:NmC w B x
 fz:∀ o,w.frozen? ⟨B,o,none⟩=false
theorem VnC.lt {w:World} {B:Nat} {x:Nm} (h:VnC w B x):B<w.heap.size:=h.c.lt
theorem VnC.bw {w w':World} {B:Nat} {x:Nm} (h:VnC w B x) (hb:Below w.heap.size w w'):VnC w' B x :=
 ⟨h.c.bw hb,λ o=>(hb.frozen (p:=⟨B,o,none⟩) h.lt).trans (h.fz o)⟩
abbrev zCB (w:World) (B:Nat) (x:Nm):World:=(w.setCell ⟨B,0,none⟩ (.bool x.neg)).setCell ⟨B,1,none⟩ (.slice x.a x.n x.cap)
theorem VnC.put {w:World} {B:Nat} {x:Nm} (h:VnC w B x) (y:Nm):VnC (zCB w B y) B y:=⟨zDA h.c y,zAE h.fz _ _⟩
theorem VnC.off {w:World} {B B':Nat} {x:Nm} (h:VnC w B x) (hne:B≠B') (y:Nm):VnC (zCB w B' y) B x:=⟨h.c.off hne _ _,zAE h.fz _ _⟩
theorem IntAt.putv {w:World} {neg:Bool} {a:Option Addr} {n cap k:Nat} {z:Int} (h:IntAt w neg a n cap k z) {B:Nat} {x:Nm} (hx:VnC w B x) (y:Nm):IntAt (zCB w B y) neg a n cap k z:=h.put2 hx.c.c0 hx.c.c1 _ _
theorem NoC.offv {w:World} {B B':Nat} (h:NoC w B) (hne:B≠B') (y:Nm):NoC (zCB w B' y) B:=by
 obtain⟨q0,q1,q2,q3,q4,q5⟩:=h;exact⟨by simp[go_sem,q0,hne,Ne.symm hne],by simp[go_sem,q1,hne,Ne.symm hne],by simp[go_sem,q2,hne,Ne.symm hne],by simp[go_sem,q3,hne,Ne.symm hne],by simp[go_sem,q4,hne,Ne.symm hne],zAE q5 _ _⟩
theorem zUE (w:World) (x:Nm) (T:TypeId):VnC (w.alloc (.cells x.q T)) w.heap.size x:=⟨⟨by simp,by simp⟩,λ o=>by simp[go_sem]⟩
def zHQ (x:Nat->Rat) (B:Nat) (lo hi:Int):Prop :=
 Iv B (lo,hi) x/\lo<=hi/\hi-lo<=Q 1702/\0<=lo/\hi<=Q B
theorem mas_ends (bits:Nat) (x:Nat->Rat) (h:bits<=120):zBU bits 1702 (zHQ x):=λ m lo hi ⟨h1,h2,h3,h4,h5⟩=>by
 have:=zH (show bits+m<=3200+m by omega)
 have:=zE (3200+m);rw[P200];exact⟨h2,h3,by omega,by omega⟩
theorem of_pr {N D:Int} (b:Nat) (hN:0<=N) (hD:0<D) (h:N<=D):zHQ (λ _=>(N:Rat)/(D:Rat)) b (ofI N D b).1 (ofI N D b).2:=by
 have q:=zE b;have hw:=kU (n:=N) hD b;have h1:=YW h (show 0<=Q b by omega)
 have q2:=zE 1702;refine⟨Iv.of b hD,kO hD b,by omega,Int.ediv_nonneg (Zc hN (by omega)) (by omega),?_⟩
 have h2 : -(Q b) <= -(N*Q b)/D:=Int.le_ediv_of_mul_le hD (by rw[Int.neg_mul,Int.mul_comm (Q b)];omega)
 show -(-(N*Q b)/D)<=Q b
 omega
open Ex in
theorem rare_pr {p q:Int} {b n t N:Nat} (hp:0<=p) (hq:0<q) (hb:40<=b) (j7:b<=2000) (ht:t<=17) (gC:Abs (zF (ofI p q b) t) (Q (b-8))) (hN:zU (zV b (zF (ofI p q b) t)) N) :
  let s:=ofI (p ^ n) (q ^ n*zBA n) b
  let e:=sqI b (zM (zV b (zF (ofI p q b) t)) N) t
  zHQ (zGY p q n) b (zDN s.1 s.2 e.1 e.2 b) (zPT (zEX s.1 s.2 e.1 e.2 b) (Q b)):=by
 have qb:=zE b;have hD:0<q ^ n*zBA n:=Int.mul_pos (Int.pow_pos hq) (zCM n);have hP:0<=p ^ n:=Int.pow_nonneg hp;have hle:=kO (n:=p) hq b;have nM:=kU (n:=p) hq b;have CD:0<=(ofI p q b).1:=Int.ediv_nonneg (Zc hp (by omega)) (by omega)
 obtain⟨g1,g2,g3,g4⟩:=zBL (ws:=1) (by omega) gC hle (by have:=zE t;omega) hN
 have glow:=zLS CD hle ht hb hN;have Qb:=zDZ (N:=N) (by omega) (Iv.of b hq) gC
 have qW:=zH (zMH ht);rw[wb_17] at qW;have Z9:=kO (n:=p ^ n) hD b;have L5:=kU (n:=p ^ n) hD b;have qg:0<=(ofI (p ^ n) (q ^ n*zBA n) b).1:=Int.ediv_nonneg (Zc hP (by omega)) (by omega)
 have Qv:=Iv.of b (n:=p ^ n) hD
 have JJ:(ofI (p ^ n) (q ^ n*zBA n) b).1<=(sqI b (zM (zV b (zF (ofI p q b) t)) N) t).2:=Qv.touch_le Qb null_zero (n+1) (λ M hM=>by
  have h1:=(zPW (zAR hp hq) n M (by omega)).1
  rw[zMC hq] at h1
  show _<=E ((p:Rat)/(q:Rat)) M+0
  grind)
 intro s e
 have XV:=Qv.dv Qb qg (by omega)
 have tW:=XV.cap (n+1) (λ M hM=>(rareX_bd hp hq n M (by omega)).2)
 obtain⟨d1,d2⟩:=zJT (b:=b) qg Z9 (show 0<(sqI b (zM (zV b (zF (ofI p q b) t)) N) t).1 by omega) g1
 have JS:=dv_wide (q:=Q b) (W:=Q 1700) (by omega) qg L5 JJ g1 (by
  refine Int.le_trans g4 ?_
  have e:Q 1700=4194304*Q 1678:=by
   have:=jD 22 1678;rw[show 22+1678=1700 by omega] at this
   rw[this];rfl
  rw[e];have q2:=zE (wb t)
  exact Int.mul_le_mul (by omega) qW (by omega) (by omega)) glow
 rw[<- d1,<- d2] at JS;have e2:Q 1702=4*Q 1700:=by have h:=jD 2 1700;rw[show 2+1700=1702 by omega] at h;rw[h];rfl
 have q17:=zE 1700;rw[<- zEF] at tW;have zg:zPT (zEX s.1 s.2 e.1 e.2 b) (Q b)<=zEX s.1 s.2 e.1 e.2 b:=by unfold zPT;split<;>omega
 have O2:zPT (zEX s.1 s.2 e.1 e.2 b) (Q b)<=Q b:=by unfold zPT;split<;>omega
 refine⟨tW,tW.le,?_,?_,O2⟩
 ·show zPT (zEX s.1 s.2 e.1 e.2 b) (Q b)-zDN s.1 s.2 e.1 e.2 b<=Q 1702
  have:zEX s.1 s.2 e.1 e.2 b-zDN s.1 s.2 e.1 e.2 b<=2*Q 1700+6:=JS;have YG:6<=2*Q 1700:=by have:=zH (show 2<=1700 by omega);have e:Q 2=4:=rfl;omega
  omega
 ·show 0<=zDN s.1 s.2 e.1 e.2 b
  have:zDN s.1 s.2 e.1 e.2 b=s.1*Q b/e.2:=d1;rw[this];exact Int.ediv_nonneg (Zc qg (by omega)) (by have:e.1<=e.2:=g1;have:Q b+1<=2*e.1:=glow;omega)
theorem fact_end {n i:Nat} (h1:1<=i) (h2:i=n\/(n<=1/\i=1)):zBA i=zBA n:=by
 rcases h2 with rfl|⟨h2,rfl⟩
 ·rfl
 ·match n,h2 with
  | 0,_=>rfl
  | 1,_=>rfl
structure RaSt (w wr:World) (B:Nat) (X:Nm) (p q:Int) (k:Nat) (v:Int):Prop where
 a:RaC wr w.heap.size p q
 x:VnC wr B X
 i:IntAt wr X.neg X.a X.n X.cap k v
 no:NoC wr (w.heap.size+1)
 be:Below w.heap.size w wr
 l:w.heap.size+1<B
theorem RaSt.bw {w wr wr':World} {B:Nat} {X:Nm} {p q:Int} {k:Nat} {v:Int} (h:RaSt w wr B X p q k v) (hb:Below wr.heap.size wr wr'):RaSt w wr' B X p q k v :=
 ⟨h.a.bw hb,h.x.bw hb,h.i.bw hb,h.no.bw hb,zB h.be hb,h.l⟩
theorem RaC.offv {w:World} {B B':Nat} {p q:Int} (h:RaC w B p q) (hne:B≠B') (y:Nm):RaC (zCB w B' y) B p q:=by
 obtain⟨q0,q1⟩:=h;constructor<;>simp[go_sem,q0,q1,hne,Ne.symm hne]
theorem RaSt.put {w wr:World} {B:Nat} {X Y:Nm} {p q:Int} {k k':Nat} {v v':Int} (h:RaSt w wr B X p q k v) (hy:IntAt wr Y.neg Y.a Y.n Y.cap k' v'):RaSt w (zCB wr B Y) B Y p q k' v' :=
 ⟨h.a.offv (by have:=h.l;omega) Y,h.x.put Y,hy.putv h.x Y,h.no.offv (by have:=h.l;omega) Y,zE4 h.be (by have:=h.l;omega) _ _,h.l⟩
theorem zPI (p q:Int) (n b:Nat) (hr:rok p q) (hp:0<=p) (L9:p<=100*q) (hn:n<=100) (G7:40<=b) (hb:b<=2000) :
  ∃ c:Int × Int,zHQ (zGY p q n) b c.1 c.2/\∀ w:World,Calls Tryz.prog 103 #[.agg #[.int .i64 p,.int .i64 q],.int .i64 n,.int .i64 b] w (zG w b 6000 c.1 c.2):=by
 have hq:0<q:=by have:=hr.2.2.1;omega
 obtain⟨lz,t,N,e1,e2,e3,e4,e5⟩:=zC3 (B:=b) (e:=7) (by omega) (kO (n:=p) hq b) (by
  have h1:=YW L9 (show 0<=Q b by have:=zE b;omega)
  have h2:=Zc hp (show 0<=Q b by have:=zE b;omega)
  have h3:100*q*Q b=100*Q b*q:=by grind
  have:=zAJ (zGC (n:=p) (m:=100*Q b) hq b (by omega) (by omega))
  have e9:Q (b+7)=Q b*128:=by rw[jD];rfl
  have:=zE b
  omega)
 have HT:=zC (And.intro e1 (And.intro e2 (And.intro e4 e5)))
 have SV:=zC (show Q (b+eb t)<P 1000 by
  have:=zAP (show t<=17 by omega)
  rw[DQ] at this;rw[<- Q_P];have h1:=zH (show b+eb t+1<=16*1000 by omega)
  have h2:Q (b+eb t+1)=2*Q (b+eb t):=rfl;have:=zE (b+eb t)
  omega)
 refine⟨(_,_),rare_pr (n:=n) hp hq G7 hb (by omega) e4 e5,λ w=>?_⟩
 clear e1 e2 e4 e5;obtain⟨W,hW⟩:∃ W,W=(w.alloc (.cells #[.int .i64 p,.int .i64 q] 23)).alloc (.cells zCq 31):=⟨_,rfl⟩;have j8:Below w.heap.size w W:=by rw[hW];exact bl2 _ _ _
 have A:RaC W w.heap.size p q:=by rw[hW];constructor<;>simp[go_sem]
 have R:NoC W (w.heap.size+1):=by rw[hW];constructor<;>simp[go_sem]
 have HR:=zC hr;obtain⟨r1,r2,r3,r4⟩:=hr;have lA:=A.lt;have lR:=R.lt;obtain⟨x0,x1⟩:=A
 go_enter Tryz.func103,Tryz.ntmps103
 go_wp2_with fail;rw[<- hW];clear hW;refine (zBF q n _ (by omega) (by omega) (by omega)).mono ?_
 rintro r' w1 ⟨m9,a1,n1,c1,rfl,o8,b9⟩;have A1:RaC w1 w.heap.size p q:=RaC.bw ⟨x0,x1⟩ b9;have R1:=R.bw b9;have A6:=zB j8 b9;have rf:=R1.lt;clear R j8 b9 x0 x1 lA lR;obtain⟨V1,L8⟩:∃ V1,V1=w1.alloc (.cells #[.bool m9,.slice a1 n1 c1] 29):=⟨_,rfl⟩;have aB:Below w1.heap.size w1 V1:=by rw[L8];exact bl1 _ _
 have iD:RaSt w V1 w1.heap.size ⟨m9,a1,n1,c1⟩ p q (4*n+4+4*1) (q ^ n*zBA 1):=⟨A1.bw aB,by rw[L8];exact zUE w1 ⟨m9,a1,n1,c1⟩ _,by
  have e:q ^ n*zBA 1=q ^ n:=by show q ^ n*(1*((0:Nat)+1))=_;omega
  rw[e];exact (o8.bw aB).mono (by omega),R1.bw aB,zB A6 aB,rf⟩
 go_wp2_with fail;rw[<- L8];clear L8 aB o8 A1 R1 A6;obtain⟨BX,Bw⟩:∃ BX,BX=w1.heap.size:=⟨_,rfl⟩;rw[<- Bw] at iD ⊢;clear Bw rf
 go_loopw [8] (λ kk wr=>∃ (i:Nat) (X:Nm),kk=.int .i64 ((i:Int)+1)/\1<=i/\(i<=n\/i=1)/\RaSt w wr BX X p q (4*n+4+4*i) (q ^ n*zBA i)) (λ kk _=>n+2-(intOf kk).toNat)
 case atStart=>exact⟨1,_,rfl,Zb _,Or.inr rfl,iD⟩
 case round =>
  obtain⟨i,X,rfl,hi,Qe,st⟩:=hrel;clear iD
  by_cases I9:i+1<=n
  ·have mA:(i:Int)+1<=(n:Int):=by omega
   have HX:=zC st.x;have HI:=zC st.i;have nY:=zC st;clear st;go_wp2_with fail;have D5:Below wr.heap.size wr wr.drew:=(Below.refl _ _).drew;have Es:=zC (show ∀ w',Below wr.heap.size wr w'->(nK0 w' BX X) from λ w' hB=>⟨((zA HX).bw hB).c.c0,((zA HX).bw hB).c.c1⟩)
   refine AnyL.start (S:=λ w'=>nK0 w' BX X) (l:=4) (by kernel_rfl) (zA Es _ D5) (λ hHeld=>?_)
   refine AnyL.take (i:=0) (oi:={ dst:=some 18,op:=Go.Op.load 29 (Go.Operand.tmp 7),type:=29,pos := "rare.go:23",after:=#[],guard:=none }) (v:=.agg X.q) rfl (by kernel_rfl) (by kernel_rfl) (by kernel_rfl) (by kernel_rfl) (λ _ _ _ h=>h) (Or.inl ⟨by rfl,λ w hSw=>?_⟩) hHeld ?_
   ·obtain⟨s0,s1⟩:=hSw;go_simp
   try simp only[Act.put,YQ,YR,YS]
   refine AnyL.take (i:=1) (oi:={ dst:=some 19,op:=Go.Op.move (Go.Operand.tmp 8),type:=3,pos := "rare.go:23",after:=#[],guard:=none }) (v:=.int .i64 ((i:Int)+1)) rfl (by kernel_rfl) (by kernel_rfl) (by kernel_rfl) (by kernel_rfl) (λ _ _ _ h=>h) (Or.inl ⟨by rfl,λ w hSw=>?_⟩) hHeld ?_
   ·obtain⟨s0,s1⟩:=hSw;go_simp
   try simp only[Act.put,YQ,YR,YS]
   refine AnyL.one (i:=2) (o:={ dst:=some 20,op:=Go.Op.call { callee:=Go.Callee.value (Go.Operand.func 33),args:=#[Go.Operand.tmp 19],argTypes:=#[3] },type:=29,pos := "rare.go:23",after:=#[{ on:=1,ground:=Go.Ground.data }],guard:=none }) (by kernel_rfl) rfl (λ Kc I7=>?_)
   go_simp
   refine (zD ((i:Int)+1) _ (by omega) (by omega)).mono ?_
   rintro r' w1 ⟨m9,a1,n1,c1,rfl,o8,b9⟩;have s9:=zB D5 b9;clear b9;go_wp2_with fail;refine I7.out _ _ (zA Es _ s9) (λ hHeld=>?_)
   clear I7 Kc
   try simp only[Act.put,YQ,YR,YS]
   refine AnyL.one (i:=3) (o:={ dst:=some 21,op:=Go.Op.call { callee:=Go.Callee.value (Go.Operand.func 83),args:=#[Go.Operand.tmp 18,Go.Operand.tmp 20],argTypes:=#[29,29] },type:=29,pos := "rare.go:23",after:=#[{ on:=0,ground:=Go.Ground.data },{ on:=2,ground:=Go.Ground.data },{ on:=2,ground:=Go.Ground.chain }],guard:=none }) (by kernel_rfl) rfl (λ Kc I7=>?_)
   go_simp
   refine (zX _ _ _ _ _ _ _ _ (4*n+4+4*i) 4 (q ^ n*zBA i) ((i:Int)+1) _ ((zA HI).bw s9) o8 (by omega) (by omega)).mono ?_
   rintro r' w2 ⟨j6,a2,n2,c2,rfl,A5,j7⟩;have p9:=zB s9 j7;clear j7 o8;go_wp2_with fail;refine I7.out _ _ (zA Es _ p9) (λ hHeld=>?_)
   clear I7 Kc
   try simp only[Act.put,YQ,YR,YS]
   have VX:=(zA HX).bw p9;have lX:=VX.lt;obtain⟨⟨z0,z1⟩,zf⟩:=VX;refine AnyL.last (o:={ dst:=none,op:=Go.Op.store 29 (Go.Operand.tmp 7) (Go.Operand.tmp 21),type:=0,pos := "rare.go:23",after:=#[{ on:=3,ground:=Go.Ground.data },{ on:=3,ground:=Go.Ground.chain },{ on:=0,ground:=Go.Ground.phase },{ on:=1,ground:=Go.Ground.phase },{ on:=2,ground:=Go.Ground.phase },{ on:=3,ground:=Go.Ground.phase }],guard:=none }) (by kernel_rfl) rfl (by kernel_rfl) (λ Kc I7=>?_)
   go_simp
   refine I7.out _ _ ?_;clear I7 Kc z0 z1 zf Es;have stn:=((zA nY).bw p9).put (Y:=⟨j6,a2,n2,c2⟩) A5;unfold zCB at stn;rw[show q ^ n*zBA i*((i:Int)+1)=q ^ n*zBA (i+1) by rw[Int.mul_assoc];rfl] at stn
   go_wp2_with fail
   go_roundw
   case rel=>exact⟨i+1,_,by go_num,by omega,Or.inl (by omega),stn⟩
   case measure=>simp[intOf];omega
  ·have mA:¬ (i:Int)+1<=(n:Int):=by omega
   have Qc:=fact_end (n:=n) hi (by omega)
   have HI:=zC (show IntAt wr X.neg X.a X.n X.cap 900 (q ^ n*zBA n) by rw[<- Qc];exact st.i.mono (by omega))
   have D5:Below wr.heap.size wr wr.drew:=(Below.refl _ _).drew;have HK:=zC (show ∀ w',Below wr.heap.size wr w'->( rK w' w.heap.size p q (nK0 w' BX X)) from λ w' hB=>⟨(st.a.bw hB).c0,(st.a.bw hB).c1,(st.x.bw hB).c.c0,(st.x.bw hB).c.c1⟩)
   have la:=st.a.lt;have lx:=st.x.lt;have lr:=st.no.lt;have lb:=st.l;have R:=st.no;have ng:=st.be;have n1:w.heap.size≠w.heap.size+1:=by omega
   have n2:w.heap.size+1≠w.heap.size:=by omega
   have n3:BX≠w.heap.size+1:=by omega
   have n4:w.heap.size+1≠BX:=by omega
   have hD:0<q ^ n*zBA n:=Int.mul_pos (Int.pow_pos hq) (zCM n);have GJ:=zC (kO (n:=p ^ n) hD b);clear st Qc;obtain⟨y0,y1,y2,y3⟩:=zA HK _ (Below.refl _ _);go_wp2_with fail
   go_region_held3 (λ w'=> rK w' w.heap.size p q (nK0 w' BX X)) (first|exact zA HK _ (by with_reducible first|exact D5|exact I5|exact F9|exact p9|exact s9)|(dsimp only[cK,cK0,nK,nK0,rK,rK0];go_keep)|go_keep)
    (first
     | (go_at_call 141;have O4:=F9;refine (zBR _ v3 (b/16+1000+10) b _ _ bD (zA iH) (by omega) (by omega) (by omega)).mono ?_;rintro r' w5 ⟨v4,rfl,ba,qh,D8⟩;have Ew:=zC ba;clear ba;have I5:=zB F9 D8;obtain⟨q0,q1,q2,q3,q4,q5⟩:=R.bw I5;obtain⟨z0,z1,z2,z3⟩:=zA HK _ I5)
     | (go_at_call 142;have O4:=p9;refine (zHH _ v2 p q 1000 b t N lz (ofI (p ^ n) (q ^ n*zBA n) b) (SpAt.mono ak (by omega)) (zA mZ) (zA GJ) (zA HR) G7 (by omega) hp (zA HT).1 (zA HT).2.1 (by omega) (zA HT).2.2.1 (zA HT).2.2.2 (zA SV) (by omega) (by omega)).mono ?_;rintro r' w4 ⟨v3,rfl,I0,bD,y9⟩;have iH:=zC I0;clear I0;have F9:=zB p9 y9)
     | (go_at_call 88;have O4:=s9;refine (jL _ _ _ _ _ _ _ _ (4*n+4) 900 b (p ^ n) (q ^ n*zBA n) _ o8 ((zA HI).bw s9) (by omega) (by omega) hD).mono ?_;rintro r' w3 ⟨v2,rfl,P6,ak,o7⟩;have mZ:=zC P6;clear P6;have p9:=zB s9 o7)
     | (go_at_call 102;refine (zBF p n _ (by omega) (by omega) (by omega)).mono ?_;rintro r' w2 ⟨j6,a2,n2,c2,rfl,o8,j7⟩;have s9:=zB D5 j7))
   all_goals
    go_wp2_with fail;refine bodyPost_ret (v:=.agg v4.q) (by simp[results,Tryz.results103,go_sem,q0,q1,q2,q3,q4]) rfl ⟨v4,rfl,zA Ew,?_,?_⟩
    ·exact SpAt.put5 (qh.mono (by omega)) q0 q1 q2 q3 q4 _ _ _ _ _
    ·exact jS (zB ng I5) (by omega) _ _ _ _ _
theorem zOT (args:Array Value) (w:World):(callFunc 90 args).run Tryz.prog w=.ok (.enter 90 args) w:=by simp[go_sem,callFunc,Tryz.func90];kernel_rfl
theorem en_mass (args:Array Value) (w:World):(callFunc 56 args).run Tryz.prog w=.ok (.enter 56 args) w:=by simp[go_sem,callFunc,Tryz.func56];kernel_rfl
theorem NoC.off2 {w:World} {B B':Nat} (h:NoC w B) (hne:B≠B') (u0 u1:Value):NoC ((w.setCell ⟨B',0,none⟩ u0).setCell ⟨B',1,none⟩ u1) B:=by
 obtain⟨q0,q1,q2,q3,q4,q5⟩:=h;exact⟨by simp[go_sem,q0,hne,Ne.symm hne],by simp[go_sem,q1,hne,Ne.symm hne],by simp[go_sem,q2,hne,Ne.symm hne],by simp[go_sem,q3,hne,Ne.symm hne],by simp[go_sem,q4,hne,Ne.symm hne],zAE q5 _ _⟩
def zDW (f:Nat->Int):Nat->Int
 | 0=>0
 | i+1=>zDW f i+f i
def zGO (p r s:Int) (n:Nat):Int:=wayF (r ^ n*(s-r) ^ (p.toNat-n)) (p-n) n
theorem zQ0 (k q r s last:Int) (P M b:Nat) (w:World) (hM:(min last (P:Int)+1).toNat=M) (ze : -1000000000<=last) (hl:last<=1000000000) (hp:P<=100) (hr:0<=r) (hs:r<=s) (hs1:1<=s) (ak:s<=1024) (hb:b<=1000000) :
  Calls Tryz.prog 136 #[.agg #[.int .i64 k,.int .i64 (P:Int),.int .i64 q,.int .i64 r,.int .i64 s],.int .i64 last,.int .i64 b] w (zG w b (b/16+5000) (zDW (zGO P r s) M*Q b/s ^ P) (-(-(zDW (zGO P r s) M*Q b)/s ^ P))):=by
 have hMp:M<=P+1:=by omega
 have O3:0<s ^ P:=Int.pow_pos (by omega)
 go_enter Tryz.func136,Tryz.ntmps136
 go_wp2_with fail;refine (zD 0 _ (by decide) (by decide)).mono ?_
 rintro r' w1 ⟨m9,a1,n1,c1,rfl,o8,b9⟩;have L:LwC w1 w.heap.size k P q r s:=((yB w k P q r s _).bw (bl1 _ _)).bw b9;have hR:NoC w1 (w.heap.size+1):=NoC.bw ⟨by simp[go_sem],by simp[go_sem],by simp[go_sem],by simp[go_sem],by simp[go_sem],λ o=>by simp[go_sem]⟩ b9
 have A6:Below w.heap.size w w1:=zB (bl2 _ _ _) b9;clear b9;have lL:=L.lt;have lR:=hR.lt;obtain⟨i0,i1,i2,i3,i4⟩:=L;have HM:=zC hM;go_wp2_with fail
 all_goals
  have Ys:(min last (P:Int)+1).toNat=M:=zA HM
  go_loopw [16,8] (λ ii nn wr=>∃ (i:Nat) (X:Nm),ii=.int .i64 (i:Int)/\i<=M/\NmC wr w1.heap.size X/\(∀ o,wr.frozen? ⟨w1.heap.size,o,none⟩=false)/\IntAt wr X.neg X.a X.n X.cap (4+2500+i) (zDW (zGO P r s) i)/\LwC wr w.heap.size k P q r s/\NoC wr (w.heap.size+1)/\Below w.heap.size w wr) (λ ii _ _=>M-(intOf ii).toNat)
  case atStart=>exact⟨0,⟨m9,a1,n1,c1⟩,rfl,Nat.zero_le _,⟨by simp[go_sem],by simp[go_sem]⟩,λ o=>by simp[go_sem],(o8.bw (bl1 _ _)).mono (by omega),LwC.bw ⟨i0,i1,i2,i3,i4⟩ (bl1 _ _),hR.bw (bl1 _ _),zL A6 _⟩
  case round =>
   obtain⟨i,X,rfl,hi,hX,hF,hint,L,R,hB⟩:=hrel;have lX:=hX.lt
   by_cases I9:i<M
   ·have mA:(i:Int)<min last (P:Int)+1:=by omega
    try have Ji:(i:Int)<last+1:=by omega
    try have Jj:(i:Int)<(P:Int)+1:=by omega
    have hint:=zC hint;have HL:=zC L;have HX:=zC hX;have lL2:=L.lt;obtain⟨l0,l1,l2,l3,l4⟩:=L;obtain⟨x0,x1⟩:=hX;go_wp2_with fail
    go_region_with
     (first
      | (go_at_call 32;have hq:=s9;refine (zA5 _ _ _ _ _ _ _ _ (4+2500+i) 2504 (zDW (zGO P r s) i) (zGO P r s i) _ ((zA hint).bw s9) (IF.mono (by omega)) (by omega) (by omega)).mono ?_;rintro r' w3 ⟨B8,a3,n3,c3,rfl,G0,o7⟩;have p9:=zB s9 o7;have JZ:=p9.size;obtain⟨z0,z1⟩:=(zA HX).bw p9;have F4:∀ o,w3.frozen? ⟨w1.heap.size,o,none⟩=false:=λ o=>(p9.frozen (p:=⟨w1.heap.size,o,none⟩) lX).trans (hF o))
      | (go_at_call 101;refine (zOI k P q r s i _ (by omega) (by omega) hr hs ak).mono ?_;rintro r' w2 ⟨j6,a2,n2,c2,rfl,IF,j7⟩;have s9:Below wr.heap.size wr w2:=zB (by repeat' (first|with_reducible exact Below.refl _ _|with_reducible refine Below.drew ?_)) j7;obtain⟨d0,d1⟩:=(zA HX).bw s9))
    all_goals
     go_wp2_with fail
     go_roundw
     case rel =>
      exact⟨i+1,⟨B8,a3,n3,c3⟩,by go_num,by omega,zDA (z:=X) ⟨z0,z1⟩ ⟨B8,a3,n3,c3⟩,zAE F4 _ _,(G0.put2 z0 z1 _ _).mono (by omega),((zA HL).bw p9).off (by omega) _ _,(R.bw p9).off2 (by omega) _ _,zE4 (zB hB p9) (by omega) _ _⟩
     case measure=>simp[intOf];omega
   ·have mA:¬ (i:Int)<min last (P:Int)+1:=by omega
    try have Ji:¬ (i:Int)<last+1:=by omega
    try have Jj:¬ (i:Int)<(P:Int)+1:=by omega
    have cX:i=M:=by omega
    subst cX;have hint:=zC hint;have aq:=zC (show ∀ w',Below wr.heap.size wr w'->(w'.cell? ⟨w.heap.size,1,none⟩=some (.int .i64 (P:Int))/\w'.cell? ⟨w.heap.size,4,none⟩=some (.int .i64 s)/\nK0 w' w1.heap.size X) from λ w' hB=>⟨(L.bw hB).c1,(L.bw hB).c4,(hX.bw hB).c0,(hX.bw hB).c1⟩)
    have lL2:=L.lt;have bg:=R.lt;obtain⟨l1,l4,x0,x1⟩:=zA aq _ (Below.refl _ _);have D5:Below wr.heap.size wr wr.drew:=(Below.refl _ _).drew;have nE:w1.heap.size≠w.heap.size+1:=by omega
    have nE':w.heap.size+1≠w1.heap.size:=by omega
    go_wp2_with fail
    go_region_held3 (λ w'=>w'.cell? ⟨w.heap.size,1,none⟩=some (.int .i64 (P:Int))/\w'.cell? ⟨w.heap.size,4,none⟩=some (.int .i64 s)/\nK0 w' w1.heap.size X) (first|exact zA aq _ (by with_reducible first|exact D5|exact p9|exact s9)|(dsimp only[cK,cK0,nK,nK0,rK,rK0];go_keep)|go_keep)
     (first
      | (go_at_call 88;have hq:=s9;refine (jL _ _ _ _ _ _ _ _ (4+2500+i) (4*P+4) b (zDW (zGO P r s) i) (s ^ P) _ ((zA hint).bw s9) A5 (by omega) hb O3).mono ?_;rintro r' w3 ⟨u,rfl,A8,C7,o7⟩;have p9:=zB s9 o7;obtain⟨q0,q1,q2,q3,q4,q5⟩:=R.bw p9;have I3:=zC A8;clear A8;obtain⟨e0,e1,e2,e3⟩:=zA aq _ p9)
      | (go_at_call 102;refine (zBF s P _ (by omega) (by omega) (by omega)).mono ?_;rintro r' w2 ⟨j6,a2,n2,c2,rfl,A5,j7⟩;have s9:=zB D5 j7))
    all_goals
     go_wp2_with fail;refine bodyPost_ret (v:=.agg u.q) (by simp[results,Tryz.results136,go_sem,q0,q1,q2,q3,q4]) rfl ⟨u,rfl,zA I3,?_,?_⟩
     ·exact SpAt.put5 (C7.mono (by omega)) q0 q1 q2 q3 q4 _ _ _ _ _
     ·exact jS (zB hB p9) (Nat.le_succ _) _ _ _ _ _
end Go.Proofs.YtgmnknmjainabacGreat
