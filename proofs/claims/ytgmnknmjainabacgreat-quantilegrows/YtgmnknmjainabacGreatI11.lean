/-
  Its own texts.
-/
import Derived.Test.YtgmnknmjainabacGreatI10
set_option maxRecDepth 100000
set_option maxHeartbeats 40000000
set_option linter.unnecessarySimpa false
set_option linter.unusedSimpArgs false
set_option linter.unusedVariables false
namespace Go.Proofs.YtgmnknmjainabacGreat
open Go.RowKit
attribute [local go_sem ↓] Go.wp_at_zero Go.wp_at_succ
theorem zFG (neg j6:Bool) (a c:Option Addr) (n m cap j9 k k2 b B:Nat) (x y:Int) (w:World) (h1:IntAt w neg a n cap k x) (h2:IntAt w j6 c m j9 k2 y) (hk:k<=300000000) (hb:b<=1000000) (hy:0<y) (hc:w.cell? ⟨B,4,none⟩=some (.int .i64 b)) :
  Calls Tryz.prog 190 #[.agg #[.bool neg,.slice a n cap],.agg #[.bool j6,.slice c m j9],.pointer (some ⟨B,0,none⟩)] w (zCY w (b/16+k+9) (x*Q b/y)):=by
 have lB:B<w.heap.size:=World.block_lt_of_cell? w ⟨B,4,none⟩ hc;have nJ:w.heap.size≠w.heap.size+1+1:=by omega
 have nM:w.heap.size+1+1≠w.heap.size:=by omega
 obtain⟨W,hW⟩:∃ W,W=((w.alloc (.cells #[.bool neg,.slice a n cap] 29)).alloc (.cells #[.bool j6,.slice c m j9] 29)).alloc (.cells #[.bool false,.slice none 0 0] 29):=⟨_,rfl⟩;have j7:Below w.heap.size w W:=by rw[hW];exact bl3 _ _ _ _
 have A:NmC W w.heap.size ⟨neg,a,n,cap⟩:=by rw[hW];constructor<;>simp[go_sem]
 have G:NmC W (w.heap.size+1) ⟨j6,c,m,j9⟩:=by rw[hW];constructor<;>simp[go_sem]
 have R:NoI W (w.heap.size+1+1):=by rw[hW];constructor<;>simp[go_sem]
 have hcW:=(j7.cell (p:=⟨B,4,none⟩) lB).trans hc;have lBW:=YH lB j7.size;have HX:=zC (h1.bw j7);have HY:=zC (h2.bw j7);have C8:Below W.heap.size W W.drew:=(Below.refl _ _).drew;have lR:=R.lt;have nB:B≠w.heap.size+1+1:=by omega
 have Lm:w.heap.size+1+1≠B:=by omega
 have HK:=zC (show ∀ w',Below W.heap.size W w'->(w'.cell? ⟨w.heap.size,0,none⟩=some (.bool neg)/\w'.cell? ⟨w.heap.size,1,none⟩=some (.slice a n cap)/\w'.cell? ⟨w.heap.size+1,0,none⟩=some (.bool j6)/\w'.cell? ⟨w.heap.size+1,1,none⟩=some (.slice c m j9)/\w'.cell? ⟨B,4,none⟩=some (.int .i64 b)) from λ w' hB=>⟨(A.bw hB).c0,(A.bw hB).c1,(G.bw hB).c0,(G.bw hB).c1,(hB.cell (p:=⟨B,4,none⟩) lBW).trans hcW⟩)
 go_enter Tryz.func190,Tryz.ntmps190
 go_wp2;rw[<- hW];clear hW;obtain⟨i0,i1,i2,i3,i4⟩:=zA HK _ (Below.refl _ _)
 go_region_held3 (λ w'=>w'.cell? ⟨w.heap.size,0,none⟩=some (.bool neg)/\w'.cell? ⟨w.heap.size,1,none⟩=some (.slice a n cap)/\w'.cell? ⟨w.heap.size+1,0,none⟩=some (.bool j6)/\w'.cell? ⟨w.heap.size+1,1,none⟩=some (.slice c m j9)/\w'.cell? ⟨B,4,none⟩=some (.int .i64 b)) (first|exact zA HK _ (by with_reducible first|exact C8|exact o9|exact A6)|go_keep)
  (first
   | (go_at_call 116;refine (zBU _ _ _ _ b k x _ ((zA HX).bw C8) (by omega) (by omega)).mono ?_;rintro r w1 ⟨m7,a1,n1,c1,rfl,o8,b9⟩;have A6:=zB C8 b9)
   | (go_at_call 126;refine (yI _ _ _ _ _ _ _ _ (b/16+k+1) k2 (x*Q b) y _ o8 ((zA HY).bw A6) (by omega) hy).mono ?_;rintro r w2 ⟨A7,a3,n3,c3,rfl,E5,j8⟩;have o9:=zB A6 j8;obtain⟨q0,q1,q2⟩:=R.bw o9;obtain⟨d0,d1,d2,d3,d4⟩:=zA HK _ o9))
 clear i0 i1 i2 i3 i4;go_wp2;refine bodyPost_ret (v:=.agg #[.bool A7,.slice a3 n3 c3]) (by simp[results,Tryz.results190,go_sem,q0,q1]) rfl ⟨A7,a3,n3,c3,rfl,(E5.put2 q0 q1 _ _).mono (by omega),?_⟩
 exact zD2 (zB j7 o9) (by omega) _ _
theorem zFH (neg j6:Bool) (a c:Option Addr) (n m cap j9 k k2 b B:Nat) (x y:Int) (w:World) (h1:IntAt w neg a n cap k x) (h2:IntAt w j6 c m j9 k2 y) (hk:k<=300000000) (hb:b<=1000000) (hy:0<y) (hc:w.cell? ⟨B,4,none⟩=some (.int .i64 b)) :
  Calls Tryz.prog 191 #[.agg #[.bool neg,.slice a n cap],.agg #[.bool j6,.slice c m j9],.pointer (some ⟨B,0,none⟩)] w (zCY w (b/16+k+9) (-(-(x*Q b)/y))):=by
 have lB:B<w.heap.size:=World.block_lt_of_cell? w ⟨B,4,none⟩ hc;have nJ:w.heap.size≠w.heap.size+1+1:=by omega
 have nM:w.heap.size+1+1≠w.heap.size:=by omega
 obtain⟨W,hW⟩:∃ W,W=((w.alloc (.cells #[.bool neg,.slice a n cap] 29)).alloc (.cells #[.bool j6,.slice c m j9] 29)).alloc (.cells #[.bool false,.slice none 0 0] 29):=⟨_,rfl⟩;have j7:Below w.heap.size w W:=by rw[hW];exact bl3 _ _ _ _
 have A:NmC W w.heap.size ⟨neg,a,n,cap⟩:=by rw[hW];constructor<;>simp[go_sem]
 have G:NmC W (w.heap.size+1) ⟨j6,c,m,j9⟩:=by rw[hW];constructor<;>simp[go_sem]
 have R:NoI W (w.heap.size+1+1):=by rw[hW];constructor<;>simp[go_sem]
 have hcW:=(j7.cell (p:=⟨B,4,none⟩) lB).trans hc;have lBW:=YH lB j7.size;have HX:=zC (h1.bw j7);have HY:=zC (h2.bw j7);have C8:Below W.heap.size W W.drew:=(Below.refl _ _).drew;have lR:=R.lt;have nB:B≠w.heap.size+1+1:=by omega
 have Lm:w.heap.size+1+1≠B:=by omega
 have HK:=zC (show ∀ w',Below W.heap.size W w'->(w'.cell? ⟨w.heap.size,0,none⟩=some (.bool neg)/\w'.cell? ⟨w.heap.size,1,none⟩=some (.slice a n cap)/\w'.cell? ⟨w.heap.size+1,0,none⟩=some (.bool j6)/\w'.cell? ⟨w.heap.size+1,1,none⟩=some (.slice c m j9)/\w'.cell? ⟨B,4,none⟩=some (.int .i64 b)) from λ w' hB=>⟨(A.bw hB).c0,(A.bw hB).c1,(G.bw hB).c0,(G.bw hB).c1,(hB.cell (p:=⟨B,4,none⟩) lBW).trans hcW⟩)
 go_enter Tryz.func191,Tryz.ntmps191
 go_wp2;rw[<- hW];clear hW;obtain⟨i0,i1,i2,i3,i4⟩:=zA HK _ (Below.refl _ _)
 go_region_held3 (λ w'=>w'.cell? ⟨w.heap.size,0,none⟩=some (.bool neg)/\w'.cell? ⟨w.heap.size,1,none⟩=some (.slice a n cap)/\w'.cell? ⟨w.heap.size+1,0,none⟩=some (.bool j6)/\w'.cell? ⟨w.heap.size+1,1,none⟩=some (.slice c m j9)/\w'.cell? ⟨B,4,none⟩=some (.int .i64 b)) (first|exact zA HK _ (by with_reducible first|exact C8|exact o9|exact A6)|go_keep)
  (first
   | (go_at_call 116;refine (zBU _ _ _ _ b k x _ ((zA HX).bw C8) (by omega) (by omega)).mono ?_;rintro r w1 ⟨m7,a1,n1,c1,rfl,o8,b9⟩;have A6:=zB C8 b9)
   | (go_at_call 127;refine (zHV _ _ _ _ _ _ _ _ (b/16+k+1) k2 (x*Q b) y _ o8 ((zA HY).bw A6) (by omega) hy).mono ?_;rintro r w2 ⟨A7,a3,n3,c3,rfl,E5,j8⟩;have o9:=zB A6 j8;obtain⟨q0,q1,q2⟩:=R.bw o9;obtain⟨d0,d1,d2,d3,d4⟩:=zA HK _ o9))
 clear i0 i1 i2 i3 i4;go_wp2;refine bodyPost_ret (v:=.agg #[.bool A7,.slice a3 n3 c3]) (by simp[results,Tryz.results191,go_sem,q0,q1]) rfl ⟨A7,a3,n3,c3,rfl,(E5.put2 q0 q1 _ _).mono (by omega),?_⟩
 exact zD2 (zB j7 o9) (by omega) _ _
theorem zJL (w:World) (s t:Sp) (k b B:Nat) (lo hi lo' hi':Int) (hs:SpAt w s k lo hi) (ht:SpAt w t k lo' hi') (hk:k<=300000000) (hb:b<=1000000) (hp:0<lo') (I2:0<hi') (hc:w.cell? ⟨B,4,none⟩=some (.int .i64 b)) :
  Calls Tryz.prog 152 #[.agg s.q,.agg t.q,.func (.func 190) #[] #[.pointer (some ⟨B,0,none⟩)]] w λ r w' =>
   ∃ B' f,r=.returned (.slice (some ⟨B',0,none⟩) 4 4)/\Nums w' B' 4 (b/16+k+9) f (pr4 (lo*Q b/lo') (lo*Q b/hi') (hi*Q b/lo') (hi*Q b/hi'))/\Below w.heap.size w w':=by
 have lB:B<w.heap.size:=World.block_lt_of_cell? w ⟨B,4,none⟩ hc;obtain⟨W,hW⟩:∃ W,W=(w.alloc (.cells s.q 31)).alloc (.cells t.q 31):=⟨_,rfl⟩;have j7:Below w.heap.size w W:=by rw[hW];exact bl2 _ _ _
 have a0:SpC W w.heap.size s:=by rw[hW];constructor<;>simp[go_sem]
 have g0:SpC W (w.heap.size+1) t:=by rw[hW];constructor<;>simp[go_sem]
 have hcW:=(j7.cell (p:=⟨B,4,none⟩) lB).trans hc;have lBW:=YH lB j7.size;have HS:=zC (hs.bw j7);have HT:=zC (ht.bw j7);have C8:Below W.heap.size W W.drew:=(Below.refl _ _).drew;have nT:=zC (show ∀ w',Below W.heap.size W w'->w'.cell? ⟨B,4,none⟩=some (.int .i64 b) from λ w' hB=>(hB.cell (p:=⟨B,4,none⟩) lBW).trans hcW)
 have HK:=zC (show ∀ w',Below W.heap.size W w'->(w'.cell? ⟨w.heap.size,0,none⟩=some (.bool s.ln)/\w'.cell? ⟨w.heap.size,1,none⟩=some (.slice s.la s.lN s.lc)/\w'.cell? ⟨w.heap.size,2,none⟩=some (.bool s.hn)/\w'.cell? ⟨w.heap.size,3,none⟩=some (.slice s.ha s.hN s.hc)/\w'.cell? ⟨w.heap.size+1,0,none⟩=some (.bool t.ln)/\w'.cell? ⟨w.heap.size+1,1,none⟩=some (.slice t.la t.lN t.lc)/\w'.cell? ⟨w.heap.size+1,2,none⟩=some (.bool t.hn)/\w'.cell? ⟨w.heap.size+1,3,none⟩=some (.slice t.ha t.hN t.hc)) from λ w' hB=>by
  obtain⟨x0,x1,x2,x3,x4⟩:=a0.bw hB;obtain⟨y0,y1,y2,y3,y4⟩:=g0.bw hB
  exact⟨x0,x1,x2,x3,y0,y1,y2,y3⟩)
 go_enter Tryz.func152,Tryz.ntmps152
 go_wp2;obtain⟨x0,x1,x2,x3,x4⟩:=a0;obtain⟨y0,y1,y2,y3,y4⟩:=g0;rw[<- hW];clear hW
 go_region_held3 (λ w'=>w'.cell? ⟨w.heap.size,0,none⟩=some (.bool s.ln)/\w'.cell? ⟨w.heap.size,1,none⟩=some (.slice s.la s.lN s.lc)/\w'.cell? ⟨w.heap.size,2,none⟩=some (.bool s.hn)/\w'.cell? ⟨w.heap.size,3,none⟩=some (.slice s.ha s.hN s.hc)/\w'.cell? ⟨w.heap.size+1,0,none⟩=some (.bool t.ln)/\w'.cell? ⟨w.heap.size+1,1,none⟩=some (.slice t.la t.lN t.lc)/\w'.cell? ⟨w.heap.size+1,2,none⟩=some (.bool t.hn)/\w'.cell? ⟨w.heap.size+1,3,none⟩=some (.slice t.ha t.hN t.hc)) (exact zA HK _ (by with_reducible first|exact C8|exact zL G0 _|exact G0|exact A8|exact o9|exact A6))
  (first
   | (go_at_call 190;have hq:=A8;refine (zFG _ _ _ _ _ _ _ _ k k b B hi hi' _ ((zA HS).hi.bw A8) ((zA HT).hi.bw A8) hk hb I2 (zA nT _ A8)).mono ?_;rintro r w4 ⟨D8,a4,n4,c4,rfl,G6,y9⟩;replace o8:=o8.bw y9;replace A5:=A5.bw y9;replace E5:=E5.bw y9;have G0:=zB A8 y9)
   | (go_at_call 190;have hq:=o9;refine (zFG _ _ _ _ _ _ _ _ k k b B hi lo' _ ((zA HS).hi.bw o9) ((zA HT).lo.bw o9) hk hb hp (zA nT _ o9)).mono ?_;rintro r w3 ⟨A7,a3,n3,c3,rfl,E5,m9⟩;replace o8:=o8.bw m9;replace A5:=A5.bw m9;have A8:=zB o9 m9)
   | (go_at_call 190;have hq:=A6;refine (zFG _ _ _ _ _ _ _ _ k k b B lo hi' _ ((zA HS).lo.bw A6) ((zA HT).hi.bw A6) hk hb I2 (zA nT _ A6)).mono ?_;rintro r w2 ⟨j6,a2,n2,c2,rfl,A5,j8⟩;replace o8:=o8.bw j8;have o9:=zB A6 j8)
   | (go_at_call 190;have hq:=C8;refine (zFG _ _ _ _ _ _ _ _ k k b B lo lo' _ ((zA HS).lo.bw C8) ((zA HT).lo.bw C8) hk hb hp (zA nT _ C8)).mono ?_;rintro r w1 ⟨m7,a1,n1,c1,rfl,o8,b9⟩;have A6:=zB C8 b9))
 go_wp2
 go_ret
 exact⟨w4.heap.size,pr4 ⟨m7,a1,n1,c1⟩ ⟨j6,a2,n2,c2⟩ ⟨A7,a3,n3,c3⟩ ⟨D8,a4,n4,c4⟩,rfl,zPA w4 _ rfl ⟨m7,a1,n1,c1⟩ ⟨j6,a2,n2,c2⟩ ⟨A7,a3,n3,c3⟩ ⟨D8,a4,n4,c4⟩ _ _ _ _ _ _ o8 A5 E5 G6,zB j7 (zL G0 _)⟩
theorem zJM (w:World) (s t:Sp) (k b B:Nat) (lo hi lo' hi':Int) (hs:SpAt w s k lo hi) (ht:SpAt w t k lo' hi') (hk:k<=300000000) (hb:b<=1000000) (hp:0<lo') (I2:0<hi') (hc:w.cell? ⟨B,4,none⟩=some (.int .i64 b)) :
  Calls Tryz.prog 152 #[.agg s.q,.agg t.q,.func (.func 191) #[] #[.pointer (some ⟨B,0,none⟩)]] w λ r w' =>
   ∃ B' f,r=.returned (.slice (some ⟨B',0,none⟩) 4 4)/\Nums w' B' 4 (b/16+k+9) f (pr4 (-(-(lo*Q b)/lo')) (-(-(lo*Q b)/hi')) (-(-(hi*Q b)/lo')) (-(-(hi*Q b)/hi')))/\Below w.heap.size w w':=by
 have lB:B<w.heap.size:=World.block_lt_of_cell? w ⟨B,4,none⟩ hc;obtain⟨W,hW⟩:∃ W,W=(w.alloc (.cells s.q 31)).alloc (.cells t.q 31):=⟨_,rfl⟩;have j7:Below w.heap.size w W:=by rw[hW];exact bl2 _ _ _
 have a0:SpC W w.heap.size s:=by rw[hW];constructor<;>simp[go_sem]
 have g0:SpC W (w.heap.size+1) t:=by rw[hW];constructor<;>simp[go_sem]
 have hcW:=(j7.cell (p:=⟨B,4,none⟩) lB).trans hc;have lBW:=YH lB j7.size;have HS:=zC (hs.bw j7);have HT:=zC (ht.bw j7);have C8:Below W.heap.size W W.drew:=(Below.refl _ _).drew;have nT:=zC (show ∀ w',Below W.heap.size W w'->w'.cell? ⟨B,4,none⟩=some (.int .i64 b) from λ w' hB=>(hB.cell (p:=⟨B,4,none⟩) lBW).trans hcW)
 have HK:=zC (show ∀ w',Below W.heap.size W w'->(w'.cell? ⟨w.heap.size,0,none⟩=some (.bool s.ln)/\w'.cell? ⟨w.heap.size,1,none⟩=some (.slice s.la s.lN s.lc)/\w'.cell? ⟨w.heap.size,2,none⟩=some (.bool s.hn)/\w'.cell? ⟨w.heap.size,3,none⟩=some (.slice s.ha s.hN s.hc)/\w'.cell? ⟨w.heap.size+1,0,none⟩=some (.bool t.ln)/\w'.cell? ⟨w.heap.size+1,1,none⟩=some (.slice t.la t.lN t.lc)/\w'.cell? ⟨w.heap.size+1,2,none⟩=some (.bool t.hn)/\w'.cell? ⟨w.heap.size+1,3,none⟩=some (.slice t.ha t.hN t.hc)) from λ w' hB=>by
  obtain⟨x0,x1,x2,x3,x4⟩:=a0.bw hB;obtain⟨y0,y1,y2,y3,y4⟩:=g0.bw hB
  exact⟨x0,x1,x2,x3,y0,y1,y2,y3⟩)
 go_enter Tryz.func152,Tryz.ntmps152
 go_wp2;obtain⟨x0,x1,x2,x3,x4⟩:=a0;obtain⟨y0,y1,y2,y3,y4⟩:=g0;rw[<- hW];clear hW
 go_region_held3 (λ w'=>w'.cell? ⟨w.heap.size,0,none⟩=some (.bool s.ln)/\w'.cell? ⟨w.heap.size,1,none⟩=some (.slice s.la s.lN s.lc)/\w'.cell? ⟨w.heap.size,2,none⟩=some (.bool s.hn)/\w'.cell? ⟨w.heap.size,3,none⟩=some (.slice s.ha s.hN s.hc)/\w'.cell? ⟨w.heap.size+1,0,none⟩=some (.bool t.ln)/\w'.cell? ⟨w.heap.size+1,1,none⟩=some (.slice t.la t.lN t.lc)/\w'.cell? ⟨w.heap.size+1,2,none⟩=some (.bool t.hn)/\w'.cell? ⟨w.heap.size+1,3,none⟩=some (.slice t.ha t.hN t.hc)) (exact zA HK _ (by with_reducible first|exact C8|exact zL G0 _|exact G0|exact A8|exact o9|exact A6))
  (first
   | (go_at_call 191;have hq:=A8;refine (zFH _ _ _ _ _ _ _ _ k k b B hi hi' _ ((zA HS).hi.bw A8) ((zA HT).hi.bw A8) hk hb I2 (zA nT _ A8)).mono ?_;rintro r w4 ⟨D8,a4,n4,c4,rfl,G6,y9⟩;replace o8:=o8.bw y9;replace A5:=A5.bw y9;replace E5:=E5.bw y9;have G0:=zB A8 y9)
   | (go_at_call 191;have hq:=o9;refine (zFH _ _ _ _ _ _ _ _ k k b B hi lo' _ ((zA HS).hi.bw o9) ((zA HT).lo.bw o9) hk hb hp (zA nT _ o9)).mono ?_;rintro r w3 ⟨A7,a3,n3,c3,rfl,E5,m9⟩;replace o8:=o8.bw m9;replace A5:=A5.bw m9;have A8:=zB o9 m9)
   | (go_at_call 191;have hq:=A6;refine (zFH _ _ _ _ _ _ _ _ k k b B lo hi' _ ((zA HS).lo.bw A6) ((zA HT).hi.bw A6) hk hb I2 (zA nT _ A6)).mono ?_;rintro r w2 ⟨j6,a2,n2,c2,rfl,A5,j8⟩;replace o8:=o8.bw j8;have o9:=zB A6 j8)
   | (go_at_call 191;have hq:=C8;refine (zFH _ _ _ _ _ _ _ _ k k b B lo lo' _ ((zA HS).lo.bw C8) ((zA HT).lo.bw C8) hk hb hp (zA nT _ C8)).mono ?_;rintro r w1 ⟨m7,a1,n1,c1,rfl,o8,b9⟩;have A6:=zB C8 b9))
 go_wp2
 go_ret
 exact⟨w4.heap.size,pr4 ⟨m7,a1,n1,c1⟩ ⟨j6,a2,n2,c2⟩ ⟨A7,a3,n3,c3⟩ ⟨D8,a4,n4,c4⟩,rfl,zPA w4 _ rfl ⟨m7,a1,n1,c1⟩ ⟨j6,a2,n2,c2⟩ ⟨A7,a3,n3,c3⟩ ⟨D8,a4,n4,c4⟩ _ _ _ _ _ _ o8 A5 E5 G6,zB j7 (zL G0 _)⟩
theorem zMG (w:World) (s t:Sp) (k b:Nat) (lo hi lo' hi':Int) (hs:SpAt w s k lo hi) (ht:SpAt w t k lo' hi') (hk:k<=300000000) (hb:b<=1000000) (hbits:s.bits=b) (hp:0<lo') (I2:0<hi') :
  Calls Tryz.prog 162 #[.agg s.q,.agg t.q] w (zH w b (b/16+k+10) (kJ (pr4 (lo*Q b/lo') (lo*Q b/hi') (hi*Q b/lo') (hi*Q b/hi')) 3) (kA (pr4 (-(-(lo*Q b)/lo')) (-(-(lo*Q b)/hi')) (-(-(hi*Q b)/lo')) (-(-(hi*Q b)/hi'))) 3)):=by
 have fY:=zC hbits;have t1:¬ zM hi' 0<0:=by unfold zM;rw[if_neg (by omega)];split<;>omega
 clear hbits;obtain⟨W,hW⟩:∃ W,W=((w.alloc (.cells s.q 31)).alloc (.cells t.q 31)).alloc (.cells zCq 31):=⟨_,rfl⟩;have j7:Below w.heap.size w W:=by rw[hW];exact bl3 _ _ _ _
 have A:SpC W w.heap.size s:=by rw[hW];constructor<;>simp[go_sem]
 have G:SpC W (w.heap.size+1) t:=by rw[hW];constructor<;>simp[go_sem]
 have R:NoC W (w.heap.size+1+1):=by rw[hW];constructor<;>simp[go_sem]
 replace hs:=hs.bw j7;replace ht:=ht.bw j7
 go_enter Tryz.func162,Tryz.ntmps162
 go_wp2_with fail;rw[<- hW];clear hW;refine (zBS _ _ _ _ k hi' _ ht.hi).mono ?_;rintro r w0 ⟨rfl,E8⟩;replace j7:=zB j7 E8;replace A:=A.bw E8;replace G:=G.bw E8;replace R:=R.bw E8;replace hs:=hs.bw E8;replace ht:=ht.bw E8;clear E8;have lA:=A.lt;have lG:=G.lt;obtain⟨x0,x1,x2,x3,x4⟩:=A;obtain⟨y0,y1,y2,y3,y4⟩:=G;have A:SpC w0 w.heap.size s:=⟨x0,x1,x2,x3,x4⟩;have G:SpC w0 (w.heap.size+1) t:=⟨y0,y1,y2,y3,y4⟩;go_wp2_with fail;clear lA lG x0 x1 x2 x3 x4 y0 y1 y2 y3 y4;refine (zJL _ s t k b w.heap.size lo hi lo' hi' hs ht hk hb hp I2 (by rw[<- zA fY];exact A.c4)).mono ?_
 rintro r w1 ⟨B1,f1,rfl,T4,b9⟩;replace j7:=zB j7 b9;replace A:=A.bw b9;replace G:=G.bw b9;replace R:=R.bw b9;replace hs:=hs.bw b9;replace ht:=ht.bw b9;clear b9;go_wp2_with fail;refine (zEU _ 3 _ (b/16+k+9) f1 _ _ T4 (by omega) (by omega)).mono ?_
 rintro r w2 ⟨j6,a2,n2,c2,rfl,A5,j8⟩;replace j7:=zB j7 j8;replace A:=A.bw j8;replace G:=G.bw j8;replace R:=R.bw j8;replace hs:=hs.bw j8;replace ht:=ht.bw j8;clear j8 T4;obtain⟨W2,nv⟩:∃ W',W'=w2.alloc (.cells #[.bool j6,.slice a2 n2 c2] 29):=⟨_,rfl⟩;have E7:Below w2.heap.size w2 W2:=by rw[nv];exact bl1 _ _
 have X2:NmC W2 w2.heap.size ⟨j6,a2,n2,c2⟩:=by rw[nv];exact zBZ w2 ⟨j6,a2,n2,c2⟩ _
 have lA:=A.lt;have lG:=G.lt;obtain⟨x0,x1,x2,x3,x4⟩:=A;obtain⟨y0,y1,y2,y3,y4⟩:=G;have A:SpC w2 w.heap.size s:=⟨x0,x1,x2,x3,x4⟩;have G:SpC w2 (w.heap.size+1) t:=⟨y0,y1,y2,y3,y4⟩;go_wp2_with fail;rw[<- nv];clear nv;clear lA lG x0 x1 x2 x3 x4 y0 y1 y2 y3 y4;have rA:w2.heap.size≠w.heap.size+1+1:=YI R.lt;replace j7:=zB j7 E7;replace A:=A.bw E7;replace G:=G.bw E7;replace R:=R.bw E7;replace hs:=hs.bw E7;replace ht:=ht.bw E7;replace A5:=A5.bw E7;clear E7;refine (zJM _ s t k b w.heap.size lo hi lo' hi' hs ht hk hb hp I2 (by rw[<- zA fY];exact A.c4)).mono ?_
 rintro r w3 ⟨B3,f3,rfl,Ae,m9⟩;replace j7:=zB j7 m9;replace A:=A.bw m9;replace R:=R.bw m9;replace A5:=A5.bw m9;replace X2:=X2.bw m9;clear m9;go_wp2_with fail;refine (zIQ _ 3 _ (b/16+k+9) f3 _ _ Ae (by omega) (by omega)).mono ?_
 rintro r w4 ⟨D8,a4,n4,c4,rfl,G6,y9⟩;replace j7:=zB j7 y9;replace A:=A.bw y9;replace R:=R.bw y9;replace A5:=A5.bw y9;replace X2:=X2.bw y9;clear y9 Ae;have lA:=A.lt;have lX:=X2.lt;have lR:=R.lt;have DX:w.heap.size+1+1≠w2.heap.size:=λ e9=>rA e9.symm
 have Sl:w4.heap.size≠w.heap.size+1+1:=YI lR;have nR4':w.heap.size+1+1≠w4.heap.size:=YJ lR;have nX4:w2.heap.size≠w4.heap.size:=YJ lX;obtain⟨x0,x1,x2,x3,x4⟩:=A;obtain⟨z0,z1⟩:=X2;obtain⟨q0,q1,q2,q3,q4,q5⟩:=R;go_wp2_with fail;refine bodyPost_ret (v:=.agg #[.bool j6,.slice a2 n2 c2,.bool D8,.slice a4 n4 c4,.int .i64 s.bits]) (by simp[results,Tryz.results162,go_sem,lR,q0,q1,q2,q3,q4]) rfl ⟨⟨j6,a2,n2,c2,D8,a4,n4,c4,s.bits⟩,rfl,zA fY,?_,?_⟩
 ·first|with_reducible exact SpAt.put5 ⟨(A5.bw (bl1 _ _)).mono (by omega),(G6.bw (bl1 _ _)).mono (by omega)⟩ (by simp[go_sem,lR,q0]) (by simp[go_sem,lR,q1]) (by simp[go_sem,lR,q2]) (by simp[go_sem,lR,q3]) (by simp[go_sem,lR,q4]) _ _ _ _ _|with_reducible exact SpAt.bw (SpAt.put5 ⟨A5.mono (by omega),G6.mono (by omega)⟩ q0 q1 q2 q3 q4 _ _ _ _ _) (bl1 _ _)
 ·first|with_reducible exact jY (zL j7 _) (by omega) _ _ _ _ _|with_reducible exact zL (jY j7 (by omega) _ _ _ _ _) _
theorem SpC.put5n {w:World} {B B':Nat} {s:Sp} (h:SpC w B s) (hne:B≠B') (u0 u1 u2 u3 u4:Value) :
  SpC (((((w.setCell ⟨B',0,none⟩ u0).setCell ⟨B',1,none⟩ u1).setCell ⟨B',2,none⟩ u2).setCell ⟨B',3,none⟩ u3).setCell ⟨B',4,none⟩ u4) B s :=
 ⟨jG h.c0 hne _ _ _ _ _,jG h.c1 hne _ _ _ _ _,jG h.c2 hne _ _ _ _ _,jG h.c3 hne _ _ _ _ _,jG h.c4 hne _ _ _ _ _⟩
theorem NoC.put5n {w:World} {B B':Nat} (h:NoC w B) (hne:B≠B') (u0 u1 u2 u3 u4:Value) :
  NoC (((((w.setCell ⟨B',0,none⟩ u0).setCell ⟨B',1,none⟩ u1).setCell ⟨B',2,none⟩ u2).setCell ⟨B',3,none⟩ u3).setCell ⟨B',4,none⟩ u4) B:=by
 obtain⟨q0,q1,q2,q3,q4,q5⟩:=h;exact⟨jG q0 hne _ _ _ _ _,jG q1 hne _ _ _ _ _,jG q2 hne _ _ _ _ _,jG q3 hne _ _ _ _ _,jG q4 hne _ _ _ _ _,λ o=>by rw[zS,zS,zS,zS,zS];exact q5 o⟩
theorem sp_put {w:World} {B:Nat} {t:Sp} (h:SpC w B t) (s:Sp):SpC (((((w.setCell ⟨B,0,none⟩ (.bool s.ln)).setCell ⟨B,1,none⟩ (.slice s.la s.lN s.lc)).setCell ⟨B,2,none⟩ (.bool s.hn)).setCell ⟨B,3,none⟩ (.slice s.ha s.hN s.hc)).setCell ⟨B,4,none⟩ (.int .i64 s.bits)) B s:=by
 obtain⟨q0,q1,q2,q3,q4⟩:=h;constructor<;>simp[go_sem,q0,q1,q2,q3,q4]
theorem two_sp {w:World} {B B':Nat} {s t:Sp} (hA:SpC w B s) (hG:SpC w B' t) (hne:B≠B') (u v:Sp) :
  let w1:=((((w.setCell ⟨B,0,none⟩ (.bool u.ln)).setCell ⟨B,1,none⟩ (.slice u.la u.lN u.lc)).setCell ⟨B,2,none⟩ (.bool u.hn)).setCell ⟨B,3,none⟩ (.slice u.ha u.hN u.hc)).setCell ⟨B,4,none⟩ (.int .i64 u.bits)
  let w2:=((((w1.setCell ⟨B',0,none⟩ (.bool v.ln)).setCell ⟨B',1,none⟩ (.slice v.la v.lN v.lc)).setCell ⟨B',2,none⟩ (.bool v.hn)).setCell ⟨B',3,none⟩ (.slice v.ha v.hN v.hc)).setCell ⟨B',4,none⟩ (.int .i64 v.bits)
  SpC w2 B u/\SpC w2 B' v/\(∀ {x:Sp} {k:Nat} {lo hi:Int},SpAt w x k lo hi->SpAt w2 x k lo hi)/\(∀ {C:Nat},NoC w C->C≠B->C≠B'->NoC w2 C):=by
 intro w1 w2
 have h1:SpC w1 B u:=sp_put hA u;have h2:SpC w1 B' t:=hG.put5n (λ e=>hne e.symm) _ _ _ _ _
 exact⟨h1.put5n hne _ _ _ _ _,sp_put h2 v,λ h=>SpAt.put5 (SpAt.put5 h hA.c0 hA.c1 hA.c2 hA.c3 hA.c4 _ _ _ _ _) h2.c0 h2.c1 h2.c2 h2.c3 h2.c4 _ _ _ _ _,λ h n1 n2=>(h.put5n n1 _ _ _ _ _).put5n n2 _ _ _ _ _⟩
theorem zDK (w:World) (s t:Sp) (k b:Nat) (lo hi lo' hi':Int) (hs:SpAt w s k lo hi) (ht:SpAt w t k lo' hi') (hk:k<=300000000) (hb:b<=1000000) (hbits:s.bits=b) (hl:lo<=hi) (hp:0<lo') (I2:lo'<=hi') :
  Calls Tryz.prog 162 #[.agg s.q,.agg t.q] w (zH w b (b/16+k+10) (zDT lo hi lo' hi' b) (zER lo hi lo' hi' b)):=by
 have hq:=zE b;unfold zDT zER;have h:¬ hi'<0:=by omega
 rw[if_neg h,if_neg h];have:=zMG w s t k b lo hi lo' hi' hs ht hk hb hbits (by omega) (by omega)
 rw[zPB (YA hl (by omega)) (by omega) (by omega),zS6 (YA hl (by omega)) (by omega) (by omega)] at this
 exact this
open Ex
theorem Has.of_const {a b c:Rat} (h:Has a b (λ _=>c)):a<=c/\c<=b:=by
 constructor
 ·refine Rat.not_lt.1 λ D5=>?_
  obtain⟨N,k⟩:=h ((a-c)/2) (by grind)
  have:=(k N (YE _)).1;grind
 ·refine Rat.not_lt.1 λ D5=>?_
  obtain⟨N,k⟩:=h ((c-b)/2) (by grind)
  have:=(k N (YE _)).2;grind
theorem zTL (B:Nat) (x:Int):((x:Rat)/(Q B:Rat))*((x:Rat)/(Q B:Rat))*((Q B:Rat)*(Q B:Rat))=(x:Rat)*(x:Rat):=by
 have q:=jH B;have:=rdm (a:=(x:Rat)) q;have e:((x:Rat)/(Q B:Rat))*((x:Rat)/(Q B:Rat))*((Q B:Rat)*(Q B:Rat))=((x:Rat)/(Q B:Rat)*(Q B:Rat))*((x:Rat)/(Q B:Rat)*(Q B:Rat)):=by grind
 rw[e,this]
def yF (B:Nat) (a:Int × Int):Int × Int:=(rtZ (a.1*Q B),rtU (a.2*Q B))
theorem sqI_le {a b:Int} (ha:0<=a) (hb:0<=b) (h:a*a<=b*b):a<=b:=by
 refine Int.not_lt.1 λ D5=>?_
 have m1:=Int.mul_lt_mul_of_pos_left D5 (show 0<a by omega)
 have m2:=YA (show b<=a by omega) hb
 omega
theorem rtU_lt {x:Int} (h:0<=x) (h0:0<rtU x):(rtU x-1)*(rtU x-1)<x:=by
 obtain⟨h3,h4⟩:=zEK h;have:=zAM x;unfold rtU at *;split
 ·rename_i hh;rw[Int.add_sub_cancel];exact hh
 ·rename_i hh
  rw[if_neg hh] at h0;have e:(rtZ x-1)*(rtZ x-1)=rtZ x*rtZ x-2*rtZ x+1:=by grind
  omega
theorem zDH {B:Nat} {a:Int × Int} (ha:0<=a.1) (hl:a.1<=a.2):0<=(yF B a).1/\(yF B a).1<=(yF B a).2/\(yF B a).1*(yF B a).1<=a.1*Q B/\a.2*Q B<=(yF B a).2*(yF B a).2:=by
 have q:=zE B;have p1:=YF ha (show 0<=Q B by omega)
 have p2:=YA hl (show 0<=Q B by omega)
 exact⟨zAM _,zPK p2 p1,(zEK p1).1,rtU_sq (by omega)⟩
theorem zHH {B:Nat} {a:Int × Int} {W g:Int} (ha:0<=a.1) (hl:a.1<=a.2) (hw:a.2-a.1<=W) (hg:0<g) (hr:Q B<=g*(yF B a).2):(yF B a).2-(yF B a).1<=g*W+2:=by
 obtain⟨r0,r1,r2,r3⟩:=zDH (B:=B) ha hl;have q:=zE B;have p1:=YF ha (show 0<=Q B by omega)
 have p2:=YA hl (show 0<=Q B by omega)
 have z:=(zEK p1).2
 have t0:0<(yF B a).2:=by
  refine Int.not_le.1 λ h=>?_
  have:=YD h (show 0<=g by omega)
  omega
 have u:=rtU_lt (show 0<=a.2*Q B by omega) t0
 have e1:rtZ (a.1*Q B)=(yF B a).1:=rfl;have e2:rtU (a.2*Q B)=(yF B a).2:=rfl;rw[e1] at z;rw[e2] at u;generalize (yF B a).1=r at *;generalize (yF B a).2=t at *
 have k1:(t-r-2)*(t+r)<W*Q B:=by
  have m:=YA hw (show 0<=Q B by omega)
  have e:(t-r-2)*(t+r)=(t-1)*(t-1)-(r+1)*(r+1):=by grind
  have e3:(a.2-a.1)*Q B=a.2*Q B-a.1*Q B:=by grind
  omega
 refine Int.not_lt.1 λ hn=>?_
 have W0:0<=W:=by omega
 have m1:=YA (show g*W<=t-r-2 by omega) (show 0<=t+r by omega)
 have m2:=YD hr W0;have m3:=YF (YF (show 0<=g by omega) W0) r0
 have e4:g*W*(t+r)=W*(g*t)+g*W*r:=by grind
 omega
theorem zNZ {B:Nat} {a:Int × Int} {c:Int} (ha:0<=a.2) (hc:0<=c) (h:a.2<=c*c*Q B):(yF B a).2<=c*Q B+1:=by
 have q:=zE B;have p:=YF ha (show 0<=Q B by omega)
 have z:=(zEK p).1;have m:=YA h (show 0<=Q B by omega)
 have h1:rtZ (a.2*Q B)<=c*Q B:=sqI_le (zAM _) (YF hc (by omega)) (by
  have e:c*Q B*(c*Q B)=c*c*Q B*Q B:=by grind
  omega)
 show rtU (a.2*Q B)<=_
 unfold rtU;split<;>omega
def erU (n:Int) (_:Nat):Int:=2*n
def erD (d:Int) (k:Nat):Int:=d*(2*(k:Int)+1)
theorem zOU {n d:Int} (hn:0<=n) (hd:0<d):zP5 (erU n) (erD d):=⟨λ _=>by unfold erU;omega,λ k=>Int.mul_pos hd (by omega)⟩
def zA4 (n d:Int):Nat:=(2*n/d).toNat
theorem er_34 {n d:Int} (hn:0<=n) (hd:0<d) (k:Nat) (h:zA4 n d<=k):4*erU n (k+1)<=3*erD d (k+1):=by
 have h1:2*n/d<=(k:Int):=by unfold zA4 at h;omega
 have h2:=Int.lt_ediv_add_one_mul_self (2*n) hd;have h3:=YA (show 2*n/d+1<=(k:Int)+1 by omega) (show 0<=d by omega)
 have k0:=YF (show 0<=d by omega) (show 0<=(k:Int) by omega)
 unfold erU erD;have e1:((k:Int)+1)*d=d*(k:Int)+d:=by grind
 have e2:3*(d*(2*((k+1:Nat):Int)+1))=6*(d*(k:Int))+9*d:=by push_cast;grind
 omega
theorem zH0 {n d:Int} (hn:0<=n) (hd:0<d) (h:n<152*d):zA4 n d<=303:=by
 have:2*n/d<304:=Int.ediv_lt_of_lt_mul hd (by omega)
 unfold zA4;omega
theorem ceil_mul {x u v c:Int} (hv:0<v) (hx:0<=x) (h:u<=c*v) : -(-(x*u)/v)<=c*x:=by
 have h1:=YD h hx
 have h2 : -(c*x) <= -(x*u)/v:=Int.le_ediv_of_mul_le hv (by
  have e : -(c*x)*v = -(x*(c*v)):=by grind
  omega)
 omega
theorem zRB {n d:Int} (hn:0<=n) (hd:0<d) (h:n<152*d) (k:Nat):erU n (k+1)<=512*erD d (k+1):=by
 have k0:=YF (show 0<=d by omega) (show 0<=(k:Int) by omega)
 unfold erU erD;have e:512*(d*(2*((k+1:Nat):Int)+1))=1024*(d*(k:Int))+1536*d:=by push_cast;grind
 omega
theorem er_hi {B:Nat} {a:Int × Int} {n d:Int} (hn:0<=n) (hd:0<d) (h:n<152*d) (ha:0<=a.1) (hl:a.1<=a.2) (hb:a.2<=Q (B+4)) (k:Nat):(riT a (erU n) (erD d) k).2<=Q (B+2740):=by
 have ok:=zOU hn hd
 have low:∀ j,j<=304->(riT a (erU n) (erD d) j).2<=Q (B+4+9*j):=λ j=>by
  induction j with
  | zero=>intro _;exact hb
  | succ j ih =>
   intro hj
   have i1:=ih (by omega)
   have n1:=zAL ok ha j;have n2:=zEI ok hl j;have c:=ceil_mul (ok.d0 (j+1)) (show 0<=(riT a (erU n) (erD d) j).2 by omega) (zRB hn hd h j)
   have e:Q (B+4+9*(j+1))=512*Q (B+4+9*j):=by
    rw[show B+4+9*(j+1)=(B+4+9*j)+9 by omega,jF]
    have:Q 9=512:=rfl;rw[this];omega
   show -(-((riT a (erU n) (erD d) j).2*erU n (j+1))/erD d (j+1))<=_
   omega
 have hturn:=zH0 hn hd h
 have up:∀ j,(riT a (erU n) (erD d) (303+j)).2<=Q (B+2740):=λ j=>by
  induction j with
  | zero =>
   have:=low 303 (by omega)
   have:=zJ (show B+4+9*303<=B+2740 by omega)
   simp only[Nat.add_zero];omega
  | succ j ih =>
   have n1:=zAL ok ha (303+j);have n2:=zEI ok hl (303+j);have f:=zM1 (x:=(riT a (erU n) (erD d) (303+j)).2) (ok.d0 (303+j+1)) (by omega) (er_34 hn hd (303+j) (by omega))
   have q:=zJ (show 2<=B+2740 by omega)
   have q2:Q 2=4:=rfl
   show -(-((riT a (erU n) (erD d) (303+j)).2*erU n (303+j+1))/erD d (303+j+1))<=_
   omega
 by_cases hk:k<=303
 ·have:=low k (by omega)
  have:=zJ (show B+4+9*k<=B+2740 by omega)
  omega
 ·have:=up (k-303)
  rwa [show 303+(k-303)=k by omega] at this
theorem er_wide {a:Int × Int} {n d:Int} (hn:0<=n) (hd:0<d) (h:n<152*d) (hl:a.1<=a.2) (hw:a.2-a.1+1<=Q 42) (k:Nat):(riT a (erU n) (erD d) k).2-(riT a (erU n) (erD d) k).1<=Q 2780:=by
 have ok:=zOU hn hd
 have low:∀ j,j<=304->(riT a (erU n) (erD d) j).2-(riT a (erU n) (erD d) j).1+1<=Q (42+9*j):=λ j=>by
  induction j with
  | zero=>intro _;exact hw
  | succ j ih =>
   intro hj
   have i1:=ih (by omega)
   have n2:=zEI ok hl j
   have c:=kI (a:=riT a (erU n) (erD d) j) (n:=erU n (j+1)) (d:=erD d (j+1)) (c:=512*((riT a (erU n) (erD d) j).2-(riT a (erU n) (erD d) j).1)) (ok.d0 (j+1)) (by
    have:=YD (zRB hn hd h j) (show 0<=(riT a (erU n) (erD d) j).2-(riT a (erU n) (erD d) j).1 by omega)
    have e:((riT a (erU n) (erD d) j).2-(riT a (erU n) (erD d) j).1)*(512*erD d (j+1))=512*((riT a (erU n) (erD d) j).2-(riT a (erU n) (erD d) j).1)*erD d (j+1):=by grind
    omega)
   have e:Q (42+9*(j+1))=512*Q (42+9*j):=by
    rw[show 42+9*(j+1)=(42+9*j)+9 by omega,jF]
    have:Q 9=512:=rfl;rw[this];omega
   show (zK (riT a (erU n) (erD d) j) (erU n (j+1)) (erD d (j+1))).2-(zK (riT a (erU n) (erD d) j) (erU n (j+1)) (erD d (j+1))).1+1<=_
   omega
 have hturn:=zH0 hn hd h
 have q9:9<=Q 2780:=by
  have:=zJ (show 4<=2780 by omega)
  have:Q 4=16:=rfl;omega
 have up:∀ j,(riT a (erU n) (erD d) (303+j)).2-(riT a (erU n) (erD d) (303+j)).1<=Q 2780:=λ j=>by
  induction j with
  | zero =>
   have:=low 303 (by omega)
   have:=zJ (show 42+9*303<=2780 by omega)
   simp only[Nat.add_zero];omega
  | succ j ih =>
   have n2:=zEI ok hl (303+j);obtain⟨D,hD⟩:∃ D,D=(riT a (erU n) (erD d) (303+j)).2-(riT a (erU n) (erD d) (303+j)).1:=⟨_,rfl⟩
   have c:=kI (a:=riT a (erU n) (erD d) (303+j)) (n:=erU n (303+j+1)) (d:=erD d (303+j+1)) (c:=Q 2780-1) (ok.d0 (303+j+1)) (by
    rw[<- hD] at ih ⊢;have f:=er_34 hn hd (303+j) (by omega)
    have d0:=ok.d0 (303+j+1);have u0:=ok.u0 (303+j+1);generalize erU n (303+j+1)=u at *;generalize erD d (303+j+1)=v at *;generalize Q 2780=q at *;have m1:=YA ih u0;have m2:=YD f (show 0<=q by omega)
    have m3:=YA (show 4<=q by omega) (show 0<=v by omega)
    have e1:q*(4*u)=4*(q*u):=by grind
    have e2:q*(3*v)=3*(q*v):=by grind
    have e3:(q-1)*v=q*v-v:=by grind
    omega)
   show (zK (riT a (erU n) (erD d) (303+j)) (erU n (303+j+1)) (erD d (303+j+1))).2-(zK (riT a (erU n) (erD d) (303+j)) (erU n (303+j+1)) (erD d (303+j+1))).1<=_
   omega
 by_cases hk:k<=303
 ·have:=low k (by omega)
  have:=zJ (show 42+9*k<=2780 by omega)
  omega
 ·have:=up (k-303)
  rwa [show 303+(k-303)=k by omega] at this
end Go.Proofs.YtgmnknmjainabacGreat
namespace Go.Proofs.YtgmnknmjainabacGreat.Ex
def gT (y:Rat):Nat->Rat
 | 0=>1
 | n+1=>2*y/(2*((n:Rat)+1)+1)*gT y n
def gS (y:Rat) (M:Nat):Rat:=S (gT y) M
theorem eT_gT (x:Rat) (n:Nat):eT x n=x*gT (x*x) n:=by
 induction n with
 | zero=>show x=x*1;grind
 | succ n ih =>
  show 2*(x*x)/(2*((n:Rat)+1)+1)*eT x n=x*(2*(x*x)/(2*((n:Rat)+1)+1)*gT (x*x) n)
  rw[ih];generalize 2*(x*x)/(2*((n:Rat)+1)+1)=c;grind
theorem eS_gS (x:Rat) (M:Nat):eS x M=x*gS (x*x) M:=by
 induction M with
 | zero=>show (0:Rat)=x*0;grind
 | succ n ih =>
  show eS x n+eT x n=x*(gS (x*x) n+gT (x*x) n)
  rw[ih,eT_gT];grind
theorem zJT {y:Rat} (h:0<=y) (n:Nat):0<=gT y n:=by
 induction n with
 | zero=>show (0:Rat)<=1;grind
 | succ n ih=>exact Yz (jW (zDC n) (by grind)) ih
theorem gT_mono {y y':Rat} (h:0<=y) (hy:y<=y') (n:Nat):gT y n<=gT y' n:=by
 induction n with
 | zero=>exact Rat.le_refl
 | succ n ih =>
  have p:=zDC n;have c:2*y/(2*((n:Rat)+1)+1)<=2*y'/(2*((n:Rat)+1)+1):=jV p (by rw[rdm p];grind)
  have c0:0<=2*y/(2*((n:Rat)+1)+1):=jW p (by grind)
  have g0:=zJT (show 0<=y' by grind) n
  exact Rat.le_trans (Yy ih c0) (YB c g0)
theorem zDA {y:Rat} (h:0<=y) (M:Nat):0<=gS y M:=by
 induction M with
 | zero=>show (0:Rat)<=0;grind
 | succ n ih=>have:=zJT h n;show 0<=gS y n+gT y n;grind
theorem zH3 {y y':Rat} (h:0<=y) (hy:y<=y') (M:Nat):gS y M<=gS y' M:=by
 induction M with
 | zero=>show (0:Rat)<=0;grind
 | succ n ih=>have:=gT_mono h hy n;show gS y n+gT y n<=gS y' n+gT y' n;grind
theorem gS_bdd {y:Rat} (h:0<=y):∃ K,0<=K/\∀ M,gS y M<=K:=by
 obtain⟨K,k0,hK⟩:=zJS (x:=y+1) (by grind)
 refine⟨K,k0,λ M=>?_⟩
 have q:=Yz h h;have m:=zH3 (y':=(y+1)*(y+1)) h (by grind) M
 have e:=eS_gS (y+1) M;have g0:=zDA (y:=(y+1)*(y+1)) (by grind) M
 have m2:=Yz h g0;have:=hK M;grind
def qS (f:Nat->Rat) (y:Rat) (M:Nat):Rat:=f M*gS y M/ex y M
theorem zRH {y:Rat} (h:0<=y) {M:Nat} (hM:1<=M):1<=ex y M:=E_one h hM
theorem qS_ok {f:Nat->Rat} {y F K:Rat} (h:0<=y) {M:Nat} (hM:1<=M) (f0:0<=f M) (fF:f M<=F) (hK:gS y M<=K):0<=qS f y M/\qS f y M<=F*K/\qS f y M*ex y M=f M*gS y M:=by
 have e1:=zRH h hM;have g0:=zDA h M;have p:=Yz f0 g0;obtain⟨d1,d2⟩:=zCM p e1;refine⟨d1,?_,rdm (by grind)⟩
 have m1:=YB fF g0;have m2:=Yy hK (show 0<=F by grind)
 unfold qS;grind
theorem cmp_key {a c E E' f f' g g' t e:Rat} (a0:0<=a) (c0:0<=c) (e0:0<e) (t0:0<=t) (t4:t<=1/4) (E1:1<=E) (GH:1<=E') (hE:E'<=E*(1+2*t)+e) (ha:a*E=f*g) (hc:c*E'=f'*g') (pS:0<=f) (hf:f<=f'+e) (g0:0<=g) (gg:g<=g'):a<=c*(1+2*t)+e*(2*g'+a):=by
 have h1:a*E'<=f*g*(1+2*t)+a*e:=by
  have:=Yy hE a0;have e1:a*(E*(1+2*t)+e)=a*E*(1+2*t)+a*e:=by grind
  rw[e1,ha] at this;exact this
 have h2:f*g<=f'*g'+e*g':=by
  have m1:=Yy gg pS;have m2:=YB hf (show 0<=g' by grind)
  grind
 have h3:=YB h2 (show 0<=1+2*t by grind)
 have eg:=Yz (YC e0) (show 0<=g' by grind)
 have h4:e*g'*(1+2*t)<=e*g'*2:=Yy (by grind) eg
 have h5:a*E'<=c*E'*(1+2*t)+e*(2*g'+a):=by rw[hc];grind
 have r0:0<=e*(2*g'+a):=Yz (YC e0) (by grind)
 have h6:=Yy GH r0;refine Rat.le_of_mul_le_mul_right (c:=E') ?_ (by grind)
 have e2:(c*(1+2*t)+e*(2*g'+a))*E'=c*E'*(1+2*t)+e*(2*g'+a)*E':=by grind
 rw[e2];grind
theorem cmpG {y y':Rat} (hy:0<=y) (Rv:y<=y') (h4:y'-y<=1/4) {f f':Nat->Rat} {F:Rat} {N0:Nat} (f0:∀ M,0<=f M) (Xs:∀ M,0<=f' M) (fF:∀ M,N0<=M->f M<=F) (IX:∀ M,N0<=M->f' M<=F) (hf:LeN f f') {K:Rat} (hK:∀ M,gS y' M<=K):LeN (qS f y) (λ M=>qS f' y' M+2*(F*K)*(y'-y)):=by
 have F0:0<=F:=Rat.le_trans (f0 N0) (fF N0 (YE _));have K0:0<=K:=Rat.le_trans (zDA (show 0<=y' by grind) 0) (hK 0)
 have FK:=Yz F0 K0;obtain⟨t,ht⟩:∃ t,t=y'-y:=⟨_,rfl⟩;have t0:0<=t:=by grind
 intro e0 FF
 obtain⟨D,hD⟩:∃ D,D=2*K+F*K+1:=⟨_,rfl⟩;have D0:0<D:=by grind
 obtain⟨e,he⟩:∃ e,e=e0/D:=⟨_,rfl⟩;have eD:e*D=e0:=by rw[he];exact rdm D0
 have ep:0<e:=by rw[he];exact zF FF D0
 obtain⟨N1,k1⟩:=hf e ep;obtain⟨N2,k2⟩:=zA5 y t e ep;refine⟨N0+N1+N2+2,λ M hM=>?_⟩
 obtain⟨a1,a2,a3⟩:=qS_ok (f:=f) hy (show 1<=M by omega) (f0 M) (fF M (by omega)) (Rat.le_trans (zH3 hy Rv M) (hK M))
 obtain⟨c1,c2,c3⟩:=qS_ok (f:=f') (show 0<=y' by grind) (show 1<=M by omega) (Xs M) (IX M (by omega)) (hK M)
 have E1:=zRH hy (show 1<=M by omega)
 have GH:=zRH (show 0<=y' by grind) (show 1<=M by omega)
 have lit:=(zAB (h:=t) (b:=t) ⟨by grind,by grind⟩ (by grind) (M:=M) (by omega)).2
 have et:ex t M=E t M:=rfl;have ey:y+t=y':=by grind
 have kk:=(k2 M (by omega)).1
 simp only[] at kk;rw[ey] at kk;have tt:t*t<=t*(1/4):=Yy (by grind) t0
 have hE:ex y' M<=ex y M*(1+2*t)+e:=by
  have l2:ex t M<=1+2*t:=by rw[et];grind
  have:=Yy l2 (show 0<=ex y M by grind)
  grind
 have key:=cmp_key a1 c1 ep t0 (by grind) E1 GH hE a3 c3 (f0 M) (k1 M (by omega)) (zDA hy M) (zH3 hy Rv M)
 have b1:=Yy (show 2*gS y' M+qS f y M<=D by have:=hK M;grind) (YC ep)
 have b2:=YB c2 t0;rw[eD] at b1;simp only[];rw[<- ht];grind
def zC9 (R:Nat->Rat) (y:Rat) (f:Nat->Rat) (M:Nat):Rat:=2*(f M*gS y M)/(R M*ex y M)
theorem zG6 (R:Nat->Rat) (x:Rat):zC9 R (x*x) (λ _=>x)=zRF R x:=by
 funext M
 unfold zC9 zRF;rw[eS_gS]
theorem zLL {P R:Nat->Rat} (h:yE P R) {y:Rat} (hy:0<=y) (f:Nat->Rat) {M:Nat} (hM:1<=M):zC9 R y f M=qS f y M*(2*(1/R M)):=by
 have r1:=h.one M;have h1:=zRH hy hM;have p1:0<R M:=by grind
 have p2:0<ex y M:=by grind
 have p3:0<R M*ex y M:=Rat.mul_pos p1 p2;have a:=rdm (a:=2*(f M*gS y M)) p3;have b:=rdm (a:=f M*gS y M) p2;have c:=rdm (a:=1) p1;unfold zC9 qS
 have lhs:f M*gS y M/ex y M*(2*(1/R M))*(R M*ex y M)=2*(f M*gS y M):=by
  have:f M*gS y M/ex y M*(2*(1/R M))*(R M*ex y M)=2*((f M*gS y M/ex y M*ex y M)*(1/R M*R M)):=by grind
  rw[this,b,c];grind
 exact Rat.le_antisymm (Rat.le_of_mul_le_mul_right (by rw[lhs,a];exact Rat.le_refl) p3) (Rat.le_of_mul_le_mul_right (by rw[lhs,a];exact Rat.le_refl) p3)
theorem cmpE {P R:Nat->Rat} (h:yE P R) {y y' C:Rat} (hy:0<=y) (oM:0<=y') (C0:0<=C) {f f':Nat->Rat} (hq:LeN (qS f y) (λ M=>qS f' y' M+C)):LeN (zC9 R y f) (λ M=>zC9 R y' f' M+2*C):=by
 obtain⟨z,hz,k⟩:=hq.null;refine LeN.of_null (hz.bmul ((Bdd.const 2).mul (zH8 h.one))) 1 λ M hM=>?_
 rw[zLL h hy f hM,zLL h oM f' hM];obtain⟨i0,i1⟩:=zCM (a:=1) (by grind) (h.one M)
 have m:=YB (k M) (show 0<=2*(1/R M) by grind)
 have m2:=Yy i1 C0;grind
theorem root0 (p:Rat) (hp:0<=p) (k:Nat):∃ r:Rat,0<=r/\r*r<=p/\p<=(r+1/((k:Rat)+1))*(r+1/((k:Rat)+1)):=by
 obtain⟨n,hn⟩:=kB p;have k0:(0:Rat)<(k:Rat)+1:=zAV k;have u0:(0:Rat)<1/((k:Rat)+1):=zF (by grind) k0
 have um:1/((k:Rat)+1)*((k:Rat)+1)=1:=rdm k0;obtain⟨u,hu⟩:∃ u,u=1/((k:Rat)+1):=⟨_,rfl⟩;rw[<- hu] at u0 um ⊢
 have top:p<=((((n+1)*(k+1):Nat):Rat)*u)*((((n+1)*(k+1):Nat):Rat)*u):=by
  have e:(((n+1)*(k+1):Nat):Rat)*u=(n:Rat)+1:=by
   have:(((n+1)*(k+1):Nat):Rat)=((n:Rat)+1)*((k:Rat)+1):=by push_cast;rfl
   rw[this];grind
  rw[e];have n0:(0:Rat)<=(n:Rat):=by exact_mod_cast Nat.zero_le n
  have:=Yz n0 n0;have:=hn.2;grind
 obtain⟨j,_,j1,j2⟩:=zBN (p:=λ j=>p<=((j:Rat)*u)*((j:Rat)*u)) (K:=(n+1)*(k+1)) top
 cases j with
 | zero =>
  have e:(((0:Nat):Rat)*u)=0:=by grind
  rw[e] at j1;exact⟨0,by grind,by grind,by have:=Yz (YC u0) (YC u0);grind⟩
 | succ i =>
  have h:=j2 i (Nat.lt_succ_self i);have i0:(0:Rat)<=(i:Rat):=by exact_mod_cast Nat.zero_le i
  have iu:=Yz i0 (YC u0);refine⟨(i:Rat)*u,by grind,by grind,?_⟩
  have e:((i+1:Nat):Rat)=(i:Rat)+1:=by push_cast;rfl
  rw[e] at j1;have e2:((i:Rat)+1)*u=(i:Rat)*u+u:=by grind
  rw[e2] at j1;exact j1
structure RtOf (y:Rat) (r:Nat->Rat):Prop where
 nn:∀ M,0<=r M
 sq:Null (λ M=>r M*r M-y)
theorem zKL {a b:Rat} (ha:0<=a) (h:a*a<=b*b) (hb:0<=b):a<=b:=by
 refine Rat.not_lt.1 λ D5=>?_
 have m1:=Rat.mul_lt_mul_of_pos_left D5 (show 0<a by grind)
 have m2:=YB (YC D5) hb;grind
theorem RtOf.ge {y:Rat} {r:Nat->Rat} (h:RtOf y r) {x:Rat} (hx:0<=x) (K6:x*x<=y):LeN (λ _=>x) r:=λ e he=>by
 obtain⟨N,k⟩:=h.sq (e*e) (Rat.mul_pos he he);refine⟨N,λ M hM=>?_⟩
 have a:=(k M hM).1;have n:=h.nn M;simp only[] at a ⊢;have re:=Yz n (YC he);exact zKL hx (by grind) (by grind)
theorem RtOf.le {y:Rat} {r:Nat->Rat} (h:RtOf y r) {x:Rat} (hx:0<=x) (K6:y<=x*x):LeN r (λ _=>x):=λ e he=>by
 obtain⟨N,k⟩:=h.sq (e*e) (Rat.mul_pos he he);refine⟨N,λ M hM=>?_⟩
 have a:=(k M hM).2;have n:=h.nn M;simp only[] at a ⊢;have re:=Yz hx (YC he);exact zKL n (by grind) (by grind)
theorem RtOf.y0 {y:Rat} {r:Nat->Rat} (h:RtOf y r):0<=y:=by
 refine Rat.not_lt.1 λ D5=>?_
 obtain⟨N,k⟩:=h.sq (-y/2) (by grind)
 have a:=(k N (YE _)).2;have n:=Yz (h.nn N) (h.nn N);simp only[] at a;grind
theorem RtOf.bd {y:Rat} {r:Nat->Rat} (h:RtOf y r):∃ N:Nat,∀ M,N<=M->r M<=y+2:=by
 have y0:=h.y0;have q:=Yz y0 y0;obtain⟨N,k⟩:=h.le (x:=y+1) (by grind) (by grind) 1 (by grind)
 exact⟨N,λ M hM=>by have:=k M hM;simp only[] at this;grind⟩
theorem zI2 {r y u:Rat} (hr:0<=r) (h1:r*r<=y) (hu:0<=u) (u1:u<=1):(r+u)*(r+u)-r*r<=(2*y+3)*u:=by
 have y0:=Yz hr hr;have r1:r<=y+1:=zKL hr (by have:=Yz (show 0<=y by grind) (show 0<=y by grind);grind) (by grind)
 have m1:=YB r1 hu;have m2:=YB u1 hu;grind
theorem zNL {a C:Rat} {n K:Nat} (h:4*C<=(K:Rat)) (C0:0<=C):1/(((n+K:Nat):Rat)+1)<=1/((n:Rat)+1)/\C*(1/(((n+K:Nat):Rat)+1))<=1/4/\0<=1/(((n+K:Nat):Rat)+1)/\1/(((n+K:Nat):Rat)+1)<=1:=by
 have p1:(0:Rat)<((n+K:Nat):Rat)+1:=zAV (n+K);have p2:(0:Rat)<(n:Rat)+1:=zAV n;have e:((n+K:Nat):Rat)=(n:Rat)+(K:Rat):=by push_cast;rfl
 have n0:(0:Rat)<=(n:Rat):=by exact_mod_cast Nat.zero_le n
 have K0:(0:Rat)<=(K:Rat):=by exact_mod_cast Nat.zero_le K
 have a:=rdm (a:=1) p1;have b:=rdm (a:=1) p2;obtain⟨u,hu⟩:∃ u,u=1/(((n+K:Nat):Rat)+1):=⟨_,rfl⟩;have u0:0<=u:=by rw[hu];exact jW p1 (by grind)
 rw[<- hu] at a ⊢;rw[e] at a;have nu:=Yz u0 n0;have Ku:=Yz u0 K0;refine⟨jW p2 (by grind),?_,u0,by grind⟩
 have:=Yy h u0;grind
theorem zRC {P R:Nat->Rat} (h:yE P R) {y:Rat} {r:Nat->Rat} (hr:RtOf y r) {x:Rat} (hx:0<=x) (K6:x*x<=y):LeN (zRF R x) (zC9 R y r):=by
 have y0:=hr.y0;obtain⟨N0,tq⟩:=hr.bd;obtain⟨K,K0,hK⟩:=gS_bdd y0;obtain⟨k,hk⟩:=kB (4*(2*y+3));have FK:=Yz (show 0<=y+2 by grind) K0
 refine LeN.lim (C:=2*(2*((y+2)*K)*(2*y+3))) (by have:=Yz FK (show 0<=2*y+3 by grind);grind) λ n=>?_
 obtain⟨w1,w2,w3,w4⟩:=zNL (a:=0) (n:=n) hk.2 (show 0<=2*y+3 by grind)
 obtain⟨s,s0,s1,s2⟩:=root0 y y0 (n+k);obtain⟨u,hu⟩:∃ u,u=1/(((n+k:Nat):Rat)+1):=⟨_,rfl⟩;rw[<- hu] at w1 w2 w3 w4 s2;have st:=zI2 s0 s1 w3 w4
 obtain⟨x',cW,aV,DE⟩:∃ x',x<=x'/\s<=x'/\x'*x'<=y:=by
  by_cases c:x<=s
  ·exact⟨s,c,Rat.le_refl,s1⟩
  ·exact⟨x,Rat.le_refl,by grind,K6⟩
 have x0:0<=x':=by grind
 have ss:s*s<=x'*x':=Rat.le_trans (Yy aV s0) (YB aV x0);have d:y-x'*x'<=(2*y+3)*u:=by grind
 have xx:=Yz x0 x0
 have x2:x'<=y+2:=by
  have:=zKL (b:=y+1) x0 (by have:=Yz y0 y0;grind) (by grind)
  grind
 have c:=cmpG (f:=λ _=>x') (f':=r) (F:=y+2) (N0:=N0) xx DE (by grind) (λ _=>x0) hr.nn (λ _ _=>x2) tq (hr.ge x0 DE) hK
 have c2:=cmpE h xx y0 (Yz (by grind) (by grind)) c
 rw[zG6] at c2;refine (zM0 h hx cW).trans (c2.trans (LeN.of_le 0 λ M _=>?_))
 have m1:=Yy (Rat.le_trans d (Yy w1 (show 0<=2*y+3 by grind))) (show 0<=2*((y+2)*K) by grind)
 grind
theorem zRD {P R:Nat->Rat} (h:yE P R) {y:Rat} {r:Nat->Rat} (hr:RtOf y r) {x:Rat} (hx:0<=x) (K6:y<=x*x):LeN (zC9 R y r) (zRF R x):=by
 have y0:=hr.y0;obtain⟨N0,tq⟩:=hr.bd;obtain⟨K,K0,hK⟩:=gS_bdd (y:=y+1) (by grind)
 obtain⟨k,hk⟩:=kB (4*(2*y+3));have FK:=Yz (show 0<=y+2 by grind) K0
 refine LeN.lim (C:=2*(2*((y+2)*K)*(2*y+3))) (by have:=Yz FK (show 0<=2*y+3 by grind);grind) λ n=>?_
 obtain⟨w1,w2,w3,w4⟩:=zNL (a:=0) (n:=n) hk.2 (show 0<=2*y+3 by grind)
 obtain⟨s,s0,s1,s2⟩:=root0 y y0 (n+k);obtain⟨u,hu⟩:∃ u,u=1/(((n+k:Nat):Rat)+1):=⟨_,rfl⟩;rw[<- hu] at w1 w2 w3 w4 s2;have st:=zI2 s0 s1 w3 w4
 obtain⟨x',cW,aV,DE,x0⟩:∃ x',x'<=x/\x'<=s+u/\y<=x'*x'/\0<=x':=by
  by_cases c:x<=s+u
  ·exact⟨x,Rat.le_refl,c,K6,hx⟩
  ·exact⟨s+u,by grind,Rat.le_refl,s2,by grind⟩
 have ss:x'*x'<=(s+u)*(s+u):=Rat.le_trans (Yy aV x0) (YB aV (by grind))
 have d:x'*x'-y<=(2*y+3)*u:=by grind
 have x2:x'<=y+2:=by
  have:=zKL (a:=x') (b:=y+1) x0 (by have:=Yz y0 y0;grind) (by grind)
  grind
 have K':∀ M,gS (x'*x') M<=K:=λ M=>Rat.le_trans (zH3 (by grind) (by grind) M) (hK M)
 have c:=cmpG (f:=r) (f':=λ _=>x') (F:=y+2) (N0:=N0) y0 DE (by grind) hr.nn (λ _=>x0) tq (λ _ _=>x2) (hr.le x0 DE) K'
 have c2:=cmpE h y0 (by grind) (Yz (by grind) (by grind)) c
 rw[zG6] at c2;refine c2.trans (LeN.trans (LeN.of_le 0 λ M _=>?_) ((zM0 h x0 cW).add (LeN.refl (λ _=>2*(2*((y+2)*K)*(2*y+3))*(1/((n:Rat)+1))))))
 have m1:=Yy (Rat.le_trans d (Yy w1 (show 0<=2*y+3 by grind))) (show 0<=2*((y+2)*K) by grind)
 grind
theorem zMZ {R:Nat->Rat} (h:yE piS R) {y:Rat} {r:Nat->Rat} (hr:RtOf y r):LeN (zC9 R y r) (λ _=>1):=by
 have y0:=hr.y0;have q:=Yz y0 y0;exact (zRD h hr (x:=y+1) (by grind) (by grind)).trans (erf_one h (by grind))
theorem zF2 {P R:Nat->Rat} (h:yE P R) {y:Rat} {r:Nat->Rat} (hr:RtOf y r) {M:Nat} (hM:1<=M):0<=zC9 R y r M:=by
 rw[zLL h hr.y0 r hM];have a:=(zCM (Yz (hr.nn M) (zDA hr.y0 M)) (zRH hr.y0 hM)).1;have b:=(zCM (a:=1) (by grind) (h.one M)).1
 exact Yz a (by grind)
end Go.Proofs.YtgmnknmjainabacGreat.Ex
