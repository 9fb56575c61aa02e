/-
  Its own texts.
-/
import Derived.Test.YtgmnknmjainabacGreatH04
set_option maxRecDepth 100000
set_option maxHeartbeats 40000000
set_option linter.unnecessarySimpa false
set_option linter.unusedSimpArgs false
set_option linter.unusedVariables false
namespace Go.Proofs.YtgmnknmjainabacGreat
open Go.RowKit
attribute [local go_sem ↓] Go.wp_at_zero Go.wp_at_succ
theorem zFY (x:Int):zN x x=0:=by simp[zN]
theorem zF5 (neg:Bool) (a:Option Addr) (n cap k:Nat) (x:Int) (w:World) (h:IntAt w neg a n cap k x) :
  Calls Tryz.prog 61 #[.agg #[.bool neg,.slice a n cap]] w λ r w'=>r=.returned (.bool true)/\Below w.heap.size w w':=by
 obtain⟨d,h1,h2,h3,h4,h5⟩:=h
 have h6:zHJ neg n d=true:=by
  have:=zTF (neg:=neg) h2 h3
  simpa using this
 exact (zLW neg a n cap d w h1).mono λ r w' ⟨p1,p2⟩=>⟨by rw[p1,h6],p2⟩
theorem zKP (w:World) (s:Sp):Calls Tryz.prog 15 #[.agg s.q] w λ r w'=>r=.returned (.agg s.q)/\Below w.heap.size w w':=by
 go_enter Tryz.func15,Tryz.ntmps15
 go_wp2_with fail;refine bodyPost_ret (v:=.agg s.q) (by simp[results,Tryz.results15,go_sem]) rfl ⟨rfl,?_⟩
 first|exact bl2 _ _ _|exact jS (bl2 _ _ _) (Nat.le_succ _) _ _ _ _ _
theorem zMK (w:World) (s t:Sp) (k:Nat) (lo hi lo' hi':Int) (hs:SpAt w s k lo hi) (ht:SpAt w t k lo' hi') (hk:k<=600000000) :
  Calls Tryz.prog 92 #[.agg s.q,.agg t.q] w (zG w s.bits (k+1) (lo-hi') (hi-lo')):=by
 have iA:w.heap.size≠w.heap.size+1+1:=by omega
 have iB:w.heap.size+1+1≠w.heap.size:=by omega
 have le2:w.heap.size<=w.heap.size+1+1:=by omega
 go_enter Tryz.func92,Tryz.ntmps92
 go_wp2
 go_region_held3 (λ w'=>cK w' w.heap.size s (cK0 w' (w.heap.size+1) t)) ((dsimp only[cK,cK0,nK,nK0,rK,rK0];go_keep))
  (first
   | (go_at_call 139;refine (zC9 _ t k lo' hi' (ht.bw (bl3 _ _ _ _).drew) (by omega)).mono ?_;rintro r w1 ⟨u,rfl,A8,C7,b9⟩;have I3:=zC A8;clear A8;obtain⟨C9,B9,D6⟩:=zZ (w.heap.size+1+1+1) (by simp) b9)
   | (go_at_call 51;refine (zGP _ s u k lo hi (-hi') (-lo') (hs.bw (zB (bl3 _ _ _ _).drew b9)) C7 (by omega)).mono ?_;rintro r w2 ⟨v,rfl,J7,J5,j7⟩;have Tz:=zC J7;clear J7;obtain⟨A9,B7,E7⟩:=zZ (w.heap.size+1+1+1) C9 j7))
 go_wp2;have q0:w2.cell? ⟨w.heap.size+1+1,0,none⟩=some (.bool false):=by simp[B7,B9,go_sem]
 have q1:w2.cell? ⟨w.heap.size+1+1,1,none⟩=some (.slice none 0 0):=by simp[B7,B9,go_sem]
 have q2:w2.cell? ⟨w.heap.size+1+1,2,none⟩=some (.bool false):=by simp[B7,B9,go_sem]
 have q3:w2.cell? ⟨w.heap.size+1+1,3,none⟩=some (.slice none 0 0):=by simp[B7,B9,go_sem]
 have q4:w2.cell? ⟨w.heap.size+1+1,4,none⟩=some (.int .i64 0):=by simp[B7,B9,go_sem]
 refine bodyPost_ret (v:=.agg v.q) (by simp[results,Tryz.results92,go_sem,q0,q1,q2,q3,q4]) rfl ⟨v,rfl,zA Tz,?_,?_⟩
 ·rw[Int.sub_eq_add_neg,Int.sub_eq_add_neg]
  exact SpAt.put5 J5 q0 q1 q2 q3 q4 _ _ _ _ _
 ·exact jS (zB (zB (bl3 _ _ _ _).drew b9) j7) le2 _ _ _ _ _
theorem zTL (w:World) (s t:Sp) (k:Nat) (lo hi:Int) (hs:SpAt w s k lo hi) (ht:SpAt w t k lo hi) (hb:s.bits=t.bits) :
  Calls Tryz.prog 39 #[.agg s.q,.agg t.q] w λ r w'=>r=.returned (.bool true)/\Below w.heap.size w w':=by
 have b9:(s.bits == t.bits)=true:=by simp[hb]
 clear hb
 go_enter Tryz.func39,Tryz.ntmps39
 go_wp2_with fail;refine (jY _ _ _ _ _ _ _ _ k k lo lo _ (hs.lo.bw (bl2 _ _ _)) (ht.lo.bw (bl2 _ _ _))).mono ?_;rintro r w1 ⟨rfl,W4⟩;obtain⟨C9,B9,D6⟩:=zZ (w.heap.size+1+1) (by simp) W4
 have A6:Below w.heap.size w w1:=zB (bl2 _ _ _) W4;rw[zFY];go_wp2_with fail;refine (jY _ _ _ _ _ _ _ _ k k hi hi _ (hs.hi.bw A6) (ht.hi.bw A6)).mono ?_;rintro r w2 ⟨rfl,j7⟩;obtain⟨A9,B7,E7⟩:=zZ (w.heap.size+1+1) C9 j7;have o9:Below w.heap.size w w2:=zB A6 j7;rw[zFY];go_wp2_with fail;refine (zF5 _ _ _ _ k lo _ (hs.lo.bw o9)).mono ?_;rintro r w3 ⟨rfl,o7⟩;obtain⟨J1,L6,O0⟩:=zZ (w.heap.size+1+1) A9 o7;have D3:Below w.heap.size w w3:=zB o9 o7;go_wp2_with fail;refine (zF5 _ _ _ _ k hi _ (hs.hi.bw D3)).mono ?_;rintro r w4 ⟨rfl,y9⟩;go_wp2_with fail
 go_ret
 exact⟨rfl,zB D3 y9⟩
theorem zG5 (neg:Bool) (a:Option Addr) (n cap k1:Nat) (k x:Int) (w:World) (h1:IntAt w neg a n cap k1 x) (W6:k1<=900000000) (bA : -1000000000<=k) (hk:k<=1000000000) :
  Calls Tryz.prog 120 #[.agg #[.bool neg,.slice a n cap],.int .i64 k] w λ r w' =>
   ∃ j9 a' n' m7,r=.returned (.agg #[.bool j9,.slice a' n' m7])/\IntAt w' j9 a' n' m7 ((-k).toNat/16+k1+5) (-(zA9 (-x) k))/\Below w.heap.size w w':=by
 go_enter Tryz.func120,Tryz.ntmps120
 go_wp2_with (first
  | (go_at_call 87;have hq:=j7;refine (zAQ _ _ _ _ ((-k).toNat/16+k1+5) _ _ A5 (by omega)).mono ?_;rintro r w3 ⟨B8,a3,n3,c3,rfl,G0,o7⟩;obtain⟨J1,L6,O0⟩:=zZ (w.heap.size+1+1) A9 o7)
  | (go_at_call 87;refine (zAQ _ _ _ _ k1 x _ (h1.bw (bl2 _ _ _)) (by omega)).mono ?_;rintro r w1 ⟨m9,a1,n1,c1,rfl,o8,b9⟩;obtain⟨C9,B9,D6⟩:=zZ (w.heap.size+1+1) (by simp) b9)
  | (go_at_call 96;refine (zG9 _ _ _ _ k1 k (-x) _ o8 (by omega) bA hk).mono ?_;rintro r w2 ⟨j6,a2,n2,c2,rfl,A5,j7⟩;obtain⟨A9,B7,E7⟩:=zZ (w.heap.size+1+1) C9 j7))
 have h0:w3.cell? ⟨w.heap.size+1,0,none⟩=some (.bool false):=by simp[L6,B7,B9,go_sem]
 have G6:w3.cell? ⟨w.heap.size+1,1,none⟩=some (.slice none 0 0):=by simp[L6,B7,B9,go_sem]
 refine bodyPost_ret (v:=.agg #[.bool B8,.slice a3 n3 c3]) (by simp[results,Tryz.results120,go_sem,h0,G6]) rfl ⟨B8,a3,n3,c3,rfl,G0.put2 h0 G6 _ _,?_⟩
 exact ((zB (zB (zB (bl2 _ _ _) b9) j7) o7).setCell (p:=⟨w.heap.size+1,0,none⟩) (Nat.le_succ _) _).setCell (p:=⟨w.heap.size+1,1,none⟩) (Nat.le_succ _) _
theorem zLP (w:World) (s t:Sp) (k:Nat) (lo hi lo' hi':Int) (hs:SpAt w s k lo hi) (ht:SpAt w t k lo' hi') (hk:k<=300000000) :
  Calls Tryz.prog 152 #[.agg s.q,.agg t.q,.func (.func 83) #[] #[]] w λ r w' =>
   ∃ B f,r=.returned (.slice (some ⟨B,0,none⟩) 4 4)/\Nums w' B 4 (k+k) f (pr4 (lo*lo') (lo*hi') (hi*lo') (hi*hi'))/\Below w.heap.size w w':=by
 obtain⟨W,hW⟩:∃ W,W=(w.alloc (.cells s.q 31)).alloc (.cells t.q 31):=⟨_,rfl⟩;have j8:Below w.heap.size w W:=by rw[hW];exact bl2 _ _ _
 have a0:SpC W w.heap.size s:=by rw[hW];constructor<;>simp[go_sem]
 have g0:SpC W (w.heap.size+1) t:=by rw[hW];constructor<;>simp[go_sem]
 have HS:=zC (hs.bw j8);have HT:=zC (ht.bw j8);have D7:Below W.heap.size W W.drew:=(Below.refl _ _).drew
 have HK:=zC (show ∀ w',Below W.heap.size W w'->(w'.cell? ⟨w.heap.size,0,none⟩=some (.bool s.ln)/\w'.cell? ⟨w.heap.size,1,none⟩=some (.slice s.la s.lN s.lc)/\w'.cell? ⟨w.heap.size,2,none⟩=some (.bool s.hn)/\w'.cell? ⟨w.heap.size,3,none⟩=some (.slice s.ha s.hN s.hc)/\w'.cell? ⟨w.heap.size+1,0,none⟩=some (.bool t.ln)/\w'.cell? ⟨w.heap.size+1,1,none⟩=some (.slice t.la t.lN t.lc)/\w'.cell? ⟨w.heap.size+1,2,none⟩=some (.bool t.hn)/\w'.cell? ⟨w.heap.size+1,3,none⟩=some (.slice t.ha t.hN t.hc)) from λ w' hB=>by
  obtain⟨x0,x1,x2,x3,x4⟩:=a0.bw hB;obtain⟨y0,y1,y2,y3,y4⟩:=g0.bw hB
  exact⟨x0,x1,x2,x3,y0,y1,y2,y3⟩)
 go_enter Tryz.func152,Tryz.ntmps152
 go_wp2;obtain⟨x0,x1,x2,x3,x4⟩:=a0;obtain⟨y0,y1,y2,y3,y4⟩:=g0;rw[<- hW];clear hW
 go_region_held3 (λ w'=>w'.cell? ⟨w.heap.size,0,none⟩=some (.bool s.ln)/\w'.cell? ⟨w.heap.size,1,none⟩=some (.slice s.la s.lN s.lc)/\w'.cell? ⟨w.heap.size,2,none⟩=some (.bool s.hn)/\w'.cell? ⟨w.heap.size,3,none⟩=some (.slice s.ha s.hN s.hc)/\w'.cell? ⟨w.heap.size+1,0,none⟩=some (.bool t.ln)/\w'.cell? ⟨w.heap.size+1,1,none⟩=some (.slice t.la t.lN t.lc)/\w'.cell? ⟨w.heap.size+1,2,none⟩=some (.bool t.hn)/\w'.cell? ⟨w.heap.size+1,3,none⟩=some (.slice t.ha t.hN t.hc)) (exact zA HK _ (by first|exact D7|exact zL I1 _|exact I1|exact D3|exact o9|exact A6))
  (first
   | (go_at_call 83;have hq:=D3;refine (zX _ _ _ _ _ _ _ _ k k hi hi' _ ((zA HS).hi.bw D3) ((zA HT).hi.bw D3) (by omega) (by omega)).mono ?_;rintro r w4 ⟨E6,a4,n4,c4,rfl,I2,y9⟩;have o8:=o8.bw y9;have A5:=A5.bw y9;have G0:=G0.bw y9;have I1:=zB D3 y9)
   | (go_at_call 83;have hq:=o9;refine (zX _ _ _ _ _ _ _ _ k k hi lo' _ ((zA HS).hi.bw o9) ((zA HT).lo.bw o9) (by omega) (by omega)).mono ?_;rintro r w3 ⟨B8,a3,n3,c3,rfl,G0,o7⟩;have o8:=o8.bw o7;have A5:=A5.bw o7;have D3:=zB o9 o7)
   | (go_at_call 83;have hq:=A6;refine (zX _ _ _ _ _ _ _ _ k k lo hi' _ ((zA HS).lo.bw A6) ((zA HT).hi.bw A6) (by omega) (by omega)).mono ?_;rintro r w2 ⟨j6,a2,n2,c2,rfl,A5,j7⟩;have o8:=o8.bw j7;have o9:=zB A6 j7)
   | (go_at_call 83;have hq:=D7;refine (zX _ _ _ _ _ _ _ _ k k lo lo' _ ((zA HS).lo.bw D7) ((zA HT).lo.bw D7) (by omega) (by omega)).mono ?_;rintro r w1 ⟨m9,a1,n1,c1,rfl,o8,b9⟩;have A6:=zB D7 b9))
 go_wp2
 go_ret
 exact⟨w4.heap.size,pr4 ⟨m9,a1,n1,c1⟩ ⟨j6,a2,n2,c2⟩ ⟨B8,a3,n3,c3⟩ ⟨E6,a4,n4,c4⟩,rfl,zPB w4 _ rfl ⟨m9,a1,n1,c1⟩ ⟨j6,a2,n2,c2⟩ ⟨B8,a3,n3,c3⟩ ⟨E6,a4,n4,c4⟩ _ _ _ _ _ _ o8 A5 G0 I2,zB j8 (zL I1 _)⟩
theorem zMJ (w:World) (s t:Sp) (k:Nat) (lo hi lo' hi':Int) (hs:SpAt w s k lo hi) (ht:SpAt w t k lo' hi') (hk:k<=300000000) (E8:0<=s.bits) (pN:s.bits<=1000000) :
  Calls Tryz.prog 124 #[.agg s.q,.agg t.q] w (zG w s.bits (k+k+8) (zA9 (kM (pr4 (lo*lo') (lo*hi') (hi*lo') (hi*hi')) 3) s.bits) (-(zA9 (-(jZ (pr4 (lo*lo') (lo*hi') (hi*lo') (hi*hi')) 3)) s.bits))):=by
 have PS:(-s.bits).toNat=0:=by omega
 have iA:w.heap.size≠w.heap.size+1+1:=by omega
 have iB:w.heap.size+1+1≠w.heap.size:=by omega
 obtain⟨W,hW⟩:∃ W,W=((w.alloc (.cells s.q 31)).alloc (.cells t.q 31)).alloc (.cells zCq 31):=⟨_,rfl⟩;have j8:Below w.heap.size w W:=by rw[hW];exact bl3 _ _ _ _
 have a0:SpC W w.heap.size s:=by rw[hW];constructor<;>simp[go_sem]
 have g0:SpC W (w.heap.size+1) t:=by rw[hW];constructor<;>simp[go_sem]
 have r0:NoC W (w.heap.size+1+1):=by rw[hW];constructor<;>simp[go_sem]
 have HS:=zC (hs.bw j8);have HT:=zC (ht.bw j8);have D7:Below W.heap.size W W.drew:=(Below.refl _ _).drew
 have HK:=zC (show ∀ w',Below W.heap.size W w'->(w'.cell? ⟨w.heap.size,0,none⟩=some (.bool s.ln)/\w'.cell? ⟨w.heap.size,1,none⟩=some (.slice s.la s.lN s.lc)/\w'.cell? ⟨w.heap.size,2,none⟩=some (.bool s.hn)/\w'.cell? ⟨w.heap.size,3,none⟩=some (.slice s.ha s.hN s.hc)/\w'.cell? ⟨w.heap.size+1,0,none⟩=some (.bool t.ln)/\w'.cell? ⟨w.heap.size+1,1,none⟩=some (.slice t.la t.lN t.lc)/\w'.cell? ⟨w.heap.size+1,2,none⟩=some (.bool t.hn)/\w'.cell? ⟨w.heap.size+1,3,none⟩=some (.slice t.ha t.hN t.hc)) from λ w' hB=>by
  obtain⟨x0,x1,x2,x3,x4⟩:=a0.bw hB;obtain⟨y0,y1,y2,y3,y4⟩:=g0.bw hB
  exact⟨x0,x1,x2,x3,y0,y1,y2,y3⟩)
 go_enter Tryz.func124,Tryz.ntmps124
 go_wp2_with fail;rw[<- hW];clear hW;refine (zLP _ s t k lo hi lo' hi' (zA HS) (zA HT) hk).mono ?_;rintro r w1 ⟨B,f,rfl,hN,b9⟩;have cF:=r0.bw b9;have W9:=cF.lt;obtain⟨x0,x1,x2,x3,x4⟩:=a0.bw b9;have a1:SpC w1 w.heap.size s:=⟨x0,x1,x2,x3,x4⟩;have mX:=zC (show ∀ w',Below w1.heap.size w1 w'->w'.cell? ⟨w.heap.size,4,none⟩=some (.int .i64 s.bits) from λ w' hB=>(a1.bw hB).c4)
 have D5:Below w1.heap.size w1 w1.drew:=(Below.refl _ _).drew;clear x0 x1 x2 x3;go_wp2_with fail
 go_region_held3 (λ w'=>w'.cell? ⟨w.heap.size,4,none⟩=some (.int .i64 s.bits)) (first|exact zA mX _ (by first|exact D5|exact gV|exact I5|exact F9|exact p9)|go_keep)
  (first
   | (go_at_call 153;refine (zEZ _ 3 _ (k+k) f _ _ (hN.bw D5) (by omega) (by omega)).mono ?_;rintro r w2 ⟨j6,a2,n2,c2,rfl,A5,j7⟩;have p9:=zB D5 j7)
   | (go_at_call 96;refine (zG9 _ _ _ _ (k+k+1) s.bits _ _ A5 (by omega) (by omega) (by omega)).mono ?_;rintro r w3 ⟨B8,a3,n3,c3,rfl,G0,o7⟩;have F9:=zB p9 o7)
   | (go_at_call 150;refine (zIV _ 3 _ (k+k) f _ _ (hN.bw F9) (by omega) (by omega)).mono ?_;rintro r w4 ⟨E6,a4,n4,c4,rfl,I2,y9⟩;have G0:=G0.bw y9;have I5:=zB F9 y9)
   | (go_at_call 120;refine (zG5 _ _ _ _ (k+k+1) s.bits _ _ I2 (by omega) (by omega) (by omega)).mono ?_;rintro r w5 ⟨L4,a5,n5,c5,rfl,P9,D8⟩;have G0:=G0.bw D8;have gV:=zB I5 D8;obtain⟨q0,q1,q2,q3,q4,q5⟩:=cF.bw gV;have x5:=zA mX _ gV))
 go_wp2;refine bodyPost_ret (v:=.agg #[.bool B8,.slice a3 n3 c3,.bool L4,.slice a5 n5 c5,.int .i64 s.bits]) (by simp[results,Tryz.results124,go_sem,q0,q1,q2,q3,q4]) rfl ⟨⟨B8,a3,n3,c3,L4,a5,n5,c5,s.bits⟩,rfl,rfl,?_,?_⟩
 ·exact SpAt.put5 ⟨G0.mono (by omega),P9.mono (by omega)⟩ q0 q1 q2 q3 q4 _ _ _ _ _
 ·exact jS (zB (zB j8 b9) gV) (by omega) _ _ _ _ _
theorem yZ {w:World} {B B' o:Nat} {v:Option Value} (h:w.cell? ⟨B,o,none⟩=v) (hne:B≠B') (u0 u1 u2 u3 u4:Value) :
  (((((w.setCell ⟨B',0,none⟩ u0).setCell ⟨B',1,none⟩ u1).setCell ⟨B',2,none⟩ u2).setCell ⟨B',3,none⟩ u3).setCell ⟨B',4,none⟩ u4).cell? ⟨B,o,none⟩=v:=by
 have ne:∀ i:Nat,(⟨B',i,none⟩:Addr)≠⟨B,o,none⟩:=λ i e=>hne (by injection e with e1;exact e1.symm)
 rw[World.cell?_setCell_other _ _ _ _ (ne 4),World.cell?_setCell_other _ _ _ _ (ne 3),World.cell?_setCell_other _ _ _ _ (ne 2),World.cell?_setCell_other _ _ _ _ (ne 1),World.cell?_setCell_other _ _ _ _ (ne 0)];exact h
theorem SpC.put {w:World} {B B':Nat} {s:Sp} (h:SpC w B s) (hne:B≠B') (u0 u1 u2 u3 u4:Value) :
  SpC (((((w.setCell ⟨B',0,none⟩ u0).setCell ⟨B',1,none⟩ u1).setCell ⟨B',2,none⟩ u2).setCell ⟨B',3,none⟩ u3).setCell ⟨B',4,none⟩ u4) B s :=
 ⟨yZ h.c0 hne _ _ _ _ _,yZ h.c1 hne _ _ _ _ _,yZ h.c2 hne _ _ _ _ _,yZ h.c3 hne _ _ _ _ _,yZ h.c4 hne _ _ _ _ _⟩
structure MineS (m:Nat) (w:World) (s:Sp):Prop where
 lo:Mine m w s.la s.lN
 hi:Mine m w s.ha s.hN
theorem MineS.bw {m:Nat} {w w':World} {s:Sp} (h:MineS m w s) (hb:Below w.heap.size w w'):MineS m w' s:=⟨h.lo.bw hb,h.hi.bw hb⟩
theorem MineS.mono {m m':Nat} {w:World} {s:Sp} (h:MineS m w s) (hm:m'<=m):MineS m' w s:=⟨h.lo.mono hm,h.hi.mono hm⟩
theorem MineS.set {m:Nat} {w:World} {s:Sp} (h:MineS m w s) (p:Addr) (v:Value):MineS m (w.setCell p v) s:=⟨h.lo.set p v,h.hi.set p v⟩
theorem MineS.put5 {m:Nat} {w:World} {s:Sp} (h:MineS m w s) (B:Nat) (u0 u1 u2 u3 u4:Value):MineS m (((((w.setCell ⟨B,0,none⟩ u0).setCell ⟨B,1,none⟩ u1).setCell ⟨B,2,none⟩ u2).setCell ⟨B,3,none⟩ u3).setCell ⟨B,4,none⟩ u4) s:=((((h.set _ _).set _ _).set _ _).set _ _).set _ _
def SpanF (w:World) (b:Int) (k:Nat) (lo hi:Int) (r:Ending) (w':World):Prop :=
 ∃ s:Sp,r=.returned (.agg s.q)/\s.bits=b/\SpAt w' s k lo hi/\Below w.heap.size w w'/\MineS w.heap.size w' s
def zLC (w:World) (b:Int) (k:Nat) (lo hi er:Int) (r:Ending) (w':World):Prop :=
 ∃ s:Sp,r=.returned (.tuple #[.agg s.q,.int .i64 er])/\s.bits=b/\SpAt w' s k lo hi/\Below w.heap.size w w'/\MineS w.heap.size w' s
theorem zLL (neg:Bool) (a:Option Addr) (n cap k1:Nat) (k x:Int) (w:World) (h1:IntAt w neg a n cap k1 x) (W6:k1<=900000000) (bA : -1000000000<=k) (hk:k<=1000000000) :
  Calls Tryz.prog 120 #[.agg #[.bool neg,.slice a n cap],.int .i64 k] w λ r w' =>
   ∃ j9 a' n' m7,r=.returned (.agg #[.bool j9,.slice a' n' m7])/\IntAt w' j9 a' n' m7 ((-k).toNat/16+k1+5) (-(zA9 (-x) k))/\Below w.heap.size w w'/\Mine w.heap.size w' a' n':=by
 go_enter Tryz.func120,Tryz.ntmps120
 go_wp2_with (first
  | (go_at_call 87;have hq:=j7;refine (neg_fr _ _ _ _ ((-k).toNat/16+k1+5) _ _ A5 (by omega)).mono ?_;rintro r w3 ⟨B8,a3,n3,c3,rfl,G0,o7,WN⟩;obtain⟨J1,L6,O0⟩:=zZ (w.heap.size+1+1) A9 o7)
  | (go_at_call 87;refine (zAQ _ _ _ _ k1 x _ (h1.bw (bl2 _ _ _)) (by omega)).mono ?_;rintro r w1 ⟨m9,a1,n1,c1,rfl,o8,b9⟩;obtain⟨C9,B9,D6⟩:=zZ (w.heap.size+1+1) (by simp) b9)
  | (go_at_call 96;refine (zG9 _ _ _ _ k1 k (-x) _ o8 (by omega) bA hk).mono ?_;rintro r w2 ⟨j6,a2,n2,c2,rfl,A5,j7⟩;obtain⟨A9,B7,E7⟩:=zZ (w.heap.size+1+1) C9 j7))
 have h0:w3.cell? ⟨w.heap.size+1,0,none⟩=some (.bool false):=by simp[L6,B7,B9,go_sem]
 have G6:w3.cell? ⟨w.heap.size+1,1,none⟩=some (.slice none 0 0):=by simp[L6,B7,B9,go_sem]
 refine bodyPost_ret (v:=.agg #[.bool B8,.slice a3 n3 c3]) (by simp[results,Tryz.results120,go_sem,h0,G6]) rfl ⟨B8,a3,n3,c3,rfl,G0.put2 h0 G6 _ _,?_,((WN.mono (zB (zB (bl2 _ _ _) b9) j7).size).set _ _).set _ _⟩
 exact ((zB (zB (zB (bl2 _ _ _) b9) j7) o7).setCell (p:=⟨w.heap.size+1,0,none⟩) (Nat.le_succ _) _).setCell (p:=⟨w.heap.size+1,1,none⟩) (Nat.le_succ _) _
theorem zEQ {Pr:Program} (w:World) (t ty e:TypeId) (i:TypeInfo) (z:Value) (ht:Pr.underlying t=some (.slice e)) (hi:Pr.info? e=some i) (hz:i.zero=some z) (h4:i.size=1) (hb:i.bytes=2)
  (b:Nat) (ad:Option Addr) (n cap:Nat) (d:Nat->Int) (hD:Dig w ad n cap d) (hn:n<=70368744177664) :
  ∃ a' m7 w',(Builtin.append_ #[t,t] ty #[.slice (some ⟨b,0,none⟩) 0 0,.slice ad n cap]).run Pr w=.ok (.slice a' n m7) w'/\Dig w' a' n m7 d/\Below w.heap.size w w'/\Mine w.heap.size w' a' n:=by
 by_cases h0:n=0
 ·subst h0
  have hs:Src Pr i.size t (.slice ad 0 cap) 0 [] w:=by
   cases ad with
   | none=>exact Src.ofNil w ht cap
   | some ad=>exact Src.ofSlice w ht ad 0 cap [] (by simp) (by simp) (by simp)
  have hr:=run_append_room_src (P:=Pr) w t t ty e i ht hi b 0 0 0 (.slice ad 0 cap) 0 [] hs (by omega) (by simp) (by simp)
  exact⟨_,_,_,hr,⟨λ h=>by omega,hD.dgs,Zb _,by omega⟩,by simp[World.setCells];exact Below.refl _ _,Mine.nil _ _ _⟩
 ·obtain⟨b1,off,rfl,b9,hc⟩:=hD.at_ (by omega)
  have hs:Src Pr i.size t (.slice (some ⟨b1,off,none⟩) n cap) n (kC d n) w :=
   Src.ofSlice w ht ⟨b1,off,none⟩ n cap (kC d n) (by rw[jX,h4];omega) (λ j u hu=>by
    obtain⟨hj,rfl⟩:=zCJ hu
    rw[zCI];exact hc j hj) (zDG d n)
  have hr:=run_append_grow_src (P:=Pr) w t t ty e i z ht hi hz (some ⟨b,0,none⟩) 0 0 [] (run_firstCells_some w.drew i.size 0 ⟨b,0,none⟩ 0 0 [] (by simp) (by simp)) (.slice (some ⟨b1,off,none⟩) n cap) n (kC d n) hs (by omega) (by omega)
   (by rw[hb];unfold Builtin.nextslicecap;rw[if_pos (by omega)];omega)
  simp only[Nat.zero_add,List.nil_append] at hr;refine⟨_,_,_,hr,⟨λ _=>⟨w.heap.size,0,rfl,?_,λ j hj=>?_⟩,hD.dgs,grownCap_ge w n 0 e,by omega⟩,(Below.refl _ _).drew.alloc (Zb _) _,λ _=>⟨w.heap.size,0,rfl,Zb _,?_,λ o=>?_⟩⟩
  ·show w.heap.size<(w.drew.alloc _).heap.size
   simp
  ·rw[World.cell?_alloc_at _ _ _ _ (show w.heap.size=w.drew.heap.size from rfl)]
   rw[Nat.zero_add,Array.getElem?_append_left (by simp[jX];exact hj)]
   simpa using zA1 d n j hj
  ·show w.heap.size<(w.drew.alloc _).heap.size
   simp
  ·simp[go_sem]
theorem zD1 {Pr:Program} {ops:Array Oper} {o:Oper} {a:Act} {w:World} {K:Act->World->Prop} {Q:Exit->Act->World->Prop} {E:Prop}
  (hg:o.guard=none) (s x:Operand) (t:TypeId) (mD:o.op=Op.call { callee:=Callee.builtin Builtin.append,args:=#[s,x],argTypes:=#[t,t] })
  (e:TypeId) (ht:Pr.underlying t=some (.slice e)) (hinfo:(Pr.info? e).map (λ i=>(i.zero,i.size,i.bytes))=some (some (.int .u16 0),1,2))
  (b:Nat) (hs:a.eval s=.slice (some ⟨b,0,none⟩) 0 0) (ad:Option Addr) (n cap:Nat) (d:Nat->Int) (hx:a.eval x=.slice ad n cap) (hD:Dig w ad n cap d) (hn:n<=70368744177664)
  (hK:∀ a' m7 w',Dig w' a' n m7 d->Below w.heap.size w w'->Mine w.heap.size w' a' n->K (a.put o.dst (.slice a' n m7)) w') :
  if Region.wanted o (yielded ops a.tmps)=true then Oper.wp Pr o a w K Q else E:=by
 have hw:Region.wanted o (yielded ops a.tmps)=true:=by simp[Region.wanted,hg]
 rw[if_pos hw];obtain⟨i,hi,qZ⟩:=Option.map_eq_some_iff.1 hinfo;simp only[Prod.mk.injEq] at qZ;obtain⟨hz,K3,Cd⟩:=qZ;obtain⟨a',m7,w',fQ,h1,h2,h3⟩:=zEQ (Pr:=Pr) w t o.type e i _ ht hi hz K3 Cd b ad n cap d hD hn;unfold Oper.wp;simp[execOp,mD,resolve,invoke,builtin,hs,hx,fQ,Result.andThen];exact hK a' m7 w' h1 h2 h3
theorem Dig.put2 {w:World} {a:Option Addr} {n cap:Nat} {d:Nat->Int} (h:Dig w a n cap d) {B:Nat} {x0:Bool} {y0:Option Addr} {y1 y2:Nat} (h0:w.cell? ⟨B,0,none⟩=some (.bool x0))
  (h1:w.cell? ⟨B,1,none⟩=some (.slice y0 y1 y2)) (u0 u1:Value):Dig ((w.setCell ⟨B,0,none⟩ u0).setCell ⟨B,1,none⟩ u1) a n cap d:=by
 have hne:(⟨B,0,none⟩:Addr)≠⟨B,1,none⟩:=by simp
 have h2:(w.setCell ⟨B,0,none⟩ u0).cell? ⟨B,1,none⟩=some (.slice y0 y1 y2):=(World.cell?_setCell_other _ _ _ _ hne).trans h1;exact (h.store h0 (λ _ e=>by cases e) u0).store h2 (λ _ e=>by cases e) u1
theorem zF7 (neg:Bool) (a:Option Addr) (n cap:Nat) (d:Nat->Int) (w:World) (h1:Dig w a n cap d) :
  Calls Tryz.prog 81 #[.agg #[.bool neg,.slice a n cap]] w λ r w' =>
   ∃ a' m7,r=.returned (.agg #[.bool neg,.slice a' n m7])/\Dig w' a' n m7 d/\Below w.heap.size w w'/\Mine w.heap.size w' a' n:=by
 have hn:=h1.room
 go_enter Tryz.func81,Tryz.ntmps81
 go_wp2
 go_region_held3 (λ w'=>w'.cell? ⟨w.heap.size,0,none⟩=some (.bool neg)/\w'.cell? ⟨w.heap.size,1,none⟩=some (.slice a n cap)) (go_keep)
  (first|(refine zD1 (by rfl) _ _ 27 (by rfl) 94 Tryz.underlying27 Tryz.infoU16 _ (by rfl) _ _ _ d (by rfl) (h1.bw (bl3 _ _ _ _).drew) hn ?_;intro a1 c1 w1 M9 hb dR;obtain⟨K3,hcell,bI⟩:=zZ (w.heap.size+2) (by simp) hb))
 go_wp2;have h0:w1.cell? ⟨w.heap.size+1,0,none⟩=some (.bool false):=by simp[hcell,go_sem]
 have G6:w1.cell? ⟨w.heap.size+1,1,none⟩=some (.slice none 0 0):=by simp[hcell,go_sem]
 refine bodyPost_ret (v:=.agg #[.bool neg,.slice a1 n c1]) (by simp[results,Tryz.results81,go_sem,h0,G6]) rfl ⟨a1,c1,rfl,?_,?_,?_⟩
 ·exact M9.put2 h0 G6 _ _
 ·exact ((zB (bl3 _ _ _ _).drew hb).setCell (by simp) _).setCell (by simp) _
 ·exact ((dR.mono (bl3 _ _ _ _).drew.size).set _ _).set _ _
theorem SpDig.put5 {w:World} {s:Sp} {d e:Nat->Int} (h:SpDig w s d e) {B:Nat} {x0 x2:Bool} {y0 y3:Option Addr} {y1 y2 y4 y5:Nat} {i:Int} (h0:w.cell? ⟨B,0,none⟩=some (.bool x0)) (h1:w.cell? ⟨B,1,none⟩=some (.slice y0 y1 y2)) (h2:w.cell? ⟨B,2,none⟩=some (.bool x2)) (h3:w.cell? ⟨B,3,none⟩=some (.slice y3 y4 y5)) (h4:w.cell? ⟨B,4,none⟩=some (.int .i64 i)) (u0 u1 u2 u3 u4:Value) :
  SpDig (((((w.setCell ⟨B,0,none⟩ u0).setCell ⟨B,1,none⟩ u1).setCell ⟨B,2,none⟩ u2).setCell ⟨B,3,none⟩ u3).setCell ⟨B,4,none⟩ u4) s d e:=by
 have g:∀ {a:Option Addr} {n cap:Nat} {f:Nat->Int},Dig w a n cap f->Dig (((((w.setCell ⟨B,0,none⟩ u0).setCell ⟨B,1,none⟩ u1).setCell ⟨B,2,none⟩ u2).setCell ⟨B,3,none⟩ u3).setCell ⟨B,4,none⟩ u4) a n cap f:=λ h=>by
  refine ((((h.store h0 (λ _ e=>by cases e) u0).store (v:=.slice y0 y1 y2) ?_ (λ _ e=>by cases e) u1).store (v:=.bool x2) ?_ (λ _ e=>by cases e) u2).store (v:=.slice y3 y4 y5) ?_ (λ _ e=>by cases e) u3).store (v:=.int .i64 i) ?_ (λ _ e=>by cases e) u4
  ·simp[go_sem,h1]
  ·simp[go_sem,h2]
  ·simp[go_sem,h3]
  ·simp[go_sem,h4]
 exact⟨g h.lo,g h.hi⟩
def CopyAns (w:World) (s:Sp) (d e:Nat->Int) (r:Ending) (w':World):Prop :=
 ∃ u:Sp,r=.returned (.agg u.q)/\u.ln=s.ln/\u.lN=s.lN/\u.hn=s.hn/\u.hN=s.hN/\u.bits=s.bits/\SpDig w' u d e/\Below w.heap.size w w'/\MineS w.heap.size w' u
theorem zF6 (s:Sp) (d e:Nat->Int) (w:World) (hs:SpDig w s d e) :
  Calls Tryz.prog 40 #[.agg s.q] w (CopyAns w s d e):=by
 obtain⟨W,hW⟩:∃ W,W=(w.alloc (.cells s.q 31)).alloc (.cells zCq 31):=⟨_,rfl⟩;have j8:Below w.heap.size w W:=by rw[hW];exact bl2 _ _ _
 have A:SpC W w.heap.size s:=by rw[hW];constructor<;>simp[go_sem]
 have R:NoC W (w.heap.size+1):=by rw[hW];constructor<;>simp[go_sem]
 have HS:=zC (hs.bw j8);have lA:=A.lt;have lR:=R.lt;have D7:Below W.heap.size W W.drew:=(Below.refl _ _).drew
 have HK:=zC (show ∀ w',Below W.heap.size W w'->(cK0 w' w.heap.size s) from λ w' hB=>by
  obtain⟨x0,x1,x2,x3,x4⟩:=A.bw hB
  exact⟨x0,x1,x2,x3,x4⟩)
 go_enter Tryz.func40,Tryz.ntmps40
 go_wp2;obtain⟨x0,x1,x2,x3,x4⟩:=A;rw[<- hW];clear hW
 go_region_held3 (λ w'=>cK0 w' w.heap.size s) (first|exact zA HK _ (by with_reducible first|exact D7|exact o9|exact A6)|(dsimp only[cK,cK0,nK,nK0,rK,rK0];go_keep)|go_keep)
  (first
   | (go_at_call 81;have hq:=A6;refine (zF7 _ _ _ _ e _ ((zA HS).hi.bw A6)).mono ?_;rintro r w2 ⟨a2,c2,rfl,Ce,j7,av⟩;replace mr:=mr.bw j7;have dR:=dR.bw j7;have o9:=zB A6 j7;obtain⟨q0,q1,q2,q3,q4,q5⟩:=R.bw o9;obtain⟨i0,i1,i2,i3,i4⟩:=zA HK _ o9)
   | (go_at_call 81;refine (zF7 _ _ _ _ d _ ((zA HS).lo.bw D7)).mono ?_;rintro r w1 ⟨a1,c1,rfl,mr,b9,dR⟩;have A6:=zB D7 b9))
 go_wp2;refine bodyPost_ret (v:=.agg #[.bool s.ln,.slice a1 s.lN c1,.bool s.hn,.slice a2 s.hN c2,.int .i64 s.bits]) (by simp[results,Tryz.results40,go_sem,q0,q1,q2,q3,q4]) rfl ⟨⟨s.ln,a1,s.lN,c1,s.hn,a2,s.hN,c2,s.bits⟩,rfl,rfl,rfl,rfl,rfl,rfl,?_,?_,?_⟩
 ·exact SpDig.put5 ⟨mr,Ce⟩ q0 q1 q2 q3 q4 _ _ _ _ _
 ·exact jS (zB j8 o9) (Nat.le_succ _) _ _ _ _ _
 ·exact MineS.put5 _ _ _ _ _ _ (h:=⟨dR.mono (zB j8 D7).size,av.mono (zB j8 A6).size⟩)
structure Out (lo hi:Nat) (w w':World):Prop where
 os:w'.os=w.os
 tape:w'.tape=w.tape
 output:w'.output=w.output
 size:w.heap.size<=w'.heap.size
 block:∀ k,k<w.heap.size->¬ (lo<=k/\k<hi)->w'.heap[k]?=w.heap[k]?
theorem Out.of {lo hi:Nat} {w w':World} (h:Below w.heap.size w w'):Out lo hi w w':=⟨h.os,h.tape,h.output,h.size,λ k hk _=>h.block k hk⟩
theorem Out.then {lo hi:Nat} {w w1 w2:World} (h:Out lo hi w w1) (k:Out lo hi w1 w2):Out lo hi w w2 :=
 ⟨k.os.trans h.os,k.tape.trans h.tape,k.output.trans h.output,Nat.le_trans h.size k.size,λ i hi hn=>(k.block i (Zd hi h.size) hn).trans (h.block i hi hn)⟩
theorem Out.set {lo hi:Nat} {w w1:World} (h:Out lo hi w w1) {p:Addr} (h1:lo<=p.block) (h2:p.block<hi) (u:Value):Out lo hi w (w1.setCell p u) :=
 ⟨h.os,h.tape,h.output,by simpa [World.setCell] using h.size,λ k hk hn=>(Below.heap_setCell _ _ _ _ (λ e=>hn ⟨by omega,by omega⟩)).trans (h.block k hk hn)⟩
theorem Out.cell {lo hi:Nat} {w w':World} (h:Out lo hi w w') {p:Addr} (hp:p.block<w.heap.size) (hn:¬ (lo<=p.block/\p.block<hi)):w'.cell? p=w.cell? p:=World.cell?_of_block (w:=w) (h.block p.block hp hn)
theorem Out.frozen {lo hi:Nat} {w w':World} (h:Out lo hi w w') {p:Addr} (hp:p.block<w.heap.size) (hn:¬ (lo<=p.block/\p.block<hi)):w'.frozen? p=w.frozen? p:=World.frozen?_of_block (w:=w) (h.block p.block hp hn)
def Wr (lo hi:Nat) (w:World) (a:Option Addr) (n:Nat):Prop :=
 0<n->∃ b off,a=some ⟨b,off,none⟩/\lo<=b/\b<hi/\(∀ o,w.frozen? ⟨b,o,none⟩=false)/\∀ j,j<n->∃ v,w.cell? ⟨b,off+j,none⟩=some (.int .u16 v)
theorem wr_of {m:Nat} {w:World} {a:Option Addr} {n cap:Nat} {d:Nat->Int} (h:Mine m w a n) (hd:Dig w a n cap d):Wr m w.heap.size w a n:=λ h0=>by
 obtain⟨b,off,h1,h2,h3,h4⟩:=h h0;obtain⟨b',Z4,g1,g2,g3⟩:=hd.at_ h0;rw[h1] at g1;obtain⟨rfl,rfl⟩:b=b'/\off=Z4:=by simpa using g1
 exact⟨b,off,h1,h2,h3,h4,λ j hj=>⟨_,g3 j hj⟩⟩
theorem Wr.bw {lo hi:Nat} {w w':World} {a:Option Addr} {n:Nat} (h:Wr lo hi w a n) (hh:hi<=w.heap.size) (hb:Below w.heap.size w w'):Wr lo hi w' a n:=λ h0=>by
 obtain⟨b,off,h1,h2,h3,h4,h5⟩:=h h0;refine⟨b,off,h1,h2,h3,λ o=>(hb.frozen (p:=⟨b,o,none⟩) (show b<_ by omega)).trans (h4 o),λ j hj=>?_⟩
 obtain⟨v,hv⟩:=h5 j hj;exact⟨v,(hb.cell (p:=⟨b,off+j,none⟩) (show b<_ by omega)).trans hv⟩
theorem Wr.set {lo hi:Nat} {w:World} {a:Option Addr} {n:Nat} (h:Wr lo hi w a n) (p:Addr) (x:Int) {u:Value} (hp:w.cell? p=some u):Wr lo hi (w.setCell p (.int .u16 x)) a n:=λ h0=>by
 obtain⟨b,off,h1,h2,h3,h4,h5⟩:=h h0;refine⟨b,off,h1,h2,h3,λ o=>by rw[World.frozen?_setCell];exact h4 o,λ j hj=>?_⟩
 by_cases e:p=⟨b,off+j,none⟩
 ·subst e;exact⟨x,World.cell?_setCell_same _ _ _ hp⟩
 ·obtain⟨v,hv⟩:=h5 j hj
  exact⟨v,(World.cell?_setCell_other _ _ _ _ e).trans hv⟩
structure Spo (W wr:World) (lo hi:Nat) (s:Sp):Prop where
 out:Out lo hi W wr
 l:Wr lo hi wr s.la s.lN
 h:Wr lo hi wr s.ha s.hN
theorem Spo.set {W wr:World} {lo hi:Nat} {s:Sp} (h:Spo W wr lo hi s) {p:Addr} (h1:lo<=p.block) (h2:p.block<hi) (x:Int) {u:Value} (hp:wr.cell? p=some u):Spo W (wr.setCell p (.int .u16 x)) lo hi s :=
 ⟨h.out.set h1 h2 _,h.l.set p x hp,h.h.set p x hp⟩
theorem Spo.sp {W wr:World} {lo hi B:Nat} {s:Sp} (h:Spo W wr lo hi s) (A:SpC W B s) (hB:hi<=B):SpC wr B s:=by
 have hn:¬ (lo<=B/\B<hi):=by omega
 exact⟨(h.out.cell (p:=⟨B,0,none⟩) A.lt hn).trans A.c0,(h.out.cell (p:=⟨B,1,none⟩) A.lt hn).trans A.c1,(h.out.cell (p:=⟨B,2,none⟩) A.lt hn).trans A.c2,(h.out.cell (p:=⟨B,3,none⟩) A.lt hn).trans A.c3,(h.out.cell (p:=⟨B,4,none⟩) A.lt hn).trans A.c4⟩
theorem zTR (s:Sp) (lo hi:Nat) (w:World) (hl:Wr lo hi w s.la s.lN) (hh:Wr lo hi w s.ha s.hN) (pS:hi<=w.heap.size) (r1:s.lN<=70368744177664) (r2:s.hN<=70368744177664) :
  Calls Tryz.prog 41 #[.agg s.q] w λ r w'=>r=.returned (.tuple #[])/\Out lo hi w w':=by
 obtain⟨W,hW⟩:∃ W,W=w.alloc (.cells s.q 31):=⟨_,rfl⟩;have j8:Below w.heap.size w W:=by rw[hW];exact bl1 _ _
 have A:SpC W w.heap.size s:=by rw[hW];exact yW _ _ _
 have iD:Spo W W lo hi s:=⟨Out.of (Below.refl _ _),hl.bw pS j8,hh.bw pS j8⟩;have HA:=zC A;have HO:=zC (Out.of (lo:=lo) (hi:=hi) j8);clear hl hh j8 A
 go_enter Tryz.func41,Tryz.ntmps41
 go_wp2_with fail;rw[<- hW];clear hW
 go_loopw [2] (λ ii wr=>∃ i:Nat,i<=s.lN/\ii=.int .i64 i/\Spo W wr lo hi s) (λ ii _=>s.lN-(intOf ii).toNat)
 case atStart=>exact⟨0,Nat.zero_le _,rfl,iD⟩
 case round =>
  obtain⟨i,fq,rfl,st⟩:=hrel;have lA:=(st.sp (zA HA) pS).lt;obtain⟨x0,x1,x2,x3,x4⟩:=st.sp (zA HA) pS
  by_cases I9:i<s.lN
  ·obtain⟨b,off,e1,g1,g2,g3,g4⟩:=st.l (by omega)
   obtain⟨v,g5⟩:=g4 i I9;rw[e1] at x1;clear g4;go_wp2_with fail
   go_roundw
   case rel=>exact⟨i+1,by omega,by go_num,st.set (p:=⟨b,off+i,none⟩) g1 g2 _ g5⟩
   case measure=>simp[intOf];omega
  ·have hiE:¬ (i:Int)<s.lN:=by omega
   go_wp2_with fail;clear x0 x1 x2 x3 x4 lA
   go_loopw [3] (λ ii wr=>∃ i:Nat,i<=s.hN/\ii=.int .i64 i/\Spo W wr lo hi s) (λ ii _=>s.hN-(intOf ii).toNat)
   case atStart=>exact⟨0,Nat.zero_le _,rfl,st⟩
   case round =>
    obtain⟨k,Qe,rfl,st⟩:=hrel;have lA:=(st.sp (zA HA) pS).lt;obtain⟨x0,x1,x2,x3,x4⟩:=st.sp (zA HA) pS
    by_cases G1:k<s.hN
    ·obtain⟨b,off,e1,g1,g2,g3,g4⟩:=st.h (by omega)
     obtain⟨v,g5⟩:=g4 k G1;rw[e1] at x3;clear g4;go_wp2_with fail
     go_roundw
     case rel=>exact⟨k+1,by omega,by go_num,st.set (p:=⟨b,off+k,none⟩) g1 g2 _ g5⟩
     case measure=>simp[intOf];omega
    ·have hkE:¬ (k:Int)<s.hN:=by omega
     go_wp2_with fail;exact bodyPost_end (v:=.tuple #[]) (by simp[results,Tryz.results41]) rfl ⟨rfl,(zA HO).then st.out⟩
def yV (s:Sp):List Value:=[.bool s.ln,.slice s.la s.lN s.lc,.bool s.hn,.slice s.ha s.hN s.hc,.int .i64 s.bits]
def jG (f:Nat->Sp):Nat->List Value
 | 0=>[]
 | n+1=>jG f n ++ yV (f n)
theorem zKQ (f:Nat->Sp) (n:Nat):(jG f n).length=n*5:=by
 induction n with
 | zero=>rfl
 | succ n ih=>simp[jG,ih,yV];omega
theorem zGI (f:Nat->Sp) (n j c:Nat) (hj:j<n) (hc:c<5):(jG f n)[j*5+c]?=(yV (f j))[c]?:=by
 induction n with
 | zero=>omega
 | succ n ih =>
  have hl:=zKQ f n
  show (jG f n ++ yV (f n))[j*5+c]?=_
  by_cases h:j<n
  ·rw[List.getElem?_append_left (by omega)];exact ih h
  ·have:j=n:=by omega
   subst this;rw[List.getElem?_append_right (by omega),hl,show j*5+c-j*5=c by omega]
theorem zG0 {f g:Nat->Sp} (n:Nat) (h:∀ j,j<n->f j=g j):jG f n=jG g n:=by
 induction n with
 | zero=>rfl
 | succ n ih=>show jG f n ++ yV (f n)=jG g n ++ yV (g n);rw[ih (λ j hj=>h j (by omega)),h n (by omega)]
theorem zKR (f:Nat->Sp) (n:Nat):∀ u ∈ jG f n,u.oneCell'=true:=by
 induction n with
 | zero=>intro u hu;simp[jG] at hu
 | succ n ih =>
  intro u hu
  rcases List.mem_append.1 (show u ∈ jG f n ++ yV (f n) from hu) with h|h
  ·exact ih u h
  ·simp[yV] at h
   rcases h with rfl|rfl|rfl|rfl|rfl<;>rfl
def zG1 (f:Nat->Sp) (n:Nat) (v:Sp) (j:Nat):Sp:=if j=n then v else f j
theorem zJA (f:Nat->Sp) (n:Nat) (v:Sp):zG1 f n v n=v:=if_pos rfl
theorem zFU (f:Nat->Sp) (n:Nat) (v:Sp) {j:Nat} (h:j≠n):zG1 f n v j=f j:=if_neg h
theorem zKS (f:Nat->Sp) (n:Nat) (v:Sp):jG (zG1 f n v) (n+1)=jG f n ++ yV v:=by
 show jG (zG1 f n v) n ++ yV (zG1 f n v n)=_
 rw[zJA,zG0 n (λ j hj=>zFU f n v (by omega))]
def OwnS (w:World) (base:Nat) (a:Option Addr) (n cap:Nat) (f:Nat->Sp):Prop:=w.ownsRow base 31 5 (.slice a n cap) n (jG f n)
structure RowC (w:World) (g n:Nat) (f:Nat->Sp):Prop where
 lt:g<w.heap.size
 c0:∀ j,j<n->w.cell? ⟨g,j*5,none⟩=some (.bool (f j).ln)
 c1:∀ j,j<n->w.cell? ⟨g,j*5+1,none⟩=some (.slice (f j).la (f j).lN (f j).lc)
 c2:∀ j,j<n->w.cell? ⟨g,j*5+2,none⟩=some (.bool (f j).hn)
 c3:∀ j,j<n->w.cell? ⟨g,j*5+3,none⟩=some (.slice (f j).ha (f j).hN (f j).hc)
 c4:∀ j,j<n->w.cell? ⟨g,j*5+4,none⟩=some (.int .i64 (f j).bits)
theorem RowC.bw {w w':World} {g n:Nat} {f:Nat->Sp} (h:RowC w g n f) (hb:Below w.heap.size w w'):RowC w' g n f :=
 ⟨Zd h.lt hb.size,λ j hj=>(hb.cell (p:=⟨g,_,none⟩) h.lt).trans (h.c0 j hj),λ j hj=>(hb.cell (p:=⟨g,_,none⟩) h.lt).trans (h.c1 j hj),λ j hj=>(hb.cell (p:=⟨g,_,none⟩) h.lt).trans (h.c2 j hj),λ j hj=>(hb.cell (p:=⟨g,_,none⟩) h.lt).trans (h.c3 j hj),λ j hj=>(hb.cell (p:=⟨g,_,none⟩) h.lt).trans (h.c4 j hj)⟩
theorem RowC.out {lo hi:Nat} {w w':World} {g n:Nat} {f:Nat->Sp} (h:RowC w g n f) (ho:Out lo hi w w') (hn:¬ (lo<=g/\g<hi)):RowC w' g n f :=
 ⟨Zd h.lt ho.size,λ j hj=>(ho.cell (p:=⟨g,_,none⟩) h.lt hn).trans (h.c0 j hj),λ j hj=>(ho.cell (p:=⟨g,_,none⟩) h.lt hn).trans (h.c1 j hj),λ j hj=>(ho.cell (p:=⟨g,_,none⟩) h.lt hn).trans (h.c2 j hj),λ j hj=>(ho.cell (p:=⟨g,_,none⟩) h.lt hn).trans (h.c3 j hj),λ j hj=>(ho.cell (p:=⟨g,_,none⟩) h.lt hn).trans (h.c4 j hj)⟩
theorem OwnS.row {w:World} {base:Nat} {a:Option Addr} {n cap:Nat} {f:Nat->Sp} (h:OwnS w base a n cap f) (h0:0<n):∃ g,a=some ⟨g,0,none⟩/\base<=g/\RowC w g n f:=by
 have h':w.ownsRow base 31 5 (.slice a n cap) n (jG f n):=h;obtain⟨g,c2,hv,h1,h2⟩:=World.ownsRow.form h' h0;simp only[Value.slice.injEq] at hv;obtain⟨rfl,_,rfl⟩:=hv;have hc:=World.ownsRow.cells h' (g:=g) rfl
 have ha:∀ j c u,j<n->c<5->(yV (f j))[c]?=some u->w.cell? ⟨g,j*5+c,none⟩=some u:=λ j c u hj XI hu=>by
  have:=hc (j*5+c) u ((zGI f n j c hj XI).trans hu)
  rwa [zCI,Nat.zero_add] at this
 exact⟨g,rfl,(World.ownsRow.lt h' g rfl).1,h2,λ j hj=>ha j 0 _ hj (by omega) rfl,λ j hj=>ha j 1 _ hj (by omega) rfl,λ j hj=>ha j 2 _ hj (by omega) rfl,λ j hj=>ha j 3 _ hj (by omega) rfl,λ j hj=>ha j 4 _ hj (by omega) rfl⟩
theorem OwnS.nil (w:World) (base:Nat) (f:Nat->Sp):OwnS w base none 0 0 f:=World.ownsRow_nil w base _ 5
theorem OwnS.bw {w w':World} {base:Nat} {a:Option Addr} {n cap:Nat} {f:Nat->Sp} (h:OwnS w base a n cap f) (hb:Below w.heap.size w w'):OwnS w' base a n cap f:=by
 have h':w.ownsRow base 31 5 (.slice a n cap) n (jG f n):=h;refine⟨h'.1,?_⟩
 rcases h'.2 with hn|⟨g,c2,cur,hv,hg,Ck,rest⟩
 ·exact .inl hn
 ·obtain⟨E2,_⟩:=Array.getElem?_eq_some_iff.1 Ck
  exact .inr ⟨g,c2,cur,hv,hg,(hb.block g E2).trans Ck,rest⟩
theorem OwnS.out {lo hi:Nat} {w w':World} {base:Nat} {a:Option Addr} {n cap:Nat} {f:Nat->Sp} (h:OwnS w base a n cap f) (ho:Out lo hi w w') (hn9:hi<=base):OwnS w' base a n cap f:=by
 have h':w.ownsRow base 31 5 (.slice a n cap) n (jG f n):=h;refine⟨h'.1,?_⟩
 rcases h'.2 with hn|⟨g,c2,cur,hv,hg,Ck,rest⟩
 ·exact .inl hn
 ·obtain⟨E2,_⟩:=Array.getElem?_eq_some_iff.1 Ck
  exact .inr ⟨g,c2,cur,hv,hg,(ho.block g E2 (by omega)).trans Ck,rest⟩
theorem Tryz.infoSpan:(Tryz.prog.info? 31).map (λ i=>(i.zero,i.size,i.bytes))=some (some (.agg zCq),5,72):=by kernel_rfl
theorem zKD (w:World) (arr:Array Value) (T:TypeId) (f:Nat->Sp) (m:Nat) (h:arr.toList=jG f m) (W:Nat) (hW:w.heap.size=W):∀ j u,(jG f m)[j]?=some u->(w.alloc (.cells arr T)).cell? ⟨W,j,none⟩=some u:=by
 subst hW
 intro j u hu
 rw[World.cell?_alloc_at _ _ _ _ rfl];rw[<- h] at hu
 simpa using hu
structure Lk (u s:Sp):Prop where
 ln:u.ln=s.ln
 lN:u.lN=s.lN
 hn:u.hn=s.hn
 hN:u.hN=s.hN
 bits:u.bits=s.bits
theorem row_new (w:World) (arr:Array Value) (T:TypeId) (f:Nat->Sp) (m:Nat) (h:arr.toList=jG f m):RowC (w.alloc (.cells arr T)) w.heap.size m f:=by
 have g:=zKD w arr T f m h w.heap.size rfl;have a:=λ (j c:Nat) (hj:j<m) (hc:c<5) (u:Value) (hu:(yV (f j))[c]?=some u)=>g (j*5+c) u ((zGI f m j c hj hc).trans hu)
 exact⟨by simp,λ j hj=>a j 0 hj (by omega) _ rfl,λ j hj=>a j 1 hj (by omega) _ rfl,λ j hj=>a j 2 hj (by omega) _ rfl,λ j hj=>a j 3 hj (by omega) _ rfl,λ j hj=>a j 4 hj (by omega) _ rfl⟩
def pq4 {α:Type} (a0 a1 a2 a3:α):Nat->α
 | 0=>a0
 | 1=>a1
 | 2=>a2
 | _=>a3
structure An (w:World) (lo hi:Nat) (u:Sp) (b L H:Int):Prop where
 at_:SpAt w u 70000 L H
 bits:u.bits=b
 l:Wr lo hi w u.la u.lN
 h:Wr lo hi w u.ha u.hN
 le:hi<=w.heap.size
theorem Wr.wide {lo hi hi':Nat} {w:World} {a:Option Addr} {n:Nat} (h:Wr lo hi w a n) (hh:hi<=hi'):Wr lo hi' w a n:=λ h0=>by
 obtain⟨b,off,h1,h2,h3,h4⟩:=h h0;exact⟨b,off,h1,h2,Zd h3 hh,h4⟩
theorem zMT {m:Nat} {w:World} {u:Sp} {b L H:Int} (h1:SpAt w u 70000 L H) (h2:u.bits=b) (h3:MineS m w u):An w m w.heap.size u b L H:=by
 obtain⟨d,g1,_⟩:=h1.lo;obtain⟨e,g2,_⟩:=h1.hi;exact⟨h1,h2,wr_of h3.lo g1,wr_of h3.hi g2,Zb _⟩
theorem An.bw {w w':World} {lo hi:Nat} {u:Sp} {b L H:Int} (h:An w lo hi u b L H) (hb:Below w.heap.size w w'):An w' lo hi u b L H :=
 ⟨h.at_.bw hb,h.bits,h.l.bw h.le hb,h.h.bw h.le hb,Nat.le_trans h.le hb.size⟩
theorem Dig.out {m lo hi:Nat} {w w':World} {a:Option Addr} {n cap:Nat} {d:Nat->Int} (h:Dig w a n cap d) (hn:0<n->∀ b off,a=some ⟨b,off,none⟩->¬ (lo<=b/\b<hi)) (ho:Out lo hi w w'):Dig w' a n cap d :=
 ⟨λ h0=>by
  obtain⟨b,off,h1,h2,h3⟩:=h.at_ h0
  exact⟨b,off,h1,Zd h2 ho.size,λ j hj=>(ho.cell (p:=⟨b,off+j,none⟩) h2 (hn h0 b off h1)).trans (h3 j hj)⟩,h.dgs,h.le,h.room⟩
theorem IntAt.out {lo hi:Nat} {w w':World} {neg:Bool} {a:Option Addr} {n cap k:Nat} {z:Int} (h:IntAt w neg a n cap k z) (hn:0<n->∀ b off,a=some ⟨b,off,none⟩->¬ (lo<=b/\b<hi)) (ho:Out lo hi w w'):IntAt w' neg a n cap k z:=by
 obtain⟨d,h2,h3⟩:=h;exact⟨d,Dig.out (m:=0) h2 hn ho,h3⟩
theorem Mine.off {m lo hi:Nat} {w:World} {a:Option Addr} {n:Nat} (h:Mine m w a n) (hm:hi<=m):0<n->∀ b off,a=some ⟨b,off,none⟩->¬ (lo<=b/\b<hi):=λ h0 b off e=>by
 obtain⟨b',Z4,h1,h2,_⟩:=h h0;rw[h1] at e;obtain⟨rfl,rfl⟩:b'=b/\Z4=off:=by simpa using e
 omega
theorem Mine.out {m lo hi:Nat} {w w':World} {a:Option Addr} {n:Nat} (h:Mine m w a n) (hm:hi<=m) (ho:Out lo hi w w'):Mine m w' a n:=λ h0=>by
 obtain⟨b,off,h1,h2,h3,h4⟩:=h h0;exact⟨b,off,h1,h2,Zd h3 ho.size,λ o=>(ho.frozen (p:=⟨b,o,none⟩) h3 (λ e=>by have:=e.2;simp only[] at this;omega)).trans (h4 o)⟩
theorem Wr.off {lo hi lo' hi':Nat} {w:World} {a:Option Addr} {n:Nat} (h:Wr lo' hi' w a n) (hd:hi<=lo'\/hi'<=lo):0<n->∀ b off,a=some ⟨b,off,none⟩->¬ (lo<=b/\b<hi):=λ h0 b off e=>by
 obtain⟨b',Z4,h1,h2,_⟩:=h h0;rw[h1] at e;obtain⟨rfl,rfl⟩:b'=b/\Z4=off:=by simpa using e
 rcases hd with hd|hd<;>omega
theorem Wr.out {lo hi lo' hi':Nat} {w w':World} {a:Option Addr} {n:Nat} (h:Wr lo' hi' w a n) (hh:hi'<=w.heap.size) (hd:hi<=lo'\/hi'<=lo) (ho:Out lo hi w w'):Wr lo' hi' w' a n:=λ h0=>by
 obtain⟨b,off,h1,h2,h3,h4,h5⟩:=h h0;have hn:¬ (lo<=b/\b<hi):=by omega
 refine⟨b,off,h1,h2,h3,λ o=>(ho.frozen (p:=⟨b,o,none⟩) (show b<_ by omega) hn).trans (h4 o),λ j hj=>?_⟩
 obtain⟨v,hv⟩:=h5 j hj;exact⟨v,(ho.cell (p:=⟨b,off+j,none⟩) (show b<_ by omega) hn).trans hv⟩
theorem An.out {w w':World} {lo hi lo' hi':Nat} {u:Sp} {b L H:Int} (h:An w lo' hi' u b L H) (hd:hi<=lo'\/hi'<=lo) (ho:Out lo hi w w'):An w' lo' hi' u b L H :=
 ⟨⟨h.at_.lo.out (h.l.off hd) ho,h.at_.hi.out (h.h.off hd) ho⟩,h.bits,h.l.out h.le hd ho,h.h.out h.le hd ho,Nat.le_trans h.le ho.size⟩
structure Cp (w:World) (m:Nat) (u:Sp) (b L H:Int):Prop where
 at_:SpAt w u 70000 L H
 bits:u.bits=b
 m:MineS m w u
theorem Cp.bw {w w':World} {m:Nat} {u:Sp} {b L H:Int} (h:Cp w m u b L H) (hb:Below w.heap.size w w'):Cp w' m u b L H:=⟨h.at_.bw hb,h.bits,h.m.bw hb⟩
theorem Cp.out {w w':World} {m lo hi:Nat} {u:Sp} {b L H:Int} (h:Cp w m u b L H) (hm:hi<=m) (ho:Out lo hi w w'):Cp w' m u b L H :=
 ⟨⟨h.at_.lo.out (h.m.lo.off hm) ho,h.at_.hi.out (h.m.hi.off hm) ho⟩,h.bits,⟨h.m.lo.out hm ho,h.m.hi.out hm ho⟩⟩
theorem zKF {B lo hi:Nat} {V w w':World} (h:Below B V w) (ho:Out lo hi w w') (h1:B<=lo) (h2:B<=w.heap.size):Below B V w' :=
 h.trans ⟨ho.os,ho.tape,ho.output,ho.size,λ k hk=>ho.block k (by omega) (by omega)⟩
def Far (r:Option Nat) (u:Sp):Prop:=(0<u.lN->∀ b off,u.la=some ⟨b,off,none⟩->some b≠r)/\(0<u.hN->∀ b off,u.ha=some ⟨b,off,none⟩->some b≠r)
theorem Dig.grown {w w':World} {r:Option Nat} {a:Option Addr} {n cap:Nat} {d:Nat->Int} (h:Dig w a n cap d) (hg:w.grownBy w' r) (hs:w.heap.size<=w'.heap.size) (hn:0<n->∀ b off,a=some ⟨b,off,none⟩->some b≠r):Dig w' a n cap d :=
 ⟨λ h0=>by
  obtain⟨b,off,h1,h2,h3⟩:=h.at_ h0
  exact⟨b,off,h1,Zd h2 hs,λ j hj=>(hg.cell_far ⟨b,off+j,none⟩ h2 (hn h0 b off h1)).trans (h3 j hj)⟩,h.dgs,h.le,h.room⟩
theorem IntAt.grown {w w':World} {r:Option Nat} {neg:Bool} {a:Option Addr} {n cap k:Nat} {z:Int} (h:IntAt w neg a n cap k z) (hg:w.grownBy w' r) (hs:w.heap.size<=w'.heap.size) (hn:0<n->∀ b off,a=some ⟨b,off,none⟩->some b≠r):IntAt w' neg a n cap k z:=by
 obtain⟨d,h2,h3⟩:=h;exact⟨d,h2.grown hg hs hn,h3⟩
theorem Mine.grown {m:Nat} {w w':World} {r:Option Nat} {a:Option Addr} {n:Nat} (h:Mine m w a n) (hg:w.grownBy w' r) (hs:w.heap.size<=w'.heap.size) (hn:0<n->∀ b off,a=some ⟨b,off,none⟩->some b≠r):Mine m w' a n:=λ h0=>by
 obtain⟨b,off,h1,h2,h3,h4⟩:=h h0;exact⟨b,off,h1,h2,Zd h3 hs,λ o=>(hg.frozen_far ⟨b,o,none⟩ h3 (hn h0 b off h1)).trans (h4 o)⟩
theorem Cp.grown {w w':World} {r:Option Nat} {m:Nat} {u:Sp} {b L H:Int} (h:Cp w m u b L H) (hg:w.grownBy w' r) (hs:w.heap.size<=w'.heap.size) (hf:Far r u):Cp w' m u b L H :=
 ⟨⟨h.at_.lo.grown hg hs hf.1,h.at_.hi.grown hg hs hf.2⟩,h.bits,⟨h.m.lo.grown hg hs hf.1,h.m.hi.grown hg hs hf.2⟩⟩
theorem far_new {w w':World} {r:Option Nat} {m:Nat} {u:Sp} {b L H:Int} (h:Cp w m u b L H) (hr:∀ k,r=some k->k<m):Far r u:=by
 refine⟨λ h0 b off e e2=>?_,λ h0 b off e e2=>?_⟩
 ·obtain⟨b',Z4,h1,h2,_⟩:=h.m.lo h0
  rw[h1] at e;obtain⟨rfl,rfl⟩:b'=b/\Z4=off:=by simpa using e
  have:=hr b' e2.symm;omega
 ·obtain⟨b',Z4,h1,h2,_⟩:=h.m.hi h0
  rw[h1] at e;obtain⟨rfl,rfl⟩:b'=b/\Z4=off:=by simpa using e
  have:=hr b' e2.symm;omega
theorem zRI {w:World} {m:Nat} {u:Sp} {b L H:Int} (h:Cp w m u b L H) {g:Nat} (hr:w.heap.size<=g):Far (some g) u:=by
 refine⟨λ h0 b off e e2=>?_,λ h0 b off e e2=>?_⟩
 ·obtain⟨b',Z4,h1,h2,h3,_⟩:=h.m.lo h0
  rw[h1] at e;obtain⟨rfl,rfl⟩:b'=b/\Z4=off:=by simpa using e
  have:b'=g:=by simpa using e2
  omega
 ·obtain⟨b',Z4,h1,h2,h3,_⟩:=h.m.hi h0
  rw[h1] at e;obtain⟨rfl,rfl⟩:b'=b/\Z4=off:=by simpa using e
  have:b'=g:=by simpa using e2
  omega
theorem Cp.mono {w:World} {m m':Nat} {u:Sp} {b L H:Int} (h:Cp w m u b L H) (hm:m'<=m):Cp w m' u b L H:=⟨h.at_,h.bits,⟨h.m.lo.mono hm,h.m.hi.mono hm⟩⟩
structure Spl (V:World) (base gN:Nat) (RL RH:Nat->Nat) (fN:Nat->Sp) (b L H:Nat->Int) (k:Nat) (a:Option Addr) (cap:Nat) (f:Nat->Sp) (w:World):Prop where
 own:OwnS w base a k cap f
 cps:∀ j,j<k->Cp w base (f j) (b j) (L j) (H j)
 far:∀ j,j<k->Far (Value.slice a k cap).ownBlock (f j)
 ans:∀ j,k<=j->j<4->An w (RL j) (RH j) (fN j) (b j) (L j) (H j)
 row:RowC w gN 4 fN
 bel:Below V.heap.size V w
 sz:base<=w.heap.size
structure SplK (V:World) (base gN M:Nat) (RL RH:Nat->Nat):Prop where
 r1:∀ j,j<4->V.heap.size<=RL j
 r2:∀ j,j<4->RH j<=M
 r3:∀ j,j<4->∀ k,k<4->k<j->RH k<=RL j
 g:M<=gN
 gb:gN<base
 vb:V.heap.size<=base
theorem Spl.bw {V:World} {base gN:Nat} {RL RH:Nat->Nat} {fN:Nat->Sp} {b L H:Nat->Int} {k:Nat} {a:Option Addr} {cap:Nat} {f:Nat->Sp} {w w':World} (h:Spl V base gN RL RH fN b L H k a cap f w) (hb:Below w.heap.size w w'):Spl V base gN RL RH fN b L H k a cap f w' :=
 ⟨h.own.bw hb,λ j hj=>(h.cps j hj).bw hb,h.far,λ j h1 h2=>(h.ans j h1 h2).bw hb,h.row.bw hb,zB h.bel hb,Nat.le_trans h.sz hb.size⟩
structure Spm (V:World) (base gN:Nat) (RL RH:Nat->Nat) (fN:Nat->Sp) (b L H:Nat->Int) (k:Nat) (a:Option Addr) (cap:Nat) (f:Nat->Sp) (w:World):Prop where
 own:OwnS w base a (k+1) cap f
 cps:∀ j,j<k+1->Cp w base (f j) (b j) (L j) (H j)
 far:∀ j,j<k+1->Far (Value.slice a (k+1) cap).ownBlock (f j)
 ans:∀ j,k<=j->j<4->An w (RL j) (RH j) (fN j) (b j) (L j) (H j)
 row:RowC w gN 4 fN
 bel:Below V.heap.size V w
 sz:base<=w.heap.size
theorem zRQ {base:Nat} {w w':World} {r:Option Nat} (hg:w.grownBy w' r) (hb:Below base w w'):Out base w.heap.size w w' :=
 ⟨hb.os,hb.tape,hb.output,hb.size,λ k hk hn=>hb.block k (by omega)⟩
theorem Spl.append {V:World} {base gN M:Nat} {RL RH:Nat->Nat} {fN:Nat->Sp} {b L H:Nat->Int} {k:Nat} {a:Option Addr} {cap:Nat} {f:Nat->Sp} {w w':World} (K:SplK V base gN M RL RH) (hk:k<4) (h:Spl V base gN RL RH fN b L H k a cap f w) {m:Nat} {u:Sp} (hc:Cp w m u (b k) (L k) (H k)) (hm:base<=m) (Ql:∀ i,(Value.slice a k cap).ownBlock=some i->i<m)
  {g m7:Nat} (ho:OwnS w' base (some ⟨g,0,none⟩) (k+1) m7 (zG1 f k u)) (hg:w.grownBy w' (Value.slice a k cap).ownBlock) (hb:Below base w w') (he:(Value.slice a k cap).ownBlock=some g\/g=w.heap.size) :
  Spm V base gN RL RH fN b L H k (some ⟨g,0,none⟩) m7 (zG1 f k u) w':=by
 have hs:=hb.size;have fu:Far (Value.slice a k cap).ownBlock u:=far_new (w':=w) hc Ql;have o:=zRQ hg hb;have M1:=K.r2;have M2:=K.g;have M3:=K.gb;refine⟨ho,λ j hj=>?_,λ j hj=>?_,λ j h1 h2=>(h.ans j h1 h2).out (Or.inr ?_) o,h.row.out o (by omega),zKF h.bel o K.vb (Nat.le_trans K.vb h.sz),Nat.le_trans h.sz hs⟩
 ·by_cases e:j=k
  ·subst e;rw[zJA];exact (hc.grown hg hs fu).mono hm
  ·rw[zFU f k u e];exact (h.cps j (by omega)).grown hg hs (h.far j (by omega))
 ·show Far (some g) _
  rcases he with he|he
  ·rw[<- he]
   by_cases e:j=k
   ·subst e;rw[zJA];exact fu
   ·rw[zFU f k u e];exact h.far j (by omega)
  ·by_cases e:j=k
   ·subst e;rw[zJA];exact zRI hc (by omega)
   ·rw[zFU f k u e];exact zRI (h.cps j (by omega)) (by omega)
 ·have:=M1 j h2;omega
theorem Spm.spoilt {V:World} {base gN M:Nat} {RL RH:Nat->Nat} {fN:Nat->Sp} {b L H:Nat->Int} {k:Nat} {a:Option Addr} {cap:Nat} {f:Nat->Sp} {w w':World} (K:SplK V base gN M RL RH) (hk:k<4) (h:Spm V base gN RL RH fN b L H k a cap f w) (o:Out (RL k) (RH k) w w'):Spl V base gN RL RH fN b L H (k+1) a cap f w':=by
 have M1:=K.r2 k hk;have M2:=K.g;have M3:=K.gb;exact⟨h.own.out o (by omega),λ j hj=>(h.cps j hj).out (by omega) o,h.far,λ j h1 h2=>(h.ans j (by omega) h2).out (Or.inl (K.r3 j h2 k hk (by omega))) o,h.row.out o (by omega),zKF h.bel o (K.r1 k hk) (Nat.le_trans K.vb h.sz),Nat.le_trans h.sz o.size⟩
theorem zD2 (w:World) {ops:Array Oper} {rest:List Oper} {o:Oper} {act:Act} {Q:Exit->Act->World->Prop} (tZ:o.guard=none) (s x:Operand) (t:TypeId)
  (ho:o.op=.call { callee:=.builtin .append,args:=#[s,x],argTypes:=#[t,t] })
  (base:Nat) (ht:Tryz.prog.underlying t=some (.slice 31))
  (a:Option Addr) (n cap:Nat) (f:Nat->Sp) (hs:act.eval s=.slice a n cap) (G8:OwnS w base a n cap f) (g c:Nat) (u:Sp) (hx:act.eval x=.slice (some ⟨g,0,none⟩) 1 c)
  (hv:∀ j v,(yV u)[j]?=some v->w.cell? ⟨g,j,none⟩=some v) (hn:n<4) (hbase:base<=w.heap.size)
  (h:∀ g' m7 w',OwnS w' base (some ⟨g',0,none⟩) (n+1) m7 (zG1 f n u)->w.grownBy w' (Value.slice a n cap).ownBlock->((Value.slice a n cap).ownBlock=some g'\/g'=w.heap.size)->Below base w w'->wpList Tryz.prog ops Q rest (act.put o.dst (.slice (some ⟨g',0,none⟩) (n+1) m7)) w'):wpList Tryz.prog ops Q (o :: rest) act w:=by
 obtain⟨i,hi,M5,H6,ao⟩:=info_parts Tryz.infoSpan;have E2:∀ k,(Value.slice a n cap).ownBlock=some k->base<=k:=λ k hk=>(World.ownsRow.lt G8 k hk).1
 refine wpList_append_lies w tZ s x t ho base 31 i _ 5 72 ht hi M5 H6 ao rfl (by decide) (.slice a n cap) n (jG f n) hs G8 ⟨g,0,none⟩ 1 c (yV u) hx rfl ?_ ?_ (by omega) ?_ ?_ hbase _ rfl ?_
 ·intro j v hj
  rw[zCI,Nat.zero_add];exact hv j v hj
 ·exact λ v hv=>zKR (λ _=>u) 1 v (by simpa [jG] using hv)
 ·unfold maxLen;omega
 ·omega
 ·intro g' m7 w' Q0 hgrow XB _
  rw[<- zKS] at Q0;exact h _ _ _ Q0 hgrow XB ((Below.refl base w).grown hgrow hbase E2)
theorem zSQ (w:World) (u:Sp) (T:TypeId) (W:Nat) (hW:w.heap.size=W):∀ j v,(yV u)[j]?=some v->(w.alloc (.cells u.q T)).cell? ⟨W,j,none⟩=some v :=
 zKD w _ T (λ _=>u) 1 (by simp[jG,yV]) W hW
theorem An.room {w:World} {lo hi:Nat} {u:Sp} {b L H:Int} (h:An w lo hi u b L H):u.lN<=70368744177664/\u.hN<=70368744177664:=by
 obtain⟨d,g1,_⟩:=h.at_.lo;obtain⟨e,g2,_⟩:=h.at_.hi;exact⟨g1.room,g2.room⟩
theorem copy_of {w:World} {s:Sp} {k:Nat} {L H:Int} (h:SpAt w s k L H):∃ d e,SpDig w s d e/\∀ (w':World) (u:Sp),SpDig w' u d e->Lk u s->SpAt w' u k L H:=by
 obtain⟨d,g1,g2,g3,g4,g5⟩:=h.lo;obtain⟨e,f1,f2,f3,f4,f5⟩:=h.hi;refine⟨d,e,⟨g1,f1⟩,λ w' u hu hl=>⟨⟨d,hu.lo,?_,?_,?_,?_⟩,⟨e,hu.hi,?_,?_,?_,?_⟩⟩⟩
 ·rw[hl.lN];exact g2
 ·rw[hl.lN,hl.ln];exact g3
 ·rw[hl.lN];exact g4
 ·rw[hl.lN,hl.ln];exact g5
 ·rw[hl.hN];exact f2
 ·rw[hl.hN,hl.hn];exact f3
 ·rw[hl.hN];exact f4
 ·rw[hl.hN,hl.hn];exact f5
theorem meas4 {k:Nat} (h:k<4):4-(intOf (Value.int IntKind.i64 ((k:Int)+1))).toNat<4-(intOf (Value.int IntKind.i64 (k:Int))).toNat:=by
 simp only[intOf];omega
theorem zGV {P:Nat->Prop} (h0:P 0) (h1:P 1) (h2:P 2) (h3:P 3):∀ j,j<4->P j
 | 0,_=>h0
 | 1,_=>h1
 | 2,_=>h2
 | 3,_=>h3
theorem An.wide {w:World} {lo hi hi':Nat} {u:Sp} {b L H:Int} (h:An w lo hi u b L H) (h1:hi<=hi') (h2:hi'<=w.heap.size):An w lo hi' u b L H :=
 ⟨h.at_,h.bits,h.l.wide h1,h.h.wide h1,h2⟩
structure NmC (w:World) (B:Nat) (x:Nm):Prop where
 c0:w.cell? ⟨B,0,none⟩=some (.bool x.neg)
 c1:w.cell? ⟨B,1,none⟩=some (.slice x.a x.n x.cap)
theorem NmC.lt {w:World} {B:Nat} {x:Nm} (h:NmC w B x):B<w.heap.size:=World.block_lt_of_cell? w ⟨B,0,none⟩ h.c0
theorem NmC.bw {w w':World} {B:Nat} {x:Nm} (h:NmC w B x) (hb:Below w.heap.size w w'):NmC w' B x :=
 ⟨(hb.cell (p:=⟨B,0,none⟩) h.lt).trans h.c0,(hb.cell (p:=⟨B,1,none⟩) h.lt).trans h.c1⟩
theorem zC6 (w:World) (x:Nm) (T:TypeId):NmC (w.alloc (.cells x.q T)) w.heap.size x:=⟨by simp,by simp⟩
structure NoI (w:World) (B:Nat):Prop where
 c0:w.cell? ⟨B,0,none⟩=some (.bool false)
 c1:w.cell? ⟨B,1,none⟩=some (.slice none 0 0)
 fz:∀ o,w.frozen? ⟨B,o,none⟩=false
theorem NoI.lt {w:World} {B:Nat} (h:NoI w B):B<w.heap.size:=World.block_lt_of_cell? w ⟨B,0,none⟩ h.c0
theorem NoI.bw {w w':World} {B:Nat} (h:NoI w B) (hb:Below w.heap.size w w'):NoI w' B :=
 ⟨(hb.cell (p:=⟨B,0,none⟩) h.lt).trans h.c0,(hb.cell (p:=⟨B,1,none⟩) h.lt).trans h.c1,λ o=>(hb.frozen (p:=⟨B,o,none⟩) h.lt).trans (h.fz o)⟩
theorem zE4 {B B':Nat} {a w:World} (h:Below B a w) (hB:B<=B') (u0 u1:Value):Below B a ((w.setCell ⟨B',0,none⟩ u0).setCell ⟨B',1,none⟩ u1) :=
 (h.setCell (p:=⟨B',0,none⟩) hB u0).setCell (p:=⟨B',1,none⟩) hB u1
def zDP (w:World) (k:Nat) (z:Int) (r:Ending) (w':World):Prop :=
 ∃ j9 a' n' m7,r=.returned (.agg #[.bool j9,.slice a' n' m7])/\IntAt w' j9 a' n' m7 k z/\Below w.heap.size w w'
theorem zKO (neg j6:Bool) (a c:Option Addr) (n m cap m8 k k2:Nat) (x y:Int) (w:World) (h1:IntAt w neg a n cap k x) (h2:IntAt w j6 c m m8 k2 y) (hk:k<=700000000) (cH:k2<=100000000) (cG:∀ w',IntAt w' neg a n cap k x->IntAt w' j6 c m m8 k2 y->Calls Tryz.prog 126 #[.agg #[.bool neg,.slice a n cap],.agg #[.bool j6,.slice c m m8]] w' (zBS w' k (x/y))) :
  Calls Tryz.prog 84 #[.agg #[.bool neg,.slice a n cap],.agg #[.bool j6,.slice c m m8]] w (zDP w (k+8) (x/y)):=by
 have HF:=zC cG;clear cG;have le2:w.heap.size<=w.heap.size+1+1:=by omega
 go_enter Tryz.func84,Tryz.ntmps84
 go_wp2_with fail;refine (zA HF _ (h1.bw (bl3 _ _ _ _)) (h2.bw (bl3 _ _ _ _))).mono ?_;rintro r w1 ⟨m9,a1,n1,c1,rfl,o8,b9⟩;obtain⟨C9,B9,D6⟩:=zZ (w.heap.size+1+1+1) (by simp) b9
 go_wp2_with fail;have q0:w1.cell? ⟨w.heap.size+1+1,0,none⟩=some (.bool false):=by simp[B9,go_sem]
 have q1:w1.cell? ⟨w.heap.size+1+1,1,none⟩=some (.slice none 0 0):=by simp[B9,go_sem]
 refine bodyPost_ret (v:=.agg #[.bool m9,.slice a1 n1 c1]) (by simp[results,Tryz.results84,go_sem,q0,q1]) rfl ⟨m9,a1,n1,c1,rfl,o8.put2 q0 q1 _ _,?_⟩
 exact zE4 (zB (bl3 _ _ _ _) b9) le2 _ _
theorem ceil_up {x y:Int} (hy:0<y) (h:x/y*y<x):x/y+1 = -(-x/y):=by
 have h1:=Int.mul_ediv_add_emod x y;have h2:=Int.mul_ediv_add_emod (-x) y;have h3:=Int.emod_lt_of_pos x hy;have h4:=Int.emod_nonneg (-x) (show y≠0 by omega)
 have h5:=Int.emod_lt_of_pos (-x) hy;rw[Int.mul_comm y] at h1 h2;generalize x/y=p at *;generalize -x/y=q at *;generalize x % y=r at *;generalize -x % y=t at *;have h6:(p+q)*y=p*y+q*y:=Int.add_mul _ _ _
 have h7:p+q<0:=by
  rcases Int.lt_or_le (p+q) 0 with h|h
  ·exact h
  ·have:=Zc h (show 0<=y by omega);omega
 have h8 : -2<p+q:=by
  rcases Int.lt_or_le (-2) (p+q) with h|h
  ·exact h
  ·have:=YW h (show 0<=y by omega);omega
 omega
theorem zQZ {x y:Int} (hy:0<y) (h:¬ x/y*y<x):x/y = -(-x/y):=by
 have h1:=Int.mul_ediv_add_emod x y;have h3:=Int.emod_nonneg x (show y≠0 by omega)
 rw[Int.mul_comm y] at h1;have h4:x=x/y*y:=by omega
 have h5 : -x = -(x/y)*y:=by rw[Int.neg_mul];omega
 rw[h5,Int.mul_ediv_cancel _ (show y≠0 by omega)];omega
theorem zPJ (neg j6:Bool) (a c:Option Addr) (n m cap m8 k k2:Nat) (x y:Int) (w:World) (h1:IntAt w neg a n cap k x) (h2:IntAt w j6 c m m8 k2 y) (hk:k<=700000000) (cH:k2<=100000000) (hy:0<y) (cG:∀ w',IntAt w' neg a n cap k x->IntAt w' j6 c m m8 k2 y->Calls Tryz.prog 126 #[.agg #[.bool neg,.slice a n cap],.agg #[.bool j6,.slice c m m8]] w' (zBS w' k (x/y))) :
  Calls Tryz.prog 85 #[.agg #[.bool neg,.slice a n cap],.agg #[.bool j6,.slice c m m8]] w (zDP w (k+9) (-(-x/y))):=by
 have HF:=zC cG;clear cG
 by_cases E2:x/y*y<x
 ·have t1:zN (x/y*y) x<0:=by simp[zN,E2]
  have HE:=zC (ceil_up hy E2);clear E2
  go_enter Tryz.func85,Tryz.ntmps85
  go_wp2_with fail;refine (zA HF _ (h1.bw (bl3 _ _ _ _)) (h2.bw (bl3 _ _ _ _))).mono ?_;rintro r w1 ⟨m9,a1,n1,c1,rfl,o8,b9⟩;have X9:Below w.heap.size w w1:=zB (bl3 _ _ _ _) b9;obtain⟨C9,B9,D6⟩:=zZ (w.heap.size+1+1+1) (by simp) b9
  have A:NmC w1 w.heap.size ⟨neg,a,n,cap⟩:=⟨by simp[B9,go_sem],by simp[B9,go_sem]⟩
  have G:NmC w1 (w.heap.size+1) ⟨j6,c,m,m8⟩:=⟨by simp[B9,go_sem],by simp[B9,go_sem]⟩
  have R:NoI w1 (w.heap.size+1+1):=⟨by simp[B9,go_sem],by simp[B9,go_sem],λ o=>by simp[D6,go_sem]⟩
  have CA:=R.lt;clear B9 D6 b9 C9;obtain⟨W1,cr⟩:∃ W',W'=w1.alloc (.cells #[.bool m9,.slice a1 n1 c1] 29):=⟨_,rfl⟩;have E4:Below w1.heap.size w1 W1:=by rw[cr];exact bl1 _ _
  have X:NmC W1 w1.heap.size ⟨m9,a1,n1,c1⟩:=by rw[cr];exact zC6 w1 ⟨m9,a1,n1,c1⟩ _
  replace A:=A.bw E4;replace G:=G.bw E4;replace R:=R.bw E4;have o9:=zB X9 E4;have HX:=zC (h1.bw o9);have HY:=zC (h2.bw o9);replace o8:=zC (o8.bw E4);have lR:=R.lt;have lX:=X.lt;have nR:w1.heap.size≠w.heap.size+1+1:=Zf CA;have Kk:w.heap.size+1+1≠w1.heap.size:=λ e=>nR e.symm
  have D7:Below W1.heap.size W1 W1.drew:=(Below.refl _ _).drew
  have HK:=zC (show ∀ w',Below W1.heap.size W1 w'->(w'.cell? ⟨w.heap.size,0,none⟩=some (.bool neg)/\w'.cell? ⟨w.heap.size,1,none⟩=some (.slice a n cap)/\w'.cell? ⟨w.heap.size+1,0,none⟩=some (.bool j6)/\w'.cell? ⟨w.heap.size+1,1,none⟩=some (.slice c m m8)/\w'.cell? ⟨w1.heap.size,0,none⟩=some (.bool m9)/\w'.cell? ⟨w1.heap.size,1,none⟩=some (.slice a1 n1 c1)) from λ w' hB =>
   ⟨(A.bw hB).c0,(A.bw hB).c1,(G.bw hB).c0,(G.bw hB).c1,(X.bw hB).c0,(X.bw hB).c1⟩)
  go_wp2;rw[<- cr];clear cr;obtain⟨j0,j1,j2,j3,j4,j5⟩:=zA HK _ (Below.refl _ _)
  go_region_held3 (λ w'=>w'.cell? ⟨w.heap.size,0,none⟩=some (.bool neg)/\w'.cell? ⟨w.heap.size,1,none⟩=some (.slice a n cap)/\w'.cell? ⟨w.heap.size+1,0,none⟩=some (.bool j6)/\w'.cell? ⟨w.heap.size+1,1,none⟩=some (.slice c m m8)/\w'.cell? ⟨w1.heap.size,0,none⟩=some (.bool m9)/\w'.cell? ⟨w1.heap.size,1,none⟩=some (.slice a1 n1 c1)) (exact zA HK _ (by with_reducible first|exact D7|exact O7|exact I1))
   (first
    | (go_at_call 83;refine (zX _ _ _ _ _ _ _ _ (k+8) k2 (x/y) y _ ((zA o8).bw D7) ((zA HY).bw D7) (by omega) (by omega)).mono ?_;rintro r w4 ⟨E6,a4,n4,c4,rfl,I2,y9⟩;have I1:=zB D7 y9)
    | (go_at_call 17;refine (jY _ _ _ _ _ _ _ _ (k+8+k2) k (x/y*y) x _ I2 ((zA HX).bw I1)).mono ?_;rintro r w5 ⟨rfl,D8⟩;have O7:=zB I1 D8))
  clear j0 j1 j2 j3 j4 j5;have X5:=X.bw O7;have R5:=R.bw O7;have lR5:=R5.lt;have lX5:=X5.lt;obtain⟨j4,j5⟩:=X5;obtain⟨q0,q1,q2⟩:=R5;have D5:Below w5.heap.size w5 w5.drew:=(Below.refl _ _).drew;have X5:NmC w5 w1.heap.size ⟨m9,a1,n1,c1⟩:=⟨j4,j5⟩;have R5:NoI w5 (w.heap.size+1+1):=⟨q0,q1,q2⟩;have xI:=zC (show ∀ w',Below w5.heap.size w5 w'->(w'.cell? ⟨w1.heap.size,0,none⟩=some (.bool m9)/\w'.cell? ⟨w1.heap.size,1,none⟩=some (.slice a1 n1 c1)) from λ w' hB=>⟨(X5.bw hB).c0,(X5.bw hB).c1⟩)
  go_wp2
  go_region_held3 (λ w'=>w'.cell? ⟨w1.heap.size,0,none⟩=some (.bool m9)/\w'.cell? ⟨w1.heap.size,1,none⟩=some (.slice a1 n1 c1)) (first|exact zA xI _ (by with_reducible first|exact D5|exact pF|exact sR)|go_keep)
   (first
    | (go_at_call 33;refine (zD 1 _ (by decide) (by decide)).mono ?_;rintro r w6 ⟨dI,a6,n6,c6,rfl,cT,K8⟩;have sR:=zB D5 K8)
    | (go_at_call 32;refine (zA5 _ _ _ _ _ _ _ _ (k+8) 4 (x/y) 1 _ (((zA o8).bw O7).bw sR) cT (by omega) (by omega)).mono ?_;rintro r w7 ⟨mI,a7,n7,c7,rfl,ox,W5⟩;have pF:=zB sR W5;obtain⟨p0,p1,p2⟩:=R5.bw pF;obtain⟨i0,i1⟩:=zA xI _ pF))
  go_wp2;refine bodyPost_ret (v:=.agg #[.bool mI,.slice a7 n7 c7]) (by simp[results,Tryz.results85,go_sem,p0,p1]) rfl ⟨mI,a7,n7,c7,rfl,?_,?_⟩
  ·rw[zA HE] at ox
   exact (ox.put2 p0 p1 _ _).mono (by omega)
  ·exact zE4 (zB (zB o9 O7) pF) (by omega) _ _
 ·have t1:¬ zN (x/y*y) x<0:=zG6 E2
  have HE:=zC (zQZ hy E2);clear E2
  go_enter Tryz.func85,Tryz.ntmps85
  go_wp2_with fail;refine (zA HF _ (h1.bw (bl3 _ _ _ _)) (h2.bw (bl3 _ _ _ _))).mono ?_;rintro r w1 ⟨m9,a1,n1,c1,rfl,o8,b9⟩;have X9:Below w.heap.size w w1:=zB (bl3 _ _ _ _) b9;obtain⟨C9,B9,D6⟩:=zZ (w.heap.size+1+1+1) (by simp) b9
  have A:NmC w1 w.heap.size ⟨neg,a,n,cap⟩:=⟨by simp[B9,go_sem],by simp[B9,go_sem]⟩
  have G:NmC w1 (w.heap.size+1) ⟨j6,c,m,m8⟩:=⟨by simp[B9,go_sem],by simp[B9,go_sem]⟩
  have R:NoI w1 (w.heap.size+1+1):=⟨by simp[B9,go_sem],by simp[B9,go_sem],λ o=>by simp[D6,go_sem]⟩
  have CA:=R.lt;clear B9 D6 b9 C9;obtain⟨W1,cr⟩:∃ W',W'=w1.alloc (.cells #[.bool m9,.slice a1 n1 c1] 29):=⟨_,rfl⟩;have E4:Below w1.heap.size w1 W1:=by rw[cr];exact bl1 _ _
  have X:NmC W1 w1.heap.size ⟨m9,a1,n1,c1⟩:=by rw[cr];exact zC6 w1 ⟨m9,a1,n1,c1⟩ _
  replace A:=A.bw E4;replace G:=G.bw E4;replace R:=R.bw E4;have o9:=zB X9 E4;have HX:=zC (h1.bw o9);have HY:=zC (h2.bw o9);replace o8:=zC (o8.bw E4);have lR:=R.lt;have lX:=X.lt;have nR:w1.heap.size≠w.heap.size+1+1:=Zf CA;have Kk:w.heap.size+1+1≠w1.heap.size:=λ e=>nR e.symm
  have D7:Below W1.heap.size W1 W1.drew:=(Below.refl _ _).drew
  have HK:=zC (show ∀ w',Below W1.heap.size W1 w'->(w'.cell? ⟨w.heap.size,0,none⟩=some (.bool neg)/\w'.cell? ⟨w.heap.size,1,none⟩=some (.slice a n cap)/\w'.cell? ⟨w.heap.size+1,0,none⟩=some (.bool j6)/\w'.cell? ⟨w.heap.size+1,1,none⟩=some (.slice c m m8)/\w'.cell? ⟨w1.heap.size,0,none⟩=some (.bool m9)/\w'.cell? ⟨w1.heap.size,1,none⟩=some (.slice a1 n1 c1)) from λ w' hB =>
   ⟨(A.bw hB).c0,(A.bw hB).c1,(G.bw hB).c0,(G.bw hB).c1,(X.bw hB).c0,(X.bw hB).c1⟩)
  go_wp2;rw[<- cr];clear cr;obtain⟨j0,j1,j2,j3,j4,j5⟩:=zA HK _ (Below.refl _ _)
  go_region_held3 (λ w'=>w'.cell? ⟨w.heap.size,0,none⟩=some (.bool neg)/\w'.cell? ⟨w.heap.size,1,none⟩=some (.slice a n cap)/\w'.cell? ⟨w.heap.size+1,0,none⟩=some (.bool j6)/\w'.cell? ⟨w.heap.size+1,1,none⟩=some (.slice c m m8)/\w'.cell? ⟨w1.heap.size,0,none⟩=some (.bool m9)/\w'.cell? ⟨w1.heap.size,1,none⟩=some (.slice a1 n1 c1)) (exact zA HK _ (by with_reducible first|exact D7|exact O7|exact I1))
   (first
    | (go_at_call 83;refine (zX _ _ _ _ _ _ _ _ (k+8) k2 (x/y) y _ ((zA o8).bw D7) ((zA HY).bw D7) (by omega) (by omega)).mono ?_;rintro r w4 ⟨E6,a4,n4,c4,rfl,I2,y9⟩;have I1:=zB D7 y9)
    | (go_at_call 17;refine (jY _ _ _ _ _ _ _ _ (k+8+k2) k (x/y*y) x _ I2 ((zA HX).bw I1)).mono ?_;rintro r w5 ⟨rfl,D8⟩;have O7:=zB I1 D8))
  clear j0 j1 j2 j3 j4 j5;have X5:=X.bw O7;have R5:=R.bw O7;have lR5:=R5.lt;have lX5:=X5.lt;obtain⟨j4,j5⟩:=X5;obtain⟨q0,q1,q2⟩:=R5;go_wp2;refine bodyPost_ret (v:=.agg #[.bool m9,.slice a1 n1 c1]) (by simp[results,Tryz.results85,go_sem,q0,q1]) rfl ⟨m9,a1,n1,c1,rfl,?_,?_⟩
  ·replace o8:=(zA o8).bw O7
   rw[zA HE] at o8;exact (o8.put2 q0 q1 _ _).mono (by omega)
  ·exact zE4 (zB o9 O7) (by omega) _ _
end Go.Proofs.YtgmnknmjainabacGreat
