/-
  Its own texts.
-/
import Derived.Test.YtgmnknmjainababGreatK12
set_option maxRecDepth 100000
set_option maxHeartbeats 8000000
set_option linter.unnecessarySimpa false
set_option linter.unusedSimpArgs false
set_option linter.unusedVariables false
namespace Go.Proofs.YtgmnknmjainababGreat.Ex
def LeN (f g:Nat→Rat):Prop:=∀ e:Rat,0<e→∃ N:Nat,∀ M,N≤M→f M≤g M+e
theorem LeN.refl (f:Nat→Rat):LeN f f:=fun e he=>⟨0,fun M _=>by grind⟩
theorem LeN.trans {f g h:Nat→Rat} (a:LeN f g) (b:LeN g h):LeN f h:=fun e he=>by
 obtain ⟨N1,h1⟩:=a (e/2) (by grind)
 obtain ⟨N2,h2⟩:=b (e/2) (by grind)
 exact ⟨N1+N2,fun M hM=>by have:=h1 M (by omega);have:=h2 M (by omega);grind⟩
theorem LeN.of_le {f g:Nat→Rat} (N:Nat) (h:∀ M,N≤M→f M≤g M):LeN f g:=fun e he=>⟨N,fun M hM=>by have:=h M hM;grind⟩
theorem LeN.of_null {f g z:Nat→Rat} (hz:Null z) (N:Nat) (h:∀ M,N≤M→f M≤g M+z M):LeN f g:=fun e he=>by
 obtain ⟨N1,h1⟩:=hz e he;exact ⟨N+N1,fun M hM=>by have:=h M (by omega);have:=(h1 M (by omega)).2;grind⟩
theorem LeN.null {f g:Nat→Rat} (h:LeN f g):∃ z,Null z∧∀ M,f M≤g M+z M:=by
 refine ⟨fun M=>if f M≤g M then 0 else f M-g M,fun e he=>?_,fun M=>?_⟩
 ·obtain ⟨N,hN⟩:=h e he
  refine ⟨N,fun M hM=>?_⟩
  have:=hN M hM;simp only[];split <;> constructor <;> grind
 ·simp only[];split <;> grind
theorem LeN.add {f g f' g':Nat→Rat} (a:LeN f g) (b:LeN f' g'):LeN (fun M=>f M+f' M) (fun M=>g M+g' M):=fun e he=>by
 obtain ⟨N1,h1⟩:=a (e/2) (by grind)
 obtain ⟨N2,h2⟩:=b (e/2) (by grind)
 exact ⟨N1+N2,fun M hM=>by have:=h1 M (by omega);have:=h2 M (by omega);grind⟩
theorem LeN.eq {f g:Nat→Rat} (h:LeN f g) (k:LeN g f):Null (fun M=>f M-g M):=fun e he=>by
 obtain ⟨N1,h1⟩:=h e he;obtain ⟨N2,h2⟩:=k e he;exact ⟨N1+N2,fun M hM=>by have:=h1 M (by omega);have:=h2 M (by omega);constructor <;> grind⟩
theorem Null.leN {f g:Nat→Rat} (h:Null (fun M=>f M-g M)):LeN f g:=fun e he=>by
 obtain ⟨N,hN⟩:=h e he;exact ⟨N,fun M hM=>by have:=(hN M hM).2;grind⟩
theorem Null.symm {f g:Nat→Rat} (h:Null (fun M=>f M-g M)):Null (fun M=>g M-f M):=h.neg.of_eq fun M=>by grind
theorem LeN.lim {f g:Nat→Rat} {C:Rat} (hC:0≤C) (h:∀ n:Nat,LeN f (fun M=>g M+C*(1/((n:Rat)+1)))):LeN f g:=fun e he=>by
 obtain ⟨n,hn⟩:=zB8 (2*C/e);have k:=h n;obtain ⟨N,hN⟩:=k (e/2) (by grind)
 refine ⟨N,fun M hM=>?_⟩
 have h1:=hN M hM;have n0:(0:Rat)<(n:Rat)+1:=zCD n
 have h2:C*(1/((n:Rat)+1))≤e/2:=by
  have um:1/((n:Rat)+1)*((n:Rat)+1)=1:=rdm n0;have u0:(0:Rat)<1/((n:Rat)+1):=zL (by grind) n0
  have ce:2*C/e*e=2*C:=rdm he;have h3:=Rat.mul_le_mul_of_nonneg_right hn.2 (Rat.le_of_lt he);rw[ce] at h3;have h4:=Rat.mul_le_mul_of_nonneg_right (show 2*C≤((n:Rat)+1)*e by grind) (Rat.le_of_lt u0)
  have e5:((n:Rat)+1)*e*(1/((n:Rat)+1))=(1/((n:Rat)+1)*((n:Rat)+1))*e:=by grind
  rw[e5,um] at h4;grind
 simp only[] at h1;grind
theorem zN8 {f:Rat→Nat→Rat} {a b C D:Rat} (hab:a≤b) (hC:0≤C) (hD:0<D)
  (step:∀ x h,a≤x→0<h→h≤D→x+h≤b→∃ z,Null z∧∃ N:Nat,∀ M,N≤M→f (x+h) M≤f x M+C*(h*h)+z M):LeN (f b) (f a):=by
 by_cases heq:a=b
 ·subst heq;exact LeN.refl _
 have hlt:0<b-a:=by grind
 refine LeN.lim (C:=C*((b-a)*(b-a))) (Rat.mul_nonneg hC (Rat.mul_nonneg (Rat.le_of_lt hlt) (Rat.le_of_lt hlt))) fun n0=>?_
 obtain ⟨m,hm⟩:=zB8 ((b-a)/D);obtain ⟨n,hn⟩:∃ n,n=n0+m:=⟨_,rfl⟩;have n0p:(0:Rat)<(n:Rat)+1:=zCD n;obtain ⟨h,hh⟩:∃ h,h=(b-a)/((n:Rat)+1):=⟨_,rfl⟩;have hmul:h*((n:Rat)+1)=b-a:=by rw[hh];exact rdm n0p
 have h0:0<h:=by rw[hh];exact zL hlt n0p
 have mn:(m:Rat)≤(n:Rat):=by exact_mod_cast (show m≤n by omega)
 have nn:(n0:Rat)≤(n:Rat):=by exact_mod_cast (show n0≤n by omega)
 have hD2:h≤D:=by
  have e1:(b-a)/D*D=b-a:=rdm hD;have h1:=Rat.mul_le_mul_of_nonneg_right hm.2 (Rat.le_of_lt hD);rw[e1] at h1;refine Rat.le_of_mul_le_mul_right (c:=(n:Rat)+1) ?_ n0p;rw[hmul];have:=Rat.mul_le_mul_of_nonneg_right mn (Rat.le_of_lt hD);grind
 have go:∀ i:Nat,i≤n+1→∃ z,Null z∧∃ N:Nat,∀ M,N≤M→f (a+(i:Rat)*h) M≤f a M+(i:Rat)*(C*(h*h))+z M:=by
  intro i
  induction i with
  | zero =>
   intro _
   refine ⟨_,null_zero,0,fun M _=>?_⟩
   have e:a+((0:Nat):Rat)*h=a:=by grind
   rw[e];grind
  | succ i ih =>
   intro hi
   obtain ⟨z1,hz1,N1,k1⟩:=ih (by omega)
   have i0:(0:Rat)≤(i:Rat):=by exact_mod_cast Nat.zero_le i
   have i1:(i:Rat)+1≤(n:Rat)+1:=by exact_mod_cast hi
   have p0:=Rat.mul_nonneg i0 (Rat.le_of_lt h0);have p1:=Rat.mul_le_mul_of_nonneg_right i1 (Rat.le_of_lt h0);have ec:((i+1:Nat):Rat)=(i:Rat)+1:=by push_cast;rfl
   have e1:a+(i:Rat)*h+h=a+((i+1:Nat):Rat)*h:=by rw[ec];grind
   obtain ⟨z2,hz2,N2,k2⟩:=step (a+(i:Rat)*h) h (by grind) h0 hD2 (by grind)
   rw[e1] at k2;refine ⟨_,hz1.add hz2,N1+N2,fun M hM=>?_⟩
   have a1:=k1 M (by omega)
   have a2:=k2 M (by omega)
   rw[ec] at a2 ⊢;grind
 obtain ⟨z,hz,N,k⟩:=go (n+1) (Nat.le_refl _);have ec:((n+1:Nat):Rat)=(n:Rat)+1:=by push_cast;rfl
 have e:a+((n+1:Nat):Rat)*h=b:=by rw[ec];grind
 rw[e,ec] at k;refine LeN.of_null hz N fun M hM=>?_
 have k1:=k M hM;have n1p:(0:Rat)<(n0:Rat)+1:=zCD n0;have um:1/((n0:Rat)+1)*((n0:Rat)+1)=1:=rdm n1p;have u0:(0:Rat)<1/((n0:Rat)+1):=zL (by grind) n1p
 have hb:((n:Rat)+1)*(C*(h*h))≤C*((b-a)*(b-a))*(1/((n0:Rat)+1)):=by
  have e2:((n:Rat)+1)*(C*(h*h))=C*(b-a)*h:=by rw[← hmul];grind
  rw[e2]
  have hu:h≤(b-a)*(1/((n0:Rat)+1)):=by
   refine Rat.le_of_mul_le_mul_right (c:=(n0:Rat)+1) ?_ n1p;have e3:(b-a)*(1/((n0:Rat)+1))*((n0:Rat)+1)=(b-a)*(1/((n0:Rat)+1)*((n0:Rat)+1)):=by grind
   rw[e3,um];have:=Rat.mul_le_mul_of_nonneg_left nn (Rat.le_of_lt h0);grind
  have:=Rat.mul_le_mul_of_nonneg_left hu (Rat.mul_nonneg hC (Rat.le_of_lt hlt));grind
 grind
end Go.Proofs.YtgmnknmjainababGreat.Ex
namespace Go.Proofs.YtgmnknmjainababGreat.Ex
def uT (u:Rat):Nat→Rat
 | 0=>u
 | n+1=>(2*(n:Rat)+1)/(2*(n:Rat)+3)*(u*u)*uT u n
def sg:Nat→Rat
 | 0=>1
 | n+1 => -sg n
theorem sg_one (n:Nat):sg n=1∨sg n = -1:=by
 induction n with
 | zero=>exact Or.inl rfl
 | succ n ih=>rcases ih with h|h <;> (show -sg n=1 ∨ -sg n = -1;rw[h];grind)
end Go.Proofs.YtgmnknmjainababGreat.Ex
namespace Go.Proofs.YtgmnknmjainababGreat.Ex
def ex (c:Rat) (M:Nat):Rat:=Ev (fun _=>c) M
theorem zGA (a b:Rat):Null (fun M=>ex a M*ex b M-ex (a+b) M):=zA1 (Bdd.const a) (Bdd.const b)
theorem kS (a:Rat):Bdd (ex a):=zBG (Bdd.const a)
theorem ex_mono {a b:Rat} (h:a≤b):LeN (ex a) (ex b):=by
 obtain ⟨v,hv,N,k⟩:=zCW (x:=fun _=>a) (y:=fun _=>b) (Bdd.const a) (Bdd.const b) null_zero 0 (fun M _=>by grind)
 exact LeN.of_null hv N k
end Go.Proofs.YtgmnknmjainababGreat.Ex
namespace Go.Proofs.YtgmnknmjainababGreat
open Go.RowKit
attribute [local go_sem ↓] Go.wp_at_zero Go.wp_at_succ
theorem zEJ (neg neg2:Bool) (a c:Option Addr) (n m cap cap2 k k2 b B:Nat) (x y:Int) (w:World) (h1:IntAt w neg a n cap k x) (h2:IntAt w neg2 c m cap2 k2 y) (hk:k≤300000000) (hb:b≤1000000) (hy:0<y) (hc:w.cell? ⟨B,4,none⟩=some (.int .i64 b)) :
  Calls Tryz.prog 179 #[.agg #[.bool neg,.slice a n cap],.agg #[.bool neg2,.slice c m cap2],.pointer (some ⟨B,0,none⟩)] w (zDF w (b/16+k+9) (x*Q b/y)):=by
 have lB:B<w.heap.size:=World.block_lt_of_cell? w ⟨B,4,none⟩ hc;have ne1:w.heap.size≠w.heap.size+1+1:=by omega
 have ne2:w.heap.size+1+1≠w.heap.size:=by omega
 obtain ⟨W,hW⟩:∃ W,W=((w.alloc (.cells #[.bool neg,.slice a n cap] 26)).alloc (.cells #[.bool neg2,.slice c m cap2] 26)).alloc (.cells #[.bool false,.slice none 0 0] 26):=⟨_,rfl⟩;have hBW:Below w.heap.size w W:=by rw[hW];exact bl3 _ _ _ _
 have A:NmC W w.heap.size ⟨neg,a,n,cap⟩:=by rw[hW];constructor <;> simp[go_sem]
 have G:NmC W (w.heap.size+1) ⟨neg2,c,m,cap2⟩:=by rw[hW];constructor <;> simp[go_sem]
 have R:NoI W (w.heap.size+1+1):=by rw[hW];constructor <;> simp[go_sem]
 have hcW:=(hBW.cell (p:=⟨B,4,none⟩) lB).trans hc;have lBW:=Nat.lt_of_lt_of_le lB hBW.size;have HX:=zC (h1.bw hBW);have HY:=zC (h2.bw hBW);have hB0:Below W.heap.size W W.drew:=(Below.refl _ _).drew;have lR:=R.lt;have nB:B≠w.heap.size+1+1:=by omega
 have nB':w.heap.size+1+1≠B:=by omega
 have HK:=zC (show ∀ w',Below W.heap.size W w'→(w'.cell? ⟨w.heap.size,0,none⟩=some (.bool neg)∧w'.cell? ⟨w.heap.size,1,none⟩=some (.slice a n cap)∧w'.cell? ⟨w.heap.size+1,0,none⟩=some (.bool neg2)∧w'.cell? ⟨w.heap.size+1,1,none⟩=some (.slice c m cap2)∧w'.cell? ⟨B,4,none⟩=some (.int .i64 b)) from fun w' hB=>⟨(A.bw hB).c0,(A.bw hB).c1,(G.bw hB).c0,(G.bw hB).c1,(hB.cell (p:=⟨B,4,none⟩) lBW).trans hcW⟩)
 go_enter Tryz.func179,Tryz.ntmps179
 go_wp2;rw[← hW];clear hW;obtain ⟨i0,i1,i2,i3,i4⟩:=zA HK _ (Below.refl _ _)
 go_region_held3 (fun w'=>w'.cell? ⟨w.heap.size,0,none⟩=some (.bool neg)∧w'.cell? ⟨w.heap.size,1,none⟩=some (.slice a n cap)∧w'.cell? ⟨w.heap.size+1,0,none⟩=some (.bool neg2)∧w'.cell? ⟨w.heap.size+1,1,none⟩=some (.slice c m cap2)∧w'.cell? ⟨B,4,none⟩=some (.int .i64 b)) (first|exact zA HK _ (by with_reducible first|exact hB0|exact hB2|exact hB1)|go_keep)
  (first
   | (go_at_call 95;refine (zAS _ _ _ _ b k x _ ((zA HX).bw hB0) (by omega) (by omega)).mono ?_;rintro r w1 ⟨neg1,a1,n1,c1,rfl,hZ1,hb1⟩;have hB1:=zB hB0 hb1)
   | (go_at_call 119;refine (kO _ _ _ _ _ _ _ _ (b/16+k+1) k2 (x*Q b) y _ hZ1 ((zA HY).bw hB1) (by omega) hy).mono ?_;rintro r w2 ⟨neg3,a3,n3,c3,rfl,hZ3,hb2⟩;have hB2:=zB hB1 hb2;obtain ⟨q0,q1,q2⟩:=R.bw hB2;obtain ⟨d0,d1,d2,d3,d4⟩:=zA HK _ hB2))
 clear i0 i1 i2 i3 i4;go_wp2;refine bodyPost_ret (v:=.agg #[.bool neg3,.slice a3 n3 c3]) (by simp[results,Tryz.results179,go_sem,q0,q1]) rfl ⟨neg3,a3,n3,c3,rfl,(hZ3.put2 q0 q1 _ _).mono (by omega),?_⟩
 exact zDN (zB hBW hB2) (by omega) _ _
theorem zEK (neg neg2:Bool) (a c:Option Addr) (n m cap cap2 k k2 b B:Nat) (x y:Int) (w:World) (h1:IntAt w neg a n cap k x) (h2:IntAt w neg2 c m cap2 k2 y) (hk:k≤300000000) (hb:b≤1000000) (hy:0<y) (hc:w.cell? ⟨B,4,none⟩=some (.int .i64 b)) :
  Calls Tryz.prog 181 #[.agg #[.bool neg,.slice a n cap],.agg #[.bool neg2,.slice c m cap2],.pointer (some ⟨B,0,none⟩)] w (zDF w (b/16+k+9) (-(-(x*Q b)/y))):=by
 have lB:B<w.heap.size:=World.block_lt_of_cell? w ⟨B,4,none⟩ hc;have ne1:w.heap.size≠w.heap.size+1+1:=by omega
 have ne2:w.heap.size+1+1≠w.heap.size:=by omega
 obtain ⟨W,hW⟩:∃ W,W=((w.alloc (.cells #[.bool neg,.slice a n cap] 26)).alloc (.cells #[.bool neg2,.slice c m cap2] 26)).alloc (.cells #[.bool false,.slice none 0 0] 26):=⟨_,rfl⟩;have hBW:Below w.heap.size w W:=by rw[hW];exact bl3 _ _ _ _
 have A:NmC W w.heap.size ⟨neg,a,n,cap⟩:=by rw[hW];constructor <;> simp[go_sem]
 have G:NmC W (w.heap.size+1) ⟨neg2,c,m,cap2⟩:=by rw[hW];constructor <;> simp[go_sem]
 have R:NoI W (w.heap.size+1+1):=by rw[hW];constructor <;> simp[go_sem]
 have hcW:=(hBW.cell (p:=⟨B,4,none⟩) lB).trans hc;have lBW:=Nat.lt_of_lt_of_le lB hBW.size;have HX:=zC (h1.bw hBW);have HY:=zC (h2.bw hBW);have hB0:Below W.heap.size W W.drew:=(Below.refl _ _).drew;have lR:=R.lt;have nB:B≠w.heap.size+1+1:=by omega
 have nB':w.heap.size+1+1≠B:=by omega
 have HK:=zC (show ∀ w',Below W.heap.size W w'→(w'.cell? ⟨w.heap.size,0,none⟩=some (.bool neg)∧w'.cell? ⟨w.heap.size,1,none⟩=some (.slice a n cap)∧w'.cell? ⟨w.heap.size+1,0,none⟩=some (.bool neg2)∧w'.cell? ⟨w.heap.size+1,1,none⟩=some (.slice c m cap2)∧w'.cell? ⟨B,4,none⟩=some (.int .i64 b)) from fun w' hB=>⟨(A.bw hB).c0,(A.bw hB).c1,(G.bw hB).c0,(G.bw hB).c1,(hB.cell (p:=⟨B,4,none⟩) lBW).trans hcW⟩)
 go_enter Tryz.func181,Tryz.ntmps181
 go_wp2;rw[← hW];clear hW;obtain ⟨i0,i1,i2,i3,i4⟩:=zA HK _ (Below.refl _ _)
 go_region_held3 (fun w'=>w'.cell? ⟨w.heap.size,0,none⟩=some (.bool neg)∧w'.cell? ⟨w.heap.size,1,none⟩=some (.slice a n cap)∧w'.cell? ⟨w.heap.size+1,0,none⟩=some (.bool neg2)∧w'.cell? ⟨w.heap.size+1,1,none⟩=some (.slice c m cap2)∧w'.cell? ⟨B,4,none⟩=some (.int .i64 b)) (first|exact zA HK _ (by with_reducible first|exact hB0|exact hB2|exact hB1)|go_keep)
  (first
   | (go_at_call 95;refine (zAS _ _ _ _ b k x _ ((zA HX).bw hB0) (by omega) (by omega)).mono ?_;rintro r w1 ⟨neg1,a1,n1,c1,rfl,hZ1,hb1⟩;have hB1:=zB hB0 hb1)
   | (go_at_call 176;refine (zHC _ _ _ _ _ _ _ _ (b/16+k+1) k2 (x*Q b) y _ hZ1 ((zA HY).bw hB1) (by omega) hy).mono ?_;rintro r w2 ⟨neg3,a3,n3,c3,rfl,hZ3,hb2⟩;have hB2:=zB hB1 hb2;obtain ⟨q0,q1,q2⟩:=R.bw hB2;obtain ⟨d0,d1,d2,d3,d4⟩:=zA HK _ hB2))
 clear i0 i1 i2 i3 i4;go_wp2;refine bodyPost_ret (v:=.agg #[.bool neg3,.slice a3 n3 c3]) (by simp[results,Tryz.results181,go_sem,q0,q1]) rfl ⟨neg3,a3,n3,c3,rfl,(hZ3.put2 q0 q1 _ _).mono (by omega),?_⟩
 exact zDN (zB hBW hB2) (by omega) _ _
theorem zD4 (w:World) (s t:Sp) (k b B:Nat) (lo hi lo' hi':Int) (hs:SpAt w s k lo hi) (ht:SpAt w t k lo' hi') (hk:k≤300000000) (hb:b≤1000000) (hp:0<lo') (hp2:0<hi') (hc:w.cell? ⟨B,4,none⟩=some (.int .i64 b)) :
  Calls Tryz.prog 178 #[.agg #[.bool s.ln,.slice s.la s.lN s.lc,.bool s.hn,.slice s.ha s.hN s.hc,.int .i64 s.bits],.agg #[.bool t.ln,.slice t.la t.lN t.lc,.bool t.hn,.slice t.ha t.hN t.hc,.int .i64 t.bits],.func (.func 179) #[] #[.pointer (some ⟨B,0,none⟩)]] w fun r w' =>
   ∃ B' f,r=.returned (.slice (some ⟨B',0,none⟩) 4 4)∧Nums w' B' 4 (b/16+k+9) f (pr4 (lo*Q b/lo') (lo*Q b/hi') (hi*Q b/lo') (hi*Q b/hi'))∧Below w.heap.size w w':=by
 have lB:B<w.heap.size:=World.block_lt_of_cell? w ⟨B,4,none⟩ hc;obtain ⟨W,hW⟩:∃ W,W=(w.alloc (.cells #[.bool s.ln,.slice s.la s.lN s.lc,.bool s.hn,.slice s.ha s.hN s.hc,.int .i64 s.bits] 28)).alloc (.cells #[.bool t.ln,.slice t.la t.lN t.lc,.bool t.hn,.slice t.ha t.hN t.hc,.int .i64 t.bits] 28):=⟨_,rfl⟩;have hBW:Below w.heap.size w W:=by rw[hW];exact bl2 _ _ _
 have a0:SpC W w.heap.size s:=by rw[hW];constructor <;> simp[go_sem]
 have g0:SpC W (w.heap.size+1) t:=by rw[hW];constructor <;> simp[go_sem]
 have hcW:=(hBW.cell (p:=⟨B,4,none⟩) lB).trans hc;have lBW:=Nat.lt_of_lt_of_le lB hBW.size;have HS:=zC (hs.bw hBW);have HT:=zC (ht.bw hBW);have hB0:Below W.heap.size W W.drew:=(Below.refl _ _).drew;have HKB:=zC (show ∀ w',Below W.heap.size W w'→w'.cell? ⟨B,4,none⟩=some (.int .i64 b) from fun w' hB=>(hB.cell (p:=⟨B,4,none⟩) lBW).trans hcW)
 have HK:=zC (show ∀ w',Below W.heap.size W w'→(w'.cell? ⟨w.heap.size,0,none⟩=some (.bool s.ln)∧w'.cell? ⟨w.heap.size,1,none⟩=some (.slice s.la s.lN s.lc)∧w'.cell? ⟨w.heap.size,2,none⟩=some (.bool s.hn)∧w'.cell? ⟨w.heap.size,3,none⟩=some (.slice s.ha s.hN s.hc)∧w'.cell? ⟨w.heap.size+1,0,none⟩=some (.bool t.ln)∧w'.cell? ⟨w.heap.size+1,1,none⟩=some (.slice t.la t.lN t.lc)∧w'.cell? ⟨w.heap.size+1,2,none⟩=some (.bool t.hn)∧w'.cell? ⟨w.heap.size+1,3,none⟩=some (.slice t.ha t.hN t.hc)) from fun w' hB=>by
  obtain ⟨x0,x1,x2,x3,x4⟩:=a0.bw hB;obtain ⟨y0,y1,y2,y3,y4⟩:=g0.bw hB
  exact ⟨x0,x1,x2,x3,y0,y1,y2,y3⟩)
 go_enter Tryz.func178,Tryz.ntmps178
 go_wp2;obtain ⟨x0,x1,x2,x3,x4⟩:=a0;obtain ⟨y0,y1,y2,y3,y4⟩:=g0;rw[← hW];clear hW
 go_region_held3 (fun w'=>w'.cell? ⟨w.heap.size,0,none⟩=some (.bool s.ln)∧w'.cell? ⟨w.heap.size,1,none⟩=some (.slice s.la s.lN s.lc)∧w'.cell? ⟨w.heap.size,2,none⟩=some (.bool s.hn)∧w'.cell? ⟨w.heap.size,3,none⟩=some (.slice s.ha s.hN s.hc)∧w'.cell? ⟨w.heap.size+1,0,none⟩=some (.bool t.ln)∧w'.cell? ⟨w.heap.size+1,1,none⟩=some (.slice t.la t.lN t.lc)∧w'.cell? ⟨w.heap.size+1,2,none⟩=some (.bool t.hn)∧w'.cell? ⟨w.heap.size+1,3,none⟩=some (.slice t.ha t.hN t.hc)) (exact zA HK _ (by with_reducible first|exact hB0|exact zK hB4 _|exact hB4|exact hB3|exact hB2|exact hB1))
  (first
   | (go_at_call 179;have hq:=hB3;refine (zEJ _ _ _ _ _ _ _ _ k k b B hi hi' _ ((zA HS).hi.bw hB3) ((zA HT).hi.bw hB3) hk hb hp2 (zA HKB _ hB3)).mono ?_;rintro r w4 ⟨neg4,a4,n4,c4,rfl,hZ4,hb4⟩;replace hZ1:=hZ1.bw hb4;replace hZ2:=hZ2.bw hb4;replace hZ3:=hZ3.bw hb4;have hB4:=zB hB3 hb4)
   | (go_at_call 179;have hq:=hB2;refine (zEJ _ _ _ _ _ _ _ _ k k b B hi lo' _ ((zA HS).hi.bw hB2) ((zA HT).lo.bw hB2) hk hb hp (zA HKB _ hB2)).mono ?_;rintro r w3 ⟨neg3,a3,n3,c3,rfl,hZ3,hb3⟩;replace hZ1:=hZ1.bw hb3;replace hZ2:=hZ2.bw hb3;have hB3:=zB hB2 hb3)
   | (go_at_call 179;have hq:=hB1;refine (zEJ _ _ _ _ _ _ _ _ k k b B lo hi' _ ((zA HS).lo.bw hB1) ((zA HT).hi.bw hB1) hk hb hp2 (zA HKB _ hB1)).mono ?_;rintro r w2 ⟨neg2,a2,n2,c2,rfl,hZ2,hb2⟩;replace hZ1:=hZ1.bw hb2;have hB2:=zB hB1 hb2)
   | (go_at_call 179;have hq:=hB0;refine (zEJ _ _ _ _ _ _ _ _ k k b B lo lo' _ ((zA HS).lo.bw hB0) ((zA HT).lo.bw hB0) hk hb hp (zA HKB _ hB0)).mono ?_;rintro r w1 ⟨neg1,a1,n1,c1,rfl,hZ1,hb1⟩;have hB1:=zB hB0 hb1))
 go_wp2
 go_ret
 exact ⟨w4.heap.size,pr4 ⟨neg1,a1,n1,c1⟩ ⟨neg2,a2,n2,c2⟩ ⟨neg3,a3,n3,c3⟩ ⟨neg4,a4,n4,c4⟩,rfl,zI2 w4 _ rfl ⟨neg1,a1,n1,c1⟩ ⟨neg2,a2,n2,c2⟩ ⟨neg3,a3,n3,c3⟩ ⟨neg4,a4,n4,c4⟩ _ _ _ _ _ _ hZ1 hZ2 hZ3 hZ4,zB hBW (zK hB4 _)⟩
theorem zD0 (w:World) (s t:Sp) (k b B:Nat) (lo hi lo' hi':Int) (hs:SpAt w s k lo hi) (ht:SpAt w t k lo' hi') (hk:k≤300000000) (hb:b≤1000000) (hp:0<lo') (hp2:0<hi') (hc:w.cell? ⟨B,4,none⟩=some (.int .i64 b)) :
  Calls Tryz.prog 178 #[.agg #[.bool s.ln,.slice s.la s.lN s.lc,.bool s.hn,.slice s.ha s.hN s.hc,.int .i64 s.bits],.agg #[.bool t.ln,.slice t.la t.lN t.lc,.bool t.hn,.slice t.ha t.hN t.hc,.int .i64 t.bits],.func (.func 181) #[] #[.pointer (some ⟨B,0,none⟩)]] w fun r w' =>
   ∃ B' f,r=.returned (.slice (some ⟨B',0,none⟩) 4 4)∧Nums w' B' 4 (b/16+k+9) f (pr4 (-(-(lo*Q b)/lo')) (-(-(lo*Q b)/hi')) (-(-(hi*Q b)/lo')) (-(-(hi*Q b)/hi')))∧Below w.heap.size w w':=by
 have lB:B<w.heap.size:=World.block_lt_of_cell? w ⟨B,4,none⟩ hc;obtain ⟨W,hW⟩:∃ W,W=(w.alloc (.cells #[.bool s.ln,.slice s.la s.lN s.lc,.bool s.hn,.slice s.ha s.hN s.hc,.int .i64 s.bits] 28)).alloc (.cells #[.bool t.ln,.slice t.la t.lN t.lc,.bool t.hn,.slice t.ha t.hN t.hc,.int .i64 t.bits] 28):=⟨_,rfl⟩;have hBW:Below w.heap.size w W:=by rw[hW];exact bl2 _ _ _
 have a0:SpC W w.heap.size s:=by rw[hW];constructor <;> simp[go_sem]
 have g0:SpC W (w.heap.size+1) t:=by rw[hW];constructor <;> simp[go_sem]
 have hcW:=(hBW.cell (p:=⟨B,4,none⟩) lB).trans hc;have lBW:=Nat.lt_of_lt_of_le lB hBW.size;have HS:=zC (hs.bw hBW);have HT:=zC (ht.bw hBW);have hB0:Below W.heap.size W W.drew:=(Below.refl _ _).drew;have HKB:=zC (show ∀ w',Below W.heap.size W w'→w'.cell? ⟨B,4,none⟩=some (.int .i64 b) from fun w' hB=>(hB.cell (p:=⟨B,4,none⟩) lBW).trans hcW)
 have HK:=zC (show ∀ w',Below W.heap.size W w'→(w'.cell? ⟨w.heap.size,0,none⟩=some (.bool s.ln)∧w'.cell? ⟨w.heap.size,1,none⟩=some (.slice s.la s.lN s.lc)∧w'.cell? ⟨w.heap.size,2,none⟩=some (.bool s.hn)∧w'.cell? ⟨w.heap.size,3,none⟩=some (.slice s.ha s.hN s.hc)∧w'.cell? ⟨w.heap.size+1,0,none⟩=some (.bool t.ln)∧w'.cell? ⟨w.heap.size+1,1,none⟩=some (.slice t.la t.lN t.lc)∧w'.cell? ⟨w.heap.size+1,2,none⟩=some (.bool t.hn)∧w'.cell? ⟨w.heap.size+1,3,none⟩=some (.slice t.ha t.hN t.hc)) from fun w' hB=>by
  obtain ⟨x0,x1,x2,x3,x4⟩:=a0.bw hB;obtain ⟨y0,y1,y2,y3,y4⟩:=g0.bw hB
  exact ⟨x0,x1,x2,x3,y0,y1,y2,y3⟩)
 go_enter Tryz.func178,Tryz.ntmps178
 go_wp2;obtain ⟨x0,x1,x2,x3,x4⟩:=a0;obtain ⟨y0,y1,y2,y3,y4⟩:=g0;rw[← hW];clear hW
 go_region_held3 (fun w'=>w'.cell? ⟨w.heap.size,0,none⟩=some (.bool s.ln)∧w'.cell? ⟨w.heap.size,1,none⟩=some (.slice s.la s.lN s.lc)∧w'.cell? ⟨w.heap.size,2,none⟩=some (.bool s.hn)∧w'.cell? ⟨w.heap.size,3,none⟩=some (.slice s.ha s.hN s.hc)∧w'.cell? ⟨w.heap.size+1,0,none⟩=some (.bool t.ln)∧w'.cell? ⟨w.heap.size+1,1,none⟩=some (.slice t.la t.lN t.lc)∧w'.cell? ⟨w.heap.size+1,2,none⟩=some (.bool t.hn)∧w'.cell? ⟨w.heap.size+1,3,none⟩=some (.slice t.ha t.hN t.hc)) (exact zA HK _ (by with_reducible first|exact hB0|exact zK hB4 _|exact hB4|exact hB3|exact hB2|exact hB1))
  (first
   | (go_at_call 181;have hq:=hB3;refine (zEK _ _ _ _ _ _ _ _ k k b B hi hi' _ ((zA HS).hi.bw hB3) ((zA HT).hi.bw hB3) hk hb hp2 (zA HKB _ hB3)).mono ?_;rintro r w4 ⟨neg4,a4,n4,c4,rfl,hZ4,hb4⟩;replace hZ1:=hZ1.bw hb4;replace hZ2:=hZ2.bw hb4;replace hZ3:=hZ3.bw hb4;have hB4:=zB hB3 hb4)
   | (go_at_call 181;have hq:=hB2;refine (zEK _ _ _ _ _ _ _ _ k k b B hi lo' _ ((zA HS).hi.bw hB2) ((zA HT).lo.bw hB2) hk hb hp (zA HKB _ hB2)).mono ?_;rintro r w3 ⟨neg3,a3,n3,c3,rfl,hZ3,hb3⟩;replace hZ1:=hZ1.bw hb3;replace hZ2:=hZ2.bw hb3;have hB3:=zB hB2 hb3)
   | (go_at_call 181;have hq:=hB1;refine (zEK _ _ _ _ _ _ _ _ k k b B lo hi' _ ((zA HS).lo.bw hB1) ((zA HT).hi.bw hB1) hk hb hp2 (zA HKB _ hB1)).mono ?_;rintro r w2 ⟨neg2,a2,n2,c2,rfl,hZ2,hb2⟩;replace hZ1:=hZ1.bw hb2;have hB2:=zB hB1 hb2)
   | (go_at_call 181;have hq:=hB0;refine (zEK _ _ _ _ _ _ _ _ k k b B lo lo' _ ((zA HS).lo.bw hB0) ((zA HT).lo.bw hB0) hk hb hp (zA HKB _ hB0)).mono ?_;rintro r w1 ⟨neg1,a1,n1,c1,rfl,hZ1,hb1⟩;have hB1:=zB hB0 hb1))
 go_wp2
 go_ret
 exact ⟨w4.heap.size,pr4 ⟨neg1,a1,n1,c1⟩ ⟨neg2,a2,n2,c2⟩ ⟨neg3,a3,n3,c3⟩ ⟨neg4,a4,n4,c4⟩,rfl,zI2 w4 _ rfl ⟨neg1,a1,n1,c1⟩ ⟨neg2,a2,n2,c2⟩ ⟨neg3,a3,n3,c3⟩ ⟨neg4,a4,n4,c4⟩ _ _ _ _ _ _ hZ1 hZ2 hZ3 hZ4,zB hBW (zK hB4 _)⟩
theorem zIR (w:World) (s t:Sp) (k b:Nat) (lo hi lo' hi':Int) (hs:SpAt w s k lo hi) (ht:SpAt w t k lo' hi') (hk:k≤300000000) (hb:b≤1000000) (hbits:s.bits=b) (hp:0<lo') (hp2:0<hi') :
  Calls Tryz.prog 146 #[.agg #[.bool s.ln,.slice s.la s.lN s.lc,.bool s.hn,.slice s.ha s.hN s.hc,.int .i64 s.bits],.agg #[.bool t.ln,.slice t.la t.lN t.lc,.bool t.hn,.slice t.ha t.hN t.hc,.int .i64 t.bits]] w (zH w b (b/16+k+10) (jA (pr4 (lo*Q b/lo') (lo*Q b/hi') (hi*Q b/lo') (hi*Q b/hi')) 3) (jM (pr4 (-(-(lo*Q b)/lo')) (-(-(lo*Q b)/hi')) (-(-(hi*Q b)/lo')) (-(-(hi*Q b)/hi'))) 3)):=by
 have HBT:=zC hbits;have t1:¬ zF hi' 0<0:=by unfold zF;rw[if_neg (by omega)];split <;> omega
 clear hbits;obtain ⟨W,hW⟩:∃ W,W=((w.alloc (.cells #[.bool s.ln,.slice s.la s.lN s.lc,.bool s.hn,.slice s.ha s.hN s.hc,.int .i64 s.bits] 28)).alloc (.cells #[.bool t.ln,.slice t.la t.lN t.lc,.bool t.hn,.slice t.ha t.hN t.hc,.int .i64 t.bits] 28)).alloc (.cells #[.bool false,.slice none 0 0,.bool false,.slice none 0 0,.int .i64 0] 28):=⟨_,rfl⟩;have hBW:Below w.heap.size w W:=by rw[hW];exact bl3 _ _ _ _
 have A:SpC W w.heap.size s:=by rw[hW];constructor <;> simp[go_sem]
 have G:SpC W (w.heap.size+1) t:=by rw[hW];constructor <;> simp[go_sem]
 have R:NoC W (w.heap.size+1+1):=by rw[hW];constructor <;> simp[go_sem]
 replace hs:=hs.bw hBW;replace ht:=ht.bw hBW
 go_enter Tryz.func146,Tryz.ntmps146
 go_wp2_with fail;rw[← hW];clear hW;refine (jZ _ _ _ _ k hi' _ ht.hi).mono ?_;rintro r w0 ⟨rfl,hb0⟩;replace hBW:=zB hBW hb0;replace A:=A.bw hb0;replace G:=G.bw hb0;replace R:=R.bw hb0;replace hs:=hs.bw hb0;replace ht:=ht.bw hb0;clear hb0;have lA:=A.lt;have lG:=G.lt;obtain ⟨x0,x1,x2,x3,x4⟩:=A;obtain ⟨y0,y1,y2,y3,y4⟩:=G;have A:SpC w0 w.heap.size s:=⟨x0,x1,x2,x3,x4⟩;have G:SpC w0 (w.heap.size+1) t:=⟨y0,y1,y2,y3,y4⟩;go_wp2_with fail;clear lA lG x0 x1 x2 x3 x4 y0 y1 y2 y3 y4;refine (zD4 _ s t k b w.heap.size lo hi lo' hi' hs ht hk hb hp hp2 (by rw[← zA HBT];exact A.c4)).mono ?_
 rintro r w1 ⟨B1,f1,rfl,hN1,hb1⟩;replace hBW:=zB hBW hb1;replace A:=A.bw hb1;replace G:=G.bw hb1;replace R:=R.bw hb1;replace hs:=hs.bw hb1;replace ht:=ht.bw hb1;clear hb1;go_wp2_with fail;refine (zCO _ 3 _ (b/16+k+9) f1 _ _ hN1 (by omega) (by omega)).mono ?_
 rintro r w2 ⟨neg2,a2,n2,c2,rfl,hZ2,hb2⟩;replace hBW:=zB hBW hb2;replace A:=A.bw hb2;replace G:=G.bw hb2;replace R:=R.bw hb2;replace hs:=hs.bw hb2;replace ht:=ht.bw hb2;clear hb2 hN1;obtain ⟨W2,hW2⟩:∃ W',W'=w2.alloc (.cells #[.bool neg2,.slice a2 n2 c2] 26):=⟨_,rfl⟩;have hc2:Below w2.heap.size w2 W2:=by rw[hW2];exact bl1 _ _
 have X2:NmC W2 w2.heap.size ⟨neg2,a2,n2,c2⟩:=by rw[hW2];exact yS w2 ⟨neg2,a2,n2,c2⟩ _
 have lA:=A.lt;have lG:=G.lt;obtain ⟨x0,x1,x2,x3,x4⟩:=A;obtain ⟨y0,y1,y2,y3,y4⟩:=G;have A:SpC w2 w.heap.size s:=⟨x0,x1,x2,x3,x4⟩;have G:SpC w2 (w.heap.size+1) t:=⟨y0,y1,y2,y3,y4⟩;go_wp2_with fail;rw[← hW2];clear hW2;clear lA lG x0 x1 x2 x3 x4 y0 y1 y2 y3 y4;have nR2:w2.heap.size≠w.heap.size+1+1:=Nat.ne_of_gt R.lt;replace hBW:=zB hBW hc2;replace A:=A.bw hc2;replace G:=G.bw hc2;replace R:=R.bw hc2;replace hs:=hs.bw hc2;replace ht:=ht.bw hc2;replace hZ2:=hZ2.bw hc2;clear hc2;refine (zD0 _ s t k b w.heap.size lo hi lo' hi' hs ht hk hb hp hp2 (by rw[← zA HBT];exact A.c4)).mono ?_
 rintro r w3 ⟨B3,f3,rfl,hN3,hb3⟩;replace hBW:=zB hBW hb3;replace A:=A.bw hb3;replace R:=R.bw hb3;replace hZ2:=hZ2.bw hb3;replace X2:=X2.bw hb3;clear hb3;go_wp2_with fail;refine (zEL _ 3 _ (b/16+k+9) f3 _ _ hN3 (by omega) (by omega)).mono ?_
 rintro r w4 ⟨neg4,a4,n4,c4,rfl,hZ4,hb4⟩;replace hBW:=zB hBW hb4;replace A:=A.bw hb4;replace R:=R.bw hb4;replace hZ2:=hZ2.bw hb4;replace X2:=X2.bw hb4;clear hb4 hN3;have lA:=A.lt;have lX:=X2.lt;have lR:=R.lt;have nR2':w.heap.size+1+1≠w2.heap.size:=fun e9=>nR2 e9.symm
 have nR4:w4.heap.size≠w.heap.size+1+1:=Nat.ne_of_gt lR;have nR4':w.heap.size+1+1≠w4.heap.size:=Nat.ne_of_lt lR;have nX4:w2.heap.size≠w4.heap.size:=Nat.ne_of_lt lX;obtain ⟨x0,x1,x2,x3,x4⟩:=A;obtain ⟨z0,z1⟩:=X2;obtain ⟨q0,q1,q2,q3,q4,q5⟩:=R;go_wp2_with fail;refine bodyPost_ret (v:=.agg #[.bool neg2,.slice a2 n2 c2,.bool neg4,.slice a4 n4 c4,.int .i64 s.bits]) (by simp[results,Tryz.results146,go_sem,lR,q0,q1,q2,q3,q4]) rfl ⟨⟨neg2,a2,n2,c2,neg4,a4,n4,c4,s.bits⟩,rfl,zA HBT,?_,?_⟩
 ·first|with_reducible exact SpAt.put5 ⟨(hZ2.bw (bl1 _ _)).mono (by omega),(hZ4.bw (bl1 _ _)).mono (by omega)⟩ (by simp[go_sem,lR,q0]) (by simp[go_sem,lR,q1]) (by simp[go_sem,lR,q2]) (by simp[go_sem,lR,q3]) (by simp[go_sem,lR,q4]) _ _ _ _ _|with_reducible exact SpAt.bw (SpAt.put5 ⟨hZ2.mono (by omega),hZ4.mono (by omega)⟩ q0 q1 q2 q3 q4 _ _ _ _ _) (bl1 _ _)
 ·first|with_reducible exact jV (zK hBW _) (by omega) _ _ _ _ _|with_reducible exact zK (jV hBW (by omega) _ _ _ _ _) _
theorem SpC.put5n {w:World} {B B':Nat} {s:Sp} (h:SpC w B s) (hne:B≠B') (u0 u1 u2 u3 u4:Value) :
  SpC (((((w.setCell ⟨B',0,none⟩ u0).setCell ⟨B',1,none⟩ u1).setCell ⟨B',2,none⟩ u2).setCell ⟨B',3,none⟩ u3).setCell ⟨B',4,none⟩ u4) B s :=
 ⟨jE h.c0 hne _ _ _ _ _,jE h.c1 hne _ _ _ _ _,jE h.c2 hne _ _ _ _ _,jE h.c3 hne _ _ _ _ _,jE h.c4 hne _ _ _ _ _⟩
theorem NoC.put5n {w:World} {B B':Nat} (h:NoC w B) (hne:B≠B') (u0 u1 u2 u3 u4:Value) :
  NoC (((((w.setCell ⟨B',0,none⟩ u0).setCell ⟨B',1,none⟩ u1).setCell ⟨B',2,none⟩ u2).setCell ⟨B',3,none⟩ u3).setCell ⟨B',4,none⟩ u4) B:=by
 obtain ⟨q0,q1,q2,q3,q4,q5⟩:=h;exact ⟨jE q0 hne _ _ _ _ _,jE q1 hne _ _ _ _ _,jE q2 hne _ _ _ _ _,jE q3 hne _ _ _ _ _,jE q4 hne _ _ _ _ _,fun o=>by rw[zM,zM,zM,zM,zM];exact q5 o⟩
theorem sp_put {w:World} {B:Nat} {t:Sp} (h:SpC w B t) (s:Sp):SpC (((((w.setCell ⟨B,0,none⟩ (.bool s.ln)).setCell ⟨B,1,none⟩ (.slice s.la s.lN s.lc)).setCell ⟨B,2,none⟩ (.bool s.hn)).setCell ⟨B,3,none⟩ (.slice s.ha s.hN s.hc)).setCell ⟨B,4,none⟩ (.int .i64 s.bits)) B s:=by
 obtain ⟨q0,q1,q2,q3,q4⟩:=h;constructor <;> simp[go_sem,q0,q1,q2,q3,q4]
theorem two_sp {w:World} {B B':Nat} {s t:Sp} (hA:SpC w B s) (hG:SpC w B' t) (hne:B≠B') (u v:Sp) :
  let w1:=((((w.setCell ⟨B,0,none⟩ (.bool u.ln)).setCell ⟨B,1,none⟩ (.slice u.la u.lN u.lc)).setCell ⟨B,2,none⟩ (.bool u.hn)).setCell ⟨B,3,none⟩ (.slice u.ha u.hN u.hc)).setCell ⟨B,4,none⟩ (.int .i64 u.bits)
  let w2:=((((w1.setCell ⟨B',0,none⟩ (.bool v.ln)).setCell ⟨B',1,none⟩ (.slice v.la v.lN v.lc)).setCell ⟨B',2,none⟩ (.bool v.hn)).setCell ⟨B',3,none⟩ (.slice v.ha v.hN v.hc)).setCell ⟨B',4,none⟩ (.int .i64 v.bits)
  SpC w2 B u∧SpC w2 B' v∧(∀ {x:Sp} {k:Nat} {lo hi:Int},SpAt w x k lo hi→SpAt w2 x k lo hi)∧(∀ {C:Nat},NoC w C→C≠B→C≠B'→NoC w2 C):=by
 intro w1 w2
 have h1:SpC w1 B u:=sp_put hA u;have h2:SpC w1 B' t:=hG.put5n (fun e=>hne e.symm) _ _ _ _ _
 exact ⟨h1.put5n hne _ _ _ _ _,sp_put h2 v,fun h=>SpAt.put5 (SpAt.put5 h hA.c0 hA.c1 hA.c2 hA.c3 hA.c4 _ _ _ _ _) h2.c0 h2.c1 h2.c2 h2.c3 h2.c4 _ _ _ _ _,fun h n1 n2=>(h.put5n n1 _ _ _ _ _).put5n n2 _ _ _ _ _⟩
theorem zJ0 (w:World) (s t:Sp) (k b:Nat) (lo hi lo' hi':Int) (hs:SpAt w s k lo hi) (ht:SpAt w t k lo' hi') (hk:k≤300000000) (hb:b≤1000000) (hbits:s.bits=b) (hp:lo'<0) (hp2:hi'<0) :
  Calls Tryz.prog 146 #[.agg #[.bool s.ln,.slice s.la s.lN s.lc,.bool s.hn,.slice s.ha s.hN s.hc,.int .i64 s.bits],.agg #[.bool t.ln,.slice t.la t.lN t.lc,.bool t.hn,.slice t.ha t.hN t.hc,.int .i64 t.bits]] w (zH w b (b/16+k+10) (jA (pr4 ((-hi)*Q b/(-hi')) ((-hi)*Q b/(-lo')) ((-lo)*Q b/(-hi')) ((-lo)*Q b/(-lo'))) 3) (jM (pr4 (-(-((-hi)*Q b)/(-hi'))) (-(-((-hi)*Q b)/(-lo'))) (-(-((-lo)*Q b)/(-hi'))) (-(-((-lo)*Q b)/(-lo')))) 3)):=by
 have HBT:=zC hbits;have t1:zF hi' 0<0:=by unfold zF;rw[if_pos (by omega)];omega
 clear hbits;obtain ⟨W,hW⟩:∃ W,W=((w.alloc (.cells #[.bool s.ln,.slice s.la s.lN s.lc,.bool s.hn,.slice s.ha s.hN s.hc,.int .i64 s.bits] 28)).alloc (.cells #[.bool t.ln,.slice t.la t.lN t.lc,.bool t.hn,.slice t.ha t.hN t.hc,.int .i64 t.bits] 28)).alloc (.cells #[.bool false,.slice none 0 0,.bool false,.slice none 0 0,.int .i64 0] 28):=⟨_,rfl⟩;have hBW:Below w.heap.size w W:=by rw[hW];exact bl3 _ _ _ _
 have A:SpC W w.heap.size s:=by rw[hW];constructor <;> simp[go_sem]
 have G:SpC W (w.heap.size+1) t:=by rw[hW];constructor <;> simp[go_sem]
 have R:NoC W (w.heap.size+1+1):=by rw[hW];constructor <;> simp[go_sem]
 have FA:∀ o,W.frozen? ⟨w.heap.size,o,none⟩=false:=by intro o;rw[hW];simp[go_sem]
 have FG:∀ o,W.frozen? ⟨w.heap.size+1,o,none⟩=false:=by intro o;rw[hW];simp[go_sem]
 replace hs:=hs.bw hBW;replace ht:=ht.bw hBW
 go_enter Tryz.func146,Tryz.ntmps146
 go_wp2_with fail;rw[← hW];clear hW;refine (jZ _ _ _ _ k hi' _ ht.hi).mono ?_;rintro r w0 ⟨rfl,hb0⟩;replace hBW:=zB hBW hb0;replace FA:∀ o,w0.frozen? ⟨w.heap.size,o,none⟩=false:=fun o=>(hb0.frozen (p:=⟨w.heap.size,o,none⟩) A.lt).trans (FA o)
 replace FG:∀ o,w0.frozen? ⟨w.heap.size+1,o,none⟩=false:=fun o=>(hb0.frozen (p:=⟨w.heap.size+1,o,none⟩) G.lt).trans (FG o)
 replace A:=A.bw hb0;replace G:=G.bw hb0;replace R:=R.bw hb0;replace hs:=hs.bw hb0;replace ht:=ht.bw hb0;clear hb0;have nAG:w.heap.size≠w.heap.size+1:=by omega
 have nRA:w.heap.size+1+1≠w.heap.size:=by omega
 have nRG:w.heap.size+1+1≠w.heap.size+1:=by omega
 have HS:=zC hs;have HT:=zC ht;have HR:=zC R;have HA:=zC A;have HG:=zC G;have lA:=A.lt;have lG:=G.lt;have hB0:Below w0.heap.size w0 w0.drew:=(Below.refl _ _).drew;obtain ⟨x0,x1,x2,x3,x4⟩:=A;obtain ⟨y0,y1,y2,y3,y4⟩:=G;go_wp2_with fail
 go_cut [12] (fun p wx=>∃ s2 t2:Sp,s2.bits=s.bits∧SpC wx w.heap.size s2∧SpC wx (w.heap.size+1) t2∧SpAt wx s2 k (-hi) (-lo)∧SpAt wx t2 k (-hi') (-lo')∧NoC wx (w.heap.size+1+1)∧Below w.heap.size w wx)
 case first =>
  go_region_with
   (first
    | (go_at_call 97;have hq:=hB1;refine (zB4 _ t k lo' hi' ((zA HT).bw hB1) (by omega)).mono ?_;rintro r w2 ⟨u2,rfl,hub2,hup2,hb2⟩;have HU2:=zC hub2;clear hub2;have hB2:=zB hB1 hb2;replace hup1:=hup1.bw hb2;have l2A:=Nat.lt_of_lt_of_le lA hB2.size;have l2G:=Nat.lt_of_lt_of_le lG hB2.size;obtain ⟨a0,a1,a2,a3,a4⟩:=(zA HA).bw hB2;obtain ⟨g0,g1,g2,g3,g4⟩:=(zA HG).bw hB2;have fA2:∀ o,w2.frozen? ⟨w.heap.size,o,none⟩=false:=(fun o=>(hB2.frozen (p:=⟨w.heap.size,o,none⟩) lA).trans (FA o));have fG2:∀ o,w2.frozen? ⟨w.heap.size+1,o,none⟩=false:=(fun o=>(hB2.frozen (p:=⟨w.heap.size+1,o,none⟩) lG).trans (FG o)))
    | (go_at_call 97;refine (zB4 _ s k lo hi ((zA HS).bw (by repeat' (first|with_reducible exact Below.refl _ _|with_reducible refine Below.drew ?_))) (by omega)).mono ?_;rintro r w1 ⟨u1,rfl,hub1,hup1,hb1⟩;have HU1:=zC hub1;clear hub1;have hB1:Below w0.heap.size w0 w1:=zB (by repeat' (first|with_reducible exact Below.refl _ _|with_reducible refine Below.drew ?_)) hb1;obtain ⟨b0,b1,b2,b3,b4⟩:=(zA HA).bw hB1;obtain ⟨d0,d1,d2,d3,d4⟩:=(zA HG).bw hB1;have l1A:=Nat.lt_of_lt_of_le lA hB1.size;have l1G:=Nat.lt_of_lt_of_le lG hB1.size))
  all_goals
   go_wp2_with fail;go_meet;have A2:SpC w2 w.heap.size s:=⟨a0,a1,a2,a3,a4⟩;have G2:SpC w2 (w.heap.size+1) t:=⟨g0,g1,g2,g3,g4⟩;obtain ⟨p1,p2,p3,p4⟩:=two_sp A2 G2 nAG u1 u2;exact ⟨u1,u2,zA HU1,p1,p2,p3 hup1,p3 hup2,p4 ((zA HR).bw hB2) nRA nRG,jV (jV (zB hBW hB2) (Nat.le_refl _) _ _ _ _ _) (Nat.le_succ _) _ _ _ _ _⟩
 case rest =>
 obtain ⟨s2,t2,hsb,A,G,hs,ht,R,hBW⟩:=hcut;replace HBT:=zC (hsb.trans (zA HBT));clear hsb HA HG HS HT HR lA lG x0 x1 x2 x3 x4 y0 y1 y2 y3 y4 FA FG hB0;have lA:=A.lt;have lG:=G.lt;obtain ⟨x0,x1,x2,x3,x4⟩:=A;obtain ⟨y0,y1,y2,y3,y4⟩:=G;have A:SpC wc w.heap.size s2:=⟨x0,x1,x2,x3,x4⟩;have G:SpC wc (w.heap.size+1) t2:=⟨y0,y1,y2,y3,y4⟩;go_wp2_with fail;clear lA lG x0 x1 x2 x3 x4 y0 y1 y2 y3 y4;refine (zD4 _ s2 t2 k b w.heap.size (-hi) (-lo) (-hi') (-lo') hs ht hk hb (by omega) (by omega) (by rw[← zA HBT];exact A.c4)).mono ?_
 rintro r w1 ⟨B1,f1,rfl,hN1,hb1⟩;replace hBW:=zB hBW hb1;replace A:=A.bw hb1;replace G:=G.bw hb1;replace R:=R.bw hb1;replace hs:=hs.bw hb1;replace ht:=ht.bw hb1;clear hb1;go_wp2_with fail;refine (zCO _ 3 _ (b/16+k+9) f1 _ _ hN1 (by omega) (by omega)).mono ?_
 rintro r w2 ⟨neg2,a2,n2,c2,rfl,hZ2,hb2⟩;replace hBW:=zB hBW hb2;replace A:=A.bw hb2;replace G:=G.bw hb2;replace R:=R.bw hb2;replace hs:=hs.bw hb2;replace ht:=ht.bw hb2;clear hb2 hN1;obtain ⟨W2,hW2⟩:∃ W',W'=w2.alloc (.cells #[.bool neg2,.slice a2 n2 c2] 26):=⟨_,rfl⟩;have hc2:Below w2.heap.size w2 W2:=by rw[hW2];exact bl1 _ _
 have X2:NmC W2 w2.heap.size ⟨neg2,a2,n2,c2⟩:=by rw[hW2];exact yS w2 ⟨neg2,a2,n2,c2⟩ _
 have lA:=A.lt;have lG:=G.lt;obtain ⟨x0,x1,x2,x3,x4⟩:=A;obtain ⟨y0,y1,y2,y3,y4⟩:=G;have A:SpC w2 w.heap.size s2:=⟨x0,x1,x2,x3,x4⟩;have G:SpC w2 (w.heap.size+1) t2:=⟨y0,y1,y2,y3,y4⟩;go_wp2_with fail;rw[← hW2];clear hW2;clear lA lG x0 x1 x2 x3 x4 y0 y1 y2 y3 y4;have nR2:w2.heap.size≠w.heap.size+1+1:=Nat.ne_of_gt R.lt;replace hBW:=zB hBW hc2;replace A:=A.bw hc2;replace G:=G.bw hc2;replace R:=R.bw hc2;replace hs:=hs.bw hc2;replace ht:=ht.bw hc2;replace hZ2:=hZ2.bw hc2;clear hc2;refine (zD0 _ s2 t2 k b w.heap.size (-hi) (-lo) (-hi') (-lo') hs ht hk hb (by omega) (by omega) (by rw[← zA HBT];exact A.c4)).mono ?_
 rintro r w3 ⟨B3,f3,rfl,hN3,hb3⟩;replace hBW:=zB hBW hb3;replace A:=A.bw hb3;replace R:=R.bw hb3;replace hZ2:=hZ2.bw hb3;replace X2:=X2.bw hb3;clear hb3;go_wp2_with fail;refine (zEL _ 3 _ (b/16+k+9) f3 _ _ hN3 (by omega) (by omega)).mono ?_
 rintro r w4 ⟨neg4,a4,n4,c4,rfl,hZ4,hb4⟩;replace hBW:=zB hBW hb4;replace A:=A.bw hb4;replace R:=R.bw hb4;replace hZ2:=hZ2.bw hb4;replace X2:=X2.bw hb4;clear hb4 hN3;have lA:=A.lt;have lX:=X2.lt;have lR:=R.lt;have nR2':w.heap.size+1+1≠w2.heap.size:=fun e9=>nR2 e9.symm
 have nR4:w4.heap.size≠w.heap.size+1+1:=Nat.ne_of_gt lR;have nR4':w.heap.size+1+1≠w4.heap.size:=Nat.ne_of_lt lR;have nX4:w2.heap.size≠w4.heap.size:=Nat.ne_of_lt lX;obtain ⟨x0,x1,x2,x3,x4⟩:=A;obtain ⟨z0,z1⟩:=X2;obtain ⟨q0,q1,q2,q3,q4,q5⟩:=R;go_wp2_with fail;refine bodyPost_ret (v:=.agg #[.bool neg2,.slice a2 n2 c2,.bool neg4,.slice a4 n4 c4,.int .i64 s2.bits]) (by simp[results,Tryz.results146,go_sem,lR,q0,q1,q2,q3,q4]) rfl ⟨⟨neg2,a2,n2,c2,neg4,a4,n4,c4,s2.bits⟩,rfl,zA HBT,?_,?_⟩
 ·first|with_reducible exact SpAt.put5 ⟨(hZ2.bw (bl1 _ _)).mono (by omega),(hZ4.bw (bl1 _ _)).mono (by omega)⟩ (by simp[go_sem,lR,q0]) (by simp[go_sem,lR,q1]) (by simp[go_sem,lR,q2]) (by simp[go_sem,lR,q3]) (by simp[go_sem,lR,q4]) _ _ _ _ _|with_reducible exact SpAt.bw (SpAt.put5 ⟨hZ2.mono (by omega),hZ4.mono (by omega)⟩ q0 q1 q2 q3 q4 _ _ _ _ _) (bl1 _ _)
 ·first|with_reducible exact jV (zK hBW _) (by omega) _ _ _ _ _|with_reducible exact zK (jV hBW (by omega) _ _ _ _ _) _
theorem zE9 (w:World) (s t:Sp) (k b:Nat) (lo hi lo' hi':Int) (hs:SpAt w s k lo hi) (ht:SpAt w t k lo' hi') (hk:k≤300000000) (hb:b≤1000000) (hbits:s.bits=b) (hl:lo≤hi) (hp:¬ (lo'≤0∧0≤hi')) (hp2:lo'≤hi') :
  Calls Tryz.prog 146 #[.agg #[.bool s.ln,.slice s.la s.lN s.lc,.bool s.hn,.slice s.ha s.hN s.hc,.int .i64 s.bits],.agg #[.bool t.ln,.slice t.la t.lN t.lc,.bool t.hn,.slice t.ha t.hN t.hc,.int .i64 t.bits]] w (zH w b (b/16+k+10) (zEB lo hi lo' hi' b) (zE1 lo hi lo' hi' b)):=by
 have hq:=zG b;unfold zEB zE1
 by_cases h:hi'<0
 ·rw[if_pos h,if_pos h]
  have:=zJ0 w s t k b lo hi lo' hi' hs ht hk hb hbits (by omega) h
  rw[zFU (Int.mul_le_mul_of_nonneg_right (by omega) (by omega)) (by omega) (by omega),zHL (Int.mul_le_mul_of_nonneg_right (by omega) (by omega)) (by omega) (by omega)] at this
  exact this
 ·rw[if_neg h,if_neg h]
  have:=zIR w s t k b lo hi lo' hi' hs ht hk hb hbits (by omega) (by omega)
  rw[zFU (Int.mul_le_mul_of_nonneg_right hl (by omega)) (by omega) (by omega),zHL (Int.mul_le_mul_of_nonneg_right hl (by omega)) (by omega) (by omega)] at this
  exact this
theorem zH6 (neg neg2:Bool) (a c:Option Addr) (n m cap cap2 k k2 b:Nat) (x y:Int) (w:World) (h1:IntAt w neg a n cap k x) (h2:IntAt w neg2 c m cap2 k2 y) (hk:k≤600000000) (hk2:k2≤100000000) (hb:b≤900000) (hy:0<y)
  (hfl:∀ neg' a' n' cap' w',IntAt w' neg' a' n' cap' (k+b/16+5) (x*Q b)→IntAt w' neg2 c m cap2 k2 y→Calls Tryz.prog 119 #[.agg #[.bool neg',.slice a' n' cap'],.agg #[.bool neg2,.slice c m cap2]] w' (zAC w' (k+b/16+5) (x*Q b/y))) :
  Calls Tryz.prog 54 #[.agg #[.bool neg,.slice a n cap],.agg #[.bool neg2,.slice c m cap2],.int .i64 b] w (zH w b (k+b/16+14) (x*Q b/y) (-(-(x*Q b)/y))):=by
 have HF:=zC hfl;clear hfl;obtain ⟨W,hW⟩:∃ W,W=((w.alloc (.cells #[.bool neg,.slice a n cap] 26)).alloc (.cells #[.bool neg2,.slice c m cap2] 26)).alloc (.cells #[.bool false,.slice none 0 0,.bool false,.slice none 0 0,.int .i64 0] 36):=⟨_,rfl⟩;have hBW:Below w.heap.size w W:=by rw[hW];exact bl3 _ _ _ _
 have A:NmC W w.heap.size ⟨neg,a,n,cap⟩:=by rw[hW];constructor <;> simp[go_sem]
 have G:NmC W (w.heap.size+1) ⟨neg2,c,m,cap2⟩:=by rw[hW];constructor <;> simp[go_sem]
 have R:NoC W (w.heap.size+1+1):=by rw[hW];constructor <;> simp[go_sem]
 have HX:=zC (h1.bw hBW);have HY:=zC (h2.bw hBW);have HK:=zC (show ∀ w',Below W.heap.size W w'→(w'.cell? ⟨w.heap.size,0,none⟩=some (.bool neg)∧w'.cell? ⟨w.heap.size,1,none⟩=some (.slice a n cap)) from fun w' hB=>⟨(A.bw hB).c0,(A.bw hB).c1⟩)
 go_enter Tryz.func54,Tryz.ntmps54
 go_wp2;rw[← hW];clear hW;obtain ⟨i0,i1⟩:=A;have lW:=G.lt;have lR:=R.lt
 go_cut [7] (fun p wx=>VarAt wx p W.heap.size (k+b/16+5) (x*Q b)∧Below W.heap.size W wx)
 case first =>
  go_region_held3 (fun w'=>w'.cell? ⟨w.heap.size,0,none⟩=some (.bool neg)∧w'.cell? ⟨w.heap.size,1,none⟩=some (.slice a n cap)) (exact zA HK _ (by repeat' (first|with_reducible exact hBX2|with_reducible exact hBX1|with_reducible exact Below.refl _ _|with_reducible refine Below.drew ?_|with_reducible refine zK ?_ _|with_reducible refine Below.setCell ?_ (by first|exact Nat.le_refl _|exact hlX1|exact hlX2) _)))
   (first
    | (go_at_call 66;have hq:=hBX1;refine (zX _ _ _ _ _ _ _ _ k (b/16+5) x (Q b) _ ((zA HX).bw (by with_reducible first|exact hBX1|exact zK hBX1 _)) (hZX1.bw (by with_reducible first|exact Below.refl _ _|exact bl1 _ _)) (by omega) (by omega)).mono ?_;rintro r wX2 ⟨negX2,aX2,nX2,cX2,rfl,hZX2,hbX2⟩;have hCX2:Below wX1.heap.size wX1 wX2:=(by with_reducible first|exact hbX2|exact zB (bl1 _ _) hbX2);have hBX2:=zB hBX1 hCX2;(try with_reducible have gX2:=(jW wX1 26).bw hbX2);replace hZX1:=hZX1.bw hCX2;(try replace gX1:=gX1.bw hCX2);have hlX2:=hBX2.size;(try have mX1:=gX1.lt);(try have eX1:=Nat.ne_of_lt mX1);(try have eX1':=Nat.ne_of_gt mX1);(try obtain ⟨zX10,zX11,zX12⟩:=gX1);(try have mX2:=gX2.lt);(try have eX2:=Nat.ne_of_lt mX2);(try have eX2':=Nat.ne_of_gt mX2);(try obtain ⟨zX20,zX21,zX22⟩:=gX2))
    | (go_at_call 104;refine (kC b _ (by omega)).mono ?_;rintro r wX1 ⟨negX1,aX1,nX1,cX1,rfl,hZX1,hbX1⟩;have hBX1:Below W.heap.size W wX1:=(by with_reducible first|exact zB (Below.refl _ _).drew hbX1|exact zB (bl1 _ _).drew hbX1);(try with_reducible have gX1:=((jW W 26).bw (Below.refl _ _).drew).bw hbX1);have hlX1:=hBX1.size))
  all_goals
   go_wp2_with fail;go_meet;refine ⟨⟨_,⟨negX2,aX2,nX2,cX2⟩,rfl,?_,?_,?_,?_,?_⟩,?_⟩
   ·simp[go_sem, *]
   ·simp[go_sem, *]
   ·first|with_reducible exact IntAt.mono (hZX2.bw (bl1 _ _)) (by omega)|with_reducible exact IntAt.mono (hZX2.put2 (by assumption) (by assumption) _ _) (by omega)
   ·first|exact Nat.le_refl _|exact hlX1|exact hlX2
   ·simp[World.setCell];try omega
   ·repeat' (first|with_reducible exact hBX2|with_reducible exact hBX1|with_reducible exact Below.refl _ _|with_reducible refine Below.drew ?_|with_reducible refine zK ?_ _|with_reducible refine Below.setCell ?_ (by first|exact Nat.le_refl _|exact hlX1|exact hlX2) _)
 case rest =>
 obtain ⟨⟨BX,xX,rfl,jX0,jX1,hZX,hHX,hltX⟩,hblX⟩:=hcut;have XX:NmC wc BX xX:=⟨jX0,jX1⟩;clear i0 i1 HK;replace G:=G.bw hblX;replace R:=R.bw hblX;replace HY:=zC ((zA HY).bw hblX);replace hZX:=zC hZX;have lR2:=R.lt;have lX2:=XX.lt;have nR:BX≠w.heap.size+1+1:=Nat.ne_of_gt (Nat.lt_of_lt_of_le lR hHX);have nR':w.heap.size+1+1≠BX:=fun e=>nR e.symm
 have hBW2:=zB hBW hblX;have hD0:Below wc.heap.size wc wc.drew:=(Below.refl _ _).drew;have HK:=zC (show ∀ w',Below wc.heap.size wc w'→(w'.cell? ⟨BX,0,none⟩=some (.bool xX.neg)∧w'.cell? ⟨BX,1,none⟩=some (.slice xX.a xX.n xX.cap)∧w'.cell? ⟨w.heap.size+1,0,none⟩=some (.bool neg2)∧w'.cell? ⟨w.heap.size+1,1,none⟩=some (.slice c m cap2)) from fun w' hB=>⟨(XX.bw hB).c0,(XX.bw hB).c1,(G.bw hB).c0,(G.bw hB).c1⟩)
 obtain ⟨i2,i3⟩:=G;go_wp2
 go_region_held3 (fun w'=>w'.cell? ⟨BX,0,none⟩=some (.bool xX.neg)∧w'.cell? ⟨BX,1,none⟩=some (.slice xX.a xX.n xX.cap)∧w'.cell? ⟨w.heap.size+1,0,none⟩=some (.bool neg2)∧w'.cell? ⟨w.heap.size+1,1,none⟩=some (.slice c m cap2)) (first|exact zA HK _ (by with_reducible first|exact hD0|exact hD2|exact hD1)|go_keep)
  (first
   | (go_at_call 108;refine (zBY _ _ _ _ _ _ _ _ (k+b/16+5) k2 (x*Q b) y _ ((zA hZX).bw hD0) ((zA HY).bw hD0) (by omega) (by omega) (fun w' p q=>zA HF _ _ _ _ w' p q)).mono ?_;rintro r w1 ⟨neg1,a1,n1,c1,rfl,hZ1,hb1⟩;have hD1:=zB hD0 hb1)
   | (go_at_call 109;refine (zDU _ _ _ _ _ _ _ _ (k+b/16+5) k2 (x*Q b) y _ ((zA hZX).bw hD1) ((zA HY).bw hD1) (by omega) (by omega) hy (fun w' p q=>zA HF _ _ _ _ w' p q)).mono ?_;rintro r w2 ⟨neg3,a3,n3,c3,rfl,hZ3,hb2⟩;replace hZ1:=hZ1.bw hb2;have hD2:=zB hD1 hb2;obtain ⟨q0,q1,q2,q3,q4,q5⟩:=R.bw hD2;obtain ⟨d0,d1,d2,d3⟩:=zA HK _ hD2))
 go_wp2;refine bodyPost_ret (v:=.agg #[.bool neg1,.slice a1 n1 c1,.bool neg3,.slice a3 n3 c3,.int .i64 b]) (by simp[results,Tryz.results54,go_sem,q0,q1,q2,q3,q4]) rfl ⟨⟨neg1,a1,n1,c1,neg3,a3,n3,c3,b⟩,rfl,rfl,?_,?_⟩
 ·exact SpAt.put5 ⟨hZ1.mono (by omega),hZ3.mono (by omega)⟩ q0 q1 q2 q3 q4 _ _ _ _ _
 ·exact jV (zB hBW2 hD2) (by omega) _ _ _ _ _
theorem zBZ (w:World) (n:Int) (b:Nat) (hb:b≤900000) (h0 : -9223372036854775808≤n) (h1:n≤9223372036854775807) :
  Calls Tryz.prog 27 #[.int .i64 n,.int .i64 b] w (zH w b (b/16+18) (n*Q b) (n*Q b)):=by
 have R:=zO w 36
 go_enter Tryz.func27,Tryz.ntmps27
 go_wp2_with fail;refine (zD n _ h0 h1).mono ?_;rintro r' w1 ⟨neg1,a1,n1,c1,rfl,hZ1,hb1⟩;replace R:=R.bw hb1;have hB:Below w.heap.size w w1:=zB (bl1 _ _) hb1;clear hb1;go_wp2_with fail;refine (zD 1 _ (by decide) (by decide)).mono ?_
 rintro r' w2 ⟨neg2,a2,n2,c2,rfl,hZ2,hb2⟩;replace R:=R.bw hb2;replace hB:=zB hB hb2;replace hZ1:=hZ1.bw hb2;clear hb2;go_wp2_with fail;refine (zH6 _ _ _ _ _ _ _ _ 4 4 b n 1 _ hZ1 hZ2 (by omega) (by omega) hb (by decide) (fun neg' a' n' cap' w' p1 p2=>kO _ _ _ _ _ _ _ _ _ 4 _ _ w' p1 p2 (by omega) (by decide))).mono ?_
 rintro r' w3 ⟨u,rfl,hub,hup,hb3⟩;have e1:n*Q b/1=n*Q b:=Int.ediv_one _;have e2 : -(-(n*Q b)/1)=n*Q b:=by rw[Int.ediv_one];omega
 rw[e1,e2] at hup;obtain ⟨q0,q1,q2,q3,q4,q5⟩:=R.bw hb3;replace hB:=zB hB hb3;have HU:=zC hub;clear hub e1 e2;go_wp2_with fail;refine bodyPost_ret (v:=.agg #[.bool u.ln,.slice u.la u.lN u.lc,.bool u.hn,.slice u.ha u.hN u.hc,.int .i64 u.bits]) (by simp[results,Tryz.results27,go_sem,q0,q1,q2,q3,q4]) rfl ⟨u,rfl,zA HU,?_,?_⟩
 ·exact SpAt.put5 (hup.mono (by omega)) q0 q1 q2 q3 q4 _ _ _ _ _
 ·exact jV hB (Nat.le_refl _) _ _ _ _ _
theorem NoC.vr {w:World} {B:Nat} (h:NoC w B) (u:Sp):VrC (zP w B u) B u:=by
 refine ⟨?_,zDL h.fz u⟩;obtain ⟨q0,q1,q2,q3,q4,q5⟩:=h;constructor <;> simp[go_sem,q0,q1,q2,q3,q4]
theorem NoC.spat {w:World} {B:Nat} (h:NoC w B) {s:Sp} {k:Nat} {lo hi:Int} (hs:SpAt w s k lo hi) (u:Sp):SpAt (zP w B u) s k lo hi:=SpAt.put5 hs h.c0 h.c1 h.c2 h.c3 h.c4 _ _ _ _ _
def TwoP (W wx:World) (b k1 k2:Nat) (a c:Int × Int) (p q:Value):Prop :=
 ∃ (B B':Nat) (x y:Sp),p=.pointer (some ⟨B,0,none⟩)∧q=.pointer (some ⟨B',0,none⟩)∧W.heap.size≤B∧W.heap.size≤B'∧B≠B'∧VrC wx B x∧VrC wx B' y∧SpAt wx x k1 a.1 a.2∧SpAt wx y k2 c.1 c.2∧x.bits=(b:Int)∧y.bits=(b:Int)∧Below W.heap.size W wx
theorem zIA (w:World) (x:Sp) (T:TypeId):VrC (w.alloc (.cells #[.bool x.ln,.slice x.la x.lN x.lc,.bool x.hn,.slice x.ha x.hN x.hc,.int .i64 x.bits] T)) w.heap.size x:=⟨yP w x T,fun o=>by simp[go_sem]⟩
theorem vr_new' (w:World) (B:Nat) (hB:w.heap.size=B) (x:Sp) (T:TypeId):VrC (w.alloc (.cells #[.bool x.ln,.slice x.la x.lN x.lc,.bool x.hn,.slice x.ha x.hN x.hc,.int .i64 x.bits] T)) B x:=by subst hB;exact zIA w x T
variable {W w2 : World} {b k1 k2 : Nat} {a c : Int × Int} {x y : Sp} {T : TypeId}
theorem zER (hb:Below W.heap.size W w2) (ix:SpAt w2 x k1 a.1 a.2) (iy:SpAt w2 y k2 c.1 c.2) (bx:x.bits=(b:Int)) (by_:y.bits=(b:Int)) :
  TwoP W ((w2.alloc (.cells #[.bool x.ln,.slice x.la x.lN x.lc,.bool x.hn,.slice x.ha x.hN x.hc,.int .i64 x.bits] T)).alloc (.cells #[.bool y.ln,.slice y.la y.lN y.lc,.bool y.hn,.slice y.ha y.hN y.hc,.int .i64 y.bits] T)) b k1 k2 a c (.pointer (some ⟨w2.heap.size,0,none⟩)) (.pointer (some ⟨w2.heap.size+1,0,none⟩)) :=
 ⟨_,_,x,y,rfl,rfl,hb.size,Nat.le_succ_of_le hb.size,Nat.ne_of_lt (Nat.lt_succ_self _),(zIA w2 x T).bw (bl1 _ _),vr_new' _ _ (by simp) y T,ix.bw (bl2 _ _ _),iy.bw (bl2 _ _ _),bx,by_,zB hb (bl2 _ _ _)⟩
theorem TwoP.swap {wx:World} {p q:Value} (h:TwoP W wx b k1 k2 a c p q):TwoP W wx b k2 k1 c a q p:=by
 obtain ⟨B,B',x,y,h1,h2,h3,h4,h5,h6,h7,h8,h9,h10,h11,h12⟩:=h;exact ⟨B',B,y,x,h2,h1,h4,h3,fun e=>h5 e.symm,h7,h6,h9,h8,h11,h10,h12⟩
theorem zEI (hb:Below W.heap.size W w2) (ix:SpAt w2 x k1 a.1 a.2) (iy:SpAt w2 y k2 c.1 c.2) (bx:x.bits=(b:Int)) (by_:y.bits=(b:Int)) :
  TwoP W ((w2.alloc (.cells #[.bool y.ln,.slice y.la y.lN y.lc,.bool y.hn,.slice y.ha y.hN y.hc,.int .i64 y.bits] T)).alloc (.cells #[.bool x.ln,.slice x.la x.lN x.lc,.bool x.hn,.slice x.ha x.hN x.hc,.int .i64 x.bits] T)) b k1 k2 a c (.pointer (some ⟨w2.heap.size+1,0,none⟩)) (.pointer (some ⟨w2.heap.size,0,none⟩)):=(zER hb iy ix by_ bx).swap
theorem zGV {B:Nat} (hb:Below W.heap.size W w2) (ix:SpAt w2 x k1 a.1 a.2) (iy:SpAt w2 y k2 c.1 c.2) (bx:x.bits=(b:Int)) (by_:y.bits=(b:Int)) (g:NoC w2 B) (h1:W.heap.size≤B) :
  TwoP W ((zP w2 B x).alloc (.cells #[.bool y.ln,.slice y.la y.lN y.lc,.bool y.hn,.slice y.ha y.hN y.hc,.int .i64 y.bits] T)) b k1 k2 a c (.pointer (some ⟨B,0,none⟩)) (.pointer (some ⟨w2.heap.size,0,none⟩)):=by
 have hx:=g.vr x;have ix':=g.spat ix x;have iy':=g.spat iy x;have hl:=g.lt;have hs:=size_put w2 B x;have hb':=zZ hb h1 x;generalize zP w2 B x=V at *;rw[← hs];exact ⟨_,_,x,y,rfl,rfl,h1,hb'.size,by omega,hx.bw (bl1 _ _),zIA V y T,ix'.bw (bl1 _ _),iy'.bw (bl1 _ _),bx,by_,zB hb' (bl1 _ _)⟩
theorem zJF {B:Nat} (hb:Below W.heap.size W w2) (ix:SpAt w2 x k1 a.1 a.2) (iy:SpAt w2 y k2 c.1 c.2) (bx:x.bits=(b:Int)) (by_:y.bits=(b:Int)) (g:NoC w2 B) (h1:W.heap.size≤B) :
  TwoP W ((zP w2 B y).alloc (.cells #[.bool x.ln,.slice x.la x.lN x.lc,.bool x.hn,.slice x.ha x.hN x.hc,.int .i64 x.bits] T)) b k1 k2 a c (.pointer (some ⟨w2.heap.size,0,none⟩)) (.pointer (some ⟨B,0,none⟩)):=(zGV hb iy ix by_ bx g h1).swap
theorem zIS {B B':Nat} (hb:Below W.heap.size W w2) (ix:SpAt w2 x k1 a.1 a.2) (iy:SpAt w2 y k2 c.1 c.2) (bx:x.bits=(b:Int)) (by_:y.bits=(b:Int)) (g:NoC w2 B) (g':NoC w2 B') (h1:W.heap.size≤B) (h2:W.heap.size≤B') (hne:B≠B') :
  TwoP W (zP (zP w2 B x) B' y) b k1 k2 a c (.pointer (some ⟨B,0,none⟩)) (.pointer (some ⟨B',0,none⟩)):=by
 have hx:=g.vr x;have ix':=g.spat ix x;have iy':=g.spat iy x;have g2:=g'.off (Ne.symm hne) x;have hb':=zZ hb h1 x;generalize zP w2 B x=V at *;exact ⟨_,_,x,y,rfl,rfl,h1,h2,hne,hx.off hne y,g2.vr y,g2.spat ix' y,g2.spat iy' y,bx,by_,zZ hb' h2 y⟩
end Go.Proofs.YtgmnknmjainababGreat
