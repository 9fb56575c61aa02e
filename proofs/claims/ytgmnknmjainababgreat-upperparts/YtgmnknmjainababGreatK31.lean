/-
  Its own texts.
-/
import Derived.Deep.CutBlock
import Derived.Test.YtgmnknmjainababGreatRows
import Derived.ProofKit
import Derived.OpenShut
import Derived.SizedLaws
import Derived.ChangeOld
import Derived.Test.YtgmnknmjainababGreatK30
set_option maxRecDepth 100000
set_option maxHeartbeats 8000000
set_option linter.unnecessarySimpa false
set_option linter.unusedSimpArgs false
set_option linter.unusedVariables false
namespace Go.Proofs.YtgmnknmjainababGreat
open Go.RowKit
attribute [local go_sem ↓] Go.wp_at_zero Go.wp_at_succ
open Ex
theorem zKV (bt:Int) (w:World) (B:Nat) (hB:w.heap.size=B) (p q kn kd:Int) (T:TypeId) (cap:Nat) :
  Calls Tryz.prog 10 #[.int .i64 bt,.slice (some ⟨B,0,none⟩) 2 cap] (w.alloc (.cells #[.int .i64 p,.int .i64 q,.int .i64 kn,.int .i64 kd] T)) fun r w' =>
   r=.returned (.int .i64 (zJJ p q kn kd bt))∧Below w.heap.size w w':=by
 subst hB
 exact (zHO bt w.heap.size 2 cap _ _ _ (rats2 w p q kn kd T) (by omega)).mono fun r w' ⟨z,h1,h2,h3⟩ =>
  ⟨by rw[h1,rat2_of h2],(bl1 _ _).trans (h3.mono (by simp))⟩
theorem upl_one (B:Nat):Iv B (1*Q B,1*Q B) (fun _=>1):=by
 have QR:=zV B;refine (zGR B (1*Q B)).congr (Null.of_zero fun M=>?_)
 have r:=rdm (a:=((1*Q B:Int):Rat)) QR;have e:((1*Q B:Int):Rat)=(Q B:Rat):=by rw[Int.one_mul]
 rw[e] at r ⊢;have:(Q B:Rat)/(Q B:Rat)=1:=zU (c:=(Q B:Rat)) QR (by grind)
 rw[this];grind
theorem up_tou {x:Nat→Rat} {b:Nat} {L1 H1 lo hi:Int} (hv:SuV x b L1 H1) (ho:Iv (b+32) (lo,hi) x):zOB L1 H1 32 lo hi 0=true:=touch_up (b:=b) (i:=32) hv.val ho
theorem zH4 {b:Nat} (z:Int) (hz:z=(b:Int)) (p q:Int) (w:World) (h:rok p q) (hb:b≤100000) :
  Calls Tryz.prog 14 #[.agg #[.int .i64 p,.int .i64 q],.int .i64 z] w (zH w b (b/16+18) (ofI p q b).1 (ofI p q b).2):=by
 subst hz;exact zA4 p q b w h hb
theorem zMI (p q n d:Int) (bt:Int) (w:World) (e:Int) (h:uE p q n d bt=e) (he0:e≠0) :
  Calls Tryz.prog 5 #[.agg #[.int .i64 p,.int .i64 q],.agg #[.int .i64 n,.int .i64 d],.int .i64 bt] w fun r w'=>r=.returned (.bool true)∧Below w.heap.size w w':=by
 obtain ⟨W,hW⟩:∃ W,W=(w.alloc (.cells #[.int .i64 p,.int .i64 q] 23)).alloc (.cells #[.int .i64 n,.int .i64 d] 23):=⟨_,rfl⟩;have hBW:Below w.heap.size w W:=by rw[hW];exact bl2 _ _ _
 have A:RaC W w.heap.size p q:=by rw[hW];constructor <;> simp[go_sem]
 have G:RaC W (w.heap.size+1) n d:=by rw[hW];constructor <;> simp[go_sem]
 have HR:=zC h;have c1:(e != 0)=true:=by simp[he0]
 clear h;have fA0:=A.c0;have fA1:=A.c1;have fAl:=A.lt;have fG0:=G.c0;have fG1:=G.c1;have fGl:=G.lt
 go_enter Tryz.func5,Tryz.ntmps5
 go_wp2_with fail;rw[← hW];clear hW;clear fA0 fA1 fAl fG0 fG1 fGl;refine (culo_bad _ p q n d bt e (zA HR) he0).mono ?_;rintro r w3 ⟨s,rfl,hxb,hxp,hxx⟩;replace A:=A.bw hxx;replace G:=G.bw hxx;replace hBW:=zB hBW hxx;have HPs:=zC hxp;have HBs:=zC hxb;clear hxx hxb hxp;obtain ⟨V3,hV3⟩:∃ V,V=w3.alloc (.cells #[.bool s.ln,.slice s.la s.lN s.lc,.bool s.hn,.slice s.ha s.hN s.hc,.int .i64 s.bits] 28):=⟨_,rfl⟩;have bV3:Below w3.heap.size w3 V3:=by rw[hV3];exact bl1 _ _
 have S:SpC V3 w3.heap.size s:=by rw[hV3];exact yP w3 s _
 have fA0:=A.c0;have fA1:=A.c1;have fAl:=A.lt;have fG0:=G.c0;have fG1:=G.c1;have fGl:=G.lt;go_wp2_with fail;rw[← hV3];clear hV3;clear fA0 fA1 fAl fG0 fG1 fGl;replace A:=A.bw bV3;replace G:=G.bw bV3;replace HPs:=zC ((zA HPs).bw bV3);replace hBW:=zB hBW bV3;clear bV3;refine (cuup_bad _ p q n d bt e (zA HR) he0).mono ?_;rintro r w4 ⟨t,rfl,hxb,hxp,hxx⟩;replace A:=A.bw hxx;replace G:=G.bw hxx;replace HPs:=zC ((zA HPs).bw hxx);replace S:=S.bw hxx;replace hBW:=zB hBW hxx;have HPt:=zC hxp;have HBt:=zC hxb;clear hxx hxb hxp;obtain ⟨V4,hV4⟩:∃ V,V=w4.alloc (.cells #[.bool t.ln,.slice t.la t.lN t.lc,.bool t.hn,.slice t.ha t.hN t.hc,.int .i64 t.bits] 28):=⟨_,rfl⟩;have bV4:Below w4.heap.size w4 V4:=by rw[hV4];exact bl1 _ _
 have T:SpC V4 w4.heap.size t:=by rw[hV4];exact yP w4 t _
 have hsz:V4.heap.size=w4.heap.size+1:=by rw[hV4];simp
 have fA0:=A.c0;have fA1:=A.c1;have fAl:=A.lt;have fG0:=G.c0;have fG1:=G.c1;have fGl:=G.lt;go_wp2_with fail;rw[← hV4];clear hV4;clear fA0 fA1 fAl fG0 fG1 fGl;replace A:=A.bw bV4;replace G:=G.bw bV4;replace HPs:=zC ((zA HPs).bw bV4);replace S:=S.bw bV4;replace HPt:=zC ((zA HPt).bw bV4);replace hBW:=zB hBW bV4;clear bV4;refine (zKV bt _ _ hsz p q n d _ _).mono ?_;rintro r w5 ⟨rfl,hb5⟩;replace A:=A.bw hb5;replace G:=G.bw hb5;replace HPs:=zC ((zA HPs).bw hb5);replace S:=S.bw hb5;replace HPt:=zC ((zA HPt).bw hb5);replace T:=T.bw hb5;replace hBW:=zB hBW hb5;clear hb5 hsz;obtain ⟨z0,hz0⟩:∃ z,zJJ p q n d bt=z:=⟨_,rfl⟩;rw[hz0];have HZ:=zC hz0;clear hz0
 go_upto_block 0 with fail
 go_cut [11] (fun v wx=>v=.int .i64 e∧wx=w5)
 case first =>
  have hue:uE p q n d bt=e:=zA HR;unfold uE at hue;have hz:=zA HZ;unfold zJJ at hz;have fA0:=A.c0;have fA1:=A.c1;have fAl:=A.lt;have fG0:=G.c0;have fG1:=G.c1;have fGl:=G.lt
  by_cases hR:(rok p q∧rok n d)∧8≤(bt:Int)∧(bt:Int)≤120
  ·rw[if_pos hR] at hz
   rw[if_neg (fun h=>h hR)] at hue
   subst hz;obtain ⟨⟨⟨r1,r2,r3,r4⟩,_⟩,_⟩:=hR
   by_cases hp:p≤0
   ·have he:e=(5:Int):=by
     by_cases hn:n<0
     ·rw[if_pos hn] at hue;omega
     ·rw[if_neg hn,if_pos hp] at hue;omega
    have HEV:=zC he;clear he hue r1 r2 r3 r4;go_wp2_with fail;go_meet;exact ⟨by rw[zA HEV],rfl⟩
   ·by_cases hn:n<0
    ·have he:e=(5:Int):=by rw[if_pos hn] at hue;omega
     have HEV:=zC he;clear he hue r1 r2 r3 r4;go_wp2_with fail;go_meet;exact ⟨by rw[zA HEV],rfl⟩
    ·rw[if_neg hn,if_neg hp] at hue
     have HWQ:IntKind.i64.wrap (100*q)=100*q:=jO _ (by omega) (by omega)
     by_cases h100:100*q<p
     ·have he:e=(2:Int):=by rw[if_pos h100] at hue;omega
      have HEV:=zC he;clear he hue r1 r2;go_wp2_with fail;go_meet;exact ⟨by rw[zA HEV],rfl⟩
     ·have he:(e=(0:Int)):=by rw[if_neg h100] at hue;omega
      exact absurd he he0
  ·rw[if_neg hR] at hz
   rw[if_pos hR] at hue;subst hz;have he:e=(3:Int):=hue.symm;have HEV:=zC he;clear he hue hR;go_wp2_with fail;go_meet;exact ⟨by rw[zA HEV],rfl⟩
 case rest =>
 obtain ⟨rfl,rfl⟩:=hcut;clear HZ;go_wp2_with fail;refine (zCU _).mono ?_;rintro r w6 ⟨rfl,hxx⟩;replace A:=A.bw hxx;replace G:=G.bw hxx;replace HPs:=zC ((zA HPs).bw hxx);replace S:=S.bw hxx;replace HPt:=zC ((zA HPt).bw hxx);replace T:=T.bw hxx;replace hBW:=zB hBW hxx;clear hxx;have fS0:=S.c0;have fS1:=S.c1;have fS2:=S.c2;have fS3:=S.c3;have fS4:=S.c4;have fSl:=S.lt;go_wp2_with fail;clear fS0 fS1 fS2 fS3 fS4 fSl;refine (zE0 _ s ⟨false,none,0,0,false,none,0,0,0⟩ _ _ _ (zA HPs) (zA HBs) he0).mono ?_;rintro r w7 ⟨rfl,hxx⟩;replace A:=A.bw hxx;replace G:=G.bw hxx;replace HPs:=zC ((zA HPs).bw hxx);replace S:=S.bw hxx;replace HPt:=zC ((zA HPt).bw hxx);replace T:=T.bw hxx;replace hBW:=zB hBW hxx;clear hxx;have fT0:=T.c0;have fT1:=T.c1;have fT2:=T.c2;have fT3:=T.c3;have fT4:=T.c4;have fTl:=T.lt;go_wp2_with fail;clear fT0 fT1 fT2 fT3 fT4 fTl;refine (zE0 _ t ⟨false,none,0,0,false,none,0,0,0⟩ _ _ _ (zA HPt) (zA HBt) he0).mono ?_
 rintro r w8 ⟨rfl,hxx⟩;replace A:=A.bw hxx;replace G:=G.bw hxx;replace HPs:=zC ((zA HPs).bw hxx);replace S:=S.bw hxx;replace HPt:=zC ((zA HPt).bw hxx);replace T:=T.bw hxx;replace hBW:=zB hBW hxx;clear hxx;go_wp2_with fail;exact bodyPost_ret (v:=.bool true) (by simp[results,Tryz.results5]) rfl ⟨rfl,hBW⟩
theorem zON (p q n d:Int) (b:Nat) (w:World) (h:uE p q n d (b:Int)=0) :
  Calls Tryz.prog 5 #[.agg #[.int .i64 p,.int .i64 q],.agg #[.int .i64 n,.int .i64 d],.int .i64 (b:Int)] w fun r w'=>r=.returned (.bool true)∧Below w.heap.size w w':=by
 obtain ⟨W,hW⟩:∃ W,W=(w.alloc (.cells #[.int .i64 p,.int .i64 q] 23)).alloc (.cells #[.int .i64 n,.int .i64 d] 23):=⟨_,rfl⟩;have hBW:Below w.heap.size w W:=by rw[hW];exact bl2 _ _ _
 have A:RaC W w.heap.size p q:=by rw[hW];constructor <;> simp[go_sem]
 have G:RaC W (w.heap.size+1) n d:=by rw[hW];constructor <;> simp[go_sem]
 obtain ⟨L0,GG,X,hE⟩:=zPO;have HE:=zC hE;have HR:=zC h;have HUZ:=zC (zAV h);have h5:8≤b:=by have:=(zAV h).2.2.1;omega
 have h6:b≤120:=by have:=(zAV h).2.2.1;omega
 have HW:=zC (show IntKind.i64.wrap ((b:Int)+32)=((b+32:Nat):Int) from (jO _ (by omega) (by omega)).trans (by omega))
 have HW2:=zC (show ((b:Int)+32)=((b+32:Nat):Int) by omega)
 clear hE h;have fA0:=A.c0;have fA1:=A.c1;have fAl:=A.lt;have fG0:=G.c0;have fG1:=G.c1;have fGl:=G.lt
 go_enter Tryz.func5,Tryz.ntmps5
 go_wp2_with fail;rw[← hW];clear hW;clear fA0 fA1 fAl fG0 fG1 fGl;refine (zPK L0 GG X (zA HE) _ p q n d b (zA HR)).mono ?_;rintro r w3 ⟨L1,H1,hv,s,rfl,hxb,hxp,hxx⟩;replace A:=A.bw hxx;replace G:=G.bw hxx;replace hBW:=zB hBW hxx;have HVs:=zC hv;have HPs:=zC hxp;have HBs:=zC hxb;clear hxx hxb hxp hv;obtain ⟨V3,hV3⟩:∃ V,V=w3.alloc (.cells #[.bool s.ln,.slice s.la s.lN s.lc,.bool s.hn,.slice s.ha s.hN s.hc,.int .i64 s.bits] 28):=⟨_,rfl⟩;have bV3:Below w3.heap.size w3 V3:=by rw[hV3];exact bl1 _ _
 have S:SpC V3 w3.heap.size s:=by rw[hV3];exact yP w3 s _
 have fA0:=A.c0;have fA1:=A.c1;have fAl:=A.lt;have fG0:=G.c0;have fG1:=G.c1;have fGl:=G.lt;go_wp2_with fail;rw[← hV3];clear hV3;clear fA0 fA1 fAl fG0 fG1 fGl;replace A:=A.bw bV3;replace G:=G.bw bV3;replace HPs:=zC ((zA HPs).bw bV3);replace hBW:=zB hBW bV3;clear bV3;refine (cuup_ok L0 GG X (zA HE) _ p q n d b (zA HR)).mono ?_;rintro r w4 ⟨L2,H2,hv,t,rfl,hxb,hxp,hxx⟩;replace A:=A.bw hxx;replace G:=G.bw hxx;replace HPs:=zC ((zA HPs).bw hxx);replace S:=S.bw hxx;replace hBW:=zB hBW hxx;have HVt:=zC hv;have HPt:=zC hxp;have HBt:=zC hxb;clear hxx hxb hxp hv;obtain ⟨V4,hV4⟩:∃ V,V=w4.alloc (.cells #[.bool t.ln,.slice t.la t.lN t.lc,.bool t.hn,.slice t.ha t.hN t.hc,.int .i64 t.bits] 28):=⟨_,rfl⟩;have bV4:Below w4.heap.size w4 V4:=by rw[hV4];exact bl1 _ _
 have T:SpC V4 w4.heap.size t:=by rw[hV4];exact yP w4 t _
 have hsz:V4.heap.size=w4.heap.size+1:=by rw[hV4];simp
 have fA0:=A.c0;have fA1:=A.c1;have fAl:=A.lt;have fG0:=G.c0;have fG1:=G.c1;have fGl:=G.lt;go_wp2_with fail;rw[← hV4];clear hV4;clear fA0 fA1 fAl fG0 fG1 fGl;replace A:=A.bw bV4;replace G:=G.bw bV4;replace HPs:=zC ((zA HPs).bw bV4);replace S:=S.bw bV4;replace HPt:=zC ((zA HPt).bw bV4);replace hBW:=zB hBW bV4;clear bV4;refine (zKV (b:Int) _ _ hsz p q n d _ _).mono ?_;rintro r w5 ⟨rfl,hb5⟩;replace A:=A.bw hb5;replace G:=G.bw hb5;replace HPs:=zC ((zA HPs).bw hb5);replace S:=S.bw hb5;replace HPt:=zC ((zA HPt).bw hb5);replace T:=T.bw hb5;replace hBW:=zB hBW hb5;clear hb5 hsz;obtain ⟨z0,hz0⟩:∃ z,zJJ p q n d (b:Int)=z:=⟨_,rfl⟩;rw[hz0];have HZ:=zC hz0;clear hz0
 go_upto_block 0 with fail
 go_cut [11] (fun v wx=>v=.int .i64 0∧wx=w5)
 case first =>
  have hue:uE p q n d (b:Int)=0:=zA HR;unfold uE at hue;have hz:=zA HZ;unfold zJJ at hz;have fA0:=A.c0;have fA1:=A.c1;have fAl:=A.lt;have fG0:=G.c0;have fG1:=G.c1;have fGl:=G.lt
  by_cases hR:(rok p q∧rok n d)∧8≤((b:Int):Int)∧((b:Int):Int)≤120
  ·rw[if_pos hR] at hz
   rw[if_neg (fun h=>h hR)] at hue
   subst hz;obtain ⟨⟨⟨r1,r2,r3,r4⟩,_⟩,_⟩:=hR
   by_cases hp:p≤0
   ·have he:0=(5:Int):=by
     by_cases hn:n<0
     ·rw[if_pos hn] at hue;omega
     ·rw[if_neg hn,if_pos hp] at hue;omega
    exfalso;omega
   ·by_cases hn:n<0
    ·have he:0=(5:Int):=by rw[if_pos hn] at hue;omega
     exfalso;omega
    ·rw[if_neg hn,if_neg hp] at hue
     have HWQ:IntKind.i64.wrap (100*q)=100*q:=jO _ (by omega) (by omega)
     by_cases h100:100*q<p
     ·have he:0=(2:Int):=by rw[if_pos h100] at hue;omega
      exfalso;omega
     ·have he:True:=trivial
      have HEV:=zC he;clear he hue r1 r2;go_wp2_with fail;go_meet;exact ⟨rfl,rfl⟩
  ·rw[if_neg hR] at hz
   rw[if_pos hR] at hue;subst hz;have he:0=(3:Int):=hue.symm
   exfalso;omega
 case rest =>
 obtain ⟨rfl,rfl⟩:=hcut;clear HZ;obtain ⟨V5,hV5⟩:∃ V,V=wc:=⟨_,rfl⟩;subst hV5;have HK11:=zC (show ∀ w',Below V5.heap.size V5 w'→(w'.cell? ⟨w.heap.size,0,none⟩=some (.int .i64 p)∧w'.cell? ⟨w.heap.size,1,none⟩=some (.int .i64 q)∧w'.cell? ⟨w.heap.size+1,0,none⟩=some (.int .i64 n)∧w'.cell? ⟨w.heap.size+1,1,none⟩=some (.int .i64 d)) from fun w' hB=>⟨(A.bw hB).c0,(A.bw hB).c1,(G.bw hB).c0,(G.bw hB).c1⟩)
 have lA:=A.lt;have lG:=G.lt;have lS:=S.lt;have lT:=T.lt;go_wp2_with fail;obtain ⟨x0,x1,x2,x3⟩:=zA HK11 _ (Below.refl _ _)
 go_cut [12] (fun pz wx=>∃ (B:Nat) (u:Sp) (lo hi:Int),pz=.pointer (some ⟨B,0,none⟩)∧(Iv (b+32) (lo,hi) (lwX L0 p q n d (gmV p q (GG (gA p q))))∧0≤lo∧hi≤Q (b+32))∧V5.heap.size≤B∧VrC wx B u∧SpAt wx u 600000 (((lo,hi):Int × Int)).1 (((lo,hi):Int × Int)).2∧u.bits=((b+32:Nat):Int)∧Below V5.heap.size V5 wx)
 case first =>
  go_region_held3 (fun w'=>w'.cell? ⟨w.heap.size,0,none⟩=some (.int .i64 p)∧w'.cell? ⟨w.heap.size,1,none⟩=some (.int .i64 q)∧w'.cell? ⟨w.heap.size+1,0,none⟩=some (.int .i64 n)∧w'.cell? ⟨w.heap.size+1,1,none⟩=some (.int .i64 d)) (exact zA HK11 _ (by repeat' (first|with_reducible exact hBU2|with_reducible exact hBU1|with_reducible exact Below.refl _ _|with_reducible refine Below.drew ?_|with_reducible refine zK ?_ _|with_reducible refine Below.setCell ?_ (by first|exact Nat.le_refl _|exact hlU1|exact hlU2) _)))
   (first
    | (go_at_call 25;have hq:=hBU1;refine (zL5 (zA HE) _ vU1 p q n d (b+32) ((hZU1.bw (by with_reducible first|exact Below.refl _ _|exact bl1 _ _)).mono (by omega)) (zA HVBU1) (by omega) (by omega) (zA HUZ).1 (zA HUZ).2.2.2.2.1 (zA HUZ).2.2.2.2.2 (zA HUZ).2.2.2.1 (by have:=(zA HUZ).2.1.2.2.1;omega)).mono ?_;rintro r wU2 ⟨lo2,hi2,ia2,vU2,rfl,hvbU2,hZU2,hbU2⟩;have HVBU2:=zC hvbU2;have HG2:=zC ia2;clear hvbU2 ia2;have hCU2:Below wU1.heap.size wU1 wU2:=(by with_reducible first|exact hbU2|exact zB (bl1 _ _) hbU2);have hBU2:=zB hBU1 hCU2;(try with_reducible have gU2:=(zO wU1 36).bw hbU2);replace hZU1:=hZU1.bw hCU2;(try replace gU1:=gU1.bw hCU2);have hlU2:=hBU2.size;(try have mU1:=gU1.lt);(try have eU1:=Nat.ne_of_lt mU1);(try have eU1':=Nat.ne_of_gt mU1);(try obtain ⟨zU10,zU11,zU12,zU13,zU14,zU15⟩:=gU1);(try have mU2:=gU2.lt);(try have eU2:=Nat.ne_of_lt mU2);(try have eU2':=Nat.ne_of_gt mU2);(try obtain ⟨zU20,zU21,zU22,zU23,zU24,zU25⟩:=gU2))
    | (go_at_call 14;refine (zH4 (b:=b+32) _ (by first|exact zA HW|exact zA HW2) n d _ (zA HUZ).2.1 (by omega)).mono ?_;rintro r wU1 ⟨vU1,rfl,hvbU1,hZU1,hbU1⟩;have HVBU1:=zC hvbU1;clear hvbU1;have hBU1:Below V5.heap.size V5 wU1:=(by with_reducible first|exact zB (Below.refl _ _).drew hbU1|exact zB (bl1 _ _).drew hbU1);(try with_reducible have gU1:=((zO V5 36).bw (Below.refl _ _).drew).bw hbU1);have hlU1:=hBU1.size))
  all_goals
   have hfinU:SpAt wU2 vU2 600000 (((lo2,hi2):Int × Int)).1 (((lo2,hi2):Int × Int)).2:=hZU2;go_wp2_with fail;go_meet;refine ⟨_,vU2,lo2,hi2,rfl,zA HG2,?_,⟨⟨?_,?_,?_,?_,?_⟩,?_⟩,?_,(zA HVBU2),?_⟩
   ·first|exact Nat.le_refl _|exact hlU1|exact hlU2
   ·simp[go_sem, *]
   ·simp[go_sem, *]
   ·simp[go_sem, *]
   ·simp[go_sem, *]
   ·simp[go_sem, *]
   ·intro o;simp[go_sem, *]
   ·first|with_reducible exact SpAt.put5 hfinU zU20 zU21 zU22 zU23 zU24 _ _ _ _ _|with_reducible exact SpAt.put5 hfinU zU10 zU11 zU12 zU13 zU14 _ _ _ _ _|with_reducible exact hfinU.bw (bl1 _ _)
   ·repeat' (first|with_reducible exact hBU2|with_reducible exact hBU1|with_reducible exact Below.refl _ _|with_reducible refine Below.drew ?_|with_reducible refine zK ?_ _|with_reducible refine Below.setCell ?_ (by first|exact Nat.le_refl _|exact hlU1|exact hlU2) _)
 case rest =>
 obtain ⟨BU,xU,lo,hi,rfl,hGG,hHU,XU,hpU,hxbU,hblU⟩:=hcut;have SS:=S.bw hblU;have TT:=T.bw hblU;clear S T A G lA lG;have S:=SS;have T:=TT;clear SS TT;replace HPs:=zC ((zA HPs).bw hblU);replace HPt:=zC ((zA HPt).bw hblU);replace hBW:=zB hBW hblU;have HK:=zC (show ∀ w',Below wc.heap.size wc w'→(w'.cell? ⟨w3.heap.size,0,none⟩=some (.bool s.ln)∧w'.cell? ⟨w3.heap.size,1,none⟩=some (.slice s.la s.lN s.lc)∧w'.cell? ⟨w3.heap.size,2,none⟩=some (.bool s.hn)∧w'.cell? ⟨w3.heap.size,3,none⟩=some (.slice s.ha s.hN s.hc)∧w'.cell? ⟨w3.heap.size,4,none⟩=some (.int .i64 s.bits)∧w'.cell? ⟨w4.heap.size,0,none⟩=some (.bool t.ln)∧w'.cell? ⟨w4.heap.size,1,none⟩=some (.slice t.la t.lN t.lc)∧w'.cell? ⟨w4.heap.size,2,none⟩=some (.bool t.hn)∧w'.cell? ⟨w4.heap.size,3,none⟩=some (.slice t.ha t.hN t.hc)∧w'.cell? ⟨w4.heap.size,4,none⟩=some (.int .i64 t.bits)∧w'.cell? ⟨BU,0,none⟩=some (.bool xU.ln)∧w'.cell? ⟨BU,1,none⟩=some (.slice xU.la xU.lN xU.lc)∧w'.cell? ⟨BU,2,none⟩=some (.bool xU.hn)∧w'.cell? ⟨BU,3,none⟩=some (.slice xU.ha xU.hN xU.hc)∧w'.cell? ⟨BU,4,none⟩=some (.int .i64 xU.bits)) from fun w' hB=>⟨(S.bw hB).c0,(S.bw hB).c1,(S.bw hB).c2,(S.bw hB).c3,(S.bw hB).c4,(T.bw hB).c0,(T.bw hB).c1,(T.bw hB).c2,(T.bw hB).c3,(T.bw hB).c4,(XU.bw hB).c.c0,(XU.bw hB).c.c1,(XU.bw hB).c.c2,(XU.bw hB).c.c3,(XU.bw hB).c.c4⟩)
 have HPU:=zC hpU;have HBU:=zC hxbU;have HGG:=zC hGG;have lS':=S.lt;have lT':=T.lt;have lU':=XU.lt;have hD0:Below wc.heap.size wc wc.drew:=(Below.refl _ _).drew;have HONE:=zC (show Iv (b+32) (yH (1*Q (b+32),1*Q (b+32)) (lo,hi)) (fun M=>1-(lwX L0 p q n d (gmV p q (GG (gA p q)))) M) from (upl_one (b+32)).sub hGG.1)
 clear S T XU hpU hxbU hGG hblU hHU HK11 x0 x1 x2 x3 lS lT;go_wp2_with fail;obtain ⟨x0,x1,x2,x3,x4,y0,y1,y2,y3,y4,z0,z1,z2,z3,z4⟩:=zA HK _ (Below.refl _ _)
 go_region_held3 (fun w'=>w'.cell? ⟨w3.heap.size,0,none⟩=some (.bool s.ln)∧w'.cell? ⟨w3.heap.size,1,none⟩=some (.slice s.la s.lN s.lc)∧w'.cell? ⟨w3.heap.size,2,none⟩=some (.bool s.hn)∧w'.cell? ⟨w3.heap.size,3,none⟩=some (.slice s.ha s.hN s.hc)∧w'.cell? ⟨w3.heap.size,4,none⟩=some (.int .i64 s.bits)∧w'.cell? ⟨w4.heap.size,0,none⟩=some (.bool t.ln)∧w'.cell? ⟨w4.heap.size,1,none⟩=some (.slice t.la t.lN t.lc)∧w'.cell? ⟨w4.heap.size,2,none⟩=some (.bool t.hn)∧w'.cell? ⟨w4.heap.size,3,none⟩=some (.slice t.ha t.hN t.hc)∧w'.cell? ⟨w4.heap.size,4,none⟩=some (.int .i64 t.bits)∧w'.cell? ⟨BU,0,none⟩=some (.bool xU.ln)∧w'.cell? ⟨BU,1,none⟩=some (.slice xU.la xU.lN xU.lc)∧w'.cell? ⟨BU,2,none⟩=some (.bool xU.hn)∧w'.cell? ⟨BU,3,none⟩=some (.slice xU.ha xU.hN xU.hc)∧w'.cell? ⟨BU,4,none⟩=some (.int .i64 xU.bits)) (first|exact zA HK _ (by with_reducible first|exact hD0|exact hD7|exact hD6|exact hD5|exact hD4|exact hD3|exact hD2|exact hD1)|go_keep)
  (first
   | (go_at_call 15;have hq7:=hD6;refine (ins_ok _ t 250 b L2 H2 0 1 ((zA HPt).bw hD6) (zA HBt) (by omega) (by omega) (by omega) (by omega) (by omega) (by have:=(zA HVt).2.1;omega) (by have:=(zA HVt).2.2;omega)).mono ?_;rintro r' g7 ⟨rfl,hg7⟩;have hD7:=zB hD6 hg7)
   | (go_at_call 15;have hq6:=hD5;refine (ins_ok _ s 250 b L1 H1 0 1 ((zA HPs).bw hD5) (zA HBs) (by omega) (by omega) (by omega) (by omega) (by omega) (by have:=(zA HVs).2.1;omega) (by have:=(zA HVs).2.2;omega)).mono ?_;rintro r' g6 ⟨rfl,hg6⟩;have hD6:=zB hD5 hg6)
   | (go_at_call 12;have hq5:=hD4;refine (zGD _ t f4 b 32 600001 L2 H2 _ _ ((zA HPt).bw hD4) hZ4 (by omega) (by omega) (zA HBt) h6 (zA HVt).1.le (by omega) (by omega) (zA F4) (zA HVt).1.nar (up_tou (zA HVt).1 (zA HONE))).mono ?_;rintro r' g5 ⟨rfl,hg5⟩;have hD5:=zB hD4 hg5)
   | (go_at_call 26;have hq4:=hD3;refine (zC1 _ f3 xU 600000 (b+32) (1*Q (b+32),1*Q (b+32)) (lo,hi) (hZ3.mono (by omega)) ((zA HPU).bw hD3) (by omega) (zA F3)).mono ?_;rintro r' g4 ⟨f4,rfl,hvb4,hZ4,hg4⟩;have F4:=zC hvb4;clear hvb4;have hD4:=zB hD3 hg4)
   | (go_at_call 27;have hq3:=hD2;refine (zBE (b:=b+32) _ (by first|exact zA HW|exact zA HW2) _ 1 (by omega) (by decide) (by decide)).mono ?_;rintro r' g3 ⟨f3,rfl,hvb3,hZ3,hg3⟩;have F3:=zC hvb3;clear hvb3;have hD3:=zB hD2 hg3)
   | (go_at_call 12;have hq2:=hD1;refine (zGD _ s xU b 32 600000 L1 H1 lo hi ((zA HPs).bw hD1) ((zA HPU).bw hD1) (by omega) (by omega) (zA HBs) h6 (zA HVs).1.le (by omega) (by omega) (zA HBU) (zA HVs).1.nar (up_tou (zA HVs).1 (zA HGG).1)).mono ?_;rintro r' g2 ⟨rfl,hg2⟩;have hD2:=zB hD1 hg2)
   | (go_at_call 24;refine (zCU _).mono ?_;rintro r' g1 ⟨rfl,hg1⟩;have hD1:=zB hD0 hg1))
 all_goals
  go_wp2_with fail
  go_ret
  exact ⟨rfl,zB hBW hD7⟩
theorem zFO (p q n d bt:Int) (w:World) :
  Calls Tryz.prog 5 #[.agg #[.int .i64 p,.int .i64 q],.agg #[.int .i64 n,.int .i64 d],.int .i64 bt] w fun r w'=>r=.returned (.bool true)∧Below w.heap.size w w':=by
 by_cases h:uE p q n d bt=0
 ·obtain ⟨b,rfl⟩:∃ b:Nat,bt=(b:Int):=⟨bt.toNat,by have:=(zAV h).2.2.1;omega⟩
  exact zON p q n d b w h
 ·exact zMI p q n d bt w _ rfl h
open Go.ChangeShapes Go.WideShapes Go.ChangeAt Go.RowKit
theorem Tryz.own:ownKnob Tryz.prog.godebug=none:=by kernel_rfl
theorem Tryz.laidOut:laidOutB Tryz.prog=true:=by kernel_rfl
theorem Tryz.cellsI:Tryz.prog.cellsOf 3=1:=by kernel_rfl
end Go.Proofs.YtgmnknmjainababGreat
