/-
  Its own texts.
-/
import Derived.Test.YtgmnknmjainababGreatK11
set_option maxRecDepth 100000
set_option maxHeartbeats 40000000
set_option linter.unnecessarySimpa false
set_option linter.unusedSimpArgs false
set_option linter.unusedVariables false
namespace Go.Proofs.YtgmnknmjainababGreat
open Go.RowKit
attribute [local go_sem ↓] Go.wp_at_zero Go.wp_at_succ
def ovLo (l h p q:Int):Int:=if l<0 then l/p else l/q
def zL9 (l h p q:Int):Int:=if h<0 then -(-h/q) else -(-h/p)
structure OVs (w wr:World) (s t:Sp) (k k1 k2 BL CL BM CM:Nat) (xL yL xM yM:Nm) (lo' hi' l h m n:Int):Prop where
 A:SpC wr w.heap.size s
 G:SpC wr (w.heap.size+1) t
 R:NoC wr (w.heap.size+1+1)
 XL:NmC wr BL xL
 YL:NmC wr CL yL
 XM:NmC wr BM xM
 YM:NmC wr CM yM
 il:IntAt wr xL.neg xL.a xL.n xL.cap k1 l
 ih:IntAt wr yL.neg yL.a yL.n yL.cap k1 h
 im:IntAt wr xM.neg xM.a xM.n xM.cap k2 m
 jn:IntAt wr yM.neg yM.a yM.n yM.cap k2 n
 ht:SpAt wr t k lo' hi'
 fM:∀ o,wr.frozen? ⟨BM,o,none⟩=false
 fN:∀ o,wr.frozen? ⟨CM,o,none⟩=false
 hB:Below w.heap.size w wr
structure OVd (w:World) (BL CL BM CM:Nat):Prop where
 m1:w.heap.size≠BM
 m2:w.heap.size+1≠BM
 m3:w.heap.size+1+1≠BM
 m4:BL≠BM
 m5:CL≠BM
 n1:w.heap.size≠CM
 n2:w.heap.size+1≠CM
 n3:w.heap.size+1+1≠CM
 n4:BL≠CM
 n5:CL≠CM
 mn:BM≠CM
 le:w.heap.size<=BM/\w.heap.size<=CM
variable {w wr w' : World} {s t : Sp} {k k1 k2 BL CL BM CM : Nat} {xL yL xM yM : Nm} {lo' hi' l h m n : Int}
theorem OVs.bw (D:OVs w wr s t k k1 k2 BL CL BM CM xL yL xM yM lo' hi' l h m n) (hb:Below wr.heap.size wr w'):OVs w w' s t k k1 k2 BL CL BM CM xL yL xM yM lo' hi' l h m n :=
 ⟨D.A.bw hb,D.G.bw hb,D.R.bw hb,D.XL.bw hb,D.YL.bw hb,D.XM.bw hb,D.YM.bw hb,D.il.bw hb,D.ih.bw hb,D.im.bw hb,D.jn.bw hb,D.ht.bw hb,λ o=>(hb.frozen (p:=⟨BM,o,none⟩) D.XM.lt).trans (D.fM o),λ o=>(hb.frozen (p:=⟨CM,o,none⟩) D.YM.lt).trans (D.fN o),zB D.hB hb⟩
theorem nm_put {w:World} {B:Nat} {y:Nm} (h:NmC w B y) (x:Nm):NmC ((w.setCell ⟨B,0,none⟩ (.bool x.neg)).setCell ⟨B,1,none⟩ (.slice x.a x.n x.cap)) B x:=by
 obtain⟨q0,q1⟩:=h;constructor<;>simp[go_sem,q0,q1]
theorem OVs.setM (D:OVs w wr s t k k1 k2 BL CL BM CM xL yL xM yM lo' hi' l h m n) (E:OVd w BL CL BM CM) (x:Nm) {z:Int} (hz:IntAt wr x.neg x.a x.n x.cap k2 z) :
  OVs w ((wr.setCell ⟨BM,0,none⟩ (.bool x.neg)).setCell ⟨BM,1,none⟩ (.slice x.a x.n x.cap)) s t k k1 k2 BL CL BM CM xL yL x yM lo' hi' l h z n:=by
 have c0:=D.XM.c0;have c1:=D.XM.c1;exact⟨D.A.put2 E.m1 _ _,D.G.put2 E.m2 _ _,D.R.put2 E.m3 _ _,D.XL.put2 E.m4 _ _,D.YL.put2 E.m5 _ _,nm_put D.XM x,D.YM.put2 (λ e=>E.mn e.symm) _ _,D.il.put2 c0 c1 _ _,D.ih.put2 c0 c1 _ _,hz.put2 c0 c1 _ _,D.jn.put2 c0 c1 _ _,D.ht.put2 c0 c1 _ _,zDO D.fM _ _,zDO D.fN _ _,zD5 D.hB E.le.1 _ _⟩
theorem OVs.setN (D:OVs w wr s t k k1 k2 BL CL BM CM xL yL xM yM lo' hi' l h m n) (E:OVd w BL CL BM CM) (x:Nm) {z:Int} (hz:IntAt wr x.neg x.a x.n x.cap k2 z) :
  OVs w ((wr.setCell ⟨CM,0,none⟩ (.bool x.neg)).setCell ⟨CM,1,none⟩ (.slice x.a x.n x.cap)) s t k k1 k2 BL CL BM CM xL yL xM x lo' hi' l h m z:=by
 have c0:=D.YM.c0;have c1:=D.YM.c1;exact⟨D.A.put2 E.n1 _ _,D.G.put2 E.n2 _ _,D.R.put2 E.n3 _ _,D.XL.put2 E.n4 _ _,D.YL.put2 E.n5 _ _,D.XM.put2 E.mn _ _,nm_put D.YM x,D.il.put2 c0 c1 _ _,D.ih.put2 c0 c1 _ _,D.im.put2 c0 c1 _ _,hz.put2 c0 c1 _ _,D.ht.put2 c0 c1 _ _,zDO D.fM _ _,zDO D.fN _ _,zD5 D.hB E.le.2 _ _⟩
theorem zFV (w:World) (s t:Sp) (k b:Nat) (lo hi lo' hi':Int) (hs:SpAt w s k lo hi) (ht:SpAt w t k lo' hi') (hk:k<=50000000) (hb:b<=1000000) (hbits:s.bits=b) (hp:0<lo') (Y7:lo'<=hi') :
  Calls Tryz.prog 91 #[.agg s.q,.agg t.q] w (zJ w b (k+b/16+20) (ovLo (lo*Q b) (hi*Q b) lo' hi') (zL9 (lo*Q b) (hi*Q b) lo' hi')):=by
 have L6:=zC hbits;have t1:¬ zF hi' 0<0:=by unfold zF;rw[if_neg (by omega)];split<;>omega
 clear hbits;obtain⟨W,hW⟩:∃ W,W=((w.alloc (.cells s.q 36)).alloc (.cells t.q 36)).alloc (.cells zCq 36):=⟨_,rfl⟩;have b8:Below w.heap.size w W:=by rw[hW];exact bl3 _ _ _ _
 have A:SpC W w.heap.size s:=by rw[hW];constructor<;>simp[go_sem]
 have G:SpC W (w.heap.size+1) t:=by rw[hW];constructor<;>simp[go_sem]
 have R:NoC W (w.heap.size+1+1):=by rw[hW];constructor<;>simp[go_sem]
 replace hs:=zC (hs.bw b8);replace ht:=zC (ht.bw b8)
 go_enter Tryz.func91,Tryz.ntmps91
 go_wp2_with fail;rw[<- hW];clear hW;refine (yA _ _ _ _ k hi' _ (zA ht).hi).mono ?_;rintro r w0 ⟨rfl,C9⟩;replace b8:=zB b8 C9;replace A:=A.bw C9;replace G:=G.bw C9;replace R:=R.bw C9;replace hs:=zC ((zA hs).bw C9);replace ht:=zC ((zA ht).bw C9);clear C9;have lA:=A.lt;obtain⟨x0,x1,x2,x3,x4⟩:=A;have A:SpC w0 w.heap.size s:=⟨x0,x1,x2,x3,x4⟩;go_wp2_with fail;clear x0 x1 x2 x3 x4 lA;rw[zA L6];refine (kT b _ (by omega)).mono ?_
 rintro r w1 ⟨g9,a1,n1,c1,rfl,k9,b7⟩;replace b8:=zB b8 b7;replace A:=A.bw b7;replace G:=G.bw b7;replace R:=R.bw b7;replace hs:=zC ((zA hs).bw b7);replace ht:=zC ((zA ht).bw b7);clear b7;obtain⟨W1,cp⟩:∃ W',W'=w1.alloc (.cells #[.bool g9,.slice a1 n1 c1] 26):=⟨_,rfl⟩;have F8:Below w1.heap.size w1 W1:=by rw[cp];exact bl1 _ _
 have X1:NmC W1 w1.heap.size ⟨g9,a1,n1,c1⟩:=by rw[cp];exact zAK w1 ⟨g9,a1,n1,c1⟩ _
 replace b8:=zB b8 F8;replace A:=A.bw F8;replace G:=G.bw F8;replace R:=R.bw F8;replace hs:=zC ((zA hs).bw F8);replace ht:=zC ((zA ht).bw F8);replace k9:=zC (k9.bw F8);have lA:=A.lt;have lX:=X1.lt;have Lp:=R.lt;have DW:=b8;have HK:=zC (show ∀ w',Below W1.heap.size W1 w'->(w'.cell? ⟨w.heap.size,0,none⟩=some (.bool s.ln)/\w'.cell? ⟨w.heap.size,1,none⟩=some (.slice s.la s.lN s.lc)/\w'.cell? ⟨w.heap.size,2,none⟩=some (.bool s.hn)/\w'.cell? ⟨w.heap.size,3,none⟩=some (.slice s.ha s.hN s.hc)/\w'.cell? ⟨w1.heap.size,0,none⟩=some (.bool g9)/\w'.cell? ⟨w1.heap.size,1,none⟩=some (.slice a1 n1 c1)) from λ w' hB=>⟨(A.bw hB).c0,(A.bw hB).c1,(A.bw hB).c2,(A.bw hB).c3,(X1.bw hB).c0,(X1.bw hB).c1⟩)
 obtain⟨x0,x1,x2,x3,z0,z1⟩:=zA HK _ (Below.refl _ _);go_wp2_with fail;rw[<- cp];clear cp
 go_cut [6,7] (λ p q wx=>TwoV W1 wx (k+b/16+5) (k+b/16+5) (lo*Q b) (hi*Q b) p q)
 case first =>
  go_region_held3 (λ w'=>w'.cell? ⟨w.heap.size,0,none⟩=some (.bool s.ln)/\w'.cell? ⟨w.heap.size,1,none⟩=some (.slice s.la s.lN s.lc)/\w'.cell? ⟨w.heap.size,2,none⟩=some (.bool s.hn)/\w'.cell? ⟨w.heap.size,3,none⟩=some (.slice s.ha s.hN s.hc)/\w'.cell? ⟨w1.heap.size,0,none⟩=some (.bool g9)/\w'.cell? ⟨w1.heap.size,1,none⟩=some (.slice a1 n1 c1)) (exact zA HK _ (by repeat' (first|with_reducible exact fp|with_reducible exact iM|with_reducible exact Below.refl _ _|with_reducible refine Below.drew ?_|with_reducible refine zL ?_ _|with_reducible refine Below.setCell ?_ (by with_reducible first|exact XW _|exact Yh _|exact bo|exact Yf bo|exact bp|exact Yf bp) _)))
   (first
    | (go_at_call 66;have hq:=iM;refine (zW _ _ _ _ _ _ _ _ k (b/16+5) hi (Q b) _ ((zA hs).hi.bw (by repeat' (first|with_reducible exact iM|with_reducible exact Below.refl _ _|with_reducible refine Below.drew ?_|with_reducible refine zL ?_ _))) ((zA k9).bw (by repeat' (first|with_reducible exact iM|with_reducible exact Below.refl _ _|with_reducible refine Below.drew ?_|with_reducible refine zL ?_ _))) (by omega) (by omega)).mono ?_;rintro r wL2 ⟨dG,DX,DY,DZ,rfl,mh,iN⟩;have pG:Below vF.heap.size vF wL2:=(by with_reducible first|exact iN|exact zB (bl1 _ _) iN|exact zB (bl2 _ _ _) iN);have fp:=zB iM pG;(first|with_reducible have vG:=(jO vF 26).bw iN|with_reducible have vG:=((jO vF 26).bw (bl1 _ _)).bw iN|skip);(try with_reducible have Ea:=(zEU (vF.alloc _) (vF.heap.size+1) (hs1 _ _) 26).bw iN);replace fq:=fq.bw pG;(try have maL1:=iO.lt);(try have mbL1:=mj.lt);(try replace iO:=iO.bw pG);(try replace mj:=mj.bw pG);have bp:=fp.size;(try have Mm:=iO);(try obtain⟨TV,TW,TX⟩:=Mm);(try have yaL1:=iO.lt);(try have Mn:=mj);(try obtain⟨TY,TZ,Va⟩:=Mn);(try have ybL1:=mj.lt);(try have Mo:=vG);(try obtain⟨Vb,Vc,Vd⟩:=Mo);(try have yaL2:=vG.lt);(try have Mp:=Ea);(try obtain⟨Vf,Vg,Vh⟩:=Mp);(try have ybL2:=Ea.lt))
    | (go_at_call 66;refine (zW _ _ _ _ _ _ _ _ k (b/16+5) lo (Q b) _ ((zA hs).lo.bw (by repeat' (first|with_reducible exact Below.refl _ _|with_reducible refine Below.drew ?_|with_reducible refine zL ?_ _))) ((zA k9).bw (by repeat' (first|with_reducible exact Below.refl _ _|with_reducible refine Below.drew ?_|with_reducible refine zL ?_ _))) (by omega) (by omega)).mono ?_;rintro r vF ⟨dH,Eb,Ec,Ed,rfl,fq,iP⟩;have iM:Below W1.heap.size W1 vF:=(by with_reducible first|exact zB (Below.refl _ _).drew iP|exact zB (bl1 _ _).drew iP|exact zB (bl2 _ _ _).drew iP);(first|with_reducible have iO:=((jO W1 26).bw (Below.refl _ _).drew).bw iP|with_reducible have iO:=((jO W1 26).bw (bl1 _ _).drew).bw iP|skip);(try with_reducible have mj:=((zEU (W1.alloc _) (W1.heap.size+1) (hs1 _ _) 26).bw (Below.refl _ _).drew).bw iP);have bo:=iM.size))
  all_goals
   go_wp2_with fail;go_meet
   first
    | with_reducible exact two_aa (x:=(Nm.mk dH Eb Ec Ed)) (y:=(Nm.mk dG DX DY DZ)) fp (IntAt.mono fq (by omega)) (IntAt.mono mh (by omega))
    | with_reducible exact zP2 (x:=(Nm.mk dH Eb Ec Ed)) (y:=(Nm.mk dG DX DY DZ)) fp (IntAt.mono fq (by omega)) (IntAt.mono mh (by omega))
    | with_reducible exact zPC (x:=(Nm.mk dH Eb Ec Ed)) (y:=(Nm.mk dG DX DY DZ)) fp (IntAt.mono fq (by omega)) (IntAt.mono mh (by omega)) (by assumption) (by with_reducible first|exact XW _|exact Yh _|exact bo|exact Yf bo|exact bp|exact Yf bp)
    | with_reducible exact two_as (x:=(Nm.mk dH Eb Ec Ed)) (y:=(Nm.mk dG DX DY DZ)) fp (IntAt.mono fq (by omega)) (IntAt.mono mh (by omega)) (by assumption) (by with_reducible first|exact XW _|exact Yh _|exact bo|exact Yf bo|exact bp|exact Yf bp)
    | with_reducible exact two_ss (x:=(Nm.mk dH Eb Ec Ed)) (y:=(Nm.mk dG DX DY DZ)) fp (IntAt.mono fq (by omega)) (IntAt.mono mh (by omega)) (by assumption) (by assumption) (by with_reducible first|exact XW _|exact Yh _|exact bo|exact Yf bo|exact bp|exact Yf bp) (by with_reducible first|exact XW _|exact Yh _|exact bo|exact Yf bo|exact bp|exact Yf bp) (by omega)
 case rest =>
 obtain⟨⟨BL,xL,rfl,Vi,Vj,eA,Vk,hltL⟩,⟨CL,yL,rfl,Vl,Vm,hjntL,hJL,hjtL⟩,hneL,hfzL,hfyL,hblL⟩:=hcut;have XL:NmC wc BL xL:=⟨Vi,Vj⟩;have YL:NmC wc CL yL:=⟨Vl,Vm⟩;replace hneL:BL≠CL:=λ e9=>hneL (by rw[e9])
 replace hfzL:∀ o,wc.frozen? ⟨BL,o,none⟩=false:=hfzL _ rfl;replace hfyL:∀ o,wc.frozen? ⟨CL,o,none⟩=false:=hfyL _ rfl;replace b8:=zB b8 hblL;replace A:=A.bw hblL;replace G:=G.bw hblL;replace R:=R.bw hblL;replace hs:=zC ((zA hs).bw hblL);replace ht:=zC ((zA ht).bw hblL);replace eA:=zC eA;replace hjntL:=zC hjntL;have nRL:w.heap.size+1+1≠BL:=Yj (Yd Lp Vk);clear x0 x1 x2 x3 z0 z1 HK lA lX X1 k9 hblL hfzL hfyL hneL F8;obtain⟨W2,mo⟩:∃ W',W'=wc:=⟨_,rfl⟩;subst mo;have HK:=zC (show ∀ w',Below W2.heap.size W2 w'->(w'.cell? ⟨w.heap.size+1,0,none⟩=some (.bool t.ln)/\w'.cell? ⟨w.heap.size+1,1,none⟩=some (.slice t.la t.lN t.lc)/\w'.cell? ⟨w.heap.size+1,2,none⟩=some (.bool t.hn)/\w'.cell? ⟨w.heap.size+1,3,none⟩=some (.slice t.ha t.hN t.hc)/\nK w' BL xL (nK0 w' CL yL)) from λ w' hB=>⟨(G.bw hB).c0,(G.bw hB).c1,(G.bw hB).c2,(G.bw hB).c3,(XL.bw hB).c0,(XL.bw hB).c1,(YL.bw hB).c0,(YL.bw hB).c1⟩)
 have lG:=G.lt;have lX:=XL.lt;have lY:=YL.lt;have Y1:=R.lt;obtain⟨x0,x1,x2,x3,z0,z1,z2,z3⟩:=zA HK _ (Below.refl _ _);go_wp2_with fail
 go_cut [8,9] (λ p q wx=>TwoV W2 wx (k+b/16+14) (k+b/16+14) (lo*Q b/hi') (-(-(hi*Q b)/lo')) p q)
 case first =>
  go_region_held3 (λ w'=>w'.cell? ⟨w.heap.size+1,0,none⟩=some (.bool t.ln)/\w'.cell? ⟨w.heap.size+1,1,none⟩=some (.slice t.la t.lN t.lc)/\w'.cell? ⟨w.heap.size+1,2,none⟩=some (.bool t.hn)/\w'.cell? ⟨w.heap.size+1,3,none⟩=some (.slice t.ha t.hN t.hc)/\nK w' BL xL (nK0 w' CL yL)) (exact zA HK _ (by repeat' (first|with_reducible exact ft|with_reducible exact iQ|with_reducible exact Below.refl _ _|with_reducible refine Below.drew ?_|with_reducible refine zL ?_ _|with_reducible refine Below.setCell ?_ (by with_reducible first|exact XW _|exact Yh _|exact br|exact Yf br|exact bs|exact Yf bs) _)))
   (first
    | (go_at_call 109;have hq:=iQ;refine (zCH _ _ _ _ _ _ _ _ (k+b/16+5) k (hi*Q b) lo' _ ((zA hjntL).bw (by repeat' (first|with_reducible exact iQ|with_reducible exact Below.refl _ _|with_reducible refine Below.drew ?_|with_reducible refine zL ?_ _))) ((zA ht).lo.bw (by repeat' (first|with_reducible exact iQ|with_reducible exact Below.refl _ _|with_reducible refine Below.drew ?_|with_reducible refine zL ?_ _))) (by omega) (by omega) (by omega)).mono ?_;rintro r wM2 ⟨dI,Ee,Ef,Eg,rfl,mr,iR⟩;have pH:Below vH.heap.size vH wM2:=(by with_reducible first|exact iR|exact zB (bl1 _ _) iR|exact zB (bl2 _ _ _) iR);have ft:=zB iQ pH;(first|with_reducible have vI:=(jO vH 26).bw iR|with_reducible have vI:=((jO vH 26).bw (bl1 _ _)).bw iR|skip);(try with_reducible have Eh:=(zEU (vH.alloc _) (vH.heap.size+1) (hs1 _ _) 26).bw iR);replace fw:=fw.bw pH;(try have maM1:=iV.lt);(try have mbM1:=mv.lt);(try replace iV:=iV.bw pH);(try replace mv:=mv.bw pH);have bs:=ft.size;(try have Mq:=iV);(try obtain⟨Vn,Vo,Vp⟩:=Mq);(try have yaM1:=iV.lt);(try have Mr:=mv);(try obtain⟨Vq,Vr,Vs⟩:=Mr);(try have ybM1:=mv.lt);(try have Ms:=vI);(try obtain⟨Vt,Vv,Vw⟩:=Ms);(try have yaM2:=vI.lt);(try have Mt:=Eh);(try obtain⟨Vx,Vy,Vz⟩:=Mt);(try have ybM2:=Eh.lt))
    | (go_at_call 108;refine (zDF _ _ _ _ _ _ _ _ (k+b/16+5) k (lo*Q b) hi' _ ((zA eA).bw (by repeat' (first|with_reducible exact Below.refl _ _|with_reducible refine Below.drew ?_|with_reducible refine zL ?_ _))) ((zA ht).hi.bw (by repeat' (first|with_reducible exact Below.refl _ _|with_reducible refine Below.drew ?_|with_reducible refine zL ?_ _))) (by omega) (by omega) (by omega)).mono ?_;rintro r vH ⟨dJ,Ei,Ej,Ek,rfl,fw,iW⟩;have iQ:Below W2.heap.size W2 vH:=(by with_reducible first|exact zB (Below.refl _ _).drew iW|exact zB (bl1 _ _).drew iW|exact zB (bl2 _ _ _).drew iW);(first|with_reducible have iV:=((jO W2 26).bw (Below.refl _ _).drew).bw iW|with_reducible have iV:=((jO W2 26).bw (bl1 _ _).drew).bw iW|skip);(try with_reducible have mv:=((zEU (W2.alloc _) (W2.heap.size+1) (hs1 _ _) 26).bw (Below.refl _ _).drew).bw iW);have br:=iQ.size))
  all_goals
   go_wp2_with fail;go_meet
   first
    | with_reducible exact two_aa (x:=(Nm.mk dJ Ei Ej Ek)) (y:=(Nm.mk dI Ee Ef Eg)) ft (IntAt.mono fw (by omega)) (IntAt.mono mr (by omega))
    | with_reducible exact zP2 (x:=(Nm.mk dJ Ei Ej Ek)) (y:=(Nm.mk dI Ee Ef Eg)) ft (IntAt.mono fw (by omega)) (IntAt.mono mr (by omega))
    | with_reducible exact zPC (x:=(Nm.mk dJ Ei Ej Ek)) (y:=(Nm.mk dI Ee Ef Eg)) ft (IntAt.mono fw (by omega)) (IntAt.mono mr (by omega)) (by assumption) (by with_reducible first|exact XW _|exact Yh _|exact br|exact Yf br|exact bs|exact Yf bs)
    | with_reducible exact two_as (x:=(Nm.mk dJ Ei Ej Ek)) (y:=(Nm.mk dI Ee Ef Eg)) ft (IntAt.mono fw (by omega)) (IntAt.mono mr (by omega)) (by assumption) (by with_reducible first|exact XW _|exact Yh _|exact br|exact Yf br|exact bs|exact Yf bs)
    | with_reducible exact two_ss (x:=(Nm.mk dJ Ei Ej Ek)) (y:=(Nm.mk dI Ee Ef Eg)) ft (IntAt.mono fw (by omega)) (IntAt.mono mr (by omega)) (by assumption) (by assumption) (by with_reducible first|exact XW _|exact Yh _|exact br|exact Yf br|exact bs|exact Yf bs) (by with_reducible first|exact XW _|exact Yh _|exact br|exact Yf br|exact bs|exact Yf bs) (by omega)
 case rest =>
 obtain⟨⟨BM,xM,rfl,VA,VB,VC,hHM,hltM⟩,⟨CM,yM,rfl,VD,VF,hjntM,hJM,hjtM⟩,hneM,hfzM,hfyM,hblM⟩:=hcut;have XM:NmC wc BM xM:=⟨VA,VB⟩;have YM:NmC wc CM yM:=⟨VD,VF⟩;replace hneM:BM≠CM:=λ e9=>hneM (by rw[e9])
 replace hfzM:∀ o,wc.frozen? ⟨BM,o,none⟩=false:=hfzM _ rfl;replace hfyM:∀ o,wc.frozen? ⟨CM,o,none⟩=false:=hfyM _ rfl;replace b8:=zB b8 hblM;replace A:=A.bw hblM;replace G:=G.bw hblM;replace R:=R.bw hblM;replace XL:=XL.bw hblM;replace YL:=YL.bw hblM;replace ht:=(zA ht).bw hblM;replace eA:=(zA eA).bw hblM;replace hjntL:=(zA hjntL).bw hblM;have D:OVs w wc s t k (k+b/16+5) (k+b/16+14) BL CL BM CM xL yL xM yM lo' hi' (lo*Q b) (hi*Q b) (lo*Q b/hi') (-(-(hi*Q b)/lo')):=⟨A,G,R,XL,YL,XM,YM,eA,hjntL,VC,hjntM,ht,hfzM,hfyM,b8⟩
 have E:OVd w BL CL BM CM:=by
  have a1:=DW.size;exact⟨by omega,by omega,by omega,by omega,by omega,by omega,by omega,by omega,by omega,by omega,by omega,by omega⟩
 clear x0 x1 x2 x3 z0 z1 z2 z3 HK lG lX lY hblM hs A G R XL YL XM YM eA hjntL VC hjntM ht hfzM hfyM b8 VA VB VD VF Vi Vj Vl Vm Y1 Lp hltL hjtL hltM hjtM nRL hneM Vk hJL hHM hJM DW;have lL:=D.XL.lt;have lC:=D.YL.lt;have lM:=D.XM.lt;have lN:=D.YM.lt;have lG:=D.G.lt;have lA:=D.A.lt;obtain⟨i0,i1⟩:=D.XL;obtain⟨i2,i3⟩:=D.YL;obtain⟨i4,i5⟩:=D.XM;obtain⟨i6,i7⟩:=D.YM;obtain⟨y0,y1,y2,y3,y4⟩:=D.G;obtain⟨e0,e1,e2,e3,e4⟩:=D.A;have fM:=D.fM;have fN:=D.fN;go_wp2_with fail;refine (yA _ _ _ _ (k+b/16+5) (lo*Q b) _ D.il).mono ?_;rintro r w3 ⟨rfl,k8⟩;replace D:=D.bw k8;clear k8 i0 i1 i2 i3 i4 i5 i6 i7 y0 y1 y2 y3 y4 e0 e1 e2 e3 e4 fM fN lL lC lM lN lG lA
 by_cases c1:lo*Q b<0
 ·have t2:zF (lo*Q b) 0<0:=by unfold zF;rw[if_pos c1];omega
  have vJ:=zC (show ovLo (lo*Q b) (hi*Q b) lo' hi'=lo*Q b/lo' by unfold ovLo;rw[if_pos c1])
  clear c1;have lL:=D.XL.lt;have lC:=D.YL.lt;have lM:=D.XM.lt;have lN:=D.YM.lt;have lG:=D.G.lt;have lA:=D.A.lt;obtain⟨i0,i1⟩:=D.XL;obtain⟨i2,i3⟩:=D.YL;obtain⟨i4,i5⟩:=D.XM;obtain⟨i6,i7⟩:=D.YM;obtain⟨y0,y1,y2,y3,y4⟩:=D.G;obtain⟨e0,e1,e2,e3,e4⟩:=D.A;have fM:=D.fM;have fN:=D.fN;go_wp2_with fail;refine (zDF _ _ _ _ _ _ _ _ (k+b/16+5) k (lo*Q b) lo' _ D.il D.ht.lo (by omega) (by omega) (by omega)).mono ?_
  rintro r w4 ⟨o9,a4,n4,c4,rfl,D9,m9⟩;replace D:=D.bw m9;clear m9 i0 i1 i2 i3 i4 i5 i6 i7 y0 y1 y2 y3 y4 e0 e1 e2 e3 e4 fM fN lL lC lM lN lG lA;have lL:=D.XL.lt;have lC:=D.YL.lt;have lM:=D.XM.lt;have lN:=D.YM.lt;have lG:=D.G.lt;have lA:=D.A.lt;obtain⟨i0,i1⟩:=D.XL;obtain⟨i2,i3⟩:=D.YL;obtain⟨i4,i5⟩:=D.XM;obtain⟨i6,i7⟩:=D.YM;obtain⟨y0,y1,y2,y3,y4⟩:=D.G;obtain⟨e0,e1,e2,e3,e4⟩:=D.A;have fM:=D.fM;have fN:=D.fN;have D2:=D.setM E ⟨o9,a4,n4,c4⟩ (D9.mono (by omega))
  obtain⟨V4,gW⟩:∃ V',V'=(w4.setCell ⟨BM,0,none⟩ (.bool o9)).setCell ⟨BM,1,none⟩ (.slice a4 n4 c4):=⟨_,rfl⟩;rw[<- gW] at D2
  go_upto_region 8 with fail
  rw[<- gW];clear gW D i0 i1 i2 i3 i4 i5 i6 i7 y0 y1 y2 y3 y4 e0 e1 e2 e3 e4 fM fN lL lC lM lN lG lA;have D:=D2;clear D2;have lL:=D.XL.lt;have lC:=D.YL.lt;have lM:=D.XM.lt;have lN:=D.YM.lt;have lG:=D.G.lt;have lA:=D.A.lt;obtain⟨i0,i1⟩:=D.XL;obtain⟨i2,i3⟩:=D.YL;obtain⟨i4,i5⟩:=D.XM;obtain⟨i6,i7⟩:=D.YM;obtain⟨y0,y1,y2,y3,y4⟩:=D.G;obtain⟨e0,e1,e2,e3,e4⟩:=D.A;have fM:=D.fM;have fN:=D.fN;go_wp2_with fail;refine (yA _ _ _ _ (k+b/16+5) (hi*Q b) _ D.ih).mono ?_;rintro r w5 ⟨rfl,A7⟩;replace D:=D.bw A7;clear A7 i0 i1 i2 i3 i4 i5 i6 i7 y0 y1 y2 y3 y4 e0 e1 e2 e3 e4 fM fN lL lC lM lN lG lA
  by_cases c2:hi*Q b<0
  ·have t3:zF (hi*Q b) 0<0:=by unfold zF;rw[if_pos c2];omega
   have pI:=zC (show zL9 (lo*Q b) (hi*Q b) lo' hi' = -(-(hi*Q b)/hi') by unfold zL9;rw[if_pos c2])
   clear c2;have lL:=D.XL.lt;have lC:=D.YL.lt;have lM:=D.XM.lt;have lN:=D.YM.lt;have lG:=D.G.lt;have lA:=D.A.lt;obtain⟨i0,i1⟩:=D.XL;obtain⟨i2,i3⟩:=D.YL;obtain⟨i4,i5⟩:=D.XM;obtain⟨i6,i7⟩:=D.YM;obtain⟨y0,y1,y2,y3,y4⟩:=D.G;obtain⟨e0,e1,e2,e3,e4⟩:=D.A;have fM:=D.fM;have fN:=D.fN;go_wp2_with fail;refine (zCH _ _ _ _ _ _ _ _ (k+b/16+5) k (hi*Q b) hi' _ D.ih D.ht.hi (by omega) (by omega) (by omega)).mono ?_
   rintro r w6 ⟨D4,a6,n6,c6,rfl,L9,G3⟩;replace D:=D.bw G3;clear G3 i0 i1 i2 i3 i4 i5 i6 i7 y0 y1 y2 y3 y4 e0 e1 e2 e3 e4 fM fN lL lC lM lN lG lA;have lL:=D.XL.lt;have lC:=D.YL.lt;have lM:=D.XM.lt;have lN:=D.YM.lt;have lG:=D.G.lt;have lA:=D.A.lt;obtain⟨i0,i1⟩:=D.XL;obtain⟨i2,i3⟩:=D.YL;obtain⟨i4,i5⟩:=D.XM;obtain⟨i6,i7⟩:=D.YM;obtain⟨y0,y1,y2,y3,y4⟩:=D.G;obtain⟨e0,e1,e2,e3,e4⟩:=D.A;have fM:=D.fM;have fN:=D.fN;have D2:=D.setN E ⟨D4,a6,n6,c6⟩ (L9.mono (by omega))
   obtain⟨V6,R8⟩:∃ V',V'=(w6.setCell ⟨CM,0,none⟩ (.bool D4)).setCell ⟨CM,1,none⟩ (.slice a6 n6 c6):=⟨_,rfl⟩;rw[<- R8] at D2
   go_upto_region 10 with fail
   rw[<- R8];clear R8 D i0 i1 i2 i3 i4 i5 i6 i7 y0 y1 y2 y3 y4 e0 e1 e2 e3 e4 fM fN lL lC lM lN lG lA;have D:=D2;have lL:=D.XL.lt;have lC:=D.YL.lt;have lM:=D.XM.lt;have lN:=D.YM.lt;have lG:=D.G.lt;have lA:=D.A.lt;obtain⟨i0,i1⟩:=D.XL;obtain⟨i2,i3⟩:=D.YL;obtain⟨i4,i5⟩:=D.XM;obtain⟨i6,i7⟩:=D.YM;obtain⟨y0,y1,y2,y3,y4⟩:=D.G;obtain⟨e0,e1,e2,e3,e4⟩:=D.A;have fM:=D.fM;have fN:=D.fN;have hR:=D.R;have lR:=hR.lt;obtain⟨q0,q1,q2,q3,q4,q5⟩:=hR;go_wp2_with fail;refine bodyPost_ret (v:=.agg #[.bool (Nm.mk o9 a4 n4 c4).neg,.slice (Nm.mk o9 a4 n4 c4).a (Nm.mk o9 a4 n4 c4).n (Nm.mk o9 a4 n4 c4).cap,.bool (Nm.mk D4 a6 n6 c6).neg,.slice (Nm.mk D4 a6 n6 c6).a (Nm.mk D4 a6 n6 c6).n (Nm.mk D4 a6 n6 c6).cap,.int .i64 s.bits]) (by simp[results,Tryz.results91,go_sem,lR,q0,q1,q2,q3,q4]) rfl ⟨⟨(Nm.mk o9 a4 n4 c4).neg,(Nm.mk o9 a4 n4 c4).a,(Nm.mk o9 a4 n4 c4).n,(Nm.mk o9 a4 n4 c4).cap,(Nm.mk D4 a6 n6 c6).neg,(Nm.mk D4 a6 n6 c6).a,(Nm.mk D4 a6 n6 c6).n,(Nm.mk D4 a6 n6 c6).cap,s.bits⟩,rfl,zA L6,?_,?_⟩
   ·rw[zA vJ,zA pI];exact SpAt.put5 ⟨D.im.mono (by omega),D.jn.mono (by omega)⟩ q0 q1 q2 q3 q4 _ _ _ _ _
   ·exact kB D.hB (by omega) _ _ _ _ _
  ·have t3:¬ zF (hi*Q b) 0<0:=by unfold zF;rw[if_neg c2];split<;>omega
   have pI:=zC (show zL9 (lo*Q b) (hi*Q b) lo' hi' = -(-(hi*Q b)/lo') by unfold zL9;rw[if_neg c2])
   clear c2;have lL:=D.XL.lt;have lC:=D.YL.lt;have lM:=D.XM.lt;have lN:=D.YM.lt;have lG:=D.G.lt;have lA:=D.A.lt;obtain⟨i0,i1⟩:=D.XL;obtain⟨i2,i3⟩:=D.YL;obtain⟨i4,i5⟩:=D.XM;obtain⟨i6,i7⟩:=D.YM;obtain⟨y0,y1,y2,y3,y4⟩:=D.G;obtain⟨e0,e1,e2,e3,e4⟩:=D.A;have fM:=D.fM;have fN:=D.fN;have hR:=D.R;have lR:=hR.lt;obtain⟨q0,q1,q2,q3,q4,q5⟩:=hR;go_wp2_with fail;refine bodyPost_ret (v:=.agg #[.bool (Nm.mk o9 a4 n4 c4).neg,.slice (Nm.mk o9 a4 n4 c4).a (Nm.mk o9 a4 n4 c4).n (Nm.mk o9 a4 n4 c4).cap,.bool yM.neg,.slice yM.a yM.n yM.cap,.int .i64 s.bits]) (by simp[results,Tryz.results91,go_sem,lR,q0,q1,q2,q3,q4]) rfl ⟨⟨(Nm.mk o9 a4 n4 c4).neg,(Nm.mk o9 a4 n4 c4).a,(Nm.mk o9 a4 n4 c4).n,(Nm.mk o9 a4 n4 c4).cap,yM.neg,yM.a,yM.n,yM.cap,s.bits⟩,rfl,zA L6,?_,?_⟩
   ·rw[zA vJ,zA pI];exact SpAt.put5 ⟨D.im.mono (by omega),D.jn.mono (by omega)⟩ q0 q1 q2 q3 q4 _ _ _ _ _
   ·exact kB D.hB (by omega) _ _ _ _ _
 ·have t2:¬ zF (lo*Q b) 0<0:=by unfold zF;rw[if_neg c1];split<;>omega
  have vJ:=zC (show ovLo (lo*Q b) (hi*Q b) lo' hi'=lo*Q b/hi' by unfold ovLo;rw[if_neg c1])
  clear c1;have lL:=D.XL.lt;have lC:=D.YL.lt;have lM:=D.XM.lt;have lN:=D.YM.lt;have lG:=D.G.lt;have lA:=D.A.lt;obtain⟨i0,i1⟩:=D.XL;obtain⟨i2,i3⟩:=D.YL;obtain⟨i4,i5⟩:=D.XM;obtain⟨i6,i7⟩:=D.YM;obtain⟨y0,y1,y2,y3,y4⟩:=D.G;obtain⟨e0,e1,e2,e3,e4⟩:=D.A;have fM:=D.fM;have fN:=D.fN;go_wp2_with fail;refine (yA _ _ _ _ (k+b/16+5) (hi*Q b) _ D.ih).mono ?_;rintro r w5 ⟨rfl,A7⟩;replace D:=D.bw A7;clear A7 i0 i1 i2 i3 i4 i5 i6 i7 y0 y1 y2 y3 y4 e0 e1 e2 e3 e4 fM fN lL lC lM lN lG lA
  by_cases c2:hi*Q b<0
  ·have t3:zF (hi*Q b) 0<0:=by unfold zF;rw[if_pos c2];omega
   have pI:=zC (show zL9 (lo*Q b) (hi*Q b) lo' hi' = -(-(hi*Q b)/hi') by unfold zL9;rw[if_pos c2])
   clear c2;have lL:=D.XL.lt;have lC:=D.YL.lt;have lM:=D.XM.lt;have lN:=D.YM.lt;have lG:=D.G.lt;have lA:=D.A.lt;obtain⟨i0,i1⟩:=D.XL;obtain⟨i2,i3⟩:=D.YL;obtain⟨i4,i5⟩:=D.XM;obtain⟨i6,i7⟩:=D.YM;obtain⟨y0,y1,y2,y3,y4⟩:=D.G;obtain⟨e0,e1,e2,e3,e4⟩:=D.A;have fM:=D.fM;have fN:=D.fN;go_wp2_with fail;refine (zCH _ _ _ _ _ _ _ _ (k+b/16+5) k (hi*Q b) hi' _ D.ih D.ht.hi (by omega) (by omega) (by omega)).mono ?_
   rintro r w6 ⟨D4,a6,n6,c6,rfl,L9,G3⟩;replace D:=D.bw G3;clear G3 i0 i1 i2 i3 i4 i5 i6 i7 y0 y1 y2 y3 y4 e0 e1 e2 e3 e4 fM fN lL lC lM lN lG lA;have lL:=D.XL.lt;have lC:=D.YL.lt;have lM:=D.XM.lt;have lN:=D.YM.lt;have lG:=D.G.lt;have lA:=D.A.lt;obtain⟨i0,i1⟩:=D.XL;obtain⟨i2,i3⟩:=D.YL;obtain⟨i4,i5⟩:=D.XM;obtain⟨i6,i7⟩:=D.YM;obtain⟨y0,y1,y2,y3,y4⟩:=D.G;obtain⟨e0,e1,e2,e3,e4⟩:=D.A;have fM:=D.fM;have fN:=D.fN;have D2:=D.setN E ⟨D4,a6,n6,c6⟩ (L9.mono (by omega))
   obtain⟨V6,R8⟩:∃ V',V'=(w6.setCell ⟨CM,0,none⟩ (.bool D4)).setCell ⟨CM,1,none⟩ (.slice a6 n6 c6):=⟨_,rfl⟩;rw[<- R8] at D2
   go_upto_region 10 with fail
   rw[<- R8];clear R8 D i0 i1 i2 i3 i4 i5 i6 i7 y0 y1 y2 y3 y4 e0 e1 e2 e3 e4 fM fN lL lC lM lN lG lA;have D:=D2;have lL:=D.XL.lt;have lC:=D.YL.lt;have lM:=D.XM.lt;have lN:=D.YM.lt;have lG:=D.G.lt;have lA:=D.A.lt;obtain⟨i0,i1⟩:=D.XL;obtain⟨i2,i3⟩:=D.YL;obtain⟨i4,i5⟩:=D.XM;obtain⟨i6,i7⟩:=D.YM;obtain⟨y0,y1,y2,y3,y4⟩:=D.G;obtain⟨e0,e1,e2,e3,e4⟩:=D.A;have fM:=D.fM;have fN:=D.fN;have hR:=D.R;have lR:=hR.lt;obtain⟨q0,q1,q2,q3,q4,q5⟩:=hR;go_wp2_with fail;refine bodyPost_ret (v:=.agg #[.bool xM.neg,.slice xM.a xM.n xM.cap,.bool (Nm.mk D4 a6 n6 c6).neg,.slice (Nm.mk D4 a6 n6 c6).a (Nm.mk D4 a6 n6 c6).n (Nm.mk D4 a6 n6 c6).cap,.int .i64 s.bits]) (by simp[results,Tryz.results91,go_sem,lR,q0,q1,q2,q3,q4]) rfl ⟨⟨xM.neg,xM.a,xM.n,xM.cap,(Nm.mk D4 a6 n6 c6).neg,(Nm.mk D4 a6 n6 c6).a,(Nm.mk D4 a6 n6 c6).n,(Nm.mk D4 a6 n6 c6).cap,s.bits⟩,rfl,zA L6,?_,?_⟩
   ·rw[zA vJ,zA pI];exact SpAt.put5 ⟨D.im.mono (by omega),D.jn.mono (by omega)⟩ q0 q1 q2 q3 q4 _ _ _ _ _
   ·exact kB D.hB (by omega) _ _ _ _ _
  ·have t3:¬ zF (hi*Q b) 0<0:=by unfold zF;rw[if_neg c2];split<;>omega
   have pI:=zC (show zL9 (lo*Q b) (hi*Q b) lo' hi' = -(-(hi*Q b)/lo') by unfold zL9;rw[if_neg c2])
   clear c2;have lL:=D.XL.lt;have lC:=D.YL.lt;have lM:=D.XM.lt;have lN:=D.YM.lt;have lG:=D.G.lt;have lA:=D.A.lt;obtain⟨i0,i1⟩:=D.XL;obtain⟨i2,i3⟩:=D.YL;obtain⟨i4,i5⟩:=D.XM;obtain⟨i6,i7⟩:=D.YM;obtain⟨y0,y1,y2,y3,y4⟩:=D.G;obtain⟨e0,e1,e2,e3,e4⟩:=D.A;have fM:=D.fM;have fN:=D.fN;have hR:=D.R;have lR:=hR.lt;obtain⟨q0,q1,q2,q3,q4,q5⟩:=hR;go_wp2_with fail;refine bodyPost_ret (v:=.agg #[.bool xM.neg,.slice xM.a xM.n xM.cap,.bool yM.neg,.slice yM.a yM.n yM.cap,.int .i64 s.bits]) (by simp[results,Tryz.results91,go_sem,lR,q0,q1,q2,q3,q4]) rfl ⟨⟨xM.neg,xM.a,xM.n,xM.cap,yM.neg,yM.a,yM.n,yM.cap,s.bits⟩,rfl,zA L6,?_,?_⟩
   ·rw[zA vJ,zA pI];exact SpAt.put5 ⟨D.im.mono (by omega),D.jn.mono (by omega)⟩ q0 q1 q2 q3 q4 _ _ _ _ _
   ·exact kB D.hB (by omega) _ _ _ _ _
theorem zJW (w:World) (s t:Sp) (k b:Nat) (lo hi lo' hi':Int) (hs:SpAt w s k lo hi) (ht:SpAt w t k lo' hi') (hk:k<=50000000) (hb:b<=1000000) (hbits:s.bits=b) (hp:hi'<0) (Y7:lo'<=hi') :
  Calls Tryz.prog 91 #[.agg s.q,.agg t.q] w (zJ w b (k+b/16+20) (ovLo (-hi*Q b) (-lo*Q b) (-hi') (-lo')) (zL9 (-hi*Q b) (-lo*Q b) (-hi') (-lo'))):=by
 have L6:=zC hbits;have t1:zF hi' 0<0:=by unfold zF;rw[if_pos (by omega)];omega
 clear hbits;obtain⟨W,hW⟩:∃ W,W=((w.alloc (.cells s.q 36)).alloc (.cells t.q 36)).alloc (.cells zCq 36):=⟨_,rfl⟩;have b8:Below w.heap.size w W:=by rw[hW];exact bl3 _ _ _ _
 have A:SpC W w.heap.size s:=by rw[hW];constructor<;>simp[go_sem]
 have G:SpC W (w.heap.size+1) t:=by rw[hW];constructor<;>simp[go_sem]
 have R:NoC W (w.heap.size+1+1):=by rw[hW];constructor<;>simp[go_sem]
 replace hs:=zC (hs.bw b8);replace ht:=zC (ht.bw b8)
 go_enter Tryz.func91,Tryz.ntmps91
 go_wp2_with fail;rw[<- hW];clear hW;refine (yA _ _ _ _ k hi' _ (zA ht).hi).mono ?_;rintro r w0 ⟨rfl,C9⟩;replace b8:=zB b8 C9;replace A:=A.bw C9;replace G:=G.bw C9;replace R:=R.bw C9;replace hs:=zC ((zA hs).bw C9);replace ht:=zC ((zA ht).bw C9);clear C9;have lA:=A.lt;have lG:=G.lt;have bN:=zC (zA hs).lo;have hsh:=zC (zA hs).hi;have htl:=zC (zA ht).lo;have hth:=zC (zA ht).hi;have El:w.heap.size≠w.heap.size+1+1:=by omega
 have Em:w.heap.size+1≠w.heap.size+1+1:=by omega
 have HK:=zC (show ∀ w',Below w0.heap.size w0 w'->(cK w' w.heap.size s (cK0 w' (w.heap.size+1) t)) from λ w' hB=>⟨(A.bw hB).c0,(A.bw hB).c1,(A.bw hB).c2,(A.bw hB).c3,(A.bw hB).c4,(G.bw hB).c0,(G.bw hB).c1,(G.bw hB).c2,(G.bw hB).c3,(G.bw hB).c4⟩)
 obtain⟨x0,x1,x2,x3,x4,y0,y1,y2,y3,y4⟩:=zA HK _ (Below.refl _ _);go_wp2_with fail
 go_region_held3 (λ w'=>cK w' w.heap.size s (cK0 w' (w.heap.size+1) t)) (first|exact zA HK _ (by with_reducible first|exact M6|exact L5|exact E2|exact o7|exact A6|exact (Below.refl _ _).drew|exact Below.refl _ _)|exact⟨jG e0 El _ _ _ _ _,jG e1 El _ _ _ _ _,jG e2 El _ _ _ _ _,jG e3 El _ _ _ _ _,jG e4 El _ _ _ _ _,jG f0 Em _ _ _ _ _,jG f1 Em _ _ _ _ _,jG f2 Em _ _ _ _ _,jG f3 Em _ _ _ _ _,jG f4 Em _ _ _ _ _⟩)
  (first
   | (go_at_call 91;refine (zFV _ ⟨g9,a1,n1,c1,b6,a2,n2,c2,s.bits⟩ ⟨p9,a3,n3,c3,o9,a4,n4,c4,t.bits⟩ k b (-hi) (-lo) (-hi') (-lo') ⟨k9,o0⟩ ⟨A8,D9⟩ hk hb (zA L6) (by omega) (by omega)).mono ?_;rintro r w5 ⟨u,rfl,I0,E9,A7⟩;have M6:=zB L5 A7;have R5:=R.bw M6;have l5:=R5.lt;obtain⟨q0,q1,q2,q3,q4,q5⟩:=R5;obtain⟨e0,e1,e2,e3,e4,f0,f1,f2,f3,f4⟩:=zA HK _ M6;have tX:=zC I0;clear I0)
   | (go_at_call 103;have hq:=E2;refine (kC _ _ _ _ k lo' _ ((zA htl).bw E2) (by omega)).mono ?_;rintro r w4 ⟨o9,a4,n4,c4,rfl,D9,m9⟩;have L5:=zB E2 m9;replace k9:=k9.bw m9;replace o0:=o0.bw m9;replace A8:=A8.bw m9)
   | (go_at_call 103;have hq:=o7;refine (kC _ _ _ _ k hi' _ ((zA hth).bw o7) (by omega)).mono ?_;rintro r w3 ⟨p9,a3,n3,c3,rfl,A8,k8⟩;have E2:=zB o7 k8;replace k9:=k9.bw k8;replace o0:=o0.bw k8)
   | (go_at_call 103;have hq:=A6;refine (kC _ _ _ _ k lo _ ((zA bN).bw A6) (by omega)).mono ?_;rintro r w2 ⟨b6,a2,n2,c2,rfl,o0,b9⟩;have o7:=zB A6 b9;replace k9:=k9.bw b9)
   | (go_at_call 103;refine (kC _ _ _ _ k hi _ ((zA hsh).bw (Below.refl _ _).drew) (by omega)).mono ?_;rintro r w1 ⟨g9,a1,n1,c1,rfl,k9,b7⟩;have A6:Below w0.heap.size w0 w1:=zB (Below.refl _ _).drew b7))
 all_goals
  go_wp2_with fail;refine bodyPost_ret (v:=.agg u.q) (by simp[results,Tryz.results91,go_sem,l5,q0,q1,q2,q3,q4]) rfl ⟨u,rfl,zA tX,?_,?_⟩
  ·exact SpAt.put5 E9 q0 q1 q2 q3 q4 _ _ _ _ _
  ·exact kB (zB b8 M6) (by omega) _ _ _ _ _
def zEZ (lo hi lo' hi':Int) (b:Nat):Int:=if hi'<0 then ovLo (-hi*Q b) (-lo*Q b) (-hi') (-lo') else ovLo (lo*Q b) (hi*Q b) lo' hi'
def zFL (lo hi lo' hi':Int) (b:Nat):Int:=if hi'<0 then zL9 (-hi*Q b) (-lo*Q b) (-hi') (-lo') else zL9 (lo*Q b) (hi*Q b) lo' hi'
theorem zK8 (w:World) (s t:Sp) (k b:Nat) (lo hi lo' hi':Int) (hs:SpAt w s k lo hi) (ht:SpAt w t k lo' hi') (hk:k<=50000000) (hb:b<=1000000) (hbits:s.bits=b) (hp:¬ (lo'<=0/\0<=hi')) (Y7:lo'<=hi') :
  Calls Tryz.prog 91 #[.agg s.q,.agg t.q] w (zJ w b (k+b/16+20) (zEZ lo hi lo' hi' b) (zFL lo hi lo' hi' b)):=by
 unfold zEZ zFL
 by_cases h:hi'<0
 ·rw[if_pos h,if_pos h];exact zJW w s t k b lo hi lo' hi' hs ht hk hb hbits h Y7
 ·rw[if_neg h,if_neg h];exact zFV w s t k b lo hi lo' hi' hs ht hk hb hbits (by omega) Y7
open Ex
namespace Ex
theorem lin_le {L y c d a t:Rat} (h1:L*c<=a) (h2:L*d<=a) (g1:c-t<=y) (g2:y<=d+t) (k:Rat) (k1:L<=k) (k2 : -L<=k) (ht:0<=t):L*y<=a+k*t:=by
 by_cases hL:0<=L
 ·have:=XQ hL (show 0<=d+t-y by grind)
  have:=XQ (show 0<=k-L by grind) ht
  grind
 ·have:=XQ (show 0 <= -L by grind) (show 0<=y-(c-t) by grind)
  have:=XQ (show 0<=k+L by grind) ht
  grind
theorem Has.div {a b c d L U:Rat} {x y:Nat->Rat} (h:Has a b x) (k:Has c d y) (hc:0<c) (h1:L*c<=a) (h2:L*d<=a) (h3:b<=U*c) (h4:b<=U*d):Has L U (λ M=>x M/y M):=λ e he=>by
 obtain⟨m,m0,m1,m2,m3,m4⟩:∃ m:Rat,0<m/\L<=m /\ -L<=m/\U<=m /\ -U<=m:=by
  refine⟨1+(if 0<=L then L else -L)+(if 0<=U then U else -U),?_,?_,?_,?_,?_⟩<;>split<;>split<;>grind
 have m5:(0:Rat)<2*(1+m):=by grind
 have hec:0<e*c:=Rat.mul_pos he hc
 obtain⟨t,t0,t1,t2⟩:∃ t:Rat,0<t/\2*t<=c/\t*(2*(1+m))<=e*c:=by
  have f:=rdm (a:=e*c) m5;have f0:=zH hec m5
  by_cases hh:e*c/(2*(1+m))<=c/2
  ·exact⟨e*c/(2*(1+m)),f0,by grind,by grind⟩
  ·refine⟨c/2,by grind,by grind,?_⟩
   have:=XQ (show 0<=e*c/(2*(1+m))-c/2 by grind) (show 0<=2*(1+m) by grind)
   grind
 obtain⟨N1,g1⟩:=h t t0;obtain⟨N2,g2⟩:=k t t0;refine⟨N1+N2,λ M hM=>?_⟩
 obtain⟨p1,p2⟩:=g1 M (by omega)
 obtain⟨q1,q2⟩:=g2 M (by omega)
 have y0:0<y M:=by grind
 have ey:e*c<=2*(e*y M):=by
  have:=XQ (XV he) (show 0<=2*y M-c by grind)
  grind
 constructor
 ·refine yF y0 ?_
  have:=lin_le h1 h2 q1 q2 m m1 m2 (XV t0);grind
 ·refine jZ y0 ?_
  have:=lin_le (L := -U) (a := -b) (by grind) (by grind) q1 q2 m (by grind) (by grind) (XV t0)
  grind
end Ex
theorem Iv.div {B:Nat} {s t:Int × Int} {x y:Nat->Rat} (h:Iv B s x) (k:Iv B t y) (h0:0<t.1) {lo hi:Int} (h1:lo*t.1<=s.1*Q B) (h2:lo*t.2<=s.1*Q B) (h3:s.2*Q B<=hi*t.1) (h4:s.2*Q B<=hi*t.2):Iv B (lo,hi) (λ M=>x M/y M):=by
 have q:=zY B;have t0:(0:Rat)<(t.1:Rat):=by exact_mod_cast h0
 have key:∀ {u v z:Int},u*v<=z*Q B->(u:Rat)/(Q B:Rat)*((v:Rat)/(Q B:Rat))<=(z:Rat)/(Q B:Rat):=λ {u v z} hh=>zIC (by have:=zG B;omega) hh
 have En:∀ {u v z:Int},z*Q B<=u*v->(z:Rat)/(Q B:Rat)<=(u:Rat)/(Q B:Rat)*((v:Rat)/(Q B:Rat)):=λ {u v z} hh=>zIY (by have:=zG B;omega) hh
 exact Has.div h k (zH t0 q) (key h1) (key h2) (En h3) (En h4)
theorem zRB {lo hi lo' hi':Int} {b:Nat} (h0:0<=lo) (h1:lo<=hi) (h2:0<lo') (h3:lo'<=hi'):zEZ lo hi lo' hi' b=lo*Q b/hi'/\zFL lo hi lo' hi' b = -(-(hi*Q b)/lo'):=by
 have q:=zG b;have p1:=Yb h0 (show 0<=Q b by omega)
 have p2:=Yb (show 0<=hi by omega) (show 0<=Q b by omega)
 unfold zEZ zFL ovLo zL9;rw[if_neg (by omega),if_neg (by omega),if_neg (by omega),if_neg (by omega)]
 exact⟨rfl,rfl⟩
theorem zCP (a:Int) {d:Int} (hd:0<d):a <= -(-a/d)*d:=by
 have:=Int.ediv_mul_le (-a) (show d≠0 by omega)
 rw[Int.neg_mul];omega
theorem zLK (a:Int) {d:Int} (hd:0<d):a/d*d<=a:=Int.ediv_mul_le a (by omega)
theorem Iv.dv {B:Nat} {s t:Int × Int} {x y:Nat->Rat} (h:Iv B s x) (k:Iv B t y) (hs:0<=s.1) (h0:0<t.1):Iv B (zEZ s.1 s.2 t.1 t.2 B,zFL s.1 s.2 t.1 t.2 B) (λ M=>x M/y M):=by
 have aT:=h.le;have vy:=k.le;have q:=zG B;obtain⟨e1,e2⟩:=zRB (b:=B) hs aT h0 vy;rw[e1,e2];have p1:=Yb hs (show 0<=Q B by omega)
 have l0:0<=s.1*Q B/t.2:=Int.ediv_nonneg p1 (by omega)
 have f1:=zLK (s.1*Q B) (show 0<t.2 by omega)
 have f2:=zCP (s.2*Q B) h0;have p2:=Yb (show 0<=s.2 by omega) (show 0<=Q B by omega)
 have u0:0 <= -(-(s.2*Q B)/t.1):=by
  have : -(s.2*Q B)/t.1<=0:=Int.ediv_nonpos_of_nonpos_of_neg (by omega) h0
  omega
 have g1:=XR vy l0;have g2:=XR vy u0;exact h.div k h0 (by omega) f1 f2 (by omega)
open Ex
theorem zKY {B:Nat} {a b:Int × Int} (ha:0<=a.1) (VG:0<=a.2) (hb:0<=b.1) (b9:0<=b.2):0<=(kJ B a b).1:=by
 have q:=zG B;obtain⟨_,_,_,_,h⟩:=zC8 (a.1*b.1) (a.1*b.2) (a.2*b.1) (a.2*b.2);have p1:=Yb ha hb;have p2:=Yb ha b9;have p3:=Yb VG hb;have p4:=Yb VG b9;exact Int.ediv_nonneg (by omega) (by omega)
theorem zKD {B:Nat} {sm:Int × Int} (h:0<=sm.1) (h2:sm.1<=sm.2) (n:Nat):0<=(zV B sm n).1:=by
 induction n with
 | zero=>have:=zG B;show 0<=Q B;omega
 | succ n ih =>
  have hl:=kY B sm n;have h3:=zKY (B:=B) (a:=zV B sm n) (b:=sm) ih (by omega) h (by omega)
  show 0<=(zE (kJ B (zV B sm n) sm) 1 ((n:Int)+1)).1
  unfold zE;exact Int.ediv_nonneg (by omega) (by omega)
theorem sumI_low {B:Nat} {sm:Int × Int} (h:0<=sm.1) (h2:sm.1<=sm.2) (n:Nat):Q B<=(jE (zV B sm) n).1:=by
 induction n with
 | zero=>exact Int.le_refl _
 | succ n ih =>
  have:=zKD (B:=B) h h2 (n+1)
  show Q B<=(jJ (jE (zV B sm) n) (zV B sm (n+1))).1
  unfold jJ;simp only[];omega
theorem done_low {B N:Nat} {sm:Int × Int} (h:0<=sm.1) (h2:sm.1<=sm.2) (hN:kG (zV B sm) N):Q B-1<=(zT (zV B sm) N).1:=by
 have h3:=sumI_low (B:=B) h h2 N;have h4:=hN.1;unfold zT jJ;simp only[];omega
theorem zPP {B:Nat} {d:Int × Int} (hd:d.1<=d.2) (t:Nat) (hq:Q t<=Q B) (h:Q B-1<=d.1):Q B-Q t<=(sqI B d t).1/\(sqI B d t).1<=(sqI B d t).2:=by
 have q:=zG B
 induction t with
 | zero=>exact⟨h,hd⟩
 | succ t ih =>
  have e:Q (t+1)=2*Q t:=rfl;have qt:=zG t;obtain⟨i1,i2⟩:=ih (by omega)
  refine⟨?_,yK B⟩
  show Q B-Q (t+1)<=(kJ B (sqI B d t) (sqI B d t)).1
  generalize sqI B d t=a at *;obtain⟨_,_,_,_,hh⟩:=zC8 (a.1*a.1) (a.1*a.2) (a.2*a.1) (a.2*a.2);have c0:0<=a.1:=by omega
  have m1:=XR i2 c0;have m2:=XK i2 c0;have m3:=Int.mul_le_mul i2 i2 c0 (by omega)
  have m4:=Int.mul_le_mul i1 i1 (by omega) c0
  have e2:(Q B-Q t)*(Q B-Q t)=(Q B-2*Q t)*Q B+Q t*Q t:=by grind
  have m5:=Yb (show 0<=Q t by omega) (show 0<=Q t by omega)
  have m6:(Q B-Q (t+1))*Q B<=jB (pr4 (a.1*a.1) (a.1*a.2) (a.2*a.1) (a.2*a.2)) 3:=by rw[e];omega
  exact Int.le_ediv_of_mul_le (by omega) m6
theorem zMZ (B:Nat):Iv B (Q B,Q B) (λ _=>1):=by
 have h:=(Iv.of B (n:=1) (d:=1) (by decide))
 have e:ofI 1 1 B=(Q B,Q B):=by unfold ofI;simp only[Int.ediv_one,Int.neg_neg,Int.one_mul]
 rw[e] at h;have e2:((1:Int):Rat)/((1:Int):Rat)=1:=by decide +kernel
 rw[e2] at h;exact h
theorem Iv.bottom {B:Nat} {a:Int × Int} {x:Nat->Rat} (h:Iv B a x) (N0:Nat) (hx:∀ M,N0<=M->0<=x M):Iv B (if a.1<0 then 0 else a.1,a.2) x:=by
 split
 ·intro e he
  obtain⟨N,hN⟩:=h e he;refine⟨N+N0,λ M hM=>?_⟩
  have g:=(hN M (by omega)).2
  have g2:=hx M (by omega)
  have e1:((0:Int):Rat)/(Q B:Rat)=0:=by rw[show ((0:Int):Rat)=0 from rfl,Yg,Rat.zero_mul]
  simp only[];rw[e1];constructor<;>grind
 ·exact h
namespace Ex
end Ex
theorem zG0 {p q:Int} (hp:0<=p) (hq:0<q):(0:Rat)<=(p:Rat)/(q:Rat):=by
 have q0:(0:Rat)<(q:Rat):=by exact_mod_cast hq
 have p0:(0:Rat)<=(p:Rat):=by exact_mod_cast hp
 refine yF q0 ?_;grind
open Ex
def riT (a:Int × Int) (u d:Nat->Int):Nat->Int × Int
 | 0=>a
 | n+1=>zE (riT a u d n) (u (n+1)) (d (n+1))
def zCC (f:Nat->Int × Int) (turn N:Nat):Prop:=turn<=N/\(f N).2<=3/\∀ j,j<N->j<turn\/3<(f j).2
def zBD (f:Nat->Int × Int) (N:Nat):Int × Int:=jJ (jE f N) (0,9)
structure RiOk (u d:Nat->Int):Prop where
 u0:∀ n,0<=u n
 d0:∀ n,0<d n
theorem zLQ {a:Int × Int} {u d:Nat->Int} (h:RiOk u d) (ha:a.1<=a.2) (n:Nat):(riT a u d n).1<=(riT a u d n).2:=by
 induction n with
 | zero=>exact ha
 | succ n ih=>exact kR ih (h.d0 _) (h.u0 _)
theorem zC5 {a:Int × Int} {u d:Nat->Int} (h:RiOk u d) (ha:0<=a.1) (n:Nat):0<=(riT a u d n).1:=by
 induction n with
 | zero=>exact ha
 | succ n ih=>exact Int.ediv_nonneg (Yb ih (h.u0 _)) (by have:=h.d0 (n+1);omega)
theorem kV (a:Int) {d:Int} (hd:0<d):a<(a/d+1)*d:=Int.lt_ediv_add_one_mul_self _ hd
theorem zQZ {x u d:Int} (hd:0<d) (hx:0<=x) (h:4*u<=3*d):4 * -(-(x*u)/d)<=3*x+3:=by
 have h1:=XR h hx;have h2:=kV (-(x*u)) hd;refine Int.not_lt.1 λ hn=>?_
 obtain⟨c,hc⟩:∃ c,c = -(-(x*u)/d):=⟨_,rfl⟩
 have h3:(c-1)*d<x*u:=by
  have e:(-(x*u)/d+1)*d = -((c-1)*d):=by rw[hc];grind
  omega
 rw[<- hc] at hn;have h4:=XK (show 3*x+4<=4*c by omega) (show 0<=d by omega)
 have e1:(3*x+4)*d=3*x*d+4*d:=by grind
 have e2:4*c*d=4*((c-1)*d)+4*d:=by grind
 have e3:x*(4*u)=4*(x*u):=by grind
 have e4:x*(3*d)=3*x*d:=by grind
 omega
theorem zNQ {g:Nat->Int} (h:∀ j,4*g (j+1)<=3*g j+3):∀ (H j:Nat),g j-3<Q H->∃ i,i<=j+3*H/\j<=i/\g i<=3:=by
 intro H
 induction H with
 | zero =>
  intro j hj
  have e:Q 0=1:=rfl;exact⟨j,by omega,XW _,by omega⟩
 | succ H ih =>
  intro j hj
  have e:Q (H+1)=2*Q H:=rfl;have q:=zG H;have h1:=h j;have h2:=h (j+1);have h3:=h (j+2);obtain⟨i,i1,i2,i3⟩:=ih (j+3) (by rw[show j+3=j+2+1 by omega];rw[show j+2=j+1+1 by omega] at *;omega)
  exact⟨i,by omega,by omega,i3⟩
theorem zRD {a:Int × Int} {u d:Nat->Int} {turn H:Nat} (h:RiOk u d) (ha:0<=a.1) (hl:a.1<=a.2) (jy:∀ n,turn<=n->4*u (n+1)<=3*d (n+1)) (hH:(riT a u d turn).2-3<Q H):∃ N,N<=turn+3*H/\zCC (riT a u d) turn N:=by
 have hg:∀ j,4*(riT a u d (turn+(j+1))).2<=3*(riT a u d (turn+j)).2+3:=λ j=>by
  have h0:=zC5 h ha (turn+j);have h1:=zLQ h hl (turn+j);exact zQZ (x:=(riT a u d (turn+j)).2) (h.d0 (turn+j+1)) (by omega) (jy (turn+j) (by omega))
 obtain⟨i,i1,i2,i3⟩:=zNQ hg H 0 hH;obtain⟨N,n1,n2,n3⟩:=zAW (p:=λ N=>turn<=N/\(riT a u d N).2<=3) (K:=turn+i) ⟨by omega,i3⟩
 refine⟨N,by omega,n2.1,n2.2,λ j hj=>?_⟩
 have:=n3 j hj
 by_cases ht:j<turn
 ·exact Or.inl ht
 ·exact Or.inr (Int.not_le.1 λ hh=>this ⟨by omega,hh⟩)
def riV (x:Nat->Rat) (u d:Nat->Int):Nat->Nat->Rat
 | 0,M=>x M
 | n+1,M=>(u (n+1):Rat)/(d (n+1):Rat)*riV x u d n M
theorem riT_has {B:Nat} {a:Int × Int} {x:Nat->Rat} {u d:Nat->Int} (h:RiOk u d) (hx:Iv B a x) (n:Nat):Iv B (riT a u d n) (λ M=>riV x u d n M):=by
 induction n with
 | zero=>exact hx
 | succ n ih=>exact ih.scale (h.u0 _) (h.d0 _)
theorem zGO {x:Nat->Rat} {u d:Nat->Int} (h:RiOk u d) {M:Nat} (hx:0<=x M) (n:Nat):0<=riV x u d n M:=by
 induction n with
 | zero=>exact hx
 | succ n ih =>
  have h1:=zG0 (h.u0 (n+1)) (h.d0 (n+1));exact XQ h1 ih
theorem riV_fall {x:Nat->Rat} {u d:Nat->Int} (h:RiOk u d) {M:Nat} (hx:0<=x M) {n:Nat} (jy:4*u (n+1)<=3*d (n+1)):4*riV x u d (n+1) M<=3*riV x u d n M:=by
 have h0:=zGO h hx n;have d0:(0:Rat)<(d (n+1):Rat):=by exact_mod_cast h.d0 (n+1)
 have h1:(u (n+1):Rat)/(d (n+1):Rat)<=3/4:=by
  refine jZ d0 ?_;have:=zX jy;rw[Ye,Ye,show ((4:Int):Rat)=4 from rfl,show ((3:Int):Rat)=3 from rfl] at this
  grind
 have h2:=XQ (show 0<=3/4-(u (n+1):Rat)/(d (n+1):Rat) by grind) h0
 show 4*((u (n+1):Rat)/(d (n+1):Rat)*riV x u d n M)<=_
 grind
theorem rise_has {B N:Nat} {f:Nat->Int × Int} {g:Nat->Nat->Rat} (h:∀ n,Iv B (f n) (λ M=>g n M)) (hN:(f N).2<=3) (M0:Nat) (h0:∀ M,M0<=M->∀ n,0<=g n M) (hh:∀ M,M0<=M->∀ n,N<=n->4*g (n+1) M<=3*g n M):Iv B (zBD f N) (λ M=>S (λ k=>g k M) M):=by
 have hs:∀ n,Iv B (jE f n) (λ M=>S (λ k=>g k M) (n+1)):=λ n=>by
  induction n with
  | zero =>
   refine (h 0).congr (null_zero.of_eq λ M=>?_)
   show S (λ k=>g k M) 1-g 0 M=0
   have e:S (λ k=>g k M) 1=0+g 0 M:=rfl
   rw[e];grind
  | succ n ih=>exact ih.add (h (n+1))
 have ht:∀ M,M0<=M->∀ i,0<=S (λ k=>g k M) (N+1+i)-S (λ k=>g k M) (N+1)/\S (λ k=>g k M) (N+1+i)-S (λ k=>g k M) (N+1)+3*g (N+i) M<=3*g N M:=λ M hM i=>by
  induction i with
  | zero=>constructor<;>(show _<=_;simp only[Nat.add_zero];grind)
  | succ i ih =>
   have e:S (λ k=>g k M) (N+1+(i+1))=S (λ k=>g k M) (N+1+i)+g (N+1+i) M:=rfl
   have h1:=h0 M hM (N+1+i);have h2:=hh M hM (N+i) (by omega)
   rw[show N+i+1=N+1+i by omega] at h2
   rw[e,show N+(i+1)=N+1+i by omega]
   constructor<;>grind
 have q:=zY B
 intro e he
 obtain⟨N1,g1⟩:=hs N (e/4) (by grind)
 obtain⟨N2,g2⟩:=h N (e/4) (by grind)
 refine⟨M0+N1+N2+N+1,λ M hM=>?_⟩
 obtain⟨a1,a2⟩:=g1 M (by omega)
 obtain⟨b1,b2⟩:=g2 M (by omega)
 obtain⟨t1,t2⟩:=ht M (by omega) (M-(N+1))
 have t3:=h0 M (by omega) (N+(M-(N+1)))
 rw[show N+1+(M-(N+1))=M by omega] at t1 t2
 have c2:((f N).2:Rat)/(Q B:Rat)<=((3:Int):Rat)/(Q B:Rat):=jZ q (by rw[rdm q];exact zX hN)
 have e1:(((zBD f N).1:Int):Rat)/(Q B:Rat)=((jE f N).1:Rat)/(Q B:Rat):=by
  unfold zBD jJ;simp only[];rw[Int.add_zero]
 have e2:(((zBD f N).2:Int):Rat)/(Q B:Rat)=((jE f N).2:Rat)/(Q B:Rat)+3*(((3:Int):Rat)/(Q B:Rat)):=by
  unfold zBD jJ;simp only[];rw[Rat.intCast_add,yO]
  congr 1
  have e9:((9:Int):Rat)=3*((3:Int):Rat):=by decide +kernel
  rw[e9,Yg,Yg,Rat.mul_assoc]
 simp only[] at a1 a2 b1 b2;rw[e1,e2];constructor<;>grind
def riS (x:Nat->Rat) (u d:Nat->Int) (M:Nat):Rat:=S (λ k=>riV x u d k M) M
theorem zG7 {B N turn:Nat} {a:Int × Int} {x:Nat->Rat} {u d:Nat->Int} (h:RiOk u d) (hx:Iv B a x) (M0:Nat) (oV:∀ M,M0<=M->0<=x M) (jy:∀ n,turn<=n->4*u (n+1)<=3*d (n+1)) (hN:zCC (riT a u d) turn N):Iv B (zBD (riT a u d) N) (riS x u d) :=
 rise_has (λ n=>riT_has h hx n) hN.2.1 M0 (λ M hM n=>zGO h (oV M hM) n) (λ M hM n hn=>riV_fall h (oV M hM) (jy n (Nat.le_trans hN.1 hn)))
theorem zMI {a:Int × Int} {u d:Nat->Int} (h:RiOk u d) (ha:0<=a.1) (hl:a.1<=a.2) (h0:0<a.2) {D:Int} (hD:a.2-a.1<=D) (hmono:∀ n,d (n+1)<=u (n+1)->a.2<=(riT a u d n).2) (n:Nat) :
  ((riT a u d n).2-(riT a u d n).1)*a.2<=(D+2*n)*(if a.2<=(riT a u d n).2 then (riT a u d n).2 else a.2):=by
 have D0:0<=D:=by omega
 induction n with
 | zero =>
  show (a.2-a.1)*a.2<=(D+2*((0:Nat):Int))*(if a.2<=a.2 then a.2 else a.2)
  rw[if_pos (Int.le_refl _)];exact XK (by omega) (by omega)
 | succ n ih =>
  have hd:=h.d0 (n+1);have hu:=h.u0 (n+1);have n1:=zC5 h ha n;have n2:=zLQ h hl n;have oW:=hmono n
  show ((zE (riT a u d n) (u (n+1)) (d (n+1))).2-(zE (riT a u d n) (u (n+1)) (d (n+1))).1)*a.2<=(D+2*((n+1:Nat):Int))*(if a.2<=(zE (riT a u d n) (u (n+1)) (d (n+1))).2 then (zE (riT a u d n) (u (n+1)) (d (n+1))).2 else a.2)
  generalize riT a u d n=t at *;generalize u (n+1)=U at *;generalize d (n+1)=V at *;obtain⟨hi,ehi⟩:∃ hi,hi=(zE t U V).2:=⟨_,rfl⟩;obtain⟨lo,elo⟩:∃ lo,lo=(zE t U V).1:=⟨_,rfl⟩;rw[<- ehi,<- elo];have c1:t.2*U<=hi*V:=by rw[ehi];exact zCP (t.2*U) hd
  have c2:(hi-1)*V<t.2*U:=by
   have h2:=kV (-(t.2*U)) hd;have e:(-(t.2*U)/V+1)*V = -((hi-1)*V):=by rw[ehi];unfold zE;grind
   omega
  have c3:t.1*U<(lo+1)*V:=by rw[elo];exact kV (t.1*U) hd
  have tw:(hi-lo-2)*V<=(t.2-t.1)*U:=by
   have e1:(hi-lo-2)*V=(hi-1)*V-(lo+1)*V:=by grind
   have e2:(t.2-t.1)*U=t.2*U-t.1*U:=by grind
   omega
  have m1:=XK tw (show 0<=a.2 by omega)
  have m2:=XK ih hu;have C0:0<=D+2*(n:Int):=by omega
  refine Int.le_of_mul_le_mul_right (a:=V) ?_ hd;have e3:(hi-lo)*a.2*V=(hi-lo-2)*V*a.2+2*a.2*V:=by grind
  have e4:(t.2-t.1)*U*a.2=(t.2-t.1)*a.2*U:=by grind
  have cN:(D+2*((n+1:Nat):Int))=(D+2*(n:Int))+2:=by omega
  rw[cN]
  by_cases ht:a.2<=t.2
  ·rw[if_pos ht] at m2
   have m3:=XR c1 C0;have e5:(D+2*(n:Int))*t.2*U=(D+2*(n:Int))*(t.2*U):=by grind
   by_cases hh:a.2<=hi
   ·rw[if_pos hh]
    have m4:=XK hh (show 0<=V by omega)
    have e6:(D+2*(n:Int)+2)*hi*V=(D+2*(n:Int))*(hi*V)+2*(hi*V):=by grind
    have e7:2*a.2*V=2*(a.2*V):=by grind
    omega
   ·rw[if_neg hh]
    have m4:=XK (show hi<=a.2 by omega) (show 0<=V by omega)
    have m5:=XR m4 C0;have e6:(D+2*(n:Int)+2)*a.2*V=(D+2*(n:Int))*(a.2*V)+2*(a.2*V):=by grind
    have e7:2*a.2*V=2*(a.2*V):=by grind
    omega
  ·rw[if_neg ht] at m2
   have hUV:U<=V:=by
    refine Int.not_lt.1 λ E4=>?_
    exact ht (oW (by omega))
   have m4:=XR hUV (show 0<=(D+2*(n:Int))*a.2 from Yb C0 (by omega))
   have P9:a.2<=(if a.2<=hi then hi else a.2):=by split<;>omega
   have m5:=XR P9 (show 0<=D+2*(n:Int)+2 by omega)
   have m6:=XK m5 (show 0<=V by omega)
   have e6:(D+2*(n:Int)+2)*a.2*V=(D+2*(n:Int))*a.2*V+2*a.2*V:=by grind
   omega
open Go.RowKit
attribute [local go_sem ↓] Go.wp_at_zero Go.wp_at_succ
theorem zES (neg b6:Bool) (a c:Option Addr) (n m cap j6 k k2 b B:Nat) (x y:Int) (w:World) (h1:IntAt w neg a n cap k x) (h2:IntAt w b6 c m j6 k2 y) (hk:k<=300000000) (hb:b<=1000000) (hy:0<y) (hc:w.cell? ⟨B,4,none⟩=some (.int .i64 b)) :
  Calls Tryz.prog 179 #[.agg #[.bool neg,.slice a n cap],.agg #[.bool b6,.slice c m j6],.pointer (some ⟨B,0,none⟩)] w (zDQ w (b/16+k+9) (x*Q b/y)):=by
 have lB:B<w.heap.size:=World.block_lt_of_cell? w ⟨B,4,none⟩ hc;have iC:w.heap.size≠w.heap.size+1+1:=by omega
 have iD:w.heap.size+1+1≠w.heap.size:=by omega
 obtain⟨W,hW⟩:∃ W,W=((w.alloc (.cells #[.bool neg,.slice a n cap] 26)).alloc (.cells #[.bool b6,.slice c m j6] 26)).alloc (.cells #[.bool false,.slice none 0 0] 26):=⟨_,rfl⟩;have b8:Below w.heap.size w W:=by rw[hW];exact bl3 _ _ _ _
 have A:NmC W w.heap.size ⟨neg,a,n,cap⟩:=by rw[hW];constructor<;>simp[go_sem]
 have G:NmC W (w.heap.size+1) ⟨b6,c,m,j6⟩:=by rw[hW];constructor<;>simp[go_sem]
 have R:NoI W (w.heap.size+1+1):=by rw[hW];constructor<;>simp[go_sem]
 have hcW:=(b8.cell (p:=⟨B,4,none⟩) lB).trans hc;have lBW:=Yd lB b8.size;have HX:=zC (h1.bw b8);have HY:=zC (h2.bw b8);have C4:Below W.heap.size W W.drew:=(Below.refl _ _).drew;have lR:=R.lt;have nB:B≠w.heap.size+1+1:=by omega
 have nB':w.heap.size+1+1≠B:=by omega
 have HK:=zC (show ∀ w',Below W.heap.size W w'->(w'.cell? ⟨w.heap.size,0,none⟩=some (.bool neg)/\w'.cell? ⟨w.heap.size,1,none⟩=some (.slice a n cap)/\w'.cell? ⟨w.heap.size+1,0,none⟩=some (.bool b6)/\w'.cell? ⟨w.heap.size+1,1,none⟩=some (.slice c m j6)/\w'.cell? ⟨B,4,none⟩=some (.int .i64 b)) from λ w' hB=>⟨(A.bw hB).c0,(A.bw hB).c1,(G.bw hB).c0,(G.bw hB).c1,(hB.cell (p:=⟨B,4,none⟩) lBW).trans hcW⟩)
 go_enter Tryz.func179,Tryz.ntmps179
 go_wp2;rw[<- hW];clear hW;obtain⟨i0,i1,i2,i3,i4⟩:=zA HK _ (Below.refl _ _)
 go_region_held3 (λ w'=>w'.cell? ⟨w.heap.size,0,none⟩=some (.bool neg)/\w'.cell? ⟨w.heap.size,1,none⟩=some (.slice a n cap)/\w'.cell? ⟨w.heap.size+1,0,none⟩=some (.bool b6)/\w'.cell? ⟨w.heap.size+1,1,none⟩=some (.slice c m j6)/\w'.cell? ⟨B,4,none⟩=some (.int .i64 b)) (first|exact zA HK _ (by with_reducible first|exact C4|exact o7|exact A6)|go_keep)
  (first
   | (go_at_call 95;refine (zBF _ _ _ _ b k x _ ((zA HX).bw C4) (by omega) (by omega)).mono ?_;rintro r w1 ⟨g9,a1,n1,c1,rfl,k9,b7⟩;have A6:=zB C4 b7)
   | (go_at_call 119;refine (yH _ _ _ _ _ _ _ _ (b/16+k+1) k2 (x*Q b) y _ k9 ((zA HY).bw A6) (by omega) hy).mono ?_;rintro r w2 ⟨p9,a3,n3,c3,rfl,A8,b9⟩;have o7:=zB A6 b9;obtain⟨q0,q1,q2⟩:=R.bw o7;obtain⟨d0,d1,d2,d3,d4⟩:=zA HK _ o7))
 clear i0 i1 i2 i3 i4;go_wp2;refine bodyPost_ret (v:=.agg #[.bool p9,.slice a3 n3 c3]) (by simp[results,Tryz.results179,go_sem,q0,q1]) rfl ⟨p9,a3,n3,c3,rfl,(A8.put2 q0 q1 _ _).mono (by omega),?_⟩
 exact zD5 (zB b8 o7) (by omega) _ _
theorem zEY (neg b6:Bool) (a c:Option Addr) (n m cap j6 k k2 b B:Nat) (x y:Int) (w:World) (h1:IntAt w neg a n cap k x) (h2:IntAt w b6 c m j6 k2 y) (hk:k<=300000000) (hb:b<=1000000) (hy:0<y) (hc:w.cell? ⟨B,4,none⟩=some (.int .i64 b)) :
  Calls Tryz.prog 181 #[.agg #[.bool neg,.slice a n cap],.agg #[.bool b6,.slice c m j6],.pointer (some ⟨B,0,none⟩)] w (zDQ w (b/16+k+9) (-(-(x*Q b)/y))):=by
 have lB:B<w.heap.size:=World.block_lt_of_cell? w ⟨B,4,none⟩ hc;have iC:w.heap.size≠w.heap.size+1+1:=by omega
 have iD:w.heap.size+1+1≠w.heap.size:=by omega
 obtain⟨W,hW⟩:∃ W,W=((w.alloc (.cells #[.bool neg,.slice a n cap] 26)).alloc (.cells #[.bool b6,.slice c m j6] 26)).alloc (.cells #[.bool false,.slice none 0 0] 26):=⟨_,rfl⟩;have b8:Below w.heap.size w W:=by rw[hW];exact bl3 _ _ _ _
 have A:NmC W w.heap.size ⟨neg,a,n,cap⟩:=by rw[hW];constructor<;>simp[go_sem]
 have G:NmC W (w.heap.size+1) ⟨b6,c,m,j6⟩:=by rw[hW];constructor<;>simp[go_sem]
 have R:NoI W (w.heap.size+1+1):=by rw[hW];constructor<;>simp[go_sem]
 have hcW:=(b8.cell (p:=⟨B,4,none⟩) lB).trans hc;have lBW:=Yd lB b8.size;have HX:=zC (h1.bw b8);have HY:=zC (h2.bw b8);have C4:Below W.heap.size W W.drew:=(Below.refl _ _).drew;have lR:=R.lt;have nB:B≠w.heap.size+1+1:=by omega
 have nB':w.heap.size+1+1≠B:=by omega
 have HK:=zC (show ∀ w',Below W.heap.size W w'->(w'.cell? ⟨w.heap.size,0,none⟩=some (.bool neg)/\w'.cell? ⟨w.heap.size,1,none⟩=some (.slice a n cap)/\w'.cell? ⟨w.heap.size+1,0,none⟩=some (.bool b6)/\w'.cell? ⟨w.heap.size+1,1,none⟩=some (.slice c m j6)/\w'.cell? ⟨B,4,none⟩=some (.int .i64 b)) from λ w' hB=>⟨(A.bw hB).c0,(A.bw hB).c1,(G.bw hB).c0,(G.bw hB).c1,(hB.cell (p:=⟨B,4,none⟩) lBW).trans hcW⟩)
 go_enter Tryz.func181,Tryz.ntmps181
 go_wp2;rw[<- hW];clear hW;obtain⟨i0,i1,i2,i3,i4⟩:=zA HK _ (Below.refl _ _)
 go_region_held3 (λ w'=>w'.cell? ⟨w.heap.size,0,none⟩=some (.bool neg)/\w'.cell? ⟨w.heap.size,1,none⟩=some (.slice a n cap)/\w'.cell? ⟨w.heap.size+1,0,none⟩=some (.bool b6)/\w'.cell? ⟨w.heap.size+1,1,none⟩=some (.slice c m j6)/\w'.cell? ⟨B,4,none⟩=some (.int .i64 b)) (first|exact zA HK _ (by with_reducible first|exact C4|exact o7|exact A6)|go_keep)
  (first
   | (go_at_call 95;refine (zBF _ _ _ _ b k x _ ((zA HX).bw C4) (by omega) (by omega)).mono ?_;rintro r w1 ⟨g9,a1,n1,c1,rfl,k9,b7⟩;have A6:=zB C4 b7)
   | (go_at_call 176;refine (zHT _ _ _ _ _ _ _ _ (b/16+k+1) k2 (x*Q b) y _ k9 ((zA HY).bw A6) (by omega) hy).mono ?_;rintro r w2 ⟨p9,a3,n3,c3,rfl,A8,b9⟩;have o7:=zB A6 b9;obtain⟨q0,q1,q2⟩:=R.bw o7;obtain⟨d0,d1,d2,d3,d4⟩:=zA HK _ o7))
 clear i0 i1 i2 i3 i4;go_wp2;refine bodyPost_ret (v:=.agg #[.bool p9,.slice a3 n3 c3]) (by simp[results,Tryz.results181,go_sem,q0,q1]) rfl ⟨p9,a3,n3,c3,rfl,(A8.put2 q0 q1 _ _).mono (by omega),?_⟩
 exact zD5 (zB b8 o7) (by omega) _ _
theorem zEO (w:World) (s t:Sp) (k b B:Nat) (lo hi lo' hi':Int) (hs:SpAt w s k lo hi) (ht:SpAt w t k lo' hi') (hk:k<=300000000) (hb:b<=1000000) (hp:0<lo') (Y7:0<hi') (hc:w.cell? ⟨B,4,none⟩=some (.int .i64 b)) :
  Calls Tryz.prog 178 #[.agg s.q,.agg t.q,.func (.func 179) #[] #[.pointer (some ⟨B,0,none⟩)]] w λ r w' =>
   ∃ B' f,r=.returned (.slice (some ⟨B',0,none⟩) 4 4)/\Nums w' B' 4 (b/16+k+9) f (pr4 (lo*Q b/lo') (lo*Q b/hi') (hi*Q b/lo') (hi*Q b/hi'))/\Below w.heap.size w w':=by
 have lB:B<w.heap.size:=World.block_lt_of_cell? w ⟨B,4,none⟩ hc;obtain⟨W,hW⟩:∃ W,W=(w.alloc (.cells s.q 28)).alloc (.cells t.q 28):=⟨_,rfl⟩;have b8:Below w.heap.size w W:=by rw[hW];exact bl2 _ _ _
 have a0:SpC W w.heap.size s:=by rw[hW];constructor<;>simp[go_sem]
 have g0:SpC W (w.heap.size+1) t:=by rw[hW];constructor<;>simp[go_sem]
 have hcW:=(b8.cell (p:=⟨B,4,none⟩) lB).trans hc;have lBW:=Yd lB b8.size;have HS:=zC (hs.bw b8);have HT:=zC (ht.bw b8);have C4:Below W.heap.size W W.drew:=(Below.refl _ _).drew;have my:=zC (show ∀ w',Below W.heap.size W w'->w'.cell? ⟨B,4,none⟩=some (.int .i64 b) from λ w' hB=>(hB.cell (p:=⟨B,4,none⟩) lBW).trans hcW)
 have HK:=zC (show ∀ w',Below W.heap.size W w'->(w'.cell? ⟨w.heap.size,0,none⟩=some (.bool s.ln)/\w'.cell? ⟨w.heap.size,1,none⟩=some (.slice s.la s.lN s.lc)/\w'.cell? ⟨w.heap.size,2,none⟩=some (.bool s.hn)/\w'.cell? ⟨w.heap.size,3,none⟩=some (.slice s.ha s.hN s.hc)/\w'.cell? ⟨w.heap.size+1,0,none⟩=some (.bool t.ln)/\w'.cell? ⟨w.heap.size+1,1,none⟩=some (.slice t.la t.lN t.lc)/\w'.cell? ⟨w.heap.size+1,2,none⟩=some (.bool t.hn)/\w'.cell? ⟨w.heap.size+1,3,none⟩=some (.slice t.ha t.hN t.hc)) from λ w' hB=>by
  obtain⟨x0,x1,x2,x3,x4⟩:=a0.bw hB;obtain⟨y0,y1,y2,y3,y4⟩:=g0.bw hB
  exact⟨x0,x1,x2,x3,y0,y1,y2,y3⟩)
 go_enter Tryz.func178,Tryz.ntmps178
 go_wp2;obtain⟨x0,x1,x2,x3,x4⟩:=a0;obtain⟨y0,y1,y2,y3,y4⟩:=g0;rw[<- hW];clear hW
 go_region_held3 (λ w'=>w'.cell? ⟨w.heap.size,0,none⟩=some (.bool s.ln)/\w'.cell? ⟨w.heap.size,1,none⟩=some (.slice s.la s.lN s.lc)/\w'.cell? ⟨w.heap.size,2,none⟩=some (.bool s.hn)/\w'.cell? ⟨w.heap.size,3,none⟩=some (.slice s.ha s.hN s.hc)/\w'.cell? ⟨w.heap.size+1,0,none⟩=some (.bool t.ln)/\w'.cell? ⟨w.heap.size+1,1,none⟩=some (.slice t.la t.lN t.lc)/\w'.cell? ⟨w.heap.size+1,2,none⟩=some (.bool t.hn)/\w'.cell? ⟨w.heap.size+1,3,none⟩=some (.slice t.ha t.hN t.hc)) (exact zA HK _ (by with_reducible first|exact C4|exact zL L5 _|exact L5|exact E2|exact o7|exact A6))
  (first
   | (go_at_call 179;have hq:=E2;refine (zES _ _ _ _ _ _ _ _ k k b B hi hi' _ ((zA HS).hi.bw E2) ((zA HT).hi.bw E2) hk hb Y7 (zA my _ E2)).mono ?_;rintro r w4 ⟨o9,a4,n4,c4,rfl,D9,m9⟩;replace k9:=k9.bw m9;replace o0:=o0.bw m9;replace A8:=A8.bw m9;have L5:=zB E2 m9)
   | (go_at_call 179;have hq:=o7;refine (zES _ _ _ _ _ _ _ _ k k b B hi lo' _ ((zA HS).hi.bw o7) ((zA HT).lo.bw o7) hk hb hp (zA my _ o7)).mono ?_;rintro r w3 ⟨p9,a3,n3,c3,rfl,A8,k8⟩;replace k9:=k9.bw k8;replace o0:=o0.bw k8;have E2:=zB o7 k8)
   | (go_at_call 179;have hq:=A6;refine (zES _ _ _ _ _ _ _ _ k k b B lo hi' _ ((zA HS).lo.bw A6) ((zA HT).hi.bw A6) hk hb Y7 (zA my _ A6)).mono ?_;rintro r w2 ⟨b6,a2,n2,c2,rfl,o0,b9⟩;replace k9:=k9.bw b9;have o7:=zB A6 b9)
   | (go_at_call 179;have hq:=C4;refine (zES _ _ _ _ _ _ _ _ k k b B lo lo' _ ((zA HS).lo.bw C4) ((zA HT).lo.bw C4) hk hb hp (zA my _ C4)).mono ?_;rintro r w1 ⟨g9,a1,n1,c1,rfl,k9,b7⟩;have A6:=zB C4 b7))
 go_wp2
 go_ret
 exact⟨w4.heap.size,pr4 ⟨g9,a1,n1,c1⟩ ⟨b6,a2,n2,c2⟩ ⟨p9,a3,n3,c3⟩ ⟨o9,a4,n4,c4⟩,rfl,zKF w4 _ rfl ⟨g9,a1,n1,c1⟩ ⟨b6,a2,n2,c2⟩ ⟨p9,a3,n3,c3⟩ ⟨o9,a4,n4,c4⟩ _ _ _ _ _ _ k9 o0 A8 D9,zB b8 (zL L5 _)⟩
theorem zEJ (w:World) (s t:Sp) (k b B:Nat) (lo hi lo' hi':Int) (hs:SpAt w s k lo hi) (ht:SpAt w t k lo' hi') (hk:k<=300000000) (hb:b<=1000000) (hp:0<lo') (Y7:0<hi') (hc:w.cell? ⟨B,4,none⟩=some (.int .i64 b)) :
  Calls Tryz.prog 178 #[.agg s.q,.agg t.q,.func (.func 181) #[] #[.pointer (some ⟨B,0,none⟩)]] w λ r w' =>
   ∃ B' f,r=.returned (.slice (some ⟨B',0,none⟩) 4 4)/\Nums w' B' 4 (b/16+k+9) f (pr4 (-(-(lo*Q b)/lo')) (-(-(lo*Q b)/hi')) (-(-(hi*Q b)/lo')) (-(-(hi*Q b)/hi')))/\Below w.heap.size w w':=by
 have lB:B<w.heap.size:=World.block_lt_of_cell? w ⟨B,4,none⟩ hc;obtain⟨W,hW⟩:∃ W,W=(w.alloc (.cells s.q 28)).alloc (.cells t.q 28):=⟨_,rfl⟩;have b8:Below w.heap.size w W:=by rw[hW];exact bl2 _ _ _
 have a0:SpC W w.heap.size s:=by rw[hW];constructor<;>simp[go_sem]
 have g0:SpC W (w.heap.size+1) t:=by rw[hW];constructor<;>simp[go_sem]
 have hcW:=(b8.cell (p:=⟨B,4,none⟩) lB).trans hc;have lBW:=Yd lB b8.size;have HS:=zC (hs.bw b8);have HT:=zC (ht.bw b8);have C4:Below W.heap.size W W.drew:=(Below.refl _ _).drew;have my:=zC (show ∀ w',Below W.heap.size W w'->w'.cell? ⟨B,4,none⟩=some (.int .i64 b) from λ w' hB=>(hB.cell (p:=⟨B,4,none⟩) lBW).trans hcW)
 have HK:=zC (show ∀ w',Below W.heap.size W w'->(w'.cell? ⟨w.heap.size,0,none⟩=some (.bool s.ln)/\w'.cell? ⟨w.heap.size,1,none⟩=some (.slice s.la s.lN s.lc)/\w'.cell? ⟨w.heap.size,2,none⟩=some (.bool s.hn)/\w'.cell? ⟨w.heap.size,3,none⟩=some (.slice s.ha s.hN s.hc)/\w'.cell? ⟨w.heap.size+1,0,none⟩=some (.bool t.ln)/\w'.cell? ⟨w.heap.size+1,1,none⟩=some (.slice t.la t.lN t.lc)/\w'.cell? ⟨w.heap.size+1,2,none⟩=some (.bool t.hn)/\w'.cell? ⟨w.heap.size+1,3,none⟩=some (.slice t.ha t.hN t.hc)) from λ w' hB=>by
  obtain⟨x0,x1,x2,x3,x4⟩:=a0.bw hB;obtain⟨y0,y1,y2,y3,y4⟩:=g0.bw hB
  exact⟨x0,x1,x2,x3,y0,y1,y2,y3⟩)
 go_enter Tryz.func178,Tryz.ntmps178
 go_wp2;obtain⟨x0,x1,x2,x3,x4⟩:=a0;obtain⟨y0,y1,y2,y3,y4⟩:=g0;rw[<- hW];clear hW
 go_region_held3 (λ w'=>w'.cell? ⟨w.heap.size,0,none⟩=some (.bool s.ln)/\w'.cell? ⟨w.heap.size,1,none⟩=some (.slice s.la s.lN s.lc)/\w'.cell? ⟨w.heap.size,2,none⟩=some (.bool s.hn)/\w'.cell? ⟨w.heap.size,3,none⟩=some (.slice s.ha s.hN s.hc)/\w'.cell? ⟨w.heap.size+1,0,none⟩=some (.bool t.ln)/\w'.cell? ⟨w.heap.size+1,1,none⟩=some (.slice t.la t.lN t.lc)/\w'.cell? ⟨w.heap.size+1,2,none⟩=some (.bool t.hn)/\w'.cell? ⟨w.heap.size+1,3,none⟩=some (.slice t.ha t.hN t.hc)) (exact zA HK _ (by with_reducible first|exact C4|exact zL L5 _|exact L5|exact E2|exact o7|exact A6))
  (first
   | (go_at_call 181;have hq:=E2;refine (zEY _ _ _ _ _ _ _ _ k k b B hi hi' _ ((zA HS).hi.bw E2) ((zA HT).hi.bw E2) hk hb Y7 (zA my _ E2)).mono ?_;rintro r w4 ⟨o9,a4,n4,c4,rfl,D9,m9⟩;replace k9:=k9.bw m9;replace o0:=o0.bw m9;replace A8:=A8.bw m9;have L5:=zB E2 m9)
   | (go_at_call 181;have hq:=o7;refine (zEY _ _ _ _ _ _ _ _ k k b B hi lo' _ ((zA HS).hi.bw o7) ((zA HT).lo.bw o7) hk hb hp (zA my _ o7)).mono ?_;rintro r w3 ⟨p9,a3,n3,c3,rfl,A8,k8⟩;replace k9:=k9.bw k8;replace o0:=o0.bw k8;have E2:=zB o7 k8)
   | (go_at_call 181;have hq:=A6;refine (zEY _ _ _ _ _ _ _ _ k k b B lo hi' _ ((zA HS).lo.bw A6) ((zA HT).hi.bw A6) hk hb Y7 (zA my _ A6)).mono ?_;rintro r w2 ⟨b6,a2,n2,c2,rfl,o0,b9⟩;replace k9:=k9.bw b9;have o7:=zB A6 b9)
   | (go_at_call 181;have hq:=C4;refine (zEY _ _ _ _ _ _ _ _ k k b B lo lo' _ ((zA HS).lo.bw C4) ((zA HT).lo.bw C4) hk hb hp (zA my _ C4)).mono ?_;rintro r w1 ⟨g9,a1,n1,c1,rfl,k9,b7⟩;have A6:=zB C4 b7))
 go_wp2
 go_ret
 exact⟨w4.heap.size,pr4 ⟨g9,a1,n1,c1⟩ ⟨b6,a2,n2,c2⟩ ⟨p9,a3,n3,c3⟩ ⟨o9,a4,n4,c4⟩,rfl,zKF w4 _ rfl ⟨g9,a1,n1,c1⟩ ⟨b6,a2,n2,c2⟩ ⟨p9,a3,n3,c3⟩ ⟨o9,a4,n4,c4⟩ _ _ _ _ _ _ k9 o0 A8 D9,zB b8 (zL L5 _)⟩
end Go.Proofs.YtgmnknmjainababGreat
