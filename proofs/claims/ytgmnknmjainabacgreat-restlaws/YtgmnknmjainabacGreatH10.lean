/-
  Its own texts.
-/
import Derived.Test.YtgmnknmjainabacGreatH09
set_option maxRecDepth 100000
set_option maxHeartbeats 40000000
set_option linter.unnecessarySimpa false
set_option linter.unusedSimpArgs false
set_option linter.unusedVariables false
namespace Go.Proofs.YtgmnknmjainabacGreat
open Go.RowKit
attribute [local go_sem ↓] Go.wp_at_zero Go.wp_at_succ
theorem zDA {w:World} {B:Nat} {z:Nm} (h:NmC w B z) (x:Nm):NmC ((w.setCell ⟨B,0,none⟩ (.bool x.neg)).setCell ⟨B,1,none⟩ (.slice x.a x.n x.cap)) B x:=by
 obtain⟨q0,q1⟩:=h;constructor<;>simp[go_sem,q0,q1]
theorem zAE {w:World} {B B':Nat} (h:∀ o,w.frozen? ⟨B,o,none⟩=false) (u0 u1:Value):∀ o,((w.setCell ⟨B',0,none⟩ u0).setCell ⟨B',1,none⟩ u1).frozen? ⟨B,o,none⟩=false:=λ o=>by rw[zT,zT];exact h o
theorem NmC.off {w:World} {B B':Nat} {x:Nm} (h:NmC w B x) (hne:B≠B') (u0 u1:Value):NmC ((w.setCell ⟨B',0,none⟩ u0).setCell ⟨B',1,none⟩ u1) B x:=by
 obtain⟨q0,q1⟩:=h;constructor<;>simp[go_sem,q0,q1,hne,Ne.symm hne]
theorem NoI.off {w:World} {B B':Nat} (h:NoI w B) (hne:B≠B') (u0 u1:Value):NoI ((w.setCell ⟨B',0,none⟩ u0).setCell ⟨B',1,none⟩ u1) B:=by
 obtain⟨q0,q1,q2⟩:=h;exact⟨by simp[go_sem,q0,hne,Ne.symm hne],by simp[go_sem,q1,hne,Ne.symm hne],zAE q2 _ _⟩
structure RaiSt (w wr:World) (B:Nat) (a:Int) (k j e:Nat) (X Y:Nm):Prop where
 je:j*e<=k
 e1:1<=e
 e2:e<=2*k+1
 x:NmC wr B X
 y:NmC wr (B+1) Y
 fx:∀ o,wr.frozen? ⟨B,o,none⟩=false
 fy:∀ o,wr.frozen? ⟨B+1,o,none⟩=false
 ix:IntAt wr X.neg X.a X.n X.cap (4*(k-j*e)+4) (a ^ (k-j*e))
 iy:IntAt wr Y.neg Y.a Y.n Y.cap (4*e) (a ^ e)
 no:NoI wr w.heap.size
 be:Below w.heap.size w wr
 lo:w.heap.size<B
theorem RaiSt.bw {w wr wr':World} {B:Nat} {a:Int} {k j e:Nat} {X Y:Nm} (h:RaiSt w wr B a k j e X Y) (hb:Below wr.heap.size wr wr'):RaiSt w wr' B a k j e X Y :=
 ⟨h.je,h.e1,h.e2,h.x.bw hb,h.y.bw hb,λ o=>(hb.frozen (p:=⟨B,o,none⟩) h.x.lt).trans (h.fx o),λ o=>(hb.frozen (p:=⟨B+1,o,none⟩) h.y.lt).trans (h.fy o),h.ix.bw hb,h.iy.bw hb,h.no.bw hb,zB h.be hb,h.lo⟩
theorem zNZ (a:Int) (e:Nat):a ^ e*a ^ e=a ^ (2*e):=by rw[<- Int.pow_add];congr 1;omega
theorem zBF (a:Int) (k:Nat) (w:World) (XA : -9223372036854775808<=a) (ax:a<=9223372036854775807) (hk:k<=10000000) :
  Calls Tryz.prog 102 #[.int .i64 a,.int .i64 k] w (zDP w (4*k+4) (a ^ k)):=by
 go_enter Tryz.func102,Tryz.ntmps102
 go_wp2_with fail;refine (zD 1 _ (by decide) (by decide)).mono ?_
 rintro r w1 ⟨m9,a1,n1,c1,rfl,o8,b9⟩;have R1:=(kA w 29).bw b9;have b1:Below w.heap.size w w1:=zB (bl1 _ _) b9;clear b9;go_wp2_with fail;refine (zD a _ XA ax).mono ?_;rintro r w2 ⟨j6,a2,n2,c2,rfl,A5,j7⟩;have R2:=R1.bw j7;have b2:=zB b1 j7;replace o8:=o8.bw j7;clear j7 R1 b1;have lR:=R2.lt;go_wp2_with fail
 go_loopw [1] (λ kk wr=>∃ (j e:Nat) (X Y:Nm),kk=.int .i64 j/\RaiSt w wr w2.heap.size a k j e X Y) (λ kk _=>(intOf kk).toNat)
 case atStart =>
  refine⟨k,1,⟨m9,a1,n1,c1⟩,⟨j6,a2,n2,c2⟩,rfl,by omega,Zb _,by omega,⟨by simp[go_sem],by simp[go_sem]⟩,⟨by simp[go_sem],by simp[go_sem]⟩,λ o=>by simp[go_sem],λ o=>by simp[go_sem],?_,?_,?_,?_,lR⟩
  ·have e0:k-k*1=0:=by omega
   rw[e0,Int.pow_zero];exact o8.bw (bl2 _ _ _)
  ·rw[Int.pow_one];exact A5.bw (bl2 _ _ _)
  ·exact R2.bw (bl2 _ _ _)
  ·exact zB b2 (bl2 _ _ _)
 case round =>
  obtain⟨j,e,X,Y,rfl,st⟩:=hrel
  by_cases hj:0<j
  ·have pT:(0:Int)<(j:Int):=by omega
   have hje:e<=k:=Nat.le_trans (Nat.le_mul_of_pos_left e hj) st.je;have oD:j<=k:=Nat.le_trans (Nat.le_mul_of_pos_right j st.e1) st.je;have q1:((j:Int)).tdiv 2=((j/2:Nat):Int):=by rw[Int.tdiv_eq_ediv_of_nonneg (by omega)];omega
   have HQ:=zC q1;obtain⟨x0,x1⟩:=st.x;obtain⟨y0,y1⟩:=st.y;have l1:=st.x.lt;have l2:=st.y.lt;have hR:=st.no.lt
   by_cases hm:j % 2=1
   ·have q2:((j:Int)).tmod 2=1:=by rw[Int.tmod_eq_emod_of_nonneg (by omega)];omega
    obtain⟨m,O2⟩:∃ m,j=2*m+1:=⟨j/2,by omega⟩
    have mB:k-j*e+e=k-m*(2*e):=by
     have h1:=st.je;have h2:j*e=m*(2*e)+e:=by rw[O2,Nat.add_mul,Nat.one_mul,Nat.mul_comm 2 m,Nat.mul_assoc]
     omega
    have Yr:m*(2*e)<=k:=by
     have h1:=st.je;have h2:j*e=m*(2*e)+e:=by rw[O2,Nat.add_mul,Nat.one_mul,Nat.mul_comm 2 m,Nat.mul_assoc]
     omega
    have HE:=zC mB;have HM:=zC O2;have ix:=zC st.ix;have iy:=zC st.iy;clear q1 O2 mB hm;go_wp2_with fail;refine (zX _ _ _ _ _ _ _ _ (4*(k-j*e)+4) (4*e) _ _ _ (zA ix) (zA iy) (by omega) (by omega)).mono ?_
    rintro r w3 ⟨B8,a3,n3,c3,rfl,G0,o7⟩;have X6:=st.bw o7;clear o7 st;rw[<- Int.pow_add,zA HE] at G0;obtain⟨s0,s1⟩:=X6.x;obtain⟨W,hW⟩:∃ W,W=(w3.setCell ⟨w2.heap.size,0,none⟩ (.bool B8)).setCell ⟨w2.heap.size,1,none⟩ (.slice a3 n3 c3):=⟨_,rfl⟩;have X4:NmC W w2.heap.size ⟨B8,a3,n3,c3⟩:=by rw[hW];exact zDA X6.x ⟨B8,a3,n3,c3⟩
    have Y4:NmC W (w2.heap.size+1) Y:=by rw[hW];exact X6.y.off (by omega) _ _
    have F4:∀ o,W.frozen? ⟨w2.heap.size,o,none⟩=false:=by rw[hW];exact zAE X6.fx _ _
    have G4:∀ o,W.frozen? ⟨w2.heap.size+1,o,none⟩=false:=by rw[hW];exact zAE X6.fy _ _
    have I4:=zC (show IntAt W B8 a3 n3 c3 _ _ by rw[hW];exact G0.put2 s0 s1 _ _)
    have J4:=zC (show IntAt W Y.neg Y.a Y.n Y.cap _ _ by rw[hW];exact X6.iy.put2 s0 s1 _ _)
    have N4:NoI W w.heap.size:=by rw[hW];exact X6.no.off (by omega) _ _
    have B4:Below w.heap.size w W:=by rw[hW];exact zE4 X6.be (by omega) _ _
    have lW:W.heap.size=w3.heap.size:=by rw[hW];simp[World.setCell]
    have l3:=X6.y.lt;have f0:=X6.fx 0;have f1:=X6.fx 1;have lo:=X6.lo;have je1:=X6.e1;have jje:=X6.je;have e22:=X6.e2;clear x0 x1 y0 y1;obtain⟨y0,y1⟩:=X6.y;clear X6 G0;go_wp2_with fail;rw[<- hW];clear hW s0 s1 f0 f1 y0 y1;refine (zX _ _ _ _ _ _ _ _ (4*e) (4*e) _ _ _ (zA J4) (zA J4) (by omega) (by omega)).mono ?_
    rintro r w5 ⟨L4,a5,n5,c5,rfl,P9,D8⟩;rw[zNZ] at P9;replace X4:=X4.bw D8;replace Y4:=Y4.bw D8;replace I4:=zC ((zA I4).bw D8);replace N4:=N4.bw D8;replace B4:=zB B4 D8;have F5:∀ o,w5.frozen? ⟨w2.heap.size,o,none⟩=false:=λ o=>(D8.frozen (p:=⟨w2.heap.size,o,none⟩) (by show w2.heap.size<W.heap.size;omega)).trans (F4 o)
    have G5:∀ o,w5.frozen? ⟨w2.heap.size+1,o,none⟩=false:=λ o=>(D8.frozen (p:=⟨w2.heap.size+1,o,none⟩) (by show w2.heap.size+1<W.heap.size;omega)).trans (G4 o)
    obtain⟨y0,y1⟩:=Y4;have f0:=G5 0;have f1:=G5 1;go_wp2_with fail;refine⟨⟨m,2*e,⟨B8,a3,n3,c3⟩,⟨L4,a5,n5,c5⟩,by have:=zA HM;congr 1;omega,by omega,by omega,by omega,X4.off (by omega) _ _,zDA (z:=Y) ⟨y0,y1⟩ ⟨L4,a5,n5,c5⟩,zAE F5 _ _,zAE G5 _ _,?_,?_,N4.off (by omega) _ _,zE4 B4 (by omega) _ _,lo⟩,?_⟩
    ·exact ((zA I4).put2 y0 y1 _ _).mono (by have:=zA HE;omega)
    ·exact (P9.put2 y0 y1 _ _).mono (by omega)
    ·simp[intOf];omega
   ·have q2:((j:Int)).tmod 2=0:=by rw[Int.tmod_eq_emod_of_nonneg (by omega)];omega
    obtain⟨m,O2⟩:∃ m,j=2*m:=⟨j/2,by omega⟩
    have mB:j*e=m*(2*e):=by rw[O2,Nat.mul_comm 2 m,Nat.mul_assoc]
    have HE:=zC mB;have HM:=zC O2;have jje:=st.je;have lo:=st.lo;have je1:=st.e1;have iy:=zC st.iy;clear q1 O2 mB hm;go_wp2_with fail;refine (zX _ _ _ _ _ _ _ _ (4*e) (4*e) _ _ _ (zA iy) (zA iy) (by omega) (by omega)).mono ?_
    rintro r w5 ⟨L4,a5,n5,c5,rfl,P9,D8⟩;rw[zNZ] at P9;have rB:=st.bw D8;clear D8 st x0 x1 y0 y1;obtain⟨y0,y1⟩:=rB.y;have F5:=rB.fx;have G5:=rB.fy;have f0:=G5 0;have f1:=G5 1;have X4:=rB.x;have N4:=rB.no;have B4:=rB.be;have I4:=zC rB.ix;clear rB;have Yr:m*(2*e)<=k:=by have:=zA HE;omega
    go_wp2_with fail;refine⟨⟨m,2*e,X,⟨L4,a5,n5,c5⟩,by have:=zA HM;congr 1;omega,by omega,by omega,by omega,X4.off (by omega) _ _,zDA (z:=Y) ⟨y0,y1⟩ ⟨L4,a5,n5,c5⟩,zAE F5 _ _,zAE G5 _ _,?_,?_,N4.off (by omega) _ _,zE4 B4 (by omega) _ _,lo⟩,?_⟩
    ·rw[<- zA HE];exact (zA I4).put2 y0 y1 _ _
    ·exact (P9.put2 y0 y1 _ _).mono (by omega)
    ·simp[intOf];omega
  ·have Cm:j=0:=by omega
   subst Cm;obtain⟨x0,x1⟩:=st.x;obtain⟨z0,z1,z2⟩:=st.no;have ix:=zC st.ix;have hb:=st.be;clear st;go_wp2_with fail;refine bodyPost_ret (v:=.agg X.q) (by simp[results,Tryz.results102,go_sem,z0,z1]) rfl ⟨X.neg,X.a,X.n,X.cap,rfl,?_,?_⟩
   ·have h:=zA ix
    rw[Nat.zero_mul,Nat.sub_zero] at h;exact h.put2 z0 z1 _ _
   ·exact zE4 hb (Zb _) _ _
def yO (k p q r s:Int):Int :=
 if k<1\/7<k then 6 else if ¬ rok p q\/¬ rok r s then 3 else if zFN k=true/\¬ (r=0/\s=1) then 1
 else if yJ k p q r s=false then 3 else if zD7 k p q r s=true then 2 else 0
theorem check_k0 (k p q r s:Int) (w:World) (h1:k<1) :
  Calls Tryz.prog 89 #[.agg #[.int .i64 k,.int .i64 p,.int .i64 q,.int .i64 r,.int .i64 s]] w λ z w'=>z=.returned (.int .i64 6)/\Below w.heap.size w w':=by
 go_enter Tryz.func89,Tryz.ntmps89
 go_wp2
 go_ret
 exact⟨rfl,bl1 _ _⟩
theorem check_k8 (k p q r s:Int) (w:World) (h1:1<=k) (h7:7<k) :
  Calls Tryz.prog 89 #[.agg #[.int .i64 k,.int .i64 p,.int .i64 q,.int .i64 r,.int .i64 s]] w λ z w'=>z=.returned (.int .i64 6)/\Below w.heap.size w w':=by
 go_enter Tryz.func89,Tryz.ntmps89
 go_wp2
 go_ret
 exact⟨rfl,bl1 _ _⟩
theorem check_r1 (k p q r s:Int) (w:World) (h1:1<=k) (h7:k<=7) (E4:decide (rok p q)=false) :
  Calls Tryz.prog 89 #[.agg #[.int .i64 k,.int .i64 p,.int .i64 q,.int .i64 r,.int .i64 s]] w λ z w'=>z=.returned (.int .i64 3)/\Below w.heap.size w w':=by
 go_enter Tryz.func89,Tryz.ntmps89
 go_wp2_with (first
  | (go_at_call 118;refine (zO p q _).mono ?_;rintro r' w1 ⟨rfl,b9⟩;rw[E4];obtain⟨C9,B9,D6⟩:=zZ (w.heap.size+1) (by simp) b9))
 go_ret
 exact⟨rfl,zB (bl1 _ _) b9⟩
theorem check_r2 (k p q r s:Int) (w:World) (h1:1<=k) (h7:k<=7) (E4:decide (rok p q)=true) (G3:decide (rok r s)=false) :
  Calls Tryz.prog 89 #[.agg #[.int .i64 k,.int .i64 p,.int .i64 q,.int .i64 r,.int .i64 s]] w λ z w'=>z=.returned (.int .i64 3)/\Below w.heap.size w w':=by
 go_enter Tryz.func89,Tryz.ntmps89
 go_wp2_with (first
  | (go_at_call 118;have hq:=b9;refine (zO r s _).mono ?_;rintro r' w2 ⟨rfl,j7⟩;rw[G3];obtain⟨A9,B7,E7⟩:=zZ (w.heap.size+1) C9 j7)
  | (go_at_call 118;refine (zO p q _).mono ?_;rintro r' w1 ⟨rfl,b9⟩;rw[E4];obtain⟨C9,B9,D6⟩:=zZ (w.heap.size+1) (by simp) b9))
 go_ret
 exact⟨rfl,zB (zB (bl1 _ _) b9) j7⟩
theorem check_z0 (k p q r s:Int) (w:World) (h1:1<=k) (h7:k<=7) (E4:decide (rok p q)=true) (G3:decide (rok r s)=true) (ho:zFN k=true) (z0:r≠0) :
  Calls Tryz.prog 89 #[.agg #[.int .i64 k,.int .i64 p,.int .i64 q,.int .i64 r,.int .i64 s]] w λ z w'=>z=.returned (.int .i64 1)/\Below w.heap.size w w':=by
 go_enter Tryz.func89,Tryz.ntmps89
 go_wp2_with (first
  | (go_at_call 128;refine (jC k _).mono ?_;rintro r' w3 ⟨rfl,o7⟩;rw[ho];obtain⟨J1,L6,O0⟩:=zZ (w.heap.size+1) A9 o7)
  | (go_at_call 118;have hq:=b9;refine (zO r s _).mono ?_;rintro r' w2 ⟨rfl,j7⟩;rw[G3];obtain⟨A9,B7,E7⟩:=zZ (w.heap.size+1) C9 j7)
  | (go_at_call 118;refine (zO p q _).mono ?_;rintro r' w1 ⟨rfl,b9⟩;rw[E4];obtain⟨C9,B9,D6⟩:=zZ (w.heap.size+1) (by simp) b9))
 go_ret
 exact⟨rfl,zB (zB (zB (bl1 _ _) b9) j7) o7⟩
theorem check_z1 (k p q r s:Int) (w:World) (h1:1<=k) (h7:k<=7) (E4:decide (rok p q)=true) (G3:decide (rok r s)=true) (ho:zFN k=true) (z1:s≠1) :
  Calls Tryz.prog 89 #[.agg #[.int .i64 k,.int .i64 p,.int .i64 q,.int .i64 r,.int .i64 s]] w λ z w'=>z=.returned (.int .i64 1)/\Below w.heap.size w w':=by
 go_enter Tryz.func89,Tryz.ntmps89
 go_wp2_with (first
  | (go_at_call 128;refine (jC k _).mono ?_;rintro r' w3 ⟨rfl,o7⟩;rw[ho];obtain⟨J1,L6,O0⟩:=zZ (w.heap.size+1) A9 o7)
  | (go_at_call 118;have hq:=b9;refine (zO r s _).mono ?_;rintro r' w2 ⟨rfl,j7⟩;rw[G3];obtain⟨A9,B7,E7⟩:=zZ (w.heap.size+1) C9 j7)
  | (go_at_call 118;refine (zO p q _).mono ?_;rintro r' w1 ⟨rfl,b9⟩;rw[E4];obtain⟨C9,B9,D6⟩:=zZ (w.heap.size+1) (by simp) b9))
 go_ret
 exact⟨rfl,zB (zB (zB (bl1 _ _) b9) j7) o7⟩
theorem check_os (k p q:Int) (w:World) (h1:1<=k) (h7:k<=7) (T7:rok p q) (P2:rok 0 1) (E4:decide (rok p q)=true) (G3:decide (rok 0 1)=true) (ho:zFN k=true) (hs:yJ k p q 0 1=false) :
  Calls Tryz.prog 89 #[.agg #[.int .i64 k,.int .i64 p,.int .i64 q,.int .i64 0,.int .i64 1]] w λ z w'=>z=.returned (.int .i64 3)/\Below w.heap.size w w':=by
 go_enter Tryz.func89,Tryz.ntmps89
 go_wp2_with (first
  | (go_at_call 129;refine (zBD k p q 0 1 _ h1 h7).mono ?_;rintro r' w4 ⟨rfl,y9⟩;rw[hs];obtain⟨dt,fS,cA⟩:=zZ (w.heap.size+1) J1 y9)
  | (go_at_call 128;refine (jC k _).mono ?_;rintro r' w3 ⟨rfl,o7⟩;rw[ho];obtain⟨J1,L6,O0⟩:=zZ (w.heap.size+1) A9 o7)
  | (go_at_call 118;have hq:=b9;refine (zO 0 1 _).mono ?_;rintro r' w2 ⟨rfl,j7⟩;rw[G3];obtain⟨A9,B7,E7⟩:=zZ (w.heap.size+1) C9 j7)
  | (go_at_call 118;refine (zO p q _).mono ?_;rintro r' w1 ⟨rfl,b9⟩;rw[E4];obtain⟨C9,B9,D6⟩:=zZ (w.heap.size+1) (by simp) b9))
 go_ret
 exact⟨rfl,zB (zB (zB (zB (bl1 _ _) b9) j7) o7) y9⟩
theorem check_of (k p q:Int) (w:World) (h1:1<=k) (h7:k<=7) (T7:rok p q) (P2:rok 0 1) (E4:decide (rok p q)=true) (G3:decide (rok 0 1)=true) (ho:zFN k=true) (hs:yJ k p q 0 1=true) (hf:zD7 k p q 0 1=false) :
  Calls Tryz.prog 89 #[.agg #[.int .i64 k,.int .i64 p,.int .i64 q,.int .i64 0,.int .i64 1]] w λ z w'=>z=.returned (.int .i64 0)/\Below w.heap.size w w':=by
 go_enter Tryz.func89,Tryz.ntmps89
 go_wp2_with (first
  | (go_at_call 130;refine (zDL k p q 0 1 _ T7 P2).mono ?_;rintro r' w5 ⟨rfl,D8⟩;rw[hf])
  | (go_at_call 129;refine (zBD k p q 0 1 _ h1 h7).mono ?_;rintro r' w4 ⟨rfl,y9⟩;rw[hs];obtain⟨dt,fS,cA⟩:=zZ (w.heap.size+1) J1 y9)
  | (go_at_call 128;refine (jC k _).mono ?_;rintro r' w3 ⟨rfl,o7⟩;rw[ho];obtain⟨J1,L6,O0⟩:=zZ (w.heap.size+1) A9 o7)
  | (go_at_call 118;have hq:=b9;refine (zO 0 1 _).mono ?_;rintro r' w2 ⟨rfl,j7⟩;rw[G3];obtain⟨A9,B7,E7⟩:=zZ (w.heap.size+1) C9 j7)
  | (go_at_call 118;refine (zO p q _).mono ?_;rintro r' w1 ⟨rfl,b9⟩;rw[E4];obtain⟨C9,B9,D6⟩:=zZ (w.heap.size+1) (by simp) b9))
 go_ret
 exact⟨rfl,zB (zB (zB (zB (zB (bl1 _ _) b9) j7) o7) y9) D8⟩
theorem check_om (k p q:Int) (w:World) (h1:1<=k) (h7:k<=7) (T7:rok p q) (P2:rok 0 1) (E4:decide (rok p q)=true) (G3:decide (rok 0 1)=true) (ho:zFN k=true) (hs:yJ k p q 0 1=true) (hf:zD7 k p q 0 1=true) :
  Calls Tryz.prog 89 #[.agg #[.int .i64 k,.int .i64 p,.int .i64 q,.int .i64 0,.int .i64 1]] w λ z w'=>z=.returned (.int .i64 2)/\Below w.heap.size w w':=by
 go_enter Tryz.func89,Tryz.ntmps89
 go_wp2_with (first
  | (go_at_call 130;refine (zDL k p q 0 1 _ T7 P2).mono ?_;rintro r' w5 ⟨rfl,D8⟩;rw[hf])
  | (go_at_call 129;refine (zBD k p q 0 1 _ h1 h7).mono ?_;rintro r' w4 ⟨rfl,y9⟩;rw[hs];obtain⟨dt,fS,cA⟩:=zZ (w.heap.size+1) J1 y9)
  | (go_at_call 128;refine (jC k _).mono ?_;rintro r' w3 ⟨rfl,o7⟩;rw[ho];obtain⟨J1,L6,O0⟩:=zZ (w.heap.size+1) A9 o7)
  | (go_at_call 118;have hq:=b9;refine (zO 0 1 _).mono ?_;rintro r' w2 ⟨rfl,j7⟩;rw[G3];obtain⟨A9,B7,E7⟩:=zZ (w.heap.size+1) C9 j7)
  | (go_at_call 118;refine (zO p q _).mono ?_;rintro r' w1 ⟨rfl,b9⟩;rw[E4];obtain⟨C9,B9,D6⟩:=zZ (w.heap.size+1) (by simp) b9))
 go_ret
 exact⟨rfl,zB (zB (zB (zB (zB (bl1 _ _) b9) j7) o7) y9) D8⟩
theorem check_ns (k p q r s:Int) (w:World) (h1:1<=k) (h7:k<=7) (T7:rok p q) (P2:rok r s) (E4:decide (rok p q)=true) (G3:decide (rok r s)=true) (ho:zFN k=false) (hs:yJ k p q r s=false) :
  Calls Tryz.prog 89 #[.agg #[.int .i64 k,.int .i64 p,.int .i64 q,.int .i64 r,.int .i64 s]] w λ z w'=>z=.returned (.int .i64 3)/\Below w.heap.size w w':=by
 go_enter Tryz.func89,Tryz.ntmps89
 go_wp2_with (first
  | (go_at_call 129;refine (zBD k p q r s _ h1 h7).mono ?_;rintro r' w4 ⟨rfl,y9⟩;rw[hs];obtain⟨dt,fS,cA⟩:=zZ (w.heap.size+1) J1 y9)
  | (go_at_call 128;refine (jC k _).mono ?_;rintro r' w3 ⟨rfl,o7⟩;rw[ho];obtain⟨J1,L6,O0⟩:=zZ (w.heap.size+1) A9 o7)
  | (go_at_call 118;have hq:=b9;refine (zO r s _).mono ?_;rintro r' w2 ⟨rfl,j7⟩;rw[G3];obtain⟨A9,B7,E7⟩:=zZ (w.heap.size+1) C9 j7)
  | (go_at_call 118;refine (zO p q _).mono ?_;rintro r' w1 ⟨rfl,b9⟩;rw[E4];obtain⟨C9,B9,D6⟩:=zZ (w.heap.size+1) (by simp) b9))
 go_ret
 exact⟨rfl,zB (zB (zB (zB (bl1 _ _) b9) j7) o7) y9⟩
theorem check_nf (k p q r s:Int) (w:World) (h1:1<=k) (h7:k<=7) (T7:rok p q) (P2:rok r s) (E4:decide (rok p q)=true) (G3:decide (rok r s)=true) (ho:zFN k=false) (hs:yJ k p q r s=true) (hf:zD7 k p q r s=false) :
  Calls Tryz.prog 89 #[.agg #[.int .i64 k,.int .i64 p,.int .i64 q,.int .i64 r,.int .i64 s]] w λ z w'=>z=.returned (.int .i64 0)/\Below w.heap.size w w':=by
 go_enter Tryz.func89,Tryz.ntmps89
 go_wp2_with (first
  | (go_at_call 130;refine (zDL k p q r s _ T7 P2).mono ?_;rintro r' w5 ⟨rfl,D8⟩;rw[hf])
  | (go_at_call 129;refine (zBD k p q r s _ h1 h7).mono ?_;rintro r' w4 ⟨rfl,y9⟩;rw[hs];obtain⟨dt,fS,cA⟩:=zZ (w.heap.size+1) J1 y9)
  | (go_at_call 128;refine (jC k _).mono ?_;rintro r' w3 ⟨rfl,o7⟩;rw[ho];obtain⟨J1,L6,O0⟩:=zZ (w.heap.size+1) A9 o7)
  | (go_at_call 118;have hq:=b9;refine (zO r s _).mono ?_;rintro r' w2 ⟨rfl,j7⟩;rw[G3];obtain⟨A9,B7,E7⟩:=zZ (w.heap.size+1) C9 j7)
  | (go_at_call 118;refine (zO p q _).mono ?_;rintro r' w1 ⟨rfl,b9⟩;rw[E4];obtain⟨C9,B9,D6⟩:=zZ (w.heap.size+1) (by simp) b9))
 go_ret
 exact⟨rfl,zB (zB (zB (zB (zB (bl1 _ _) b9) j7) o7) y9) D8⟩
theorem check_nm (k p q r s:Int) (w:World) (h1:1<=k) (h7:k<=7) (T7:rok p q) (P2:rok r s) (E4:decide (rok p q)=true) (G3:decide (rok r s)=true) (ho:zFN k=false) (hs:yJ k p q r s=true) (hf:zD7 k p q r s=true) :
  Calls Tryz.prog 89 #[.agg #[.int .i64 k,.int .i64 p,.int .i64 q,.int .i64 r,.int .i64 s]] w λ z w'=>z=.returned (.int .i64 2)/\Below w.heap.size w w':=by
 go_enter Tryz.func89,Tryz.ntmps89
 go_wp2_with (first
  | (go_at_call 130;refine (zDL k p q r s _ T7 P2).mono ?_;rintro r' w5 ⟨rfl,D8⟩;rw[hf])
  | (go_at_call 129;refine (zBD k p q r s _ h1 h7).mono ?_;rintro r' w4 ⟨rfl,y9⟩;rw[hs];obtain⟨dt,fS,cA⟩:=zZ (w.heap.size+1) J1 y9)
  | (go_at_call 128;refine (jC k _).mono ?_;rintro r' w3 ⟨rfl,o7⟩;rw[ho];obtain⟨J1,L6,O0⟩:=zZ (w.heap.size+1) A9 o7)
  | (go_at_call 118;have hq:=b9;refine (zO r s _).mono ?_;rintro r' w2 ⟨rfl,j7⟩;rw[G3];obtain⟨A9,B7,E7⟩:=zZ (w.heap.size+1) C9 j7)
  | (go_at_call 118;refine (zO p q _).mono ?_;rintro r' w1 ⟨rfl,b9⟩;rw[E4];obtain⟨C9,B9,D6⟩:=zZ (w.heap.size+1) (by simp) b9))
 go_ret
 exact⟨rfl,zB (zB (zB (zB (zB (bl1 _ _) b9) j7) o7) y9) D8⟩
theorem jV (k p q r s:Int) (w:World) :
  Calls Tryz.prog 89 #[.agg #[.int .i64 k,.int .i64 p,.int .i64 q,.int .i64 r,.int .i64 s]] w λ z w'=>z=.returned (.int .i64 (yO k p q r s))/\Below w.heap.size w w':=by
 by_cases h1:k<1
 ·rw[show yO k p q r s=6 by unfold yO;rw[if_pos (by omega)]];exact check_k0 k p q r s w h1
 by_cases h7:7<k
 ·rw[show yO k p q r s=6 by unfold yO;rw[if_pos (by omega)]];exact check_k8 k p q r s w (by omega) h7
 have n1:¬ (k<1\/7<k):=by omega
 cases E4:decide (rok p q)
 ·rw[show yO k p q r s=3 by unfold yO;rw[if_neg n1,if_pos (Or.inl (of_decide_eq_false E4))]];exact check_r1 k p q r s w (by omega) (by omega) E4
 cases G3:decide (rok r s)
 ·rw[show yO k p q r s=3 by unfold yO;rw[if_neg n1,if_pos (Or.inr (of_decide_eq_false G3))]];exact check_r2 k p q r s w (by omega) (by omega) E4 G3
 have T7:=of_decide_eq_true E4;have P2:=of_decide_eq_true G3;have n2:¬ (¬ rok p q\/¬ rok r s):=by simp[T7,P2]
 cases ho:zFN k
 ·have n3:¬ (zFN k=true/\¬ (r=0/\s=1)):=λ ⟨h,_⟩=>by rw[ho] at h;cases h
  cases hs:yJ k p q r s
  ·rw[show yO k p q r s=3 by unfold yO;rw[if_neg n1,if_neg n2,if_neg n3,if_pos hs]];exact check_ns k p q r s w (by omega) (by omega) T7 P2 E4 G3 ho hs
  have n4:¬ yJ k p q r s=false:=by simp[hs]
  cases hf:zD7 k p q r s
  ·rw[show yO k p q r s=0 by unfold yO;rw[if_neg n1,if_neg n2,if_neg n3,if_neg n4,if_neg (by simp[hf])]];exact check_nf k p q r s w (by omega) (by omega) T7 P2 E4 G3 ho hs hf
  ·rw[show yO k p q r s=2 by unfold yO;rw[if_neg n1,if_neg n2,if_neg n3,if_neg n4,if_pos hf]];exact check_nm k p q r s w (by omega) (by omega) T7 P2 E4 G3 ho hs hf
 by_cases z0:r=0
 case neg=>rw[show yO k p q r s=1 by unfold yO;rw[if_neg n1,if_neg n2,if_pos ⟨ho,by omega⟩]];exact check_z0 k p q r s w (by omega) (by omega) E4 G3 ho z0
 by_cases z1:s=1
 case neg=>rw[show yO k p q r s=1 by unfold yO;rw[if_neg n1,if_neg n2,if_pos ⟨ho,by omega⟩]];exact check_z1 k p q r s w (by omega) (by omega) E4 G3 ho z1
 have n3:¬ (zFN k=true/\¬ (r=0/\s=1)):=λ ⟨_,h⟩=>h ⟨z0,z1⟩
 subst z0 z1
 cases hs:yJ k p q 0 1
 ·rw[show yO k p q 0 1=3 by unfold yO;rw[if_neg n1,if_neg n2,if_neg n3,if_pos hs]];exact check_os k p q w (by omega) (by omega) T7 P2 E4 G3 ho hs
 have n4:¬ yJ k p q 0 1=false:=by simp[hs]
 cases hf:zD7 k p q 0 1
 ·rw[show yO k p q 0 1=0 by unfold yO;rw[if_neg n1,if_neg n2,if_neg n3,if_neg n4,if_neg (by simp[hf])]];exact check_of k p q w (by omega) (by omega) T7 P2 E4 G3 ho hs hf
 ·rw[show yO k p q 0 1=2 by unfold yO;rw[if_neg n1,if_neg n2,if_neg n3,if_neg n4,if_pos hf]];exact check_om k p q w (by omega) (by omega) T7 P2 E4 G3 ho hs hf
structure LwC (w:World) (B:Nat) (k p q r s:Int):Prop where
 c0:w.cell? ⟨B,0,none⟩=some (.int .i64 k)
 c1:w.cell? ⟨B,1,none⟩=some (.int .i64 p)
 c2:w.cell? ⟨B,2,none⟩=some (.int .i64 q)
 c3:w.cell? ⟨B,3,none⟩=some (.int .i64 r)
 c4:w.cell? ⟨B,4,none⟩=some (.int .i64 s)
theorem LwC.lt {w:World} {B:Nat} {k p q r s:Int} (h:LwC w B k p q r s):B<w.heap.size:=World.block_lt_of_cell? w ⟨B,0,none⟩ h.c0
theorem LwC.bw {w w':World} {B:Nat} {k p q r s:Int} (h:LwC w B k p q r s) (hb:Below w.heap.size w w'):LwC w' B k p q r s :=
 ⟨(hb.cell (p:=⟨B,0,none⟩) h.lt).trans h.c0,(hb.cell (p:=⟨B,1,none⟩) h.lt).trans h.c1,(hb.cell (p:=⟨B,2,none⟩) h.lt).trans h.c2,(hb.cell (p:=⟨B,3,none⟩) h.lt).trans h.c3,(hb.cell (p:=⟨B,4,none⟩) h.lt).trans h.c4⟩
theorem LwC.off {w:World} {B B':Nat} {k p q r s:Int} (h:LwC w B k p q r s) (hne:B≠B') (u0 u1:Value):LwC ((w.setCell ⟨B',0,none⟩ u0).setCell ⟨B',1,none⟩ u1) B k p q r s:=by
 obtain⟨q0,q1,q2,q3,q4⟩:=h;constructor<;>simp[go_sem,q0,q1,q2,q3,q4,hne,Ne.symm hne]
theorem yB (w:World) (k p q r s:Int) (T:TypeId):LwC (w.alloc (.cells #[.int .i64 k,.int .i64 p,.int .i64 q,.int .i64 r,.int .i64 s] T)) w.heap.size k p q r s:=⟨by simp,by simp,by simp,by simp,by simp⟩
def wayF (b o:Int):Nat->Int
 | 0=>b
 | i+1=>wayF b o i*(o+((i:Int)+1))/((i:Int)+1)
theorem zOI (k p q r s:Int) (n:Nat) (w:World) (hn:(n:Int)<=p) (hp:p<=100) (hr:0<=r) (hs:r<=s) (ak:s<=1024) :
  Calls Tryz.prog 101 #[.agg #[.int .i64 k,.int .i64 p,.int .i64 q,.int .i64 r,.int .i64 s],.int .i64 n] w (zDP w (408+20*n) (wayF (r ^ n*(s-r) ^ (p.toNat-n)) (p-n) n)):=by
 obtain⟨W,hW⟩:∃ W,W=(w.alloc (.cells #[.int .i64 k,.int .i64 p,.int .i64 q,.int .i64 r,.int .i64 s] 25)).alloc (.cells #[.bool false,.slice none 0 0] 29):=⟨_,rfl⟩;have j8:Below w.heap.size w W:=by rw[hW];exact bl2 _ _ _
 have L:LwC W w.heap.size k p q r s:=by rw[hW];exact (yB w k p q r s _).bw (bl1 _ _)
 have R:NoI W (w.heap.size+1):=by rw[hW];constructor<;>simp[go_sem]
 obtain⟨m,hm⟩:∃ m:Nat,p-n=(m:Int):=⟨(p-n).toNat,by omega⟩
 have O2:p.toNat-n=m:=by omega
 rw[hm,O2];have HK:=zC (show ∀ w',Below W.heap.size W w'->(w'.cell? ⟨w.heap.size,3,none⟩=some (.int .i64 r)/\w'.cell? ⟨w.heap.size,4,none⟩=some (.int .i64 s)) from λ w' hB=>⟨(L.bw hB).c3,(L.bw hB).c4⟩)
 have lW:=L.lt;have lR:=R.lt
 go_enter Tryz.func101,Tryz.ntmps101
 go_wp2;rw[<- hW];clear hW;obtain⟨i0,i1,i2,i3,i4⟩:=L;have Tr:=zC (show IntKind.i64.wrap (s-r)=s-r from jI _ (by omega) (by omega))
 go_cut [6] (λ p wx=>VarAt wx p W.heap.size 408 (r ^ n*(s-r) ^ m)/\FzP wx p/\Below W.heap.size W wx)
 case first =>
  go_region_held3 (λ w'=>w'.cell? ⟨w.heap.size,3,none⟩=some (.int .i64 r)/\w'.cell? ⟨w.heap.size,4,none⟩=some (.int .i64 s)) (exact zA HK _ (by repeat' (first|with_reducible exact dZ|with_reducible exact Q8|with_reducible exact J8|with_reducible exact Below.refl _ _|with_reducible refine Below.drew ?_|with_reducible refine zL ?_ _|with_reducible refine Below.setCell ?_ (by first|exact Zb _|exact aW|exact aX|exact fI) _)))
   (first
    | (go_at_call 83;have hq:=Q8;refine (zX _ _ _ _ _ _ _ _ (4*n+4) (4*m+4) (r ^ n) ((s-r) ^ m) _ (R9.bw (by with_reducible first|exact Below.refl _ _|exact bl1 _ _)) (gY.bw (by with_reducible first|exact Below.refl _ _|exact bl1 _ _)) (by omega) (by omega)).mono ?_;rintro r KA ⟨mJ,GP,Kl,GW,rfl,mb,eX⟩;have bs:Below mK.heap.size mK KA:=(by with_reducible first|exact eX|exact zB (bl1 _ _) eX);have dZ:=zB Q8 bs;(try with_reducible have Bt:=(kA mK 29).bw eX);replace R9:=R9.bw bs;(try replace cE:=cE.bw bs);replace gY:=gY.bw bs;(try replace iJ:=iJ.bw bs);have fI:=dZ.size;(try have rh:=cE.lt);(try have Pc:=Zg rh);(try have Bp:=Zf rh);(try obtain⟨Eb,Ec,Ed⟩:=cE);(try have ri:=iJ.lt);(try have Pd:=Zg ri);(try have Bq:=Zf ri);(try obtain⟨Ee,Ef,Eg⟩:=iJ);(try have Dh:=Bt.lt);(try have Ws:=Zg Dh);(try have Hi:=Zf Dh);(try obtain⟨MA,MB,MC⟩:=Bt))
    | (go_at_call 102;have hq:=J8;rw[zA Tr];refine (zBF (s-r) m _ (by omega) (by omega) (by omega)).mono ?_;rintro r mK ⟨ry,OD,RE,OS,rfl,gY,aT⟩;have aN:Below gI.heap.size gI mK:=(by with_reducible first|exact aT|exact zB (bl1 _ _) aT);have Q8:=zB J8 aN;(try with_reducible have iJ:=(kA gI 29).bw aT);replace R9:=R9.bw aN;(try replace cE:=cE.bw aN);have aX:=Q8.size)
    | (go_at_call 102;refine (zBF r n _ (by omega) (by omega) (by omega)).mono ?_;rintro r gI ⟨rv,OC,RD,OQ,rfl,R9,aS⟩;have J8:Below W.heap.size W gI:=(by with_reducible first|exact zB (Below.refl _ _).drew aS|exact zB (bl1 _ _).drew aS);(try with_reducible have cE:=((kA W 29).bw (Below.refl _ _).drew).bw aS);have aW:=J8.size))
  all_goals
   go_wp2_with fail;go_meet;refine⟨⟨_,⟨mJ,GP,Kl,GW⟩,rfl,?_,?_,?_,?_,?_⟩,?_,?_⟩
   ·simp[go_sem, *]
   ·simp[go_sem, *]
   ·first|with_reducible exact IntAt.mono (mb.bw (bl1 _ _)) (by omega)|with_reducible exact IntAt.mono (mb.put2 (by assumption) (by assumption) _ _) (by omega)
   ·first|exact Zb _|exact aW|exact aX|exact fI
   ·simp[World.setCell];try omega
   ·intro B hB o;cases hB;simp[go_sem, *]
   ·repeat' (first|with_reducible exact dZ|with_reducible exact Q8|with_reducible exact J8|with_reducible exact Below.refl _ _|with_reducible refine Below.drew ?_|with_reducible refine zL ?_ _|with_reducible refine Below.setCell ?_ (by first|exact Zb _|exact aW|exact aX|exact fI) _)
 case rest =>
 obtain⟨⟨BX,xX,rfl,zo,zq,nw,yj,hltX⟩,hfzX,hblX⟩:=hcut;have XX:NmC wc BX xX:=⟨zo,zq⟩;have F0:∀ o,wc.frozen? ⟨BX,o,none⟩=false:=hfzX BX rfl;have L:LwC W w.heap.size k p q r s:=⟨i0,i1,i2,i3,i4⟩;replace L:=L.bw hblX;replace R:=R.bw hblX;replace j8:=zB j8 hblX;have cJ:w.heap.size+1<BX:=Zd lR yj;clear i0 i1 i2 i3 i4 HK hblX hfzX;go_wp2_with fail
 go_loopw [7] (λ kk wr=>∃ (i:Nat) (X:Nm),kk=.int .i64 ((i:Int)+1)/\i<=n/\NmC wr BX X/\(∀ o,wr.frozen? ⟨BX,o,none⟩=false)/\IntAt wr X.neg X.a X.n X.cap (408+20*i) (wayF (r ^ n*(s-r) ^ m) m i)/\NoI wr (w.heap.size+1)/\Below w.heap.size w wr) (λ kk _=>n+1-(intOf kk).toNat)
 case atStart=>exact⟨0,xX,rfl,Nat.zero_le _,XX,F0,nw,R,j8⟩
 case round =>
  obtain⟨i,X,rfl,hi,hX,hF,hint,R,hB⟩:=hrel
  by_cases I9:i<n
  ·have ve:(i:Int)+1<=n:=by omega
   have HA:=zC (show IntKind.i64.wrap ((m:Int)+((i:Int)+1))=(m:Int)+((i:Int)+1) from jI _ (by omega) (by omega))
   have aq:=zC (show ∀ w',Below wr.heap.size wr w'->(nK0 w' BX X) from λ w' hB=>⟨(hX.bw hB).c0,(hX.bw hB).c1⟩)
   have lX:=hX.lt;have hint:=zC hint;obtain⟨x0,x1⟩:=zA aq _ (Below.refl _ _);go_wp2_with fail
   go_region_with
    (first
     | (go_at_call 126;have hq:=F9;refine (zAB _ _ _ _ _ _ _ _ (408+20*i+4) 4 (wayF (r ^ n*(s-r) ^ m) m i*((m:Int)+((i:Int)+1))) ((i:Int)+1) _ (A5.bw o7) G0 (by omega) (by omega)).mono ?_;rintro r' w4 ⟨E6,a4,n4,c4,rfl,I2,y9⟩;have I5:=zB F9 y9;have lD4:=I5.size;have X4:=hX.bw I5;obtain⟨z0,z1⟩:=X4;have F4:∀ o,w4.frozen? ⟨BX,o,none⟩=false:=λ o=>(I5.frozen (p:=⟨BX,o,none⟩) lX).trans (hF o))
     | (go_at_call 83;have hq:=s9;refine (zX _ _ _ _ _ _ _ _ (408+20*i) 4 (wayF (r ^ n*(s-r) ^ m) m i) ((m:Int)+((i:Int)+1)) _ ((zA hint).bw s9) o8 (by omega) (by omega)).mono ?_;rintro r' w2 ⟨j6,a2,n2,c2,rfl,A5,j7⟩;have p9:=zB s9 j7;obtain⟨b0,b1⟩:=hX.bw p9)
     | (go_at_call 33;have hq:=p9;refine (zD ((i:Int)+1) _ (by omega) (by omega)).mono ?_;rintro r' w3 ⟨B8,a3,n3,c3,rfl,G0,o7⟩;have F9:=zB p9 o7;obtain⟨c0,c1⟩:=hX.bw F9)
     | (go_at_call 33;rw[zA HA];refine (zD ((m:Int)+((i:Int)+1)) _ (by omega) (by omega)).mono ?_;rintro r' w1 ⟨m9,a1,n1,c1,rfl,o8,b9⟩;have s9:Below wr.heap.size wr w1:=zB (by repeat' (first|with_reducible exact Below.refl _ _|with_reducible refine Below.drew ?_)) b9;obtain⟨d0,d1⟩:=hX.bw s9))
   all_goals
    go_wp2_with fail
    go_roundw
    case rel=>exact⟨i+1,⟨E6,a4,n4,c4⟩,by go_num,by omega,zDA (z:=X) ⟨z0,z1⟩ ⟨E6,a4,n4,c4⟩,zAE F4 _ _,(I2.put2 z0 z1 _ _).mono (by omega),(R.bw I5).off (by omega) _ _,zE4 (zB hB I5) (by omega) _ _⟩
    case measure=>simp[intOf];omega
  ·have cX:i=n:=by omega
   subst cX;obtain⟨x0,x1⟩:=hX;obtain⟨z0,z1,z2⟩:=R;have hint:=zC hint;go_wp2_with fail;refine bodyPost_ret (v:=.agg X.q) (by simp[results,Tryz.results101,go_sem,z0,z1]) rfl ⟨X.neg,X.a,X.n,X.cap,rfl,?_,?_⟩
   ·exact (zA hint).put2 z0 z1 _ _
   ·exact zE4 hB (Nat.le_succ _) _ _
theorem zAW {a p q:Int} (hp:0<p) (M4:p<=q) (ha:0<=a):a/q<=a/p:=by
 have hq:0<q:=by omega
 have h0:0<=a/q:=Int.ediv_nonneg ha (by omega)
 rw[Int.le_ediv_iff_mul_le hp];have h1:=Int.ediv_mul_le a (show q≠0 by omega)
 have h2:=Za M4 h0;omega
theorem zAV {a p q:Int} (hp:0<p) (M4:p<=q) (ha:a<=0):a/p<=a/q:=by
 have hq:0<q:=by omega
 have h0:a/p<=0:=by
  have:=Int.ediv_le_ediv hp ha
  simpa using this
 rw[Int.le_ediv_iff_mul_le hq];have h1:=Int.ediv_mul_le a (show p≠0 by omega)
 have h2:=Za M4 (show 0 <= -(a/p) by omega)
 rw[Int.neg_mul,Int.neg_mul] at h2;omega
theorem zPC {l h p q:Int} (Jr:l<=h) (hp:0<p) (M4:p<=q) :
  kM (pr4 (l/p) (l/q) (h/p) (h/q)) 3=if l<0 then l/p else l/q:=by
 have m1:l/p<=h/p:=Int.ediv_le_ediv hp Jr;have m2:l/q<=h/q:=Int.ediv_le_ediv (by omega) Jr
 have d1:0<=l->l/q<=l/p:=zAW hp M4;have d2:l<=0->l/p<=l/q:=zAV hp M4;have d3:0<=h->h/q<=h/p:=zAW hp M4;have d4:h<=0->h/p<=h/q:=zAV hp M4;simp only[kM,pr4];simp;generalize l/p=A at *;generalize l/q=B at *;generalize h/p=C at *;generalize h/q=D at *;split<;>split<;>split<;>split<;>omega
theorem zS3 {l h p q:Int} (Jr:l<=h) (hp:0<p) (M4:p<=q) :
  jZ (pr4 (-(-l/p)) (-(-l/q)) (-(-h/p)) (-(-h/q))) 3=if h<0 then -(-h/q) else -(-h/p):=by
 have m1 : -h/p <= -l/p:=Int.ediv_le_ediv hp (by omega)
 have m2 : -h/q <= -l/q:=Int.ediv_le_ediv (by omega) (by omega)
 have d1:0 <= -l -> -l/q <= -l/p:=zAW hp M4;have d2 : -l<=0 -> -l/p <= -l/q:=zAV hp M4;have d3:0 <= -h -> -h/q <= -h/p:=zAW hp M4;have d4 : -h<=0 -> -h/p <= -h/q:=zAV hp M4;simp only[jZ,pr4];simp;generalize -l/p=A at *;generalize -l/q=B at *;generalize -h/p=C at *;generalize -h/q=D at *;split<;>split<;>split<;>split<;>omega
theorem sq_ltt {x y:Int} (hx:0<=x) (h:x*x<y*y) (hy:0<=y):x<y:=by
 rcases Int.lt_or_le x y with h5|h5
 ·exact h5
 ·have:=Int.mul_le_mul h5 h5 hy hx;omega
def rtN:Nat->Nat
 | 0=>0
 | n+1=>if (rtN n+1)*(rtN n+1)<=n+1 then rtN n+1 else rtN n
def rtZ (x:Int):Int:=(rtN x.toNat:Int)
theorem rtN_spec (n:Nat):rtN n*rtN n<=n/\n<(rtN n+1)*(rtN n+1):=by
 induction n with
 | zero=>simp[rtN]
 | succ n ih =>
  unfold rtN;split
  ·rename_i h
   refine⟨h,?_⟩
   have e:(rtN n+1+1)*(rtN n+1+1)=(rtN n+1)*(rtN n+1)+2*(rtN n+1)+1:=by
    rw[Nat.add_mul,Nat.mul_add];omega
   omega
  ·rename_i h
   exact⟨by omega,by omega⟩
theorem zAU (x:Int):0<=rtZ x:=by unfold rtZ;omega
theorem zEO {x:Int} (h:0<=x):rtZ x*rtZ x<=x/\x<(rtZ x+1)*(rtZ x+1):=by
 obtain⟨h1,h2⟩:=rtN_spec x.toNat;unfold rtZ;have h3:((rtN x.toNat*rtN x.toNat:Nat):Int)<=(x.toNat:Int):=by exact_mod_cast h1
 have h4:(x.toNat:Int)<(((rtN x.toNat+1)*(rtN x.toNat+1):Nat):Int):=by exact_mod_cast h2
 rw[Int.toNat_of_nonneg h] at h3 h4
 push_cast at h3 h4
 exact⟨h3,h4⟩
theorem RootOf.eq {x z:Int} (h:RootOf x z):z=rtZ x:=by
 obtain⟨h1,h2,h3⟩:=h
 rcases Int.lt_or_le 0 x with hx|hx
 ·obtain⟨h4,h5⟩:=zEO (x:=x) (by omega)
  exact zTK h1 (zAU x) (h3 hx).1 (h3 hx).2 h4 h5
 ·rw[h2 hx];unfold rtZ;rw[show x.toNat=0 by omega];rfl
def rtU (x:Int):Int:=if rtZ x*rtZ x<x then rtZ x+1 else rtZ x
theorem zPL {x y:Int} (h:x<=y) (h0:0<=x):rtZ x<=rtU y:=by
 obtain⟨h1,h2⟩:=zEO h0;obtain⟨h3,h4⟩:=zEO (x:=y) (by omega)
 have h5:rtZ x<rtZ y+1:=sq_ltt (zAU x) (by omega) (by have:=zAU y;omega)
 unfold rtU;split<;>omega
theorem rtU_sq {x:Int} (h:0<=x):x<=rtU x*rtU x:=by
 obtain⟨h3,h4⟩:=zEO h;unfold rtU;split<;>omega
theorem zTI (neg:Bool) (a:Option Addr) (n cap k:Nat) (x:Int) (w:World) (h1:IntAt w neg a n cap k x) (hk:k<=100000000) :
  Calls Tryz.prog 206 #[.agg #[.bool neg,.slice a n cap]] w (zDP w (k+10) (rtZ x)) :=
 (root_int neg a n cap k x w h1 hk).mono λ r w' ⟨z,hz,h⟩=>by rw[<- hz.eq];exact h
theorem yY {w:World} {B B' o:Nat} {v:Option Value} (h:w.cell? ⟨B,o,none⟩=v) (hne:B≠B') (u0 u1:Value):((w.setCell ⟨B',0,none⟩ u0).setCell ⟨B',1,none⟩ u1).cell? ⟨B,o,none⟩=v:=by
 have ne:∀ i:Nat,(⟨B',i,none⟩:Addr)≠⟨B,o,none⟩:=λ i e=>hne (by injection e with e1;exact e1.symm)
 rw[World.cell?_setCell_other _ _ _ _ (ne 1),World.cell?_setCell_other _ _ _ _ (ne 0)];exact h
theorem jH {w:World} {B B' o:Nat} {v:Option Value} (h:w.cell? ⟨B,o,none⟩=v) (hne:B≠B') (u0 u1 u2 u3 u4:Value) :
  (((((w.setCell ⟨B',0,none⟩ u0).setCell ⟨B',1,none⟩ u1).setCell ⟨B',2,none⟩ u2).setCell ⟨B',3,none⟩ u3).setCell ⟨B',4,none⟩ u4).cell? ⟨B,o,none⟩=v:=by
 have ne:∀ i:Nat,(⟨B',i,none⟩:Addr)≠⟨B,o,none⟩:=λ i e=>hne (by injection e with e1;exact e1.symm)
 rw[World.cell?_setCell_other _ _ _ _ (ne 4),World.cell?_setCell_other _ _ _ _ (ne 3),World.cell?_setCell_other _ _ _ _ (ne 2),World.cell?_setCell_other _ _ _ _ (ne 1),World.cell?_setCell_other _ _ _ _ (ne 0)];exact h
theorem SpC.put2 {w:World} {B B':Nat} {s:Sp} (h:SpC w B s) (hne:B≠B') (u0 u1:Value):SpC ((w.setCell ⟨B',0,none⟩ u0).setCell ⟨B',1,none⟩ u1) B s :=
 ⟨yY h.c0 hne _ _,yY h.c1 hne _ _,yY h.c2 hne _ _,yY h.c3 hne _ _,yY h.c4 hne _ _⟩
theorem NoC.put2 {w:World} {B B':Nat} (h:NoC w B) (hne:B≠B') (u0 u1:Value):NoC ((w.setCell ⟨B',0,none⟩ u0).setCell ⟨B',1,none⟩ u1) B:=by
 obtain⟨q0,q1,q2,q3,q4,q5⟩:=h;exact⟨yY q0 hne _ _,yY q1 hne _ _,yY q2 hne _ _,yY q3 hne _ _,yY q4 hne _ _,λ o=>by rw[zT,zT];exact q5 o⟩
theorem SpAt.put2 {w:World} {s:Sp} {k:Nat} {lo hi:Int} (h:SpAt w s k lo hi) {B:Nat} {x0:Bool} {y0:Option Addr} {y1 y2:Nat} (h0:w.cell? ⟨B,0,none⟩=some (.bool x0)) (h1:w.cell? ⟨B,1,none⟩=some (.slice y0 y1 y2)) (u0 u1:Value) :
  SpAt ((w.setCell ⟨B,0,none⟩ u0).setCell ⟨B,1,none⟩ u1) s k lo hi:=⟨h.lo.put2 h0 h1 _ _,h.hi.put2 h0 h1 _ _⟩
theorem zON (x y:Int):decide (zN x y<0)=decide (x<y):=by unfold zN;split<;>(try split)<;>simp<;>omega
theorem zFD (w:World) (s:Sp) (k b:Nat) (lo hi:Int) (hs:SpAt w s k lo hi) (hk:k<=30000000) (hb:b<=1000000) (hbits:s.bits=b) :
  Calls Tryz.prog 197 #[.agg s.q] w (zG w b (b/16+k+20) (rtZ (lo*Q b)) (rtU (hi*Q b))):=by
 have gJ:=zC hbits;clear hbits;obtain⟨W,hW⟩:∃ W,W=(w.alloc (.cells s.q 31)).alloc (.cells zCq 31):=⟨_,rfl⟩;have j8:Below w.heap.size w W:=by rw[hW];exact bl2 _ _ _
 have A:SpC W w.heap.size s:=by rw[hW];constructor<;>simp[go_sem]
 have R:NoC W (w.heap.size+1):=by rw[hW];constructor<;>simp[go_sem]
 replace hs:=hs.bw j8
 go_enter Tryz.func197,Tryz.ntmps197
 go_wp2_with fail;rw[<- hW];clear hW;rw[zA gJ];refine (zCG _ _ _ _ b k hi _ hs.hi (by omega) (by omega)).mono ?_
 rintro r w1 ⟨m9,a1,n1,c1,rfl,o8,b9⟩;replace j8:=zB j8 b9;replace A:=A.bw b9;replace R:=R.bw b9;replace hs:=hs.bw b9;clear b9;obtain⟨x1,gD⟩:∃ x:Nm,x=⟨m9,a1,n1,c1⟩:=⟨_,rfl⟩;obtain⟨W1,cr⟩:∃ W',W'=w1.alloc (.cells #[.bool m9,.slice a1 n1 c1] 29):=⟨_,rfl⟩;have E4:Below w1.heap.size w1 W1:=by rw[cr];exact bl1 _ _
 have X1:NmC W1 w1.heap.size ⟨m9,a1,n1,c1⟩:=by rw[cr];exact zC6 w1 ⟨m9,a1,n1,c1⟩ _
 have Dr:w1.heap.size≠w.heap.size+1:=Zf R.lt;obtain⟨u0,u1⟩:=X1;have X1:NmC W1 w1.heap.size ⟨m9,a1,n1,c1⟩:=⟨u0,u1⟩;have QX:=X1.lt;go_wp2_with fail;rw[<- cr];clear cr u0 u1 QX gD x1;replace j8:=zB j8 E4;replace A:=A.bw E4;replace R:=R.bw E4;replace hs:=hs.bw E4;replace o8:=o8.bw E4;clear E4;refine (zTI _ _ _ _ _ (hi*Q b) _ o8 (by omega)).mono ?_
 rintro r w2 ⟨j6,a2,n2,c2,rfl,A5,j7⟩;replace j8:=zB j8 j7;replace A:=A.bw j7;replace R:=R.bw j7;replace hs:=hs.bw j7;replace o8:=o8.bw j7;replace X1:=X1.bw j7;clear j7;obtain⟨W2,nv⟩:∃ W',W'=w2.alloc (.cells #[.bool j6,.slice a2 n2 c2] 29):=⟨_,rfl⟩;have G3:Below w2.heap.size w2 W2:=by rw[nv];exact bl1 _ _
 have X2:NmC W2 w2.heap.size ⟨j6,a2,n2,c2⟩:=by rw[nv];exact zC6 w2 ⟨j6,a2,n2,c2⟩ _
 have F2:∀ o,W2.frozen? ⟨w2.heap.size,o,none⟩=false:=by intro o;rw[nv];simp[go_sem]
 have n12:w1.heap.size≠w2.heap.size:=Zg X1.lt;have rj:w2.heap.size≠w.heap.size+1:=Zf R.lt;have Ds:w.heap.size+1≠w2.heap.size:=Zg R.lt;have nAR:w.heap.size≠w.heap.size+1:=Zg (Nat.lt_succ_self _);have nA:w.heap.size≠w2.heap.size:=Zg A.lt;have hwB:w.heap.size<=w2.heap.size:=Nat.le_of_lt A.lt;replace j8:=zB j8 G3;replace A:=A.bw G3;replace R:=R.bw G3;replace hs:=hs.bw G3;replace o8:=zC (o8.bw G3);replace A5:=zC (A5.bw G3);replace X1:=X1.bw G3;clear G3;go_wp2_with fail;rw[<- nv];clear nv;have Gr:=zC (show ∀ w',Below W2.heap.size W2 w'->(nK w' w1.heap.size (Nm.mk m9 a1 n1 c1) (nK0 w' w2.heap.size (Nm.mk j6 a2 n2 c2))) from λ w' hB=>⟨(X1.bw hB).c0,(X1.bw hB).c1,(X2.bw hB).c0,(X2.bw hB).c1⟩)
 have l1:=X1.lt;have l2:=X2.lt;obtain⟨v0,v1,v2,v3⟩:=zA Gr _ (Below.refl _ _);go_wp2_with fail
 go_cut [17] (λ p wx=>p=.bool (decide (rtZ (hi*Q b)*rtZ (hi*Q b)<(hi*Q b)))/\Below W2.heap.size W2 wx)
 case first =>
  go_region_held3 (λ w'=>nK w' w1.heap.size (Nm.mk m9 a1 n1 c1) (nK0 w' w2.heap.size (Nm.mk j6 a2 n2 c2))) (exact zA Gr _ (by (repeat' (first|with_reducible exact I1|with_reducible exact D3|with_reducible exact Below.refl _ _|with_reducible refine Below.drew ?_|with_reducible refine zL ?_ _))<;>fail))
   (first
    | (go_at_call 17;have hq:=D3;refine (jY _ _ _ _ _ _ _ _ _ _ (rtZ (hi*Q b)*rtZ (hi*Q b)) (hi*Q b) _ (G0.bw (by (repeat' (first|with_reducible exact Below.refl _ _|with_reducible refine Below.drew ?_|with_reducible refine zL ?_ _))<;>fail)) ((zA o8).bw (by (repeat' (first|with_reducible exact D3|with_reducible exact Below.refl _ _|with_reducible refine Below.drew ?_|with_reducible refine zL ?_ _))<;>fail))).mono ?_;rintro r w4 ⟨rfl,y9⟩;have I1:=zB D3 y9)
    | (go_at_call 83;refine (zX _ _ _ _ _ _ _ _ _ _ (rtZ (hi*Q b)) (rtZ (hi*Q b)) _ ((zA A5).bw (by (repeat' (first|with_reducible exact Below.refl _ _|with_reducible refine Below.drew ?_|with_reducible refine zL ?_ _))<;>fail)) ((zA A5).bw (by (repeat' (first|with_reducible exact Below.refl _ _|with_reducible refine Below.drew ?_|with_reducible refine zL ?_ _))<;>fail)) (by omega) (by omega)).mono ?_;rintro r w3 ⟨B8,a3,n3,c3,rfl,G0,o7⟩;have D3:Below W2.heap.size W2 w3:=zB (by (repeat' (first|with_reducible exact Below.refl _ _|with_reducible refine Below.drew ?_|with_reducible refine zL ?_ _))<;>fail) o7))
  all_goals
   go_wp2_with fail;go_meet;refine⟨?_,(by (repeat' (first|with_reducible exact I1|with_reducible exact Below.refl _ _|with_reducible refine Below.drew ?_|with_reducible refine zL ?_ _))<;>fail)⟩
   congr 1
   exact zON _ _
 case rest =>
 obtain⟨rfl,A7⟩:=hcut;replace A:=A.bw A7;replace R:=R.bw A7;replace hs:=hs.bw A7;replace F2:∀ o,wc.frozen? ⟨w2.heap.size,o,none⟩=false:=λ o=>(A7.frozen (p:=⟨w2.heap.size,o,none⟩) X2.lt).trans (F2 o)
 replace X2:=X2.bw A7;replace A5:=zC ((zA A5).bw A7);replace j8:=zB j8 A7;clear o8 X1 A7;clear v0 v1 v2 v3 Gr l1 l2
 go_upto_if 17 with fail
 go_cut [18] (λ _ wx=>∃ x:Nm,NmC wx w2.heap.size x/\IntAt wx x.neg x.a x.n x.cap (b/16+k+20) (rtU (hi*Q b))/\SpC wx w.heap.size s/\NoC wx (w.heap.size+1)/\SpAt wx s k lo hi/\Below w.heap.size w wx)
 case first =>
  have l2:=X2.lt;have xR:=zC X2;obtain⟨v2,v3⟩:=X2
  by_cases E2:rtZ (hi*Q b)*rtZ (hi*Q b)<(hi*Q b)
  ·have hd:decide (rtZ (hi*Q b)*rtZ (hi*Q b)<(hi*Q b))=true:=decide_eq_true E2
   have HU:=zC (show rtU (hi*Q b)=rtZ (hi*Q b)+1 by unfold rtU;rw[if_pos E2])
   clear E2;rw[hd];go_wp2_with fail
   go_region_with
    (first
     | (go_at_call 32;have hq:=D8;refine (zA5 _ _ _ _ _ _ _ _ _ 4 (rtZ (hi*Q b)) 1 _ ((zA A5).bw O7) P9 (by omega) (by omega)).mono ?_;rintro r w6 ⟨dI,a6,n6,c6,rfl,cT,K8⟩;have gQ:=zB O7 K8;have F6:∀ o,w6.frozen? ⟨w2.heap.size,o,none⟩=false:=(λ o=>(gQ.frozen (p:=⟨w2.heap.size,o,none⟩) l2).trans (F2 o));have l6:=Zd l2 gQ.size;obtain⟨v7,v8⟩:=(zA xR).bw gQ)
     | (go_at_call 33;refine (zD 1 _ (by decide) (by decide)).mono ?_;rintro r w5 ⟨L4,a5,n5,c5,rfl,P9,D8⟩;have O7:Below wc.heap.size wc w5:=zB (by (repeat' (first|with_reducible exact Below.refl _ _|with_reducible refine Below.drew ?_|with_reducible refine zL ?_ _))<;>fail) D8;have l5:=O7.size;obtain⟨v5,v6⟩:=(zA xR).bw O7))
   all_goals
    go_wp2_with fail;go_meet;rw[zA HU];exact⟨⟨dI,a6,n6,c6⟩,⟨by simp[go_sem,v7,v8],by simp[go_sem,v7,v8]⟩,(cT.put2 v7 v8 _ _).mono (by omega),(A.bw gQ).put2 nA _ _,(R.bw gQ).put2 Ds _ _,(hs.bw gQ).put2 v7 v8 _ _,zE4 (zB j8 gQ) hwB _ _⟩
  ·have hd:decide (rtZ (hi*Q b)*rtZ (hi*Q b)<(hi*Q b))=false:=decide_eq_false E2
   have HU:=zC (show rtU (hi*Q b)=rtZ (hi*Q b) by unfold rtU;rw[if_neg E2])
   clear E2;rw[hd];go_wp2_with fail;go_meet;rw[zA HU];exact⟨⟨j6,a2,n2,c2⟩,⟨v2,v3⟩,(zA A5).mono (by omega),A,R,hs,j8⟩
 case rest =>
 obtain⟨x,X2,hint,A,R,hs,j8⟩:=hcut;clear F2 A5;have xI:=zC (show ∀ w',Below wc.heap.size wc w'->(w'.cell? ⟨w.heap.size,0,none⟩=some (.bool s.ln)/\w'.cell? ⟨w.heap.size,1,none⟩=some (.slice s.la s.lN s.lc)/\w'.cell? ⟨w.heap.size,2,none⟩=some (.bool s.hn)/\w'.cell? ⟨w.heap.size,3,none⟩=some (.slice s.ha s.hN s.hc)/\w'.cell? ⟨w.heap.size,4,none⟩=some (.int .i64 (b:Int))/\nK0 w' w2.heap.size x) from λ w' hB=>⟨(A.bw hB).c0,(A.bw hB).c1,(A.bw hB).c2,(A.bw hB).c3,by rw[<- zA gJ];exact (A.bw hB).c4,(X2.bw hB).c0,(X2.bw hB).c1⟩)
 have Gs:=zC (show ∀ w' u0 u1 u2 u3 u4,Below wc.heap.size wc w'->((((((w'.setCell ⟨w.heap.size+1,0,none⟩ u0).setCell ⟨w.heap.size+1,1,none⟩ u1).setCell ⟨w.heap.size+1,2,none⟩ u2).setCell ⟨w.heap.size+1,3,none⟩ u3).setCell ⟨w.heap.size+1,4,none⟩ u4).cell? ⟨w.heap.size,0,none⟩=some (.bool s.ln)/\(((((w'.setCell ⟨w.heap.size+1,0,none⟩ u0).setCell ⟨w.heap.size+1,1,none⟩ u1).setCell ⟨w.heap.size+1,2,none⟩ u2).setCell ⟨w.heap.size+1,3,none⟩ u3).setCell ⟨w.heap.size+1,4,none⟩ u4).cell? ⟨w.heap.size,1,none⟩=some (.slice s.la s.lN s.lc)/\(((((w'.setCell ⟨w.heap.size+1,0,none⟩ u0).setCell ⟨w.heap.size+1,1,none⟩ u1).setCell ⟨w.heap.size+1,2,none⟩ u2).setCell ⟨w.heap.size+1,3,none⟩ u3).setCell ⟨w.heap.size+1,4,none⟩ u4).cell? ⟨w.heap.size,2,none⟩=some (.bool s.hn)/\(((((w'.setCell ⟨w.heap.size+1,0,none⟩ u0).setCell ⟨w.heap.size+1,1,none⟩ u1).setCell ⟨w.heap.size+1,2,none⟩ u2).setCell ⟨w.heap.size+1,3,none⟩ u3).setCell ⟨w.heap.size+1,4,none⟩ u4).cell? ⟨w.heap.size,3,none⟩=some (.slice s.ha s.hN s.hc)/\(((((w'.setCell ⟨w.heap.size+1,0,none⟩ u0).setCell ⟨w.heap.size+1,1,none⟩ u1).setCell ⟨w.heap.size+1,2,none⟩ u2).setCell ⟨w.heap.size+1,3,none⟩ u3).setCell ⟨w.heap.size+1,4,none⟩ u4).cell? ⟨w.heap.size,4,none⟩=some (.int .i64 (b:Int))/\(((((w'.setCell ⟨w.heap.size+1,0,none⟩ u0).setCell ⟨w.heap.size+1,1,none⟩ u1).setCell ⟨w.heap.size+1,2,none⟩ u2).setCell ⟨w.heap.size+1,3,none⟩ u3).setCell ⟨w.heap.size+1,4,none⟩ u4).cell? ⟨w2.heap.size,0,none⟩=some (.bool x.neg)/\(((((w'.setCell ⟨w.heap.size+1,0,none⟩ u0).setCell ⟨w.heap.size+1,1,none⟩ u1).setCell ⟨w.heap.size+1,2,none⟩ u2).setCell ⟨w.heap.size+1,3,none⟩ u3).setCell ⟨w.heap.size+1,4,none⟩ u4).cell? ⟨w2.heap.size,1,none⟩=some (.slice x.a x.n x.cap)) from λ w' u0 u1 u2 u3 u4 hB=>⟨jH (A.bw hB).c0 nAR _ _ _ _ _,jH (A.bw hB).c1 nAR _ _ _ _ _,jH (A.bw hB).c2 nAR _ _ _ _ _,jH (A.bw hB).c3 nAR _ _ _ _ _,jH (by rw[<- zA gJ];exact (A.bw hB).c4) nAR _ _ _ _ _,jH (X2.bw hB).c0 rj _ _ _ _ _,jH (X2.bw hB).c1 rj _ _ _ _ _⟩)
 have lA:=A.lt;have lX:=X2.lt;have lR:=R.lt;replace hint:=zC hint;replace hs:=zC hs;obtain⟨x0,x1,x2,x3,x4,v2,v3⟩:=zA xI _ (Below.refl _ _);go_wp2_with fail
 go_region_held3 (λ w'=>w'.cell? ⟨w.heap.size,0,none⟩=some (.bool s.ln)/\w'.cell? ⟨w.heap.size,1,none⟩=some (.slice s.la s.lN s.lc)/\w'.cell? ⟨w.heap.size,2,none⟩=some (.bool s.hn)/\w'.cell? ⟨w.heap.size,3,none⟩=some (.slice s.ha s.hN s.hc)/\w'.cell? ⟨w.heap.size,4,none⟩=some (.int .i64 (b:Int))/\nK0 w' w2.heap.size x) (first|exact zA xI _ (by with_reducible first|exact gR|exact yh|exact (Below.refl _ _).drew|exact Below.refl _ _)|exact zA Gs _ _ _ _ _ _ gR)
  (first
   | (go_at_call 206;have hq:=yh;refine (zTI _ _ _ _ _ (lo*Q b) _ ox (by omega)).mono ?_;rintro r w8 ⟨Dv,a8,n8,c8,rfl,Xz,Z7⟩;have gR:=zB yh Z7;have R8:=R.bw gR;have l8:=R8.lt;obtain⟨q0,q1,q2,q3,q4,q5⟩:=R8;obtain⟨y0,y1,y2,y3,y4,y5,y6⟩:=zA xI _ gR)
   | (go_at_call 116;refine (zCG _ _ _ _ b k lo _ ((zA hs).lo.bw (by (repeat' (first|with_reducible exact Below.refl _ _|with_reducible refine Below.drew ?_|with_reducible refine zL ?_ _))<;>fail)) (by omega) (by omega)).mono ?_;rintro r w7 ⟨mI,a7,n7,c7,rfl,ox,W5⟩;have yh:Below wc.heap.size wc w7:=zB (by (repeat' (first|with_reducible exact Below.refl _ _|with_reducible refine Below.drew ?_|with_reducible refine zL ?_ _))<;>fail) W5))
 all_goals
  go_wp2_with fail;refine bodyPost_ret (v:=.agg #[.bool Dv,.slice a8 n8 c8,.bool x.neg,.slice x.a x.n x.cap,.int .i64 b]) (by simp[results,Tryz.results197,go_sem,l8,q0,q1,q2,q3,q4]) rfl ⟨⟨Dv,a8,n8,c8,x.neg,x.a,x.n,x.cap,b⟩,rfl,rfl,?_,?_⟩
  ·exact SpAt.put5 ⟨Xz.mono (by omega),(zA hint).bw gR⟩ q0 q1 q2 q3 q4 _ _ _ _ _
  ·exact jS (zB j8 gR) (by omega) _ _ _ _ _
def ovLo (l h p q:Int):Int:=if l<0 then l/p else l/q
def ovHi (l h p q:Int):Int:=if h<0 then -(-h/q) else -(-h/p)
variable {w wr w' : World} {s t : Sp} {k k1 k2 BL CL BM CM : Nat} {xL yL xM yM : Nm} {lo' hi' l h m n : Int}
def zDN (lo hi lo' hi':Int) (b:Nat):Int:=if hi'<0 then ovLo (-hi*Q b) (-lo*Q b) (-hi') (-lo') else ovLo (lo*Q b) (hi*Q b) lo' hi'
def zEX (lo hi lo' hi':Int) (b:Nat):Int:=if hi'<0 then ovHi (-hi*Q b) (-lo*Q b) (-hi') (-lo') else ovHi (lo*Q b) (hi*Q b) lo' hi'
open Ex
def ch:Nat->Nat->Nat
 | _,0=>1
 | 0,_+1=>0
 | n+1,k+1=>ch n k+ch n (k+1)
theorem zDV (n:Nat):ch n 0=1:=by cases n<;>rfl
theorem zCZ (n k:Nat):ch (n+1) (k+1)=ch n k+ch n (k+1):=rfl
theorem zM1 {n k : Nat} (h : n < k) : ch n k = 0 := by
  induction n generalizing k with
  | zero => obtain ⟨j, rfl⟩ : ∃ j, k = j + 1 := ⟨k - 1, by omega⟩
            rfl
  | succ n ih =>
    obtain ⟨j, rfl⟩ : ∃ j, k = j + 1 := ⟨k - 1, by omega⟩
    rw [zCZ, ih (by omega), ih (by omega)]
theorem ch_up (n k:Nat):(k+1)*ch (n+1) (k+1)=(n+1)*ch n k:=by
 induction n generalizing k with
 | zero =>
  rw[zCZ]
  cases k with
  | zero=>rfl
  | succ k=>rw[zM1 (show 0<k+1 by omega),zM1 (show 0<k+1+1 by omega)];omega
 | succ n ih =>
  cases k with
  | zero =>
   have h:=ih 0;rw[zDV] at h;rw[zCZ (n+1) 0,zDV];omega
  | succ k =>
   have h1:=ih k;have h2:=ih (k+1);have e:=zCZ n k;rw[zCZ (n+1) (k+1)];generalize ch (n+1) (k+1)=X at *;generalize ch (n+1) (k+1+1)=Y at *;generalize ch n k=u at *;generalize ch n (k+1)=v at *;subst e;grind
theorem wayF_ch (b:Int) (o i:Nat):wayF b (o:Int) i=b*(ch (o+i) i:Int):=by
 induction i with
 | zero=>rw[zDV];show b=b*1;omega
 | succ i ih =>
  have h:=ch_up (o+i) i;have e:wayF b (o:Int) (i+1)=wayF b (o:Int) i*((o:Int)+((i:Int)+1))/((i:Int)+1):=rfl;rw[e,ih];have h2:(((i+1)*ch (o+i+1) (i+1):Nat):Int)=(((o+i+1)*ch (o+i) i:Nat):Int):=by rw[h]
  rw[Int.natCast_mul,Int.natCast_mul] at h2;rw[show o+(i+1)=o+i+1 by omega]
  have e2:b*(ch (o+i) i:Int)*((o:Int)+((i:Int)+1))=b*(ch (o+i+1) (i+1):Int)*((i:Int)+1):=by
   have c1:((i+1:Nat):Int)=(i:Int)+1:=rfl;have c2:((o+i+1:Nat):Int)=(o:Int)+(i:Int)+1:=rfl;rw[c1,c2] at h2;grind
  rw[e2,Int.mul_ediv_cancel _ (by omega)]
def zBA:Nat->Int
 | 0=>1
 | k+1=>zBA k*((k:Int)+1)
theorem zCM (k:Nat):0<zBA k:=by
 induction k with
 | zero=>show (0:Int)<1;omega
 | succ k ih=>exact Int.mul_pos ih (by omega)
theorem ch_le (p q A:Nat):∀ n,n<=A->ch A n*p ^ n*q ^ (A-n)<=(p+q) ^ A:=by
 induction A with
 | zero =>
  intro n hn
  have:n=0:=by omega
  subst this;exact Zb _
 | succ A ih =>
  intro n hn
  cases n with
  | zero =>
   rw[zDV,Nat.one_mul,Nat.pow_zero,Nat.one_mul];exact Nat.pow_le_pow_left (by omega) _
  | succ n =>
   have i1:=ih n (by omega)
   rw[zCZ,show A+1-(n+1)=A-n by omega,Nat.pow_succ (m:=A)]
   have e1:(ch A n+ch A (n+1))*p ^ (n+1)*q ^ (A-n)=ch A n*p ^ n*q ^ (A-n)*p+ch A (n+1)*p ^ (n+1)*q ^ (A-n):=by
    rw[Nat.pow_succ];grind
   rw[e1,Nat.mul_add];refine Nat.add_le_add (Nat.mul_le_mul_right p i1) ?_
   by_cases hA:n+1<=A
   ·have i2:=ih (n+1) hA
    have e2:q ^ (A-n)=q ^ (A-(n+1))*q:=by rw[<- Nat.pow_succ];congr 1;omega
    rw[e2,<- Nat.mul_assoc];exact Nat.mul_le_mul_right q i2
   ·rw[zM1 (show A<n+1 by omega),Nat.zero_mul,Nat.zero_mul];exact Nat.zero_le _
namespace Ex
theorem lin_le {L y c d a t:Rat} (h1:L*c<=a) (h2:L*d<=a) (g1:c-t<=y) (g2:y<=d+t) (k:Rat) (k1:L<=k) (k2 : -L<=k) (ht:0<=t):L*y<=a+k*t:=by
 by_cases hL:0<=L
 ·have:=YV hL (show 0<=d+t-y by grind)
  have:=YV (show 0<=k-L by grind) ht
  grind
 ·have:=YV (show 0 <= -L by grind) (show 0<=y-(c-t) by grind)
  have:=YV (show 0<=k+L by grind) ht
  grind
theorem Has.div {a b c d L U:Rat} {x y:Nat->Rat} (h:Has a b x) (k:Has c d y) (hc:0<c) (h1:L*c<=a) (h2:L*d<=a) (h3:b<=U*c) (h4:b<=U*d):Has L U (λ M=>x M/y M):=λ e he=>by
 obtain⟨m,m0,m1,m2,m3,m4⟩:∃ m:Rat,0<m/\L<=m /\ -L<=m/\U<=m /\ -U<=m:=by
  refine⟨1+(if 0<=L then L else -L)+(if 0<=U then U else -U),?_,?_,?_,?_,?_⟩<;>split<;>split<;>grind
 have m5:(0:Rat)<2*(1+m):=by grind
 have Ya:0<e*c:=Rat.mul_pos he hc
 obtain⟨t,t0,t1,t2⟩:∃ t:Rat,0<t/\2*t<=c/\t*(2*(1+m))<=e*c:=by
  have f:=rdm (a:=e*c) m5;have f0:=zK Ya m5
  by_cases hh:e*c/(2*(1+m))<=c/2
  ·exact⟨e*c/(2*(1+m)),f0,by grind,by grind⟩
  ·refine⟨c/2,by grind,by grind,?_⟩
   have:=YV (show 0<=e*c/(2*(1+m))-c/2 by grind) (show 0<=2*(1+m) by grind)
   grind
 obtain⟨N1,g1⟩:=h t t0;obtain⟨N2,g2⟩:=k t t0;refine⟨N1+N2,λ M hM=>?_⟩
 obtain⟨p1,p2⟩:=g1 M (by omega)
 obtain⟨q1,q2⟩:=g2 M (by omega)
 have y0:0<y M:=by grind
 have ey:e*c<=2*(e*y M):=by
  have:=YV (YZ he) (show 0<=2*y M-c by grind)
  grind
 constructor
 ·refine kG y0 ?_
  have:=lin_le h1 h2 q1 q2 m m1 m2 (YZ t0);grind
 ·refine kF y0 ?_
  have:=lin_le (L := -U) (a := -b) (by grind) (by grind) q1 q2 m (by grind) (by grind) (YZ t0)
  grind
end Ex
theorem Iv.div {B:Nat} {s t:Int × Int} {x y:Nat->Rat} (h:Iv B s x) (k:Iv B t y) (h0:0<t.1) {lo hi:Int} (h1:lo*t.1<=s.1*Q B) (h2:lo*t.2<=s.1*Q B) (h3:s.2*Q B<=hi*t.1) (h4:s.2*Q B<=hi*t.2):Iv B (lo,hi) (λ M=>x M/y M):=by
 have q:=jM B;have t0:(0:Rat)<(t.1:Rat):=by exact_mod_cast h0
 have key:∀ {u v z:Int},u*v<=z*Q B->(u:Rat)/(Q B:Rat)*((v:Rat)/(Q B:Rat))<=(z:Rat)/(Q B:Rat):=λ {u v z} hh=>zJ9 (by have:=zE B;omega) hh
 have CZ:∀ {u v z:Int},z*Q B<=u*v->(z:Rat)/(Q B:Rat)<=(u:Rat)/(Q B:Rat)*((v:Rat)/(Q B:Rat)):=λ {u v z} hh=>zKB (by have:=zE B;omega) hh
 exact Has.div h k (zK t0 q) (key h1) (key h2) (CZ h3) (CZ h4)
theorem zJT {lo hi lo' hi':Int} {b:Nat} (h0:0<=lo) (h1:lo<=hi) (h2:0<lo') (h3:lo'<=hi'):zDN lo hi lo' hi' b=lo*Q b/hi'/\zEX lo hi lo' hi' b = -(-(hi*Q b)/lo'):=by
 have q:=zE b;have p1:=Zc h0 (show 0<=Q b by omega)
 have p2:=Zc (show 0<=hi by omega) (show 0<=Q b by omega)
 unfold zDN zEX ovLo ovHi;rw[if_neg (by omega),if_neg (by omega),if_neg (by omega),if_neg (by omega)]
 exact⟨rfl,rfl⟩
theorem zEY (a:Int) {d:Int} (hd:0<d):a <= -(-a/d)*d:=by
 have:=Int.ediv_mul_le (-a) (show d≠0 by omega)
 rw[Int.neg_mul];omega
theorem dv_floor (a:Int) {d:Int} (hd:0<d):a/d*d<=a:=Int.ediv_mul_le a (by omega)
theorem Iv.dv {B:Nat} {s t:Int × Int} {x y:Nat->Rat} (h:Iv B s x) (k:Iv B t y) (hs:0<=s.1) (h0:0<t.1):Iv B (zDN s.1 s.2 t.1 t.2 B,zEX s.1 s.2 t.1 t.2 B) (λ M=>x M/y M):=by
 have ak:=h.le;have dO:=k.le;have q:=zE B;obtain⟨e1,e2⟩:=zJT (b:=B) hs ak h0 dO;rw[e1,e2];have p1:=Zc hs (show 0<=Q B by omega)
 have l0:0<=s.1*Q B/t.2:=Int.ediv_nonneg p1 (by omega)
 have f1:=dv_floor (s.1*Q B) (show 0<t.2 by omega)
 have f2:=zEY (s.2*Q B) h0;have p2:=Zc (show 0<=s.2 by omega) (show 0<=Q B by omega)
 have u0:0 <= -(-(s.2*Q B)/t.1):=by
  have : -(s.2*Q B)/t.1<=0:=Int.ediv_nonpos_of_nonpos_of_neg (by omega) h0
  omega
 have g1:=Za dO l0;have g2:=Za dO u0;exact h.div k h0 (by omega) f1 f2 (by omega)
open Ex
theorem zGB {B:Nat} {a b:Int × Int} (ha:0<=a.1) (PR:0<=a.2) (hb:0<=b.1) (j7:0<=b.2):0<=(zAL B a b).1:=by
 have q:=zE B;obtain⟨_,_,_,_,h⟩:=zEA (a.1*b.1) (a.1*b.2) (a.2*b.1) (a.2*b.2);have p1:=Zc ha hb;have p2:=Zc ha j7;have p3:=Zc PR hb;have p4:=Zc PR j7;exact Int.ediv_nonneg (by omega) (by omega)
theorem zLR {B:Nat} {sm:Int × Int} (h:0<=sm.1) (h2:sm.1<=sm.2) (n:Nat):0<=(zV B sm n).1:=by
 induction n with
 | zero=>have:=zE B;show 0<=Q B;omega
 | succ n ih =>
  have hl:=zAK B sm n;have h3:=zGB (B:=B) (a:=zV B sm n) (b:=sm) ih (by omega) h (by omega)
  show 0<=(zJ (zAL B (zV B sm n) sm) 1 ((n:Int)+1)).1
  unfold zJ;exact Int.ediv_nonneg (by omega) (by omega)
theorem sumI_low {B:Nat} {sm:Int × Int} (h:0<=sm.1) (h2:sm.1<=sm.2) (n:Nat):Q B<=(jE (zV B sm) n).1:=by
 induction n with
 | zero=>exact Int.le_refl _
 | succ n ih =>
  have:=zLR (B:=B) h h2 (n+1)
  show Q B<=(zB8 (jE (zV B sm) n) (zV B sm (n+1))).1
  unfold zB8;simp only[];omega
theorem zM3 {B N:Nat} {sm:Int × Int} (h:0<=sm.1) (h2:sm.1<=sm.2) (hN:zU (zV B sm) N):Q B-1<=(zM (zV B sm) N).1:=by
 have h3:=sumI_low (B:=B) h h2 N;have h4:=hN.1;unfold zM zB8;simp only[];omega
theorem zOA {B:Nat} {d:Int × Int} (hd:d.1<=d.2) (t:Nat) (hq:Q t<=Q B) (h:Q B-1<=d.1):Q B-Q t<=(sqI B d t).1/\(sqI B d t).1<=(sqI B d t).2:=by
 have q:=zE B
 induction t with
 | zero=>exact⟨h,hd⟩
 | succ t ih =>
  have e:Q (t+1)=2*Q t:=rfl;have qt:=zE t;obtain⟨i1,i2⟩:=ih (by omega)
  refine⟨?_,zB2 B⟩
  show Q B-Q (t+1)<=(zAL B (sqI B d t) (sqI B d t)).1
  generalize sqI B d t=a at *;obtain⟨_,_,_,_,hh⟩:=zEA (a.1*a.1) (a.1*a.2) (a.2*a.1) (a.2*a.2);have c0:0<=a.1:=by omega
  have m1:=Za i2 c0;have m2:=YW i2 c0;have m3:=Int.mul_le_mul i2 i2 c0 (by omega)
  have m4:=Int.mul_le_mul i1 i1 (by omega) c0
  have e2:(Q B-Q t)*(Q B-Q t)=(Q B-2*Q t)*Q B+Q t*Q t:=by grind
  have m5:=Zc (show 0<=Q t by omega) (show 0<=Q t by omega)
  have m6:(Q B-Q (t+1))*Q B<=kM (pr4 (a.1*a.1) (a.1*a.2) (a.2*a.1) (a.2*a.2)) 3:=by rw[e];omega
  exact Int.le_ediv_of_mul_le (by omega) m6
theorem zLS {B N t:Nat} {a:Int × Int} (ha:0<=a.1) (hl:a.1<=a.2) (ht:t<=17) (hB:40<=B) (hN:zU (zV B (zF a t)) N):Q B+1<=2*(sqI B (zM (zV B (zF a t)) N) t).1:=by
 have q:=zE t;have hs:0<=(zF a t).1:=Int.ediv_nonneg ha (by omega)
 have Z9:(zF a t).1<=(zF a t).2:=by
  have:=kR (a:=a) (n:=1) (d:=Q t) hl (by omega) (by omega)
  simpa [zJ,zF] using this
 have h1:=zM3 hs Z9 hN;have h2:=zOA (B:=B) (zCK (zAK B (zF a t)) N) t (zH (by omega)) h1
 have h3:=zH (show t<=17 by omega)
 have h4:=zH (show 40<=B by omega)
 have e1:Q 17=131072:=rfl;have e2:Q 40=1099511627776:=rfl;omega
theorem dv_wide {s1 s2 t1 t2 q W:Int} (hq:0<q) (h0:0<=s1) (h1:s2-s1<=1) (h2:s1<=t2) (h3:t1<=t2) (h4:t2-t1<=W) (h5:q+1<=2*t1) : -(-(s2*q)/t1)-s1*q/t2<=2*W+6:=by
 obtain⟨hi,ehi⟩:∃ hi,hi = -(-(s2*q)/t1):=⟨_,rfl⟩;obtain⟨lo,elo⟩:∃ lo,lo=s1*q/t2:=⟨_,rfl⟩;rw[<- ehi,<- elo];have t0:0<t1:=by omega
 have c1:(hi-1)*t1<s2*q:=by
  have:=Int.lt_ediv_add_one_mul_self (-(s2*q)) t0;have e:(hi-1)*t1 = -((-(s2*q)/t1+1)*t1):=by rw[ehi];grind
  omega
 have c2:s1*q<(lo+1)*t2:=by rw[elo];exact Int.lt_ediv_add_one_mul_self _ (by omega)
 have c3:lo<=q:=by
  rw[elo];refine Int.ediv_le_of_le_mul (by omega) ?_
  have:=YW h2 (show 0<=q by omega)
  rw[Int.mul_comm q];omega
 have c4:0<=lo:=by rw[elo];exact Int.ediv_nonneg (Zc h0 (by omega)) (by omega)
 refine Int.not_lt.1 λ hn=>?_
 have W0:0<=W:=by omega
 have d1:=YW (show (lo+1)+(2*W+5)<=hi-1 by omega) (show 0<=t1 by omega)
 have d2:=Za h4 (show 0<=lo+1 by omega)
 have d3:=YW (show lo+1<=2*t1 by omega) W0
 have d4:=YW h1 (show 0<=q by omega)
 have e1:(lo+1+(2*W+5))*t1=(lo+1)*t2-(lo+1)*(t2-t1)+2*t1*W+5*t1:=by grind
 have e2:(s2-s1)*q=s2*q-s1*q:=by grind
 omega
theorem zHG (B:Nat):Iv B (Q B,Q B) (λ _=>1):=by
 have h:=(Iv.of B (n:=1) (d:=1) (by decide))
 have e:ofI 1 1 B=(Q B,Q B):=by unfold ofI;simp only[Int.ediv_one,Int.neg_neg,Int.one_mul]
 rw[e] at h;have e2:((1:Int):Rat)/((1:Int):Rat)=1:=by decide +kernel
 rw[e2] at h;exact h
theorem Iv.cap {B:Nat} {a:Int × Int} {x:Nat->Rat} (h:Iv B a x) (N0:Nat) (hx:∀ M,N0<=M->x M<=1):Iv B (a.1,if a.2<=Q B then a.2 else Q B) x:=by
 split
 ·exact h
 ·intro e he
  obtain⟨N,hN⟩:=h e he;refine⟨N+N0,λ M hM=>?_⟩
  have g:=(hN M (by omega)).1
  have g2:=hx M (by omega)
  have q:=jM B;have e1:(Q B:Rat)/(Q B:Rat)=1:=by rw[Rat.div_def,Rat.mul_inv_cancel _ (by grind)]
  simp only[];rw[e1];constructor<;>grind
namespace Ex
theorem zPW {x:Rat} (hx:0<=x) (n:Nat):∀ M,n<M->tm x n<=E x M/\0<E x M:=by
 intro M hM
 obtain⟨j,rfl⟩:∃ j,M=n+1+j:=⟨M-(n+1),by omega⟩
 have nn:∀ m,0<=E x m:=λ m=>by
  induction m with
  | zero=>exact Rat.le_refl
  | succ m ih =>
   have e:E x (m+1)=E x m+tm x m:=rfl;have:=zA4 hx m;rw[e];grind
 have one:∀ m,1<=E x (m+1):=λ m=>by
  induction m with
  | zero =>
   have e:E x (0+1)=E x 0+tm x 0:=rfl;have e0:E x 0=0:=rfl;have e1:tm x 0=1:=rfl;rw[e,e0,e1];decide +kernel
  | succ m ih =>
   have e:E x (m+1+1)=E x (m+1)+tm x (m+1):=rfl;have:=zA4 hx (m+1);rw[e];grind
 constructor
 ·induction j with
  | zero =>
   have e:E x (n+1+0)=E x n+tm x n:=rfl;have:=nn n;rw[e];grind
  | succ j ih =>
   have e:E x (n+1+(j+1))=E x (n+1+j)+tm x (n+1+j):=rfl;have:=zA4 hx (n+1+j);have:=ih (by omega)
   rw[e];grind
 ·have:=one (n+j)
  rw[show n+1+j=n+j+1 by omega];grind
end Ex
theorem zMC {p q:Int} (hq:0<q) (n:Nat):tm ((p:Rat)/(q:Rat)) n=((p ^ n:Int):Rat)/((q ^ n*zBA n:Int):Rat):=by
 have q0:(0:Rat)<(q:Rat):=by exact_mod_cast hq
 induction n with
 | zero =>
  have e:tm ((p:Rat)/(q:Rat)) 0=1:=rfl;have e2:zBA 0=1:=rfl;rw[e,e2,Int.pow_zero,Int.pow_zero];decide +kernel
 | succ n ih =>
  have e:tm ((p:Rat)/(q:Rat)) (n+1)=tm ((p:Rat)/(q:Rat)) n*((p:Rat)/(q:Rat))/((n:Rat)+1):=rfl;have e2:zBA (n+1)=zBA n*((n:Int)+1):=rfl;have k1:(0:Int)<q ^ n*zBA n:=Int.mul_pos (Int.pow_pos hq) (zCM n);have k2:(0:Int)<q ^ (n+1)*zBA (n+1):=Int.mul_pos (Int.pow_pos hq) (zCM (n+1));have r1:(0:Rat)<((q ^ n*zBA n:Int):Rat):=by exact_mod_cast k1
  have r2:(0:Rat)<((q ^ (n+1)*zBA (n+1):Int):Rat):=by exact_mod_cast k2
  have r3:=zBN n;rw[e,ih];have f1:=rdm (a:=((p ^ n:Int):Rat)) r1;have f2:=rdm (a:=(p:Rat)) q0;have f3:=rdm (a:=((p ^ (n+1):Int):Rat)) r2;have c1:((p ^ (n+1):Int):Rat)=((p ^ n:Int):Rat)*(p:Rat):=by rw[Int.pow_succ,Ze]
  have c2:((q ^ (n+1)*zBA (n+1):Int):Rat)=((q ^ n*zBA n:Int):Rat)*(q:Rat)*((n:Rat)+1):=by
   rw[e2,Int.pow_succ,show q ^ n*q*(zBA n*((n:Int)+1))=q ^ n*zBA n*q*((n:Int)+1) by grind,Ze,Ze,Rat.intCast_add]
   rfl
  generalize ((p ^ n:Int):Rat)/((q ^ n*zBA n:Int):Rat)=u at *;generalize (p:Rat)/(q:Rat)=v at *;have f4:=rdm (a:=u*v) r3;generalize u*v/((n:Rat)+1)=z at *;generalize ((p ^ (n+1):Int):Rat)/((q ^ (n+1)*zBA (n+1):Int):Rat)=y at *;rw[c2] at f3 r2;rw[c1] at f3;have:(z-y)*(((q ^ n*zBA n:Int):Rat)*(q:Rat)*((n:Rat)+1))=0:=by grind
  rcases Rat.mul_eq_zero.1 this with h|h<;>grind
def zGY (p q:Int) (n:Nat) (M:Nat):Rat:=((p ^ n:Int):Rat)/((q ^ n*zBA n:Int):Rat)/Ev (λ _=>(p:Rat)/(q:Rat)) M
theorem zAR {p q:Int} (hp:0<=p) (hq:0<q):(0:Rat)<=(p:Rat)/(q:Rat):=by
 have q0:(0:Rat)<(q:Rat):=by exact_mod_cast hq
 have p0:(0:Rat)<=(p:Rat):=by exact_mod_cast hp
 refine kG q0 ?_;grind
theorem rareX_bd {p q:Int} (hp:0<=p) (hq:0<q) (n M:Nat) (hM:n<M):0<=zGY p q n M/\zGY p q n M<=1:=by
 have h0:=zAR hp hq;obtain⟨h1,h2⟩:=zPW h0 n M hM;rw[zMC hq] at h1;have h3:=zAR (p:=p ^ n) (q:=q ^ n*zBA n) (Int.pow_nonneg hp) (Int.mul_pos (Int.pow_pos hq) (zCM n));unfold zGY Ev;constructor
 ·refine kG h2 ?_
  grind
 ·refine kF h2 ?_
  grind
end Go.Proofs.YtgmnknmjainabacGreat
