/-
  Its own texts.
-/
import Derived.Deep.CutBlock
import Derived.Test.YtgmnknmjainababGreatRows
import Derived.ProofKit
import Derived.OpenShut
import Derived.SizedLaws
import Derived.ChangeOld
import Derived.Test.YtgmnknmjainababGreatK25
set_option maxRecDepth 100000
set_option maxHeartbeats 40000000
set_option linter.unnecessarySimpa false
set_option linter.unusedSimpArgs false
set_option linter.unusedVariables false
namespace Go.Proofs.YtgmnknmjainababGreat
open Go.RowKit
attribute [local go_sem ↓] Go.wp_at_zero Go.wp_at_succ
open Ex
theorem zQL {n d:Int} (d0:0<d) (B:Nat):((ofI n d B).1:Rat)/(Q B:Rat)<=(n:Rat)/(d:Rat)/\(n:Rat)/(d:Rat)<=((ofI n d B).2:Rat)/(Q B:Rat):=by
 have k:=Has.of_constL (Iv.of B (n:=n) (d:=d) d0);exact k
theorem refLow {L G:Rat->Nat->Rat} {Xs:Int->Int->Nat->Rat} (hE:zM4 L G Xs) (w:World) (x:Nm) (pa qa ra sa X:Int) (B:Nat) (hx:IntAt w x.neg x.a x.n x.cap 100 X) (b0:40<=B) (b1:B<=200) (jt:rok pa qa) (eI:rok ra sa) (p0:0<pa) (pq:pa<=100*qa) (r0:0<ra) (rs:ra<=100*sa) (X0:0<X) (X2:2*X<=Q B) (hJ:Q B<=X*Q 11) :
  Calls Tryz.prog 148 #[.agg x.q,.agg #[.int .i64 pa,.int .i64 qa],.agg #[.int .i64 ra,.int .i64 sa],.int .i64 B] w (λ r w'=>∃ lo hi,LvOk L pa qa ra sa X B lo hi/\zJ w B 600000 lo hi r w'):=by
 obtain⟨a1,a2,a3,a4⟩:=id jt;obtain⟨c1,c2,c3,c4⟩:=id eI;have q0:0<qa:=by omega
 have s0:0<sa:=by omega
 obtain⟨s1,s2,s3,hn⟩:=bp_st p0 q0 pq (by omega) r0 s0 rs (by omega)
 have e1:0<=pa/qa:=Int.ediv_nonneg (by omega) (by omega)
 have e2:0<=ra/sa:=Int.ediv_nonneg (by omega) (by omega)
 obtain⟨K,hK⟩:∃ K:Nat,ra/sa=(K:Int):=⟨(ra/sa).toNat,by omega⟩
 obtain⟨m,hm⟩:∃ m:Nat,2*(B:Int)+6*(pa/qa+ra/sa)+200=(m:Int):=⟨(2*(B:Int)+6*(pa/qa+ra/sa)+200).toNat,by omega⟩
 have h:LpIn pa qa ra sa X B m K:=⟨p0,q0,pq,by omega,r0,s0,rs,by omega,X0,X2,hK,hm,b0,b1⟩
 obtain⟨N,n1,n2,n3⟩:=lp_ends h;have qB:=zG B;have q12:=zG 12;have m1:=XR (show 1<=Q 12 by omega) (show 0<=Q B by omega)
 exact zNV L _ _ _ w x pa qa ra sa X B hx m K N 11 hE.lns (bj_log hE s1 s2 s3) (zH5 hE s1 (by omega) (by omega)) (zH5 hE s2 (by omega) (by omega)) (zH5 hE s3 (by omega) (by omega)) jt eI h n1 n2 n3 hJ (by show X<Q B*Q 12;omega) (by omega)
theorem lv_turn {L:Rat->Nat->Rat} (hL:Lns L) {pa qa ra sa X:Int} {B:Nat} {lo hi:Int} (p0:0<pa) (q0:0<qa) (r0:0<ra) (s0:0<sa) (X0:0<X) (X1:X<Q B) (h:LvOk L ra sa pa qa (Q B-X) B lo hi):LvOk L pa qa ra sa X B (zAF (1*Q B,1*Q B) (lo,hi)).1 (zAF (1*Q B,1*Q B) (lo,hi)).2:=by
 have qB:=zG B;have QR:=zY B;have pr:(0:Rat)<(pa:Rat):=by exact_mod_cast p0
 have qr:(0:Rat)<(qa:Rat):=by exact_mod_cast q0
 have rr:(0:Rat)<(ra:Rat):=by exact_mod_cast r0
 have sr:(0:Rat)<(sa:Rat):=by exact_mod_cast s0
 have xr:(0:Rat)<(X:Rat):=by exact_mod_cast X0
 have lt:(X:Rat)/(Q B:Rat)<1:=by
  refine Rat.lt_of_mul_lt_mul_right (c:=(Q B:Rat)) ?_ (XV QR);rw[rdm QR];have:(X:Rat)<(Q B:Rat):=by exact_mod_cast X1
  grind
 have e:((Q B-X:Int):Rat)/(Q B:Rat)=1-(X:Rat)/(Q B:Rat):=by
  rw[Rat.intCast_sub,Yg,Yg];have:=Rat.mul_inv_cancel (Q B:Rat) (by grind)
  grind
 have iv:=h.iv;rw[e] at iv;have l0:=h.l0;have h1:=h.h1;refine⟨by show 0<=1*Q B-hi;omega,by show 1*Q B-lo<=Q B;omega,?_⟩
 have one:Iv B (1*Q B,1*Q B) (λ _=>1):=by rw[Int.one_mul];exact zMZ B
 exact (one.sub iv).congr (zJT hL (zH pr qr) (zH rr sr) (zH xr QR) lt)
theorem zMG {n d:Int} {B:Nat} (n0:0<n) (nd:n<d) (dd:d<=1024) (b0:10<=B):(0<(ofI n d B).1/\(ofI n d B).1<Q B/\Q B<=(ofI n d B).1*Q 11/\Q B<=(Q B-(ofI n d B).1)*Q 11)/\0<(ofI n d B).2/\(ofI n d B).2<Q B/\Q B<=(ofI n d B).2*Q 11/\Q B<=(Q B-(ofI n d B).2)*Q 11:=by
 have e:Q B=1024*Q (B-10):=by
  have:=jD 10 (B-10);rw[show 10+(B-10)=B by omega] at this
  rw[this];rfl
 have u0:=zG (B-10);have MA:Q 11=2048:=rfl;have d0:0<d:=by omega
 have le:=zGB (n:=n) d0 B
 have k1:Q (B-10)<=(ofI n d B).1:=by
  show Q (B-10)<=n*Q B/d
  refine Int.le_ediv_of_mul_le d0 ?_;have m1:=XR dd (show 0<=Q (B-10) by omega)
  have m2:=XK (show 1<=n by omega) (show 0<=Q B by omega)
  omega
 have k2:(ofI n d B).2<=Q B-Q (B-10):=by
  show -(-(n*Q B)/d)<=_
  have:Q (B-10)-Q B <= -(n*Q B)/d:=by
   refine Int.le_ediv_of_mul_le d0 ?_;have m1:=XR dd (show 0<=Q (B-10) by omega)
   have m2:=XK (show 1<=d-n by omega) (show 0<=Q B by omega)
   have r1:(Q (B-10)-Q B)*d=Q (B-10)*d-Q B*d:=by grind
   have r2:(d-n)*Q B=Q B*d-n*Q B:=by grind
   omega
  omega
 rw[MA];refine⟨⟨by omega,by omega,by omega,by omega⟩,by omega,by omega,by omega,by omega⟩
theorem pt_of {L:Rat->Nat->Rat} (hL:Lns L) {pa qa ra sa n d:Int} {B:Nat} {l1 u1 l2 u2:Int} (p0:0<pa) (q0:0<qa) (r0:0<ra) (s0:0<sa) (n0:0<n) (nd:n<d) (dd:d<=1024) (b0:10<=B) (h1:LvOk L pa qa ra sa (ofI n d B).1 B l1 u1) (h2:LvOk L pa qa ra sa (ofI n d B).2 B l2 u2):Iv B (l1,u2) (bvX L pa qa ra sa n d):=by
 have pr:(0:Rat)<(pa:Rat):=by exact_mod_cast p0
 have qr:(0:Rat)<(qa:Rat):=by exact_mod_cast q0
 have rr:(0:Rat)<(ra:Rat):=by exact_mod_cast r0
 have sr:(0:Rat)<(sa:Rat):=by exact_mod_cast s0
 have dr:(0:Rat)<(d:Rat):=by exact_mod_cast (show 0<d by omega)
 have nr:(0:Rat)<(n:Rat):=by exact_mod_cast n0
 have QR:=zY B;obtain⟨⟨a1,a2,_,_⟩,c1,c2,_,_⟩:=zMG n0 nd dd b0;obtain⟨k1,k2⟩:=zQL (n:=n) (show 0<d by omega) B
 have lr:(0:Rat)<((ofI n d B).1:Rat):=by exact_mod_cast a1
 have Kr:(n:Rat)/(d:Rat)<1:=by
  refine Rat.lt_of_mul_lt_mul_right (c:=(d:Rat)) ?_ (XV dr);rw[rdm dr];have:(n:Rat)<(d:Rat):=by exact_mod_cast nd
  grind
 have Ij:((ofI n d B).2:Rat)/(Q B:Rat)<1:=by
  refine Rat.lt_of_mul_lt_mul_right (c:=(Q B:Rat)) ?_ (XV QR);rw[rdm QR];have:((ofI n d B).2:Rat)<(Q B:Rat):=by exact_mod_cast c2
  grind
 unfold bvX;rw[if_neg (by omega),if_neg (by omega)]
 have m1:=zPN hL (zH pr qr) (zH rr sr) (zH lr QR) k1 Kr;have m2:=zPN hL (zH pr qr) (zH rr sr) (zH nr dr) k2 Ij;exact zD6 (a:=(l1,u1)) (c:=(l2,u2)) h1.iv h2.iv m1 m2
theorem zPM {L G:Rat->Nat->Rat} {Xs:Int->Int->Nat->Rat} (hE:zM4 L G Xs) (z:Int) (w:World) (x:Nm) (pa qa ra sa X:Int) (B:Nat) (hx:IntAt w x.neg x.a x.n x.cap 100 X) (hz:z=(B:Int)) (b0:40<=B) (b1:B<=200) (jt:rok pa qa) (eI:rok ra sa) (p0:0<pa) (pq:pa<=100*qa) (r0:0<ra) (rs:ra<=100*sa) (X0:0<X) (X1:X<Q B) (hJ:Q B<=X*Q 11) (cX:Q B<=(Q B-X)*Q 11) :
  Calls Tryz.prog 78 #[.agg x.q,.agg #[.int .i64 pa,.int .i64 qa],.agg #[.int .i64 ra,.int .i64 sa],.int .i64 z] w (λ r w'=>∃ lo hi,LvOk L pa qa ra sa X B lo hi/\zJ w B 600001 lo hi r w'):=by
 subst hz;have HE:=zC hE;have HJ:=zC (And.intro hJ cX);have HR:=zC (And.intro jt eI);have q0:0<qa:=by have:=jt.2.2.1;omega
 have s0:0<sa:=by have:=eI.2.2.1;omega
 have GY:=zC (show zF X 0=1 by unfold zF;rw[if_neg (by omega),if_pos (by omega)])
 have HC1:=zC (show zF X (Q B) = -1 by unfold zF;rw[if_pos X1])
 have HQ:=zC X1
 have HP:Hid (-P 100<Q B-X/\Q B-X<P 100):=zC (by
  have e:=zK (show B+1<=16*100 by omega)
  rw[Q_P] at e;have e2:Q (B+1)=2*Q B:=rfl;have:=zG B
  exact⟨by omega,by omega⟩)
 obtain⟨W,hW⟩:∃ W,W=(((w.alloc (.cells x.q 26)).alloc (.cells #[.int .i64 pa,.int .i64 qa] 23)).alloc (.cells #[.int .i64 ra,.int .i64 sa] 23)).alloc (.cells zCq 36):=⟨_,rfl⟩;have b8:Below w.heap.size w W:=by rw[hW];exact bl4 _ _ _ _ _
 have st:LvB w W x pa qa ra sa X:=⟨by rw[hW];exact⟨by simp[go_sem],by simp[go_sem]⟩,by rw[hW];exact⟨by simp[go_sem],by simp[go_sem]⟩,by rw[hW];exact⟨by simp[go_sem],by simp[go_sem]⟩,by rw[hW];exact⟨by simp[go_sem],by simp[go_sem],by simp[go_sem],by simp[go_sem],by simp[go_sem],λ o=>by simp[go_sem]⟩,hx.bw b8,b8⟩
 clear hx b8 hE hJ cX jt eI
 go_enter Tryz.func78,Tryz.ntmps78
 go_upto_region 1 with fail
 rw[<- hW];clear hW;go_wp2_with fail;refine (zB8 (e:=B) _ rfl _ (by omega)).mono ?_
 rintro z0 w1 ⟨g9,a1,n1,c1,rfl,k9,b7⟩;obtain⟨V1,M4⟩:∃ V,V=w1.alloc (.cells #[.bool g9,.slice a1 n1 c1] 26):=⟨_,rfl⟩;have aX:Below w1.heap.size w1 V1:=by rw[M4];exact bl1 _ _
 have O:NmC V1 w1.heap.size (⟨g9,a1,n1,c1⟩:Nm):=by rw[M4];constructor<;>simp[go_sem]
 have aW:=zC (k9.bw aX);have kO:w.heap.size+1+1+1<w1.heap.size:=Yd st.no.lt b7.size;replace st:=st.bw (zB b7 aX);clear b7 aX k9
 go_upto_region 2 with fail
 rw[<- M4];clear M4;have Z1:=st.c.c0;have Z2:=st.c.c1;have fl:=st.c.lt;go_wp2_with fail;clear Z1 Z2 fl;refine (yA _ _ _ _ _ X _ st.xp).mono ?_;rintro z1 w2 ⟨rfl,b9⟩;rw[zA GY];replace st:=st.bw b9;replace O:=O.bw b9;replace aW:=zC ((zA aW).bw b9);clear b9;have Z1:=st.c.c0;have Z2:=st.c.c1;have fl:=st.c.lt;have fo0:=O.c0;have fo1:=O.c1;have fol:=O.lt;go_wp2_with fail;clear Z1 Z2 fl fo0 fo1 fol;refine (zU _ _ _ _ _ _ _ _ 100 _ X (Q B) _ st.xp (zA aW)).mono ?_;rintro z2 w3 ⟨rfl,k8⟩;rw[zA HC1];replace st:=st.bw k8;replace O:=O.bw k8;replace aW:=zC ((zA aW).bw k8);clear k8;have Hz:=zC (show ∀ w',Below w3.heap.size w3 w'->(nK w' w.heap.size x (nK0 w' w1.heap.size (⟨g9,a1,n1,c1⟩:Nm))) from λ w' hB=>⟨(st.c.bw hB).c0,(st.c.bw hB).c1,(O.bw hB).c0,(O.bw hB).c1⟩)
 have C4:Below w3.heap.size w3 w3.drew:=(Below.refl _ _).drew;have fl:=st.c.lt;have fol:=O.lt
 go_upto_region 6 with fail
 go_cut [28] (λ v wx=>v=.bool (decide (2*X<=Q B))/\LvB w wx x pa qa ra sa X/\NmC wx w1.heap.size (⟨g9,a1,n1,c1⟩:Nm)/\IntAt wx g9 a1 n1 c1 (B/16+8) (Q B))
 case first =>
  obtain⟨x0,x1,x2,x3⟩:=zA Hz _ (Below.refl _ _);have e2x:X+X=2*X:=by omega
  rcases cmp3 (X+X) (Q B) with⟨h1,h2⟩|⟨h1,h2⟩|⟨h1,h2⟩
  ·have HD:=zC (show decide (2*X<=Q B)=true by simp;omega)
   have Ia:=zC h1;clear h1 h2
   go_region_held3 (λ w'=>nK w' w.heap.size x (nK0 w' w1.heap.size (⟨g9,a1,n1,c1⟩:Nm))) (first|exact zA Hz _ (by with_reducible first|exact C4|exact o7|exact A6)|(dsimp only[cK,cK0,nK,nK0,rK,rK0];go_keep)|go_keep)
    (first
     | (go_at_call 46;have H7:=A6;refine (zU _ _ _ _ _ _ _ _ _ _ (X+X) (Q B) _ D9 ((zA aW).bw A6)).mono ?_;rintro z4 w5 ⟨rfl,A7⟩;rw[zA Ia];have o7:=zB A6 A7)
     | (go_at_call 65;refine (kX _ _ _ _ _ _ _ _ 100 100 X X _ (st.xp.bw C4) (st.xp.bw C4) (by omega) (by omega)).mono ?_;rintro z3 w4 ⟨o9,a4,n4,c4,rfl,D9,m9⟩;have A6:=zB C4 m9))
   all_goals
    go_wp2_with fail;go_meet;exact⟨by rw[zA HD],st.bw o7,O.bw o7,(zA aW).bw o7⟩
  ·have HD:=zC (show decide (2*X<=Q B)=true by simp;omega)
   have Ia:=zC h1;clear h1 h2
   go_region_held3 (λ w'=>nK w' w.heap.size x (nK0 w' w1.heap.size (⟨g9,a1,n1,c1⟩:Nm))) (first|exact zA Hz _ (by with_reducible first|exact C4|exact o7|exact A6)|(dsimp only[cK,cK0,nK,nK0,rK,rK0];go_keep)|go_keep)
    (first
     | (go_at_call 46;have H7:=A6;refine (zU _ _ _ _ _ _ _ _ _ _ (X+X) (Q B) _ D9 ((zA aW).bw A6)).mono ?_;rintro z4 w5 ⟨rfl,A7⟩;rw[zA Ia];have o7:=zB A6 A7)
     | (go_at_call 65;refine (kX _ _ _ _ _ _ _ _ 100 100 X X _ (st.xp.bw C4) (st.xp.bw C4) (by omega) (by omega)).mono ?_;rintro z3 w4 ⟨o9,a4,n4,c4,rfl,D9,m9⟩;have A6:=zB C4 m9))
   all_goals
    go_wp2_with fail;go_meet;exact⟨by rw[zA HD],st.bw o7,O.bw o7,(zA aW).bw o7⟩
  ·have HD:=zC (show decide (2*X<=Q B)=false by simp;omega)
   have Ia:=zC h1;clear h1 h2
   go_region_held3 (λ w'=>nK w' w.heap.size x (nK0 w' w1.heap.size (⟨g9,a1,n1,c1⟩:Nm))) (first|exact zA Hz _ (by with_reducible first|exact C4|exact o7|exact A6)|(dsimp only[cK,cK0,nK,nK0,rK,rK0];go_keep)|go_keep)
    (first
     | (go_at_call 46;have H7:=A6;refine (zU _ _ _ _ _ _ _ _ _ _ (X+X) (Q B) _ D9 ((zA aW).bw A6)).mono ?_;rintro z4 w5 ⟨rfl,A7⟩;rw[zA Ia];have o7:=zB A6 A7)
     | (go_at_call 65;refine (kX _ _ _ _ _ _ _ _ 100 100 X X _ (st.xp.bw C4) (st.xp.bw C4) (by omega) (by omega)).mono ?_;rintro z3 w4 ⟨o9,a4,n4,c4,rfl,D9,m9⟩;have A6:=zB C4 m9))
   all_goals
    go_wp2_with fail;go_meet;exact⟨by rw[zA HD],st.bw o7,O.bw o7,(zA aW).bw o7⟩
 case rest =>
 obtain⟨rfl,J7,O2,bQ⟩:=hcut;clear st O aW Hz C4 fl fol
 by_cases O7:2*X<=Q B
 ·rw[decide_eq_true O7]
  have Ib:=zC O7;clear O7;have Z1:=J7.c.c0;have Z2:=J7.c.c1;have fl:=J7.c.lt;have fa0:=J7.a.c0;have fa1:=J7.a.c1;have fal:=J7.a.lt;have fd0:=J7.d.c0;have fd1:=J7.d.c1;have fdl:=J7.d.lt;go_wp2_with fail;clear Z1 Z2 fl fa0 fa1 fal fd0 fd1 fdl;refine (refLow (zA HE) _ x pa qa ra sa X B J7.xp b0 b1 (zA HR).1 (zA HR).2 p0 pq r0 rs X0 (zA Ib) (zA HJ).1).mono ?_;rintro z5 w6 ⟨lo,hi,tC,t,rfl,I7,Q9,G3⟩;have dX:=zC tC;have HT:=zC I7;have lR:=J7.no.lt;obtain⟨eE,nQ,gN,sT,sV,q5'⟩:=J7.no.bw G3;have GM:=zB J7.be G3;clear tC I7 G3;go_wp2_with fail;refine bodyPost_ret (v:=.agg t.q) (by simp[results,Tryz.results78,go_sem,eE,nQ,gN,sT,sV]) rfl ⟨lo,hi,zA dX,t,rfl,zA HT,?_,?_⟩
  ·exact SpAt.put5 (Q9.mono (by omega)) eE nQ gN sT sV _ _ _ _ _
  ·exact kB GM (by omega) _ _ _ _ _
 ·rw[decide_eq_false O7]
  have Ib:=zC O7;have Ja:=zC (show 0<Q B-X/\2*(Q B-X)<=Q B by have:=zA HQ;omega)
  clear O7;have Z5:=zC (show ∀ w',Below wc.heap.size wc w'->(nK w' w.heap.size x (nK w' w1.heap.size (⟨g9,a1,n1,c1⟩:Nm) (rK w' (w.heap.size+1) pa qa (rK0 w' (w.heap.size+1+1) ra sa)))) from λ w' hB=>⟨(J7.c.bw hB).c0,(J7.c.bw hB).c1,(O2.bw hB).c0,(O2.bw hB).c1,(J7.a.bw hB).c0,(J7.a.bw hB).c1,(J7.d.bw hB).c0,(J7.d.bw hB).c1⟩)
  have C4:Below wc.heap.size wc wc.drew:=(Below.refl _ _).drew;have fl:=J7.c.lt;have fol:=O2.lt;have fal:=J7.a.lt;have fdl:=J7.d.lt;have lR:=J7.no.lt;have R:=J7.no;have GM:=J7.be;have Qy:=zC J7.xp;have HOI:=zC bQ;have vz:w.heap.size+1+1+1≠w1.heap.size:=by omega
  have nRa:w.heap.size+1+1≠w.heap.size:=by omega
  have nRb:w.heap.size+1+1+1≠w.heap.size:=by omega
  clear J7 O2 bQ;go_wp2_with fail;obtain⟨x0,x1,x2,x3,x4,x5,x6,x7⟩:=zA Z5 _ (Below.refl _ _)
  go_region_held3 (λ w'=>nK w' w.heap.size x (nK w' w1.heap.size (⟨g9,a1,n1,c1⟩:Nm) (rK w' (w.heap.size+1) pa qa (rK0 w' (w.heap.size+1+1) ra sa)))) (first|exact zA Z5 _ (by with_reducible first|exact C4|exact L5|exact E2|exact o7|exact A6)|(dsimp only[cK,cK0,nK,nK0,rK,rK0];go_keep)|go_keep)
   (first
    | (go_at_call 26;have H7:=E2;refine (zFR _ v1 v3 600000 B (1*Q B,1*Q B) (lo,hi) ((k9.bw b9).bw k8 |>.mono (by omega)) A8 (by omega) (zA F1)).mono ?_;rintro z9 g4 ⟨v4,rfl,S6,D9,m9⟩;have F4:=zC S6;clear S6;have L5:=zB E2 m9;obtain⟨eE,nQ,gN,sT,sV,q5'⟩:=R.bw L5)
    | (go_at_call 148;have H7:=o7;refine (refLow (zA HE) _ ⟨b6,a2,n2,c2⟩ ra sa pa qa (Q B-X) B (o0.fits (zA HP).1 (zA HP).2) b0 b1 (zA HR).2 (zA HR).1 r0 rs p0 pq (zA Ja).1 (zA Ja).2 (zA HJ).2).mono ?_;rintro z8 g3 ⟨lo,hi,tC,v3,rfl,E6,A8,k8⟩;have dX:=zC tC;clear tC E6;have E2:=zB o7 k8)
    | (go_at_call 72;have H7:=A6;refine (zAD _ _ _ _ _ _ _ _ (B/16+8) 100 (Q B) X _ ((zA HOI).bw A6) ((zA Qy).bw A6) (by omega) (by omega)).mono ?_;rintro z7 g2 ⟨b6,a2,n2,c2,rfl,o0,b9⟩;have o7:=zB A6 b9)
    | (go_at_call 27;refine (zDS _ 1 B (by omega) (by omega) (by omega)).mono ?_;rintro z6 g1 ⟨v1,rfl,D6,k9,b7⟩;have F1:=zC D6;clear D6;have A6:=zB C4 b7))
  all_goals
   have pI:=zC (lv_turn (zA HE).lns p0 q0 r0 s0 X0 (zA HQ) (zA dX));go_wp2_with fail;refine bodyPost_ret (v:=.agg v4.q) (by simp[results,Tryz.results78,go_sem,eE,nQ,gN,sT,sV]) rfl ⟨_,_,zA pI,v4,rfl,zA F4,?_,?_⟩
   ·exact SpAt.put5 D9 eE nQ gN sT sV _ _ _ _ _
   ·exact kB (zB GM L5) (by omega) _ _ _ _ _
theorem zQQ {L G:Rat->Nat->Rat} {Xs:Int->Int->Nat->Rat} (hE:zM4 L G Xs) (w:World) (s:Sp) (pa qa ra sa n d:Int) (B:Nat) (hs:SpAt w s 100 (ofI n d B).1 (ofI n d B).2) (hbits:s.bits=(B:Int)) (b0:40<=B) (b1:B<=200) (jt:rok pa qa) (eI:rok ra sa) (p0:0<pa) (pq:pa<=100*qa) (r0:0<ra) (rs:ra<=100*sa) (n0:0<n) (nd:n<d) (dd:d<=1024) :
  Calls Tryz.prog 32 #[.agg s.q,.agg #[.int .i64 pa,.int .i64 qa],.agg #[.int .i64 ra,.int .i64 sa]] w (λ r w'=>∃ lo hi,Iv B (lo,hi) (bvX L pa qa ra sa n d)/\zJ w B 600001 lo hi r w'):=by
 obtain⟨W,hW⟩:∃ W,W=(((w.alloc (.cells s.q 36)).alloc (.cells #[.int .i64 pa,.int .i64 qa] 23)).alloc (.cells #[.int .i64 ra,.int .i64 sa] 23)).alloc (.cells zCq 36):=⟨_,rfl⟩;have b8:Below w.heap.size w W:=by rw[hW];exact bl4 _ _ _ _ _
 have S:SpC W w.heap.size s:=by rw[hW];constructor<;>simp[go_sem]
 have A:RaC W (w.heap.size+1) pa qa:=by rw[hW];constructor<;>simp[go_sem]
 have D:RaC W (w.heap.size+1+1) ra sa:=by rw[hW];constructor<;>simp[go_sem]
 have R:NoC W (w.heap.size+1+1+1):=by rw[hW];constructor<;>simp[go_sem]
 have HS:=zC (hs.bw b8);have HB:=zC hbits;have lS:=S.lt;have lA:=A.lt;have lD:=D.lt;have lR:=R.lt;have HK:=zC (show ∀ w',Below W.heap.size W w'->(cK w' w.heap.size s (rK w' (w.heap.size+1) pa qa (rK0 w' (w.heap.size+1+1) ra sa))) from λ w' hB=>⟨(S.bw hB).c0,(S.bw hB).c1,(S.bw hB).c2,(S.bw hB).c3,(S.bw hB).c4,(A.bw hB).c0,(A.bw hB).c1,(D.bw hB).c0,(D.bw hB).c1⟩)
 have tE:=zC (zMG n0 nd dd (show 10<=B by omega))
 have Cs:=zC (And.intro jt eI);have vZ:=zC (And.intro b0 b1);have dP:=zC (And.intro p0 (And.intro pq (And.intro r0 rs)));have Si:=zC (And.intro n0 (And.intro nd dd));have HE:=zC hE;clear hs hbits A D S jt eI b0 b1 p0 pq r0 rs n0 nd dd hE
 go_enter Tryz.func32,Tryz.ntmps32
 go_wp2_with fail;rw[<- hW];clear hW;have n1:w.heap.size+1+1+1≠w.heap.size:=by omega
 have n2:w.heap.size+1+1≠w.heap.size:=by omega
 have n3:w.heap.size+1+1+1≠w.heap.size+1:=by omega
 have n4:w.heap.size+1+1+1≠w.heap.size+1+1:=by omega
 obtain⟨x0,x1,x2,x3,x4,x5,x6,x7,x8⟩:=zA HK _ (Below.refl _ _);have m8:Below W.heap.size W W.drew:=(Below.refl _ _).drew;have pS:=zCK;have BF:=zH4
 go_region_held3 (λ w'=>cK w' w.heap.size s (rK w' (w.heap.size+1) pa qa (rK0 w' (w.heap.size+1+1) ra sa))) (first|exact zA HK _ (by with_reducible first|exact m8|exact j9|exact j7)|(dsimp only[cK,cK0,nK,nK0,rK,rK0];go_keep)|go_keep)
  (first
   | (go_at_call 78;have H7:=j7;refine (zPM (zA HE) _ _ ⟨s.hn,s.ha,s.hN,s.hc⟩ pa qa ra sa (ofI n d B).2 B ((zA HS).hi.bw j7) (zA HB) (zA vZ).1 (zA vZ).2 (zA Cs).1 (zA Cs).2 (zA dP).1 (zA dP).2.1 (zA dP).2.2.1 (zA dP).2.2.2 (zA tE).2.1 (zA tE).2.2.1 (zA tE).2.2.2.1 (zA tE).2.2.2.2).mono ?_;rintro r' w2 ⟨Cg,bQ,k2,v2,rfl,G7,o0,b9⟩;have j9:=zB j7 b9;have jg:=zC k2;clear G7 k2;replace k9:=k9.bw b9;obtain⟨q0,q1,q2,q3,q4,q5⟩:=R.bw j9)
   | (go_at_call 78;refine (zPM (zA HE) _ _ ⟨s.ln,s.la,s.lN,s.lc⟩ pa qa ra sa (ofI n d B).1 B ((zA HS).lo.bw m8) (zA HB) (zA vZ).1 (zA vZ).2 (zA Cs).1 (zA Cs).2 (zA dP).1 (zA dP).2.1 (zA dP).2.2.1 (zA dP).2.2.2 (zA tE).1.1 (zA tE).1.2.1 (zA tE).1.2.2.1 (zA tE).1.2.2.2).mono ?_;rintro r' w1 ⟨gX,O9,k1,v1,rfl,D6,k9,b7⟩;have j7:=zB m8 b7;have ia:=zC k1;clear D6 k1))
 all_goals
  have HO:=zC (show Iv B (gX,bQ) (bvX L pa qa ra sa n d) from pt_of (zA HE).lns (zA dP).1 (by have:=(zA Cs).1.2.2.1;omega) (zA dP).2.2.1 (by have:=(zA Cs).2.2.2.1;omega) (zA Si).1 (zA Si).2.1 (zA Si).2.2 (by have:=(zA vZ).1;omega) (zA ia) (zA jg))
  go_wp2_with fail;refine bodyPost_ret (v:=.agg #[.bool v1.ln,.slice v1.la v1.lN v1.lc,.bool v2.hn,.slice v2.ha v2.hN v2.hc,.int .i64 s.bits]) (by simp[results,Tryz.results32,go_sem,q0,q1,q2,q3,q4]) rfl ⟨gX,bQ,zA HO,⟨v1.ln,v1.la,v1.lN,v1.lc,v2.hn,v2.ha,v2.hN,v2.hc,s.bits⟩,rfl,zA HB,?_,?_⟩
  ·exact SpAt.put5 (show SpAt _ (⟨v1.ln,v1.la,v1.lN,v1.lc,v2.hn,v2.ha,v2.hN,v2.hc,s.bits⟩:Sp) _ gX bQ from⟨k9.lo,o0.hi⟩) q0 q1 q2 q3 q4 _ _ _ _ _
  ·exact kB (zB b8 j9) (by omega) _ _ _ _ _
def bE (n d p q r s bt:Int):Int:=if ¬ ((rok n d/\rok p q/\rok r s)/\8<=bt/\bt<=120) then 3 else if n<0\/d<n then 5 else if p<=0\/r<=0 then 5 else if 100*q<p\/100*s<r then 2 else 0
theorem zEB {n d p q r s bt:Int} (h:bE n d p q r s bt=0):((rok n d/\rok p q/\rok r s)/\8<=bt/\bt<=120)/\(0<=n/\n<=d)/\(0<p/\p<=100*q)/\0<r/\r<=100*s:=by
 unfold bE at h;split at h
 ·omega
 ·rename_i k
  have k:=Classical.not_not.1 k;split at h
  ·omega
  ·split at h
   ·omega
   ·split at h
    ·omega
    ·exact⟨k,⟨by omega,by omega⟩,⟨by omega,by omega⟩,by omega,by omega⟩
theorem bpAr_of {n d p q r s bt:Int} (h:bE n d p q r s bt=0) {B:Nat} (h0:40<=B) (h1:B<=400):BpAr p q r s n d B:=by
 obtain⟨⟨⟨⟨a1,a2,a3,a4⟩,⟨c1,c2,c3,c4⟩,⟨e1,e2,e3,e4⟩⟩,_⟩,⟨f1,f2⟩,⟨g1,g2⟩,i1,i2⟩:=zEB h;exact⟨g1,by omega,g2,by omega,i1,by omega,i2,by omega,f1,f2,by omega,by omega,h0,h1⟩
theorem rats3' (w:World) (B:Nat) (hB:w.heap.size=B) (n d p q r s:Int) (T:TypeId):Rats (w.alloc (.cells #[.int .i64 n,.int .i64 d,.int .i64 p,.int .i64 q,.int .i64 r,.int .i64 s] T)) B 3 (λ j=>if j=0 then n else if j=1 then p else r) (λ j=>if j=0 then d else if j=1 then q else s):=by
 subst hB;refine⟨by simp,?_,?_⟩
 all_goals
  intro j hj
  match j,hj with
  | 0,_=>simp
  | 1,_=>simp
  | 2,_=>simp
theorem rf3 {n d p q r s bt z:Int} (h:RFlt bt (λ j=>if j=0 then n else if j=1 then p else r) (λ j=>if j=0 then d else if j=1 then q else s) 3 z):(z=0/\(rok n d/\rok p q/\rok r s)/\8<=bt/\bt<=120)\/(z=3/\¬ ((rok n d/\rok p q/\rok r s)/\8<=bt/\bt<=120)):=by
 rcases h with⟨rfl,h1,h2⟩|⟨rfl,h1⟩
 ·exact Or.inl ⟨rfl,⟨h2 0 (by omega),h2 1 (by omega),h2 2 (by omega)⟩,h1⟩
 ·refine Or.inr ⟨rfl,λ k=>h1 ⟨k.2,λ j hj=>?_⟩⟩
  match j with
  | 0=>exact k.1.1
  | 1=>exact k.1.2.1
  | 2=>exact k.1.2.2
  | j+3=>omega
theorem shf2 {p q r s z:Int} (h:ShF (λ j=>if j=0 then p else r) (λ j=>if j=0 then q else s) 2 z):z=if p<=0\/r<=0 then 5 else if 100*q<p\/100*s<r then 2 else 0:=by
 rcases h with⟨rfl,j,cV,hj⟩|⟨rfl,hp,j,cV,hj⟩|⟨rfl,hp⟩
 ·have:p<=0\/r<=0:=by
   match j,cV with
   | 0,_=>exact Or.inl hj
   | 1,_=>exact Or.inr hj
  rw[if_pos this]
 ·have h0:0<p:=hp 0 (by omega)
  have h1:0<r:=hp 1 (by omega)
  have:100*q<p\/100*s<r:=by
   match j,cV with
   | 0,_=>exact Or.inl hj
   | 1,_=>exact Or.inr hj
  rw[if_neg (by omega),if_pos this]
 ·have h0:0<p/\p<=100*q:=hp 0 (by omega)
  have h1:0<r/\r<=100*s:=hp 1 (by omega)
  rw[if_neg (by omega),if_neg (by omega)]
theorem bFault (w:World) (n d p q r s bt:Int) :
  Calls Tryz.prog 73 #[.agg #[.int .i64 n,.int .i64 d],.agg #[.int .i64 p,.int .i64 q],.agg #[.int .i64 r,.int .i64 s],.int .i64 bt] w (λ z w'=>z=.returned (.int .i64 (bE n d p q r s bt))/\Below w.heap.size w w'):=by
 obtain⟨W,hW⟩:∃ W,W=((w.alloc (.cells #[.int .i64 n,.int .i64 d] 23)).alloc (.cells #[.int .i64 p,.int .i64 q] 23)).alloc (.cells #[.int .i64 r,.int .i64 s] 23):=⟨_,rfl⟩;have b8:Below w.heap.size w W:=by rw[hW];exact bl3 _ _ _ _
 have C:RaC W w.heap.size n d:=by rw[hW];constructor<;>simp[go_sem]
 have A:RaC W (w.heap.size+1) p q:=by rw[hW];constructor<;>simp[go_sem]
 have D:RaC W (w.heap.size+1+1) r s:=by rw[hW];constructor<;>simp[go_sem]
 have O6:W.heap.size=w.heap.size+1+1+1:=by rw[hW];simp
 have c0:=C.c0;have c1:=C.c1;have a0:=A.c0;have a1:=A.c1;have d0:=D.c0;have d1:=D.c1
 go_enter Tryz.func73,Tryz.ntmps73
 go_wp2_with fail;rw[<- hW];clear hW c0 c1 a0 a1 d0 d1;refine (zGF bt _ 3 _ (λ j=>if j=0 then n else if j=1 then p else r) (λ j=>if j=0 then d else if j=1 then q else s) _ (rats3' W _ O6 n d p q r s _) (by omega)).mono ?_
 rintro z0 w1 ⟨z1,rfl,hf,b7⟩;have K6:Below W.heap.size W w1:=zB (bl1 _ _) b7;replace A:=A.bw K6;replace C:=C.bw K6;replace D:=D.bw K6;replace b8:=zB b8 K6;clear b7 K6 O6
 rcases rf3 hf with⟨rfl,tC⟩|⟨rfl,Ic⟩
 ·have dX:=zC tC
  clear hf tC;have c0:=C.c0;have c1:=C.c1;have a0:=A.c0;have a1:=A.c1;have d0:=D.c0;have d1:=D.c1;have lA:=A.lt;have lC:=C.lt;have lD:=D.lt
  by_cases hn:n<0
  ·go_wp2_with fail
   refine bodyPost_ret (v:=.int .i64 5) (by simp[results,Tryz.results73,go_sem]) rfl ⟨?_,b8⟩
   unfold bE;rw[if_neg (λ k=>k (zA dX)),if_pos (Or.inl hn)]
  ·by_cases hd:d<n
   ·go_wp2_with fail
    refine bodyPost_ret (v:=.int .i64 5) (by simp[results,Tryz.results73,go_sem]) rfl ⟨?_,b8⟩
    unfold bE;rw[if_neg (λ k=>k (zA dX)),if_pos (Or.inr hd)]
   ·go_wp2_with fail
    refine (zGI _ 2 _ (λ j=>if j=0 then p else r) (λ j=>if j=0 then q else s) _ (rats2' w1 _ rfl p q r s _) (by omega) (two_all (by simpa using (zA dX).1.2.1) (by simpa using (zA dX).1.2.2))).mono ?_
    rintro z2 w2 ⟨z3,rfl,hf2,b9⟩;obtain rfl:=shf2 hf2;replace b8:=zB (zB b8 (bl1 _ _)) b9;obtain⟨e,he⟩:∃ e:Int,e=(if p<=0\/r<=0 then 5 else if 100*q<p\/100*s<r then 2 else 0):=⟨_,rfl⟩
    have HV:=zC (show bE n d p q r s bt=e by
     rw[he];unfold bE
     rw[if_neg (λ k=>k (zA dX)),if_neg (by omega)])
    rw[<- he];clear he hf2 b9 a0 a1 d0 d1 c0 c1;go_wp2_with fail;exact bodyPost_ret (v:=.int .i64 e) (by simp[results,Tryz.results73,go_sem]) rfl ⟨by rw[zA HV],b8⟩
 ·have HB:=zC Ic
  clear hf Ic;go_wp2_with fail;refine bodyPost_ret (v:=.int .i64 3) (by simp[results,Tryz.results73,go_sem]) rfl ⟨?_,b8⟩
  unfold bE;rw[if_pos (zA HB)]
structure BpV (L:Rat->Nat->Rat) (p q r s n d:Int) (b:Nat) (l h:Int):Prop where
 v:SuV (bvX L p q r s n d) b l h
 lo:0<=l
 hi:h<=Q b
 z:n=0->l=0/\h=0
 o:n=d->l=Q b/\h=Q b
theorem sure_bp {L:Rat->Nat->Rat} {p q r s n d:Int} {b:Nat} {l h:Int} (k:zLM b (λ B lo hi=>BpPr L p q r s n d B lo hi) l h):BpV L p q r s n d b l h:=by
 obtain⟨m,lo,hi,pr,hm,e1,e2,h6⟩:=k;obtain⟨v,a,c⟩:=sure_lw (x:=bvX L p q r s n d) (b:=b) (L:=l) (H:=h) ⟨m,lo,hi,pr.pr,hm,e1,e2,h6⟩;have q:=zG m;refine⟨v,a,c,λ k=>?_,λ k=>?_⟩
 ·obtain⟨k1,k2⟩:=pr.z k
  subst k1 k2;rw[e1,e2];simp
 ·obtain⟨k1,k2⟩:=pr.o k
  subst k1 k2;rw[e1,e2,jD];have r1:Q b*Q m/Q m=Q b:=Int.mul_ediv_cancel _ (by omega)
  have r2 : -(Q b*Q m)/Q m = -Q b:=by rw[<- Int.neg_mul];exact Int.mul_ediv_cancel _ (by omega)
  rw[r1,r2];exact⟨rfl,by omega⟩
theorem bpm (L G:Rat->Nat->Rat) (X:Int->Int->Nat->Rat) (hE:zM4 L G X) (w:World) (B0 B1 B2:Nat) (n d p q r s bt:Int) (b:Nat) (C:RaC w B0 n d) (A:RaC w B1 p q) (D:RaC w B2 r s) (h:bE n d p q r s bt=0) (b0:40<=b) (b1:b<=400) :
  Calls Tryz.prog 75 #[.int .i64 (b:Int),.pointer (some ⟨B0,0,none⟩),.pointer (some ⟨B1,0,none⟩),.pointer (some ⟨B2,0,none⟩)] w (λ z w'=>∃ lo hi,BpPr L p q r s n d b lo hi/\zJ w b 61 lo hi z w'):=by
 have R:=zM w 28;have l0:=C.lt;have l1:=A.lt;have l2:=D.lt;obtain⟨W,hW⟩:∃ W,W=w.alloc (.cells zCq 28):=⟨_,rfl⟩;rw[<- hW] at R;have b8:Below w.heap.size w W:=by rw[hW];exact bl1 _ _
 replace A:=A.bw b8;replace C:=C.bw b8;replace D:=D.bw b8;have HK:=zC (show ∀ w',Below W.heap.size W w'->(rK w' B0 n d (rK w' B1 p q (rK0 w' B2 r s))) from λ w' hB=>⟨(C.bw hB).c0,(C.bw hB).c1,(A.bw hB).c0,(A.bw hB).c1,(D.bw hB).c0,(D.bw hB).c1⟩)
 have Sh:=zC (bpAr_of h b0 b1);have HE:=zC hE;obtain⟨⟨⟨⟨r1,r2,r3,r4⟩,_⟩,_⟩,_⟩:=zEB h;have C4:Below W.heap.size W W.drew:=(Below.refl _ _).drew;have n0:w.heap.size≠B0:=by omega
 have n1:w.heap.size≠B1:=by omega
 have n2:w.heap.size≠B2:=by omega
 have lR:=R.lt;clear A C D h hE
 go_enter Tryz.func75,Tryz.ntmps75
 go_wp2_with fail;rw[<- hW];clear hW;obtain⟨x0,x1,x2,x3,x4,x5⟩:=zA HK _ (Below.refl _ _)
 go_region_held3 (λ w'=>rK w' B0 n d (rK w' B1 p q (rK0 w' B2 r s))) (first|exact zA HK _ (by with_reducible first|exact C4|exact E2|exact o7|exact A6)|(dsimp only[cK,cK0,nK,nK0,rK,rK0];go_keep)|go_keep)
  (first
   | (go_at_call 76;have H7:=o7;refine (part_iv L G X (zA HE) _ ⟨g9,a1,m1,c1⟩ ⟨b6,a2,m2,c2⟩ p q r s n d b (k9.bw b9) o0 (zA Sh)).mono ?_;rintro z w3 ⟨lo,hi,hlp,v3,rfl,E6,A8,k8⟩;have HLP:=zC hlp;have F3:=zC E6;clear hlp E6;have E2:=zB o7 k8;obtain⟨q0,q1,q2,q3,q4,q5⟩:=R.bw E2)
   | (go_at_call 43;have H7:=A6;refine (zD d _ (by omega) (by omega)).mono ?_;rintro z w2 ⟨b6,a2,m2,c2,rfl,o0,b9⟩;have o7:=zB A6 b9)
   | (go_at_call 43;refine (zD n _ (by omega) (by omega)).mono ?_;rintro z w1 ⟨g9,a1,m1,c1,rfl,k9,b7⟩;have A6:=zB C4 b7))
 all_goals
  go_wp2_with fail;refine bodyPost_ret (v:=.agg v3.q) (by simp[results,Tryz.results75,go_sem,q0,q1,q2,q3,q4]) rfl ⟨lo,hi,zA HLP,v3,rfl,zA F3,?_,?_⟩
  ·exact SpAt.put5 A8 q0 q1 q2 q3 q4 _ _ _ _ _
  ·exact kB (zB b8 E2) (XW _) _ _ _ _ _
theorem sure_bpt (p1 p2 p3:Value) (bits Kw KD:Nat) (Pr:Nat->Int->Int->Prop) (W:World) (hb:bits<=120) (hKw:Kw<=900000) (hKD:KD<=100000000) (hE:zMQ bits Kw Pr)
  (hF:∀ (m:Nat) w',32<=m->m<=Kw+120->Below W.heap.size W w'->Calls Tryz.prog 75 #[.int .i64 ((bits:Int)+m),p1,p2,p3] w' (λ r Ci=>∃ lo hi,Pr (bits+m) lo hi/\zJ w' ((bits:Int)+m) KD lo hi r Ci)) :
  Calls Tryz.prog 74 #[.int .i64 bits,.func (.func 75) #[] #[p1,p2,p3]] W (λ r w'=>∃ L H,zLM bits Pr L H/\zJ W bits 250 L H r w'):=by
 have HF:=zC hF;have HE:=zC hE;clear hF hE;have IC:=zM W 28
 go_enter Tryz.func74,Tryz.ntmps74
 go_wp2_with fail
 go_loopw [5,6] (λ mm tt wr=>∃ m t:Nat,mm=.int .i64 (m:Int)/\tt=.int .i64 (t:Int)/\SureInv Kw m t/\NoC wr W.heap.size/\Below W.heap.size W wr) (λ mm _ _=>Kw+200-(intOf mm).toNat)
 case atStart=>exact⟨32,1,rfl,rfl,⟨XW _,XW _,by omega,Or.inl ⟨by omega,by omega⟩⟩,IC,bl1 _ _⟩
 case round =>
  obtain⟨m,t,rfl,rfl,hinv,R,hB⟩:=hrel;obtain⟨hm,ht,htm,hmt⟩:=hinv;have hmK:m<=Kw+120:=by omega
  have HI:=zC hmt;clear hmt;go_wp2_with fail;refine (zA HF m _ hm hmK hB).mono ?_;rintro r w1 ⟨lo,hi,Sj,s,rfl,dA,IB,b7⟩;replace R:=R.bw b7;replace hB:=zB hB b7;clear b7;obtain⟨e1,e2,e3,e4⟩:=zA HE m lo hi Sj;obtain⟨v1,v2,v3⟩:=zLT (m:=m) e1 e2;obtain⟨f1,f2⟩:=to_fit e3 e4;have HPr:=zC Sj;have HV:=zC (And.intro v2 v3);have EB:0<=s.bits:=by omega
  have hs1:s.bits<=1000000:=by omega
  have d1:zBC lo (s.bits-bits)=lo/Q m:=by unfold zBC;rw[dA,if_pos (by omega)];congr 2;omega
  have d2:zBC (-hi) (s.bits-bits) = -hi/Q m:=by unfold zBC;rw[dA,if_pos (by omega)];congr 2;omega
  have HD1:=zC d1;have gY:=zC d2;clear Sj e1 e2 e3 e4 v2 v3 d1 d2 dA;go_wp2_with fail;refine (zN6 _ s KD bits lo hi IB (by omega) EB hs1 (by omega) (by omega)).mono ?_
  rintro r w2 ⟨u,rfl,I0,E9,b9⟩;rw[zA HD1,zA gY] at E9;obtain⟨L,hL⟩:∃ L,L=lo/Q m:=⟨_,rfl⟩;obtain⟨H,hH⟩:∃ H,H = -(-hi/Q m):=⟨_,rfl⟩;rw[<- hL,<- hH] at E9 v1;rw[<- hL] at f1;rw[<- hH] at f2;have oA:=zC (show (Kw<=m->H-L<=2)/\(m<=Kw->H-L<=Q (Kw-m)+1) by rw[hL,hH];exact zA HV)
  have HL:=zC hL;have HH:=zC hH;replace E9:=E9.fits (K:=250) (by omega) f1 f2
  replace R:=R.bw b9;replace hB:=zB hB b9;have tX:=zC I0;clear b9 hL hH I0 EB hs1 HD1 gY HV IB;have lR:=R.lt;obtain⟨V,hV⟩:∃ V,V=w2.alloc (.cells u.q 28):=⟨_,rfl⟩;have bV:Below w2.heap.size w2 V:=by rw[hV];exact bl1 _ _
  have U:SpC V w2.heap.size u:=by rw[hV];exact⟨by simp,by simp,by simp,by simp,by simp⟩
  replace R:=R.bw bV;replace hB:=zB hB bV;replace E9:=E9.bw bV;clear bV;go_wp2_with fail;rw[<- hV];clear hV;refine (zAD _ _ _ _ _ _ _ _ 250 250 H L _ E9.hi E9.lo (by omega) (by omega)).mono ?_
  rintro r w3 ⟨p9,a3,n3,c3,rfl,A8,k8⟩;replace U:=U.bw k8;replace R:=R.bw k8;replace hB:=zB hB k8;replace E9:=E9.bw k8;clear k8;go_wp2_with fail;refine (zB2 _ _ _ _ _ (H-L) _ A8 v1).mono ?_;rintro r w4 ⟨l,hlen,rfl,m9⟩;replace U:=U.bw m9;replace R:=R.bw m9;replace hB:=zB hB m9;replace E9:=E9.bw m9;clear m9 A8
  have Tz:0<=l/\l<=Kw+2/\(m<=Kw->l<=Kw-m+2)/\(Kw<=m->l<=2):=by
   obtain⟨g1,g2⟩:=zA oA;refine⟨hlen.1,?_,λ h=>?_,λ h=>?_⟩
   ·rcases Nat.le_total m Kw with h|h
    ·have:=zQ1 (K:=Kw-m) hlen (g2 h) v1;omega
    ·have:=zOZ hlen (g1 h) v1;omega
   ·have:=zQ1 (K:=Kw-m) hlen (g2 h) v1;omega
   ·exact zOZ hlen (g1 h) v1
  obtain⟨CK,O5,Z3,Bb⟩:=Tz;have xV:=zC (And.intro Z3 Bb);have Sk:=zC hlen;clear Z3 Bb hlen;have lU:=U.lt;have Y1:=R.lt;have nRU:W.heap.size≠w2.heap.size:=by omega
  have nRU':w2.heap.size≠W.heap.size:=by omega
  have HU:=zC U;obtain⟨x0,x1,x2,x3,x4⟩:=U
  by_cases hc:l<=1
  ·have hN:=R
   obtain⟨q0,q1,q2,q3,q4,q5⟩:=R;have Hc:=zC hc;go_wp2_with fail;refine bodyPost_ret (v:=.agg u.q) (by simp[results,Tryz.results74,go_sem,q0,q1,q2,q3,q4]) rfl ⟨L,H,⟨m,lo,hi,zA HPr,hm,zA HL,zA HH,Or.inl (zKL (zA Sk) (zA Hc) v1)⟩,u,rfl,zA tX,?_,?_⟩
   ·exact SpAt.put5 E9 q0 q1 q2 q3 q4 _ _ _ _ _
   ·exact kB hB (XW _) _ _ _ _ _
  ·by_cases ht3:3<=t
   ·have Sl:(3:Int)<=(t:Int):=by omega
    cases hn:zJJ L H (Q bits) 4
    ·have hmK2:m<Kw:=by
      refine Nat.lt_of_not_le λ h=>?_
      have h5:=(zA oA).1 h;rw[zG1 (by omega) (by omega)] at hn
      cases hn
     go_wp2_with fail;refine (zGU _ u bits 4 L H E9 (zA tX) hb (by omega)).mono ?_
     rintro r w5 ⟨rfl,A7⟩;rw[show zJJ L H (Q bits) ((4:Nat):Int)=false from hn]
     replace R:=R.bw A7;replace hB:=zB hB A7;go_wp2_with fail
     go_roundw
     case rel=>exact⟨m+l.toNat+32,t+1,by congr 1;omega,by congr 1,⟨by omega,by omega,by omega,Or.inr (by have:=(zA xV).1;omega)⟩,R,hB⟩
     case measure=>simp[intOf];omega
    ·go_wp2_with fail
     refine (zGU _ u bits 4 L H E9 (zA tX) hb (by omega)).mono ?_
     rintro r w5 ⟨rfl,A7⟩;rw[show zJJ L H (Q bits) ((4:Nat):Int)=true from hn]
     replace R:=R.bw A7;replace hB:=zB hB A7;replace E9:=E9.bw A7;obtain⟨y0,y1,y2,y3,y4⟩:=(zA HU).bw A7;obtain⟨q0,q1,q2,q3,q4,q5⟩:=R;have lU2:=Yd lU A7.size;have lQ:=Yd Y1 A7.size;clear A7 x0 x1 x2 x3 x4;go_wp2_with fail;refine bodyPost_ret (v:=.agg u.q) (by simp[results,Tryz.results74,go_sem,q0,q1,q2,q3,q4]) rfl ⟨L,H,⟨m,lo,hi,zA HPr,hm,zA HL,zA HH,Or.inr hn⟩,u,rfl,zA tX,?_,?_⟩
     ·exact SpAt.put5 E9 q0 q1 q2 q3 q4 _ _ _ _ _
     ·exact kB hB (XW _) _ _ _ _ _
   ·have Sl:¬ (3:Int)<=(t:Int):=by omega
    go_wp2_with fail
    go_roundw
    case rel=>exact⟨m+l.toNat+32,t+1,by congr 1;omega,by congr 1,⟨by omega,by omega,by omega,by
     have g1:=(zA xV).1;have g2:=(zA xV).2;have g3:=zA HI
     rcases Nat.le_total m Kw with h|h
     ·have:=g1 h;exact Or.inr (by omega)
     ·have:=g2 h;exact Or.inl ⟨by omega,by omega⟩⟩,R,hB⟩
    case measure=>simp[intOf];omega
theorem cbp_ok (L G:Rat->Nat->Rat) (X:Int->Int->Nat->Rat) (hE:zM4 L G X) (w:World) (n d p q r s:Int) (b:Nat) (h:bE n d p q r s b=0) :
  Calls Tryz.prog 28 #[.agg #[.int .i64 n,.int .i64 d],.agg #[.int .i64 p,.int .i64 q],.agg #[.int .i64 r,.int .i64 s],.int .i64 b] w (λ z w'=>∃ LL HH,(BpV L p q r s n d b LL HH)/\zJ0 w b 250 LL HH 0 z w'):=by
 obtain⟨W,hW⟩:∃ W,W=(((w.alloc (.cells #[.int .i64 n,.int .i64 d] 23)).alloc (.cells #[.int .i64 p,.int .i64 q] 23)).alloc (.cells #[.int .i64 r,.int .i64 s] 23)).alloc (.cells zCq 28):=⟨_,rfl⟩;have b8:Below w.heap.size w W:=by rw[hW];exact bl4 _ _ _ _ _
 have C:RaC W w.heap.size n d:=by rw[hW];constructor<;>simp[go_sem]
 have A:RaC W (w.heap.size+1) p q:=by rw[hW];constructor<;>simp[go_sem]
 have D:RaC W (w.heap.size+1+1) r s:=by rw[hW];constructor<;>simp[go_sem]
 have R:NoC W (w.heap.size+1+1+1):=by rw[hW];constructor<;>simp[go_sem]
 have c0:=C.c0;have c1:=C.c1;have a0:=A.c0;have a1:=A.c1;have d0:=D.c0;have d1:=D.c1;have HE:=zC hE;have Kn:=zC h;obtain⟨⟨_,Q7,hb120⟩,_⟩:=zEB h;clear h hE
 go_enter Tryz.func28,Tryz.ntmps28
 go_wp2_with fail;rw[<- hW];clear hW c0 c1 a0 a1 d0 d1;refine (bFault _ n d p q r s b).mono ?_;rintro z0 w1 ⟨rfl,b7⟩;rw[zA Kn];replace C:=C.bw b7;replace A:=A.bw b7;replace D:=D.bw b7;replace R:=R.bw b7;replace b8:=zB b8 b7;clear b7;go_wp2_with fail
 refine (sure_bpt _ _ _ b 89 61 (λ B lo hi=>BpPr L p q r s n d B lo hi) w1 (by omega) (by omega) (by omega) (λ m lo hi k=>lw_ends _ (by omega) m lo hi k.pr) (λ m w' hm T7 dD=>by
  have t:=bpm L G X (zA HE) w' _ _ _ n d p q r s b (b+m) (C.bw dD) (A.bw dD) (D.bw dD) (zA Kn) (by omega) (by omega)
  have e:((b+m:Nat):Int)=(b:Int)+m:=by omega
  rw[e] at t
  exact t)).mono ?_
 rintro z1 w2 ⟨LL,HH,hso,u,rfl,I0,E9,b9⟩;have HLH:=zC (sure_bp hso);have HU:=zC I0;have lR:=R.lt;obtain⟨q0,q1,q2,q3,q4,q5⟩:=R.bw b9;replace b8:=zB b8 b9;clear I0 hso b9;go_wp2_with fail;refine bodyPost_ret (v:=.tuple #[.agg u.q,.int .i64 0]) (by simp[results,Tryz.results28,go_sem,q0,q1,q2,q3,q4]) rfl ⟨LL,HH,zA HLH,u,rfl,zA HU,?_,?_⟩
 ·exact SpAt.put5 E9 q0 q1 q2 q3 q4 _ _ _ _ _
 ·exact kB b8 (by omega) _ _ _ _ _
theorem cbp_bad (w:World) (n d p q r s bt e:Int) (h:bE n d p q r s bt=e) (he:e≠0) :
  Calls Tryz.prog 28 #[.agg #[.int .i64 n,.int .i64 d],.agg #[.int .i64 p,.int .i64 q],.agg #[.int .i64 r,.int .i64 s],.int .i64 bt] w (zJ0 w 0 250 0 0 e):=by
 obtain⟨W,hW⟩:∃ W,W=(((w.alloc (.cells #[.int .i64 n,.int .i64 d] 23)).alloc (.cells #[.int .i64 p,.int .i64 q] 23)).alloc (.cells #[.int .i64 r,.int .i64 s] 23)).alloc (.cells zCq 28):=⟨_,rfl⟩;have b8:Below w.heap.size w W:=by rw[hW];exact bl4 _ _ _ _ _
 have C:RaC W w.heap.size n d:=by rw[hW];constructor<;>simp[go_sem]
 have A:RaC W (w.heap.size+1) p q:=by rw[hW];constructor<;>simp[go_sem]
 have D:RaC W (w.heap.size+1+1) r s:=by rw[hW];constructor<;>simp[go_sem]
 have R:NoC W (w.heap.size+1+1+1):=by rw[hW];constructor<;>simp[go_sem]
 have c0:=C.c0;have c1:=C.c1;have a0:=A.c0;have a1:=A.c1;have d0:=D.c0;have d1:=D.c1;have Kn:=zC h;clear h
 go_enter Tryz.func28,Tryz.ntmps28
 go_wp2_with fail;rw[<- hW];clear hW c0 c1 a0 a1 d0 d1;refine (bFault _ n d p q r s bt).mono ?_;rintro z0 w1 ⟨rfl,b7⟩;rw[zA Kn];replace R:=R.bw b7;replace b8:=zB b8 b7;clear b7;have lR:=R.lt;obtain⟨q0,q1,q2,q3,q4,q5⟩:=R;go_wp2_with fail;refine bodyPost_ret (v:=.tuple #[.agg zCq,.int .i64 e]) (by simp[results,Tryz.results28,go_sem,q0,q1,q2,q3,q4]) rfl ⟨⟨false,none,0,0,false,none,0,0,0⟩,rfl,rfl,zL8 _ _,?_⟩
 exact kB b8 (by omega) _ _ _ _ _
theorem zNS {b:Nat} {a c:Int × Int} {x:Nat->Rat} (h:Iv b a x) (k:Iv b c x):zHJ a.1 a.2 0 c.1 c.2 0=true:=by
 have q:=zG b;have t1:=Int.le_of_mul_le_mul_right (h.touch k) (show 0<Q b by omega)
 have t2:=Int.le_of_mul_le_mul_right (k.touch h) (show 0<Q b by omega)
 have e0:Q 0=1:=rfl;unfold zHJ;rw[e0];simp[t1,t2]
theorem bt_begun {L:Rat->Nat->Rat} (hL:Lns L) {l h:Int} (v:SuV (bvX L 2 1 1 1 1 4) 20 l h):zHJ l h 0 (ofI 1 16 20).1 (ofI 1 16 20).2 0=true:=by
 have n:=bv_21 hL (show (0:Rat)<1/4 by grind) (by grind)
 have e:bvX L 2 1 1 1 1 4=bv L 2 1 (1/4):=by
  unfold bvX;rw[if_neg (by decide),if_neg (by decide)]
  have e1:((2:Int):Rat)/((1:Int):Rat)=2:=by decide +kernel
  have e2:((1:Int):Rat)/((1:Int):Rat)=1:=by decide +kernel
  have e3:((1:Int):Rat)/((4:Int):Rat)=1/4:=by decide +kernel
  rw[e1,e2,e3]
 rw[e] at v;have i:=Iv.of 20 (n:=1) (d:=16) (by decide)
 exact zNS (a:=(l,h)) v.val (Has.congr i (n.of_eq λ M=>by
  have:((1:Int):Rat)/((16:Int):Rat)=1/4*(1/4):=by decide +kernel
  rw[this]))
theorem zB3 (w:World) :
  Calls Tryz.prog 29 #[] w λ r w'=>r=.returned (.bool true)/\Below w.heap.size w w':=by
 obtain⟨L0,GG,X,hE⟩:=zOK
 go_enter Tryz.func29,Tryz.ntmps29
 go_wp2_with fail;refine (cbp_ok L0 GG X hE _ 1 4 2 1 1 1 20 (by decide)).mono ?_
 rintro z w1 ⟨L,H,vv,s,rfl,dA,hs,b8⟩;have v:=vv.v;clear vv;have fE:=zC (bt_begun hE.lns v);have hle:=v.le;have HN:=zC v.nar;have Q8:=zC dA;clear dA v hE;obtain⟨V1,M4⟩:∃ V,V=w1.alloc (.cells s.q 28):=⟨_,rfl⟩;have aX:Below w1.heap.size w1 V1:=by rw[M4];exact bl1 _ _
 have A:SpC V1 w1.heap.size s:=by rw[M4];exact zA0 w1 s _
 have HS:=zC (hs.bw aX);replace b8:=zB b8 aX;clear hs aX
 go_upto_region 2 with fail
 rw[<- M4];clear M4;have dR:=A.c0;have dS:=A.c1;have Br:=A.c2;have Sn:=A.c3;have Sq:=A.c4;have fAl:=A.lt;go_wp2_with fail;clear dR dS Br Sn Sq fAl;refine (zFY _ s).mono ?_;rintro z w2 ⟨rfl,E1⟩;replace A:=A.bw E1;replace HS:=zC ((zA HS).bw E1);replace b8:=zB b8 E1;clear E1;go_wp2_with fail;refine (zD 1 _ (by omega) (by omega)).mono ?_
 rintro z w3 ⟨p9,a3,n3,c3,rfl,A8,E1⟩;replace A:=A.bw E1;replace HS:=zC ((zA HS).bw E1);replace b8:=zB b8 E1;have qw:=zC A8;clear E1 A8;go_wp2_with fail;refine (zD 16 _ (by omega) (by omega)).mono ?_
 rintro z w4 ⟨o9,a4,n4,c4,rfl,D9,E1⟩;replace A:=A.bw E1;replace HS:=zC ((zA HS).bw E1);replace qw:=zC ((zA qw).bw E1);replace b8:=zB b8 E1;have jd:=zC D9;clear E1 D9;go_wp2_with fail;refine (zED (b:=20) 20 rfl ⟨p9,a3,n3,c3⟩ ⟨o9,a4,n4,c4⟩ 4 4 1 16 _ (zA qw) (zA jd) (by omega) (by omega) (by omega) (by omega)).mono ?_
 rintro z w5 ⟨y,rfl,dE,iq,E1⟩;replace A:=A.bw E1;replace HS:=zC ((zA HS).bw E1);replace qw:=zC ((zA qw).bw E1);replace jd:=zC ((zA jd).bw E1);replace b8:=zB b8 E1;have Ie:=zC (iq.mono (show 4+20/16+14<=250 by omega))
 have Ig:=zC dE;clear E1 dE iq;go_wp2_with fail;refine (touch_le _ s y 250 0 0 _ _ _ _ (zA HS) (zA Ie) (by omega) (by have:=zA Q8;omega) (by have:=zA Q8;omega) (by have:=zA Ig;omega) (by have:=zA Ig;omega) (by have:=zA Q8;have:=zA Ig;omega) (by have:=zA Q8;have:=zA Ig;omega) (by have:=zA Q8;have:=zA Ig;omega)).mono ?_
 rintro z w6 ⟨rfl,E1⟩;rw[zA fE];replace A:=A.bw E1;replace HS:=zC ((zA HS).bw E1);replace qw:=zC ((zA qw).bw E1);replace jd:=zC ((zA jd).bw E1);replace Ie:=zC ((zA Ie).bw E1);replace b8:=zB b8 E1;clear E1;have dR:=A.c0;have dS:=A.c1;have Br:=A.c2;have Sn:=A.c3;have Sq:=A.c4;have fAl:=A.lt;go_wp2_with fail;clear dR dS Br Sn Sq fAl;refine (zB0 _ s 20 L H (zA HS) (zA Q8) (by omega) hle (zA HN)).mono ?_
 rintro z w7 ⟨rfl,E1⟩;replace A:=A.bw E1;replace HS:=zC ((zA HS).bw E1);replace qw:=zC ((zA qw).bw E1);replace jd:=zC ((zA jd).bw E1);replace Ie:=zC ((zA Ie).bw E1);replace b8:=zB b8 E1;clear E1;go_wp2_with fail;exact bodyPost_ret (v:=.bool true) (by simp[results,Tryz.results29]) rfl ⟨rfl,b8⟩
def zNI (n d p q r s b:Int):Int:=if (rok n d/\rok p q/\rok r s)/\8<=b/\b<=120 then 0 else 3
theorem zLG (bt:Int) (w:World) (B:Nat) (hB:w.heap.size=B) (n d p q r s:Int) (T:TypeId) (cap:Nat) :
  Calls Tryz.prog 10 #[.int .i64 bt,.slice (some ⟨B,0,none⟩) 3 cap] (w.alloc (.cells #[.int .i64 n,.int .i64 d,.int .i64 p,.int .i64 q,.int .i64 r,.int .i64 s] T)) λ z w' =>
   z=.returned (.int .i64 (zNI n d p q r s bt))/\Below w.heap.size w w':=by
 exact (zI4 bt B 3 cap _ _ _ (rats3' w B hB n d p q r s T) (by omega)).mono λ r w' ⟨z,h1,h2,h3⟩ =>
  ⟨by
   rw[h1];unfold zNI
   rcases rf3 h2 with⟨rfl,k⟩|⟨rfl,k⟩
   ·rw[if_pos k]
   ·rw[if_neg k],(bl1 _ _).trans (h3.mono (by simp))⟩
theorem bE_a {n d p q r s bt:Int} (h:(rok n d/\rok p q/\rok r s)/\8<=bt/\bt<=120) (k:p<=0\/r<=0\/n<0\/d<n):bE n d p q r s bt=5:=by
 unfold bE;rw[if_neg (λ z=>z h)]
 split
 ·rfl
 ·rw[if_pos (by omega)]
theorem bE_b {n d p q r s bt:Int} (h:(rok n d/\rok p q/\rok r s)/\8<=bt/\bt<=120) (k:¬ (p<=0\/r<=0\/n<0\/d<n)) (k2:100*q<p\/100*s<r):bE n d p q r s bt=2:=by
 unfold bE;rw[if_neg (λ z=>z h),if_neg (by omega),if_neg (by omega),if_pos k2]
theorem bE_c {n d p q r s bt:Int} (h:(rok n d/\rok p q/\rok r s)/\8<=bt/\bt<=120) (k:¬ (p<=0\/r<=0\/n<0\/d<n)) (k2:¬ (100*q<p\/100*s<r)):bE n d p q r s bt=0:=by
 unfold bE;rw[if_neg (λ z=>z h),if_neg (by omega),if_neg (by omega),if_neg k2]
theorem bE_d {n d p q r s bt:Int} (h:¬ ((rok n d/\rok p q/\rok r s)/\8<=bt/\bt<=120)):bE n d p q r s bt=3:=by
 unfold bE;rw[if_pos h]
theorem bp_tou {x:Nat->Rat} {b:Nat} {L1 H1 lo hi:Int} (hv:SuV x b L1 H1) (ho:Iv (b+32) (lo,hi) x):zHJ L1 H1 32 lo hi 0=true:=touch_up (b:=b) (i:=32) hv.val ho
theorem bp_whole {L:Rat->Nat->Rat} {p q r s n d:Int} {b:Nat} {l h:Int} (v:BpV L p q r s n d b l h) (d0:0<d) (k:n=0\/n=d):(n.tdiv d=0\/n.tdiv d=1)/\l=n.tdiv d*Q b/\h=n.tdiv d*Q b:=by
 rcases k with k|k
 ·have e:n.tdiv d=0:=by rw[k,Int.zero_tdiv]
  have:=v.z k;rw[e];exact⟨Or.inl rfl,by omega,by omega⟩
 ·have e:n.tdiv d=1:=by rw[k,Int.tdiv_self (by omega)]
  have:=v.o k;rw[e];exact⟨Or.inr rfl,by omega,by omega⟩
theorem zKS {m:Int} {b:Nat} (hm:m=0\/m=1) (hb:b<=120):fitE (m*Q b) (m*Q b)=0:=by
 have e:¬ bigs (m*Q b) (m*Q b):=by
  have q1:=zG b;have q2:Q b<=Q 3999:=zK (by omega)
  have q3:Q 4000=2*Q 3999:=rfl;have q4:=zG 3999;unfold bigs big;generalize Q 4000=M at *;generalize Q 3999=M' at *
  rcases hm with rfl|rfl<;>omega
 exact if_neg e
theorem zLA {b:Nat} (z:Int) (hz:z=(b:Int)) (w:World) (n' n:Int) (hn:n'=n) (hb:b<=100000) (h0 : -9223372036854775808<=n) (h1:n<=9223372036854775807) :
  Calls Tryz.prog 27 #[.int .i64 n',.int .i64 z] w (zJ w b (b/16+18) (n*Q b) (n*Q b)):=by
 subst hn;exact zBN z hz w n' hb h0 h1
theorem zJI {b:Nat} (z:Int) (hz:z=(b:Int)) (p q:Int) (w:World) (h:rok p q) (hb:b<=100000) :
  Calls Tryz.prog 14 #[.agg #[.int .i64 p,.int .i64 q],.int .i64 z] w (zJ w b (b/16+18) (ofI p q b).1 (ofI p q b).2):=by
 subst hz;exact zGH p q b w h hb
theorem zN5 (n d p q r s:Int) (bt:Int) (w:World) (e:Int) (h:bE n d p q r s bt=e) (Bi:e≠0) :
  Calls Tryz.prog 6 #[.agg #[.int .i64 n,.int .i64 d],.agg #[.int .i64 p,.int .i64 q],.agg #[.int .i64 r,.int .i64 s],.int .i64 bt] w λ r w'=>r=.returned (.bool true)/\Below w.heap.size w w':=by
 obtain⟨W,hW⟩:∃ W,W=((w.alloc (.cells #[.int .i64 n,.int .i64 d] 23)).alloc (.cells #[.int .i64 p,.int .i64 q] 23)).alloc (.cells #[.int .i64 r,.int .i64 s] 23):=⟨_,rfl⟩;have b8:Below w.heap.size w W:=by rw[hW];exact bl3 _ _ _ _
 have G:RaC W w.heap.size n d:=by rw[hW];constructor<;>simp[go_sem]
 have A:RaC W (w.heap.size+1) p q:=by rw[hW];constructor<;>simp[go_sem]
 have D:RaC W (w.heap.size+1+1) r s:=by rw[hW];constructor<;>simp[go_sem]
 have HR:=zC h;have c1:(e != 0)=true:=by simp[Bi]
 clear h;have ow:=G.c0;have oy:=G.c1;have fGl:=G.lt;have dR:=A.c0;have dS:=A.c1;have fAl:=A.lt;have jh:=D.c0;have ji:=D.c1;have fDl:=D.lt
 go_enter Tryz.func6,Tryz.ntmps6
 go_wp2_with fail;rw[<- hW];clear hW;clear ow oy fGl dR dS fAl jh ji fDl;refine (cbp_bad _ n d p q r s bt e (zA HR) Bi).mono ?_;rintro zr w3 ⟨y,rfl,dE,iq,E1⟩;replace A:=A.bw E1;replace D:=D.bw E1;replace G:=G.bw E1;replace b8:=zB b8 E1;have X8:=zC iq;have Ih:=zC dE;clear E1 dE iq;obtain⟨V3,D3⟩:∃ V,V=w3.alloc (.cells y.q 28):=⟨_,rfl⟩;have L8:Below w3.heap.size w3 V3:=by rw[D3];exact bl1 _ _
 have S:SpC V3 w3.heap.size y:=by rw[D3];exact zA0 w3 y _
 have O6:V3.heap.size=w3.heap.size+1:=by rw[D3];simp
 have ow:=G.c0;have oy:=G.c1;have fGl:=G.lt;have dR:=A.c0;have dS:=A.c1;have fAl:=A.lt;have jh:=D.c0;have ji:=D.c1;have fDl:=D.lt;go_wp2_with fail;rw[<- D3];clear D3;clear ow oy fGl dR dS fAl jh ji fDl;replace A:=A.bw L8;replace D:=D.bw L8;replace G:=G.bw L8;replace X8:=zC ((zA X8).bw L8);replace b8:=zB b8 L8;clear L8;refine (zLG bt _ _ O6 n d p q r s _ _).mono ?_;rintro zr w5 ⟨rfl,A7⟩;replace A:=A.bw A7;replace D:=D.bw A7;replace G:=G.bw A7;replace X8:=zC ((zA X8).bw A7);replace S:=S.bw A7;replace b8:=zB b8 A7;clear A7 O6;obtain⟨z0,L4⟩:∃ z,zNI n d p q r s bt=z:=⟨_,rfl⟩;rw[L4];have HZ:=zC L4;clear L4
 go_upto_block 0 with fail
 go_cut [11] (λ v wx=>v=.int .i64 e/\wx=w5)
 case first =>
  have hz:=zA HZ;unfold zNI at hz;have ow:=G.c0;have oy:=G.c1;have dR:=A.c0;have dS:=A.c1;have jh:=D.c0;have ji:=D.c1;have fGl:=G.lt;have fAl:=A.lt;have fDl:=D.lt
  by_cases hR:(rok n d/\rok p q/\rok r s)/\8<=(bt:Int)/\(bt:Int)<=120
  ·rw[if_pos hR] at hz
   subst hz;obtain⟨⟨_,⟨r1,r2,r3,r4⟩,⟨r5,r6,r7,r8⟩⟩,_⟩:=id hR
   by_cases h1:p<=0
   ·have iw:=zC (show e=(5:Int) from (zA HR).symm.trans (bE_a hR (Or.inl h1)))
    clear hR r1 r2 r3 r4 r5 r6 r7 r8;go_wp2_with fail;go_meet;exact⟨by rw[zA iw],rfl⟩
   ·skip
    by_cases h2:r<=0
    ·have iw:=zC (show e=(5:Int) from (zA HR).symm.trans (bE_a hR (Or.inr (Or.inl h2))))
     clear hR r1 r2 r3 r4 r5 r6 r7 r8;go_wp2_with fail;go_meet;exact⟨by rw[zA iw],rfl⟩
    ·skip
     by_cases h3:n<0
     ·have iw:=zC (show e=(5:Int) from (zA HR).symm.trans (bE_a hR (Or.inr (Or.inr (Or.inl h3)))))
      clear hR r1 r2 r3 r4 r5 r6 r7 r8;go_wp2_with fail;go_meet;exact⟨by rw[zA iw],rfl⟩
     ·skip
      by_cases h4:d<n
      ·have iw:=zC (show e=(5:Int) from (zA HR).symm.trans (bE_a hR (Or.inr (Or.inr (Or.inr h4)))))
       clear hR r1 r2 r3 r4 r5 r6 r7 r8;go_wp2_with fail;go_meet;exact⟨by rw[zA iw],rfl⟩
      ·skip
       have hN:¬ (p<=0\/r<=0\/n<0\/d<n):=by omega
       have HWQ:IntKind.i64.wrap (100*q)=100*q:=jL _ (by omega) (by omega)
       have HWS:IntKind.i64.wrap (100*s)=100*s:=jL _ (by omega) (by omega)
       by_cases h5:100*q<p
       ·have iw:=zC (show e=(2:Int) from (zA HR).symm.trans (bE_b hR hN (Or.inl h5)))
        clear hR hN r1 r2 r3 r4 r5 r6 r7 r8;go_wp2_with fail;go_meet;exact⟨by rw[zA iw],rfl⟩
       ·skip
        by_cases h6:100*s<r
        ·have iw:=zC (show e=(2:Int) from (zA HR).symm.trans (bE_b hR hN (Or.inr h6)))
         clear hR hN r1 r2 r3 r4 r5 r6 r7 r8;go_wp2_with fail;go_meet;exact⟨by rw[zA iw],rfl⟩
        ·skip
         exact absurd ((zA HR).symm.trans (bE_c hR hN (by omega))) Bi
  ·rw[if_neg hR] at hz
   subst hz;have iw:=zC (show e=(3:Int) from (zA HR).symm.trans (bE_d hR))
   clear hR;go_wp2_with fail;go_meet;exact⟨by rw[zA iw],rfl⟩
 case rest =>
 obtain⟨rfl,rfl⟩:=hcut;clear HZ;go_wp2_with fail;refine (zB3 _).mono ?_;rintro zr w6 ⟨rfl,E1⟩;replace A:=A.bw E1;replace D:=D.bw E1;replace G:=G.bw E1;replace X8:=zC ((zA X8).bw E1);replace S:=S.bw E1;replace b8:=zB b8 E1;clear E1;have Sr:=S.c0;have Ss:=S.c1;have Sv:=S.c2;have Sw:=S.c3;have Sx:=S.c4;have fSl:=S.lt;go_wp2_with fail;clear Sr Ss Sv Sw Sx fSl;refine (zKW _ y ⟨false,none,0,0,false,none,0,0,0⟩ _ _ _ (zA X8) (zA Ih) Bi).mono ?_;rintro zr w7 ⟨rfl,E1⟩;replace A:=A.bw E1;replace D:=D.bw E1;replace G:=G.bw E1;replace X8:=zC ((zA X8).bw E1);replace S:=S.bw E1;replace b8:=zB b8 E1;clear E1;go_wp2_with fail;exact bodyPost_ret (v:=.bool true) (by simp[results,Tryz.results6]) rfl ⟨rfl,b8⟩
theorem zOY (n d p q r s:Int) (b:Nat) (w:World) (h:bE n d p q r s (b:Int)=0) :
  Calls Tryz.prog 6 #[.agg #[.int .i64 n,.int .i64 d],.agg #[.int .i64 p,.int .i64 q],.agg #[.int .i64 r,.int .i64 s],.int .i64 (b:Int)] w λ r w'=>r=.returned (.bool true)/\Below w.heap.size w w':=by
 obtain⟨W,hW⟩:∃ W,W=((w.alloc (.cells #[.int .i64 n,.int .i64 d] 23)).alloc (.cells #[.int .i64 p,.int .i64 q] 23)).alloc (.cells #[.int .i64 r,.int .i64 s] 23):=⟨_,rfl⟩;have b8:Below w.heap.size w W:=by rw[hW];exact bl3 _ _ _ _
 have G:RaC W w.heap.size n d:=by rw[hW];constructor<;>simp[go_sem]
 have A:RaC W (w.heap.size+1) p q:=by rw[hW];constructor<;>simp[go_sem]
 have D:RaC W (w.heap.size+1+1) r s:=by rw[hW];constructor<;>simp[go_sem]
 obtain⟨L0,GG,X,hE⟩:=zOK;have HE:=zC hE;have HR:=zC h;have AP:=zC (zEB h);obtain⟨⟨Ko,h5,h6⟩,Cw,M5,Kz⟩:=zEB h;have dp:0<d:=by have:=Ko.1.2.2.1;omega
 have dl:=Ko.1.2.2.2;have nu:=Ko.1.2.1;have h5:8<=b:=by omega
 have h6:b<=120:=by omega
 have HW:=zC (show IntKind.i64.wrap ((b:Int)+32)=((b+32:Nat):Int) from (jL _ (by omega) (by omega)).trans (by omega))
 have HW2:=zC (show ((b:Int)+32)=((b+32:Nat):Int) by omega)
 clear hE h Ko M5 Kz;have ow:=G.c0;have oy:=G.c1;have fGl:=G.lt;have dR:=A.c0;have dS:=A.c1;have fAl:=A.lt;have jh:=D.c0;have ji:=D.c1;have fDl:=D.lt
 go_enter Tryz.func6,Tryz.ntmps6
 go_wp2_with fail;rw[<- hW];clear hW;clear ow oy fGl dR dS fAl jh ji fDl;refine (cbp_ok L0 GG X (zA HE) _ n d p q r s b (zA HR)).mono ?_;rintro zr w3 ⟨L1,H1,hv,y,rfl,dE,iq,E1⟩;replace A:=A.bw E1;replace D:=D.bw E1;replace G:=G.bw E1;replace b8:=zB b8 E1;have Ct:=zC hv;have X8:=zC iq;have Ih:=zC dE;clear E1 dE iq hv;obtain⟨V3,D3⟩:∃ V,V=w3.alloc (.cells y.q 28):=⟨_,rfl⟩;have L8:Below w3.heap.size w3 V3:=by rw[D3];exact bl1 _ _
 have S:SpC V3 w3.heap.size y:=by rw[D3];exact zA0 w3 y _
 have O6:V3.heap.size=w3.heap.size+1:=by rw[D3];simp
 have ow:=G.c0;have oy:=G.c1;have fGl:=G.lt;have dR:=A.c0;have dS:=A.c1;have fAl:=A.lt;have jh:=D.c0;have ji:=D.c1;have fDl:=D.lt;go_wp2_with fail;rw[<- D3];clear D3;clear ow oy fGl dR dS fAl jh ji fDl;replace A:=A.bw L8;replace D:=D.bw L8;replace G:=G.bw L8;replace X8:=zC ((zA X8).bw L8);replace b8:=zB b8 L8;clear L8;refine (zLG (b:Int) _ _ O6 n d p q r s _ _).mono ?_;rintro zr w5 ⟨rfl,A7⟩;replace A:=A.bw A7;replace D:=D.bw A7;replace G:=G.bw A7;replace X8:=zC ((zA X8).bw A7);replace S:=S.bw A7;replace b8:=zB b8 A7;clear A7 O6;obtain⟨z0,L4⟩:∃ z,zNI n d p q r s (b:Int)=z:=⟨_,rfl⟩;rw[L4];have HZ:=zC L4;clear L4
 go_upto_block 0 with fail
 go_cut [11] (λ v wx=>v=.int .i64 0/\wx=w5)
 case first =>
  have hz:=zA HZ;unfold zNI at hz;have ow:=G.c0;have oy:=G.c1;have dR:=A.c0;have dS:=A.c1;have jh:=D.c0;have ji:=D.c1;have fGl:=G.lt;have fAl:=A.lt;have fDl:=D.lt
  by_cases hR:(rok n d/\rok p q/\rok r s)/\8<=((b:Int):Int)/\((b:Int):Int)<=120
  ·rw[if_pos hR] at hz
   subst hz;obtain⟨⟨_,⟨r1,r2,r3,r4⟩,⟨r5,r6,r7,r8⟩⟩,_⟩:=id hR
   by_cases h1:p<=0
   ·exact absurd ((zA HR).symm.trans (bE_a hR (Or.inl h1))) (by decide)
   ·skip
    by_cases h2:r<=0
    ·exact absurd ((zA HR).symm.trans (bE_a hR (Or.inr (Or.inl h2)))) (by decide)
    ·skip
     by_cases h3:n<0
     ·exact absurd ((zA HR).symm.trans (bE_a hR (Or.inr (Or.inr (Or.inl h3))))) (by decide)
     ·skip
      by_cases h4:d<n
      ·exact absurd ((zA HR).symm.trans (bE_a hR (Or.inr (Or.inr (Or.inr h4))))) (by decide)
      ·skip
       have hN:¬ (p<=0\/r<=0\/n<0\/d<n):=by omega
       have HWQ:IntKind.i64.wrap (100*q)=100*q:=jL _ (by omega) (by omega)
       have HWS:IntKind.i64.wrap (100*s)=100*s:=jL _ (by omega) (by omega)
       by_cases h5:100*q<p
       ·exact absurd ((zA HR).symm.trans (bE_b hR hN (Or.inl h5))) (by decide)
       ·skip
        by_cases h6:100*s<r
        ·exact absurd ((zA HR).symm.trans (bE_b hR hN (Or.inr h6))) (by decide)
        ·skip
         have iw:=zC (show 0=(0:Int) from (zA HR).symm.trans (bE_c hR hN (by omega)))
         clear hR hN r1 r2 r3 r4 r5 r6 r7 r8;go_wp2_with fail;go_meet;exact⟨rfl,rfl⟩
  ·rw[if_neg hR] at hz
   subst hz;exact absurd ((zA HR).symm.trans (bE_d hR)) (by decide)
 case rest =>
 obtain⟨rfl,rfl⟩:=hcut;clear HZ;obtain⟨V5,eC⟩:∃ V,V=wc:=⟨_,rfl⟩;subst eC
 by_cases hex:n=0\/n=d
 ·obtain⟨m0,e1,e2⟩:=bp_whole (zA Ct) dp hex
  obtain⟨m,hm⟩:∃ m,n.tdiv d=m:=⟨_,rfl⟩;rw[hm] at m0 e1 e2;subst e1 e2;have HWM:=zC (show IntKind.i64.wrap (n.tdiv d)=m from by rw[hm];exact jL _ (by omega) (by omega))
  have HM:=zC hm;have hd0:d≠0:=by omega
  have Ii:=zC m0;clear hm A D;have ow:=G.c0;have oy:=G.c1;have fGl:=G.lt;have hq:(n=0)\/(n≠0/\n=d):=by omega
  have HQ:Hid ((n=0/\m=0)\/(n≠0/\n=d/\m=1)):=zC (by
   rcases hq with hq|⟨hq,ag⟩
   ·exact Or.inl ⟨hq,by rw[<- zA HM,hq,Int.zero_tdiv]⟩
   ·exact Or.inr ⟨hq,ag,by rw[<- zA HM,ag,Int.tdiv_self hd0]⟩)
  clear hq HM HWM hex
  rcases zA HQ with⟨hq,Sy⟩|⟨hq,ag,Sy⟩
  all_goals
   have HMM:=zC Sy;clear HQ Sy;go_wp2_with fail;clear ow oy fGl;refine (zLA (b:=b) _ rfl _ _ m (zA HMM).symm (by omega) (by have:=zA Ii;omega) (by have:=zA Ii;omega)).mono ?_
   rintro zr w8 ⟨t,rfl,dE,iq,E1⟩;replace G:=G.bw E1;replace S:=S.bw E1;replace X8:=zC ((zA X8).bw E1);replace b8:=zB b8 E1;have Sz:=zC (iq.mono (show b/16+18<=250 by omega))
   have SA:=zC dE;clear E1 dE iq;go_wp2_with fail;have dn:=done_fit _ t 250 _ _ (zA Sz) (Int.le_refl _) (by have:=zA SA;omega) (by have:=zA SA;omega)
   rw[zKS (zA Ii) h6,zI9 (zKS (zA Ii) h6),zI9 (zKS (zA Ii) h6)] at dn;refine dn.mono ?_;rintro zr w9 ⟨u,rfl,dE,iq,E1⟩;replace G:=G.bw E1;replace S:=S.bw E1;replace X8:=zC ((zA X8).bw E1);replace Sz:=zC ((zA Sz).bw E1);replace b8:=zB b8 E1;have AQ:=zC iq;have HBu:=zC (dE.trans (zA SA));clear E1 dE iq dn;obtain⟨V9,Cr⟩:∃ V,V=w9.alloc (.cells u.q 28):=⟨_,rfl⟩;have Cv:Below w9.heap.size w9 V9:=by rw[Cr];exact bl1 _ _
   have U:SpC V9 w9.heap.size u:=by rw[Cr];exact zA0 w9 u _
   replace G:=G.bw Cv;replace S:=S.bw Cv;replace X8:=zC ((zA X8).bw Cv);replace AQ:=zC ((zA AQ).bw Cv);replace b8:=zB b8 Cv;clear Cv
   go_upto_region 12 with fail
   rw[<- Cr];clear Cr;go_wp2_with fail;refine (zB3 _).mono ?_;rintro zr oB ⟨rfl,E1⟩;replace G:=G.bw E1;replace S:=S.bw E1;replace X8:=zC ((zA X8).bw E1);replace AQ:=zC ((zA AQ).bw E1);replace U:=U.bw E1;replace b8:=zB b8 E1;clear E1;have Sr:=S.c0;have Ss:=S.c1;have Sv:=S.c2;have Sw:=S.c3;have Sx:=S.c4;have fSl:=S.lt;have fU0:=U.c0;have fU1:=U.c1;have fU2:=U.c2;have fU3:=U.c3;have fU4:=U.c4;have fUl:=U.lt;go_wp2_with fail;clear Sr Ss Sv Sw Sx fSl fU0 fU1 fU2 fU3 fU4 fUl;refine (zJ2 _ y u 250 _ _ 0 (zA X8) (zA AQ) ((zA Ih).trans (zA HBu).symm) (λ z=>absurd rfl z)).mono ?_
   rintro zr Bc ⟨rfl,E1⟩;replace G:=G.bw E1;replace S:=S.bw E1;replace X8:=zC ((zA X8).bw E1);replace AQ:=zC ((zA AQ).bw E1);replace U:=U.bw E1;replace b8:=zB b8 E1;clear E1;go_wp2_with fail;exact bodyPost_ret (v:=.bool true) (by simp[results,Tryz.results6]) rfl ⟨rfl,b8⟩
 ·have n0:n≠0:=λ z=>hex (Or.inl z)
  have n1:n≠d:=λ z=>hex (Or.inr z)
  have n0b:(n == 0)=false:=by simp[n0]
  have n1b:(n == d)=false:=by simp[n1]
  have hnp:0<n:=by omega
  have E4:n<d:=by omega
  have HK:=zC (show ∀ w',Below V5.heap.size V5 w'->(cK w' w3.heap.size y (rK w' w.heap.size n d (rK w' (w.heap.size+1) p q (rK0 w' (w.heap.size+1+1) r s)))) from λ w' hB=>⟨(S.bw hB).c0,(S.bw hB).c1,(S.bw hB).c2,(S.bw hB).c3,(S.bw hB).c4,(G.bw hB).c0,(G.bw hB).c1,(A.bw hB).c0,(A.bw hB).c1,(D.bw hB).c0,(D.bw hB).c1⟩)
  have lS:=S.lt;have lG:=G.lt;have lA:=A.lt;have lD:=D.lt;have g0:=G.c0;have g1:=G.c1;have m8:Below V5.heap.size V5 V5.drew:=(Below.refl _ _).drew;clear hex S A D G;go_wp2_with fail;clear g0 g1;obtain⟨x0,x1,x2,x3,x4,y0,y1,y2,y3,y4,y5⟩:=zA HK _ (Below.refl _ _)
  go_region_held3 (λ w'=>cK w' w3.heap.size y (rK w' w.heap.size n d (rK w' (w.heap.size+1) p q (rK0 w' (w.heap.size+1+1) r s)))) (first|exact zA HK _ (by with_reducible first|exact m8|exact I5|exact C8|exact y9|exact j9|exact j7)|(dsimp only[cK,cK0,nK,nK0,rK,rK0];go_keep)|go_keep)
   (first
    | (go_at_call 15;have hq5:=C8;refine (ins_ok _ y 250 b L1 H1 0 1 ((zA X8).bw C8) (zA Ih) (by omega) (by omega) (by omega) (by omega) (by omega) (by have:=(zA Ct).lo;omega) (by have:=(zA Ct).hi;omega)).mono ?_;rintro r' g5 ⟨rfl,QH⟩;have I5:=zB C8 QH)
    | (go_at_call 12;have hq4:=y9;refine (zM5 _ y f3 b 32 600001 L1 H1 _ _ ((zA X8).bw y9) A8 (by omega) (by omega) (zA Ih) h6 (zA Ct).v.le (by omega) (by omega) (zA F3) (zA Ct).v.nar (bp_tou (zA Ct).v (zA Ce))).mono ?_;rintro r' g4 ⟨rfl,GN⟩;have C8:=zB y9 GN)
    | (go_at_call 32;have hq3:=j9;refine (zQQ (zA HE) _ f2 p q r s n d (b+32) (o0.mono (by omega)) (zA F2) (by omega) (by omega) (zA AP).1.1.2.1 (zA AP).1.1.2.2 (zA AP).2.2.1.1 (zA AP).2.2.1.2 (zA AP).2.2.2.1 (zA AP).2.2.2.2 hnp E4 dl).mono ?_;rintro r' g3 ⟨lo,hi,iv,f3,rfl,E6,A8,qT⟩;have Ce:=zC iv;have F3:=zC E6;clear E6 iv;have y9:=zB j9 qT)
    | (go_at_call 14;have ag:=j7;refine (zJI (b:=b+32) _ (by first|exact zA HW|exact zA HW2) n d _ (zA AP).1.1.1 (by omega)).mono ?_;rintro r' g2 ⟨f2,rfl,G7,o0,GO⟩;have F2:=zC G7;clear G7;have j9:=zB j7 GO)
    | (go_at_call 29;refine (zB3 _).mono ?_;rintro r' g1 ⟨rfl,qH⟩;have j7:=zB m8 qH))
  all_goals
   go_wp2_with fail
   go_ret
   exact⟨rfl,zB b8 I5⟩
theorem zHV (n d p q r s bt:Int) (w:World) :
  Calls Tryz.prog 6 #[.agg #[.int .i64 n,.int .i64 d],.agg #[.int .i64 p,.int .i64 q],.agg #[.int .i64 r,.int .i64 s],.int .i64 bt] w λ r w'=>r=.returned (.bool true)/\Below w.heap.size w w':=by
 by_cases h:bE n d p q r s bt=0
 ·obtain⟨b,rfl⟩:∃ b:Nat,bt=(b:Int):=⟨bt.toNat,by have:=(zEB h).1.2;omega⟩
  exact zOY n d p q r s b w h
 ·exact zN5 n d p q r s bt w _ rfl h
open Go.ChangeShapes Go.WideShapes Go.ChangeAt Go.RowKit
theorem Tryz.own:ownKnob Tryz.prog.godebug=none:=by kernel_rfl
theorem Tryz.laidOut:laidOutB Tryz.prog=true:=by kernel_rfl
theorem Tryz.cellsI:Tryz.prog.cellsOf 3=1:=by kernel_rfl
end Go.Proofs.YtgmnknmjainababGreat
