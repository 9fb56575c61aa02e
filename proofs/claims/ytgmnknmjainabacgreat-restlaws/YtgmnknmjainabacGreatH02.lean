/-
  Its own texts.
-/
import Derived.Laws.BitsAllLaws
import Derived.Test.YtgmnknmjainabacGreatH01
set_option maxRecDepth 100000
set_option maxHeartbeats 40000000
set_option linter.unnecessarySimpa false
set_option linter.unusedSimpArgs false
set_option linter.unusedVariables false
namespace Go.Proofs.YtgmnknmjainabacGreat
open Go.RowKit
theorem Q_nat (s:Nat):Q s=((2 ^ s:Nat):Int):=by
 induction s with
 | zero=>rfl
 | succ s ih=>simp only[Q,ih,Nat.pow_succ];omega
theorem zGT (s:Nat):(2:Int) ^ s=Q s:=by rw[Q_nat];simp
theorem zE (s:Nat):1<=Q s:=by
 induction s with
 | zero=>simp[Q]
 | succ s ih=>simp only[Q];omega
theorem jD (s t:Nat):Q (s+t)=Q s*Q t:=by
 induction t with
 | zero=>simp[Q]
 | succ t ih=>rw[Nat.add_succ];simp only[Q];rw[ih,Int.mul_left_comm]
theorem zH {s t:Nat} (h:s<=t):Q s<=Q t:=by
 obtain⟨u,rfl⟩:=Nat.exists_eq_add_of_le h;rw[jD];have:=Za (zE u) (show 0<=Q s by have:=zE s;omega)
 omega
theorem Q16:Q 16=65536:=rfl
theorem zJE {s:Nat} (h:s<=16):Q s*Q (16-s)=65536:=by rw[<- jD,show s+(16-s)=16 by omega];rfl
theorem Q_P (q:Nat):Q (16*q)=P q:=by
 induction q with
 | zero=>rfl
 | succ q ih=>rw[Nat.mul_succ,jD,ih,Q16];simp only[P];omega
theorem zHS (k:Nat):Q k=Q (k % 16)*P (k/16):=by
 rw[<- Q_P,<- jD];congr 1;omega
theorem zNV (a b c s:Nat) (ha:a<2 ^ s) (hb:b=2 ^ s*c):a ||| b=a+b:=by
 subst hb;rw[Nat.or_comm,<- Nat.two_pow_add_eq_or_of_lt ha c,Nat.add_comm]
theorem or16 (a b c:Int) (s:Nat) (hs:s<=16) (ha:0<=a) (ax:a<Q s) (hb:b=Q s*c) (E8:0<=b) (b9:b<65536) :
  bits .or .u16 a b=a+b/\a+b<65536:=by
 have hQ:Q s<=65536:=by rw[<- Q16];exact zH hs
 have hc:0<=c:=by
  rcases Int.lt_or_le c 0 with h|h
  ·have:=zE s
   have:=Za (show c <= -1 by omega) (show 0<=Q s by omega)
   omega
  ·exact h
 obtain⟨A,rfl⟩:=Int.eq_ofNat_of_zero_le ha;obtain⟨B,rfl⟩:=Int.eq_ofNat_of_zero_le E8;obtain⟨C,rfl⟩:=Int.eq_ofNat_of_zero_le hc;have hA:(A:Int)<65536:=by omega
 rw[Q_nat] at ax hb;have h1:A<2 ^ s:=by omega
 have h2:B=2 ^ s*C:=by have:=hb;rw[<- Int.natCast_mul] at this;omega
 have h3:=zNV A B C s h1 h2;rw[u16_or_nat A B (by omega) (by omega),h3]
 have h4:A ||| B<2 ^ 16:=Nat.or_lt_two_pow (by omega) (by omega)
 rw[h3] at h4;exact⟨by omega,by omega⟩
theorem or32 (a b c:Int) (ha:0<=a) (ax:a<65536) (hb:b=65536*c) (oz:0<=c) (E4:c<65536):bits .or .u32 a b=a+b:=by
 obtain⟨A,rfl⟩:=Int.eq_ofNat_of_zero_le ha;obtain⟨C,rfl⟩:=Int.eq_ofNat_of_zero_le oz;have h3:=zNV A (65536*C) C 16 (by omega) (by omega)
 have ay:b=((65536*C:Nat):Int):=by omega
 rw[ay,u32_or_nat A (65536*C) (by omega) (by omega),h3]
 omega
theorem and16 (x:Int) (s:Nat) (hs:s<=16) (hx:0<=x) (gD:x<65536):bits .and .u16 x (Q s-1)=x % Q s:=by
 have hQ:Q s<=65536:=by rw[<- Q16];exact zH hs
 have BR:=zE s;obtain⟨A,rfl⟩:=Int.eq_ofNat_of_zero_le hx;rw[u16_and _ _ (by omega) (by omega) (by omega) (by omega)]
 have h1:(Q s-1).toNat=2 ^ s-1:=by rw[Q_nat];omega
 rw[h1,Int.toNat_natCast,Nat.and_two_pow_sub_one_eq_mod,Q_nat];omega
theorem zUC (x:Int) (s:Nat) (hs:s<=16):∃ c,x*Q s % 65536=Q s*c:=by
 refine⟨x-Q (16-s)*(x*Q s/65536),?_⟩;have h:=zJE hs;rw[Int.mul_sub,<- Int.mul_assoc,h,Int.mul_comm (Q s) x];omega
theorem zI9 (x:Int) (s:Nat) (hx:0<=x) (gD:x<65536):0<=x*Q s/65536/\x*Q s/65536<Q s:=by
 have BR:=zE s;have h0:0<=x*Q s:=Zc hx (by omega)
 have h1:x*Q s+Q s<=65536*Q s:=by
  have:=YW (show x+1<=65536 by omega) (show 0<=Q s by omega)
  rw[Int.add_mul] at this;omega
 omega
theorem up_lt (x:Int) (s:Nat) (hs:s<16) (hx:0<=x) (gD:x<65536):0<=x*Q s/\x*Q s<4294967296:=by
 have hQ:Q s<=Q 15:=zH (by omega)
 have gP:Q 15=32768:=rfl;have h:=zI9 x s hx gD;have BR:=zE s;have h0:0<=x*Q s:=Zc hx (by omega)
 omega
theorem zUB (v x o:Int) (i q s:Nat):v*Q s*P q+(o+x*Q s % 65536-o)*P (i+q)+(x*Q s/65536-0)*P (i+q+1)=(v+x*P i)*Q s*P q:=by
 have h1:(o+x*Q s % 65536-o)*P (i+q)+(x*Q s/65536-0)*(65536*P (i+q))=x*Q s*P (i+q):=by
  rw[<- Int.mul_assoc,<- Int.add_mul];congr 1;omega
 have h2:(v+x*P i)*Q s*P q=v*Q s*P q+x*Q s*P (i+q):=by
  rw[P_add,Int.add_mul,Int.add_mul,Int.mul_assoc x (P i),Int.mul_comm (P i) (Q s),<- Int.mul_assoc x,Int.mul_assoc (x*Q s)]
 rw[h2];simp only[P];omega
theorem up_any (neg:Bool) (a:Option Addr) (n cap k:Nat) (d:Nat->Int) (w:World) (ha:Dig w a n cap d) (hn:n<=1000000000) (hk:k<=1000000000) :
  Calls Tryz.prog 116 #[.agg #[.bool neg,.slice a n cap],.int .i64 k] w λ r w' =>
   ∃ j9 a' n' m7,r=.returned (.agg #[.bool j9,.slice a' n' m7])/\IntAt w' j9 a' n' m7 (k/16+n+1) (sgn neg (V d n*Q k))/\Below w.heap.size w w':=by
 obtain⟨q,hq⟩:∃ q,q=k/16:=⟨_,rfl⟩;obtain⟨s,hs⟩:∃ s,s=k % 16:=⟨_,rfl⟩;have Fg:(k:Int)/16=(q:Int):=by omega
 have qf:(k:Int) % 16=(s:Int):=by omega
 have di:s<16:=by omega
 have nI:¬ (k:Int)<0:=by omega
 obtain⟨W,hW⟩:∃ W,W=(w.alloc (.cells #[.bool neg,.slice a n cap] 29)).alloc (.cells #[.bool false,.slice none 0 0] 29):=⟨_,rfl⟩;have b3:Below w.heap.size w W:=by rw[hW];exact bl2 _ _ _
 have s3:W.heap.size=w.heap.size+1+1:=by rw[hW];simp
 have k0:W.cell? ⟨w.heap.size,0,none⟩=some (.bool neg):=by rw[hW];simp[go_sem]
 have k3:W.cell? ⟨w.heap.size+1,0,none⟩=some (.bool false):=by rw[hW];simp[go_sem]
 have k4:W.cell? ⟨w.heap.size+1,1,none⟩=some (.slice none 0 0):=by rw[hW];simp[go_sem]
 have k5:∀ o,W.frozen? ⟨w.heap.size+1,o,none⟩=false:=by intro o;rw[hW];simp[go_sem]
 have HW:=zC hW;clear hW;have aj:=run_make_row' (P:=Tryz.prog) 27 94 (.int .u16 0) 2 Tryz.underlying27 Tryz.infoU16 rfl .i64 .i64 (q+n+1) (by omega) (by omega)
 have dM:((q+n+1:Nat):Int)=(q:Int)+n+1:=by omega
 rw[dM] at aj;have Hq:=zC hq;have Hs:=zC hs;clear dM hq hs
 go_enter Tryz.func116,Tryz.ntmps116
 go_wp2;clear aj
 go_loopw [26] (λ ii wr=>∃ (i:Nat) (o:Nat->Int),i<=n/\ii=.int .i64 i/\wr.rowIs (w.heap.size+1+1) 94 (q+n+1) (λ j=>.int .u16 (o j))/\Dgs o/\V o (q+n+1)=V d i*Q s*P q/\(∀ j,i+q<j->o j=0)/\o (i+q)<Q s/\Below (w.heap.size+1+1) W wr) (λ ii _=>n-(intOf ii).toNat)
 case atStart =>
  refine⟨0,λ _=>0,Nat.zero_le _,rfl,?_,λ _=>⟨by simp,by simp⟩,?_,λ _ _=>rfl,?_,?_⟩
  ·have:=World.rowIs_made W (.int .u16 0) (q+n+1) 94
   rw[s3,zA HW] at this;exact this
  ·rw[zMQ];simp[V]
  ·have:=zE s;simp;omega
  ·rw[zA HW];exact (Below.refl _ _).alloc (by simp) _
 case round =>
  obtain⟨i,o,hi,rfl,C8,J0,Z8,aY,CC,A7⟩:=hrel
  by_cases I9:i<n
  ·obtain⟨b1,o1,rfl,b9,E4⟩:=ha.at_ (by omega)
   have g1:wr.cell? ⟨b1,o1+i,none⟩=some (.int .u16 (d i)):=(A7.cell (p:=⟨b1,o1+i,none⟩) (by show b1<_;omega)).trans ((b3.cell (p:=⟨b1,o1+i,none⟩) b9).trans (E4 i I9))
   have db:=ha.dgs i;have r1:=C8.cell (show i+q<q+n+1 by omega)
   have r2:=C8.frozen (i+q);have r3:=C8.cell (show i+q+1<q+n+1 by omega)
   have r4:=C8.frozen (i+q+1);have H6:=aY (i+q+1) (by omega)
   rw[H6] at r3;have ob:=J0 (i+q);have HV:=zC Z8;have HZ:=zC aY;have HR:=zC C8;have HD:=zC J0;have Bg:=zC H6;clear E4 Z8 aY C8 J0 H6;obtain⟨c,cZ⟩:=zUC (d i) s (by omega)
   have hhigh:=zI9 (d i) s db.1 db.2;have E2:=up_lt (d i) s di db.1 db.2;have P1:d i*2 ^ s % 4294967296=d i*Q s:=by rw[zGT];omega
   have fP:=or16 (o (i+q)) (d i*Q s % 65536) c s (by omega) ob.1 CC cZ (by omega) (by omega)
   have dh:=or16 0 (d i*Q s/65536) (d i*Q s/65536) 0 (by omega) (by omega) (by simp[Q]) (by simp[Q]) hhigh.1 (by omega)
   have H1:=zC (show bits .or .u16 (o (i+q)) (IntKind.u16.wrap (d i*2 ^ s % 4294967296))=o (i+q)+d i*Q s % 65536 by rw[P1,yQ];exact fP.1)
   have H2:=zC (show bits .or .u16 0 (d i*2 ^ s % 4294967296/65536)=d i*Q s/65536 by rw[P1,dh.1];omega)
   have H3:=zC fP.2;have H4:=zC hhigh;have lq:=zH (show s<=15 by omega)
   have gP:Q 15=32768:=rfl;rw[gP] at lq;clear cZ E2 P1 fP dh hhigh gP;go_wp2
   go_roundw
   case rel =>
    have h3:=zA H3;have h4:=zA H4;have hne:i+q+1≠i+q:=by omega
    have hz:upd o (i+q) (o (i+q)+d i*Q s % 65536) (i+q+1)=0:=by simp[upd];exact zA Bg
    refine⟨i+1,upd (upd o (i+q) (o (i+q)+d i*Q s % 65536)) (i+q+1) (d i*Q s/65536),by omega,by go_num,zB6 (zB6 (zA HR) (i+q) (zA H1)) (i+q+1) (zA H2),jP (jP (zA HD) _ (by omega) h3) _ h4.1 (by omega),?_,λ j hj=>?_,?_,(A7.setCell (by simp) _).setCell (by simp) _⟩
    ·rw[zK3 _ _ _ _ (by omega),zK3 _ _ _ _ (by omega),hz,zA HV]
     exact zUB (V d i) (d i) (o (i+q)) i q s
    ·have e1:j≠i+q:=by omega
     have e2:j≠i+q+1:=by omega
     simp only[upd,e1,e2,if_false];exact zA HZ j (by omega)
    ·have e1:i+1+q=i+q+1:=by omega
     rw[e1];simp only[upd,if_true];exact h4.2
   case measure=>simp[intOf];omega
  ·have hiE:i=n:=by omega
   subst hiE;have q0:wr.cell? ⟨w.heap.size,0,none⟩=some (.bool neg):=(A7.cell (p:=⟨w.heap.size,0,none⟩) (by show w.heap.size<_;omega)).trans k0
   have q3:wr.cell? ⟨w.heap.size+1,0,none⟩=some (.bool false):=(A7.cell (p:=⟨w.heap.size+1,0,none⟩) (by simp)).trans k3
   have q4:wr.cell? ⟨w.heap.size+1,1,none⟩=some (.slice none 0 0):=(A7.cell (p:=⟨w.heap.size+1,1,none⟩) (by simp)).trans k4
   have q5:∀ o,wr.frozen? ⟨w.heap.size+1,o,none⟩=false:=λ o=>(A7.frozen (p:=⟨w.heap.size+1,o,none⟩) (by simp)).trans (k5 o)
   have L5:=A7.size;rw[s3] at L5;have HR:=zC (zDD C8 J0 (by omega))
   have HV:=zC Z8;clear Z8 aY C8 J0;go_wp2_with (go_at_call 70;refine (zBM _ _ _ _ o _ (zA HR)).mono ?_;rintro r w2 ⟨j9,a2,n2,c2,rfl,hint,j7⟩;obtain⟨A9,B7,E7⟩:=zZ (w.heap.size+1+1) L5 j7);refine bodyPost_ret (v:=.agg #[.bool j9,.slice a2 n2 c2]) (by simp[results,Tryz.results116,go_sem,B7,q3,q4]) rfl ⟨j9,a2,n2,c2,rfl,?_,?_⟩
   ·have h0:w2.cell? ⟨w.heap.size+1,0,none⟩=some (.bool false):=by simp[B7,q3]
    have G6:w2.cell? ⟨w.heap.size+1,1,none⟩=some (.slice none 0 0):=by simp[B7,q4]
    rw[zA HV,Int.mul_assoc,zA Hs,zA Hq,<- zHS] at hint;exact hint.put2 h0 G6 _ _
   ·exact ((zB (b3.trans (A7.mono (by omega))) j7).setCell (by simp) _).setCell (by simp) _
theorem zCG (neg:Bool) (a:Option Addr) (n cap k k1:Nat) (x:Int) (w:World) (h1:IntAt w neg a n cap k1 x) (W6:k1<=1000000000) (hk:k<=1000000000) :
  Calls Tryz.prog 116 #[.agg #[.bool neg,.slice a n cap],.int .i64 k] w λ r w' =>
   ∃ j9 a' n' m7,r=.returned (.agg #[.bool j9,.slice a' n' m7])/\IntAt w' j9 a' n' m7 (k/16+k1+1) (x*Q k)/\Below w.heap.size w w':=by
 obtain⟨d,g1,g2,g3,g4,rfl⟩:=h1;have hs:sgn neg (V d n*Q k)=sgn neg (V d n)*Q k:=by cases neg<;>simp[sgn,Int.neg_mul]
 rw[<- hs];exact (up_any neg a n cap k d w g1 (by omega) hk).mono λ _ _ ⟨n1,n2,n3,n4,q1,q2,q3⟩=>⟨n1,n2,n3,n4,q1,q2.mono (by omega),q3⟩
attribute [local go_sem ↓] Go.wp_at_zero Go.wp_at_succ
theorem zOS (x y:Int) (s:Nat) (hs:s<=16) (hx:0<=x) (gD:x<65536) (hy:0<=y) :
  (x+65536*y)/Q s % 65536*Q s+x % Q s=x+y % Q s*65536:=by
 have pE:=zJE hs;have hq:=zE s;have hr:=zE (16-s);generalize Q s=S at *;generalize Q (16-s)=R at *
 have e1:(x+65536*y)/S=x/S+R*y:=by
  rw[<- pE,Int.mul_assoc,Int.add_mul_ediv_left _ _ (by omega)]
 have hxd:S*(x/S)+x % S=x:=Int.mul_ediv_add_emod x S;have hyd:S*(y/S)+y % S=y:=Int.mul_ediv_add_emod y S;have nN:0<=x/S:=Int.ediv_nonneg hx (by omega)
 have hxR:x/S<R:=Int.ediv_lt_of_lt_mul (by omega) (by rw[Int.mul_comm,pE];exact gD)
 have wm:=Int.emod_nonneg y (show S≠0 by omega)
 have hyS:=Int.emod_lt_of_pos y (show 0<S by omega)
 have e2:R*y=R*(y % S)+65536*(y/S):=by
  have:R*y=R*(S*(y/S)+y % S):=by rw[hyd]
  rw[this,Int.mul_add,<- Int.mul_assoc,Int.mul_comm R S,pE];omega
 have hRy:R*(y % S)<=R*(S-1):=Za (by omega) (by omega)
 have Xo:0<=R*(y % S):=Zc (by omega) wm
 have e3:R*(S-1)=65536-R:=by rw[Int.mul_sub,Int.mul_comm R S,pE];omega
 have e4:(x+65536*y)/S % 65536=x/S+R*(y % S):=by rw[e1,e2];omega
 rw[e4,Int.add_mul,Int.mul_comm (x/S) S,Int.mul_assoc,Int.mul_comm (y % S) S,<- Int.mul_assoc,Int.mul_comm R S,pE];omega
theorem kX (d o:Nat->Int) (n q m s:Nat) (hs:s<=16) (hd:Dgs d) {v:Int} (hv:v=(dg d n (q+m)+65536*dg d n (q+(m+1)))/Q s % 65536)
  (h:V o m*Q s+dg d n q % Q s=V (λ j=>dg d n (q+j)) m+dg d n (q+m) % Q s*P m) :
  V (upd o m v) (m+1)*Q s+dg d n q % Q s=V (λ j=>dg d n (q+j)) (m+1)+dg d n (q+(m+1)) % Q s*P (m+1):=by
 have b1:0<=dg d n (q+m)/\dg d n (q+m)<65536:=by unfold dg;have:=hd (q+m);split<;>omega
 have b2:0<=dg d n (q+(m+1)):=by unfold dg;have:=hd (q+(m+1));split<;>omega
 have h1:=zOS (dg d n (q+m)) (dg d n (q+(m+1))) s hs b1.1 b1.2 b2;rw[<- hv] at h1
 have h2:V (upd o m v) (m+1)=V o m+v*P m:=by
  simp only[V];rw[zCH m (λ j hj=>by simp[upd];omega:∀ j,j<m->upd o m v j=o j)]
  simp[upd]
 rw[h2];simp only[V,P];generalize dg d n (q+(m+1)) % Q s=y at *;generalize dg d n (q+m) % Q s=z at *
 have h3:v*Q s*P m+z*P m=dg d n (q+m)*P m+y*(65536*P m):=by
  rw[<- Int.add_mul,h1,Int.add_mul,Int.mul_assoc]
 have h4:(V o m+v*P m)*Q s=V o m*Q s+v*Q s*P m:=by
  rw[Int.add_mul,Int.mul_assoc v,Int.mul_comm (P m) (Q s),<- Int.mul_assoc]
 omega
def yA (d:Nat->Int) (q s i:Nat):Int:=if i<=q then V d i else V d q+d q % Q s*P q
theorem zNN {d:Nat->Int} (hd:Dgs d) {q s i:Nat} (h:i<q):yA d q s (i+1)≠0 ↔ (yA d q s i≠0\/d i≠0):=by
 unfold yA;rw[if_pos (by omega),if_pos (by omega)]
 simp only[V];have h1:=jA hd i;have h2:=hd i;have h3:=yI i;have h4:0<=d i*P i:=Zc h2.1 (by omega)
 by_cases h5:d i=0
 ·simp[h5]
 ·have:1*P i<=d i*P i:=YW (by omega) (by omega)
  omega
theorem zC5 {d:Nat->Int} (hd:Dgs d) (q s:Nat):yA d q s (q+1)≠0 ↔ (yA d q s q≠0\/d q % Q s≠0):=by
 unfold yA;rw[if_neg (by omega),if_pos (by omega)]
 have h1:=jA hd q;have h2:=Int.emod_nonneg (d q) (show Q s≠0 by have:=zE s;omega)
 have h3:=yI q;have h4:0<=d q % Q s*P q:=Zc h2 (by omega)
 by_cases h5:d q % Q s=0
 ·simp[h5]
 ·have:1*P q<=d q % Q s*P q:=YW (by omega) (by omega)
  omega
theorem zED {d:Nat->Int} {q s i:Nat} (h:q<i):yA d q s (i+1)=yA d q s i:=by
 unfold yA;rw[if_neg (by omega),if_neg (by omega)]
theorem zL {w w1:World} (h:Below w.heap.size w w1) (o:Obj):Below w.heap.size w (w1.alloc o):=h.alloc h.size o
theorem zHU (d:Nat->Int) (q m:Nat):V d (q+m)=V d q+P q*V (λ j=>d (q+j)) m:=by
 induction m with
 | zero=>simp[V]
 | succ m ih =>
  rw[<- Nat.add_assoc];simp only[V];rw[ih,P_add,Int.mul_add];have:d (q+m)*(P q*P m)=P q*(d (q+m)*P m):=by rw[Int.mul_left_comm]
  omega
theorem zM4 {d o:Nat->Int} {n q s k m:Nat} (hd:Dgs d) (hq:q=k/16) (hs:s=k % 16) (hm:m=n-q)
  (h:V o m*Q s+dg d n q % Q s=V (λ j=>dg d n (q+j)) m+dg d n (q+m) % Q s*P m) :
  V d n=V o m*Q k+yA d q s n/\0<=yA d q s n/\yA d q s n<Q k:=by
 have hQ:Q k=Q s*P q:=by rw[hs,hq];exact zHS k
 have hp:=yI q;have zi:=zE s
 have hSP:P q<=Q s*P q:=by
  have:=YW zi (show 0<=P q by omega);omega
 unfold yA
 by_cases hn:n<=q
 ·rw[if_pos hn]
  have pW:m=0:=by omega
  subst pW;have h1:=jA hd n;have h2:=zHT hd n;have h3:=zBT hn;simp only[V];omega
 ·rw[if_neg hn]
  have zh:q+m=n:=by omega
  have e0:dg d n (q+m)=0:=by rw[zh];simp[dg]
  have e1:dg d n q=d q:=by simp[dg];omega
  have e2:V (λ j=>dg d n (q+j)) m=V (λ j=>d (q+j)) m:=zCH m (λ j hj=>by simp[dg];omega)
  rw[e0,e1,e2] at h;have h4:=zHU d q m;rw[zh] at h4;have iQ:=Int.emod_nonneg (d q) (show Q s≠0 by omega)
  have T7:=Int.emod_lt_of_pos (d q) (show 0<Q s by omega)
  have h5:=jA hd q;have h6:=zHT hd q;have h7:d q % Q s*P q<=(Q s-1)*P q:=YW (by omega) (by omega)
  rw[Int.sub_mul] at h7;have h8:0<=d q % Q s*P q:=Zc iQ (by omega)
  simp at h
  have h9:P q*V (λ j=>d (q+j)) m=V o m*(Q s*P q)+d q % Q s*P q:=by
   rw[<- h,Int.mul_comm (P q),Int.add_mul,Int.mul_assoc]
  rw[hQ];omega
theorem zBE {M v r K:Int} (hK:0<K) (h:M=v*K+r) (h0:0<=r) (h1:r<K):M/K=v:=by
 rw[h,Int.add_comm,Int.add_mul_ediv_right _ _ (by omega),Int.ediv_eq_zero_of_lt h0 h1];omega
theorem zEV {M v K:Int} (hK:0<K) (h:M=v*K) : -M/K = -v:=by
 rw[h,<- Int.neg_mul,Int.mul_ediv_cancel _ (by omega)]
theorem zC1 {M v r K:Int} (hK:0<K) (h:M=v*K+r) (h0:0<r) (h1:r<K) : -M/K = -v-1:=by
 refine zBE (r:=K-r) hK ?_ (by omega) (by omega)
 rw[h,Int.sub_mul,Int.neg_mul];omega
theorem down_any (neg:Bool) (a:Option Addr) (n cap k:Nat) (d:Nat->Int) (w:World) (ha:Dig w a n cap d) (hn:n<=1000000000) (hk:k<=1000000000) :
  Calls Tryz.prog 96 #[.agg #[.bool neg,.slice a n cap],.int .i64 k] w λ r w' =>
   ∃ j9 a' n' m7,r=.returned (.agg #[.bool j9,.slice a' n' m7])/\IntAt w' j9 a' n' m7 (n+5) (sgn neg (V d n)/Q k)/\Below w.heap.size w w':=by
 obtain⟨q,hq⟩:∃ q,q=k/16:=⟨_,rfl⟩;obtain⟨s,hs⟩:∃ s,s=k % 16:=⟨_,rfl⟩;have Fg:(k:Int)/16=(q:Int):=by omega
 have qf:(k:Int) % 16=(s:Int):=by omega
 have di:s<16:=by omega
 have nI:¬ (k:Int)<0:=by omega
 obtain⟨W,hW⟩:∃ W,W=(w.alloc (.cells #[.bool neg,.slice a n cap] 29)).alloc (.cells #[.bool false,.slice none 0 0] 29):=⟨_,rfl⟩;have b3:Below w.heap.size w W:=by rw[hW];exact bl2 _ _ _
 have s3:W.heap.size=w.heap.size+1+1:=by rw[hW];simp
 have k0:W.cell? ⟨w.heap.size,0,none⟩=some (.bool neg):=by rw[hW];simp[go_sem]
 have k1:W.cell? ⟨w.heap.size,1,none⟩=some (.slice a n cap):=by rw[hW];simp[go_sem]
 have k3:W.cell? ⟨w.heap.size+1,0,none⟩=some (.bool false):=by rw[hW];simp[go_sem]
 have k4:W.cell? ⟨w.heap.size+1,1,none⟩=some (.slice none 0 0):=by rw[hW];simp[go_sem]
 have k5:∀ o,W.frozen? ⟨w.heap.size+1,o,none⟩=false:=by intro o;rw[hW];simp[go_sem]
 have HW:=zC hW;have Hq:=zC hq;have Hs:=zC hs;clear hW hq hs
 go_enter Tryz.func96,Tryz.ntmps96
 go_wp2
 go_loopw [5,6,20] (λ out lost ii wr=>∃ (i m:Nat) (a':Option Addr) (m7:Nat) (o:Nat->Int) (b:Bool),i<=n/\ii=.int .i64 i/\m=i-q/\out=.slice a' m m7/\lost=.bool b/\(b=true ↔ yA d q s i≠0) /\
   Own wr (w.heap.size+1+1) 94 a' m m7 o/\Dgs o/\V o m*Q s+dg d n q % Q s=V (λ j=>dg d n (q+j)) m+dg d n (q+m) % Q s*P m/\Below (w.heap.size+1+1) W wr) (λ _ _ ii _=>n-(intOf ii).toNat)
 case atStart =>
  refine⟨0,0,none,0,λ _=>0,false,Nat.zero_le _,rfl,by omega,rfl,rfl,by simp[yA,V],Own.nil _ _ _ _,λ _=>⟨by simp,by simp⟩,by simp[V,P],?_⟩
  rw[zA HW];exact Below.refl _ _
 case round =>
  obtain⟨i,m,a',m7,o,b,hi,rfl,hm,rfl,rfl,hb,G8,J0,hV,A7⟩:=hrel;have L5:=A7.size;rw[s3] at L5
  by_cases I9:i<n
  ·obtain⟨b1,o1,rfl,b9,E4⟩:=ha.at_ (by omega)
   have g1:wr.cell? ⟨b1,o1+i,none⟩=some (.int .u16 (d i)):=(A7.cell (p:=⟨b1,o1+i,none⟩) (by show b1<_;omega)).trans ((b3.cell (p:=⟨b1,o1+i,none⟩) b9).trans (E4 i I9))
   have q1:wr.cell? ⟨w.heap.size,1,none⟩=some (.slice (some ⟨b1,o1,none⟩) n cap):=(A7.cell (p:=⟨w.heap.size,1,none⟩) (by show w.heap.size<_;omega)).trans k1
   have db:=ha.dgs i
   by_cases Jk:i<q
   ·have pW:m=0:=by omega
    subst pW;have vg:(i:Int)<q:=by omega
    have Hm:=zC hm;have HO:=zC G8;have HV:=zC hV;have HB:=zC hb;clear hm G8 hV hb E4;have oG:=zNN (s:=s) ha.dgs Jk
    cases b
    ·have HL:=zC (show (d i != 0)=true ↔ yA d q s (i+1)≠0 by rw[oG];have:=zA HB;simp at this;simp[this])
     clear oG;go_wp2
     go_roundw
     case rel=>exact⟨i+1,0,a',m7,o,_,by omega,by go_num,by omega,rfl,rfl,zA HL,zA HO,J0,zA HV,A7⟩
     case measure=>simp[intOf];omega
    ·have HL:=zC (show true=true ↔ yA d q s (i+1)≠0 by rw[oG];have:=zA HB;simp at this;simp[this])
     clear oG;go_wp2
     go_roundw
     case rel=>exact⟨i+1,0,a',m7,o,_,by omega,by go_num,by omega,rfl,rfl,zA HL,zA HO,J0,zA HV,A7⟩
     case measure=>simp[intOf];omega
   ·have vg:¬ (i:Int)<q:=by omega
    have iO:m<=n:=by omega
    have Hm:=zC hm;have HO:=zC G8;have HV:=zC hV;have HB:=zC hb;clear hm G8 hV hb;have eqm:q+m=i:=by have:=zA Hm;omega
    have hand:bits BinOp.and IntKind.u16 (d i) (IntKind.u16.wrap (IntKind.u16.wrap (2 ^ s)-1))=d i % Q s:=by
     have h1:=zH (show s<=15 by omega)
     have gP:Q 15=32768:=rfl;have h2:=zE s;have h3:IntKind.u16.wrap (IntKind.u16.wrap (2 ^ s)-1)=Q s-1:=by rw[yQ,yQ,zGT];omega
     rw[h3];exact and16 (d i) s (by omega) db.1 db.2
    have dgi:dg d n (q+m)=d i:=by rw[eqm];simp[dg,I9]
    by_cases fq:i+1<n
    ·have g2:wr.cell? ⟨b1,o1+(i+1),none⟩=some (.int .u16 (d (i+1))):=(A7.cell (p:=⟨b1,o1+(i+1),none⟩) (by show b1<_;omega)).trans ((b3.cell (p:=⟨b1,o1+(i+1),none⟩) b9).trans (E4 (i+1) fq))
     have Bj:=ha.dgs (i+1);have vd:(i:Int)+1<n:=by omega
     have T9:IntKind.u16.wrap (bits BinOp.or IntKind.u32 (d i) (d (i+1)*65536)/2 ^ s)=(dg d n (q+m)+65536*dg d n (q+(m+1)))/Q s % 65536:=by
      have e1:dg d n (q+(m+1))=d (i+1):=by rw[<- Nat.add_assoc,eqm];simp[dg,fq]
      rw[yQ,or32 (d i) (d (i+1)*65536) (d (i+1)) db.1 db.2 (by omega) Bj.1 Bj.2,zGT,dgi,e1,Int.mul_comm (d (i+1)) 65536]
     clear E4 dgi eqm
     by_cases cX:i=q
     ·subst cX
      have ft:((i:Int) == i)=true:=by simp
      cases b
      ·have HL:=zC (show (bits BinOp.and IntKind.u16 (d i) (IntKind.u16.wrap (IntKind.u16.wrap (2 ^ s)-1)) != 0)=true ↔ yA d i s (i+1)≠0 by rw[zC5 ha.dgs,hand];have:=zA HB;simp at this;simp[this])
       clear hand;have HE:=zC (show IntKind.u16.wrap (bits BinOp.or IntKind.u32 (d i) (d (i+1)*65536)/2 ^ s)=(dg d n (i+m)+65536*dg d n (i+(m+1)))/Q s % 65536 by rw[T9])
       clear T9;go_wp2_with (at_builtin;refine zQ _ rfl _ _ 27 rfl (w.heap.size+1+1) 94 Tryz.underlying27 Tryz.infoU16 a' m m7 o rfl ((zA HO).alloc _) wr.heap.size 1 (IntKind.u16.wrap (bits BinOp.or IntKind.u32 (d i) (d (i+1)*65536)/2 ^ s)) rfl (by simp[go_sem]) (by omega) (by simp;omega) ?_;intro a2 m8 w1 E5 j7)
       go_roundw
       case rel =>
        rw[zA HE] at E5;refine⟨i+1,m+1,a2,m8,upd o m ((dg d n (i+m)+65536*dg d n (i+(m+1)))/Q s % 65536),_,by omega,by go_num,by have:=zA Hm;omega,rfl,rfl,zA HL,E5,jP J0 _ (by omega) (by omega),kX d o n i m s (by omega) ha.dgs rfl (zA HV),?_⟩
        exact (A7.alloc (by omega) _).trans j7
       case measure=>simp[intOf];omega
      ·have HL:=zC (show true=true ↔ yA d i s (i+1)≠0 by rw[zC5 ha.dgs];have:=zA HB;simp at this;simp[this])
       clear hand;have HE:=zC (show IntKind.u16.wrap (bits BinOp.or IntKind.u32 (d i) (d (i+1)*65536)/2 ^ s)=(dg d n (i+m)+65536*dg d n (i+(m+1)))/Q s % 65536 by rw[T9])
       clear T9;go_wp2_with (at_builtin;refine zQ _ rfl _ _ 27 rfl (w.heap.size+1+1) 94 Tryz.underlying27 Tryz.infoU16 a' m m7 o rfl ((zA HO).alloc _) wr.heap.size 1 (IntKind.u16.wrap (bits BinOp.or IntKind.u32 (d i) (d (i+1)*65536)/2 ^ s)) rfl (by simp[go_sem]) (by omega) (by simp;omega) ?_;intro a2 m8 w1 E5 j7)
       go_roundw
       case rel =>
        rw[zA HE] at E5;refine⟨i+1,m+1,a2,m8,upd o m ((dg d n (i+m)+65536*dg d n (i+(m+1)))/Q s % 65536),_,by omega,by go_num,by have:=zA Hm;omega,rfl,rfl,zA HL,E5,jP J0 _ (by omega) (by omega),kX d o n i m s (by omega) ha.dgs rfl (zA HV),?_⟩
        exact (A7.alloc (by omega) _).trans j7
       case measure=>simp[intOf];omega
     ·have ft:((i:Int) == q)=false:=by simp;omega
      have HL:=zC (show b=true ↔ yA d q s (i+1)≠0 by rw[zED (by omega)];exact zA HB)
      clear hand;have HE:=zC (show IntKind.u16.wrap (bits BinOp.or IntKind.u32 (d i) (d (i+1)*65536)/2 ^ s)=(dg d n (q+m)+65536*dg d n (q+(m+1)))/Q s % 65536 by rw[T9])
      clear T9;go_wp2_with (at_builtin;refine zQ _ rfl _ _ 27 rfl (w.heap.size+1+1) 94 Tryz.underlying27 Tryz.infoU16 a' m m7 o rfl ((zA HO).alloc _) wr.heap.size 1 (IntKind.u16.wrap (bits BinOp.or IntKind.u32 (d i) (d (i+1)*65536)/2 ^ s)) rfl (by simp[go_sem]) (by omega) (by simp;omega) ?_;intro a2 m8 w1 E5 j7)
      go_roundw
      case rel =>
       rw[zA HE] at E5;refine⟨i+1,m+1,a2,m8,upd o m ((dg d n (q+m)+65536*dg d n (q+(m+1)))/Q s % 65536),_,by omega,by go_num,by have:=zA Hm;omega,rfl,rfl,zA HL,E5,jP J0 _ (by omega) (by omega),kX d o n q m s (by omega) ha.dgs rfl (zA HV),?_⟩
       exact (A7.alloc (by omega) _).trans j7
      case measure=>simp[intOf];omega
    ·have vd:¬ (i:Int)+1<n:=by omega
     have T9:IntKind.u16.wrap (d i/2 ^ s)=(dg d n (q+m)+65536*dg d n (q+(m+1)))/Q s % 65536:=by
      have e1:dg d n (q+(m+1))=0:=by rw[<- Nat.add_assoc,eqm];simp[dg,fq]
      rw[yQ,zGT,dgi,e1];simp
     clear E4 dgi eqm
     by_cases cX:i=q
     ·subst cX
      have ft:((i:Int) == i)=true:=by simp
      cases b
      ·have HL:=zC (show (bits BinOp.and IntKind.u16 (d i) (IntKind.u16.wrap (IntKind.u16.wrap (2 ^ s)-1)) != 0)=true ↔ yA d i s (i+1)≠0 by rw[zC5 ha.dgs,hand];have:=zA HB;simp at this;simp[this])
       clear hand;have HE:=zC (show IntKind.u16.wrap (d i/2 ^ s)=(dg d n (i+m)+65536*dg d n (i+(m+1)))/Q s % 65536 by rw[T9])
       clear T9;go_wp2_with (at_builtin;refine zQ _ rfl _ _ 27 rfl (w.heap.size+1+1) 94 Tryz.underlying27 Tryz.infoU16 a' m m7 o rfl ((zA HO).alloc _) wr.heap.size 1 (IntKind.u16.wrap (d i/2 ^ s)) rfl (by simp[go_sem]) (by omega) (by simp;omega) ?_;intro a2 m8 w1 E5 j7)
       go_roundw
       case rel =>
        rw[zA HE] at E5;refine⟨i+1,m+1,a2,m8,upd o m ((dg d n (i+m)+65536*dg d n (i+(m+1)))/Q s % 65536),_,by omega,by go_num,by have:=zA Hm;omega,rfl,rfl,zA HL,E5,jP J0 _ (by omega) (by omega),kX d o n i m s (by omega) ha.dgs rfl (zA HV),?_⟩
        exact (A7.alloc (by omega) _).trans j7
       case measure=>simp[intOf];omega
      ·have HL:=zC (show true=true ↔ yA d i s (i+1)≠0 by rw[zC5 ha.dgs];have:=zA HB;simp at this;simp[this])
       clear hand;have HE:=zC (show IntKind.u16.wrap (d i/2 ^ s)=(dg d n (i+m)+65536*dg d n (i+(m+1)))/Q s % 65536 by rw[T9])
       clear T9;go_wp2_with (at_builtin;refine zQ _ rfl _ _ 27 rfl (w.heap.size+1+1) 94 Tryz.underlying27 Tryz.infoU16 a' m m7 o rfl ((zA HO).alloc _) wr.heap.size 1 (IntKind.u16.wrap (d i/2 ^ s)) rfl (by simp[go_sem]) (by omega) (by simp;omega) ?_;intro a2 m8 w1 E5 j7)
       go_roundw
       case rel =>
        rw[zA HE] at E5;refine⟨i+1,m+1,a2,m8,upd o m ((dg d n (i+m)+65536*dg d n (i+(m+1)))/Q s % 65536),_,by omega,by go_num,by have:=zA Hm;omega,rfl,rfl,zA HL,E5,jP J0 _ (by omega) (by omega),kX d o n i m s (by omega) ha.dgs rfl (zA HV),?_⟩
        exact (A7.alloc (by omega) _).trans j7
       case measure=>simp[intOf];omega
     ·have ft:((i:Int) == q)=false:=by simp;omega
      have HL:=zC (show b=true ↔ yA d q s (i+1)≠0 by rw[zED (by omega)];exact zA HB)
      clear hand;have HE:=zC (show IntKind.u16.wrap (d i/2 ^ s)=(dg d n (q+m)+65536*dg d n (q+(m+1)))/Q s % 65536 by rw[T9])
      clear T9;go_wp2_with (at_builtin;refine zQ _ rfl _ _ 27 rfl (w.heap.size+1+1) 94 Tryz.underlying27 Tryz.infoU16 a' m m7 o rfl ((zA HO).alloc _) wr.heap.size 1 (IntKind.u16.wrap (d i/2 ^ s)) rfl (by simp[go_sem]) (by omega) (by simp;omega) ?_;intro a2 m8 w1 E5 j7)
      go_roundw
      case rel =>
       rw[zA HE] at E5;refine⟨i+1,m+1,a2,m8,upd o m ((dg d n (q+m)+65536*dg d n (q+(m+1)))/Q s % 65536),_,by omega,by go_num,by have:=zA Hm;omega,rfl,rfl,zA HL,E5,jP J0 _ (by omega) (by omega),kX d o n q m s (by omega) ha.dgs rfl (zA HV),?_⟩
       exact (A7.alloc (by omega) _).trans j7
      case measure=>simp[intOf];omega
  ·have hiE:i=n:=by omega
   subst hiE;have q0:wr.cell? ⟨w.heap.size,0,none⟩=some (.bool neg):=(A7.cell (p:=⟨w.heap.size,0,none⟩) (by show w.heap.size<_;omega)).trans k0
   have q3:wr.cell? ⟨w.heap.size+1,0,none⟩=some (.bool false):=(A7.cell (p:=⟨w.heap.size+1,0,none⟩) (by simp)).trans k3
   have q4:wr.cell? ⟨w.heap.size+1,1,none⟩=some (.slice none 0 0):=(A7.cell (p:=⟨w.heap.size+1,1,none⟩) (by simp)).trans k4
   have q5:∀ o,wr.frozen? ⟨w.heap.size+1,o,none⟩=false:=λ o=>(A7.frozen (p:=⟨w.heap.size+1,o,none⟩) (by simp)).trans (k5 o)
   obtain⟨f1,f2,f3⟩:=zM4 ha.dgs (zA Hq) (zA Hs) hm hV;have om:0<Q k:=by have:=zE k;omega
   have HR:=zC (G8.dig J0 (by omega))
   have W8:m<=i:=by omega
   have IZ:(b=true/\0<yA d q s i)\/(b=false/\yA d q s i=0):=by
    cases b
    ·right;simp at hb;exact⟨rfl,hb⟩
    ·left;simp at hb;exact⟨rfl,by omega⟩
   clear hV hb G8 J0 hm
   rcases IZ with⟨rfl,hl⟩|⟨rfl,hl⟩
   ·cases neg
    ·have HE:=zC (show sgn false (V o m)=sgn false (V d i)/Q k by simp only[sgn];exact (zBE om f1 f2 f3).symm)
     clear f1 f2 f3 hl;go_wp2_with (go_at_call 70;refine (zBM _ _ _ _ o _ (zA HR)).mono ?_;rintro r w2 ⟨j9,a2,n2,c2,rfl,hint,j7⟩;obtain⟨A9,B7,E7⟩:=zZ (w.heap.size+1+1) L5 j7;have M5:=Zd (Nat.lt_succ_of_lt (Nat.lt_succ_self w.heap.size)) A9;have H6:=Zd (Nat.lt_succ_self (w.heap.size+1)) A9);refine bodyPost_ret (v:=.agg #[.bool j9,.slice a2 n2 c2]) (by simp[results,Tryz.results96,go_sem,B7,M5,H6,q3,q4]) rfl ⟨j9,a2,n2,c2,rfl,?_,?_⟩
     ·have h0:w2.cell? ⟨w.heap.size+1,0,none⟩=some (.bool false):=by simp[B7,q3]
      have G6:w2.cell? ⟨w.heap.size+1,1,none⟩=some (.slice none 0 0):=by simp[B7,q4]
      rw[zA HE] at hint;exact ((hint.put2 h0 G6 _ _).bw (bl1 _ _)).mono (by omega)
     ·exact zL (((zB (b3.trans (A7.mono (by omega))) j7).setCell (p:=⟨w.heap.size+1,0,none⟩) (Nat.le_succ _) _).setCell (p:=⟨w.heap.size+1,1,none⟩) (Nat.le_succ _) _) _
    ·have HE:=zC (show sgn true (V o m)-1=sgn true (V d i)/Q k by simp only[sgn];exact (zC1 om f1 hl f3).symm)
     clear f1 f2 f3 hl;go_wp2_with (go_at_call 70;refine (zBM _ _ _ _ o _ (zA HR)).mono ?_;rintro r w2 ⟨j9,a2,n2,c2,rfl,hint,j7⟩;obtain⟨A9,B7,E7⟩:=zZ (w.heap.size+1+1) L5 j7;have M5:=Zd (Nat.lt_succ_of_lt (Nat.lt_succ_self w.heap.size)) A9;have H6:=Zd (Nat.lt_succ_self (w.heap.size+1)) A9);have nz:w2.heap.size≠w.heap.size+1:=by omega
     have RP:w.heap.size+1≠w2.heap.size:=by omega
     go_region_held3 (λ w'=>w'.cell? ⟨w2.heap.size,0,none⟩=some (.bool j9)/\w'.cell? ⟨w2.heap.size,1,none⟩=some (.slice a2 n2 c2)) (go_keep)
      (first
       | (go_at_call 33;refine (zD 1 _ (by decide) (by decide)).mono ?_;rintro r w3 ⟨B8,a3,n3,c3,rfl,G0,o7⟩;obtain⟨J1,L6,O0⟩:=zZ (w2.heap.size+1) (by simp) o7)
       | (go_at_call 35;refine (zCR _ _ _ _ _ _ _ _ m 4 _ _ _ (hint.bw (zB (bl1 _ _).drew o7)) G0 (by omega) (by omega)).mono ?_;rintro r w4 ⟨E6,a4,n4,c4,rfl,I2,y9⟩;obtain⟨dt,fS,cA⟩:=zZ (w2.heap.size+1) J1 y9;have y1:=Nat.le_succ_of_le H6;have y0:w2.cell? ⟨w.heap.size+1,0,none⟩=some (.bool false):=(B7 _ _ (Zb _)).trans q3;have y2:w2.cell? ⟨w.heap.size+1,1,none⟩=some (.slice none 0 0):=(B7 _ _ (Zb _)).trans q4;have y3:∀ o,w2.frozen? ⟨w.heap.size+1,o,none⟩=false:=λ o=>(E7 _ _ (Zb _)).trans (q5 o)))
     go_wp2;have h0:w4.cell? ⟨w.heap.size+1,0,none⟩=some (.bool false):=by rw[fS _ _ y1,L6 _ _ y1];exact (World.cell?_alloc_past _ _ _ H6).trans y0
     have G6:w4.cell? ⟨w.heap.size+1,1,none⟩=some (.slice none 0 0):=by rw[fS _ _ y1,L6 _ _ y1];exact (World.cell?_alloc_past _ _ _ H6).trans y2
     refine bodyPost_ret (v:=.agg #[.bool E6,.slice a4 n4 c4]) (by simp[results,Tryz.results96,go_sem,h0,G6]) rfl ⟨E6,a4,n4,c4,rfl,?_,?_⟩
     ·rw[zA HE] at I2
      exact (I2.put2 h0 G6 _ _).mono (by omega)
     ·exact ((zB (zB (zL (zB (b3.trans (A7.mono (by omega))) j7) _).drew o7) y9).setCell (p:=⟨w.heap.size+1,0,none⟩) (Nat.le_succ _) _).setCell (p:=⟨w.heap.size+1,1,none⟩) (Nat.le_succ _) _
   ·cases neg
    ·have HE:=zC (show sgn false (V o m)=sgn false (V d i)/Q k by simp only[sgn];exact (zBE om f1 f2 f3).symm)
     clear f1 f2 f3 hl;go_wp2_with (go_at_call 70;refine (zBM _ _ _ _ o _ (zA HR)).mono ?_;rintro r w2 ⟨j9,a2,n2,c2,rfl,hint,j7⟩;obtain⟨A9,B7,E7⟩:=zZ (w.heap.size+1+1) L5 j7;have M5:=Zd (Nat.lt_succ_of_lt (Nat.lt_succ_self w.heap.size)) A9;have H6:=Zd (Nat.lt_succ_self (w.heap.size+1)) A9);refine bodyPost_ret (v:=.agg #[.bool j9,.slice a2 n2 c2]) (by simp[results,Tryz.results96,go_sem,B7,M5,H6,q3,q4]) rfl ⟨j9,a2,n2,c2,rfl,?_,?_⟩
     ·have h0:w2.cell? ⟨w.heap.size+1,0,none⟩=some (.bool false):=by simp[B7,q3]
      have G6:w2.cell? ⟨w.heap.size+1,1,none⟩=some (.slice none 0 0):=by simp[B7,q4]
      rw[zA HE] at hint;exact ((hint.put2 h0 G6 _ _).bw (bl1 _ _)).mono (by omega)
     ·exact zL (((zB (b3.trans (A7.mono (by omega))) j7).setCell (p:=⟨w.heap.size+1,0,none⟩) (Nat.le_succ _) _).setCell (p:=⟨w.heap.size+1,1,none⟩) (Nat.le_succ _) _) _
    ·have HE:=zC (show sgn true (V o m)=sgn true (V d i)/Q k by simp only[sgn];exact (zEV om (by rw[f1,hl];omega)).symm)
     clear f1 f2 f3 hl;go_wp2_with (go_at_call 70;refine (zBM _ _ _ _ o _ (zA HR)).mono ?_;rintro r w2 ⟨j9,a2,n2,c2,rfl,hint,j7⟩;obtain⟨A9,B7,E7⟩:=zZ (w.heap.size+1+1) L5 j7;have M5:=Zd (Nat.lt_succ_of_lt (Nat.lt_succ_self w.heap.size)) A9;have H6:=Zd (Nat.lt_succ_self (w.heap.size+1)) A9);refine bodyPost_ret (v:=.agg #[.bool j9,.slice a2 n2 c2]) (by simp[results,Tryz.results96,go_sem,B7,M5,H6,q3,q4]) rfl ⟨j9,a2,n2,c2,rfl,?_,?_⟩
     ·have h0:w2.cell? ⟨w.heap.size+1,0,none⟩=some (.bool false):=by simp[B7,q3]
      have G6:w2.cell? ⟨w.heap.size+1,1,none⟩=some (.slice none 0 0):=by simp[B7,q4]
      rw[zA HE] at hint;exact ((hint.put2 h0 G6 _ _).bw (bl1 _ _)).mono (by omega)
     ·exact zL (((zB (b3.trans (A7.mono (by omega))) j7).setCell (p:=⟨w.heap.size+1,0,none⟩) (Nat.le_succ _) _).setCell (p:=⟨w.heap.size+1,1,none⟩) (Nat.le_succ _) _) _
theorem zH1 (neg:Bool) (a:Option Addr) (n cap k k1:Nat) (x:Int) (w:World) (h1:IntAt w neg a n cap k1 x) (W6:k1<=1000000000) (hk:k<=1000000000) :
  Calls Tryz.prog 96 #[.agg #[.bool neg,.slice a n cap],.int .i64 k] w λ r w' =>
   ∃ j9 a' n' m7,r=.returned (.agg #[.bool j9,.slice a' n' m7])/\IntAt w' j9 a' n' m7 (k1+5) (x/Q k)/\Below w.heap.size w w':=by
 obtain⟨d,g1,g2,g3,g4,rfl⟩:=h1;exact (down_any neg a n cap k d w g1 (by omega) hk).mono λ _ _ ⟨n1,n2,n3,n4,q1,q2,q3⟩=>⟨n1,n2,n3,n4,q1,q2.mono (by omega),q3⟩
theorem down_neg (neg:Bool) (a:Option Addr) (n cap k k1:Nat) (x:Int) (w:World) (h1:IntAt w neg a n cap k1 x) (W6:k1<=1000000000) (hk:k<=1000000000) (bA:0<k) :
  Calls Tryz.prog 96 #[.agg #[.bool neg,.slice a n cap],.int .i64 (-(k:Int))] w λ r w' =>
   ∃ j9 a' n' m7,r=.returned (.agg #[.bool j9,.slice a' n' m7])/\IntAt w' j9 a' n' m7 (k/16+k1+1) (x*Q k)/\Below w.heap.size w w':=by
 have K5 : -(k:Int)<0:=by omega
 go_enter Tryz.func96,Tryz.ntmps96
 go_wp2_with (go_at_call 116;refine (zCG _ _ _ _ k k1 x _ (h1.bw (bl2 _ _ _)) W6 hk).mono ?_;rintro r w2 ⟨j9,a2,n2,c2,rfl,hint,j7⟩;obtain⟨A9,B7,E7⟩:=zZ (w.heap.size+1+1) (by simp) j7)
 have h0:w2.cell? ⟨w.heap.size+1,0,none⟩=some (.bool false):=by simp[B7,go_sem]
 have G6:w2.cell? ⟨w.heap.size+1,1,none⟩=some (.slice none 0 0):=by simp[B7,go_sem]
 refine bodyPost_ret (v:=.agg #[.bool j9,.slice a2 n2 c2]) (by simp[results,Tryz.results96,go_sem,h0,G6]) rfl ⟨j9,a2,n2,c2,rfl,?_,?_⟩
 ·exact hint.put2 h0 G6 _ _
 ·exact ((zB (bl2 _ _ _) j7).setCell (p:=⟨w.heap.size+1,0,none⟩) (Nat.le_succ _) _).setCell (p:=⟨w.heap.size+1,1,none⟩) (Nat.le_succ _) _
def zA9 (x k:Int):Int:=if 0<=k then x/Q k.toNat else x*Q (-k).toNat
theorem zG9 (neg:Bool) (a:Option Addr) (n cap k1:Nat) (k x:Int) (w:World) (h1:IntAt w neg a n cap k1 x) (W6:k1<=1000000000) (bA : -1000000000<=k) (hk:k<=1000000000) :
  Calls Tryz.prog 96 #[.agg #[.bool neg,.slice a n cap],.int .i64 k] w λ r w' =>
   ∃ j9 a' n' m7,r=.returned (.agg #[.bool j9,.slice a' n' m7])/\IntAt w' j9 a' n' m7 ((-k).toNat/16+k1+5) (zA9 x k)/\Below w.heap.size w w':=by
 unfold zA9
 by_cases h:0<=k
 ·obtain⟨K,rfl⟩:=Int.eq_ofNat_of_zero_le h
  rw[if_pos h,Int.toNat_natCast];exact (zH1 neg a n cap K k1 x w h1 W6 (by omega)).mono λ _ _ ⟨n1,n2,n3,n4,q1,q2,q3⟩=>⟨n1,n2,n3,n4,q1,q2.mono (by omega),q3⟩
 ·rw[if_neg h]
  obtain⟨K,hK⟩:∃ K:Nat,k = -(K:Int):=⟨(-k).toNat,by omega⟩
  subst hK;rw[show (- -(K:Int)).toNat=K by omega]
  exact (down_neg neg a n cap K k1 x w h1 W6 (by omega) (by omega)).mono λ _ _ ⟨n1,n2,n3,n4,q1,q2,q3⟩=>⟨n1,n2,n3,n4,q1,q2.mono (by omega),q3⟩
end Go.Proofs.YtgmnknmjainabacGreat
