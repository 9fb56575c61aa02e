/-
  Its own texts.
-/
import Derived.Laws.BitsAllLaws
import Derived.Test.YtgmnknmjainabacGreatI01
set_option maxRecDepth 100000
set_option maxHeartbeats 40000000
set_option linter.unnecessarySimpa false
set_option linter.unusedSimpArgs false
set_option linter.unusedVariables false
namespace Go.Proofs.YtgmnknmjainabacGreat
open Go.RowKit
theorem Q_nat (s:Nat):Q s=((2 ^ s:Nat):Int):=by
 induction s with
 | zero=>rfl
 | succ s ih=>simp only[Q,ih,Nat.pow_succ];omega
theorem zOH (s:Nat):(2:Int) ^ s=Q s:=by rw[Q_nat];simp
theorem zE (s:Nat):1<=Q s:=by
 induction s with
 | zero=>simp[Q]
 | succ s ih=>simp only[Q];omega
theorem jF (s t:Nat):Q (s+t)=Q s*Q t:=by
 induction t with
 | zero=>simp[Q]
 | succ t ih=>rw[Nat.add_succ];simp only[Q];rw[ih,Int.mul_left_comm]
theorem zJ {s t:Nat} (h:s<=t):Q s<=Q t:=by
 obtain⟨u,rfl⟩:=Nat.exists_eq_add_of_le h;rw[jF];have:=YD (zE u) (show 0<=Q s by have:=zE s;omega)
 omega
theorem Q16:Q 16=65536:=rfl
theorem zJB {s:Nat} (h:s<=16):Q s*Q (16-s)=65536:=by rw[<- jF,show s+(16-s)=16 by omega];rfl
theorem Q_P (q:Nat):Q (16*q)=P q:=by
 induction q with
 | zero=>rfl
 | succ q ih=>rw[Nat.mul_succ,jF,ih,Q16];simp only[P];omega
theorem zK8 (k:Nat):Q k=Q (k % 16)*P (k/16):=by
 rw[<- Q_P,<- jF];congr 1;omega
theorem zNQ (a b c s:Nat) (ha:a<2 ^ s) (hb:b=2 ^ s*c):a ||| b=a+b:=by
 subst hb;rw[Nat.or_comm,<- Nat.two_pow_add_eq_or_of_lt ha c,Nat.add_comm]
theorem or16 (a b c:Int) (s:Nat) (hs:s<=16) (ha:0<=a) (Z8:a<Q s) (hb:b=Q s*c) (E8:0<=b) (b9:b<65536) :
  bits .or .u16 a b=a+b/\a+b<65536:=by
 have hQ:Q s<=65536:=by rw[<- Q16];exact zJ hs
 have hc:0<=c:=by
  rcases Int.lt_or_le c 0 with h|h
  ·have:=zE s
   have:=YD (show c <= -1 by omega) (show 0<=Q s by omega)
   omega
  ·exact h
 obtain⟨A,rfl⟩:=Int.eq_ofNat_of_zero_le ha;obtain⟨B,rfl⟩:=Int.eq_ofNat_of_zero_le E8;obtain⟨C,rfl⟩:=Int.eq_ofNat_of_zero_le hc;have hA:(A:Int)<65536:=by omega
 rw[Q_nat] at Z8 hb;have h1:A<2 ^ s:=by omega
 have h2:B=2 ^ s*C:=by have:=hb;rw[<- Int.natCast_mul] at this;omega
 have h3:=zNQ A B C s h1 h2;rw[u16_or_nat A B (by omega) (by omega),h3]
 have h4:A ||| B<2 ^ 16:=Nat.or_lt_two_pow (by omega) (by omega)
 rw[h3] at h4;exact⟨by omega,by omega⟩
theorem or32 (a b c:Int) (ha:0<=a) (Z8:a<65536) (hb:b=65536*c) (oy:0<=c) (D7:c<65536):bits .or .u32 a b=a+b:=by
 obtain⟨A,rfl⟩:=Int.eq_ofNat_of_zero_le ha;obtain⟨C,rfl⟩:=Int.eq_ofNat_of_zero_le oy;have h3:=zNQ A (65536*C) C 16 (by omega) (by omega)
 have M8:b=((65536*C:Nat):Int):=by omega
 rw[M8,u32_or_nat A (65536*C) (by omega) (by omega),h3]
 omega
theorem and16 (x:Int) (s:Nat) (hs:s<=16) (hx:0<=x) (cW:x<65536):bits .and .u16 x (Q s-1)=x % Q s:=by
 have hQ:Q s<=65536:=by rw[<- Q16];exact zJ hs
 have Qy:=zE s;obtain⟨A,rfl⟩:=Int.eq_ofNat_of_zero_le hx;rw[u16_and _ _ (by omega) (by omega) (by omega) (by omega)]
 have h1:(Q s-1).toNat=2 ^ s-1:=by rw[Q_nat];omega
 rw[h1,Int.toNat_natCast,Nat.and_two_pow_sub_one_eq_mod,Q_nat];omega
theorem up_low (x:Int) (s:Nat) (hs:s<=16):∃ c,x*Q s % 65536=Q s*c:=by
 refine⟨x-Q (16-s)*(x*Q s/65536),?_⟩;have h:=zJB hs;rw[Int.mul_sub,<- Int.mul_assoc,h,Int.mul_comm (Q s) x];omega
theorem zMD (x:Int) (s:Nat) (hx:0<=x) (cW:x<65536):0<=x*Q s/65536/\x*Q s/65536<Q s:=by
 have Qy:=zE s;have h0:0<=x*Q s:=YF hx (by omega)
 have h1:x*Q s+Q s<=65536*Q s:=by
  have:=YA (show x+1<=65536 by omega) (show 0<=Q s by omega)
  rw[Int.add_mul] at this;omega
 omega
theorem up_lt (x:Int) (s:Nat) (hs:s<16) (hx:0<=x) (cW:x<65536):0<=x*Q s/\x*Q s<4294967296:=by
 have hQ:Q s<=Q 15:=zJ (by omega)
 have oc:Q 15=32768:=rfl;have h:=zMD x s hx cW;have Qy:=zE s;have h0:0<=x*Q s:=YF hx (by omega)
 omega
theorem up_alg (v x o:Int) (i q s:Nat):v*Q s*P q+(o+x*Q s % 65536-o)*P (i+q)+(x*Q s/65536-0)*P (i+q+1)=(v+x*P i)*Q s*P q:=by
 have h1:(o+x*Q s % 65536-o)*P (i+q)+(x*Q s/65536-0)*(65536*P (i+q))=x*Q s*P (i+q):=by
  rw[<- Int.mul_assoc,<- Int.add_mul];congr 1;omega
 have h2:(v+x*P i)*Q s*P q=v*Q s*P q+x*Q s*P (i+q):=by
  rw[P_add,Int.add_mul,Int.add_mul,Int.mul_assoc x (P i),Int.mul_comm (P i) (Q s),<- Int.mul_assoc x,Int.mul_assoc (x*Q s)]
 rw[h2];simp only[P];omega
theorem up_any (neg:Bool) (a:Option Addr) (n cap k:Nat) (d:Nat->Int) (w:World) (ha:Dig w a n cap d) (hn:n<=1000000000) (hk:k<=1000000000) :
  Calls Tryz.prog 116 #[.agg #[.bool neg,.slice a n cap],.int .i64 k] w λ r w' =>
   ∃ m8 a' n' o7,r=.returned (.agg #[.bool m8,.slice a' n' o7])/\IntAt w' m8 a' n' o7 (k/16+n+1) (sgn neg (V d n*Q k))/\Below w.heap.size w w':=by
 obtain⟨q,hq⟩:∃ q,q=k/16:=⟨_,rfl⟩;obtain⟨s,hs⟩:∃ s,s=k % 16:=⟨_,rfl⟩;have Rc:(k:Int)/16=(q:Int):=by omega
 have Aw:(k:Int) % 16=(s:Int):=by omega
 have mv:s<16:=by omega
 have pZ:¬ (k:Int)<0:=by omega
 obtain⟨W,hW⟩:∃ W,W=(w.alloc (.cells #[.bool neg,.slice a n cap] 29)).alloc (.cells #[.bool false,.slice none 0 0] 29):=⟨_,rfl⟩;have b3:Below w.heap.size w W:=by rw[hW];exact bl2 _ _ _
 have s3:W.heap.size=w.heap.size+1+1:=by rw[hW];simp
 have k0:W.cell? ⟨w.heap.size,0,none⟩=some (.bool neg):=by rw[hW];simp[go_sem]
 have k3:W.cell? ⟨w.heap.size+1,0,none⟩=some (.bool false):=by rw[hW];simp[go_sem]
 have k4:W.cell? ⟨w.heap.size+1,1,none⟩=some (.slice none 0 0):=by rw[hW];simp[go_sem]
 have k5:∀ o,W.frozen? ⟨w.heap.size+1,o,none⟩=false:=by intro o;rw[hW];simp[go_sem]
 have HW:=zC hW;clear hW;have aK:=run_make_row' (P:=Tryz.prog) 27 94 (.int .u16 0) 2 Tryz.underlying27 Tryz.infoU16 rfl .i64 .i64 (q+n+1) (by omega) (by omega)
 have fR:((q+n+1:Nat):Int)=(q:Int)+n+1:=by omega
 rw[fR] at aK;have Hq:=zC hq;have Hs:=zC hs;clear fR hq hs
 go_enter Tryz.func116,Tryz.ntmps116
 go_wp2;clear aK
 go_loopw [26] (λ ii wr=>∃ (i:Nat) (o:Nat->Int),i<=n/\ii=.int .i64 i/\wr.rowIs (w.heap.size+1+1) 94 (q+n+1) (λ j=>.int .u16 (o j))/\Dgs o/\V o (q+n+1)=V d i*Q s*P q/\(∀ j,i+q<j->o j=0)/\o (i+q)<Q s/\Below (w.heap.size+1+1) W wr) (λ ii _=>n-(intOf ii).toNat)
 case atStart =>
  refine⟨0,λ _=>0,Nat.zero_le _,rfl,?_,λ _=>⟨by simp,by simp⟩,?_,λ _ _=>rfl,?_,?_⟩
  ·have:=World.rowIs_made W (.int .u16 0) (q+n+1) 94
   rw[s3,zA HW] at this;exact this
  ·rw[zQA];simp[V]
  ·have:=zE s;simp;omega
  ·rw[zA HW];exact (Below.refl _ _).alloc (by simp) _
 case round =>
  obtain⟨i,o,hi,rfl,D3,O0,aS,cj,Ko,B9⟩:=hrel
  by_cases I7:i<n
  ·obtain⟨b1,o1,rfl,b9,D7⟩:=ha.at_ (by omega)
   have g1:wr.cell? ⟨b1,o1+i,none⟩=some (.int .u16 (d i)):=(B9.cell (p:=⟨b1,o1+i,none⟩) (by show b1<_;omega)).trans ((b3.cell (p:=⟨b1,o1+i,none⟩) b9).trans (D7 i I7))
   have db:=ha.dgs i;have r1:=D3.cell (show i+q<q+n+1 by omega)
   have r2:=D3.frozen (i+q);have r3:=D3.cell (show i+q+1<q+n+1 by omega)
   have r4:=D3.frozen (i+q+1);have G7:=cj (i+q+1) (by omega)
   rw[G7] at r3;have ob:=O0 (i+q);have HV:=zC aS;have HZ:=zC cj;have HR:=zC D3;have HD:=zC O0;have Ic:=zC G7;clear D7 aS cj D3 O0 G7;obtain⟨c,mh⟩:=up_low (d i) s (by omega)
   have hhigh:=zMD (d i) s db.1 db.2;have D5:=up_lt (d i) s mv db.1 db.2;have Z5:d i*2 ^ s % 4294967296=d i*Q s:=by rw[zOH];omega
   have mj:=or16 (o (i+q)) (d i*Q s % 65536) c s (by omega) ob.1 Ko mh (by omega) (by omega)
   have mo:=or16 0 (d i*Q s/65536) (d i*Q s/65536) 0 (by omega) (by omega) (by simp[Q]) (by simp[Q]) hhigh.1 (by omega)
   have H1:=zC (show bits .or .u16 (o (i+q)) (IntKind.u16.wrap (d i*2 ^ s % 4294967296))=o (i+q)+d i*Q s % 65536 by rw[Z5,zAX];exact mj.1)
   have H2:=zC (show bits .or .u16 0 (d i*2 ^ s % 4294967296/65536)=d i*Q s/65536 by rw[Z5,mo.1];omega)
   have H3:=zC mj.2;have H4:=zC hhigh;have tv:=zJ (show s<=15 by omega)
   have oc:Q 15=32768:=rfl;rw[oc] at tv;clear mh D5 Z5 mj mo hhigh oc;go_wp2
   go_roundw
   case rel =>
    have h3:=zA H3;have h4:=zA H4;have hne:i+q+1≠i+q:=by omega
    have hz:upd o (i+q) (o (i+q)+d i*Q s % 65536) (i+q+1)=0:=by simp[upd];exact zA Ic
    refine⟨i+1,upd (upd o (i+q) (o (i+q)+d i*Q s % 65536)) (i+q+1) (d i*Q s/65536),by omega,by go_num,zDI (zDI (zA HR) (i+q) (zA H1)) (i+q+1) (zA H2),kX (kX (zA HD) _ (by omega) h3) _ h4.1 (by omega),?_,λ j hj=>?_,?_,(B9.setCell (by simp) _).setCell (by simp) _⟩
    ·rw[zPR _ _ _ _ (by omega),zPR _ _ _ _ (by omega),hz,zA HV]
     exact up_alg (V d i) (d i) (o (i+q)) i q s
    ·have e1:j≠i+q:=by omega
     have e2:j≠i+q+1:=by omega
     simp only[upd,e1,e2,if_false];exact zA HZ j (by omega)
    ·have e1:i+1+q=i+q+1:=by omega
     rw[e1];simp only[upd,if_true];exact h4.2
   case measure=>simp[intOf];omega
  ·have hiE:i=n:=by omega
   subst hiE;have q0:wr.cell? ⟨w.heap.size,0,none⟩=some (.bool neg):=(B9.cell (p:=⟨w.heap.size,0,none⟩) (by show w.heap.size<_;omega)).trans k0
   have q3:wr.cell? ⟨w.heap.size+1,0,none⟩=some (.bool false):=(B9.cell (p:=⟨w.heap.size+1,0,none⟩) (by simp)).trans k3
   have q4:wr.cell? ⟨w.heap.size+1,1,none⟩=some (.slice none 0 0):=(B9.cell (p:=⟨w.heap.size+1,1,none⟩) (by simp)).trans k4
   have q5:∀ o,wr.frozen? ⟨w.heap.size+1,o,none⟩=false:=λ o=>(B9.frozen (p:=⟨w.heap.size+1,o,none⟩) (by simp)).trans (k5 o)
   have T8:=B9.size;rw[s3] at T8;have HR:=zC (zFA D3 O0 (by omega))
   have HV:=zC aS;clear aS cj D3 O0;go_wp2_with (go_at_call 70;refine (zBP _ _ _ _ o _ (zA HR)).mono ?_;rintro r w2 ⟨m8,a2,n2,c2,rfl,hint,j8⟩;obtain⟨E2,E4,F9⟩:=jJ (w.heap.size+1+1) T8 j8);refine bodyPost_ret (v:=.agg #[.bool m8,.slice a2 n2 c2]) (by simp[results,Tryz.results116,go_sem,E4,q3,q4]) rfl ⟨m8,a2,n2,c2,rfl,?_,?_⟩
   ·have h0:w2.cell? ⟨w.heap.size+1,0,none⟩=some (.bool false):=by simp[E4,q3]
    have J1:w2.cell? ⟨w.heap.size+1,1,none⟩=some (.slice none 0 0):=by simp[E4,q4]
    rw[zA HV,Int.mul_assoc,zA Hs,zA Hq,<- zK8] at hint;exact hint.put2 h0 J1 _ _
   ·exact ((zB (b3.trans (B9.mono (by omega))) j8).setCell (by simp) _).setCell (by simp) _
theorem zBU (neg:Bool) (a:Option Addr) (n cap k k1:Nat) (x:Int) (w:World) (h1:IntAt w neg a n cap k1 x) (Z9:k1<=1000000000) (hk:k<=1000000000) :
  Calls Tryz.prog 116 #[.agg #[.bool neg,.slice a n cap],.int .i64 k] w λ r w' =>
   ∃ m8 a' n' o7,r=.returned (.agg #[.bool m8,.slice a' n' o7])/\IntAt w' m8 a' n' o7 (k/16+k1+1) (x*Q k)/\Below w.heap.size w w':=by
 obtain⟨d,g1,g2,g3,g4,rfl⟩:=h1;have hs:sgn neg (V d n*Q k)=sgn neg (V d n)*Q k:=by cases neg<;>simp[sgn,Int.neg_mul]
 rw[<- hs];exact (up_any neg a n cap k d w g1 (by omega) hk).mono λ _ _ ⟨n1,n2,n3,n4,q1,q2,q3⟩=>⟨n1,n2,n3,n4,q1,q2.mono (by omega),q3⟩
attribute [local go_sem ↓] Go.wp_at_zero Go.wp_at_succ
theorem zOR (x y:Int) (s:Nat) (hs:s<=16) (hx:0<=x) (cW:x<65536) (hy:0<=y) :
  (x+65536*y)/Q s % 65536*Q s+x % Q s=x+y % Q s*65536:=by
 have pG:=zJB hs;have hq:=zE s;have hr:=zE (16-s);generalize Q s=S at *;generalize Q (16-s)=R at *
 have e1:(x+65536*y)/S=x/S+R*y:=by
  rw[<- pG,Int.mul_assoc,Int.add_mul_ediv_left _ _ (by omega)]
 have hxd:S*(x/S)+x % S=x:=Int.mul_ediv_add_emod x S;have hyd:S*(y/S)+y % S=y:=Int.mul_ediv_add_emod y S;have mC:0<=x/S:=Int.ediv_nonneg hx (by omega)
 have hxR:x/S<R:=Int.ediv_lt_of_lt_mul (by omega) (by rw[Int.mul_comm,pG];exact cW)
 have wX:=Int.emod_nonneg y (show S≠0 by omega)
 have hyS:=Int.emod_lt_of_pos y (show 0<S by omega)
 have e2:R*y=R*(y % S)+65536*(y/S):=by
  have:R*y=R*(S*(y/S)+y % S):=by rw[hyd]
  rw[this,Int.mul_add,<- Int.mul_assoc,Int.mul_comm R S,pG];omega
 have hRy:R*(y % S)<=R*(S-1):=YD (by omega) (by omega)
 have Yf:0<=R*(y % S):=YF (by omega) wX
 have e3:R*(S-1)=65536-R:=by rw[Int.mul_sub,Int.mul_comm R S,pG];omega
 have e4:(x+65536*y)/S % 65536=x/S+R*(y % S):=by rw[e1,e2];omega
 rw[e4,Int.add_mul,Int.mul_comm (x/S) S,Int.mul_assoc,Int.mul_comm (y % S) S,<- Int.mul_assoc,Int.mul_comm R S,pG];omega
theorem zB8 (d o:Nat->Int) (n q m s:Nat) (hs:s<=16) (hd:Dgs d) {v:Int} (hv:v=(dg d n (q+m)+65536*dg d n (q+(m+1)))/Q s % 65536)
  (h:V o m*Q s+dg d n q % Q s=V (λ j=>dg d n (q+j)) m+dg d n (q+m) % Q s*P m) :
  V (upd o m v) (m+1)*Q s+dg d n q % Q s=V (λ j=>dg d n (q+j)) (m+1)+dg d n (q+(m+1)) % Q s*P (m+1):=by
 have b1:0<=dg d n (q+m)/\dg d n (q+m)<65536:=by unfold dg;have:=hd (q+m);split<;>omega
 have b2:0<=dg d n (q+(m+1)):=by unfold dg;have:=hd (q+(m+1));split<;>omega
 have h1:=zOR (dg d n (q+m)) (dg d n (q+(m+1))) s hs b1.1 b1.2 b2;rw[<- hv] at h1
 have h2:V (upd o m v) (m+1)=V o m+v*P m:=by
  simp only[V];rw[zCK m (λ j hj=>by simp[upd];omega:∀ j,j<m->upd o m v j=o j)]
  simp[upd]
 rw[h2];simp only[V,P];generalize dg d n (q+(m+1)) % Q s=y at *;generalize dg d n (q+m) % Q s=z at *
 have h3:v*Q s*P m+z*P m=dg d n (q+m)*P m+y*(65536*P m):=by
  rw[<- Int.add_mul,h1,Int.add_mul,Int.mul_assoc]
 have h4:(V o m+v*P m)*Q s=V o m*Q s+v*Q s*P m:=by
  rw[Int.add_mul,Int.mul_assoc v,Int.mul_comm (P m) (Q s),<- Int.mul_assoc]
 omega
def zA1 (d:Nat->Int) (q s i:Nat):Int:=if i<=q then V d i else V d q+d q % Q s*P q
theorem lost_low {d:Nat->Int} (hd:Dgs d) {q s i:Nat} (h:i<q):zA1 d q s (i+1)≠0 ↔ (zA1 d q s i≠0\/d i≠0):=by
 unfold zA1;rw[if_pos (by omega),if_pos (by omega)]
 simp only[V];have h1:=jC hd i;have h2:=hd i;have h3:=yT i;have h4:0<=d i*P i:=YF h2.1 (by omega)
 by_cases h5:d i=0
 ·simp[h5]
 ·have:1*P i<=d i*P i:=YA (by omega) (by omega)
  omega
theorem zIC {d:Nat->Int} (hd:Dgs d) (q s:Nat):zA1 d q s (q+1)≠0 ↔ (zA1 d q s q≠0\/d q % Q s≠0):=by
 unfold zA1;rw[if_neg (by omega),if_pos (by omega)]
 have h1:=jC hd q;have h2:=Int.emod_nonneg (d q) (show Q s≠0 by have:=zE s;omega)
 have h3:=yT q;have h4:0<=d q % Q s*P q:=YF h2 (by omega)
 by_cases h5:d q % Q s=0
 ·simp[h5]
 ·have:1*P q<=d q % Q s*P q:=YA (by omega) (by omega)
  omega
theorem zJW {d:Nat->Int} {q s i:Nat} (h:q<i):zA1 d q s (i+1)=zA1 d q s i:=by
 unfold zA1;rw[if_neg (by omega),if_neg (by omega)]
theorem zL {w w1:World} (h:Below w.heap.size w w1) (o:Obj):Below w.heap.size w (w1.alloc o):=h.alloc h.size o
theorem zHQ (d:Nat->Int) (q m:Nat):V d (q+m)=V d q+P q*V (λ j=>d (q+j)) m:=by
 induction m with
 | zero=>simp[V]
 | succ m ih =>
  rw[<- Nat.add_assoc];simp only[V];rw[ih,P_add,Int.mul_add];have:d (q+m)*(P q*P m)=P q*(d (q+m)*P m):=by rw[Int.mul_left_comm]
  omega
theorem down_fin {d o:Nat->Int} {n q s k m:Nat} (hd:Dgs d) (hq:q=k/16) (hs:s=k % 16) (hm:m=n-q)
  (h:V o m*Q s+dg d n q % Q s=V (λ j=>dg d n (q+j)) m+dg d n (q+m) % Q s*P m) :
  V d n=V o m*Q k+zA1 d q s n/\0<=zA1 d q s n/\zA1 d q s n<Q k:=by
 have hQ:Q k=Q s*P q:=by rw[hs,hq];exact zK8 k
 have hp:=yT q;have Av:=zE s
 have hSP:P q<=Q s*P q:=by
  have:=YA Av (show 0<=P q by omega);omega
 unfold zA1
 by_cases hn:n<=q
 ·rw[if_pos hn]
  have Ar:m=0:=by omega
  subst Ar;have h1:=jC hd n;have h2:=zHP hd n;have h3:=zBL hn;simp only[V];omega
 ·rw[if_neg hn]
  have At:q+m=n:=by omega
  have e0:dg d n (q+m)=0:=by rw[At];simp[dg]
  have e1:dg d n q=d q:=by simp[dg];omega
  have e2:V (λ j=>dg d n (q+j)) m=V (λ j=>d (q+j)) m:=zCK m (λ j hj=>by simp[dg];omega)
  rw[e0,e1,e2] at h;have h4:=zHQ d q m;rw[At] at h4;have iw:=Int.emod_nonneg (d q) (show Q s≠0 by omega)
  have S6:=Int.emod_lt_of_pos (d q) (show 0<Q s by omega)
  have h5:=jC hd q;have h6:=zHP hd q;have h7:d q % Q s*P q<=(Q s-1)*P q:=YA (by omega) (by omega)
  rw[Int.sub_mul] at h7;have h8:0<=d q % Q s*P q:=YF iw (by omega)
  simp at h
  have h9:P q*V (λ j=>d (q+j)) m=V o m*(Q s*P q)+d q % Q s*P q:=by
   rw[<- h,Int.mul_comm (P q),Int.add_mul,Int.mul_assoc]
  rw[hQ];omega
theorem zDL {M v r K:Int} (hK:0<K) (h:M=v*K+r) (h0:0<=r) (h1:r<K):M/K=v:=by
 rw[h,Int.add_comm,Int.add_mul_ediv_right _ _ (by omega),Int.ediv_eq_zero_of_lt h0 h1];omega
theorem zG4 {M v K:Int} (hK:0<K) (h:M=v*K) : -M/K = -v:=by
 rw[h,<- Int.neg_mul,Int.mul_ediv_cancel _ (by omega)]
theorem zE2 {M v r K:Int} (hK:0<K) (h:M=v*K+r) (h0:0<r) (h1:r<K) : -M/K = -v-1:=by
 refine zDL (r:=K-r) hK ?_ (by omega) (by omega)
 rw[h,Int.sub_mul,Int.neg_mul];omega
theorem down_any (neg:Bool) (a:Option Addr) (n cap k:Nat) (d:Nat->Int) (w:World) (ha:Dig w a n cap d) (hn:n<=1000000000) (hk:k<=1000000000) :
  Calls Tryz.prog 96 #[.agg #[.bool neg,.slice a n cap],.int .i64 k] w λ r w' =>
   ∃ m8 a' n' o7,r=.returned (.agg #[.bool m8,.slice a' n' o7])/\IntAt w' m8 a' n' o7 (n+5) (sgn neg (V d n)/Q k)/\Below w.heap.size w w':=by
 obtain⟨q,hq⟩:∃ q,q=k/16:=⟨_,rfl⟩;obtain⟨s,hs⟩:∃ s,s=k % 16:=⟨_,rfl⟩;have Rc:(k:Int)/16=(q:Int):=by omega
 have Aw:(k:Int) % 16=(s:Int):=by omega
 have mv:s<16:=by omega
 have pZ:¬ (k:Int)<0:=by omega
 obtain⟨W,hW⟩:∃ W,W=(w.alloc (.cells #[.bool neg,.slice a n cap] 29)).alloc (.cells #[.bool false,.slice none 0 0] 29):=⟨_,rfl⟩;have b3:Below w.heap.size w W:=by rw[hW];exact bl2 _ _ _
 have s3:W.heap.size=w.heap.size+1+1:=by rw[hW];simp
 have k0:W.cell? ⟨w.heap.size,0,none⟩=some (.bool neg):=by rw[hW];simp[go_sem]
 have k1:W.cell? ⟨w.heap.size,1,none⟩=some (.slice a n cap):=by rw[hW];simp[go_sem]
 have k3:W.cell? ⟨w.heap.size+1,0,none⟩=some (.bool false):=by rw[hW];simp[go_sem]
 have k4:W.cell? ⟨w.heap.size+1,1,none⟩=some (.slice none 0 0):=by rw[hW];simp[go_sem]
 have k5:∀ o,W.frozen? ⟨w.heap.size+1,o,none⟩=false:=by intro o;rw[hW];simp[go_sem]
 have HW:=zC hW;have Hq:=zC hq;have Hs:=zC hs;clear hW hq hs
 go_enter Tryz.func96,Tryz.ntmps96
 go_wp2
 go_loopw [5,6,20] (λ out lost ii wr=>∃ (i m:Nat) (a':Option Addr) (o7:Nat) (o:Nat->Int) (b:Bool),i<=n/\ii=.int .i64 i/\m=i-q/\out=.slice a' m o7/\lost=.bool b/\(b=true ↔ zA1 d q s i≠0) /\
   Own wr (w.heap.size+1+1) 94 a' m o7 o/\Dgs o/\V o m*Q s+dg d n q % Q s=V (λ j=>dg d n (q+j)) m+dg d n (q+m) % Q s*P m/\Below (w.heap.size+1+1) W wr) (λ _ _ ii _=>n-(intOf ii).toNat)
 case atStart =>
  refine⟨0,0,none,0,λ _=>0,false,Nat.zero_le _,rfl,by omega,rfl,rfl,by simp[zA1,V],Own.nil _ _ _ _,λ _=>⟨by simp,by simp⟩,by simp[V,P],?_⟩
  rw[zA HW];exact Below.refl _ _
 case round =>
  obtain⟨i,m,a',o7,o,b,hi,rfl,hm,rfl,rfl,hb,I1,O0,hV,B9⟩:=hrel;have T8:=B9.size;rw[s3] at T8
  by_cases I7:i<n
  ·obtain⟨b1,o1,rfl,b9,D7⟩:=ha.at_ (by omega)
   have g1:wr.cell? ⟨b1,o1+i,none⟩=some (.int .u16 (d i)):=(B9.cell (p:=⟨b1,o1+i,none⟩) (by show b1<_;omega)).trans ((b3.cell (p:=⟨b1,o1+i,none⟩) b9).trans (D7 i I7))
   have q1:wr.cell? ⟨w.heap.size,1,none⟩=some (.slice (some ⟨b1,o1,none⟩) n cap):=(B9.cell (p:=⟨w.heap.size,1,none⟩) (by show w.heap.size<_;omega)).trans k1
   have db:=ha.dgs i
   by_cases hiq:i<q
   ·have Ar:m=0:=by omega
    subst Ar;have JY:(i:Int)<q:=by omega
    have Hm:=zC hm;have HO:=zC I1;have HV:=zC hV;have HB:=zC hb;clear hm I1 hV hb D7;have FH:=lost_low (s:=s) ha.dgs hiq
    cases b
    ·have HL:=zC (show (d i != 0)=true ↔ zA1 d q s (i+1)≠0 by rw[FH];have:=zA HB;simp at this;simp[this])
     clear FH;go_wp2
     go_roundw
     case rel=>exact⟨i+1,0,a',o7,o,_,by omega,by go_num,by omega,rfl,rfl,zA HL,zA HO,O0,zA HV,B9⟩
     case measure=>simp[intOf];omega
    ·have HL:=zC (show true=true ↔ zA1 d q s (i+1)≠0 by rw[FH];have:=zA HB;simp at this;simp[this])
     clear FH;go_wp2
     go_roundw
     case rel=>exact⟨i+1,0,a',o7,o,_,by omega,by go_num,by omega,rfl,rfl,zA HL,zA HO,O0,zA HV,B9⟩
     case measure=>simp[intOf];omega
   ·have JY:¬ (i:Int)<q:=by omega
    have wO:m<=n:=by omega
    have Hm:=zC hm;have HO:=zC I1;have HV:=zC hV;have HB:=zC hb;clear hm I1 hV hb;have eqm:q+m=i:=by have:=zA Hm;omega
    have hand:bits BinOp.and IntKind.u16 (d i) (IntKind.u16.wrap (IntKind.u16.wrap (2 ^ s)-1))=d i % Q s:=by
     have h1:=zJ (show s<=15 by omega)
     have oc:Q 15=32768:=rfl;have h2:=zE s;have h3:IntKind.u16.wrap (IntKind.u16.wrap (2 ^ s)-1)=Q s-1:=by rw[zAX,zAX,zOH];omega
     rw[h3];exact and16 (d i) s (by omega) db.1 db.2
    have dgi:dg d n (q+m)=d i:=by rw[eqm];simp[dg,I7]
    by_cases nD:i+1<n
    ·have g2:wr.cell? ⟨b1,o1+(i+1),none⟩=some (.int .u16 (d (i+1))):=(B9.cell (p:=⟨b1,o1+(i+1),none⟩) (by show b1<_;omega)).trans ((b3.cell (p:=⟨b1,o1+(i+1),none⟩) b9).trans (D7 (i+1) nD))
     have PN:=ha.dgs (i+1);have JV:(i:Int)+1<n:=by omega
     have cO:IntKind.u16.wrap (bits BinOp.or IntKind.u32 (d i) (d (i+1)*65536)/2 ^ s)=(dg d n (q+m)+65536*dg d n (q+(m+1)))/Q s % 65536:=by
      have e1:dg d n (q+(m+1))=d (i+1):=by rw[<- Nat.add_assoc,eqm];simp[dg,nD]
      rw[zAX,or32 (d i) (d (i+1)*65536) (d (i+1)) db.1 db.2 (by omega) PN.1 PN.2,zOH,dgi,e1,Int.mul_comm (d (i+1)) 65536]
     clear D7 dgi eqm
     by_cases gH:i=q
     ·subst gH
      have vE:((i:Int) == i)=true:=by simp
      cases b
      ·have HL:=zC (show (bits BinOp.and IntKind.u16 (d i) (IntKind.u16.wrap (IntKind.u16.wrap (2 ^ s)-1)) != 0)=true ↔ zA1 d i s (i+1)≠0 by rw[zIC ha.dgs,hand];have:=zA HB;simp at this;simp[this])
       clear hand;have HE:=zC (show IntKind.u16.wrap (bits BinOp.or IntKind.u32 (d i) (d (i+1)*65536)/2 ^ s)=(dg d n (i+m)+65536*dg d n (i+(m+1)))/Q s % 65536 by rw[cO])
       clear cO;go_wp2_with (at_builtin;refine jA _ rfl _ _ 27 rfl (w.heap.size+1+1) 94 Tryz.underlying27 Tryz.infoU16 a' m o7 o rfl ((zA HO).alloc _) wr.heap.size 1 (IntKind.u16.wrap (bits BinOp.or IntKind.u32 (d i) (d (i+1)*65536)/2 ^ s)) rfl (by simp[go_sem]) (by omega) (by simp;omega) ?_;intro a2 j9 w1 G9 j8)
       go_roundw
       case rel =>
        rw[zA HE] at G9;refine⟨i+1,m+1,a2,j9,upd o m ((dg d n (i+m)+65536*dg d n (i+(m+1)))/Q s % 65536),_,by omega,by go_num,by have:=zA Hm;omega,rfl,rfl,zA HL,G9,kX O0 _ (by omega) (by omega),zB8 d o n i m s (by omega) ha.dgs rfl (zA HV),?_⟩
        exact (B9.alloc (by omega) _).trans j8
       case measure=>simp[intOf];omega
      ·have HL:=zC (show true=true ↔ zA1 d i s (i+1)≠0 by rw[zIC ha.dgs];have:=zA HB;simp at this;simp[this])
       clear hand;have HE:=zC (show IntKind.u16.wrap (bits BinOp.or IntKind.u32 (d i) (d (i+1)*65536)/2 ^ s)=(dg d n (i+m)+65536*dg d n (i+(m+1)))/Q s % 65536 by rw[cO])
       clear cO;go_wp2_with (at_builtin;refine jA _ rfl _ _ 27 rfl (w.heap.size+1+1) 94 Tryz.underlying27 Tryz.infoU16 a' m o7 o rfl ((zA HO).alloc _) wr.heap.size 1 (IntKind.u16.wrap (bits BinOp.or IntKind.u32 (d i) (d (i+1)*65536)/2 ^ s)) rfl (by simp[go_sem]) (by omega) (by simp;omega) ?_;intro a2 j9 w1 G9 j8)
       go_roundw
       case rel =>
        rw[zA HE] at G9;refine⟨i+1,m+1,a2,j9,upd o m ((dg d n (i+m)+65536*dg d n (i+(m+1)))/Q s % 65536),_,by omega,by go_num,by have:=zA Hm;omega,rfl,rfl,zA HL,G9,kX O0 _ (by omega) (by omega),zB8 d o n i m s (by omega) ha.dgs rfl (zA HV),?_⟩
        exact (B9.alloc (by omega) _).trans j8
       case measure=>simp[intOf];omega
     ·have vE:((i:Int) == q)=false:=by simp;omega
      have HL:=zC (show b=true ↔ zA1 d q s (i+1)≠0 by rw[zJW (by omega)];exact zA HB)
      clear hand;have HE:=zC (show IntKind.u16.wrap (bits BinOp.or IntKind.u32 (d i) (d (i+1)*65536)/2 ^ s)=(dg d n (q+m)+65536*dg d n (q+(m+1)))/Q s % 65536 by rw[cO])
      clear cO;go_wp2_with (at_builtin;refine jA _ rfl _ _ 27 rfl (w.heap.size+1+1) 94 Tryz.underlying27 Tryz.infoU16 a' m o7 o rfl ((zA HO).alloc _) wr.heap.size 1 (IntKind.u16.wrap (bits BinOp.or IntKind.u32 (d i) (d (i+1)*65536)/2 ^ s)) rfl (by simp[go_sem]) (by omega) (by simp;omega) ?_;intro a2 j9 w1 G9 j8)
      go_roundw
      case rel =>
       rw[zA HE] at G9;refine⟨i+1,m+1,a2,j9,upd o m ((dg d n (q+m)+65536*dg d n (q+(m+1)))/Q s % 65536),_,by omega,by go_num,by have:=zA Hm;omega,rfl,rfl,zA HL,G9,kX O0 _ (by omega) (by omega),zB8 d o n q m s (by omega) ha.dgs rfl (zA HV),?_⟩
       exact (B9.alloc (by omega) _).trans j8
      case measure=>simp[intOf];omega
    ·have JV:¬ (i:Int)+1<n:=by omega
     have cO:IntKind.u16.wrap (d i/2 ^ s)=(dg d n (q+m)+65536*dg d n (q+(m+1)))/Q s % 65536:=by
      have e1:dg d n (q+(m+1))=0:=by rw[<- Nat.add_assoc,eqm];simp[dg,nD]
      rw[zAX,zOH,dgi,e1];simp
     clear D7 dgi eqm
     by_cases gH:i=q
     ·subst gH
      have vE:((i:Int) == i)=true:=by simp
      cases b
      ·have HL:=zC (show (bits BinOp.and IntKind.u16 (d i) (IntKind.u16.wrap (IntKind.u16.wrap (2 ^ s)-1)) != 0)=true ↔ zA1 d i s (i+1)≠0 by rw[zIC ha.dgs,hand];have:=zA HB;simp at this;simp[this])
       clear hand;have HE:=zC (show IntKind.u16.wrap (d i/2 ^ s)=(dg d n (i+m)+65536*dg d n (i+(m+1)))/Q s % 65536 by rw[cO])
       clear cO;go_wp2_with (at_builtin;refine jA _ rfl _ _ 27 rfl (w.heap.size+1+1) 94 Tryz.underlying27 Tryz.infoU16 a' m o7 o rfl ((zA HO).alloc _) wr.heap.size 1 (IntKind.u16.wrap (d i/2 ^ s)) rfl (by simp[go_sem]) (by omega) (by simp;omega) ?_;intro a2 j9 w1 G9 j8)
       go_roundw
       case rel =>
        rw[zA HE] at G9;refine⟨i+1,m+1,a2,j9,upd o m ((dg d n (i+m)+65536*dg d n (i+(m+1)))/Q s % 65536),_,by omega,by go_num,by have:=zA Hm;omega,rfl,rfl,zA HL,G9,kX O0 _ (by omega) (by omega),zB8 d o n i m s (by omega) ha.dgs rfl (zA HV),?_⟩
        exact (B9.alloc (by omega) _).trans j8
       case measure=>simp[intOf];omega
      ·have HL:=zC (show true=true ↔ zA1 d i s (i+1)≠0 by rw[zIC ha.dgs];have:=zA HB;simp at this;simp[this])
       clear hand;have HE:=zC (show IntKind.u16.wrap (d i/2 ^ s)=(dg d n (i+m)+65536*dg d n (i+(m+1)))/Q s % 65536 by rw[cO])
       clear cO;go_wp2_with (at_builtin;refine jA _ rfl _ _ 27 rfl (w.heap.size+1+1) 94 Tryz.underlying27 Tryz.infoU16 a' m o7 o rfl ((zA HO).alloc _) wr.heap.size 1 (IntKind.u16.wrap (d i/2 ^ s)) rfl (by simp[go_sem]) (by omega) (by simp;omega) ?_;intro a2 j9 w1 G9 j8)
       go_roundw
       case rel =>
        rw[zA HE] at G9;refine⟨i+1,m+1,a2,j9,upd o m ((dg d n (i+m)+65536*dg d n (i+(m+1)))/Q s % 65536),_,by omega,by go_num,by have:=zA Hm;omega,rfl,rfl,zA HL,G9,kX O0 _ (by omega) (by omega),zB8 d o n i m s (by omega) ha.dgs rfl (zA HV),?_⟩
        exact (B9.alloc (by omega) _).trans j8
       case measure=>simp[intOf];omega
     ·have vE:((i:Int) == q)=false:=by simp;omega
      have HL:=zC (show b=true ↔ zA1 d q s (i+1)≠0 by rw[zJW (by omega)];exact zA HB)
      clear hand;have HE:=zC (show IntKind.u16.wrap (d i/2 ^ s)=(dg d n (q+m)+65536*dg d n (q+(m+1)))/Q s % 65536 by rw[cO])
      clear cO;go_wp2_with (at_builtin;refine jA _ rfl _ _ 27 rfl (w.heap.size+1+1) 94 Tryz.underlying27 Tryz.infoU16 a' m o7 o rfl ((zA HO).alloc _) wr.heap.size 1 (IntKind.u16.wrap (d i/2 ^ s)) rfl (by simp[go_sem]) (by omega) (by simp;omega) ?_;intro a2 j9 w1 G9 j8)
      go_roundw
      case rel =>
       rw[zA HE] at G9;refine⟨i+1,m+1,a2,j9,upd o m ((dg d n (q+m)+65536*dg d n (q+(m+1)))/Q s % 65536),_,by omega,by go_num,by have:=zA Hm;omega,rfl,rfl,zA HL,G9,kX O0 _ (by omega) (by omega),zB8 d o n q m s (by omega) ha.dgs rfl (zA HV),?_⟩
       exact (B9.alloc (by omega) _).trans j8
      case measure=>simp[intOf];omega
  ·have hiE:i=n:=by omega
   subst hiE;have q0:wr.cell? ⟨w.heap.size,0,none⟩=some (.bool neg):=(B9.cell (p:=⟨w.heap.size,0,none⟩) (by show w.heap.size<_;omega)).trans k0
   have q3:wr.cell? ⟨w.heap.size+1,0,none⟩=some (.bool false):=(B9.cell (p:=⟨w.heap.size+1,0,none⟩) (by simp)).trans k3
   have q4:wr.cell? ⟨w.heap.size+1,1,none⟩=some (.slice none 0 0):=(B9.cell (p:=⟨w.heap.size+1,1,none⟩) (by simp)).trans k4
   have q5:∀ o,wr.frozen? ⟨w.heap.size+1,o,none⟩=false:=λ o=>(B9.frozen (p:=⟨w.heap.size+1,o,none⟩) (by simp)).trans (k5 o)
   obtain⟨f1,f2,f3⟩:=down_fin ha.dgs (zA Hq) (zA Hs) hm hV;have Fv:0<Q k:=by have:=zE k;omega
   have HR:=zC (I1.dig O0 (by omega))
   have hmi:m<=i:=by omega
   have Yt:(b=true/\0<zA1 d q s i)\/(b=false/\zA1 d q s i=0):=by
    cases b
    ·right;simp at hb;exact⟨rfl,hb⟩
    ·left;simp at hb;exact⟨rfl,by omega⟩
   clear hV hb I1 O0 hm
   rcases Yt with⟨rfl,hl⟩|⟨rfl,hl⟩
   ·cases neg
    ·have HE:=zC (show sgn false (V o m)=sgn false (V d i)/Q k by simp only[sgn];exact (zDL Fv f1 f2 f3).symm)
     clear f1 f2 f3 hl;go_wp2_with (go_at_call 70;refine (zBP _ _ _ _ o _ (zA HR)).mono ?_;rintro r w2 ⟨m8,a2,n2,c2,rfl,hint,j8⟩;obtain⟨E2,E4,F9⟩:=jJ (w.heap.size+1+1) T8 j8;have X9:=YH (Nat.lt_succ_of_lt (Nat.lt_succ_self w.heap.size)) E2;have G7:=YH (Nat.lt_succ_self (w.heap.size+1)) E2);refine bodyPost_ret (v:=.agg #[.bool m8,.slice a2 n2 c2]) (by simp[results,Tryz.results96,go_sem,E4,X9,G7,q3,q4]) rfl ⟨m8,a2,n2,c2,rfl,?_,?_⟩
     ·have h0:w2.cell? ⟨w.heap.size+1,0,none⟩=some (.bool false):=by simp[E4,q3]
      have J1:w2.cell? ⟨w.heap.size+1,1,none⟩=some (.slice none 0 0):=by simp[E4,q4]
      rw[zA HE] at hint;exact ((hint.put2 h0 J1 _ _).bw (bl1 _ _)).mono (by omega)
     ·exact zL (((zB (b3.trans (B9.mono (by omega))) j8).setCell (p:=⟨w.heap.size+1,0,none⟩) (Nat.le_succ _) _).setCell (p:=⟨w.heap.size+1,1,none⟩) (Nat.le_succ _) _) _
    ·have HE:=zC (show sgn true (V o m)-1=sgn true (V d i)/Q k by simp only[sgn];exact (zE2 Fv f1 hl f3).symm)
     clear f1 f2 f3 hl;go_wp2_with (go_at_call 70;refine (zBP _ _ _ _ o _ (zA HR)).mono ?_;rintro r w2 ⟨m8,a2,n2,c2,rfl,hint,j8⟩;obtain⟨E2,E4,F9⟩:=jJ (w.heap.size+1+1) T8 j8;have X9:=YH (Nat.lt_succ_of_lt (Nat.lt_succ_self w.heap.size)) E2;have G7:=YH (Nat.lt_succ_self (w.heap.size+1)) E2);have nz:w2.heap.size≠w.heap.size+1:=by omega
     have nz':w.heap.size+1≠w2.heap.size:=by omega
     go_region_held3 (λ w'=>w'.cell? ⟨w2.heap.size,0,none⟩=some (.bool m8)/\w'.cell? ⟨w2.heap.size,1,none⟩=some (.slice a2 n2 c2)) (go_keep)
      (first
       | (go_at_call 33;refine (zD 1 _ (by decide) (by decide)).mono ?_;rintro r w3 ⟨A7,a3,n3,c3,rfl,E5,m9⟩;obtain⟨J9,T3,T7⟩:=jJ (w2.heap.size+1) (by simp) m9)
       | (go_at_call 35;refine (zBI _ _ _ _ _ _ _ _ m 4 _ _ _ (hint.bw (zB (bl1 _ _).drew m9)) E5 (by omega) (by omega)).mono ?_;rintro r w4 ⟨D8,a4,n4,c4,rfl,G6,y9⟩;obtain⟨fj,iz,cB⟩:=jJ (w2.heap.size+1) J9 y9;have y1:=Nat.le_succ_of_le G7;have y0:w2.cell? ⟨w.heap.size+1,0,none⟩=some (.bool false):=(E4 _ _ (YE _)).trans q3;have y2:w2.cell? ⟨w.heap.size+1,1,none⟩=some (.slice none 0 0):=(E4 _ _ (YE _)).trans q4;have y3:∀ o,w2.frozen? ⟨w.heap.size+1,o,none⟩=false:=λ o=>(F9 _ _ (YE _)).trans (q5 o)))
     go_wp2;have h0:w4.cell? ⟨w.heap.size+1,0,none⟩=some (.bool false):=by rw[iz _ _ y1,T3 _ _ y1];exact (World.cell?_alloc_past _ _ _ G7).trans y0
     have J1:w4.cell? ⟨w.heap.size+1,1,none⟩=some (.slice none 0 0):=by rw[iz _ _ y1,T3 _ _ y1];exact (World.cell?_alloc_past _ _ _ G7).trans y2
     refine bodyPost_ret (v:=.agg #[.bool D8,.slice a4 n4 c4]) (by simp[results,Tryz.results96,go_sem,h0,J1]) rfl ⟨D8,a4,n4,c4,rfl,?_,?_⟩
     ·rw[zA HE] at G6
      exact (G6.put2 h0 J1 _ _).mono (by omega)
     ·exact ((zB (zB (zL (zB (b3.trans (B9.mono (by omega))) j8) _).drew m9) y9).setCell (p:=⟨w.heap.size+1,0,none⟩) (Nat.le_succ _) _).setCell (p:=⟨w.heap.size+1,1,none⟩) (Nat.le_succ _) _
   ·cases neg
    ·have HE:=zC (show sgn false (V o m)=sgn false (V d i)/Q k by simp only[sgn];exact (zDL Fv f1 f2 f3).symm)
     clear f1 f2 f3 hl;go_wp2_with (go_at_call 70;refine (zBP _ _ _ _ o _ (zA HR)).mono ?_;rintro r w2 ⟨m8,a2,n2,c2,rfl,hint,j8⟩;obtain⟨E2,E4,F9⟩:=jJ (w.heap.size+1+1) T8 j8;have X9:=YH (Nat.lt_succ_of_lt (Nat.lt_succ_self w.heap.size)) E2;have G7:=YH (Nat.lt_succ_self (w.heap.size+1)) E2);refine bodyPost_ret (v:=.agg #[.bool m8,.slice a2 n2 c2]) (by simp[results,Tryz.results96,go_sem,E4,X9,G7,q3,q4]) rfl ⟨m8,a2,n2,c2,rfl,?_,?_⟩
     ·have h0:w2.cell? ⟨w.heap.size+1,0,none⟩=some (.bool false):=by simp[E4,q3]
      have J1:w2.cell? ⟨w.heap.size+1,1,none⟩=some (.slice none 0 0):=by simp[E4,q4]
      rw[zA HE] at hint;exact ((hint.put2 h0 J1 _ _).bw (bl1 _ _)).mono (by omega)
     ·exact zL (((zB (b3.trans (B9.mono (by omega))) j8).setCell (p:=⟨w.heap.size+1,0,none⟩) (Nat.le_succ _) _).setCell (p:=⟨w.heap.size+1,1,none⟩) (Nat.le_succ _) _) _
    ·have HE:=zC (show sgn true (V o m)=sgn true (V d i)/Q k by simp only[sgn];exact (zG4 Fv (by rw[f1,hl];omega)).symm)
     clear f1 f2 f3 hl;go_wp2_with (go_at_call 70;refine (zBP _ _ _ _ o _ (zA HR)).mono ?_;rintro r w2 ⟨m8,a2,n2,c2,rfl,hint,j8⟩;obtain⟨E2,E4,F9⟩:=jJ (w.heap.size+1+1) T8 j8;have X9:=YH (Nat.lt_succ_of_lt (Nat.lt_succ_self w.heap.size)) E2;have G7:=YH (Nat.lt_succ_self (w.heap.size+1)) E2);refine bodyPost_ret (v:=.agg #[.bool m8,.slice a2 n2 c2]) (by simp[results,Tryz.results96,go_sem,E4,X9,G7,q3,q4]) rfl ⟨m8,a2,n2,c2,rfl,?_,?_⟩
     ·have h0:w2.cell? ⟨w.heap.size+1,0,none⟩=some (.bool false):=by simp[E4,q3]
      have J1:w2.cell? ⟨w.heap.size+1,1,none⟩=some (.slice none 0 0):=by simp[E4,q4]
      rw[zA HE] at hint;exact ((hint.put2 h0 J1 _ _).bw (bl1 _ _)).mono (by omega)
     ·exact zL (((zB (b3.trans (B9.mono (by omega))) j8).setCell (p:=⟨w.heap.size+1,0,none⟩) (Nat.le_succ _) _).setCell (p:=⟨w.heap.size+1,1,none⟩) (Nat.le_succ _) _) _
theorem zHY (neg:Bool) (a:Option Addr) (n cap k k1:Nat) (x:Int) (w:World) (h1:IntAt w neg a n cap k1 x) (Z9:k1<=1000000000) (hk:k<=1000000000) :
  Calls Tryz.prog 96 #[.agg #[.bool neg,.slice a n cap],.int .i64 k] w λ r w' =>
   ∃ m8 a' n' o7,r=.returned (.agg #[.bool m8,.slice a' n' o7])/\IntAt w' m8 a' n' o7 (k1+5) (x/Q k)/\Below w.heap.size w w':=by
 obtain⟨d,g1,g2,g3,g4,rfl⟩:=h1;exact (down_any neg a n cap k d w g1 (by omega) hk).mono λ _ _ ⟨n1,n2,n3,n4,q1,q2,q3⟩=>⟨n1,n2,n3,n4,q1,q2.mono (by omega),q3⟩
theorem down_neg (neg:Bool) (a:Option Addr) (n cap k k1:Nat) (x:Int) (w:World) (h1:IntAt w neg a n cap k1 x) (Z9:k1<=1000000000) (hk:k<=1000000000) (eG:0<k) :
  Calls Tryz.prog 96 #[.agg #[.bool neg,.slice a n cap],.int .i64 (-(k:Int))] w λ r w' =>
   ∃ m8 a' n' o7,r=.returned (.agg #[.bool m8,.slice a' n' o7])/\IntAt w' m8 a' n' o7 (k/16+k1+1) (x*Q k)/\Below w.heap.size w w':=by
 have M5 : -(k:Int)<0:=by omega
 go_enter Tryz.func96,Tryz.ntmps96
 go_wp2_with (go_at_call 116;refine (zBU _ _ _ _ k k1 x _ (h1.bw (bl2 _ _ _)) Z9 hk).mono ?_;rintro r w2 ⟨m8,a2,n2,c2,rfl,hint,j8⟩;obtain⟨E2,E4,F9⟩:=jJ (w.heap.size+1+1) (by simp) j8)
 have h0:w2.cell? ⟨w.heap.size+1,0,none⟩=some (.bool false):=by simp[E4,go_sem]
 have J1:w2.cell? ⟨w.heap.size+1,1,none⟩=some (.slice none 0 0):=by simp[E4,go_sem]
 refine bodyPost_ret (v:=.agg #[.bool m8,.slice a2 n2 c2]) (by simp[results,Tryz.results96,go_sem,h0,J1]) rfl ⟨m8,a2,n2,c2,rfl,?_,?_⟩
 ·exact hint.put2 h0 J1 _ _
 ·exact ((zB (bl2 _ _ _) j8).setCell (p:=⟨w.heap.size+1,0,none⟩) (Nat.le_succ _) _).setCell (p:=⟨w.heap.size+1,1,none⟩) (Nat.le_succ _) _
def zAZ (x k:Int):Int:=if 0<=k then x/Q k.toNat else x*Q (-k).toNat
theorem zG5 (neg:Bool) (a:Option Addr) (n cap k1:Nat) (k x:Int) (w:World) (h1:IntAt w neg a n cap k1 x) (Z9:k1<=1000000000) (eG : -1000000000<=k) (hk:k<=1000000000) :
  Calls Tryz.prog 96 #[.agg #[.bool neg,.slice a n cap],.int .i64 k] w λ r w' =>
   ∃ m8 a' n' o7,r=.returned (.agg #[.bool m8,.slice a' n' o7])/\IntAt w' m8 a' n' o7 ((-k).toNat/16+k1+5) (zAZ x k)/\Below w.heap.size w w':=by
 unfold zAZ
 by_cases h:0<=k
 ·obtain⟨K,rfl⟩:=Int.eq_ofNat_of_zero_le h
  rw[if_pos h,Int.toNat_natCast];exact (zHY neg a n cap K k1 x w h1 Z9 (by omega)).mono λ _ _ ⟨n1,n2,n3,n4,q1,q2,q3⟩=>⟨n1,n2,n3,n4,q1,q2.mono (by omega),q3⟩
 ·rw[if_neg h]
  obtain⟨K,hK⟩:∃ K:Nat,k = -(K:Int):=⟨(-k).toNat,by omega⟩
  subst hK;rw[show (- -(K:Int)).toNat=K by omega]
  exact (down_neg neg a n cap K k1 x w h1 Z9 (by omega) (by omega)).mono λ _ _ ⟨n1,n2,n3,n4,q1,q2,q3⟩=>⟨n1,n2,n3,n4,q1,q2.mono (by omega),q3⟩
def Tp (d:Nat->Int) (j n:Nat):Int:=V (λ t=>d (j+t)) (n-j)
theorem V_shift (d:Nat->Int) (m:Nat):V d (m+1)=d 0+65536*V (λ t=>d (1+t)) m:=by
 have h:=zHQ d 1 m;rw[Nat.add_comm 1 m] at h;rw[h];simp[V,P]
theorem zMM (d:Nat->Int) (n:Nat):Tp d n n=0:=by simp[Tp,V]
theorem zFV (d:Nat->Int) (n:Nat):Tp d 0 n=V d n:=by simp[Tp]
theorem zFU (d:Nat->Int) (j n:Nat) (h:j<n):Tp d j n=d j+65536*Tp d (j+1) n:=by
 unfold Tp;obtain⟨m,rfl⟩:∃ m,n=j+1+m:=⟨n-j-1,by omega⟩
 rw[show j+1+m-j=m+1 by omega,show j+1+m-(j+1)=m by omega,V_shift]
 have:(λ t=>d (j+(1+t)))=(λ t=>d (j+1+t)):=by funext t;congr 1;omega
 rw[this];simp
theorem zD6 {d:Nat->Int} (hd:Dgs d) (j n:Nat):0<=Tp d j n:=jC (λ t=>hd (j+t)) _
theorem Tp_lt {d:Nat->Int} (hd:Dgs d) (j n:Nat):Tp d j n<P (n-j):=zHP (λ t=>hd (j+t)) _
theorem P3:P 3=281474976710656:=rfl
theorem or64 (a b c:Int) (hb:0<=b) (b9:b<65536) (ha:a=65536*c) (oy:0<=c) (D7:c<281474976710656):bits .or .u64 a b=a+b:=by
 obtain⟨B,rfl⟩:=Int.eq_ofNat_of_zero_le hb;obtain⟨C,rfl⟩:=Int.eq_ofNat_of_zero_le oy;have h3:=zNQ B (65536*C) C 16 (by omega) (by omega)
 have ha':a=((65536*C:Nat):Int):=by omega
 rw[ha',u64_or_nat (65536*C) B (by omega) (by omega),Nat.or_comm,h3]
 omega
theorem Tp_upd (o:Nat->Int) (i n:Nat) (v:Int):Tp (upd o i v) (i+1) n=Tp o (i+1) n:=by
 unfold Tp;exact zCK _ (λ j _=>by simp[upd];omega)
theorem zPM {d o:Nat->Int} {i n:Nat} (hi:i<n) {D L:Int} (hD:0<D) (hT:Tp d (i+1) n=Tp o (i+1) n*D+L) :
  Tp d i n=Tp (upd o i ((L*65536+d i)/D)) i n*D+(L*65536+d i) % D:=by
 rw[zFU d i n hi,zFU (upd o i _) i n hi,Tp_upd,hT];have h1:upd o i ((L*65536+d i)/D) i=(L*65536+d i)/D:=by simp[upd]
 rw[h1,Int.add_mul,Int.mul_assoc];have h2:=Int.mul_ediv_add_emod (L*65536+d i) D;rw[Int.mul_comm D] at h2;omega
theorem short_bd {x D L:Int} (hD:0<D) (hx:0<=x/\x<65536) (tk:0<=L) (Jl:L<D):0<=(L*65536+x)/D/\(L*65536+x)/D<65536/\0<=(L*65536+x) % D/\(L*65536+x) % D<D :=
 ⟨Int.ediv_nonneg (by omega) (by omega),Int.ediv_lt_of_lt_mul hD (by omega),Int.emod_nonneg _ (by omega),Int.emod_lt_of_pos _ hD⟩
theorem zKU {d:Nat->Int} (hd:Dgs d) (n:Nat):0<kD d n ↔ V d n≠0:=by
 have h1:=zDJ d n;have h2:=zCF d n;constructor
 ·intro h
  have h3:=V_ge hd (kD d n-1) (by omega)
  rw[show kD d n-1+1=kD d n by omega,h1] at h3
  have:=yT (kD d n-1);omega
 ·intro h
  rcases Nat.eq_zero_or_pos (kD d n) with h0|h0
  ·rw[h0] at h1;simp[V] at h1;omega
  ·exact h0
def rd (L:Int) (j:Nat):Int:=if j=0 then L % 65536 else if j=1 then L/65536 % 65536 else if j=2 then L/4294967296 % 65536 else 0
theorem rd_dgs (L:Int):Dgs (rd L):=by
 intro j;unfold rd;split
 ·omega
 ·split
  ·omega
  ·split<;>omega
theorem rd_V (L:Int) (h0:0<=L) (h1:L<281474976710656):V (rd L) 3=L:=by
 simp[V,rd,P];omega
theorem dig3 (w:World) (t:TypeId) (x y z:Int) (f:Nat->Int) (hf:Dgs f) (h0:f 0=x) (h1:f 1=y) (h2:f 2=z):Dig (w.alloc (.cells #[.int .u16 x,.int .u16 y,.int .u16 z] t)) (some ⟨w.heap.size,0,none⟩) 3 3 f :=
 ⟨λ _=>⟨w.heap.size,0,rfl,by simp,λ j hj=>by
  rw[World.cell?_alloc_at _ _ _ _ rfl,Nat.zero_add]
  match j,hj with
  | 0,_=>simp[h0]
  | 1,_=>simp[h1]
  | 2,_=>simp[h2]⟩,hf,by omega,by omega⟩
theorem zTQ (a c:Option Addr) (n m cap j9:Nat) (d e:Nat->Int) (w:World) (ha:Dig w a n cap d) (hc:Dig w c m j9 e) (hn:n<=1000000000) (hm:m<=3) (O8:0<V e m) :
  Calls Tryz.prog 176 #[.slice a n cap,.slice c m j9] w λ r w' =>
   ∃ a1 n1 c1 o a2 n2 c2 rem,r=.returned (.tuple #[.slice a1 n1 c1,.slice a2 n2 c2])/\Dig w' a1 n1 c1 o/\n1<=n/\(0<n2 ↔ rem≠0)/\n2<=3/\V d n=V o n1*V e m+rem/\0<=rem/\rem<V e m/\Below w.heap.size w w':=by
 have aK:=run_make_row' (P:=Tryz.prog) 27 94 (.int .u16 0) 2 Tryz.underlying27 Tryz.infoU16 rfl .i64 .i64 n (by omega) (by omega)
 have hD:V e m<281474976710656:=by
  have h1:=zHP hc.dgs m;have h2:=zBL hm;rw[P3] at h2;omega
 have Hmk:=zC aK;clear aK
 go_enter Tryz.func176,Tryz.ntmps176
 go_wp2
 go_loop [6,7] (λ dd ii=>∃ j:Nat,j<=m/\ii=.int .i64 ((j:Int)-1)/\dd=.int .u64 (Tp e j m)) (λ _ ii=>(intOf ii+1).toNat)
 case atStart=>exact⟨m,YE _,rfl,by rw[zMM]⟩
 case round =>
  obtain⟨j,hj,rfl,rfl⟩:=hrel
  by_cases CT:j=0
  ·subst CT
   rw[zFV];have aK:=zA Hmk;go_wp2;clear aK;obtain⟨D,Jh⟩:∃ D,D=V e m:=⟨_,rfl⟩;rw[<- Jh] at hD O8 ⊢;have A9:(D == 0)=false:=by simp;omega
   have OO:=zC Jh;clear Jh
   go_loopw [9,10] (λ ll ii wr=>∃ (j:Nat) (o:Nat->Int) (L:Int),j<=n/\ii=.int .i64 ((j:Int)-1)/\ll=.int .u64 L/\wr.rowIs w.heap.size 94 n (λ t=>.int .u16 (o t))/\Dgs o/\Tp d j n=Tp o j n*D+L/\0<=L/\L<D/\Below w.heap.size w wr) (λ _ ii _=>(intOf ii+1).toNat)
   case atStart =>
    refine⟨n,λ _=>0,0,YE _,rfl,rfl,World.rowIs_made w (.int .u16 0) n 94,λ _=>⟨by simp,by simp⟩,?_,by omega,by omega,bl1 _ _⟩
    rw[zMM,zMM];simp
   case round =>
    obtain⟨j,o,L,hj,rfl,rfl,D3,O0,hT,tk,Jl,B9⟩:=hrel
    by_cases CT:j=0
    ·subst CT
     rw[zFV,zFV] at hT;have HT:=zC hT;have HR:=zC (zFA D3 O0 (by omega))
     clear hT D3 O0;go_wp2_with (go_at_call 117;refine (yJ _ _ _ (rd L) _ (dig3 _ _ _ _ _ _ (rd_dgs L) (by simp[rd,zAX]) (by simp[rd,zAX]) (by simp[rd];omega))).mono ?_;rintro r w2 ⟨rfl,j8⟩)
     go_ret2
     refine⟨_,n,n,o,_,kD (rd L) 3,3,L,rfl,(zA HR).bw (zB (bl1 _ _) j8),YE _,?_,zBT _ _,?_,tk,?_,zB (zL B9 _) j8⟩
     ·rw[zKU (rd_dgs L),rd_V L tk (by omega)]
     ·rw[<- zA OO];exact zA HT
     ·rw[<- zA OO];exact Jl
    ·obtain⟨i,rfl⟩:∃ i,j=i+1:=⟨j-1,by omega⟩
     have e0:((i+1:Nat):Int)-1=(i:Int):=by omega
     rw[e0];obtain⟨b1,o1,rfl,b9,D7⟩:=ha.at_ (by omega)
     have g1:wr.cell? ⟨b1,o1+i,none⟩=some (.int .u16 (d i)):=(B9.cell (p:=⟨b1,o1+i,none⟩) b9).trans (D7 i (by omega))
     have db:=ha.dgs i;have r1:=D3.cell (show i<n by omega)
     have r2:=D3.frozen i;have mj:=or64 (L*65536) (d i) L db.1 db.2 (by omega) tk (by omega)
     have I7:(i:Int)<n:=by omega
     have HT:=zC hT;clear hT D7 e0;have qx:=zPM (o:=o) (show i<n by omega) O8 (zA HT)
     have sb:=short_bd O8 db tk Jl;have HS:=zC qx;clear qx;go_wp2
     go_roundw
     case rel =>
      exact⟨i,upd o i ((L*65536+d i)/D),(L*65536+d i) % D,by omega,by go_num,rfl,zDI D3 i rfl,kX O0 _ sb.1 sb.2.1,zA HS,sb.2.2.1,sb.2.2.2,B9.setCell (YE _) _⟩
     case measure=>simp[intOf];try omega
  ·obtain⟨i,rfl⟩:∃ i,j=i+1:=⟨j-1,by omega⟩
   have e0:((i+1:Nat):Int)-1=(i:Int):=by omega
   rw[e0];obtain⟨b2,o2,rfl,j8,E7⟩:=hc.at_ (by omega)
   have g2:w.cell? ⟨b2,o2+i,none⟩=some (.int .u16 (e i)):=E7 i (by omega)
   have eb:=hc.dgs i;have t0:=zD6 hc.dgs (i+1) m;have t1:=Tp_lt hc.dgs (i+1) m;have t2:=zBL (show m-(i+1)<=2 by omega)
   have Fb:P 2=4294967296:=rfl;rw[Fb] at t2;have ts:=zFU e i m (by omega)
   have H1:=zC (show bits .or .u64 (Tp e (i+1) m*65536) (e i)=Tp e i m by rw[or64 _ _ (Tp e (i+1) m) eb.1 eb.2 (by omega) t0 (by omega),ts];omega)
   have im:(i:Int)<m:=by omega
   clear ts E7 e0 Fb;go_wp2
   go_round
   case rel=>exact⟨i,by omega,by go_num,by rw[<- zA H1];try rfl⟩
   case measure=>simp[intOf];try omega
def zHO (w:World) (d e:Nat->Int) (n m:Nat) (r:Ending) (w':World):Prop :=
 ∃ a1 n1 c1 o a2 n2 c2 rem,r=.returned (.tuple #[.slice a1 n1 c1,.slice a2 n2 c2])/\Dig w' a1 n1 c1 o/\n1<=n+3/\(0<n2 ↔ rem≠0)/\n2<=n+3/\V d n=V o n1*V e m+rem/\0<=rem/\rem<V e m/\Below w.heap.size w w'
theorem zHE (a c:Option Addr) (n m cap j9:Nat) (d e:Nat->Int) (w:World) (ha:Dig w a n cap d) (hc:Dig w c m j9 e) (hn:n<=1000000000) (h1:n=0\/d (n-1)≠0) (h2:m=0\/e (m-1)≠0) (O8:0<V e m)
  (hm:m<=3\/V d n<V e m) :
  Calls Tryz.prog 157 #[.slice a n cap,.slice c m j9] w (zHO w d e n m):=by
 have hcv:=zJJ ha.dgs hc.dgs n m h1 h2
 by_cases D5:V d n<V e m
 ·have M5:zG0 d e n m<0:=by rw[hcv];simp[zM,D5]
  clear hcv
  have HF:=zC (show 0<n ↔ V d n≠0 by
   have:=zKU ha.dgs n;rwa [zPP h1] at this)
  go_enter Tryz.func157,Tryz.ntmps157
  go_wp2_with (go_at_call 53;refine (yG _ _ _ _ _ _ d e _ ha hc).mono ?_;rintro r w0 ⟨rfl,E8⟩)
  go_ret2
  exact⟨none,0,0,λ _=>0,a,n,cap,V d n,rfl,⟨λ h=>by omega,λ _=>⟨by simp,by simp⟩,YE _,by omega⟩,by omega,zA HF,by omega,by simp[V],jC ha.dgs n,D5,E8⟩
 ·have M5:¬ zG0 d e n m<0:=by rw[hcv];simp only[zM,D5,if_false];split<;>omega
  have fP:m<=3:=by omega
  have hm3':(m:Int)<=3:=by omega
  clear hcv
  go_enter Tryz.func157,Tryz.ntmps157
  go_wp2_with (first
   | (go_at_call 53;refine (yG _ _ _ _ _ _ d e _ ha hc).mono ?_;rintro r w0 ⟨rfl,E8⟩)
   | (go_at_call 176;refine (zTQ _ _ _ _ _ _ d e _ (ha.bw E8) (hc.bw E8) hn fP O8).mono ?_;rintro r w1 ⟨a1,n1,c1,o,a2,n2,c2,rem,rfl,p1,p2,p3,p4,p5,p6,p7,p8⟩))
  go_ret2
  exact⟨a1,n1,c1,o,a2,n2,c2,rem,rfl,p1,by omega,p3,by omega,p5,p6,p7,zB E8 p8⟩
def kY (w:World) (n:Nat) (z:Int) (r:Ending) (w':World):Prop :=
 ∃ m8 a' n' o7,r=.returned (.agg #[.bool m8,.slice a' n' o7])/\IntAt w' m8 a' n' o7 (n+8) z/\Below w.heap.size w w'
theorem zG8 (neg : Bool) (a c : Option Addr) (n m cap cap2 : Nat) (d e : Nat → Int) (w : World) (ha : Dig w a n cap d) (hc : Dig w c m cap2 e) (hn : n ≤ 900000000) (hm : 0 < m)
    (hov : ∀ w', Dig w' a n cap d → Dig w' c m cap2 e → Calls Tryz.prog 157 #[.slice a n cap, .slice c m cap2] w' (zHO w' d e n m)) :
    Calls Tryz.prog 126 #[.agg #[.bool neg, .slice a n cap], .agg #[.bool false, .slice c m cap2]] w (kY w n (sgn neg (V d n) / V e m)) := by
  have hsg : zL6 false m = 1 := by simp [zL6]; omega
  have le2 : w.heap.size ≤ w.heap.size + 1 + 1 := by omega
  have ne1 : w.heap.size ≠ w.heap.size + 1 + 1 := by omega
  have ne2 : w.heap.size + 1 + 1 ≠ w.heap.size := by omega
  cases neg
  · go_enter Tryz.func126, Tryz.ntmps126
    go_wp2_with (first
      | (go_at_call 73; refine (zI0 _ _ _ _ _ hc.room).mono ?_; rintro r w0 ⟨rfl, hb0⟩; obtain ⟨hsz0, kC0, hfz0⟩ := jJ (w.heap.size + 1 + 1 + 1) (by simp) hb0; rw [hsg])
      | (go_at_call 157; refine (hov _ (ha.bw (zB (bl3 _ _ _ _) hb0)) (hc.bw (zB (bl3 _ _ _ _) hb0))).mono ?_; rintro r w1 ⟨a1, n1, c1, o, a9, n9, c9, rem, rfl, p1, p2, p3, p4, p5, p6, p7, p8⟩; obtain ⟨hsz1, kC1, hfz1⟩ := jJ (w.heap.size + 1 + 1 + 1) hsz0 p8; skip)
      | (go_at_call 70; refine (zBP _ _ _ _ o _ p1).mono ?_; rintro r w2 ⟨neg', a2, n2, c2, rfl, hint, hb2⟩; obtain ⟨hsz2, kC2, hfz2⟩ := jJ (w.heap.size + 1 + 1 + 1) hsz1 hb2; have hz0 := Nat.lt_of_lt_of_le (Nat.lt_succ_of_lt (Nat.lt_succ_of_lt (Nat.lt_succ_self w.heap.size))) hsz2; have hz1 := Nat.lt_of_lt_of_le (Nat.lt_succ_self (w.heap.size + 1 + 1)) hsz2))
    have h0 : w2.cell? ⟨w.heap.size + 1 + 1, 0, none⟩ = some (.bool false) := by simp [kC2, kC1, kC0, go_sem]
    have h1' : w2.cell? ⟨w.heap.size + 1 + 1, 1, none⟩ = some (.slice none 0 0) := by simp [kC2, kC1, kC0, go_sem]
    refine bodyPost_ret (v := .agg #[.bool neg', .slice a2 n2 c2]) (by simp [results, Tryz.results126, go_sem, hz0, hz1, h0, h1']) rfl ⟨neg', a2, n2, c2, rfl, ?_, ?_⟩
    · rw [show sgn false (V o n1) = sgn false (V d n) / V e m by simp only [sgn]; exact (zDL (by omega) p5 p6 p7).symm] at hint
      exact ((hint.put2 h0 h1' _ _).bw (bl1 _ _)).mono (by omega)
    · exact zL (((zB (zB (zB (bl3 _ _ _ _) hb0) p8) hb2).setCell (p := ⟨w.heap.size + 1 + 1, 0, none⟩) le2 _).setCell (p := ⟨w.heap.size + 1 + 1, 1, none⟩) le2 _) _
  · go_enter Tryz.func126, Tryz.ntmps126
    go_wp2_with (first
      | (go_at_call 73; refine (zI0 _ _ _ _ _ hc.room).mono ?_; rintro r w0 ⟨rfl, hb0⟩; obtain ⟨hsz0, kC0, hfz0⟩ := jJ (w.heap.size + 1 + 1 + 1) (by simp) hb0; rw [hsg])
      | (go_at_call 157; refine (hov _ (ha.bw (zB (bl3 _ _ _ _) hb0)) (hc.bw (zB (bl3 _ _ _ _) hb0))).mono ?_; rintro r w1 ⟨a1, n1, c1, o, a9, n9, c9, rem, rfl, p1, p2, p3, p4, p5, p6, p7, p8⟩; obtain ⟨hsz1, kC1, hfz1⟩ := jJ (w.heap.size + 1 + 1 + 1) hsz0 p8; skip)
      | (go_at_call 70; refine (zBP _ _ _ _ o _ p1).mono ?_; rintro r w2 ⟨neg', a2, n2, c2, rfl, hint, hb2⟩; obtain ⟨hsz2, kC2, hfz2⟩ := jJ (w.heap.size + 1 + 1 + 1) hsz1 hb2; have hz0 := Nat.lt_of_lt_of_le (Nat.lt_succ_of_lt (Nat.lt_succ_of_lt (Nat.lt_succ_self w.heap.size))) hsz2; have hz1 := Nat.lt_of_lt_of_le (Nat.lt_succ_self (w.heap.size + 1 + 1)) hsz2))
    · have hr : rem ≠ 0 := by have h : (!decide (rem = 0)) = true := by assumption
                              simpa using h
      have h0 : w2.cell? ⟨w.heap.size + 1 + 1, 0, none⟩ = some (.bool false) := by simp [kC2, kC1, kC0, go_sem]
      have h1' : w2.cell? ⟨w.heap.size + 1 + 1, 1, none⟩ = some (.slice none 0 0) := by simp [kC2, kC1, kC0, go_sem]
      have h2' : ∀ o, w2.frozen? ⟨w.heap.size + 1 + 1, o, none⟩ = false := by intro o; simp [hfz2, hfz1, hfz0, go_sem]
      have HE := zC (show sgn true (V o n1) - 1 = sgn true (V d n) / V e m by simp only [sgn]; exact (zE2 (by omega) p5 (by omega) p7).symm)
      have nz : w2.heap.size ≠ w.heap.size + 1 + 1 := by omega
      have nz' : w.heap.size + 1 + 1 ≠ w2.heap.size := by omega
      have y1 := Nat.le_succ_of_le hz1
      go_region_held3 (fun w' => w'.cell? ⟨w2.heap.size, 0, none⟩ = some (.bool neg') ∧ w'.cell? ⟨w2.heap.size, 1, none⟩ = some (.slice a2 n2 c2)) (go_keep)
        (first
          | (go_at_call 33; refine (zD 1 _ (by decide) (by decide)).mono ?_; rintro r w3 ⟨neg3, a3, n3, c3, rfl, hZ3, hb3⟩; obtain ⟨hsz3, kC3, hfz3⟩ := jJ (w2.heap.size + 1) (by simp) hb3)
          | (go_at_call 35; refine (zBI _ _ _ _ _ _ _ _ n1 4 _ _ _ (hint.bw (zB (bl1 _ _).drew hb3)) hZ3 (by omega) (by omega)).mono ?_; rintro r w4 ⟨neg4, a4, n4, c4, rfl, hZ4, hb4⟩; obtain ⟨hsz4, kC4, hfz4⟩ := jJ (w2.heap.size + 1) hsz3 hb4))
      go_wp2
      have h0 : w4.cell? ⟨w.heap.size + 1 + 1, 0, none⟩ = some (.bool false) := by rw [kC4 _ _ y1, kC3 _ _ y1]; exact (World.cell?_alloc_past _ _ _ hz1).trans h0
      have h1' : w4.cell? ⟨w.heap.size + 1 + 1, 1, none⟩ = some (.slice none 0 0) := by rw [kC4 _ _ y1, kC3 _ _ y1]; exact (World.cell?_alloc_past _ _ _ hz1).trans h1'
      refine bodyPost_ret (v := .agg #[.bool neg4, .slice a4 n4 c4]) (by simp [results, Tryz.results126, go_sem, h0, h1']) rfl ⟨neg4, a4, n4, c4, rfl, ?_, ?_⟩
      · rw [zA HE] at hZ4
        exact (hZ4.put2 h0 h1' _ _).mono (by omega)
      · exact ((zB (zB (zL (zB (zB (zB (bl3 _ _ _ _) hb0) p8) hb2) _).drew hb3) hb4).setCell (p := ⟨w.heap.size + 1 + 1, 0, none⟩) le2 _).setCell (p := ⟨w.heap.size + 1 + 1, 1, none⟩) le2 _
    · have hr : rem = 0 := by have h : (!decide (rem = 0)) = false := by assumption
                              simpa using h
      have h0 : w2.cell? ⟨w.heap.size + 1 + 1, 0, none⟩ = some (.bool false) := by simp [kC2, kC1, kC0, go_sem]
      have h1' : w2.cell? ⟨w.heap.size + 1 + 1, 1, none⟩ = some (.slice none 0 0) := by simp [kC2, kC1, kC0, go_sem]
      refine bodyPost_ret (v := .agg #[.bool neg', .slice a2 n2 c2]) (by simp [results, Tryz.results126, go_sem, hz0, hz1, h0, h1']) rfl ⟨neg', a2, n2, c2, rfl, ?_, ?_⟩
      · rw [show sgn true (V o n1) = sgn true (V d n) / V e m by simp only [sgn]; exact (zG4 (by omega) (by rw [p5, hr]; omega)).symm] at hint
        exact ((hint.put2 h0 h1' _ _).bw (bl1 _ _)).mono (by omega)
      · exact zL (((zB (zB (zB (bl3 _ _ _ _) hb0) p8) hb2).setCell (p := ⟨w.heap.size + 1 + 1, 0, none⟩) le2 _).setCell (p := ⟨w.heap.size + 1 + 1, 1, none⟩) le2 _) _
theorem zLR {w:World} {neg:Bool} {a:Option Addr} {n cap k:Nat} {y:Int} (h:IntAt w neg a n cap k y) (hy:0<y):∃ e,neg=false/\0<n/\Dig w a n cap e/\(n=0\/e (n-1)≠0)/\n<=k/\y=V e n:=by
 obtain⟨e,h1,h2,h3,h4,h5⟩:=h;have hv:=jC h1.dgs n
 cases neg
 ·have hn:0<n:=by
   rcases Nat.eq_zero_or_pos n with h0|h0
   ·subst h0;simp[sgn,V] at h5;omega
   ·exact h0
  exact⟨e,rfl,hn,h1,h2,h4,by simpa [sgn] using h5⟩
 ·simp[sgn] at h5;omega
theorem zF6 {e:Nat->Int} (he:Dgs e) {m k:Nat} (h2:m=0\/e (m-1)≠0) (h:V e m<P k):m<=k:=by
 rcases Nat.lt_or_ge k m with hk|hk
 ·have h3:=V_ge he (m-1) (by omega)
  rw[show m-1+1=m by omega] at h3
  have:=zBL (show k<=m-1 by omega);omega
 ·exact hk
theorem zLO (neg j6:Bool) (a c:Option Addr) (n m cap j9 k k2:Nat) (x y:Int) (w:World) (h1:IntAt w neg a n cap k x) (h2:IntAt w j6 c m j9 k2 y) (hk:k<=900000000) (hy:0<y) (KS:y<281474976710656) :
  Calls Tryz.prog 126 #[.agg #[.bool neg,.slice a n cap],.agg #[.bool j6,.slice c m j9]] w (kY w k (x/y)):=by
 obtain⟨e,rfl,f0,f1,f2,f3,rfl⟩:=zLR h2 hy;obtain⟨d,g1,g2,g3,g4,rfl⟩:=h1;have fP:m<=3:=zF6 f1.dgs f2 (by rw[P3];exact KS)
 exact (zG8 neg a c n m cap j9 d e w g1 f1 (by omega) f0 (λ w' p q=>zHE a c n m cap j9 d e w' p q (by omega) g2 f2 hy (Or.inl fP))).mono
  λ _ _ ⟨n1,n2,n3,n4,q1,q2,q3⟩=>⟨n1,n2,n3,n4,q1,q2.mono (by omega),q3⟩
def yP (d:Nat->Int) (q:Int):Nat->Int
 | 0=>0
 | k+1=>(yP d q k+d k*q)/65536
def kO (d:Nat->Int) (q:Int) (n j:Nat):Int:=if j<n then (yP d q j+d j*q) % 65536 else yP d q n
theorem zTD {x q:Int} (hx:0<=x/\x<65536) (hq:0<=q/\q<65536):0<=x*q/\x*q<=4294836225:=zJY hx hq ⟨Int.le_refl 0,by omega⟩ ⟨Int.le_refl 0,by omega⟩
theorem zJI {d:Nat->Int} (hd:Dgs d) {q:Int} (hq:0<=q/\q<65536) (k:Nat):0<=yP d q k/\yP d q k<65536:=by
 induction k with
 | zero=>simp[yP]
 | succ k ih=>simp only[yP];have:=zTD (hd k) hq;omega
theorem zHK {d:Nat->Int} (hd:Dgs d) {q:Int} (hq:0<=q/\q<65536) (n:Nat):Dgs (kO d q n):=by
 intro j;unfold kO
 have:=zJI hd hq n;split<;>omega
theorem zT2 (d:Nat->Int) (q:Int) (n:Nat):∀ k,k<=n->V (kO d q n) k+yP d q k*P k=V d k*q:=by
 intro k
 induction k with
 | zero=>intro _;simp[V,yP]
 | succ k ih =>
  intro hk
  have h1:=ih (by omega)
  simp only[V,P];have h2:kO d q n k=(yP d q k+d k*q) % 65536:=by simp[kO];omega
  rw[h2];simp only[yP]
  have h3:(yP d q k+d k*q) % 65536*P k+(yP d q k+d k*q)/65536*(65536*P k)=(yP d q k+d k*q)*P k:=by
   rw[<- Int.mul_assoc,<- Int.add_mul];congr 1;omega
  have h4:(yP d q k+d k*q)*P k=yP d q k*P k+d k*q*P k:=Int.add_mul _ _ _
  have h5:(V d k+d k*P k)*q=V d k*q+d k*q*P k:=by
   rw[Int.add_mul,Int.mul_assoc (d k),Int.mul_comm (P k) q,<- Int.mul_assoc]
  omega
theorem times_V (d:Nat->Int) (q:Int) (n:Nat):V (kO d q n) (n+1)=V d n*q:=by
 have h:=zT2 d q n n (YE _);simp only[V];have:kO d q n n=yP d q n:=by simp[kO]
 rw[this];exact h
theorem zKS (a:Option Addr) (n cap:Nat) (d:Nat->Int) (q:Int) (w:World) (ha:Dig w a n cap d) (hn:n<=1000000000) (nH:0<=q) (aX:q<65536) :
  Calls Tryz.prog 177 #[.slice a n cap,.int .u32 q] w λ r w'=>∃ a',r=.returned (.slice a' (n+1) (n+1))/\Dig w' a' (n+1) (n+1) (kO d q n)/\Below w.heap.size w w':=by
 have aK:=run_make_row' (P:=Tryz.prog) 27 94 (.int .u16 0) 2 Tryz.underlying27 Tryz.infoU16 rfl .i64 .i64 (n+1) (by omega) (by omega)
 have fR:((n+1:Nat):Int)=(n:Int)+1:=by omega
 rw[fR] at aK;clear fR
 go_enter Tryz.func177,Tryz.ntmps177
 go_wp2;clear aK
 go_loopw [6,15] (λ cy i wr=>∃ k:Nat,k<=n/\i=.int .i64 k/\cy=.int .u32 (yP d q k)/\wr.rowIs w.heap.size 94 (n+1) (λ j=>.int .u16 (if j<k then kO d q n j else 0))/\Below w.heap.size w wr) (λ _ i _=>n-(intOf i).toNat)
 case atStart=>exact⟨0,Nat.zero_le _,rfl,rfl,by simpa using World.rowIs_made w (.int .u16 0) (n+1) 94,bl1 _ _⟩
 case round =>
  obtain⟨k,hk,rfl,rfl,D3,B9⟩:=hrel;have cb:=zJI ha.dgs ⟨nH,aX⟩ k
  by_cases eI:k<n
  ·obtain⟨b1,o1,rfl,b9,D7⟩:=ha.at_ (by omega)
   have g1:wr.cell? ⟨b1,o1+k,none⟩=some (.int .u16 (d k)):=(B9.cell (p:=⟨b1,o1+k,none⟩) b9).trans (D7 k eI);have db:=ha.dgs k;have pb:=zTD db ⟨nH,aX⟩;have r1:=D3.cell (show k<n+1 by omega)
   have r2:=D3.frozen k;have H1:=zC (show (yP d q k+d k*q)/65536=yP d q (k+1) from rfl)
   have H2:=zC (show IntKind.u16.wrap (yP d q k+d k*q)=kO d q n k by simp[zAX,kO,eI])
   clear D7;go_wp2
   go_roundw
   case rel=>exact⟨k+1,by omega,by go_num,by rw[zA H1],zAP D3 (zA H2),B9.setCell (YE _) _⟩
   case measure=>simp[intOf];omega
  ·have hkE:k=n:=by omega
   subst hkE;have r1:=D3.cell (show k<k+1 by omega)
   have r2:=D3.frozen k;have H2:=zC (show yP d q k=kO d q k k by simp[kO])
   have HR:=zC D3;clear D3;go_wp2
   go_ret
   refine⟨_,rfl,zFA ((zAP (zA HR) (zA H2)).congr (λ j hj=>by simp[hj])) (zHK ha.dgs ⟨nH,aX⟩ k) (by omega),B9.setCell (YE _) _⟩
end Go.Proofs.YtgmnknmjainabacGreat
