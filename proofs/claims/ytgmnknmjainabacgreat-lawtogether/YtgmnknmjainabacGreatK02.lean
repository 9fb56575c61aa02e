/-
  Its own texts.
-/
import Derived.Laws.BitsAllLaws
import Derived.Test.YtgmnknmjainabacGreatK01
set_option maxRecDepth 100000
set_option maxHeartbeats 40000000
set_option linter.unnecessarySimpa false
set_option linter.unusedSimpArgs false
set_option linter.unusedVariables false
namespace Go.Proofs.YtgmnknmjainabacGreat
open Go.RowKit
theorem Q_nat (s:Nat):Q s=((2 ^ s:Nat):Int):=by
 induction s with
 | zero=>rfl
 | succ s ih=>simp only[Q,ih,Nat.pow_succ];omega
theorem zOW (s:Nat):(2:Int) ^ s=Q s:=by rw[Q_nat];simp
theorem zE (s:Nat):1<=Q s:=by
 induction s with
 | zero=>simp[Q]
 | succ s ih=>simp only[Q];omega
theorem jF (s t:Nat):Q (s+t)=Q s*Q t:=by
 induction t with
 | zero=>simp[Q]
 | succ t ih=>rw[Nat.add_succ];simp only[Q];rw[ih,Int.mul_left_comm]
theorem zJ {s t:Nat} (h:s<=t):Q s<=Q t:=by
 obtain⟨u,rfl⟩:=Nat.exists_eq_add_of_le h;rw[jF];have:=Yx (zE u) (show 0<=Q s by have:=zE s;omega)
 omega
theorem Q16:Q 16=65536:=rfl
theorem zJE {s:Nat} (h:s<=16):Q s*Q (16-s)=65536:=by rw[<- jF,show s+(16-s)=16 by omega];rfl
theorem Q_P (q:Nat):Q (16*q)=P q:=by
 induction q with
 | zero=>rfl
 | succ q ih=>rw[Nat.mul_succ,jF,ih,Q16];simp only[P];omega
theorem zLG (k:Nat):Q k=Q (k % 16)*P (k/16):=by
 rw[<- Q_P,<- jF];congr 1;omega
theorem zN1 (a b c s:Nat) (ha:a<2 ^ s) (hb:b=2 ^ s*c):a ||| b=a+b:=by
 subst hb;rw[Nat.or_comm,<- Nat.two_pow_add_eq_or_of_lt ha c,Nat.add_comm]
theorem or16 (a b c:Int) (s:Nat) (hs:s<=16) (ha:0<=a) (Z8:a<Q s) (hb:b=Q s*c) (F9:0<=b) (b9:b<65536) :
  bits .or .u16 a b=a+b/\a+b<65536:=by
 have hQ:Q s<=65536:=by rw[<- Q16];exact zJ hs
 have hc:0<=c:=by
  rcases Int.lt_or_le c 0 with h|h
  ·have:=zE s
   have:=Yx (show c <= -1 by omega) (show 0<=Q s by omega)
   omega
  ·exact h
 obtain⟨A,rfl⟩:=Int.eq_ofNat_of_zero_le ha;obtain⟨B,rfl⟩:=Int.eq_ofNat_of_zero_le F9;obtain⟨C,rfl⟩:=Int.eq_ofNat_of_zero_le hc;have hA:(A:Int)<65536:=by omega
 rw[Q_nat] at Z8 hb;have h1:A<2 ^ s:=by omega
 have h2:B=2 ^ s*C:=by have:=hb;rw[<- Int.natCast_mul] at this;omega
 have h3:=zN1 A B C s h1 h2;rw[u16_or_nat A B (by omega) (by omega),h3]
 have h4:A ||| B<2 ^ 16:=Nat.or_lt_two_pow (by omega) (by omega)
 rw[h3] at h4;exact⟨by omega,by omega⟩
theorem or32 (a b c:Int) (ha:0<=a) (Z8:a<65536) (hb:b=65536*c) (oR:0<=c) (E5:c<65536):bits .or .u32 a b=a+b:=by
 obtain⟨A,rfl⟩:=Int.eq_ofNat_of_zero_le ha;obtain⟨C,rfl⟩:=Int.eq_ofNat_of_zero_le oR;have h3:=zN1 A (65536*C) C 16 (by omega) (by omega)
 have Z9:b=((65536*C:Nat):Int):=by omega
 rw[Z9,u32_or_nat A (65536*C) (by omega) (by omega),h3]
 omega
theorem and16 (x:Int) (s:Nat) (hs:s<=16) (hx:0<=x) (dO:x<65536):bits .and .u16 x (Q s-1)=x % Q s:=by
 have hQ:Q s<=65536:=by rw[<- Q16];exact zJ hs
 have QK:=zE s;obtain⟨A,rfl⟩:=Int.eq_ofNat_of_zero_le hx;rw[u16_and _ _ (by omega) (by omega) (by omega) (by omega)]
 have h1:(Q s-1).toNat=2 ^ s-1:=by rw[Q_nat];omega
 rw[h1,Int.toNat_natCast,Nat.and_two_pow_sub_one_eq_mod,Q_nat];omega
theorem up_low (x:Int) (s:Nat) (hs:s<=16):∃ c,x*Q s % 65536=Q s*c:=by
 refine⟨x-Q (16-s)*(x*Q s/65536),?_⟩;have h:=zJE hs;rw[Int.mul_sub,<- Int.mul_assoc,h,Int.mul_comm (Q s) x];omega
theorem zML (x:Int) (s:Nat) (hx:0<=x) (dO:x<65536):0<=x*Q s/65536/\x*Q s/65536<Q s:=by
 have QK:=zE s;have h0:0<=x*Q s:=Yz hx (by omega)
 have h1:x*Q s+Q s<=65536*Q s:=by
  have:=Yt (show x+1<=65536 by omega) (show 0<=Q s by omega)
  rw[Int.add_mul] at this;omega
 omega
theorem up_lt (x:Int) (s:Nat) (hs:s<16) (hx:0<=x) (dO:x<65536):0<=x*Q s/\x*Q s<4294967296:=by
 have hQ:Q s<=Q 15:=zJ (by omega)
 have oI:Q 15=32768:=rfl;have h:=zML x s hx dO;have QK:=zE s;have h0:0<=x*Q s:=Yz hx (by omega)
 omega
theorem up_alg (v x o:Int) (i q s:Nat):v*Q s*P q+(o+x*Q s % 65536-o)*P (i+q)+(x*Q s/65536-0)*P (i+q+1)=(v+x*P i)*Q s*P q:=by
 have h1:(o+x*Q s % 65536-o)*P (i+q)+(x*Q s/65536-0)*(65536*P (i+q))=x*Q s*P (i+q):=by
  rw[<- Int.mul_assoc,<- Int.add_mul];congr 1;omega
 have h2:(v+x*P i)*Q s*P q=v*Q s*P q+x*Q s*P (i+q):=by
  rw[P_add,Int.add_mul,Int.add_mul,Int.mul_assoc x (P i),Int.mul_comm (P i) (Q s),<- Int.mul_assoc x,Int.mul_assoc (x*Q s)]
 rw[h2];simp only[P];omega
theorem up_any (neg:Bool) (a:Option Addr) (n cap k:Nat) (d:Nat->Int) (w:World) (ha:Dig w a n cap d) (hn:n<=1000000000) (hk:k<=1000000000) :
  Calls Tryz.prog 116 #[.agg #[.bool neg,.slice a n cap],.int .i64 k] w λ r w' =>
   ∃ m9 a' n' o7,r=.returned (.agg #[.bool m9,.slice a' n' o7])/\IntAt w' m9 a' n' o7 (k/16+n+1) (sgn neg (V d n*Q k))/\Below w.heap.size w w':=by
 obtain⟨q,hq⟩:∃ q,q=k/16:=⟨_,rfl⟩;obtain⟨s,hs⟩:∃ s,s=k % 16:=⟨_,rfl⟩;have Ro:(k:Int)/16=(q:Int):=by omega
 have Ai:(k:Int) % 16=(s:Int):=by omega
 have mM:s<16:=by omega
 have qM:¬ (k:Int)<0:=by omega
 obtain⟨W,hW⟩:∃ W,W=(w.alloc (.cells #[.bool neg,.slice a n cap] 29)).alloc (.cells #[.bool false,.slice none 0 0] 29):=⟨_,rfl⟩;have b3:Below w.heap.size w W:=by rw[hW];exact bl2 _ _ _
 have s3:W.heap.size=w.heap.size+1+1:=by rw[hW];simp
 have k0:W.cell? ⟨w.heap.size,0,none⟩=some (.bool neg):=by rw[hW];simp[go_sem]
 have k3:W.cell? ⟨w.heap.size+1,0,none⟩=some (.bool false):=by rw[hW];simp[go_sem]
 have k4:W.cell? ⟨w.heap.size+1,1,none⟩=some (.slice none 0 0):=by rw[hW];simp[go_sem]
 have k5:∀ o,W.frozen? ⟨w.heap.size+1,o,none⟩=false:=by intro o;rw[hW];simp[go_sem]
 have HW:=zC hW;clear hW;have aS:=run_make_row' (P:=Tryz.prog) 27 94 (.int .u16 0) 2 Tryz.underlying27 Tryz.infoU16 rfl .i64 .i64 (q+n+1) (by omega) (by omega)
 have iB:((q+n+1:Nat):Int)=(q:Int)+n+1:=by omega
 rw[iB] at aS;have Hq:=zC hq;have Hs:=zC hs;clear iB hq hs
 go_enter Tryz.func116,Tryz.ntmps116
 go_wp2;clear aS
 go_loopw [26] (λ ii wr=>∃ (i:Nat) (o:Nat->Int),i<=n/\ii=.int .i64 i/\wr.rowIs (w.heap.size+1+1) 94 (q+n+1) (λ j=>.int .u16 (o j))/\Dgs o/\V o (q+n+1)=V d i*Q s*P q/\(∀ j,i+q<j->o j=0)/\o (i+q)<Q s/\Below (w.heap.size+1+1) W wr) (λ ii _=>n-(intOf ii).toNat)
 case atStart =>
  refine⟨0,λ _=>0,Nat.zero_le _,rfl,?_,λ _=>⟨by simp,by simp⟩,?_,λ _ _=>rfl,?_,?_⟩
  ·have:=World.rowIs_made W (.int .u16 0) (q+n+1) 94
   rw[s3,zA HW] at this;exact this
  ·rw[zQR];simp[V]
  ·have:=zE s;simp;omega
  ·rw[zA HW];exact (Below.refl _ _).alloc (by simp) _
 case round =>
  obtain⟨i,o,hi,rfl,D7,O1,bc,cC,KB,C8⟩:=hrel
  by_cases I6:i<n
  ·obtain⟨b1,o1,rfl,b9,E5⟩:=ha.at_ (by omega)
   have g1:wr.cell? ⟨b1,o1+i,none⟩=some (.int .u16 (d i)):=(C8.cell (p:=⟨b1,o1+i,none⟩) (by show b1<_;omega)).trans ((b3.cell (p:=⟨b1,o1+i,none⟩) b9).trans (E5 i I6))
   have db:=ha.dgs i;have r1:=D7.cell (show i+q<q+n+1 by omega)
   have r2:=D7.frozen (i+q);have r3:=D7.cell (show i+q+1<q+n+1 by omega)
   have r4:=D7.frozen (i+q+1);have G1:=cC (i+q+1) (by omega)
   rw[G1] at r3;have ob:=O1 (i+q);have HV:=zC bc;have HZ:=zC cC;have HR:=zC D7;have HD:=zC O1;have Ho:=zC G1;clear E5 bc cC D7 O1 G1;obtain⟨c,mI⟩:=up_low (d i) s (by omega)
   have hhigh:=zML (d i) s db.1 db.2;have D9:=up_lt (d i) s mM db.1 db.2;have Z4:d i*2 ^ s % 4294967296=d i*Q s:=by rw[zOW];omega
   have mJ:=or16 (o (i+q)) (d i*Q s % 65536) c s (by omega) ob.1 KB mI (by omega) (by omega)
   have mK:=or16 0 (d i*Q s/65536) (d i*Q s/65536) 0 (by omega) (by omega) (by simp[Q]) (by simp[Q]) hhigh.1 (by omega)
   have H1:=zC (show bits .or .u16 (o (i+q)) (IntKind.u16.wrap (d i*2 ^ s % 4294967296))=o (i+q)+d i*Q s % 65536 by rw[Z4,zA2];exact mJ.1)
   have H2:=zC (show bits .or .u16 0 (d i*2 ^ s % 4294967296/65536)=d i*Q s/65536 by rw[Z4,mK.1];omega)
   have H3:=zC mJ.2;have H4:=zC hhigh;have tG:=zJ (show s<=15 by omega)
   have oI:Q 15=32768:=rfl;rw[oI] at tG;clear mI D9 Z4 mJ mK hhigh oI;go_wp2
   go_roundw
   case rel =>
    have h3:=zA H3;have h4:=zA H4;have hne:i+q+1≠i+q:=by omega
    have hz:upd o (i+q) (o (i+q)+d i*Q s % 65536) (i+q+1)=0:=by simp[upd];exact zA Ho
    refine⟨i+1,upd (upd o (i+q) (o (i+q)+d i*Q s % 65536)) (i+q+1) (d i*Q s/65536),by omega,by go_num,zDK (zDK (zA HR) (i+q) (zA H1)) (i+q+1) (zA H2),yA (yA (zA HD) _ (by omega) h3) _ h4.1 (by omega),?_,λ j hj=>?_,?_,(C8.setCell (by simp) _).setCell (by simp) _⟩
    ·rw[zP6 _ _ _ _ (by omega),zP6 _ _ _ _ (by omega),hz,zA HV]
     exact up_alg (V d i) (d i) (o (i+q)) i q s
    ·have e1:j≠i+q:=by omega
     have e2:j≠i+q+1:=by omega
     simp only[upd,e1,e2,if_false];exact zA HZ j (by omega)
    ·have e1:i+1+q=i+q+1:=by omega
     rw[e1];simp only[upd,if_true];exact h4.2
   case measure=>simp[intOf];omega
  ·have hiE:i=n:=by omega
   subst hiE;have q0:wr.cell? ⟨w.heap.size,0,none⟩=some (.bool neg):=(C8.cell (p:=⟨w.heap.size,0,none⟩) (by show w.heap.size<_;omega)).trans k0
   have q3:wr.cell? ⟨w.heap.size+1,0,none⟩=some (.bool false):=(C8.cell (p:=⟨w.heap.size+1,0,none⟩) (by simp)).trans k3
   have q4:wr.cell? ⟨w.heap.size+1,1,none⟩=some (.slice none 0 0):=(C8.cell (p:=⟨w.heap.size+1,1,none⟩) (by simp)).trans k4
   have q5:∀ o,wr.frozen? ⟨w.heap.size+1,o,none⟩=false:=λ o=>(C8.frozen (p:=⟨w.heap.size+1,o,none⟩) (by simp)).trans (k5 o)
   have T6:=C8.size;rw[s3] at T6;have HR:=zC (zFG D7 O1 (by omega))
   have HV:=zC bc;clear bc cC D7 O1;go_wp2_with (go_at_call 70;refine (zBW _ _ _ _ o _ (zA HR)).mono ?_;rintro r w2 ⟨m9,a2,n2,c2,rfl,hint,j8⟩;obtain⟨C9,D6,E6⟩:=jC (w.heap.size+1+1) T6 j8);refine bodyPost_ret (v:=.agg #[.bool m9,.slice a2 n2 c2]) (by simp[results,Tryz.results116,go_sem,D6,q3,q4]) rfl ⟨m9,a2,n2,c2,rfl,?_,?_⟩
   ·have h0:w2.cell? ⟨w.heap.size+1,0,none⟩=some (.bool false):=by simp[D6,q3]
    have J0:w2.cell? ⟨w.heap.size+1,1,none⟩=some (.slice none 0 0):=by simp[D6,q4]
    rw[zA HV,Int.mul_assoc,zA Hs,zA Hq,<- zLG] at hint;exact hint.put2 h0 J0 _ _
   ·exact ((zB (b3.trans (C8.mono (by omega))) j8).setCell (by simp) _).setCell (by simp) _
theorem zB0 (neg:Bool) (a:Option Addr) (n cap k k1:Nat) (x:Int) (w:World) (h1:IntAt w neg a n cap k1 x) (ae:k1<=1000000000) (hk:k<=1000000000) :
  Calls Tryz.prog 116 #[.agg #[.bool neg,.slice a n cap],.int .i64 k] w λ r w' =>
   ∃ m9 a' n' o7,r=.returned (.agg #[.bool m9,.slice a' n' o7])/\IntAt w' m9 a' n' o7 (k/16+k1+1) (x*Q k)/\Below w.heap.size w w':=by
 obtain⟨d,g1,g2,g3,g4,rfl⟩:=h1;have hs:sgn neg (V d n*Q k)=sgn neg (V d n)*Q k:=by cases neg<;>simp[sgn,Int.neg_mul]
 rw[<- hs];exact (up_any neg a n cap k d w g1 (by omega) hk).mono λ _ _ ⟨n1,n2,n3,n4,q1,q2,q3⟩=>⟨n1,n2,n3,n4,q1,q2.mono (by omega),q3⟩
attribute [local go_sem ↓] Go.wp_at_zero Go.wp_at_succ
theorem zO7 (x y:Int) (s:Nat) (hs:s<=16) (hx:0<=x) (dO:x<65536) (hy:0<=y) :
  (x+65536*y)/Q s % 65536*Q s+x % Q s=x+y % Q s*65536:=by
 have qw:=zJE hs;have hq:=zE s;have hr:=zE (16-s);generalize Q s=S at *;generalize Q (16-s)=R at *
 have e1:(x+65536*y)/S=x/S+R*y:=by
  rw[<- qw,Int.mul_assoc,Int.add_mul_ediv_left _ _ (by omega)]
 have hxd:S*(x/S)+x % S=x:=Int.mul_ediv_add_emod x S;have hyd:S*(y/S)+y % S=y:=Int.mul_ediv_add_emod y S;have mR:0<=x/S:=Int.ediv_nonneg hx (by omega)
 have hxR:x/S<R:=Int.ediv_lt_of_lt_mul (by omega) (by rw[Int.mul_comm,qw];exact dO)
 have wW:=Int.emod_nonneg y (show S≠0 by omega)
 have hyS:=Int.emod_lt_of_pos y (show 0<S by omega)
 have e2:R*y=R*(y % S)+65536*(y/S):=by
  have:R*y=R*(S*(y/S)+y % S):=by rw[hyd]
  rw[this,Int.mul_add,<- Int.mul_assoc,Int.mul_comm R S,qw];omega
 have hRy:R*(y % S)<=R*(S-1):=Yx (by omega) (by omega)
 have hRy0:0<=R*(y % S):=Yz (by omega) wW
 have e3:R*(S-1)=65536-R:=by rw[Int.mul_sub,Int.mul_comm R S,qw];omega
 have e4:(x+65536*y)/S % 65536=x/S+R*(y % S):=by rw[e1,e2];omega
 rw[e4,Int.add_mul,Int.mul_comm (x/S) S,Int.mul_assoc,Int.mul_comm (y % S) S,<- Int.mul_assoc,Int.mul_comm R S,qw];omega
theorem zCC (d o:Nat->Int) (n q m s:Nat) (hs:s<=16) (hd:Dgs d) {v:Int} (hv:v=(dg d n (q+m)+65536*dg d n (q+(m+1)))/Q s % 65536)
  (h:V o m*Q s+dg d n q % Q s=V (λ j=>dg d n (q+j)) m+dg d n (q+m) % Q s*P m) :
  V (upd o m v) (m+1)*Q s+dg d n q % Q s=V (λ j=>dg d n (q+j)) (m+1)+dg d n (q+(m+1)) % Q s*P (m+1):=by
 have b1:0<=dg d n (q+m)/\dg d n (q+m)<65536:=by unfold dg;have:=hd (q+m);split<;>omega
 have b2:0<=dg d n (q+(m+1)):=by unfold dg;have:=hd (q+(m+1));split<;>omega
 have h1:=zO7 (dg d n (q+m)) (dg d n (q+(m+1))) s hs b1.1 b1.2 b2;rw[<- hv] at h1
 have h2:V (upd o m v) (m+1)=V o m+v*P m:=by
  simp only[V];rw[zCM m (λ j hj=>by simp[upd];omega:∀ j,j<m->upd o m v j=o j)]
  simp[upd]
 rw[h2];simp only[V,P];generalize dg d n (q+(m+1)) % Q s=y at *;generalize dg d n (q+m) % Q s=z at *
 have h3:v*Q s*P m+z*P m=dg d n (q+m)*P m+y*(65536*P m):=by
  rw[<- Int.add_mul,h1,Int.add_mul,Int.mul_assoc]
 have h4:(V o m+v*P m)*Q s=V o m*Q s+v*Q s*P m:=by
  rw[Int.add_mul,Int.mul_assoc v,Int.mul_comm (P m) (Q s),<- Int.mul_assoc]
 omega
def zA7 (d:Nat->Int) (q s i:Nat):Int:=if i<=q then V d i else V d q+d q % Q s*P q
theorem lost_low {d:Nat->Int} (hd:Dgs d) {q s i:Nat} (h:i<q):zA7 d q s (i+1)≠0 ↔ (zA7 d q s i≠0\/d i≠0):=by
 unfold zA7;rw[if_pos (by omega),if_pos (by omega)]
 simp only[V];have h1:=zY hd i;have h2:=hd i;have h3:=yF i;have h4:0<=d i*P i:=Yz h2.1 (by omega)
 by_cases h5:d i=0
 ·simp[h5]
 ·have:1*P i<=d i*P i:=Yt (by omega) (by omega)
  omega
theorem zII {d:Nat->Int} (hd:Dgs d) (q s:Nat):zA7 d q s (q+1)≠0 ↔ (zA7 d q s q≠0\/d q % Q s≠0):=by
 unfold zA7;rw[if_neg (by omega),if_pos (by omega)]
 have h1:=zY hd q;have h2:=Int.emod_nonneg (d q) (show Q s≠0 by have:=zE s;omega)
 have h3:=yF q;have h4:0<=d q % Q s*P q:=Yz h2 (by omega)
 by_cases h5:d q % Q s=0
 ·simp[h5]
 ·have:1*P q<=d q % Q s*P q:=Yt (by omega) (by omega)
  omega
theorem zJ4 {d:Nat->Int} {q s i:Nat} (h:q<i):zA7 d q s (i+1)=zA7 d q s i:=by
 unfold zA7;rw[if_neg (by omega),if_neg (by omega)]
theorem zL {w w1:World} (h:Below w.heap.size w w1) (o:Obj):Below w.heap.size w (w1.alloc o):=h.alloc h.size o
theorem zHU (d:Nat->Int) (q m:Nat):V d (q+m)=V d q+P q*V (λ j=>d (q+j)) m:=by
 induction m with
 | zero=>simp[V]
 | succ m ih =>
  rw[<- Nat.add_assoc];simp only[V];rw[ih,P_add,Int.mul_add];have:d (q+m)*(P q*P m)=P q*(d (q+m)*P m):=by rw[Int.mul_left_comm]
  omega
theorem down_fin {d o:Nat->Int} {n q s k m:Nat} (hd:Dgs d) (hq:q=k/16) (hs:s=k % 16) (hm:m=n-q)
  (h:V o m*Q s+dg d n q % Q s=V (λ j=>dg d n (q+j)) m+dg d n (q+m) % Q s*P m) :
  V d n=V o m*Q k+zA7 d q s n/\0<=zA7 d q s n/\zA7 d q s n<Q k:=by
 have hQ:Q k=Q s*P q:=by rw[hs,hq];exact zLG k
 have hp:=yF q;have Ah:=zE s
 have hSP:P q<=Q s*P q:=by
  have:=Yt Ah (show 0<=P q by omega);omega
 unfold zA7
 by_cases hn:n<=q
 ·rw[if_pos hn]
  have Af:m=0:=by omega
  subst Af;have h1:=zY hd n;have h2:=zHT hd n;have h3:=zBS hn;simp only[V];omega
 ·rw[if_neg hn]
  have Ag:q+m=n:=by omega
  have e0:dg d n (q+m)=0:=by rw[Ag];simp[dg]
  have e1:dg d n q=d q:=by simp[dg];omega
  have e2:V (λ j=>dg d n (q+j)) m=V (λ j=>d (q+j)) m:=zCM m (λ j hj=>by simp[dg];omega)
  rw[e0,e1,e2] at h;have h4:=zHU d q m;rw[Ag] at h4;have iV:=Int.emod_nonneg (d q) (show Q s≠0 by omega)
  have S8:=Int.emod_lt_of_pos (d q) (show 0<Q s by omega)
  have h5:=zY hd q;have h6:=zHT hd q;have h7:d q % Q s*P q<=(Q s-1)*P q:=Yt (by omega) (by omega)
  rw[Int.sub_mul] at h7;have h8:0<=d q % Q s*P q:=Yz iV (by omega)
  simp at h
  have h9:P q*V (λ j=>d (q+j)) m=V o m*(Q s*P q)+d q % Q s*P q:=by
   rw[<- h,Int.mul_comm (P q),Int.add_mul,Int.mul_assoc]
  rw[hQ];omega
theorem zDN {M v r K:Int} (hK:0<K) (h:M=v*K+r) (h0:0<=r) (h1:r<K):M/K=v:=by
 rw[h,Int.add_comm,Int.add_mul_ediv_right _ _ (by omega),Int.ediv_eq_zero_of_lt h0 h1];omega
theorem zG9 {M v K:Int} (hK:0<K) (h:M=v*K) : -M/K = -v:=by
 rw[h,<- Int.neg_mul,Int.mul_ediv_cancel _ (by omega)]
theorem zE8 {M v r K:Int} (hK:0<K) (h:M=v*K+r) (h0:0<r) (h1:r<K) : -M/K = -v-1:=by
 refine zDN (r:=K-r) hK ?_ (by omega) (by omega)
 rw[h,Int.sub_mul,Int.neg_mul];omega
theorem down_any (neg:Bool) (a:Option Addr) (n cap k:Nat) (d:Nat->Int) (w:World) (ha:Dig w a n cap d) (hn:n<=1000000000) (hk:k<=1000000000) :
  Calls Tryz.prog 96 #[.agg #[.bool neg,.slice a n cap],.int .i64 k] w λ r w' =>
   ∃ m9 a' n' o7,r=.returned (.agg #[.bool m9,.slice a' n' o7])/\IntAt w' m9 a' n' o7 (n+5) (sgn neg (V d n)/Q k)/\Below w.heap.size w w':=by
 obtain⟨q,hq⟩:∃ q,q=k/16:=⟨_,rfl⟩;obtain⟨s,hs⟩:∃ s,s=k % 16:=⟨_,rfl⟩;have Ro:(k:Int)/16=(q:Int):=by omega
 have Ai:(k:Int) % 16=(s:Int):=by omega
 have mM:s<16:=by omega
 have qM:¬ (k:Int)<0:=by omega
 obtain⟨W,hW⟩:∃ W,W=(w.alloc (.cells #[.bool neg,.slice a n cap] 29)).alloc (.cells #[.bool false,.slice none 0 0] 29):=⟨_,rfl⟩;have b3:Below w.heap.size w W:=by rw[hW];exact bl2 _ _ _
 have s3:W.heap.size=w.heap.size+1+1:=by rw[hW];simp
 have k0:W.cell? ⟨w.heap.size,0,none⟩=some (.bool neg):=by rw[hW];simp[go_sem]
 have k1:W.cell? ⟨w.heap.size,1,none⟩=some (.slice a n cap):=by rw[hW];simp[go_sem]
 have k3:W.cell? ⟨w.heap.size+1,0,none⟩=some (.bool false):=by rw[hW];simp[go_sem]
 have k4:W.cell? ⟨w.heap.size+1,1,none⟩=some (.slice none 0 0):=by rw[hW];simp[go_sem]
 have k5:∀ o,W.frozen? ⟨w.heap.size+1,o,none⟩=false:=by intro o;rw[hW];simp[go_sem]
 have HW:=zC hW;have Hq:=zC hq;have Hs:=zC hs;clear hW hq hs
 go_enter Tryz.func96,Tryz.ntmps96
 go_wp2
 go_loopw [5,6,20] (λ out lost ii wr=>∃ (i m:Nat) (a':Option Addr) (o7:Nat) (o:Nat->Int) (b:Bool),i<=n/\ii=.int .i64 i/\m=i-q/\out=.slice a' m o7/\lost=.bool b/\(b=true ↔ zA7 d q s i≠0) /\
   Own wr (w.heap.size+1+1) 94 a' m o7 o/\Dgs o/\V o m*Q s+dg d n q % Q s=V (λ j=>dg d n (q+j)) m+dg d n (q+m) % Q s*P m/\Below (w.heap.size+1+1) W wr) (λ _ _ ii _=>n-(intOf ii).toNat)
 case atStart =>
  refine⟨0,0,none,0,λ _=>0,false,Nat.zero_le _,rfl,by omega,rfl,rfl,by simp[zA7,V],Own.nil _ _ _ _,λ _=>⟨by simp,by simp⟩,by simp[V,P],?_⟩
  rw[zA HW];exact Below.refl _ _
 case round =>
  obtain⟨i,m,a',o7,o,b,hi,rfl,hm,rfl,rfl,hb,I7,O1,hV,C8⟩:=hrel;have T6:=C8.size;rw[s3] at T6
  by_cases I6:i<n
  ·obtain⟨b1,o1,rfl,b9,E5⟩:=ha.at_ (by omega)
   have g1:wr.cell? ⟨b1,o1+i,none⟩=some (.int .u16 (d i)):=(C8.cell (p:=⟨b1,o1+i,none⟩) (by show b1<_;omega)).trans ((b3.cell (p:=⟨b1,o1+i,none⟩) b9).trans (E5 i I6))
   have q1:wr.cell? ⟨w.heap.size,1,none⟩=some (.slice (some ⟨b1,o1,none⟩) n cap):=(C8.cell (p:=⟨w.heap.size,1,none⟩) (by show w.heap.size<_;omega)).trans k1
   have db:=ha.dgs i
   by_cases hiq:i<q
   ·have Af:m=0:=by omega
    subst Af;have Kg:(i:Int)<q:=by omega
    have Hm:=zC hm;have HO:=zC I7;have HV:=zC hV;have HB:=zC hb;clear hm I7 hV hb E5;have FD:=lost_low (s:=s) ha.dgs hiq
    cases b
    ·have HL:=zC (show (d i != 0)=true ↔ zA7 d q s (i+1)≠0 by rw[FD];have:=zA HB;simp at this;simp[this])
     clear FD;go_wp2
     go_roundw
     case rel=>exact⟨i+1,0,a',o7,o,_,by omega,by go_num,by omega,rfl,rfl,zA HL,zA HO,O1,zA HV,C8⟩
     case measure=>simp[intOf];omega
    ·have HL:=zC (show true=true ↔ zA7 d q s (i+1)≠0 by rw[FD];have:=zA HB;simp at this;simp[this])
     clear FD;go_wp2
     go_roundw
     case rel=>exact⟨i+1,0,a',o7,o,_,by omega,by go_num,by omega,rfl,rfl,zA HL,zA HO,O1,zA HV,C8⟩
     case measure=>simp[intOf];omega
   ·have Kg:¬ (i:Int)<q:=by omega
    have wN:m<=n:=by omega
    have Hm:=zC hm;have HO:=zC I7;have HV:=zC hV;have HB:=zC hb;clear hm I7 hV hb;have eqm:q+m=i:=by have:=zA Hm;omega
    have hand:bits BinOp.and IntKind.u16 (d i) (IntKind.u16.wrap (IntKind.u16.wrap (2 ^ s)-1))=d i % Q s:=by
     have h1:=zJ (show s<=15 by omega)
     have oI:Q 15=32768:=rfl;have h2:=zE s;have h3:IntKind.u16.wrap (IntKind.u16.wrap (2 ^ s)-1)=Q s-1:=by rw[zA2,zA2,zOW];omega
     rw[h3];exact and16 (d i) s (by omega) db.1 db.2
    have dgi:dg d n (q+m)=d i:=by rw[eqm];simp[dg,I6]
    by_cases iQ:i+1<n
    ·have g2:wr.cell? ⟨b1,o1+(i+1),none⟩=some (.int .u16 (d (i+1))):=(C8.cell (p:=⟨b1,o1+(i+1),none⟩) (by show b1<_;omega)).trans ((b3.cell (p:=⟨b1,o1+(i+1),none⟩) b9).trans (E5 (i+1) iQ))
     have PR:=ha.dgs (i+1);have Kd:(i:Int)+1<n:=by omega
     have dI:IntKind.u16.wrap (bits BinOp.or IntKind.u32 (d i) (d (i+1)*65536)/2 ^ s)=(dg d n (q+m)+65536*dg d n (q+(m+1)))/Q s % 65536:=by
      have e1:dg d n (q+(m+1))=d (i+1):=by rw[<- Nat.add_assoc,eqm];simp[dg,iQ]
      rw[zA2,or32 (d i) (d (i+1)*65536) (d (i+1)) db.1 db.2 (by omega) PR.1 PR.2,zOW,dgi,e1,Int.mul_comm (d (i+1)) 65536]
     clear E5 dgi eqm
     by_cases ie:i=q
     ·subst ie
      have vH:((i:Int) == i)=true:=by simp
      cases b
      ·have HL:=zC (show (bits BinOp.and IntKind.u16 (d i) (IntKind.u16.wrap (IntKind.u16.wrap (2 ^ s)-1)) != 0)=true ↔ zA7 d i s (i+1)≠0 by rw[zII ha.dgs,hand];have:=zA HB;simp at this;simp[this])
       clear hand;have HE:=zC (show IntKind.u16.wrap (bits BinOp.or IntKind.u32 (d i) (d (i+1)*65536)/2 ^ s)=(dg d n (i+m)+65536*dg d n (i+(m+1)))/Q s % 65536 by rw[dI])
       clear dI;go_wp2_with (at_builtin;refine jB _ rfl _ _ 27 rfl (w.heap.size+1+1) 94 Tryz.underlying27 Tryz.infoU16 a' m o7 o rfl ((zA HO).alloc _) wr.heap.size 1 (IntKind.u16.wrap (bits BinOp.or IntKind.u32 (d i) (d (i+1)*65536)/2 ^ s)) rfl (by simp[go_sem]) (by omega) (by simp;omega) ?_;intro a2 j9 w1 G9 j8)
       go_roundw
       case rel =>
        rw[zA HE] at G9;refine⟨i+1,m+1,a2,j9,upd o m ((dg d n (i+m)+65536*dg d n (i+(m+1)))/Q s % 65536),_,by omega,by go_num,by have:=zA Hm;omega,rfl,rfl,zA HL,G9,yA O1 _ (by omega) (by omega),zCC d o n i m s (by omega) ha.dgs rfl (zA HV),?_⟩
        exact (C8.alloc (by omega) _).trans j8
       case measure=>simp[intOf];omega
      ·have HL:=zC (show true=true ↔ zA7 d i s (i+1)≠0 by rw[zII ha.dgs];have:=zA HB;simp at this;simp[this])
       clear hand;have HE:=zC (show IntKind.u16.wrap (bits BinOp.or IntKind.u32 (d i) (d (i+1)*65536)/2 ^ s)=(dg d n (i+m)+65536*dg d n (i+(m+1)))/Q s % 65536 by rw[dI])
       clear dI;go_wp2_with (at_builtin;refine jB _ rfl _ _ 27 rfl (w.heap.size+1+1) 94 Tryz.underlying27 Tryz.infoU16 a' m o7 o rfl ((zA HO).alloc _) wr.heap.size 1 (IntKind.u16.wrap (bits BinOp.or IntKind.u32 (d i) (d (i+1)*65536)/2 ^ s)) rfl (by simp[go_sem]) (by omega) (by simp;omega) ?_;intro a2 j9 w1 G9 j8)
       go_roundw
       case rel =>
        rw[zA HE] at G9;refine⟨i+1,m+1,a2,j9,upd o m ((dg d n (i+m)+65536*dg d n (i+(m+1)))/Q s % 65536),_,by omega,by go_num,by have:=zA Hm;omega,rfl,rfl,zA HL,G9,yA O1 _ (by omega) (by omega),zCC d o n i m s (by omega) ha.dgs rfl (zA HV),?_⟩
        exact (C8.alloc (by omega) _).trans j8
       case measure=>simp[intOf];omega
     ·have vH:((i:Int) == q)=false:=by simp;omega
      have HL:=zC (show b=true ↔ zA7 d q s (i+1)≠0 by rw[zJ4 (by omega)];exact zA HB)
      clear hand;have HE:=zC (show IntKind.u16.wrap (bits BinOp.or IntKind.u32 (d i) (d (i+1)*65536)/2 ^ s)=(dg d n (q+m)+65536*dg d n (q+(m+1)))/Q s % 65536 by rw[dI])
      clear dI;go_wp2_with (at_builtin;refine jB _ rfl _ _ 27 rfl (w.heap.size+1+1) 94 Tryz.underlying27 Tryz.infoU16 a' m o7 o rfl ((zA HO).alloc _) wr.heap.size 1 (IntKind.u16.wrap (bits BinOp.or IntKind.u32 (d i) (d (i+1)*65536)/2 ^ s)) rfl (by simp[go_sem]) (by omega) (by simp;omega) ?_;intro a2 j9 w1 G9 j8)
      go_roundw
      case rel =>
       rw[zA HE] at G9;refine⟨i+1,m+1,a2,j9,upd o m ((dg d n (q+m)+65536*dg d n (q+(m+1)))/Q s % 65536),_,by omega,by go_num,by have:=zA Hm;omega,rfl,rfl,zA HL,G9,yA O1 _ (by omega) (by omega),zCC d o n q m s (by omega) ha.dgs rfl (zA HV),?_⟩
       exact (C8.alloc (by omega) _).trans j8
      case measure=>simp[intOf];omega
    ·have Kd:¬ (i:Int)+1<n:=by omega
     have dI:IntKind.u16.wrap (d i/2 ^ s)=(dg d n (q+m)+65536*dg d n (q+(m+1)))/Q s % 65536:=by
      have e1:dg d n (q+(m+1))=0:=by rw[<- Nat.add_assoc,eqm];simp[dg,iQ]
      rw[zA2,zOW,dgi,e1];simp
     clear E5 dgi eqm
     by_cases ie:i=q
     ·subst ie
      have vH:((i:Int) == i)=true:=by simp
      cases b
      ·have HL:=zC (show (bits BinOp.and IntKind.u16 (d i) (IntKind.u16.wrap (IntKind.u16.wrap (2 ^ s)-1)) != 0)=true ↔ zA7 d i s (i+1)≠0 by rw[zII ha.dgs,hand];have:=zA HB;simp at this;simp[this])
       clear hand;have HE:=zC (show IntKind.u16.wrap (d i/2 ^ s)=(dg d n (i+m)+65536*dg d n (i+(m+1)))/Q s % 65536 by rw[dI])
       clear dI;go_wp2_with (at_builtin;refine jB _ rfl _ _ 27 rfl (w.heap.size+1+1) 94 Tryz.underlying27 Tryz.infoU16 a' m o7 o rfl ((zA HO).alloc _) wr.heap.size 1 (IntKind.u16.wrap (d i/2 ^ s)) rfl (by simp[go_sem]) (by omega) (by simp;omega) ?_;intro a2 j9 w1 G9 j8)
       go_roundw
       case rel =>
        rw[zA HE] at G9;refine⟨i+1,m+1,a2,j9,upd o m ((dg d n (i+m)+65536*dg d n (i+(m+1)))/Q s % 65536),_,by omega,by go_num,by have:=zA Hm;omega,rfl,rfl,zA HL,G9,yA O1 _ (by omega) (by omega),zCC d o n i m s (by omega) ha.dgs rfl (zA HV),?_⟩
        exact (C8.alloc (by omega) _).trans j8
       case measure=>simp[intOf];omega
      ·have HL:=zC (show true=true ↔ zA7 d i s (i+1)≠0 by rw[zII ha.dgs];have:=zA HB;simp at this;simp[this])
       clear hand;have HE:=zC (show IntKind.u16.wrap (d i/2 ^ s)=(dg d n (i+m)+65536*dg d n (i+(m+1)))/Q s % 65536 by rw[dI])
       clear dI;go_wp2_with (at_builtin;refine jB _ rfl _ _ 27 rfl (w.heap.size+1+1) 94 Tryz.underlying27 Tryz.infoU16 a' m o7 o rfl ((zA HO).alloc _) wr.heap.size 1 (IntKind.u16.wrap (d i/2 ^ s)) rfl (by simp[go_sem]) (by omega) (by simp;omega) ?_;intro a2 j9 w1 G9 j8)
       go_roundw
       case rel =>
        rw[zA HE] at G9;refine⟨i+1,m+1,a2,j9,upd o m ((dg d n (i+m)+65536*dg d n (i+(m+1)))/Q s % 65536),_,by omega,by go_num,by have:=zA Hm;omega,rfl,rfl,zA HL,G9,yA O1 _ (by omega) (by omega),zCC d o n i m s (by omega) ha.dgs rfl (zA HV),?_⟩
        exact (C8.alloc (by omega) _).trans j8
       case measure=>simp[intOf];omega
     ·have vH:((i:Int) == q)=false:=by simp;omega
      have HL:=zC (show b=true ↔ zA7 d q s (i+1)≠0 by rw[zJ4 (by omega)];exact zA HB)
      clear hand;have HE:=zC (show IntKind.u16.wrap (d i/2 ^ s)=(dg d n (q+m)+65536*dg d n (q+(m+1)))/Q s % 65536 by rw[dI])
      clear dI;go_wp2_with (at_builtin;refine jB _ rfl _ _ 27 rfl (w.heap.size+1+1) 94 Tryz.underlying27 Tryz.infoU16 a' m o7 o rfl ((zA HO).alloc _) wr.heap.size 1 (IntKind.u16.wrap (d i/2 ^ s)) rfl (by simp[go_sem]) (by omega) (by simp;omega) ?_;intro a2 j9 w1 G9 j8)
      go_roundw
      case rel =>
       rw[zA HE] at G9;refine⟨i+1,m+1,a2,j9,upd o m ((dg d n (q+m)+65536*dg d n (q+(m+1)))/Q s % 65536),_,by omega,by go_num,by have:=zA Hm;omega,rfl,rfl,zA HL,G9,yA O1 _ (by omega) (by omega),zCC d o n q m s (by omega) ha.dgs rfl (zA HV),?_⟩
       exact (C8.alloc (by omega) _).trans j8
      case measure=>simp[intOf];omega
  ·have hiE:i=n:=by omega
   subst hiE;have q0:wr.cell? ⟨w.heap.size,0,none⟩=some (.bool neg):=(C8.cell (p:=⟨w.heap.size,0,none⟩) (by show w.heap.size<_;omega)).trans k0
   have q3:wr.cell? ⟨w.heap.size+1,0,none⟩=some (.bool false):=(C8.cell (p:=⟨w.heap.size+1,0,none⟩) (by simp)).trans k3
   have q4:wr.cell? ⟨w.heap.size+1,1,none⟩=some (.slice none 0 0):=(C8.cell (p:=⟨w.heap.size+1,1,none⟩) (by simp)).trans k4
   have q5:∀ o,wr.frozen? ⟨w.heap.size+1,o,none⟩=false:=λ o=>(C8.frozen (p:=⟨w.heap.size+1,o,none⟩) (by simp)).trans (k5 o)
   obtain⟨f1,f2,f3⟩:=down_fin ha.dgs (zA Hq) (zA Hs) hm hV;have Fv:0<Q k:=by have:=zE k;omega
   have HR:=zC (I7.dig O1 (by omega))
   have hmi:m<=i:=by omega
   have hbr:(b=true/\0<zA7 d q s i)\/(b=false/\zA7 d q s i=0):=by
    cases b
    ·right;simp at hb;exact⟨rfl,hb⟩
    ·left;simp at hb;exact⟨rfl,by omega⟩
   clear hV hb I7 O1 hm
   rcases hbr with⟨rfl,hl⟩|⟨rfl,hl⟩
   ·cases neg
    ·have HE:=zC (show sgn false (V o m)=sgn false (V d i)/Q k by simp only[sgn];exact (zDN Fv f1 f2 f3).symm)
     clear f1 f2 f3 hl;go_wp2_with (go_at_call 70;refine (zBW _ _ _ _ o _ (zA HR)).mono ?_;rintro r w2 ⟨m9,a2,n2,c2,rfl,hint,j8⟩;obtain⟨C9,D6,E6⟩:=jC (w.heap.size+1+1) T6 j8;have K4:=YB (Nat.lt_succ_of_lt (Nat.lt_succ_self w.heap.size)) C9;have G1:=YB (Nat.lt_succ_self (w.heap.size+1)) C9);refine bodyPost_ret (v:=.agg #[.bool m9,.slice a2 n2 c2]) (by simp[results,Tryz.results96,go_sem,D6,K4,G1,q3,q4]) rfl ⟨m9,a2,n2,c2,rfl,?_,?_⟩
     ·have h0:w2.cell? ⟨w.heap.size+1,0,none⟩=some (.bool false):=by simp[D6,q3]
      have J0:w2.cell? ⟨w.heap.size+1,1,none⟩=some (.slice none 0 0):=by simp[D6,q4]
      rw[zA HE] at hint;exact ((hint.put2 h0 J0 _ _).bw (bl1 _ _)).mono (by omega)
     ·exact zL (((zB (b3.trans (C8.mono (by omega))) j8).setCell (p:=⟨w.heap.size+1,0,none⟩) (Nat.le_succ _) _).setCell (p:=⟨w.heap.size+1,1,none⟩) (Nat.le_succ _) _) _
    ·have HE:=zC (show sgn true (V o m)-1=sgn true (V d i)/Q k by simp only[sgn];exact (zE8 Fv f1 hl f3).symm)
     clear f1 f2 f3 hl;go_wp2_with (go_at_call 70;refine (zBW _ _ _ _ o _ (zA HR)).mono ?_;rintro r w2 ⟨m9,a2,n2,c2,rfl,hint,j8⟩;obtain⟨C9,D6,E6⟩:=jC (w.heap.size+1+1) T6 j8;have K4:=YB (Nat.lt_succ_of_lt (Nat.lt_succ_self w.heap.size)) C9;have G1:=YB (Nat.lt_succ_self (w.heap.size+1)) C9);have nz:w2.heap.size≠w.heap.size+1:=by omega
     have nz':w.heap.size+1≠w2.heap.size:=by omega
     go_region_held3 (λ w'=>w'.cell? ⟨w2.heap.size,0,none⟩=some (.bool m9)/\w'.cell? ⟨w2.heap.size,1,none⟩=some (.slice a2 n2 c2)) (go_keep)
      (first
       | (go_at_call 33;refine (zD 1 _ (by decide) (by decide)).mono ?_;rintro r w3 ⟨B9,a3,n3,c3,rfl,E7,m8⟩;obtain⟨I1,O7,M7⟩:=jC (w2.heap.size+1) (by simp) m8)
       | (go_at_call 35;refine (zBP _ _ _ _ _ _ _ _ m 4 _ _ _ (hint.bw (zB (bl1 _ _).drew m8)) E7 (by omega) (by omega)).mono ?_;rintro r w4 ⟨E4,a4,n4,c4,rfl,H8,p9⟩;obtain⟨Z5,fS,aH⟩:=jC (w2.heap.size+1) I1 p9;have y1:=Nat.le_succ_of_le G1;have y0:w2.cell? ⟨w.heap.size+1,0,none⟩=some (.bool false):=(D6 _ _ (Yy _)).trans q3;have y2:w2.cell? ⟨w.heap.size+1,1,none⟩=some (.slice none 0 0):=(D6 _ _ (Yy _)).trans q4;have y3:∀ o,w2.frozen? ⟨w.heap.size+1,o,none⟩=false:=λ o=>(E6 _ _ (Yy _)).trans (q5 o)))
     go_wp2;have h0:w4.cell? ⟨w.heap.size+1,0,none⟩=some (.bool false):=by rw[fS _ _ y1,O7 _ _ y1];exact (World.cell?_alloc_past _ _ _ G1).trans y0
     have J0:w4.cell? ⟨w.heap.size+1,1,none⟩=some (.slice none 0 0):=by rw[fS _ _ y1,O7 _ _ y1];exact (World.cell?_alloc_past _ _ _ G1).trans y2
     refine bodyPost_ret (v:=.agg #[.bool E4,.slice a4 n4 c4]) (by simp[results,Tryz.results96,go_sem,h0,J0]) rfl ⟨E4,a4,n4,c4,rfl,?_,?_⟩
     ·rw[zA HE] at H8
      exact (H8.put2 h0 J0 _ _).mono (by omega)
     ·exact ((zB (zB (zL (zB (b3.trans (C8.mono (by omega))) j8) _).drew m8) p9).setCell (p:=⟨w.heap.size+1,0,none⟩) (Nat.le_succ _) _).setCell (p:=⟨w.heap.size+1,1,none⟩) (Nat.le_succ _) _
   ·cases neg
    ·have HE:=zC (show sgn false (V o m)=sgn false (V d i)/Q k by simp only[sgn];exact (zDN Fv f1 f2 f3).symm)
     clear f1 f2 f3 hl;go_wp2_with (go_at_call 70;refine (zBW _ _ _ _ o _ (zA HR)).mono ?_;rintro r w2 ⟨m9,a2,n2,c2,rfl,hint,j8⟩;obtain⟨C9,D6,E6⟩:=jC (w.heap.size+1+1) T6 j8;have K4:=YB (Nat.lt_succ_of_lt (Nat.lt_succ_self w.heap.size)) C9;have G1:=YB (Nat.lt_succ_self (w.heap.size+1)) C9);refine bodyPost_ret (v:=.agg #[.bool m9,.slice a2 n2 c2]) (by simp[results,Tryz.results96,go_sem,D6,K4,G1,q3,q4]) rfl ⟨m9,a2,n2,c2,rfl,?_,?_⟩
     ·have h0:w2.cell? ⟨w.heap.size+1,0,none⟩=some (.bool false):=by simp[D6,q3]
      have J0:w2.cell? ⟨w.heap.size+1,1,none⟩=some (.slice none 0 0):=by simp[D6,q4]
      rw[zA HE] at hint;exact ((hint.put2 h0 J0 _ _).bw (bl1 _ _)).mono (by omega)
     ·exact zL (((zB (b3.trans (C8.mono (by omega))) j8).setCell (p:=⟨w.heap.size+1,0,none⟩) (Nat.le_succ _) _).setCell (p:=⟨w.heap.size+1,1,none⟩) (Nat.le_succ _) _) _
    ·have HE:=zC (show sgn true (V o m)=sgn true (V d i)/Q k by simp only[sgn];exact (zG9 Fv (by rw[f1,hl];omega)).symm)
     clear f1 f2 f3 hl;go_wp2_with (go_at_call 70;refine (zBW _ _ _ _ o _ (zA HR)).mono ?_;rintro r w2 ⟨m9,a2,n2,c2,rfl,hint,j8⟩;obtain⟨C9,D6,E6⟩:=jC (w.heap.size+1+1) T6 j8;have K4:=YB (Nat.lt_succ_of_lt (Nat.lt_succ_self w.heap.size)) C9;have G1:=YB (Nat.lt_succ_self (w.heap.size+1)) C9);refine bodyPost_ret (v:=.agg #[.bool m9,.slice a2 n2 c2]) (by simp[results,Tryz.results96,go_sem,D6,K4,G1,q3,q4]) rfl ⟨m9,a2,n2,c2,rfl,?_,?_⟩
     ·have h0:w2.cell? ⟨w.heap.size+1,0,none⟩=some (.bool false):=by simp[D6,q3]
      have J0:w2.cell? ⟨w.heap.size+1,1,none⟩=some (.slice none 0 0):=by simp[D6,q4]
      rw[zA HE] at hint;exact ((hint.put2 h0 J0 _ _).bw (bl1 _ _)).mono (by omega)
     ·exact zL (((zB (b3.trans (C8.mono (by omega))) j8).setCell (p:=⟨w.heap.size+1,0,none⟩) (Nat.le_succ _) _).setCell (p:=⟨w.heap.size+1,1,none⟩) (Nat.le_succ _) _) _
theorem zH1 (neg:Bool) (a:Option Addr) (n cap k k1:Nat) (x:Int) (w:World) (h1:IntAt w neg a n cap k1 x) (ae:k1<=1000000000) (hk:k<=1000000000) :
  Calls Tryz.prog 96 #[.agg #[.bool neg,.slice a n cap],.int .i64 k] w λ r w' =>
   ∃ m9 a' n' o7,r=.returned (.agg #[.bool m9,.slice a' n' o7])/\IntAt w' m9 a' n' o7 (k1+5) (x/Q k)/\Below w.heap.size w w':=by
 obtain⟨d,g1,g2,g3,g4,rfl⟩:=h1;exact (down_any neg a n cap k d w g1 (by omega) hk).mono λ _ _ ⟨n1,n2,n3,n4,q1,q2,q3⟩=>⟨n1,n2,n3,n4,q1,q2.mono (by omega),q3⟩
theorem down_neg (neg:Bool) (a:Option Addr) (n cap k k1:Nat) (x:Int) (w:World) (h1:IntAt w neg a n cap k1 x) (ae:k1<=1000000000) (hk:k<=1000000000) (fw:0<k) :
  Calls Tryz.prog 96 #[.agg #[.bool neg,.slice a n cap],.int .i64 (-(k:Int))] w λ r w' =>
   ∃ m9 a' n' o7,r=.returned (.agg #[.bool m9,.slice a' n' o7])/\IntAt w' m9 a' n' o7 (k/16+k1+1) (x*Q k)/\Below w.heap.size w w':=by
 have M4 : -(k:Int)<0:=by omega
 go_enter Tryz.func96,Tryz.ntmps96
 go_wp2_with (go_at_call 116;refine (zB0 _ _ _ _ k k1 x _ (h1.bw (bl2 _ _ _)) ae hk).mono ?_;rintro r w2 ⟨m9,a2,n2,c2,rfl,hint,j8⟩;obtain⟨C9,D6,E6⟩:=jC (w.heap.size+1+1) (by simp) j8)
 have h0:w2.cell? ⟨w.heap.size+1,0,none⟩=some (.bool false):=by simp[D6,go_sem]
 have J0:w2.cell? ⟨w.heap.size+1,1,none⟩=some (.slice none 0 0):=by simp[D6,go_sem]
 refine bodyPost_ret (v:=.agg #[.bool m9,.slice a2 n2 c2]) (by simp[results,Tryz.results96,go_sem,h0,J0]) rfl ⟨m9,a2,n2,c2,rfl,?_,?_⟩
 ·exact hint.put2 h0 J0 _ _
 ·exact ((zB (bl2 _ _ _) j8).setCell (p:=⟨w.heap.size+1,0,none⟩) (Nat.le_succ _) _).setCell (p:=⟨w.heap.size+1,1,none⟩) (Nat.le_succ _) _
def zA5 (x k:Int):Int:=if 0<=k then x/Q k.toNat else x*Q (-k).toNat
theorem zHA (neg:Bool) (a:Option Addr) (n cap k1:Nat) (k x:Int) (w:World) (h1:IntAt w neg a n cap k1 x) (ae:k1<=1000000000) (fw : -1000000000<=k) (hk:k<=1000000000) :
  Calls Tryz.prog 96 #[.agg #[.bool neg,.slice a n cap],.int .i64 k] w λ r w' =>
   ∃ m9 a' n' o7,r=.returned (.agg #[.bool m9,.slice a' n' o7])/\IntAt w' m9 a' n' o7 ((-k).toNat/16+k1+5) (zA5 x k)/\Below w.heap.size w w':=by
 unfold zA5
 by_cases h:0<=k
 ·obtain⟨K,rfl⟩:=Int.eq_ofNat_of_zero_le h
  rw[if_pos h,Int.toNat_natCast];exact (zH1 neg a n cap K k1 x w h1 ae (by omega)).mono λ _ _ ⟨n1,n2,n3,n4,q1,q2,q3⟩=>⟨n1,n2,n3,n4,q1,q2.mono (by omega),q3⟩
 ·rw[if_neg h]
  obtain⟨K,hK⟩:∃ K:Nat,k = -(K:Int):=⟨(-k).toNat,by omega⟩
  subst hK;rw[show (- -(K:Int)).toNat=K by omega]
  exact (down_neg neg a n cap K k1 x w h1 ae (by omega) (by omega)).mono λ _ _ ⟨n1,n2,n3,n4,q1,q2,q3⟩=>⟨n1,n2,n3,n4,q1,q2.mono (by omega),q3⟩
def Tp (d:Nat->Int) (j n:Nat):Int:=V (λ t=>d (j+t)) (n-j)
theorem V_shift (d:Nat->Int) (m:Nat):V d (m+1)=d 0+65536*V (λ t=>d (1+t)) m:=by
 have h:=zHU d 1 m;rw[Nat.add_comm 1 m] at h;rw[h];simp[V,P]
theorem zMU (d:Nat->Int) (n:Nat):Tp d n n=0:=by simp[Tp,V]
theorem zF1 (d:Nat->Int) (n:Nat):Tp d 0 n=V d n:=by simp[Tp]
theorem zF0 (d:Nat->Int) (j n:Nat) (h:j<n):Tp d j n=d j+65536*Tp d (j+1) n:=by
 unfold Tp;obtain⟨m,rfl⟩:∃ m,n=j+1+m:=⟨n-j-1,by omega⟩
 rw[show j+1+m-j=m+1 by omega,show j+1+m-(j+1)=m by omega,V_shift]
 have:(λ t=>d (j+(1+t)))=(λ t=>d (j+1+t)):=by funext t;congr 1;omega
 rw[this];simp
theorem zD5 {d:Nat->Int} (hd:Dgs d) (j n:Nat):0<=Tp d j n:=zY (λ t=>hd (j+t)) _
theorem Tp_lt {d:Nat->Int} (hd:Dgs d) (j n:Nat):Tp d j n<P (n-j):=zHT (λ t=>hd (j+t)) _
theorem P3:P 3=281474976710656:=rfl
theorem or64 (a b c:Int) (hb:0<=b) (b9:b<65536) (ha:a=65536*c) (oR:0<=c) (E5:c<281474976710656):bits .or .u64 a b=a+b:=by
 obtain⟨B,rfl⟩:=Int.eq_ofNat_of_zero_le hb;obtain⟨C,rfl⟩:=Int.eq_ofNat_of_zero_le oR;have h3:=zN1 B (65536*C) C 16 (by omega) (by omega)
 have ha':a=((65536*C:Nat):Int):=by omega
 rw[ha',u64_or_nat (65536*C) B (by omega) (by omega),Nat.or_comm,h3]
 omega
theorem Tp_upd (o:Nat->Int) (i n:Nat) (v:Int):Tp (upd o i v) (i+1) n=Tp o (i+1) n:=by
 unfold Tp;exact zCM _ (λ j _=>by simp[upd];omega)
theorem zP0 {d o:Nat->Int} {i n:Nat} (hi:i<n) {D L:Int} (hD:0<D) (hT:Tp d (i+1) n=Tp o (i+1) n*D+L) :
  Tp d i n=Tp (upd o i ((L*65536+d i)/D)) i n*D+(L*65536+d i) % D:=by
 rw[zF0 d i n hi,zF0 (upd o i _) i n hi,Tp_upd,hT];have h1:upd o i ((L*65536+d i)/D) i=(L*65536+d i)/D:=by simp[upd]
 rw[h1,Int.add_mul,Int.mul_assoc];have h2:=Int.mul_ediv_add_emod (L*65536+d i) D;rw[Int.mul_comm D] at h2;omega
theorem short_bd {x D L:Int} (hD:0<D) (hx:0<=x/\x<65536) (tE:0<=L) (Js:L<D):0<=(L*65536+x)/D/\(L*65536+x)/D<65536/\0<=(L*65536+x) % D/\(L*65536+x) % D<D :=
 ⟨Int.ediv_nonneg (by omega) (by omega),Int.ediv_lt_of_lt_mul hD (by omega),Int.emod_nonneg _ (by omega),Int.emod_lt_of_pos _ hD⟩
theorem zK2 {d:Nat->Int} (hd:Dgs d) (n:Nat):0<kF d n ↔ V d n≠0:=by
 have h1:=zDL d n;have h2:=zCH d n;constructor
 ·intro h
  have h3:=V_ge hd (kF d n-1) (by omega)
  rw[show kF d n-1+1=kF d n by omega,h1] at h3
  have:=yF (kF d n-1);omega
 ·intro h
  rcases Nat.eq_zero_or_pos (kF d n) with h0|h0
  ·rw[h0] at h1;simp[V] at h1;omega
  ·exact h0
def rd (L:Int) (j:Nat):Int:=if j=0 then L % 65536 else if j=1 then L/65536 % 65536 else if j=2 then L/4294967296 % 65536 else 0
theorem rd_dgs (L:Int):Dgs (rd L):=by
 intro j;unfold rd;split
 ·omega
 ·split
  ·omega
  ·split<;>omega
theorem rd_V (L:Int) (h0:0<=L) (h1:L<281474976710656):V (rd L) 3=L:=by
 simp[V,rd,P];omega
theorem dig3 (w:World) (t:TypeId) (x y z:Int) (f:Nat->Int) (hf:Dgs f) (h0:f 0=x) (h1:f 1=y) (h2:f 2=z):Dig (w.alloc (.cells #[.int .u16 x,.int .u16 y,.int .u16 z] t)) (some ⟨w.heap.size,0,none⟩) 3 3 f :=
 ⟨λ _=>⟨w.heap.size,0,rfl,by simp,λ j hj=>by
  rw[World.cell?_alloc_at _ _ _ _ rfl,Nat.zero_add]
  match j,hj with
  | 0,_=>simp[h0]
  | 1,_=>simp[h1]
  | 2,_=>simp[h2]⟩,hf,by omega,by omega⟩
theorem zUB (a c:Option Addr) (n m cap j9:Nat) (d e:Nat->Int) (w:World) (ha:Dig w a n cap d) (hc:Dig w c m j9 e) (hn:n<=1000000000) (hm:m<=3) (P1:0<V e m) :
  Calls Tryz.prog 176 #[.slice a n cap,.slice c m j9] w λ r w' =>
   ∃ a1 n1 c1 o a2 n2 c2 rem,r=.returned (.tuple #[.slice a1 n1 c1,.slice a2 n2 c2])/\Dig w' a1 n1 c1 o/\n1<=n/\(0<n2 ↔ rem≠0)/\n2<=3/\V d n=V o n1*V e m+rem/\0<=rem/\rem<V e m/\Below w.heap.size w w':=by
 have aS:=run_make_row' (P:=Tryz.prog) 27 94 (.int .u16 0) 2 Tryz.underlying27 Tryz.infoU16 rfl .i64 .i64 n (by omega) (by omega)
 have hD:V e m<281474976710656:=by
  have h1:=zHT hc.dgs m;have h2:=zBS hm;rw[P3] at h2;omega
 have Hmk:=zC aS;clear aS
 go_enter Tryz.func176,Tryz.ntmps176
 go_wp2
 go_loop [6,7] (λ dd ii=>∃ j:Nat,j<=m/\ii=.int .i64 ((j:Int)-1)/\dd=.int .u64 (Tp e j m)) (λ _ ii=>(intOf ii+1).toNat)
 case atStart=>exact⟨m,Yy _,rfl,by rw[zMU]⟩
 case round =>
  obtain⟨j,hj,rfl,rfl⟩:=hrel
  by_cases CQ:j=0
  ·subst CQ
   rw[zF1];have aS:=zA Hmk;go_wp2;clear aS;obtain⟨D,Jo⟩:∃ D,D=V e m:=⟨_,rfl⟩;rw[<- Jo] at hD P1 ⊢;have D5:(D == 0)=false:=by simp;omega
   have OQ:=zC Jo;clear Jo
   go_loopw [9,10] (λ ll ii wr=>∃ (j:Nat) (o:Nat->Int) (L:Int),j<=n/\ii=.int .i64 ((j:Int)-1)/\ll=.int .u64 L/\wr.rowIs w.heap.size 94 n (λ t=>.int .u16 (o t))/\Dgs o/\Tp d j n=Tp o j n*D+L/\0<=L/\L<D/\Below w.heap.size w wr) (λ _ ii _=>(intOf ii+1).toNat)
   case atStart =>
    refine⟨n,λ _=>0,0,Yy _,rfl,rfl,World.rowIs_made w (.int .u16 0) n 94,λ _=>⟨by simp,by simp⟩,?_,by omega,by omega,bl1 _ _⟩
    rw[zMU,zMU];simp
   case round =>
    obtain⟨j,o,L,hj,rfl,rfl,D7,O1,hT,tE,Js,C8⟩:=hrel
    by_cases CQ:j=0
    ·subst CQ
     rw[zF1,zF1] at hT;have HT:=zC hT;have HR:=zC (zFG D7 O1 (by omega))
     clear hT D7 O1;go_wp2_with (go_at_call 117;refine (yP _ _ _ (rd L) _ (dig3 _ _ _ _ _ _ (rd_dgs L) (by simp[rd,zA2]) (by simp[rd,zA2]) (by simp[rd];omega))).mono ?_;rintro r w2 ⟨rfl,j8⟩)
     go_ret2
     refine⟨_,n,n,o,_,kF (rd L) 3,3,L,rfl,(zA HR).bw (zB (bl1 _ _) j8),Yy _,?_,zBZ _ _,?_,tE,?_,zB (zL C8 _) j8⟩
     ·rw[zK2 (rd_dgs L),rd_V L tE (by omega)]
     ·rw[<- zA OQ];exact zA HT
     ·rw[<- zA OQ];exact Js
    ·obtain⟨i,rfl⟩:∃ i,j=i+1:=⟨j-1,by omega⟩
     have e0:((i+1:Nat):Int)-1=(i:Int):=by omega
     rw[e0];obtain⟨b1,o1,rfl,b9,E5⟩:=ha.at_ (by omega)
     have g1:wr.cell? ⟨b1,o1+i,none⟩=some (.int .u16 (d i)):=(C8.cell (p:=⟨b1,o1+i,none⟩) b9).trans (E5 i (by omega))
     have db:=ha.dgs i;have r1:=D7.cell (show i<n by omega)
     have r2:=D7.frozen i;have mJ:=or64 (L*65536) (d i) L db.1 db.2 (by omega) tE (by omega)
     have I6:(i:Int)<n:=by omega
     have HT:=zC hT;clear hT E5 e0;have Dn:=zP0 (o:=o) (show i<n by omega) P1 (zA HT)
     have sb:=short_bd P1 db tE Js;have HS:=zC Dn;clear Dn;go_wp2
     go_roundw
     case rel =>
      exact⟨i,upd o i ((L*65536+d i)/D),(L*65536+d i) % D,by omega,by go_num,rfl,zDK D7 i rfl,yA O1 _ sb.1 sb.2.1,zA HS,sb.2.2.1,sb.2.2.2,C8.setCell (Yy _) _⟩
     case measure=>simp[intOf];try omega
  ·obtain⟨i,rfl⟩:∃ i,j=i+1:=⟨j-1,by omega⟩
   have e0:((i+1:Nat):Int)-1=(i:Int):=by omega
   rw[e0];obtain⟨b2,o2,rfl,j8,E9⟩:=hc.at_ (by omega)
   have g2:w.cell? ⟨b2,o2+i,none⟩=some (.int .u16 (e i)):=E9 i (by omega)
   have eb:=hc.dgs i;have t0:=zD5 hc.dgs (i+1) m;have t1:=Tp_lt hc.dgs (i+1) m;have t2:=zBS (show m-(i+1)<=2 by omega)
   have Fe:P 2=4294967296:=rfl;rw[Fe] at t2;have ts:=zF0 e i m (by omega)
   have H1:=zC (show bits .or .u64 (Tp e (i+1) m*65536) (e i)=Tp e i m by rw[or64 _ _ (Tp e (i+1) m) eb.1 eb.2 (by omega) t0 (by omega),ts];omega)
   have im:(i:Int)<m:=by omega
   clear ts E9 e0 Fe;go_wp2
   go_round
   case rel=>exact⟨i,by omega,by go_num,by rw[<- zA H1];try rfl⟩
   case measure=>simp[intOf];try omega
def zHS (w:World) (d e:Nat->Int) (n m:Nat) (r:Ending) (w':World):Prop :=
 ∃ a1 n1 c1 o a2 n2 c2 rem,r=.returned (.tuple #[.slice a1 n1 c1,.slice a2 n2 c2])/\Dig w' a1 n1 c1 o/\n1<=n+3/\(0<n2 ↔ rem≠0)/\n2<=n+3/\V d n=V o n1*V e m+rem/\0<=rem/\rem<V e m/\Below w.heap.size w w'
theorem zHJ (a c:Option Addr) (n m cap j9:Nat) (d e:Nat->Int) (w:World) (ha:Dig w a n cap d) (hc:Dig w c m j9 e) (hn:n<=1000000000) (h1:n=0\/d (n-1)≠0) (h2:m=0\/e (m-1)≠0) (P1:0<V e m)
  (hm:m<=3\/V d n<V e m) :
  Calls Tryz.prog 157 #[.slice a n cap,.slice c m j9] w (zHS w d e n m):=by
 have hcv:=zJO ha.dgs hc.dgs n m h1 h2
 by_cases D9:V d n<V e m
 ·have M4:zG7 d e n m<0:=by rw[hcv];simp[zM,D9]
  clear hcv
  have HF:=zC (show 0<n ↔ V d n≠0 by
   have:=zK2 ha.dgs n;rwa [zP4 h1] at this)
  go_enter Tryz.func157,Tryz.ntmps157
  go_wp2_with (go_at_call 53;refine (yJ _ _ _ _ _ _ d e _ ha hc).mono ?_;rintro r w0 ⟨rfl,F9⟩)
  go_ret2
  exact⟨none,0,0,λ _=>0,a,n,cap,V d n,rfl,⟨λ h=>by omega,λ _=>⟨by simp,by simp⟩,Yy _,by omega⟩,by omega,zA HF,by omega,by simp[V],zY ha.dgs n,D9,F9⟩
 ·have M4:¬ zG7 d e n m<0:=by rw[hcv];simp only[zM,D9,if_false];split<;>omega
  have gD:m<=3:=by omega
  have hm3':(m:Int)<=3:=by omega
  clear hcv
  go_enter Tryz.func157,Tryz.ntmps157
  go_wp2_with (first
   | (go_at_call 53;refine (yJ _ _ _ _ _ _ d e _ ha hc).mono ?_;rintro r w0 ⟨rfl,F9⟩)
   | (go_at_call 176;refine (zUB _ _ _ _ _ _ d e _ (ha.bw F9) (hc.bw F9) hn gD P1).mono ?_;rintro r w1 ⟨a1,n1,c1,o,a2,n2,c2,rem,rfl,p1,p2,p3,p4,p5,p6,p7,p8⟩))
  go_ret2
  exact⟨a1,n1,c1,o,a2,n2,c2,rem,rfl,p1,by omega,p3,by omega,p5,p6,p7,zB F9 p8⟩
def zAQ (w:World) (n:Nat) (z:Int) (r:Ending) (w':World):Prop :=
 ∃ m9 a' n' o7,r=.returned (.agg #[.bool m9,.slice a' n' o7])/\IntAt w' m9 a' n' o7 (n+8) z/\Below w.heap.size w w'
theorem zHD (neg : Bool) (a c : Option Addr) (n m cap cap2 : Nat) (d e : Nat → Int) (w : World) (ha : Dig w a n cap d) (hc : Dig w c m cap2 e) (hn : n ≤ 900000000) (hm : 0 < m)
    (hov : ∀ w', Dig w' a n cap d → Dig w' c m cap2 e → Calls Tryz.prog 157 #[.slice a n cap, .slice c m cap2] w' (zHS w' d e n m)) :
    Calls Tryz.prog 126 #[.agg #[.bool neg, .slice a n cap], .agg #[.bool false, .slice c m cap2]] w (zAQ w n (sgn neg (V d n) / V e m)) := by
  have hsg : zME false m = 1 := by simp [zME]; omega
  have le2 : w.heap.size ≤ w.heap.size + 1 + 1 := by omega
  have ne1 : w.heap.size ≠ w.heap.size + 1 + 1 := by omega
  have ne2 : w.heap.size + 1 + 1 ≠ w.heap.size := by omega
  cases neg
  · go_enter Tryz.func126, Tryz.ntmps126
    go_wp2_with (first
      | (go_at_call 73; refine (zI2 _ _ _ _ _ hc.room).mono ?_; rintro r w0 ⟨rfl, hb0⟩; obtain ⟨hsz0, kC0, hfz0⟩ := jC (w.heap.size + 1 + 1 + 1) (by simp) hb0; rw [hsg])
      | (go_at_call 157; refine (hov _ (ha.bw (zB (bl3 _ _ _ _) hb0)) (hc.bw (zB (bl3 _ _ _ _) hb0))).mono ?_; rintro r w1 ⟨a1, n1, c1, o, a9, n9, c9, rem, rfl, p1, p2, p3, p4, p5, p6, p7, p8⟩; obtain ⟨hsz1, kC1, hfz1⟩ := jC (w.heap.size + 1 + 1 + 1) hsz0 p8; skip)
      | (go_at_call 70; refine (zBW _ _ _ _ o _ p1).mono ?_; rintro r w2 ⟨neg', a2, n2, c2, rfl, hint, hb2⟩; obtain ⟨hsz2, kC2, hfz2⟩ := jC (w.heap.size + 1 + 1 + 1) hsz1 hb2; have hz0 := Nat.lt_of_lt_of_le (Nat.lt_succ_of_lt (Nat.lt_succ_of_lt (Nat.lt_succ_self w.heap.size))) hsz2; have hz1 := Nat.lt_of_lt_of_le (Nat.lt_succ_self (w.heap.size + 1 + 1)) hsz2))
    have h0 : w2.cell? ⟨w.heap.size + 1 + 1, 0, none⟩ = some (.bool false) := by simp [kC2, kC1, kC0, go_sem]
    have h1' : w2.cell? ⟨w.heap.size + 1 + 1, 1, none⟩ = some (.slice none 0 0) := by simp [kC2, kC1, kC0, go_sem]
    refine bodyPost_ret (v := .agg #[.bool neg', .slice a2 n2 c2]) (by simp [results, Tryz.results126, go_sem, hz0, hz1, h0, h1']) rfl ⟨neg', a2, n2, c2, rfl, ?_, ?_⟩
    · rw [show sgn false (V o n1) = sgn false (V d n) / V e m by simp only [sgn]; exact (zDN (by omega) p5 p6 p7).symm] at hint
      exact ((hint.put2 h0 h1' _ _).bw (bl1 _ _)).mono (by omega)
    · exact zL (((zB (zB (zB (bl3 _ _ _ _) hb0) p8) hb2).setCell (p := ⟨w.heap.size + 1 + 1, 0, none⟩) le2 _).setCell (p := ⟨w.heap.size + 1 + 1, 1, none⟩) le2 _) _
  · go_enter Tryz.func126, Tryz.ntmps126
    go_wp2_with (first
      | (go_at_call 73; refine (zI2 _ _ _ _ _ hc.room).mono ?_; rintro r w0 ⟨rfl, hb0⟩; obtain ⟨hsz0, kC0, hfz0⟩ := jC (w.heap.size + 1 + 1 + 1) (by simp) hb0; rw [hsg])
      | (go_at_call 157; refine (hov _ (ha.bw (zB (bl3 _ _ _ _) hb0)) (hc.bw (zB (bl3 _ _ _ _) hb0))).mono ?_; rintro r w1 ⟨a1, n1, c1, o, a9, n9, c9, rem, rfl, p1, p2, p3, p4, p5, p6, p7, p8⟩; obtain ⟨hsz1, kC1, hfz1⟩ := jC (w.heap.size + 1 + 1 + 1) hsz0 p8; skip)
      | (go_at_call 70; refine (zBW _ _ _ _ o _ p1).mono ?_; rintro r w2 ⟨neg', a2, n2, c2, rfl, hint, hb2⟩; obtain ⟨hsz2, kC2, hfz2⟩ := jC (w.heap.size + 1 + 1 + 1) hsz1 hb2; have hz0 := Nat.lt_of_lt_of_le (Nat.lt_succ_of_lt (Nat.lt_succ_of_lt (Nat.lt_succ_self w.heap.size))) hsz2; have hz1 := Nat.lt_of_lt_of_le (Nat.lt_succ_self (w.heap.size + 1 + 1)) hsz2))
    · have hr : rem ≠ 0 := by have h : (!decide (rem = 0)) = true := by assumption
                              simpa using h
      have h0 : w2.cell? ⟨w.heap.size + 1 + 1, 0, none⟩ = some (.bool false) := by simp [kC2, kC1, kC0, go_sem]
      have h1' : w2.cell? ⟨w.heap.size + 1 + 1, 1, none⟩ = some (.slice none 0 0) := by simp [kC2, kC1, kC0, go_sem]
      have h2' : ∀ o, w2.frozen? ⟨w.heap.size + 1 + 1, o, none⟩ = false := by intro o; simp [hfz2, hfz1, hfz0, go_sem]
      have HE := zC (show sgn true (V o n1) - 1 = sgn true (V d n) / V e m by simp only [sgn]; exact (zE8 (by omega) p5 (by omega) p7).symm)
      have nz : w2.heap.size ≠ w.heap.size + 1 + 1 := by omega
      have nz' : w.heap.size + 1 + 1 ≠ w2.heap.size := by omega
      have y1 := Nat.le_succ_of_le hz1
      go_region_held3 (fun w' => w'.cell? ⟨w2.heap.size, 0, none⟩ = some (.bool neg') ∧ w'.cell? ⟨w2.heap.size, 1, none⟩ = some (.slice a2 n2 c2)) (go_keep)
        (first
          | (go_at_call 33; refine (zD 1 _ (by decide) (by decide)).mono ?_; rintro r w3 ⟨neg3, a3, n3, c3, rfl, hZ3, hb3⟩; obtain ⟨hsz3, kC3, hfz3⟩ := jC (w2.heap.size + 1) (by simp) hb3)
          | (go_at_call 35; refine (zBP _ _ _ _ _ _ _ _ n1 4 _ _ _ (hint.bw (zB (bl1 _ _).drew hb3)) hZ3 (by omega) (by omega)).mono ?_; rintro r w4 ⟨neg4, a4, n4, c4, rfl, hZ4, hb4⟩; obtain ⟨hsz4, kC4, hfz4⟩ := jC (w2.heap.size + 1) hsz3 hb4))
      go_wp2
      have h0 : w4.cell? ⟨w.heap.size + 1 + 1, 0, none⟩ = some (.bool false) := by rw [kC4 _ _ y1, kC3 _ _ y1]; exact (World.cell?_alloc_past _ _ _ hz1).trans h0
      have h1' : w4.cell? ⟨w.heap.size + 1 + 1, 1, none⟩ = some (.slice none 0 0) := by rw [kC4 _ _ y1, kC3 _ _ y1]; exact (World.cell?_alloc_past _ _ _ hz1).trans h1'
      refine bodyPost_ret (v := .agg #[.bool neg4, .slice a4 n4 c4]) (by simp [results, Tryz.results126, go_sem, h0, h1']) rfl ⟨neg4, a4, n4, c4, rfl, ?_, ?_⟩
      · rw [zA HE] at hZ4
        exact (hZ4.put2 h0 h1' _ _).mono (by omega)
      · exact ((zB (zB (zL (zB (zB (zB (bl3 _ _ _ _) hb0) p8) hb2) _).drew hb3) hb4).setCell (p := ⟨w.heap.size + 1 + 1, 0, none⟩) le2 _).setCell (p := ⟨w.heap.size + 1 + 1, 1, none⟩) le2 _
    · have hr : rem = 0 := by have h : (!decide (rem = 0)) = false := by assumption
                              simpa using h
      have h0 : w2.cell? ⟨w.heap.size + 1 + 1, 0, none⟩ = some (.bool false) := by simp [kC2, kC1, kC0, go_sem]
      have h1' : w2.cell? ⟨w.heap.size + 1 + 1, 1, none⟩ = some (.slice none 0 0) := by simp [kC2, kC1, kC0, go_sem]
      refine bodyPost_ret (v := .agg #[.bool neg', .slice a2 n2 c2]) (by simp [results, Tryz.results126, go_sem, hz0, hz1, h0, h1']) rfl ⟨neg', a2, n2, c2, rfl, ?_, ?_⟩
      · rw [show sgn true (V o n1) = sgn true (V d n) / V e m by simp only [sgn]; exact (zG9 (by omega) (by rw [p5, hr]; omega)).symm] at hint
        exact ((hint.put2 h0 h1' _ _).bw (bl1 _ _)).mono (by omega)
      · exact zL (((zB (zB (zB (bl3 _ _ _ _) hb0) p8) hb2).setCell (p := ⟨w.heap.size + 1 + 1, 0, none⟩) le2 _).setCell (p := ⟨w.heap.size + 1 + 1, 1, none⟩) le2 _) _
theorem zLZ {w:World} {neg:Bool} {a:Option Addr} {n cap k:Nat} {y:Int} (h:IntAt w neg a n cap k y) (hy:0<y):∃ e,neg=false/\0<n/\Dig w a n cap e/\(n=0\/e (n-1)≠0)/\n<=k/\y=V e n:=by
 obtain⟨e,h1,h2,h3,h4,h5⟩:=h;have hv:=zY h1.dgs n
 cases neg
 ·have hn:0<n:=by
   rcases Nat.eq_zero_or_pos n with h0|h0
   ·subst h0;simp[sgn,V] at h5;omega
   ·exact h0
  exact⟨e,rfl,hn,h1,h2,h4,by simpa [sgn] using h5⟩
 ·simp[sgn] at h5;omega
theorem zGF {e:Nat->Int} (he:Dgs e) {m k:Nat} (h2:m=0\/e (m-1)≠0) (h:V e m<P k):m<=k:=by
 rcases Nat.lt_or_ge k m with hk|hk
 ·have h3:=V_ge he (m-1) (by omega)
  rw[show m-1+1=m by omega] at h3
  have:=zBS (show k<=m-1 by omega);omega
 ·exact hk
theorem zGA (neg j7:Bool) (a c:Option Addr) (n m cap j9 k k2:Nat) (x y:Int) (w:World) (h1:IntAt w neg a n cap k x) (h2:IntAt w j7 c m j9 k2 y) (hk:k<=900000000) (hy:0<y) (rL:y<281474976710656) :
  Calls Tryz.prog 126 #[.agg #[.bool neg,.slice a n cap],.agg #[.bool j7,.slice c m j9]] w (zAQ w k (x/y)):=by
 obtain⟨e,rfl,f0,f1,f2,f3,rfl⟩:=zLZ h2 hy;obtain⟨d,g1,g2,g3,g4,rfl⟩:=h1;have gD:m<=3:=zGF f1.dgs f2 (by rw[P3];exact rL)
 exact (zHD neg a c n m cap j9 d e w g1 f1 (by omega) f0 (λ w' p q=>zHJ a c n m cap j9 d e w' p q (by omega) g2 f2 hy (Or.inl gD))).mono
  λ _ _ ⟨n1,n2,n3,n4,q1,q2,q3⟩=>⟨n1,n2,n3,n4,q1,q2.mono (by omega),q3⟩
def yT (d:Nat->Int) (q:Int):Nat->Int
 | 0=>0
 | k+1=>(yT d q k+d k*q)/65536
def kQ (d:Nat->Int) (q:Int) (n j:Nat):Int:=if j<n then (yT d q j+d j*q) % 65536 else yT d q n
theorem zT0 {x q:Int} (hx:0<=x/\x<65536) (hq:0<=q/\q<65536):0<=x*q/\x*q<=4294836225:=zJ9 hx hq ⟨Int.le_refl 0,by omega⟩ ⟨Int.le_refl 0,by omega⟩
theorem zJL {d:Nat->Int} (hd:Dgs d) {q:Int} (hq:0<=q/\q<65536) (k:Nat):0<=yT d q k/\yT d q k<65536:=by
 induction k with
 | zero=>simp[yT]
 | succ k ih=>simp only[yT];have:=zT0 (hd k) hq;omega
theorem zHP {d:Nat->Int} (hd:Dgs d) {q:Int} (hq:0<=q/\q<65536) (n:Nat):Dgs (kQ d q n):=by
 intro j;unfold kQ
 have:=zJL hd hq n;split<;>omega
theorem zUO (d:Nat->Int) (q:Int) (n:Nat):∀ k,k<=n->V (kQ d q n) k+yT d q k*P k=V d k*q:=by
 intro k
 induction k with
 | zero=>intro _;simp[V,yT]
 | succ k ih =>
  intro hk
  have h1:=ih (by omega)
  simp only[V,P];have h2:kQ d q n k=(yT d q k+d k*q) % 65536:=by simp[kQ];omega
  rw[h2];simp only[yT]
  have h3:(yT d q k+d k*q) % 65536*P k+(yT d q k+d k*q)/65536*(65536*P k)=(yT d q k+d k*q)*P k:=by
   rw[<- Int.mul_assoc,<- Int.add_mul];congr 1;omega
  have h4:(yT d q k+d k*q)*P k=yT d q k*P k+d k*q*P k:=Int.add_mul _ _ _
  have h5:(V d k+d k*P k)*q=V d k*q+d k*q*P k:=by
   rw[Int.add_mul,Int.mul_assoc (d k),Int.mul_comm (P k) q,<- Int.mul_assoc]
  omega
theorem times_V (d:Nat->Int) (q:Int) (n:Nat):V (kQ d q n) (n+1)=V d n*q:=by
 have h:=zUO d q n n (Yy _);simp only[V];have:kQ d q n n=yT d q n:=by simp[kQ]
 rw[this];exact h
theorem zK0 (a:Option Addr) (n cap:Nat) (d:Nat->Int) (q:Int) (w:World) (ha:Dig w a n cap d) (hn:n<=1000000000) (oh:0<=q) (dN:q<65536) :
  Calls Tryz.prog 177 #[.slice a n cap,.int .u32 q] w λ r w'=>∃ a',r=.returned (.slice a' (n+1) (n+1))/\Dig w' a' (n+1) (n+1) (kQ d q n)/\Below w.heap.size w w':=by
 have aS:=run_make_row' (P:=Tryz.prog) 27 94 (.int .u16 0) 2 Tryz.underlying27 Tryz.infoU16 rfl .i64 .i64 (n+1) (by omega) (by omega)
 have iB:((n+1:Nat):Int)=(n:Int)+1:=by omega
 rw[iB] at aS;clear iB
 go_enter Tryz.func177,Tryz.ntmps177
 go_wp2;clear aS
 go_loopw [6,15] (λ cy i wr=>∃ k:Nat,k<=n/\i=.int .i64 k/\cy=.int .u32 (yT d q k)/\wr.rowIs w.heap.size 94 (n+1) (λ j=>.int .u16 (if j<k then kQ d q n j else 0))/\Below w.heap.size w wr) (λ _ i _=>n-(intOf i).toNat)
 case atStart=>exact⟨0,Nat.zero_le _,rfl,rfl,by simpa using World.rowIs_made w (.int .u16 0) (n+1) 94,bl1 _ _⟩
 case round =>
  obtain⟨k,hk,rfl,rfl,D7,C8⟩:=hrel;have cb:=zJL ha.dgs ⟨oh,dN⟩ k
  by_cases fA:k<n
  ·obtain⟨b1,o1,rfl,b9,E5⟩:=ha.at_ (by omega)
   have g1:wr.cell? ⟨b1,o1+k,none⟩=some (.int .u16 (d k)):=(C8.cell (p:=⟨b1,o1+k,none⟩) b9).trans (E5 k fA);have db:=ha.dgs k;have pb:=zT0 db ⟨oh,dN⟩;have r1:=D7.cell (show k<n+1 by omega)
   have r2:=D7.frozen k;have H1:=zC (show (yT d q k+d k*q)/65536=yT d q (k+1) from rfl)
   have H2:=zC (show IntKind.u16.wrap (yT d q k+d k*q)=kQ d q n k by simp[zA2,kQ,fA])
   clear E5;go_wp2
   go_roundw
   case rel=>exact⟨k+1,by omega,by go_num,by rw[zA H1],zAU D7 (zA H2),C8.setCell (Yy _) _⟩
   case measure=>simp[intOf];omega
  ·have hkE:k=n:=by omega
   subst hkE;have r1:=D7.cell (show k<k+1 by omega)
   have r2:=D7.frozen k;have H2:=zC (show yT d q k=kQ d q k k by simp[kQ])
   have HR:=zC D7;clear D7;go_wp2
   go_ret
   refine⟨_,rfl,zFG ((zAU (zA HR) (zA H2)).congr (λ j hj=>by simp[hj])) (zHP ha.dgs ⟨oh,dN⟩ k) (by omega),C8.setCell (Yy _) _⟩
end Go.Proofs.YtgmnknmjainabacGreat
