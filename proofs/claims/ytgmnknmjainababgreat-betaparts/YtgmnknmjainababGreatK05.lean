/-
  Its own texts.
-/
import Derived.Test.YtgmnknmjainababGreatK04
set_option maxRecDepth 100000
set_option maxHeartbeats 40000000
set_option linter.unnecessarySimpa false
set_option linter.unusedSimpArgs false
set_option linter.unusedVariables false
namespace Go.Proofs.YtgmnknmjainababGreat
open Go.RowKit
theorem up_alg (v x o:Int) (i q s:Nat):v*Q s*P q+(o+x*Q s % 65536-o)*P (i+q)+(x*Q s/65536-0)*P (i+q+1)=(v+x*P i)*Q s*P q:=by
 have h1:(o+x*Q s % 65536-o)*P (i+q)+(x*Q s/65536-0)*(65536*P (i+q))=x*Q s*P (i+q):=by
  rw[<- Int.mul_assoc,<- Int.add_mul];congr 1;omega
 have h2:(v+x*P i)*Q s*P q=v*Q s*P q+x*Q s*P (i+q):=by
  rw[P_add,Int.add_mul,Int.add_mul,Int.mul_assoc x (P i),Int.mul_comm (P i) (Q s),<- Int.mul_assoc x,Int.mul_assoc (x*Q s)]
 rw[h2];simp only[P];omega
theorem up_any (neg:Bool) (a:Option Addr) (n cap k:Nat) (d:Nat->Int) (w:World) (ha:Dig w a n cap d) (hn:n<=1000000000) (hk:k<=1000000000) :
  Calls Tryz.prog 95 #[.agg #[.bool neg,.slice a n cap],.int .i64 k] w λ r w' =>
   ∃ j8 a' n' m7,r=.returned (.agg #[.bool j8,.slice a' n' m7])/\IntAt w' j8 a' n' m7 (k/16+n+1) (sgn neg (V d n*Q k))/\Below w.heap.size w w':=by
 obtain⟨q,hq⟩:∃ q,q=k/16:=⟨_,rfl⟩;obtain⟨s,hs⟩:∃ s,s=k % 16:=⟨_,rfl⟩;have SN:(k:Int)/16=(q:Int):=by omega
 have AV:(k:Int) % 16=(s:Int):=by omega
 have kp:s<16:=by omega
 have qK:¬ (k:Int)<0:=by omega
 obtain⟨W,hW⟩:∃ W,W=(w.alloc (.cells #[.bool neg,.slice a n cap] 26)).alloc (.cells #[.bool false,.slice none 0 0] 26):=⟨_,rfl⟩;have b3:Below w.heap.size w W:=by rw[hW];exact bl2 _ _ _
 have s3:W.heap.size=w.heap.size+1+1:=by rw[hW];simp
 have k0:W.cell? ⟨w.heap.size,0,none⟩=some (.bool neg):=by rw[hW];simp[go_sem]
 have k3:W.cell? ⟨w.heap.size+1,0,none⟩=some (.bool false):=by rw[hW];simp[go_sem]
 have k4:W.cell? ⟨w.heap.size+1,1,none⟩=some (.slice none 0 0):=by rw[hW];simp[go_sem]
 have k5:∀ o,W.frozen? ⟨w.heap.size+1,o,none⟩=false:=by intro o;rw[hW];simp[go_sem]
 have HW:=zC hW;clear hW;have aS:=run_make_row' (P:=Tryz.prog) 24 98 (.int .u16 0) 2 Tryz.underlying24 Tryz.infoU16 rfl .i64 .i64 (q+n+1) (by omega) (by omega)
 have iB:((q+n+1:Nat):Int)=(q:Int)+n+1:=by omega
 rw[iB] at aS;have Hq:=zC hq;have Hs:=zC hs;clear iB hq hs
 go_enter Tryz.func95,Tryz.ntmps95
 go_wp2;clear aS
 go_loopw [26] (λ ii wr=>∃ (i:Nat) (o:Nat->Int),i<=n/\ii=.int .i64 i/\wr.rowIs (w.heap.size+1+1) 98 (q+n+1) (λ j=>.int .u16 (o j))/\Dgs o/\V o (q+n+1)=V d i*Q s*P q/\(∀ j,i+q<j->o j=0)/\o (i+q)<Q s/\Below (w.heap.size+1+1) W wr) (λ ii _=>n-(intOf ii).toNat)
 case atStart =>
  refine⟨0,λ _=>0,Nat.zero_le _,rfl,?_,λ _=>⟨by simp,by simp⟩,?_,λ _ _=>rfl,?_,?_⟩
  ·have:=World.rowIs_made W (.int .u16 0) (q+n+1) 98
   rw[s3,zA HW] at this;exact this
  ·rw[zQ2];simp[V]
  ·have:=zG s;simp;omega
  ·rw[zA HW];exact (Below.refl _ _).alloc (by simp) _
 case round =>
  obtain⟨i,o,hi,rfl,B9,M9,bc,cT,KP,B8⟩:=hrel
  by_cases G4:i<n
  ·obtain⟨b1,o1,rfl,b7,F8⟩:=ha.at_ (by omega)
   have g1:wr.cell? ⟨b1,o1+i,none⟩=some (.int .u16 (d i)):=(B8.cell (p:=⟨b1,o1+i,none⟩) (by show b1<_;omega)).trans ((b3.cell (p:=⟨b1,o1+i,none⟩) b7).trans (F8 i G4))
   have db:=ha.dgs i;have r1:=B9.cell (show i+q<q+n+1 by omega)
   have r2:=B9.frozen (i+q);have r3:=B9.cell (show i+q+1<q+n+1 by omega)
   have r4:=B9.frozen (i+q+1);have J8:=cT (i+q+1) (by omega)
   rw[J8] at r3;have ob:=M9 (i+q);have HV:=zC bc;have HZ:=zC cT;have HR:=zC B9;have HD:=zC M9;have KQ:=zC J8;clear F8 bc cT B9 M9 J8;obtain⟨c,O7⟩:=up_low (d i) s (by omega)
   have hhigh:=zLC (d i) s db.1 db.2;have E4:=up_lt (d i) s kp db.1 db.2;have O8:d i*2 ^ s % 4294967296=d i*Q s:=by rw[zN1];omega
   have kq:=or16 (o (i+q)) (d i*Q s % 65536) c s (by omega) ob.1 KP O7 (by omega) (by omega)
   have kr:=or16 0 (d i*Q s/65536) (d i*Q s/65536) 0 (by omega) (by omega) (by simp[Q]) (by simp[Q]) hhigh.1 (by omega)
   have H1:=zC (show bits .or .u16 (o (i+q)) (IntKind.u16.wrap (d i*2 ^ s % 4294967296))=o (i+q)+d i*Q s % 65536 by rw[O8,zAR];exact kq.1)
   have H2:=zC (show bits .or .u16 0 (d i*2 ^ s % 4294967296/65536)=d i*Q s/65536 by rw[O8,kr.1];omega)
   have H3:=zC kq.2;have H4:=zC hhigh;have tO:=zK (show s<=15 by omega)
   have qJ:Q 15=32768:=rfl;rw[qJ] at tO;clear O7 E4 O8 kq kr hhigh qJ;go_wp2
   go_roundw
   case rel =>
    have h3:=zA H3;have h4:=zA H4;have hne:i+q+1≠i+q:=by omega
    have hz:upd o (i+q) (o (i+q)+d i*Q s % 65536) (i+q+1)=0:=by simp[upd];exact zA KQ
    refine⟨i+1,upd (upd o (i+q) (o (i+q)+d i*Q s % 65536)) (i+q+1) (d i*Q s/65536),by omega,by go_num,zCG (zCG (zA HR) (i+q) (zA H1)) (i+q+1) (zA H2),yC (yC (zA HD) _ (by omega) h3) _ h4.1 (by omega),?_,λ j hj=>?_,?_,(B8.setCell (by simp) _).setCell (by simp) _⟩
    ·rw[zM1 _ _ _ _ (by omega),zM1 _ _ _ _ (by omega),hz,zA HV]
     exact up_alg (V d i) (d i) (o (i+q)) i q s
    ·have e1:j≠i+q:=by omega
     have e2:j≠i+q+1:=by omega
     simp only[upd,e1,e2,if_false];exact zA HZ j (by omega)
    ·have e1:i+1+q=i+q+1:=by omega
     rw[e1];simp only[upd,if_true];exact h4.2
   case measure=>simp[intOf];omega
  ·have hiE:i=n:=by omega
   subst hiE;have q0:wr.cell? ⟨w.heap.size,0,none⟩=some (.bool neg):=(B8.cell (p:=⟨w.heap.size,0,none⟩) (by show w.heap.size<_;omega)).trans k0
   have q3:wr.cell? ⟨w.heap.size+1,0,none⟩=some (.bool false):=(B8.cell (p:=⟨w.heap.size+1,0,none⟩) (by simp)).trans k3
   have q4:wr.cell? ⟨w.heap.size+1,1,none⟩=some (.slice none 0 0):=(B8.cell (p:=⟨w.heap.size+1,1,none⟩) (by simp)).trans k4
   have q5:∀ o,wr.frozen? ⟨w.heap.size+1,o,none⟩=false:=λ o=>(B8.frozen (p:=⟨w.heap.size+1,o,none⟩) (by simp)).trans (k5 o)
   have S8:=B8.size;rw[s3] at S8;have HR:=zC (zEL B9 M9 (by omega))
   have HV:=zC bc;clear bc cT B9 M9;go_wp2_with (go_at_call 125;refine (zBG _ _ _ _ o _ (zA HR)).mono ?_;rintro r w2 ⟨j8,a2,n2,c2,rfl,hint,b9⟩;obtain⟨D7,C7,G0⟩:=jY (w.heap.size+1+1) S8 b9);refine bodyPost_ret (v:=.agg #[.bool j8,.slice a2 n2 c2]) (by simp[results,Tryz.results95,go_sem,C7,q3,q4]) rfl ⟨j8,a2,n2,c2,rfl,?_,?_⟩
   ·have h0:w2.cell? ⟨w.heap.size+1,0,none⟩=some (.bool false):=by simp[C7,q3]
    have I1:w2.cell? ⟨w.heap.size+1,1,none⟩=some (.slice none 0 0):=by simp[C7,q4]
    rw[zA HV,Int.mul_assoc,zA Hs,zA Hq,<- zKB] at hint;exact hint.put2 h0 I1 _ _
   ·exact ((zB (b3.trans (B8.mono (by omega))) b9).setCell (by simp) _).setCell (by simp) _
theorem zBF (neg:Bool) (a:Option Addr) (n cap k k1:Nat) (x:Int) (w:World) (h1:IntAt w neg a n cap k1 x) (S7:k1<=1000000000) (hk:k<=1000000000) :
  Calls Tryz.prog 95 #[.agg #[.bool neg,.slice a n cap],.int .i64 k] w λ r w' =>
   ∃ j8 a' n' m7,r=.returned (.agg #[.bool j8,.slice a' n' m7])/\IntAt w' j8 a' n' m7 (k/16+k1+1) (x*Q k)/\Below w.heap.size w w':=by
 obtain⟨d,g1,g2,g3,g4,rfl⟩:=h1;have hs:sgn neg (V d n*Q k)=sgn neg (V d n)*Q k:=by cases neg<;>simp[sgn,Int.neg_mul]
 rw[<- hs];exact (up_any neg a n cap k d w g1 (by omega) hk).mono λ _ _ ⟨n1,n2,n3,n4,q1,q2,q3⟩=>⟨n1,n2,n3,n4,q1,q2.mono (by omega),q3⟩
attribute [local go_sem ↓] Go.wp_at_zero Go.wp_at_succ
theorem zNR (x y:Int) (s:Nat) (hs:s<=16) (hx:0<=x) (qz:x<65536) (hy:0<=y) :
  (x+65536*y)/Q s % 65536*Q s+x % Q s=x+y % Q s*65536:=by
 have qG:=zIU hs;have hq:=zG s;have hr:=zG (16-s);generalize Q s=S at *;generalize Q (16-s)=R at *
 have e1:(x+65536*y)/S=x/S+R*y:=by
  rw[<- qG,Int.mul_assoc,Int.add_mul_ediv_left _ _ (by omega)]
 have hxd:S*(x/S)+x % S=x:=Int.mul_ediv_add_emod x S;have hyd:S*(y/S)+y % S=y:=Int.mul_ediv_add_emod y S;have oV:0<=x/S:=Int.ediv_nonneg hx (by omega)
 have hxR:x/S<R:=Int.ediv_lt_of_lt_mul (by omega) (by rw[Int.mul_comm,qG];exact qz)
 have tK:=Int.emod_nonneg y (show S≠0 by omega)
 have hyS:=Int.emod_lt_of_pos y (show 0<S by omega)
 have e2:R*y=R*(y % S)+65536*(y/S):=by
  have:R*y=R*(S*(y/S)+y % S):=by rw[hyd]
  rw[this,Int.mul_add,<- Int.mul_assoc,Int.mul_comm R S,qG];omega
 have hRy:R*(y % S)<=R*(S-1):=XR (by omega) (by omega)
 have hRy0:0<=R*(y % S):=Yb (by omega) tK
 have e3:R*(S-1)=65536-R:=by rw[Int.mul_sub,Int.mul_comm R S,qG];omega
 have e4:(x+65536*y)/S % 65536=x/S+R*(y % S):=by rw[e1,e2];omega
 rw[e4,Int.add_mul,Int.mul_comm (x/S) S,Int.mul_assoc,Int.mul_comm (y % S) S,<- Int.mul_assoc,Int.mul_comm R S,qG];omega
theorem zBS (d o:Nat->Int) (n q m s:Nat) (hs:s<=16) (hd:Dgs d) {v:Int} (hv:v=(dg d n (q+m)+65536*dg d n (q+(m+1)))/Q s % 65536)
  (h:V o m*Q s+dg d n q % Q s=V (λ j=>dg d n (q+j)) m+dg d n (q+m) % Q s*P m) :
  V (upd o m v) (m+1)*Q s+dg d n q % Q s=V (λ j=>dg d n (q+j)) (m+1)+dg d n (q+(m+1)) % Q s*P (m+1):=by
 have b1:0<=dg d n (q+m)/\dg d n (q+m)<65536:=by unfold dg;have:=hd (q+m);split<;>omega
 have b2:0<=dg d n (q+(m+1)):=by unfold dg;have:=hd (q+(m+1));split<;>omega
 have h1:=zNR (dg d n (q+m)) (dg d n (q+(m+1))) s hs b1.1 b1.2 b2;rw[<- hv] at h1
 have h2:V (upd o m v) (m+1)=V o m+v*P m:=by
  simp only[V];rw[zBY m (λ j hj=>by simp[upd];omega:∀ j,j<m->upd o m v j=o j)]
  simp[upd]
 rw[h2];simp only[V,P];generalize dg d n (q+(m+1)) % Q s=y at *;generalize dg d n (q+m) % Q s=z at *
 have h3:v*Q s*P m+z*P m=dg d n (q+m)*P m+y*(65536*P m):=by
  rw[<- Int.add_mul,h1,Int.add_mul,Int.mul_assoc]
 have h4:(V o m+v*P m)*Q s=V o m*Q s+v*Q s*P m:=by
  rw[Int.add_mul,Int.mul_assoc v,Int.mul_comm (P m) (Q s),<- Int.mul_assoc]
 omega
def zAZ (d:Nat->Int) (q s i:Nat):Int:=if i<=q then V d i else V d q+d q % Q s*P q
theorem lost_low {d:Nat->Int} (hd:Dgs d) {q s i:Nat} (h:i<q):zAZ d q s (i+1)≠0 ↔ (zAZ d q s i≠0\/d i≠0):=by
 unfold zAZ;rw[if_pos (by omega),if_pos (by omega)]
 simp only[V];have h1:=zZ hd i;have h2:=hd i;have h3:=yB i;have h4:0<=d i*P i:=Yb h2.1 (by omega)
 by_cases h5:d i=0
 ·simp[h5]
 ·have:1*P i<=d i*P i:=XK (by omega) (by omega)
  omega
theorem zHZ {d:Nat->Int} (hd:Dgs d) (q s:Nat):zAZ d q s (q+1)≠0 ↔ (zAZ d q s q≠0\/d q % Q s≠0):=by
 unfold zAZ;rw[if_neg (by omega),if_pos (by omega)]
 have h1:=zZ hd q;have h2:=Int.emod_nonneg (d q) (show Q s≠0 by have:=zG s;omega)
 have h3:=yB q;have h4:0<=d q % Q s*P q:=Yb h2 (by omega)
 by_cases h5:d q % Q s=0
 ·simp[h5]
 ·have:1*P q<=d q % Q s*P q:=XK (by omega) (by omega)
  omega
theorem zJF {d:Nat->Int} {q s i:Nat} (h:q<i):zAZ d q s (i+1)=zAZ d q s i:=by
 unfold zAZ;rw[if_neg (by omega),if_neg (by omega)]
theorem zL {w w1:World} (h:Below w.heap.size w w1) (o:Obj):Below w.heap.size w (w1.alloc o):=h.alloc h.size o
theorem zFB (d:Nat->Int) (q m:Nat):V d (q+m)=V d q+P q*V (λ j=>d (q+j)) m:=by
 induction m with
 | zero=>simp[V]
 | succ m ih =>
  rw[<- Nat.add_assoc];simp only[V];rw[ih,P_add,Int.mul_add];have:d (q+m)*(P q*P m)=P q*(d (q+m)*P m):=by rw[Int.mul_left_comm]
  omega
theorem down_fin {d o:Nat->Int} {n q s k m:Nat} (hd:Dgs d) (hq:q=k/16) (hs:s=k % 16) (hm:m=n-q)
  (h:V o m*Q s+dg d n q % Q s=V (λ j=>dg d n (q+j)) m+dg d n (q+m) % Q s*P m) :
  V d n=V o m*Q k+zAZ d q s n/\0<=zAZ d q s n/\zAZ d q s n<Q k:=by
 have hQ:Q k=Q s*P q:=by rw[hs,hq];exact zKB k
 have hp:=yB q;have AZ:=zG s
 have hSP:P q<=Q s*P q:=by
  have:=XK AZ (show 0<=P q by omega);omega
 unfold zAZ
 by_cases hn:n<=q
 ·rw[if_pos hn]
  have qy:m=0:=by omega
  subst qy;have h1:=zZ hd n;have h2:=zHY hd n;have h3:=zBH hn;simp only[V];omega
 ·rw[if_neg hn]
  have tP:q+m=n:=by omega
  have e0:dg d n (q+m)=0:=by rw[tP];simp[dg]
  have e1:dg d n q=d q:=by simp[dg];omega
  have e2:V (λ j=>dg d n (q+j)) m=V (λ j=>d (q+j)) m:=zBY m (λ j hj=>by simp[dg];omega)
  rw[e0,e1,e2] at h;have h4:=zFB d q m;rw[tP] at h4;have dh:=Int.emod_nonneg (d q) (show Q s≠0 by omega)
  have jt:=Int.emod_lt_of_pos (d q) (show 0<Q s by omega)
  have h5:=zZ hd q;have h6:=zHY hd q;have h7:d q % Q s*P q<=(Q s-1)*P q:=XK (by omega) (by omega)
  rw[Int.sub_mul] at h7;have h8:0<=d q % Q s*P q:=Yb dh (by omega)
  simp at h
  have h9:P q*V (λ j=>d (q+j)) m=V o m*(Q s*P q)+d q % Q s*P q:=by
   rw[<- h,Int.mul_comm (P q),Int.add_mul,Int.mul_assoc]
  rw[hQ];omega
theorem zC6 {M v r K:Int} (hK:0<K) (h:M=v*K+r) (h0:0<=r) (h1:r<K):M/K=v:=by
 rw[h,Int.add_comm,Int.add_mul_ediv_right _ _ (by omega),Int.ediv_eq_zero_of_lt h0 h1];omega
theorem zGQ {M v K:Int} (hK:0<K) (h:M=v*K) : -M/K = -v:=by
 rw[h,<- Int.neg_mul,Int.mul_ediv_cancel _ (by omega)]
theorem zEF {M v r K:Int} (hK:0<K) (h:M=v*K+r) (h0:0<r) (h1:r<K) : -M/K = -v-1:=by
 refine zC6 (r:=K-r) hK ?_ (by omega) (by omega)
 rw[h,Int.sub_mul,Int.neg_mul];omega
theorem down_any (neg:Bool) (a:Option Addr) (n cap k:Nat) (d:Nat->Int) (w:World) (ha:Dig w a n cap d) (hn:n<=1000000000) (hk:k<=1000000000) :
  Calls Tryz.prog 105 #[.agg #[.bool neg,.slice a n cap],.int .i64 k] w λ r w' =>
   ∃ j8 a' n' m7,r=.returned (.agg #[.bool j8,.slice a' n' m7])/\IntAt w' j8 a' n' m7 (n+5) (sgn neg (V d n)/Q k)/\Below w.heap.size w w':=by
 obtain⟨q,hq⟩:∃ q,q=k/16:=⟨_,rfl⟩;obtain⟨s,hs⟩:∃ s,s=k % 16:=⟨_,rfl⟩;have SN:(k:Int)/16=(q:Int):=by omega
 have AV:(k:Int) % 16=(s:Int):=by omega
 have kp:s<16:=by omega
 have qK:¬ (k:Int)<0:=by omega
 obtain⟨W,hW⟩:∃ W,W=(w.alloc (.cells #[.bool neg,.slice a n cap] 26)).alloc (.cells #[.bool false,.slice none 0 0] 26):=⟨_,rfl⟩;have b3:Below w.heap.size w W:=by rw[hW];exact bl2 _ _ _
 have s3:W.heap.size=w.heap.size+1+1:=by rw[hW];simp
 have k0:W.cell? ⟨w.heap.size,0,none⟩=some (.bool neg):=by rw[hW];simp[go_sem]
 have k1:W.cell? ⟨w.heap.size,1,none⟩=some (.slice a n cap):=by rw[hW];simp[go_sem]
 have k3:W.cell? ⟨w.heap.size+1,0,none⟩=some (.bool false):=by rw[hW];simp[go_sem]
 have k4:W.cell? ⟨w.heap.size+1,1,none⟩=some (.slice none 0 0):=by rw[hW];simp[go_sem]
 have k5:∀ o,W.frozen? ⟨w.heap.size+1,o,none⟩=false:=by intro o;rw[hW];simp[go_sem]
 have HW:=zC hW;have Hq:=zC hq;have Hs:=zC hs;clear hW hq hs
 go_enter Tryz.func105,Tryz.ntmps105
 go_wp2
 go_loopw [5,6,20] (λ out lost ii wr=>∃ (i m:Nat) (a':Option Addr) (m7:Nat) (o:Nat->Int) (b:Bool),i<=n/\ii=.int .i64 i/\m=i-q/\out=.slice a' m m7/\lost=.bool b/\(b=true ↔ zAZ d q s i≠0) /\
   Own wr (w.heap.size+1+1) 98 a' m m7 o/\Dgs o/\V o m*Q s+dg d n q % Q s=V (λ j=>dg d n (q+j)) m+dg d n (q+m) % Q s*P m/\Below (w.heap.size+1+1) W wr) (λ _ _ ii _=>n-(intOf ii).toNat)
 case atStart =>
  refine⟨0,0,none,0,λ _=>0,false,Nat.zero_le _,rfl,by omega,rfl,rfl,by simp[zAZ,V],Own.nil _ _ _ _,λ _=>⟨by simp,by simp⟩,by simp[V,P],?_⟩
  rw[zA HW];exact Below.refl _ _
 case round =>
  obtain⟨i,m,a',m7,o,b,hi,rfl,hm,rfl,rfl,hb,I2,M9,hV,B8⟩:=hrel;have S8:=B8.size;rw[s3] at S8
  by_cases G4:i<n
  ·obtain⟨b1,o1,rfl,b7,F8⟩:=ha.at_ (by omega)
   have g1:wr.cell? ⟨b1,o1+i,none⟩=some (.int .u16 (d i)):=(B8.cell (p:=⟨b1,o1+i,none⟩) (by show b1<_;omega)).trans ((b3.cell (p:=⟨b1,o1+i,none⟩) b7).trans (F8 i G4))
   have q1:wr.cell? ⟨w.heap.size,1,none⟩=some (.slice (some ⟨b1,o1,none⟩) n cap):=(B8.cell (p:=⟨w.heap.size,1,none⟩) (by show w.heap.size<_;omega)).trans k1
   have db:=ha.dgs i
   by_cases hiq:i<q
   ·have qy:m=0:=by omega
    subst qy;have KR:(i:Int)<q:=by omega
    have Hm:=zC hm;have HO:=zC I2;have HV:=zC hV;have HB:=zC hb;clear hm I2 hV hb F8;have Ir:=lost_low (s:=s) ha.dgs hiq
    cases b
    ·have HL:=zC (show (d i != 0)=true ↔ zAZ d q s (i+1)≠0 by rw[Ir];have:=zA HB;simp at this;simp[this])
     clear Ir;go_wp2
     go_roundw
     case rel=>exact⟨i+1,0,a',m7,o,_,by omega,by go_num,by omega,rfl,rfl,zA HL,zA HO,M9,zA HV,B8⟩
     case measure=>simp[intOf];omega
    ·have HL:=zC (show true=true ↔ zAZ d q s (i+1)≠0 by rw[Ir];have:=zA HB;simp at this;simp[this])
     clear Ir;go_wp2
     go_roundw
     case rel=>exact⟨i+1,0,a',m7,o,_,by omega,by go_num,by omega,rfl,rfl,zA HL,zA HO,M9,zA HV,B8⟩
     case measure=>simp[intOf];omega
   ·have KR:¬ (i:Int)<q:=by omega
    have oW:m<=n:=by omega
    have Hm:=zC hm;have HO:=zC I2;have HV:=zC hV;have HB:=zC hb;clear hm I2 hV hb;have eqm:q+m=i:=by have:=zA Hm;omega
    have hand:bits BinOp.and IntKind.u16 (d i) (IntKind.u16.wrap (IntKind.u16.wrap (2 ^ s)-1))=d i % Q s:=by
     have h1:=zK (show s<=15 by omega)
     have qJ:Q 15=32768:=rfl;have h2:=zG s;have h3:IntKind.u16.wrap (IntKind.u16.wrap (2 ^ s)-1)=Q s-1:=by rw[zAR,zAR,zN1];omega
     rw[h3];exact and16 (d i) s (by omega) db.1 db.2
    have dgi:dg d n (q+m)=d i:=by rw[eqm];simp[dg,G4]
    by_cases O9:i+1<n
    ·have g2:wr.cell? ⟨b1,o1+(i+1),none⟩=some (.int .u16 (d (i+1))):=(B8.cell (p:=⟨b1,o1+(i+1),none⟩) (by show b1<_;omega)).trans ((b3.cell (p:=⟨b1,o1+(i+1),none⟩) b7).trans (F8 (i+1) O9))
     have SP:=ha.dgs (i+1);have KS:(i:Int)+1<n:=by omega
     have eo:IntKind.u16.wrap (bits BinOp.or IntKind.u32 (d i) (d (i+1)*65536)/2 ^ s)=(dg d n (q+m)+65536*dg d n (q+(m+1)))/Q s % 65536:=by
      have e1:dg d n (q+(m+1))=d (i+1):=by rw[<- Nat.add_assoc,eqm];simp[dg,O9]
      rw[zAR,or32 (d i) (d (i+1)*65536) (d (i+1)) db.1 db.2 (by omega) SP.1 SP.2,zN1,dgi,e1,Int.mul_comm (d (i+1)) 65536]
     clear F8 dgi eqm
     by_cases bg:i=q
     ·subst bg
      have tQ:((i:Int) == i)=true:=by simp
      cases b
      ·have HL:=zC (show (bits BinOp.and IntKind.u16 (d i) (IntKind.u16.wrap (IntKind.u16.wrap (2 ^ s)-1)) != 0)=true ↔ zAZ d i s (i+1)≠0 by rw[zHZ ha.dgs,hand];have:=zA HB;simp at this;simp[this])
       clear hand;have HE:=zC (show IntKind.u16.wrap (bits BinOp.or IntKind.u32 (d i) (d (i+1)*65536)/2 ^ s)=(dg d n (i+m)+65536*dg d n (i+(m+1)))/Q s % 65536 by rw[eo])
       clear eo;go_wp2_with (at_builtin;refine jI _ rfl _ _ 24 rfl (w.heap.size+1+1) 98 Tryz.underlying24 Tryz.infoU16 a' m m7 o rfl ((zA HO).alloc _) wr.heap.size 1 (IntKind.u16.wrap (bits BinOp.or IntKind.u32 (d i) (d (i+1)*65536)/2 ^ s)) rfl (by simp[go_sem]) (by omega) (by simp;omega) ?_;intro a2 j6 w1 G6 b9)
       go_roundw
       case rel =>
        rw[zA HE] at G6;refine⟨i+1,m+1,a2,j6,upd o m ((dg d n (i+m)+65536*dg d n (i+(m+1)))/Q s % 65536),_,by omega,by go_num,by have:=zA Hm;omega,rfl,rfl,zA HL,G6,yC M9 _ (by omega) (by omega),zBS d o n i m s (by omega) ha.dgs rfl (zA HV),?_⟩
        exact (B8.alloc (by omega) _).trans b9
       case measure=>simp[intOf];omega
      ·have HL:=zC (show true=true ↔ zAZ d i s (i+1)≠0 by rw[zHZ ha.dgs];have:=zA HB;simp at this;simp[this])
       clear hand;have HE:=zC (show IntKind.u16.wrap (bits BinOp.or IntKind.u32 (d i) (d (i+1)*65536)/2 ^ s)=(dg d n (i+m)+65536*dg d n (i+(m+1)))/Q s % 65536 by rw[eo])
       clear eo;go_wp2_with (at_builtin;refine jI _ rfl _ _ 24 rfl (w.heap.size+1+1) 98 Tryz.underlying24 Tryz.infoU16 a' m m7 o rfl ((zA HO).alloc _) wr.heap.size 1 (IntKind.u16.wrap (bits BinOp.or IntKind.u32 (d i) (d (i+1)*65536)/2 ^ s)) rfl (by simp[go_sem]) (by omega) (by simp;omega) ?_;intro a2 j6 w1 G6 b9)
       go_roundw
       case rel =>
        rw[zA HE] at G6;refine⟨i+1,m+1,a2,j6,upd o m ((dg d n (i+m)+65536*dg d n (i+(m+1)))/Q s % 65536),_,by omega,by go_num,by have:=zA Hm;omega,rfl,rfl,zA HL,G6,yC M9 _ (by omega) (by omega),zBS d o n i m s (by omega) ha.dgs rfl (zA HV),?_⟩
        exact (B8.alloc (by omega) _).trans b9
       case measure=>simp[intOf];omega
     ·have tQ:((i:Int) == q)=false:=by simp;omega
      have HL:=zC (show b=true ↔ zAZ d q s (i+1)≠0 by rw[zJF (by omega)];exact zA HB)
      clear hand;have HE:=zC (show IntKind.u16.wrap (bits BinOp.or IntKind.u32 (d i) (d (i+1)*65536)/2 ^ s)=(dg d n (q+m)+65536*dg d n (q+(m+1)))/Q s % 65536 by rw[eo])
      clear eo;go_wp2_with (at_builtin;refine jI _ rfl _ _ 24 rfl (w.heap.size+1+1) 98 Tryz.underlying24 Tryz.infoU16 a' m m7 o rfl ((zA HO).alloc _) wr.heap.size 1 (IntKind.u16.wrap (bits BinOp.or IntKind.u32 (d i) (d (i+1)*65536)/2 ^ s)) rfl (by simp[go_sem]) (by omega) (by simp;omega) ?_;intro a2 j6 w1 G6 b9)
      go_roundw
      case rel =>
       rw[zA HE] at G6;refine⟨i+1,m+1,a2,j6,upd o m ((dg d n (q+m)+65536*dg d n (q+(m+1)))/Q s % 65536),_,by omega,by go_num,by have:=zA Hm;omega,rfl,rfl,zA HL,G6,yC M9 _ (by omega) (by omega),zBS d o n q m s (by omega) ha.dgs rfl (zA HV),?_⟩
       exact (B8.alloc (by omega) _).trans b9
      case measure=>simp[intOf];omega
    ·have KS:¬ (i:Int)+1<n:=by omega
     have eo:IntKind.u16.wrap (d i/2 ^ s)=(dg d n (q+m)+65536*dg d n (q+(m+1)))/Q s % 65536:=by
      have e1:dg d n (q+(m+1))=0:=by rw[<- Nat.add_assoc,eqm];simp[dg,O9]
      rw[zAR,zN1,dgi,e1];simp
     clear F8 dgi eqm
     by_cases bg:i=q
     ·subst bg
      have tQ:((i:Int) == i)=true:=by simp
      cases b
      ·have HL:=zC (show (bits BinOp.and IntKind.u16 (d i) (IntKind.u16.wrap (IntKind.u16.wrap (2 ^ s)-1)) != 0)=true ↔ zAZ d i s (i+1)≠0 by rw[zHZ ha.dgs,hand];have:=zA HB;simp at this;simp[this])
       clear hand;have HE:=zC (show IntKind.u16.wrap (d i/2 ^ s)=(dg d n (i+m)+65536*dg d n (i+(m+1)))/Q s % 65536 by rw[eo])
       clear eo;go_wp2_with (at_builtin;refine jI _ rfl _ _ 24 rfl (w.heap.size+1+1) 98 Tryz.underlying24 Tryz.infoU16 a' m m7 o rfl ((zA HO).alloc _) wr.heap.size 1 (IntKind.u16.wrap (d i/2 ^ s)) rfl (by simp[go_sem]) (by omega) (by simp;omega) ?_;intro a2 j6 w1 G6 b9)
       go_roundw
       case rel =>
        rw[zA HE] at G6;refine⟨i+1,m+1,a2,j6,upd o m ((dg d n (i+m)+65536*dg d n (i+(m+1)))/Q s % 65536),_,by omega,by go_num,by have:=zA Hm;omega,rfl,rfl,zA HL,G6,yC M9 _ (by omega) (by omega),zBS d o n i m s (by omega) ha.dgs rfl (zA HV),?_⟩
        exact (B8.alloc (by omega) _).trans b9
       case measure=>simp[intOf];omega
      ·have HL:=zC (show true=true ↔ zAZ d i s (i+1)≠0 by rw[zHZ ha.dgs];have:=zA HB;simp at this;simp[this])
       clear hand;have HE:=zC (show IntKind.u16.wrap (d i/2 ^ s)=(dg d n (i+m)+65536*dg d n (i+(m+1)))/Q s % 65536 by rw[eo])
       clear eo;go_wp2_with (at_builtin;refine jI _ rfl _ _ 24 rfl (w.heap.size+1+1) 98 Tryz.underlying24 Tryz.infoU16 a' m m7 o rfl ((zA HO).alloc _) wr.heap.size 1 (IntKind.u16.wrap (d i/2 ^ s)) rfl (by simp[go_sem]) (by omega) (by simp;omega) ?_;intro a2 j6 w1 G6 b9)
       go_roundw
       case rel =>
        rw[zA HE] at G6;refine⟨i+1,m+1,a2,j6,upd o m ((dg d n (i+m)+65536*dg d n (i+(m+1)))/Q s % 65536),_,by omega,by go_num,by have:=zA Hm;omega,rfl,rfl,zA HL,G6,yC M9 _ (by omega) (by omega),zBS d o n i m s (by omega) ha.dgs rfl (zA HV),?_⟩
        exact (B8.alloc (by omega) _).trans b9
       case measure=>simp[intOf];omega
     ·have tQ:((i:Int) == q)=false:=by simp;omega
      have HL:=zC (show b=true ↔ zAZ d q s (i+1)≠0 by rw[zJF (by omega)];exact zA HB)
      clear hand;have HE:=zC (show IntKind.u16.wrap (d i/2 ^ s)=(dg d n (q+m)+65536*dg d n (q+(m+1)))/Q s % 65536 by rw[eo])
      clear eo;go_wp2_with (at_builtin;refine jI _ rfl _ _ 24 rfl (w.heap.size+1+1) 98 Tryz.underlying24 Tryz.infoU16 a' m m7 o rfl ((zA HO).alloc _) wr.heap.size 1 (IntKind.u16.wrap (d i/2 ^ s)) rfl (by simp[go_sem]) (by omega) (by simp;omega) ?_;intro a2 j6 w1 G6 b9)
      go_roundw
      case rel =>
       rw[zA HE] at G6;refine⟨i+1,m+1,a2,j6,upd o m ((dg d n (q+m)+65536*dg d n (q+(m+1)))/Q s % 65536),_,by omega,by go_num,by have:=zA Hm;omega,rfl,rfl,zA HL,G6,yC M9 _ (by omega) (by omega),zBS d o n q m s (by omega) ha.dgs rfl (zA HV),?_⟩
       exact (B8.alloc (by omega) _).trans b9
      case measure=>simp[intOf];omega
  ·have hiE:i=n:=by omega
   subst hiE;have q0:wr.cell? ⟨w.heap.size,0,none⟩=some (.bool neg):=(B8.cell (p:=⟨w.heap.size,0,none⟩) (by show w.heap.size<_;omega)).trans k0
   have q3:wr.cell? ⟨w.heap.size+1,0,none⟩=some (.bool false):=(B8.cell (p:=⟨w.heap.size+1,0,none⟩) (by simp)).trans k3
   have q4:wr.cell? ⟨w.heap.size+1,1,none⟩=some (.slice none 0 0):=(B8.cell (p:=⟨w.heap.size+1,1,none⟩) (by simp)).trans k4
   have q5:∀ o,wr.frozen? ⟨w.heap.size+1,o,none⟩=false:=λ o=>(B8.frozen (p:=⟨w.heap.size+1,o,none⟩) (by simp)).trans (k5 o)
   obtain⟨f1,f2,f3⟩:=down_fin ha.dgs (zA Hq) (zA Hs) hm hV;have Iw:0<Q k:=by have:=zG k;omega
   have HR:=zC (I2.dig M9 (by omega))
   have hmi:m<=i:=by omega
   have hbr:(b=true/\0<zAZ d q s i)\/(b=false/\zAZ d q s i=0):=by
    cases b
    ·right;simp at hb;exact⟨rfl,hb⟩
    ·left;simp at hb;exact⟨rfl,by omega⟩
   clear hV hb I2 M9 hm
   rcases hbr with⟨rfl,hl⟩|⟨rfl,hl⟩
   ·cases neg
    ·have HE:=zC (show sgn false (V o m)=sgn false (V d i)/Q k by simp only[sgn];exact (zC6 Iw f1 f2 f3).symm)
     clear f1 f2 f3 hl;go_wp2_with (go_at_call 125;refine (zBG _ _ _ _ o _ (zA HR)).mono ?_;rintro r w2 ⟨j8,a2,n2,c2,rfl,hint,b9⟩;obtain⟨D7,C7,G0⟩:=jY (w.heap.size+1+1) S8 b9;have L4:=Yd (Nat.lt_succ_of_lt (Nat.lt_succ_self w.heap.size)) D7;have J8:=Yd (Nat.lt_succ_self (w.heap.size+1)) D7);refine bodyPost_ret (v:=.agg #[.bool j8,.slice a2 n2 c2]) (by simp[results,Tryz.results105,go_sem,C7,L4,J8,q3,q4]) rfl ⟨j8,a2,n2,c2,rfl,?_,?_⟩
     ·have h0:w2.cell? ⟨w.heap.size+1,0,none⟩=some (.bool false):=by simp[C7,q3]
      have I1:w2.cell? ⟨w.heap.size+1,1,none⟩=some (.slice none 0 0):=by simp[C7,q4]
      rw[zA HE] at hint;exact ((hint.put2 h0 I1 _ _).bw (bl1 _ _)).mono (by omega)
     ·exact zL (((zB (b3.trans (B8.mono (by omega))) b9).setCell (p:=⟨w.heap.size+1,0,none⟩) (Yh _) _).setCell (p:=⟨w.heap.size+1,1,none⟩) (Yh _) _) _
    ·have HE:=zC (show sgn true (V o m)-1=sgn true (V d i)/Q k by simp only[sgn];exact (zEF Iw f1 hl f3).symm)
     clear f1 f2 f3 hl;go_wp2_with (go_at_call 125;refine (zBG _ _ _ _ o _ (zA HR)).mono ?_;rintro r w2 ⟨j8,a2,n2,c2,rfl,hint,b9⟩;obtain⟨D7,C7,G0⟩:=jY (w.heap.size+1+1) S8 b9;have L4:=Yd (Nat.lt_succ_of_lt (Nat.lt_succ_self w.heap.size)) D7;have J8:=Yd (Nat.lt_succ_self (w.heap.size+1)) D7);have nz:w2.heap.size≠w.heap.size+1:=by omega
     have nz':w.heap.size+1≠w2.heap.size:=by omega
     go_region_held3 (λ w'=>w'.cell? ⟨w2.heap.size,0,none⟩=some (.bool j8)/\w'.cell? ⟨w2.heap.size,1,none⟩=some (.slice a2 n2 c2)) (go_keep)
      (first
       | (go_at_call 43;refine (zD 1 _ (by decide) (by decide)).mono ?_;rintro r w3 ⟨p9,a3,n3,c3,rfl,A8,k8⟩;obtain⟨P0,T6,Z9⟩:=jY (w2.heap.size+1) (by simp) k8)
       | (go_at_call 72;refine (zAD _ _ _ _ _ _ _ _ m 4 _ _ _ (hint.bw (zB (bl1 _ _).drew k8)) A8 (by omega) (by omega)).mono ?_;rintro r w4 ⟨o9,a4,n4,c4,rfl,D9,m9⟩;obtain⟨iE,oZ,ks⟩:=jY (w2.heap.size+1) P0 m9;have y1:=Yf J8;have y0:w2.cell? ⟨w.heap.size+1,0,none⟩=some (.bool false):=(C7 _ _ (XW _)).trans q3;have y2:w2.cell? ⟨w.heap.size+1,1,none⟩=some (.slice none 0 0):=(C7 _ _ (XW _)).trans q4;have y3:∀ o,w2.frozen? ⟨w.heap.size+1,o,none⟩=false:=λ o=>(G0 _ _ (XW _)).trans (q5 o)))
     go_wp2;have h0:w4.cell? ⟨w.heap.size+1,0,none⟩=some (.bool false):=by rw[oZ _ _ y1,T6 _ _ y1];exact (World.cell?_alloc_past _ _ _ J8).trans y0
     have I1:w4.cell? ⟨w.heap.size+1,1,none⟩=some (.slice none 0 0):=by rw[oZ _ _ y1,T6 _ _ y1];exact (World.cell?_alloc_past _ _ _ J8).trans y2
     refine bodyPost_ret (v:=.agg #[.bool o9,.slice a4 n4 c4]) (by simp[results,Tryz.results105,go_sem,h0,I1]) rfl ⟨o9,a4,n4,c4,rfl,?_,?_⟩
     ·rw[zA HE] at D9
      exact (D9.put2 h0 I1 _ _).mono (by omega)
     ·exact ((zB (zB (zL (zB (b3.trans (B8.mono (by omega))) b9) _).drew k8) m9).setCell (p:=⟨w.heap.size+1,0,none⟩) (Yh _) _).setCell (p:=⟨w.heap.size+1,1,none⟩) (Yh _) _
   ·cases neg
    ·have HE:=zC (show sgn false (V o m)=sgn false (V d i)/Q k by simp only[sgn];exact (zC6 Iw f1 f2 f3).symm)
     clear f1 f2 f3 hl;go_wp2_with (go_at_call 125;refine (zBG _ _ _ _ o _ (zA HR)).mono ?_;rintro r w2 ⟨j8,a2,n2,c2,rfl,hint,b9⟩;obtain⟨D7,C7,G0⟩:=jY (w.heap.size+1+1) S8 b9;have L4:=Yd (Nat.lt_succ_of_lt (Nat.lt_succ_self w.heap.size)) D7;have J8:=Yd (Nat.lt_succ_self (w.heap.size+1)) D7);refine bodyPost_ret (v:=.agg #[.bool j8,.slice a2 n2 c2]) (by simp[results,Tryz.results105,go_sem,C7,L4,J8,q3,q4]) rfl ⟨j8,a2,n2,c2,rfl,?_,?_⟩
     ·have h0:w2.cell? ⟨w.heap.size+1,0,none⟩=some (.bool false):=by simp[C7,q3]
      have I1:w2.cell? ⟨w.heap.size+1,1,none⟩=some (.slice none 0 0):=by simp[C7,q4]
      rw[zA HE] at hint;exact ((hint.put2 h0 I1 _ _).bw (bl1 _ _)).mono (by omega)
     ·exact zL (((zB (b3.trans (B8.mono (by omega))) b9).setCell (p:=⟨w.heap.size+1,0,none⟩) (Yh _) _).setCell (p:=⟨w.heap.size+1,1,none⟩) (Yh _) _) _
    ·have HE:=zC (show sgn true (V o m)=sgn true (V d i)/Q k by simp only[sgn];exact (zGQ Iw (by rw[f1,hl];omega)).symm)
     clear f1 f2 f3 hl;go_wp2_with (go_at_call 125;refine (zBG _ _ _ _ o _ (zA HR)).mono ?_;rintro r w2 ⟨j8,a2,n2,c2,rfl,hint,b9⟩;obtain⟨D7,C7,G0⟩:=jY (w.heap.size+1+1) S8 b9;have L4:=Yd (Nat.lt_succ_of_lt (Nat.lt_succ_self w.heap.size)) D7;have J8:=Yd (Nat.lt_succ_self (w.heap.size+1)) D7);refine bodyPost_ret (v:=.agg #[.bool j8,.slice a2 n2 c2]) (by simp[results,Tryz.results105,go_sem,C7,L4,J8,q3,q4]) rfl ⟨j8,a2,n2,c2,rfl,?_,?_⟩
     ·have h0:w2.cell? ⟨w.heap.size+1,0,none⟩=some (.bool false):=by simp[C7,q3]
      have I1:w2.cell? ⟨w.heap.size+1,1,none⟩=some (.slice none 0 0):=by simp[C7,q4]
      rw[zA HE] at hint;exact ((hint.put2 h0 I1 _ _).bw (bl1 _ _)).mono (by omega)
     ·exact zL (((zB (b3.trans (B8.mono (by omega))) b9).setCell (p:=⟨w.heap.size+1,0,none⟩) (Yh _) _).setCell (p:=⟨w.heap.size+1,1,none⟩) (Yh _) _) _
theorem zBX (neg:Bool) (a:Option Addr) (n cap k k1:Nat) (x:Int) (w:World) (h1:IntAt w neg a n cap k1 x) (S7:k1<=1000000000) (hk:k<=1000000000) :
  Calls Tryz.prog 105 #[.agg #[.bool neg,.slice a n cap],.int .i64 k] w λ r w' =>
   ∃ j8 a' n' m7,r=.returned (.agg #[.bool j8,.slice a' n' m7])/\IntAt w' j8 a' n' m7 (k1+5) (x/Q k)/\Below w.heap.size w w':=by
 obtain⟨d,g1,g2,g3,g4,rfl⟩:=h1;exact (down_any neg a n cap k d w g1 (by omega) hk).mono λ _ _ ⟨n1,n2,n3,n4,q1,q2,q3⟩=>⟨n1,n2,n3,n4,q1,q2.mono (by omega),q3⟩
theorem down_neg (neg:Bool) (a:Option Addr) (n cap k k1:Nat) (x:Int) (w:World) (h1:IntAt w neg a n cap k1 x) (S7:k1<=1000000000) (hk:k<=1000000000) (T5:0<k) :
  Calls Tryz.prog 105 #[.agg #[.bool neg,.slice a n cap],.int .i64 (-(k:Int))] w λ r w' =>
   ∃ j8 a' n' m7,r=.returned (.agg #[.bool j8,.slice a' n' m7])/\IntAt w' j8 a' n' m7 (k/16+k1+1) (x*Q k)/\Below w.heap.size w w':=by
 have K5 : -(k:Int)<0:=by omega
 go_enter Tryz.func105,Tryz.ntmps105
 go_wp2_with (go_at_call 95;refine (zBF _ _ _ _ k k1 x _ (h1.bw (bl2 _ _ _)) S7 hk).mono ?_;rintro r w2 ⟨j8,a2,n2,c2,rfl,hint,b9⟩;obtain⟨D7,C7,G0⟩:=jY (w.heap.size+1+1) (by simp) b9)
 have h0:w2.cell? ⟨w.heap.size+1,0,none⟩=some (.bool false):=by simp[C7,go_sem]
 have I1:w2.cell? ⟨w.heap.size+1,1,none⟩=some (.slice none 0 0):=by simp[C7,go_sem]
 refine bodyPost_ret (v:=.agg #[.bool j8,.slice a2 n2 c2]) (by simp[results,Tryz.results105,go_sem,h0,I1]) rfl ⟨j8,a2,n2,c2,rfl,?_,?_⟩
 ·exact hint.put2 h0 I1 _ _
 ·exact ((zB (bl2 _ _ _) b9).setCell (p:=⟨w.heap.size+1,0,none⟩) (Yh _) _).setCell (p:=⟨w.heap.size+1,1,none⟩) (Yh _) _
def zBC (x k:Int):Int:=if 0<=k then x/Q k.toNat else x*Q (-k).toNat
theorem zEE (neg:Bool) (a:Option Addr) (n cap k1:Nat) (k x:Int) (w:World) (h1:IntAt w neg a n cap k1 x) (S7:k1<=1000000000) (T5 : -1000000000<=k) (hk:k<=1000000000) :
  Calls Tryz.prog 105 #[.agg #[.bool neg,.slice a n cap],.int .i64 k] w λ r w' =>
   ∃ j8 a' n' m7,r=.returned (.agg #[.bool j8,.slice a' n' m7])/\IntAt w' j8 a' n' m7 ((-k).toNat/16+k1+5) (zBC x k)/\Below w.heap.size w w':=by
 unfold zBC
 by_cases h:0<=k
 ·obtain⟨K,rfl⟩:=Int.eq_ofNat_of_zero_le h
  rw[if_pos h,Int.toNat_natCast];exact (zBX neg a n cap K k1 x w h1 S7 (by omega)).mono λ _ _ ⟨n1,n2,n3,n4,q1,q2,q3⟩=>⟨n1,n2,n3,n4,q1,q2.mono (by omega),q3⟩
 ·rw[if_neg h]
  obtain⟨K,hK⟩:∃ K:Nat,k = -(K:Int):=⟨(-k).toNat,by omega⟩
  subst hK;rw[show (- -(K:Int)).toNat=K by omega]
  exact (down_neg neg a n cap K k1 x w h1 S7 (by omega) (by omega)).mono λ _ _ ⟨n1,n2,n3,n4,q1,q2,q3⟩=>⟨n1,n2,n3,n4,q1,q2.mono (by omega),q3⟩
def Tp (d:Nat->Int) (j n:Nat):Int:=V (λ t=>d (j+t)) (n-j)
theorem V_shift (d:Nat->Int) (m:Nat):V d (m+1)=d 0+65536*V (λ t=>d (1+t)) m:=by
 have h:=zFB d 1 m;rw[Nat.add_comm 1 m] at h;rw[h];simp[V,P]
theorem zE3 (d:Nat->Int) (n:Nat):Tp d n n=0:=by simp[Tp,V]
theorem zCR (d:Nat->Int) (n:Nat):Tp d 0 n=V d n:=by simp[Tp]
theorem zCT (d:Nat->Int) (j n:Nat) (h:j<n):Tp d j n=d j+65536*Tp d (j+1) n:=by
 unfold Tp;obtain⟨m,rfl⟩:∃ m,n=j+1+m:=⟨n-j-1,by omega⟩
 rw[show j+1+m-j=m+1 by omega,show j+1+m-(j+1)=m by omega,V_shift]
 have:(λ t=>d (j+(1+t)))=(λ t=>d (j+1+t)):=by funext t;congr 1;omega
 rw[this];simp
theorem zAT {d:Nat->Int} (hd:Dgs d) (j n:Nat):0<=Tp d j n:=zZ (λ t=>hd (j+t)) _
theorem Tp_lt {d:Nat->Int} (hd:Dgs d) (j n:Nat):Tp d j n<P (n-j):=zHY (λ t=>hd (j+t)) _
theorem P3:P 3=281474976710656:=rfl
theorem or64 (a b c:Int) (hb:0<=b) (b7:b<65536) (ha:a=65536*c) (qI:0<=c) (F8:c<281474976710656):bits .or .u64 a b=a+b:=by
 obtain⟨B,rfl⟩:=Int.eq_ofNat_of_zero_le hb;obtain⟨C,rfl⟩:=Int.eq_ofNat_of_zero_le qI;have h3:=zMC B (65536*C) C 16 (by omega) (by omega)
 have ha':a=((65536*C:Nat):Int):=by omega
 rw[ha',u64_or_nat (65536*C) B (by omega) (by omega),Nat.or_comm,h3]
 omega
theorem Tp_upd (o:Nat->Int) (i n:Nat) (v:Int):Tp (upd o i v) (i+1) n=Tp o (i+1) n:=by
 unfold Tp;exact zBY _ (λ j _=>by simp[upd];omega)
theorem zNO {d o:Nat->Int} {i n:Nat} (hi:i<n) {D L:Int} (hD:0<D) (hT:Tp d (i+1) n=Tp o (i+1) n*D+L) :
  Tp d i n=Tp (upd o i ((L*65536+d i)/D)) i n*D+(L*65536+d i) % D:=by
 rw[zCT d i n hi,zCT (upd o i _) i n hi,Tp_upd,hT];have h1:upd o i ((L*65536+d i)/D) i=(L*65536+d i)/D:=by simp[upd]
 rw[h1,Int.add_mul,Int.mul_assoc];have h2:=Int.mul_ediv_add_emod (L*65536+d i) D;rw[Int.mul_comm D] at h2;omega
theorem short_bd {x D L:Int} (hD:0<D) (hx:0<=x/\x<65536) (tG:0<=L) (KT:L<D):0<=(L*65536+x)/D/\(L*65536+x)/D<65536/\0<=(L*65536+x) % D/\(L*65536+x) % D<D :=
 ⟨Int.ediv_nonneg (by omega) (by omega),Int.ediv_lt_of_lt_mul hD (by omega),Int.emod_nonneg _ (by omega),Int.emod_lt_of_pos _ hD⟩
theorem zI3 {d:Nat->Int} (hd:Dgs d) (n:Nat):0<kI d n ↔ V d n≠0:=by
 have h1:=zCJ d n;have h2:=zBR d n;constructor
 ·intro h
  have h3:=V_ge hd (kI d n-1) (by omega)
  rw[show kI d n-1+1=kI d n by omega,h1] at h3
  have:=yB (kI d n-1);omega
 ·intro h
  rcases Nat.eq_zero_or_pos (kI d n) with h0|h0
  ·rw[h0] at h1;simp[V] at h1;omega
  ·exact h0
def rd (L:Int) (j:Nat):Int:=if j=0 then L % 65536 else if j=1 then L/65536 % 65536 else if j=2 then L/4294967296 % 65536 else 0
theorem rd_dgs (L:Int):Dgs (rd L):=by
 intro j;unfold rd;split
 ·omega
 ·split
  ·omega
  ·split<;>omega
theorem rd_V (L:Int) (h0:0<=L) (h1:L<281474976710656):V (rd L) 3=L:=by
 simp[V,rd,P];omega
theorem dig3 (w:World) (t:TypeId) (x y z:Int) (f:Nat->Int) (hf:Dgs f) (h0:f 0=x) (h1:f 1=y) (h2:f 2=z):Dig (w.alloc (.cells #[.int .u16 x,.int .u16 y,.int .u16 z] t)) (some ⟨w.heap.size,0,none⟩) 3 3 f :=
 ⟨λ _=>⟨w.heap.size,0,rfl,by simp,λ j hj=>by
  rw[World.cell?_alloc_at _ _ _ _ rfl,Nat.zero_add]
  match j,hj with
  | 0,_=>simp[h0]
  | 1,_=>simp[h1]
  | 2,_=>simp[h2]⟩,hf,by omega,by omega⟩
theorem zRJ (a c:Option Addr) (n m cap j6:Nat) (d e:Nat->Int) (w:World) (ha:Dig w a n cap d) (hc:Dig w c m j6 e) (hn:n<=1000000000) (hm:m<=3) (P8:0<V e m) :
  Calls Tryz.prog 193 #[.slice a n cap,.slice c m j6] w λ r w' =>
   ∃ a1 n1 c1 o a2 n2 c2 rem,r=.returned (.tuple #[.slice a1 n1 c1,.slice a2 n2 c2])/\Dig w' a1 n1 c1 o/\n1<=n/\(0<n2 ↔ rem≠0)/\n2<=3/\V d n=V o n1*V e m+rem/\0<=rem/\rem<V e m/\Below w.heap.size w w':=by
 have aS:=run_make_row' (P:=Tryz.prog) 24 98 (.int .u16 0) 2 Tryz.underlying24 Tryz.infoU16 rfl .i64 .i64 n (by omega) (by omega)
 have hD:V e m<281474976710656:=by
  have h1:=zHY hc.dgs m;have h2:=zBH hm;rw[P3] at h2;omega
 have Hmk:=zC aS;clear aS
 go_enter Tryz.func193,Tryz.ntmps193
 go_wp2
 go_loop [6,7] (λ dd ii=>∃ j:Nat,j<=m/\ii=.int .i64 ((j:Int)-1)/\dd=.int .u64 (Tp e j m)) (λ _ ii=>(intOf ii+1).toNat)
 case atStart=>exact⟨m,XW _,rfl,by rw[zE3]⟩
 case round =>
  obtain⟨j,hj,rfl,rfl⟩:=hrel
  by_cases cV:j=0
  ·subst cV
   rw[zCR];have aS:=zA Hmk;go_wp2;clear aS;obtain⟨D,KV⟩:∃ D,D=V e m:=⟨_,rfl⟩;rw[<- KV] at hD P8 ⊢;have m8:(D == 0)=false:=by simp;omega
   have SQ:=zC KV;clear KV
   go_loopw [9,10] (λ ll ii wr=>∃ (j:Nat) (o:Nat->Int) (L:Int),j<=n/\ii=.int .i64 ((j:Int)-1)/\ll=.int .u64 L/\wr.rowIs w.heap.size 98 n (λ t=>.int .u16 (o t))/\Dgs o/\Tp d j n=Tp o j n*D+L/\0<=L/\L<D/\Below w.heap.size w wr) (λ _ ii _=>(intOf ii+1).toNat)
   case atStart =>
    refine⟨n,λ _=>0,0,XW _,rfl,rfl,World.rowIs_made w (.int .u16 0) n 98,λ _=>⟨by simp,by simp⟩,?_,by omega,by omega,bl1 _ _⟩
    rw[zE3,zE3];simp
   case round =>
    obtain⟨j,o,L,hj,rfl,rfl,B9,M9,hT,tG,KT,B8⟩:=hrel
    by_cases cV:j=0
    ·subst cV
     rw[zCR,zCR] at hT;have HT:=zC hT;have HR:=zC (zEL B9 M9 (by omega))
     clear hT B9 M9;go_wp2_with (go_at_call 170;refine (yE _ _ _ (rd L) _ (dig3 _ _ _ _ _ _ (rd_dgs L) (by simp[rd,zAR]) (by simp[rd,zAR]) (by simp[rd];omega))).mono ?_;rintro r w2 ⟨rfl,b9⟩)
     go_ret2
     refine⟨_,n,n,o,_,kI (rd L) 3,3,L,rfl,(zA HR).bw (zB (bl1 _ _) b9),XW _,?_,zBJ _ _,?_,tG,?_,zB (zL B8 _) b9⟩
     ·rw[zI3 (rd_dgs L),rd_V L tG (by omega)]
     ·rw[<- zA SQ];exact zA HT
     ·rw[<- zA SQ];exact KT
    ·obtain⟨i,rfl⟩:∃ i,j=i+1:=⟨j-1,by omega⟩
     have e0:((i+1:Nat):Int)-1=(i:Int):=by omega
     rw[e0];obtain⟨b1,o1,rfl,b7,F8⟩:=ha.at_ (by omega)
     have g1:wr.cell? ⟨b1,o1+i,none⟩=some (.int .u16 (d i)):=(B8.cell (p:=⟨b1,o1+i,none⟩) b7).trans (F8 i (by omega))
     have db:=ha.dgs i;have r1:=B9.cell (show i<n by omega)
     have r2:=B9.frozen i;have kq:=or64 (L*65536) (d i) L db.1 db.2 (by omega) tG (by omega)
     have G4:(i:Int)<n:=by omega
     have HT:=zC hT;clear hT F8 e0;have SR:=zNO (o:=o) (show i<n by omega) P8 (zA HT)
     have sb:=short_bd P8 db tG KT;have HS:=zC SR;clear SR;go_wp2
     go_roundw
     case rel =>
      exact⟨i,upd o i ((L*65536+d i)/D),(L*65536+d i) % D,by omega,by go_num,rfl,zCG B9 i rfl,yC M9 _ sb.1 sb.2.1,zA HS,sb.2.2.1,sb.2.2.2,B8.setCell (XW _) _⟩
     case measure=>simp[intOf];try omega
  ·obtain⟨i,rfl⟩:∃ i,j=i+1:=⟨j-1,by omega⟩
   have e0:((i+1:Nat):Int)-1=(i:Int):=by omega
   rw[e0];obtain⟨b2,o2,rfl,b9,G8⟩:=hc.at_ (by omega)
   have g2:w.cell? ⟨b2,o2+i,none⟩=some (.int .u16 (e i)):=G8 i (by omega)
   have eb:=hc.dgs i;have t0:=zAT hc.dgs (i+1) m;have t1:=Tp_lt hc.dgs (i+1) m;have t2:=zBH (show m-(i+1)<=2 by omega)
   have KW:P 2=4294967296:=rfl;rw[KW] at t2;have ts:=zCT e i m (by omega)
   have H1:=zC (show bits .or .u64 (Tp e (i+1) m*65536) (e i)=Tp e i m by rw[or64 _ _ (Tp e (i+1) m) eb.1 eb.2 (by omega) t0 (by omega),ts];omega)
   have im:(i:Int)<m:=by omega
   clear ts G8 e0 KW;go_wp2
   go_round
   case rel=>exact⟨i,by omega,by go_num,by rw[<- zA H1];try rfl⟩
   case measure=>simp[intOf];try omega
def zHG (w:World) (d e:Nat->Int) (n m:Nat) (r:Ending) (w':World):Prop :=
 ∃ a1 n1 c1 o a2 n2 c2 rem,r=.returned (.tuple #[.slice a1 n1 c1,.slice a2 n2 c2])/\Dig w' a1 n1 c1 o/\n1<=n+3/\(0<n2 ↔ rem≠0)/\n2<=n+3/\V d n=V o n1*V e m+rem/\0<=rem/\rem<V e m/\Below w.heap.size w w'
theorem zGV (a c:Option Addr) (n m cap j6:Nat) (d e:Nat->Int) (w:World) (ha:Dig w a n cap d) (hc:Dig w c m j6 e) (hn:n<=1000000000) (h1:n=0\/d (n-1)≠0) (h2:m=0\/e (m-1)≠0) (P8:0<V e m)
  (hm:m<=3\/V d n<V e m) :
  Calls Tryz.prog 168 #[.slice a n cap,.slice c m j6] w (zHG w d e n m):=by
 have hcv:=zJH ha.dgs hc.dgs n m h1 h2
 by_cases E4:V d n<V e m
 ·have K5:zG4 d e n m<0:=by rw[hcv];simp[zF,E4]
  clear hcv
  have HF:=zC (show 0<n ↔ V d n≠0 by
   have:=zI3 ha.dgs n;rwa [zM9 h1] at this)
  go_enter Tryz.func168,Tryz.ntmps168
  go_wp2_with (go_at_call 101;refine (yG _ _ _ _ _ _ d e _ ha hc).mono ?_;rintro r w0 ⟨rfl,C9⟩)
  go_ret2
  exact⟨none,0,0,λ _=>0,a,n,cap,V d n,rfl,⟨λ h=>by omega,λ _=>⟨by simp,by simp⟩,XW _,by omega⟩,by omega,zA HF,by omega,by simp[V],zZ ha.dgs n,E4,C9⟩
 ·have K5:¬ zG4 d e n m<0:=by rw[hcv];simp only[zF,E4,if_false];split<;>omega
  have ae:m<=3:=by omega
  have hm3':(m:Int)<=3:=by omega
  clear hcv
  go_enter Tryz.func168,Tryz.ntmps168
  go_wp2_with (first
   | (go_at_call 101;refine (yG _ _ _ _ _ _ d e _ ha hc).mono ?_;rintro r w0 ⟨rfl,C9⟩)
   | (go_at_call 193;refine (zRJ _ _ _ _ _ _ d e _ (ha.bw C9) (hc.bw C9) hn ae P8).mono ?_;rintro r w1 ⟨a1,n1,c1,o,a2,n2,c2,rem,rfl,p1,p2,p3,p4,p5,p6,p7,p8⟩))
  go_ret2
  exact⟨a1,n1,c1,o,a2,n2,c2,rem,rfl,p1,by omega,p3,by omega,p5,p6,p7,zB C9 p8⟩
def zAN (w:World) (n:Nat) (z:Int) (r:Ending) (w':World):Prop :=
 ∃ j8 a' n' m7,r=.returned (.agg #[.bool j8,.slice a' n' m7])/\IntAt w' j8 a' n' m7 (n+8) z/\Below w.heap.size w w'
theorem zG6 (neg : Bool) (a c : Option Addr) (n m cap cap2 : Nat) (d e : Nat → Int) (w : World) (ha : Dig w a n cap d) (hc : Dig w c m cap2 e) (hn : n ≤ 900000000) (hm : 0 < m)
    (hov : ∀ w', Dig w' a n cap d → Dig w' c m cap2 e → Calls Tryz.prog 168 #[.slice a n cap, .slice c m cap2] w' (zHG w' d e n m)) :
    Calls Tryz.prog 119 #[.agg #[.bool neg, .slice a n cap], .agg #[.bool false, .slice c m cap2]] w (zAN w n (sgn neg (V d n) / V e m)) := by
  have hsg : zJ4 false m = 1 := by simp [zJ4]; omega
  have le2 : w.heap.size ≤ w.heap.size + 1 + 1 := by omega
  have ne1 : w.heap.size ≠ w.heap.size + 1 + 1 := by omega
  have ne2 : w.heap.size + 1 + 1 ≠ w.heap.size := by omega
  cases neg
  · go_enter Tryz.func119, Tryz.ntmps119
    go_wp2_with (first
      | (go_at_call 96; refine (zHS _ _ _ _ _ hc.room).mono ?_; rintro r w0 ⟨rfl, hb0⟩; obtain ⟨hsz0, kC0, hfz0⟩ := jY (w.heap.size + 1 + 1 + 1) (by simp) hb0; rw [hsg])
      | (go_at_call 168; refine (hov _ (ha.bw (zB (bl3 _ _ _ _) hb0)) (hc.bw (zB (bl3 _ _ _ _) hb0))).mono ?_; rintro r w1 ⟨a1, n1, c1, o, a9, n9, c9, rem, rfl, p1, p2, p3, p4, p5, p6, p7, p8⟩; obtain ⟨hsz1, kC1, hfz1⟩ := jY (w.heap.size + 1 + 1 + 1) hsz0 p8; skip)
      | (go_at_call 125; refine (zBG _ _ _ _ o _ p1).mono ?_; rintro r w2 ⟨neg', a2, n2, c2, rfl, hint, hb2⟩; obtain ⟨hsz2, kC2, hfz2⟩ := jY (w.heap.size + 1 + 1 + 1) hsz1 hb2; have hz0 := Nat.lt_of_lt_of_le (Nat.lt_succ_of_lt (Nat.lt_succ_of_lt (Nat.lt_succ_self w.heap.size))) hsz2; have hz1 := Nat.lt_of_lt_of_le (Nat.lt_succ_self (w.heap.size + 1 + 1)) hsz2))
    have h0 : w2.cell? ⟨w.heap.size + 1 + 1, 0, none⟩ = some (.bool false) := by simp [kC2, kC1, kC0, go_sem]
    have h1' : w2.cell? ⟨w.heap.size + 1 + 1, 1, none⟩ = some (.slice none 0 0) := by simp [kC2, kC1, kC0, go_sem]
    refine bodyPost_ret (v := .agg #[.bool neg', .slice a2 n2 c2]) (by simp [results, Tryz.results119, go_sem, hz0, hz1, h0, h1']) rfl ⟨neg', a2, n2, c2, rfl, ?_, ?_⟩
    · rw [show sgn false (V o n1) = sgn false (V d n) / V e m by simp only [sgn]; exact (zC6 (by omega) p5 p6 p7).symm] at hint
      exact ((hint.put2 h0 h1' _ _).bw (bl1 _ _)).mono (by omega)
    · exact zL (((zB (zB (zB (bl3 _ _ _ _) hb0) p8) hb2).setCell (p := ⟨w.heap.size + 1 + 1, 0, none⟩) le2 _).setCell (p := ⟨w.heap.size + 1 + 1, 1, none⟩) le2 _) _
  · go_enter Tryz.func119, Tryz.ntmps119
    go_wp2_with (first
      | (go_at_call 96; refine (zHS _ _ _ _ _ hc.room).mono ?_; rintro r w0 ⟨rfl, hb0⟩; obtain ⟨hsz0, kC0, hfz0⟩ := jY (w.heap.size + 1 + 1 + 1) (by simp) hb0; rw [hsg])
      | (go_at_call 168; refine (hov _ (ha.bw (zB (bl3 _ _ _ _) hb0)) (hc.bw (zB (bl3 _ _ _ _) hb0))).mono ?_; rintro r w1 ⟨a1, n1, c1, o, a9, n9, c9, rem, rfl, p1, p2, p3, p4, p5, p6, p7, p8⟩; obtain ⟨hsz1, kC1, hfz1⟩ := jY (w.heap.size + 1 + 1 + 1) hsz0 p8; skip)
      | (go_at_call 125; refine (zBG _ _ _ _ o _ p1).mono ?_; rintro r w2 ⟨neg', a2, n2, c2, rfl, hint, hb2⟩; obtain ⟨hsz2, kC2, hfz2⟩ := jY (w.heap.size + 1 + 1 + 1) hsz1 hb2; have hz0 := Nat.lt_of_lt_of_le (Nat.lt_succ_of_lt (Nat.lt_succ_of_lt (Nat.lt_succ_self w.heap.size))) hsz2; have hz1 := Nat.lt_of_lt_of_le (Nat.lt_succ_self (w.heap.size + 1 + 1)) hsz2))
    · have hr : rem ≠ 0 := by have h : (!decide (rem = 0)) = true := by assumption
                              simpa using h
      have h0 : w2.cell? ⟨w.heap.size + 1 + 1, 0, none⟩ = some (.bool false) := by simp [kC2, kC1, kC0, go_sem]
      have h1' : w2.cell? ⟨w.heap.size + 1 + 1, 1, none⟩ = some (.slice none 0 0) := by simp [kC2, kC1, kC0, go_sem]
      have h2' : ∀ o, w2.frozen? ⟨w.heap.size + 1 + 1, o, none⟩ = false := by intro o; simp [hfz2, hfz1, hfz0, go_sem]
      have HE := zC (show sgn true (V o n1) - 1 = sgn true (V d n) / V e m by simp only [sgn]; exact (zEF (by omega) p5 (by omega) p7).symm)
      have nz : w2.heap.size ≠ w.heap.size + 1 + 1 := by omega
      have nz' : w.heap.size + 1 + 1 ≠ w2.heap.size := by omega
      have y1 := Nat.le_succ_of_le hz1
      go_region_held3 (fun w' => w'.cell? ⟨w2.heap.size, 0, none⟩ = some (.bool neg') ∧ w'.cell? ⟨w2.heap.size, 1, none⟩ = some (.slice a2 n2 c2)) (go_keep)
        (first
          | (go_at_call 43; refine (zD 1 _ (by decide) (by decide)).mono ?_; rintro r w3 ⟨neg3, a3, n3, c3, rfl, hZ3, hb3⟩; obtain ⟨hsz3, kC3, hfz3⟩ := jY (w2.heap.size + 1) (by simp) hb3)
          | (go_at_call 72; refine (zAD _ _ _ _ _ _ _ _ n1 4 _ _ _ (hint.bw (zB (bl1 _ _).drew hb3)) hZ3 (by omega) (by omega)).mono ?_; rintro r w4 ⟨neg4, a4, n4, c4, rfl, hZ4, hb4⟩; obtain ⟨hsz4, kC4, hfz4⟩ := jY (w2.heap.size + 1) hsz3 hb4))
      go_wp2
      have h0 : w4.cell? ⟨w.heap.size + 1 + 1, 0, none⟩ = some (.bool false) := by rw [kC4 _ _ y1, kC3 _ _ y1]; exact (World.cell?_alloc_past _ _ _ hz1).trans h0
      have h1' : w4.cell? ⟨w.heap.size + 1 + 1, 1, none⟩ = some (.slice none 0 0) := by rw [kC4 _ _ y1, kC3 _ _ y1]; exact (World.cell?_alloc_past _ _ _ hz1).trans h1'
      refine bodyPost_ret (v := .agg #[.bool neg4, .slice a4 n4 c4]) (by simp [results, Tryz.results119, go_sem, h0, h1']) rfl ⟨neg4, a4, n4, c4, rfl, ?_, ?_⟩
      · rw [zA HE] at hZ4
        exact (hZ4.put2 h0 h1' _ _).mono (by omega)
      · exact ((zB (zB (zL (zB (zB (zB (bl3 _ _ _ _) hb0) p8) hb2) _).drew hb3) hb4).setCell (p := ⟨w.heap.size + 1 + 1, 0, none⟩) le2 _).setCell (p := ⟨w.heap.size + 1 + 1, 1, none⟩) le2 _
    · have hr : rem = 0 := by have h : (!decide (rem = 0)) = false := by assumption
                              simpa using h
      have h0 : w2.cell? ⟨w.heap.size + 1 + 1, 0, none⟩ = some (.bool false) := by simp [kC2, kC1, kC0, go_sem]
      have h1' : w2.cell? ⟨w.heap.size + 1 + 1, 1, none⟩ = some (.slice none 0 0) := by simp [kC2, kC1, kC0, go_sem]
      refine bodyPost_ret (v := .agg #[.bool neg', .slice a2 n2 c2]) (by simp [results, Tryz.results119, go_sem, hz0, hz1, h0, h1']) rfl ⟨neg', a2, n2, c2, rfl, ?_, ?_⟩
      · rw [show sgn true (V o n1) = sgn true (V d n) / V e m by simp only [sgn]; exact (zGQ (by omega) (by rw [p5, hr]; omega)).symm] at hint
        exact ((hint.put2 h0 h1' _ _).bw (bl1 _ _)).mono (by omega)
      · exact zL (((zB (zB (zB (bl3 _ _ _ _) hb0) p8) hb2).setCell (p := ⟨w.heap.size + 1 + 1, 0, none⟩) le2 _).setCell (p := ⟨w.heap.size + 1 + 1, 1, none⟩) le2 _) _
theorem zKA {w:World} {neg:Bool} {a:Option Addr} {n cap k:Nat} {y:Int} (h:IntAt w neg a n cap k y) (hy:0<y):∃ e,neg=false/\0<n/\Dig w a n cap e/\(n=0\/e (n-1)≠0)/\n<=k/\y=V e n:=by
 obtain⟨e,h1,h2,h3,h4,h5⟩:=h;have hv:=zZ h1.dgs n
 cases neg
 ·have hn:0<n:=by
   rcases Nat.eq_zero_or_pos n with h0|h0
   ·subst h0;simp[sgn,V] at h5;omega
   ·exact h0
  exact⟨e,rfl,hn,h1,h2,h4,by simpa [sgn] using h5⟩
 ·simp[sgn] at h5;omega
theorem zF1 {e:Nat->Int} (he:Dgs e) {m k:Nat} (h2:m=0\/e (m-1)≠0) (h:V e m<P k):m<=k:=by
 rcases Nat.lt_or_ge k m with hk|hk
 ·have h3:=V_ge he (m-1) (by omega)
  rw[show m-1+1=m by omega] at h3
  have:=zBH (show k<=m-1 by omega);omega
 ·exact hk
theorem zJM (neg b6:Bool) (a c:Option Addr) (n m cap j6 k k2:Nat) (x y:Int) (w:World) (h1:IntAt w neg a n cap k x) (h2:IntAt w b6 c m j6 k2 y) (hk:k<=900000000) (hy:0<y) (KM:y<281474976710656) :
  Calls Tryz.prog 119 #[.agg #[.bool neg,.slice a n cap],.agg #[.bool b6,.slice c m j6]] w (zAN w k (x/y)):=by
 obtain⟨e,rfl,f0,f1,f2,f3,rfl⟩:=zKA h2 hy;obtain⟨d,g1,g2,g3,g4,rfl⟩:=h1;have ae:m<=3:=zF1 f1.dgs f2 (by rw[P3];exact KM)
 exact (zG6 neg a c n m cap j6 d e w g1 f1 (by omega) f0 (λ w' p q=>zGV a c n m cap j6 d e w' p q (by omega) g2 f2 hy (Or.inl ae))).mono
  λ _ _ ⟨n1,n2,n3,n4,q1,q2,q3⟩=>⟨n1,n2,n3,n4,q1,q2.mono (by omega),q3⟩
structure Sp where
 ln:Bool
 la:Option Addr
 lN:Nat
 lc:Nat
 hn:Bool
 ha:Option Addr
 hN:Nat
 hc:Nat
 bits:Int
structure SpDig (w:World) (s:Sp) (d e:Nat->Int):Prop where
 lo:Dig w s.la s.lN s.lc d
 hi:Dig w s.ha s.hN s.hc e
theorem SpDig.bw {w w':World} {s:Sp} {d e:Nat->Int} (h:SpDig w s d e) (hb:Below w.heap.size w w'):SpDig w' s d e:=⟨h.lo.bw hb,h.hi.bw hb⟩
def zGC (s:Sp) (d e:Nat->Int):Int :=
 if s.bits<1\/120<s.bits then 3
 else if zCD s.ln s.lN d=false\/zCD s.hn s.hN e=false then 1
 else if 4000<zIX s.lN d\/4000<zIX s.hN e then 2
 else if 0<cmpI s.ln s.hn d e s.lN s.hN then 4
 else 0
theorem jX (n l m:Int) (w:World) :
  Calls Tryz.prog 84 #[.int .i64 n,.int .i64 l,.int .i64 m] w λ r w'=>r=.returned (.bool (decide (l<=n) && decide (n<=m)))/\w'=w:=by
 by_cases h:l<=n
 ·go_enter Tryz.func84,Tryz.ntmps84
  go_wp2
  go_ret
  exact⟨by simp[h],rfl⟩
 ·go_enter Tryz.func84,Tryz.ntmps84
  go_wp2
  go_ret
  exact⟨by simp;omega,rfl⟩
theorem zDW (s:Sp) (d e:Nat->Int) (w:World) (h:SpDig w s d e) :
  Calls Tryz.prog 77 #[.agg #[.bool s.ln,.slice s.la s.lN s.lc,.bool s.hn,.slice s.ha s.hN s.hc,.int .i64 s.bits]] w λ r w'=>r=.returned (.int .i64 (zGC s d e))/\Below w.heap.size w w':=by
 by_cases c0:s.bits<1
 ·have HC:=zC (show zGC s d e=3 by unfold zGC;simp[c0])
  have hb:(decide (1<=s.bits) && decide (s.bits<=120))=false:=by simp;omega
  go_enter Tryz.func77,Tryz.ntmps77
  go_wp2_with fail;refine (jX _ _ _ _).mono ?_;rintro r w' ⟨rfl,rfl⟩;go_wp2_with fail
  go_ret
  exact⟨by rw[zA HC];rfl,bl1 _ _⟩
 by_cases c1:120<s.bits
 ·have HC:=zC (show zGC s d e=3 by unfold zGC;simp[c0,c1])
  have hb:decide (s.bits<=120)=false:=by simp;omega
  go_enter Tryz.func77,Tryz.ntmps77
  go_wp2_with fail;refine (jX _ _ _ _).mono ?_;rintro r w' ⟨rfl,rfl⟩;go_wp2_with fail
  go_ret
  exact⟨by rw[zA HC];rfl,bl1 _ _⟩
 by_cases c2:zCD s.ln s.lN d=false
 ·have HC:=zC (show zGC s d e=1 by unfold zGC;simp[c0,c1,c2])
  have hb:(decide (1<=s.bits) && decide (s.bits<=120))=true:=by simp;omega
  go_enter Tryz.func77,Tryz.ntmps77
  go_wp2_with fail;refine (jX _ _ _ _).mono ?_;rintro r w' ⟨rfl,rfl⟩;go_wp2_with fail;refine (jW _ _ _ _ d _ (h.lo.bw (bl1 _ _))).mono ?_;rintro r w1 ⟨rfl,b7⟩;obtain⟨C5,A9,D8⟩:=jY (w.heap.size+1) (by simp) b7
  go_wp2_with fail
  go_ret
  exact⟨by rw[zA HC];rfl,zB (bl1 _ _) b7⟩
 have c2':zCD s.ln s.lN d =true:=by simpa using c2
 by_cases c3:zCD s.hn s.hN e=false
 ·have HC:=zC (show zGC s d e=1 by unfold zGC;simp[c0,c1,c2,c3])
  have hb:(decide (1<=s.bits) && decide (s.bits<=120))=true:=by simp;omega
  go_enter Tryz.func77,Tryz.ntmps77
  go_wp2_with fail;refine (jX _ _ _ _).mono ?_;rintro r w' ⟨rfl,rfl⟩;go_wp2_with fail;refine (jW _ _ _ _ d _ (h.lo.bw (bl1 _ _))).mono ?_;rintro r w1 ⟨rfl,b7⟩;obtain⟨C5,A9,D8⟩:=jY (w.heap.size+1) (by simp) b7
  go_wp2_with fail;refine (jW _ _ _ _ e _ (h.hi.bw (zB (bl1 _ _) b7))).mono ?_;rintro r w2 ⟨rfl,b9⟩;obtain⟨D7,C7,G0⟩:=jY (w.heap.size+1) C5 b9;go_wp2_with fail
  go_ret
  exact⟨by rw[zA HC];rfl,zB (zB (bl1 _ _) b7) b9⟩
 have c3':zCD s.hn s.hN e =true:=by simpa using c3
 by_cases c4:4000<zIX s.lN d
 ·have HC:=zC (show zGC s d e=2 by unfold zGC;simp[c0,c1,c2,c3,c4])
  have hb:(decide (1<=s.bits) && decide (s.bits<=120))=true:=by simp;omega
  go_enter Tryz.func77,Tryz.ntmps77
  go_wp2_with fail;refine (jX _ _ _ _).mono ?_;rintro r w' ⟨rfl,rfl⟩;go_wp2_with fail;refine (jW _ _ _ _ d _ (h.lo.bw (bl1 _ _))).mono ?_;rintro r w1 ⟨rfl,b7⟩;obtain⟨C5,A9,D8⟩:=jY (w.heap.size+1) (by simp) b7
  go_wp2_with fail;refine (jW _ _ _ _ e _ (h.hi.bw (zB (bl1 _ _) b7))).mono ?_;rintro r w2 ⟨rfl,b9⟩;obtain⟨D7,C7,G0⟩:=jY (w.heap.size+1) C5 b9;go_wp2_with fail;refine (zB7 _ _ _ _ d _ (h.lo.bw (zB (zB (bl1 _ _) b7) b9))).mono ?_;rintro r w3 ⟨rfl,k8⟩;obtain⟨P0,T6,Z9⟩:=jY (w.heap.size+1) D7 k8;go_wp2_with fail
  go_ret
  exact⟨by rw[zA HC];rfl,zB (zB (zB (bl1 _ _) b7) b9) k8⟩
 by_cases c5:4000<zIX s.hN e
 ·have HC:=zC (show zGC s d e=2 by unfold zGC;simp[c0,c1,c2,c3,c4,c5])
  have hb:(decide (1<=s.bits) && decide (s.bits<=120))=true:=by simp;omega
  go_enter Tryz.func77,Tryz.ntmps77
  go_wp2_with fail;refine (jX _ _ _ _).mono ?_;rintro r w' ⟨rfl,rfl⟩;go_wp2_with fail;refine (jW _ _ _ _ d _ (h.lo.bw (bl1 _ _))).mono ?_;rintro r w1 ⟨rfl,b7⟩;obtain⟨C5,A9,D8⟩:=jY (w.heap.size+1) (by simp) b7
  go_wp2_with fail;refine (jW _ _ _ _ e _ (h.hi.bw (zB (bl1 _ _) b7))).mono ?_;rintro r w2 ⟨rfl,b9⟩;obtain⟨D7,C7,G0⟩:=jY (w.heap.size+1) C5 b9;go_wp2_with fail;refine (zB7 _ _ _ _ d _ (h.lo.bw (zB (zB (bl1 _ _) b7) b9))).mono ?_;rintro r w3 ⟨rfl,k8⟩;obtain⟨P0,T6,Z9⟩:=jY (w.heap.size+1) D7 k8;go_wp2_with fail;refine (zB7 _ _ _ _ e _ (h.hi.bw (zB (zB (zB (bl1 _ _) b7) b9) k8))).mono ?_;rintro r w4 ⟨rfl,m9⟩;obtain⟨iE,oZ,ks⟩:=jY (w.heap.size+1) P0 m9;go_wp2_with fail
  go_ret
  exact⟨by rw[zA HC];rfl,zB (zB (zB (zB (bl1 _ _) b7) b9) k8) m9⟩
 by_cases c6:0<cmpI s.ln s.hn d e s.lN s.hN
 ·have HC:=zC (show zGC s d e=4 by unfold zGC;simp[c0,c1,c2,c3,c4,c5,c6])
  have hb:(decide (1<=s.bits) && decide (s.bits<=120))=true:=by simp;omega
  go_enter Tryz.func77,Tryz.ntmps77
  go_wp2_with fail;refine (jX _ _ _ _).mono ?_;rintro r w' ⟨rfl,rfl⟩;go_wp2_with fail;refine (jW _ _ _ _ d _ (h.lo.bw (bl1 _ _))).mono ?_;rintro r w1 ⟨rfl,b7⟩;obtain⟨C5,A9,D8⟩:=jY (w.heap.size+1) (by simp) b7
  go_wp2_with fail;refine (jW _ _ _ _ e _ (h.hi.bw (zB (bl1 _ _) b7))).mono ?_;rintro r w2 ⟨rfl,b9⟩;obtain⟨D7,C7,G0⟩:=jY (w.heap.size+1) C5 b9;go_wp2_with fail;refine (zB7 _ _ _ _ d _ (h.lo.bw (zB (zB (bl1 _ _) b7) b9))).mono ?_;rintro r w3 ⟨rfl,k8⟩;obtain⟨P0,T6,Z9⟩:=jY (w.heap.size+1) D7 k8;go_wp2_with fail;refine (zB7 _ _ _ _ e _ (h.hi.bw (zB (zB (zB (bl1 _ _) b7) b9) k8))).mono ?_;rintro r w4 ⟨rfl,m9⟩;obtain⟨iE,oZ,ks⟩:=jY (w.heap.size+1) P0 m9;go_wp2_with fail;refine (zJ5 _ _ _ _ _ _ _ _ d e _ (h.lo.bw (zB (zB (zB (zB (bl1 _ _) b7) b9) k8) m9)) (h.hi.bw (zB (zB (zB (zB (bl1 _ _) b7) b9) k8) m9))).mono ?_;rintro r w5 ⟨rfl,A7⟩;obtain⟨KX,SV,CG⟩:=jY (w.heap.size+1) iE A7;go_wp2_with fail
  go_ret
  exact⟨by rw[zA HC];rfl,zB (zB (zB (zB (zB (bl1 _ _) b7) b9) k8) m9) A7⟩
 have HC:=zC (show zGC s d e=0 by unfold zGC;simp[c0,c1,c2,c3,c4,c5,c6])
 have hb:(decide (1<=s.bits) && decide (s.bits<=120))=true:=by simp;omega
 go_enter Tryz.func77,Tryz.ntmps77
 go_wp2_with fail;refine (jX _ _ _ _).mono ?_;rintro r w' ⟨rfl,rfl⟩;go_wp2_with fail;refine (jW _ _ _ _ d _ (h.lo.bw (bl1 _ _))).mono ?_;rintro r w1 ⟨rfl,b7⟩;obtain⟨C5,A9,D8⟩:=jY (w.heap.size+1) (by simp) b7
 go_wp2_with fail;refine (jW _ _ _ _ e _ (h.hi.bw (zB (bl1 _ _) b7))).mono ?_;rintro r w2 ⟨rfl,b9⟩;obtain⟨D7,C7,G0⟩:=jY (w.heap.size+1) C5 b9;go_wp2_with fail;refine (zB7 _ _ _ _ d _ (h.lo.bw (zB (zB (bl1 _ _) b7) b9))).mono ?_;rintro r w3 ⟨rfl,k8⟩;obtain⟨P0,T6,Z9⟩:=jY (w.heap.size+1) D7 k8;go_wp2_with fail;refine (zB7 _ _ _ _ e _ (h.hi.bw (zB (zB (zB (bl1 _ _) b7) b9) k8))).mono ?_;rintro r w4 ⟨rfl,m9⟩;obtain⟨iE,oZ,ks⟩:=jY (w.heap.size+1) P0 m9;go_wp2_with fail;refine (zJ5 _ _ _ _ _ _ _ _ d e _ (h.lo.bw (zB (zB (zB (zB (bl1 _ _) b7) b9) k8) m9)) (h.hi.bw (zB (zB (zB (zB (bl1 _ _) b7) b9) k8) m9))).mono ?_;rintro r w5 ⟨rfl,A7⟩;obtain⟨KX,SV,CG⟩:=jY (w.heap.size+1) iE A7;go_wp2_with fail
 go_ret
 exact⟨by rw[zA HC];rfl,zB (zB (zB (zB (zB (bl1 _ _) b7) b9) k8) m9) A7⟩
end Go.Proofs.YtgmnknmjainababGreat
