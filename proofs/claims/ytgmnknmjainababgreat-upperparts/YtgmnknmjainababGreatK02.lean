/-
  Its own texts.
-/
import Derived.Deep.AppendLies
import Derived.Laws.BitsAllLaws
import Derived.Test.YtgmnknmjainababGreatK01
set_option maxRecDepth 100000
set_option maxHeartbeats 8000000
set_option linter.unnecessarySimpa false
set_option linter.unusedSimpArgs false
set_option linter.unusedVariables false
namespace Go.Proofs.YtgmnknmjainababGreat
open Go.RowKit
def upd (o:Nat→Int) (p:Nat) (v:Int) (j:Nat):Int:=if j=p then v else o j
theorem kQ {o:Nat→Int} (h:Dgs o) (p:Nat) {v:Int} (h0:0≤v) (h1:v<65536):Dgs (upd o p v):=by
 intro j;unfold upd;split
 ·exact ⟨h0,h1⟩
 ·exact h j
theorem zMM (o:Nat→Int) (p:Nat) (v:Int) (N:Nat) (hp:p<N):V (upd o p v) N=V o N+(v-o p)*P p:=by
 induction N with
 | zero=>omega
 | succ N ih =>
  simp only[V]
  by_cases hN:p=N
  ·subst hN
   have:V (upd o p v) p=V o p:=zBI p (fun j hj=>by simp[upd];omega)
   rw[this];simp only[upd,if_true,Int.sub_mul];omega
  ·rw[ih (by omega)]
   have:upd o p v N=o N:=by simp[upd];omega
   rw[this];omega
theorem zB7 {wr:World} {b t N:Nat} {o:Nat→Int} (h:wr.rowIs b t N (fun j=>.int .u16 (o j))) (p:Nat) {v u:Int} (hv:u=v) :
  (wr.setCell ⟨b,p,none⟩ (.int .u16 u)).rowIs b t N (fun j=>.int .u16 (upd o p v j)):=by
 refine (h.set p (.int .u16 u)).congr fun j _=>?_
 subst hv;unfold upd;split <;> rfl
theorem zOZ (n:Nat):V (fun _=>0) n=0:=by
 induction n with
 | zero=>rfl
 | succ n ih=>simp[V,ih]
theorem mul_alg (x v y:Int) (i k:Nat):x*(v+y*P k)*P i=x*v*P i+x*y*P (i+k):=by
 rw[P_add,Int.mul_add,Int.add_mul,← Int.mul_assoc x y (P k),Int.mul_assoc (x*y),Int.mul_comm (P k) (P i)]
theorem mul_step {o:Nat→Int} {N p:Nat} (hp:p<N) (c x y:Int) {T:Int} (h:V o N+c*P p=T):V (upd o p ((c+(x*y+o p)) % 65536)) N+((c+(x*y+o p))/65536)*P (p+1)=T+x*y*P p:=by
 rw[zMM _ _ _ _ hp]
 have h1:((c+(x*y+o p)) % 65536-o p)*P p+(c+(x*y+o p))/65536*(65536*P p)=(c+x*y)*P p:=by
  rw[← Int.mul_assoc,← Int.add_mul];congr 1;omega
 have h2:(c+x*y)*P p=c*P p+x*y*P p:=Int.add_mul _ _ _;simp only[P];omega
theorem zHT {x y c z:Int} (hx:0≤x∧x<65536) (hy:0≤y∧y<65536) (hc:0≤c∧c<65536) (hz:0≤z∧z<65536) :
  0≤x*y∧x*y≤4294836225:=by
 refine ⟨Int.mul_nonneg hx.1 hy.1,?_⟩;have h1:x*y≤65535*y:=Int.mul_le_mul_of_nonneg_right (by omega) hy.1
 omega
theorem mul_any (neg neg2:Bool) (a c:Option Addr) (n m cap cap2:Nat) (d e:Nat→Int) (w:World) (ha:Dig w a n cap d) (hc:Dig w c m cap2 e) (hn:n≤1000000000) (hm:m≤1000000000) :
  Calls Tryz.prog 66 #[.agg #[.bool neg,.slice a n cap],.agg #[.bool neg2,.slice c m cap2]] w fun r w' =>
   ∃ neg' a' n' cap',r=.returned (.agg #[.bool neg',.slice a' n' cap'])∧IntAt w' neg' a' n' cap' (n+m) (sgn (neg != neg2) (V d n*V e m))∧Below w.heap.size w w':=by
 obtain ⟨W,hW⟩:∃ W,W=((w.alloc (.cells #[.bool neg,.slice a n cap] 26)).alloc (.cells #[.bool neg2,.slice c m cap2] 26)).alloc (.cells #[.bool false,.slice none 0 0] 26):=⟨_,rfl⟩;have b3:Below w.heap.size w W:=by rw[hW];exact bl3 _ _ _ _
 have s3:W.heap.size=w.heap.size+1+1+1:=by rw[hW];simp
 have k0:W.cell? ⟨w.heap.size,0,none⟩=some (.bool neg):=by rw[hW];simp[go_sem]
 have k1:W.cell? ⟨w.heap.size+1,0,none⟩=some (.bool neg2):=by rw[hW];simp[go_sem]
 have k2:W.cell? ⟨w.heap.size+1,1,none⟩=some (.slice c m cap2):=by rw[hW];simp[go_sem]
 have k3:W.cell? ⟨w.heap.size+1+1,0,none⟩=some (.bool false):=by rw[hW];simp[go_sem]
 have k4:W.cell? ⟨w.heap.size+1+1,1,none⟩=some (.slice none 0 0):=by rw[hW];simp[go_sem]
 have k5:∀ o,W.frozen? ⟨w.heap.size+1+1,o,none⟩=false:=by intro o;rw[hW];simp[go_sem]
 have HW:=zC hW;clear hW;have hmk:=run_make_row' (P:=Tryz.prog) 24 98 (.int .u16 0) 2 Tryz.underlying24 Tryz.infoU16 rfl .i64 .i64 (n+m) (by omega) (by omega)
 have hnm:((n+m:Nat):Int)=(n:Int)+m:=by omega
 rw[hnm] at hmk;clear hnm
 go_enter Tryz.func66,Tryz.ntmps66
 go_wp2;clear hmk
 go_loopw [22] (fun ii wr=>∃ (i:Nat) (o:Nat→Int),i≤n∧ii=.int .i64 i∧wr.rowIs (w.heap.size+1+1+1) 98 (n+m) (fun j=>.int .u16 (o j))∧Dgs o∧V o (n+m)=V d i*V e m∧(∀ j,i+m≤j→o j=0)∧Below (w.heap.size+1+1+1) W wr) (fun ii _=>n-(intOf ii).toNat)
 case atStart =>
  refine ⟨0,fun _=>0,Nat.zero_le _,rfl,?_,fun _=>⟨by simp,by simp⟩,?_,fun _ _=>rfl,?_⟩
  ·have:=World.rowIs_made W (.int .u16 0) (n+m) 98
   rw[s3,zA HW] at this;exact this
  ·rw[zOZ];simp[V]
  ·rw[zA HW];exact (Below.refl _ _).alloc (by simp) _
 case round =>
  obtain ⟨i,o,hi,rfl,hrow,hod,hov,hoz,hbl⟩:=hrel
  by_cases hin:i<n
  ·obtain ⟨b1,o1,rfl,hb1,hc1⟩:=ha.at_ (by omega)
   have g1:wr.cell? ⟨b1,o1+i,none⟩=some (.int .u16 (d i)):=(hbl.cell (p:=⟨b1,o1+i,none⟩) (by show b1<_;omega)).trans ((b3.cell (p:=⟨b1,o1+i,none⟩) hb1).trans (hc1 i hin))
   have q2:wr.cell? ⟨w.heap.size+1,1,none⟩=some (.slice c m cap2):=(hbl.cell (p:=⟨w.heap.size+1,1,none⟩) (by simp)).trans k2
   have db:=ha.dgs i;have HV:=zC hov;have HZ:=zC hoz;have HR:=zC hrow;have HD:=zC hod;clear hc1 hov hoz hrow hod;go_wp2
   go_loopw [8,30] (fun cy kk wq=>∃ (k:Nat) (o':Nat→Int) (cz:Int),k≤m∧kk=.int .i64 k∧cy=.int .u32 cz∧0≤cz∧cz<65536∧wq.rowIs (w.heap.size+1+1+1) 98 (n+m) (fun j=>.int .u16 (o' j))∧Dgs o'∧V o' (n+m)+cz*P (i+k)=V d i*V e m+d i*V e k*P i∧(∀ j,i+m≤j→o' j=0)∧Below (w.heap.size+1+1+1) W wq) (fun _ kk _=>m-(intOf kk).toNat)
   case atStart =>
    exact ⟨0,o,0,Nat.zero_le _,rfl,rfl,by omega,by omega,zA HR,zA HD,by rw[zA HV];simp[V],zA HZ,hbl⟩
   case round =>
    obtain ⟨k,o',cz,hk,rfl,rfl,hz0,hz1,hrow,hod,hov,hoz,hbl⟩:=hrel
    by_cases hkm:k<m
    ·obtain ⟨b2,o2,rfl,hb2,hc2⟩:=hc.at_ (by omega)
     have g2:wr.cell? ⟨b2,o2+k,none⟩=some (.int .u16 (e k)):=(hbl.cell (p:=⟨b2,o2+k,none⟩) (by show b2<_;omega)).trans ((b3.cell (p:=⟨b2,o2+k,none⟩) hb2).trans (hc2 k hkm))
     have eb:=hc.dgs k;have r1:=hrow.cell (show i+k<n+m by omega)
     have r2:=hrow.frozen (i+k);have ob:=hod (i+k);have pb:=zHT db eb ⟨hz0,hz1⟩ ob;clear hc2;go_wp2
     go_roundw
     case rel =>
      refine ⟨k+1,upd o' (i+k) ((cz+(d i*e k+o' (i+k))) % 65536),(cz+(d i*e k+o' (i+k)))/65536,by omega,by go_num,rfl,by omega,by omega,zB7 hrow (i+k) (zAH _),kQ hod _ (by omega) (by omega),?_,fun j hj=>?_,hbl.setCell (by simp) _⟩
      ·have h1:=mul_step (show i+k<n+m by omega) cz (d i) (e k) hov
       have h2:=mul_alg (d i) (V e k) (e k) i k;simp only[V];rw[← Nat.add_assoc];omega
      ·have:j≠i+k:=by omega
       simp[upd,this];exact hoz j hj
     case measure=>simp[intOf];omega
    ·have hkE:k=m:=by omega
     subst hkE;have r1:=hrow.cell (show i+k<n+k by omega)
     have r2:=hrow.frozen (i+k);have q2:wr.cell? ⟨w.heap.size+1,1,none⟩=some (.slice c k cap2):=(hbl.cell (p:=⟨w.heap.size+1,1,none⟩) (by simp)).trans k2
     have hoi:=hoz (i+k) (by omega)
     have HV2:=zC hov;have HZ2:=zC hoz;have HI:=zC hoi;clear hov hoz hoi;go_wp2
     go_roundw
     case rel =>
      refine ⟨i+1,upd o' (i+k) cz,by omega,by go_num,zB7 hrow (i+k) rfl,kQ hod _ hz0 hz1,?_,fun j hj=>?_,hbl.setCell (by simp) _⟩
      ·rw[zMM _ _ _ _ (by omega),zA HI,Int.sub_zero,zA HV2]
       simp only[V];rw[Int.add_mul,Int.mul_assoc (d i),Int.mul_comm (V e k) (P i),← Int.mul_assoc]
      ·have:j≠i+k:=by omega
       simp[upd,this];exact zA HZ2 j (by omega)
     case measure=>simp[intOf];omega
  ·have hiE:i=n:=by omega
   subst hiE;have q0:wr.cell? ⟨w.heap.size,0,none⟩=some (.bool neg):=(hbl.cell (p:=⟨w.heap.size,0,none⟩) (by simp;omega)).trans k0
   have q1:wr.cell? ⟨w.heap.size+1,0,none⟩=some (.bool neg2):=(hbl.cell (p:=⟨w.heap.size+1,0,none⟩) (by simp)).trans k1
   have q3:wr.cell? ⟨w.heap.size+1+1,0,none⟩=some (.bool false):=(hbl.cell (p:=⟨w.heap.size+1+1,0,none⟩) (by simp)).trans k3
   have q4:wr.cell? ⟨w.heap.size+1+1,1,none⟩=some (.slice none 0 0):=(hbl.cell (p:=⟨w.heap.size+1+1,1,none⟩) (by simp)).trans k4
   have q5:∀ o,wr.frozen? ⟨w.heap.size+1+1,o,none⟩=false:=fun o=>(hbl.frozen (p:=⟨w.heap.size+1+1,o,none⟩) (by simp)).trans (k5 o)
   have hsw:=hbl.size;rw[s3] at hsw;have HR:=zC (zDZ hrow hod (by omega))
   have HV:=zC hov;clear hov hoz hrow hod;go_wp2_with (go_at_call 125;refine (zAZ _ _ _ _ o _ (zA HR)).mono ?_;rintro r w2 ⟨neg',a2,n2,c2,rfl,hint,hb2⟩;obtain ⟨hsz2,kC2,hfz2⟩:=kK (w.heap.size+1+1+1) hsw hb2);refine bodyPost_ret (v:=.agg #[.bool neg',.slice a2 n2 c2]) (by simp[results,Tryz.results66,go_sem,kC2,q3,q4]) rfl ⟨neg',a2,n2,c2,rfl,?_,?_⟩
   ·have h0:w2.cell? ⟨w.heap.size+1+1,0,none⟩=some (.bool false):=by simp[kC2,q3]
    have h1':w2.cell? ⟨w.heap.size+1+1,1,none⟩=some (.slice none 0 0):=by simp[kC2,q4]
    rw[zA HV] at hint;exact hint.put2 h0 h1' _ _
   ·exact ((zB (b3.trans (hbl.mono (by omega))) hb2).setCell (by simp;omega) _).setCell (by simp;omega) _
theorem zX (neg neg2:Bool) (a c:Option Addr) (n m cap cap2 k k2:Nat) (x y:Int) (w:World) (h1:IntAt w neg a n cap k x) (h2:IntAt w neg2 c m cap2 k2 y) (hk:k≤1000000000) (hk2:k2≤1000000000) :
  Calls Tryz.prog 66 #[.agg #[.bool neg,.slice a n cap],.agg #[.bool neg2,.slice c m cap2]] w fun r w' =>
   ∃ neg' a' n' cap',r=.returned (.agg #[.bool neg',.slice a' n' cap'])∧IntAt w' neg' a' n' cap' (k+k2) (x*y)∧Below w.heap.size w w':=by
 obtain ⟨d,g1,g2,g3,g4,rfl⟩:=h1;obtain ⟨e,f1,f2,f3,f4,rfl⟩:=h2
 have hs:sgn (neg != neg2) (V d n*V e m)=sgn neg (V d n)*sgn neg2 (V e m):=by
  cases neg <;> cases neg2 <;> simp[sgn,Int.neg_mul,Int.mul_neg]
 rw[← hs];exact (mul_any neg neg2 a c n m cap cap2 d e w g1 f1 (by omega) (by omega)).mono fun _ _ ⟨n1,n2,n3,n4,q1,q2,q3⟩=>⟨n1,n2,n3,n4,q1,q2.mono (by omega),q3⟩
def Own (w:World) (base:Nat) (e:TypeId) (a:Option Addr) (n cap:Nat) (d:Nat→Int):Prop:=w.ownsRow base e 1 (.slice a n cap) n (kU d n)
theorem zDM (d:Nat→Int) (n:Nat) (v:Int):kU (upd d n v) (n+1)=kU d n ++ [.int .u16 v]:=by
 unfold kU;rw[List.range_succ,List.map_append]
 congr 1
 ·apply List.map_congr_left
  intro j hj
  have:=List.mem_range.1 hj;have:j≠n:=by omega
  simp[upd,this]
 ·simp[upd]
theorem Own.dig {w:World} {base:Nat} {e:TypeId} {a:Option Addr} {n cap:Nat} {d:Nat→Int} (h:Own w base e a n cap d) (hd:Dgs d) (hn:n≤70368744177664):Dig w a n cap d:=by
 have h':w.ownsRow base e 1 (.slice a n cap) n (kU d n):=h;refine ⟨fun h0=>?_,hd,?_,hn⟩
 ·obtain ⟨g,c2,hv,h1,h2⟩:=World.ownsRow.form h' h0
  simp only[Value.slice.injEq] at hv;obtain ⟨rfl,_,rfl⟩:=hv;refine ⟨g,0,rfl,h2,fun j hj=>?_⟩
  have:=World.ownsRow.cellAt h' j (by omega)
  rw[Nat.zero_add,this,zBD d n j hj]
 ·rcases h'.2 with ⟨hv,h0⟩|⟨g,c2,cur,hv,_,_,hle,_⟩
  ·omega
  ·simp only[Value.slice.injEq] at hv
   omega
theorem Own.nil (w:World) (base:Nat) (e:TypeId) (d:Nat→Int):Own w base e none 0 0 d:=World.ownsRow_nil w base e 1
theorem Own.alloc {w:World} {base:Nat} {e:TypeId} {a:Option Addr} {n cap:Nat} {d:Nat→Int} (h:Own w base e a n cap d) (o:Obj):Own (w.alloc o) base e a n cap d:=World.ownsRow.alloc h o
theorem jI {Pr:Program} (w:World) {ops:Array Oper} {rest:List Oper} {o:Oper} {act:Act} {Q:Exit→Act→World→Prop} (hgd:o.guard=none) (s x:Operand) (t:TypeId)
  (ho:o.op=.call { callee:=.builtin .append,args:=#[s,x],argTypes:=#[t,t] })
  (base:Nat) (e:TypeId) (ht:Pr.underlying t=some (.slice e)) (hinfo:(Pr.info? e).map (fun i=>(i.zero,i.size,i.bytes))=some (some (.int .u16 0),1,2))
  (a:Option Addr) (n cap:Nat) (d:Nat→Int) (hs:act.eval s=.slice a n cap) (hown:Own w base e a n cap d) (g c:Nat) (v:Int) (hx:act.eval x=.slice (some ⟨g,0,none⟩) 1 c)
  (hv:w.cell? ⟨g,0,none⟩=some (.int .u16 v)) (hn:n≤1000000000) (hbase:base≤w.heap.size)
  (h:∀ a' cap' w',Own w' base e a' (n+1) cap' (upd d n v)→Below base w w'→wpList Pr ops Q rest (act.put o.dst (.slice a' (n+1) cap')) w'):wpList Pr ops Q (o :: rest) act w:=by
 obtain ⟨i,hi,hz0,hz1,hz2⟩:=info_parts hinfo;have hlt:∀ k,(Value.slice a n cap).ownBlock=some k→base≤k:=fun k hk=>(World.ownsRow.lt hown k hk).1
 refine wpList_append_lies w hgd s x t ho base e i (.int .u16 0) 1 2 ht hi hz0 hz1 hz2 rfl (by decide) (.slice a n cap) n (kU d n) hs hown ⟨g,0,none⟩ 1 c [.int .u16 v] hx rfl ?_ ?_ (by decide) ?_ ?_ hbase _ rfl ?_
 ·intro j u hj
  match j,hj with
  | 0,hj=>simp at hj;subst hj;rw[zEZ];exact hv
 ·intro u hu;simp at hu;subst hu;rfl
 ·unfold maxLen;omega
 ·omega
 ·intro g' cap' w' hown' hgrow _ _
  rw[← zDM] at hown';exact h _ _ _ hown' ((Below.refl base w).grown hgrow hbase hlt)
theorem P4:P 4=18446744073709551616:=rfl
theorem zN3 (d:Nat→Int) (k:Nat) (u X:Int) (h:V d k+u*P k=X):V (upd d k (u % 65536)) (k+1)+u/65536*P (k+1)=X:=by
 simp only[V,P];have h1:V (upd d k (u % 65536)) k=V d k:=zBI k (fun j hj=>by simp[upd];omega)
 have h2:upd d k (u % 65536) k=u % 65536:=by simp[upd]
 rw[h1,h2]
 have h3:u % 65536*P k+u/65536*(65536*P k)=u*P k:=by
  rw[← Int.mul_assoc,← Int.add_mul];congr 1;omega
 omega
theorem zPJ (x X:Int) (neg:Bool) (w:World) (h0 : -9223372036854775808≤x) (h1:x≤9223372036854775807) (hneg:decide (x<0)=neg) (hX:X=if neg then -x else x) :
  Calls Tryz.prog 43 #[.int .i64 x] w fun r w' =>
   ∃ neg' a' n' cap',r=.returned (.agg #[.bool neg',.slice a' n' cap'])∧IntAt w' neg' a' n' cap' 4 x∧Below w.heap.size w w':=by
 cases neg
 ·have hx:¬ x<0:=by simpa using hneg
  simp at hX;subst hX;have hX0:0≤X:=by omega
  clear hneg h0
  go_enter Tryz.func43,Tryz.ntmps43
  go_wp2
  go_loopw [5,4] (fun l u wr=>∃ (k:Nat) (a:Option Addr) (cap:Nat) (d:Nat→Int) (uu:Int),l=.slice a k cap∧u=.int .u64 uu∧0≤uu∧uu≤X∧Own wr (w.heap.size+1) 98 a k cap d∧Dgs d∧V d k+uu*P k=X∧(k=0∨d (k-1)≠0∨uu≠0)∧k≤4∧Below (w.heap.size+1) (w.alloc (.cells #[.bool false,.slice none 0 0] 26)) wr) (fun _ u _=>(intOf u).toNat)
  case atStart=>exact ⟨0,none,0,fun _=>0,X,rfl,rfl,hX0,Int.le_refl _,Own.nil _ _ _ _,fun _=>⟨by simp,by simp⟩,by simp[V,P],Or.inl rfl,by omega,Below.refl _ _⟩
  case round =>
   obtain ⟨k,a,cap,d,uu,rfl,rfl,hu0,hu1,hown,hd,hV,htop,hk4,hbl⟩:=hrel;have hsz:=hbl.size;simp at hsz
   by_cases hz:uu=0
   ·subst hz
    have q0:wr.cell? ⟨w.heap.size,0,none⟩=some (.bool false):=(hbl.cell (p:=⟨w.heap.size,0,none⟩) (by simp)).trans (by simp[go_sem])
    have q1:wr.cell? ⟨w.heap.size,1,none⟩=some (.slice none 0 0):=(hbl.cell (p:=⟨w.heap.size,1,none⟩) (by simp)).trans (by simp[go_sem])
    have q5:∀ o,wr.frozen? ⟨w.heap.size,o,none⟩=false:=fun o=>(hbl.frozen (p:=⟨w.heap.size,o,none⟩) (by simp)).trans (by simp[go_sem])
    have HD:=zC (hown.dig hd (by omega))
    have HV:=zC hV;have HT:=zC htop;clear hV htop hown hd;go_wp2;refine bodyPost_ret (v:=.agg #[.bool false,.slice a k cap]) (by simp[results,Tryz.results43,go_sem,q0,q1]) rfl ⟨false,a,k,cap,rfl,?_,?_⟩
    ·refine IntAt.put2 ?_ q0 q1 _ _
     have hV:=zA HV;simp at hV;refine ⟨d,zA HD,?_,fun hk0=>?_,hk4,by rw[hV];simp[sgn]⟩
     ·have:=zA HT;omega
     ·subst hk0;simp[V] at hV;first|rfl|(exfalso;omega)
    ·exact (((bl1 _ _).trans (hbl.mono (by omega))).setCell (by simp) _).setCell (by simp) _
   ·have hup:0<uu:=by omega
    have hk3:k<4:=by
     have hk4':P k<P 4∨4≤k:=by
      by_cases hh:4≤k
      ·exact Or.inr hh
      ·left;have:P (k+1)≤P 4:=zA0 (by omega)
       have:=kN k;simp only[P] at *;omega
     rcases hk4' with hh|hh
     ·by_cases h4:k=4
      ·subst h4;omega
      ·omega
     ·have h5:P 4≤P k:=zA0 hh
      have h6:1*P k≤uu*P k:=Int.mul_le_mul_of_nonneg_right (by omega) (by have:=kN k;omega)
      have h7:=jB hd k;rw[P4] at h5;omega
    have H1:=zC (zN3 d k uu X hV);have H2:=zC (kQ hd k (v:=uu % 65536) (by omega) (by omega))
    clear hV htop;go_wp2_with (at_builtin;refine jI _ rfl _ _ 24 rfl (w.heap.size+1) 98 Tryz.underlying24 Tryz.infoU16 a k cap d rfl (hown.alloc _) wr.heap.size 1 (uu % 65536) rfl (by simp[go_sem,zAH]) (by omega) (by simp;omega) ?_;intro a' cap' w1 hown1 hb1)
    go_roundw
    case rel =>
     refine ⟨k+1,a',cap',upd d k (uu % 65536),uu/65536,rfl,by go_num,by omega,by omega,hown1,zA H2,zA H1,?_,by omega,?_⟩
     ·right;simp[upd];omega
     ·exact (hbl.alloc (by omega) _).trans hb1
    case measure=>simp[intOf];try omega
 ·have hx:x<0:=by simpa using hneg
  simp at hX;have hw:IntKind.u64.wrap (-IntKind.u64.wrap x)=X:=by rw[IntKind.wrap_u64,IntKind.wrap_u64];omega
  have hX0:0≤X:=by omega
  have hX1:X≤9223372036854775808:=by omega
  have HX:=zC hX;clear hX
  go_enter Tryz.func43,Tryz.ntmps43
  go_wp2;clear hw
  go_loopw [5,4] (fun l u wr=>∃ (k:Nat) (a:Option Addr) (cap:Nat) (d:Nat→Int) (uu:Int),l=.slice a k cap∧u=.int .u64 uu∧0≤uu∧uu≤X∧Own wr (w.heap.size+1) 98 a k cap d∧Dgs d∧V d k+uu*P k=X∧(k=0∨d (k-1)≠0∨uu≠0)∧k≤4∧Below (w.heap.size+1) (w.alloc (.cells #[.bool false,.slice none 0 0] 26)) wr) (fun _ u _=>(intOf u).toNat)
  case atStart=>exact ⟨0,none,0,fun _=>0,X,rfl,rfl,hX0,Int.le_refl _,Own.nil _ _ _ _,fun _=>⟨by simp,by simp⟩,by simp[V,P],Or.inl rfl,by omega,Below.refl _ _⟩
  case round =>
   obtain ⟨k,a,cap,d,uu,rfl,rfl,hu0,hu1,hown,hd,hV,htop,hk4,hbl⟩:=hrel;have hsz:=hbl.size;simp at hsz
   by_cases hz:uu=0
   ·subst hz
    have q0:wr.cell? ⟨w.heap.size,0,none⟩=some (.bool false):=(hbl.cell (p:=⟨w.heap.size,0,none⟩) (by simp)).trans (by simp[go_sem])
    have q1:wr.cell? ⟨w.heap.size,1,none⟩=some (.slice none 0 0):=(hbl.cell (p:=⟨w.heap.size,1,none⟩) (by simp)).trans (by simp[go_sem])
    have q5:∀ o,wr.frozen? ⟨w.heap.size,o,none⟩=false:=fun o=>(hbl.frozen (p:=⟨w.heap.size,o,none⟩) (by simp)).trans (by simp[go_sem])
    have HD:=zC (hown.dig hd (by omega))
    have HV:=zC hV;have HT:=zC htop;clear hV htop hown hd;go_wp2;refine bodyPost_ret (v:=.agg #[.bool true,.slice a k cap]) (by simp[results,Tryz.results43,go_sem,q0,q1]) rfl ⟨true,a,k,cap,rfl,?_,?_⟩
    ·refine IntAt.put2 ?_ q0 q1 _ _
     have hV:=zA HV;simp at hV;refine ⟨d,zA HD,?_,fun hk0=>?_,hk4,by rw[hV];simp[sgn];have:=zA HX;omega⟩
     ·have:=zA HT;omega
     ·subst hk0;simp[V] at hV;have:=zA HX;exfalso;omega
    ·exact (((bl1 _ _).trans (hbl.mono (by omega))).setCell (by simp) _).setCell (by simp) _
   ·have hup:0<uu:=by omega
    have hk3:k<4:=by
     have hk4':P k<P 4∨4≤k:=by
      by_cases hh:4≤k
      ·exact Or.inr hh
      ·left;have:P (k+1)≤P 4:=zA0 (by omega)
       have:=kN k;simp only[P] at *;omega
     rcases hk4' with hh|hh
     ·by_cases h4:k=4
      ·subst h4;omega
      ·omega
     ·have h5:P 4≤P k:=zA0 hh
      have h6:1*P k≤uu*P k:=Int.mul_le_mul_of_nonneg_right (by omega) (by have:=kN k;omega)
      have h7:=jB hd k;rw[P4] at h5;omega
    have H1:=zC (zN3 d k uu X hV);have H2:=zC (kQ hd k (v:=uu % 65536) (by omega) (by omega))
    clear hV htop;go_wp2_with (at_builtin;refine jI _ rfl _ _ 24 rfl (w.heap.size+1) 98 Tryz.underlying24 Tryz.infoU16 a k cap d rfl (hown.alloc _) wr.heap.size 1 (uu % 65536) rfl (by simp[go_sem,zAH]) (by omega) (by simp;omega) ?_;intro a' cap' w1 hown1 hb1)
    go_roundw
    case rel =>
     refine ⟨k+1,a',cap',upd d k (uu % 65536),uu/65536,rfl,by go_num,by omega,by omega,hown1,zA H2,zA H1,?_,by omega,?_⟩
     ·right;simp[upd];omega
     ·exact (hbl.alloc (by omega) _).trans hb1
    case measure=>simp[intOf];try omega
theorem zD (x:Int) (w:World) (h0 : -9223372036854775808≤x) (h1:x≤9223372036854775807) :
  Calls Tryz.prog 43 #[.int .i64 x] w fun r w' =>
   ∃ neg' a' n' cap',r=.returned (.agg #[.bool neg',.slice a' n' cap'])∧IntAt w' neg' a' n' cap' 4 x∧Below w.heap.size w w' :=
 zPJ x _ _ w h0 h1 rfl rfl
theorem Q_nat (s:Nat):Q s=((2 ^ s:Nat):Int):=by
 induction s with
 | zero=>rfl
 | succ s ih=>simp only[Q,ih,Nat.pow_succ];omega
theorem zMP (s:Nat):(2:Int) ^ s=Q s:=by rw[Q_nat];simp
theorem zG (s:Nat):1≤Q s:=by
 induction s with
 | zero=>simp[Q]
 | succ s ih=>simp only[Q];omega
theorem jC (s t:Nat):Q (s+t)=Q s*Q t:=by
 induction t with
 | zero=>simp[Q]
 | succ t ih=>rw[Nat.add_succ];simp only[Q];rw[ih,Int.mul_left_comm]
theorem zJ {s t:Nat} (h:s≤t):Q s≤Q t:=by
 obtain ⟨u,rfl⟩:=Nat.exists_eq_add_of_le h;rw[jC];have:=Int.mul_le_mul_of_nonneg_left (zG u) (show 0≤Q s by have:=zG s;omega)
 omega
theorem Q16:Q 16=65536:=rfl
theorem zH7 {s:Nat} (h:s≤16):Q s*Q (16-s)=65536:=by rw[← jC,show s+(16-s)=16 by omega];rfl
theorem Q_P (q:Nat):Q (16*q)=P q:=by
 induction q with
 | zero=>rfl
 | succ q ih=>rw[Nat.mul_succ,jC,ih,Q16];simp only[P];omega
theorem zJM (k:Nat):Q k=Q (k % 16)*P (k/16):=by
 rw[← Q_P,← jC];congr 1;omega
theorem zK7 (a b c s:Nat) (ha:a<2 ^ s) (hb:b=2 ^ s*c):a ||| b=a+b:=by
 subst hb;rw[Nat.or_comm,← Nat.two_pow_add_eq_or_of_lt ha c,Nat.add_comm]
theorem or16 (a b c:Int) (s:Nat) (hs:s≤16) (ha:0≤a) (ha1:a<Q s) (hb:b=Q s*c) (hb0:0≤b) (hb1:b<65536) :
  bits .or .u16 a b=a+b∧a+b<65536:=by
 have hQ:Q s≤65536:=by rw[← Q16];exact zJ hs
 have hc:0≤c:=by
  rcases Int.lt_or_le c 0 with h|h
  ·have:=zG s
   have:=Int.mul_le_mul_of_nonneg_left (show c ≤ -1 by omega) (show 0≤Q s by omega)
   omega
  ·exact h
 obtain ⟨A,rfl⟩:=Int.eq_ofNat_of_zero_le ha;obtain ⟨B,rfl⟩:=Int.eq_ofNat_of_zero_le hb0;obtain ⟨C,rfl⟩:=Int.eq_ofNat_of_zero_le hc;have hA:(A:Int)<65536:=by omega
 rw[Q_nat] at ha1 hb;have h1:A<2 ^ s:=by omega
 have h2:B=2 ^ s*C:=by have:=hb;rw[← Int.natCast_mul] at this;omega
 have h3:=zK7 A B C s h1 h2;rw[u16_or_nat A B (by omega) (by omega),h3]
 have h4:A ||| B<2 ^ 16:=Nat.or_lt_two_pow (by omega) (by omega)
 rw[h3] at h4;exact ⟨by omega,by omega⟩
theorem or32 (a b c:Int) (ha:0≤a) (ha1:a<65536) (hb:b=65536*c) (hc0:0≤c) (hc1:c<65536):bits .or .u32 a b=a+b:=by
 obtain ⟨A,rfl⟩:=Int.eq_ofNat_of_zero_le ha;obtain ⟨C,rfl⟩:=Int.eq_ofNat_of_zero_le hc0;have h3:=zK7 A (65536*C) C 16 (by omega) (by omega)
 have hb':b=((65536*C:Nat):Int):=by omega
 rw[hb',u32_or_nat A (65536*C) (by omega) (by omega),h3]
 omega
theorem and16 (x:Int) (s:Nat) (hs:s≤16) (hx:0≤x) (hx1:x<65536):bits .and .u16 x (Q s-1)=x % Q s:=by
 have hQ:Q s≤65536:=by rw[← Q16];exact zJ hs
 have hQ1:=zG s;obtain ⟨A,rfl⟩:=Int.eq_ofNat_of_zero_le hx;rw[u16_and _ _ (by omega) (by omega) (by omega) (by omega)]
 have h1:(Q s-1).toNat=2 ^ s-1:=by rw[Q_nat];omega
 rw[h1,Int.toNat_natCast,Nat.and_two_pow_sub_one_eq_mod,Q_nat];omega
theorem up_low (x:Int) (s:Nat) (hs:s≤16):∃ c,x*Q s % 65536=Q s*c:=by
 refine ⟨x-Q (16-s)*(x*Q s/65536),?_⟩;have h:=zH7 hs;rw[Int.mul_sub,← Int.mul_assoc,h,Int.mul_comm (Q s) x];omega
theorem zJZ (x:Int) (s:Nat) (hx:0≤x) (hx1:x<65536):0≤x*Q s/65536∧x*Q s/65536<Q s:=by
 have hQ1:=zG s;have h0:0≤x*Q s:=Int.mul_nonneg hx (by omega)
 have h1:x*Q s+Q s≤65536*Q s:=by
  have:=Int.mul_le_mul_of_nonneg_right (show x+1≤65536 by omega) (show 0≤Q s by omega)
  rw[Int.add_mul] at this;omega
 omega
theorem up_lt (x:Int) (s:Nat) (hs:s<16) (hx:0≤x) (hx1:x<65536):0≤x*Q s∧x*Q s<4294967296:=by
 have hQ:Q s≤Q 15:=zJ (by omega)
 have e15:Q 15=32768:=rfl;have h:=zJZ x s hx hx1;have hQ1:=zG s;have h0:0≤x*Q s:=Int.mul_nonneg hx (by omega)
 omega
theorem up_alg (v x o:Int) (i q s:Nat):v*Q s*P q+(o+x*Q s % 65536-o)*P (i+q)+(x*Q s/65536-0)*P (i+q+1)=(v+x*P i)*Q s*P q:=by
 have h1:(o+x*Q s % 65536-o)*P (i+q)+(x*Q s/65536-0)*(65536*P (i+q))=x*Q s*P (i+q):=by
  rw[← Int.mul_assoc,← Int.add_mul];congr 1;omega
 have h2:(v+x*P i)*Q s*P q=v*Q s*P q+x*Q s*P (i+q):=by
  rw[P_add,Int.add_mul,Int.add_mul,Int.mul_assoc x (P i),Int.mul_comm (P i) (Q s),← Int.mul_assoc x,Int.mul_assoc (x*Q s)]
 rw[h2];simp only[P];omega
theorem up_any (neg:Bool) (a:Option Addr) (n cap k:Nat) (d:Nat→Int) (w:World) (ha:Dig w a n cap d) (hn:n≤1000000000) (hk:k≤1000000000) :
  Calls Tryz.prog 95 #[.agg #[.bool neg,.slice a n cap],.int .i64 k] w fun r w' =>
   ∃ neg' a' n' cap',r=.returned (.agg #[.bool neg',.slice a' n' cap'])∧IntAt w' neg' a' n' cap' (k/16+n+1) (sgn neg (V d n*Q k))∧Below w.heap.size w w':=by
 obtain ⟨q,hq⟩:∃ q,q=k/16:=⟨_,rfl⟩;obtain ⟨s,hs⟩:∃ s,s=k % 16:=⟨_,rfl⟩;have hq':(k:Int)/16=(q:Int):=by omega
 have hs':(k:Int) % 16=(s:Int):=by omega
 have hs16:s<16:=by omega
 have hk':¬ (k:Int)<0:=by omega
 obtain ⟨W,hW⟩:∃ W,W=(w.alloc (.cells #[.bool neg,.slice a n cap] 26)).alloc (.cells #[.bool false,.slice none 0 0] 26):=⟨_,rfl⟩;have b3:Below w.heap.size w W:=by rw[hW];exact bl2 _ _ _
 have s3:W.heap.size=w.heap.size+1+1:=by rw[hW];simp
 have k0:W.cell? ⟨w.heap.size,0,none⟩=some (.bool neg):=by rw[hW];simp[go_sem]
 have k3:W.cell? ⟨w.heap.size+1,0,none⟩=some (.bool false):=by rw[hW];simp[go_sem]
 have k4:W.cell? ⟨w.heap.size+1,1,none⟩=some (.slice none 0 0):=by rw[hW];simp[go_sem]
 have k5:∀ o,W.frozen? ⟨w.heap.size+1,o,none⟩=false:=by intro o;rw[hW];simp[go_sem]
 have HW:=zC hW;clear hW;have hmk:=run_make_row' (P:=Tryz.prog) 24 98 (.int .u16 0) 2 Tryz.underlying24 Tryz.infoU16 rfl .i64 .i64 (q+n+1) (by omega) (by omega)
 have hnm:((q+n+1:Nat):Int)=(q:Int)+n+1:=by omega
 rw[hnm] at hmk;have Hq:=zC hq;have Hs:=zC hs;clear hnm hq hs
 go_enter Tryz.func95,Tryz.ntmps95
 go_wp2;clear hmk
 go_loopw [26] (fun ii wr=>∃ (i:Nat) (o:Nat→Int),i≤n∧ii=.int .i64 i∧wr.rowIs (w.heap.size+1+1) 98 (q+n+1) (fun j=>.int .u16 (o j))∧Dgs o∧V o (q+n+1)=V d i*Q s*P q∧(∀ j,i+q<j→o j=0)∧o (i+q)<Q s∧Below (w.heap.size+1+1) W wr) (fun ii _=>n-(intOf ii).toNat)
 case atStart =>
  refine ⟨0,fun _=>0,Nat.zero_le _,rfl,?_,fun _=>⟨by simp,by simp⟩,?_,fun _ _=>rfl,?_,?_⟩
  ·have:=World.rowIs_made W (.int .u16 0) (q+n+1) 98
   rw[s3,zA HW] at this;exact this
  ·rw[zOZ];simp[V]
  ·have:=zG s;simp;omega
  ·rw[zA HW];exact (Below.refl _ _).alloc (by simp) _
 case round =>
  obtain ⟨i,o,hi,rfl,hrow,hod,hov,hoz,hoq,hbl⟩:=hrel
  by_cases hin:i<n
  ·obtain ⟨b1,o1,rfl,hb1,hc1⟩:=ha.at_ (by omega)
   have g1:wr.cell? ⟨b1,o1+i,none⟩=some (.int .u16 (d i)):=(hbl.cell (p:=⟨b1,o1+i,none⟩) (by show b1<_;omega)).trans ((b3.cell (p:=⟨b1,o1+i,none⟩) hb1).trans (hc1 i hin))
   have db:=ha.dgs i;have r1:=hrow.cell (show i+q<q+n+1 by omega)
   have r2:=hrow.frozen (i+q);have r3:=hrow.cell (show i+q+1<q+n+1 by omega)
   have r4:=hrow.frozen (i+q+1);have hz1:=hoz (i+q+1) (by omega)
   rw[hz1] at r3;have ob:=hod (i+q);have HV:=zC hov;have HZ:=zC hoz;have HR:=zC hrow;have HD:=zC hod;have HZ1:=zC hz1;clear hc1 hov hoz hrow hod hz1;obtain ⟨c,hlow⟩:=up_low (d i) s (by omega)
   have hhigh:=zJZ (d i) s db.1 db.2;have hlt:=up_lt (d i) s hs16 db.1 db.2;have hmod:d i*2 ^ s % 4294967296=d i*Q s:=by rw[zMP];omega
   have hor:=or16 (o (i+q)) (d i*Q s % 65536) c s (by omega) ob.1 hoq hlow (by omega) (by omega)
   have hor2:=or16 0 (d i*Q s/65536) (d i*Q s/65536) 0 (by omega) (by omega) (by simp[Q]) (by simp[Q]) hhigh.1 (by omega)
   have H1:=zC (show bits .or .u16 (o (i+q)) (IntKind.u16.wrap (d i*2 ^ s % 4294967296))=o (i+q)+d i*Q s % 65536 by rw[hmod,zAH];exact hor.1)
   have H2:=zC (show bits .or .u16 0 (d i*2 ^ s % 4294967296/65536)=d i*Q s/65536 by rw[hmod,hor2.1];omega)
   have H3:=zC hor.2;have H4:=zC hhigh;have hQ16:=zJ (show s≤15 by omega)
   have e15:Q 15=32768:=rfl;rw[e15] at hQ16;clear hlow hlt hmod hor hor2 hhigh e15;go_wp2
   go_roundw
   case rel =>
    have h3:=zA H3;have h4:=zA H4;have hne:i+q+1≠i+q:=by omega
    have hz:upd o (i+q) (o (i+q)+d i*Q s % 65536) (i+q+1)=0:=by simp[upd];exact zA HZ1
    refine ⟨i+1,upd (upd o (i+q) (o (i+q)+d i*Q s % 65536)) (i+q+1) (d i*Q s/65536),by omega,by go_num,zB7 (zB7 (zA HR) (i+q) (zA H1)) (i+q+1) (zA H2),kQ (kQ (zA HD) _ (by omega) h3) _ h4.1 (by omega),?_,fun j hj=>?_,?_,(hbl.setCell (by simp) _).setCell (by simp) _⟩
    ·rw[zMM _ _ _ _ (by omega),zMM _ _ _ _ (by omega),hz,zA HV]
     exact up_alg (V d i) (d i) (o (i+q)) i q s
    ·have e1:j≠i+q:=by omega
     have e2:j≠i+q+1:=by omega
     simp only[upd,e1,e2,if_false];exact zA HZ j (by omega)
    ·have e1:i+1+q=i+q+1:=by omega
     rw[e1];simp only[upd,if_true];exact h4.2
   case measure=>simp[intOf];omega
  ·have hiE:i=n:=by omega
   subst hiE;have q0:wr.cell? ⟨w.heap.size,0,none⟩=some (.bool neg):=(hbl.cell (p:=⟨w.heap.size,0,none⟩) (by show w.heap.size<_;omega)).trans k0
   have q3:wr.cell? ⟨w.heap.size+1,0,none⟩=some (.bool false):=(hbl.cell (p:=⟨w.heap.size+1,0,none⟩) (by simp)).trans k3
   have q4:wr.cell? ⟨w.heap.size+1,1,none⟩=some (.slice none 0 0):=(hbl.cell (p:=⟨w.heap.size+1,1,none⟩) (by simp)).trans k4
   have q5:∀ o,wr.frozen? ⟨w.heap.size+1,o,none⟩=false:=fun o=>(hbl.frozen (p:=⟨w.heap.size+1,o,none⟩) (by simp)).trans (k5 o)
   have hsw:=hbl.size;rw[s3] at hsw;have HR:=zC (zDZ hrow hod (by omega))
   have HV:=zC hov;clear hov hoz hrow hod;go_wp2_with (go_at_call 125;refine (zAZ _ _ _ _ o _ (zA HR)).mono ?_;rintro r w2 ⟨neg',a2,n2,c2,rfl,hint,hb2⟩;obtain ⟨hsz2,kC2,hfz2⟩:=kK (w.heap.size+1+1) hsw hb2);refine bodyPost_ret (v:=.agg #[.bool neg',.slice a2 n2 c2]) (by simp[results,Tryz.results95,go_sem,kC2,q3,q4]) rfl ⟨neg',a2,n2,c2,rfl,?_,?_⟩
   ·have h0:w2.cell? ⟨w.heap.size+1,0,none⟩=some (.bool false):=by simp[kC2,q3]
    have h1':w2.cell? ⟨w.heap.size+1,1,none⟩=some (.slice none 0 0):=by simp[kC2,q4]
    rw[zA HV,Int.mul_assoc,zA Hs,zA Hq,← zJM] at hint;exact hint.put2 h0 h1' _ _
   ·exact ((zB (b3.trans (hbl.mono (by omega))) hb2).setCell (by simp) _).setCell (by simp) _
theorem zAS (neg:Bool) (a:Option Addr) (n cap k k1:Nat) (x:Int) (w:World) (h1:IntAt w neg a n cap k1 x) (hk1:k1≤1000000000) (hk:k≤1000000000) :
  Calls Tryz.prog 95 #[.agg #[.bool neg,.slice a n cap],.int .i64 k] w fun r w' =>
   ∃ neg' a' n' cap',r=.returned (.agg #[.bool neg',.slice a' n' cap'])∧IntAt w' neg' a' n' cap' (k/16+k1+1) (x*Q k)∧Below w.heap.size w w':=by
 obtain ⟨d,g1,g2,g3,g4,rfl⟩:=h1;have hs:sgn neg (V d n*Q k)=sgn neg (V d n)*Q k:=by cases neg <;> simp[sgn,Int.neg_mul]
 rw[← hs];exact (up_any neg a n cap k d w g1 (by omega) hk).mono fun _ _ ⟨n1,n2,n3,n4,q1,q2,q3⟩=>⟨n1,n2,n3,n4,q1,q2.mono (by omega),q3⟩
attribute [local go_sem ↓] Go.wp_at_zero Go.wp_at_succ
theorem zL9 (x y:Int) (s:Nat) (hs:s≤16) (hx:0≤x) (hx1:x<65536) (hy:0≤y) :
  (x+65536*y)/Q s % 65536*Q s+x % Q s=x+y % Q s*65536:=by
 have h16:=zH7 hs;have hq:=zG s;have hr:=zG (16-s);generalize Q s=S at *;generalize Q (16-s)=R at *
 have e1:(x+65536*y)/S=x/S+R*y:=by
  rw[← h16,Int.mul_assoc,Int.add_mul_ediv_left _ _ (by omega)]
 have hxd:S*(x/S)+x % S=x:=Int.mul_ediv_add_emod x S;have hyd:S*(y/S)+y % S=y:=Int.mul_ediv_add_emod y S;have hx0:0≤x/S:=Int.ediv_nonneg hx (by omega)
 have hxR:x/S<R:=Int.ediv_lt_of_lt_mul (by omega) (by rw[Int.mul_comm,h16];exact hx1)
 have hy0:=Int.emod_nonneg y (show S≠0 by omega)
 have hyS:=Int.emod_lt_of_pos y (show 0<S by omega)
 have e2:R*y=R*(y % S)+65536*(y/S):=by
  have:R*y=R*(S*(y/S)+y % S):=by rw[hyd]
  rw[this,Int.mul_add,← Int.mul_assoc,Int.mul_comm R S,h16];omega
 have hRy:R*(y % S)≤R*(S-1):=Int.mul_le_mul_of_nonneg_left (by omega) (by omega)
 have hRy0:0≤R*(y % S):=Int.mul_nonneg (by omega) hy0
 have e3:R*(S-1)=65536-R:=by rw[Int.mul_sub,Int.mul_comm R S,h16];omega
 have e4:(x+65536*y)/S % 65536=x/S+R*(y % S):=by rw[e1,e2];omega
 rw[e4,Int.add_mul,Int.mul_comm (x/S) S,Int.mul_assoc,Int.mul_comm (y % S) S,← Int.mul_assoc,Int.mul_comm R S,h16];omega
theorem zBB (d o:Nat→Int) (n q m s:Nat) (hs:s≤16) (hd:Dgs d) {v:Int} (hv:v=(dg d n (q+m)+65536*dg d n (q+(m+1)))/Q s % 65536)
  (h:V o m*Q s+dg d n q % Q s=V (fun j=>dg d n (q+j)) m+dg d n (q+m) % Q s*P m) :
  V (upd o m v) (m+1)*Q s+dg d n q % Q s=V (fun j=>dg d n (q+j)) (m+1)+dg d n (q+(m+1)) % Q s*P (m+1):=by
 have b1:0≤dg d n (q+m)∧dg d n (q+m)<65536:=by unfold dg;have:=hd (q+m);split <;> omega
 have b2:0≤dg d n (q+(m+1)):=by unfold dg;have:=hd (q+(m+1));split <;> omega
 have h1:=zL9 (dg d n (q+m)) (dg d n (q+(m+1))) s hs b1.1 b1.2 b2;rw[← hv] at h1
 have h2:V (upd o m v) (m+1)=V o m+v*P m:=by
  simp only[V];rw[zBI m (fun j hj=>by simp[upd];omega:∀ j,j<m→upd o m v j=o j)]
  simp[upd]
 rw[h2];simp only[V,P];generalize dg d n (q+(m+1)) % Q s=y at *;generalize dg d n (q+m) % Q s=z at *
 have h3:v*Q s*P m+z*P m=dg d n (q+m)*P m+y*(65536*P m):=by
  rw[← Int.add_mul,h1,Int.add_mul,Int.mul_assoc]
 have h4:(V o m+v*P m)*Q s=V o m*Q s+v*Q s*P m:=by
  rw[Int.add_mul,Int.mul_assoc v,Int.mul_comm (P m) (Q s),← Int.mul_assoc]
 omega
def zAN (d:Nat→Int) (q s i:Nat):Int:=if i≤q then V d i else V d q+d q % Q s*P q
theorem lost_low {d:Nat→Int} (hd:Dgs d) {q s i:Nat} (h:i<q):zAN d q s (i+1)≠0 ↔ (zAN d q s i≠0∨d i≠0):=by
 unfold zAN;rw[if_pos (by omega),if_pos (by omega)]
 simp only[V];have h1:=jB hd i;have h2:=hd i;have h3:=kN i;have h4:0≤d i*P i:=Int.mul_nonneg h2.1 (by omega)
 by_cases h5:d i=0
 ·simp[h5]
 ·have:1*P i≤d i*P i:=Int.mul_le_mul_of_nonneg_right (by omega) (by omega)
  omega
theorem zG5 {d:Nat→Int} (hd:Dgs d) (q s:Nat):zAN d q s (q+1)≠0 ↔ (zAN d q s q≠0∨d q % Q s≠0):=by
 unfold zAN;rw[if_neg (by omega),if_pos (by omega)]
 have h1:=jB hd q;have h2:=Int.emod_nonneg (d q) (show Q s≠0 by have:=zG s;omega)
 have h3:=kN q;have h4:0≤d q % Q s*P q:=Int.mul_nonneg h2 (by omega)
 by_cases h5:d q % Q s=0
 ·simp[h5]
 ·have:1*P q≤d q % Q s*P q:=Int.mul_le_mul_of_nonneg_right (by omega) (by omega)
  omega
theorem zHZ {d:Nat→Int} {q s i:Nat} (h:q<i):zAN d q s (i+1)=zAN d q s i:=by
 unfold zAN;rw[if_neg (by omega),if_neg (by omega)]
theorem zK {w w1:World} (h:Below w.heap.size w w1) (o:Obj):Below w.heap.size w (w1.alloc o):=h.alloc h.size o
theorem zE2 (d:Nat→Int) (q m:Nat):V d (q+m)=V d q+P q*V (fun j=>d (q+j)) m:=by
 induction m with
 | zero=>simp[V]
 | succ m ih =>
  rw[← Nat.add_assoc];simp only[V];rw[ih,P_add,Int.mul_add];have:d (q+m)*(P q*P m)=P q*(d (q+m)*P m):=by rw[Int.mul_left_comm]
  omega
theorem down_fin {d o:Nat→Int} {n q s k m:Nat} (hd:Dgs d) (hq:q=k/16) (hs:s=k % 16) (hm:m=n-q)
  (h:V o m*Q s+dg d n q % Q s=V (fun j=>dg d n (q+j)) m+dg d n (q+m) % Q s*P m) :
  V d n=V o m*Q k+zAN d q s n∧0≤zAN d q s n∧zAN d q s n<Q k:=by
 have hQ:Q k=Q s*P q:=by rw[hs,hq];exact zJM k
 have hp:=kN q;have hqs:=zG s
 have hSP:P q≤Q s*P q:=by
  have:=Int.mul_le_mul_of_nonneg_right hqs (show 0≤P q by omega);omega
 unfold zAN
 by_cases hn:n≤q
 ·rw[if_pos hn]
  have hm0:m=0:=by omega
  subst hm0;have h1:=jB hd n;have h2:=zGU hd n;have h3:=zA0 hn;simp only[V];omega
 ·rw[if_neg hn]
  have hqm:q+m=n:=by omega
  have e0:dg d n (q+m)=0:=by rw[hqm];simp[dg]
  have e1:dg d n q=d q:=by simp[dg];omega
  have e2:V (fun j=>dg d n (q+j)) m=V (fun j=>d (q+j)) m:=zBI m (fun j hj=>by simp[dg];omega)
  rw[e0,e1,e2] at h;have h4:=zE2 d q m;rw[hqm] at h4;have hr0:=Int.emod_nonneg (d q) (show Q s≠0 by omega)
  have hr1:=Int.emod_lt_of_pos (d q) (show 0<Q s by omega)
  have h5:=jB hd q;have h6:=zGU hd q;have h7:d q % Q s*P q≤(Q s-1)*P q:=Int.mul_le_mul_of_nonneg_right (by omega) (by omega)
  rw[Int.sub_mul] at h7;have h8:0≤d q % Q s*P q:=Int.mul_nonneg hr0 (by omega)
  simp at h
  have h9:P q*V (fun j=>d (q+j)) m=V o m*(Q s*P q)+d q % Q s*P q:=by
   rw[← h,Int.mul_comm (P q),Int.add_mul,Int.mul_assoc]
  rw[hQ];omega
theorem zCI {M v r K:Int} (hK:0<K) (h:M=v*K+r) (h0:0≤r) (h1:r<K):M/K=v:=by
 rw[h,Int.add_comm,Int.add_mul_ediv_right _ _ (by omega),Int.ediv_eq_zero_of_lt h0 h1];omega
theorem zFV {M v K:Int} (hK:0<K) (h:M=v*K) : -M/K = -v:=by
 rw[h,← Int.neg_mul,Int.mul_ediv_cancel _ (by omega)]
theorem zD8 {M v r K:Int} (hK:0<K) (h:M=v*K+r) (h0:0<r) (h1:r<K) : -M/K = -v-1:=by
 refine zCI (r:=K-r) hK ?_ (by omega) (by omega)
 rw[h,Int.sub_mul,Int.neg_mul];omega
theorem down_any (neg:Bool) (a:Option Addr) (n cap k:Nat) (d:Nat→Int) (w:World) (ha:Dig w a n cap d) (hn:n≤1000000000) (hk:k≤1000000000) :
  Calls Tryz.prog 105 #[.agg #[.bool neg,.slice a n cap],.int .i64 k] w fun r w' =>
   ∃ neg' a' n' cap',r=.returned (.agg #[.bool neg',.slice a' n' cap'])∧IntAt w' neg' a' n' cap' (n+5) (sgn neg (V d n)/Q k)∧Below w.heap.size w w':=by
 obtain ⟨q,hq⟩:∃ q,q=k/16:=⟨_,rfl⟩;obtain ⟨s,hs⟩:∃ s,s=k % 16:=⟨_,rfl⟩;have hq':(k:Int)/16=(q:Int):=by omega
 have hs':(k:Int) % 16=(s:Int):=by omega
 have hs16:s<16:=by omega
 have hk':¬ (k:Int)<0:=by omega
 obtain ⟨W,hW⟩:∃ W,W=(w.alloc (.cells #[.bool neg,.slice a n cap] 26)).alloc (.cells #[.bool false,.slice none 0 0] 26):=⟨_,rfl⟩;have b3:Below w.heap.size w W:=by rw[hW];exact bl2 _ _ _
 have s3:W.heap.size=w.heap.size+1+1:=by rw[hW];simp
 have k0:W.cell? ⟨w.heap.size,0,none⟩=some (.bool neg):=by rw[hW];simp[go_sem]
 have k1:W.cell? ⟨w.heap.size,1,none⟩=some (.slice a n cap):=by rw[hW];simp[go_sem]
 have k3:W.cell? ⟨w.heap.size+1,0,none⟩=some (.bool false):=by rw[hW];simp[go_sem]
 have k4:W.cell? ⟨w.heap.size+1,1,none⟩=some (.slice none 0 0):=by rw[hW];simp[go_sem]
 have k5:∀ o,W.frozen? ⟨w.heap.size+1,o,none⟩=false:=by intro o;rw[hW];simp[go_sem]
 have HW:=zC hW;have Hq:=zC hq;have Hs:=zC hs;clear hW hq hs
 go_enter Tryz.func105,Tryz.ntmps105
 go_wp2
 go_loopw [5,6,20] (fun out lost ii wr=>∃ (i m:Nat) (a':Option Addr) (cap':Nat) (o:Nat→Int) (b:Bool),i≤n∧ii=.int .i64 i∧m=i-q∧out=.slice a' m cap'∧lost=.bool b∧(b=true ↔ zAN d q s i≠0) ∧
   Own wr (w.heap.size+1+1) 98 a' m cap' o∧Dgs o∧V o m*Q s+dg d n q % Q s=V (fun j=>dg d n (q+j)) m+dg d n (q+m) % Q s*P m∧Below (w.heap.size+1+1) W wr) (fun _ _ ii _=>n-(intOf ii).toNat)
 case atStart =>
  refine ⟨0,0,none,0,fun _=>0,false,Nat.zero_le _,rfl,by omega,rfl,rfl,by simp[zAN,V],Own.nil _ _ _ _,fun _=>⟨by simp,by simp⟩,by simp[V,P],?_⟩
  rw[zA HW];exact Below.refl _ _
 case round =>
  obtain ⟨i,m,a',cap',o,b,hi,rfl,hm,rfl,rfl,hb,hown,hod,hV,hbl⟩:=hrel;have hsw:=hbl.size;rw[s3] at hsw
  by_cases hin:i<n
  ·obtain ⟨b1,o1,rfl,hb1,hc1⟩:=ha.at_ (by omega)
   have g1:wr.cell? ⟨b1,o1+i,none⟩=some (.int .u16 (d i)):=(hbl.cell (p:=⟨b1,o1+i,none⟩) (by show b1<_;omega)).trans ((b3.cell (p:=⟨b1,o1+i,none⟩) hb1).trans (hc1 i hin))
   have q1:wr.cell? ⟨w.heap.size,1,none⟩=some (.slice (some ⟨b1,o1,none⟩) n cap):=(hbl.cell (p:=⟨w.heap.size,1,none⟩) (by show w.heap.size<_;omega)).trans k1
   have db:=ha.dgs i
   by_cases hiq:i<q
   ·have hm0:m=0:=by omega
    subst hm0;have hiq':(i:Int)<q:=by omega
    have Hm:=zC hm;have HO:=zC hown;have HV:=zC hV;have HB:=zC hb;clear hm hown hV hb hc1;have hll:=lost_low (s:=s) ha.dgs hiq
    cases b
    ·have HL:=zC (show (d i != 0)=true ↔ zAN d q s (i+1)≠0 by rw[hll];have:=zA HB;simp at this;simp[this])
     clear hll;go_wp2
     go_roundw
     case rel=>exact ⟨i+1,0,a',cap',o,_,by omega,by go_num,by omega,rfl,rfl,zA HL,zA HO,hod,zA HV,hbl⟩
     case measure=>simp[intOf];omega
    ·have HL:=zC (show true=true ↔ zAN d q s (i+1)≠0 by rw[hll];have:=zA HB;simp at this;simp[this])
     clear hll;go_wp2
     go_roundw
     case rel=>exact ⟨i+1,0,a',cap',o,_,by omega,by go_num,by omega,rfl,rfl,zA HL,zA HO,hod,zA HV,hbl⟩
     case measure=>simp[intOf];omega
   ·have hiq':¬ (i:Int)<q:=by omega
    have hmn:m≤n:=by omega
    have Hm:=zC hm;have HO:=zC hown;have HV:=zC hV;have HB:=zC hb;clear hm hown hV hb;have eqm:q+m=i:=by have:=zA Hm;omega
    have hand:bits BinOp.and IntKind.u16 (d i) (IntKind.u16.wrap (IntKind.u16.wrap (2 ^ s)-1))=d i % Q s:=by
     have h1:=zJ (show s≤15 by omega)
     have e15:Q 15=32768:=rfl;have h2:=zG s;have h3:IntKind.u16.wrap (IntKind.u16.wrap (2 ^ s)-1)=Q s-1:=by rw[zAH,zAH,zMP];omega
     rw[h3];exact and16 (d i) s (by omega) db.1 db.2
    have dgi:dg d n (q+m)=d i:=by rw[eqm];simp[dg,hin]
    by_cases hi1:i+1<n
    ·have g2:wr.cell? ⟨b1,o1+(i+1),none⟩=some (.int .u16 (d (i+1))):=(hbl.cell (p:=⟨b1,o1+(i+1),none⟩) (by show b1<_;omega)).trans ((b3.cell (p:=⟨b1,o1+(i+1),none⟩) hb1).trans (hc1 (i+1) hi1))
     have db2:=ha.dgs (i+1);have hi1':(i:Int)+1<n:=by omega
     have hvv:IntKind.u16.wrap (bits BinOp.or IntKind.u32 (d i) (d (i+1)*65536)/2 ^ s)=(dg d n (q+m)+65536*dg d n (q+(m+1)))/Q s % 65536:=by
      have e1:dg d n (q+(m+1))=d (i+1):=by rw[← Nat.add_assoc,eqm];simp[dg,hi1]
      rw[zAH,or32 (d i) (d (i+1)*65536) (d (i+1)) db.1 db.2 (by omega) db2.1 db2.2,zMP,dgi,e1,Int.mul_comm (d (i+1)) 65536]
     clear hc1 dgi eqm
     by_cases hie:i=q
     ·subst hie
      have hie':((i:Int) == i)=true:=by simp
      cases b
      ·have HL:=zC (show (bits BinOp.and IntKind.u16 (d i) (IntKind.u16.wrap (IntKind.u16.wrap (2 ^ s)-1)) != 0)=true ↔ zAN d i s (i+1)≠0 by rw[zG5 ha.dgs,hand];have:=zA HB;simp at this;simp[this])
       clear hand;have HE:=zC (show IntKind.u16.wrap (bits BinOp.or IntKind.u32 (d i) (d (i+1)*65536)/2 ^ s)=(dg d n (i+m)+65536*dg d n (i+(m+1)))/Q s % 65536 by rw[hvv])
       clear hvv;go_wp2_with (at_builtin;refine jI _ rfl _ _ 24 rfl (w.heap.size+1+1) 98 Tryz.underlying24 Tryz.infoU16 a' m cap' o rfl ((zA HO).alloc _) wr.heap.size 1 (IntKind.u16.wrap (bits BinOp.or IntKind.u32 (d i) (d (i+1)*65536)/2 ^ s)) rfl (by simp[go_sem]) (by omega) (by simp;omega) ?_;intro a2 cap2 w1 hown1 hb2)
       go_roundw
       case rel =>
        rw[zA HE] at hown1;refine ⟨i+1,m+1,a2,cap2,upd o m ((dg d n (i+m)+65536*dg d n (i+(m+1)))/Q s % 65536),_,by omega,by go_num,by have:=zA Hm;omega,rfl,rfl,zA HL,hown1,kQ hod _ (by omega) (by omega),zBB d o n i m s (by omega) ha.dgs rfl (zA HV),?_⟩
        exact (hbl.alloc (by omega) _).trans hb2
       case measure=>simp[intOf];omega
      ·have HL:=zC (show true=true ↔ zAN d i s (i+1)≠0 by rw[zG5 ha.dgs];have:=zA HB;simp at this;simp[this])
       clear hand;have HE:=zC (show IntKind.u16.wrap (bits BinOp.or IntKind.u32 (d i) (d (i+1)*65536)/2 ^ s)=(dg d n (i+m)+65536*dg d n (i+(m+1)))/Q s % 65536 by rw[hvv])
       clear hvv;go_wp2_with (at_builtin;refine jI _ rfl _ _ 24 rfl (w.heap.size+1+1) 98 Tryz.underlying24 Tryz.infoU16 a' m cap' o rfl ((zA HO).alloc _) wr.heap.size 1 (IntKind.u16.wrap (bits BinOp.or IntKind.u32 (d i) (d (i+1)*65536)/2 ^ s)) rfl (by simp[go_sem]) (by omega) (by simp;omega) ?_;intro a2 cap2 w1 hown1 hb2)
       go_roundw
       case rel =>
        rw[zA HE] at hown1;refine ⟨i+1,m+1,a2,cap2,upd o m ((dg d n (i+m)+65536*dg d n (i+(m+1)))/Q s % 65536),_,by omega,by go_num,by have:=zA Hm;omega,rfl,rfl,zA HL,hown1,kQ hod _ (by omega) (by omega),zBB d o n i m s (by omega) ha.dgs rfl (zA HV),?_⟩
        exact (hbl.alloc (by omega) _).trans hb2
       case measure=>simp[intOf];omega
     ·have hie':((i:Int) == q)=false:=by simp;omega
      have HL:=zC (show b=true ↔ zAN d q s (i+1)≠0 by rw[zHZ (by omega)];exact zA HB)
      clear hand;have HE:=zC (show IntKind.u16.wrap (bits BinOp.or IntKind.u32 (d i) (d (i+1)*65536)/2 ^ s)=(dg d n (q+m)+65536*dg d n (q+(m+1)))/Q s % 65536 by rw[hvv])
      clear hvv;go_wp2_with (at_builtin;refine jI _ rfl _ _ 24 rfl (w.heap.size+1+1) 98 Tryz.underlying24 Tryz.infoU16 a' m cap' o rfl ((zA HO).alloc _) wr.heap.size 1 (IntKind.u16.wrap (bits BinOp.or IntKind.u32 (d i) (d (i+1)*65536)/2 ^ s)) rfl (by simp[go_sem]) (by omega) (by simp;omega) ?_;intro a2 cap2 w1 hown1 hb2)
      go_roundw
      case rel =>
       rw[zA HE] at hown1;refine ⟨i+1,m+1,a2,cap2,upd o m ((dg d n (q+m)+65536*dg d n (q+(m+1)))/Q s % 65536),_,by omega,by go_num,by have:=zA Hm;omega,rfl,rfl,zA HL,hown1,kQ hod _ (by omega) (by omega),zBB d o n q m s (by omega) ha.dgs rfl (zA HV),?_⟩
       exact (hbl.alloc (by omega) _).trans hb2
      case measure=>simp[intOf];omega
    ·have hi1':¬ (i:Int)+1<n:=by omega
     have hvv:IntKind.u16.wrap (d i/2 ^ s)=(dg d n (q+m)+65536*dg d n (q+(m+1)))/Q s % 65536:=by
      have e1:dg d n (q+(m+1))=0:=by rw[← Nat.add_assoc,eqm];simp[dg,hi1]
      rw[zAH,zMP,dgi,e1];simp
     clear hc1 dgi eqm
     by_cases hie:i=q
     ·subst hie
      have hie':((i:Int) == i)=true:=by simp
      cases b
      ·have HL:=zC (show (bits BinOp.and IntKind.u16 (d i) (IntKind.u16.wrap (IntKind.u16.wrap (2 ^ s)-1)) != 0)=true ↔ zAN d i s (i+1)≠0 by rw[zG5 ha.dgs,hand];have:=zA HB;simp at this;simp[this])
       clear hand;have HE:=zC (show IntKind.u16.wrap (d i/2 ^ s)=(dg d n (i+m)+65536*dg d n (i+(m+1)))/Q s % 65536 by rw[hvv])
       clear hvv;go_wp2_with (at_builtin;refine jI _ rfl _ _ 24 rfl (w.heap.size+1+1) 98 Tryz.underlying24 Tryz.infoU16 a' m cap' o rfl ((zA HO).alloc _) wr.heap.size 1 (IntKind.u16.wrap (d i/2 ^ s)) rfl (by simp[go_sem]) (by omega) (by simp;omega) ?_;intro a2 cap2 w1 hown1 hb2)
       go_roundw
       case rel =>
        rw[zA HE] at hown1;refine ⟨i+1,m+1,a2,cap2,upd o m ((dg d n (i+m)+65536*dg d n (i+(m+1)))/Q s % 65536),_,by omega,by go_num,by have:=zA Hm;omega,rfl,rfl,zA HL,hown1,kQ hod _ (by omega) (by omega),zBB d o n i m s (by omega) ha.dgs rfl (zA HV),?_⟩
        exact (hbl.alloc (by omega) _).trans hb2
       case measure=>simp[intOf];omega
      ·have HL:=zC (show true=true ↔ zAN d i s (i+1)≠0 by rw[zG5 ha.dgs];have:=zA HB;simp at this;simp[this])
       clear hand;have HE:=zC (show IntKind.u16.wrap (d i/2 ^ s)=(dg d n (i+m)+65536*dg d n (i+(m+1)))/Q s % 65536 by rw[hvv])
       clear hvv;go_wp2_with (at_builtin;refine jI _ rfl _ _ 24 rfl (w.heap.size+1+1) 98 Tryz.underlying24 Tryz.infoU16 a' m cap' o rfl ((zA HO).alloc _) wr.heap.size 1 (IntKind.u16.wrap (d i/2 ^ s)) rfl (by simp[go_sem]) (by omega) (by simp;omega) ?_;intro a2 cap2 w1 hown1 hb2)
       go_roundw
       case rel =>
        rw[zA HE] at hown1;refine ⟨i+1,m+1,a2,cap2,upd o m ((dg d n (i+m)+65536*dg d n (i+(m+1)))/Q s % 65536),_,by omega,by go_num,by have:=zA Hm;omega,rfl,rfl,zA HL,hown1,kQ hod _ (by omega) (by omega),zBB d o n i m s (by omega) ha.dgs rfl (zA HV),?_⟩
        exact (hbl.alloc (by omega) _).trans hb2
       case measure=>simp[intOf];omega
     ·have hie':((i:Int) == q)=false:=by simp;omega
      have HL:=zC (show b=true ↔ zAN d q s (i+1)≠0 by rw[zHZ (by omega)];exact zA HB)
      clear hand;have HE:=zC (show IntKind.u16.wrap (d i/2 ^ s)=(dg d n (q+m)+65536*dg d n (q+(m+1)))/Q s % 65536 by rw[hvv])
      clear hvv;go_wp2_with (at_builtin;refine jI _ rfl _ _ 24 rfl (w.heap.size+1+1) 98 Tryz.underlying24 Tryz.infoU16 a' m cap' o rfl ((zA HO).alloc _) wr.heap.size 1 (IntKind.u16.wrap (d i/2 ^ s)) rfl (by simp[go_sem]) (by omega) (by simp;omega) ?_;intro a2 cap2 w1 hown1 hb2)
      go_roundw
      case rel =>
       rw[zA HE] at hown1;refine ⟨i+1,m+1,a2,cap2,upd o m ((dg d n (q+m)+65536*dg d n (q+(m+1)))/Q s % 65536),_,by omega,by go_num,by have:=zA Hm;omega,rfl,rfl,zA HL,hown1,kQ hod _ (by omega) (by omega),zBB d o n q m s (by omega) ha.dgs rfl (zA HV),?_⟩
       exact (hbl.alloc (by omega) _).trans hb2
      case measure=>simp[intOf];omega
  ·have hiE:i=n:=by omega
   subst hiE;have q0:wr.cell? ⟨w.heap.size,0,none⟩=some (.bool neg):=(hbl.cell (p:=⟨w.heap.size,0,none⟩) (by show w.heap.size<_;omega)).trans k0
   have q3:wr.cell? ⟨w.heap.size+1,0,none⟩=some (.bool false):=(hbl.cell (p:=⟨w.heap.size+1,0,none⟩) (by simp)).trans k3
   have q4:wr.cell? ⟨w.heap.size+1,1,none⟩=some (.slice none 0 0):=(hbl.cell (p:=⟨w.heap.size+1,1,none⟩) (by simp)).trans k4
   have q5:∀ o,wr.frozen? ⟨w.heap.size+1,o,none⟩=false:=fun o=>(hbl.frozen (p:=⟨w.heap.size+1,o,none⟩) (by simp)).trans (k5 o)
   obtain ⟨f1,f2,f3⟩:=down_fin ha.dgs (zA Hq) (zA Hs) hm hV;have hQk:0<Q k:=by have:=zG k;omega
   have HR:=zC (hown.dig hod (by omega))
   have hmi:m≤i:=by omega
   have hbr:(b=true∧0<zAN d q s i)∨(b=false∧zAN d q s i=0):=by
    cases b
    ·right;simp at hb;exact ⟨rfl,hb⟩
    ·left;simp at hb;exact ⟨rfl,by omega⟩
   clear hV hb hown hod hm
   rcases hbr with ⟨rfl,hl⟩|⟨rfl,hl⟩
   ·cases neg
    ·have HE:=zC (show sgn false (V o m)=sgn false (V d i)/Q k by simp only[sgn];exact (zCI hQk f1 f2 f3).symm)
     clear f1 f2 f3 hl;go_wp2_with (go_at_call 125;refine (zAZ _ _ _ _ o _ (zA HR)).mono ?_;rintro r w2 ⟨neg',a2,n2,c2,rfl,hint,hb2⟩;obtain ⟨hsz2,kC2,hfz2⟩:=kK (w.heap.size+1+1) hsw hb2;have hz0:=Nat.lt_of_lt_of_le (Nat.lt_succ_of_lt (Nat.lt_succ_self w.heap.size)) hsz2;have hz1:=Nat.lt_of_lt_of_le (Nat.lt_succ_self (w.heap.size+1)) hsz2);refine bodyPost_ret (v:=.agg #[.bool neg',.slice a2 n2 c2]) (by simp[results,Tryz.results105,go_sem,kC2,hz0,hz1,q3,q4]) rfl ⟨neg',a2,n2,c2,rfl,?_,?_⟩
     ·have h0:w2.cell? ⟨w.heap.size+1,0,none⟩=some (.bool false):=by simp[kC2,q3]
      have h1':w2.cell? ⟨w.heap.size+1,1,none⟩=some (.slice none 0 0):=by simp[kC2,q4]
      rw[zA HE] at hint;exact ((hint.put2 h0 h1' _ _).bw (bl1 _ _)).mono (by omega)
     ·exact zK (((zB (b3.trans (hbl.mono (by omega))) hb2).setCell (p:=⟨w.heap.size+1,0,none⟩) (Nat.le_succ _) _).setCell (p:=⟨w.heap.size+1,1,none⟩) (Nat.le_succ _) _) _
    ·have HE:=zC (show sgn true (V o m)-1=sgn true (V d i)/Q k by simp only[sgn];exact (zD8 hQk f1 hl f3).symm)
     clear f1 f2 f3 hl;go_wp2_with (go_at_call 125;refine (zAZ _ _ _ _ o _ (zA HR)).mono ?_;rintro r w2 ⟨neg',a2,n2,c2,rfl,hint,hb2⟩;obtain ⟨hsz2,kC2,hfz2⟩:=kK (w.heap.size+1+1) hsw hb2;have hz0:=Nat.lt_of_lt_of_le (Nat.lt_succ_of_lt (Nat.lt_succ_self w.heap.size)) hsz2;have hz1:=Nat.lt_of_lt_of_le (Nat.lt_succ_self (w.heap.size+1)) hsz2);have nz:w2.heap.size≠w.heap.size+1:=by omega
     have nz':w.heap.size+1≠w2.heap.size:=by omega
     go_region_held3 (fun w'=>w'.cell? ⟨w2.heap.size,0,none⟩=some (.bool neg')∧w'.cell? ⟨w2.heap.size,1,none⟩=some (.slice a2 n2 c2)) (go_keep)
      (first
       | (go_at_call 43;refine (zD 1 _ (by decide) (by decide)).mono ?_;rintro r w3 ⟨neg3,a3,n3,c3,rfl,hZ3,hb3⟩;obtain ⟨hsz3,kC3,hfz3⟩:=kK (w2.heap.size+1) (by simp) hb3)
       | (go_at_call 72;refine (zAL _ _ _ _ _ _ _ _ m 4 _ _ _ (hint.bw (zB (bl1 _ _).drew hb3)) hZ3 (by omega) (by omega)).mono ?_;rintro r w4 ⟨neg4,a4,n4,c4,rfl,hZ4,hb4⟩;obtain ⟨hsz4,kC4,hfz4⟩:=kK (w2.heap.size+1) hsz3 hb4;have y1:=Nat.le_succ_of_le hz1;have y0:w2.cell? ⟨w.heap.size+1,0,none⟩=some (.bool false):=(kC2 _ _ (Nat.le_refl _)).trans q3;have y2:w2.cell? ⟨w.heap.size+1,1,none⟩=some (.slice none 0 0):=(kC2 _ _ (Nat.le_refl _)).trans q4;have y3:∀ o,w2.frozen? ⟨w.heap.size+1,o,none⟩=false:=fun o=>(hfz2 _ _ (Nat.le_refl _)).trans (q5 o)))
     go_wp2;have h0:w4.cell? ⟨w.heap.size+1,0,none⟩=some (.bool false):=by rw[kC4 _ _ y1,kC3 _ _ y1];exact (World.cell?_alloc_past _ _ _ hz1).trans y0
     have h1':w4.cell? ⟨w.heap.size+1,1,none⟩=some (.slice none 0 0):=by rw[kC4 _ _ y1,kC3 _ _ y1];exact (World.cell?_alloc_past _ _ _ hz1).trans y2
     refine bodyPost_ret (v:=.agg #[.bool neg4,.slice a4 n4 c4]) (by simp[results,Tryz.results105,go_sem,h0,h1']) rfl ⟨neg4,a4,n4,c4,rfl,?_,?_⟩
     ·rw[zA HE] at hZ4
      exact (hZ4.put2 h0 h1' _ _).mono (by omega)
     ·exact ((zB (zB (zK (zB (b3.trans (hbl.mono (by omega))) hb2) _).drew hb3) hb4).setCell (p:=⟨w.heap.size+1,0,none⟩) (Nat.le_succ _) _).setCell (p:=⟨w.heap.size+1,1,none⟩) (Nat.le_succ _) _
   ·cases neg
    ·have HE:=zC (show sgn false (V o m)=sgn false (V d i)/Q k by simp only[sgn];exact (zCI hQk f1 f2 f3).symm)
     clear f1 f2 f3 hl;go_wp2_with (go_at_call 125;refine (zAZ _ _ _ _ o _ (zA HR)).mono ?_;rintro r w2 ⟨neg',a2,n2,c2,rfl,hint,hb2⟩;obtain ⟨hsz2,kC2,hfz2⟩:=kK (w.heap.size+1+1) hsw hb2;have hz0:=Nat.lt_of_lt_of_le (Nat.lt_succ_of_lt (Nat.lt_succ_self w.heap.size)) hsz2;have hz1:=Nat.lt_of_lt_of_le (Nat.lt_succ_self (w.heap.size+1)) hsz2);refine bodyPost_ret (v:=.agg #[.bool neg',.slice a2 n2 c2]) (by simp[results,Tryz.results105,go_sem,kC2,hz0,hz1,q3,q4]) rfl ⟨neg',a2,n2,c2,rfl,?_,?_⟩
     ·have h0:w2.cell? ⟨w.heap.size+1,0,none⟩=some (.bool false):=by simp[kC2,q3]
      have h1':w2.cell? ⟨w.heap.size+1,1,none⟩=some (.slice none 0 0):=by simp[kC2,q4]
      rw[zA HE] at hint;exact ((hint.put2 h0 h1' _ _).bw (bl1 _ _)).mono (by omega)
     ·exact zK (((zB (b3.trans (hbl.mono (by omega))) hb2).setCell (p:=⟨w.heap.size+1,0,none⟩) (Nat.le_succ _) _).setCell (p:=⟨w.heap.size+1,1,none⟩) (Nat.le_succ _) _) _
    ·have HE:=zC (show sgn true (V o m)=sgn true (V d i)/Q k by simp only[sgn];exact (zFV hQk (by rw[f1,hl];omega)).symm)
     clear f1 f2 f3 hl;go_wp2_with (go_at_call 125;refine (zAZ _ _ _ _ o _ (zA HR)).mono ?_;rintro r w2 ⟨neg',a2,n2,c2,rfl,hint,hb2⟩;obtain ⟨hsz2,kC2,hfz2⟩:=kK (w.heap.size+1+1) hsw hb2;have hz0:=Nat.lt_of_lt_of_le (Nat.lt_succ_of_lt (Nat.lt_succ_self w.heap.size)) hsz2;have hz1:=Nat.lt_of_lt_of_le (Nat.lt_succ_self (w.heap.size+1)) hsz2);refine bodyPost_ret (v:=.agg #[.bool neg',.slice a2 n2 c2]) (by simp[results,Tryz.results105,go_sem,kC2,hz0,hz1,q3,q4]) rfl ⟨neg',a2,n2,c2,rfl,?_,?_⟩
     ·have h0:w2.cell? ⟨w.heap.size+1,0,none⟩=some (.bool false):=by simp[kC2,q3]
      have h1':w2.cell? ⟨w.heap.size+1,1,none⟩=some (.slice none 0 0):=by simp[kC2,q4]
      rw[zA HE] at hint;exact ((hint.put2 h0 h1' _ _).bw (bl1 _ _)).mono (by omega)
     ·exact zK (((zB (b3.trans (hbl.mono (by omega))) hb2).setCell (p:=⟨w.heap.size+1,0,none⟩) (Nat.le_succ _) _).setCell (p:=⟨w.heap.size+1,1,none⟩) (Nat.le_succ _) _) _
theorem zA2 (neg:Bool) (a:Option Addr) (n cap k k1:Nat) (x:Int) (w:World) (h1:IntAt w neg a n cap k1 x) (hk1:k1≤1000000000) (hk:k≤1000000000) :
  Calls Tryz.prog 105 #[.agg #[.bool neg,.slice a n cap],.int .i64 k] w fun r w' =>
   ∃ neg' a' n' cap',r=.returned (.agg #[.bool neg',.slice a' n' cap'])∧IntAt w' neg' a' n' cap' (k1+5) (x/Q k)∧Below w.heap.size w w':=by
 obtain ⟨d,g1,g2,g3,g4,rfl⟩:=h1;exact (down_any neg a n cap k d w g1 (by omega) hk).mono fun _ _ ⟨n1,n2,n3,n4,q1,q2,q3⟩=>⟨n1,n2,n3,n4,q1,q2.mono (by omega),q3⟩
theorem down_neg (neg:Bool) (a:Option Addr) (n cap k k1:Nat) (x:Int) (w:World) (h1:IntAt w neg a n cap k1 x) (hk1:k1≤1000000000) (hk:k≤1000000000) (hk0:0<k) :
  Calls Tryz.prog 105 #[.agg #[.bool neg,.slice a n cap],.int .i64 (-(k:Int))] w fun r w' =>
   ∃ neg' a' n' cap',r=.returned (.agg #[.bool neg',.slice a' n' cap'])∧IntAt w' neg' a' n' cap' (k/16+k1+1) (x*Q k)∧Below w.heap.size w w':=by
 have hneg : -(k:Int)<0:=by omega
 go_enter Tryz.func105,Tryz.ntmps105
 go_wp2_with (go_at_call 95;refine (zAS _ _ _ _ k k1 x _ (h1.bw (bl2 _ _ _)) hk1 hk).mono ?_;rintro r w2 ⟨neg',a2,n2,c2,rfl,hint,hb2⟩;obtain ⟨hsz2,kC2,hfz2⟩:=kK (w.heap.size+1+1) (by simp) hb2)
 have h0:w2.cell? ⟨w.heap.size+1,0,none⟩=some (.bool false):=by simp[kC2,go_sem]
 have h1':w2.cell? ⟨w.heap.size+1,1,none⟩=some (.slice none 0 0):=by simp[kC2,go_sem]
 refine bodyPost_ret (v:=.agg #[.bool neg',.slice a2 n2 c2]) (by simp[results,Tryz.results105,go_sem,h0,h1']) rfl ⟨neg',a2,n2,c2,rfl,?_,?_⟩
 ·exact hint.put2 h0 h1' _ _
 ·exact ((zB (bl2 _ _ _) hb2).setCell (p:=⟨w.heap.size+1,0,none⟩) (Nat.le_succ _) _).setCell (p:=⟨w.heap.size+1,1,none⟩) (Nat.le_succ _) _
def zAU (x k:Int):Int:=if 0≤k then x/Q k.toNat else x*Q (-k).toNat
theorem zD6 (neg:Bool) (a:Option Addr) (n cap k1:Nat) (k x:Int) (w:World) (h1:IntAt w neg a n cap k1 x) (hk1:k1≤1000000000) (hk0 : -1000000000≤k) (hk:k≤1000000000) :
  Calls Tryz.prog 105 #[.agg #[.bool neg,.slice a n cap],.int .i64 k] w fun r w' =>
   ∃ neg' a' n' cap',r=.returned (.agg #[.bool neg',.slice a' n' cap'])∧IntAt w' neg' a' n' cap' ((-k).toNat/16+k1+5) (zAU x k)∧Below w.heap.size w w':=by
 unfold zAU
 by_cases h:0≤k
 ·obtain ⟨K,rfl⟩:=Int.eq_ofNat_of_zero_le h
  rw[if_pos h,Int.toNat_natCast];exact (zA2 neg a n cap K k1 x w h1 hk1 (by omega)).mono fun _ _ ⟨n1,n2,n3,n4,q1,q2,q3⟩=>⟨n1,n2,n3,n4,q1,q2.mono (by omega),q3⟩
 ·rw[if_neg h]
  obtain ⟨K,hK⟩:∃ K:Nat,k = -(K:Int):=⟨(-k).toNat,by omega⟩
  subst hK;rw[show (- -(K:Int)).toNat=K by omega]
  exact (down_neg neg a n cap K k1 x w h1 hk1 (by omega) (by omega)).mono fun _ _ ⟨n1,n2,n3,n4,q1,q2,q3⟩=>⟨n1,n2,n3,n4,q1,q2.mono (by omega),q3⟩
end Go.Proofs.YtgmnknmjainababGreat
