/-
  Its own texts.
-/
import Derived.Laws.CopyOwn
import Derived.Deep.RegionHeld3
import Derived.Test.YtgmnknmjainabacGreatI02
set_option maxRecDepth 100000
set_option maxHeartbeats 40000000
set_option linter.unnecessarySimpa false
set_option linter.unusedSimpArgs false
set_option linter.unusedVariables false
namespace Go.Proofs.YtgmnknmjainabacGreat
open Go.RowKit
def zFD (u f:Nat->Int) (j i:Nat):Int:=if i<j then u i else f (i-j)
theorem zS2 {u f:Nat->Int} (hu:Dgs u) (hf:Dgs f) (j:Nat):Dgs (zFD u f j):=by
 intro i;unfold zFD;split
 ·exact hu i
 ·exact hf _
theorem zNR (u f:Nat->Int) (j L:Nat):Tp (zFD u f j) j L=V f (L-j):=by
 unfold Tp;exact zCK _ (λ i _=>by simp only[zFD];rw[if_neg (by omega)];congr 1;omega)
theorem V_low (u:Nat->Int) {j L:Nat} (h:j<=L):V u L=V u j+P j*Tp u j L:=by
 unfold Tp;have:=zHQ u j (L-j);rw[show j+(L-j)=L by omega] at this
 exact this
theorem zS4 (u f:Nat->Int) (j:Nat):V (zFD u f j) j=V u j:=zCK _ (λ i hi=>by simp[zFD,hi])
theorem div_step {u o f:Nat->Int} {j L M:Nat} {A D q:Int} (hjL:j<L) (hjM:j<M) (hA:A=V u L+D*(P (j+1)*Tp o (j+1) M)) (hf:V f (L-j)=Tp u j L-q*D) :
  A=V (zFD u f j) L+D*(P j*Tp (upd o j q) j M):=by
 rw[V_low (zFD u f j) (Nat.le_of_lt hjL),zS4,zNR,hf,zFU (upd o j q) j M hjM,Tp_upd];have h1:upd o j q j=q:=by simp[upd]
 rw[h1,hA,V_low u (Nat.le_of_lt hjL)];generalize Tp u j L=U;generalize Tp o (j+1) M=T;simp only[P];rw[Int.mul_sub,Int.mul_add,Int.mul_add];have e1:P j*(q*D)=D*(P j*q):=by rw[Int.mul_comm q D,<- Int.mul_assoc,<- Int.mul_assoc,Int.mul_comm (P j) D]
 have e2:D*(P j*(65536*T))=D*(65536*P j*T):=by rw[<- Int.mul_assoc (P j),Int.mul_comm (P j) 65536]
 omega
theorem div_hat {u v:Nat->Int} {j L n:Nat} (hu:Dgs u) (hv:Dgs v) (hn:0<n) (hL:j+n<L) (hU:Tp u (j+1) L<V v n) (q:Int) (hq:q*V v n<=Tp u j L) (nH:0<=q) :
  q*v (n-1)<=u (j+n)*65536+u (j+n-1)/\q<65536:=by
 have hD:=zHP hv n;have hT1:=zFU u j L (by omega)
 have Ds:=hu j;have Qn:0<V v n:=by have:=zD6 hu (j+1) L;omega
 have Yl:Tp u j L<65536*V v n:=by omega
 have aX:q<65536:=by
  rcases Int.lt_or_le q 65536 with h|h
  ·exact h
  ·have:=YA h (show 0<=V v n by omega);omega
 refine⟨?_,aX⟩;have hs:=zHQ (λ t=>u (j+t)) (n+1) (L-j-(n+1))
 rw[show n+1+(L-j-(n+1))=L-j by omega] at hs
 have Aw:Tp u j L=V (λ t=>u (j+t)) (n+1)+P (n+1)*V (λ t=>u (j+(n+1+t))) (L-j-(n+1)):=hs
 have Ag:=jC (λ t=>hu (j+(n+1+t))) (L-j-(n+1))
 have tk:=jC (λ t=>hu (j+t)) (n+1)
 have hPn:=yT (n+1);have hP1:P (n+1)=65536*P n:=rfl
 have hR:V (λ t=>u (j+(n+1+t))) (L-j-(n+1))=0:=by
  rcases Int.lt_or_le (V (λ t=>u (j+(n+1+t))) (L-j-(n+1))) 1 with h|h
  ·omega
  ·have:=YD h (show 0<=P (n+1) by omega)
   omega
 rw[hR,Int.mul_zero,Int.add_zero] at Aw;obtain⟨m,rfl⟩:∃ m,n=m+1:=⟨n-1,by omega⟩
 have e1:V (λ t=>u (j+t)) (m+1+1)=V (λ t=>u (j+t)) m+u (j+m)*P m+u (j+(m+1))*(65536*P m):=rfl
 have e2:V v (m+1)=V v m+v m*P m:=rfl;have b1:=zHP (λ t=>hu (j+t)) m
 have b2:=jC hv m;have hp:=yT m;simp only[Nat.add_sub_cancel];rw[show j+(m+1)-1=j+m by omega]
 have h5:q*(v m*P m)<=q*V v (m+1):=YD (by omega) nH
 have h6:q*v m*P m<(u (j+(m+1))*65536+u (j+m)+1)*P m:=by
  rw[Int.mul_assoc,Int.add_mul,Int.add_mul,Int.one_mul,Int.mul_assoc (u (j+(m+1)))];omega
 have h7:q*v m<u (j+(m+1))*65536+u (j+m)+1:=Int.lt_of_mul_lt_mul_right h6 (by omega)
 omega
theorem row_take {c:Array Value} {N n:Nat} {f:Nat->Int} (hc:∀ i,i<N->c[i]?=some (.int .u16 (f i))) (hn:n<=N):c.toList.take n=yH f n:=by
 apply List.ext_getElem?
 intro j
 rw[List.getElem?_take]
 by_cases hj:j<n
 ·rw[if_pos hj,zB6 f n j hj,Array.getElem?_toList];exact hc j (by omega)
 ·rw[if_neg hj];symm;rw[List.getElem?_eq_none_iff,yK];omega
theorem row_own {w:World} {b t N n base:Nat} {f:Nat->Int} (h:w.rowIs b t N (λ j=>.int .u16 (f j))) (hn:n<=N) (hN:N<=4611686018427387904) (hb:base<=b):Own w base t (some ⟨b,0,none⟩) n N f:=by
 obtain⟨c,h1,h2,h3⟩:=h;refine⟨by rw[yK];omega,Or.inr ⟨b,N,c,rfl,hb,h1,hn,by unfold maxLen;omega,by omega,?_⟩⟩
 rw[Nat.mul_one];exact row_take h3 hn
theorem up_own (neg:Bool) (a:Option Addr) (n cap k:Nat) (d:Nat->Int) (w:World) (ha:Dig w a n cap d) (hn:n<=1000000000) (hk:k<=1000000000) :
  Calls Tryz.prog 116 #[.agg #[.bool neg,.slice a n cap],.int .i64 k] w λ r w' =>
   ∃ g n' o7 o m8,r=.returned (.agg #[.bool m8,.slice (some ⟨g,0,none⟩) n' o7])/\Own w' w.heap.size 94 (some ⟨g,0,none⟩) n' o7 o/\Dgs o/\(n'=0\/o (n'-1)≠0)/\V o n'=V d n*Q k/\n'<=k/16+n+1/\Below w.heap.size w w':=by
 obtain⟨q,hq⟩:∃ q,q=k/16:=⟨_,rfl⟩;obtain⟨s,hs⟩:∃ s,s=k % 16:=⟨_,rfl⟩;have Rc:(k:Int)/16=(q:Int):=by omega
 have Aw:(k:Int) % 16=(s:Int):=by omega
 have mv:s<16:=by omega
 have pZ:¬ (k:Int)<0:=by omega
 obtain⟨W,hW⟩:∃ W,W=(w.alloc (.cells #[.bool neg,.slice a n cap] 29)).alloc (.cells #[.bool false,.slice none 0 0] 29):=⟨_,rfl⟩;have b3:Below w.heap.size w W:=by rw[hW];exact bl2 _ _ _
 have s3:W.heap.size=w.heap.size+1+1:=by rw[hW];simp
 have k0:W.cell? ⟨w.heap.size,0,none⟩=some (.bool neg):=by rw[hW];simp[go_sem]
 have k3:W.cell? ⟨w.heap.size+1,0,none⟩=some (.bool false):=by rw[hW];simp[go_sem]
 have k4:W.cell? ⟨w.heap.size+1,1,none⟩=some (.slice none 0 0):=by rw[hW];simp[go_sem]
 have k5:∀ o,W.frozen? ⟨w.heap.size+1,o,none⟩=false:=by intro o;rw[hW];simp[go_sem]
 have HW:=zC hW;clear hW;have aK:=run_make_row' (P:=Tryz.prog) 27 94 (.int .u16 0) 2 Tryz.underlying27 Tryz.infoU16 rfl .i64 .i64 (q+n+1) (by omega) (by omega)
 have fR:((q+n+1:Nat):Int)=(q:Int)+n+1:=by omega
 rw[fR] at aK;have Hq:=zC hq;have Hs:=zC hs;clear fR hq hs
 go_enter Tryz.func116,Tryz.ntmps116
 go_wp2;clear aK
 go_loopw [26] (λ ii wr=>∃ (i:Nat) (o:Nat->Int),i<=n/\ii=.int .i64 i/\wr.rowIs (w.heap.size+1+1) 94 (q+n+1) (λ j=>.int .u16 (o j))/\Dgs o/\V o (q+n+1)=V d i*Q s*P q/\(∀ j,i+q<j->o j=0)/\o (i+q)<Q s/\Below (w.heap.size+1+1) W wr) (λ ii _=>n-(intOf ii).toNat)
 case atStart =>
  refine⟨0,λ _=>0,Nat.zero_le _,rfl,?_,λ _=>⟨by simp,by simp⟩,?_,λ _ _=>rfl,?_,?_⟩
  ·have:=World.rowIs_made W (.int .u16 0) (q+n+1) 94
   rw[s3,zA HW] at this;exact this
  ·rw[zQA];simp[V]
  ·have:=zE s;simp;omega
  ·rw[zA HW];exact (Below.refl _ _).alloc (by simp) _
 case round =>
  obtain⟨i,o,hi,rfl,D3,O0,aS,cj,Ko,B9⟩:=hrel
  by_cases I7:i<n
  ·obtain⟨b1,o1,rfl,b9,D7⟩:=ha.at_ (by omega)
   have g1:wr.cell? ⟨b1,o1+i,none⟩=some (.int .u16 (d i)):=(B9.cell (p:=⟨b1,o1+i,none⟩) (by show b1<_;omega)).trans ((b3.cell (p:=⟨b1,o1+i,none⟩) b9).trans (D7 i I7))
   have db:=ha.dgs i;have r1:=D3.cell (show i+q<q+n+1 by omega)
   have r2:=D3.frozen (i+q);have r3:=D3.cell (show i+q+1<q+n+1 by omega)
   have r4:=D3.frozen (i+q+1);have G7:=cj (i+q+1) (by omega)
   rw[G7] at r3;have ob:=O0 (i+q);have HV:=zC aS;have HZ:=zC cj;have HR:=zC D3;have HD:=zC O0;have Ic:=zC G7;clear D7 aS cj D3 O0 G7;obtain⟨c,mh⟩:=up_low (d i) s (by omega)
   have hhigh:=zMD (d i) s db.1 db.2;have D5:=up_lt (d i) s mv db.1 db.2;have Z5:d i*2 ^ s % 4294967296=d i*Q s:=by rw[zOH];omega
   have mj:=or16 (o (i+q)) (d i*Q s % 65536) c s (by omega) ob.1 Ko mh (by omega) (by omega)
   have mo:=or16 0 (d i*Q s/65536) (d i*Q s/65536) 0 (by omega) (by omega) (by simp[Q]) (by simp[Q]) hhigh.1 (by omega)
   have H1:=zC (show bits .or .u16 (o (i+q)) (IntKind.u16.wrap (d i*2 ^ s % 4294967296))=o (i+q)+d i*Q s % 65536 by rw[Z5,zAX];exact mj.1)
   have H2:=zC (show bits .or .u16 0 (d i*2 ^ s % 4294967296/65536)=d i*Q s/65536 by rw[Z5,mo.1];omega)
   have H3:=zC mj.2;have H4:=zC hhigh;have tv:=zJ (show s<=15 by omega)
   have oc:Q 15=32768:=rfl;rw[oc] at tv;clear mh D5 Z5 mj mo hhigh oc;go_wp2
   go_roundw
   case rel =>
    have h3:=zA H3;have h4:=zA H4;have hne:i+q+1≠i+q:=by omega
    have hz:upd o (i+q) (o (i+q)+d i*Q s % 65536) (i+q+1)=0:=by simp[upd];exact zA Ic
    refine⟨i+1,upd (upd o (i+q) (o (i+q)+d i*Q s % 65536)) (i+q+1) (d i*Q s/65536),by omega,by go_num,zDI (zDI (zA HR) (i+q) (zA H1)) (i+q+1) (zA H2),kX (kX (zA HD) _ (by omega) h3) _ h4.1 (by omega),?_,λ j hj=>?_,?_,(B9.setCell (by simp) _).setCell (by simp) _⟩
    ·rw[zPR _ _ _ _ (by omega),zPR _ _ _ _ (by omega),hz,zA HV]
     exact up_alg (V d i) (d i) (o (i+q)) i q s
    ·have e1:j≠i+q:=by omega
     have e2:j≠i+q+1:=by omega
     simp only[upd,e1,e2,if_false];exact zA HZ j (by omega)
    ·have e1:i+1+q=i+q+1:=by omega
     rw[e1];simp only[upd,if_true];exact h4.2
   case measure=>simp[intOf];omega
  ·have hiE:i=n:=by omega
   subst hiE;have q0:wr.cell? ⟨w.heap.size,0,none⟩=some (.bool neg):=(B9.cell (p:=⟨w.heap.size,0,none⟩) (by show w.heap.size<_;omega)).trans k0
   have q3:wr.cell? ⟨w.heap.size+1,0,none⟩=some (.bool false):=(B9.cell (p:=⟨w.heap.size+1,0,none⟩) (by simp)).trans k3
   have q4:wr.cell? ⟨w.heap.size+1,1,none⟩=some (.slice none 0 0):=(B9.cell (p:=⟨w.heap.size+1,1,none⟩) (by simp)).trans k4
   have q5:∀ o,wr.frozen? ⟨w.heap.size+1,o,none⟩=false:=λ o=>(B9.frozen (p:=⟨w.heap.size+1,o,none⟩) (by simp)).trans (k5 o)
   have T8:=B9.size;rw[s3] at T8;have HR:=zC (zFA D3 O0 (by omega))
   have Bl:=zC D3;have HO:=zC O0;have HV:=zC aS;clear aS cj D3 O0;go_wp2_with (go_at_call 70;refine (of_any _ _ _ _ o _ (zA HR)).mono ?_;rintro r w2 ⟨rfl,j8⟩;obtain⟨E2,E4,F9⟩:=jJ (w.heap.size+1+1) T8 j8);have tl:=zBT o (q+i+1);refine bodyPost_ret (v:=.agg #[.bool (neg && decide (0<kD o (q+i+1))),.slice (some ⟨w.heap.size+1+1,0,none⟩) (kD o (q+i+1)) (q+i+1)]) (by simp[results,Tryz.results116,go_sem,E4,q3,q4]) rfl ⟨w.heap.size+1+1,kD o (q+i+1),q+i+1,o,_,rfl,?_,zA HO,zCF _ _,?_,?_,?_⟩
   ·refine row_own ?_ tl (by omega) (by omega)
    have O9:w2.rowIs (w.heap.size+1+1) 94 (q+i+1) (λ j=>.int .u16 (o j)):=(zA Bl).of_block (j8.block _ (zA Bl).lt)
    exact (O9.setOther (by simp) _).setOther (by simp) _
   ·rw[zDJ,zA HV,Int.mul_assoc,zA Hs,zA Hq,<- zK8]
   ·have:=zA Hq;omega
   ·exact ((zB (b3.trans (B9.mono (by omega))) j8).setCell (by simp) _).setCell (by simp) _
def OwnL (w:World) (g t L C:Nat) (u:Nat->Int):Prop:=∃ cur:List Value,w.heap[g]?=some (.cells cur.toArray t (0,0))/\cur.length=C/\L<=C/\∀ j,j<L->cur[j]?=some (.int .u16 (u j))
theorem OwnL.lt {w:World} {g t L C:Nat} {u:Nat->Int} (h:OwnL w g t L C u):g<w.heap.size:=by
 obtain⟨cur,h1,_⟩:=h;exact (Array.getElem?_eq_some_iff.1 h1).1
theorem OwnL.cell {w:World} {g t L C:Nat} {u:Nat->Int} (h:OwnL w g t L C u) {j:Nat} (hj:j<L):w.cell? ⟨g,j,none⟩=some (.int .u16 (u j)):=by
 obtain⟨cur,h1,h2,h3,h4⟩:=h;simp[World.cell?,h1,h4 j hj]
theorem OwnL.of_block {w w':World} {g t L C:Nat} {u:Nat->Int} (h:OwnL w g t L C u) (e:w'.heap[g]?=w.heap[g]?):OwnL w' g t L C u:=by
 obtain⟨cur,h1,h2⟩:=h;exact⟨cur,e.trans h1,h2⟩
theorem OwnL.bw {w w':World} {g t L C:Nat} {u:Nat->Int} (h:OwnL w g t L C u) (hb:Below w.heap.size w w'):OwnL w' g t L C u:=h.of_block (hb.block _ h.lt)
theorem OwnL.dig {w:World} {g t L C:Nat} {u:Nat->Int} (h:OwnL w g t L C u) (hu:Dgs u) (off:Nat) (ho:off<=L) (hL:L<=70368744177664):Dig w (some ⟨g,off,none⟩) (L-off) (C-off) (λ i=>u (off+i)) :=
 ⟨λ _=>⟨g,off,rfl,h.lt,λ j hj=>h.cell (by omega)⟩,λ j=>hu _,by obtain⟨_,_,_,h3,_⟩:=h;omega,by omega⟩
theorem ownL_of {w:World} {base t g L C:Nat} {u:Nat->Int} (h:Own w base t (some ⟨g,0,none⟩) L C u):OwnL w g t L C u/\base<=g:=by
 have h':w.ownsRow base t 1 (.slice (some ⟨g,0,none⟩) L C) L (yH u L):=h
 rcases h'.2 with⟨hv,h0⟩|⟨g',c2,cur,hv,hb,h1,h2,h3,h4,h5⟩
 ·cases hv
 ·simp only[Value.slice.injEq,Option.some.injEq,Addr.mk.injEq] at hv
  obtain⟨⟨rfl,_,_⟩,_,rfl⟩:=hv;refine⟨⟨cur.toList,by simpa using h1,by simp;omega,h2,λ j hj=>?_⟩,hb⟩
  have h6:=zB6 u L j hj;rw[<- h5,List.getElem?_take,if_pos (by omega)] at h6
  exact h6
theorem OwnL.splice {w w':World} {g t L C:Nat} {u f:Nat->Int} (h:OwnL w g t L C u) (j:Nat) (hj:j<=L)
  (cur:List Value) (hc:w.heap[g]?=some (.cells cur.toArray t (0,0))) (h':w'.heap[g]?=some (.cells (Go.splice cur j (yH f (L-j))).toArray t (0,0))):OwnL w' g t L C (zFD u f j):=by
 obtain⟨Iw,h1,h2,h3,h4⟩:=h
 have e:Iw=cur:=by
  rw[hc] at h1;have:=Option.some.inj h1;simp only[Obj.cells.injEq] at this;have h5:=congrArg Array.toList this.1
  simpa using h5.symm
 subst e;refine⟨_,h',?_,h3,λ i hi=>?_⟩
 ·rw[length_splice _ _ _ (by rw[yK];omega)];exact h2
 ·unfold Go.splice zFD
  by_cases lK:i<j
  ·rw[if_pos lK,List.getElem?_append_left (by rw[List.length_take];omega),List.getElem?_take,if_pos lK];exact h4 i hi
  ·rw[if_neg lK,List.getElem?_append_right (by rw[List.length_take];omega),List.length_take,Nat.min_eq_left (by omega),List.getElem?_append_left (by rw[yK];omega),zB6 _ _ _ (by omega)]
theorem zOP (d:Nat->Int) (n:Nat):yH (upd (upd d n 0) (n+1) 0) (n+2)=yH d n ++ [.int .u16 0,.int .u16 0]:=by
 rw[show n+2=n+1+1 from rfl,zEQ,zEQ,List.append_assoc];rfl
theorem zEZ {Pr:Program} (w:World) {ops:Array Oper} {rest:List Oper} {o:Oper} {act:Act} {Q:Exit->Act->World->Prop} (CS:o.guard=none) (s x:Operand) (t:TypeId)
  (ho:o.op=.call { callee:=.builtin .append,args:=#[s,x],argTypes:=#[t,t] })
  (base:Nat) (e:TypeId) (ht:Pr.underlying t=some (.slice e)) (hinfo:(Pr.info? e).map (λ i=>(i.zero,i.size,i.bytes))=some (some (.int .u16 0),1,2))
  (a:Option Addr) (n cap:Nat) (d:Nat->Int) (hs:act.eval s=.slice a n cap) (I1:Own w base e a n cap d) (g c:Nat) (hx:act.eval x=.slice (some ⟨g,0,none⟩) 2 c)
  (hv:w.cell? ⟨g,0,none⟩=some (.int .u16 0)) (Rn:w.cell? ⟨g,1,none⟩=some (.int .u16 0)) (hn:n<=1000000000) (hbase:base<=w.heap.size)
  (h:∀ g' o7 w',Own w' base e (some ⟨g',0,none⟩) (n+2) o7 (upd (upd d n 0) (n+1) 0)->Below base w w'->wpList Pr ops Q rest (act.put o.dst (.slice (some ⟨g',0,none⟩) (n+2) o7)) w'):wpList Pr ops Q (o :: rest) act w:=by
 obtain⟨i,hi,X9,G7,M6⟩:=info_parts hinfo;have D5:∀ k,(Value.slice a n cap).ownBlock=some k->base<=k:=λ k hk=>(World.ownsRow.lt I1 k hk).1
 refine wpList_append_lies w CS s x t ho base e i (.int .u16 0) 1 2 ht hi X9 G7 M6 rfl (by decide) (.slice a n cap) n (yH d n) hs I1 ⟨g,0,none⟩ 2 c [.int .u16 0,.int .u16 0] hx rfl ?_ ?_ (by decide) ?_ ?_ hbase _ rfl ?_
 ·intro j u hj
  match j,hj with
  | 0,hj=>simp at hj;subst hj;rw[zFX];exact hv
  | 1,hj=>simp at hj;subst hj;rw[zFX];exact Rn
 ·intro u hu;simp at hu;subst hu;rfl
 ·unfold maxLen;omega
 ·omega
 ·intro g' o7 w' aC hgrow _ _
  rw[<- zOP] at aC;exact h _ _ _ aC ((Below.refl base w).grown hgrow hbase D5)
theorem or64' (a b c:Int) (ha:0<=a) (Z8:a<65536) (hb:b=65536*c) (oy:0<=c) (D7:c<281474976710656):bits .or .u64 a b=a+b:=by
 obtain⟨A,rfl⟩:=Int.eq_ofNat_of_zero_le ha;obtain⟨C,rfl⟩:=Int.eq_ofNat_of_zero_le oy;have h3:=zNQ A (65536*C) C 16 (by omega) (by omega)
 have M8:b=((65536*C:Nat):Int):=by omega
 rw[M8,u64_or_nat A (65536*C) (by omega) (by omega),h3]
 omega
attribute [local go_sem ↓] Go.wp_at_zero Go.wp_at_succ
def LongI (A D:Int) (L N J:Nat) (u o:Nat->Int):Prop:=Dgs u/\Dgs o/\A=V u L+D*(P J*Tp o J N)/\Tp u J L<D
theorem zO2 {A:Int} {u0 v:Nat->Int} {n1 n2 N:Nat} (hu:Dgs u0) (hv:Dgs v) (gN:0<n1) (KO:n1=0\/v (n1-1)≠0) (hA:V u0 n2=A) (hN:N+n1=n2+2) :
  LongI A (V v n1) (n2+2) N N (upd (upd u0 n2 0) (n2+1) 0) (λ _=>0):=by
 have hz:Dgs (upd (upd u0 n2 0) (n2+1) 0):=kX (kX hu _ (by omega) (by omega)) _ (by omega) (by omega)
 refine⟨hz,λ _=>⟨by simp,by simp⟩,?_,?_⟩
 ·rw[zMM,Int.mul_zero,Int.mul_zero,Int.add_zero,<- hA]
  show _=V _ n2+_*P n2+_*P (n2+1)
  have e1:V (upd (upd u0 n2 0) (n2+1) 0) n2=V u0 n2:=zCK _ (λ j hj=>by simp only[upd];rw[if_neg (by omega),if_neg (by omega)])
  have e2:upd (upd u0 n2 0) (n2+1) 0 n2=0:=by simp[upd]
  have e3:upd (upd u0 n2 0) (n2+1) 0 (n2+1)=0:=by simp[upd]
  rw[e1,e2,e3];omega
 ·obtain⟨k,rfl⟩:∃ k,n1=k+1:=⟨n1-1,by omega⟩
  unfold Tp;rw[show n2+2-N=k+1 by omega]
  have h1:=zHP (λ t=>hz (N+t)) k
  have h2:=V_ge hv k (by simpa using KO)
  have e3:upd (upd u0 n2 0) (n2+1) 0 (N+k)=0:=by rw[show N+k=n2+1 by omega];simp[upd]
  show V _ k+upd (upd u0 n2 0) (n2+1) 0 (N+k)*P k<_
  rw[e3];omega
theorem zI3 {Pr:Program} {ops:Array Oper} {o:Oper} {a:Act} {w:World} {K:Act->World->Prop} {Q:Exit->Act->World->Prop} {E:Prop} (CS:o.guard=none) (x y:Operand) (t:TypeId)
  (ho:o.op=.call { callee:=.builtin .copy,args:=#[x,y],argTypes:=#[t,t] }) (e:TypeId) (hut:Pr.underlying t=some (.slice e)) (X7:(Pr.info? e).map (·.size)=some 1)
  (g j L C cd cs:Nat) (sp:Option Addr) (u f:Nat->Int) (hd:a.eval x=.slice (some ⟨g,j,none⟩) (L-j) cd) (hs:a.eval y=.slice sp (L-j) cs) (I1:OwnL w g e L C u) (hf:Dig w sp (L-j) cs f) (hj:j<L)
  (B:Nat) (w0:World) (hb:Below B w0 w) (XJ:B<=g)
  (hK:∀ w',OwnL w' g e L C (zFD u f j)->Below B w0 w'->(∀ k,k≠g->w'.heap[k]?=w.heap[k]?)->w'.heap.size=w.heap.size->K (a.put o.dst (goInt (yH f (L-j)).length)) w') :
  if Region.wanted o (yielded ops a.tmps)=true then Oper.wp Pr o a w K Q else E:=by
 have hw:Region.wanted o (yielded ops a.tmps)=true:=by simp[Region.wanted,CS]
 rw[if_pos hw];have aC:=I1;obtain⟨cur,h1,h2,h3,h4⟩:=I1;obtain⟨b,off,rfl,vA,hcells⟩:=hf.at_ (by omega)
 have wT:=run_copy_row (P:=Pr) w t t o.type e g j (L-j) cd ⟨b,off,none⟩ (L-j) cs cur.toArray e (yH f (L-j)) hut X7 h1 (by rw[yK];simp)
  (λ i v hv=>by
   obtain⟨q1,q2⟩:=zF0 hv
   rw[zFX,q2];exact hcells i q1) (by rw[yK];simp;omega) (zG3 _ _)
 unfold Oper.wp;simp[execOp,ho,resolve,invoke,builtin,hd,hs,wT,Result.andThen];refine hK _ (aC.splice j (by omega) cur h1 ?_) (below_setRow hb XJ _) (λ k hk=>setRow_other w g k _ (by first|exact hk|exact λ e=>hk e.symm)) ?_
 ·simpa [Go.splice] using setRow_heap w g _ _ e _ h1
 ·simp[World.setRow]
theorem Tryz.sizeU16:(Tryz.prog.info? 94).map (·.size)=some 1:=by kernel_rfl
theorem zSD {A D:Int} {L N j:Nat} {u o f:Nat->Int} {q:Int} (hjL:j<L) (hjN:j<N) (hD:0<D) (hA:A=V u L+D*(P (j+1)*Tp o (j+1) N)) (du:Dgs u) (do_:Dgs o) (df:Dgs f) (hq:q=Tp u j L/D) (nH:0<=q) (aX:q<65536)
  (hf:V f (L-j)=Tp u j L-D*q):LongI A D L N j (zFD u f j) (upd o j q):=by
 refine⟨zS2 du df j,kX do_ j nH aX,div_step hjL hjN hA (by rw[hf,Int.mul_comm D q]),?_⟩
 rw[zNR,hf,hq];have h1:=Int.mul_ediv_add_emod (Tp u j L) D;have h2:=Int.emod_lt_of_pos (Tp u j L) hD;omega
theorem trim_cmp {d e:Nat->Int} (hd:Dgs d) (he:Dgs e) (n m:Nat):zG0 d e (kD d n) (kD e m)=zM (V d n) (V e m):=by
 rw[zJJ hd he _ _ (zCF d n) (zCF e m),zDJ,zDJ]
theorem field1 (x:Bool) (a:Option Addr) (n c:Nat) (w:World):(Instr.field 29 (.agg #[.bool x,.slice a n c]) 1).run Tryz.prog w=.ok (.slice a n c) w:=by kernel_rfl
theorem zS5 (a c : Option Addr) (n m cap cap2 : Nat) (d e : Nat → Int) (w : World) (ha : Dig w a n cap d) (hc : Dig w c m cap2 e) (hn : n ≤ 900000000) (h1 : n = 0 ∨ d (n - 1) ≠ 0) (h2 : m = 0 ∨ e (m - 1) ≠ 0) (hm : 3 < m) (hge : V e m ≤ V d n) :
    Calls Tryz.prog 157 #[.slice a n cap, .slice c m cap2] w (zHO w d e n m) := by
  have hcv := zJJ ha.dgs hc.dgs n m h1 h2
  have hneg : ¬ zG0 d e n m < 0 := by rw [hcv]; unfold zM; rw [if_neg (by omega)]; split <;> omega
  have hm3 : ¬ (m : Int) ≤ 3 := by omega
  have hmr := hc.room
  have hml := hc.le
  have hmn : m ≤ n := zF6 hc.dgs h2 (Int.lt_of_le_of_lt hge (zHP ha.dgs n))
  have htop : 0 < e (m - 1) := by have := hc.dgs (m - 1); omega
  have htop2 := (hc.dgs (m - 1)).2
  obtain ⟨b2, o2, rfl, hb2, hc2⟩ := hc.at_ (by omega)
  have hct := hc2 (m - 1) (by omega)
  have hi : ((m : Int) - 1) = ((m - 1 : Nat) : Int) := by omega
  have hfd := field1
  clear hcv hc2
  go_enter Tryz.func157, Tryz.ntmps157
  go_wp2_with (go_at_call 53; refine (yG _ _ _ _ _ _ d e _ ha hc).mono ?_; rintro r w0 ⟨rfl, hb0⟩)
  have g1 : w0.cell? ⟨b2, o2 + (m - 1), none⟩ = some (.int .u16 (e (m - 1))) := (hb0.cell (p := ⟨b2, o2 + (m - 1), none⟩) hb2).trans hct
  go_loop [6] (fun k => ∃ s : Nat, k = .int .i64 s ∧ s ≤ 15 ∧ e (m - 1) * Q s < 65536) (fun k => 16 - (intOf k).toNat)
  case atStart => exact ⟨0, rfl, by omega, by simp [Q]; omega⟩
  case round =>
    obtain ⟨s, rfl, hs, hes⟩ := hrel
    have hq := zE s
    have hmod : IntKind.u16.wrap (e (m - 1) * 2 ^ s) = e (m - 1) * Q s := by
      rw [zAX, zOH]
      have : 0 ≤ e (m - 1) * Q s := Int.mul_nonneg (by omega) (by omega)
      omega
    by_cases hlt : e (m - 1) * Q s < 32768
    · have ht : IntKind.u16.wrap (e (m - 1) * 2 ^ s) < 32768 := by rw [hmod]; exact hlt
      have hs15 : s < 15 := by
        rcases Nat.lt_or_ge s 15 with h | h
        · exact h
        · have h5 := zJ h
          have e15 : Q 15 = 32768 := rfl
          have h6 := Int.mul_le_mul_of_nonneg_right (show 1 ≤ e (m - 1) by omega) (show 0 ≤ Q s by omega)
          omega
      have HN := zC (show e (m - 1) * Q (s + 1) < 65536 by simp only [Q]; rw [Int.mul_left_comm]; omega)
      clear hmod hlt hes
      go_wp2
      go_round
      case rel => exact ⟨s + 1, by go_num, by omega, zA HN⟩
      case measure => simp [intOf]; omega
    · have ht : ¬ IntKind.u16.wrap (e (m - 1) * 2 ^ s) < 32768 := by rw [hmod]; exact hlt
      clear hmod hlt
      have he0 : 0 < V e m := by
        have h5 := V_ge hc.dgs (m - 1) (by omega)
        rw [show m - 1 + 1 = m by omega] at h5
        have := yT (m - 1); omega
      go_wp2_with fail
      refine (up_any false _ m cap2 s e _ (hc.bw hb0) (by omega) (by omega)).mono ?_
      rintro r w1 ⟨neg1, a1, n1, c1, rfl, hZ1, hb1⟩
      obtain ⟨v, rfl, hn1, hv, hvtop, hn1k, hvV⟩ := zLR hZ1 (by simp only [sgn]; exact Int.mul_pos he0 (by omega))
      obtain ⟨k1, rfl⟩ : ∃ k1, n1 = k1 + 1 := ⟨n1 - 1, by omega⟩
      have HV := zC (show V v (k1 + 1) = V e m * Q s from hvV.symm)
      have hB1 := zB hb0 hb1
      clear hZ1 hvV g1 ht
      go_wp2_with fail
      refine (up_own false _ n cap s d _ (ha.bw hB1) (by omega) (by omega)).mono ?_
      rintro r w2 ⟨g0, n2, C2, u0, neg2, rfl, hown, hu0, hu0top, hu0V, hn2k, hb2'⟩
      have hn12 : k1 + 1 ≤ n2 := by
        refine zF6 hv.dgs hvtop ?_
        rw [zA HV]
        have h5 : V e m * Q s ≤ V d n * Q s := Int.mul_le_mul_of_nonneg_right hge (by omega)
        have h6 := zHP hu0 n2
        rw [hu0V] at h6
        omega
      have hn2b : n2 ≤ 900000100 := by omega
      have HU0 := zC hu0V
      obtain ⟨N, hN⟩ : ∃ N : Nat, (n2 : Int) + 2 - ((k1 : Int) + 1) = (N : Int) := ⟨n2 + 2 - (k1 + 1), by omega⟩
      have HNn := zC (show N + (k1 + 1) = n2 + 2 by omega)
      have hN1 : 0 < N := by omega
      have hsz2 := hb2'.size
      clear hu0V hes
      have hmk := run_make_row' (P := Tryz.prog) 27 94 (.int .u16 0) 2 Tryz.underlying27 Tryz.infoU16 rfl .i64 .i64 N (by omega) (by omega)
      go_wp2_with (at_builtin; refine zEZ _ rfl _ _ 27 rfl w1.heap.size 94 Tryz.underlying27 Tryz.infoU16 (some ⟨g0, 0, none⟩) n2 C2 u0 rfl (hown.alloc _) w2.heap.size 2 rfl (by simp [go_sem]) (by simp [go_sem]) (by omega) (by simp; omega) ?_; intro g C w3 hown3 hb3)
      clear hmk hown
      have HN := zC hN
      clear hN
      obtain ⟨hOL, hbg⟩ := ownL_of hown3
      have hB3 : Below w1.heap.size w1 w3 := (hb2'.alloc hsz2 _).trans hb3
      have hg3 := hOL.lt
      have hsz3 := hB3.size
      obtain ⟨bv, ov, rfl, hbv, hcv⟩ := hv.at_ hn1
      have hvt := hcv k1 (by omega)
      have HI := zC (zO2 hu0 hv.dgs hn1 hvtop (zA HU0) (zA HNn))
      clear hcv hown3 hb3 hb2'
      go_loopw [11] (fun jj wr => ∃ (J : Nat) (u o : Nat → Int), J ≤ N ∧ jj = .int .i64 ((J : Int) - 1) ∧ OwnL wr g 94 (n2 + 2) C u ∧ wr.rowIs w3.heap.size 94 N (fun j => .int .u16 (o j)) ∧ LongI (V d n * Q s) (V v (k1 + 1)) (n2 + 2) N J u o ∧ Below w1.heap.size w1 wr) (fun jj _ => (intOf jj + 1).toNat)
      case atStart => exact ⟨N, _, fun _ => 0, Nat.le_refl _, rfl, hOL.bw (bl1 _ _), World.rowIs_made w3 (.int .u16 0) N 94, zA HI, hB3.alloc hsz3 _⟩
      case round =>
        obtain ⟨J, u, o, hJ, rfl, hu, hrow, hI, hBr⟩ := hrel
        have hNn := zA HNn
        by_cases hJ0 : J = 0
        · subst hJ0
          obtain ⟨du, do_, hA, hT⟩ := hI
          have huD := hu.dig du 0 (by omega) (by omega)
          simp only [Nat.sub_zero, Nat.zero_add] at huD
          have huD2 : Dig wr (some ⟨g, 0, none⟩) (n2 + 2) C u := huD
          have hrowD := zFA hrow do_ (by omega)
          have HA := zC hA
          have HT := zC hT
          clear hA hT hrow hu
          go_wp2_with (first
            | (go_at_call 70; refine (zBP _ _ _ _ u _ huD2).mono ?_; rintro r w5 ⟨neg5, a5, n5, c5, rfl, hZ5, hb5⟩)
            | (go_at_call 96; refine (zHY _ _ _ _ s (n2 + 2) _ _ hZ5 (by omega) (by omega)).mono ?_; rintro r w6 ⟨neg6, a6, n6, c6, rfl, hZ6, hb6⟩))
          go_ret2
          obtain ⟨z6, p1, p2, p3, p4, p5⟩ := hZ6
          simp only [sgn] at p5
          have hQ := zE s
          have f0 := zA HA
          have f1 := zA HT
          have f2 := zA HV
          rw [zFV] at f1
          rw [zFV, show P 0 = 1 from rfl, Int.one_mul, f2] at f0
          rw [f2] at f1
          have f3 : V u (n2 + 2) = Q s * (V d n - V o N * V e m) := by
            rw [Int.mul_sub, Int.mul_comm (Q s) (V d n), f0]
            have : V e m * Q s * V o N = Q s * (V o N * V e m) := by rw [Int.mul_comm (V e m), Int.mul_assoc, Int.mul_comm (V e m)]
            omega
          have hu9 := jC du (n2 + 2)
          obtain ⟨R, hR⟩ : ∃ R, R = V d n - V o N * V e m := ⟨_, rfl⟩
          rw [← hR] at f3
          have f4 : V u (n2 + 2) / Q s = R := by rw [f3, Int.mul_ediv_cancel_left _ (by omega)]
          have hR0 : 0 ≤ R := by
            rcases Int.lt_or_le R 0 with h5 | h5
            · have h6 := Int.mul_le_mul_of_nonneg_left (show R ≤ -1 by omega) (show 0 ≤ Q s by omega)
              omega
            · exact h5
          have hR1 : R < V e m := by
            rcases Int.lt_or_le R (V e m) with h5 | h5
            · exact h5
            · have h6 := Int.mul_le_mul_of_nonneg_left h5 (show 0 ≤ Q s by omega)
              rw [Int.mul_comm (Q s) (V e m)] at h6
              omega
          have hz0 := jC p1.dgs n6
          have hpos : 0 < n6 → 1 ≤ V z6 n6 := fun h5 => by
            have h6 := V_ge p1.dgs (n6 - 1) (by omega)
            rw [show n6 - 1 + 1 = n6 by omega] at h6
            have := yT (n6 - 1); omega
          have hz : V z6 n6 = R ∧ (0 < n6 ↔ R ≠ 0) := by
            have hn0 : n6 = 0 → V z6 n6 = 0 := fun h5 => by rw [h5]; rfl
            rw [show (if false = true then -V u (n2 + 2) else V u (n2 + 2)) = V u (n2 + 2) from rfl, f4] at p5
            cases neg6
            · have h5 : R = V z6 n6 := p5
              refine ⟨h5.symm, fun h6 => by have := hpos h6; omega, fun h6 => ?_⟩
              rcases Nat.eq_zero_or_pos n6 with h7 | h7
              · have := hn0 h7; omega
              · exact h7
            · have h5 : R = -V z6 n6 := p5
              rcases Nat.eq_zero_or_pos n6 with h7 | h7
              · have := p3 h7; cases this
              · have := hpos h7; omega
          have hn6 : n6 ≤ n := zF6 p1.dgs p2 (by rw [hz.1]; have := zHP ha.dgs n; omega)
          have hs16 : s / 16 = 0 := by omega
          exact ⟨_, N, N, o, a6, n6, c6, R, rfl, hrowD.bw (zB hb5 hb6), by omega, hz.2, by omega, by rw [hR]; omega, hR0, hR1, zB (zB (hB1.trans (hBr.mono hB1.size)) hb5) hb6⟩
        · obtain ⟨j, rfl⟩ : ∃ j, J = j + 1 := ⟨J - 1, by omega⟩
          have e0 : ((j + 1 : Nat) : Int) - 1 = (j : Int) := by omega
          rw [e0]
          obtain ⟨du, do_, hA, hT⟩ := hI
          have y1 := hu.cell (show j + k1 < n2 + 2 by omega)
          have y2 := hu.cell (show j + (k1 + 1) < n2 + 2 by omega)
          have y3 : wr.cell? ⟨bv, ov + k1, none⟩ = some (.int .u16 (v k1)) := (hBr.cell (p := ⟨bv, ov + k1, none⟩) hbv).trans hvt
          have i4 : (j : Int) + ((k1 : Int) + 1) < (n2 : Int) + 2 := by omega
          have i5 : (j : Int) + (k1 : Int) < (n2 : Int) + 2 := by omega
          have b1 := du (j + k1)
          have b2 := du (j + (k1 + 1))
          have b3 := hv.dgs k1
          have b4 : 0 < v k1 := by have h9 : v k1 ≠ 0 := by simpa using hvtop
                                   omega
          clear e0
          have hL9 : n2 + 2 ≤ 1000000000 := by omega
          have hCge : n2 + 2 ≤ C := by obtain ⟨_, _, _, h3, _⟩ := hu; exact h3
          have hD : 0 < V v (k1 + 1) := by have := zD6 du (j + 1) (n2 + 2); omega
          obtain ⟨qs, hqs⟩ : ∃ qs, qs = Tp u j (n2 + 2) / V v (k1 + 1) := ⟨_, rfl⟩
          have hqs0 : 0 ≤ qs := by rw [hqs]; exact Int.ediv_nonneg (zD6 du _ _) (by omega)
          have hqm : qs * V v (k1 + 1) ≤ Tp u j (n2 + 2) := by rw [hqs]; exact Int.ediv_mul_le _ (by omega)
          obtain ⟨hh1, hh2⟩ := div_hat du hv.dgs (show 0 < k1 + 1 by omega) (show j + (k1 + 1) < n2 + 2 by omega) hT qs hqm hqs0
          rw [show j + (k1 + 1) - 1 = j + k1 by omega, show k1 + 1 - 1 = k1 by omega] at hh1
          have hor : bits BinOp.or IntKind.u64 (u (j + k1)) (u (j + (k1 + 1)) * 65536) = u (j + (k1 + 1)) * 65536 + u (j + k1) := by
            rw [or64' _ _ (u (j + (k1 + 1))) b1.1 b1.2 (by omega) b2.1 (by omega)]; omega
          have HX := zC (show IntKind.u64.wrap ((bits BinOp.or IntKind.u64 (u (j + k1)) (u (j + (k1 + 1)) * 65536)).tdiv (v k1)) = (u (j + (k1 + 1)) * 65536 + u (j + k1)) / v k1 by
            rw [hor, Int.tdiv_eq_ediv_of_nonneg (by omega), IntKind.wrap_u64]
            have g5 : 0 ≤ (u (j + (k1 + 1)) * 65536 + u (j + k1)) / v k1 := Int.ediv_nonneg (by omega) (by omega)
            have g6 : (u (j + (k1 + 1)) * 65536 + u (j + k1)) / v k1 ≤ u (j + (k1 + 1)) * 65536 + u (j + k1) := Int.ediv_le_self _ (by omega)
            omega)
          have HX2 := zC (show qs ≤ (u (j + (k1 + 1)) * 65536 + u (j + k1)) / v k1 from Int.le_ediv_of_mul_le b4 hh1)
          have HQ := zC hqs
          have HA := zC hA
          have HT := zC hT
          have HM := zC hqm
          clear hor hA hT hqs hqm hh1
          go_wp2_with fail
          all_goals
            go_loopw [13, 14] (fun q x wq => ∃ Y : Int, q = .int .u64 Y ∧ qs ≤ Y ∧ Y ≤ 65535 ∧ OwnL wq g 94 (n2 + 2) C u ∧ wq.rowIs w3.heap.size 94 N (fun j => .int .u16 (o j)) ∧ Below w1.heap.size w1 wq) (fun q _ _ => (intOf q).toNat)
            case atStart =>
              first
                | exact ⟨65535, rfl, by omega, Int.le_refl _, hu, hrow, hBr⟩
                | exact ⟨_, rfl, by rw [zA HX]; exact zA HX2, by assumption, hu, hrow, hBr⟩
            case round =>
              obtain ⟨Y, rfl, hY0, hY1, huq, hrowq, hBq⟩ := hrel
              have hYn : 0 ≤ Y := by omega
              have j1 : (j : Int) ≤ (n2 : Int) + 2 := by omega
              have j2 : (n2 : Int) + 2 ≤ (C : Int) := by omega
              have j3 : j < C := by omega
              have hvq := hv.bw hBq
              have huD := huq.dig du j (by omega) (by omega)
              have dT := zHK hv.dgs (q := Y) ⟨hYn, by omega⟩ (k1 + 1)
              have dU : Dgs (fun i => u (j + i)) := fun i => du _
              have vT := times_V v Y (k1 + 1)
              have hcmp := trim_cmp dT dU (k1 + 1 + 1) (n2 + 2 - j)
              have eU : V (fun i => u (j + i)) (n2 + 2 - j) = Tp u j (n2 + 2) := rfl
              rw [vT, eU] at hcmp
              by_cases hle : V v (k1 + 1) * Y ≤ Tp u j (n2 + 2)
              · have t1 : zM (V v (k1 + 1) * Y) (Tp u j (n2 + 2)) ≤ 0 := by unfold zM; split <;> (try split) <;> omega
                have hYq : Y = qs := by
                  have h5 : Y ≤ Tp u j (n2 + 2) / V v (k1 + 1) := Int.le_ediv_of_mul_le hD (by rw [Int.mul_comm]; exact hle)
                  rw [← zA HQ] at h5; omega
                have hm9 : kD (kO v Y (k1 + 1)) (k1 + 1 + 1) ≤ n2 + 2 - j := by
                  refine zF6 dT (zCF _ _) ?_
                  rw [zDJ, vT]
                  have := Tp_lt du j (n2 + 2); omega
                have HF := zC (show V (zBF (fun i => u (j + i)) (kO v Y (k1 + 1)) (kD (kO v Y (k1 + 1)) (k1 + 1 + 1))) (n2 + 2 - j) = Tp u j (n2 + 2) - V v (k1 + 1) * Y by
                  rw [zR6 dU dT _ _ hm9 (by rw [zDJ, vT, eU]; exact hle), zDJ, vT, eU])
                have dF := zF7 dU dT (kD (kO v Y (k1 + 1)) (k1 + 1 + 1))
                have HCM := zC hcmp
                have HYQ := zC hYq
                clear hcmp vT eU hYq
                go_wp2_with fail
                refine (zKS (some ⟨bv, ov, none⟩) (k1 + 1) c1 v Y _ hvq (by omega) hYn (by omega)).mono ?_
                rintro r wt ⟨at_, rfl, hdt, hbt⟩
                have hBt := hBq.trans (hbt.mono hBq.size)
                have huDt := huD.bw hbt
                have hB0 : Below wt.heap.size wt wt.drew := (Below.refl _ _).drew
                have tl := zBT (kO v Y (k1 + 1)) (k1 + 1 + 1)
                have tl2 := zBT (fun i => u (j + i)) (n2 + 2 - j)
                go_wp2_with fail
                go_region_held3 (fun _ => True) (trivial)
                  (first
                    | (go_at_call 53; refine (yG _ _ _ _ _ _ (kO v Y (k1 + 1)) (fun i => u (j + i)) _ ((hdt.take tl).bw hD2) ((huDt.take tl2).bw hD2)).mono ?_; rintro r wc3 ⟨rfl, hb3⟩; have hD3 := zB hD2 hb3; rw [zA HCM])
                    | (go_at_call 117; have hq := hD1; refine (yJ _ _ _ (fun i => u (j + i)) _ (huDt.bw hD1)).mono ?_; rintro r wc2 ⟨rfl, hb2⟩; have hD2 := zB hD1 hb2)
                    | (go_at_call 117; refine (yJ _ _ _ (kO v Y (k1 + 1)) _ (hdt.bw hB0)).mono ?_; rintro r wc1 ⟨rfl, hb1⟩; have hD1 := zB hB0 hb1))
                have hBc := hBt.trans (hD3.mono hBt.size)
                have huc := (huq.bw hbt).bw hD3
                have hrowc : wc3.rowIs w3.heap.size 94 N (fun j => .int .u16 (o j)) := (hrowq.of_block (hbt.block _ hrowq.lt)).of_block (hD3.block _ (Nat.lt_of_lt_of_le hrowq.lt hbt.size))
                have hdtc := hdt.bw hD3
                have huDc := huDt.bw hD3
                have hE0 : Below wc3.heap.size wc3 wc3.drew := (Below.refl _ _).drew
                clear hb1 hb2 hb3 hD1 hD2 hD3 hB0
                go_wp2
                go_region_held3 (fun _ => True) (trivial)
                  (first
                    | (go_at_call 117; refine (yJ _ _ _ (kO v Y (k1 + 1)) _ (hdtc.bw hE0)).mono ?_; rintro r wc4 ⟨rfl, hb4⟩; have hE4 := zB hE0 hb4)
                    | (go_at_call 72; refine (zH9 _ _ (n2 + 2 - j) _ _ _ (fun i => u (j + i)) (kO v Y (k1 + 1)) _ (huDc.bw hE4) ((hdtc.take tl).bw hE4) (by omega) (by omega)).mono ?_; rintro r wc5 ⟨a5, rfl, hd5, hb5⟩; have hE5 := zB hE4 hb5; have hu5 := huc.bw hE5; have hB5 := hBc.trans (hE5.mono hBc.size))
                    | (refine zI3 (by rfl) _ _ 27 (by rfl) 94 Tryz.underlying27 Tryz.sizeU16 g j (n2 + 2) C _ _ _ u _ (by rfl) (by rfl) hu5 hd5 (by omega) w1.heap.size w1 hB5 hbg ?_; intro w6 hu6 hB6 ho6 hs6))
                have hrow6 : w6.rowIs w3.heap.size 94 N (fun j => .int .u16 (o j)) := (hrowc.of_block (hE5.block _ hrowc.lt)).of_block (ho6 _ (Nat.ne_of_gt hg3))
                have r1 := hrow6.cell (show j < N by omega)
                have r2 := hrow6.frozen j
                have jN : (j : Int) < (N : Int) := by omega
                have hW16 : IntKind.u16.wrap Y = Y := by rw [zAX]; omega
                have HLN := zC (zSD (show j < n2 + 2 by omega) (show j < N by omega) hD (zA HA) du do_ dF ((zA HYQ).trans (zA HQ)) hYn (by omega) (zA HF))
                have HR6 := zC hrow6
                clear hrow6 hrowc hu5 hd5 hb5 hE5 hE4 hb4 hE0 hrowq huq huc ho6
                go_wp2
                go_roundw
                case rel => exact ⟨j, _, _, by omega, by go_num, hu6.of_block (Go.Deep.blk_setCell_other _ _ _ _ (Nat.ne_of_lt hg3)), zDI (zA HR6) j (by first | rfl | exact hW16), zA HLN, hB6.setCell hsz3 _⟩
                case measure => simp [intOf]; try omega
              · have t1 : ¬ zM (V v (k1 + 1) * Y) (Tp u j (n2 + 2)) ≤ 0 := by
                  unfold zM; rw [if_neg (by omega), if_pos (by omega)]; omega
                have hYq : qs < Y := by
                  rcases Int.lt_or_le qs Y with h5 | h5
                  · exact h5
                  · have h6 := Int.mul_le_mul_of_nonneg_right h5 (show 0 ≤ V v (k1 + 1) by omega)
                    have h7 := zA HM
                    rw [Int.mul_comm Y] at h6; omega
                have HCM := zC hcmp
                clear hcmp vT eU
                go_wp2_with fail
                refine (zKS (some ⟨bv, ov, none⟩) (k1 + 1) c1 v Y _ hvq (by omega) hYn (by omega)).mono ?_
                rintro r wt ⟨at_, rfl, hdt, hbt⟩
                have hBt := hBq.trans (hbt.mono hBq.size)
                have huDt := huD.bw hbt
                have hB0 : Below wt.heap.size wt wt.drew := (Below.refl _ _).drew
                have tl := zBT (kO v Y (k1 + 1)) (k1 + 1 + 1)
                have tl2 := zBT (fun i => u (j + i)) (n2 + 2 - j)
                go_wp2_with fail
                go_region_held3 (fun _ => True) (trivial)
                  (first
                    | (go_at_call 53; refine (yG _ _ _ _ _ _ (kO v Y (k1 + 1)) (fun i => u (j + i)) _ ((hdt.take tl).bw hD2) ((huDt.take tl2).bw hD2)).mono ?_; rintro r wc3 ⟨rfl, hb3⟩; have hD3 := zB hD2 hb3; rw [zA HCM])
                    | (go_at_call 117; have hq := hD1; refine (yJ _ _ _ (fun i => u (j + i)) _ (huDt.bw hD1)).mono ?_; rintro r wc2 ⟨rfl, hb2⟩; have hD2 := zB hD1 hb2)
                    | (go_at_call 117; refine (yJ _ _ _ (kO v Y (k1 + 1)) _ (hdt.bw hB0)).mono ?_; rintro r wc1 ⟨rfl, hb1⟩; have hD1 := zB hB0 hb1))
                have hBc := hBt.trans (hD3.mono hBt.size)
                have huc := (huq.bw hbt).bw hD3
                have hrowc : wc3.rowIs w3.heap.size 94 N (fun j => .int .u16 (o j)) := (hrowq.of_block (hbt.block _ hrowq.lt)).of_block (hD3.block _ (Nat.lt_of_lt_of_le hrowq.lt hbt.size))
                clear hb1 hb2 hb3 hD1 hD2 hD3 hB0
                go_wp2
                go_roundw
                case rel => exact ⟨Y - 1, by go_num, by omega, by omega, huc, hrowc, hBc⟩
                case measure => simp [intOf]; try omega
theorem over_any (a c:Option Addr) (n m cap j9:Nat) (d e:Nat->Int) (w:World) (ha:Dig w a n cap d) (hc:Dig w c m j9 e) (hn:n<=900000000) (h1:n=0\/d (n-1)≠0) (h2:m=0\/e (m-1)≠0) (O8:0<V e m) :
  Calls Tryz.prog 157 #[.slice a n cap,.slice c m j9] w (zHO w d e n m):=by
 by_cases h:m<=3\/V d n<V e m
 ·exact zHE a c n m cap j9 d e w ha hc (by omega) h1 h2 O8 h
 ·exact zS5 a c n m cap j9 d e w ha hc hn h1 h2 (by omega) (by omega)
theorem yI (neg j6:Bool) (a c:Option Addr) (n m cap j9 k k2:Nat) (x y:Int) (w:World) (h1:IntAt w neg a n cap k x) (h2:IntAt w j6 c m j9 k2 y) (hk:k<=900000000) (hy:0<y) :
  Calls Tryz.prog 126 #[.agg #[.bool neg,.slice a n cap],.agg #[.bool j6,.slice c m j9]] w (kY w k (x/y)):=by
 obtain⟨e,rfl,f0,f1,f2,f3,rfl⟩:=zLR h2 hy;obtain⟨d,g1,g2,g3,g4,rfl⟩:=h1
 exact (zG8 neg a c n m cap j9 d e w g1 f1 (by omega) f0 (λ w' p q=>over_any a c n m cap j9 d e w' p q (by omega) g2 f2 hy)).mono
  λ _ _ ⟨n1,n2,n3,n4,q1,q2,q3⟩=>⟨n1,n2,n3,n4,q1,q2.mono (by omega),q3⟩
structure Sp where
 ln:Bool
 la:Option Addr
 lN:Nat
 lc:Nat
 hn:Bool
 ha:Option Addr
 hN:Nat
 hc:Nat
 bits:Int
structure Nm where
 neg:Bool
 a:Option Addr
 n:Nat
 cap:Nat
abbrev cK (w:World) (B:Nat) (s:Sp) (R:Prop):Prop:=w.cell? ⟨B,0,none⟩=some (.bool s.ln)/\w.cell? ⟨B,1,none⟩=some (.slice s.la s.lN s.lc)/\w.cell? ⟨B,2,none⟩=some (.bool s.hn)/\w.cell? ⟨B,3,none⟩=some (.slice s.ha s.hN s.hc)/\w.cell? ⟨B,4,none⟩=some (.int .i64 s.bits)/\R
abbrev cK0 (w:World) (B:Nat) (s:Sp):Prop:=w.cell? ⟨B,0,none⟩=some (.bool s.ln)/\w.cell? ⟨B,1,none⟩=some (.slice s.la s.lN s.lc)/\w.cell? ⟨B,2,none⟩=some (.bool s.hn)/\w.cell? ⟨B,3,none⟩=some (.slice s.ha s.hN s.hc)/\w.cell? ⟨B,4,none⟩=some (.int .i64 s.bits)
abbrev nK (w:World) (B:Nat) (x:Nm) (R:Prop):Prop:=w.cell? ⟨B,0,none⟩=some (.bool x.neg)/\w.cell? ⟨B,1,none⟩=some (.slice x.a x.n x.cap)/\R
abbrev nK0 (w:World) (B:Nat) (x:Nm):Prop:=w.cell? ⟨B,0,none⟩=some (.bool x.neg)/\w.cell? ⟨B,1,none⟩=some (.slice x.a x.n x.cap)
abbrev rK (w:World) (B:Nat) (p q:Int) (R:Prop):Prop:=w.cell? ⟨B,0,none⟩=some (.int .i64 p)/\w.cell? ⟨B,1,none⟩=some (.int .i64 q)/\R
abbrev rK0 (w:World) (B:Nat) (p q:Int):Prop:=w.cell? ⟨B,0,none⟩=some (.int .i64 p)/\w.cell? ⟨B,1,none⟩=some (.int .i64 q)
abbrev Sp.q (s:Sp):Array Value:=#[.bool s.ln,.slice s.la s.lN s.lc,.bool s.hn,.slice s.ha s.hN s.hc,.int .i64 s.bits]
abbrev Nm.q (x:Nm):Array Value:=#[.bool x.neg,.slice x.a x.n x.cap]
abbrev zCq:Array Value:=#[.bool false,.slice none 0 0,.bool false,.slice none 0 0,.int .i64 0]
structure Nums (w:World) (b n k:Nat) (f:Nat->Nm) (z:Nat->Int):Prop where
 lt:b<w.heap.size
 c0:∀ j,j<n->w.cell? ⟨b,j*2,none⟩=some (.bool (f j).neg)
 c1:∀ j,j<n->w.cell? ⟨b,j*2+1,none⟩=some (.slice (f j).a (f j).n (f j).cap)
 int:∀ j,j<n->IntAt w (f j).neg (f j).a (f j).n (f j).cap k (z j)
theorem Nums.bw {w w':World} {b n k:Nat} {f:Nat->Nm} {z:Nat->Int} (h:Nums w b n k f z) (hb:Below w.heap.size w w'):Nums w' b n k f z :=
 ⟨YH h.lt hb.size,λ j hj=>(hb.cell (p:=⟨b,j*2,none⟩) h.lt).trans (h.c0 j hj),λ j hj=>(hb.cell (p:=⟨b,j*2+1,none⟩) h.lt).trans (h.c1 j hj),λ j hj=>(h.int j hj).bw hb⟩
def kA (z:Nat->Int):Nat->Int
 | 0=>z 0
 | n+1=>if kA z n<z (n+1) then z (n+1) else kA z n
def kJ (z:Nat->Int):Nat->Int
 | 0=>z 0
 | n+1=>if z (n+1)<kJ z n then z (n+1) else kJ z n
theorem zGZ {x y:Int} (h:¬ y<x):¬ 0<zM x y:=by
 unfold zM;simp only[h,if_false];split<;>omega
theorem zEP {x y:Int} (h:¬ x<y):¬ zM x y<0:=by
 unfold zM;rw[if_neg h];split<;>omega
theorem mostZ_up {z:Nat->Int} {i:Nat} (h:kA z (i-1)<z i):kA z (i+1-1)=z i:=by
 cases i with
 | zero=>rfl
 | succ j=>simp only[Nat.add_sub_cancel] at *;simp only[kA,h,if_true]
theorem zO7 {z:Nat->Int} {i:Nat} (h:¬ kA z (i-1)<z i):kA z (i+1-1)=kA z (i-1):=by
 cases i with
 | zero=>rfl
 | succ j=>simp only[Nat.add_sub_cancel] at *;simp only[kA,h,if_false]
theorem zCB (k:Nat) (w:World) (hk:k<=1000000000) :
  Calls Tryz.prog 82 #[.int .i64 k] w λ r w' =>
   ∃ m8 a' n' o7,r=.returned (.agg #[.bool m8,.slice a' n' o7])/\IntAt w' m8 a' n' o7 (k/16+5) (Q k)/\Below w.heap.size w w':=by
 go_enter Tryz.func82,Tryz.ntmps82
 go_wp2_with (first
  | (go_at_call 33;refine (zD 1 _ (by decide) (by decide)).mono ?_;rintro r w1 ⟨m7,a1,n1,c1,rfl,o8,b9⟩;obtain⟨C7,C9,D9⟩:=jJ (w.heap.size+1) (by simp) b9)
  | (go_at_call 116;refine (zBU _ _ _ _ k 4 1 _ o8 (by omega) hk).mono ?_;rintro r w2 ⟨m8,a2,n2,c2,rfl,hint,j8⟩;obtain⟨E2,E4,F9⟩:=jJ (w.heap.size+1) C7 j8))
 have h0:w2.cell? ⟨w.heap.size,0,none⟩=some (.bool false):=by simp[E4,C9,go_sem]
 have J1:w2.cell? ⟨w.heap.size,1,none⟩=some (.slice none 0 0):=by simp[E4,C9,go_sem]
 refine bodyPost_ret (v:=.agg #[.bool m8,.slice a2 n2 c2]) (by simp[results,Tryz.results82,go_sem,h0,J1]) rfl ⟨m8,a2,n2,c2,rfl,?_,?_⟩
 ·rw[Int.one_mul] at hint
  exact (hint.put2 h0 J1 _ _).mono (by omega)
 ·exact ((zB (zB (bl1 _ _) b9) j8).setCell (p:=⟨w.heap.size,0,none⟩) (YE _) _).setCell (p:=⟨w.heap.size,1,none⟩) (YE _) _
theorem zOO (neg:Bool) (a:Option Addr) (n cap k1:Nat) (x:Int) (w:World) (h1:IntAt w neg a n cap k1 x) (Z9:k1<=1000000000) :
  Calls Tryz.prog 196 #[.agg #[.bool neg,.slice a n cap]] w λ r w' =>
   ∃ m8 a' n' o7,r=.returned (.agg #[.bool m8,.slice a' n' o7])/\IntAt w' m8 a' n' o7 (k1+1) x/\Below w.heap.size w w':=by
 go_enter Tryz.func196,Tryz.ntmps196
 go_wp2_with (go_at_call 116;refine (zBU _ _ _ _ 0 k1 x _ (h1.bw (bl2 _ _ _)) Z9 (by omega)).mono ?_;rintro r w2 ⟨m8,a2,n2,c2,rfl,hint,j8⟩;obtain⟨E2,E4,F9⟩:=jJ (w.heap.size+1+1) (by simp) j8)
 have h0:w2.cell? ⟨w.heap.size+1,0,none⟩=some (.bool false):=by simp[E4,go_sem]
 have J1:w2.cell? ⟨w.heap.size+1,1,none⟩=some (.slice none 0 0):=by simp[E4,go_sem]
 refine bodyPost_ret (v:=.agg #[.bool m8,.slice a2 n2 c2]) (by simp[results,Tryz.results196,go_sem,h0,J1]) rfl ⟨m8,a2,n2,c2,rfl,?_,?_⟩
 ·simp only[Q,Int.mul_one] at hint
  exact (hint.put2 h0 J1 _ _).mono (by omega)
 ·exact ((zB (bl2 _ _ _) j8).setCell (p:=⟨w.heap.size+1,0,none⟩) (Nat.le_succ _) _).setCell (p:=⟨w.heap.size+1,1,none⟩) (Nat.le_succ _) _
theorem zE6 (b n cap k:Nat) (f:Nat->Nm) (z:Nat->Int) (w:World) (h:Nums w b (n+1) k f z) (hn:n<=1000) :
  Calls Tryz.prog 86 #[.slice (some ⟨b,0,none⟩) (n+1) cap] w λ r w' =>
   ∃ m8 a' n' o7,r=.returned (.agg #[.bool m8,.slice a' n' o7])/\IntAt w' m8 a' n' o7 k (kA z n)/\Below w.heap.size w w':=by
 have Jd:=h.c0 0 (by omega)
 have Je:=h.c1 0 (by omega)
 simp only[Nat.zero_mul,Nat.zero_add] at Jd Je;have hnn:(0:Int)<(n:Int)+1:=by omega
 have vA:=h.lt
 go_enter Tryz.func86,Tryz.ntmps86
 go_wp2
 go_loopw [4] (λ ii wr=>∃ (i:Nat) (x:Nm),i<=n+1/\ii=.int .i64 i/\wr.cell? ⟨w.heap.size+1,0,none⟩=some (.bool x.neg)/\wr.cell? ⟨w.heap.size+1,1,none⟩=some (.slice x.a x.n x.cap)/\(∀ o,wr.frozen? ⟨w.heap.size+1,o,none⟩=false)/\IntAt wr x.neg x.a x.n x.cap k (kA z (i-1))/\w.heap.size+1+1<=wr.heap.size /\
   Below (w.heap.size+1) (w.alloc (.cells #[.bool false,.slice none 0 0] 29)) wr) (λ ii _=>n+1-(intOf ii).toNat)
 case atStart =>
  exact⟨0,f 0,by omega,rfl,by simp[go_sem],by simp[go_sem],by intro o;simp[go_sem],(h.int 0 (by omega)).bw (bl2 _ _ _),by simp,(Below.refl _ _).alloc (by simp) _⟩
 case round =>
  obtain⟨i,x,hi,rfl,x0,x1,x2,hx,T8,B9⟩:=hrel;have hB:Below w.heap.size w wr:=(bl1 _ _).trans (B9.mono (by omega))
  by_cases I7:i<n+1
  ·have g0:=(h.bw hB).c0 i I7
   have g1:=(h.bw hB).c1 i I7;have hint:=(h.bw hB).int i I7;have JT:(0:Int)<=(i:Int):=by omega
   have nD:(i:Int)<(n:Int)+1:=by omega
   have JJ:b<=w.heap.size+1:=by omega
   have hne:w.heap.size+1≠b:=by omega
   have Dg:b≠w.heap.size+1:=by omega
   have HH:=zC h;clear h Jd Je
   by_cases hc:kA z (i-1)<z i
   ·have nw:zM (z i) (kA z (i-1))=1:=by unfold zM;rw[if_neg (by omega),if_pos hc]
    have HZ:=zC (mostZ_up hc);go_wp2
    go_region_held3 (λ w'=>w'.cell? ⟨b,i*2,none⟩=some (.bool (f i).neg)/\w'.cell? ⟨b,i*2+1,none⟩=some (.slice (f i).a (f i).n (f i).cap)/\nK0 w' (w.heap.size+1) x) ((dsimp only[cK,cK0,nK,nK0,rK,rK0];go_keep))
     (first
      | (go_at_call 17;refine (jO _ _ _ _ _ _ _ _ k k (z i) (kA z (i-1)) _ (hint.bw (Below.refl _ _).drew) (hx.bw (Below.refl _ _).drew)).mono ?_;rintro r w1 ⟨rfl,b9⟩;obtain⟨C7,C9,D9⟩:=jJ (w.heap.size+1+1) (by exact T8) b9;rw[nw]))
    have y0:w1.cell? ⟨w.heap.size+1,0,none⟩=some (.bool x.neg):=(C9 _ _ (YE _)).trans x0;have y1:w1.cell? ⟨w.heap.size+1,1,none⟩=some (.slice x.a x.n x.cap):=(C9 _ _ (YE _)).trans x1;have y2:∀ o,w1.frozen? ⟨w.heap.size+1,o,none⟩=false:=λ o=>(D9 _ _ (YE _)).trans (x2 o)
    go_wp2
    go_roundw
    case rel =>
     refine⟨i+1,f i,by omega,by go_num,by simp[go_sem,y0,y1],by simp[go_sem,y0,y1],by intro o;simp[go_sem,y2],?_,?_,?_⟩
     ·rw[zA HZ];exact ((hint.bw (Below.refl _ _).drew).bw b9).put2 y0 y1 _ _
     ·simpa [World.setCell] using C7
     ·exact ((B9.trans ((zB (Below.refl _ _).drew b9).mono (by omega))).setCell (p:=⟨w.heap.size+1,0,none⟩) (YE _) _).setCell (p:=⟨w.heap.size+1,1,none⟩) (YE _) _
    case measure=>simp[intOf];omega
   ·have nw:¬ 0<zM (z i) (kA z (i-1)):=zGZ hc
    have HZ:=zC (zO7 hc);go_wp2
    go_region_held3 (λ w'=>w'.cell? ⟨b,i*2,none⟩=some (.bool (f i).neg)/\w'.cell? ⟨b,i*2+1,none⟩=some (.slice (f i).a (f i).n (f i).cap)/\nK0 w' (w.heap.size+1) x) ((dsimp only[cK,cK0,nK,nK0,rK,rK0];go_keep))
     (first
      | (go_at_call 17;refine (jO _ _ _ _ _ _ _ _ k k (z i) (kA z (i-1)) _ (hint.bw (Below.refl _ _).drew) (hx.bw (Below.refl _ _).drew)).mono ?_;rintro r w1 ⟨rfl,b9⟩;obtain⟨C7,C9,D9⟩:=jJ (w.heap.size+1+1) (by exact T8) b9))
    have y0:w1.cell? ⟨w.heap.size+1,0,none⟩=some (.bool x.neg):=(C9 _ _ (YE _)).trans x0;have y1:w1.cell? ⟨w.heap.size+1,1,none⟩=some (.slice x.a x.n x.cap):=(C9 _ _ (YE _)).trans x1;have y2:∀ o,w1.frozen? ⟨w.heap.size+1,o,none⟩=false:=λ o=>(D9 _ _ (YE _)).trans (x2 o)
    go_wp2
    go_roundw
    case rel =>
     exact⟨i+1,x,by omega,by go_num,y0,y1,y2,by rw[zA HZ];exact (hx.bw (Below.refl _ _).drew).bw b9,C7,B9.trans ((zB (Below.refl _ _).drew b9).mono (by omega))⟩
    case measure=>simp[intOf];omega
  ·have hiE:i=n+1:=by omega
   subst hiE;have q3:wr.cell? ⟨w.heap.size,0,none⟩=some (.bool false):=(B9.cell (p:=⟨w.heap.size,0,none⟩) (Nat.lt_succ_self _)).trans (by simp[go_sem])
   have q4:wr.cell? ⟨w.heap.size,1,none⟩=some (.slice none 0 0):=(B9.cell (p:=⟨w.heap.size,1,none⟩) (Nat.lt_succ_self _)).trans (by simp[go_sem])
   have q5:∀ o,wr.frozen? ⟨w.heap.size,o,none⟩=false:=λ o=>(B9.frozen (p:=⟨w.heap.size,o,none⟩) (Nat.lt_succ_self _)).trans (by simp[go_sem])
   clear h Jd Je;go_wp2;refine bodyPost_ret (v:=.agg x.q) (by simp[results,Tryz.results86,go_sem,q3,q4]) rfl ⟨x.neg,x.a,x.n,x.cap,rfl,hx.put2 q3 q4 _ _,?_⟩
   exact (hB.setCell (p:=⟨w.heap.size,0,none⟩) (YE _) _).setCell (p:=⟨w.heap.size,1,none⟩) (YE _) _
def zK1 (t:Int) (z:Nat->Int):Nat->Int
 | 0=>z 0
 | n+1=>if zM (z (n+1)) (zK1 t z n)=t then z (n+1) else zK1 t z n
theorem zRM (z:Nat->Int) (n:Nat):zK1 1 z n=kA z n:=by
 induction n with
 | zero=>rfl
 | succ n ih =>
  simp only[zK1,kA,ih]
  by_cases h:kA z n<z (n+1)
  ·have:zM (z (n+1)) (kA z n)=1:=by unfold zM;rw[if_neg (by omega),if_pos h]
   simp[this,h]
  ·have:zM (z (n+1)) (kA z n)≠1:=by have:=zGZ h;omega
   simp[this,h]
theorem zOW (z:Nat->Int) (n:Nat):zK1 (-1) z n=kJ z n:=by
 induction n with
 | zero=>rfl
 | succ n ih =>
  simp only[zK1,kJ,ih]
  by_cases h:z (n+1)<kJ z n
  ·have:zM (z (n+1)) (kJ z n) = -1:=by unfold zM;rw[if_pos h]
   simp[this,h]
  ·have:zM (z (n+1)) (kJ z n) ≠ -1:=by have:=zEP h;omega
   simp[this,h]
theorem zLP (w:World) (o:Obj) (p:Addr) (h:p.block<w.heap.size):(w.alloc o).frozen? p=w.frozen? p:=World.frozen?_of_block (Below.heap_alloc w o p.block h)
theorem zE3 (t:Int) (b n cap k:Nat) (f:Nat->Nm) (z:Nat->Int) (w:World) (h:Nums w b (n+1) k f z) (hk:k<=1000000000) (hn:n<=1000) :
  Calls Tryz.prog 174 #[.int .i64 t,.slice (some ⟨b,0,none⟩) (n+1) cap] w λ r w' =>
   ∃ m8 a' n' o7,r=.returned (.agg #[.bool m8,.slice a' n' o7])/\IntAt w' m8 a' n' o7 (k+1) (zK1 t z n)/\Below w.heap.size w w':=by
 have vA:=h.lt
 go_enter Tryz.func174,Tryz.ntmps174
 go_wp2
 go_loopw [10] (λ ii wr=>∃ (i:Nat) (x:Nm),i<=n+1/\ii=.int .i64 i/\wr.cell? ⟨w.heap.size+1,0,none⟩=some (.bool x.neg)/\wr.cell? ⟨w.heap.size+1,1,none⟩=some (.slice x.a x.n x.cap)/\(∀ o,wr.frozen? ⟨w.heap.size+1,o,none⟩=false)/\(0<i->IntAt wr x.neg x.a x.n x.cap k (zK1 t z (i-1)))/\w.heap.size+1+1<=wr.heap.size /\
   Below (w.heap.size+1) (w.alloc (.cells #[.bool false,.slice none 0 0] 29)) wr) (λ ii _=>n+1-(intOf ii).toNat)
 case atStart =>
  exact⟨0,⟨false,none,0,0⟩,by omega,rfl,by simp[go_sem],by simp[go_sem],by intro o;simp[go_sem],λ h=>by omega,by simp,(Below.refl _ _).alloc (by simp) _⟩
 case round =>
  obtain⟨i,x,hi,rfl,x0,x1,x2,hx,T8,B9⟩:=hrel;have hB:Below w.heap.size w wr:=(bl1 _ _).trans (B9.mono (by omega))
  by_cases I7:i<n+1
  ·have g0:=(h.bw hB).c0 i I7
   have g1:=(h.bw hB).c1 i I7;have hint:=(h.bw hB).int i I7;have JT:(0:Int)<=(i:Int):=by omega
   have nD:(i:Int)<(n:Int)+1:=by omega
   have JJ:b<=w.heap.size+1:=by omega
   have hne:w.heap.size+1≠b:=by omega
   have Dg:b≠w.heap.size+1:=by omega
   have iq:w.heap.size+1<wr.heap.size:=by omega
   have hne2:w.heap.size+1≠wr.heap.size:=by omega
   have hne3:wr.heap.size≠w.heap.size+1:=by omega
   have HH:=zC h;clear h
   by_cases hz:i=0
   ·subst hz
    go_wp2
    go_roundw
    case rel =>
     refine⟨1,f 0,by omega,rfl,?_,?_,?_,λ _=>?_,?_,?_⟩
     ·simp[go_sem,iq,x0,x1]
     ·simp[go_sem,iq,x0,x1]
     ·intro o;rw[zLP _ _ _ (by simpa [World.setCell] using iq)];simp[go_sem,x2]
     ·exact ((hint.put2 x0 x1 _ _).bw (bl1 _ _))
     ·simp[World.setCell];omega
     ·exact ((B9.setCell (p:=⟨w.heap.size+1,0,none⟩) (YE _) _).setCell (p:=⟨w.heap.size+1,1,none⟩) (YE _) _).alloc (by simp[World.setCell];omega) _
    case measure=>simp[intOf]
   ·have HX:=zC (hx (by omega))
    have Rw:((i:Int) == 0)=false:=by simp;omega
    obtain⟨j,hj⟩:∃ j,i=j+1:=⟨i-1,by omega⟩
    have fK:zK1 t z (i+1-1)=if zM (z i) (zK1 t z (i-1))=t then z i else zK1 t z (i-1):=by subst hj;rfl
    clear hj hx
    by_cases hc:zM (z i) (zK1 t z (i-1))=t
    ·have nw:(zM (z i) (zK1 t z (i-1)) == t)=true:=by simp[hc]
     rw[if_pos hc] at fK;have HF:=zC fK;clear fK hc;go_wp2_with (go_at_call 17;refine (jO _ _ _ _ _ _ _ _ k k (z i) (zK1 t z (i-1)) _ (hint.bw (bl1 _ _)) ((zA HX).bw (bl1 _ _))).mono ?_;rintro r w1 ⟨rfl,b9⟩;obtain⟨C7,C9,D9⟩:=jJ (wr.heap.size+1) (by simp) b9;have y3:w.heap.size+1+1<=wr.heap.size+1:=Nat.le_succ_of_le T8;have y0:w1.cell? ⟨w.heap.size+1,0,none⟩=some (.bool x.neg):=((C9 _ _ y3).trans (World.cell?_alloc_past _ _ _ iq)).trans x0;have y1:w1.cell? ⟨w.heap.size+1,1,none⟩=some (.slice x.a x.n x.cap):=((C9 _ _ y3).trans (World.cell?_alloc_past _ _ _ iq)).trans x1;have y2:∀ o,w1.frozen? ⟨w.heap.size+1,o,none⟩=false:=λ o=>((D9 _ _ y3).trans (zLP _ _ _ iq)).trans (x2 o))
     go_roundw
     case rel =>
      refine⟨i+1,f i,by omega,by go_num,by simp[go_sem,y0,y1],by simp[go_sem,y0,y1],by intro o;simp[go_sem,y2],λ _=>?_,?_,?_⟩
      ·rw[zA HF];exact ((hint.bw (bl1 _ _)).bw b9).put2 y0 y1 _ _
      ·have:=Nat.le_trans y3 C7;simpa [World.setCell] using this
      ·exact ((B9.trans ((zB (bl1 _ _) b9).mono (by omega))).setCell (p:=⟨w.heap.size+1,0,none⟩) (YE _) _).setCell (p:=⟨w.heap.size+1,1,none⟩) (YE _) _
     case measure=>simp[intOf];omega
    ·have nw:(zM (z i) (zK1 t z (i-1)) == t)=false:=by simp[hc]
     rw[if_neg hc] at fK;have HF:=zC fK;clear fK hc;go_wp2_with (go_at_call 17;refine (jO _ _ _ _ _ _ _ _ k k (z i) (zK1 t z (i-1)) _ (hint.bw (bl1 _ _)) ((zA HX).bw (bl1 _ _))).mono ?_;rintro r w1 ⟨rfl,b9⟩;obtain⟨C7,C9,D9⟩:=jJ (wr.heap.size+1) (by simp) b9;have y3:w.heap.size+1+1<=wr.heap.size+1:=Nat.le_succ_of_le T8;have y0:w1.cell? ⟨w.heap.size+1,0,none⟩=some (.bool x.neg):=((C9 _ _ y3).trans (World.cell?_alloc_past _ _ _ iq)).trans x0;have y1:w1.cell? ⟨w.heap.size+1,1,none⟩=some (.slice x.a x.n x.cap):=((C9 _ _ y3).trans (World.cell?_alloc_past _ _ _ iq)).trans x1;have y2:∀ o,w1.frozen? ⟨w.heap.size+1,o,none⟩=false:=λ o=>((D9 _ _ y3).trans (zLP _ _ _ iq)).trans (x2 o))
     go_roundw
     case rel =>
      exact⟨i+1,x,by omega,by go_num,y0,y1,y2,λ _=>by rw[zA HF];exact ((zA HX).bw (bl1 _ _)).bw b9,Nat.le_trans y3 C7,B9.trans ((zB (bl1 _ _) b9).mono (by omega))⟩
     case measure=>simp[intOf];omega
  ·have hiE:i=n+1:=by omega
   subst hiE;have q3:wr.cell? ⟨w.heap.size,0,none⟩=some (.bool false):=(B9.cell (p:=⟨w.heap.size,0,none⟩) (Nat.lt_succ_self _)).trans (by simp[go_sem])
   have q4:wr.cell? ⟨w.heap.size,1,none⟩=some (.slice none 0 0):=(B9.cell (p:=⟨w.heap.size,1,none⟩) (Nat.lt_succ_self _)).trans (by simp[go_sem])
   have q5:∀ o,wr.frozen? ⟨w.heap.size,o,none⟩=false:=λ o=>(B9.frozen (p:=⟨w.heap.size,o,none⟩) (Nat.lt_succ_self _)).trans (by simp[go_sem])
   have HX:=zC (hx (by omega))
   clear h hx;go_wp2_with (go_at_call 196;refine (zOO _ _ _ _ k _ _ (zA HX) hk).mono ?_;rintro r w1 ⟨m7,a1,n1,c1,rfl,o8,b9⟩;obtain⟨C7,C9,D9⟩:=jJ (w.heap.size+1+1) T8 b9);have y0:w1.cell? ⟨w.heap.size,0,none⟩=some (.bool false):=(C9 _ _ (by omega)).trans q3
   have y1:w1.cell? ⟨w.heap.size,1,none⟩=some (.slice none 0 0):=(C9 _ _ (by omega)).trans q4
   refine bodyPost_ret (v:=.agg #[.bool m7,.slice a1 n1 c1]) (by simp[results,Tryz.results174,go_sem,y0,y1]) rfl ⟨m7,a1,n1,c1,rfl,?_,?_⟩
   ·simp only[Nat.add_sub_cancel] at o8;exact o8.put2 y0 y1 _ _
   ·exact ((zB hB b9).setCell (p:=⟨w.heap.size,0,none⟩) (YE _) _).setCell (p:=⟨w.heap.size,1,none⟩) (YE _) _
theorem zIQ (b n cap k:Nat) (f:Nat->Nm) (z:Nat->Int) (w:World) (h:Nums w b (n+1) k f z) (hk:k<=1000000000) (hn:n<=1000) :
  Calls Tryz.prog 150 #[.slice (some ⟨b,0,none⟩) (n+1) cap] w λ r w' =>
   ∃ m8 a' n' o7,r=.returned (.agg #[.bool m8,.slice a' n' o7])/\IntAt w' m8 a' n' o7 (k+1) (kA z n)/\Below w.heap.size w w':=by
 rw[<- zRM]
 go_enter Tryz.func150,Tryz.ntmps150
 go_wp2_with (go_at_call 174;refine (zE3 (1) _ _ _ k f z _ (h.bw (bl1 _ _)) hk hn).mono ?_;rintro r w1 ⟨m7,a1,n1,c1,rfl,o8,b9⟩;obtain⟨C7,C9,D9⟩:=jJ (w.heap.size+1) (by simp) b9)
 have y0:w1.cell? ⟨w.heap.size,0,none⟩=some (.bool false):=by simp[C9,go_sem]
 have y1:w1.cell? ⟨w.heap.size,1,none⟩=some (.slice none 0 0):=by simp[C9,go_sem]
 refine bodyPost_ret (v:=.agg #[.bool m7,.slice a1 n1 c1]) (by simp[results,Tryz.results150,go_sem,y0,y1]) rfl ⟨m7,a1,n1,c1,rfl,o8.put2 y0 y1 _ _,?_⟩
 exact ((zB (bl1 _ _) b9).setCell (p:=⟨w.heap.size,0,none⟩) (YE _) _).setCell (p:=⟨w.heap.size,1,none⟩) (YE _) _
theorem zEU (b n cap k:Nat) (f:Nat->Nm) (z:Nat->Int) (w:World) (h:Nums w b (n+1) k f z) (hk:k<=1000000000) (hn:n<=1000) :
  Calls Tryz.prog 153 #[.slice (some ⟨b,0,none⟩) (n+1) cap] w λ r w' =>
   ∃ m8 a' n' o7,r=.returned (.agg #[.bool m8,.slice a' n' o7])/\IntAt w' m8 a' n' o7 (k+1) (kJ z n)/\Below w.heap.size w w':=by
 rw[<- zOW]
 go_enter Tryz.func153,Tryz.ntmps153
 go_wp2_with (go_at_call 174;refine (zE3 (-1) _ _ _ k f z _ (h.bw (bl1 _ _)) hk hn).mono ?_;rintro r w1 ⟨m7,a1,n1,c1,rfl,o8,b9⟩;obtain⟨C7,C9,D9⟩:=jJ (w.heap.size+1) (by simp) b9)
 have y0:w1.cell? ⟨w.heap.size,0,none⟩=some (.bool false):=by simp[C9,go_sem]
 have y1:w1.cell? ⟨w.heap.size,1,none⟩=some (.slice none 0 0):=by simp[C9,go_sem]
 refine bodyPost_ret (v:=.agg #[.bool m7,.slice a1 n1 c1]) (by simp[results,Tryz.results153,go_sem,y0,y1]) rfl ⟨m7,a1,n1,c1,rfl,o8.put2 y0 y1 _ _,?_⟩
 exact ((zB (bl1 _ _) b9).setCell (p:=⟨w.heap.size,0,none⟩) (YE _) _).setCell (p:=⟨w.heap.size,1,none⟩) (YE _) _
def pr {α:Type} (x y:α) (j:Nat):α:=if j=0 then x else y
structure SpAt (w:World) (s:Sp) (k:Nat) (lo hi:Int):Prop where
 lo:IntAt w s.ln s.la s.lN s.lc k lo
 hi:IntAt w s.hn s.ha s.hN s.hc k hi
theorem SpAt.bw {w w':World} {s:Sp} {k:Nat} {lo hi:Int} (h:SpAt w s k lo hi) (hb:Below w.heap.size w w'):SpAt w' s k lo hi:=⟨h.lo.bw hb,h.hi.bw hb⟩
def zFK (x y:Int):Int:=if x<y then y else x
def zPU (x y:Int):Int:=if y<x then y else x
theorem nums2 (w:World) (x y:Nm) (k:Nat) (zx zy:Int) (T:TypeId) (hx:IntAt w x.neg x.a x.n x.cap k zx) (hy:IntAt w y.neg y.a y.n y.cap k zy) :
  Nums (w.alloc (.cells #[.bool x.neg,.slice x.a x.n x.cap,.bool y.neg,.slice y.a y.n y.cap] T)) w.heap.size 2 k (pr x y) (pr zx zy):=by
 refine⟨by simp,?_,?_,?_⟩
 all_goals
  intro j hj
  match j,hj with
  | 0,_=>first|(simp[pr];done)|exact hx.bw (bl1 _ _)
  | 1,_=>first|(simp[pr];done)|exact hy.bw (bl1 _ _)
theorem most2 (w:World) (B:Nat) (hB:w.heap.size=B) (x y:Nm) (k:Nat) (zx zy:Int) (T:TypeId) (cap:Nat) (hx:IntAt w x.neg x.a x.n x.cap k zx) (hy:IntAt w y.neg y.a y.n y.cap k zy) (hk:k<=1000000000) :
  Calls Tryz.prog 150 #[.slice (some ⟨B,0,none⟩) 2 cap] (w.alloc (.cells #[.bool x.neg,.slice x.a x.n x.cap,.bool y.neg,.slice y.a y.n y.cap] T)) λ r w' =>
   ∃ m8 a' n' o7,r=.returned (.agg #[.bool m8,.slice a' n' o7])/\IntAt w' m8 a' n' o7 (k+1) (zFK zx zy)/\Below w.heap.size w w':=by
 subst hB;exact (zIQ w.heap.size 1 cap k (pr x y) (pr zx zy) _ (nums2 w x y k zx zy T hx hy) hk (by omega)).mono λ _ _ ⟨n1,n2,n3,n4,q1,q2,q3⟩=>⟨n1,n2,n3,n4,q1,q2,(bl1 _ _).trans (q3.mono (by simp))⟩
theorem least2 (w:World) (B:Nat) (hB:w.heap.size=B) (x y:Nm) (k:Nat) (zx zy:Int) (T:TypeId) (cap:Nat) (hx:IntAt w x.neg x.a x.n x.cap k zx) (hy:IntAt w y.neg y.a y.n y.cap k zy) (hk:k<=1000000000) :
  Calls Tryz.prog 153 #[.slice (some ⟨B,0,none⟩) 2 cap] (w.alloc (.cells #[.bool x.neg,.slice x.a x.n x.cap,.bool y.neg,.slice y.a y.n y.cap] T)) λ r w' =>
   ∃ m8 a' n' o7,r=.returned (.agg #[.bool m8,.slice a' n' o7])/\IntAt w' m8 a' n' o7 (k+1) (zPU zx zy)/\Below w.heap.size w w':=by
 subst hB;exact (zEU w.heap.size 1 cap k (pr x y) (pr zx zy) _ (nums2 w x y k zx zy T hx hy) hk (by omega)).mono λ _ _ ⟨n1,n2,n3,n4,q1,q2,q3⟩=>⟨n1,n2,n3,n4,q1,q2,(bl1 _ _).trans (q3.mono (by simp))⟩
theorem zEH (w:World) (s:Sp) (k:Nat) (lo hi:Int) (h:SpAt w s k lo hi) (hk:k<=900000000) :
  Calls Tryz.prog 119 #[.agg s.q] w λ r w' =>
   ∃ m8 a' n' o7,r=.returned (.agg #[.bool m8,.slice a' n' o7])/\IntAt w' m8 a' n' o7 (k+1) (zFK hi (-lo))/\Below w.heap.size w w':=by
 go_enter Tryz.func119,Tryz.ntmps119
 go_wp2
 go_region_held3 (λ w'=>w'.cell? ⟨w.heap.size,0,none⟩=some (.bool s.ln)/\w'.cell? ⟨w.heap.size,1,none⟩=some (.slice s.la s.lN s.lc)/\w'.cell? ⟨w.heap.size,2,none⟩=some (.bool s.hn)/\w'.cell? ⟨w.heap.size,3,none⟩=some (.slice s.ha s.hN s.hc)) (go_keep)
  (first
   | (go_at_call 87;refine (zA2 _ _ _ _ k lo _ (h.lo.bw (bl2 _ _ _).drew) (by omega)).mono ?_;rintro r w1 ⟨m7,a1,n1,c1,rfl,o8,b9⟩;obtain⟨C7,C9,D9⟩:=jJ (w.heap.size+1+1) (by simp) b9;have X9:=YH (Nat.lt_succ_of_lt (Nat.lt_succ_self w.heap.size)) C7;have G7:=YH (Nat.lt_succ_self (w.heap.size+1)) C7)
   | (go_at_call 150;refine (most2 w1 _ rfl ⟨s.hn,s.ha,s.hN,s.hc⟩ ⟨m7,a1,n1,c1⟩ k hi (-lo) _ _ (h.hi.bw (zB (bl2 _ _ _).drew b9)) o8 (by omega)).mono ?_;rintro r w2 ⟨j6,a2,n2,c2,rfl,A5,j8⟩;obtain⟨E2,E4,F9⟩:=jJ (w.heap.size+1+1) C7 j8))
 go_wp2;have y0:w2.cell? ⟨w.heap.size+1,0,none⟩=some (.bool false):=by simp[E4,C9,go_sem]
 have y1:w2.cell? ⟨w.heap.size+1,1,none⟩=some (.slice none 0 0):=by simp[E4,C9,go_sem]
 refine bodyPost_ret (v:=.agg #[.bool j6,.slice a2 n2 c2]) (by simp[results,Tryz.results119,go_sem,y0,y1]) rfl ⟨j6,a2,n2,c2,rfl,A5.put2 y0 y1 _ _,?_⟩
 exact ((zB (zB (bl2 _ _ _).drew b9) j8).setCell (p:=⟨w.heap.size+1,0,none⟩) (Nat.le_succ _) _).setCell (p:=⟨w.heap.size+1,1,none⟩) (Nat.le_succ _) _
end Go.Proofs.YtgmnknmjainabacGreat
