/-
  Its own texts.
-/
import Derived.Test.YtgmnknmjainababGreatProg
import Derived.WalkKit
import Derived.WalkSpells
import Derived.WalkLawsBesides
import Derived.Deep.QuietTactic
import Derived.BigQuiet
import Derived.Deep.OwnRows
import Derived.Deep.RegionHeld3
import Derived.Deep.DrawnRows
import Derived.Deep.AppendSrc
import Derived.Deep.AppendLies
import Derived.Laws.BitsAllLaws
import Derived.Test.YtgmnknmjainababGreatK03
set_option maxRecDepth 100000
set_option maxHeartbeats 40000000
set_option linter.unnecessarySimpa false
set_option linter.unusedSimpArgs false
set_option linter.unusedVariables false
namespace Go.Proofs.YtgmnknmjainababGreat
open Go.RowKit
theorem jW (neg:Bool) (a:Option Addr) (n cap:Nat) (d:Nat->Int) (w:World) (h:Dig w a n cap d) :
  Calls Tryz.prog 49 #[.agg #[.bool neg,.slice a n cap]] w λ e w'=>e=.returned (.bool (zCD neg n d))/\Below w.heap.size w w':=by
 have hr:=h.room;have hl:=h.le
 by_cases hn:n=0
 ·subst hn
  go_enter Tryz.func49,Tryz.ntmps49
  go_wp2
  go_ret
  exact⟨by simp[zCD],(Below.refl _ _).alloc (XW _) _⟩
 ·obtain⟨b,off,rfl,hb,hc⟩:=h.at_ (by omega)
  have F8:=hc (n-1) (by omega)
  have hz:((n:Int) == 0)=false:=by simp;omega
  have hi:((n:Int)-1)=((n-1:Nat):Int):=by omega
  go_enter Tryz.func49,Tryz.ntmps49
  go_wp2
  go_ret
  exact⟨by simp[zCD,hn],((Below.refl _ _).alloc (XW _) _)⟩
def zJ4 (neg:Bool) (n:Nat):Int:=if n=0 then 0 else if neg then -1 else 1
theorem zHS (neg:Bool) (a:Option Addr) (n cap:Nat) (w:World) (hr:n<=70368744177664) :
  Calls Tryz.prog 96 #[.agg #[.bool neg,.slice a n cap]] w λ e w'=>e=.returned (.int .i64 (zJ4 neg n))/\Below w.heap.size w w':=by
 by_cases hn:n=0
 ·subst hn
  go_enter Tryz.func96,Tryz.ntmps96
  go_wp2
  all_goals (go_ret;exact⟨by simp[zJ4],(Below.refl _ _).alloc (XW _) _⟩)
 ·have hz:((n:Int) == 0)=false:=by simp;omega
  cases neg
  all_goals
   go_enter Tryz.func96,Tryz.ntmps96
   go_wp2
   go_ret
   exact⟨by simp[zJ4,hn],(Below.refl _ _).alloc (XW _) _⟩
def zCL (d e:Nat->Int):Nat->Int
 | 0=>0
 | n+1=>if d n<e n then -1 else if e n<d n then 1 else zCL d e n
def zG4 (d e:Nat->Int) (n m:Nat):Int:=if n<m then -1 else if m<n then 1 else zCL d e n
theorem yG (a c:Option Addr) (n m cap j6:Nat) (d e:Nat->Int) (w:World) (ha:Dig w a n cap d) (hc:Dig w c m j6 e) :
  Calls Tryz.prog 101 #[.slice a n cap,.slice c m j6] w λ r w'=>r=.returned (.int .i64 (zG4 d e n m))/\Below w.heap.size w w':=by
 have hr:=ha.room;have hl:=ha.le;have eI:=hc.room;have Z3:=hc.le
 by_cases hne:n=m
 ·subst hne
  have hz:((n:Int) != n)=false:=by simp
  go_enter Tryz.func101,Tryz.ntmps101
  go_wp2
  go_loopw [5] (λ i wr=>∃ k:Nat,k<=n/\i=.int .i64 ((k:Int)-1)/\zCL d e n=zCL d e k/\Below w.heap.size w wr) (λ i _=>(intOf i+1).toNat)
  case atStart=>exact⟨n,XW _,rfl,rfl,Below.refl _ _⟩
  case round =>
   obtain⟨k,hk,rfl,iA,B8⟩:=hrel
   by_cases T5:k=0
   ·subst T5
    go_wp2
    go_ret
    exact⟨by simp[zG4,iA,zCL],B8⟩
   ·obtain⟨b1,o1,rfl,b7,F8⟩:=ha.at_ (by omega)
    obtain⟨b2,o2,rfl,b9,G8⟩:=hc.at_ (by omega)
    obtain⟨q,rfl⟩:∃ q,k=q+1:=⟨k-1,by omega⟩
    have e0:((q+1:Nat):Int)-1=(q:Int):=by omega
    rw[e0];have g1:wr.cell? ⟨b1,o1+q,none⟩=some (.int .u16 (d q)):=(B8.cell (p:=⟨b1,o1+q,none⟩) b7).trans (F8 q (by omega))
    have g2:wr.cell? ⟨b2,o2+q,none⟩=some (.int .u16 (e q)):=(B8.cell (p:=⟨b2,o2+q,none⟩) b9).trans (G8 q (by omega))
    have gq:(q:Int)<(n:Int):=by omega
    have Hcm:=zC iA;clear iA e0 ha hc F8 G8
    by_cases E4:d q<e q
    ·have t1:(d q != e q)=true:=by rw[bne_iff_ne];omega
     go_wp2
     go_quiet (fail)
     go_wp2
     go_quiet (fail)
     go_wp2
     go_ret
     exact⟨by simp[zG4,zA Hcm,zCL,E4],below_drewN (below_drewN B8 _) _⟩
    ·by_cases AX:e q<d q
     ·have t1:(d q != e q)=true:=by rw[bne_iff_ne];omega
      go_wp2
      go_quiet (fail)
      go_wp2
      go_quiet (fail)
      go_wp2
      go_ret
      exact⟨by simp[zG4,zA Hcm,zCL,E4,AX],below_drewN (below_drewN B8 _) _⟩
     ·have t1:(d q != e q)=false:=by rw[bne_eq_false_iff_eq];omega
      have Hn:=zC (show zCL d e (q+1)=zCL d e q by simp[zCL,E4,AX])
      go_wp2
      go_quiet (fail)
      go_wp2
      go_roundw
      case rel=>exact⟨q,by omega,by go_num,by rw[zA Hcm,zA Hn],below_drewN B8 _⟩
      case measure=>simp[intOf];try omega
 ·have hz:((n:Int) != m)=true:=by rw[bne_iff_ne];omega
  by_cases E4:n<m
  ·have KJ:(n:Int)<m:=by omega
   go_enter Tryz.func101,Tryz.ntmps101
   go_wp2
   go_ret
   exact⟨by simp[zG4,E4],Below.refl _ _⟩
  ·have KJ:¬ (n:Int)<m:=by omega
   go_enter Tryz.func101,Tryz.ntmps101
   go_wp2
   go_ret
   have AX:m<n:=by omega
   exact⟨by simp[zG4,E4,AX],Below.refl _ _⟩
def cmpI (neg b6:Bool) (d e:Nat->Int) (n m:Nat):Int :=
 if neg != b6 then (if neg then -1 else 1) else if neg then-zG4 d e n m else zG4 d e n m
theorem cmpTo_bd (d e:Nat->Int) (n:Nat) : -1<=zCL d e n/\zCL d e n<=1:=by
 induction n with
 | zero=>simp[zCL]
 | succ n ih=>simp only[zCL];split<;>(try split)<;>omega
theorem cmpZ_bd (d e:Nat->Int) (n m:Nat) : -1<=zG4 d e n m/\zG4 d e n m<=1:=by
 have:=cmpTo_bd d e n;unfold zG4;split<;>(try split)<;>omega
theorem zJ5 (neg b6:Bool) (a c:Option Addr) (n m cap j6:Nat) (d e:Nat->Int) (w:World) (ha:Dig w a n cap d) (hc:Dig w c m j6 e) :
  Calls Tryz.prog 46 #[.agg #[.bool neg,.slice a n cap],.agg #[.bool b6,.slice c m j6]] w λ r w'=>r=.returned (.int .i64 (cmpI neg b6 d e n m))/\Below w.heap.size w w':=by
 have hbd:=cmpZ_bd d e n m;obtain⟨b1,b2⟩:=hbd
 cases neg<;>cases b6
 all_goals
  go_enter Tryz.func46,Tryz.ntmps46
  go_wp2_with (go_at_call 101;refine (yG _ _ _ _ _ _ d e _ (ha.bw (bl2 _ _ _)) (hc.bw (bl2 _ _ _))).mono ?_;rintro r w' ⟨rfl,hb⟩)
  go_ret
  first|exact⟨by simp[cmpI],zB (bl2 _ _ _) ‹_›⟩|exact⟨by simp[cmpI],bl2 _ _ _⟩
theorem zB7 (neg:Bool) (a:Option Addr) (n cap:Nat) (d:Nat->Int) (w:World) (ha:Dig w a n cap d) :
  Calls Tryz.prog 120 #[.agg #[.bool neg,.slice a n cap]] w λ r w'=>r=.returned (.int .i64 (zIX n d))/\Below w.heap.size w w':=by
 have hr:=ha.room;have hl:=ha.le
 by_cases hn:n=0
 ·subst hn
  go_enter Tryz.func120,Tryz.ntmps120
  go_wp2
  go_ret
  exact⟨by simp[zIX],(Below.refl _ _).alloc (XW _) _⟩
 ·have hz:((n:Int) == 0)=false:=by simp;omega
  obtain⟨b,off,rfl,hb,hc⟩:=ha.at_ (by omega)
  have F8:=hc (n-1) (by omega)
  have hi:((n:Int)-1)=((n-1:Nat):Int):=by omega
  go_enter Tryz.func120,Tryz.ntmps120
  go_wp2
  go_loop [4,5] (λ k x=>∃ (f j:Nat) (y:Int),j+f=16/\k=.int .i64 j/\x=.int .u16 y/\0<=y/\y<Q f/\j+zCI f y=zCI 16 (d (n-1))) (λ _ x=>(intOf x).toNat)
  case atStart=>exact⟨16,0,_,rfl,rfl,rfl,(ha.dgs _).1,(ha.dgs _).2,by simp⟩
  case round =>
   obtain⟨f,j,y,hf,rfl,rfl,tK,AY,B8⟩:=hrel
   by_cases hy:y=0
   ·subst hy
    have C9:zCI f 0=0:=by cases f<;>simp[zCI]
    have HB:=zC (show (j:Int)=zCI 16 (d (n-1)) by omega)
    clear B8;go_wp2
    go_ret
    exact⟨by simp[zIX,hn,<- zA HB];omega,bl1 _ _⟩
   ·have P8:0<y:=by omega
    match f,hf,AY,B8 with
    | 0,_,AY,_=>simp[Q] at AY;omega
    | f+1,hf,AY,B8 =>
    have Hb2:=zC (show (j:Int)+1+zCI f (y/2)=zCI 16 (d (n-1)) by rw[<- B8];simp[zCI,show ¬ y<=0 by omega];omega)
    have KL:y<2*Q f:=AY;have KM:y/2<Q f:=by omega
    clear B8 AY KL;go_wp2
    go_round
    case rel=>exact⟨f,j+1,y/2,by omega,by go_num,by go_num,by omega,KM,by have:=zA Hb2;omega⟩
    case measure=>simp[intOf];try omega
theorem yE (a:Option Addr) (n cap:Nat) (d:Nat->Int) (w:World) (h:Dig w a n cap d) :
  Calls Tryz.prog 170 #[.slice a n cap] w λ e w'=>e=.returned (.slice a (kI d n) cap)/\Below w.heap.size w w':=by
 have hr:=h.room;have hl:=h.le
 go_enter Tryz.func170,Tryz.ntmps170
 go_wp2
 go_loopw [0] (λ l wr=>∃ m:Nat,m<=n/\l=.slice a m cap/\kI d n=kI d m/\Below w.heap.size w wr) (λ l _=>lenOf l)
 case atStart=>exact⟨n,XW _,rfl,rfl,Below.refl _ _⟩
 case round =>
  obtain⟨m,hm,rfl,ht,B8⟩:=hrel
  by_cases qy:m=0
  ·subst qy
   have Ht:=zC ht;clear ht;go_wp2
   go_ret
   exact⟨by simp[zA Ht,kI],B8⟩
  ·obtain⟨b,off,rfl,hb,hc⟩:=h.at_ (by omega)
   obtain⟨q,rfl⟩:∃ q,m=q+1:=⟨m-1,by omega⟩
   have hcq:wr.cell? ⟨b,off+q,none⟩=some (.int .u16 (d q)):=(B8.cell (p:=⟨b,off+q,none⟩) hb).trans (hc q (by omega))
   by_cases hd:d q=0
   ·have Ht:=zC (show kI d n=kI d q by rw[ht];simp[kI,hd])
    clear ht;go_wp2
    go_roundw
    case rel=>exact⟨q,by omega,rfl,zA Ht,B8⟩
    case measure=>simp[lenOf]
   ·have Ht:=zC (show kI d n=q+1 by rw[ht];simp[kI,hd])
    have ko:(d q == 0)=false:=by simpa using hd
    clear ht;go_wp2
    go_ret
    exact⟨by simp[zA Ht],B8⟩
theorem of_any (neg:Bool) (a:Option Addr) (n cap:Nat) (d:Nat->Int) (w:World) (h:Dig w a n cap d) :
  Calls Tryz.prog 125 #[.bool neg,.slice a n cap] w λ e w'=>e=.returned (.agg #[.bool (neg && decide (0<kI d n)),.slice a (kI d n) cap])/\Below w.heap.size w w':=by
 have hr:=h.room;have hl:=zBJ d n
 cases neg
 ·go_enter Tryz.func125,Tryz.ntmps125
  go_wp2_with (go_at_call 170;refine (yE _ _ _ d _ (h.bw (bl1 _ _))).mono ?_;rintro r w' ⟨rfl,hb⟩;obtain⟨hcell,gF⟩:=bcell hb;have O6:=hb.size);refine bodyPost_ret (v:=.agg #[.bool false,.slice a (kI d n) cap]) (by simp[results,Tryz.results125,go_sem,hcell,O6]) rfl ?_
  exact⟨by simp,by first|exact (zB (bl1 _ _) hb)|exact (zB (bl1 _ _) hb).setCell (XW _) _|exact ((zB (bl1 _ _) hb).setCell (XW _) _).setCell (XW _) _⟩
 ·go_enter Tryz.func125,Tryz.ntmps125
  go_wp2_with (go_at_call 170;refine (yE _ _ _ d _ (h.bw (bl1 _ _))).mono ?_;rintro r w' ⟨rfl,hb⟩;obtain⟨hcell,gF⟩:=bcell hb;have O6:=hb.size);refine bodyPost_ret (v:=.agg #[.bool (decide (0<kI d n)),.slice a (kI d n) cap]) (by simp[results,Tryz.results125,go_sem,hcell,O6]) rfl ?_
  exact⟨by simp,by first|exact (zB (bl1 _ _) hb)|exact (zB (bl1 _ _) hb).setCell (XW _) _|exact ((zB (bl1 _ _) hb).setCell (XW _) _).setCell (XW _) _⟩
theorem Tryz.infoU16:(Tryz.prog.info? 98).map (λ i=>(i.zero,i.size,i.bytes))=some (some (.int .u16 0),1,2):=by kernel_rfl
def dg (d:Nat->Int) (n j:Nat):Int:=if j<n then d j else 0
def jR (d e:Nat->Int) (n m:Nat):Nat->Int
 | 0=>0
 | k+1=>(jR d e n m k+dg d n k+dg e m k)/65536
def zB5 (d e:Nat->Int) (n m j:Nat):Int:=(jR d e n m j+dg d n j+dg e m j) % 65536
theorem zIV {d e:Nat->Int} (hd:Dgs d) (he:Dgs e) (n m k:Nat):0<=jR d e n m k/\jR d e n m k<=1:=by
 induction k with
 | zero=>simp[jR]
 | succ k ih =>
  simp only[jR,dg];have:=hd k;have:=he k;split<;>split<;>omega
theorem zAQ {wr:World} {b t N k:Nat} {f:Nat->Int} (h:wr.rowIs b t N (λ j=>.int .u16 (if j<k then f j else 0))) {v:Int} (hv:v=f k) :
  (wr.setCell ⟨b,k,none⟩ (.int .u16 v)).rowIs b t N (λ j=>.int .u16 (if j<k+1 then f j else 0)):=by
 refine (h.set k (.int .u16 v)).congr λ j _=>?_
 by_cases hj:j=k
 ·subst hj;simp[hv]
 ·have:(j<k+1)=(j<k):=by simp;omega
  simp[hj,this]
theorem zAR (x:Int):IntKind.u16.wrap x=x % 65536:=rfl
theorem plus_any (a c:Option Addr) (n m cap j6:Nat) (d e:Nat->Int) (w:World) (ha:Dig w a n cap d) (hc:Dig w c m j6 e) (hn:n<=1000000000) (hm:m<=1000000000) :
  Calls Tryz.prog 126 #[.slice a n cap,.slice c m j6] w λ r w'=>∃ N,N=max n m+1/\r=.returned (.slice (some ⟨w.heap.size,0,none⟩) N N)/\w'.rowIs w.heap.size 98 N (λ j=>.int .u16 (zB5 d e n m j))/\Below w.heap.size w w':=by
 obtain⟨N,hN⟩:∃ N,N=max n m+1:=⟨_,rfl⟩;have Q3:N<=1000000001:=by omega
 have hnN:n<N:=by omega
 have hmN:m<N:=by omega
 have aS:=run_make_row' (P:=Tryz.prog) 24 98 (.int .u16 0) 2 Tryz.underlying24 Tryz.infoU16 rfl .i64 .i64 N (by omega) (by omega)
 have key:(n<m/\(m:Int)+1=N)\/(m<=n/\(n:Int)+1=N):=by omega
 have HN:=zC hN;clear hN
 rcases key with⟨E4,hmx⟩|⟨E4,hmx⟩
 all_goals
  go_enter Tryz.func126,Tryz.ntmps126
  go_wp2;clear aS E4 hmx
  go_loopw [6,17] (λ cy i wr=>∃ k:Nat,k<=N/\i=.int .i64 k/\cy=.int .u32 (jR d e n m k)/\wr.rowIs w.heap.size 98 N (λ j=>.int .u16 (if j<k then zB5 d e n m j else 0))/\Below w.heap.size w wr) (λ _ i _=>N-(intOf i).toNat)
  case atStart=>exact⟨0,Nat.zero_le _,rfl,rfl,by simpa using World.rowIs_made w (.int .u16 0) N 98,bl1 _ _⟩
  case round =>
   obtain⟨k,hk,rfl,rfl,B9,B8⟩:=hrel
   by_cases hkN:k<N
   ·have r1:=B9.cell hkN
    have r2:=B9.frozen k;have cb:=zIV ha.dgs hc.dgs n m k;have db:=ha.dgs k;have eb:=hc.dgs k
    by_cases eJ:k<n
    ·obtain⟨b1,o1,rfl,b7,F8⟩:=ha.at_ (by omega)
     have g1:wr.cell? ⟨b1,o1+k,none⟩=some (.int .u16 (d k)):=(B8.cell (p:=⟨b1,o1+k,none⟩) b7).trans (F8 k eJ);clear F8
     by_cases Z7:k<m
     ·obtain⟨b2,o2,rfl,b9,G8⟩:=hc.at_ (by omega)
      have g2:wr.cell? ⟨b2,o2+k,none⟩=some (.int .u16 (e k)):=(B8.cell (p:=⟨b2,o2+k,none⟩) b9).trans (G8 k Z7);clear G8;have H1:=zC (show (jR d e n m k+d k+e k)/65536=jR d e n m (k+1) by simp[jR,dg,eJ,Z7])
      have H2:=zC (show IntKind.u16.wrap (jR d e n m k+d k+e k)=zB5 d e n m k by simp[zAR,zB5,dg,eJ,Z7])
      go_wp2
      go_roundw
      case rel=>exact⟨k+1,by omega,by go_num,by rw[zA H1],zAQ B9 (zA H2),B8.setCell (XW _) _⟩
      case measure=>simp[intOf];omega
     ·have H1:=zC (show (jR d e n m k+d k)/65536=jR d e n m (k+1) by simp[jR,dg,eJ,Z7])
      have H2:=zC (show IntKind.u16.wrap (jR d e n m k+d k)=zB5 d e n m k by simp[zAR,zB5,dg,eJ,Z7])
      go_wp2
      go_roundw
      case rel=>exact⟨k+1,by omega,by go_num,by rw[zA H1],zAQ B9 (zA H2),B8.setCell (XW _) _⟩
      case measure=>simp[intOf];omega
    ·by_cases Z7:k<m
     ·obtain⟨b2,o2,rfl,b9,G8⟩:=hc.at_ (by omega)
      have g2:wr.cell? ⟨b2,o2+k,none⟩=some (.int .u16 (e k)):=(B8.cell (p:=⟨b2,o2+k,none⟩) b9).trans (G8 k Z7);clear G8;have H1:=zC (show (jR d e n m k+e k)/65536=jR d e n m (k+1) by simp[jR,dg,eJ,Z7])
      have H2:=zC (show IntKind.u16.wrap (jR d e n m k+e k)=zB5 d e n m k by simp[zAR,zB5,dg,eJ,Z7])
      go_wp2
      go_roundw
      case rel=>exact⟨k+1,by omega,by go_num,by rw[zA H1],zAQ B9 (zA H2),B8.setCell (XW _) _⟩
      case measure=>simp[intOf];omega
     ·have H1:=zC (show (jR d e n m k)/65536=jR d e n m (k+1) by simp[jR,dg,eJ,Z7])
      have H2:=zC (show jR d e n m k=zB5 d e n m k by simp[zB5,dg,eJ,Z7];omega)
      go_wp2
      go_roundw
      case rel=>exact⟨k+1,by omega,by go_num,by rw[zA H1],zAQ B9 (zA H2),B8.setCell (XW _) _⟩
      case measure=>simp[intOf];omega
   ·have hkE:k=N:=by omega
    subst hkE;go_wp2
    go_ret
    exact⟨_,zA HN,rfl,B9.congr (λ j hj=>by simp[hj]),B8⟩
def jH (d e:Nat->Int) (m:Nat):Nat->Int
 | 0=>0
 | k+1=>if d k-jH d e m k-dg e m k<0 then 1 else 0
def zBB (d e:Nat->Int) (m j:Nat):Int:=if d j-jH d e m j-dg e m j<0 then d j-jH d e m j-dg e m j+65536 else d j-jH d e m j-dg e m j
theorem zD1 (d e:Nat->Int) (m k:Nat):0<=jH d e m k/\jH d e m k<=1:=by
 cases k with
 | zero=>simp[jH]
 | succ k=>simp only[jH];split<;>omega
theorem less_any (a c:Option Addr) (n m cap j6:Nat) (d e:Nat->Int) (w:World) (ha:Dig w a n cap d) (hc:Dig w c m j6 e) (hn:n<=1000000000) (hm:m<=1000000000) :
  Calls Tryz.prog 127 #[.slice a n cap,.slice c m j6] w λ r w'=>r=.returned (.slice (some ⟨w.heap.size,0,none⟩) n n)/\w'.rowIs w.heap.size 98 n (λ j=>.int .u16 (zBB d e m j))/\Below w.heap.size w w':=by
 have aS:=run_make_row' (P:=Tryz.prog) 24 98 (.int .u16 0) 2 Tryz.underlying24 Tryz.infoU16 rfl .i64 .i64 n (by omega) (by omega)
 go_enter Tryz.func127,Tryz.ntmps127
 go_wp2;clear aS
 go_loopw [6,14] (λ cy i wr=>∃ k:Nat,k<=n/\i=.int .i64 k/\cy=.int .i64 (jH d e m k)/\wr.rowIs w.heap.size 98 n (λ j=>.int .u16 (if j<k then zBB d e m j else 0))/\Below w.heap.size w wr) (λ _ i _=>n-(intOf i).toNat)
 case atStart=>exact⟨0,Nat.zero_le _,rfl,rfl,by simpa using World.rowIs_made w (.int .u16 0) n 98,bl1 _ _⟩
 case round =>
  obtain⟨k,hk,rfl,rfl,B9,B8⟩:=hrel
  by_cases eJ:k<n
  ·have r1:=B9.cell eJ
   have r2:=B9.frozen k;have cb:=zD1 d e m k;have db:=ha.dgs k;have eb:=hc.dgs k;obtain⟨b1,o1,rfl,b7,F8⟩:=ha.at_ (by omega)
   have g1:wr.cell? ⟨b1,o1+k,none⟩=some (.int .u16 (d k)):=(B8.cell (p:=⟨b1,o1+k,none⟩) b7).trans (F8 k eJ);clear F8
   by_cases Z7:k<m
   ·obtain⟨b2,o2,rfl,b9,G8⟩:=hc.at_ (by omega)
    have g2:wr.cell? ⟨b2,o2+k,none⟩=some (.int .u16 (e k)):=(B8.cell (p:=⟨b2,o2+k,none⟩) b9).trans (G8 k Z7);clear G8
    by_cases K5:d k-jH d e m k-e k<0
    ·have H1:=zC (show 1=jH d e m (k+1) by simp[jH,dg,Z7,K5])
     have H2:=zC (show d k-jH d e m k-e k+65536=zBB d e m k by simp[zBB,dg,Z7,K5])
     go_wp2
     go_roundw
     case rel=>exact⟨k+1,by omega,by go_num,by rw[<- zA H1],zAQ B9 (zA H2),B8.setCell (XW _) _⟩
     case measure=>simp[intOf];omega
    ·have H1:=zC (show 0=jH d e m (k+1) by simp[jH,dg,Z7,K5])
     have H2:=zC (show d k-jH d e m k-e k=zBB d e m k by simp[zBB,dg,Z7,K5])
     go_wp2
     go_roundw
     case rel=>exact⟨k+1,by omega,by go_num,by rw[<- zA H1],zAQ B9 (zA H2),B8.setCell (XW _) _⟩
     case measure=>simp[intOf];omega
   ·by_cases K5:d k-jH d e m k<0
    ·have H1:=zC (show 1=jH d e m (k+1) by simp[jH,dg,Z7,K5])
     have H2:=zC (show d k-jH d e m k+65536=zBB d e m k by simp[zBB,dg,Z7,K5])
     go_wp2
     go_roundw
     case rel=>exact⟨k+1,by omega,by go_num,by rw[<- zA H1],zAQ B9 (zA H2),B8.setCell (XW _) _⟩
     case measure=>simp[intOf];omega
    ·have H1:=zC (show 0=jH d e m (k+1) by simp[jH,dg,Z7,K5])
     have H2:=zC (show d k-jH d e m k=zBB d e m k by simp[zBB,dg,Z7,K5])
     go_wp2
     go_roundw
     case rel=>exact⟨k+1,by omega,by go_num,by rw[<- zA H1],zAQ B9 (zA H2),B8.setCell (XW _) _⟩
     case measure=>simp[intOf];omega
  ·have hkE:k=n:=by omega
   subst hkE;go_wp2
   go_ret
   exact⟨rfl,B9.congr (λ j hj=>by simp[hj]),B8⟩
theorem V_dg (d : Nat → Int) (n N : Nat) (h : n ≤ N) : V (dg d n) N = V d n := by
  induction N with
  | zero => have : n = 0 := by omega
            subst this; rfl
  | succ N ih =>
    by_cases hN : n = N + 1
    · subst hN
      apply zBY
      intro j hj; simp [dg, hj]
    · simp only [V]
      rw [ih (by omega)]
      have : ¬ N < n := by omega
      simp [dg, this]
theorem zNX (d e:Nat->Int) (n m k:Nat):V (zB5 d e n m) k+jR d e n m k*P k=V (dg d n) k+V (dg e m) k:=by
 induction k with
 | zero=>simp[V,jR]
 | succ k ih =>
  simp only[V,P]
  have h1:zB5 d e n m k+65536*jR d e n m (k+1)=jR d e n m k+dg d n k+dg e m k:=by
   simp only[zB5,jR];omega
  have h2:zB5 d e n m k*P k+65536*jR d e n m (k+1)*P k=jR d e n m k*P k+dg d n k*P k+dg e m k*P k:=by
   rw[<- Int.add_mul,h1,Int.add_mul,Int.add_mul]
  have h3:jR d e n m (k+1)*(65536*P k)=65536*jR d e n m (k+1)*P k:=by
   rw[<- Int.mul_assoc,Int.mul_comm (jR d e n m (k+1)) 65536]
  omega
theorem zIF (d e:Nat->Int) (n m:Nat):Dgs (zB5 d e n m):=by
 intro j;simp only[zB5];omega
theorem plus_V {d e:Nat->Int} (hd:Dgs d) (he:Dgs e) (n m:Nat):V (zB5 d e n m) (max n m+1)=V d n+V e m:=by
 have h:=zNX d e n m (max n m+1);rw[V_dg d n _ (by omega),V_dg e m _ (by omega)] at h
 have c0:=zIV hd he n m (max n m+1);have b1:=zHY hd n;have b2:=zHY he m;have p1:P n<=P (max n m):=zBH (by omega)
 have p2:P m<=P (max n m):=zBH (by omega)
 have b3:=zZ (zIF d e n m) (max n m+1);have hP:P (max n m+1)=65536*P (max n m):=rfl;have hp:=yB (max n m)
 by_cases hc:jR d e n m (max n m+1)=0
 ·rw[hc] at h;omega
 ·have:jR d e n m (max n m+1)=1:=by omega
  rw[this] at h;omega
theorem zNU (d e:Nat->Int) (m k:Nat):V (zBB d e m) k-jH d e m k*P k=V d k-V (dg e m) k:=by
 induction k with
 | zero=>simp[V,jH]
 | succ k ih =>
  simp only[V,P]
  have h1:zBB d e m k-65536*jH d e m (k+1)=d k-jH d e m k-dg e m k:=by
   simp only[zBB,jH];split<;>omega
  have h2:zBB d e m k*P k-65536*jH d e m (k+1)*P k=d k*P k-jH d e m k*P k-dg e m k*P k:=by
   rw[<- Int.sub_mul,h1,Int.sub_mul,Int.sub_mul]
  have h3:jH d e m (k+1)*(65536*P k)=65536*jH d e m (k+1)*P k:=by
   rw[<- Int.mul_assoc,Int.mul_comm (jH d e m (k+1)) 65536]
  omega
theorem zFU {d e:Nat->Int} (hd:Dgs d) (he:Dgs e) (m:Nat):Dgs (zBB d e m):=by
 intro j
 have:=hd j;have:=he j;have:=zD1 d e m j;simp only[zBB,dg];split<;>split<;>omega
theorem zQ6 {d e:Nat->Int} (hd:Dgs d) (he:Dgs e) (n m:Nat) (iB:m<=n) (h:V e m<=V d n):V (zBB d e m) n=V d n-V e m:=by
 have h1:=zNU d e m n;rw[V_dg e m _ iB] at h1;have c0:=zD1 d e m n;have b3:=zHY (zFU hd he m) n
 by_cases hc:jH d e m n=0
 ·rw[hc] at h1;omega
 ·have:jH d e m n=1:=by omega
  rw[this] at h1;omega
def zF (x y:Int):Int:=if x<y then -1 else if y<x then 1 else 0
theorem cmpTo_V {d e:Nat->Int} (hd:Dgs d) (he:Dgs e) (n:Nat):zCL d e n=zF (V d n) (V e n):=by
 induction n with
 | zero=>simp[zCL,zF,V]
 | succ n ih =>
  simp only[zCL,V];have a1:=zHY hd n;have a2:=zHY he n;have a3:=zZ hd n;have a4:=zZ he n;have hp:=yB n
  by_cases h1:d n<e n
  ·have:d n*P n+P n<=e n*P n:=by
    have:=XK (show d n+1<=e n by omega) (show 0<=P n by omega)
    rw[Int.add_mul] at this;omega
   simp only[h1,if_true,zF];rw[if_pos (by omega)]
  ·by_cases h2:e n<d n
   ·have:e n*P n+P n<=d n*P n:=by
     have:=XK (show e n+1<=d n by omega) (show 0<=P n by omega)
     rw[Int.add_mul] at this;omega
    simp only[h1,h2,if_true,if_false,zF];rw[if_neg (by omega),if_pos (by omega)]
   ·have:d n=e n:=by omega
    simp only[h1,h2,if_false,ih,this];generalize e n*P n=t;unfold zF
    repeat' split
    all_goals omega
theorem V_ge {d:Nat->Int} (hd:Dgs d) (n:Nat) (h:d n≠0):P n<=V d (n+1):=by
 simp only[V];have:=zZ hd n;have:=hd n;have hp:=yB n;have:=XK (show 1<=d n by omega) (show 0<=P n by omega)
 omega
theorem zJH {d e:Nat->Int} (hd:Dgs d) (he:Dgs e) (n m:Nat) (h1:n=0\/d (n-1)≠0) (h2:m=0\/e (m-1)≠0):zG4 d e n m=zF (V d n) (V e m):=by
 unfold zG4
 by_cases E4:n<m
 ·have:=zHY hd n
  have hm:e (m-1)≠0:=by omega
  have:=V_ge he (m-1) hm;have e1:m-1+1=m:=by omega
  rw[e1] at this;have:=zBH (show n<=m-1 by omega)
  simp only[E4,if_true,zF];rw[if_pos (by omega)]
 ·by_cases AX:m<n
  ·have:=zHY he m
   have hm:d (n-1)≠0:=by omega
   have:=V_ge hd (n-1) hm;have e1:n-1+1=n:=by omega
   rw[e1] at this;have:=zBH (show m<=n-1 by omega)
   simp only[E4,AX,if_true,if_false,zF];rw[if_neg (by omega),if_pos (by omega)]
  ·have:n=m:=by omega
   subst this;simp only[E4,if_false];exact cmpTo_V hd he n
theorem zDU {d e:Nat->Int} (hd:Dgs d) (he:Dgs e) (neg b6:Bool) (n m:Nat) (h1:n=0\/d (n-1)≠0) (h2:m=0\/e (m-1)≠0) (h3:n=0->neg=false) (h4:m=0->b6=false) :
  cmpI neg b6 d e n m=zF (sgn neg (V d n)) (sgn b6 (V e m)):=by
 have c:=zJH hd he n m h1 h2;have a3:=zZ hd n;have a4:=zZ he m
 have zBE:neg=true->1<=V d n:=λ hn=>by
  have tI:n≠0:=λ h0=>by rw[h3 h0] at hn;cases hn
  have:=V_ge hd (n-1) (by omega)
  have e1:n-1+1=n:=by omega
  rw[e1] at this;have:=yB (n-1);omega
 have pos2:b6=true->1<=V e m:=λ hn=>by
  have tI:m≠0:=λ h0=>by rw[h4 h0] at hn;cases hn
  have:=V_ge he (m-1) (by omega)
  have e1:m-1+1=m:=by omega
  rw[e1] at this;have:=yB (m-1);omega
 generalize V d n=x at *;generalize V e m=y at *;clear h1 h2 h3 h4
 cases neg<;>cases b6<;>simp[cmpI,sgn,c] at*<;> unfold zF<;>repeat' split
 all_goals omega
attribute [local go_sem ↓] Go.wp_at_zero Go.wp_at_succ
theorem zEL {w:World} {b t N:Nat} {f:Nat->Int} (h:w.rowIs b t N (λ j=>.int .u16 (f j))) (hd:Dgs f) (hN:N<=70368744177664):Dig w (some ⟨b,0,none⟩) N N f :=
 ⟨λ _=>⟨b,0,rfl,h.lt,λ j hj=>by simpa using h.cell hj⟩,hd,XW _,hN⟩
theorem ofInt {w:World} {a:Option Addr} {N cap:Nat} {f:Nat->Int} (neg:Bool) (h:Dig w a N cap f):IntAt w (neg && decide (0<kI f N)) a (kI f N) cap N (sgn neg (V f N)):=by
 have hl:=zBJ f N;have hV:=zCJ f N;refine⟨f,h.take hl,zBR f N,λ h0=>by simp[h0],hl,?_⟩
 by_cases h0:kI f N=0
 ·rw[h0] at hV ⊢;rw[<- hV];cases neg<;>simp[sgn,V]
 ·have:decide (0<kI f N)=true:=by simp;omega
  rw[this,hV];cases neg<;>rfl
theorem plus_dig (a c:Option Addr) (n m cap j6:Nat) (d e:Nat->Int) (w:World) (ha:Dig w a n cap d) (hc:Dig w c m j6 e) (hn:n<=1000000000) (hm:m<=1000000000) :
  Calls Tryz.prog 126 #[.slice a n cap,.slice c m j6] w λ r w'=>∃ a' N,Hid (N=max n m+1)/\r=.returned (.slice a' N N)/\Dig w' a' N N (zB5 d e n m)/\Below w.heap.size w w' :=
 (plus_any a c n m cap j6 d e w ha hc hn hm).mono λ _ _ ⟨N,h1,h2,h3,h4⟩=>⟨_,N,h1,h2,zEL h3 (zIF _ _ _ _) (by omega),h4⟩
theorem zHB (a c:Option Addr) (n m cap j6:Nat) (d e:Nat->Int) (w:World) (ha:Dig w a n cap d) (hc:Dig w c m j6 e) (hn:n<=1000000000) (hm:m<=1000000000) :
  Calls Tryz.prog 127 #[.slice a n cap,.slice c m j6] w λ r w'=>∃ a',r=.returned (.slice a' n n)/\Dig w' a' n n (zBB d e m)/\Below w.heap.size w w' :=
 (less_any a c n m cap j6 d e w ha hc hn hm).mono λ _ _ ⟨h2,h3,h4⟩=>⟨_,h2,zEL h3 (zFU ha.dgs hc.dgs _) (by omega),h4⟩
theorem zBG (neg:Bool) (a:Option Addr) (n cap:Nat) (d:Nat->Int) (w:World) (h:Dig w a n cap d) :
  Calls Tryz.prog 125 #[.bool neg,.slice a n cap] w λ e w'=>∃ j8 a' n' m7,e=.returned (.agg #[.bool j8,.slice a' n' m7])/\IntAt w' j8 a' n' m7 n (sgn neg (V d n))/\Below w.heap.size w w' :=
 (of_any neg a n cap d w h).mono λ _ _ ⟨h1,h2⟩=>⟨_,_,_,_,h1,(ofInt neg h).bw h2,h2⟩
theorem zU (neg b6:Bool) (a a2:Option Addr) (n n2 cap j6 k k2:Nat) (x y:Int) (w:World) (h1:IntAt w neg a n cap k x) (h2:IntAt w b6 a2 n2 j6 k2 y) :
  Calls Tryz.prog 46 #[.agg #[.bool neg,.slice a n cap],.agg #[.bool b6,.slice a2 n2 j6]] w λ r w'=>r=.returned (.int .i64 (zF x y))/\Below w.heap.size w w':=by
 obtain⟨d,g1,g2,g3,g4,rfl⟩:=h1;obtain⟨d2,f1,f2,f3,f4,rfl⟩:=h2;rw[<- zDU g1.dgs f1.dgs neg b6 n n2 g2 f2 g3 f3];exact zJ5 neg b6 a a2 n n2 cap j6 d d2 w g1 f1
theorem add_any (neg b6:Bool) (a c:Option Addr) (n m cap j6:Nat) (d e:Nat->Int) (w:World) (ha:Dig w a n cap d) (hc:Dig w c m j6 e) (hn:n<=1000000000) (hm:m<=1000000000)
  (h1:n=0\/d (n-1)≠0) (h2:m=0\/e (m-1)≠0) :
  Calls Tryz.prog 65 #[.agg #[.bool neg,.slice a n cap],.agg #[.bool b6,.slice c m j6]] w λ r w' =>
   ∃ j8 a' n' m7,r=.returned (.agg #[.bool j8,.slice a' n' m7])/\IntAt w' j8 a' n' m7 (max n m+1) (sgn neg (V d n)+sgn b6 (V e m))/\Below w.heap.size w w':=by
 by_cases hs:neg=b6
 ·subst hs
  have hs:(neg == neg)=true:=by simp
  have iC:w.heap.size≠w.heap.size+1+1:=by omega
  have iD:w.heap.size+1+1≠w.heap.size:=by omega
  go_enter Tryz.func65,Tryz.ntmps65
  go_wp2
  go_region_held3 (λ w'=>w'.cell? ⟨w.heap.size,0,none⟩=some (.bool neg)/\w'.cell? ⟨w.heap.size,1,none⟩=some (.slice a n cap)/\w'.cell? ⟨w.heap.size+1,1,none⟩=some (.slice c m j6)) (go_keep)
   (first
    | (go_at_call 126;refine (plus_dig _ _ _ _ _ _ d e _ (ha.bw (bl3 _ _ _ _).drew) (hc.bw (bl3 _ _ _ _).drew) hn hm).mono ?_;rintro r w1 ⟨a',N,HN,rfl,aZ,hb⟩;obtain⟨O6,hcell,gF⟩:=jY (w.heap.size+3) (by simp) hb)
    | (go_at_call 125;refine (zBG _ _ _ _ (zB5 d e n m) _ aZ).mono ?_;rintro r w2 ⟨j8,a2,n2,c2,rfl,hint,b9⟩;obtain⟨D7,C7,G0⟩:=jY (w.heap.size+3) O6 b9))
  go_wp2;refine bodyPost_ret (v:=.agg #[.bool j8,.slice a2 n2 c2]) (by simp[results,Tryz.results65,go_sem,C7,hcell]) rfl ⟨j8,a2,n2,c2,rfl,?_,?_⟩
  ·have hV:=plus_V ha.dgs hc.dgs n m
   have h0:w2.cell? ⟨w.heap.size+1+1,0,none⟩=some (.bool false):=by simp[C7,hcell,go_sem]
   have I1:w2.cell? ⟨w.heap.size+1+1,1,none⟩=some (.slice none 0 0):=by simp[C7,hcell,go_sem]
   rw[zA HN,hV] at hint;have e1:sgn neg (V d n+V e m)=sgn neg (V d n)+sgn neg (V e m):=by cases neg<;>simp[sgn];omega
   rw[e1] at hint;exact hint.put2 h0 I1 _ _
  ·exact ((zB (zB (bl3 _ _ _ _).drew hb) b9).setCell (by simp;omega) _).setCell (by simp;omega) _
 ·have aT:(neg == b6)=false:=by simpa using hs
  have iC:w.heap.size≠w.heap.size+1+1:=by omega
  have iD:w.heap.size+1+1≠w.heap.size:=by omega
  have hcv:=zJH ha.dgs hc.dgs n m h1 h2
  by_cases P9:0<=zG4 d e n m
  ·have hle:V e m<=V d n:=by
    rw[hcv] at P9;unfold zF at P9;split at P9<;>omega
   have oW:m<=n:=by
    unfold zG4 at P9;split at P9<;>omega
   have Hv:=zC (show sgn neg (V (zBB d e m) n)=sgn neg (V d n)+sgn b6 (V e m) by
    rw[zQ6 ha.dgs hc.dgs n m oW hle];cases neg<;>cases b6<;>simp[sgn] at*<;> omega)
   clear hcv
   go_enter Tryz.func65,Tryz.ntmps65
   go_wp2_with (go_at_call 101;refine (yG _ _ _ _ _ _ d e _ (ha.bw (bl3 _ _ _ _)) (hc.bw (bl3 _ _ _ _))).mono ?_;rintro r w0 ⟨rfl,C9⟩;obtain⟨bZ,eM,oX⟩:=jY (w.heap.size+3) (by simp) C9)
   go_region_held3 (λ w'=>w'.cell? ⟨w.heap.size,0,none⟩=some (.bool neg)/\w'.cell? ⟨w.heap.size,1,none⟩=some (.slice a n cap)/\w'.cell? ⟨w.heap.size+1,1,none⟩=some (.slice c m j6)) (go_keep)
    (first
     | (go_at_call 127;refine (zHB _ _ _ _ _ _ d e _ (ha.bw (zB (bl3 _ _ _ _) C9).drew) (hc.bw (zB (bl3 _ _ _ _) C9).drew) hn hm).mono ?_;rintro r w1 ⟨a',rfl,aZ,hb⟩;obtain⟨O6,hcell,gF⟩:=jY (w.heap.size+3) (by exact bZ) hb)
     | (go_at_call 125;refine (zBG _ _ _ _ (zBB d e m) _ aZ).mono ?_;rintro r w2 ⟨j8,a2,n2,c2,rfl,hint,b9⟩;obtain⟨D7,C7,G0⟩:=jY (w.heap.size+3) O6 b9))
   go_wp2;refine bodyPost_ret (v:=.agg #[.bool j8,.slice a2 n2 c2]) (by simp[results,Tryz.results65,go_sem,C7,hcell,eM]) rfl ⟨j8,a2,n2,c2,rfl,?_,?_⟩
   ·have h0:w2.cell? ⟨w.heap.size+1+1,0,none⟩=some (.bool false):=by simp[C7,hcell,eM,go_sem]
    have I1:w2.cell? ⟨w.heap.size+1+1,1,none⟩=some (.slice none 0 0):=by simp[C7,hcell,eM,go_sem]
    rw[zA Hv] at hint;exact (hint.put2 h0 I1 _ _).mono (by omega)
   ·exact ((zB (zB (zB (bl3 _ _ _ _) C9).drew hb) b9).setCell (by simp;omega) _).setCell (by simp;omega) _
  ·have hle:V d n<=V e m:=by
    rw[hcv] at P9;unfold zF at P9;split at P9<;>omega
   have oW:n<=m:=by
    unfold zG4 at P9;split at P9<;>(try split at P9)<;>omega
   have Hv:=zC (show sgn b6 (V (zBB e d n) m)=sgn neg (V d n)+sgn b6 (V e m) by
    rw[zQ6 hc.dgs ha.dgs m n oW hle];cases neg<;>cases b6<;>simp[sgn] at*<;> omega)
   clear hcv
   go_enter Tryz.func65,Tryz.ntmps65
   go_wp2_with (go_at_call 101;refine (yG _ _ _ _ _ _ d e _ (ha.bw (bl3 _ _ _ _)) (hc.bw (bl3 _ _ _ _))).mono ?_;rintro r w0 ⟨rfl,C9⟩;obtain⟨bZ,eM,oX⟩:=jY (w.heap.size+3) (by simp) C9)
   go_region_held3 (λ w'=>w'.cell? ⟨w.heap.size+1,0,none⟩=some (.bool b6)/\w'.cell? ⟨w.heap.size+1,1,none⟩=some (.slice c m j6)/\w'.cell? ⟨w.heap.size,1,none⟩=some (.slice a n cap)) (go_keep)
    (first
     | (go_at_call 127;refine (zHB _ _ _ _ _ _ e d _ (hc.bw (zB (bl3 _ _ _ _) C9).drew) (ha.bw (zB (bl3 _ _ _ _) C9).drew) hm hn).mono ?_;rintro r w1 ⟨a',rfl,aZ,hb⟩;obtain⟨O6,hcell,gF⟩:=jY (w.heap.size+3) (by exact bZ) hb)
     | (go_at_call 125;refine (zBG _ _ _ _ (zBB e d n) _ aZ).mono ?_;rintro r w2 ⟨j8,a2,n2,c2,rfl,hint,b9⟩;obtain⟨D7,C7,G0⟩:=jY (w.heap.size+3) O6 b9))
   go_wp2;refine bodyPost_ret (v:=.agg #[.bool j8,.slice a2 n2 c2]) (by simp[results,Tryz.results65,go_sem,C7,hcell,eM]) rfl ⟨j8,a2,n2,c2,rfl,?_,?_⟩
   ·have h0:w2.cell? ⟨w.heap.size+1+1,0,none⟩=some (.bool false):=by simp[C7,hcell,eM,go_sem]
    have I1:w2.cell? ⟨w.heap.size+1+1,1,none⟩=some (.slice none 0 0):=by simp[C7,hcell,eM,go_sem]
    rw[zA Hv] at hint;exact (hint.put2 h0 I1 _ _).mono (by omega)
   ·exact ((zB (zB (zB (bl3 _ _ _ _) C9).drew hb) b9).setCell (by simp;omega) _).setCell (by simp;omega) _
theorem zFF (b off j:Nat):(⟨b,off,none⟩:Addr).add j=⟨b,off+j,none⟩:=by unfold Addr.add;split<;>simp_all
def yI (d:Nat->Int) (n:Nat):List Value:=(List.range n).map λ j=>.int .u16 (d j)
theorem yN (d:Nat->Int) (n:Nat):(yI d n).length=n:=by simp[yI]
theorem zBP (d:Nat->Int) (n j:Nat) (hj:j<n):(yI d n)[j]?=some (.int .u16 (d j)):=by simp[yI,hj]
theorem zFS {d:Nat->Int} {n j:Nat} {u:Value} (h:(yI d n)[j]?=some u):j<n/\u=.int .u16 (d j):=by
 by_cases hj:j<n
 ·rw[zBP d n j hj] at h;exact⟨hj,(Option.some.inj h).symm⟩
 ·rw[List.getElem?_eq_none (by rw[yN];omega)] at h;cases h
theorem zG3 (d:Nat->Int) (n:Nat):∀ u ∈ yI d n,u.oneCell'=true:=by
 intro u hu
 obtain⟨j,_,rfl⟩:=List.mem_map.1 hu
 rfl
theorem zF0 {Pr:Program} (w:World) (t ty e:TypeId) (i:TypeInfo) (z:Value) (ht:Pr.underlying t=some (.slice e)) (hi:Pr.info? e=some i) (hz:i.zero=some z) (h4:i.size=1) (hb:i.bytes=2)
  (b:Nat) (ad:Option Addr) (n cap:Nat) (d:Nat->Int) (hD:Dig w ad n cap d) (hn:n<=1000000000) :
  ∃ a' m7 w',(Builtin.append_ #[t,t] ty #[.slice (some ⟨b,0,none⟩) 0 0,.slice ad n cap]).run Pr w=.ok (.slice a' n m7) w'/\Dig w' a' n m7 d/\Below w.heap.size w w':=by
 by_cases h0:n=0
 ·subst h0
  have hs:Src Pr i.size t (.slice ad 0 cap) 0 [] w:=by
   cases ad with
   | none=>exact Src.ofNil w ht cap
   | some ad=>exact Src.ofSlice w ht ad 0 cap [] (by simp) (by simp) (by simp)
  have hr:=run_append_room_src (P:=Pr) w t t ty e i ht hi b 0 0 0 (.slice ad 0 cap) 0 [] hs (by omega) (by simp) (by simp)
  exact⟨_,_,_,hr,⟨λ h=>by omega,hD.dgs,XW _,by omega⟩,by simp[World.setCells];exact Below.refl _ _⟩
 ·obtain⟨b1,off,rfl,b7,hc⟩:=hD.at_ (by omega)
  have hs:Src Pr i.size t (.slice (some ⟨b1,off,none⟩) n cap) n (yI d n) w :=
   Src.ofSlice w ht ⟨b1,off,none⟩ n cap (yI d n) (by rw[yN,h4];omega) (λ j u hu=>by
    obtain⟨hj,rfl⟩:=zFS hu
    rw[zFF];exact hc j hj) (zG3 d n)
  have hr:=run_append_grow_src (P:=Pr) w t t ty e i z ht hi hz (some ⟨b,0,none⟩) 0 0 [] (run_firstCells_some w.drew i.size 0 ⟨b,0,none⟩ 0 0 [] (by simp) (by simp)) (.slice (some ⟨b1,off,none⟩) n cap) n (yI d n) hs (by omega) (by omega)
   (by rw[hb];unfold Builtin.nextslicecap;rw[if_pos (by omega)];omega)
  simp only[Nat.zero_add,List.nil_append] at hr;refine⟨_,_,_,hr,⟨λ _=>⟨w.heap.size,0,rfl,?_,λ j hj=>?_⟩,hD.dgs,grownCap_ge w n 0 e,by omega⟩,(Below.refl _ _).drew.alloc (XW _) _⟩
  ·show w.heap.size<(w.drew.alloc _).heap.size
   simp
  ·rw[World.cell?_alloc_at _ _ _ _ (show w.heap.size=w.drew.heap.size from rfl)]
   rw[Nat.zero_add,Array.getElem?_append_left (by simp[yN];exact hj)]
   simpa using zBP d n j hj
theorem zEP {Pr:Program} {ops:Array Oper} {o:Oper} {a:Act} {w:World} {K:Act->World->Prop} {Q:Exit->Act->World->Prop} {E:Prop}
  (hg:o.guard=none) (s x:Operand) (t:TypeId) (hop:o.op=Op.call { callee:=Callee.builtin Builtin.append,args:=#[s,x],argTypes:=#[t,t] })
  (e:TypeId) (ht:Pr.underlying t=some (.slice e)) (hinfo:(Pr.info? e).map (λ i=>(i.zero,i.size,i.bytes))=some (some (.int .u16 0),1,2))
  (b:Nat) (hs:a.eval s=.slice (some ⟨b,0,none⟩) 0 0) (ad:Option Addr) (n cap:Nat) (d:Nat->Int) (hx:a.eval x=.slice ad n cap) (hD:Dig w ad n cap d) (hn:n<=1000000000)
  (hK:∀ a' m7 w',Dig w' a' n m7 d->Below w.heap.size w w'->K (a.put o.dst (.slice a' n m7)) w') :
  if Region.wanted o (yielded ops a.tmps)=true then Oper.wp Pr o a w K Q else E:=by
 have hw:Region.wanted o (yielded ops a.tmps)=true:=by simp[Region.wanted,hg]
 rw[if_pos hw];obtain⟨i,hi,SL⟩:=Option.map_eq_some_iff.1 hinfo;simp only[Prod.mk.injEq] at SL;obtain⟨hz,O6,hby⟩:=SL;obtain⟨a',m7,w',tM,h1,h2⟩:=zF0 (Pr:=Pr) w t o.type e i _ ht hi hz O6 hby b ad n cap d hD hn;unfold Oper.wp;simp[execOp,hop,resolve,invoke,builtin,hs,hx,tM,Result.andThen];exact hK a' m7 w' h1 h2
theorem kX (neg b6:Bool) (a c:Option Addr) (n m cap j6 k k2:Nat) (x y:Int) (w:World) (h1:IntAt w neg a n cap k x) (h2:IntAt w b6 c m j6 k2 y) (hk:k<=1000000000) (ba:k2<=1000000000) :
  Calls Tryz.prog 65 #[.agg #[.bool neg,.slice a n cap],.agg #[.bool b6,.slice c m j6]] w λ r w' =>
   ∃ j8 a' n' m7,r=.returned (.agg #[.bool j8,.slice a' n' m7])/\IntAt w' j8 a' n' m7 (max k k2+1) (x+y)/\Below w.heap.size w w':=by
 obtain⟨d,g1,g2,g3,g4,rfl⟩:=h1;obtain⟨e,f1,f2,f3,f4,rfl⟩:=h2;exact (add_any neg b6 a c n m cap j6 d e w g1 f1 (by omega) (by omega) g2 f2).mono λ _ _ ⟨n1,n2,n3,n4,q1,q2,q3⟩=>⟨n1,n2,n3,n4,q1,q2.mono (by omega),q3⟩
theorem zAD (neg b6:Bool) (a c:Option Addr) (n m cap j6 k k2:Nat) (x y:Int) (w:World) (h1:IntAt w neg a n cap k x) (h2:IntAt w b6 c m j6 k2 y) (hk:k<=1000000000) (ba:k2<=1000000000) :
  Calls Tryz.prog 72 #[.agg #[.bool neg,.slice a n cap],.agg #[.bool b6,.slice c m j6]] w λ r w' =>
   ∃ j8 a' n' m7,r=.returned (.agg #[.bool j8,.slice a' n' m7])/\IntAt w' j8 a' n' m7 (max k k2+1) (x-y)/\Below w.heap.size w w':=by
 have H1:=zC h1;obtain⟨e,f1,f2,f3,f4,fy⟩:=h2;have Hy:=zC (show sgn (!b6) (V e m) = -y by rw[fy];cases b6<;>simp[sgn])
 have Hx:=zC (show x + -y=x-y by omega)
 clear h1 fy;have iC:w.heap.size≠w.heap.size+1+1:=by omega
 have iD:w.heap.size+1+1≠w.heap.size:=by omega
 go_enter Tryz.func72,Tryz.ntmps72
 go_wp2
 go_region_held3 (λ w'=>w'.cell? ⟨w.heap.size,0,none⟩=some (.bool neg)/\w'.cell? ⟨w.heap.size,1,none⟩=some (.slice a n cap)/\w'.cell? ⟨w.heap.size+1,0,none⟩=some (.bool b6)/\w'.cell? ⟨w.heap.size+1,1,none⟩=some (.slice c m j6)) (go_keep)
  (first
   | (go_at_call 125;refine (zBG _ _ _ _ e _ (f1.bw (bl3 _ _ _ _).drew)).mono ?_;rintro r w1 ⟨g9,a1,n1,c1,rfl,k9,hb⟩;obtain⟨O6,hcell,gF⟩:=jY (w.heap.size+3) (by simp) hb)
   | (go_at_call 65;refine (kX _ _ _ _ _ _ _ _ k m x _ _ ((zA H1).bw (zB (bl3 _ _ _ _).drew hb)) k9 hk (by omega)).mono ?_;rintro r w2 ⟨j8,a2,n2,c2,rfl,hint,b9⟩;obtain⟨D7,C7,G0⟩:=jY (w.heap.size+3) O6 b9))
 go_wp2;refine bodyPost_ret (v:=.agg #[.bool j8,.slice a2 n2 c2]) (by simp[results,Tryz.results72,go_sem,C7,hcell]) rfl ⟨j8,a2,n2,c2,rfl,?_,?_⟩
 ·have h0:w2.cell? ⟨w.heap.size+1+1,0,none⟩=some (.bool false):=by simp[C7,hcell,go_sem]
  have I1:w2.cell? ⟨w.heap.size+1+1,1,none⟩=some (.slice none 0 0):=by simp[C7,hcell,go_sem]
  rw[zA Hy,zA Hx] at hint;exact (hint.put2 h0 I1 _ _).mono (by omega)
 ·exact ((zB (zB (bl3 _ _ _ _).drew hb) b9).setCell (by simp;omega) _).setCell (by simp;omega) _
theorem kC (neg:Bool) (a:Option Addr) (n cap k:Nat) (x:Int) (w:World) (h1:IntAt w neg a n cap k x) (hk:k<=1000000000) :
  Calls Tryz.prog 103 #[.agg #[.bool neg,.slice a n cap]] w λ r w' =>
   ∃ j8 a' n' m7,r=.returned (.agg #[.bool j8,.slice a' n' m7])/\IntAt w' j8 a' n' m7 k (-x)/\Below w.heap.size w w':=by
 obtain⟨d,f1,f2,f3,f4,fy⟩:=h1;have Hy:=zC (show sgn (!neg) (V d n) = -x by rw[fy];cases neg<;>simp[sgn])
 clear fy
 go_enter Tryz.func103,Tryz.ntmps103
 go_wp2
 go_region_held3 (λ w'=>w'.cell? ⟨w.heap.size,0,none⟩=some (.bool neg)/\w'.cell? ⟨w.heap.size,1,none⟩=some (.slice a n cap)) (go_keep)
  (first
   | (refine zEP (by rfl) _ _ 24 (by rfl) 98 Tryz.underlying24 Tryz.infoU16 _ (by rfl) _ _ _ d (by rfl) (f1.bw (bl3 _ _ _ _).drew) (by omega) ?_;intro a1 c1 w1 aZ hb;obtain⟨O6,hcell,gF⟩:=jY (w.heap.size+2) (by simp) hb)
   | (go_at_call 125;refine (zBG _ _ _ _ d _ aZ).mono ?_;rintro r w2 ⟨j8,a2,n2,c2,rfl,hint,b9⟩;obtain⟨D7,C7,G0⟩:=jY (w.heap.size+2) O6 b9))
 go_wp2;refine bodyPost_ret (v:=.agg #[.bool j8,.slice a2 n2 c2]) (by simp[results,Tryz.results103,go_sem,C7,hcell]) rfl ⟨j8,a2,n2,c2,rfl,?_,?_⟩
 ·have h0:w2.cell? ⟨w.heap.size+1,0,none⟩=some (.bool false):=by simp[C7,hcell,go_sem]
  have I1:w2.cell? ⟨w.heap.size+1,1,none⟩=some (.slice none 0 0):=by simp[C7,hcell,go_sem]
  rw[zA Hy] at hint;exact (hint.put2 h0 I1 _ _).mono (by omega)
 ·exact ((zB (zB (bl3 _ _ _ _).drew hb) b9).setCell (by simp) _).setCell (by simp) _
def upd (o:Nat->Int) (p:Nat) (v:Int) (j:Nat):Int:=if j=p then v else o j
theorem yC {o:Nat->Int} (h:Dgs o) (p:Nat) {v:Int} (h0:0<=v) (h1:v<65536):Dgs (upd o p v):=by
 intro j;unfold upd;split
 ·exact⟨h0,h1⟩
 ·exact h j
theorem zM1 (o:Nat->Int) (p:Nat) (v:Int) (N:Nat) (hp:p<N):V (upd o p v) N=V o N+(v-o p)*P p:=by
 induction N with
 | zero=>omega
 | succ N ih =>
  simp only[V]
  by_cases hN:p=N
  ·subst hN
   have:V (upd o p v) p=V o p:=zBY p (λ j hj=>by simp[upd];omega)
   rw[this];simp only[upd,if_true,Int.sub_mul];omega
  ·rw[ih (by omega)]
   have:upd o p v N=o N:=by simp[upd];omega
   rw[this];omega
theorem zCG {wr:World} {b t N:Nat} {o:Nat->Int} (h:wr.rowIs b t N (λ j=>.int .u16 (o j))) (p:Nat) {v u:Int} (hv:u=v) :
  (wr.setCell ⟨b,p,none⟩ (.int .u16 u)).rowIs b t N (λ j=>.int .u16 (upd o p v j)):=by
 refine (h.set p (.int .u16 u)).congr λ j _=>?_
 subst hv;unfold upd;split<;>rfl
theorem zQ2 (n:Nat):V (λ _=>0) n=0:=by
 induction n with
 | zero=>rfl
 | succ n ih=>simp[V,ih]
theorem mul_alg (x v y:Int) (i k:Nat):x*(v+y*P k)*P i=x*v*P i+x*y*P (i+k):=by
 rw[P_add,Int.mul_add,Int.add_mul,<- Int.mul_assoc x y (P k),Int.mul_assoc (x*y),Int.mul_comm (P k) (P i)]
theorem mul_step {o:Nat->Int} {N p:Nat} (hp:p<N) (c x y:Int) {T:Int} (h:V o N+c*P p=T):V (upd o p ((c+(x*y+o p)) % 65536)) N+((c+(x*y+o p))/65536)*P (p+1)=T+x*y*P p:=by
 rw[zM1 _ _ _ _ hp]
 have h1:((c+(x*y+o p)) % 65536-o p)*P p+(c+(x*y+o p))/65536*(65536*P p)=(c+x*y)*P p:=by
  rw[<- Int.mul_assoc,<- Int.add_mul];congr 1;omega
 have h2:(c+x*y)*P p=c*P p+x*y*P p:=Int.add_mul _ _ _;simp only[P];omega
theorem zH9 {x y c z:Int} (hx:0<=x/\x<65536) (hy:0<=y/\y<65536) (hc:0<=c/\c<65536) (hz:0<=z/\z<65536) :
  0<=x*y/\x*y<=4294836225:=by
 refine⟨Yb hx.1 hy.1,?_⟩;have h1:x*y<=65535*y:=XK (by omega) hy.1
 omega
theorem mul_any (neg b6:Bool) (a c:Option Addr) (n m cap j6:Nat) (d e:Nat->Int) (w:World) (ha:Dig w a n cap d) (hc:Dig w c m j6 e) (hn:n<=1000000000) (hm:m<=1000000000) :
  Calls Tryz.prog 66 #[.agg #[.bool neg,.slice a n cap],.agg #[.bool b6,.slice c m j6]] w λ r w' =>
   ∃ j8 a' n' m7,r=.returned (.agg #[.bool j8,.slice a' n' m7])/\IntAt w' j8 a' n' m7 (n+m) (sgn (neg != b6) (V d n*V e m))/\Below w.heap.size w w':=by
 obtain⟨W,hW⟩:∃ W,W=((w.alloc (.cells #[.bool neg,.slice a n cap] 26)).alloc (.cells #[.bool b6,.slice c m j6] 26)).alloc (.cells #[.bool false,.slice none 0 0] 26):=⟨_,rfl⟩;have b3:Below w.heap.size w W:=by rw[hW];exact bl3 _ _ _ _
 have s3:W.heap.size=w.heap.size+1+1+1:=by rw[hW];simp
 have k0:W.cell? ⟨w.heap.size,0,none⟩=some (.bool neg):=by rw[hW];simp[go_sem]
 have k1:W.cell? ⟨w.heap.size+1,0,none⟩=some (.bool b6):=by rw[hW];simp[go_sem]
 have k2:W.cell? ⟨w.heap.size+1,1,none⟩=some (.slice c m j6):=by rw[hW];simp[go_sem]
 have k3:W.cell? ⟨w.heap.size+1+1,0,none⟩=some (.bool false):=by rw[hW];simp[go_sem]
 have k4:W.cell? ⟨w.heap.size+1+1,1,none⟩=some (.slice none 0 0):=by rw[hW];simp[go_sem]
 have k5:∀ o,W.frozen? ⟨w.heap.size+1+1,o,none⟩=false:=by intro o;rw[hW];simp[go_sem]
 have HW:=zC hW;clear hW;have aS:=run_make_row' (P:=Tryz.prog) 24 98 (.int .u16 0) 2 Tryz.underlying24 Tryz.infoU16 rfl .i64 .i64 (n+m) (by omega) (by omega)
 have iB:((n+m:Nat):Int)=(n:Int)+m:=by omega
 rw[iB] at aS;clear iB
 go_enter Tryz.func66,Tryz.ntmps66
 go_wp2;clear aS
 go_loopw [22] (λ ii wr=>∃ (i:Nat) (o:Nat->Int),i<=n/\ii=.int .i64 i/\wr.rowIs (w.heap.size+1+1+1) 98 (n+m) (λ j=>.int .u16 (o j))/\Dgs o/\V o (n+m)=V d i*V e m/\(∀ j,i+m<=j->o j=0)/\Below (w.heap.size+1+1+1) W wr) (λ ii _=>n-(intOf ii).toNat)
 case atStart =>
  refine⟨0,λ _=>0,Nat.zero_le _,rfl,?_,λ _=>⟨by simp,by simp⟩,?_,λ _ _=>rfl,?_⟩
  ·have:=World.rowIs_made W (.int .u16 0) (n+m) 98
   rw[s3,zA HW] at this;exact this
  ·rw[zQ2];simp[V]
  ·rw[zA HW];exact (Below.refl _ _).alloc (by simp) _
 case round =>
  obtain⟨i,o,hi,rfl,B9,M9,bc,cT,B8⟩:=hrel
  by_cases G4:i<n
  ·obtain⟨b1,o1,rfl,b7,F8⟩:=ha.at_ (by omega)
   have g1:wr.cell? ⟨b1,o1+i,none⟩=some (.int .u16 (d i)):=(B8.cell (p:=⟨b1,o1+i,none⟩) (by show b1<_;omega)).trans ((b3.cell (p:=⟨b1,o1+i,none⟩) b7).trans (F8 i G4))
   have q2:wr.cell? ⟨w.heap.size+1,1,none⟩=some (.slice c m j6):=(B8.cell (p:=⟨w.heap.size+1,1,none⟩) (by simp)).trans k2
   have db:=ha.dgs i;have HV:=zC bc;have HZ:=zC cT;have HR:=zC B9;have HD:=zC M9;clear F8 bc cT B9 M9;go_wp2
   go_loopw [8,30] (λ cy kk wq=>∃ (k:Nat) (o':Nat->Int) (cz:Int),k<=m/\kk=.int .i64 k/\cy=.int .u32 cz/\0<=cz/\cz<65536/\wq.rowIs (w.heap.size+1+1+1) 98 (n+m) (λ j=>.int .u16 (o' j))/\Dgs o'/\V o' (n+m)+cz*P (i+k)=V d i*V e m+d i*V e k*P i/\(∀ j,i+m<=j->o' j=0)/\Below (w.heap.size+1+1+1) W wq) (λ _ kk _=>m-(intOf kk).toNat)
   case atStart =>
    exact⟨0,o,0,Nat.zero_le _,rfl,rfl,by omega,by omega,zA HR,zA HD,by rw[zA HV];simp[V],zA HZ,B8⟩
   case round =>
    obtain⟨k,o',cz,hk,rfl,rfl,L4,J8,B9,M9,bc,cT,B8⟩:=hrel
    by_cases Z7:k<m
    ·obtain⟨b2,o2,rfl,b9,G8⟩:=hc.at_ (by omega)
     have g2:wr.cell? ⟨b2,o2+k,none⟩=some (.int .u16 (e k)):=(B8.cell (p:=⟨b2,o2+k,none⟩) (by show b2<_;omega)).trans ((b3.cell (p:=⟨b2,o2+k,none⟩) b9).trans (G8 k Z7))
     have eb:=hc.dgs k;have r1:=B9.cell (show i+k<n+m by omega)
     have r2:=B9.frozen (i+k);have ob:=M9 (i+k);have pb:=zH9 db eb ⟨L4,J8⟩ ob;clear G8;go_wp2
     go_roundw
     case rel =>
      refine⟨k+1,upd o' (i+k) ((cz+(d i*e k+o' (i+k))) % 65536),(cz+(d i*e k+o' (i+k)))/65536,by omega,by go_num,rfl,by omega,by omega,zCG B9 (i+k) (zAR _),yC M9 _ (by omega) (by omega),?_,λ j hj=>?_,B8.setCell (by simp) _⟩
      ·have h1:=mul_step (show i+k<n+m by omega) cz (d i) (e k) bc
       have h2:=mul_alg (d i) (V e k) (e k) i k;simp only[V];rw[<- Nat.add_assoc];omega
      ·have:j≠i+k:=by omega
       simp[upd,this];exact cT j hj
     case measure=>simp[intOf];omega
    ·have hkE:k=m:=by omega
     subst hkE;have r1:=B9.cell (show i+k<n+k by omega)
     have r2:=B9.frozen (i+k);have q2:wr.cell? ⟨w.heap.size+1,1,none⟩=some (.slice c k j6):=(B8.cell (p:=⟨w.heap.size+1,1,none⟩) (by simp)).trans k2
     have KN:=cT (i+k) (by omega)
     have oA:=zC bc;have HZ2:=zC cT;have HI:=zC KN;clear bc cT KN;go_wp2
     go_roundw
     case rel =>
      refine⟨i+1,upd o' (i+k) cz,by omega,by go_num,zCG B9 (i+k) rfl,yC M9 _ L4 J8,?_,λ j hj=>?_,B8.setCell (by simp) _⟩
      ·rw[zM1 _ _ _ _ (by omega),zA HI,Int.sub_zero,zA oA]
       simp only[V];rw[Int.add_mul,Int.mul_assoc (d i),Int.mul_comm (V e k) (P i),<- Int.mul_assoc]
      ·have:j≠i+k:=by omega
       simp[upd,this];exact zA HZ2 j (by omega)
     case measure=>simp[intOf];omega
  ·have hiE:i=n:=by omega
   subst hiE;have q0:wr.cell? ⟨w.heap.size,0,none⟩=some (.bool neg):=(B8.cell (p:=⟨w.heap.size,0,none⟩) (by simp;omega)).trans k0
   have q1:wr.cell? ⟨w.heap.size+1,0,none⟩=some (.bool b6):=(B8.cell (p:=⟨w.heap.size+1,0,none⟩) (by simp)).trans k1
   have q3:wr.cell? ⟨w.heap.size+1+1,0,none⟩=some (.bool false):=(B8.cell (p:=⟨w.heap.size+1+1,0,none⟩) (by simp)).trans k3
   have q4:wr.cell? ⟨w.heap.size+1+1,1,none⟩=some (.slice none 0 0):=(B8.cell (p:=⟨w.heap.size+1+1,1,none⟩) (by simp)).trans k4
   have q5:∀ o,wr.frozen? ⟨w.heap.size+1+1,o,none⟩=false:=λ o=>(B8.frozen (p:=⟨w.heap.size+1+1,o,none⟩) (by simp)).trans (k5 o)
   have S8:=B8.size;rw[s3] at S8;have HR:=zC (zEL B9 M9 (by omega))
   have HV:=zC bc;clear bc cT B9 M9;go_wp2_with (go_at_call 125;refine (zBG _ _ _ _ o _ (zA HR)).mono ?_;rintro r w2 ⟨j8,a2,n2,c2,rfl,hint,b9⟩;obtain⟨D7,C7,G0⟩:=jY (w.heap.size+1+1+1) S8 b9);refine bodyPost_ret (v:=.agg #[.bool j8,.slice a2 n2 c2]) (by simp[results,Tryz.results66,go_sem,C7,q3,q4]) rfl ⟨j8,a2,n2,c2,rfl,?_,?_⟩
   ·have h0:w2.cell? ⟨w.heap.size+1+1,0,none⟩=some (.bool false):=by simp[C7,q3]
    have I1:w2.cell? ⟨w.heap.size+1+1,1,none⟩=some (.slice none 0 0):=by simp[C7,q4]
    rw[zA HV] at hint;exact hint.put2 h0 I1 _ _
   ·exact ((zB (b3.trans (B8.mono (by omega))) b9).setCell (by simp;omega) _).setCell (by simp;omega) _
theorem zW (neg b6:Bool) (a c:Option Addr) (n m cap j6 k k2:Nat) (x y:Int) (w:World) (h1:IntAt w neg a n cap k x) (h2:IntAt w b6 c m j6 k2 y) (hk:k<=1000000000) (ba:k2<=1000000000) :
  Calls Tryz.prog 66 #[.agg #[.bool neg,.slice a n cap],.agg #[.bool b6,.slice c m j6]] w λ r w' =>
   ∃ j8 a' n' m7,r=.returned (.agg #[.bool j8,.slice a' n' m7])/\IntAt w' j8 a' n' m7 (k+k2) (x*y)/\Below w.heap.size w w':=by
 obtain⟨d,g1,g2,g3,g4,rfl⟩:=h1;obtain⟨e,f1,f2,f3,f4,rfl⟩:=h2
 have hs:sgn (neg != b6) (V d n*V e m)=sgn neg (V d n)*sgn b6 (V e m):=by
  cases neg<;>cases b6<;>simp[sgn,Int.neg_mul,Int.mul_neg]
 rw[<- hs];exact (mul_any neg b6 a c n m cap j6 d e w g1 f1 (by omega) (by omega)).mono λ _ _ ⟨n1,n2,n3,n4,q1,q2,q3⟩=>⟨n1,n2,n3,n4,q1,q2.mono (by omega),q3⟩
def Own (w:World) (base:Nat) (e:TypeId) (a:Option Addr) (n cap:Nat) (d:Nat->Int):Prop:=w.ownsRow base e 1 (.slice a n cap) n (yI d n)
theorem zDY (d:Nat->Int) (n:Nat) (v:Int):yI (upd d n v) (n+1)=yI d n ++ [.int .u16 v]:=by
 unfold yI;rw[List.range_succ,List.map_append]
 congr 1
 ·apply List.map_congr_left
  intro j hj
  have:=List.mem_range.1 hj;have:j≠n:=by omega
  simp[upd,this]
 ·simp[upd]
theorem Own.dig {w:World} {base:Nat} {e:TypeId} {a:Option Addr} {n cap:Nat} {d:Nat->Int} (h:Own w base e a n cap d) (hd:Dgs d) (hn:n<=70368744177664):Dig w a n cap d:=by
 have h':w.ownsRow base e 1 (.slice a n cap) n (yI d n):=h;refine⟨λ h0=>?_,hd,?_,hn⟩
 ·obtain⟨g,c2,hv,h1,h2⟩:=World.ownsRow.form h' h0
  simp only[Value.slice.injEq] at hv;obtain⟨rfl,_,rfl⟩:=hv;refine⟨g,0,rfl,h2,λ j hj=>?_⟩
  have:=World.ownsRow.cellAt h' j (by omega)
  rw[Nat.zero_add,this,zBP d n j hj]
 ·rcases h'.2 with⟨hv,h0⟩|⟨g,c2,cur,hv,_,_,hle,_⟩
  ·omega
  ·simp only[Value.slice.injEq] at hv
   omega
theorem Own.nil (w:World) (base:Nat) (e:TypeId) (d:Nat->Int):Own w base e none 0 0 d:=World.ownsRow_nil w base e 1
theorem Own.alloc {w:World} {base:Nat} {e:TypeId} {a:Option Addr} {n cap:Nat} {d:Nat->Int} (h:Own w base e a n cap d) (o:Obj):Own (w.alloc o) base e a n cap d:=World.ownsRow.alloc h o
theorem jI {Pr:Program} (w:World) {ops:Array Oper} {rest:List Oper} {o:Oper} {act:Act} {Q:Exit->Act->World->Prop} (CE:o.guard=none) (s x:Operand) (t:TypeId)
  (ho:o.op=.call { callee:=.builtin .append,args:=#[s,x],argTypes:=#[t,t] })
  (base:Nat) (e:TypeId) (ht:Pr.underlying t=some (.slice e)) (hinfo:(Pr.info? e).map (λ i=>(i.zero,i.size,i.bytes))=some (some (.int .u16 0),1,2))
  (a:Option Addr) (n cap:Nat) (d:Nat->Int) (hs:act.eval s=.slice a n cap) (I2:Own w base e a n cap d) (g c:Nat) (v:Int) (hx:act.eval x=.slice (some ⟨g,0,none⟩) 1 c)
  (hv:w.cell? ⟨g,0,none⟩=some (.int .u16 v)) (hn:n<=1000000000) (hbase:base<=w.heap.size)
  (h:∀ a' m7 w',Own w' base e a' (n+1) m7 (upd d n v)->Below base w w'->wpList Pr ops Q rest (act.put o.dst (.slice a' (n+1) m7)) w'):wpList Pr ops Q (o :: rest) act w:=by
 obtain⟨i,hi,L4,J8,iz⟩:=info_parts hinfo;have E4:∀ k,(Value.slice a n cap).ownBlock=some k->base<=k:=λ k hk=>(World.ownsRow.lt I2 k hk).1
 refine wpList_append_lies w CE s x t ho base e i (.int .u16 0) 1 2 ht hi L4 J8 iz rfl (by decide) (.slice a n cap) n (yI d n) hs I2 ⟨g,0,none⟩ 1 c [.int .u16 v] hx rfl ?_ ?_ (by decide) ?_ ?_ hbase _ rfl ?_
 ·intro j u hj
  match j,hj with
  | 0,hj=>simp at hj;subst hj;rw[zFF];exact hv
 ·intro u hu;simp at hu;subst hu;rfl
 ·unfold maxLen;omega
 ·omega
 ·intro g' m7 w' Z8 hgrow _ _
  rw[<- zDY] at Z8;exact h _ _ _ Z8 ((Below.refl base w).grown hgrow hbase E4)
theorem P4:P 4=18446744073709551616:=rfl
theorem zQD (d:Nat->Int) (k:Nat) (u X:Int) (h:V d k+u*P k=X):V (upd d k (u % 65536)) (k+1)+u/65536*P (k+1)=X:=by
 simp only[V,P];have h1:V (upd d k (u % 65536)) k=V d k:=zBY k (λ j hj=>by simp[upd];omega)
 have h2:upd d k (u % 65536) k=u % 65536:=by simp[upd]
 rw[h1,h2]
 have h3:u % 65536*P k+u/65536*(65536*P k)=u*P k:=by
  rw[<- Int.mul_assoc,<- Int.add_mul];congr 1;omega
 omega
theorem zOW (x X:Int) (neg:Bool) (w:World) (h0 : -9223372036854775808<=x) (h1:x<=9223372036854775807) (K5:decide (x<0)=neg) (hX:X=if neg then -x else x) :
  Calls Tryz.prog 43 #[.int .i64 x] w λ r w' =>
   ∃ j8 a' n' m7,r=.returned (.agg #[.bool j8,.slice a' n' m7])/\IntAt w' j8 a' n' m7 4 x/\Below w.heap.size w w':=by
 cases neg
 ·have hx:¬ x<0:=by simpa using K5
  simp at hX;subst hX;have KO:0<=X:=by omega
  clear K5 h0
  go_enter Tryz.func43,Tryz.ntmps43
  go_wp2
  go_loopw [5,4] (λ l u wr=>∃ (k:Nat) (a:Option Addr) (cap:Nat) (d:Nat->Int) (uu:Int),l=.slice a k cap/\u=.int .u64 uu/\0<=uu/\uu<=X/\Own wr (w.heap.size+1) 98 a k cap d/\Dgs d/\V d k+uu*P k=X/\(k=0\/d (k-1)≠0\/uu≠0)/\k<=4/\Below (w.heap.size+1) (w.alloc (.cells #[.bool false,.slice none 0 0] 26)) wr) (λ _ u _=>(intOf u).toNat)
  case atStart=>exact⟨0,none,0,λ _=>0,X,rfl,rfl,KO,Int.le_refl _,Own.nil _ _ _ _,λ _=>⟨by simp,by simp⟩,by simp[V,P],Or.inl rfl,by omega,Below.refl _ _⟩
  case round =>
   obtain⟨k,a,cap,d,uu,rfl,rfl,CF,hu1,I2,hd,hV,cZ,Iq,B8⟩:=hrel;have O6:=B8.size;simp at O6
   by_cases hz:uu=0
   ·subst hz
    have q0:wr.cell? ⟨w.heap.size,0,none⟩=some (.bool false):=(B8.cell (p:=⟨w.heap.size,0,none⟩) (by simp)).trans (by simp[go_sem])
    have q1:wr.cell? ⟨w.heap.size,1,none⟩=some (.slice none 0 0):=(B8.cell (p:=⟨w.heap.size,1,none⟩) (by simp)).trans (by simp[go_sem])
    have q5:∀ o,wr.frozen? ⟨w.heap.size,o,none⟩=false:=λ o=>(B8.frozen (p:=⟨w.heap.size,o,none⟩) (by simp)).trans (by simp[go_sem])
    have HD:=zC (I2.dig hd (by omega))
    have HV:=zC hV;have HT:=zC cZ;clear hV cZ I2 hd;go_wp2;refine bodyPost_ret (v:=.agg #[.bool false,.slice a k cap]) (by simp[results,Tryz.results43,go_sem,q0,q1]) rfl ⟨false,a,k,cap,rfl,?_,?_⟩
    ·refine IntAt.put2 ?_ q0 q1 _ _
     have hV:=zA HV;simp at hV;refine⟨d,zA HD,?_,λ T5=>?_,Iq,by rw[hV];simp[sgn]⟩
     ·have:=zA HT;omega
     ·subst T5;simp[V] at hV;first|rfl|(exfalso;omega)
    ·exact (((bl1 _ _).trans (B8.mono (by omega))).setCell (by simp) _).setCell (by simp) _
   ·have E9:0<uu:=by omega
    have hk3:k<4:=by
     have tN:P k<P 4\/4<=k:=by
      by_cases hh:4<=k
      ·exact Or.inr hh
      ·left;have:P (k+1)<=P 4:=zBH (by omega)
       have:=yB k;simp only[P] at *;omega
     rcases tN with hh|hh
     ·by_cases h4:k=4
      ·subst h4;omega
      ·omega
     ·have h5:P 4<=P k:=zBH hh
      have h6:1*P k<=uu*P k:=XK (by omega) (by have:=yB k;omega)
      have h7:=zZ hd k;rw[P4] at h5;omega
    have H1:=zC (zQD d k uu X hV);have H2:=zC (yC hd k (v:=uu % 65536) (by omega) (by omega))
    clear hV cZ;go_wp2_with (at_builtin;refine jI _ rfl _ _ 24 rfl (w.heap.size+1) 98 Tryz.underlying24 Tryz.infoU16 a k cap d rfl (I2.alloc _) wr.heap.size 1 (uu % 65536) rfl (by simp[go_sem,zAR]) (by omega) (by simp;omega) ?_;intro a' m7 w1 G6 b7)
    go_roundw
    case rel =>
     refine⟨k+1,a',m7,upd d k (uu % 65536),uu/65536,rfl,by go_num,by omega,by omega,G6,zA H2,zA H1,?_,by omega,?_⟩
     ·right;simp[upd];omega
     ·exact (B8.alloc (by omega) _).trans b7
    case measure=>simp[intOf];try omega
 ·have hx:x<0:=by simpa using K5
  simp at hX;have hw:IntKind.u64.wrap (-IntKind.u64.wrap x)=X:=by rw[IntKind.wrap_u64,IntKind.wrap_u64];omega
  have KO:0<=X:=by omega
  have hX1:X<=9223372036854775808:=by omega
  have HX:=zC hX;clear hX
  go_enter Tryz.func43,Tryz.ntmps43
  go_wp2;clear hw
  go_loopw [5,4] (λ l u wr=>∃ (k:Nat) (a:Option Addr) (cap:Nat) (d:Nat->Int) (uu:Int),l=.slice a k cap/\u=.int .u64 uu/\0<=uu/\uu<=X/\Own wr (w.heap.size+1) 98 a k cap d/\Dgs d/\V d k+uu*P k=X/\(k=0\/d (k-1)≠0\/uu≠0)/\k<=4/\Below (w.heap.size+1) (w.alloc (.cells #[.bool false,.slice none 0 0] 26)) wr) (λ _ u _=>(intOf u).toNat)
  case atStart=>exact⟨0,none,0,λ _=>0,X,rfl,rfl,KO,Int.le_refl _,Own.nil _ _ _ _,λ _=>⟨by simp,by simp⟩,by simp[V,P],Or.inl rfl,by omega,Below.refl _ _⟩
  case round =>
   obtain⟨k,a,cap,d,uu,rfl,rfl,CF,hu1,I2,hd,hV,cZ,Iq,B8⟩:=hrel;have O6:=B8.size;simp at O6
   by_cases hz:uu=0
   ·subst hz
    have q0:wr.cell? ⟨w.heap.size,0,none⟩=some (.bool false):=(B8.cell (p:=⟨w.heap.size,0,none⟩) (by simp)).trans (by simp[go_sem])
    have q1:wr.cell? ⟨w.heap.size,1,none⟩=some (.slice none 0 0):=(B8.cell (p:=⟨w.heap.size,1,none⟩) (by simp)).trans (by simp[go_sem])
    have q5:∀ o,wr.frozen? ⟨w.heap.size,o,none⟩=false:=λ o=>(B8.frozen (p:=⟨w.heap.size,o,none⟩) (by simp)).trans (by simp[go_sem])
    have HD:=zC (I2.dig hd (by omega))
    have HV:=zC hV;have HT:=zC cZ;clear hV cZ I2 hd;go_wp2;refine bodyPost_ret (v:=.agg #[.bool true,.slice a k cap]) (by simp[results,Tryz.results43,go_sem,q0,q1]) rfl ⟨true,a,k,cap,rfl,?_,?_⟩
    ·refine IntAt.put2 ?_ q0 q1 _ _
     have hV:=zA HV;simp at hV;refine⟨d,zA HD,?_,λ T5=>?_,Iq,by rw[hV];simp[sgn];have:=zA HX;omega⟩
     ·have:=zA HT;omega
     ·subst T5;simp[V] at hV;have:=zA HX;exfalso;omega
    ·exact (((bl1 _ _).trans (B8.mono (by omega))).setCell (by simp) _).setCell (by simp) _
   ·have E9:0<uu:=by omega
    have hk3:k<4:=by
     have tN:P k<P 4\/4<=k:=by
      by_cases hh:4<=k
      ·exact Or.inr hh
      ·left;have:P (k+1)<=P 4:=zBH (by omega)
       have:=yB k;simp only[P] at *;omega
     rcases tN with hh|hh
     ·by_cases h4:k=4
      ·subst h4;omega
      ·omega
     ·have h5:P 4<=P k:=zBH hh
      have h6:1*P k<=uu*P k:=XK (by omega) (by have:=yB k;omega)
      have h7:=zZ hd k;rw[P4] at h5;omega
    have H1:=zC (zQD d k uu X hV);have H2:=zC (yC hd k (v:=uu % 65536) (by omega) (by omega))
    clear hV cZ;go_wp2_with (at_builtin;refine jI _ rfl _ _ 24 rfl (w.heap.size+1) 98 Tryz.underlying24 Tryz.infoU16 a k cap d rfl (I2.alloc _) wr.heap.size 1 (uu % 65536) rfl (by simp[go_sem,zAR]) (by omega) (by simp;omega) ?_;intro a' m7 w1 G6 b7)
    go_roundw
    case rel =>
     refine⟨k+1,a',m7,upd d k (uu % 65536),uu/65536,rfl,by go_num,by omega,by omega,G6,zA H2,zA H1,?_,by omega,?_⟩
     ·right;simp[upd];omega
     ·exact (B8.alloc (by omega) _).trans b7
    case measure=>simp[intOf];try omega
theorem zD (x:Int) (w:World) (h0 : -9223372036854775808<=x) (h1:x<=9223372036854775807) :
  Calls Tryz.prog 43 #[.int .i64 x] w λ r w' =>
   ∃ j8 a' n' m7,r=.returned (.agg #[.bool j8,.slice a' n' m7])/\IntAt w' j8 a' n' m7 4 x/\Below w.heap.size w w' :=
 zOW x _ _ w h0 h1 rfl rfl
theorem Q_nat (s:Nat):Q s=((2 ^ s:Nat):Int):=by
 induction s with
 | zero=>rfl
 | succ s ih=>simp only[Q,ih,Nat.pow_succ];omega
theorem zN1 (s:Nat):(2:Int) ^ s=Q s:=by rw[Q_nat];simp
theorem zG (s:Nat):1<=Q s:=by
 induction s with
 | zero=>simp[Q]
 | succ s ih=>simp only[Q];omega
theorem jD (s t:Nat):Q (s+t)=Q s*Q t:=by
 induction t with
 | zero=>simp[Q]
 | succ t ih=>rw[Nat.add_succ];simp only[Q];rw[ih,Int.mul_left_comm]
theorem zK {s t:Nat} (h:s<=t):Q s<=Q t:=by
 obtain⟨u,rfl⟩:=Nat.exists_eq_add_of_le h;rw[jD];have:=XR (zG u) (show 0<=Q s by have:=zG s;omega)
 omega
theorem Q16:Q 16=65536:=rfl
theorem zIU {s:Nat} (h:s<=16):Q s*Q (16-s)=65536:=by rw[<- jD,show s+(16-s)=16 by omega];rfl
theorem Q_P (q:Nat):Q (16*q)=P q:=by
 induction q with
 | zero=>rfl
 | succ q ih=>rw[Nat.mul_succ,jD,ih,Q16];simp only[P];omega
theorem zKB (k:Nat):Q k=Q (k % 16)*P (k/16):=by
 rw[<- Q_P,<- jD];congr 1;omega
theorem zMC (a b c s:Nat) (ha:a<2 ^ s) (hb:b=2 ^ s*c):a ||| b=a+b:=by
 subst hb;rw[Nat.or_comm,<- Nat.two_pow_add_eq_or_of_lt ha c,Nat.add_comm]
theorem or16 (a b c:Int) (s:Nat) (hs:s<=16) (ha:0<=a) (aR:a<Q s) (hb:b=Q s*c) (C9:0<=b) (b7:b<65536) :
  bits .or .u16 a b=a+b/\a+b<65536:=by
 have hQ:Q s<=65536:=by rw[<- Q16];exact zK hs
 have hc:0<=c:=by
  rcases Int.lt_or_le c 0 with h|h
  ·have:=zG s
   have:=XR (show c <= -1 by omega) (show 0<=Q s by omega)
   omega
  ·exact h
 obtain⟨A,rfl⟩:=Int.eq_ofNat_of_zero_le ha;obtain⟨B,rfl⟩:=Int.eq_ofNat_of_zero_le C9;obtain⟨C,rfl⟩:=Int.eq_ofNat_of_zero_le hc;have hA:(A:Int)<65536:=by omega
 rw[Q_nat] at aR hb;have h1:A<2 ^ s:=by omega
 have h2:B=2 ^ s*C:=by have:=hb;rw[<- Int.natCast_mul] at this;omega
 have h3:=zMC A B C s h1 h2;rw[u16_or_nat A B (by omega) (by omega),h3]
 have h4:A ||| B<2 ^ 16:=Nat.or_lt_two_pow (by omega) (by omega)
 rw[h3] at h4;exact⟨by omega,by omega⟩
theorem or32 (a b c:Int) (ha:0<=a) (aR:a<65536) (hb:b=65536*c) (qI:0<=c) (F8:c<65536):bits .or .u32 a b=a+b:=by
 obtain⟨A,rfl⟩:=Int.eq_ofNat_of_zero_le ha;obtain⟨C,rfl⟩:=Int.eq_ofNat_of_zero_le qI;have h3:=zMC A (65536*C) C 16 (by omega) (by omega)
 have Q6:b=((65536*C:Nat):Int):=by omega
 rw[Q6,u32_or_nat A (65536*C) (by omega) (by omega),h3]
 omega
theorem and16 (x:Int) (s:Nat) (hs:s<=16) (hx:0<=x) (qz:x<65536):bits .and .u16 x (Q s-1)=x % Q s:=by
 have hQ:Q s<=65536:=by rw[<- Q16];exact zK hs
 have SM:=zG s;obtain⟨A,rfl⟩:=Int.eq_ofNat_of_zero_le hx;rw[u16_and _ _ (by omega) (by omega) (by omega) (by omega)]
 have h1:(Q s-1).toNat=2 ^ s-1:=by rw[Q_nat];omega
 rw[h1,Int.toNat_natCast,Nat.and_two_pow_sub_one_eq_mod,Q_nat];omega
theorem up_low (x:Int) (s:Nat) (hs:s<=16):∃ c,x*Q s % 65536=Q s*c:=by
 refine⟨x-Q (16-s)*(x*Q s/65536),?_⟩;have h:=zIU hs;rw[Int.mul_sub,<- Int.mul_assoc,h,Int.mul_comm (Q s) x];omega
theorem zLC (x:Int) (s:Nat) (hx:0<=x) (qz:x<65536):0<=x*Q s/65536/\x*Q s/65536<Q s:=by
 have SM:=zG s;have h0:0<=x*Q s:=Yb hx (by omega)
 have h1:x*Q s+Q s<=65536*Q s:=by
  have:=XK (show x+1<=65536 by omega) (show 0<=Q s by omega)
  rw[Int.add_mul] at this;omega
 omega
theorem up_lt (x:Int) (s:Nat) (hs:s<16) (hx:0<=x) (qz:x<65536):0<=x*Q s/\x*Q s<4294967296:=by
 have hQ:Q s<=Q 15:=zK (by omega)
 have qJ:Q 15=32768:=rfl;have h:=zLC x s hx qz;have SM:=zG s;have h0:0<=x*Q s:=Yb hx (by omega)
 omega
end Go.Proofs.YtgmnknmjainababGreat
