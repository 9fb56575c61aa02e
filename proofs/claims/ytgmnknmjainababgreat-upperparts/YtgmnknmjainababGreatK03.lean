/-
  Its own texts.
-/
import Derived.Laws.CopyOwn
import Derived.Deep.RegionHeld3
import Derived.Test.YtgmnknmjainababGreatK02
set_option maxRecDepth 100000
set_option maxHeartbeats 8000000
set_option linter.unnecessarySimpa false
set_option linter.unusedSimpArgs false
set_option linter.unusedVariables false
namespace Go.Proofs.YtgmnknmjainababGreat
open Go.RowKit
def Tp (d:Nat→Int) (j n:Nat):Int:=V (fun t=>d (j+t)) (n-j)
theorem V_shift (d:Nat→Int) (m:Nat):V d (m+1)=d 0+65536*V (fun t=>d (1+t)) m:=by
 have h:=zE2 d 1 m;rw[Nat.add_comm 1 m] at h;rw[h];simp[V,P]
theorem zFH (d:Nat→Int) (n:Nat):Tp d n n=0:=by simp[Tp,V]
theorem zCH (d:Nat→Int) (n:Nat):Tp d 0 n=V d n:=by simp[Tp]
theorem zB5 (d:Nat→Int) (j n:Nat) (h:j<n):Tp d j n=d j+65536*Tp d (j+1) n:=by
 unfold Tp;obtain ⟨m,rfl⟩:∃ m,n=j+1+m:=⟨n-j-1,by omega⟩
 rw[show j+1+m-j=m+1 by omega,show j+1+m-(j+1)=m by omega,V_shift]
 have:(fun t=>d (j+(1+t)))=(fun t=>d (j+1+t)):=by funext t;congr 1;omega
 rw[this];simp
theorem zAD {d:Nat→Int} (hd:Dgs d) (j n:Nat):0≤Tp d j n:=jB (fun t=>hd (j+t)) _
theorem Tp_lt {d:Nat→Int} (hd:Dgs d) (j n:Nat):Tp d j n<P (n-j):=zGU (fun t=>hd (j+t)) _
theorem P3:P 3=281474976710656:=rfl
theorem or64 (a b c:Int) (hb:0≤b) (hb1:b<65536) (ha:a=65536*c) (hc0:0≤c) (hc1:c<281474976710656):bits .or .u64 a b=a+b:=by
 obtain ⟨B,rfl⟩:=Int.eq_ofNat_of_zero_le hb;obtain ⟨C,rfl⟩:=Int.eq_ofNat_of_zero_le hc0;have h3:=zK7 B (65536*C) C 16 (by omega) (by omega)
 have ha':a=((65536*C:Nat):Int):=by omega
 rw[ha',u64_or_nat (65536*C) B (by omega) (by omega),Nat.or_comm,h3]
 omega
theorem Tp_upd (o:Nat→Int) (i n:Nat) (v:Int):Tp (upd o i v) (i+1) n=Tp o (i+1) n:=by
 unfold Tp;exact zBI _ (fun j _=>by simp[upd];omega)
theorem zLU {d o:Nat→Int} {i n:Nat} (hi:i<n) {D L:Int} (hD:0<D) (hT:Tp d (i+1) n=Tp o (i+1) n*D+L) :
  Tp d i n=Tp (upd o i ((L*65536+d i)/D)) i n*D+(L*65536+d i) % D:=by
 rw[zB5 d i n hi,zB5 (upd o i _) i n hi,Tp_upd,hT];have h1:upd o i ((L*65536+d i)/D) i=(L*65536+d i)/D:=by simp[upd]
 rw[h1,Int.add_mul,Int.mul_assoc];have h2:=Int.mul_ediv_add_emod (L*65536+d i) D;rw[Int.mul_comm D] at h2;omega
theorem short_bd {x D L:Int} (hD:0<D) (hx:0≤x∧x<65536) (hL0:0≤L) (hL1:L<D):0≤(L*65536+x)/D∧(L*65536+x)/D<65536∧0≤(L*65536+x) % D∧(L*65536+x) % D<D :=
 ⟨Int.ediv_nonneg (by omega) (by omega),Int.ediv_lt_of_lt_mul hD (by omega),Int.emod_nonneg _ (by omega),Int.emod_lt_of_pos _ hD⟩
theorem zH9 {d:Nat→Int} (hd:Dgs d) (n:Nat):0<kA d n ↔ V d n≠0:=by
 have h1:=zB9 d n;have h2:=zBF d n;constructor
 ·intro h
  have h3:=V_ge hd (kA d n-1) (by omega)
  rw[show kA d n-1+1=kA d n by omega,h1] at h3
  have:=kN (kA d n-1);omega
 ·intro h
  rcases Nat.eq_zero_or_pos (kA d n) with h0|h0
  ·rw[h0] at h1;simp[V] at h1;omega
  ·exact h0
def rd (L:Int) (j:Nat):Int:=if j=0 then L % 65536 else if j=1 then L/65536 % 65536 else if j=2 then L/4294967296 % 65536 else 0
theorem rd_dgs (L:Int):Dgs (rd L):=by
 intro j;unfold rd;split
 ·omega
 ·split
  ·omega
  ·split <;> omega
theorem rd_V (L:Int) (h0:0≤L) (h1:L<281474976710656):V (rd L) 3=L:=by
 simp[V,rd,P];omega
theorem dig3 (w:World) (t:TypeId) (x y z:Int) (f:Nat→Int) (hf:Dgs f) (h0:f 0=x) (h1:f 1=y) (h2:f 2=z):Dig (w.alloc (.cells #[.int .u16 x,.int .u16 y,.int .u16 z] t)) (some ⟨w.heap.size,0,none⟩) 3 3 f :=
 ⟨fun _=>⟨w.heap.size,0,rfl,by simp,fun j hj=>by
  rw[World.cell?_alloc_at _ _ _ _ rfl,Nat.zero_add]
  match j,hj with
  | 0,_=>simp[h0]
  | 1,_=>simp[h1]
  | 2,_=>simp[h2]⟩,hf,by omega,by omega⟩
theorem zM2 (a c:Option Addr) (n m cap cap2:Nat) (d e:Nat→Int) (w:World) (ha:Dig w a n cap d) (hc:Dig w c m cap2 e) (hn:n≤1000000000) (hm:m≤3) (hpos:0<V e m) :
  Calls Tryz.prog 193 #[.slice a n cap,.slice c m cap2] w fun r w' =>
   ∃ a1 n1 c1 o a2 n2 c2 rem,r=.returned (.tuple #[.slice a1 n1 c1,.slice a2 n2 c2])∧Dig w' a1 n1 c1 o∧n1≤n∧(0<n2 ↔ rem≠0)∧n2≤3∧V d n=V o n1*V e m+rem∧0≤rem∧rem<V e m∧Below w.heap.size w w':=by
 have hmk:=run_make_row' (P:=Tryz.prog) 24 98 (.int .u16 0) 2 Tryz.underlying24 Tryz.infoU16 rfl .i64 .i64 n (by omega) (by omega)
 have hD:V e m<281474976710656:=by
  have h1:=zGU hc.dgs m;have h2:=zA0 hm;rw[P3] at h2;omega
 have Hmk:=zC hmk;clear hmk
 go_enter Tryz.func193,Tryz.ntmps193
 go_wp2
 go_loop [6,7] (fun dd ii=>∃ j:Nat,j≤m∧ii=.int .i64 ((j:Int)-1)∧dd=.int .u64 (Tp e j m)) (fun _ ii=>(intOf ii+1).toNat)
 case atStart=>exact ⟨m,Nat.le_refl _,rfl,by rw[zFH]⟩
 case round =>
  obtain ⟨j,hj,rfl,rfl⟩:=hrel
  by_cases hj0:j=0
  ·subst hj0
   rw[zCH];have hmk:=zA Hmk;go_wp2;clear hmk;obtain ⟨D,hDe⟩:∃ D,D=V e m:=⟨_,rfl⟩;rw[← hDe] at hD hpos ⊢;have hD0:(D == 0)=false:=by simp;omega
   have HDe:=zC hDe;clear hDe
   go_loopw [9,10] (fun ll ii wr=>∃ (j:Nat) (o:Nat→Int) (L:Int),j≤n∧ii=.int .i64 ((j:Int)-1)∧ll=.int .u64 L∧wr.rowIs w.heap.size 98 n (fun t=>.int .u16 (o t))∧Dgs o∧Tp d j n=Tp o j n*D+L∧0≤L∧L<D∧Below w.heap.size w wr) (fun _ ii _=>(intOf ii+1).toNat)
   case atStart =>
    refine ⟨n,fun _=>0,0,Nat.le_refl _,rfl,rfl,World.rowIs_made w (.int .u16 0) n 98,fun _=>⟨by simp,by simp⟩,?_,by omega,by omega,bl1 _ _⟩
    rw[zFH,zFH];simp
   case round =>
    obtain ⟨j,o,L,hj,rfl,rfl,hrow,hod,hT,hL0,hL1,hbl⟩:=hrel
    by_cases hj0:j=0
    ·subst hj0
     rw[zCH,zCH] at hT;have HT:=zC hT;have HR:=zC (zDZ hrow hod (by omega))
     clear hT hrow hod;go_wp2_with (go_at_call 170;refine (kZ _ _ _ (rd L) _ (dig3 _ _ _ _ _ _ (rd_dgs L) (by simp[rd,zAH]) (by simp[rd,zAH]) (by simp[rd];omega))).mono ?_;rintro r w2 ⟨rfl,hb2⟩)
     go_ret2
     refine ⟨_,n,n,o,_,kA (rd L) 3,3,L,rfl,(zA HR).bw (zB (bl1 _ _) hb2),Nat.le_refl _,?_,zA3 _ _,?_,hL0,?_,zB (zK hbl _) hb2⟩
     ·rw[zH9 (rd_dgs L),rd_V L hL0 (by omega)]
     ·rw[← zA HDe];exact zA HT
     ·rw[← zA HDe];exact hL1
    ·obtain ⟨i,rfl⟩:∃ i,j=i+1:=⟨j-1,by omega⟩
     have e0:((i+1:Nat):Int)-1=(i:Int):=by omega
     rw[e0];obtain ⟨b1,o1,rfl,hb1,hc1⟩:=ha.at_ (by omega)
     have g1:wr.cell? ⟨b1,o1+i,none⟩=some (.int .u16 (d i)):=(hbl.cell (p:=⟨b1,o1+i,none⟩) hb1).trans (hc1 i (by omega))
     have db:=ha.dgs i;have r1:=hrow.cell (show i<n by omega)
     have r2:=hrow.frozen i;have hor:=or64 (L*65536) (d i) L db.1 db.2 (by omega) hL0 (by omega)
     have hin:(i:Int)<n:=by omega
     have HT:=zC hT;clear hT hc1 e0;have hst:=zLU (o:=o) (show i<n by omega) hpos (zA HT)
     have sb:=short_bd hpos db hL0 hL1;have HS:=zC hst;clear hst;go_wp2
     go_roundw
     case rel =>
      exact ⟨i,upd o i ((L*65536+d i)/D),(L*65536+d i) % D,by omega,by go_num,rfl,zB7 hrow i rfl,kQ hod _ sb.1 sb.2.1,zA HS,sb.2.2.1,sb.2.2.2,hbl.setCell (Nat.le_refl _) _⟩
     case measure=>simp[intOf];try omega
  ·obtain ⟨i,rfl⟩:∃ i,j=i+1:=⟨j-1,by omega⟩
   have e0:((i+1:Nat):Int)-1=(i:Int):=by omega
   rw[e0];obtain ⟨b2,o2,rfl,hb2,hc2⟩:=hc.at_ (by omega)
   have g2:w.cell? ⟨b2,o2+i,none⟩=some (.int .u16 (e i)):=hc2 i (by omega)
   have eb:=hc.dgs i;have t0:=zAD hc.dgs (i+1) m;have t1:=Tp_lt hc.dgs (i+1) m;have t2:=zA0 (show m-(i+1)≤2 by omega)
   have eP2:P 2=4294967296:=rfl;rw[eP2] at t2;have ts:=zB5 e i m (by omega)
   have H1:=zC (show bits .or .u64 (Tp e (i+1) m*65536) (e i)=Tp e i m by rw[or64 _ _ (Tp e (i+1) m) eb.1 eb.2 (by omega) t0 (by omega),ts];omega)
   have im:(i:Int)<m:=by omega
   clear ts hc2 e0 eP2;go_wp2
   go_round
   case rel=>exact ⟨i,by omega,by go_num,by rw[← zA H1];try rfl⟩
   case measure=>simp[intOf];try omega
attribute [local go_sem ↓] Go.wp_at_zero Go.wp_at_succ
def zGM (w:World) (d e:Nat→Int) (n m:Nat) (r:Ending) (w':World):Prop :=
 ∃ a1 n1 c1 o a2 n2 c2 rem,r=.returned (.tuple #[.slice a1 n1 c1,.slice a2 n2 c2])∧Dig w' a1 n1 c1 o∧n1≤n+3∧(0<n2 ↔ rem≠0)∧n2≤n+3∧V d n=V o n1*V e m+rem∧0≤rem∧rem<V e m∧Below w.heap.size w w'
theorem zFW (a c:Option Addr) (n m cap cap2:Nat) (d e:Nat→Int) (w:World) (ha:Dig w a n cap d) (hc:Dig w c m cap2 e) (hn:n≤1000000000) (h1:n=0∨d (n-1)≠0) (h2:m=0∨e (m-1)≠0) (hpos:0<V e m)
  (hm:m≤3∨V d n<V e m) :
  Calls Tryz.prog 168 #[.slice a n cap,.slice c m cap2] w (zGM w d e n m):=by
 have hcv:=zHJ ha.dgs hc.dgs n m h1 h2
 by_cases hlt:V d n<V e m
 ·have hneg:zF4 d e n m<0:=by rw[hcv];simp[zF,hlt]
  clear hcv
  have HF:=zC (show 0<n ↔ V d n≠0 by
   have:=zH9 ha.dgs n;rwa [zMD h1] at this)
  go_enter Tryz.func168,Tryz.ntmps168
  go_wp2_with (go_at_call 101;refine (kW _ _ _ _ _ _ d e _ ha hc).mono ?_;rintro r w0 ⟨rfl,hb0⟩)
  go_ret2
  exact ⟨none,0,0,fun _=>0,a,n,cap,V d n,rfl,⟨fun h=>by omega,fun _=>⟨by simp,by simp⟩,Nat.le_refl _,by omega⟩,by omega,zA HF,by omega,by simp[V],jB ha.dgs n,hlt,hb0⟩
 ·have hneg:¬ zF4 d e n m<0:=by rw[hcv];simp only[zF,hlt,if_false];split <;> omega
  have hm3:m≤3:=by omega
  have hm3':(m:Int)≤3:=by omega
  clear hcv
  go_enter Tryz.func168,Tryz.ntmps168
  go_wp2_with (first
   | (go_at_call 101;refine (kW _ _ _ _ _ _ d e _ ha hc).mono ?_;rintro r w0 ⟨rfl,hb0⟩)
   | (go_at_call 193;refine (zM2 _ _ _ _ _ _ d e _ (ha.bw hb0) (hc.bw hb0) hn hm3 hpos).mono ?_;rintro r w1 ⟨a1,n1,c1,o,a2,n2,c2,rem,rfl,p1,p2,p3,p4,p5,p6,p7,p8⟩))
  go_ret2
  exact ⟨a1,n1,c1,o,a2,n2,c2,rem,rfl,p1,by omega,p3,by omega,p5,p6,p7,zB hb0 p8⟩
def zAC (w:World) (n:Nat) (z:Int) (r:Ending) (w':World):Prop :=
 ∃ neg' a' n' cap',r=.returned (.agg #[.bool neg',.slice a' n' cap'])∧IntAt w' neg' a' n' cap' (n+8) z∧Below w.heap.size w w'
theorem zF7 (neg : Bool) (a c : Option Addr) (n m cap cap2 : Nat) (d e : Nat → Int) (w : World) (ha : Dig w a n cap d) (hc : Dig w c m cap2 e) (hn : n ≤ 900000000) (hm : 0 < m)
    (hov : ∀ w', Dig w' a n cap d → Dig w' c m cap2 e → Calls Tryz.prog 168 #[.slice a n cap, .slice c m cap2] w' (zGM w' d e n m)) :
    Calls Tryz.prog 119 #[.agg #[.bool neg, .slice a n cap], .agg #[.bool false, .slice c m cap2]] w (zAC w n (sgn neg (V d n) / V e m)) := by
  have hsg : zJG false m = 1 := by simp [zJG]; omega
  have le2 : w.heap.size ≤ w.heap.size + 1 + 1 := by omega
  have ne1 : w.heap.size ≠ w.heap.size + 1 + 1 := by omega
  have ne2 : w.heap.size + 1 + 1 ≠ w.heap.size := by omega
  cases neg
  · go_enter Tryz.func119, Tryz.ntmps119
    go_wp2_with (first
      | (go_at_call 96; refine (zHA _ _ _ _ _ hc.room).mono ?_; rintro r w0 ⟨rfl, hb0⟩; obtain ⟨hsz0, kC0, hfz0⟩ := kK (w.heap.size + 1 + 1 + 1) (by simp) hb0; rw [hsg])
      | (go_at_call 168; refine (hov _ (ha.bw (zB (bl3 _ _ _ _) hb0)) (hc.bw (zB (bl3 _ _ _ _) hb0))).mono ?_; rintro r w1 ⟨a1, n1, c1, o, a9, n9, c9, rem, rfl, p1, p2, p3, p4, p5, p6, p7, p8⟩; obtain ⟨hsz1, kC1, hfz1⟩ := kK (w.heap.size + 1 + 1 + 1) hsz0 p8; skip)
      | (go_at_call 125; refine (zAZ _ _ _ _ o _ p1).mono ?_; rintro r w2 ⟨neg', a2, n2, c2, rfl, hint, hb2⟩; obtain ⟨hsz2, kC2, hfz2⟩ := kK (w.heap.size + 1 + 1 + 1) hsz1 hb2; have hz0 := Nat.lt_of_lt_of_le (Nat.lt_succ_of_lt (Nat.lt_succ_of_lt (Nat.lt_succ_self w.heap.size))) hsz2; have hz1 := Nat.lt_of_lt_of_le (Nat.lt_succ_self (w.heap.size + 1 + 1)) hsz2))
    have h0 : w2.cell? ⟨w.heap.size + 1 + 1, 0, none⟩ = some (.bool false) := by simp [kC2, kC1, kC0, go_sem]
    have h1' : w2.cell? ⟨w.heap.size + 1 + 1, 1, none⟩ = some (.slice none 0 0) := by simp [kC2, kC1, kC0, go_sem]
    refine bodyPost_ret (v := .agg #[.bool neg', .slice a2 n2 c2]) (by simp [results, Tryz.results119, go_sem, hz0, hz1, h0, h1']) rfl ⟨neg', a2, n2, c2, rfl, ?_, ?_⟩
    · rw [show sgn false (V o n1) = sgn false (V d n) / V e m by simp only [sgn]; exact (zCI (by omega) p5 p6 p7).symm] at hint
      exact ((hint.put2 h0 h1' _ _).bw (bl1 _ _)).mono (by omega)
    · exact zK (((zB (zB (zB (bl3 _ _ _ _) hb0) p8) hb2).setCell (p := ⟨w.heap.size + 1 + 1, 0, none⟩) le2 _).setCell (p := ⟨w.heap.size + 1 + 1, 1, none⟩) le2 _) _
  · go_enter Tryz.func119, Tryz.ntmps119
    go_wp2_with (first
      | (go_at_call 96; refine (zHA _ _ _ _ _ hc.room).mono ?_; rintro r w0 ⟨rfl, hb0⟩; obtain ⟨hsz0, kC0, hfz0⟩ := kK (w.heap.size + 1 + 1 + 1) (by simp) hb0; rw [hsg])
      | (go_at_call 168; refine (hov _ (ha.bw (zB (bl3 _ _ _ _) hb0)) (hc.bw (zB (bl3 _ _ _ _) hb0))).mono ?_; rintro r w1 ⟨a1, n1, c1, o, a9, n9, c9, rem, rfl, p1, p2, p3, p4, p5, p6, p7, p8⟩; obtain ⟨hsz1, kC1, hfz1⟩ := kK (w.heap.size + 1 + 1 + 1) hsz0 p8; skip)
      | (go_at_call 125; refine (zAZ _ _ _ _ o _ p1).mono ?_; rintro r w2 ⟨neg', a2, n2, c2, rfl, hint, hb2⟩; obtain ⟨hsz2, kC2, hfz2⟩ := kK (w.heap.size + 1 + 1 + 1) hsz1 hb2; have hz0 := Nat.lt_of_lt_of_le (Nat.lt_succ_of_lt (Nat.lt_succ_of_lt (Nat.lt_succ_self w.heap.size))) hsz2; have hz1 := Nat.lt_of_lt_of_le (Nat.lt_succ_self (w.heap.size + 1 + 1)) hsz2))
    · have hr : rem ≠ 0 := by have h : (!decide (rem = 0)) = true := by assumption
                              simpa using h
      have h0 : w2.cell? ⟨w.heap.size + 1 + 1, 0, none⟩ = some (.bool false) := by simp [kC2, kC1, kC0, go_sem]
      have h1' : w2.cell? ⟨w.heap.size + 1 + 1, 1, none⟩ = some (.slice none 0 0) := by simp [kC2, kC1, kC0, go_sem]
      have h2' : ∀ o, w2.frozen? ⟨w.heap.size + 1 + 1, o, none⟩ = false := by intro o; simp [hfz2, hfz1, hfz0, go_sem]
      have HE := zC (show sgn true (V o n1) - 1 = sgn true (V d n) / V e m by simp only [sgn]; exact (zD8 (by omega) p5 (by omega) p7).symm)
      have nz : w2.heap.size ≠ w.heap.size + 1 + 1 := by omega
      have nz' : w.heap.size + 1 + 1 ≠ w2.heap.size := by omega
      have y1 := Nat.le_succ_of_le hz1
      go_region_held3 (fun w' => w'.cell? ⟨w2.heap.size, 0, none⟩ = some (.bool neg') ∧ w'.cell? ⟨w2.heap.size, 1, none⟩ = some (.slice a2 n2 c2)) (go_keep)
        (first
          | (go_at_call 43; refine (zD 1 _ (by decide) (by decide)).mono ?_; rintro r w3 ⟨neg3, a3, n3, c3, rfl, hZ3, hb3⟩; obtain ⟨hsz3, kC3, hfz3⟩ := kK (w2.heap.size + 1) (by simp) hb3)
          | (go_at_call 72; refine (zAL _ _ _ _ _ _ _ _ n1 4 _ _ _ (hint.bw (zB (bl1 _ _).drew hb3)) hZ3 (by omega) (by omega)).mono ?_; rintro r w4 ⟨neg4, a4, n4, c4, rfl, hZ4, hb4⟩; obtain ⟨hsz4, kC4, hfz4⟩ := kK (w2.heap.size + 1) hsz3 hb4))
      go_wp2
      have h0 : w4.cell? ⟨w.heap.size + 1 + 1, 0, none⟩ = some (.bool false) := by rw [kC4 _ _ y1, kC3 _ _ y1]; exact (World.cell?_alloc_past _ _ _ hz1).trans h0
      have h1' : w4.cell? ⟨w.heap.size + 1 + 1, 1, none⟩ = some (.slice none 0 0) := by rw [kC4 _ _ y1, kC3 _ _ y1]; exact (World.cell?_alloc_past _ _ _ hz1).trans h1'
      refine bodyPost_ret (v := .agg #[.bool neg4, .slice a4 n4 c4]) (by simp [results, Tryz.results119, go_sem, h0, h1']) rfl ⟨neg4, a4, n4, c4, rfl, ?_, ?_⟩
      · rw [zA HE] at hZ4
        exact (hZ4.put2 h0 h1' _ _).mono (by omega)
      · exact ((zB (zB (zK (zB (zB (zB (bl3 _ _ _ _) hb0) p8) hb2) _).drew hb3) hb4).setCell (p := ⟨w.heap.size + 1 + 1, 0, none⟩) le2 _).setCell (p := ⟨w.heap.size + 1 + 1, 1, none⟩) le2 _
    · have hr : rem = 0 := by have h : (!decide (rem = 0)) = false := by assumption
                              simpa using h
      have h0 : w2.cell? ⟨w.heap.size + 1 + 1, 0, none⟩ = some (.bool false) := by simp [kC2, kC1, kC0, go_sem]
      have h1' : w2.cell? ⟨w.heap.size + 1 + 1, 1, none⟩ = some (.slice none 0 0) := by simp [kC2, kC1, kC0, go_sem]
      refine bodyPost_ret (v := .agg #[.bool neg', .slice a2 n2 c2]) (by simp [results, Tryz.results119, go_sem, hz0, hz1, h0, h1']) rfl ⟨neg', a2, n2, c2, rfl, ?_, ?_⟩
      · rw [show sgn true (V o n1) = sgn true (V d n) / V e m by simp only [sgn]; exact (zFV (by omega) (by rw [p5, hr]; omega)).symm] at hint
        exact ((hint.put2 h0 h1' _ _).bw (bl1 _ _)).mono (by omega)
      · exact zK (((zB (zB (zB (bl3 _ _ _ _) hb0) p8) hb2).setCell (p := ⟨w.heap.size + 1 + 1, 0, none⟩) le2 _).setCell (p := ⟨w.heap.size + 1 + 1, 1, none⟩) le2 _) _
theorem zJC {w:World} {neg:Bool} {a:Option Addr} {n cap k:Nat} {y:Int} (h:IntAt w neg a n cap k y) (hy:0<y):∃ e,neg=false∧0<n∧Dig w a n cap e∧(n=0∨e (n-1)≠0)∧n≤k∧y=V e n:=by
 obtain ⟨e,h1,h2,h3,h4,h5⟩:=h;have hv:=jB h1.dgs n
 cases neg
 ·have hn:0<n:=by
   rcases Nat.eq_zero_or_pos n with h0|h0
   ·subst h0;simp[sgn,V] at h5;omega
   ·exact h0
  exact ⟨e,rfl,hn,h1,h2,h4,by simpa [sgn] using h5⟩
 ·simp[sgn] at h5;omega
theorem zFI {e:Nat→Int} (he:Dgs e) {m k:Nat} (h2:m=0∨e (m-1)≠0) (h:V e m<P k):m≤k:=by
 rcases Nat.lt_or_ge k m with hk|hk
 ·have h3:=V_ge he (m-1) (by omega)
  rw[show m-1+1=m by omega] at h3
  have:=zA0 (show k≤m-1 by omega);omega
 ·exact hk
theorem zJB (neg neg2:Bool) (a c:Option Addr) (n m cap cap2 k k2:Nat) (x y:Int) (w:World) (h1:IntAt w neg a n cap k x) (h2:IntAt w neg2 c m cap2 k2 y) (hk:k≤900000000) (hy:0<y) (hy3:y<281474976710656) :
  Calls Tryz.prog 119 #[.agg #[.bool neg,.slice a n cap],.agg #[.bool neg2,.slice c m cap2]] w (zAC w k (x/y)):=by
 obtain ⟨e,rfl,f0,f1,f2,f3,rfl⟩:=zJC h2 hy;obtain ⟨d,g1,g2,g3,g4,rfl⟩:=h1;have hm3:m≤3:=zFI f1.dgs f2 (by rw[P3];exact hy3)
 exact (zF7 neg a c n m cap cap2 d e w g1 f1 (by omega) f0 (fun w' p q=>zFW a c n m cap cap2 d e w' p q (by omega) g2 f2 hy (Or.inl hm3))).mono
  fun _ _ ⟨n1,n2,n3,n4,q1,q2,q3⟩=>⟨n1,n2,n3,n4,q1,q2.mono (by omega),q3⟩
def yE (d:Nat→Int) (q:Int):Nat→Int
 | 0=>0
 | k+1=>(yE d q k+d k*q)/65536
def kL (d:Nat→Int) (q:Int) (n j:Nat):Int:=if j<n then (yE d q j+d j*q) % 65536 else yE d q n
theorem zOH {x q:Int} (hx:0≤x∧x<65536) (hq:0≤q∧q<65536):0≤x*q∧x*q≤4294836225:=zHT hx hq ⟨Int.le_refl 0,by omega⟩ ⟨Int.le_refl 0,by omega⟩
theorem zIN {d:Nat→Int} (hd:Dgs d) {q:Int} (hq:0≤q∧q<65536) (k:Nat):0≤yE d q k∧yE d q k<65536:=by
 induction k with
 | zero=>simp[yE]
 | succ k ih=>simp only[yE];have:=zOH (hd k) hq;omega
theorem zGB {d:Nat→Int} (hd:Dgs d) {q:Int} (hq:0≤q∧q<65536) (n:Nat):Dgs (kL d q n):=by
 intro j;unfold kL
 have:=zIN hd hq n;split <;> omega
theorem zMQ (d:Nat→Int) (q:Int) (n:Nat):∀ k,k≤n→V (kL d q n) k+yE d q k*P k=V d k*q:=by
 intro k
 induction k with
 | zero=>intro _;simp[V,yE]
 | succ k ih =>
  intro hk
  have h1:=ih (by omega)
  simp only[V,P];have h2:kL d q n k=(yE d q k+d k*q) % 65536:=by simp[kL];omega
  rw[h2];simp only[yE]
  have h3:(yE d q k+d k*q) % 65536*P k+(yE d q k+d k*q)/65536*(65536*P k)=(yE d q k+d k*q)*P k:=by
   rw[← Int.mul_assoc,← Int.add_mul];congr 1;omega
  have h4:(yE d q k+d k*q)*P k=yE d q k*P k+d k*q*P k:=Int.add_mul _ _ _
  have h5:(V d k+d k*P k)*q=V d k*q+d k*q*P k:=by
   rw[Int.add_mul,Int.mul_assoc (d k),Int.mul_comm (P k) q,← Int.mul_assoc]
  omega
theorem times_V (d:Nat→Int) (q:Int) (n:Nat):V (kL d q n) (n+1)=V d n*q:=by
 have h:=zMQ d q n n (Nat.le_refl _);simp only[V];have:kL d q n n=yE d q n:=by simp[kL]
 rw[this];exact h
theorem zH5 (a:Option Addr) (n cap:Nat) (d:Nat→Int) (q:Int) (w:World) (ha:Dig w a n cap d) (hn:n≤1000000000) (hq0:0≤q) (hq1:q<65536) :
  Calls Tryz.prog 194 #[.slice a n cap,.int .u32 q] w fun r w'=>∃ a',r=.returned (.slice a' (n+1) (n+1))∧Dig w' a' (n+1) (n+1) (kL d q n)∧Below w.heap.size w w':=by
 have hmk:=run_make_row' (P:=Tryz.prog) 24 98 (.int .u16 0) 2 Tryz.underlying24 Tryz.infoU16 rfl .i64 .i64 (n+1) (by omega) (by omega)
 have hnm:((n+1:Nat):Int)=(n:Int)+1:=by omega
 rw[hnm] at hmk;clear hnm
 go_enter Tryz.func194,Tryz.ntmps194
 go_wp2;clear hmk
 go_loopw [6,15] (fun cy i wr=>∃ k:Nat,k≤n∧i=.int .i64 k∧cy=.int .u32 (yE d q k)∧wr.rowIs w.heap.size 98 (n+1) (fun j=>.int .u16 (if j<k then kL d q n j else 0))∧Below w.heap.size w wr) (fun _ i _=>n-(intOf i).toNat)
 case atStart=>exact ⟨0,Nat.zero_le _,rfl,rfl,by simpa using World.rowIs_made w (.int .u16 0) (n+1) 98,bl1 _ _⟩
 case round =>
  obtain ⟨k,hk,rfl,rfl,hrow,hbl⟩:=hrel;have cb:=zIN ha.dgs ⟨hq0,hq1⟩ k
  by_cases hkn:k<n
  ·obtain ⟨b1,o1,rfl,hb1,hc1⟩:=ha.at_ (by omega)
   have g1:wr.cell? ⟨b1,o1+k,none⟩=some (.int .u16 (d k)):=(hbl.cell (p:=⟨b1,o1+k,none⟩) hb1).trans (hc1 k hkn);have db:=ha.dgs k;have pb:=zOH db ⟨hq0,hq1⟩;have r1:=hrow.cell (show k<n+1 by omega)
   have r2:=hrow.frozen k;have H1:=zC (show (yE d q k+d k*q)/65536=yE d q (k+1) from rfl)
   have H2:=zC (show IntKind.u16.wrap (yE d q k+d k*q)=kL d q n k by simp[zAH,kL,hkn])
   clear hc1;go_wp2
   go_roundw
   case rel=>exact ⟨k+1,by omega,by go_num,by rw[zA H1],yZ hrow (zA H2),hbl.setCell (Nat.le_refl _) _⟩
   case measure=>simp[intOf];omega
  ·have hkE:k=n:=by omega
   subst hkE;have r1:=hrow.cell (show k<k+1 by omega)
   have r2:=hrow.frozen k;have H2:=zC (show yE d q k=kL d q k k by simp[kL])
   have HR:=zC hrow;clear hrow;go_wp2
   go_ret
   refine ⟨_,rfl,zDZ ((yZ (zA HR) (zA H2)).congr (fun j hj=>by simp[hj])) (zGB ha.dgs ⟨hq0,hq1⟩ k) (by omega),hbl.setCell (Nat.le_refl _) _⟩
def zD9 (u f:Nat→Int) (j i:Nat):Int:=if i<j then u i else f (i-j)
theorem zPI {u f:Nat→Int} (hu:Dgs u) (hf:Dgs f) (j:Nat):Dgs (zD9 u f j):=by
 intro i;unfold zD9;split
 ·exact hu i
 ·exact hf _
theorem zKU (u f:Nat→Int) (j L:Nat):Tp (zD9 u f j) j L=V f (L-j):=by
 unfold Tp;exact zBI _ (fun i _=>by simp only[zD9];rw[if_neg (by omega)];congr 1;omega)
theorem V_low (u:Nat→Int) {j L:Nat} (h:j≤L):V u L=V u j+P j*Tp u j L:=by
 unfold Tp;have:=zE2 u j (L-j);rw[show j+(L-j)=L by omega] at this
 exact this
theorem zNV (u f:Nat→Int) (j:Nat):V (zD9 u f j) j=V u j:=zBI _ (fun i hi=>by simp[zD9,hi])
theorem div_step {u o f:Nat→Int} {j L M:Nat} {A D q:Int} (hjL:j<L) (hjM:j<M) (hA:A=V u L+D*(P (j+1)*Tp o (j+1) M)) (hf:V f (L-j)=Tp u j L-q*D) :
  A=V (zD9 u f j) L+D*(P j*Tp (upd o j q) j M):=by
 rw[V_low (zD9 u f j) (Nat.le_of_lt hjL),zNV,zKU,hf,zB5 (upd o j q) j M hjM,Tp_upd];have h1:upd o j q j=q:=by simp[upd]
 rw[h1,hA,V_low u (Nat.le_of_lt hjL)];generalize Tp u j L=U;generalize Tp o (j+1) M=T;simp only[P];rw[Int.mul_sub,Int.mul_add,Int.mul_add];have e1:P j*(q*D)=D*(P j*q):=by rw[Int.mul_comm q D,← Int.mul_assoc,← Int.mul_assoc,Int.mul_comm (P j) D]
 have e2:D*(P j*(65536*T))=D*(65536*P j*T):=by rw[← Int.mul_assoc (P j),Int.mul_comm (P j) 65536]
 omega
theorem div_hat {u v:Nat→Int} {j L n:Nat} (hu:Dgs u) (hv:Dgs v) (hn:0<n) (hL:j+n<L) (hU:Tp u (j+1) L<V v n) (q:Int) (hq:q*V v n≤Tp u j L) (hq0:0≤q) :
  q*v (n-1)≤u (j+n)*65536+u (j+n-1)∧q<65536:=by
 have hD:=zGU hv n;have hT1:=zB5 u j L (by omega)
 have hu0:=hu j;have hDpos:0<V v n:=by have:=zAD hu (j+1) L;omega
 have hUlt:Tp u j L<65536*V v n:=by omega
 have hq1:q<65536:=by
  rcases Int.lt_or_le q 65536 with h|h
  ·exact h
  ·have:=Int.mul_le_mul_of_nonneg_right h (show 0≤V v n by omega);omega
 refine ⟨?_,hq1⟩;have hs:=zE2 (fun t=>u (j+t)) (n+1) (L-j-(n+1))
 rw[show n+1+(L-j-(n+1))=L-j by omega] at hs
 have hs':Tp u j L=V (fun t=>u (j+t)) (n+1)+P (n+1)*V (fun t=>u (j+(n+1+t))) (L-j-(n+1)):=hs
 have hR0:=jB (fun t=>hu (j+(n+1+t))) (L-j-(n+1))
 have hL0:=jB (fun t=>hu (j+t)) (n+1)
 have hPn:=kN (n+1);have hP1:P (n+1)=65536*P n:=rfl
 have hR:V (fun t=>u (j+(n+1+t))) (L-j-(n+1))=0:=by
  rcases Int.lt_or_le (V (fun t=>u (j+(n+1+t))) (L-j-(n+1))) 1 with h|h
  ·omega
  ·have:=Int.mul_le_mul_of_nonneg_left h (show 0≤P (n+1) by omega)
   omega
 rw[hR,Int.mul_zero,Int.add_zero] at hs';obtain ⟨m,rfl⟩:∃ m,n=m+1:=⟨n-1,by omega⟩
 have e1:V (fun t=>u (j+t)) (m+1+1)=V (fun t=>u (j+t)) m+u (j+m)*P m+u (j+(m+1))*(65536*P m):=rfl
 have e2:V v (m+1)=V v m+v m*P m:=rfl;have b1:=zGU (fun t=>hu (j+t)) m
 have b2:=jB hv m;have hp:=kN m;simp only[Nat.add_sub_cancel];rw[show j+(m+1)-1=j+m by omega]
 have h5:q*(v m*P m)≤q*V v (m+1):=Int.mul_le_mul_of_nonneg_left (by omega) hq0
 have h6:q*v m*P m<(u (j+(m+1))*65536+u (j+m)+1)*P m:=by
  rw[Int.mul_assoc,Int.add_mul,Int.add_mul,Int.one_mul,Int.mul_assoc (u (j+(m+1)))];omega
 have h7:q*v m<u (j+(m+1))*65536+u (j+m)+1:=Int.lt_of_mul_lt_mul_right h6 (by omega)
 omega
theorem row_take {c:Array Value} {N n:Nat} {f:Nat→Int} (hc:∀ i,i<N→c[i]?=some (.int .u16 (f i))) (hn:n≤N):c.toList.take n=kU f n:=by
 apply List.ext_getElem?
 intro j
 rw[List.getElem?_take]
 by_cases hj:j<n
 ·rw[if_pos hj,zBD f n j hj,Array.getElem?_toList];exact hc j (by omega)
 ·rw[if_neg hj];symm;rw[List.getElem?_eq_none_iff,yA];omega
theorem row_own {w:World} {b t N n base:Nat} {f:Nat→Int} (h:w.rowIs b t N (fun j=>.int .u16 (f j))) (hn:n≤N) (hN:N≤4611686018427387904) (hb:base≤b):Own w base t (some ⟨b,0,none⟩) n N f:=by
 obtain ⟨c,h1,h2,h3⟩:=h;refine ⟨by rw[yA];omega,Or.inr ⟨b,N,c,rfl,hb,h1,hn,by unfold maxLen;omega,by omega,?_⟩⟩
 rw[Nat.mul_one];exact row_take h3 hn
theorem up_own (neg:Bool) (a:Option Addr) (n cap k:Nat) (d:Nat→Int) (w:World) (ha:Dig w a n cap d) (hn:n≤1000000000) (hk:k≤1000000000) :
  Calls Tryz.prog 95 #[.agg #[.bool neg,.slice a n cap],.int .i64 k] w fun r w' =>
   ∃ g n' cap' o neg',r=.returned (.agg #[.bool neg',.slice (some ⟨g,0,none⟩) n' cap'])∧Own w' w.heap.size 98 (some ⟨g,0,none⟩) n' cap' o∧Dgs o∧(n'=0∨o (n'-1)≠0)∧V o n'=V d n*Q k∧n'≤k/16+n+1∧Below w.heap.size w w':=by
 obtain ⟨q,hq⟩:∃ q,q=k/16:=⟨_,rfl⟩;obtain ⟨s,hs⟩:∃ s,s=k % 16:=⟨_,rfl⟩;have hq':(k:Int)/16=(q:Int):=by omega
 have hs':(k:Int) % 16=(s:Int):=by omega
 have hs16:s<16:=by omega
 have hk':¬ (k:Int)<0:=by omega
 obtain ⟨W,hW⟩:∃ W,W=(w.alloc (.cells #[.bool neg,.slice a n cap] 26)).alloc (.cells #[.bool false,.slice none 0 0] 26):=⟨_,rfl⟩;have b3:Below w.heap.size w W:=by rw[hW];exact bl2 _ _ _
 have s3:W.heap.size=w.heap.size+1+1:=by rw[hW];simp
 have k0:W.cell? ⟨w.heap.size,0,none⟩=some (.bool neg):=by rw[hW];simp[go_sem]
 have k3:W.cell? ⟨w.heap.size+1,0,none⟩=some (.bool false):=by rw[hW];simp[go_sem]
 have k4:W.cell? ⟨w.heap.size+1,1,none⟩=some (.slice none 0 0):=by rw[hW];simp[go_sem]
 have k5:∀ o,W.frozen? ⟨w.heap.size+1,o,none⟩=false:=by intro o;rw[hW];simp[go_sem]
 have HW:=zC hW;clear hW;have hmk:=run_make_row' (P:=Tryz.prog) 24 98 (.int .u16 0) 2 Tryz.underlying24 Tryz.infoU16 rfl .i64 .i64 (q+n+1) (by omega) (by omega)
 have hnm:((q+n+1:Nat):Int)=(q:Int)+n+1:=by omega
 rw[hnm] at hmk;have Hq:=zC hq;have Hs:=zC hs;clear hnm hq hs
 go_enter Tryz.func95,Tryz.ntmps95
 go_wp2;clear hmk
 go_loopw [26] (fun ii wr=>∃ (i:Nat) (o:Nat→Int),i≤n∧ii=.int .i64 i∧wr.rowIs (w.heap.size+1+1) 98 (q+n+1) (fun j=>.int .u16 (o j))∧Dgs o∧V o (q+n+1)=V d i*Q s*P q∧(∀ j,i+q<j→o j=0)∧o (i+q)<Q s∧Below (w.heap.size+1+1) W wr) (fun ii _=>n-(intOf ii).toNat)
 case atStart =>
  refine ⟨0,fun _=>0,Nat.zero_le _,rfl,?_,fun _=>⟨by simp,by simp⟩,?_,fun _ _=>rfl,?_,?_⟩
  ·have:=World.rowIs_made W (.int .u16 0) (q+n+1) 98
   rw[s3,zA HW] at this;exact this
  ·rw[zOZ];simp[V]
  ·have:=zG s;simp;omega
  ·rw[zA HW];exact (Below.refl _ _).alloc (by simp) _
 case round =>
  obtain ⟨i,o,hi,rfl,hrow,hod,hov,hoz,hoq,hbl⟩:=hrel
  by_cases hin:i<n
  ·obtain ⟨b1,o1,rfl,hb1,hc1⟩:=ha.at_ (by omega)
   have g1:wr.cell? ⟨b1,o1+i,none⟩=some (.int .u16 (d i)):=(hbl.cell (p:=⟨b1,o1+i,none⟩) (by show b1<_;omega)).trans ((b3.cell (p:=⟨b1,o1+i,none⟩) hb1).trans (hc1 i hin))
   have db:=ha.dgs i;have r1:=hrow.cell (show i+q<q+n+1 by omega)
   have r2:=hrow.frozen (i+q);have r3:=hrow.cell (show i+q+1<q+n+1 by omega)
   have r4:=hrow.frozen (i+q+1);have hz1:=hoz (i+q+1) (by omega)
   rw[hz1] at r3;have ob:=hod (i+q);have HV:=zC hov;have HZ:=zC hoz;have HR:=zC hrow;have HD:=zC hod;have HZ1:=zC hz1;clear hc1 hov hoz hrow hod hz1;obtain ⟨c,hlow⟩:=up_low (d i) s (by omega)
   have hhigh:=zJZ (d i) s db.1 db.2;have hlt:=up_lt (d i) s hs16 db.1 db.2;have hmod:d i*2 ^ s % 4294967296=d i*Q s:=by rw[zMP];omega
   have hor:=or16 (o (i+q)) (d i*Q s % 65536) c s (by omega) ob.1 hoq hlow (by omega) (by omega)
   have hor2:=or16 0 (d i*Q s/65536) (d i*Q s/65536) 0 (by omega) (by omega) (by simp[Q]) (by simp[Q]) hhigh.1 (by omega)
   have H1:=zC (show bits .or .u16 (o (i+q)) (IntKind.u16.wrap (d i*2 ^ s % 4294967296))=o (i+q)+d i*Q s % 65536 by rw[hmod,zAH];exact hor.1)
   have H2:=zC (show bits .or .u16 0 (d i*2 ^ s % 4294967296/65536)=d i*Q s/65536 by rw[hmod,hor2.1];omega)
   have H3:=zC hor.2;have H4:=zC hhigh;have hQ16:=zJ (show s≤15 by omega)
   have e15:Q 15=32768:=rfl;rw[e15] at hQ16;clear hlow hlt hmod hor hor2 hhigh e15;go_wp2
   go_roundw
   case rel =>
    have h3:=zA H3;have h4:=zA H4;have hne:i+q+1≠i+q:=by omega
    have hz:upd o (i+q) (o (i+q)+d i*Q s % 65536) (i+q+1)=0:=by simp[upd];exact zA HZ1
    refine ⟨i+1,upd (upd o (i+q) (o (i+q)+d i*Q s % 65536)) (i+q+1) (d i*Q s/65536),by omega,by go_num,zB7 (zB7 (zA HR) (i+q) (zA H1)) (i+q+1) (zA H2),kQ (kQ (zA HD) _ (by omega) h3) _ h4.1 (by omega),?_,fun j hj=>?_,?_,(hbl.setCell (by simp) _).setCell (by simp) _⟩
    ·rw[zMM _ _ _ _ (by omega),zMM _ _ _ _ (by omega),hz,zA HV]
     exact up_alg (V d i) (d i) (o (i+q)) i q s
    ·have e1:j≠i+q:=by omega
     have e2:j≠i+q+1:=by omega
     simp only[upd,e1,e2,if_false];exact zA HZ j (by omega)
    ·have e1:i+1+q=i+q+1:=by omega
     rw[e1];simp only[upd,if_true];exact h4.2
   case measure=>simp[intOf];omega
  ·have hiE:i=n:=by omega
   subst hiE;have q0:wr.cell? ⟨w.heap.size,0,none⟩=some (.bool neg):=(hbl.cell (p:=⟨w.heap.size,0,none⟩) (by show w.heap.size<_;omega)).trans k0
   have q3:wr.cell? ⟨w.heap.size+1,0,none⟩=some (.bool false):=(hbl.cell (p:=⟨w.heap.size+1,0,none⟩) (by simp)).trans k3
   have q4:wr.cell? ⟨w.heap.size+1,1,none⟩=some (.slice none 0 0):=(hbl.cell (p:=⟨w.heap.size+1,1,none⟩) (by simp)).trans k4
   have q5:∀ o,wr.frozen? ⟨w.heap.size+1,o,none⟩=false:=fun o=>(hbl.frozen (p:=⟨w.heap.size+1,o,none⟩) (by simp)).trans (k5 o)
   have hsw:=hbl.size;rw[s3] at hsw;have HR:=zC (zDZ hrow hod (by omega))
   have HRow:=zC hrow;have HO:=zC hod;have HV:=zC hov;clear hov hoz hrow hod;go_wp2_with (go_at_call 125;refine (of_any _ _ _ _ o _ (zA HR)).mono ?_;rintro r w2 ⟨rfl,hb2⟩;obtain ⟨hsz2,kC2,hfz2⟩:=kK (w.heap.size+1+1) hsw hb2);have tl:=zA3 o (q+i+1);refine bodyPost_ret (v:=.agg #[.bool (neg && decide (0<kA o (q+i+1))),.slice (some ⟨w.heap.size+1+1,0,none⟩) (kA o (q+i+1)) (q+i+1)]) (by simp[results,Tryz.results95,go_sem,kC2,q3,q4]) rfl ⟨w.heap.size+1+1,kA o (q+i+1),q+i+1,o,_,rfl,?_,zA HO,zBF _ _,?_,?_,?_⟩
   ·refine row_own ?_ tl (by omega) (by omega)
    have hr2:w2.rowIs (w.heap.size+1+1) 98 (q+i+1) (fun j=>.int .u16 (o j)):=(zA HRow).of_block (hb2.block _ (zA HRow).lt)
    exact (hr2.setOther (by simp) _).setOther (by simp) _
   ·rw[zB9,zA HV,Int.mul_assoc,zA Hs,zA Hq,← zJM]
   ·have:=zA Hq;omega
   ·exact ((zB (b3.trans (hbl.mono (by omega))) hb2).setCell (by simp) _).setCell (by simp) _
def OwnL (w:World) (g t L C:Nat) (u:Nat→Int):Prop:=∃ cur:List Value,w.heap[g]?=some (.cells cur.toArray t (0,0))∧cur.length=C∧L≤C∧∀ j,j<L→cur[j]?=some (.int .u16 (u j))
theorem OwnL.lt {w:World} {g t L C:Nat} {u:Nat→Int} (h:OwnL w g t L C u):g<w.heap.size:=by
 obtain ⟨cur,h1,_⟩:=h;exact (Array.getElem?_eq_some_iff.1 h1).1
theorem OwnL.cell {w:World} {g t L C:Nat} {u:Nat→Int} (h:OwnL w g t L C u) {j:Nat} (hj:j<L):w.cell? ⟨g,j,none⟩=some (.int .u16 (u j)):=by
 obtain ⟨cur,h1,h2,h3,h4⟩:=h;simp[World.cell?,h1,h4 j hj]
theorem OwnL.of_block {w w':World} {g t L C:Nat} {u:Nat→Int} (h:OwnL w g t L C u) (e:w'.heap[g]?=w.heap[g]?):OwnL w' g t L C u:=by
 obtain ⟨cur,h1,h2⟩:=h;exact ⟨cur,e.trans h1,h2⟩
theorem OwnL.bw {w w':World} {g t L C:Nat} {u:Nat→Int} (h:OwnL w g t L C u) (hb:Below w.heap.size w w'):OwnL w' g t L C u:=h.of_block (hb.block _ h.lt)
theorem OwnL.dig {w:World} {g t L C:Nat} {u:Nat→Int} (h:OwnL w g t L C u) (hu:Dgs u) (off:Nat) (ho:off≤L) (hL:L≤70368744177664):Dig w (some ⟨g,off,none⟩) (L-off) (C-off) (fun i=>u (off+i)) :=
 ⟨fun _=>⟨g,off,rfl,h.lt,fun j hj=>h.cell (by omega)⟩,fun j=>hu _,by obtain ⟨_,_,_,h3,_⟩:=h;omega,by omega⟩
theorem ownL_of {w:World} {base t g L C:Nat} {u:Nat→Int} (h:Own w base t (some ⟨g,0,none⟩) L C u):OwnL w g t L C u∧base≤g:=by
 have h':w.ownsRow base t 1 (.slice (some ⟨g,0,none⟩) L C) L (kU u L):=h
 rcases h'.2 with ⟨hv,h0⟩|⟨g',c2,cur,hv,hb,h1,h2,h3,h4,h5⟩
 ·cases hv
 ·simp only[Value.slice.injEq,Option.some.injEq,Addr.mk.injEq] at hv
  obtain ⟨⟨rfl,_,_⟩,_,rfl⟩:=hv;refine ⟨⟨cur.toList,by simpa using h1,by simp;omega,h2,fun j hj=>?_⟩,hb⟩
  have h6:=zBD u L j hj;rw[← h5,List.getElem?_take,if_pos (by omega)] at h6
  exact h6
theorem OwnL.splice {w w':World} {g t L C:Nat} {u f:Nat→Int} (h:OwnL w g t L C u) (j:Nat) (hj:j≤L)
  (cur:List Value) (hc:w.heap[g]?=some (.cells cur.toArray t (0,0))) (h':w'.heap[g]?=some (.cells (Go.splice cur j (kU f (L-j))).toArray t (0,0))):OwnL w' g t L C (zD9 u f j):=by
 obtain ⟨cur2,h1,h2,h3,h4⟩:=h
 have e:cur2=cur:=by
  rw[hc] at h1;have:=Option.some.inj h1;simp only[Obj.cells.injEq] at this;have h5:=congrArg Array.toList this.1
  simpa using h5.symm
 subst e;refine ⟨_,h',?_,h3,fun i hi=>?_⟩
 ·rw[length_splice _ _ _ (by rw[yA];omega)];exact h2
 ·unfold Go.splice zD9
  by_cases hij:i<j
  ·rw[if_pos hij,List.getElem?_append_left (by rw[List.length_take];omega),List.getElem?_take,if_pos hij];exact h4 i hi
  ·rw[if_neg hij,List.getElem?_append_right (by rw[List.length_take];omega),List.length_take,Nat.min_eq_left (by omega),List.getElem?_append_left (by rw[yA];omega),zBD _ _ _ (by omega)]
theorem zL2 (d:Nat→Int) (n:Nat):kU (upd (upd d n 0) (n+1) 0) (n+2)=kU d n ++ [.int .u16 0,.int .u16 0]:=by
 rw[show n+2=n+1+1 from rfl,zDM,zDM,List.append_assoc];rfl
theorem zDV {Pr:Program} (w:World) {ops:Array Oper} {rest:List Oper} {o:Oper} {act:Act} {Q:Exit→Act→World→Prop} (hgd:o.guard=none) (s x:Operand) (t:TypeId)
  (ho:o.op=.call { callee:=.builtin .append,args:=#[s,x],argTypes:=#[t,t] })
  (base:Nat) (e:TypeId) (ht:Pr.underlying t=some (.slice e)) (hinfo:(Pr.info? e).map (fun i=>(i.zero,i.size,i.bytes))=some (some (.int .u16 0),1,2))
  (a:Option Addr) (n cap:Nat) (d:Nat→Int) (hs:act.eval s=.slice a n cap) (hown:Own w base e a n cap d) (g c:Nat) (hx:act.eval x=.slice (some ⟨g,0,none⟩) 2 c)
  (hv:w.cell? ⟨g,0,none⟩=some (.int .u16 0)) (hv1:w.cell? ⟨g,1,none⟩=some (.int .u16 0)) (hn:n≤1000000000) (hbase:base≤w.heap.size)
  (h:∀ g' cap' w',Own w' base e (some ⟨g',0,none⟩) (n+2) cap' (upd (upd d n 0) (n+1) 0)→Below base w w'→wpList Pr ops Q rest (act.put o.dst (.slice (some ⟨g',0,none⟩) (n+2) cap')) w'):wpList Pr ops Q (o :: rest) act w:=by
 obtain ⟨i,hi,hz0,hz1,hz2⟩:=info_parts hinfo;have hlt:∀ k,(Value.slice a n cap).ownBlock=some k→base≤k:=fun k hk=>(World.ownsRow.lt hown k hk).1
 refine wpList_append_lies w hgd s x t ho base e i (.int .u16 0) 1 2 ht hi hz0 hz1 hz2 rfl (by decide) (.slice a n cap) n (kU d n) hs hown ⟨g,0,none⟩ 2 c [.int .u16 0,.int .u16 0] hx rfl ?_ ?_ (by decide) ?_ ?_ hbase _ rfl ?_
 ·intro j u hj
  match j,hj with
  | 0,hj=>simp at hj;subst hj;rw[zEZ];exact hv
  | 1,hj=>simp at hj;subst hj;rw[zEZ];exact hv1
 ·intro u hu;simp at hu;subst hu;rfl
 ·unfold maxLen;omega
 ·omega
 ·intro g' cap' w' hown' hgrow _ _
  rw[← zL2] at hown';exact h _ _ _ hown' ((Below.refl base w).grown hgrow hbase hlt)
theorem or64' (a b c:Int) (ha:0≤a) (ha1:a<65536) (hb:b=65536*c) (hc0:0≤c) (hc1:c<281474976710656):bits .or .u64 a b=a+b:=by
 obtain ⟨A,rfl⟩:=Int.eq_ofNat_of_zero_le ha;obtain ⟨C,rfl⟩:=Int.eq_ofNat_of_zero_le hc0;have h3:=zK7 A (65536*C) C 16 (by omega) (by omega)
 have hb':b=((65536*C:Nat):Int):=by omega
 rw[hb',u64_or_nat A (65536*C) (by omega) (by omega),h3]
 omega
def LongI (A D:Int) (L N J:Nat) (u o:Nat→Int):Prop:=Dgs u∧Dgs o∧A=V u L+D*(P J*Tp o J N)∧Tp u J L<D
theorem zLV {A:Int} {u0 v:Nat→Int} {n1 n2 N:Nat} (hu:Dgs u0) (hv:Dgs v) (hn1:0<n1) (hvt:n1=0∨v (n1-1)≠0) (hA:V u0 n2=A) (hN:N+n1=n2+2) :
  LongI A (V v n1) (n2+2) N N (upd (upd u0 n2 0) (n2+1) 0) (fun _=>0):=by
 have hz:Dgs (upd (upd u0 n2 0) (n2+1) 0):=kQ (kQ hu _ (by omega) (by omega)) _ (by omega) (by omega)
 refine ⟨hz,fun _=>⟨by simp,by simp⟩,?_,?_⟩
 ·rw[zFH,Int.mul_zero,Int.mul_zero,Int.add_zero,← hA]
  show _=V _ n2+_*P n2+_*P (n2+1)
  have e1:V (upd (upd u0 n2 0) (n2+1) 0) n2=V u0 n2:=zBI _ (fun j hj=>by simp only[upd];rw[if_neg (by omega),if_neg (by omega)])
  have e2:upd (upd u0 n2 0) (n2+1) 0 n2=0:=by simp[upd]
  have e3:upd (upd u0 n2 0) (n2+1) 0 (n2+1)=0:=by simp[upd]
  rw[e1,e2,e3];omega
 ·obtain ⟨k,rfl⟩:∃ k,n1=k+1:=⟨n1-1,by omega⟩
  unfold Tp;rw[show n2+2-N=k+1 by omega]
  have h1:=zGU (fun t=>hz (N+t)) k
  have h2:=V_ge hv k (by simpa using hvt)
  have e3:upd (upd u0 n2 0) (n2+1) 0 (N+k)=0:=by rw[show N+k=n2+1 by omega];simp[upd]
  show V _ k+upd (upd u0 n2 0) (n2+1) 0 (N+k)*P k<_
  rw[e3];omega
theorem zG1 {Pr:Program} {ops:Array Oper} {o:Oper} {a:Act} {w:World} {K:Act→World→Prop} {Q:Exit→Act→World→Prop} {E:Prop} (hgd:o.guard=none) (x y:Operand) (t:TypeId)
  (ho:o.op=.call { callee:=.builtin .copy,args:=#[x,y],argTypes:=#[t,t] }) (e:TypeId) (hut:Pr.underlying t=some (.slice e)) (hsz:(Pr.info? e).map (·.size)=some 1)
  (g j L C cd cs:Nat) (sp:Option Addr) (u f:Nat→Int) (hd:a.eval x=.slice (some ⟨g,j,none⟩) (L-j) cd) (hs:a.eval y=.slice sp (L-j) cs) (hown:OwnL w g e L C u) (hf:Dig w sp (L-j) cs f) (hj:j<L)
  (B:Nat) (w0:World) (hb:Below B w0 w) (hBg:B≤g)
  (hK:∀ w',OwnL w' g e L C (zD9 u f j)→Below B w0 w'→(∀ k,k≠g→w'.heap[k]?=w.heap[k]?)→w'.heap.size=w.heap.size→K (a.put o.dst (goInt (kU f (L-j)).length)) w') :
  if Region.wanted o (yielded ops a.tmps)=true then Oper.wp Pr o a w K Q else E:=by
 have hw:Region.wanted o (yielded ops a.tmps)=true:=by simp[Region.wanted,hgd]
 rw[if_pos hw];have hown':=hown;obtain ⟨cur,h1,h2,h3,h4⟩:=hown;obtain ⟨b,off,rfl,hblt,hcells⟩:=hf.at_ (by omega)
 have hrun:=run_copy_row (P:=Pr) w t t o.type e g j (L-j) cd ⟨b,off,none⟩ (L-j) cs cur.toArray e (kU f (L-j)) hut hsz h1 (by rw[yA];simp)
  (fun i v hv=>by
   obtain ⟨q1,q2⟩:=zEO hv
   rw[zEZ,q2];exact hcells i q1) (by rw[yA];simp;omega) (zF1 _ _)
 unfold Oper.wp;simp[execOp,ho,resolve,invoke,builtin,hd,hs,hrun,Result.andThen];refine hK _ (hown'.splice j (by omega) cur h1 ?_) (below_setRow hb hBg _) (fun k hk=>setRow_other w g k _ (by first|exact hk|exact fun e=>hk e.symm)) ?_
 ·simpa [Go.splice] using setRow_heap w g _ _ e _ h1
 ·simp[World.setRow]
theorem Tryz.sizeU16:(Tryz.prog.info? 98).map (·.size)=some 1:=by kernel_rfl
theorem zPL {A D:Int} {L N j:Nat} {u o f:Nat→Int} {q:Int} (hjL:j<L) (hjN:j<N) (hD:0<D) (hA:A=V u L+D*(P (j+1)*Tp o (j+1) N)) (du:Dgs u) (do_:Dgs o) (df:Dgs f) (hq:q=Tp u j L/D) (hq0:0≤q) (hq1:q<65536)
  (hf:V f (L-j)=Tp u j L-D*q):LongI A D L N j (zD9 u f j) (upd o j q):=by
 refine ⟨zPI du df j,kQ do_ j hq0 hq1,div_step hjL hjN hA (by rw[hf,Int.mul_comm D q]),?_⟩
 rw[zKU,hf,hq];have h1:=Int.mul_ediv_add_emod (Tp u j L) D;have h2:=Int.emod_lt_of_pos (Tp u j L) hD;omega
theorem trim_cmp {d e:Nat→Int} (hd:Dgs d) (he:Dgs e) (n m:Nat):zF4 d e (kA d n) (kA e m)=zF (V d n) (V e m):=by
 rw[zHJ hd he _ _ (zBF d n) (zBF e m),zB9,zB9]
theorem field1 (x:Bool) (a:Option Addr) (n c:Nat) (w:World):(Instr.field 26 (.agg #[.bool x,.slice a n c]) 1).run Tryz.prog w=.ok (.slice a n c) w:=by kernel_rfl
theorem zNX (a c : Option Addr) (n m cap cap2 : Nat) (d e : Nat → Int) (w : World) (ha : Dig w a n cap d) (hc : Dig w c m cap2 e) (hn : n ≤ 900000000) (h1 : n = 0 ∨ d (n - 1) ≠ 0) (h2 : m = 0 ∨ e (m - 1) ≠ 0) (hm : 3 < m) (hge : V e m ≤ V d n) :
    Calls Tryz.prog 168 #[.slice a n cap, .slice c m cap2] w (zGM w d e n m) := by
  have hcv := zHJ ha.dgs hc.dgs n m h1 h2
  have hneg : ¬ zF4 d e n m < 0 := by rw [hcv]; unfold zF; rw [if_neg (by omega)]; split <;> omega
  have hm3 : ¬ (m : Int) ≤ 3 := by omega
  have hmr := hc.room
  have hml := hc.le
  have hmn : m ≤ n := zFI hc.dgs h2 (Int.lt_of_le_of_lt hge (zGU ha.dgs n))
  have htop : 0 < e (m - 1) := by have := hc.dgs (m - 1); omega
  have htop2 := (hc.dgs (m - 1)).2
  obtain ⟨b2, o2, rfl, hb2, hc2⟩ := hc.at_ (by omega)
  have hct := hc2 (m - 1) (by omega)
  have hi : ((m : Int) - 1) = ((m - 1 : Nat) : Int) := by omega
  have hfd := field1
  clear hcv hc2
  go_enter Tryz.func168, Tryz.ntmps168
  go_wp2_with (go_at_call 101; refine (kW _ _ _ _ _ _ d e _ ha hc).mono ?_; rintro r w0 ⟨rfl, hb0⟩)
  have g1 : w0.cell? ⟨b2, o2 + (m - 1), none⟩ = some (.int .u16 (e (m - 1))) := (hb0.cell (p := ⟨b2, o2 + (m - 1), none⟩) hb2).trans hct
  go_loop [6] (fun k => ∃ s : Nat, k = .int .i64 s ∧ s ≤ 15 ∧ e (m - 1) * Q s < 65536) (fun k => 16 - (intOf k).toNat)
  case atStart => exact ⟨0, rfl, by omega, by simp [Q]; omega⟩
  case round =>
    obtain ⟨s, rfl, hs, hes⟩ := hrel
    have hq := zG s
    have hmod : IntKind.u16.wrap (e (m - 1) * 2 ^ s) = e (m - 1) * Q s := by
      rw [zAH, zMP]
      have : 0 ≤ e (m - 1) * Q s := Int.mul_nonneg (by omega) (by omega)
      omega
    by_cases hlt : e (m - 1) * Q s < 32768
    · have ht : IntKind.u16.wrap (e (m - 1) * 2 ^ s) < 32768 := by rw [hmod]; exact hlt
      have hs15 : s < 15 := by
        rcases Nat.lt_or_ge s 15 with h | h
        · exact h
        · have h5 := zJ h
          have e15 : Q 15 = 32768 := rfl
          have h6 := Int.mul_le_mul_of_nonneg_right (show 1 ≤ e (m - 1) by omega) (show 0 ≤ Q s by omega)
          omega
      have HN := zC (show e (m - 1) * Q (s + 1) < 65536 by simp only [Q]; rw [Int.mul_left_comm]; omega)
      clear hmod hlt hes
      go_wp2
      go_round
      case rel => exact ⟨s + 1, by go_num, by omega, zA HN⟩
      case measure => simp [intOf]; omega
    · have ht : ¬ IntKind.u16.wrap (e (m - 1) * 2 ^ s) < 32768 := by rw [hmod]; exact hlt
      clear hmod hlt
      have he0 : 0 < V e m := by
        have h5 := V_ge hc.dgs (m - 1) (by omega)
        rw [show m - 1 + 1 = m by omega] at h5
        have := kN (m - 1); omega
      go_wp2_with fail
      refine (up_any false _ m cap2 s e _ (hc.bw hb0) (by omega) (by omega)).mono ?_
      rintro r w1 ⟨neg1, a1, n1, c1, rfl, hZ1, hb1⟩
      obtain ⟨v, rfl, hn1, hv, hvtop, hn1k, hvV⟩ := zJC hZ1 (by simp only [sgn]; exact Int.mul_pos he0 (by omega))
      obtain ⟨k1, rfl⟩ : ∃ k1, n1 = k1 + 1 := ⟨n1 - 1, by omega⟩
      have HV := zC (show V v (k1 + 1) = V e m * Q s from hvV.symm)
      have hB1 := zB hb0 hb1
      clear hZ1 hvV g1 ht
      go_wp2_with fail
      refine (up_own false _ n cap s d _ (ha.bw hB1) (by omega) (by omega)).mono ?_
      rintro r w2 ⟨g0, n2, C2, u0, neg2, rfl, hown, hu0, hu0top, hu0V, hn2k, hb2'⟩
      have hn12 : k1 + 1 ≤ n2 := by
        refine zFI hv.dgs hvtop ?_
        rw [zA HV]
        have h5 : V e m * Q s ≤ V d n * Q s := Int.mul_le_mul_of_nonneg_right hge (by omega)
        have h6 := zGU hu0 n2
        rw [hu0V] at h6
        omega
      have hn2b : n2 ≤ 900000100 := by omega
      have HU0 := zC hu0V
      obtain ⟨N, hN⟩ : ∃ N : Nat, (n2 : Int) + 2 - ((k1 : Int) + 1) = (N : Int) := ⟨n2 + 2 - (k1 + 1), by omega⟩
      have HNn := zC (show N + (k1 + 1) = n2 + 2 by omega)
      have hN1 : 0 < N := by omega
      have hsz2 := hb2'.size
      clear hu0V hes
      have hmk := run_make_row' (P := Tryz.prog) 24 98 (.int .u16 0) 2 Tryz.underlying24 Tryz.infoU16 rfl .i64 .i64 N (by omega) (by omega)
      go_wp2_with (at_builtin; refine zDV _ rfl _ _ 24 rfl w1.heap.size 98 Tryz.underlying24 Tryz.infoU16 (some ⟨g0, 0, none⟩) n2 C2 u0 rfl (hown.alloc _) w2.heap.size 2 rfl (by simp [go_sem]) (by simp [go_sem]) (by omega) (by simp; omega) ?_; intro g C w3 hown3 hb3)
      clear hmk hown
      have HN := zC hN
      clear hN
      obtain ⟨hOL, hbg⟩ := ownL_of hown3
      have hB3 : Below w1.heap.size w1 w3 := (hb2'.alloc hsz2 _).trans hb3
      have hg3 := hOL.lt
      have hsz3 := hB3.size
      obtain ⟨bv, ov, rfl, hbv, hcv⟩ := hv.at_ hn1
      have hvt := hcv k1 (by omega)
      have HI := zC (zLV hu0 hv.dgs hn1 hvtop (zA HU0) (zA HNn))
      clear hcv hown3 hb3 hb2'
      go_loopw [11] (fun jj wr => ∃ (J : Nat) (u o : Nat → Int), J ≤ N ∧ jj = .int .i64 ((J : Int) - 1) ∧ OwnL wr g 98 (n2 + 2) C u ∧ wr.rowIs w3.heap.size 98 N (fun j => .int .u16 (o j)) ∧ LongI (V d n * Q s) (V v (k1 + 1)) (n2 + 2) N J u o ∧ Below w1.heap.size w1 wr) (fun jj _ => (intOf jj + 1).toNat)
      case atStart => exact ⟨N, _, fun _ => 0, Nat.le_refl _, rfl, hOL.bw (bl1 _ _), World.rowIs_made w3 (.int .u16 0) N 98, zA HI, hB3.alloc hsz3 _⟩
      case round =>
        obtain ⟨J, u, o, hJ, rfl, hu, hrow, hI, hBr⟩ := hrel
        have hNn := zA HNn
        by_cases hJ0 : J = 0
        · subst hJ0
          obtain ⟨du, do_, hA, hT⟩ := hI
          have huD := hu.dig du 0 (by omega) (by omega)
          simp only [Nat.sub_zero, Nat.zero_add] at huD
          have huD2 : Dig wr (some ⟨g, 0, none⟩) (n2 + 2) C u := huD
          have hrowD := zDZ hrow do_ (by omega)
          have HA := zC hA
          have HT := zC hT
          clear hA hT hrow hu
          go_wp2_with (first
            | (go_at_call 125; refine (zAZ _ _ _ _ u _ huD2).mono ?_; rintro r w5 ⟨neg5, a5, n5, c5, rfl, hZ5, hb5⟩)
            | (go_at_call 105; refine (zA2 _ _ _ _ s (n2 + 2) _ _ hZ5 (by omega) (by omega)).mono ?_; rintro r w6 ⟨neg6, a6, n6, c6, rfl, hZ6, hb6⟩))
          go_ret2
          obtain ⟨z6, p1, p2, p3, p4, p5⟩ := hZ6
          simp only [sgn] at p5
          have hQ := zG s
          have f0 := zA HA
          have f1 := zA HT
          have f2 := zA HV
          rw [zCH] at f1
          rw [zCH, show P 0 = 1 from rfl, Int.one_mul, f2] at f0
          rw [f2] at f1
          have f3 : V u (n2 + 2) = Q s * (V d n - V o N * V e m) := by
            rw [Int.mul_sub, Int.mul_comm (Q s) (V d n), f0]
            have : V e m * Q s * V o N = Q s * (V o N * V e m) := by rw [Int.mul_comm (V e m), Int.mul_assoc, Int.mul_comm (V e m)]
            omega
          have hu9 := jB du (n2 + 2)
          obtain ⟨R, hR⟩ : ∃ R, R = V d n - V o N * V e m := ⟨_, rfl⟩
          rw [← hR] at f3
          have f4 : V u (n2 + 2) / Q s = R := by rw [f3, Int.mul_ediv_cancel_left _ (by omega)]
          have hR0 : 0 ≤ R := by
            rcases Int.lt_or_le R 0 with h5 | h5
            · have h6 := Int.mul_le_mul_of_nonneg_left (show R ≤ -1 by omega) (show 0 ≤ Q s by omega)
              omega
            · exact h5
          have hR1 : R < V e m := by
            rcases Int.lt_or_le R (V e m) with h5 | h5
            · exact h5
            · have h6 := Int.mul_le_mul_of_nonneg_left h5 (show 0 ≤ Q s by omega)
              rw [Int.mul_comm (Q s) (V e m)] at h6
              omega
          have hz0 := jB p1.dgs n6
          have hpos : 0 < n6 → 1 ≤ V z6 n6 := fun h5 => by
            have h6 := V_ge p1.dgs (n6 - 1) (by omega)
            rw [show n6 - 1 + 1 = n6 by omega] at h6
            have := kN (n6 - 1); omega
          have hz : V z6 n6 = R ∧ (0 < n6 ↔ R ≠ 0) := by
            have hn0 : n6 = 0 → V z6 n6 = 0 := fun h5 => by rw [h5]; rfl
            rw [show (if false = true then -V u (n2 + 2) else V u (n2 + 2)) = V u (n2 + 2) from rfl, f4] at p5
            cases neg6
            · have h5 : R = V z6 n6 := p5
              refine ⟨h5.symm, fun h6 => by have := hpos h6; omega, fun h6 => ?_⟩
              rcases Nat.eq_zero_or_pos n6 with h7 | h7
              · have := hn0 h7; omega
              · exact h7
            · have h5 : R = -V z6 n6 := p5
              rcases Nat.eq_zero_or_pos n6 with h7 | h7
              · have := p3 h7; cases this
              · have := hpos h7; omega
          have hn6 : n6 ≤ n := zFI p1.dgs p2 (by rw [hz.1]; have := zGU ha.dgs n; omega)
          have hs16 : s / 16 = 0 := by omega
          exact ⟨_, N, N, o, a6, n6, c6, R, rfl, hrowD.bw (zB hb5 hb6), by omega, hz.2, by omega, by rw [hR]; omega, hR0, hR1, zB (zB (hB1.trans (hBr.mono hB1.size)) hb5) hb6⟩
        · obtain ⟨j, rfl⟩ : ∃ j, J = j + 1 := ⟨J - 1, by omega⟩
          have e0 : ((j + 1 : Nat) : Int) - 1 = (j : Int) := by omega
          rw [e0]
          obtain ⟨du, do_, hA, hT⟩ := hI
          have y1 := hu.cell (show j + k1 < n2 + 2 by omega)
          have y2 := hu.cell (show j + (k1 + 1) < n2 + 2 by omega)
          have y3 : wr.cell? ⟨bv, ov + k1, none⟩ = some (.int .u16 (v k1)) := (hBr.cell (p := ⟨bv, ov + k1, none⟩) hbv).trans hvt
          have i4 : (j : Int) + ((k1 : Int) + 1) < (n2 : Int) + 2 := by omega
          have i5 : (j : Int) + (k1 : Int) < (n2 : Int) + 2 := by omega
          have b1 := du (j + k1)
          have b2 := du (j + (k1 + 1))
          have b3 := hv.dgs k1
          have b4 : 0 < v k1 := by have h9 : v k1 ≠ 0 := by simpa using hvtop
                                   omega
          clear e0
          have hL9 : n2 + 2 ≤ 1000000000 := by omega
          have hCge : n2 + 2 ≤ C := by obtain ⟨_, _, _, h3, _⟩ := hu; exact h3
          have hD : 0 < V v (k1 + 1) := by have := zAD du (j + 1) (n2 + 2); omega
          obtain ⟨qs, hqs⟩ : ∃ qs, qs = Tp u j (n2 + 2) / V v (k1 + 1) := ⟨_, rfl⟩
          have hqs0 : 0 ≤ qs := by rw [hqs]; exact Int.ediv_nonneg (zAD du _ _) (by omega)
          have hqm : qs * V v (k1 + 1) ≤ Tp u j (n2 + 2) := by rw [hqs]; exact Int.ediv_mul_le _ (by omega)
          obtain ⟨hh1, hh2⟩ := div_hat du hv.dgs (show 0 < k1 + 1 by omega) (show j + (k1 + 1) < n2 + 2 by omega) hT qs hqm hqs0
          rw [show j + (k1 + 1) - 1 = j + k1 by omega, show k1 + 1 - 1 = k1 by omega] at hh1
          have hor : bits BinOp.or IntKind.u64 (u (j + k1)) (u (j + (k1 + 1)) * 65536) = u (j + (k1 + 1)) * 65536 + u (j + k1) := by
            rw [or64' _ _ (u (j + (k1 + 1))) b1.1 b1.2 (by omega) b2.1 (by omega)]; omega
          have HX := zC (show IntKind.u64.wrap ((bits BinOp.or IntKind.u64 (u (j + k1)) (u (j + (k1 + 1)) * 65536)).tdiv (v k1)) = (u (j + (k1 + 1)) * 65536 + u (j + k1)) / v k1 by
            rw [hor, Int.tdiv_eq_ediv_of_nonneg (by omega), IntKind.wrap_u64]
            have g5 : 0 ≤ (u (j + (k1 + 1)) * 65536 + u (j + k1)) / v k1 := Int.ediv_nonneg (by omega) (by omega)
            have g6 : (u (j + (k1 + 1)) * 65536 + u (j + k1)) / v k1 ≤ u (j + (k1 + 1)) * 65536 + u (j + k1) := Int.ediv_le_self _ (by omega)
            omega)
          have HX2 := zC (show qs ≤ (u (j + (k1 + 1)) * 65536 + u (j + k1)) / v k1 from Int.le_ediv_of_mul_le b4 hh1)
          have HQ := zC hqs
          have HA := zC hA
          have HT := zC hT
          have HM := zC hqm
          clear hor hA hT hqs hqm hh1
          go_wp2_with fail
          all_goals
            go_loopw [13, 14] (fun q x wq => ∃ Y : Int, q = .int .u64 Y ∧ qs ≤ Y ∧ Y ≤ 65535 ∧ OwnL wq g 98 (n2 + 2) C u ∧ wq.rowIs w3.heap.size 98 N (fun j => .int .u16 (o j)) ∧ Below w1.heap.size w1 wq) (fun q _ _ => (intOf q).toNat)
            case atStart =>
              first
                | exact ⟨65535, rfl, by omega, Int.le_refl _, hu, hrow, hBr⟩
                | exact ⟨_, rfl, by rw [zA HX]; exact zA HX2, by assumption, hu, hrow, hBr⟩
            case round =>
              obtain ⟨Y, rfl, hY0, hY1, huq, hrowq, hBq⟩ := hrel
              have hYn : 0 ≤ Y := by omega
              have j1 : (j : Int) ≤ (n2 : Int) + 2 := by omega
              have j2 : (n2 : Int) + 2 ≤ (C : Int) := by omega
              have j3 : j < C := by omega
              have hvq := hv.bw hBq
              have huD := huq.dig du j (by omega) (by omega)
              have dT := zGB hv.dgs (q := Y) ⟨hYn, by omega⟩ (k1 + 1)
              have dU : Dgs (fun i => u (j + i)) := fun i => du _
              have vT := times_V v Y (k1 + 1)
              have hcmp := trim_cmp dT dU (k1 + 1 + 1) (n2 + 2 - j)
              have eU : V (fun i => u (j + i)) (n2 + 2 - j) = Tp u j (n2 + 2) := rfl
              rw [vT, eU] at hcmp
              by_cases hle : V v (k1 + 1) * Y ≤ Tp u j (n2 + 2)
              · have t1 : zF (V v (k1 + 1) * Y) (Tp u j (n2 + 2)) ≤ 0 := by unfold zF; split <;> (try split) <;> omega
                have hYq : Y = qs := by
                  have h5 : Y ≤ Tp u j (n2 + 2) / V v (k1 + 1) := Int.le_ediv_of_mul_le hD (by rw [Int.mul_comm]; exact hle)
                  rw [← zA HQ] at h5; omega
                have hm9 : kA (kL v Y (k1 + 1)) (k1 + 1 + 1) ≤ n2 + 2 - j := by
                  refine zFI dT (zBF _ _) ?_
                  rw [zB9, vT]
                  have := Tp_lt du j (n2 + 2); omega
                have HF := zC (show V (zAX (fun i => u (j + i)) (kL v Y (k1 + 1)) (kA (kL v Y (k1 + 1)) (k1 + 1 + 1))) (n2 + 2 - j) = Tp u j (n2 + 2) - V v (k1 + 1) * Y by
                  rw [zPG dU dT _ _ hm9 (by rw [zB9, vT, eU]; exact hle), zB9, vT, eU])
                have dF := zE5 dU dT (kA (kL v Y (k1 + 1)) (k1 + 1 + 1))
                have HCM := zC hcmp
                have HYQ := zC hYq
                clear hcmp vT eU hYq
                go_wp2_with fail
                refine (zH5 (some ⟨bv, ov, none⟩) (k1 + 1) c1 v Y _ hvq (by omega) hYn (by omega)).mono ?_
                rintro r wt ⟨at_, rfl, hdt, hbt⟩
                have hBt := hBq.trans (hbt.mono hBq.size)
                have huDt := huD.bw hbt
                have hB0 : Below wt.heap.size wt wt.drew := (Below.refl _ _).drew
                have tl := zA3 (kL v Y (k1 + 1)) (k1 + 1 + 1)
                have tl2 := zA3 (fun i => u (j + i)) (n2 + 2 - j)
                go_wp2_with fail
                go_region_held3 (fun _ => True) (trivial)
                  (first
                    | (go_at_call 101; refine (kW _ _ _ _ _ _ (kL v Y (k1 + 1)) (fun i => u (j + i)) _ ((hdt.take tl).bw hD2) ((huDt.take tl2).bw hD2)).mono ?_; rintro r wc3 ⟨rfl, hb3⟩; have hD3 := zB hD2 hb3; rw [zA HCM])
                    | (go_at_call 170; have hq := hD1; refine (kZ _ _ _ (fun i => u (j + i)) _ (huDt.bw hD1)).mono ?_; rintro r wc2 ⟨rfl, hb2⟩; have hD2 := zB hD1 hb2)
                    | (go_at_call 170; refine (kZ _ _ _ (kL v Y (k1 + 1)) _ (hdt.bw hB0)).mono ?_; rintro r wc1 ⟨rfl, hb1⟩; have hD1 := zB hB0 hb1))
                have hBc := hBt.trans (hD3.mono hBt.size)
                have huc := (huq.bw hbt).bw hD3
                have hrowc : wc3.rowIs w3.heap.size 98 N (fun j => .int .u16 (o j)) := (hrowq.of_block (hbt.block _ hrowq.lt)).of_block (hD3.block _ (Nat.lt_of_lt_of_le hrowq.lt hbt.size))
                have hdtc := hdt.bw hD3
                have huDc := huDt.bw hD3
                have hE0 : Below wc3.heap.size wc3 wc3.drew := (Below.refl _ _).drew
                clear hb1 hb2 hb3 hD1 hD2 hD3 hB0
                go_wp2
                go_region_held3 (fun _ => True) (trivial)
                  (first
                    | (go_at_call 170; refine (kZ _ _ _ (kL v Y (k1 + 1)) _ (hdtc.bw hE0)).mono ?_; rintro r wc4 ⟨rfl, hb4⟩; have hE4 := zB hE0 hb4)
                    | (go_at_call 127; refine (zG9 _ _ (n2 + 2 - j) _ _ _ (fun i => u (j + i)) (kL v Y (k1 + 1)) _ (huDc.bw hE4) ((hdtc.take tl).bw hE4) (by omega) (by omega)).mono ?_; rintro r wc5 ⟨a5, rfl, hd5, hb5⟩; have hE5 := zB hE4 hb5; have hu5 := huc.bw hE5; have hB5 := hBc.trans (hE5.mono hBc.size))
                    | (refine zG1 (by rfl) _ _ 24 (by rfl) 98 Tryz.underlying24 Tryz.sizeU16 g j (n2 + 2) C _ _ _ u _ (by rfl) (by rfl) hu5 hd5 (by omega) w1.heap.size w1 hB5 hbg ?_; intro w6 hu6 hB6 ho6 hs6))
                have hrow6 : w6.rowIs w3.heap.size 98 N (fun j => .int .u16 (o j)) := (hrowc.of_block (hE5.block _ hrowc.lt)).of_block (ho6 _ (Nat.ne_of_gt hg3))
                have r1 := hrow6.cell (show j < N by omega)
                have r2 := hrow6.frozen j
                have jN : (j : Int) < (N : Int) := by omega
                have hW16 : IntKind.u16.wrap Y = Y := by rw [zAH]; omega
                have HLN := zC (zPL (show j < n2 + 2 by omega) (show j < N by omega) hD (zA HA) du do_ dF ((zA HYQ).trans (zA HQ)) hYn (by omega) (zA HF))
                have HR6 := zC hrow6
                clear hrow6 hrowc hu5 hd5 hb5 hE5 hE4 hb4 hE0 hrowq huq huc ho6
                go_wp2
                go_roundw
                case rel => exact ⟨j, _, _, by omega, by go_num, hu6.of_block (Go.Deep.blk_setCell_other _ _ _ _ (Nat.ne_of_lt hg3)), zB7 (zA HR6) j (by first | rfl | exact hW16), zA HLN, hB6.setCell hsz3 _⟩
                case measure => simp [intOf]; try omega
              · have t1 : ¬ zF (V v (k1 + 1) * Y) (Tp u j (n2 + 2)) ≤ 0 := by
                  unfold zF; rw [if_neg (by omega), if_pos (by omega)]; omega
                have hYq : qs < Y := by
                  rcases Int.lt_or_le qs Y with h5 | h5
                  · exact h5
                  · have h6 := Int.mul_le_mul_of_nonneg_right h5 (show 0 ≤ V v (k1 + 1) by omega)
                    have h7 := zA HM
                    rw [Int.mul_comm Y] at h6; omega
                have HCM := zC hcmp
                clear hcmp vT eU
                go_wp2_with fail
                refine (zH5 (some ⟨bv, ov, none⟩) (k1 + 1) c1 v Y _ hvq (by omega) hYn (by omega)).mono ?_
                rintro r wt ⟨at_, rfl, hdt, hbt⟩
                have hBt := hBq.trans (hbt.mono hBq.size)
                have huDt := huD.bw hbt
                have hB0 : Below wt.heap.size wt wt.drew := (Below.refl _ _).drew
                have tl := zA3 (kL v Y (k1 + 1)) (k1 + 1 + 1)
                have tl2 := zA3 (fun i => u (j + i)) (n2 + 2 - j)
                go_wp2_with fail
                go_region_held3 (fun _ => True) (trivial)
                  (first
                    | (go_at_call 101; refine (kW _ _ _ _ _ _ (kL v Y (k1 + 1)) (fun i => u (j + i)) _ ((hdt.take tl).bw hD2) ((huDt.take tl2).bw hD2)).mono ?_; rintro r wc3 ⟨rfl, hb3⟩; have hD3 := zB hD2 hb3; rw [zA HCM])
                    | (go_at_call 170; have hq := hD1; refine (kZ _ _ _ (fun i => u (j + i)) _ (huDt.bw hD1)).mono ?_; rintro r wc2 ⟨rfl, hb2⟩; have hD2 := zB hD1 hb2)
                    | (go_at_call 170; refine (kZ _ _ _ (kL v Y (k1 + 1)) _ (hdt.bw hB0)).mono ?_; rintro r wc1 ⟨rfl, hb1⟩; have hD1 := zB hB0 hb1))
                have hBc := hBt.trans (hD3.mono hBt.size)
                have huc := (huq.bw hbt).bw hD3
                have hrowc : wc3.rowIs w3.heap.size 98 N (fun j => .int .u16 (o j)) := (hrowq.of_block (hbt.block _ hrowq.lt)).of_block (hD3.block _ (Nat.lt_of_lt_of_le hrowq.lt hbt.size))
                clear hb1 hb2 hb3 hD1 hD2 hD3 hB0
                go_wp2
                go_roundw
                case rel => exact ⟨Y - 1, by go_num, by omega, by omega, huc, hrowc, hBc⟩
                case measure => simp [intOf]; try omega
end Go.Proofs.YtgmnknmjainababGreat
