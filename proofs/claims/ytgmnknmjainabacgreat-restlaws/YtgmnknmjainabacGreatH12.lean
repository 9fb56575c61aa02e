/-
  Its own texts.
-/
import Derived.Test.YtgmnknmjainabacGreatH11
set_option maxRecDepth 100000
set_option maxHeartbeats 40000000
set_option linter.unnecessarySimpa false
set_option linter.unusedSimpArgs false
set_option linter.unusedVariables false
namespace Go.Proofs.YtgmnknmjainabacGreat
open Go.RowKit
attribute [local go_sem ↓] Go.wp_at_zero Go.wp_at_succ
def zPS (k p q r s n b:Int):Int :=
 if yO k p q r s≠0 then yO k p q r s else if k<6 then 6 else if b<8\/120<b\/n < -1048576\/1048576<n then 3 else if k=7/\100<n then 2 else 0
theorem law_k {k p q r s:Int} (h:yO k p q r s=0):1<=k/\k<=7:=by
 unfold yO at h;split at h
 ·omega
 ·omega
theorem zIJ (k p q r s n b:Int) (w:World) (h0:yO k p q r s≠0) :
  Calls Tryz.prog 54 #[.agg #[.int .i64 k,.int .i64 p,.int .i64 q,.int .i64 r,.int .i64 s],.int .i64 n,.int .i64 b] w λ z w'=>z=.returned (.int .i64 (yO k p q r s))/\Below w.heap.size w w':=by
 go_enter Tryz.func54,Tryz.ntmps54
 go_wp2_with fail;refine (jV k p q r s _).mono ?_;rintro r' w1 ⟨rfl,b9⟩;have h1:(yO k p q r s != 0)=true:=by simpa using h0
 go_wp2_with fail
 go_ret
 exact⟨rfl,zB (bl1 _ _) b9⟩
theorem zGW (k p q r s n b:Int) (w:World) (h0:yO k p q r s=0) (hk:k<6) :
  Calls Tryz.prog 54 #[.agg #[.int .i64 k,.int .i64 p,.int .i64 q,.int .i64 r,.int .i64 s],.int .i64 n,.int .i64 b] w λ z w'=>z=.returned (.int .i64 6)/\Below w.heap.size w w':=by
 obtain⟨k1,k7⟩:=law_k h0;have g1:(k != 6)=true:=by simpa using (show ¬ k=6 by omega)
 have g2:(k != 7)=true:=by simpa using (show ¬ k=7 by omega)
 go_enter Tryz.func54,Tryz.ntmps54
 go_wp2_with fail;refine (jV k p q r s _).mono ?_;rintro r' w1 ⟨rfl,b9⟩;have C:LwC w1 w.heap.size k p q r s:=(yB w k p q r s _).bw b9;have hB:Below w.heap.size w w1:=zB (bl1 _ _) b9;have lC:=C.lt;obtain⟨x0,x1,x2,x3,x4⟩:=C;clear b9;rw[h0];clear h0;go_wp2_with fail
 go_ret
 exact⟨rfl,hB⟩
theorem zIM (p q r s n b:Int) (w:World) (h0:yO 6 p q r s=0) (h:b<8) :
  Calls Tryz.prog 54 #[.agg #[.int .i64 6,.int .i64 p,.int .i64 q,.int .i64 r,.int .i64 s],.int .i64 n,.int .i64 b] w λ z w'=>z=.returned (.int .i64 3)/\Below w.heap.size w w':=by
 go_enter Tryz.func54,Tryz.ntmps54
 go_wp2_with fail;refine (jV 6 p q r s _).mono ?_;rintro r' w1 ⟨rfl,b9⟩;have C:LwC w1 w.heap.size 6 p q r s:=(yB w 6 p q r s _).bw b9;have hB:Below w.heap.size w w1:=zB (bl1 _ _) b9;have lC:=C.lt;obtain⟨x0,x1,x2,x3,x4⟩:=C;clear b9;rw[h0];clear h0;go_wp2_with fail
 go_ret
 exact⟨rfl,hB⟩
theorem zIN (p q r s n b:Int) (w:World) (h0:yO 6 p q r s=0) (h1:¬ b<8) (h:120<b) :
  Calls Tryz.prog 54 #[.agg #[.int .i64 6,.int .i64 p,.int .i64 q,.int .i64 r,.int .i64 s],.int .i64 n,.int .i64 b] w λ z w'=>z=.returned (.int .i64 3)/\Below w.heap.size w w':=by
 go_enter Tryz.func54,Tryz.ntmps54
 go_wp2_with fail;refine (jV 6 p q r s _).mono ?_;rintro r' w1 ⟨rfl,b9⟩;have C:LwC w1 w.heap.size 6 p q r s:=(yB w 6 p q r s _).bw b9;have hB:Below w.heap.size w w1:=zB (bl1 _ _) b9;have lC:=C.lt;obtain⟨x0,x1,x2,x3,x4⟩:=C;clear b9;rw[h0];clear h0;go_wp2_with fail
 go_ret
 exact⟨rfl,hB⟩
theorem zIO (p q r s n b:Int) (w:World) (h0:yO 6 p q r s=0) (h1:¬ b<8) (h2:¬ 120<b) (h:n < -1048576) :
  Calls Tryz.prog 54 #[.agg #[.int .i64 6,.int .i64 p,.int .i64 q,.int .i64 r,.int .i64 s],.int .i64 n,.int .i64 b] w λ z w'=>z=.returned (.int .i64 3)/\Below w.heap.size w w':=by
 go_enter Tryz.func54,Tryz.ntmps54
 go_wp2_with fail;refine (jV 6 p q r s _).mono ?_;rintro r' w1 ⟨rfl,b9⟩;have C:LwC w1 w.heap.size 6 p q r s:=(yB w 6 p q r s _).bw b9;have hB:Below w.heap.size w w1:=zB (bl1 _ _) b9;have lC:=C.lt;obtain⟨x0,x1,x2,x3,x4⟩:=C;clear b9;rw[h0];clear h0;go_wp2_with fail
 go_ret
 exact⟨rfl,hB⟩
theorem zIP (p q r s n b:Int) (w:World) (h0:yO 6 p q r s=0) (h1:¬ b<8) (h2:¬ 120<b) (h3:¬ n < -1048576) (h:1048576<n) :
  Calls Tryz.prog 54 #[.agg #[.int .i64 6,.int .i64 p,.int .i64 q,.int .i64 r,.int .i64 s],.int .i64 n,.int .i64 b] w λ z w'=>z=.returned (.int .i64 3)/\Below w.heap.size w w':=by
 go_enter Tryz.func54,Tryz.ntmps54
 go_wp2_with fail;refine (jV 6 p q r s _).mono ?_;rintro r' w1 ⟨rfl,b9⟩;have C:LwC w1 w.heap.size 6 p q r s:=(yB w 6 p q r s _).bw b9;have hB:Below w.heap.size w w1:=zB (bl1 _ _) b9;have lC:=C.lt;obtain⟨x0,x1,x2,x3,x4⟩:=C;clear b9;rw[h0];clear h0;go_wp2_with fail
 go_ret
 exact⟨rfl,hB⟩
theorem zIK (p q r s n b:Int) (w:World) (h0:yO 6 p q r s=0) (h1:¬ b<8) (h2:¬ 120<b) (h3:¬ n < -1048576) (h4:¬ 1048576<n) :
  Calls Tryz.prog 54 #[.agg #[.int .i64 6,.int .i64 p,.int .i64 q,.int .i64 r,.int .i64 s],.int .i64 n,.int .i64 b] w λ z w'=>z=.returned (.int .i64 0)/\Below w.heap.size w w':=by
 go_enter Tryz.func54,Tryz.ntmps54
 go_wp2_with fail;refine (jV 6 p q r s _).mono ?_;rintro r' w1 ⟨rfl,b9⟩;have C:LwC w1 w.heap.size 6 p q r s:=(yB w 6 p q r s _).bw b9;have hB:Below w.heap.size w w1:=zB (bl1 _ _) b9;have lC:=C.lt;obtain⟨x0,x1,x2,x3,x4⟩:=C;clear b9;rw[h0];clear h0;go_wp2_with fail
 go_ret
 exact⟨rfl,hB⟩
theorem zIQ (p q r s n b:Int) (w:World) (h0:yO 7 p q r s=0) (h:b<8) :
  Calls Tryz.prog 54 #[.agg #[.int .i64 7,.int .i64 p,.int .i64 q,.int .i64 r,.int .i64 s],.int .i64 n,.int .i64 b] w λ z w'=>z=.returned (.int .i64 3)/\Below w.heap.size w w':=by
 go_enter Tryz.func54,Tryz.ntmps54
 go_wp2_with fail;refine (jV 7 p q r s _).mono ?_;rintro r' w1 ⟨rfl,b9⟩;have C:LwC w1 w.heap.size 7 p q r s:=(yB w 7 p q r s _).bw b9;have hB:Below w.heap.size w w1:=zB (bl1 _ _) b9;have lC:=C.lt;obtain⟨x0,x1,x2,x3,x4⟩:=C;clear b9;rw[h0];clear h0;go_wp2_with fail
 go_ret
 exact⟨rfl,hB⟩
theorem zIR (p q r s n b:Int) (w:World) (h0:yO 7 p q r s=0) (h1:¬ b<8) (h:120<b) :
  Calls Tryz.prog 54 #[.agg #[.int .i64 7,.int .i64 p,.int .i64 q,.int .i64 r,.int .i64 s],.int .i64 n,.int .i64 b] w λ z w'=>z=.returned (.int .i64 3)/\Below w.heap.size w w':=by
 go_enter Tryz.func54,Tryz.ntmps54
 go_wp2_with fail;refine (jV 7 p q r s _).mono ?_;rintro r' w1 ⟨rfl,b9⟩;have C:LwC w1 w.heap.size 7 p q r s:=(yB w 7 p q r s _).bw b9;have hB:Below w.heap.size w w1:=zB (bl1 _ _) b9;have lC:=C.lt;obtain⟨x0,x1,x2,x3,x4⟩:=C;clear b9;rw[h0];clear h0;go_wp2_with fail
 go_ret
 exact⟨rfl,hB⟩
theorem zIS (p q r s n b:Int) (w:World) (h0:yO 7 p q r s=0) (h1:¬ b<8) (h2:¬ 120<b) (h:n < -1048576) :
  Calls Tryz.prog 54 #[.agg #[.int .i64 7,.int .i64 p,.int .i64 q,.int .i64 r,.int .i64 s],.int .i64 n,.int .i64 b] w λ z w'=>z=.returned (.int .i64 3)/\Below w.heap.size w w':=by
 go_enter Tryz.func54,Tryz.ntmps54
 go_wp2_with fail;refine (jV 7 p q r s _).mono ?_;rintro r' w1 ⟨rfl,b9⟩;have C:LwC w1 w.heap.size 7 p q r s:=(yB w 7 p q r s _).bw b9;have hB:Below w.heap.size w w1:=zB (bl1 _ _) b9;have lC:=C.lt;obtain⟨x0,x1,x2,x3,x4⟩:=C;clear b9;rw[h0];clear h0;go_wp2_with fail
 go_ret
 exact⟨rfl,hB⟩
theorem zIT (p q r s n b:Int) (w:World) (h0:yO 7 p q r s=0) (h1:¬ b<8) (h2:¬ 120<b) (h3:¬ n < -1048576) (h:1048576<n) :
  Calls Tryz.prog 54 #[.agg #[.int .i64 7,.int .i64 p,.int .i64 q,.int .i64 r,.int .i64 s],.int .i64 n,.int .i64 b] w λ z w'=>z=.returned (.int .i64 3)/\Below w.heap.size w w':=by
 go_enter Tryz.func54,Tryz.ntmps54
 go_wp2_with fail;refine (jV 7 p q r s _).mono ?_;rintro r' w1 ⟨rfl,b9⟩;have C:LwC w1 w.heap.size 7 p q r s:=(yB w 7 p q r s _).bw b9;have hB:Below w.heap.size w w1:=zB (bl1 _ _) b9;have lC:=C.lt;obtain⟨x0,x1,x2,x3,x4⟩:=C;clear b9;rw[h0];clear h0;go_wp2_with fail
 go_ret
 exact⟨rfl,hB⟩
theorem zJ6 (p q r s n b:Int) (w:World) (h0:yO 7 p q r s=0) (h1:¬ b<8) (h2:¬ 120<b) (h3:¬ n < -1048576) (h4:¬ 1048576<n) (h:100<n) :
  Calls Tryz.prog 54 #[.agg #[.int .i64 7,.int .i64 p,.int .i64 q,.int .i64 r,.int .i64 s],.int .i64 n,.int .i64 b] w λ z w'=>z=.returned (.int .i64 2)/\Below w.heap.size w w':=by
 go_enter Tryz.func54,Tryz.ntmps54
 go_wp2_with fail;refine (jV 7 p q r s _).mono ?_;rintro r' w1 ⟨rfl,b9⟩;have C:LwC w1 w.heap.size 7 p q r s:=(yB w 7 p q r s _).bw b9;have hB:Below w.heap.size w w1:=zB (bl1 _ _) b9;have lC:=C.lt;obtain⟨x0,x1,x2,x3,x4⟩:=C;clear b9;rw[h0];clear h0;go_wp2_with fail
 go_ret
 exact⟨rfl,hB⟩
theorem zIL (p q r s n b:Int) (w:World) (h0:yO 7 p q r s=0) (h1:¬ b<8) (h2:¬ 120<b) (h3:¬ n < -1048576) (h4:¬ 1048576<n) (h:¬ 100<n) :
  Calls Tryz.prog 54 #[.agg #[.int .i64 7,.int .i64 p,.int .i64 q,.int .i64 r,.int .i64 s],.int .i64 n,.int .i64 b] w λ z w'=>z=.returned (.int .i64 0)/\Below w.heap.size w w':=by
 go_enter Tryz.func54,Tryz.ntmps54
 go_wp2_with fail;refine (jV 7 p q r s _).mono ?_;rintro r' w1 ⟨rfl,b9⟩;have C:LwC w1 w.heap.size 7 p q r s:=(yB w 7 p q r s _).bw b9;have hB:Below w.heap.size w w1:=zB (bl1 _ _) b9;have lC:=C.lt;obtain⟨x0,x1,x2,x3,x4⟩:=C;clear b9;rw[h0];clear h0;go_wp2_with fail
 go_ret
 exact⟨rfl,hB⟩
theorem zEE (k p q r s n b:Int) (w:World) :
  Calls Tryz.prog 54 #[.agg #[.int .i64 k,.int .i64 p,.int .i64 q,.int .i64 r,.int .i64 s],.int .i64 n,.int .i64 b] w λ z w'=>z=.returned (.int .i64 (zPS k p q r s n b))/\Below w.heap.size w w':=by
 unfold zPS
 by_cases h0:yO k p q r s=0
 ·rw[if_neg (by simpa using h0)]
  obtain⟨k1,k7⟩:=law_k h0
  by_cases hk:k<6
  ·rw[if_pos hk];exact zGW k p q r s n b w h0 hk
  ·rw[if_neg hk]
   have cH:k=6\/k=7:=by omega
   by_cases g1:b<8
   ·rw[if_pos (Or.inl g1)]
    rcases cH with h|h
    ·subst h;exact zIM p q r s n b w h0 g1
    ·subst h;exact zIQ p q r s n b w h0 g1
   by_cases g2:120<b
   ·rw[if_pos (Or.inr (Or.inl g2))]
    rcases cH with h|h
    ·subst h;exact zIN p q r s n b w h0 g1 g2
    ·subst h;exact zIR p q r s n b w h0 g1 g2
   by_cases g3:n < -1048576
   ·rw[if_pos (Or.inr (Or.inr (Or.inl g3)))]
    rcases cH with h|h
    ·subst h;exact zIO p q r s n b w h0 g1 g2 g3
    ·subst h;exact zIS p q r s n b w h0 g1 g2 g3
   by_cases g4:1048576<n
   ·rw[if_pos (Or.inr (Or.inr (Or.inr g4)))]
    rcases cH with h|h
    ·subst h;exact zIP p q r s n b w h0 g1 g2 g3 g4
    ·subst h;exact zIT p q r s n b w h0 g1 g2 g3 g4
   rw[if_neg (by omega)]
   rcases cH with h|h
   ·rw[if_neg (by omega)];subst h;exact zIK p q r s n b w h0 g1 g2 g3 g4
   ·by_cases g5:100<n
    ·rw[if_pos ⟨h,g5⟩];subst h;exact zJ6 p q r s n b w h0 g1 g2 g3 g4 g5
    ·rw[if_neg (by omega)];subst h;exact zIL p q r s n b w h0 g1 g2 g3 g4 g5
 ·rw[if_pos h0];exact zIJ k p q r s n b w h0
theorem zEH (w:World) (b:Nat) (hb:b<=2000) :
  Calls Tryz.prog 100 #[.int .i64 b] w (zG w b 6000 (ofI 0 1 b).1 (ofI 0 1 b).2):=by
 have R:=zS w 31
 go_enter Tryz.func100,Tryz.ntmps100
 go_wp2_with fail;refine (zD 0 _ (by decide) (by decide)).mono ?_
 rintro r' w1 ⟨m9,a1,n1,c1,rfl,o8,b9⟩;replace R:=R.bw b9;have hB:Below w.heap.size w w1:=zB (bl1 _ _) b9;clear b9;go_wp2_with fail;refine (zD 1 _ (by decide) (by decide)).mono ?_
 rintro r' w2 ⟨j6,a2,n2,c2,rfl,A5,j7⟩;replace R:=R.bw j7;replace hB:=zB hB j7;replace o8:=o8.bw j7;clear j7;go_wp2_with fail;refine (jL _ _ _ _ _ _ _ _ 4 4 b 0 1 _ o8 A5 (by omega) (by omega) (by decide)).mono ?_
 rintro r' w3 ⟨v3,rfl,I0,bD,o7⟩;replace hB:=zB hB o7;obtain⟨q0,q1,q2,q3,q4,q5⟩:=R.bw o7;have iH:=zC I0;clear I0 o7 R;go_wp2_with fail;refine bodyPost_ret (v:=.agg v3.q) (by simp[results,Tryz.results100,go_sem,q0,q1,q2,q3,q4]) rfl ⟨v3,rfl,zA iH,?_,?_⟩
 ·exact SpAt.put5 (SpAt.mono bD (by omega)) q0 q1 q2 q3 q4 _ _ _ _ _
 ·exact jS hB (Zb _) _ _ _ _ _
theorem zUF {p n:Nat} (h:n<=p) (r s:Int):wayF (r ^ n*(s-r) ^ ((p:Int).toNat-n)) ((p:Int)-(n:Int)) n=(ch p n:Int)*(r ^ n*(s-r) ^ (p-n)):=by
 rw[show (p:Int)-(n:Int)=((p-n:Nat):Int) by omega,wayF_ch,show p-n+n=p by omega,show (p:Int).toNat=p by omega,Int.mul_comm]
theorem zUG {p n:Nat} (h:n<=p) {r s:Int} (hr:0<=r) (hs:r<=s):0<=(ch p n:Int)*(r ^ n*(s-r) ^ (p-n))/\(ch p n:Int)*(r ^ n*(s-r) ^ (p-n))<=s ^ p:=by
 obtain⟨a,ha⟩:∃ a:Nat,r=(a:Int):=⟨r.toNat,by omega⟩
 obtain⟨c,hc⟩:∃ c:Nat,s-r=(c:Int):=⟨(s-r).toNat,by omega⟩
 have JF:s=((a+c:Nat):Int):=by omega
 have h1:=ch_le a c p n h;have h2:((ch p n*a ^ n*c ^ (p-n):Nat):Int)<=(((a+c) ^ p:Nat):Int):=by omega
 rw[Int.natCast_mul,Int.natCast_mul,Int.natCast_pow,Int.natCast_pow,Int.natCast_pow] at h2;rw[hc,ha,JF,<- Int.mul_assoc];refine⟨?_,h2⟩;have:0<=((ch p n*a ^ n*c ^ (p-n):Nat):Int):=by omega
 rw[Int.natCast_mul,Int.natCast_mul,Int.natCast_pow,Int.natCast_pow] at this;exact this
def MasAt (w:World) (B1 B2:Nat) (k p q r s n:Int):Prop:=LwC w B1 k p q r s/\w.cell? ⟨B2,0,none⟩=some (.int .i64 n)
theorem MasAt.bw {w w':World} {B1 B2:Nat} {k p q r s n:Int} (h:MasAt w B1 B2 k p q r s n) (hb:Below w.heap.size w w'):MasAt w' B1 B2 k p q r s n :=
 ⟨h.1.bw hb,(hb.cell (p:=⟨B2,0,none⟩) (World.block_lt_of_cell? w ⟨B2,0,none⟩ h.2)).trans h.2⟩
theorem mass_bad (w:World) (k p q r s n b:Int) (hE:zPS k p q r s n b≠0) :
  Calls Tryz.prog 19 #[.agg #[.int .i64 k,.int .i64 p,.int .i64 q,.int .i64 r,.int .i64 s],.int .i64 n,.int .i64 b] w (zB1 w 0 250 0 0 (zPS k p q r s n b)):=by
 go_enter Tryz.func19,Tryz.ntmps19
 go_wp2_with fail;refine (zEE k p q r s n b _).mono ?_;rintro r' w1 ⟨rfl,b9⟩;have h1:(zPS k p q r s n b != 0)=true:=by simpa using hE
 have R:NoC w1 (w.heap.size+1+1):=NoC.bw ⟨by simp[go_sem],by simp[go_sem],by simp[go_sem],by simp[go_sem],by simp[go_sem],λ o=>by simp[go_sem]⟩ b9
 have hB:Below w.heap.size w w1:=zB (bl3 _ _ _ _) b9;have lR:=R.lt;clear b9;obtain⟨q0,q1,q2,q3,q4,q5⟩:=R;go_wp2_with fail;refine bodyPost_ret (v:=.tuple #[.agg zCq,.int .i64 (zPS k p q r s n b)]) (by simp[results,Tryz.results19,go_sem,q0,q1,q2,q3,q4]) rfl ⟨⟨false,none,0,0,false,none,0,0,0⟩,rfl,rfl,zGR _ _,?_⟩
 exact jS hB (by omega) _ _ _ _ _
theorem zUH (w:World) (s:Sp) (k:Nat) (bt lo hi:Int) (hs:SpAt w s k lo hi) (hk:k<=300000000) (E8:0<=s.bits) (pN:s.bits<=1000000) (oz:0<=bt) (nD:bt<=1000000) :
  Calls Tryz.prog 97 #[.agg s.q,.int .i64 bt] w (SpanF w bt (k+62505) (zA9 lo (s.bits-bt)) (-(zA9 (-hi) (s.bits-bt)))):=by
 obtain⟨W,hW⟩:∃ W,W=(w.alloc (.cells s.q 31)).alloc (.cells zCq 31):=⟨_,rfl⟩;have j8:Below w.heap.size w W:=by rw[hW];exact bl2 _ _ _
 have A:SpC W w.heap.size s:=by rw[hW];constructor<;>simp[go_sem]
 have R:NoC W (w.heap.size+1):=by rw[hW];constructor<;>simp[go_sem]
 have HS:=zC (hs.bw j8);have lA:=A.lt;have lR:=R.lt;have D7:Below W.heap.size W W.drew:=(Below.refl _ _).drew
 have HK:=zC (show ∀ w',Below W.heap.size W w'->(w'.cell? ⟨w.heap.size,0,none⟩=some (.bool s.ln)/\w'.cell? ⟨w.heap.size,1,none⟩=some (.slice s.la s.lN s.lc)/\w'.cell? ⟨w.heap.size,2,none⟩=some (.bool s.hn)/\w'.cell? ⟨w.heap.size,3,none⟩=some (.slice s.ha s.hN s.hc)) from λ w' hB=>by
  obtain⟨x0,x1,x2,x3,x4⟩:=A.bw hB
  exact⟨x0,x1,x2,x3⟩)
 go_enter Tryz.func97,Tryz.ntmps97
 go_wp2;obtain⟨x0,x1,x2,x3,x4⟩:=A;rw[<- hW];clear hW
 go_region_held3 (λ w'=>w'.cell? ⟨w.heap.size,0,none⟩=some (.bool s.ln)/\w'.cell? ⟨w.heap.size,1,none⟩=some (.slice s.la s.lN s.lc)/\w'.cell? ⟨w.heap.size,2,none⟩=some (.bool s.hn)/\w'.cell? ⟨w.heap.size,3,none⟩=some (.slice s.ha s.hN s.hc)) (first|exact zA HK _ (by with_reducible first|exact D7|exact o9|exact A6)|go_keep)
  (first
   | (go_at_call 96;refine (zQ2 _ _ _ _ k (s.bits-bt) lo _ ((zA HS).lo.bw D7) (by omega) (by omega) (by omega)).mono ?_;rintro r w1 ⟨m9,a1,n1,c1,rfl,o8,b9,dR⟩;have A6:=zB D7 b9)
   | (go_at_call 120;refine (zLL _ _ _ _ k (s.bits-bt) hi _ ((zA HS).hi.bw A6) (by omega) (by omega) (by omega)).mono ?_;rintro r w2 ⟨j6,a2,n2,c2,rfl,A5,j7,av⟩;replace o8:=o8.bw j7;have o9:=zB A6 j7;obtain⟨q0,q1,q2,q3,q4,q5⟩:=R.bw o9;obtain⟨i0,i1,i2,i3⟩:=zA HK _ o9))
 go_wp2;refine bodyPost_ret (v:=.agg #[.bool m9,.slice a1 n1 c1,.bool j6,.slice a2 n2 c2,.int .i64 bt]) (by simp[results,Tryz.results97,go_sem,q0,q1,q2,q3,q4]) rfl ⟨⟨m9,a1,n1,c1,j6,a2,n2,c2,bt⟩,rfl,rfl,?_,?_,?_⟩
 ·exact SpAt.put5 ⟨o8.mono (by omega),A5.mono (by omega)⟩ q0 q1 q2 q3 q4 _ _ _ _ _
 ·exact jS (zB j8 o9) (Nat.le_succ _) _ _ _ _ _
 ·exact MineS.put5 _ _ _ _ _ _ (h:=⟨(dR.mono (zB j8 D7).size).bw j7,av.mono (zB j8 A6).size⟩)
def zG3 (bits i:Nat) (L H l:Int):Prop:=l<=1\/(2<=i/\zIW L H (Q bits) 4=true)
def SuAt (bits:Nat) (Pr:Nat->Int->Int->Prop):Nat->Nat->Prop
 | 0,m=>m=32
 | i+1,m=>∃ (m0:Nat) (lo hi l:Int),SuAt bits Pr i m0/\Pr (bits+m0) lo hi/\0 <= -(-hi/Q m0)-lo/Q m0/\yR (-(-hi/Q m0)-lo/Q m0) l/\¬ zG3 bits i (lo/Q m0) (-(-hi/Q m0)) l/\m=m0+l.toNat+32
def SureD (bits:Nat) (Pr:Nat->Int->Int->Prop) (L H:Int):Prop :=
 ∃ (i m:Nat) (lo hi l:Int),SuAt bits Pr i m/\Pr (bits+m) lo hi/\L=lo/Q m/\H = -(-hi/Q m)/\0<=H-L/\yR (H-L) l/\zG3 bits i L H l
theorem zID {z l l':Int} (h0:0<=z) (h:yR z l) (g:yR z l'):l=l':=by
 by_cases hz:z=0
 ·rw[h.2.1 hz,g.2.1 hz]
 ·obtain⟨L,e1,e2,e3⟩:=h.2.2 (by omega)
  obtain⟨M,f1,f2,f3⟩:=g.2.2 (by omega)
  have:L=M:=by
   rcases Nat.lt_trichotomy L M with h|h|h
   ·have:=zH (show L+1<=M by omega);omega
   ·exact h
   ·have:=zH (show M+1<=L by omega);omega
  omega
def zLB (Pr:Nat->Int->Int->Prop):Prop:=∀ B lo hi lo' hi',Pr B lo hi->Pr B lo' hi'->lo=lo'/\hi=hi'
theorem SuAt.uq {bits:Nat} {Pr:Nat->Int->Int->Prop} (hf:zLB Pr):∀ {i m m':Nat},SuAt bits Pr i m->SuAt bits Pr i m'->m=m'
 | 0,_,_,h,g=>by rw[show _=32 from h,show _=32 from g]
 | i+1,_,_,⟨m0,lo,hi,l,a1,a2,a3,a4,a5,a6⟩,⟨n0,lo',hi',l',b1,b2,b3,b4,b5,b6⟩=>by
  obtain rfl:=SuAt.uq hf a1 b1;obtain⟨rfl,rfl⟩:=hf _ _ _ _ _ a2 b2;obtain rfl:=zID a3 a4 b4;omega
theorem SuAt.pre {bits:Nat} {Pr:Nat->Int->Int->Prop} {j:Nat}:∀ {i m:Nat},SuAt bits Pr i m->j<i->∃ (m0:Nat) (lo hi l:Int),SuAt bits Pr j m0/\Pr (bits+m0) lo hi/\0 <= -(-hi/Q m0)-lo/Q m0/\yR (-(-hi/Q m0)-lo/Q m0) l/\¬ zG3 bits j (lo/Q m0) (-(-hi/Q m0)) l
 | 0,_,_,h=>absurd h (by omega)
 | i+1,_,⟨m0,lo,hi,l,a1,a2,a3,a4,a5,a6⟩,h=>by
  by_cases e:j=i
  ·subst e;exact⟨m0,lo,hi,l,a1,a2,a3,a4,a5⟩
  ·exact SuAt.pre a1 (by omega)
theorem zOE {bits:Nat} {Pr:Nat->Int->Int->Prop} (hf:zLB Pr) {i j m m':Nat} {lo hi l:Int} (h:SuAt bits Pr i m) (h1:Pr (bits+m) lo hi) (h3:yR (-(-hi/Q m)-lo/Q m) l) (h4:zG3 bits i (lo/Q m) (-(-hi/Q m)) l) (g:SuAt bits Pr j m') (nH:i<j):False:=by
 obtain⟨m0,lo',hi',l',b1,b2,b3,b4,b5⟩:=g.pre nH;obtain rfl:=SuAt.uq hf h b1;obtain⟨rfl,rfl⟩:=hf _ _ _ _ _ h1 b2;obtain rfl:=zID b3 h3 b4;exact b5 h4
theorem SuAt.first {bits:Nat} {Pr:Nat->Int->Int->Prop} (hs:∀ lo hi l,Pr (bits+32) lo hi->yR (-(-hi/Q 32)-lo/Q 32) l->zG3 bits 0 (lo/Q 32) (-(-hi/Q 32)) l):∀ {i m:Nat},SuAt bits Pr i m->m=32
 | 0,_,h=>h
 | i+1,_,h=>by
  obtain⟨m0,lo,hi,l,a1,a2,a3,a4,a5⟩:=h.pre (Nat.succ_pos i);obtain rfl:m0=32:=a1;exact (a5 (hs _ _ _ a2 a4)).elim
theorem SureD.uq {bits:Nat} {Pr:Nat->Int->Int->Prop} (hf:zLB Pr) {L H L' H':Int} (h:SureD bits Pr L H) (g:SureD bits Pr L' H'):L=L'/\H=H':=by
 obtain⟨i,m,lo,hi,l,a1,a2,rfl,rfl,a3,a4,a5⟩:=h;obtain⟨j,n,lo',hi',l',b1,b2,rfl,rfl,b3,b4,b5⟩:=g
 rcases Nat.lt_trichotomy i j with e|e|e
 ·exact (zOE hf a1 a2 a4 a5 b1 e).elim
 ·subst e
  obtain rfl:=SuAt.uq hf a1 b1;obtain⟨rfl,rfl⟩:=hf _ _ _ _ _ a2 b2;exact⟨rfl,rfl⟩
 ·exact (zOE hf b1 b2 b4 b5 a1 e).elim
theorem zTW {bits:Nat} {Pr:Nat->Int->Int->Prop} {t m:Nat} {lo hi l L H:Int} (ht:1<=t) (h:SuAt bits Pr (t-1) m) (h1:Pr (bits+m) lo hi) (hL:L=lo/Q m) (hH:H = -(-hi/Q m)) (v:0<=H-L) (hl:yR (H-L) l) (hs:¬ zG3 bits (t-1) L H l):SuAt bits Pr (t+1-1) (m+l.toNat+32):=by
 have e:t+1-1=(t-1)+1:=by omega
 rw[e];subst hL hH;exact⟨m,lo,hi,l,h,h1,v,hl,hs,rfl⟩
theorem zFR (ff:Nat) (cs:Array Value) (PZ:∀ (args:Array Value) (w:World),(callFunc ff args).run Tryz.prog w=.ok (.enter ff args) w) (bits Kw KD:Nat) (Pr:Nat->Int->Int->Prop) (W:World) (hb:bits<=120) (PG:Kw<=900000) (PF:KD<=100000000) (hE:zBU bits Kw Pr)
  (hF:∀ (m:Nat) w',32<=m->m<=Kw+120->(∃ i,SuAt bits Pr i m)->Below W.heap.size W w'->Calls Tryz.prog ff (#[.int .i64 ((bits:Int)+m)] ++ cs) w' (λ r gH=>∃ lo hi,Pr (bits+m) lo hi/\zG w' ((bits:Int)+m) KD lo hi r gH)) :
  Calls Tryz.prog 55 #[.int .i64 bits,.func (.func ff) #[] cs] W (λ r w'=>∃ L H,(zAI bits Pr L H/\SureD bits Pr L H)/\SpanF W bits 250 L H r w'):=by
 have HF:=zC hF;have HE:=zC hE;clear hF hE;have EV:=zS W 31
 go_enter Tryz.func55,Tryz.ntmps55
 go_wp2_with fail
 go_loopw [5,6] (λ mm tt wr=>∃ m t:Nat,mm=.int .i64 (m:Int)/\tt=.int .i64 (t:Int)/\SuAt bits Pr (t-1) m/\SureInv Kw m t/\NoC wr W.heap.size/\Below W.heap.size W wr) (λ mm _ _=>Kw+200-(intOf mm).toNat)
 case atStart=>exact⟨32,1,rfl,rfl,rfl,⟨Zb _,Zb _,by omega,Or.inl ⟨by omega,by omega⟩⟩,EV,bl1 _ _⟩
 case round =>
  obtain⟨m,t,rfl,rfl,zk,hinv,R,hB⟩:=hrel;have AH:=zC zk;clear zk;obtain⟨hm,ht,htm,Qm⟩:=hinv;have hmK:m<=Kw+120:=by omega
  have HI:=zC Qm;clear Qm;go_wp2_with fail;refine (zA HF m _ hm hmK ⟨_,zA AH⟩ hB).mono ?_;rintro r w1 ⟨lo,hi,Ix,s,rfl,oH,Qw,b9⟩;replace R:=R.bw b9;replace hB:=zB hB b9;clear b9;obtain⟨e1,e2,e3,e4⟩:=zA HE m lo hi Ix;obtain⟨v1,v2,v3⟩:=zFS (m:=m) e1 e2;obtain⟨f1,f2⟩:=to_fit e3 e4;have xN:=zC Ix;have HV:=zC (And.intro v2 v3);have qg:0<=s.bits:=by omega
  have hs1:s.bits<=1000000:=by omega
  have d1:zA9 lo (s.bits-bits)=lo/Q m:=by unfold zA9;rw[oH,if_pos (by omega)];congr 2;omega
  have d2:zA9 (-hi) (s.bits-bits) = -hi/Q m:=by unfold zA9;rw[oH,if_pos (by omega)];congr 2;omega
  have NT:=zC d1;have NV:=zC d2;clear Ix e1 e2 e3 e4 v2 v3 d1 d2 oH;go_wp2_with fail;refine (zUH _ s KD bits lo hi Qw (by omega) qg hs1 (by omega) (by omega)).mono ?_
  rintro r w2 ⟨u,rfl,A8,C7,j7,W8⟩;replace W8:=W8.mono hB.size;rw[zA NT,zA NV] at C7;obtain⟨L,hL⟩:∃ L,L=lo/Q m:=⟨_,rfl⟩;obtain⟨H,hH⟩:∃ H,H = -(-hi/Q m):=⟨_,rfl⟩;rw[<- hL,<- hH] at C7 v1;rw[<- hL] at f1;rw[<- hH] at f2;have mZ:=zC (show (Kw<=m->H-L<=2)/\(m<=Kw->H-L<=Q (Kw-m)+1) by rw[hL,hH];exact zA HV)
  have HL:=zC hL;have HH:=zC hH;replace C7:=C7.fits (K:=250) (by omega) f1 f2
  replace R:=R.bw j7;replace hB:=zB hB j7;have I3:=zC A8;clear j7 hL hH A8 qg hs1 NT NV HV Qw;have lR:=R.lt;obtain⟨V,hV⟩:∃ V,V=w2.alloc (.cells u.q 31):=⟨_,rfl⟩;have bV:Below w2.heap.size w2 V:=by rw[hV];exact bl1 _ _
  have U:SpC V w2.heap.size u:=by rw[hV];exact⟨by simp,by simp,by simp,by simp,by simp⟩
  replace R:=R.bw bV;replace hB:=zB hB bV;replace C7:=C7.bw bV;replace W8:=W8.bw bV;clear bV;go_wp2_with fail;rw[<- hV];clear hV;refine (zCR _ _ _ _ _ _ _ _ 250 250 H L _ C7.hi C7.lo (by omega) (by omega)).mono ?_
  rintro r w3 ⟨B8,a3,n3,c3,rfl,G0,o7⟩;replace U:=U.bw o7;replace R:=R.bw o7;replace hB:=zB hB o7;replace C7:=C7.bw o7;replace W8:=W8.bw o7;clear o7;go_wp2_with fail;refine (zE0 _ _ _ _ _ (H-L) _ G0 v1).mono ?_;rintro r w4 ⟨l,hlen,rfl,y9⟩;replace U:=U.bw y9;replace R:=R.bw y9;replace hB:=zB hB y9;replace C7:=C7.bw y9;replace W8:=W8.bw y9;clear y9 G0
  have Qg:0<=l/\l<=Kw+2/\(m<=Kw->l<=Kw-m+2)/\(Kw<=m->l<=2):=by
   obtain⟨g1,g2⟩:=zA mZ;refine⟨hlen.1,?_,λ h=>?_,λ h=>?_⟩
   ·rcases Nat.le_total m Kw with h|h
    ·have:=zR1 (K:=Kw-m) hlen (g2 h) v1;omega
    ·have:=zR4 hlen (g1 h) v1;omega
   ·have:=zR1 (K:=Kw-m) hlen (g2 h) v1;omega
   ·exact zR4 hlen (g1 h) v1
  obtain⟨ze,W9,W7,vn⟩:=Qg;have Ao:=zC (And.intro W7 vn);have iV:=zC hlen;clear W7 vn hlen;have lU:=U.lt;have bg:=R.lt;have nRU:W.heap.size≠w2.heap.size:=by omega
  have nRU':w2.heap.size≠W.heap.size:=by omega
  have HU:=zC U;obtain⟨x0,x1,x2,x3,x4⟩:=U
  by_cases hc:l<=1
  ·have hN:=R
   obtain⟨q0,q1,q2,q3,q4,q5⟩:=R;have Hc:=zC hc;go_wp2_with fail;refine bodyPost_ret (v:=.agg u.q) (by simp[results,Tryz.results55,go_sem,q0,q1,q2,q3,q4]) rfl ⟨L,H,⟨⟨m,lo,hi,zA xN,hm,zA HL,zA HH,Or.inl (zR3 (zA iV) (zA Hc) v1)⟩,t-1,m,lo,hi,l,zA AH,zA xN,zA HL,zA HH,v1,zA iV,Or.inl (zA Hc)⟩,u,rfl,zA I3,?_,?_,?_⟩
   ·exact SpAt.put5 C7 q0 q1 q2 q3 q4 _ _ _ _ _
   ·exact jS hB (Zb _) _ _ _ _ _
   ·exact MineS.put5 W8 _ _ _ _ _ _
  ·by_cases YK:3<=t
   ·have JI:(3:Int)<=(t:Int):=by omega
    cases hn:zIW L H (Q bits) 4
    ·have Yq:m<Kw:=by
      refine Nat.lt_of_not_le λ h=>?_
      have h5:=(zA mZ).1 h;rw[zDI (by omega) (by omega)] at hn
      cases hn
     go_wp2_with fail;refine (zHF _ u bits 4 L H C7 (zA I3) hb (by omega)).mono ?_
     rintro r w5 ⟨rfl,D8⟩;rw[show zIW L H (Q bits) ((4:Nat):Int)=false from hn]
     replace R:=R.bw D8;replace hB:=zB hB D8;go_wp2_with fail
     go_roundw
     case rel=>exact⟨m+l.toNat+32,t+1,by congr 1;omega,by congr 1,zTW (by omega) (zA AH) (zA xN) (zA HL) (zA HH) v1 (zA iV) (λ k=>k.elim (λ k=>absurd k (by omega)) λ k=>by rw[k.2] at hn;cases hn),⟨by omega,by omega,by omega,Or.inr (by have:=(zA Ao).1;omega)⟩,R,hB⟩
     case measure=>simp[intOf];omega
    ·go_wp2_with fail
     refine (zHF _ u bits 4 L H C7 (zA I3) hb (by omega)).mono ?_
     rintro r w5 ⟨rfl,D8⟩;rw[show zIW L H (Q bits) ((4:Nat):Int)=true from hn]
     replace R:=R.bw D8;replace hB:=zB hB D8;replace C7:=C7.bw D8;replace W8:=W8.bw D8;obtain⟨y0,y1,y2,y3,y4⟩:=(zA HU).bw D8;obtain⟨q0,q1,q2,q3,q4,q5⟩:=R;have lU2:=Zd lU D8.size;have iz:=Zd bg D8.size;clear D8 x0 x1 x2 x3 x4;go_wp2_with fail;refine bodyPost_ret (v:=.agg u.q) (by simp[results,Tryz.results55,go_sem,q0,q1,q2,q3,q4]) rfl ⟨L,H,⟨⟨m,lo,hi,zA xN,hm,zA HL,zA HH,Or.inr hn⟩,t-1,m,lo,hi,l,zA AH,zA xN,zA HL,zA HH,v1,zA iV,Or.inr ⟨by omega,hn⟩⟩,u,rfl,zA I3,?_,?_,?_⟩
     ·exact SpAt.put5 C7 q0 q1 q2 q3 q4 _ _ _ _ _
     ·exact jS hB (Zb _) _ _ _ _ _
     ·exact MineS.put5 W8 _ _ _ _ _ _
   ·have JI:¬ (3:Int)<=(t:Int):=by omega
    go_wp2_with fail
    go_roundw
    case rel=>exact⟨m+l.toNat+32,t+1,by congr 1;omega,by congr 1,zTW (by omega) (zA AH) (zA xN) (zA HL) (zA HH) v1 (zA iV) (λ k=>k.elim (λ k=>absurd k (by omega)) λ k=>YK (by omega)),⟨by omega,by omega,by omega,by
     have g1:=(zA Ao).1;have g2:=(zA Ao).2;have g3:=zA HI
     rcases Nat.le_total m Kw with h|h
     ·have:=g1 h;exact Or.inr (by omega)
     ·have:=g2 h;exact Or.inl ⟨by omega,by omega⟩⟩,R,hB⟩
    case measure=>simp[intOf];omega
theorem zRV (w:World) (p q r s n:Int) (b:Nat) (hb:b<=2000) (hn:¬ n<0) (hp:p<n) :
  Calls Tryz.prog 57 #[.agg #[.int .i64 6,.int .i64 p,.int .i64 q,.int .i64 r,.int .i64 s],.int .i64 n,.int .i64 b] w (zG w b 6000 (ofI 0 1 b).1 (ofI 0 1 b).2):=by
 obtain⟨W,hW⟩:∃ W,W=(w.alloc (.cells #[.int .i64 6,.int .i64 p,.int .i64 q,.int .i64 r,.int .i64 s] 25)).alloc (.cells zCq 31):=⟨_,rfl⟩;have j8:Below w.heap.size w W:=by rw[hW];exact bl2 _ _ _
 have C:LwC W w.heap.size 6 p q r s:=by rw[hW];exact (yB w 6 p q r s _).bw (bl1 _ _)
 have R:NoC W (w.heap.size+1):=by rw[hW];constructor<;>simp[go_sem]
 have lC:=C.lt;have lR:=R.lt;obtain⟨x0,x1,x2,x3,x4⟩:=C
 go_enter Tryz.func57,Tryz.ntmps57
 go_wp2_with fail;rw[<- hW];clear hW;refine (zEH _ b (by omega)).mono ?_
 rintro r' w3 ⟨v3,rfl,I0,bD,o7⟩;obtain⟨q0,q1,q2,q3,q4,q5⟩:=R.bw o7;have hB:=zB j8 o7;have HV:=zC I0;clear I0 o7 x0 x1 x2 x3 x4;go_wp2_with fail;refine bodyPost_ret (v:=.agg v3.q) (by simp[results,Tryz.results57,go_sem,q0,q1,q2,q3,q4]) rfl ⟨v3,rfl,zA HV,?_,?_⟩
 ·exact SpAt.put5 bD q0 q1 q2 q3 q4 _ _ _ _ _
 ·exact jS hB (Nat.le_succ _) _ _ _ _ _
theorem zLX (w:World) (q r s:Int) (p n b:Nat) (hb:b<=2000) (hn:n<=p) (hp:p<=100) (hr:0<=r) (Fh:r<=s) (qg:1<=s) (hs:s<=1024) :
  Calls Tryz.prog 57 #[.agg #[.int .i64 6,.int .i64 (p:Int),.int .i64 q,.int .i64 r,.int .i64 s],.int .i64 n,.int .i64 b] w (zG w b 6000 (ofI ((ch p n:Int)*(r ^ n*(s-r) ^ (p-n))) (s ^ p) b).1 (ofI ((ch p n:Int)*(r ^ n*(s-r) ^ (p-n))) (s ^ p) b).2):=by
 have O3:0<s ^ p:=Int.pow_pos (by omega)
 obtain⟨v0,v1⟩:=zUG hn hr Fh;have TB:=zC (zUF hn r s);clear v0 v1;obtain⟨W,hW⟩:∃ W,W=(w.alloc (.cells #[.int .i64 6,.int .i64 (p:Int),.int .i64 q,.int .i64 r,.int .i64 s] 25)).alloc (.cells zCq 31):=⟨_,rfl⟩;have j8:Below w.heap.size w W:=by rw[hW];exact bl2 _ _ _
 have C:LwC W w.heap.size 6 (p:Int) q r s:=by rw[hW];exact (yB w 6 (p:Int) q r s _).bw (bl1 _ _)
 have R:NoC W (w.heap.size+1):=by rw[hW];constructor<;>simp[go_sem]
 have lC:=C.lt;have lR:=R.lt;have HK:=zC (show ∀ w',Below W.heap.size W w'->(w'.cell? ⟨w.heap.size,0,none⟩=some (.int .i64 6)/\w'.cell? ⟨w.heap.size,1,none⟩=some (.int .i64 (p:Int))/\w'.cell? ⟨w.heap.size,2,none⟩=some (.int .i64 q)/\w'.cell? ⟨w.heap.size,3,none⟩=some (.int .i64 r)/\w'.cell? ⟨w.heap.size,4,none⟩=some (.int .i64 s)) from λ w' hB=>⟨(C.bw hB).c0,(C.bw hB).c1,(C.bw hB).c2,(C.bw hB).c3,(C.bw hB).c4⟩)
 have cJ:¬ (n:Int)<0:=by omega
 have ij:¬ (p:Int)<(n:Int):=by omega
 have m1:w.heap.size≠w.heap.size+1:=by omega
 have m2:w.heap.size+1≠w.heap.size:=by omega
 have D5:Below W.heap.size W W.drew:=(Below.refl _ _).drew;obtain⟨x0,x1,x2,x3,x4⟩:=C
 go_enter Tryz.func57,Tryz.ntmps57
 go_wp2_with fail
 try rw[<- hW]
 clear hW
 go_region_held3 (λ w'=>w'.cell? ⟨w.heap.size,0,none⟩=some (.int .i64 6)/\w'.cell? ⟨w.heap.size,1,none⟩=some (.int .i64 (p:Int))/\w'.cell? ⟨w.heap.size,2,none⟩=some (.int .i64 q)/\w'.cell? ⟨w.heap.size,3,none⟩=some (.int .i64 r)/\w'.cell? ⟨w.heap.size,4,none⟩=some (.int .i64 s)) (first|exact zA HK _ (by with_reducible first|exact D5|exact F9|exact p9|exact s9)|go_keep)
  (first
   | (go_at_call 88;have O4:=p9;refine (jL _ _ _ _ _ _ _ _ 2500 500 b _ (s ^ p) _ ((o8.bw j7).mono (by omega)) (A5.mono (by omega)) (by omega) (by omega) O3).mono ?_;rintro r' w3 ⟨u,rfl,A8,C7,o7⟩;have F9:=zB p9 o7;obtain⟨q0,q1,q2,q3,q4,q5⟩:=R.bw F9;have HV:=zC A8;clear A8;obtain⟨y0,y1,y2,y3,y4⟩:=zA HK _ F9;have bD:=SpAt.mono C7 (show 2500+b/16+20<=6000 by omega))
   | (go_at_call 102;have O4:=s9;refine (zBF s p _ (by omega) (by omega) (by omega)).mono ?_;rintro r' w2 ⟨j6,a2,n2,c2,rfl,A5,j7⟩;have p9:=zB s9 j7)
   | (go_at_call 101;refine (zOI 6 p q r s n _ (by omega) (by omega) hr Fh hs).mono ?_;rintro r' w1 ⟨m9,a1,n1,c1,rfl,o8,b9⟩;have s9:=zB D5 b9;rw[zA TB] at o8))
 all_goals
  go_wp2_with fail;refine bodyPost_ret (v:=.agg u.q) (by simp[results,Tryz.results57,go_sem,q0,q1,q2,q3,q4]) rfl ⟨u,rfl,zA HV,?_,?_⟩
  ·exact SpAt.put5 bD q0 q1 q2 q3 q4 _ _ _ _ _
  ·exact jS (zB j8 F9) (Nat.le_succ _) _ _ _ _ _
theorem zO0 (w:World) (p q r s:Int) (n b:Nat) (c:Int × Int) (hC:∀ w':World,Calls Tryz.prog 103 #[.agg #[.int .i64 p,.int .i64 q],.int .i64 n,.int .i64 b] w' (zG w' b 6000 c.1 c.2)) :
  Calls Tryz.prog 57 #[.agg #[.int .i64 7,.int .i64 p,.int .i64 q,.int .i64 r,.int .i64 s],.int .i64 n,.int .i64 b] w (zG w b 6000 c.1 c.2):=by
 obtain⟨W,hW⟩:∃ W,W=(w.alloc (.cells #[.int .i64 7,.int .i64 p,.int .i64 q,.int .i64 r,.int .i64 s] 25)).alloc (.cells zCq 31):=⟨_,rfl⟩;have j8:Below w.heap.size w W:=by rw[hW];exact bl2 _ _ _
 have C:LwC W w.heap.size 7 p q r s:=by rw[hW];exact (yB w 7 p q r s _).bw (bl1 _ _)
 have R:NoC W (w.heap.size+1):=by rw[hW];constructor<;>simp[go_sem]
 have lC:=C.lt;have lR:=R.lt;have cJ:¬ (n:Int)<0:=by omega
 obtain⟨x0,x1,x2,x3,x4⟩:=C
 go_enter Tryz.func57,Tryz.ntmps57
 go_wp2_with fail;rw[<- hW];clear hW;refine (hC _).mono ?_;rintro r' w3 ⟨v3,rfl,I0,bD,o7⟩;obtain⟨q0,q1,q2,q3,q4,q5⟩:=R.bw o7;have hB:=zB j8 o7;have HV:=zC I0;clear I0 o7 x0 x1 x2 x3 x4;go_wp2_with fail;refine bodyPost_ret (v:=.agg v3.q) (by simp[results,Tryz.results57,go_sem,q0,q1,q2,q3,q4]) rfl ⟨v3,rfl,zA HV,?_,?_⟩
 ·exact SpAt.put5 bD q0 q1 q2 q3 q4 _ _ _ _ _
 ·exact jS hB (Nat.le_succ _) _ _ _ _ _
theorem zSN (b:Nat) (B1 B2:Nat) (w:World) (k p q r s n:Int) (Pr:Int->Int->Prop) (h:MasAt w B1 B2 k p q r s n)
  (hJ:∀ w',Calls Tryz.prog 57 #[.agg #[.int .i64 k,.int .i64 p,.int .i64 q,.int .i64 r,.int .i64 s],.int .i64 n,.int .i64 b] w' (λ r gH=>∃ lo hi,Pr lo hi/\zG w' b 6000 lo hi r gH)) :
  Calls Tryz.prog 56 #[.int .i64 b,.pointer (some ⟨B1,0,none⟩),.pointer (some ⟨B2,0,none⟩)] w (λ zz w'=>∃ lo hi,Pr lo hi/\zG w b 6000 lo hi zz w'):=by
 have HJ:=zC hJ;clear hJ;obtain⟨⟨x0,x1,x2,x3,x4⟩,y0⟩:=h;have l1:=World.block_lt_of_cell? w ⟨B1,0,none⟩ x0;have l2:=World.block_lt_of_cell? w ⟨B2,0,none⟩ y0
 go_enter Tryz.func56,Tryz.ntmps56
 go_wp2_with fail;refine (zA HJ _).mono ?_;rintro r' w1 ⟨lo,hi,aZ,u,rfl,A8,C7,b9⟩;obtain⟨q0,q1,q2,q3,q4,q5⟩:=(zS w 31).bw b9;have hB:Below w.heap.size w w1:=zB (bl1 _ _) b9;have I3:=zC A8;have dQ:=zC aZ;clear A8 b9 aZ;go_wp2_with fail;refine bodyPost_ret (v:=.agg u.q) (by simp[results,Tryz.results56,go_sem,q0,q1,q2,q3,q4]) rfl ⟨lo,hi,zA dQ,u,rfl,zA I3,?_,?_⟩
 ·exact SpAt.put5 C7 q0 q1 q2 q3 q4 _ _ _ _ _
 ·exact jS hB (Zb _) _ _ _ _ _
def MasF (x:Nat->Rat) (F:Nat->Int × Int) (B:Nat) (l u:Int):Prop:=zHQ x B l u/\l=(F B).1/\u=(F B).2
theorem masF_one (x:Nat->Rat) (F:Nat->Int × Int):zLB (MasF x F):=λ _ _ _ _ _ h g=>⟨h.2.1.trans g.2.1.symm,h.2.2.trans g.2.2.symm⟩
theorem mass_det (w:World) (k p q r s n:Int) (b:Nat) (x:Nat->Rat) (F:Nat->Int × Int) (h5:8<=b) (h6:b<=120) (hE:zPS k p q r s n b=0)
  (hJ:∀ m:Nat,40<=m->m<=2000->zHQ x m (F m).1 (F m).2/\∀ w',Calls Tryz.prog 57 #[.agg #[.int .i64 k,.int .i64 p,.int .i64 q,.int .i64 r,.int .i64 s],.int .i64 n,.int .i64 m] w' (zG w' m 6000 (F m).1 (F m).2)) :
  Calls Tryz.prog 19 #[.agg #[.int .i64 k,.int .i64 p,.int .i64 q,.int .i64 r,.int .i64 s],.int .i64 n,.int .i64 b] w (λ r w'=>∃ L H,(zAI b (MasF x F) L H/\SureD b (MasF x F) L H)/\zLC w b 250 L H 0 r w'):=by
 have HJ:=zC hJ;have HE:=zC hE;clear hJ hE
 go_enter Tryz.func19,Tryz.ntmps19
 go_wp2_with fail;refine (zEE k p q r s n b _).mono ?_;rintro r' w1 ⟨rfl,b9⟩;rw[zA HE];have C:MasAt w1 w.heap.size (w.heap.size+1) k p q r s n:=MasAt.bw ⟨⟨by simp[go_sem],by simp[go_sem],by simp[go_sem],by simp[go_sem],by simp[go_sem]⟩,by simp[go_sem]⟩ b9
 have R:NoC w1 (w.heap.size+1+1):=NoC.bw ⟨by simp[go_sem],by simp[go_sem],by simp[go_sem],by simp[go_sem],by simp[go_sem],λ o=>by simp[go_sem]⟩ b9
 have hB:Below w.heap.size w w1:=zB (bl3 _ _ _ _) b9;have lR:=R.lt;clear b9;go_wp2_with fail;refine (zFR _ _ en_mass b 1702 6000 (MasF x F) _ h6 (by omega) (by omega) (λ m lo hi h=>mas_ends b x h6 m lo hi h.1) (λ m w' hm O2 _ A7=>?_)).mono ?_
 ·rw[show ((b:Int)+(m:Int))=((b+m:Nat):Int) by omega]
  exact zSN (b+m) w.heap.size (w.heap.size+1) w' k p q r s n (MasF x F (b+m)) (C.bw A7) (λ gH=>((zA HJ (b+m) (by omega) (by omega)).2 gH).mono λ zz w3 h=>⟨_,_,⟨(zA HJ (b+m) (by omega) (by omega)).1,rfl,rfl⟩,h⟩)
 rintro r' w3 ⟨L,H,hS,u,rfl,A8,C7,o7,W8⟩;have nX:=zC (W8.mono hB.size);clear W8;obtain⟨q0,q1,q2,q3,q4,q5⟩:=R.bw o7;replace hB:=zB hB o7;have I3:=zC A8;have GK:=zC hS;clear A8 hS;go_wp2_with fail;refine bodyPost_ret (v:=.tuple #[.agg u.q,.int .i64 0]) (by simp[results,Tryz.results19,go_sem,q0,q1,q2,q3,q4]) rfl ⟨L,H,zA GK,u,rfl,zA I3,?_,?_,MineS.put5 (zA nX) _ _ _ _ _ _⟩
 ·exact SpAt.put5 C7 q0 q1 q2 q3 q4 _ _ _ _ _
 ·exact jS hB (by omega) _ _ _ _ _
open Ex
def riT (a:Int × Int) (u d:Nat->Int):Nat->Int × Int
 | 0=>a
 | n+1=>zJ (riT a u d n) (u (n+1)) (d (n+1))
def yK (f:Nat->Int × Int) (turn N:Nat):Prop:=turn<=N/\(f N).2<=3/\∀ j,j<N->j<turn\/3<(f j).2
def yC (f:Nat->Int × Int) (N:Nat):Int × Int:=zB8 (jE f N) (0,9)
structure zP6 (u d:Nat->Int):Prop where
 u0:∀ n,0<=u n
 d0:∀ n,0<d n
theorem zEM {a:Int × Int} {u d:Nat->Int} (h:zP6 u d) (ha:a.1<=a.2) (n:Nat):(riT a u d n).1<=(riT a u d n).2:=by
 induction n with
 | zero=>exact ha
 | succ n ih=>exact kR ih (h.d0 _) (h.u0 _)
theorem zAT {a:Int × Int} {u d:Nat->Int} (h:zP6 u d) (ha:0<=a.1) (n:Nat):0<=(riT a u d n).1:=by
 induction n with
 | zero=>exact ha
 | succ n ih=>exact Int.ediv_nonneg (Zc ih (h.u0 _)) (by have:=h.d0 (n+1);omega)
theorem kY (a:Int) {d:Int} (hd:0<d):a<(a/d+1)*d:=Int.lt_ediv_add_one_mul_self _ hd
theorem zM7 {x u d:Int} (hd:0<d) (hx:0<=x) (h:4*u<=3*d):4 * -(-(x*u)/d)<=3*x+3:=by
 have h1:=Za h hx;have h2:=kY (-(x*u)) hd;refine Int.not_lt.1 λ hn=>?_
 obtain⟨c,hc⟩:∃ c,c = -(-(x*u)/d):=⟨_,rfl⟩
 have h3:(c-1)*d<x*u:=by
  have e:(-(x*u)/d+1)*d = -((c-1)*d):=by rw[hc];grind
  omega
 rw[<- hc] at hn;have h4:=YW (show 3*x+4<=4*c by omega) (show 0<=d by omega)
 have e1:(3*x+4)*d=3*x*d+4*d:=by grind
 have e2:4*c*d=4*((c-1)*d)+4*d:=by grind
 have e3:x*(4*u)=4*(x*u):=by grind
 have e4:x*(3*d)=3*x*d:=by grind
 omega
theorem zPK {g:Nat->Int} (h:∀ j,4*g (j+1)<=3*g j+3):∀ (H j:Nat),g j-3<Q H->∃ i,i<=j+3*H/\j<=i/\g i<=3:=by
 intro H
 induction H with
 | zero =>
  intro j hj
  have e:Q 0=1:=rfl;exact⟨j,by omega,Zb _,by omega⟩
 | succ H ih =>
  intro j hj
  have e:Q (H+1)=2*Q H:=rfl;have q:=zE H;have h1:=h j;have h2:=h (j+1);have h3:=h (j+2);obtain⟨i,i1,i2,i3⟩:=ih (j+3) (by rw[show j+3=j+2+1 by omega];rw[show j+2=j+1+1 by omega] at *;omega)
  exact⟨i,by omega,by omega,i3⟩
theorem zL6 {a:Int × Int} {u d:Nat->Int} {turn H:Nat} (h:zP6 u d) (ha:0<=a.1) (hl:a.1<=a.2) (iL:∀ n,turn<=n->4*u (n+1)<=3*d (n+1)) (hH:(riT a u d turn).2-3<Q H):∃ N,N<=turn+3*H/\yK (riT a u d) turn N:=by
 have hg:∀ j,4*(riT a u d (turn+(j+1))).2<=3*(riT a u d (turn+j)).2+3:=λ j=>by
  have h0:=zAT h ha (turn+j);have h1:=zEM h hl (turn+j);exact zM7 (x:=(riT a u d (turn+j)).2) (h.d0 (turn+j+1)) (by omega) (iL (turn+j) (by omega))
 obtain⟨i,i1,i2,i3⟩:=zPK hg H 0 hH;obtain⟨N,n1,n2,n3⟩:=zBW (p:=λ N=>turn<=N/\(riT a u d N).2<=3) (K:=turn+i) ⟨by omega,i3⟩
 refine⟨N,by omega,n2.1,n2.2,λ j hj=>?_⟩
 have:=n3 j hj
 by_cases ht:j<turn
 ·exact Or.inl ht
 ·exact Or.inr (Int.not_le.1 λ hh=>this ⟨by omega,hh⟩)
def riV (x:Nat->Rat) (u d:Nat->Int):Nat->Nat->Rat
 | 0,M=>x M
 | n+1,M=>(u (n+1):Rat)/(d (n+1):Rat)*riV x u d n M
theorem riT_has {B:Nat} {a:Int × Int} {x:Nat->Rat} {u d:Nat->Int} (h:zP6 u d) (hx:Iv B a x) (n:Nat):Iv B (riT a u d n) (λ M=>riV x u d n M):=by
 induction n with
 | zero=>exact hx
 | succ n ih=>exact ih.scale (h.u0 _) (h.d0 _)
theorem zHI {x:Nat->Rat} {u d:Nat->Int} (h:zP6 u d) {M:Nat} (hx:0<=x M) (n:Nat):0<=riV x u d n M:=by
 induction n with
 | zero=>exact hx
 | succ n ih =>
  have h1:=zAR (h.u0 (n+1)) (h.d0 (n+1));exact YV h1 ih
theorem riV_fall {x:Nat->Rat} {u d:Nat->Int} (h:zP6 u d) {M:Nat} (hx:0<=x M) {n:Nat} (iL:4*u (n+1)<=3*d (n+1)):4*riV x u d (n+1) M<=3*riV x u d n M:=by
 have h0:=zHI h hx n;have d0:(0:Rat)<(d (n+1):Rat):=by exact_mod_cast h.d0 (n+1)
 have h1:(u (n+1):Rat)/(d (n+1):Rat)<=3/4:=by
  refine kF d0 ?_;have:=jF iL;rw[Ze,Ze,show ((4:Int):Rat)=4 from rfl,show ((3:Int):Rat)=3 from rfl] at this
  grind
 have h2:=YV (show 0<=3/4-(u (n+1):Rat)/(d (n+1):Rat) by grind) h0
 show 4*((u (n+1):Rat)/(d (n+1):Rat)*riV x u d n M)<=_
 grind
theorem rise_has {B N:Nat} {f:Nat->Int × Int} {g:Nat->Nat->Rat} (h:∀ n,Iv B (f n) (λ M=>g n M)) (hN:(f N).2<=3) (M0:Nat) (h0:∀ M,M0<=M->∀ n,0<=g n M) (hh:∀ M,M0<=M->∀ n,N<=n->4*g (n+1) M<=3*g n M):Iv B (yC f N) (λ M=>S (λ k=>g k M) M):=by
 have hs:∀ n,Iv B (jE f n) (λ M=>S (λ k=>g k M) (n+1)):=λ n=>by
  induction n with
  | zero =>
   refine (h 0).congr (null_zero.of_eq λ M=>?_)
   show S (λ k=>g k M) 1-g 0 M=0
   have e:S (λ k=>g k M) 1=0+g 0 M:=rfl
   rw[e];grind
  | succ n ih=>exact ih.add (h (n+1))
 have ht:∀ M,M0<=M->∀ i,0<=S (λ k=>g k M) (N+1+i)-S (λ k=>g k M) (N+1)/\S (λ k=>g k M) (N+1+i)-S (λ k=>g k M) (N+1)+3*g (N+i) M<=3*g N M:=λ M hM i=>by
  induction i with
  | zero=>constructor<;>(show _<=_;simp only[Nat.add_zero];grind)
  | succ i ih =>
   have e:S (λ k=>g k M) (N+1+(i+1))=S (λ k=>g k M) (N+1+i)+g (N+1+i) M:=rfl
   have h1:=h0 M hM (N+1+i);have h2:=hh M hM (N+i) (by omega)
   rw[show N+i+1=N+1+i by omega] at h2
   rw[e,show N+(i+1)=N+1+i by omega]
   constructor<;>grind
 have q:=jM B
 intro e he
 obtain⟨N1,g1⟩:=hs N (e/4) (by grind)
 obtain⟨N2,g2⟩:=h N (e/4) (by grind)
 refine⟨M0+N1+N2+N+1,λ M hM=>?_⟩
 obtain⟨a1,a2⟩:=g1 M (by omega)
 obtain⟨b1,b2⟩:=g2 M (by omega)
 obtain⟨t1,t2⟩:=ht M (by omega) (M-(N+1))
 have t3:=h0 M (by omega) (N+(M-(N+1)))
 rw[show N+1+(M-(N+1))=M by omega] at t1 t2
 have c2:((f N).2:Rat)/(Q B:Rat)<=((3:Int):Rat)/(Q B:Rat):=kF q (by rw[rdm q];exact jF hN)
 have e1:(((yC f N).1:Int):Rat)/(Q B:Rat)=((jE f N).1:Rat)/(Q B:Rat):=by
  unfold yC zB8;simp only[];rw[Int.add_zero]
 have e2:(((yC f N).2:Int):Rat)/(Q B:Rat)=((jE f N).2:Rat)/(Q B:Rat)+3*(((3:Int):Rat)/(Q B:Rat)):=by
  unfold yC zB8;simp only[];rw[Rat.intCast_add,zB0]
  congr 1
  have e9:((9:Int):Rat)=3*((3:Int):Rat):=by decide +kernel
  rw[e9,Rat.div_def,Rat.div_def,Rat.mul_assoc]
 simp only[] at a1 a2 b1 b2;rw[e1,e2];constructor<;>grind
def riS (x:Nat->Rat) (u d:Nat->Int) (M:Nat):Rat:=S (λ k=>riV x u d k M) M
theorem zCC {B N turn:Nat} {a:Int × Int} {x:Nat->Rat} {u d:Nat->Int} (h:zP6 u d) (hx:Iv B a x) (M0:Nat) (nN:∀ M,M0<=M->0<=x M) (iL:∀ n,turn<=n->4*u (n+1)<=3*d (n+1)) (hN:yK (riT a u d) turn N):Iv B (yC (riT a u d) N) (riS x u d) :=
 rise_has (λ n=>riT_has h hx n) hN.2.1 M0 (λ M hM n=>zHI h (nN M hM) n) (λ M hM n hn=>riV_fall h (nN M hM) (iL n (Nat.le_trans hN.1 hn)))
theorem zN5 {a:Int × Int} {u d:Nat->Int} (h:zP6 u d) (ha:0<=a.1) (hl:a.1<=a.2) (h0:0<a.2) {D:Int} (hD:a.2-a.1<=D) (hmono:∀ n,d (n+1)<=u (n+1)->a.2<=(riT a u d n).2) (n:Nat) :
  ((riT a u d n).2-(riT a u d n).1)*a.2<=(D+2*n)*(if a.2<=(riT a u d n).2 then (riT a u d n).2 else a.2):=by
 have D0:0<=D:=by omega
 induction n with
 | zero =>
  show (a.2-a.1)*a.2<=(D+2*((0:Nat):Int))*(if a.2<=a.2 then a.2 else a.2)
  rw[if_pos (Int.le_refl _)];exact YW (by omega) (by omega)
 | succ n ih =>
  have hd:=h.d0 (n+1);have hu:=h.u0 (n+1);have n1:=zAT h ha n;have n2:=zEM h hl n;have iO:=hmono n
  show ((zJ (riT a u d n) (u (n+1)) (d (n+1))).2-(zJ (riT a u d n) (u (n+1)) (d (n+1))).1)*a.2<=(D+2*((n+1:Nat):Int))*(if a.2<=(zJ (riT a u d n) (u (n+1)) (d (n+1))).2 then (zJ (riT a u d n) (u (n+1)) (d (n+1))).2 else a.2)
  generalize riT a u d n=t at *;generalize u (n+1)=U at *;generalize d (n+1)=V at *;obtain⟨hi,ehi⟩:∃ hi,hi=(zJ t U V).2:=⟨_,rfl⟩;obtain⟨lo,elo⟩:∃ lo,lo=(zJ t U V).1:=⟨_,rfl⟩;rw[<- ehi,<- elo];have c1:t.2*U<=hi*V:=by rw[ehi];exact zEY (t.2*U) hd
  have c2:(hi-1)*V<t.2*U:=by
   have h2:=kY (-(t.2*U)) hd;have e:(-(t.2*U)/V+1)*V = -((hi-1)*V):=by rw[ehi];unfold zJ;grind
   omega
  have c3:t.1*U<(lo+1)*V:=by rw[elo];exact kY (t.1*U) hd
  have tw:(hi-lo-2)*V<=(t.2-t.1)*U:=by
   have e1:(hi-lo-2)*V=(hi-1)*V-(lo+1)*V:=by grind
   have e2:(t.2-t.1)*U=t.2*U-t.1*U:=by grind
   omega
  have m1:=YW tw (show 0<=a.2 by omega)
  have m2:=YW ih hu;have C0:0<=D+2*(n:Int):=by omega
  refine Int.le_of_mul_le_mul_right (a:=V) ?_ hd;have e3:(hi-lo)*a.2*V=(hi-lo-2)*V*a.2+2*a.2*V:=by grind
  have e4:(t.2-t.1)*U*a.2=(t.2-t.1)*a.2*U:=by grind
  have cN:(D+2*((n+1:Nat):Int))=(D+2*(n:Int))+2:=by omega
  rw[cN]
  by_cases ht:a.2<=t.2
  ·rw[if_pos ht] at m2
   have m3:=Za c1 C0;have e5:(D+2*(n:Int))*t.2*U=(D+2*(n:Int))*(t.2*U):=by grind
   by_cases hh:a.2<=hi
   ·rw[if_pos hh]
    have m4:=YW hh (show 0<=V by omega)
    have e6:(D+2*(n:Int)+2)*hi*V=(D+2*(n:Int))*(hi*V)+2*(hi*V):=by grind
    have e7:2*a.2*V=2*(a.2*V):=by grind
    omega
   ·rw[if_neg hh]
    have m4:=YW (show hi<=a.2 by omega) (show 0<=V by omega)
    have m5:=Za m4 C0;have e6:(D+2*(n:Int)+2)*a.2*V=(D+2*(n:Int))*(a.2*V)+2*(a.2*V):=by grind
    have e7:2*a.2*V=2*(a.2*V):=by grind
    omega
  ·rw[if_neg ht] at m2
   have Xs:U<=V:=by
    refine Int.not_lt.1 λ E2=>?_
    exact ht (iO (by omega))
   have m4:=Za Xs (show 0<=(D+2*(n:Int))*a.2 from Zc C0 (by omega))
   have O1:a.2<=(if a.2<=hi then hi else a.2):=by split<;>omega
   have m5:=Za O1 (show 0<=D+2*(n:Int)+2 by omega)
   have m6:=YW m5 (show 0<=V by omega)
   have e6:(D+2*(n:Int)+2)*a.2*V=(D+2*(n:Int))*a.2*V+2*a.2*V:=by grind
   omega
end Go.Proofs.YtgmnknmjainabacGreat
namespace Go.Proofs.YtgmnknmjainabacGreat.Ex
def eT (x:Rat):Nat->Rat
 | 0=>x
 | n+1=>2*(x*x)/(2*((n:Rat)+1)+1)*eT x n
def eD (x:Rat):Nat->Rat
 | 0=>1
 | n+1=>2*x*eT x n
theorem zC7 (n:Nat):(0:Rat)<2*((n:Rat)+1)+1:=by have:=zBN n;grind
theorem zDY (x:Rat) (n:Nat):(2*((n:Rat)+1)+1)*eT x (n+1)=2*(x*x)*eT x n:=by
 have h:=zC7 n
 show (2*((n:Rat)+1)+1)*(2*(x*x)/(2*((n:Rat)+1)+1)*eT x n)=_
 have e:=rdm (a:=2*(x*x)) h;have:(2*((n:Rat)+1)+1)*(2*(x*x)/(2*((n:Rat)+1)+1)*eT x n)=(2*(x*x)/(2*((n:Rat)+1)+1)*(2*((n:Rat)+1)+1))*eT x n:=by grind
 rw[this,e]
theorem zBK {x:Rat} (h:0<=x) (n:Nat):0<=eT x n:=by
 induction n with
 | zero=>exact h
 | succ n ih =>
  have h1:=zC7 n;have h2:=zDY x n;have h3:=YV (YV h h) ih;refine Rat.le_of_mul_le_mul_left (c:=2*((n:Rat)+1)+1) ?_ h1;grind
theorem eD_mul (x:Rat) (n:Nat):eD x n*x=(2*(n:Rat)+1)*eT x n:=by
 cases n with
 | zero=>show 1*x=(2*((0:Nat):Rat)+1)*x;grind
 | succ n =>
  have h:=zDY x n
  show 2*x*eT x n*x=(2*((n+1:Nat):Rat)+1)*eT x (n+1)
  have e:((n+1:Nat):Rat)=(n:Rat)+1:=by push_cast;rfl
  rw[e];grind
theorem zJV {x:Rat} (h:0<=x) (n:Nat):0<=eD x n:=by
 cases n with
 | zero=>show (0:Rat)<=1;grind
 | succ n=>exact YV (YV (by grind) h) (zBK h n)
theorem zQ5 {x h:Rat} (hx:0<=x) (hh:0<=h) (n:Nat):eT x n+h*eD x n<=eT (x+h) n:=by
 induction n with
 | zero=>show x+h*1<=x+h;grind
 | succ n ih =>
  have p:=zC7 n;have t0:=zBK hx n;have d0:=zJV hx n;have e1:=zDY x n;have e2:=zDY (x+h) n;have e3:=eD_mul x n;have s1:x*x+2*(x*h)<=(x+h)*(x+h):=by have:=YV hh hh;grind
  have q0:=YV hx hx;have q1:=YV hx hh;have y0:0<=(x+h)*(x+h):=by have:=YV hh hh;grind
  have m1:=YT ih y0;have u0:0<=eT x n+h*eD x n:=by have:=YV hh d0;grind
  have m2:=YX s1 u0;refine Rat.le_of_mul_le_mul_left (c:=2*((n:Rat)+1)+1) ?_ p
  show (2*((n:Rat)+1)+1)*(eT x (n+1)+h*(2*x*eT x n))<=_
  rw[e2];have k1:=YV q1 (YV hh d0);have k2:x*x*(h*eD x n)=h*x*((2*(n:Rat)+1)*eT x n):=by rw[<- e3];grind
  have k3:(x*x+2*(x*h))*(eT x n+h*eD x n)=x*x*eT x n+x*x*(h*eD x n)+2*(x*h)*eT x n+2*(x*h*(h*eD x n)):=by grind
  rw[k3,k2] at m2;have k4:(2*((n:Rat)+1)+1)*(eT x (n+1)+h*(2*x*eT x n))=2*(x*x)*eT x n+(2*((n:Rat)+1)+1)*(h*(2*x*eT x n)):=by rw[<- e1];grind
  rw[k4];grind
def eS (x:Rat) (M:Nat):Rat:=S (eT x) M
theorem zAA {x:Rat} (h:0<=x) (M:Nat):0<=eS x M:=by
 induction M with
 | zero=>show (0:Rat)<=0;grind
 | succ n ih=>have:=zBK h n;show 0<=eS x n+eT x n;grind
theorem eS_grow {x h:Rat} (hx:0<=x) (hh:0<=h) (M:Nat):eS x (M+1)+h*(1+2*x*eS x M)<=eS (x+h) (M+1):=by
 induction M with
 | zero=>show (0+x)+h*(1+2*x*0)<=0+(x+h);grind
 | succ n ih =>
  have g:=zQ5 hx hh (n+1)
  show eS x (n+1)+eT x (n+1)+h*(1+2*x*(eS x n+eT x n))<=eS (x+h) (n+1)+eT (x+h) (n+1)
  have e:eD x (n+1)=2*x*eT x n:=rfl;rw[e] at g;grind
theorem zQ6 {x y:Rat} (hx:0<=x) (P7:x<=y) (n:Nat):eT x n<=eT y n:=by
 have h:=zQ5 hx (show 0<=y-x by grind) n
 have d:=YV (show 0<=y-x by grind) (zJV hx n)
 rw[show x+(y-x)=y by grind] at h
 grind
theorem zQ4 {x y:Rat} (hx:0<=x) (P7:x<=y) (M:Nat):eS x M<=eS y M:=by
 induction M with
 | zero=>show (0:Rat)<=0;grind
 | succ n ih=>have:=zQ6 hx P7 n;show eS x n+eT x n<=eS y n+eT y n;grind
theorem eT_tm {x:Rat} (hx:0<=x) (n:Nat):eT x n<=x*tm (x*x) n:=by
 induction n with
 | zero=>show x<=x*1;grind
 | succ n ih =>
  have p:=zC7 n;have p1:=zBN n;have e1:=zDY x n;have e2:=kV (x*x) n;have q:=YV hx hx;have m:=YT ih q;have t:=zA4 q (n+1);have xt:=YV hx t;refine Rat.le_of_mul_le_mul_left (c:=2*((n:Rat)+1)+1) ?_ p;rw[e1];have k:x*((n:Rat)+1)*tm (x*x) (n+1)=x*(x*x*tm (x*x) n):=by rw[<- e2];grind
  grind
theorem eT_null {x:Rat} (hx:0<=x):Null (λ M=>eT x M):=by
 obtain⟨K,k0,hK⟩:=zPN (x*x);refine Null.of_le (f:=λ M=>x*K*((M:Rat)*q4 M)) (zB3 (x*K) (YV hx k0)) 1 λ M hM=>?_
 have h0:=zBK hx M;have h1:=eT_tm hx M;have h2:=(hK M).2;have h3:=YT h2 hx;have hm:(1:Rat)<=(M:Rat):=by exact_mod_cast hM
 have h4:=YV (YV (YV hx k0) (YZ (yE M))) (show 0<=(M:Rat)-1 by grind)
 constructor<;>grind
theorem zJW {x:Rat} (hx:0<=x):∃ K,0<=K/\∀ M,eS x M<=K:=by
 obtain⟨K,k0,hK⟩:=zDS (x*x);have q:=YV hx hx;refine⟨x*K,YV hx k0,λ M=>?_⟩
 have h1:eS x M<=x*E (x*x) M:=by
  induction M with
  | zero=>show (0:Rat)<=x*0;grind
  | succ n ih =>
   have:=eT_tm hx n
   show eS x n+eT x n<=x*(E (x*x) n+tm (x*x) n)
   grind
 have h2:=(hK M (x*x) ⟨by grind,by grind⟩).2
 have h3:=YT h2 hx;grind
def eF (x:Rat) (M:Nat):Rat:=eS x M*Ev (λ _ => -(x*x)) M
theorem eF_key {x h Y K s t q:Rat} (hx:0<=x) (hh:0<h) (hY:x+h<=Y) (sx:0<=s) (sK:s<=K) (h1:h<=1) (ht:t=h*(2*x+h)) (t0:0<=t) (t4:t<=1/4) (h3:2*(h*(K*(1+8*((2*Y+1)*(2*Y+1)))))<=1) (q0:1-t-2*(t*t)<=q):s<=(s+h*(1+2*x*s))*q:=by
 have A0:0<=2*Y+1:=by grind
 have tt2:t*t<=1/16:=by have:=YT t4 t0;grind
 have p0:0<=s+h*(1+2*x*s):=by
  have:=YV (YZ hh) (show 0<=1+2*x*s by have:=YV hx sx;grind)
  grind
 have p1:=YT q0 p0;refine Rat.le_trans ?_ p1;obtain⟨a,ha⟩:∃ a,a=2*x+h:=⟨_,rfl⟩;have a0:0<=a:=by grind
 have aA:a<=2*Y+1:=by grind
 rw[<- ha] at ht
 have r1:(s+h*(1+2*x*s))*(1-t-2*(t*t))-s=h*((1-t-2*(t*t))-h*(s*(1+2*(a*a)+2*x*(a+2*(t*a))))):=by
  rw[ht,ha];grind
 have xa:2*x<=a:=by grind
 have b1:a*a<=(2*Y+1)*(2*Y+1):=Rat.le_trans (YT aA a0) (YX aA A0);have b2:2*x*a<=a*a:=YX xa a0;have b3:2*x*a*t<=a*a*(1/4):=Rat.le_trans (YX b2 t0) (YT t4 (YV a0 a0));have aa:=YV a0 a0
 have B:1+2*(a*a)+2*x*(a+2*(t*a))<=1+8*((2*Y+1)*(2*Y+1)):=by
  have e:2*x*(a+2*(t*a))=2*x*a+2*(2*x*a*t):=by grind
  rw[e];generalize (2*Y+1)*(2*Y+1)=YY at *;generalize a*a=AA at *;generalize 2*x*a*t=u1 at *;generalize 2*x*a=u2 at *;clear r1 p1 p0 h3 ht;grind
 have b4:=YT B sx;have b5:s*(1+8*((2*Y+1)*(2*Y+1)))<=K*(1+8*((2*Y+1)*(2*Y+1))):=YX sK (by have:=YV A0 A0;grind)
 have b6:=YT (Rat.le_trans b4 b5) (YZ hh)
 have b7:0<=(1-t-2*(t*t))-h*(s*(1+2*(a*a)+2*x*(a+2*(t*a)))):=by
  generalize h*(s*(1+2*(a*a)+2*x*(a+2*(t*a))))=u1 at *;generalize h*(K*(1+8*((2*Y+1)*(2*Y+1))))=u2 at *;generalize t*t=u3 at *;clear r1 p1 p0 ht b1 b2 b3 b4 b5 B;grind
 have b8:=YV (YZ hh) b7;rw[<- r1] at b8;grind
theorem eF_step {x h Y K:Rat} (hx:0<=x) (hh:0<h) (hY:x+h<=Y) (hK:0<=K) (hS:∀ M,eS x M<=K) (h1:h<=1) (h2:4*(h*(2*Y+1))<=1) (h3:2*(h*(K*(1+8*((2*Y+1)*(2*Y+1)))))<=1):∃ z,Null z/\∃ N,∀ M,N<=M->eF x M<=eF (x+h) M+z M:=by
 obtain⟨t,ht⟩:∃ t,t=h*(2*x+h):=⟨_,rfl⟩;have a0:0<=2*x+h:=by grind
 have t0:0<=t:=by rw[ht];exact YV (YZ hh) a0
 have ta:t<=h*(2*Y+1):=by rw[ht];exact YT (by grind) (YZ hh)
 have t4:t<=1/4:=by grind
 have sqe : -((x+h)*(x+h)) = -(x*x) + -t:=by rw[ht];grind
 have mh:=zAO (x:=λ _ => -(x*x)) (y:=λ _ => -t) (Bdd.const _) (Bdd.const _)
 have eb:Bdd (eS (x+h)):=by
  obtain⟨K2,k2,cH⟩:=zJW (x:=x+h) (by grind)
  exact Bdd.of_le K2 0 λ M _=>⟨by have:=zAA (x:=x+h) (by grind) M;grind,cH M⟩
 have H6:=mh.bmul eb;obtain⟨c,c0,N0,hc⟩:=zB9 (x:=λ _ => -(x*x)) (Bdd.const _)
 have evb:=zAH (x:=λ _ => -(x*x)) (Bdd.const _)
 have hT:=(eT_null hx)
 have ao:Null (λ M=>eT x (M-1)):=λ e he=>by
  obtain⟨N,hN⟩:=hT e he;exact⟨N+1,λ M hM=>hN (M-1) (by omega)⟩
 have CT:=(ao.bmul (Bdd.const (2*x*h))).bmul evb;refine⟨_,CT.add H6,N0+2,λ M hM=>?_⟩
 have Fc:=hc M (by omega)
 have e1:eF (x+h) M=eS (x+h) M*Ev (λ _ => -(x*x) + -t) M:=by unfold eF;rw[sqe]
 obtain⟨m,rfl⟩:∃ m,M=m+1:=⟨M-1,by omega⟩
 have g:=eS_grow hx (YZ hh) m;have e2:eS x (m+1)=eS x m+eT x m:=rfl;have sx:=zAA hx (m+1);have sK:=hS (m+1);have lit:=(zBI (h := -t) (b:=t) ⟨by grind,by grind⟩ t4 (M:=m+1) (by omega)).1
 have Ke:=(zBI (h := -t) (b:=t) ⟨by grind,by grind⟩ t4 (M:=m+1) (by omega)).2
 have e3:Ev (λ _ => -t) (m+1)=E (-t) (m+1):=rfl
 have T0:=zBK hx m;simp only[Nat.add_sub_cancel] at *;rw[e1];unfold eF;generalize Ev (λ _ => -(x*x)) (m+1)=v at *
 generalize Ev (λ _ => -(x*x) + -t) (m+1)=vt at *
 rw[e3];generalize E (-t) (m+1)=q at *;generalize eS (x+h) (m+1)=s' at *;obtain⟨s,hs⟩:∃ s,s=eS x (m+1):=⟨_,rfl⟩;have e4:eS x m=s-eT x m:=by rw[hs];grind
 rw[e4,<- hs] at g;rw[<- hs] at sx sK ⊢;generalize eT x m=T at *;have q0:1-t-2*(t*t)<=q:=by grind
 have tt:t*t<=t*(h*(2*Y+1)):=YT ta t0;have A0:0<=2*Y+1:=by grind
 have tt2:t*t<=1/16:=by
  have:=YT t4 t0;grind
 have q1:0<=q:=by grind
 have key:s<=(s+h*(1+2*x*s))*q:=eF_key hx hh hY sx sK h1 ht t0 t4 h3 q0;have v0:0<=v:=by grind
 have k1:=YX key v0;have g2:s+h*(1+2*x*s)<=s'+T*(2*x*h):=by grind
 have vq:=YV v0 q1;have k2:=YX g2 vq
 have qle:q<=1:=by
  have u:=Ke;have tt3:t*t<=t*(1/4):=YT t4 t0;grind
 have w0:=YV (YV (YV hx (YZ hh)) T0) v0;have w1:=YT qle w0;have r1:(s+h*(1+2*x*s))*q*v=(s+h*(1+2*x*s))*(v*q):=by grind
 have r2:(s'+T*(2*x*h))*(v*q)=s'*(v*q)+2*(x*h*T*v*q):=by grind
 rw[r1] at k1;rw[r2] at k2;have r3:T*(2*x*h)*v=2*(x*h*T*v*1):=by grind
 have r4:(v*q-vt)*s'=s'*(v*q)-s'*vt:=by grind
 show s*v<=s'*vt+(T*(2*x*h)*v+(v*q-vt)*s')
 rw[r3,r4];generalize s'*(v*q)=g1 at *;generalize x*h*T*v*q=g2 at *;generalize x*h*T*v*1=g3 at *;generalize (s+h*(1+2*x*s))*(v*q)=g4 at *;generalize s*v=g5 at *;generalize s'*vt=g6 at *;clear key r1 r2 r3 r4 g H6 ao CT mh;grind
theorem eF_mono {x y:Rat} (hx:0<=x) (P7:x<=y):∃ z,Null z/\∃ N,∀ M,N<=M->eF x M<=eF y M+z M:=by
 by_cases heq:x=y
 ·subst heq
  exact⟨_,null_zero,0,λ M _=>by grind⟩
 have E2:0<y-x:=by grind
 have hy:0<=y:=by grind
 obtain⟨K,k0,hK⟩:=zJW hy;obtain⟨C,hC⟩:∃ C,C=(y-x)*(1+4*(2*y+1)+2*(K*(1+8*((2*y+1)*(2*y+1))))):=⟨_,rfl⟩;obtain⟨n,hn⟩:=kQ C;have n0:(0:Rat)<(n:Rat)+1:=zBN n;obtain⟨h,hh⟩:∃ h,h=(y-x)/((n:Rat)+1):=⟨_,rfl⟩;have hm:h*((n:Rat)+1)=y-x:=by rw[hh];exact rdm n0
 have h0:0<h:=by rw[hh];exact zK E2 n0
 have A0:0<=2*y+1:=by grind
 have AA:=YV A0 A0;have P0:0<=K*(1+8*((2*y+1)*(2*y+1))):=YV k0 (by grind)
 have hc:h*(1+4*(2*y+1)+2*(K*(1+8*((2*y+1)*(2*y+1)))))<=1:=by
  have h2:=hn.2;refine Rat.le_of_mul_le_mul_left (c:=(n:Rat)+1) ?_ n0;have e:((n:Rat)+1)*(h*(1+4*(2*y+1)+2*(K*(1+8*((2*y+1)*(2*y+1))))))=C:=by rw[hC,<- hm];grind
  rw[e];grind
 have c1:=YV (YZ h0) A0;have c2:=YV (YZ h0) P0;have hs:h*(1+4*(2*y+1)+2*(K*(1+8*((2*y+1)*(2*y+1)))))=h+4*(h*(2*y+1))+2*(h*(K*(1+8*((2*y+1)*(2*y+1))))):=by grind
 rw[hs] at hc
 have step:∀ i:Nat,i<=n+1->∃ z,Null z/\∃ N,∀ M,N<=M->eF x M<=eF (x+(i:Rat)*h) M+z M:=by
  intro i
  induction i with
  | zero =>
   intro _
   refine⟨_,null_zero,0,λ M _=>?_⟩
   have e:x+((0:Nat):Rat)*h=x:=by grind
   rw[e];grind
  | succ i ih =>
   intro hi
   obtain⟨z1,H6,N1,h1⟩:=ih (by omega)
   have i0:(0:Rat)<=(i:Rat):=by exact_mod_cast Nat.zero_le i
   have i1:(i:Rat)+1<=(n:Rat)+1:=by exact_mod_cast hi
   have p0:=YV i0 (YZ h0);have p1:=YX i1 (YZ h0)
   have e1:x+(i:Rat)*h+h=x+((i+1:Nat):Rat)*h:=by
    have:((i+1:Nat):Rat)=(i:Rat)+1:=by push_cast;rfl
    rw[this];grind
   have QE:x+(i:Rat)*h+h<=y:=by grind
   obtain⟨z2,ao,N2,h2⟩:=eF_step (x:=x+(i:Rat)*h) (h:=h) (Y:=y) (K:=K) (by grind) h0 QE k0 (λ M=>Rat.le_trans (zQ4 (by grind) (by grind) M) (hK M)) (by grind) (by grind) (by grind)
   rw[e1] at h2;refine⟨_,H6.add ao,N1+N2,λ M hM=>?_⟩
   have a:=h1 M (by omega)
   have b:=h2 M (by omega)
   grind
 obtain⟨z,hz,N,h9⟩:=step (n+1) (Zb _)
 have e:x+((n+1:Nat):Rat)*h=y:=by
  have:((n+1:Nat):Rat)=(n:Rat)+1:=by push_cast;rfl
  rw[this];grind
 rw[e] at h9;exact⟨z,hz,N,h9⟩
end Go.Proofs.YtgmnknmjainabacGreat.Ex
namespace Go.Proofs.YtgmnknmjainabacGreat.Ex
def LeN (f g:Nat->Rat):Prop:=∀ e:Rat,0<e->∃ N:Nat,∀ M,N<=M->f M<=g M+e
theorem LeN.refl (f:Nat->Rat):LeN f f:=λ e he=>⟨0,λ M _=>by grind⟩
theorem LeN.trans {f g h:Nat->Rat} (a:LeN f g) (b:LeN g h):LeN f h:=λ e he=>by
 obtain⟨N1,h1⟩:=a (e/2) (by grind)
 obtain⟨N2,h2⟩:=b (e/2) (by grind)
 exact⟨N1+N2,λ M hM=>by have:=h1 M (by omega);have:=h2 M (by omega);grind⟩
theorem LeN.of_le {f g:Nat->Rat} (N:Nat) (h:∀ M,N<=M->f M<=g M):LeN f g:=λ e he=>⟨N,λ M hM=>by have:=h M hM;grind⟩
theorem LeN.of_null {f g z:Nat->Rat} (hz:Null z) (N:Nat) (h:∀ M,N<=M->f M<=g M+z M):LeN f g:=λ e he=>by
 obtain⟨N1,h1⟩:=hz e he;exact⟨N+N1,λ M hM=>by have:=h M (by omega);have:=(h1 M (by omega)).2;grind⟩
theorem LeN.null {f g:Nat->Rat} (h:LeN f g):∃ z,Null z/\∀ M,f M<=g M+z M:=by
 refine⟨λ M=>if f M<=g M then 0 else f M-g M,λ e he=>?_,λ M=>?_⟩
 ·obtain⟨N,hN⟩:=h e he
  refine⟨N,λ M hM=>?_⟩
  have:=hN M hM;simp only[];split<;>constructor<;>grind
 ·simp only[];split<;>grind
theorem LeN.add {f g f' g':Nat->Rat} (a:LeN f g) (b:LeN f' g'):LeN (λ M=>f M+f' M) (λ M=>g M+g' M):=λ e he=>by
 obtain⟨N1,h1⟩:=a (e/2) (by grind)
 obtain⟨N2,h2⟩:=b (e/2) (by grind)
 exact⟨N1+N2,λ M hM=>by have:=h1 M (by omega);have:=h2 M (by omega);grind⟩
theorem LeN.eq {f g:Nat->Rat} (h:LeN f g) (k:LeN g f):Null (λ M=>f M-g M):=λ e he=>by
 obtain⟨N1,h1⟩:=h e he;obtain⟨N2,h2⟩:=k e he;exact⟨N1+N2,λ M hM=>by have:=h1 M (by omega);have:=h2 M (by omega);constructor<;>grind⟩
theorem Null.leN {f g:Nat->Rat} (h:Null (λ M=>f M-g M)):LeN f g:=λ e he=>by
 obtain⟨N,hN⟩:=h e he;exact⟨N,λ M hM=>by have:=(hN M hM).2;grind⟩
theorem Null.symm {f g:Nat->Rat} (h:Null (λ M=>f M-g M)):Null (λ M=>g M-f M):=h.neg.of_eq λ M=>by grind
theorem LeN.lim {f g:Nat->Rat} {C:Rat} (hC:0<=C) (h:∀ n:Nat,LeN f (λ M=>g M+C*(1/((n:Rat)+1)))):LeN f g:=λ e he=>by
 obtain⟨n,hn⟩:=kQ (2*C/e);have k:=h n;obtain⟨N,hN⟩:=k (e/2) (by grind)
 refine⟨N,λ M hM=>?_⟩
 have h1:=hN M hM;have n0:(0:Rat)<(n:Rat)+1:=zBN n
 have h2:C*(1/((n:Rat)+1))<=e/2:=by
  have um:1/((n:Rat)+1)*((n:Rat)+1)=1:=rdm n0;have u0:(0:Rat)<1/((n:Rat)+1):=zK (by grind) n0
  have ce:2*C/e*e=2*C:=rdm he;have h3:=YX hn.2 (YZ he);rw[ce] at h3;have h4:=YX (show 2*C<=((n:Rat)+1)*e by grind) (YZ u0)
  have e5:((n:Rat)+1)*e*(1/((n:Rat)+1))=(1/((n:Rat)+1)*((n:Rat)+1))*e:=by grind
  rw[e5,um] at h4;grind
 simp only[] at h1;grind
theorem zDX {f:Rat->Nat->Rat} {a b C D:Rat} (ny:a<=b) (hC:0<=C) (hD:0<D)
  (step:∀ x h,a<=x->0<h->h<=D->x+h<=b->∃ z,Null z/\∃ N:Nat,∀ M,N<=M->f (x+h) M<=f x M+C*(h*h)+z M):LeN (f b) (f a):=by
 by_cases heq:a=b
 ·subst heq;exact LeN.refl _
 have E2:0<b-a:=by grind
 refine LeN.lim (C:=C*((b-a)*(b-a))) (YV hC (YV (YZ E2) (YZ E2))) λ n0=>?_
 obtain⟨m,hm⟩:=kQ ((b-a)/D);obtain⟨n,hn⟩:∃ n,n=n0+m:=⟨_,rfl⟩;have Ki:(0:Rat)<(n:Rat)+1:=zBN n;obtain⟨h,hh⟩:∃ h,h=(b-a)/((n:Rat)+1):=⟨_,rfl⟩;have hmul:h*((n:Rat)+1)=b-a:=by rw[hh];exact rdm Ki
 have h0:0<h:=by rw[hh];exact zK E2 Ki
 have mn:(m:Rat)<=(n:Rat):=by exact_mod_cast (show m<=n by omega)
 have nn:(n0:Rat)<=(n:Rat):=by exact_mod_cast (show n0<=n by omega)
 have p9:h<=D:=by
  have e1:(b-a)/D*D=b-a:=rdm hD;have h1:=YX hm.2 (YZ hD);rw[e1] at h1;refine Rat.le_of_mul_le_mul_right (c:=(n:Rat)+1) ?_ Ki;rw[hmul];have:=YX mn (YZ hD);grind
 have go:∀ i:Nat,i<=n+1->∃ z,Null z/\∃ N:Nat,∀ M,N<=M->f (a+(i:Rat)*h) M<=f a M+(i:Rat)*(C*(h*h))+z M:=by
  intro i
  induction i with
  | zero =>
   intro _
   refine⟨_,null_zero,0,λ M _=>?_⟩
   have e:a+((0:Nat):Rat)*h=a:=by grind
   rw[e];grind
  | succ i ih =>
   intro hi
   obtain⟨z1,H6,N1,k1⟩:=ih (by omega)
   have i0:(0:Rat)<=(i:Rat):=by exact_mod_cast Nat.zero_le i
   have i1:(i:Rat)+1<=(n:Rat)+1:=by exact_mod_cast hi
   have p0:=YV i0 (YZ h0);have p1:=YX i1 (YZ h0);have ec:((i+1:Nat):Rat)=(i:Rat)+1:=by push_cast;rfl
   have e1:a+(i:Rat)*h+h=a+((i+1:Nat):Rat)*h:=by rw[ec];grind
   obtain⟨z2,ao,N2,k2⟩:=step (a+(i:Rat)*h) h (by grind) h0 p9 (by grind)
   rw[e1] at k2;refine⟨_,H6.add ao,N1+N2,λ M hM=>?_⟩
   have a1:=k1 M (by omega)
   have a2:=k2 M (by omega)
   rw[ec] at a2 ⊢;grind
 obtain⟨z,hz,N,k⟩:=go (n+1) (Zb _);have ec:((n+1:Nat):Rat)=(n:Rat)+1:=by push_cast;rfl
 have e:a+((n+1:Nat):Rat)*h=b:=by rw[ec];grind
 rw[e,ec] at k;refine LeN.of_null hz N λ M hM=>?_
 have k1:=k M hM;have Kj:(0:Rat)<(n0:Rat)+1:=zBN n0;have um:1/((n0:Rat)+1)*((n0:Rat)+1)=1:=rdm Kj;have u0:(0:Rat)<1/((n0:Rat)+1):=zK (by grind) Kj
 have hb:((n:Rat)+1)*(C*(h*h))<=C*((b-a)*(b-a))*(1/((n0:Rat)+1)):=by
  have e2:((n:Rat)+1)*(C*(h*h))=C*(b-a)*h:=by rw[<- hmul];grind
  rw[e2]
  have hu:h<=(b-a)*(1/((n0:Rat)+1)):=by
   refine Rat.le_of_mul_le_mul_right (c:=(n0:Rat)+1) ?_ Kj;have e3:(b-a)*(1/((n0:Rat)+1))*((n0:Rat)+1)=(b-a)*(1/((n0:Rat)+1)*((n0:Rat)+1)):=by grind
   rw[e3,um];have:=YT nn (YZ h0);grind
  have:=YT hu (YV hC (YZ E2));grind
 grind
end Go.Proofs.YtgmnknmjainabacGreat.Ex
