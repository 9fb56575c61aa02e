/-
  Its own texts.
-/
import Derived.Test.YtgmnknmjainabacGreatI23
set_option maxRecDepth 100000
set_option maxHeartbeats 40000000
set_option linter.unnecessarySimpa false
set_option linter.unusedSimpArgs false
set_option linter.unusedVariables false
namespace Go.Proofs.YtgmnknmjainabacGreat
open Go.RowKit
attribute [local go_sem ↓] Go.wp_at_zero Go.wp_at_succ
def masE (k p q r s n b:Int):Int :=
 if kN k p q r s≠0 then kN k p q r s else if k<6 then 6 else if b<8\/120<b\/n < -1048576\/1048576<n then 3 else if k=7/\100<n then 2 else 0
theorem law_k {k p q r s:Int} (h:kN k p q r s=0):1<=k/\k<=7:=by
 unfold kN at h;split at h
 ·omega
 ·omega
theorem zIF (k p q r s n b:Int) (w:World) (h0:kN k p q r s≠0) :
  Calls Tryz.prog 54 #[.agg #[.int .i64 k,.int .i64 p,.int .i64 q,.int .i64 r,.int .i64 s],.int .i64 n,.int .i64 b] w λ z w'=>z=.returned (.int .i64 (kN k p q r s))/\Below w.heap.size w w':=by
 go_enter Tryz.func54,Tryz.ntmps54
 go_wp2_with fail;refine (jI k p q r s _).mono ?_;rintro r' w1 ⟨rfl,b9⟩;have h1:(kN k p q r s != 0)=true:=by simpa using h0
 go_wp2_with fail
 go_ret
 exact⟨rfl,zB (bl1 _ _) b9⟩
theorem zGS (k p q r s n b:Int) (w:World) (h0:kN k p q r s=0) (hk:k<6) :
  Calls Tryz.prog 54 #[.agg #[.int .i64 k,.int .i64 p,.int .i64 q,.int .i64 r,.int .i64 s],.int .i64 n,.int .i64 b] w λ z w'=>z=.returned (.int .i64 6)/\Below w.heap.size w w':=by
 obtain⟨k1,k7⟩:=law_k h0;have g1:(k != 6)=true:=by simpa using (show ¬ k=6 by omega)
 have g2:(k != 7)=true:=by simpa using (show ¬ k=7 by omega)
 go_enter Tryz.func54,Tryz.ntmps54
 go_wp2_with fail;refine (jI k p q r s _).mono ?_;rintro r' w1 ⟨rfl,b9⟩;have C:LwC w1 w.heap.size k p q r s:=(kV w k p q r s _).bw b9;have hB:Below w.heap.size w w1:=zB (bl1 _ _) b9;have lC:=C.lt;obtain⟨x0,x1,x2,x3,x4⟩:=C;clear b9;rw[h0];clear h0;go_wp2_with fail
 go_ret
 exact⟨rfl,hB⟩
theorem zII (p q r s n b:Int) (w:World) (h0:kN 6 p q r s=0) (h:b<8) :
  Calls Tryz.prog 54 #[.agg #[.int .i64 6,.int .i64 p,.int .i64 q,.int .i64 r,.int .i64 s],.int .i64 n,.int .i64 b] w λ z w'=>z=.returned (.int .i64 3)/\Below w.heap.size w w':=by
 go_enter Tryz.func54,Tryz.ntmps54
 go_wp2_with fail;refine (jI 6 p q r s _).mono ?_;rintro r' w1 ⟨rfl,b9⟩;have C:LwC w1 w.heap.size 6 p q r s:=(kV w 6 p q r s _).bw b9;have hB:Below w.heap.size w w1:=zB (bl1 _ _) b9;have lC:=C.lt;obtain⟨x0,x1,x2,x3,x4⟩:=C;clear b9;rw[h0];clear h0;go_wp2_with fail
 go_ret
 exact⟨rfl,hB⟩
theorem zIJ (p q r s n b:Int) (w:World) (h0:kN 6 p q r s=0) (h1:¬ b<8) (h:120<b) :
  Calls Tryz.prog 54 #[.agg #[.int .i64 6,.int .i64 p,.int .i64 q,.int .i64 r,.int .i64 s],.int .i64 n,.int .i64 b] w λ z w'=>z=.returned (.int .i64 3)/\Below w.heap.size w w':=by
 go_enter Tryz.func54,Tryz.ntmps54
 go_wp2_with fail;refine (jI 6 p q r s _).mono ?_;rintro r' w1 ⟨rfl,b9⟩;have C:LwC w1 w.heap.size 6 p q r s:=(kV w 6 p q r s _).bw b9;have hB:Below w.heap.size w w1:=zB (bl1 _ _) b9;have lC:=C.lt;obtain⟨x0,x1,x2,x3,x4⟩:=C;clear b9;rw[h0];clear h0;go_wp2_with fail
 go_ret
 exact⟨rfl,hB⟩
theorem zIK (p q r s n b:Int) (w:World) (h0:kN 6 p q r s=0) (h1:¬ b<8) (h2:¬ 120<b) (h:n < -1048576) :
  Calls Tryz.prog 54 #[.agg #[.int .i64 6,.int .i64 p,.int .i64 q,.int .i64 r,.int .i64 s],.int .i64 n,.int .i64 b] w λ z w'=>z=.returned (.int .i64 3)/\Below w.heap.size w w':=by
 go_enter Tryz.func54,Tryz.ntmps54
 go_wp2_with fail;refine (jI 6 p q r s _).mono ?_;rintro r' w1 ⟨rfl,b9⟩;have C:LwC w1 w.heap.size 6 p q r s:=(kV w 6 p q r s _).bw b9;have hB:Below w.heap.size w w1:=zB (bl1 _ _) b9;have lC:=C.lt;obtain⟨x0,x1,x2,x3,x4⟩:=C;clear b9;rw[h0];clear h0;go_wp2_with fail
 go_ret
 exact⟨rfl,hB⟩
theorem zIL (p q r s n b:Int) (w:World) (h0:kN 6 p q r s=0) (h1:¬ b<8) (h2:¬ 120<b) (h3:¬ n < -1048576) (h:1048576<n) :
  Calls Tryz.prog 54 #[.agg #[.int .i64 6,.int .i64 p,.int .i64 q,.int .i64 r,.int .i64 s],.int .i64 n,.int .i64 b] w λ z w'=>z=.returned (.int .i64 3)/\Below w.heap.size w w':=by
 go_enter Tryz.func54,Tryz.ntmps54
 go_wp2_with fail;refine (jI 6 p q r s _).mono ?_;rintro r' w1 ⟨rfl,b9⟩;have C:LwC w1 w.heap.size 6 p q r s:=(kV w 6 p q r s _).bw b9;have hB:Below w.heap.size w w1:=zB (bl1 _ _) b9;have lC:=C.lt;obtain⟨x0,x1,x2,x3,x4⟩:=C;clear b9;rw[h0];clear h0;go_wp2_with fail
 go_ret
 exact⟨rfl,hB⟩
theorem zIG (p q r s n b:Int) (w:World) (h0:kN 6 p q r s=0) (h1:¬ b<8) (h2:¬ 120<b) (h3:¬ n < -1048576) (h4:¬ 1048576<n) :
  Calls Tryz.prog 54 #[.agg #[.int .i64 6,.int .i64 p,.int .i64 q,.int .i64 r,.int .i64 s],.int .i64 n,.int .i64 b] w λ z w'=>z=.returned (.int .i64 0)/\Below w.heap.size w w':=by
 go_enter Tryz.func54,Tryz.ntmps54
 go_wp2_with fail;refine (jI 6 p q r s _).mono ?_;rintro r' w1 ⟨rfl,b9⟩;have C:LwC w1 w.heap.size 6 p q r s:=(kV w 6 p q r s _).bw b9;have hB:Below w.heap.size w w1:=zB (bl1 _ _) b9;have lC:=C.lt;obtain⟨x0,x1,x2,x3,x4⟩:=C;clear b9;rw[h0];clear h0;go_wp2_with fail
 go_ret
 exact⟨rfl,hB⟩
theorem zIM (p q r s n b:Int) (w:World) (h0:kN 7 p q r s=0) (h:b<8) :
  Calls Tryz.prog 54 #[.agg #[.int .i64 7,.int .i64 p,.int .i64 q,.int .i64 r,.int .i64 s],.int .i64 n,.int .i64 b] w λ z w'=>z=.returned (.int .i64 3)/\Below w.heap.size w w':=by
 go_enter Tryz.func54,Tryz.ntmps54
 go_wp2_with fail;refine (jI 7 p q r s _).mono ?_;rintro r' w1 ⟨rfl,b9⟩;have C:LwC w1 w.heap.size 7 p q r s:=(kV w 7 p q r s _).bw b9;have hB:Below w.heap.size w w1:=zB (bl1 _ _) b9;have lC:=C.lt;obtain⟨x0,x1,x2,x3,x4⟩:=C;clear b9;rw[h0];clear h0;go_wp2_with fail
 go_ret
 exact⟨rfl,hB⟩
theorem zIN (p q r s n b:Int) (w:World) (h0:kN 7 p q r s=0) (h1:¬ b<8) (h:120<b) :
  Calls Tryz.prog 54 #[.agg #[.int .i64 7,.int .i64 p,.int .i64 q,.int .i64 r,.int .i64 s],.int .i64 n,.int .i64 b] w λ z w'=>z=.returned (.int .i64 3)/\Below w.heap.size w w':=by
 go_enter Tryz.func54,Tryz.ntmps54
 go_wp2_with fail;refine (jI 7 p q r s _).mono ?_;rintro r' w1 ⟨rfl,b9⟩;have C:LwC w1 w.heap.size 7 p q r s:=(kV w 7 p q r s _).bw b9;have hB:Below w.heap.size w w1:=zB (bl1 _ _) b9;have lC:=C.lt;obtain⟨x0,x1,x2,x3,x4⟩:=C;clear b9;rw[h0];clear h0;go_wp2_with fail
 go_ret
 exact⟨rfl,hB⟩
theorem zIO (p q r s n b:Int) (w:World) (h0:kN 7 p q r s=0) (h1:¬ b<8) (h2:¬ 120<b) (h:n < -1048576) :
  Calls Tryz.prog 54 #[.agg #[.int .i64 7,.int .i64 p,.int .i64 q,.int .i64 r,.int .i64 s],.int .i64 n,.int .i64 b] w λ z w'=>z=.returned (.int .i64 3)/\Below w.heap.size w w':=by
 go_enter Tryz.func54,Tryz.ntmps54
 go_wp2_with fail;refine (jI 7 p q r s _).mono ?_;rintro r' w1 ⟨rfl,b9⟩;have C:LwC w1 w.heap.size 7 p q r s:=(kV w 7 p q r s _).bw b9;have hB:Below w.heap.size w w1:=zB (bl1 _ _) b9;have lC:=C.lt;obtain⟨x0,x1,x2,x3,x4⟩:=C;clear b9;rw[h0];clear h0;go_wp2_with fail
 go_ret
 exact⟨rfl,hB⟩
theorem zIP (p q r s n b:Int) (w:World) (h0:kN 7 p q r s=0) (h1:¬ b<8) (h2:¬ 120<b) (h3:¬ n < -1048576) (h:1048576<n) :
  Calls Tryz.prog 54 #[.agg #[.int .i64 7,.int .i64 p,.int .i64 q,.int .i64 r,.int .i64 s],.int .i64 n,.int .i64 b] w λ z w'=>z=.returned (.int .i64 3)/\Below w.heap.size w w':=by
 go_enter Tryz.func54,Tryz.ntmps54
 go_wp2_with fail;refine (jI 7 p q r s _).mono ?_;rintro r' w1 ⟨rfl,b9⟩;have C:LwC w1 w.heap.size 7 p q r s:=(kV w 7 p q r s _).bw b9;have hB:Below w.heap.size w w1:=zB (bl1 _ _) b9;have lC:=C.lt;obtain⟨x0,x1,x2,x3,x4⟩:=C;clear b9;rw[h0];clear h0;go_wp2_with fail
 go_ret
 exact⟨rfl,hB⟩
theorem zJX (p q r s n b:Int) (w:World) (h0:kN 7 p q r s=0) (h1:¬ b<8) (h2:¬ 120<b) (h3:¬ n < -1048576) (h4:¬ 1048576<n) (h:100<n) :
  Calls Tryz.prog 54 #[.agg #[.int .i64 7,.int .i64 p,.int .i64 q,.int .i64 r,.int .i64 s],.int .i64 n,.int .i64 b] w λ z w'=>z=.returned (.int .i64 2)/\Below w.heap.size w w':=by
 go_enter Tryz.func54,Tryz.ntmps54
 go_wp2_with fail;refine (jI 7 p q r s _).mono ?_;rintro r' w1 ⟨rfl,b9⟩;have C:LwC w1 w.heap.size 7 p q r s:=(kV w 7 p q r s _).bw b9;have hB:Below w.heap.size w w1:=zB (bl1 _ _) b9;have lC:=C.lt;obtain⟨x0,x1,x2,x3,x4⟩:=C;clear b9;rw[h0];clear h0;go_wp2_with fail
 go_ret
 exact⟨rfl,hB⟩
theorem zIH (p q r s n b:Int) (w:World) (h0:kN 7 p q r s=0) (h1:¬ b<8) (h2:¬ 120<b) (h3:¬ n < -1048576) (h4:¬ 1048576<n) (h:¬ 100<n) :
  Calls Tryz.prog 54 #[.agg #[.int .i64 7,.int .i64 p,.int .i64 q,.int .i64 r,.int .i64 s],.int .i64 n,.int .i64 b] w λ z w'=>z=.returned (.int .i64 0)/\Below w.heap.size w w':=by
 go_enter Tryz.func54,Tryz.ntmps54
 go_wp2_with fail;refine (jI 7 p q r s _).mono ?_;rintro r' w1 ⟨rfl,b9⟩;have C:LwC w1 w.heap.size 7 p q r s:=(kV w 7 p q r s _).bw b9;have hB:Below w.heap.size w w1:=zB (bl1 _ _) b9;have lC:=C.lt;obtain⟨x0,x1,x2,x3,x4⟩:=C;clear b9;rw[h0];clear h0;go_wp2_with fail
 go_ret
 exact⟨rfl,hB⟩
theorem zIE (k p q r s n b:Int) (w:World) :
  Calls Tryz.prog 54 #[.agg #[.int .i64 k,.int .i64 p,.int .i64 q,.int .i64 r,.int .i64 s],.int .i64 n,.int .i64 b] w λ z w'=>z=.returned (.int .i64 (masE k p q r s n b))/\Below w.heap.size w w':=by
 unfold masE
 by_cases h0:kN k p q r s=0
 ·rw[if_neg (by simpa using h0)]
  obtain⟨k1,k7⟩:=law_k h0
  by_cases hk:k<6
  ·rw[if_pos hk];exact zGS k p q r s n b w h0 hk
  ·rw[if_neg hk]
   have aJ:k=6\/k=7:=by omega
   by_cases g1:b<8
   ·rw[if_pos (Or.inl g1)]
    rcases aJ with h|h
    ·subst h;exact zII p q r s n b w h0 g1
    ·subst h;exact zIM p q r s n b w h0 g1
   by_cases g2:120<b
   ·rw[if_pos (Or.inr (Or.inl g2))]
    rcases aJ with h|h
    ·subst h;exact zIJ p q r s n b w h0 g1 g2
    ·subst h;exact zIN p q r s n b w h0 g1 g2
   by_cases g3:n < -1048576
   ·rw[if_pos (Or.inr (Or.inr (Or.inl g3)))]
    rcases aJ with h|h
    ·subst h;exact zIK p q r s n b w h0 g1 g2 g3
    ·subst h;exact zIO p q r s n b w h0 g1 g2 g3
   by_cases g4:1048576<n
   ·rw[if_pos (Or.inr (Or.inr (Or.inr g4)))]
    rcases aJ with h|h
    ·subst h;exact zIL p q r s n b w h0 g1 g2 g3 g4
    ·subst h;exact zIP p q r s n b w h0 g1 g2 g3 g4
   rw[if_neg (by omega)]
   rcases aJ with h|h
   ·rw[if_neg (by omega)];subst h;exact zIG p q r s n b w h0 g1 g2 g3 g4
   ·by_cases g5:100<n
    ·rw[if_pos ⟨h,g5⟩];subst h;exact zJX p q r s n b w h0 g1 g2 g3 g4 g5
    ·rw[if_neg (by omega)];subst h;exact zIH p q r s n b w h0 g1 g2 g3 g4 g5
 ·rw[if_pos h0];exact zIF k p q r s n b w h0
theorem zNM (w:World) (b:Nat) (hb:b<=2000) :
  Calls Tryz.prog 100 #[.int .i64 b] w (zH w b 6000 (ofI 0 1 b).1 (ofI 0 1 b).2):=by
 have R:=zQ w 31
 go_enter Tryz.func100,Tryz.ntmps100
 go_wp2_with fail;refine (zD 0 _ (by decide) (by decide)).mono ?_
 rintro r' w1 ⟨m7,a1,n1,c1,rfl,o8,b9⟩;replace R:=R.bw b9;have hB:Below w.heap.size w w1:=zB (bl1 _ _) b9;clear b9;go_wp2_with fail;refine (zD 1 _ (by decide) (by decide)).mono ?_
 rintro r' w2 ⟨j6,a2,n2,c2,rfl,A5,j8⟩;replace R:=R.bw j8;replace hB:=zB hB j8;replace o8:=o8.bw j8;clear j8;go_wp2_with fail;refine (jP _ _ _ _ _ _ _ _ 4 4 b 0 1 _ o8 A5 (by omega) (by omega) (by decide)).mono ?_
 rintro r' w3 ⟨v3,rfl,G3,aT,m9⟩;replace hB:=zB hB m9;obtain⟨q0,q1,q2,q3,q4,q5⟩:=R.bw m9;have hO:=zC G3;clear G3 m9 R;go_wp2_with fail;refine bodyPost_ret (v:=.agg v3.q) (by simp[results,Tryz.results100,go_sem,q0,q1,q2,q3,q4]) rfl ⟨v3,rfl,zA hO,?_,?_⟩
 ·exact SpAt.put5 (SpAt.mono aT (by omega)) q0 q1 q2 q3 q4 _ _ _ _ _
 ·exact jY hB (YE _) _ _ _ _ _
theorem just_big (w:World) (p q r s n:Int) (b:Nat) (hb:b<=2000) (hn:¬ n<0) (hp:p<n) :
  Calls Tryz.prog 57 #[.agg #[.int .i64 6,.int .i64 p,.int .i64 q,.int .i64 r,.int .i64 s],.int .i64 n,.int .i64 b] w (λ zz w'=>∃ lo hi,zEL (λ _=>((0:Int):Rat)/((1:Int):Rat)) b lo hi/\zH w b 6000 lo hi zz w'):=by
 have M9:=zC (of_pr (N:=0) (D:=1) b (by decide) (by decide) (by decide))
 obtain⟨W,hW⟩:∃ W,W=(w.alloc (.cells #[.int .i64 6,.int .i64 p,.int .i64 q,.int .i64 r,.int .i64 s] 25)).alloc (.cells zCq 31):=⟨_,rfl⟩;have j7:Below w.heap.size w W:=by rw[hW];exact bl2 _ _ _
 have C:LwC W w.heap.size 6 p q r s:=by rw[hW];exact (kV w 6 p q r s _).bw (bl1 _ _)
 have R:NoC W (w.heap.size+1):=by rw[hW];constructor<;>simp[go_sem]
 have lC:=C.lt;have lR:=R.lt;obtain⟨x0,x1,x2,x3,x4⟩:=C
 go_enter Tryz.func57,Tryz.ntmps57
 go_wp2_with fail;rw[<- hW];clear hW;refine (zNM _ b (by omega)).mono ?_
 rintro r' w3 ⟨v3,rfl,G3,aT,m9⟩;obtain⟨q0,q1,q2,q3,q4,q5⟩:=R.bw m9;have hB:=zB j7 m9;have HV:=zC G3;clear G3 m9 x0 x1 x2 x3 x4;go_wp2_with fail;refine bodyPost_ret (v:=.agg v3.q) (by simp[results,Tryz.results57,go_sem,q0,q1,q2,q3,q4]) rfl ⟨_,_,zA M9,v3,rfl,zA HV,?_,?_⟩
 ·exact SpAt.put5 aT q0 q1 q2 q3 q4 _ _ _ _ _
 ·exact jY hB (Nat.le_succ _) _ _ _ _ _
theorem zUG {p n:Nat} (h:n<=p) (r s:Int):wayF (r ^ n*(s-r) ^ ((p:Int).toNat-n)) ((p:Int)-(n:Int)) n=(ch p n:Int)*(r ^ n*(s-r) ^ (p-n)):=by
 rw[show (p:Int)-(n:Int)=((p-n:Nat):Int) by omega,wayF_ch,show p-n+n=p by omega,show (p:Int).toNat=p by omega,Int.mul_comm]
theorem way_le {p n:Nat} (h:n<=p) {r s:Int} (hr:0<=r) (hs:r<=s):0<=(ch p n:Int)*(r ^ n*(s-r) ^ (p-n))/\(ch p n:Int)*(r ^ n*(s-r) ^ (p-n))<=s ^ p:=by
 obtain⟨a,ha⟩:∃ a:Nat,r=(a:Int):=⟨r.toNat,by omega⟩
 obtain⟨c,hc⟩:∃ c:Nat,s-r=(c:Int):=⟨(s-r).toNat,by omega⟩
 have Ky:s=((a+c:Nat):Int):=by omega
 have h1:=ch_le a c p n h;have h2:((ch p n*a ^ n*c ^ (p-n):Nat):Int)<=(((a+c) ^ p:Nat):Int):=by omega
 rw[Int.natCast_mul,Int.natCast_mul,Int.natCast_pow,Int.natCast_pow,Int.natCast_pow] at h2;rw[hc,ha,Ky,<- Int.mul_assoc];refine⟨?_,h2⟩;have:0<=((ch p n*a ^ n*c ^ (p-n):Nat):Int):=by omega
 rw[Int.natCast_mul,Int.natCast_mul,Int.natCast_pow,Int.natCast_pow] at this;exact this
theorem zOX (w:World) (q r s:Int) (p n b:Nat) (hb:b<=2000) (hn:n<=p) (hp:p<=100) (hr:0<=r) (FJ:r<=s) (mr:1<=s) (hs:s<=1024) :
  Calls Tryz.prog 57 #[.agg #[.int .i64 6,.int .i64 (p:Int),.int .i64 q,.int .i64 r,.int .i64 s],.int .i64 n,.int .i64 b] w (λ zz w'=>∃ lo hi,zEL (λ _=>(((ch p n:Int)*(r ^ n*(s-r) ^ (p-n)):Int):Rat)/((s ^ p:Int):Rat)) b lo hi/\zH w b 6000 lo hi zz w'):=by
 have O8:0<s ^ p:=Int.pow_pos (by omega)
 obtain⟨v0,v1⟩:=way_le hn hr FJ;have M9:=zC (of_pr b v0 O8 v1);have Vr:=zC (zUG hn r s);clear v0 v1;obtain⟨W,hW⟩:∃ W,W=(w.alloc (.cells #[.int .i64 6,.int .i64 (p:Int),.int .i64 q,.int .i64 r,.int .i64 s] 25)).alloc (.cells zCq 31):=⟨_,rfl⟩;have j7:Below w.heap.size w W:=by rw[hW];exact bl2 _ _ _
 have C:LwC W w.heap.size 6 (p:Int) q r s:=by rw[hW];exact (kV w 6 (p:Int) q r s _).bw (bl1 _ _)
 have R:NoC W (w.heap.size+1):=by rw[hW];constructor<;>simp[go_sem]
 have lC:=C.lt;have lR:=R.lt;have HK:=zC (show ∀ w',Below W.heap.size W w'->(w'.cell? ⟨w.heap.size,0,none⟩=some (.int .i64 6)/\w'.cell? ⟨w.heap.size,1,none⟩=some (.int .i64 (p:Int))/\w'.cell? ⟨w.heap.size,2,none⟩=some (.int .i64 q)/\w'.cell? ⟨w.heap.size,3,none⟩=some (.int .i64 r)/\w'.cell? ⟨w.heap.size,4,none⟩=some (.int .i64 s)) from λ w' hB=>⟨(C.bw hB).c0,(C.bw hB).c1,(C.bw hB).c2,(C.bw hB).c3,(C.bw hB).c4⟩)
 have cT:¬ (n:Int)<0:=by omega
 have gN:¬ (p:Int)<(n:Int):=by omega
 have m1:w.heap.size≠w.heap.size+1:=by omega
 have m2:w.heap.size+1≠w.heap.size:=by omega
 have A9:Below W.heap.size W W.drew:=(Below.refl _ _).drew;obtain⟨x0,x1,x2,x3,x4⟩:=C
 go_enter Tryz.func57,Tryz.ntmps57
 go_wp2_with fail
 try rw[<- hW]
 clear hW
 go_region_held3 (λ w'=>w'.cell? ⟨w.heap.size,0,none⟩=some (.int .i64 6)/\w'.cell? ⟨w.heap.size,1,none⟩=some (.int .i64 (p:Int))/\w'.cell? ⟨w.heap.size,2,none⟩=some (.int .i64 q)/\w'.cell? ⟨w.heap.size,3,none⟩=some (.int .i64 r)/\w'.cell? ⟨w.heap.size,4,none⟩=some (.int .i64 s)) (first|exact zA HK _ (by with_reducible first|exact A9|exact E9|exact s9|exact p9)|go_keep)
  (first
   | (go_at_call 88;have K4:=s9;refine (jP _ _ _ _ _ _ _ _ 2500 500 b _ (s ^ p) _ ((o8.bw j8).mono (by omega)) (A5.mono (by omega)) (by omega) (by omega) O8).mono ?_;rintro r' w3 ⟨u,rfl,B8,B7,m9⟩;have E9:=zB s9 m9;obtain⟨q0,q1,q2,q3,q4,q5⟩:=R.bw E9;have HV:=zC B8;clear B8;obtain⟨y0,y1,y2,y3,y4⟩:=zA HK _ E9;have aT:=SpAt.mono B7 (show 2500+b/16+20<=6000 by omega))
   | (go_at_call 102;have K4:=p9;refine (zBB s p _ (by omega) (by omega) (by omega)).mono ?_;rintro r' w2 ⟨j6,a2,n2,c2,rfl,A5,j8⟩;have s9:=zB p9 j8)
   | (go_at_call 101;refine (zOD 6 p q r s n _ (by omega) (by omega) hr FJ hs).mono ?_;rintro r' w1 ⟨m7,a1,n1,c1,rfl,o8,b9⟩;have p9:=zB A9 b9;rw[zA Vr] at o8))
 all_goals
  go_wp2_with fail;refine bodyPost_ret (v:=.agg u.q) (by simp[results,Tryz.results57,go_sem,q0,q1,q2,q3,q4]) rfl ⟨_,_,zA M9,u,rfl,zA HV,?_,?_⟩
  ·exact SpAt.put5 aT q0 q1 q2 q3 q4 _ _ _ _ _
  ·exact jY (zB j7 E9) (Nat.le_succ _) _ _ _ _ _
theorem zRW (w:World) (p q r s:Int) (n b:Nat) (E6:40<=b) (hb:b<=2000) (hn:n<=100) (hrk:rok p q) (hp:0<=p) (I2:p<=100*q) :
  Calls Tryz.prog 57 #[.agg #[.int .i64 7,.int .i64 p,.int .i64 q,.int .i64 r,.int .i64 s],.int .i64 n,.int .i64 b] w (λ zz w'=>∃ lo hi,zEL (zDS p q n) b lo hi/\zH w b 6000 lo hi zz w'):=by
 obtain⟨W,hW⟩:∃ W,W=(w.alloc (.cells #[.int .i64 7,.int .i64 p,.int .i64 q,.int .i64 r,.int .i64 s] 25)).alloc (.cells zCq 31):=⟨_,rfl⟩;have j7:Below w.heap.size w W:=by rw[hW];exact bl2 _ _ _
 have C:LwC W w.heap.size 7 p q r s:=by rw[hW];exact (kV w 7 p q r s _).bw (bl1 _ _)
 have R:NoC W (w.heap.size+1):=by rw[hW];constructor<;>simp[go_sem]
 have lC:=C.lt;have lR:=R.lt;have cT:¬ (n:Int)<0:=by omega
 obtain⟨x0,x1,x2,x3,x4⟩:=C
 go_enter Tryz.func57,Tryz.ntmps57
 go_wp2_with fail;rw[<- hW];clear hW;refine (zPH _ p q n b hrk hp I2 hn E6 hb).mono ?_;rintro r' w3 ⟨lo,hi,I3,v3,rfl,G3,aT,m9⟩;obtain⟨q0,q1,q2,q3,q4,q5⟩:=R.bw m9;have hB:=zB j7 m9;have HV:=zC G3;have M9:=zC I3;clear G3 m9 x0 x1 x2 x3 x4 I3;go_wp2_with fail;refine bodyPost_ret (v:=.agg v3.q) (by simp[results,Tryz.results57,go_sem,q0,q1,q2,q3,q4]) rfl ⟨_,_,zA M9,v3,rfl,zA HV,?_,?_⟩
 ·exact SpAt.put5 aT q0 q1 q2 q3 q4 _ _ _ _ _
 ·exact jY hB (Nat.le_succ _) _ _ _ _ _
def MasAt (w:World) (B1 B2:Nat) (k p q r s n:Int):Prop:=LwC w B1 k p q r s/\w.cell? ⟨B2,0,none⟩=some (.int .i64 n)
theorem MasAt.bw {w w':World} {B1 B2:Nat} {k p q r s n:Int} (h:MasAt w B1 B2 k p q r s n) (hb:Below w.heap.size w w'):MasAt w' B1 B2 k p q r s n :=
 ⟨h.1.bw hb,(hb.cell (p:=⟨B2,0,none⟩) (World.block_lt_of_cell? w ⟨B2,0,none⟩ h.2)).trans h.2⟩
theorem mass1_of (b:Nat) (B1 B2:Nat) (w:World) (k p q r s n:Int) (x:Nat->Rat) (h:MasAt w B1 B2 k p q r s n)
  (hJ:∀ w',Calls Tryz.prog 57 #[.agg #[.int .i64 k,.int .i64 p,.int .i64 q,.int .i64 r,.int .i64 s],.int .i64 n,.int .i64 b] w' (λ r I9=>∃ lo hi,zEL x b lo hi/\zH w' b 6000 lo hi r I9)) :
  Calls Tryz.prog 56 #[.int .i64 b,.pointer (some ⟨B1,0,none⟩),.pointer (some ⟨B2,0,none⟩)] w (λ zz w'=>∃ lo hi,zEL x b lo hi/\zH w b 6000 lo hi zz w'):=by
 have HJ:=zC hJ;clear hJ;obtain⟨⟨x0,x1,x2,x3,x4⟩,y0⟩:=h;have l1:=World.block_lt_of_cell? w ⟨B1,0,none⟩ x0;have l2:=World.block_lt_of_cell? w ⟨B2,0,none⟩ y0
 go_enter Tryz.func56,Tryz.ntmps56
 go_wp2_with fail;refine (zA HJ _).mono ?_;rintro r' w1 ⟨lo,hi,I3,u,rfl,B8,B7,b9⟩;obtain⟨q0,q1,q2,q3,q4,q5⟩:=(zQ w 31).bw b9;have hB:Below w.heap.size w w1:=zB (bl1 _ _) b9;have G8:=zC B8;have M9:=zC I3;clear B8 b9 I3;go_wp2_with fail;refine bodyPost_ret (v:=.agg u.q) (by simp[results,Tryz.results56,go_sem,q0,q1,q2,q3,q4]) rfl ⟨lo,hi,zA M9,u,rfl,zA G8,?_,?_⟩
 ·exact SpAt.put5 B7 q0 q1 q2 q3 q4 _ _ _ _ _
 ·exact jY hB (YE _) _ _ _ _ _
theorem zLU (w:World) (k p q r s n:Int) (b:Nat) (x:Nat->Rat) (h5:8<=b) (h6:b<=120) (hE:masE k p q r s n b=0)
  (hJ:∀ (m:Nat) w',40<=m->m<=2000->Calls Tryz.prog 57 #[.agg #[.int .i64 k,.int .i64 p,.int .i64 q,.int .i64 r,.int .i64 s],.int .i64 n,.int .i64 m] w' (λ r I9=>∃ lo hi,zEL x m lo hi/\zH w' m 6000 lo hi r I9)) :
  Calls Tryz.prog 19 #[.agg #[.int .i64 k,.int .i64 p,.int .i64 q,.int .i64 r,.int .i64 s],.int .i64 n,.int .i64 b] w (λ r w'=>∃ L H,zFT b (zEL x) L H/\zC3 w b 250 L H 0 r w'):=by
 have HJ:=zC hJ;have HE:=zC hE;clear hJ hE
 go_enter Tryz.func19,Tryz.ntmps19
 go_wp2_with fail;refine (zIE k p q r s n b _).mono ?_;rintro r' w1 ⟨rfl,b9⟩;rw[zA HE];have C:MasAt w1 w.heap.size (w.heap.size+1) k p q r s n:=MasAt.bw ⟨⟨by simp[go_sem],by simp[go_sem],by simp[go_sem],by simp[go_sem],by simp[go_sem]⟩,by simp[go_sem]⟩ b9
 have R:NoC w1 (w.heap.size+1+1):=NoC.bw ⟨by simp[go_sem],by simp[go_sem],by simp[go_sem],by simp[go_sem],by simp[go_sem],λ o=>by simp[go_sem]⟩ b9
 have hB:Below w.heap.size w w1:=zB (bl3 _ _ _ _) b9;have lR:=R.lt;clear b9;go_wp2_with fail;refine (zN8 _ _ en_mass b 1702 6000 (zEL x) _ h6 (by omega) (by omega) (mas_ends b x h6) (λ m w' hm K5 B9=>?_)).mono ?_
 ·rw[show ((b:Int)+(m:Int))=((b+m:Nat):Int) by omega]
  exact mass1_of (b+m) w.heap.size (w.heap.size+1) w' k p q r s n x (C.bw B9) (λ I9=>zA HJ (b+m) I9 (by omega) (by omega))
 rintro r' w3 ⟨L,H,hS,u,rfl,B8,B7,m9⟩;obtain⟨q0,q1,q2,q3,q4,q5⟩:=R.bw m9;replace hB:=zB hB m9;have G8:=zC B8;have Hp:=zC hS;clear B8 hS;go_wp2_with fail;refine bodyPost_ret (v:=.tuple #[.agg u.q,.int .i64 0]) (by simp[results,Tryz.results19,go_sem,q0,q1,q2,q3,q4]) rfl ⟨L,H,zA Hp,u,rfl,zA G8,?_,?_⟩
 ·exact SpAt.put5 B7 q0 q1 q2 q3 q4 _ _ _ _ _
 ·exact jY hB (by omega) _ _ _ _ _
open Ex
theorem zIX {n d n2 d2:Int} (d0:0<d) (d20:0<d2) (hle:n*d2<=n2*d):(n:Rat)/(d:Rat)<=(n2:Rat)/(d2:Rat):=by
 have dr:(0:Rat)<(d:Rat):=by exact_mod_cast d0
 have Ce:(0:Rat)<(d2:Rat):=by exact_mod_cast d20
 refine jM Ce (Rat.le_of_mul_le_mul_right (c:=(d:Rat)) ?_ dr);have c:=zZ hle;rw[YG,YG] at c;have r:=rdm (a:=(n:Rat)) dr;have e:(n:Rat)/(d:Rat)*(d2:Rat)*(d:Rat)=(n:Rat)/(d:Rat)*(d:Rat)*(d2:Rat):=by grind
 rw[e,r];exact c
theorem zKI {y z:Rat} (y0:0<=y) (h:y<z):∃ s:Rat,0<=s/\y<=s*s/\s*s<=z:=by
 have dz:0<z-y:=by grind
 obtain⟨k,hk⟩:=kB ((2*z+3)/(z-y));obtain⟨s,s0,s1,s2⟩:=root0 z (by grind) k
 have k0:(0:Rat)<(k:Rat)+1:=zAV k;have kk:(0:Rat)<=(k:Rat):=by exact_mod_cast Nat.zero_le k
 have um:=rdm (a:=1) k0;have u0:(0:Rat)<=1/((k:Rat)+1):=jW k0 (by grind)
 obtain⟨u,hu⟩:∃ u,u=1/((k:Rat)+1):=⟨_,rfl⟩;rw[<- hu] at s2 um u0;have u1:u<=1:=by have:=Yz u0 kk;grind
 have st:=zI2 s0 s1 u0 u1;have r:=rdm (a:=2*z+3) dz;have m1:=YB hk.2 (YC dz);rw[r] at m1;have m2:=YB m1 u0;have e2:(k:Rat)*(z-y)*u=(z-y)*((k:Rat)*u):=by grind
 have e3:(k:Rat)*u=1-u:=by grind
 have m3:=Yz (YC dz) u0;rw[e2,e3] at m2;refine⟨s,s0,?_,s1⟩;grind
theorem zRE {R:Nat->Rat} (hR:yE piS R) {y z:Rat} {r t:Nat->Rat} (hy:RtOf y r) (hz:RtOf z t) (h:y<z):LeN (zC9 R y r) (zC9 R z t):=by
 obtain⟨s,s0,s1,s2⟩:=zKI hy.y0 h;exact (zRD hR hy s0 s1).trans (zRC hR hz s0 s2)
theorem zSV {R R2:Nat->Rat} (hR:yE piS R) (h2:yE (λ _=>(2:Rat)) R2) {p q p2 q2:Int} (hq:0<q) (O2:0<q2) (h:zGV p q<=zGV p2 q2):LeN (zC9 R (nrY p q) (nrR R2 p q)) (zC9 R (nrY p2 q2) (nrR R2 p2 q2)):=by
 have a0:=(zLA (p:=p) hq).1
 by_cases e:zGV p q=zGV p2 q2
 ·have e1:nrY p q=nrY p2 q2:=by rw[zJ5 hq,zJ5 O2,e]
  have e2:nrR R2 p q=nrR R2 p2 q2:=by funext M;unfold nrR;rw[e]
  rw[e1,e2];exact LeN.refl _
 ·refine zRE hR (zO9 h2 hq) (zO9 h2 O2) ?_
  rw[zJ5 hq,zJ5 O2];have lt:zGV p q<zGV p2 q2:=by grind
  have m1:=Yy h a0;have m2:=Rat.mul_lt_mul_of_pos_right lt (show 0<zGV p2 q2 by grind)
  grind
theorem half_leN {f g:Nat->Rat} (h:LeN f g):LeN (λ M=>(1:Int)/((2:Int):Rat)*(1+f M)) (λ M=>(1:Int)/((2:Int):Rat)*(1+g M)):=λ e he=>by
 obtain⟨N,k⟩:=h e he;have e2:((2:Int):Rat)=2:=rfl;have e1:((1:Int):Rat)=1:=rfl;rw[e1,e2];exact⟨N,λ M hM=>by have:=k M hM;simp only[];grind⟩
theorem nor_mono {R R2:Nat->Rat} (hR:yE piS R) (h2:yE (λ _=>(2:Rat)) R2) {p q p2 q2:Int} (hq:0<q) (O2:0<q2) (hle:p*q2<=p2*q):LeN (nrV (zC9 R (nrY p q) (nrR R2 p q)) p) (nrV (zC9 R (nrY p2 q2) (nrR R2 p2 q2)) p2):=by
 have ql:=zIX hq O2 hle;have neg:∀ a b:Int,-(a:Rat)/(b:Rat) = -((a:Rat)/(b:Rat)):=λ a b=>by rw[YK,YK,Rat.neg_mul]
 have z0:∀ b:Int,((0:Int):Rat)/(b:Rat)=0:=λ b=>by rw[YK];exact Rat.zero_mul _
 have ab:∀ a b:Int,¬ 0<a->zGV a b = -((a:Rat)/(b:Rat)):=λ a b h=>by
  unfold zGV
  by_cases hn:a<0
  ·rw[if_pos hn,neg]
  ·have:a=0:=by omega
   subst this;rw[if_neg hn,z0];rfl
 have ap:∀ a b:Int,0<a->zGV a b=(a:Rat)/(b:Rat):=λ a b h=>by unfold zGV;rw[if_neg (by omega)]
 refine half_leN (f:=nrE (zC9 R (nrY p q) (nrR R2 p q)) p) (g:=nrE (zC9 R (nrY p2 q2) (nrR R2 p2 q2)) p2) ?_
 by_cases hp:0<p
 ·have np:0<p*q2:=Int.mul_pos hp O2
  have I2:0<p2:=Int.not_le.1 λ h=>by
   have:=YF (show 0 <= -p2 by omega) (show 0<=q by omega)
   have e : -p2*q = -(p2*q):=by grind
   omega
  have e1:nrE (zC9 R (nrY p q) (nrR R2 p q)) p=zC9 R (nrY p q) (nrR R2 p q):=by funext M;unfold nrE;rw[if_pos hp]
  have e2:nrE (zC9 R (nrY p2 q2) (nrR R2 p2 q2)) p2=zC9 R (nrY p2 q2) (nrR R2 p2 q2):=by funext M;unfold nrE;rw[if_pos I2]
  rw[e1,e2];exact zSV hR h2 hq O2 (by rw[ap _ _ hp,ap _ _ I2];exact ql)
 ·have e1:nrE (zC9 R (nrY p q) (nrR R2 p q)) p=λ M => -zC9 R (nrY p q) (nrR R2 p q) M:=by funext M;unfold nrE;rw[if_neg hp]
  rw[e1]
  by_cases I2:0<p2
  ·have e2:nrE (zC9 R (nrY p2 q2) (nrR R2 p2 q2)) p2=zC9 R (nrY p2 q2) (nrR R2 p2 q2):=by funext M;unfold nrE;rw[if_pos I2]
   rw[e2];refine LeN.of_le 1 λ M hM=>?_
   have a:=zF2 hR (zO9 h2 (p:=p) hq) hM;have b:=zF2 hR (zO9 h2 (p:=p2) O2) hM;grind
  ·have e2:nrE (zC9 R (nrY p2 q2) (nrR R2 p2 q2)) p2=λ M => -zC9 R (nrY p2 q2) (nrR R2 p2 q2) M:=by funext M;unfold nrE;rw[if_neg I2]
   rw[e2];refine leN_opp (zSV hR h2 O2 hq ?_);rw[ab _ _ hp,ab _ _ I2];grind
def noX (R R2:Nat->Rat) (p q r s n d:Int):Nat->Rat:=nrV (zC9 R (nrY ((n*q-p*d)*s) (d*q*r)) (nrR R2 ((n*q-p*d)*s) (d*q*r))) ((n*q-p*d)*s)
theorem noX_mono {R R2:Nat->Rat} (hR:yE piS R) (h2:yE (λ _=>(2:Rat)) R2) {p q r s n d n2 d2:Int} (q0:0<q) (r0:0<r) (s0:0<s) (d0:0<d) (d20:0<d2) (hle:n*d2<=n2*d):LeN (noX R R2 p q r s n d) (noX R R2 p q r s n2 d2):=by
 refine nor_mono hR h2 (Int.mul_pos (Int.mul_pos d0 q0) r0) (Int.mul_pos (Int.mul_pos d20 q0) r0) ?_;have c:0<=q*q*(s*r):=YF (YF (by omega) (by omega)) (YF (by omega) (by omega))
 have m:=YA hle c;have e1:(n*q-p*d)*s*(d2*q*r)=n*d2*(q*q*(s*r))-p*d*d2*(q*(s*r)):=by grind
 have e2:(n2*q-p*d2)*s*(d*q*r)=n2*d*(q*q*(s*r))-p*d*d2*(q*(s*r)):=by grind
 rw[e1,e2];omega
def waX (p q n d:Int):Nat->Rat:=if n<=0 then λ _=>0 else λ M=>1-Ev (λ _=>((-p*n:Int):Rat)/((q*d:Int):Rat)) M
theorem ex_one0:LeN (ex 0) (λ _=>1):=LeN.of_le 1 λ M hM=>by
 obtain⟨k,rfl⟩:∃ k,M=k+1:=⟨M-1,by omega⟩
 show E 0 (k+1)<=1
 rw[kT];exact Rat.le_refl
theorem zFP {f g:Nat->Rat} (h:LeN f g):LeN (λ M=>1-g M) (λ M=>1-f M):=λ e he=>by
 obtain⟨N,k⟩:=h e he;exact⟨N,λ M hM=>by have:=k M hM;simp only[];grind⟩
theorem waX_mono {p q n d n2 d2:Int} (p0:0<p) (q0:0<q) (d0:0<d) (d20:0<d2) (hle:n*d2<=n2*d):LeN (waX p q n d) (waX p q n2 d2):=by
 unfold waX
 by_cases aR:n2<=0
 ·have:n<=0:=Int.not_lt.1 λ h=>by
   have a:=Int.mul_pos h d20;have b:=YF (show 0 <= -n2 by omega) (show 0<=d by omega)
   have e : -n2*d = -(n2*d):=by grind
   omega
  rw[if_pos this,if_pos aR];exact LeN.refl _
 ·rw[if_neg aR]
  have q2:0<q*d2:=Int.mul_pos q0 d20
  by_cases hn:n<=0
  ·rw[if_pos hn]
   have c:((-p*n2:Int):Rat)/((q*d2:Int):Rat)<=0:=by
    have qr:(0:Rat)<((q*d2:Int):Rat):=by exact_mod_cast q2
    have m:=YF (show 0<=p by omega) (show 0<=n2 by omega)
    have e : -p*n2 = -(p*n2):=by grind
    have:((-p*n2:Int):Rat)<=0:=by exact_mod_cast (show -p*n2<=0 by omega)
    exact jV qr (by grind)
   have l:=zFP ((zBX c).trans ex_one0);refine LeN.trans (LeN.of_le 0 λ M _=>?_) l
   grind
  ·rw[if_neg hn]
   refine zFP (f:=ex _) (g:=ex _) (zBX (zIX q2 (Int.mul_pos q0 d0) ?_));have m:=YD hle (show 0<=p*q from YF (by omega) (by omega))
   have e1 : -p*n2*(q*d) = -(p*q*(n2*d)):=by grind
   have e2 : -p*n*(q*d2) = -(p*q*(n*d2)):=by grind
   rw[e1,e2];omega
theorem lwX_nn {L G:Rat->Nat->Rat} {X:Int->Int->Nat->Rat} (hE:zK5 L G X) {p q n d:Int} (st:StIn p q) (n0:0<=n) (d0:0<d):Nn (lwX L p q n d (gmV p q (G (gA p q)))):=by
 unfold lwX
 by_cases h:n=0
 ·rw[if_pos h];exact Nn.const (by grind)
 ·rw[if_neg h]
  have pr:(0:Rat)<(p:Rat):=by exact_mod_cast st.n0
  have qr:(0:Rat)<(q:Rat):=by exact_mod_cast st.d0
  have nr:(0:Rat)<(n:Rat):=by exact_mod_cast (show 0<n by omega)
  have dr:(0:Rat)<(d:Rat):=by exact_mod_cast d0
  exact lw_nn hE.lns (zF pr qr) (zF nr dr) (zCA hE st)
theorem lwX_mono {L G:Rat->Nat->Rat} {X:Int->Int->Nat->Rat} (hE:zK5 L G X) {p q n d n2 d2:Int} (st:StIn p q) (n0:0<=n) (d0:0<d) (d20:0<d2) (Ga:0<=n2) (hle:n*d2<=n2*d):LeN (lwX L p q n d (gmV p q (G (gA p q)))) (lwX L p q n2 d2 (gmV p q (G (gA p q)))):=by
 by_cases hn:n=0
 ·have e:lwX L p q n d (gmV p q (G (gA p q)))=λ _=>0:=by unfold lwX;rw[if_pos hn]
  rw[e];exact (lwX_nn hE st Ga d20).leN
 ·have np:0<n*d2:=Int.mul_pos (by omega) d20
  have DT:n2≠0:=λ h=>by rw[h,Int.zero_mul] at hle;omega
  unfold lwX;rw[if_neg hn,if_neg DT];have pr:(0:Rat)<(p:Rat):=by exact_mod_cast st.n0
  have qr:(0:Rat)<(q:Rat):=by exact_mod_cast st.d0
  have nr:(0:Rat)<(n:Rat):=by exact_mod_cast (show 0<n by omega)
  have dr:(0:Rat)<(d:Rat):=by exact_mod_cast d0
  exact lw_mono hE.lns (zF pr qr) (zF nr dr) (zIX d0 d20 hle) (zCA hE st)
def gaX (L G:Rat->Nat->Rat) (p q r s n d:Int):Nat->Rat:=if n<=0 then λ _=>0 else lwX L p q (r*n) (s*d) (gmV p q (G (gA p q)))
theorem gaX_mono {L G:Rat->Nat->Rat} {X:Int->Int->Nat->Rat} (hE:zK5 L G X) {p q r s n d n2 d2:Int} (st:StIn p q) (r0:0<r) (s0:0<s) (d0:0<d) (d20:0<d2) (hle:n*d2<=n2*d):LeN (gaX L G p q r s n d) (gaX L G p q r s n2 d2):=by
 unfold gaX
 by_cases aR:n2<=0
 ·have:n<=0:=Int.not_lt.1 λ h=>by
   have a:=Int.mul_pos h d20;have b:=YF (show 0 <= -n2 by omega) (show 0<=d by omega)
   have e : -n2*d = -(n2*d):=by grind
   omega
  rw[if_pos this,if_pos aR];exact LeN.refl _
 ·rw[if_neg aR]
  have b0:=YF (show 0<=r by omega) (show 0<=n2 by omega)
  have c2:=Int.mul_pos s0 d20
  by_cases hn:n<=0
  ·rw[if_pos hn];exact (lwX_nn hE st b0 c2).leN
  ·rw[if_neg hn]
   refine lwX_mono hE st (YF (by omega) (by omega)) (Int.mul_pos s0 d0) c2 b0 ?_
   have m:=YD hle (show 0<=r*s from YF (by omega) (by omega))
   have e1:r*n*(s*d2)=r*s*(n*d2):=by grind
   have e2:r*n2*(s*d)=r*s*(n2*d):=by grind
   rw[e1,e2];exact m
def clX (n d:Int):Int:=if n<=0 then 0 else if d<=n then d else n
theorem zGY {n d:Int} (d0:0<d):0<=clX n d/\clX n d<=d:=by unfold clX;split<;>(try split)<;>omega
def beX (L:Rat->Nat->Rat) (p q r s n d:Int):Nat->Rat:=bvX L p q r s (clX n d) d
theorem clX_mono {n d n2 d2:Int} (d0:0<d) (d20:0<d2) (hle:n*d2<=n2*d):clX n d*d2<=clX n2 d2*d:=by
 have c2:=zGY (n:=n2) d20
 by_cases h1:n<=0
 ·have e:clX n d=0:=by unfold clX;rw[if_pos h1]
  rw[e,Int.zero_mul];exact YF c2.1 (by omega)
 ·have np:=Int.mul_pos (show 0<n by omega) d20
  have DT:0<n2:=Int.not_le.1 λ h=>by
   have b:=YF (show 0 <= -n2 by omega) (show 0<=d by omega)
   have e : -n2*d = -(n2*d):=by grind
   omega
  by_cases h2:d2<=n2
  ·have e:clX n2 d2=d2:=by unfold clX;rw[if_neg (by omega),if_pos h2]
   have c1:=(zGY (n:=n) d0).2;rw[e,Int.mul_comm d2 d];exact YA c1 (by omega)
  ·have e:clX n2 d2=n2:=by unfold clX;rw[if_neg (by omega),if_neg h2]
   have h3:¬ d<=n:=λ h=>by
    have a:=YA h (show 0<=d2 by omega)
    have b:=Int.mul_lt_mul_of_pos_right (show n2<d2 by omega) d0
    rw[Int.mul_comm d2 d] at b;omega
   have e':clX n d=n:=by unfold clX;rw[if_neg h1,if_neg h3]
   rw[e,e'];exact hle
theorem beX_mono {L:Rat->Nat->Rat} (hL:Lns L) {p q r s n d n2 d2:Int} (p0:0<p) (q0:0<q) (r0:0<r) (s0:0<s) (d0:0<d) (d20:0<d2) (hle:n*d2<=n2*d):LeN (beX L p q r s n d) (beX L p q r s n2 d2) :=
 zMT hL p0 q0 r0 s0 (zGY d0).1 (zGY d0).2 d0 (zGY d20).1 (zGY d20).2 d20 (clX_mono d0 d20 hle)
def stX0 (L:Rat->Nat->Rat) (p q n d:Int) (M:Nat):Rat:=(1:Int)/((2:Int):Rat)*bvX L p (2*q) 1 2 (p*(d*d)) (p*(d*d)+q*(n*n)) M
def stX (L:Rat->Nat->Rat) (p q n d:Int):Nat->Rat:=if n<=0 then stX0 L p q n d else λ M=>1-stX0 L p q n d M
theorem sqn (n:Int):0<=n*n:=by
 rcases Int.le_total 0 n with h|h
 ·exact YF h h
 ·have:=YF (show 0 <= -n by omega) (show 0 <= -n by omega)
  have e : -n * -n=n*n:=by grind
  omega
theorem halfs {f g:Nat->Rat} (h:LeN f g):LeN (λ M=>(1:Int)/((2:Int):Rat)*f M) (λ M=>(1:Int)/((2:Int):Rat)*g M):=λ e he=>by
 obtain⟨N,k⟩:=h e he;have e2:((2:Int):Rat)=2:=rfl;have e1:((1:Int):Rat)=1:=rfl;rw[e1,e2];exact⟨N,λ M hM=>by have:=k M hM;simp only[];grind⟩
theorem zKN {L:Rat->Nat->Rat} (hL:Lns L) {p q n d n2 d2:Int} (p0:0<p) (q0:0<q) (d0:0<d) (d20:0<d2) (hle:(n2*d)*(n2*d)<=(n*d2)*(n*d2)):LeN (stX0 L p q n d) (stX0 L p q n2 d2):=by
 have f1:=Int.mul_pos p0 (Int.mul_pos d0 d0);have f2:=Int.mul_pos p0 (Int.mul_pos d20 d20);have s1:=YF (show 0<=q by omega) (sqn n)
 have s2:=YF (show 0<=q by omega) (sqn n2)
 refine halfs (zMT hL p0 (by omega) (by decide) (by decide) (by omega) (by omega) (by omega) (by omega) (by omega) (by omega) ?_)
 have m:=YD hle (show 0<=p*q from YF (by omega) (by omega))
 have e1:p*(d*d)*(p*(d2*d2)+q*(n2*n2))=p*p*(d*d*(d2*d2))+p*q*(n2*d*(n2*d)):=by grind
 have e2:p*(d2*d2)*(p*(d*d)+q*(n*n))=p*p*(d*d*(d2*d2))+p*q*(n*d2*(n*d2)):=by grind
 rw[e1,e2];omega
theorem zKM {L:Rat->Nat->Rat} (hL:Lns L) {p q n d:Int} (p0:0<p) (q0:0<q) (d0:0<d):LeN (stX0 L p q n d) (λ _=>(1:Int)/((2:Int):Rat)):=by
 have f1:=Int.mul_pos p0 (Int.mul_pos d0 d0);have s1:=YF (show 0<=q by omega) (sqn n)
 have h:=halfs (zQU hL p0 (show 0<2*q by omega) (show (0:Int)<1 by decide) (show (0:Int)<2 by decide) (show 0<=p*(d*d) by omega) (show p*(d*d)<=p*(d*d)+q*(n*n) by omega) (by omega)).2
 refine LeN.trans h (LeN.of_le 0 λ M _=>?_)
 grind
theorem zN3 {a b:Int} (h0:0<=a) (h:a<=b):a*a<=b*b:=Int.mul_le_mul h h h0 (by omega)
theorem stX_mono {L:Rat->Nat->Rat} (hL:Lns L) {p q n d n2 d2:Int} (p0:0<p) (q0:0<q) (d0:0<d) (d20:0<d2) (hle:n*d2<=n2*d):LeN (stX L p q n d) (stX L p q n2 d2):=by
 unfold stX
 by_cases h1:n<=0
 ·rw[if_pos h1]
  by_cases h2:n2<=0
  ·rw[if_pos h2]
   refine zKN hL p0 q0 d0 d20 ?_;have b:=YF (show 0 <= -n2 by omega) (show 0<=d by omega)
   have e : -n2*d = -(n2*d):=by grind
   have k:=zN3 (a := -(n2*d)) (b := -(n*d2)) (by omega) (by omega)
   have e1 : -(n2*d) * -(n2*d)=n2*d*(n2*d):=by grind
   have e2 : -(n*d2) * -(n*d2)=n*d2*(n*d2):=by grind
   omega
  ·rw[if_neg h2]
   refine (zKM hL p0 q0 d0).trans (LeN.trans (LeN.of_le 0 λ M _=>?_) (zFP (zKM hL (n:=n2) p0 q0 d20)))
   have e2:((2:Int):Rat)=2:=rfl;have e1:((1:Int):Rat)=1:=rfl
   skip
   rw[e1,e2];grind
 ·have np:=Int.mul_pos (show 0<n by omega) d20
  have DT:0<n2:=Int.not_le.1 λ h=>by
   have b:=YF (show 0 <= -n2 by omega) (show 0<=d by omega)
   have e : -n2*d = -(n2*d):=by grind
   omega
  rw[if_neg h1,if_neg (by omega)]
  exact zFP (zKN hL p0 q0 d20 d0 (zN3 (by omega) hle))
def coN (P:Nat) (n d:Int):Nat:=(min (n/d) (P:Int)+1).toNat
def coX (P:Nat) (r s n d:Int) (_:Nat):Rat:=((zC0 (zD4 P r s) (coN P n d):Int):Rat)/((s ^ P:Int):Rat)
theorem zKB {n d n2 d2:Int} (d0:0<d) (d20:0<d2) (hle:n*d2<=n2*d):n/d<=n2/d2:=by
 refine Int.le_ediv_of_mul_le d20 ?_;have a:n/d*d<=n:=Int.ediv_mul_le n (by omega)
 have m:=YA a (show 0<=d2 by omega)
 refine Int.le_of_mul_le_mul_right (a:=d) ?_ d0;have e:n/d*d2*d=n/d*d*d2:=by grind
 rw[e];omega
theorem zMF {P n:Nat} (h:n<=P) {r s:Int} (hr:0<=r) (hs:r<=s):0<=zD4 P r s n:=by
 unfold zD4;rw[zUG h];exact (way_le h hr hs).1
theorem zFZ {P:Nat} {r s:Int} (hr:0<=r) (hs:r<=s) {i j:Nat} (lK:i<=j) (hj:j<=P+1):zC0 (zD4 P r s) i<=zC0 (zD4 P r s) j:=by
 induction j with
 | zero=>rw[show i=0 by omega];exact Int.le_refl _
 | succ j ih =>
  by_cases h:i=j+1
  ·rw[h];exact Int.le_refl _
  ·have:=ih (by omega) (by omega)
   have:=zMF (P:=P) (n:=j) (by omega) hr hs
   show _<=zC0 (zD4 P r s) j+zD4 P r s j
   omega
theorem coX_mono {P:Nat} {r s n d n2 d2:Int} (hr:0<=r) (hs:r<=s) (s0:0<s) (d0:0<d) (d20:0<d2) (hle:n*d2<=n2*d):LeN (coX P r s n d) (coX P r s n2 d2):=by
 refine LeN.of_le 0 λ M _=>?_
 unfold coX;have sp:0<s ^ P:=Int.pow_pos s0;have q:=zKB d0 d20 hle;have c:=zFZ (P:=P) hr hs (i:=coN P n d) (j:=coN P n2 d2) (by unfold coN;omega) (by unfold coN;omega)
 exact zIX sp sp (YA c (by omega))
def raN (n d:Int):Nat:=(n/d+1).toNat
def raX (p q n d:Int) (M:Nat):Rat:=S (λ i=>zDS p q i M) (raN n d)
theorem raS_mono {p q:Int} (hp:0<=p) (hq:0<q) {i j:Nat} (lK:i<=j) (M:Nat) (hM:j<=M):S (λ i=>zDS p q i M) i<=S (λ i=>zDS p q i M) j:=by
 induction j with
 | zero=>rw[show i=0 by omega];exact Rat.le_refl
 | succ j ih =>
  by_cases h:i=j+1
  ·rw[h];exact Rat.le_refl
  ·have a:=ih (by omega) (by omega)
   have b:=(zNX hp hq j M (by omega)).1
   show _<=S (λ i=>zDS p q i M) j+zDS p q j M
   grind
theorem raX_mono {p q n d n2 d2:Int} (hp:0<=p) (hq:0<q) (d0:0<d) (d20:0<d2) (hle:n*d2<=n2*d):LeN (raX p q n d) (raX p q n2 d2):=by
 have k:=zKB d0 d20 hle;exact LeN.of_le (raN n2 d2) λ M hM=>raS_mono hp hq (by unfold raN;omega) M hM
theorem of_lw {N D:Int} (b:Nat) (hN:0<=N) (hD:0<D) (h:N<=D):LwPr (λ _=>(N:Rat)/(D:Rat)) b (ofI N D b).1 (ofI N D b).2:=by
 obtain⟨h1,h2,h3,h4,h5⟩:=of_pr b hN hD h;have q:=zE b;have w:=yB (n:=N) hD b;have Ls:1<=Q 89:=zE 89;exact⟨by omega,by omega,by omega,by omega,by assumption⟩
def wyF (r t:Int) (P i:Nat):Int:=(ch P i:Int)*(r ^ i*t ^ (P-i))
theorem wyF_zero (r t:Int) (P:Nat):wyF r t (P+1) 0=t*wyF r t P 0:=by
 unfold wyF;rw[zDX,zDX,show P+1-0=(P-0)+1 by omega,Int.pow_succ]
 grind
theorem wyF_succ (r t:Int) {P i:Nat} (h:i<P):wyF r t (P+1) (i+1)=r*wyF r t P i+t*wyF r t P (i+1):=by
 unfold wyF;rw[zC7,show P+1-(i+1)=P-i by omega,show P-i=(P-(i+1))+1 by omega,Int.pow_succ t,Int.pow_succ r]
 push_cast
 grind
theorem wyF_last (r t:Int) (P:Nat):wyF r t (P+1) (P+1)=r*wyF r t P P:=by
 unfold wyF;rw[zC7,zMU (show P<P+1 by omega),show P+1-(P+1)=0 by omega,show P-P=0 by omega,Int.pow_zero,Int.pow_succ r]
 push_cast
 grind
theorem wyF_sum (r t:Int) (P j:Nat) (h:j<=P):zC0 (wyF r t (P+1)) (j+1)=r*zC0 (wyF r t P) j+t*zC0 (wyF r t P) (j+1):=by
 induction j with
 | zero =>
  show 0+wyF r t (P+1) 0=r*0+t*(0+wyF r t P 0)
  rw[wyF_zero];grind
 | succ j ih =>
  have i:=ih (by omega)
  show zC0 (wyF r t (P+1)) (j+1)+wyF r t (P+1) (j+1)=r*(zC0 (wyF r t P) j+wyF r t P j)+t*(zC0 (wyF r t P) (j+1)+wyF r t P (j+1))
  rw[i,wyF_succ r t (by omega)];grind
theorem wyF_all (r t:Int) (P:Nat):zC0 (wyF r t P) (P+1)=(r+t) ^ P:=by
 induction P with
 | zero =>
  show 0+wyF r t 0 0=(r+t) ^ 0
  unfold wyF;rw[zDX,show 0-0=0 by rfl,Int.pow_zero,Int.pow_zero,Int.pow_zero];rfl
 | succ P ih =>
  show zC0 (wyF r t (P+1)) (P+1)+wyF r t (P+1) (P+1)=(r+t) ^ (P+1)
  rw[wyF_sum r t P P (YE _),wyF_last,Int.pow_succ,<- ih]
  show r*zC0 (wyF r t P) P+t*(zC0 (wyF r t P) P+wyF r t P P)+r*wyF r t P P=(zC0 (wyF r t P) P+wyF r t P P)*(r+t)
  grind
theorem cnt_all {P:Nat} {r s:Int}:zC0 (zD4 P r s) (P+1)=s ^ P:=by
 have e:∀ j,j<=P+1->zC0 (zD4 P r s) j=zC0 (wyF r (s-r) P) j:=λ j=>by
  induction j with
  | zero=>intro _;rfl
  | succ j ih =>
   intro hj
   show zC0 (zD4 P r s) j+zD4 P r s j=zC0 (wyF r (s-r) P) j+wyF r (s-r) P j
   rw[ih (by omega)]
   congr 1
   unfold zD4;rw[zUG (show j<=P by omega)];rfl
 rw[e _ (YE _),wyF_all]
 congr 1
 omega
theorem cnt_le {P:Nat} {r s:Int} (hr:0<=r) (hs:r<=s) (i:Nat) (hi:i<=P+1):0<=zC0 (zD4 P r s) i/\zC0 (zD4 P r s) i<=s ^ P:=by
 have a:=zFZ (P:=P) hr hs (Nat.zero_le i) hi;have b:=zFZ (P:=P) hr hs hi (YE _);rw[cnt_all] at b;exact⟨a,b⟩
theorem sq_unit {B:Nat} {a:Int × Int} (h0:0<=a.1) (hl:a.1<=a.2) (h1:a.2<=Q B) (i:Nat):0<=(sqI B a i).1/\(sqI B a i).1<=(sqI B a i).2/\(sqI B a i).2<=Q B/\(sqI B a i).2-(sqI B a i).1+1<=Q i*(a.2-a.1+1):=by
 have q:=zE B
 induction i with
 | zero =>
  have e:Q 0=1:=rfl;rw[e];exact⟨h0,hl,h1,by show a.2-a.1+1<=_;omega⟩
 | succ i ih =>
  obtain⟨i0,i1,i2,i3⟩:=ih;have A:Abs (sqI B a i) (Q B):=⟨by omega,by omega,by omega,by omega⟩
  have ab:=zCT (B:=B) (p:=Q B) A A (Int.le_refl _);have nn:=zGD (B:=B) (a:=sqI B a i) (b:=sqI B a i) i0 (by omega) i0 (by omega)
  have w:=zAU (B:=B) (c:=2*((sqI B a i).2-(sqI B a i).1)) A A i1 i1 (by
   have e:2*((sqI B a i).2-(sqI B a i).1)*Q B=Q B*((sqI B a i).2-(sqI B a i).1)+Q B*((sqI B a i).2-(sqI B a i).1):=by grind
   omega)
  have e:Q (i+1)=2*Q i:=rfl;have e2:Q (i+1)*(a.2-a.1+1)=2*(Q i*(a.2-a.1+1)):=by rw[e];grind
  refine⟨nn,zBY B,ab.2.2.2,?_⟩;rw[e2]
  show (zAH B (sqI B a i) (sqI B a i)).2-(zAH B (sqI B a i) (sqI B a i)).1+1<=_
  omega
structure WaIn (n d:Int):Prop where
 n0:0<n
 d0:0<d
 lo:d<=1048576*n
 hi:n<=104857600*d
theorem wa_set {n d:Int} (h:WaIn n d) {B:Nat} (hB:40<=B):∃ (l:Int) (t N:Nat),zBV (zW (ofI (-n) d B)) l/\(t:Int)=max 0 (l-B+8)/\t<=35/\Abs (zG (ofI (-n) d B) t) (Q (B-8))/\zU (zV B (zG (ofI (-n) d B) t)) N:=by
 have:=h.n0;have:=h.d0;have:=h.hi;obtain⟨l,t,N,e1,e2,e3,e4,e5⟩:=zD0 (B:=B) (e:=27) (by omega) (yA h.d0 B) (zIS (p := -n) (q:=d) (n:=104857600) (b:=B) (e:=27) h.d0 (by omega) (by omega) (by decide))
 exact⟨l,t,N,e1,e2,by omega,e4,e5⟩
theorem wa_up {B:Nat} (hB:40<=B):4*((B:Int)+20)<=Q (B-21):=by
 obtain⟨j,rfl⟩:∃ j,B=40+j:=⟨B-40,by omega⟩
 rw[show 40+j-21=j+19 by omega]
 have e:Q (j+19)=524288*Q j:=by rw[jF,Int.mul_comm];rfl
 have k:(j:Int)+1<=Q j:=by
  clear hB e
  induction j with
  | zero=>decide
  | succ j ih=>have e:Q (j+1)=2*Q j:=rfl;have:=zE j;omega
 rw[e];omega
theorem wa_low {n d:Int} (h:WaIn n d) {B t:Nat} {l:Int} (hB:40<=B) (hl:zBV (zW (ofI (-n) d B)) l) (ht:(t:Int)=max 0 (l-B+8)):d*Q t<=1048576*n:=by
 by_cases t0:t=0
 ·rw[t0]
  have e:Q 0=1:=rfl;have:=h.lo;rw[e];omega
 ·have q:=zE B
  have d0:=h.d0;have n0:=h.n0;have nq:=Int.mul_pos n0 q
  have r:zW (ofI (-n) d B) = -(-(n*Q B)/d):=by
   have e:(ofI (-n) d B).1 = -(n*Q B)/d:=by show -n*Q B/d=_;rw[Int.neg_mul]
   have le:=yA (n := -n) d0 B
   have u0:(ofI (-n) d B).2<=0:=by
    show -(-(-n*Q B)/d)<=0
    have:0 <= -(-n*Q B)/d:=Int.ediv_nonneg (by rw[Int.neg_mul];omega) (by omega)
    omega
   unfold zW zFK;rw[<- e];split<;>omega
  have c:=zLH (n*Q B) d d0;obtain⟨l1,l2,l3⟩:=hl
  have rp:0<zW (ofI (-n) d B):=Int.not_le.1 λ hn=>by
   by_cases z:zW (ofI (-n) d B)=0
   ·have:=l2 z;omega
   ·have:0<=zW (ofI (-n) d B):=zAK (yA d0 B)
    omega
  obtain⟨L,e1,e2,e3⟩:=l3 rp;have eL:L+9=B+t:=by clear r c l3 l2 e2 e3 rp;omega
  rw[r] at e2;have m:=YA e2 (show 0<=d by omega)
  have k1:Q L*d<n*Q B+d:=by omega
  have k2:Q L*512=Q B*Q t:=by
   rw[<- jF,<- eL,jF];rfl
  have qt:=zE t;have dq:d<=1048576*n:=h.lo;have qb:=zJ hB;have IA:Q 40=1099511627776:=rfl;have m2:=YD (show 1048576<=Q B by omega) (show 0<=n by omega)
  have k3:Q L*d<2*(n*Q B):=by omega
  have k4:Q B*(Q t*d)<Q B*(1024*n):=by
   have e5:Q B*(Q t*d)=Q L*512*d:=by rw[k2];grind
   have e6:Q L*512*d=512*(Q L*d):=by grind
   have e7:Q B*(1024*n)=1024*(n*Q B):=by grind
   omega
  have k5:=Int.lt_of_mul_lt_mul_left k4 (show 0<=Q B by omega)
  rw[Int.mul_comm d];omega
theorem wa_done {n d:Int} (h:WaIn n d) {B t N:Nat} {l:Int} (hB:40<=B) (hl:zBV (zW (ofI (-n) d B)) l) (ht:(t:Int)=max 0 (l-B+8)) (hA:Abs (zG (ofI (-n) d B) t) (Q (B-8))) (hN:zU (zV B (zG (ofI (-n) d B) t)) N) :
  0<=(zN (zV B (zG (ofI (-n) d B) t)) N).1/\(zN (zV B (zG (ofI (-n) d B) t)) N).1<=(zN (zV B (zG (ofI (-n) d B) t)) N).2/\(zN (zV B (zG (ofI (-n) d B) t)) N).2<=Q B/\(zN (zV B (zG (ofI (-n) d B) t)) N).2-(zN (zV B (zG (ofI (-n) d B) t)) N).1+1<=(B:Int)+20:=by
 have q:=zE B;have qt:=zE t;have d0:=h.d0;have n0:=h.n0;have al:=yA (n := -n) d0 B;have iv:=(Iv.of B (n := -n) d0).down t;have ivE:=zDM (N:=N) (by omega) iv hA
 have Y5:(zG (ofI (-n) d B) t).1<=(zG (ofI (-n) d B) t).2:=iv.le
 have T8:(zG (ofI (-n) d B) t).2-(zG (ofI (-n) d B) t).1<=1+1:=zBM (by omega) (by
  have:=yB (n := -n) d0 B
  omega)
 have Al:=zCN (zAF B (zG (ofI (-n) d B) t)) N;have QJ:=zB7 (zEA (by omega) hA Y5 T8) hN
 have hNB:N<=B/8+1:=by
  obtain⟨N',n1,n2⟩:=zB3 (s:=8) (by omega) (zBO (by omega) hA)
  refine Nat.le_trans (Nat.not_lt.1 λ D5=>?_) n1
  have:=hN.2 N' D5;have:=n2.1;omega
 have w:(zN (zV B (zG (ofI (-n) d B) t)) N).2-(zN (zV B (zG (ofI (-n) d B) t)) N).1+1<=(B:Int)+20:=by omega
 have dr:(0:Rat)<(d:Rat):=by exact_mod_cast d0
 have tr:(0:Rat)<(Q t:Rat):=by exact_mod_cast qt
 have br:=jH B;obtain⟨u,hu⟩:∃ u:Rat,u=(n:Rat)/(d:Rat)/(Q t:Rat):=⟨_,rfl⟩
 have eu:(λ M:Nat=>((-n:Int):Rat)/(d:Rat)/(Q t:Rat))=λ _ => -u:=by
  funext M
  rw[hu,Rat.intCast_neg,YK,YK,YK,YK];grind
 rw[eu] at iv ivE;have um:u*(Q t:Rat)*(d:Rat)=(n:Rat):=by rw[hu,rdm tr,rdm dr]
 have ul:(1:Rat)<=1048576*u:=by
  have c:=zZ (wa_low h hB hl ht);rw[YG,YG] at c;have e:((1048576:Int):Rat)=1048576:=rfl;rw[e] at c;have p:=Rat.mul_pos dr tr;refine Rat.le_of_mul_le_mul_right (c:=(d:Rat)*(Q t:Rat)) ?_ p;have e2:1048576*u*((d:Rat)*(Q t:Rat))=1048576*(u*(Q t:Rat)*(d:Rat)):=by grind
  rw[e2,um];grind
 have uu:u*256<=1:=by
  obtain⟨h1,h2⟩:=Has.of_const iv;have a1:=zZ hA.1
  have e8:Q B=256*Q (B-8):=by
   have e:=jF 8 (B-8);rw[show 8+(B-8)=B by omega] at e
   rw[e];rfl
  have WH:(Q B:Rat)=256*(Q (B-8):Rat):=by rw[e8,YG];rfl
  have m:=YB h1 (YC br);rw[rdm br] at m;rw[Rat.intCast_neg] at a1;have p8:=jH (B-8);refine Rat.le_of_mul_le_mul_right (c:=(Q (B-8):Rat)) ?_ p8;rw[WH] at m;grind
 have u0:0<=u:=by grind
 have up:LeN (Ev (λ _ => -u)) (λ _=>1-u/2):=LeN.of_le 2 λ M hM=>by
  have k:=(zD9 u0 (by grind) hM).2
  have s:=Yy uu u0
  show ex (-u) M<=1-u/2
  grind
 have dn:LeN (λ _=>(1:Rat)/2) (Ev (λ _ => -u)):=LeN.of_le 2 λ M hM=>by
  have k:=(zHN (h := -u) (b:=1/8) ⟨by grind,by grind⟩ (by grind) (show 1<=M by omega)).1
  show 1/2<=E (-u) M
  grind
 have Lr:Q B=2097152*Q (B-21):=by
  have e:=jF 21 (B-21);rw[show 21+(B-21)=B by omega] at e
  rw[e];rfl
 have Ek:(Q B:Rat)=2097152*(Q (B-21):Rat):=by rw[Lr,YG];rfl
 have B7:=wa_up hB;have p21:=jH (B-21)
 have lo:=iv_lt (z:=Q B-Q (B-21)+1) ivE up (by
  rw[Rat.intCast_add,Rat.intCast_sub,Ek];have e1:((1:Int):Rat)=1:=rfl;rw[e1];have m:=YB ul (YC p21)
  grind)
 have hi:=iv_gt (z:=Q (B-21)) ivE dn (by rw[Ek];grind)
 have q0:=zE (B-21);refine⟨by omega,Al,by omega,w⟩
theorem wa_ok {n d:Int} (h:WaIn n d) {B t N:Nat} {l:Int} (hB:40<=B) (o9:B<=400) (fT:t<=35) (hl:zBV (zW (ofI (-n) d B)) l) (ht:(t:Int)=max 0 (l-B+8)) (hA:Abs (zG (ofI (-n) d B) t) (Q (B-8))) (hN:zU (zV B (zG (ofI (-n) d B) t)) N) :
  (∀ i,0<=(sqI B (zN (zV B (zG (ofI (-n) d B) t)) N) i).1/\(sqI B (zN (zV B (zG (ofI (-n) d B) t)) N) i).2<=Q B)/\LwPr (λ M=>1-Ev (λ _=>((-n:Int):Rat)/(d:Rat)) M) B (zA8 B (sqI B (zN (zV B (zG (ofI (-n) d B) t)) N) t)).1 (zA8 B (sqI B (zN (zV B (zG (ofI (-n) d B) t)) N) t)).2:=by
 obtain⟨g0,g1,g2,g3⟩:=wa_done h hB hl ht hA hN;have sq:=sq_unit g0 g1 g2;refine⟨λ i=>⟨(sq i).1,(sq i).2.2.1⟩,?_⟩
 obtain⟨s0,s1,s2,s3⟩:=sq t;have iv:=zES (N:=N) (by omega) (Iv.of B (n := -n) h.d0) hA
 have m:=Int.mul_le_mul (zJ fT) (show (zN (zV B (zG (ofI (-n) d B) t)) N).2-(zN (zV B (zG (ofI (-n) d B) t)) N).1+1<=512 by omega) (by omega) (by have:=zE 35;omega)
 have e44:Q 35*512=Q 44:=by rw[show 44=35+9 by rfl,jF];rfl
 have Ls:=zJ (show 44<=89 by omega)
 refine⟨?_,?_,?_,?_,(zHC B).sub iv⟩
 ·show 0<=Q B-_;omega
 ·show Q B-_<=Q B-_;omega
 ·show Q B-_<=Q B;omega
 ·show Q B-_-(Q B-_)<=Q 89;omega
def raU (p:Int) (last:Int) (k:Nat):Int:=if last<(k:Int) then 0 else p
def raD (q:Int) (last:Int) (k:Nat):Int:=if last<(k:Int) then 1 else if k=0 then 1 else q*(k:Int)
def raT (p q last:Int) (B:Nat):Nat->Int × Int:=riT (Q B,Q B) (raU p last) (raD q last)
def zBQ (p q:Int):Nat:=(2*p/q).toNat
theorem raD_pos {q last:Int} (q0:0<q) (k:Nat):0<raD q last k:=by
 unfold raD;split
 ·decide
 ·split
  ·decide
  ·exact Int.mul_pos q0 (by omega)
theorem zPG {p q last:Int} (p0:0<p) (q0:0<q) (B:Nat):zPT (Q B,Q B) (raU p last) (raD q last):=by
 have qB:=zE B;refine⟨⟨λ k=>by unfold raU;split<;>omega,λ k=>raD_pos q0 k⟩,by show 0<Q B;omega,Int.le_refl _,by show Q B-Q B<=1;omega,λ k hk=>?_⟩
 unfold raU raD at hk ⊢
 by_cases c:last<((k+2:Nat):Int)
 ·rw[if_pos c,if_pos c] at hk;omega
 ·rw[if_neg c,if_neg c,if_neg (by omega)] at hk
  rw[if_neg (by omega),if_neg (by omega),if_neg (by omega)]
  have m:=YD (show ((k+1:Nat):Int)<=((k+2:Nat):Int) by omega) (show 0<=q by omega)
  omega
theorem ra_34 {p q last:Int} (p0:0<p) (q0:0<q) (k:Nat) (hk:zBQ p q<=k):4*raU p last (k+1)<=3*raD q last (k+1):=by
 unfold raU raD
 by_cases c:last<((k+1:Nat):Int)
 ·rw[if_pos c,if_pos c];omega
 ·rw[if_neg c,if_neg c,if_neg (by omega)]
  have a:2*p<(2*p/q+1)*q:=Int.lt_ediv_add_one_mul_self _ q0;have b:2*p/q<=(k:Int):=by unfold zBQ at hk;omega
  have m:=YA (show 2*p/q+1<=((k+1:Nat):Int) by omega) (show 0<=q by omega)
  have e:q*((k+1:Nat):Int)=((k+1:Nat):Int)*q:=Int.mul_comm _ _;rw[e];omega
theorem ra_c {p q last:Int} (p0:0<p) (q0:0<q) (hp:p<=100*q) (k:Nat):raU p last (k+1)<=Q 7*raD q last (k+1):=by
 have e7:Q 7=128:=rfl;rw[e7];unfold raU raD
 by_cases c:last<((k+1:Nat):Int)
 ·rw[if_pos c,if_pos c];omega
 ·rw[if_neg c,if_neg c,if_neg (by omega)]
  have m:=YD (show 1<=((k+1:Nat):Int) by omega) (show 0<=q by omega)
  omega
theorem zL0 {p q:Int} (p0:0<p) (q0:0<q) (hp:p<=100*q):zBQ p q<=200/\((zBQ p q:Nat):Int)=2*p/q:=by
 have a:2*p/q<=200:=Int.ediv_le_of_le_mul q0 (by omega)
 have b:0<=2*p/q:=Int.ediv_nonneg (by omega) (by omega)
 unfold zBQ;exact⟨by omega,by omega⟩
theorem ra_set {p q last:Int} (p0:0<p) (q0:0<q) (hp:p<=100*q) {B:Nat} (hB:40<=B) (o9:B<=400):∃ N,N<=5700/\yO (raT p q last B) (zBQ p q) N:=by
 obtain⟨N,n1,n2⟩:=zTP (zPG (last:=last) p0 q0 B) (H:=B) (c:=7) (turn:=zBQ p q) (Int.le_refl _) (by omega) (ra_c p0 q0 hp) (λ k hk=>ra_34 p0 q0 k hk)
 have:=(zL0 p0 q0 hp).1;exact⟨N,by omega,n2⟩
theorem zNW {p q last:Int} (p0:0<p) (q0:0<q) (hp:p<=100*q) {B:Nat} (hB:40<=B) (o9:B<=400) (k:Nat) (hk:k<=1000000):(jE (raT p q last B) k).2+9<=Q 1900/\(raT p q last B k).2<=Q 1900:=by
 have t:=(zL0 p0 q0 hp).1;have a:=zTN (zPG (last:=last) p0 q0 B) (H:=B) (c:=7) (turn:=zBQ p q) (Int.le_refl _) (by omega) (ra_c p0 q0 hp) (λ k hk=>ra_34 p0 q0 k hk) k hk
 have b:=zTO (zPG (last:=last) p0 q0 B) (H:=B) (c:=7) (turn:=zBQ p q) (Int.le_refl _) (by omega) (ra_c p0 q0 hp) (λ k hk=>ra_34 p0 q0 k hk) k
 exact⟨Int.le_trans a (zJ (by omega)),Int.le_trans b (zJ (by omega))⟩
theorem ra_val {p q last:Int} (q0:0<q) (k M:Nat):riV (λ _=>1) (raU p last) (raD q last) k M=if (k:Int)<=max last 0 then ((p ^ k:Int):Rat)/((q ^ k*J0 k:Int):Rat) else 0:=by
 induction k with
 | zero =>
  rw[if_pos (by omega)]
  show (1:Rat)=((p ^ 0:Int):Rat)/((q ^ 0*J0 0:Int):Rat)
  have e:q ^ 0*J0 0=1:=by rw[Int.pow_zero];rfl
  have e2:p ^ 0=1:=Int.pow_zero p;rw[e,e2];decide +kernel
 | succ k ih =>
  show (raU p last (k+1):Rat)/(raD q last (k+1):Rat)*riV (λ _=>1) (raU p last) (raD q last) k M=_
  rw[ih];unfold raU raD
  by_cases c:last<((k+1:Nat):Int)
  ·generalize (if (k:Int)<=max last 0 then ((p ^ k:Int):Rat)/((q ^ k*J0 k:Int):Rat) else 0)=Y
   rw[if_pos c,if_neg (show ¬ ((k+1:Nat):Int)<=max last 0 by omega)]
   have z:((0:Int):Rat)=0:=rfl;rw[z,YK,Rat.zero_mul,Rat.zero_mul]
  ·rw[if_pos (show (k:Int)<=max last 0 by omega),if_pos (show ((k+1:Nat):Int)<=max last 0 by omega),if_neg c,if_neg c,if_neg (show ¬ k+1=0 by omega)]
   have a0:(0:Rat)<((q ^ k*J0 k:Int):Rat):=by exact_mod_cast Int.mul_pos (Int.pow_pos q0) (zCP k)
   have b0:(0:Rat)<((q ^ (k+1)*J0 (k+1):Int):Rat):=by exact_mod_cast Int.mul_pos (Int.pow_pos q0) (zCP (k+1))
   have c0:(0:Rat)<((q*((k+1:Nat):Int):Int):Rat):=by exact_mod_cast Int.mul_pos q0 (show 0<((k+1:Nat):Int) by omega)
   have ef:q ^ (k+1)*J0 (k+1)=(q*((k+1:Nat):Int))*(q ^ k*J0 k):=by
    show q ^ (k+1)*(J0 k*_)=_
    rw[Int.pow_succ]
    push_cast
    grind
   have ep:p ^ (k+1)=p*p ^ k:=by rw[Int.pow_succ,Int.mul_comm]
   rw[ef,ep,YG p,YG (q*((k+1:Nat):Int))];rw[ef,YG] at b0;have r1:=rdm (a:=(p:Rat)) c0;have r2:=rdm (a:=((p ^ k:Int):Rat)) a0;have r3:=rdm (a:=(p:Rat)*((p ^ k:Int):Rat)) b0;refine Rat.le_antisymm (Rat.le_of_mul_le_mul_right ?_ b0) (Rat.le_of_mul_le_mul_right ?_ b0) <;>
   ·rw[r3]
    have e:∀ A B C D:Rat,A*B*(C*D)=(A*C)*(B*D):=λ A B C D=>by grind
    rw[e,r1,r2];exact Rat.le_refl
theorem raS_val {p q last:Int} (hl:0<=last) (q0:0<q) (M:Nat) (hM:last<(M:Int)):riS (λ _=>1) (raU p last) (raD q last) M=S (λ i=>((p ^ i:Int):Rat)/((q ^ i*J0 i:Int):Rat)) (last+1).toNat:=by
 unfold riS;obtain⟨K,hK⟩:∃ K:Nat,K=(last+1).toNat:=⟨_,rfl⟩;rw[<- hK]
 have low:∀ j,j<=K->S (λ k=>riV (λ _=>1) (raU p last) (raD q last) k M) j=S (λ i=>((p ^ i:Int):Rat)/((q ^ i*J0 i:Int):Rat)) j:=λ j=>by
  induction j with
  | zero=>intro _;rfl
  | succ j ih =>
   intro hj
   show S _ j+riV (λ _=>1) (raU p last) (raD q last) j M=S _ j+_
   rw[ih (by omega),ra_val q0,if_pos (by omega)]
 have up:∀ j,S (λ k=>riV (λ _=>1) (raU p last) (raD q last) k M) (K+j)=S (λ i=>((p ^ i:Int):Rat)/((q ^ i*J0 i:Int):Rat)) K:=λ j=>by
  induction j with
  | zero=>exact low K (YE _)
  | succ j ih =>
   show S _ (K+j)+riV (λ _=>1) (raU p last) (raD q last) (K+j) M=_
   rw[ih,ra_val q0,if_neg (by omega)];grind
 have:=up (M-K);rw[show K+(M-K)=M by omega] at this
 exact this
theorem S_div {f:Nat->Rat} (c:Rat) (n:Nat):S (λ i=>f i/c) n=S f n/c:=by
 induction n with
 | zero=>show (0:Rat)=0/c;rw[YK,Rat.zero_mul]
 | succ n ih=>show S (λ i=>f i/c) n+f n/c=(S f n+f n)/c;rw[ih,YK,YK,YK];grind
theorem raX_one {p q n d:Int} (hp:0<=p) (hq:0<q):LeN (raX p q n d) (λ _=>1):=by
 refine LeN.of_le (raN n d+1) λ M hM=>?_
 unfold raX zDS;rw[S_div];have x0:=zAJ hp hq;have e0:0<Ev (λ _=>(p:Rat)/(q:Rat)) M:=(zPW x0 0 M (by omega)).2
 refine jV e0 ?_
 have:∀ j,j<=M->S (λ i=>((p ^ i:Int):Rat)/((q ^ i*J0 i:Int):Rat)) j<=E ((p:Rat)/(q:Rat)) M:=λ j hj=>by
  have k:S (λ i=>((p ^ i:Int):Rat)/((q ^ i*J0 i:Int):Rat)) j=S (tm ((p:Rat)/(q:Rat))) j:=by
   clear hj
   induction j with
   | zero=>rfl
   | succ j ih=>show S _ j+_=S _ j+_;rw[ih,zMA hq]
  rw[k]
  show _<=S (tm ((p:Rat)/(q:Rat))) M
  obtain⟨i,rfl⟩:∃ i,M=j+i:=⟨M-j,by omega⟩
  clear hM hj k e0
  induction i with
  | zero=>exact Rat.le_refl
  | succ i ih =>
   have:=zAW x0 (j+i)
   show _<=S (tm ((p:Rat)/(q:Rat))) (j+i)+tm ((p:Rat)/(q:Rat)) (j+i)
   grind
 have:=this (raN n d) (by omega)
 show _<=1*E ((p:Rat)/(q:Rat)) M
 grind
theorem ra_exD {B t:Nat} (h0:40<=B) (h1:B<=400) (ht:t<=15):0<=exD B 1 t/\2*exD B 1 t<=Q B/\exD B 1 t<=1000000000000000:=by
 have qt:=zJ ht;have oc:Q 15=32768:=rfl;have q0:=zE t;have q:=zJ h0;have e:Q 40=1099511627776:=rfl;have m:=Int.mul_le_mul (show (B:Int)/8+2<=52 by omega) (show 2*1+8*Q t<=262146 by omega) (by omega) (by omega)
 have m0:=YF (show 0<=(B:Int)/8+2 by omega) (show 0<=2*1+8*Q t by omega)
 unfold exD;exact⟨by omega,by omega,by omega⟩
def raE (p q:Int) (B t N:Nat):Int × Int:=sqI B (zN (zV B (zG (ofI p q B) t)) N) t
theorem ra_lw {p q last n d:Int} (p0:0<p) (q0:0<q) (hp:p<=100*q) (hl:0<=last) (hn:n/d=last) {B t N NS:Nat} (hB:40<=B) (o9:B<=400) (fT:t<=15) (hA:Abs (zG (ofI p q B) t) (Q (B-8))) (hN:zU (zV B (zG (ofI p q B) t)) N) (hS:NS<=5700) (ki:yO (raT p q last B) (zBQ p q) NS) :
  0<(raE p q B t N).1/\(raE p q B t N).1<=(raE p q B t N).2/\0<=(kW (raT p q last B) NS).1/\(kW (raT p q last B) NS).1<=(kW (raT p q last B) NS).2/\LwPr (raX p q n d) B (zDT (kW (raT p q last B) NS).1 (kW (raT p q last B) NS).2 (raE p q B t N).1 (raE p q B t N).2 B) (zO5 (kW (raT p q last B) NS) (raE p q B t N) B):=by
 have qB:=zE B;obtain⟨s1,s2,s3⟩:=se_ok (zPG (last:=last) p0 q0 B) NS;obtain⟨D0,D1,D2⟩:=ra_exD hB o9 fT;have x0:=zAJ (show 0<=p by omega) q0
 obtain⟨e1,e2,e3,e4,e5⟩:=exq_ok (t:=t) (N:=N) (by omega) (Iv.of B (n:=p) q0) (LeN.of_le 0 λ M _=>x0) (yB q0 B) hA hN D1
 have ee:raE p q B t N=sqI B (zN (zV B (zG (ofI p q B) t)) N) t:=rfl;have es:raT p q last B=riT (Q B,Q B) (raU p last) (raD q last):=rfl;rw[<- ee] at e1 e2 e3 e4 e5;rw[<- es] at s1 s2 s3
 have s0:0<=(kW (raT p q last B) NS).1:=by
  have:Q B<=(kW (raT p q last B) NS).1:=s1;omega
 have si:=zCE (zPG (last:=last) p0 q0 B).ok (zHC B) 0 (λ M _=>by grind) (λ k hk=>ra_34 p0 q0 k hk) ki
 rw[<- es] at si;have dv:=Iv.dv si e5 s0 (by omega)
 have Wy:=Has.congr (y:=raX p q n d) dv (null_zero.of_eq_from (last+1).toNat λ M hM=>by
  rw[raS_val hl q0 M (by omega),<- S_div]
  unfold raX raN;rw[hn]
  show S (λ i=>zDS p q i M) (last+1).toNat-_=0
  unfold zDS
  grind)
 refine⟨by omega,e2,s0,s2,zLW (C:=(1+2*(NS:Int))*((NS:Int)+2)+9) (D:=exD B 1 t) hB s0 s2 (by omega) e2 ?_ D0 ?_ D2 (by omega) s3 e4 Wy (raX_one (by omega) q0)⟩
 ·have:=YF (show 0<=1+2*(NS:Int) by omega) (show 0<=(NS:Int)+2 by omega)
  omega
 ·have:=Int.mul_le_mul (show 1+2*(NS:Int)<=11401 by omega) (show (NS:Int)+2<=5702 by omega) (by omega) (by omega)
  omega
theorem lower_ps (L G:Rat->Nat->Rat) (X:Int->Int->Nat->Rat) (hE:zK5 L G X) (w:World) (x y:Nm) (p q n d:Int) (b:Nat) (hx:IntAt w x.neg x.a x.n x.cap 4 n) (hy:IntAt w y.neg y.a y.n y.cap 4 d) (h:LwAr p q n d b) (cT:0<n) :
  Calls Tryz.prog 159 #[.agg #[.int .i64 p,.int .i64 q],.agg x.q,.agg y.q,.int .i64 b] w (λ r w'=>∃ lo hi,LwPr (lwX L p q n d (gmV p q (G (gA p q)))) b lo hi/\zH w b 30 lo hi r w'):=by
 have p0:=h.p0;have q0:=h.q0;have pq:=h.pq;have qq:=h.qq;have st:StIn p q:=⟨p0,q0,by omega,by omega⟩
 have AP:StIn (p+q) q:=⟨by omega,q0,by omega,by omega⟩
 have ig:=zCA hE st;have n0:=h.n0
 by_cases h0:n=0
 ·exact absurd h0 (by omega)
 ·by_cases hf:d*(2*((b:Int)+p/q+1))<=n
  ·exact zSE L hE.lns w x y p q n d b _ (X p q) hx hy h (by omega) hf ig
  ·refine zO3 L hE.lns w x y p q n d b _ (X (p+q) q) hx hy ⟨p0,q0,pq,qq,by omega,h.d0,h.nn,h.dd,by omega,h.b0,h.b1⟩ ig ?_ ?_
   ·have k:=hE.lg (p+q) q AP
    have e:gmV (p+q) q (G (gA (p+q) q))=λ M=>(p:Rat)/(q:Rat)*gmV p q (G (gA p q)) M:=by
     funext M
     rw[gA_next p0 q0,zM9 p0 q0,Rat.mul_comm]
    rw[e] at k;exact k
   ·intro w'
    have g:=hE.gam _ (zF4 AP).1 (zF4 AP).2;have b1:=h.b1;exact zE8 L hE.lns w' (p+q) q b (G (gA (p+q) q)) (X (p+q) q) AP (by omega) h.b0 (by omega) g (g.isGam hE.lns (zF4 AP).1).pos (hE.lg (p+q) q AP)
theorem zJ6 (L G:Rat->Nat->Rat) (X:Int->Int->Nat->Rat) (hE:zK5 L G X) (w:World) (x y:Nm) (p q r s n d:Int) (b:Nat) (hx:IntAt w x.neg x.a x.n x.cap 4 n) (hy:IntAt w y.neg y.a y.n y.cap 4 d) (h:BpAr p q r s n d b) (h2:2*n<=d) (cT:0<n) :
  Calls Tryz.prog 160 #[.agg x.q,.agg y.q,.agg #[.int .i64 p,.int .i64 q],.agg #[.int .i64 r,.int .i64 s],.int .i64 b] w (λ z w'=>∃ lo hi,BpPr L p q r s n d b lo hi/\zH w b 30 lo hi z w'):=by
 by_cases h0:n=0
 ·exact absurd h0 (by omega)
 ·have n0:=h.n0
  obtain⟨s1,s2,s3,hn⟩:=bp_st h.p0 h.q0 h.pq h.qq h.r0 h.s0 h.rs h.ss;have pq:=h.pq;have rs:=h.rs;have qq:=h.qq;have ss:=h.ss
  have e:bvX L p q r s n d=bv L ((p:Rat)/(q:Rat)) ((r:Rat)/(s:Rat)) ((n:Rat)/(d:Rat)):=by
   unfold bvX;rw[if_neg h0,if_neg (by omega)]
  refine (zS7 L hE.lns w x y p q r s n d b (X p q) (X r s) (X (p*s+r*q) (q*s)) hx hy ⟨h.p0,h.q0,h.pq,h.qq,h.r0,h.s0,h.rs,h.ss,by omega,h2,h.dd,h.b0,h.b1⟩ (bj_log hE s1 s2 s3) (zIA hE s1 (by omega) h.b0 h.b1) (zIA hE s2 (by omega) h.b0 h.b1) (zIA hE s3 hn h.b0 h.b1)).mono λ z w' ⟨lo,hi,h1,h3⟩=>⟨lo,hi,⟨?_,λ k=>absurd k h0,λ k=>absurd k (by omega)⟩,h3⟩
  rw[e];exact h1
theorem zPC (L G:Rat->Nat->Rat) (X:Int->Int->Nat->Rat) (hE:zK5 L G X) (w:World) (x y:Nm) (p q r s n d:Int) (b:Nat) (hx:IntAt w x.neg x.a x.n x.cap 4 n) (hy:IntAt w y.neg y.a y.n y.cap 4 d) (h:BpAr p q r s n d b) (h2:d<2*n) (fQ:n<d) :
  Calls Tryz.prog 160 #[.agg x.q,.agg y.q,.agg #[.int .i64 p,.int .i64 q],.agg #[.int .i64 r,.int .i64 s],.int .i64 b] w (λ z w'=>∃ lo hi,BpPr L p q r s n d b lo hi/\zH w b 61 lo hi z w'):=by
 obtain⟨W,hW⟩:∃ W,W=((((w.alloc (.cells x.q 29)).alloc (.cells y.q 29)).alloc (.cells #[.int .i64 p,.int .i64 q] 23)).alloc (.cells #[.int .i64 r,.int .i64 s] 23)).alloc (.cells zCq 31):=⟨_,rfl⟩;have j7:Below w.heap.size w W:=by rw[hW];exact bl5 _ _ _ _ _ _
 have X0:NmC W (w.heap.size) x:=by rw[hW];constructor<;>simp[go_sem]
 have Y0:NmC W (w.heap.size+1) y:=by rw[hW];constructor<;>simp[go_sem]
 have A:RaC W (w.heap.size+1+1) p q:=by rw[hW];constructor<;>simp[go_sem]
 have D:RaC W (w.heap.size+1+1+1) r s:=by rw[hW];constructor<;>simp[go_sem]
 have R:NoC W (w.heap.size+1+1+1+1):=by rw[hW];constructor<;>simp[go_sem]
 have HX:=zC (hx.bw j7);have HY:=zC (hy.bw j7);have se:=X0.c0;have sf:=X0.c1;have Ja:=Y0.c0;have Jb:=Y0.c1;clear hx hy;have d0:=h.d0;have b0:=h.b0;have b1:=h.b1;have dd:=h.dd;have nd:=h.nd
 have Bj:=zC (show -P 4<d-n/\d-n<P 4 by
  have:P 4=18446744073709551616:=rfl
  exact⟨by omega,by omega⟩)
 have HC:=zC (show zM n (d-n)=1 by unfold zM;rw[if_neg (by omega),if_pos (by omega)])
 have Y8:=zC (bvX_turn hE.lns h.p0 h.q0 h.r0 h.s0 h.n0 h.nd h.d0);have Tt:=zC h.turn;have HE:=zC hE;clear h hE
 go_enter Tryz.func160,Tryz.ntmps160
 go_upto_region 1 with fail
 rw[<- hW];clear hW;go_wp2_with fail;clear se sf Ja Jb;refine (zBI _ _ _ _ _ _ _ _ 4 4 d n _ (zA HY) (zA HX) (by omega) (by omega)).mono ?_
 rintro z0 w0 ⟨negL,aL,nL,cL,rfl,CE,E8⟩;obtain⟨VL,ot⟩:∃ V,V=w0.alloc (.cells #[.bool negL,.slice aL nL cL] 29):=⟨_,rfl⟩;have bVL:Below w0.heap.size w0 VL:=by rw[ot];exact bl1 _ _
 have L0:NmC VL w0.heap.size (⟨negL,aL,nL,cL⟩:Nm):=by rw[ot];constructor<;>simp[go_sem]
 have aZ:=zC ((CE.fits (K:=4) (zA Bj).1 (zA Bj).2).bw bVL);have hbL:=zB E8 bVL;have kL:w.heap.size+1+1+1+1<w0.heap.size:=YH R.lt E8.size;replace A:=A.bw hbL;replace D:=D.bw hbL;replace X0:=X0.bw hbL;replace Y0:=Y0.bw hbL;replace R:=R.bw hbL;replace HX:=zC ((zA HX).bw hbL);replace HY:=zC ((zA HY).bw hbL);replace j7:=zB j7 hbL;clear hbL E8 bVL CE;obtain⟨iN,iO⟩:=X0;obtain⟨sj,sk⟩:=L0;have lX:=NmC.lt ⟨iN,iO⟩;have lL:=NmC.lt ⟨sj,sk⟩
 go_upto_region 2 with fail
 rw[<- ot];clear ot;go_wp2_with fail;have X0:NmC VL (w.heap.size) x:=⟨iN,iO⟩;have L0:NmC VL w0.heap.size (⟨negL,aL,nL,cL⟩:Nm):=⟨sj,sk⟩;clear iN iO sj sk lX lL;refine (jO _ _ _ _ _ _ _ _ 4 4 n (d-n) _ (zA HX) (zA aZ)).mono ?_;rintro z1 w1 ⟨rfl,b9⟩;rw[zA HC];replace A:=A.bw b9;replace D:=D.bw b9;replace X0:=X0.bw b9;replace Y0:=Y0.bw b9;replace R:=R.bw b9;replace L0:=L0.bw b9;replace HX:=zC ((zA HX).bw b9);replace HY:=zC ((zA HY).bw b9);replace aZ:=zC ((zA aZ).bw b9);replace j7:=zB j7 b9;clear b9;obtain⟨x0,x1⟩:=L0;obtain⟨y0,y1⟩:=Y0;have aa:=A.c0;have ab:=A.c1;have da:=D.c0;have db:=D.c1;have lA:=A.lt;have lD:=D.lt;have lL:=NmC.lt ⟨x0,x1⟩;have lY:=NmC.lt ⟨y0,y1⟩;go_wp2_with fail;refine (zJ6 L G X (zA HE) _ (⟨negL,aL,nL,cL⟩:Nm) y r s p q (d-n) d b (zA aZ) (zA HY) (zA Tt) (by omega) (by omega)).mono ?_
 rintro z2 w2 ⟨lo,hi,hv,t,rfl,I8,P1,j8⟩;have HV:=zC hv;have zk:=zC I8;replace R:=R.bw j8;replace j7:=zB j7 j8;clear hv I8 j8 x0 x1 y0 y1 aa ab da db lA lD lL lY;go_wp2_with fail;refine (zEW _ t 60 b (lo,hi) (P1.mono (by omega)) (zA zk) (by omega) (by omega) (by omega)).mono ?_
 rintro z3 w3 ⟨u,rfl,B8,B7,m9⟩;have HU:=zC B8;replace j7:=zB j7 m9;obtain⟨q0,q1,q2,q3,q4,q5⟩:=R.bw m9;have ae:=(R.bw m9).lt;clear B8 m9;go_wp2_with fail;refine bodyPost_ret (v:=.agg u.q) (by simp[results,Tryz.results160,go_sem,q0,q1,q2,q3,q4]) rfl ⟨_,_,⟨(zSK (zA HV).pr).congr (zA Y8),λ k=>absurd k (by omega),λ k=>by obtain⟨k1,k2⟩:=(zA HV).z (by omega);subst k1 k2;exact⟨Int.sub_zero _,Int.sub_zero _⟩⟩,u,rfl,zA HU,?_,?_⟩
 ·exact SpAt.put5 B7 q0 q1 q2 q3 q4 _ _ _ _ _
 ·exact jY j7 (by omega) _ _ _ _ _
theorem zNS (L G:Rat->Nat->Rat) (X:Int->Int->Nat->Rat) (hE:zK5 L G X) (w:World) (x y:Nm) (p q r s n d:Int) (b:Nat) (hx:IntAt w x.neg x.a x.n x.cap 4 n) (hy:IntAt w y.neg y.a y.n y.cap 4 d) (h:BpAr p q r s n d b) (cT:0<n) (fQ:n<d) :
  Calls Tryz.prog 160 #[.agg x.q,.agg y.q,.agg #[.int .i64 p,.int .i64 q],.agg #[.int .i64 r,.int .i64 s],.int .i64 b] w (λ z w'=>∃ lo hi,BpPr L p q r s n d b lo hi/\zH w b 61 lo hi z w'):=by
 by_cases h2:2*n<=d
 ·exact (zJ6 L G X hE w x y p q r s n d b hx hy h h2 cT).mono λ z w' ⟨lo,hi,h1,t,a1,a2,a3,a4⟩=>⟨lo,hi,h1,t,a1,a2,a3.mono (by omega),a4⟩
 ·exact zPC L G X hE w x y p q r s n d b hx hy h (by omega) fQ
end Go.Proofs.YtgmnknmjainabacGreat
