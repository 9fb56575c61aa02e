/-
  Its own texts.
-/
import Derived.Test.YtgmnknmjainababGreatK21
set_option maxRecDepth 100000
set_option maxHeartbeats 8000000
set_option linter.unnecessarySimpa false
set_option linter.unusedSimpArgs false
set_option linter.unusedVariables false
namespace Go.Proofs.YtgmnknmjainababGreat
open Go.RowKit
attribute [local go_sem ↓] Go.wp_at_zero Go.wp_at_succ
theorem touch_up {b i:Nat} {a c:Int × Int} {x:Nat→Rat} (h:Iv b a x) (k:Iv (b+i) c x):zOB a.1 a.2 i c.1 c.2 0=true:=by
 have q:=zG b;have t1:=h.touch k;have t2:=k.touch h;rw[jC] at t1 t2;have e1:a.1*(Q b*Q i)=a.1*Q i*Q b:=by grind
 have e2:a.2*(Q b*Q i)=a.2*Q i*Q b:=by grind
 rw[e1] at t1;rw[e2] at t2;have c1:a.1*Q i≤c.2:=Int.le_of_mul_le_mul_right t1 (by omega)
 have c2:c.1≤a.2*Q i:=Int.le_of_mul_le_mul_right t2 (by omega)
 have e0:Q 0=1:=rfl;unfold zOB;rw[e0];simp[c1,c2]
theorem zGD (w:World) (s t:Sp) (b i k:Nat) (lo hi lo' hi':Int) (hs:SpAt w s 250 lo hi) (ht:SpAt w t k lo' hi') (hk0:250≤k) (hk:k≤300000000) (hb:s.bits=b) (hb1:b≤120) (hle:lo≤hi) (hi0:1≤i) (hi1:i≤1000) (htb:t.bits=((b+i:Nat):Int)) (hN:zID lo hi (Q b) 4=true) (hT:zOB lo hi i lo' hi' 0=true) :
  Calls Tryz.prog 12 #[.agg #[.bool s.ln,.slice s.la s.lN s.lc,.bool s.hn,.slice s.ha s.hN s.hc,.int .i64 s.bits],.int .i64 0,.int .i64 0,.int .i64 b,.agg #[.bool t.ln,.slice t.la t.lN t.lc,.bool t.hn,.slice t.ha t.hN t.hc,.int .i64 t.bits]] w fun r w'=>r=.returned (.bool true)∧Below w.heap.size w w':=by
 rw[← hb]
 rcases cmp3 lo hi with ⟨h1,h2⟩|⟨h1,h2⟩|⟨h1,h2⟩
 ·exact zPB w s t b i k lo hi lo' hi' hs ht hk0 hk hb hb1 hle hi0 hi1 htb hN hT h1
 ·exact zO5 w s t b i k lo hi lo' hi' hs ht hk0 hk hb hb1 hle hi0 hi1 htb hN hT h1
 ·omega
open Ex
theorem zOU (b:Nat) (c:Int):Iv b (c*Q b,c*Q b) (fun _=>(c:Rat)):=by
 have q:=zV b
 have e:((c*Q b:Int):Rat)/(Q b:Rat)=(c:Rat):=by
  rw[Rat.intCast_mul];exact Rat.le_antisymm (jS q Rat.le_refl) (kR q Rat.le_refl)
 refine Has.of_from 0 fun M _=>?_
 simp only[e];exact ⟨Rat.le_refl,Rat.le_refl⟩
theorem gm_one {L G:Rat→Nat→Rat} {X:Int→Int→Nat→Rat} (hE:zIP L G X):Null (fun M=>G 1 M-1):=gam_one hE.lns (hE.gam 1 (by grind) (by grind))
theorem gm_nat {L G:Rat→Nat→Rat} {X:Int→Int→Nat→Rat} (hE:zIP L G X) {n c:Int} (h1:gA n 1=1) (h2:(stP n 1 (stN n 1):Rat)/(stQ 1 (stN n 1):Rat)=(c:Rat)):Null (fun M=>(c:Rat)-gmV n 1 (G (gA n 1)) M):=by
 refine ((gm_one hE).bmul (Bdd.const (-(c:Rat)))).of_eq fun M=>?_
 unfold gmV;rw[h1,h2];grind
theorem gm_1 {L G:Rat→Nat→Rat} {X:Int→Int→Nat→Rat} (hE:zIP L G X):Null (fun M=>((1:Int):Rat)-gmV 1 1 (G (gA 1 1)) M):=gm_nat hE (by decide +kernel) (by decide +kernel)
theorem gA_next {n d:Int} (h0:0<n) (hd:0<d):gA (n+d) d=gA n d:=by
 unfold gA;rw[zLG hd h0]
 have e:n+d-((stN n d+1:Nat):Int)*d=n-(stN n d:Int)*d:=by
  have:((stN n d+1:Nat):Int)=(stN n d:Int)+1:=by omega
  rw[this];grind
 rw[e]
theorem zLF {n d:Int} (h0:0<n) (hd:0<d) (g:Nat→Rat) (M:Nat):gmV (n+d) d g M=gmV n d g M*((n:Rat)/(d:Rat)):=by
 unfold gmV;rw[zLG hd h0,stP_next];have e:stQ d (stN n d+1)=stQ d (stN n d)*d:=rfl;rw[e,Rat.intCast_mul,Rat.intCast_mul];have d0:(0:Rat)<(d:Rat):=by exact_mod_cast hd
 have q0:(0:Rat)<(stQ d (stN n d):Rat):=by exact_mod_cast zIU hd _
 generalize (stP n d (stN n d):Rat)=P at *;generalize (stQ d (stN n d):Rat)=Q at *;generalize g M=y
 have k:(n:Rat)*P/(Q*(d:Rat))=P/Q*((n:Rat)/(d:Rat)):=by
  have qd:=Rat.mul_pos q0 d0;refine zU qd ?_;have e1:=rdm (a:=(n:Rat)*P) qd;have e2:=rdm (a:=P) q0;have e3:=rdm (a:=(n:Rat)) d0;have r1:Q*(d:Rat)*((n:Rat)*P/(Q*(d:Rat)))=(n:Rat)*P/(Q*(d:Rat))*(Q*(d:Rat)):=by grind
  have r2:Q*(d:Rat)*(P/Q*((n:Rat)/(d:Rat)))=P/Q*Q*((n:Rat)/(d:Rat)*(d:Rat)):=by grind
  rw[r1,r2,e1,e2,e3];grind
 rw[k];grind
namespace Ex
theorem IsGam.congr {L:Rat→Nat→Rat} {a:Rat} {g g':Nat→Rat} (h:IsGam L a g) (e:∀ M,g' M=g M):IsGam L a g':=by
 have:g'=g:=funext e;rw[this];exact h
end Ex
theorem zNJ {L : Rat → Nat → Rat} (hL : Lns L) {n d : Int} {g : Nat → Rat} (h0 : 0 < n) (h1 : n ≤ d) (hg : Gam1 L ((n : Rat) / (d : Rat)) g) (k : Nat) : IsGam L (((n + (k : Int) * d : Int) : Rat) / (d : Rat)) (gmV (n + (k : Int) * d) d g) := by
  have d0 : 0 < d := by omega
  have dr : (0 : Rat) < (d : Rat) := by exact_mod_cast d0
  have nr : (0 : Rat) < (n : Rat) := by exact_mod_cast h0
  induction k with
  | zero =>
    have e : n + ((0 : Nat) : Int) * d = n := by have : ((0 : Nat) : Int) = 0 := rfl
                                                 rw [this]; omega
    rw [e]
    refine (hg.isGam hL (zL nr dr)).congr fun M => ?_
    have s : stN n d = 0 := by unfold stN; rw [Int.ediv_eq_zero_of_lt (by omega) (by omega)]; rfl
    unfold gmV
    rw [s]
    show ((1 : Int) : Rat) / ((1 : Int) : Rat) * g M = g M
    have : ((1 : Int) : Rat) / ((1 : Int) : Rat) = 1 := by decide +kernel
    rw [this]; grind
  | succ k ih =>
    have kd := Int.mul_nonneg (show (0 : Int) ≤ (k : Int) by omega) (show 0 ≤ d by omega)
    have e : n + ((k + 1 : Nat) : Int) * d = n + (k : Int) * d + d := by
      have : ((k + 1 : Nat) : Int) = (k : Int) + 1 := by omega
      rw [this]; grind
    have p : 0 < n + (k : Int) * d := by omega
    have pr' : (0 : Rat) < ((n + (k : Int) * d : Int) : Rat) := by exact_mod_cast p
    have nx := ih.next hL (zL pr' dr)
    rw [e]
    have ea : ((n + (k : Int) * d + d : Int) : Rat) / (d : Rat) = ((n + (k : Int) * d : Int) : Rat) / (d : Rat) + 1 := by
      rw [Rat.intCast_add (n + (k : Int) * d) d, yC]
      have : (d : Rat) / (d : Rat) = 1 := Rat.le_antisymm (jS dr (by grind)) (kR dr (by grind))
      rw [this]
    rw [ea]
    refine nx.congr fun M => ?_
    rw [zLF p d0]; grind
theorem zCF {L G:Rat→Nat→Rat} {X:Int→Int→Nat→Rat} (hE:zIP L G X) {n d:Int} (h:StIn n d):IsGam L ((n:Rat)/(d:Rat)) (gmV n d (G (gA n d))):=by
 obtain ⟨r1,r2,r3⟩:=h.rest;have k:=zNJ hE.lns r1 r2 (hE.gam _ (zH3 h).1 (zH3 h).2) (stN n d);have e:n-(stN n d:Int)*d+(stN n d:Int)*d=n:=by omega
 rw[e] at k;exact k
theorem pw_two (k:Nat):pw 2 k=(Q k:Rat):=pw_Q k
theorem zPS (e:Nat):h64 e*(Q (64*e):Rat)=1:=rdm (zV _)
theorem lm_log {L:Rat→Nat→Rat} (hL:Lns L) {n d:Int} {b x m K:Nat} (h:zIV n d b x) (hm:m=b+128) (hK:2*x<K) (hK2:K≤25000) (hT:(lmS n d x m K).T.2≤1) {g X lL lH l2:Nat→Rat} (hg:IsGam L ((n:Rat)/(d:Rat)) g) (hX:IsLog X g)
  (gL:IsLog lL (fun _=>(lmL (lmS n d x m K).U:Rat)/(Q m:Rat))) (gH:IsLog lH (fun _=>(lmH m (lmS n d x m K).e (lmS n d x m K).U:Rat)/(Q m:Rat))) (g2:IsLog l2 (fun _=>2)) :
  LeN (fun M=>lL M+((64*(lmS n d x m K).e:Nat):Rat)*l2 M+(n:Rat)/(d:Rat)*L (x:Rat) M-(x:Rat)) X∧LeN X (fun M=>lH M+((64*(lmS n d x m K).e:Nat):Rat)*l2 M+(n:Rat)/(d:Rat)*L (x:Rat) M-(x:Rat)):=by
 obtain ⟨s1,s2⟩:=zNR (m:=m) h hK hT;have o:=zD5 h hm K hK2;obtain ⟨s,hs⟩:∃ s,s=lmS n d x m K:=⟨_,rfl⟩;rw[← hs] at s1 s2 gL gH o ⊢;obtain ⟨a,ha⟩:∃ a,a=(n:Rat)/(d:Rat):=⟨_,rfl⟩;have nr:(0:Rat)<(n:Rat):=by exact_mod_cast h.n0
 have dr:(0:Rat)<(d:Rat):=by exact_mod_cast h.d0
 have a0:0<a:=by rw[ha];exact zL nr dr
 have x1:(1:Rat)≤(x:Rat):=by exact_mod_cast (show 1≤x by have:=h.xb;omega)
 have x0:(0:Rat)<(x:Rat):=by grind
 have xa:2*a≤(x:Rat):=by
  have c:=zW h.x2;rw[Rat.intCast_mul,Rat.intCast_mul] at c;have c2:((2:Int):Rat)=2:=rfl;have c3:((x:Int):Rat)=(x:Rat):=rfl;rw[c2,c3] at c;have dm:=rdm (a:=(n:Rat)) dr;rw[← ha] at dm;refine Rat.le_of_mul_le_mul_right (c:=(d:Rat)) ?_ dr;have:2*a*(d:Rat)=2*(a*(d:Rat)):=by grind
  rw[this,dm];exact c
 rw[← ha] at s1 s2 hg ⊢;have Qp:=zV (64*s.e);have hq:=zPS s.e;have hp:0<h64 s.e:=zL (by grind) Qp
 have pB:=zBW hL x0 a;have pN:=zGO hL x0 a;have eB:=kS (-(x:Rat));have eN:=zCQ (-(x:Rat))
 have lg:∀ {l:Nat→Rat} {c:Rat},IsLog l (fun _=>c)→IsLog (fun M=>l M+((64*s.e:Nat):Rat)*l2 M+a*L (x:Rat) M-(x:Rat)) (fun M=>c*(Q (64*s.e):Rat)*(Ex.pr L a (x:Rat) M*ex (-(x:Rat)) M)):=fun {l c} hl=>by
  have k1:=hl.add (g2.times (64*s.e));have k2:IsLog (fun M=>a*L (x:Rat) M) (Ex.pr L a (x:Rat)):=⟨zAP hL x0 a,null_zero.of_eq fun M=>by unfold Ex.pr;grind⟩
  have k3:=(k1.add k2).add (zC3 (-(x:Rat)));have e1:(fun M=>l M+((64*s.e:Nat):Rat)*l2 M+a*L (x:Rat) M + -(x:Rat))=fun M=>l M+((64*s.e:Nat):Rat)*l2 M+a*L (x:Rat) M-(x:Rat):=by funext M;grind
  rw[e1] at k3;refine k3.congr_r (null_zero.of_eq fun M=>?_)
  rw[pw_two];grind
 refine ⟨fun e he=>?_,fun e he=>?_⟩
 ·have low:LeN (fun M=>(lmL s.U:Rat)/(Q m:Rat)*(Q (64*s.e):Rat)*(Ex.pr L a (x:Rat) M*ex (-(x:Rat)) M)) g:=by
   refine LeN.trans ?_ (hg.lo _ x0);have l1:=((s1.cmul (c:=(Q (64*s.e):Rat)) (Rat.le_of_lt Qp)).bmul (pB.mul eB) (pN.mul eN));refine LeN.trans (LeN.of_le 0 fun M _=>?_) (l1.trans (LeN.of_le 0 fun M _=>?_))
   ·grind
   ·show (Q (64*s.e):Rat)*(h64 s.e*uS a (x:Rat) M)*(Ex.pr L a (x:Rat) M*ex (-(x:Rat)) M)≤uG L a (x:Rat) M
    unfold uG;generalize Ex.pr L a (x:Rat) M=p;generalize ex (-(x:Rat)) M=y;generalize uS a (x:Rat) M=u;have r:(Q (64*s.e):Rat)*(h64 s.e*u)*(p*y)=h64 s.e*(Q (64*s.e):Rat)*(p*y*u):=by grind
    rw[r,hq];grind
  obtain ⟨z,hz,kz⟩:=low.null;exact (lg gL).le hX hz 0 (fun M _=>kz M) e he
 ·have up:LeN g (fun M=>(lmH m s.e s.U:Rat)/(Q m:Rat)*(Q (64*s.e):Rat)*(Ex.pr L a (x:Rat) M*ex (-(x:Rat)) M)):=by
   refine (hg.hi _ x1 (by grind)).trans ?_
   have l1:=((s2.cmul (c:=(Q (64*s.e):Rat)) (Rat.le_of_lt Qp)).bmul (pB.mul eB) (pN.mul eN));refine LeN.trans ?_ (l1.trans (LeN.of_le 0 fun M _=>by grind))
   have nx:=zK4 hL x0 a;obtain ⟨N,hN⟩:=zLO hL x0 a;have nx2:=nx.bmul (Bdd.const 2);refine LeN.of_null nx2 N fun M hM=>?_
   have u0:=hN M hM;have m1:=Rat.mul_le_mul_of_nonneg_right x1 u0
   show uG L a (x:Rat) M+2*uE L a (x:Rat) M≤(Q (64*s.e):Rat)*(h64 s.e*(uS a (x:Rat) M+2))*(Ex.pr L a (x:Rat) M*ex (-(x:Rat)) M)+((x:Rat)*uE L a (x:Rat) M-Ex.pr L a (x:Rat) M*ex (-(x:Rat)) M)*2
   unfold uG;generalize uE L a (x:Rat) M=ue at *;generalize Ex.pr L a (x:Rat) M=p at *;generalize ex (-(x:Rat)) M=y at *;generalize uS a (x:Rat) M=u at *;have r:(Q (64*s.e):Rat)*(h64 s.e*(u+2))*(p*y)=h64 s.e*(Q (64*s.e):Rat)*(p*y*u+2*(p*y)):=by grind
   rw[r,hq];grind
  obtain ⟨z,hz,kz⟩:=up.null;exact hX.le (lg gH) hz 0 (fun M _=>kz M) e he
def lgR (B:Nat) (n d c x:Int) (p r o2 ox:Int × Int):Int × Int:=yH (jJ (jJ (p.1,r.2) (byI o2 c 1)) (byI ox n d)) (x*Q B,x*Q B)
theorem zCM {B:Nat} {a c:Int × Int} {lo hi X:Nat→Rat} (h1:Iv B a lo) (h2:Iv B c hi) (l:LeN lo X) (u:LeN X hi):Iv B (a.1,c.2) X:=by
 intro e he
 obtain ⟨N1,k1⟩:=h1 (e/2) (by grind)
 obtain ⟨N2,k2⟩:=h2 (e/2) (by grind)
 obtain ⟨N3,k3⟩:=l (e/2) (by grind)
 obtain ⟨N4,k4⟩:=u (e/2) (by grind)
 refine ⟨N1+N2+N3+N4,fun M hM=>?_⟩
 have a1:=(k1 M (by omega)).1
 have a2:=(k2 M (by omega)).2
 have a3:=k3 M (by omega)
 have a4:=k4 M (by omega)
 exact ⟨by grind,by grind⟩
theorem lgR_has {B:Nat} {n d:Int} {c x:Nat} (hd:0<d) {p r o2 ox:Int × Int} {lL lH l2 lx X:Nat→Rat} (i1:Iv B p lL) (i2:Iv B r lH) (j2:Iv B o2 l2) (jx:Iv B ox lx) (low:LeN (fun M=>lL M+(c:Rat)*l2 M+(n:Rat)/(d:Rat)*lx M-(x:Rat)) X) (up:LeN X (fun M=>lH M+(c:Rat)*l2 M+(n:Rat)/(d:Rat)*lx M-(x:Rat))):Iv B (lgR B n d (c:Int) (x:Int) p r o2 ox) X:=by
 have w:=zOU B (x:Int);have k2:=j2.by_ (c:Int) (d:=1) (by decide)
 have kx:=jx.by_ n hd
 have one:(((c:Int):Rat)/((1:Int):Rat))=(c:Rat):=by
  have e1:((1:Int):Rat)=1:=rfl;have e2:((c:Int):Rat)=(c:Rat):=rfl;have e3:(1:Rat)⁻¹=1:=by decide +kernel
  rw[e1,e2,Rat.div_def,e3,Rat.mul_one]
 have ex':((x:Int):Rat)=(x:Rat):=rfl
 have a1:Iv B (yH (jJ (jJ p (byI o2 c 1)) (byI ox n d)) ((x:Int)*Q B,(x:Int)*Q B)) (fun M=>lL M+(c:Rat)*l2 M+(n:Rat)/(d:Rat)*lx M-(x:Rat)):=by
  refine Has.of_eq (((i1.add k2).add kx).sub w) (fun M=>?_)
  show lL M+(c:Rat)*l2 M+(n:Rat)/(d:Rat)*lx M-(x:Rat)=lL M+((c:Int):Rat)/((1:Int):Rat)*l2 M+(n:Rat)/(d:Rat)*lx M-((x:Int):Rat)
  rw[one,ex']
 have a2:Iv B (yH (jJ (jJ r (byI o2 c 1)) (byI ox n d)) ((x:Int)*Q B,(x:Int)*Q B)) (fun M=>lH M+(c:Rat)*l2 M+(n:Rat)/(d:Rat)*lx M-(x:Rat)):=by
  refine Has.of_eq (((i2.add k2).add kx).sub w) (fun M=>?_)
  show lH M+(c:Rat)*l2 M+(n:Rat)/(d:Rat)*lx M-(x:Rat)=lH M+((c:Int):Rat)/((1:Int):Rat)*l2 M+(n:Rat)/(d:Rat)*lx M-((x:Int):Rat)
  rw[one,ex']
 have e:lgR B n d (c:Int) (x:Int) p r o2 ox=((yH (jJ (jJ p (byI o2 c 1)) (byI ox n d)) ((x:Int)*Q B,(x:Int)*Q B)).1,(yH (jJ (jJ r (byI o2 c 1)) (byI ox n d)) ((x:Int)*Q B,(x:Int)*Q B)).2):=by
  unfold lgR;generalize byI o2 (c:Int) 1=y1;generalize byI ox n d=y2;generalize (x:Int)*Q B=y3
  rfl
 rw[e];exact zCM a1 a2 low up
open Go.RowKit
attribute [local go_sem ↓] Go.wp_at_zero Go.wp_at_succ
theorem zDP (w:World) (s t:Sp) (k b:Nat) (a c:Int × Int) (hs:SpAt w s k a.1 a.2) (ht:SpAt w t k c.1 c.2) (hk:k≤700000000) (hb:s.bits=(b:Int)) :
  Calls Tryz.prog 26 #[.agg #[.bool s.ln,.slice s.la s.lN s.lc,.bool s.hn,.slice s.ha s.hN s.hc,.int .i64 s.bits],.agg #[.bool t.ln,.slice t.la t.lN t.lc,.bool t.hn,.slice t.ha t.hN t.hc,.int .i64 t.bits]] w (zH w b (k+1) (yH a c).1 (yH a c).2) :=
 (zEM w s t k a.1 a.2 c.1 c.2 hs ht hk).mono fun r w' h=>by rw[hb] at h;exact h
theorem TwoP.drew {W wx:World} {b k1 k2:Nat} {a c:Int × Int} {p q:Value} (h:TwoP W wx b k1 k2 a c p q):TwoP W wx.drew b k1 k2 a c p q:=by
 obtain ⟨B,B',x,y,h1,h2,h3,h4,h5,h6,h7,h8,h9,h10,h11,h12⟩:=h;have hd:Below wx.heap.size wx wx.drew:=(Below.refl _ _).drew;exact ⟨B,B',x,y,h1,h2,h3,h4,h5,h6.bw hd,h7.bw hd,h8.bw hd,h9.bw hd,h10,h11,zB h12 hd⟩
structure NearSt (w wr:World) (B5 B6 b K:Nat) (zz Pp Sm:Sp) (a pv sv:Int × Int):Prop where
 z:SpC wr w.heap.size zz
 p:VrC wr B5 Pp
 s:VrC wr B6 Sm
 zp:SpAt wr zz K a.1 a.2
 pp:SpAt wr Pp K pv.1 pv.2
 sp:SpAt wr Sm K sv.1 sv.2
 pb:Pp.bits=(b:Int)
 sb:Sm.bits=(b:Int)
 no:NoC wr (w.heap.size+1)
 be:Below w.heap.size w wr
 l1:B5≠w.heap.size+1
 l2:B6≠w.heap.size+1
 m1:B5≠w.heap.size
 m2:B6≠w.heap.size
 k1:w.heap.size≤B5
 k2:w.heap.size≤B6
 n:B5≠B6
theorem NearSt.bw {w wr wr':World} {B5 B6 b K:Nat} {z Pp Sm:Sp} {a p s:Int × Int} (h:NearSt w wr B5 B6 b K z Pp Sm a p s) (hb:Below wr.heap.size wr wr'):NearSt w wr' B5 B6 b K z Pp Sm a p s :=
 ⟨h.z.bw hb,h.p.bw hb,h.s.bw hb,h.zp.bw hb,h.pp.bw hb,h.sp.bw hb,h.pb,h.sb,h.no.bw hb,zB h.be hb,h.l1,h.l2,h.m1,h.m2,h.k1,h.k2,h.n⟩
theorem zL0 (w:World) (z:Sp) (k b K:Nat) (a:Int × Int) (hz:SpAt w z k a.1 a.2) (hbits:z.bits=(b:Int)) (hkK:k≤K) (hle:a.1≤a.2) (ha:Abs a (Q b)) (hb:b≤100000) (hb2:10≤b) (hK:Q (b+20)<P K) (hK2:K≤10000000) (hK4:4≤K) :
  Calls Tryz.prog 195 #[.agg #[.bool z.ln,.slice z.la z.lN z.lc,.bool z.hn,.slice z.ha z.hN z.hc,.int .i64 z.bits]] w (fun r w'=>∃ N,N≤b+20∧(zT (npT b a N)≤1∨b≤N+1)∧zH w b (K+1) (jJ (nsT b a N) (-2,2)).1 (jJ (nsT b a N) (-2,2)).2 r w'):=by
 obtain ⟨W,hW⟩:∃ W,W=(w.alloc (.cells #[.bool z.ln,.slice z.la z.lN z.lc,.bool z.hn,.slice z.ha z.hN z.hc,.int .i64 z.bits] 36)).alloc (.cells #[.bool false,.slice none 0 0,.bool false,.slice none 0 0,.int .i64 0] 36):=⟨_,rfl⟩;have hBW:Below w.heap.size w W:=by rw[hW];exact bl2 _ _ _
 have A:SpC W w.heap.size z:=by rw[hW];constructor <;> simp[go_sem]
 have R:NoC W (w.heap.size+1):=by rw[hW];constructor <;> simp[go_sem]
 have HX:=zC ((hz.bw hBW).mono hkK);have HB:=zC hbits;have hQb:=zG b
 have hQK:Q b*1048576<P K:=by
  have e:Q (b+20)=Q b*Q 20:=jC b 20;have e2:Q 20=1048576:=rfl;rw[e,e2] at hK;exact hK
 have lR:=R.lt;have lA:=A.lt;clear hz hbits
 go_enter Tryz.func195,Tryz.ntmps195
 go_wp2;rw[← hW];clear hW;have HK:=zC (show ∀ w',Below W.heap.size W w'→(w'.cell? ⟨w.heap.size,0,none⟩=some (.bool z.ln)∧w'.cell? ⟨w.heap.size,1,none⟩=some (.slice z.la z.lN z.lc)∧w'.cell? ⟨w.heap.size,2,none⟩=some (.bool z.hn)∧w'.cell? ⟨w.heap.size,3,none⟩=some (.slice z.ha z.hN z.hc)∧w'.cell? ⟨w.heap.size,4,none⟩=some (.int .i64 z.bits)) from fun w' hB=>⟨(A.bw hB).c0,(A.bw hB).c1,(A.bw hB).c2,(A.bw hB).c3,(A.bw hB).c4⟩)
 obtain ⟨x0,x1,x2,x3,x4⟩:=zA HK _ (Below.refl _ _);have hD0:Below W.heap.size W W.drew:=(Below.refl _ _).drew;have HX0:=zC ((zA HX).bw hD0)
 go_cut [3,4] (fun p q wx=>TwoP W wx b K K a a p q)
 case first =>
  go_region_held3 (fun w'=>w'.cell? ⟨w.heap.size,0,none⟩=some (.bool z.ln)∧w'.cell? ⟨w.heap.size,1,none⟩=some (.slice z.la z.lN z.lc)∧w'.cell? ⟨w.heap.size,2,none⟩=some (.bool z.hn)∧w'.cell? ⟨w.heap.size,3,none⟩=some (.slice z.ha z.hN z.hc)∧w'.cell? ⟨w.heap.size,4,none⟩=some (.int .i64 z.bits)) (exact zA HK _ (by repeat' (first|with_reducible exact hD0|with_reducible exact Below.refl _ _|with_reducible refine Below.drew ?_|with_reducible refine zK ?_ _|with_reducible refine Below.setCell ?_ (by with_reducible first|exact Nat.le_refl _|exact Nat.le_succ _) _)))
   (fail)
  all_goals
   go_wp2_with fail;go_meet
   first
    | with_reducible exact (zER (x:=z) (y:=z) (Below.refl _ _) (zA HX) (zA HX) (zA HB) (zA HB)).drew
    | with_reducible exact (zEI (x:=z) (y:=z) (Below.refl _ _) (zA HX) (zA HX) (zA HB) (zA HB)).drew
 case rest =>
 obtain ⟨BU,CU,xU,yU,rfl,rfl,hHU,hJU,hneU,XU,YU,hxU,hyU,bxU,byU,hblU⟩:=hcut;have hz1:0≤z.bits:=by have:=zA HB;omega
 have hz2:z.bits≤100000:=by have:=zA HB;omega
 have st0:NearSt w wc BU CU b K z xU yU a (npT b a 0) (nsT b a 0):=⟨A.bw hblU,XU,YU,(zA HX).bw hblU,hxU,hyU,bxU,byU,R.bw hblU,zB hBW hblU,by omega,by omega,by omega,by omega,by omega,by omega,hneU⟩
 have HFIT:Hid (∀ j,-P K<(npT b a j).1∧(npT b a j).2<P K):=zC (fun j=>by
  obtain ⟨g1,g2,g3,g4⟩:=zJD ha j
  omega)
 have HFITC:Hid (∀ j,-P K<(zE (npT b a (j+1)) 1 ((j:Int)+2)).1∧(zE (npT b a (j+1)) 1 ((j:Int)+2)).2<P K):=zC (fun j=>by
  obtain ⟨g1,g2,g3,g4⟩:=yR (n:=1) (d:=(j:Int)+2) (zJD ha (j+1)) (by omega) (by omega) (by omega)
  omega)
 have HFITS:Hid (∀ j,j≤b+20 → -P K<(nsT b a j).1∧(nsT b a j).2<P K):=zC (fun j hj=>by
  obtain ⟨g1,g2,g3,g4⟩:=nsT_abs ha j;have:=Int.mul_le_mul_of_nonneg_right (show (j:Int)+1≤1048575 by omega) (show 0≤Q b by omega)
  omega)
 have HZB:=zC (And.intro hz1 hz2);clear bxU byU hxU hyU HX HX0 HK A x0 x1 x2 x3 x4 XU YU R hD0 hQK;go_wp2_with fail
 go_loopw [5] (fun nn wr=>∃ (i:Nat) (Pp Sm:Sp),nn=.int .i64 ((i:Int)+2)∧i≤b+18∧NearSt w wr BU CU b K z Pp Sm a (npT b a i) (nsT b a i)) (fun nn _=>b+30-(intOf nn).toNat)
 case atStart=>exact ⟨0,xU,yU,rfl,by omega,st0⟩
 case round =>
  obtain ⟨i,Pp,Sm,rfl,hi,st⟩:=hrel;clear st0;have lz:=st.z.lt;have lp:=st.p.lt
  by_cases hlim:(i:Int)+2<z.bits+20
  ·have hi2:i+1≤b+18:=by have:=zA HB;omega
   obtain ⟨x0,x1,x2,x3,x4⟩:=st.z;obtain ⟨⟨y0,y1,y2,y3,y4⟩,y5⟩:=st.p;go_wp2_with fail;refine (zC9 _ Pp K 1 _ _ st.pp (by omega) (by omega)).mono ?_
   rintro r w1 ⟨rfl,hb1⟩;rw[zC0];have er:zT ((npT b a i).1,(npT b a i).2)=zT (npT b a i):=rfl;rw[er];replace st:=st.bw hb1;clear hb1 er x0 x1 x2 x3 x4 y0 y1 y2 y3 y4 y5 lz lp
   by_cases hr:zT (npT b a i)≤1
   ·have HE:Hid (zT (npT b a i)≤1∨b≤i+1):=zC (Or.inl hr)
    rw[decide_eq_true hr];clear hr;have ls6:=st.s.lt;obtain ⟨⟨z0,z1,z2,z3,z4⟩,z5⟩:=st.s;go_wp2_with fail;refine (zFA _ Sm K 2 _ _ st.sp (by omega) (by omega) (by omega) (by omega)).mono ?_
    rintro r w7 ⟨v7,rfl,hvb7,hvp7,hb7⟩;obtain ⟨q0,q1,q2,q3,q4,q5⟩:=st.no.bw hb7;have hBf:=zB st.be hb7;have HV7:=zC (hvb7.trans st.sb);clear hvb7 hb7;go_wp2_with fail;refine bodyPost_ret (v:=.agg #[.bool v7.ln,.slice v7.la v7.lN v7.lc,.bool v7.hn,.slice v7.ha v7.hN v7.hc,.int .i64 v7.bits]) (by simp[results,Tryz.results195,go_sem,q0,q1,q2,q3,q4]) rfl ⟨i,by omega,zA HE,v7,rfl,zA HV7,?_,?_⟩
    ·exact SpAt.put5 hvp7 q0 q1 q2 q3 q4 _ _ _ _ _
    ·exact jV hBf (Nat.le_succ _) _ _ _ _ _
   ·rw[decide_eq_false hr]
    clear hr;have lz:=st.z.lt;have lp:=st.p.lt;obtain ⟨x0,x1,x2,x3,x4⟩:=st.z;obtain ⟨⟨y0,y1,y2,y3,y4⟩,y5⟩:=st.p;go_wp2_with fail;refine (yO _ Pp z K b (npT b a i) a st.pp st.zp (by omega) st.pb (by omega)).mono ?_
    rintro r w2 ⟨v1,rfl,hvb1,hvp1,hb2⟩;have e1:kJ b (npT b a i) a=npT b a (i+1):=rfl;rw[e1] at hvp1;replace hvp1:=hvp1.fits (K:=K) (zK8 hle (i+1)) (zA HFIT _).1 (zA HFIT _).2;replace st:=st.bw hb2;have HV1:=zC hvb1;clear hb2 hvb1 e1 x0 x1 x2 x3 x4 y0 y1 y2 y3 y4 y5 lz lp;have stn:NearSt w (zP w2 BU v1) BU CU b K z v1 Sm a (npT b a (i+1)) (nsT b a i):=⟨st.z.off (Ne.symm st.m1) v1,st.p.put v1,st.s.off (Ne.symm st.n) v1,st.zp.put st.p.c v1,hvp1.put st.p.c v1,st.sp.put st.p.c v1,zA HV1,st.sb,st.no.off (Ne.symm st.l1) v1,zZ st.be st.k1 v1,st.l1,st.l2,st.m1,st.m2,st.k1,st.k2,st.n⟩;have lp:=st.p.lt;obtain ⟨⟨y0,y1,y2,y3,y4⟩,y5⟩:=st.p;clear st hvp1;obtain ⟨V1,hV1⟩:∃ V1,V1=zP w2 BU v1:=⟨_,rfl⟩;rw[← hV1] at stn;unfold zP at hV1;go_wp2_with fail;rw[← hV1];clear hV1 y0 y1 y2 y3 y4 y5 lp;have st:=stn;clear stn;have lp:=st.p.lt;have HPP:=zC st.pp;have HPB:=zC st.pb;have HKT:=zC (show ∀ w',Below V1.heap.size V1 w'→(w'.cell? ⟨BU,0,none⟩=some (.bool v1.ln)∧w'.cell? ⟨BU,1,none⟩=some (.slice v1.la v1.lN v1.lc)∧w'.cell? ⟨BU,2,none⟩=some (.bool v1.hn)∧w'.cell? ⟨BU,3,none⟩=some (.slice v1.ha v1.hN v1.hc)∧w'.cell? ⟨BU,4,none⟩=some (.int .i64 v1.bits)) from fun w' hB=>⟨(st.p.bw hB).c.c0,(st.p.bw hB).c.c1,(st.p.bw hB).c.c2,(st.p.bw hB).c.c3,(st.p.bw hB).c.c4⟩)
    obtain ⟨y0,y1,y2,y3,y4⟩:=zA HKT _ (Below.refl _ _)
    go_cut [6] (fun p wx=>∃ (B:Nat) (u:Sp),p=.pointer (some ⟨B,0,none⟩)∧V1.heap.size≤B∧VrC wx B u∧SpAt wx u K (zE (npT b a (i+1)) 1 ((i:Int)+2)).1 (zE (npT b a (i+1)) 1 ((i:Int)+2)).2∧u.bits=(b:Int)∧Below V1.heap.size V1 wx)
    case first =>
     go_region_held3 (fun w'=>w'.cell? ⟨BU,0,none⟩=some (.bool v1.ln)∧w'.cell? ⟨BU,1,none⟩=some (.slice v1.la v1.lN v1.lc)∧w'.cell? ⟨BU,2,none⟩=some (.bool v1.hn)∧w'.cell? ⟨BU,3,none⟩=some (.slice v1.ha v1.hN v1.hc)∧w'.cell? ⟨BU,4,none⟩=some (.int .i64 v1.bits)) (exact zA HKT _ (by repeat' (first|with_reducible exact hBT3|with_reducible exact hBT2|with_reducible exact hBT1|with_reducible exact Below.refl _ _|with_reducible refine Below.drew ?_|with_reducible refine zK ?_ _|with_reducible refine Below.setCell ?_ (by first|exact Nat.le_refl _|exact hlT1|exact hlT2|exact hlT3) _)))
      (first
       | (go_at_call 56;have hq:=hBT2;refine (zEA _ v1 ⟨negT1,aT1,nT1,cT1⟩ ⟨negT2,aT2,nT2,cT2⟩ K _ _ b (npT b a (i+1)) 1 ((i:Int)+2) ((zA HPP).bw (by with_reducible first|exact hBT2|exact zK hBT2 _)) (hZT1.bw (by with_reducible first|exact Below.refl _ _|exact bl1 _ _)) (hZT2.bw (by with_reducible first|exact Below.refl _ _|exact bl1 _ _)) (by omega) (by omega) (by omega) (by omega) (zA HPB)).mono ?_;rintro r wT3 ⟨vT3,rfl,hvbT3,hZT3,hbT3⟩;have HVBT3:=zC hvbT3;clear hvbT3;have hCT3:Below wT2.heap.size wT2 wT3:=(by with_reducible first|exact hbT3|exact zB (bl1 _ _) hbT3);have hBT3:=zB hBT2 hCT3;(try with_reducible have gT3:=(zO wT2 36).bw hbT3);replace hZT1:=hZT1.bw hCT3;(try replace gT1:=gT1.bw hCT3);replace hZT2:=hZT2.bw hCT3;(try replace gT2:=gT2.bw hCT3);have hlT3:=hBT3.size;(try have mT1:=gT1.lt);(try have eT1:=Nat.ne_of_lt mT1);(try have eT1':=Nat.ne_of_gt mT1);(try obtain ⟨zT10,zT11,zT12,zT13,zT14,zT15⟩:=gT1);(try have mT2:=gT2.lt);(try have eT2:=Nat.ne_of_lt mT2);(try have eT2':=Nat.ne_of_gt mT2);(try obtain ⟨zT20,zT21,zT22,zT23,zT24,zT25⟩:=gT2);(try have mT3:=gT3.lt);(try have eT3:=Nat.ne_of_lt mT3);(try have eT3':=Nat.ne_of_gt mT3);(try obtain ⟨zT30,zT31,zT32,zT33,zT34,zT35⟩:=gT3))
       | (go_at_call 43;have hq:=hBT1;refine (zD ((i:Int)+2) _ (by omega) (by omega)).mono ?_;rintro r wT2 ⟨negT2,aT2,nT2,cT2,rfl,hZT2,hbT2⟩;have hCT2:Below wT1.heap.size wT1 wT2:=(by with_reducible first|exact hbT2|exact zB (bl1 _ _) hbT2);have hBT2:=zB hBT1 hCT2;(try with_reducible have gT2:=(zO wT1 36).bw hbT2);replace hZT1:=hZT1.bw hCT2;(try replace gT1:=gT1.bw hCT2);have hlT2:=hBT2.size)
       | (go_at_call 43;refine (zD 1 _ (by decide) (by decide)).mono ?_;rintro r wT1 ⟨negT1,aT1,nT1,cT1,rfl,hZT1,hbT1⟩;have hBT1:Below V1.heap.size V1 wT1:=(by with_reducible first|exact zB (Below.refl _ _).drew hbT1|exact zB (bl1 _ _).drew hbT1);(try with_reducible have gT1:=((zO V1 36).bw (Below.refl _ _).drew).bw hbT1);have hlT1:=hBT1.size))
     all_goals
      have hfinT:SpAt wT3 vT3 K (zE (npT b a (i+1)) 1 ((i:Int)+2)).1 (zE (npT b a (i+1)) 1 ((i:Int)+2)).2:=(by rw[kP (zK8 hle (i+1)) (by omega)] at hZT3;exact hZT3.fits (K:=K) (jQ (zK8 hle (i+1)) (by omega) (by omega)) (zA HFITC i).1 (zA HFITC i).2)
      go_wp2_with fail;go_meet;refine ⟨_,vT3,rfl,?_,⟨⟨?_,?_,?_,?_,?_⟩,?_⟩,?_,zA HVBT3,?_⟩
      ·first|exact Nat.le_refl _|exact hlT1|exact hlT2|exact hlT3
      ·simp[go_sem, *]
      ·simp[go_sem, *]
      ·simp[go_sem, *]
      ·simp[go_sem, *]
      ·simp[go_sem, *]
      ·intro o;simp[go_sem, *]
      ·first|with_reducible exact hfinT.bw (bl1 _ _)|with_reducible exact SpAt.put5 hfinT (by assumption) (by assumption) (by assumption) (by assumption) (by assumption) _ _ _ _ _
      ·repeat' (first|with_reducible exact hBT3|with_reducible exact hBT2|with_reducible exact hBT1|with_reducible exact Below.refl _ _|with_reducible refine Below.drew ?_|with_reducible refine zK ?_ _|with_reducible refine Below.setCell ?_ (by first|exact Nat.le_refl _|exact hlT1|exact hlT2|exact hlT3) _)
    case rest =>
    obtain ⟨BT,xT,rfl,hHT,XT,hpT,hxbT,hblT⟩:=hcut;replace st:=st.bw hblT;clear y0 y1 y2 y3 y4 HKT HPP HPB lp;have HXB:=zC hxbT;clear hxbT;have lT:=XT.lt;have ls:=st.s.lt;obtain ⟨⟨y0,y1,y2,y3,y4⟩,y5⟩:=st.s;obtain ⟨⟨t0,t1,t2,t3,t4⟩,t5⟩:=XT
    by_cases hpar:(i+2) % 2=0
    ·have HE5:=zC (show yH (nsT b a i) (zE (npT b a (i+1)) 1 ((i:Int)+2))=nsT b a (i+1) by rw[nsT,if_pos hpar])
     have hm1:((i:Int)+2) % 2=0:=by omega
     have hm2:((i:Int)+2).tmod 2=0:=by rw[Int.tmod_eq_emod_of_nonneg (by omega)];omega
     clear hpar;go_wp2_with fail;clear y0 y1 y2 y3 y4 y5 t0 t1 t2 t3 t4 t5 hm1 hm2;refine (zDP _ Sm xT K b (nsT b a i) (zE (npT b a (i+1)) 1 ((i:Int)+2)) st.sp hpT (by omega) st.sb).mono ?_
     rintro r w5 ⟨v5,rfl,hvb5,hvp5,hb5⟩;rw[zA HE5] at hvp5;replace hvp5:=hvp5.fits (K:=K) (zOS hle (i+1)) (zA HFITS (i+1) (by omega)).1 (zA HFITS (i+1) (by omega)).2
     replace st:=st.bw hb5;have HV5:=zC hvb5;clear hb5 hvb5 hpT;have stn:NearSt w (zP w5 CU v5) BU CU b K z v1 v5 a (npT b a (i+1)) (nsT b a (i+1)):=⟨st.z.off (Ne.symm st.m2) v5,st.p.off st.n v5,st.s.put v5,st.zp.put st.s.c v5,st.pp.put st.s.c v5,hvp5.put st.s.c v5,st.pb,zA HV5,st.no.off (Ne.symm st.l2) v5,zZ st.be st.k2 v5,st.l1,st.l2,st.m1,st.m2,st.k1,st.k2,st.n⟩;have ls5:=st.s.lt;obtain ⟨⟨y0,y1,y2,y3,y4⟩,y5⟩:=st.s;clear st hvp5;obtain ⟨V6,hV6⟩:∃ V6,V6=zP w5 CU v5:=⟨_,rfl⟩;rw[← hV6] at stn;unfold zP at hV6;go_wp2_with fail;rw[← hV6];clear hV6 y0 y1 y2 y3 y4 y5
     go_roundw
     case rel=>exact ⟨i+1,v1,v5,by go_num,by omega,stn⟩
     case measure=>simp[intOf];omega
    ·have HE5:=zC (show jJ (nsT b a i) (zE (npT b a (i+1)) 1 ((i:Int)+2))=nsT b a (i+1) by rw[nsT,if_neg hpar])
     have hm1:((i:Int)+2) % 2=1:=by omega
     have hm2:((i:Int)+2).tmod 2=1:=by rw[Int.tmod_eq_emod_of_nonneg (by omega)];omega
     clear hpar;go_wp2_with fail;clear y0 y1 y2 y3 y4 y5 t0 t1 t2 t3 t4 t5 hm1 hm2;refine (yB _ Sm xT K b (nsT b a i) (zE (npT b a (i+1)) 1 ((i:Int)+2)) st.sp hpT (by omega) st.sb).mono ?_
     rintro r w5 ⟨v5,rfl,hvb5,hvp5,hb5⟩;rw[zA HE5] at hvp5;replace hvp5:=hvp5.fits (K:=K) (zOS hle (i+1)) (zA HFITS (i+1) (by omega)).1 (zA HFITS (i+1) (by omega)).2
     replace st:=st.bw hb5;have HV5:=zC hvb5;clear hb5 hvb5 hpT;have stn:NearSt w (zP w5 CU v5) BU CU b K z v1 v5 a (npT b a (i+1)) (nsT b a (i+1)):=⟨st.z.off (Ne.symm st.m2) v5,st.p.off st.n v5,st.s.put v5,st.zp.put st.s.c v5,st.pp.put st.s.c v5,hvp5.put st.s.c v5,st.pb,zA HV5,st.no.off (Ne.symm st.l2) v5,zZ st.be st.k2 v5,st.l1,st.l2,st.m1,st.m2,st.k1,st.k2,st.n⟩;have ls5:=st.s.lt;obtain ⟨⟨y0,y1,y2,y3,y4⟩,y5⟩:=st.s;clear st hvp5;obtain ⟨V6,hV6⟩:∃ V6,V6=zP w5 CU v5:=⟨_,rfl⟩;rw[← hV6] at stn;unfold zP at hV6;go_wp2_with fail;rw[← hV6];clear hV6 y0 y1 y2 y3 y4 y5
     go_roundw
     case rel=>exact ⟨i+1,v1,v5,by go_num,by omega,stn⟩
     case measure=>simp[intOf];omega
  ·have HE:Hid (zT (npT b a i)≤1∨b≤i+1):=zC (Or.inr (by have:=zA HB;omega))
   obtain ⟨x0,x1,x2,x3,x4⟩:=st.z;have ls6:=st.s.lt;obtain ⟨⟨z0,z1,z2,z3,z4⟩,z5⟩:=st.s;go_wp2_with fail;refine (zFA _ Sm K 2 _ _ st.sp (by omega) (by omega) (by omega) (by omega)).mono ?_
   rintro r w7 ⟨v7,rfl,hvb7,hvp7,hb7⟩;obtain ⟨q0,q1,q2,q3,q4,q5⟩:=st.no.bw hb7;have hBf:=zB st.be hb7;have HV7:=zC (hvb7.trans st.sb);clear hvb7 hb7;go_wp2_with fail;refine bodyPost_ret (v:=.agg #[.bool v7.ln,.slice v7.la v7.lN v7.lc,.bool v7.hn,.slice v7.ha v7.hN v7.hc,.int .i64 v7.bits]) (by simp[results,Tryz.results195,go_sem,q0,q1,q2,q3,q4]) rfl ⟨i,by omega,zA HE,v7,rfl,zA HV7,?_,?_⟩
   ·exact SpAt.put5 hvp7 q0 q1 q2 q3 q4 _ _ _ _ _
   ·exact jV hBf (Nat.le_succ _) _ _ _ _ _
open Ex
structure LmW (w wr:World) (X Y:Nm) (n d:Int) (BT BU BA:Nat) (T U:Sp) (A:Nm) (m k K:Nat) (a c:Int × Int):Prop where
 x:NmC wr w.heap.size X
 y:NmC wr (w.heap.size+1) Y
 ix:IntAt wr X.neg X.a X.n X.cap 20 n
 iy:IntAt wr Y.neg Y.a Y.n Y.cap 20 d
 t:VrC wr BT T
 u:VrC wr BU U
 at_:VnC wr BA A
 tb:T.bits=(m:Int)
 ub:U.bits=(m:Int)
 tp:SpAt wr T K a.1 a.2
 up:SpAt wr U K c.1 c.2
 ap:IntAt wr A.neg A.a A.n A.cap (k+20) (n+(k:Int)*d)
 r:NoC wr (w.heap.size+1+1)
 be:Below w.heap.size w wr
 l1:w.heap.size+1+1<BT
 l2:w.heap.size+1+1<BU
 l3:w.heap.size+1+1<BA
 n1:BT≠BU
 n2:BT≠BA
 n3:BU≠BA
theorem LmW.bw {w wr:World} {X Y:Nm} {n d:Int} {BT BU BA:Nat} {T U:Sp} {A:Nm} {m k K:Nat} {a c:Int × Int} (h:LmW w wr X Y n d BT BU BA T U A m k K a c) {wr':World} (hb:Below wr.heap.size wr wr'):LmW w wr' X Y n d BT BU BA T U A m k K a c :=
 ⟨h.x.bw hb,h.y.bw hb,h.ix.bw hb,h.iy.bw hb,h.t.bw hb,h.u.bw hb,h.at_.bw hb,h.tb,h.ub,h.tp.bw hb,h.up.bw hb,h.ap.bw hb,h.r.bw hb,zB h.be hb,h.l1,h.l2,h.l3,h.n1,h.n2,h.n3⟩
theorem LmW.putT {w wr:World} {X Y:Nm} {n d:Int} {BT BU BA:Nat} {T U:Sp} {A:Nm} {m k K:Nat} {a c:Int × Int} (h:LmW w wr X Y n d BT BU BA T U A m k K a c) {T':Sp} {a':Int × Int} (hb:T'.bits=(m:Int)) (hp:SpAt wr T' K a'.1 a'.2):LmW w (zP wr BT T') X Y n d BT BU BA T' U A m k K a' c :=
 have l1:=h.l1
 ⟨h.x.offP (by omega) _,h.y.offP (by omega) _,h.ix.put h.t.c _,h.iy.put h.t.c _,h.t.put _,h.u.off (Ne.symm h.n1) _,⟨h.at_.c.offP (Ne.symm h.n2) _,zDL h.at_.fz _⟩,hb,h.ub,hp.put h.t.c _,h.up.put h.t.c _,h.ap.put h.t.c _,h.r.off (by omega) _,jV h.be (by omega) _ _ _ _ _,h.l1,h.l2,h.l3,h.n1,h.n2,h.n3⟩
theorem LmW.putU {w wr:World} {X Y:Nm} {n d:Int} {BT BU BA:Nat} {T U:Sp} {A:Nm} {m k K:Nat} {a c:Int × Int} (h:LmW w wr X Y n d BT BU BA T U A m k K a c) {U':Sp} {c':Int × Int} (hb:U'.bits=(m:Int)) (hp:SpAt wr U' K c'.1 c'.2):LmW w (zP wr BU U') X Y n d BT BU BA T U' A m k K a c' :=
 have l2:=h.l2
 ⟨h.x.offP (by omega) _,h.y.offP (by omega) _,h.ix.put h.u.c _,h.iy.put h.u.c _,h.t.off h.n1 _,h.u.put _,⟨h.at_.c.offP (Ne.symm h.n3) _,zDL h.at_.fz _⟩,h.tb,hb,h.tp.put h.u.c _,hp.put h.u.c _,h.ap.put h.u.c _,h.r.off (by omega) _,jV h.be (by omega) _ _ _ _ _,h.l1,h.l2,h.l3,h.n1,h.n2,h.n3⟩
theorem LmW.putB {w wr:World} {X Y:Nm} {n d:Int} {BT BU BA:Nat} {T U:Sp} {A:Nm} {m k K:Nat} {a c:Int × Int} (h:LmW w wr X Y n d BT BU BA T U A m k K a c) {T' U':Sp} {a' c':Int × Int} (hb:T'.bits=(m:Int)) (hp:SpAt wr T' K a'.1 a'.2) (hb':U'.bits=(m:Int)) (hp':SpAt wr U' K c'.1 c'.2):LmW w (zP (zP wr BT T') BU U') X Y n d BT BU BA T' U' A m k K a' c' :=
 (h.putT hb hp).putU hb' (hp'.put h.t.c _)
theorem LmW.putA {w wr:World} {X Y:Nm} {n d:Int} {BT BU BA:Nat} {T U:Sp} {A:Nm} {m k K:Nat} {a c:Int × Int} (h:LmW w wr X Y n d BT BU BA T U A m k K a c) {A':Nm} (hp:IntAt wr A'.neg A'.a A'.n A'.cap (k+1+20) (n+((k+1:Nat):Int)*d)):LmW w (zAM wr BA A') X Y n d BT BU BA T U A' m (k+1) K a c :=
 have l3:=h.l3
 ⟨h.x.off (by omega) _ _,h.y.off (by omega) _ _,h.ix.putv h.at_ _,h.iy.putv h.at_ _,h.t.offv h.n2 _,h.u.offv h.n3 _,h.at_.put _,h.tb,h.ub,h.tp.put2 h.at_.c.c0 h.at_.c.c1 _ _,h.up.put2 h.at_.c.c0 h.at_.c.c1 _ _,hp.putv h.at_ _,h.r.offv (by omega) _,zDN h.be (by omega) _ _,h.l1,h.l2,h.l3,h.n1,h.n2,h.n3⟩
theorem lm_at (n d:Int) (k:Nat):n+(k:Int)*d+d=n+((k+1:Nat):Int)*d:=by
 rw[show ((k+1:Nat):Int)=(k:Int)+1 by omega,Int.add_mul,Int.one_mul,Int.add_assoc]
theorem lm_pos {n d:Int} {b x:Nat} (h:zIV n d b x) (k:Nat):0<n+(k:Int)*d:=by
 have h1:=h.n0;have h2:=Int.mul_nonneg (show (0:Int)≤(k:Int) by omega) (show 0≤d by have:=h.d0;omega)
 omega
theorem lm_by {n d zz:Int} {b x m k:Nat} {s:LmSt} (h:zIV n d b x) (o:LmOk n d x m k s) (hz:(x:Int)=zz):byI s.T (zz*d) (n+((k+1:Nat):Int)*d)=lmT n d x k s.T:=by
 have h1:=h.d0;have h2:=Int.mul_nonneg (show (0:Int)≤zz by omega) (show 0≤d by omega)
 rw[kP o.tl h2,← hz]
 rfl
theorem lm_fit {n d:Int} {x m k:Nat} {T U:Int × Int} (o:LmMid n d x m k T U) (hm:m≤1000):T.2<P 100∧U.2<P 100 ∧ -P 100<T.1 ∧ -P 100<U.1:=by
 have h1:=zJ (show m+140+1≤16*100 by omega)
 have h2:=zG (m+140);have h3:Q (m+140+1)=2*Q (m+140):=rfl;rw[Q_P] at h1;have:=o.us;have:=o.tu;have:=o.t0;have:=o.u1;omega
theorem lm_len {z l:Int} {m:Nat} (h:zDW z l) (hz:0<z):(((m+128:Nat):Int)<l) ↔ Q (m+128)≤z:=by
 obtain ⟨L,rfl,h1,h2⟩:=h.2.2 hz;constructor
 ·intro h3
  exact Int.le_trans (zJ (by omega)) h1
 ·intro h3
  by_cases c:m+128≤L
  ·omega
  ·have:=zJ (show L+1≤m+128 by omega)
   omega
theorem lm_e (n d:Int) (x m:Nat):∀ k,(lmS n d x m k).e≤k
 | 0=>Nat.le_refl _
 | k+1=>by
  have:=lm_e n d x m k
  show (zBA n d x m k (lmS n d x m k)).e≤k+1
  unfold zBA;split
  ·show (lmS n d x m k).e+1≤k+1;omega
  ·show (lmS n d x m k).e≤k+1;omega
structure RootSt (w wr:World) (b K i:Nat) (l:Nat→Rat) (ss:Sp) (a:Int × Int):Prop where
 s:VrC wr w.heap.size ss
 sp:SpAt wr ss K a.1 a.2
 sb:ss.bits=(b:Int)
 iv:RInv b l i a
 no:NoC wr (w.heap.size+1)
 be:Below w.heap.size w wr
theorem RootSt.bw {w wr wr':World} {b K i:Nat} {l:Nat→Rat} {ss:Sp} {a:Int × Int} (h:RootSt w wr b K i l ss a) (hb:Below wr.heap.size wr wr'):RootSt w wr' b K i l ss a :=
 ⟨h.s.bw hb,h.sp.bw hb,h.sb,h.iv,h.no.bw hb,zB h.be hb⟩
theorem add_le2 {x:Int × Int} (h:x.1≤x.2):(jJ x (-2,2)).1≤(jJ x (-2,2)).2:=by unfold jJ;simp only[];omega
theorem zFZ (w:World) (s:Sp) (k b K:Nat) (a:Int × Int) (l:Nat→Rat) (hs:SpAt w s k a.1 a.2) (hbits:s.bits=(b:Int)) (hkK:k≤K) (hl:Ex.Bdd l) (hx:Iv b a (Ex.Ev l)) (h1:Q b≤a.1) (h2:a.1≤a.2) (h3:a.2≤2*Q b) (hb:b≤100000) (hb2:20≤b) (hK:Q (b+20)<P K) (hK2:K≤1000000) (hK4:b/16+18≤K) :
  Calls Tryz.prog 169 #[.agg #[.bool s.ln,.slice s.la s.lN s.lc,.bool s.hn,.slice s.ha s.hN s.hc,.int .i64 s.bits]] w (fun r w'=>∃ o:Int × Int,Iv b o l∧Abs o (3*Q b)∧zH w b (K+30) o.1 o.2 r w'):=by
 obtain ⟨W,hW⟩:∃ W,W=(w.alloc (.cells #[.bool s.ln,.slice s.la s.lN s.lc,.bool s.hn,.slice s.ha s.hN s.hc,.int .i64 s.bits] 36)).alloc (.cells #[.bool false,.slice none 0 0,.bool false,.slice none 0 0,.int .i64 0] 36):=⟨_,rfl⟩;have hBW:Below w.heap.size w W:=by rw[hW];exact bl2 _ _ _
 have A:VrC W w.heap.size s:=by rw[hW];exact ⟨⟨by simp[go_sem],by simp[go_sem],by simp[go_sem],by simp[go_sem],by simp[go_sem]⟩,fun o=>by simp[go_sem]⟩
 have R:NoC W (w.heap.size+1):=by rw[hW];constructor <;> simp[go_sem]
 have st0:RootSt w W b K 0 l s a:=⟨A,(hs.bw hBW).mono hkK,hbits,zLX hx h1 h2 h3,R,hBW⟩;clear A R hs hbits hx h1 h2 h3
 go_enter Tryz.func169,Tryz.ntmps169
 go_wp2;rw[← hW];clear hW
 go_loopw [3] (fun nn wr=>∃ (i:Nat) (ss:Sp) (c:Int × Int),nn=.int .i64 (i:Int)∧i≤8∧RootSt w wr b K i l ss c) (fun nn _=>8-(intOf nn).toNat)
 case atStart=>exact ⟨0,s,a,rfl,by omega,st0⟩
 case round =>
  obtain ⟨i,ss,c,rfl,hi,st⟩:=hrel;clear st0;have ls:=st.s.lt
  by_cases hi8:i<8
  ·have hi1:(i:Int)<8:=by omega
   obtain ⟨g0,g1,g2,g3,g4,g5,g6,g7,g8⟩:=ss;have hg:g8=(b:Int):=st.sb;subst hg;obtain ⟨⟨y0,y1,y2,y3,y4⟩,y5⟩:=st.s;go_wp2_with fail;refine (kC b _ (by omega)).mono ?_
   rintro r' w1 ⟨neg1,a1,n1,c1,rfl,hZ1,hb1⟩;replace st:=st.bw hb1;clear hb1 y0 y1 y2 y3 y4 y5 ls;have l1:=st.s.lt;obtain ⟨V1,hV1⟩:∃ V1,V1=w1.alloc (.cells #[.bool neg1,.slice a1 n1 c1] 26):=⟨_,rfl⟩;have bV1:Below w1.heap.size w1 V1:=by rw[hV1];exact bl1 _ _
   have NP:NmC V1 w1.heap.size ⟨neg1,a1,n1,c1⟩:=by rw[hV1];constructor <;> simp[go_sem]
   replace st:=st.bw bV1;replace hZ1:=hZ1.bw bV1;clear bV1;go_wp2_with fail;rw[← hV1];clear hV1;have HST:=zC st;have HSP:=zC st.sp;have HP:=zC hZ1;have hD0:Below V1.heap.size V1 V1.drew:=(Below.refl _ _).drew;have HK:=zC (show ∀ w',Below V1.heap.size V1 w'→(w'.cell? ⟨w.heap.size,0,none⟩=some (.bool g0)∧w'.cell? ⟨w.heap.size,1,none⟩=some (.slice g1 g2 g3)∧w'.cell? ⟨w.heap.size,2,none⟩=some (.bool g4)∧w'.cell? ⟨w.heap.size,3,none⟩=some (.slice g5 g6 g7)∧w'.cell? ⟨w.heap.size,4,none⟩=some (.int .i64 (b:Int))∧w'.cell? ⟨w1.heap.size,0,none⟩=some (.bool neg1)∧w'.cell? ⟨w1.heap.size,1,none⟩=some (.slice a1 n1 c1)) from fun w' hB=>⟨(st.s.bw hB).c.c0,(st.s.bw hB).c.c1,(st.s.bw hB).c.c2,(st.s.bw hB).c.c3,(st.s.bw hB).c.c4,(NP.bw hB).c0,(NP.bw hB).c1⟩)
   clear st hZ1 NP;refine AnyL.start (S:=fun w'=>w'.cell? ⟨w.heap.size,0,none⟩=some (.bool g0)∧w'.cell? ⟨w.heap.size,1,none⟩=some (.slice g1 g2 g3)∧w'.cell? ⟨w.heap.size,2,none⟩=some (.bool g4)∧w'.cell? ⟨w.heap.size,3,none⟩=some (.slice g5 g6 g7)∧w'.cell? ⟨w.heap.size,4,none⟩=some (.int .i64 (b:Int))∧w'.cell? ⟨w1.heap.size,0,none⟩=some (.bool neg1)∧w'.cell? ⟨w1.heap.size,1,none⟩=some (.slice a1 n1 c1)) (l:=15) (by kernel_rfl) (zA HK _ hD0) (fun hHeld=>?_)
   refine AnyL.take (i:=0) (oi:={ dst:=some 12,op:=Go.Op.fieldAddr 36 (Go.Operand.tmp 1) 0,type:=0,pos := "func.go:93",after:=#[],guard:=none }) (v:=.pointer (some ⟨w.heap.size,0,none⟩)) rfl (by kernel_rfl) (by kernel_rfl) (by kernel_rfl) (by kernel_rfl) (fun _ _ _ h=>h) (Or.inl ⟨by rfl,fun w hSw=>?_⟩) hHeld ?_
   ·obtain ⟨s0,s1,s2,s3,s4,s5,s6⟩:=hSw;go_simp
   try simp only[Act.put,List.setIfInBounds_toArray,List.set_cons_zero,List.set_cons_succ]
   refine AnyL.take (i:=1) (oi:={ dst:=some 13,op:=Go.Op.load 26 (Go.Operand.tmp 12),type:=26,pos := "func.go:93",after:=#[{ on:=0,ground:=Go.Ground.data }],guard:=none }) (v:=.agg #[.bool g0,.slice g1 g2 g3]) rfl (by kernel_rfl) (by kernel_rfl) (by kernel_rfl) (by kernel_rfl) (fun _ _ _ h=>h) (Or.inl ⟨by rfl,fun w hSw=>?_⟩) hHeld ?_
   ·obtain ⟨s0,s1,s2,s3,s4,s5,s6⟩:=hSw;go_simp
   try simp only[Act.put,List.setIfInBounds_toArray,List.set_cons_zero,List.set_cons_succ]
   refine AnyL.take (i:=2) (oi:={ dst:=some 14,op:=Go.Op.load 26 (Go.Operand.tmp 4),type:=26,pos := "func.go:93",after:=#[],guard:=none }) (v:=.agg #[.bool neg1,.slice a1 n1 c1]) rfl (by kernel_rfl) (by kernel_rfl) (by kernel_rfl) (by kernel_rfl) (fun _ _ _ h=>h) (Or.inl ⟨by rfl,fun w hSw=>?_⟩) hHeld ?_
   ·obtain ⟨s0,s1,s2,s3,s4,s5,s6⟩:=hSw;go_simp
   try simp only[Act.put,List.setIfInBounds_toArray,List.set_cons_zero,List.set_cons_succ]
   refine AnyL.take (i:=5) (oi:={ dst:=some 17,op:=Go.Op.fieldAddr 36 (Go.Operand.tmp 1) 1,type:=0,pos := "func.go:93",after:=#[],guard:=none }) (v:=.pointer (some ⟨w.heap.size,2,none⟩)) rfl (by kernel_rfl) (by kernel_rfl) (by kernel_rfl) (by kernel_rfl) (fun _ _ _ h=>h) (Or.inl ⟨by rfl,fun w hSw=>?_⟩) hHeld ?_
   ·obtain ⟨s0,s1,s2,s3,s4,s5,s6⟩:=hSw;go_simp
   try simp only[Act.put,List.setIfInBounds_toArray,List.set_cons_zero,List.set_cons_succ]
   refine AnyL.take (i:=6) (oi:={ dst:=some 18,op:=Go.Op.load 26 (Go.Operand.tmp 17),type:=26,pos := "func.go:93",after:=#[{ on:=5,ground:=Go.Ground.data }],guard:=none }) (v:=.agg #[.bool g4,.slice g5 g6 g7]) rfl (by kernel_rfl) (by kernel_rfl) (by kernel_rfl) (by kernel_rfl) (fun _ _ _ h=>h) (Or.inl ⟨by rfl,fun w hSw=>?_⟩) hHeld ?_
   ·obtain ⟨s0,s1,s2,s3,s4,s5,s6⟩:=hSw;go_simp
   try simp only[Act.put,List.setIfInBounds_toArray,List.set_cons_zero,List.set_cons_succ]
   refine AnyL.take (i:=7) (oi:={ dst:=some 19,op:=Go.Op.load 26 (Go.Operand.tmp 4),type:=26,pos := "func.go:93",after:=#[],guard:=none }) (v:=.agg #[.bool neg1,.slice a1 n1 c1]) rfl (by kernel_rfl) (by kernel_rfl) (by kernel_rfl) (by kernel_rfl) (fun _ _ _ h=>h) (Or.inl ⟨by rfl,fun w hSw=>?_⟩) hHeld ?_
   ·obtain ⟨s0,s1,s2,s3,s4,s5,s6⟩:=hSw;go_simp
   try simp only[Act.put,List.setIfInBounds_toArray,List.set_cons_zero,List.set_cons_succ]
   refine AnyL.take (i:=12) (oi:={ dst:=some 24,op:=Go.Op.fieldAddr 36 (Go.Operand.tmp 1) 2,type:=0,pos := "func.go:93",after:=#[],guard:=none }) (v:=.pointer (some ⟨w.heap.size,4,none⟩)) rfl (by kernel_rfl) (by kernel_rfl) (by kernel_rfl) (by kernel_rfl) (fun _ _ _ h=>h) (Or.inl ⟨by rfl,fun w hSw=>?_⟩) hHeld ?_
   ·obtain ⟨s0,s1,s2,s3,s4,s5,s6⟩:=hSw;go_simp
   try simp only[Act.put,List.setIfInBounds_toArray,List.set_cons_zero,List.set_cons_succ]
   refine AnyL.take (i:=13) (oi:={ dst:=some 25,op:=Go.Op.load 3 (Go.Operand.tmp 24),type:=3,pos := "func.go:93",after:=#[{ on:=12,ground:=Go.Ground.data }],guard:=none }) (v:=.int .i64 (b:Int)) rfl (by kernel_rfl) (by kernel_rfl) (by kernel_rfl) (by kernel_rfl) (fun _ _ _ h=>h) (Or.inl ⟨by rfl,fun w hSw=>?_⟩) hHeld ?_
   ·obtain ⟨s0,s1,s2,s3,s4,s5,s6⟩:=hSw;go_simp
   try simp only[Act.put,List.setIfInBounds_toArray,List.set_cons_zero,List.set_cons_succ]
   refine AnyL.one (i:=3) (o:={ dst:=some 15,op:=Go.Op.call { callee:=Go.Callee.value (Go.Operand.func 66),args:=#[Go.Operand.tmp 13,Go.Operand.tmp 14],argTypes:=#[26,26] },type:=26,pos := "func.go:93",after:=#[{ on:=1,ground:=Go.Ground.data },{ on:=2,ground:=Go.Ground.data }],guard:=none }) (by kernel_rfl) rfl (fun Kc hKc=>?_)
   go_simp
   refine (zX _ _ _ _ _ _ _ _ K (b/16+5) c.1 (Q b) _ ((zA HSP).lo.bw hD0) ((zA HP).bw hD0) (by omega) (by omega)).mono ?_
   rintro r' v1 ⟨neg9,a9,n9,c9,rfl,h1,hb⟩;have hD1:=zB hD0 hb;clear hb;go_wp2_with fail;refine hKc.out _ _ (zA HK _ hD1) (fun hHeld=>?_)
   clear hKc Kc
   try simp only[Act.put,List.setIfInBounds_toArray,List.set_cons_zero,List.set_cons_succ]
   refine AnyL.one (i:=4) (o:={ dst:=some 16,op:=Go.Op.call { callee:=Go.Callee.value (Go.Operand.func 189),args:=#[Go.Operand.tmp 15],argTypes:=#[26] },type:=26,pos := "func.go:93",after:=#[{ on:=3,ground:=Go.Ground.data },{ on:=3,ground:=Go.Ground.chain }],guard:=none }) (by kernel_rfl) rfl (fun Kc hKc=>?_)
   go_simp
   refine (zKI _ _ _ _ _ (c.1*Q b) _ h1 (by omega)).mono ?_
   rintro r' v2 ⟨z,hz,neg2,a2,n2,c2,rfl,h2,hb⟩;have hD2:=zB hD1 hb;clear hb;have HZ:=zC hz;clear hz h1;go_wp2_with fail;refine hKc.out _ _ (zA HK _ hD2) (fun hHeld=>?_)
   clear hKc Kc
   try simp only[Act.put,List.setIfInBounds_toArray,List.set_cons_zero,List.set_cons_succ]
   refine AnyL.one (i:=8) (o:={ dst:=some 20,op:=Go.Op.call { callee:=Go.Callee.value (Go.Operand.func 66),args:=#[Go.Operand.tmp 18,Go.Operand.tmp 19],argTypes:=#[26,26] },type:=26,pos := "func.go:93",after:=#[{ on:=6,ground:=Go.Ground.data },{ on:=7,ground:=Go.Ground.data },{ on:=4,ground:=Go.Ground.chain }],guard:=none }) (by kernel_rfl) rfl (fun Kc hKc=>?_)
   go_simp
   refine (zX _ _ _ _ _ _ _ _ K (b/16+5) c.2 (Q b) _ ((zA HSP).hi.bw hD2) ((zA HP).bw hD2) (by omega) (by omega)).mono ?_
   rintro r' v3 ⟨neg3,a3,n3,c3,rfl,h3,hb⟩;have hD3:=zB hD2 hb;replace h2:=h2.bw hb;clear hb;go_wp2_with fail;refine hKc.out _ _ (zA HK _ hD3) (fun hHeld=>?_)
   clear hKc Kc
   try simp only[Act.put,List.setIfInBounds_toArray,List.set_cons_zero,List.set_cons_succ]
   refine AnyL.one (i:=9) (o:={ dst:=some 21,op:=Go.Op.call { callee:=Go.Callee.value (Go.Operand.func 189),args:=#[Go.Operand.tmp 20],argTypes:=#[26] },type:=26,pos := "func.go:93",after:=#[{ on:=8,ground:=Go.Ground.data },{ on:=8,ground:=Go.Ground.chain }],guard:=none }) (by kernel_rfl) rfl (fun Kc hKc=>?_)
   go_simp
   refine (zKI _ _ _ _ _ (c.2*Q b) _ h3 (by omega)).mono ?_
   rintro r' v4 ⟨t,ht,neg4,a4,n4,c4,rfl,h4,hb⟩;have hD4:=zB hD3 hb;replace h2:=h2.bw hb;clear hb;have HT:=zC ht;clear ht h3;go_wp2_with fail;refine hKc.out _ _ (zA HK _ hD4) (fun hHeld=>?_)
   clear hKc Kc
   try simp only[Act.put,List.setIfInBounds_toArray,List.set_cons_zero,List.set_cons_succ]
   refine AnyL.one (i:=10) (o:={ dst:=some 22,op:=Go.Op.call { callee:=Go.Callee.value (Go.Operand.func 43),args:=#[Go.Operand.const (Go.Value.int Go.IntKind.i64 1)],argTypes:=#[3] },type:=26,pos := "func.go:93",after:=#[{ on:=9,ground:=Go.Ground.chain }],guard:=none }) (by kernel_rfl) rfl (fun Kc hKc=>?_)
   go_simp
   refine (zD 1 _ (by decide) (by decide)).mono ?_
   rintro r' v5 ⟨neg5,a5,n5,c5,rfl,h5,hb⟩;have hD5:=zB hD4 hb;replace h2:=h2.bw hb;replace h4:=h4.bw hb;clear hb;go_wp2_with fail;refine hKc.out _ _ (zA HK _ hD5) (fun hHeld=>?_)
   clear hKc Kc
   try simp only[Act.put,List.setIfInBounds_toArray,List.set_cons_zero,List.set_cons_succ]
   refine AnyL.one (i:=11) (o:={ dst:=some 23,op:=Go.Op.call { callee:=Go.Callee.value (Go.Operand.func 65),args:=#[Go.Operand.tmp 21,Go.Operand.tmp 22],argTypes:=#[26,26] },type:=26,pos := "func.go:93",after:=#[{ on:=9,ground:=Go.Ground.data },{ on:=10,ground:=Go.Ground.data },{ on:=10,ground:=Go.Ground.chain }],guard:=none }) (by kernel_rfl) rfl (fun Kc hKc=>?_)
   go_simp
   refine (yQ _ _ _ _ _ _ _ _ _ _ t 1 _ h4 h5 (by omega) (by omega)).mono ?_
   rintro r' v6 ⟨neg6,a6,n6,c6,rfl,h6,hb⟩;have hD6:=zB hD5 hb;replace h2:=h2.bw hb;clear hb;clear h4 h5;go_wp2_with fail;refine hKc.out _ _ (zA HK _ hD6) (fun hHeld=>?_)
   clear hKc Kc
   try simp only[Act.put,List.setIfInBounds_toArray,List.set_cons_zero,List.set_cons_succ]
   refine AnyL.take (i:=14) (oi:={ dst:=some 26,op:=Go.Op.build 36 #[(0,Go.Operand.tmp 16),(1,Go.Operand.tmp 23),(2,Go.Operand.tmp 25)],type:=36,pos := "func.go:93",after:=#[{ on:=4,ground:=Go.Ground.data },{ on:=11,ground:=Go.Ground.data },{ on:=13,ground:=Go.Ground.data }],guard:=none }) (v:=.agg #[.bool neg2,.slice a2 n2 c2,.bool neg6,.slice a6 n6 c6,.int .i64 (b:Int)]) rfl (by kernel_rfl) (by kernel_rfl) (by kernel_rfl) (by kernel_rfl) (fun _ _ _ h=>h) (Or.inl ⟨by rfl,fun w hSw=>?_⟩) hHeld ?_
   ·obtain ⟨s0,s1,s2,s3,s4,s5,s6⟩:=hSw;go_simp
   try simp only[Act.put,List.setIfInBounds_toArray,List.set_cons_zero,List.set_cons_succ]
   refine AnyL.last (o:={ dst:=none,op:=Go.Op.store 36 (Go.Operand.tmp 1) (Go.Operand.tmp 26),type:=0,pos := "func.go:93",after:=#[{ on:=14,ground:=Go.Ground.data },{ on:=11,ground:=Go.Ground.chain },{ on:=0,ground:=Go.Ground.phase },{ on:=1,ground:=Go.Ground.phase },{ on:=2,ground:=Go.Ground.phase },{ on:=3,ground:=Go.Ground.phase },{ on:=4,ground:=Go.Ground.phase },{ on:=5,ground:=Go.Ground.phase },{ on:=6,ground:=Go.Ground.phase },{ on:=7,ground:=Go.Ground.phase },{ on:=8,ground:=Go.Ground.phase },{ on:=9,ground:=Go.Ground.phase },{ on:=10,ground:=Go.Ground.phase },{ on:=11,ground:=Go.Ground.phase },{ on:=12,ground:=Go.Ground.phase },{ on:=13,ground:=Go.Ground.phase },{ on:=14,ground:=Go.Ground.phase }],guard:=none }) (by kernel_rfl) rfl (by kernel_rfl) (fun Kc hKc=>?_)
   obtain ⟨y0,y1,y2,y3,y4,_,_⟩:=hHeld;have y5:=((zA HST).s.bw hD6).fz;have lD:=((zA HST).s.bw hD6).lt
   go_simp
   refine hKc.out _ _ ?_;clear hKc Kc
   have stn:RootSt w (zP v6 w.heap.size ⟨neg2,a2,n2,c2,neg6,a6,n6,c6,(b:Int)⟩) b K (i+1) l ⟨neg2,a2,n2,c2,neg6,a6,n6,c6,(b:Int)⟩ (z,t+1):=by
    have st:=(zA HST).bw hD6;have hq:=zG b;have cc1:=st.iv.lo;have cc2:=st.iv.le;have m1:=Int.mul_pos (show 0<c.1 by omega) (show 0<Q b by omega)
    have m2:=Int.mul_pos (show 0<c.2 by omega) (show 0<Q b by omega)
    obtain ⟨z0,_,z1⟩:=zA HZ;obtain ⟨t0,_,t1⟩:=zA HT;have iv:=zO4 hl st.iv z0 (z1 m1).1 (z1 m1).2 t0 (t1 m2).1 (t1 m2).2;have sp0:SpAt v6 ⟨neg2,a2,n2,c2,neg6,a6,n6,c6,(b:Int)⟩ (2*K+b+100) z (t+1):=⟨h2.mono (by omega),h6.mono (by omega)⟩
    have hh:=iv.hi;have qi:=zG (i+1)
    have hhi:t+1≤2*Q b+2:=by
     refine Int.not_lt.1 fun hn=>?_
     have:=Int.mul_le_mul_of_nonneg_left (show 1≤Q (i+1) by omega) (show 0≤t+1-Q b-2 by omega)
     simp only[] at hh;omega
    have q20:Q (b+20)=Q b*1048576:=by rw[jC];rfl
    have sp1:=sp0.fits (K:=K) iv.le (by have:=iv.lo;simp only[] at this;omega) (by omega)
    exact ⟨st.s.put _,sp1.put st.s.c _,rfl,iv,st.no.off (by omega) _,zZ st.be (Nat.le_refl _) _⟩
   unfold zP at stn;go_wp2_with fail
   go_roundw
   case rel=>exact ⟨i+1,_,_,by go_num,by omega,stn⟩
   case measure=>simp[intOf];omega
  ·have HI:=zC (show i=8 by omega)
   have hi1:¬ (i:Int)<8:=by omega
   clear hi hi8;obtain ⟨g0,g1,g2,g3,g4,g5,g6,g7,g8⟩:=ss;have hg:g8=(b:Int):=st.sb;subst hg;have R:=st.no;have hBr:=st.be;have lR:=R.lt;have HSP:=zC st.sp;have HIV:=zC (show RInv b l 8 c by have h:=st.iv;rw[zA HI] at h;exact h)
   have HF:=zC (show -P K<c.1-Q b∧c.2-Q b<P K by
    obtain ⟨⟨f1,f2,f3,f4⟩,_,_,_⟩:=zGZ (show 10≤b by omega) (zA HIV) (show Q 8=256 from rfl)
    have:=zJ (show b-6≤b+20 by omega)
    simp only[] at f1 f2 f3 f4
    omega)
   have HK:=zC (show ∀ w',Below wr.heap.size wr w'→(w'.cell? ⟨w.heap.size,0,none⟩=some (.bool g0)∧w'.cell? ⟨w.heap.size,1,none⟩=some (.slice g1 g2 g3)∧w'.cell? ⟨w.heap.size,2,none⟩=some (.bool g4)∧w'.cell? ⟨w.heap.size,3,none⟩=some (.slice g5 g6 g7)∧w'.cell? ⟨w.heap.size,4,none⟩=some (.int .i64 (b:Int))) from fun w' hB=>⟨(st.s.bw hB).c.c0,(st.s.bw hB).c.c1,(st.s.bw hB).c.c2,(st.s.bw hB).c.c3,(st.s.bw hB).c.c4⟩)
   have HE:=zC (zGZ (show 10≤b by omega) (zA HIV) (show Q 8=256 from rfl))
   clear st;obtain ⟨y0,y1,y2,y3,y4⟩:=zA HK _ (Below.refl _ _);have n01:w.heap.size≠w.heap.size+1:=by omega
   have n10:w.heap.size+1≠w.heap.size:=by omega
   have hD0:Below wr.heap.size wr wr.drew:=(Below.refl _ _).drew;go_wp2_with fail
   go_region_held3 (fun w'=>w'.cell? ⟨w.heap.size,0,none⟩=some (.bool g0)∧w'.cell? ⟨w.heap.size,1,none⟩=some (.slice g1 g2 g3)∧w'.cell? ⟨w.heap.size,2,none⟩=some (.bool g4)∧w'.cell? ⟨w.heap.size,3,none⟩=some (.slice g5 g6 g7)∧w'.cell? ⟨w.heap.size,4,none⟩=some (.int .i64 (b:Int))) (first|exact zA HK _ (by with_reducible first|exact hD0|exact hD6|exact hD5|exact hD4|exact hD3|exact hD2|exact hD1)|go_keep)
    (first
     | (go_at_call 56;have hq:=hD5;refine (zEA _ v3 ⟨neg4,a4,n4,c4⟩ ⟨neg5,a5,n5,c5⟩ (K+1) _ _ b _ 256 1 hs3 hZ4 hZ5 (by omega) (by omega) (by omega) (by omega) (zA HB3)).mono ?_;rintro r' w6 ⟨v6,rfl,hsb6,hs6,hb6⟩;have HB6:=zC hsb6;clear hsb6;have hD6:=zB hD5 hb6;obtain ⟨q0,q1,q2,q3,q4,q5⟩:=R.bw hD6)
     | (go_at_call 43;have hq:=hD4;refine (zD 1 _ (by decide) (by decide)).mono ?_;rintro r' w5 ⟨neg5,a5,n5,c5,rfl,hZ5,hb5⟩;have hD5:=zB hD4 hb5;replace hs3:=hs3.bw hb5;replace hZ4:=hZ4.bw hb5)
     | (go_at_call 43;have hq:=hD3;refine (zD 256 _ (by decide) (by decide)).mono ?_;rintro r' w4 ⟨neg4,a4,n4,c4,rfl,hZ4,hb4⟩;have hD4:=zB hD3 hb4;replace hs3:=hs3.bw hb4)
     | (go_at_call 195;have hq:=hD2;refine (zL0 _ v2 K b K (c.1-Q b,c.2-Q b) hs2 (zA HB2) (Nat.le_refl _) (zA HE).2.1 ((zA HE).1.mono (zJ (by omega))) hb (by omega) hK (by omega) (by omega)).mono ?_;rintro r' w3 ⟨N,hN0,hN,v3,rfl,hsb3,hs3,hb3⟩;have HN0:=zC hN0;have HB3:=zC hsb3;have HN:=zC hN;clear hsb3 hN hN0;have hD3:=zB hD2 hb3)
     | (go_at_call 26;have hq:=hD1;refine (zDP _ ⟨g0,g1,g2,g3,g4,g5,g6,g7,(b:Int)⟩ v1 K b c (1*Q b,1*Q b) ((zA HSP).bw hD1) (hs1.mono (by omega)) (by omega) rfl).mono ?_;rintro r' w2 ⟨v2,rfl,hsb2,hs2,hb22⟩;have HB2:=zC hsb2;clear hsb2;have hD2:=zB hD1 hb22;rw[show yH c (1*Q b,1*Q b)=(c.1-Q b,c.2-Q b) by unfold yH;simp only[Int.one_mul]] at hs2;replace hs2:=hs2.fits (K:=K) (zA HE).2.1 (zA HF).1 (zA HF).2)
     | (go_at_call 27;refine (zDE _ 1 b hb (by decide) (by decide)).mono ?_;rintro r' w1 ⟨v1,rfl,hsb1,hs1,hb1⟩;have HB1:=zC hsb1;clear hsb1;have hD1:=zB hD0 hb1))
   all_goals
    have HAB:=zC (zIZ hb2 (zA HIV) (show Q 8=256 from rfl) (zA HN0))
    have HO:=zC (zIQ hl (by omega) (zA HIV) (show Q 8=256 from rfl) rfl (zA HN))
    rw[kP (add_le2 (zOS (zA HE).2.1 N)) (by omega)] at hs6
    go_wp2_with fail;refine bodyPost_ret (v:=.agg #[.bool v6.ln,.slice v6.la v6.lN v6.lc,.bool v6.hn,.slice v6.ha v6.hN v6.hc,.int .i64 v6.bits]) (by simp[results,Tryz.results169,go_sem,q0,q1,q2,q3,q4]) rfl ⟨_,zA HO,zA HAB,v6,rfl,zA HB6,?_,?_⟩
    ·exact SpAt.put5 (hs6.mono (by omega)) q0 q1 q2 q3 q4 _ _ _ _ _
    ·exact jV (zB hBr hD6) (Nat.le_succ _) _ _ _ _ _
end Go.Proofs.YtgmnknmjainababGreat
