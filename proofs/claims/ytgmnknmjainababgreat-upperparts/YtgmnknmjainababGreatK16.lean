/-
  Its own texts.
-/
import Derived.Test.YtgmnknmjainababGreatK15
set_option maxRecDepth 100000
set_option maxHeartbeats 8000000
set_option linter.unusedVariables false
namespace Go.Proofs.YtgmnknmjainababGreat.Ex
theorem zLM {h t:Rat} (ht:0<t):t*(1+h/t)=t+h:=by
 have:=rdm (a:=h) ht;have e:t*(1+h/t)=t+h/t*t:=by grind
 rw[e,this]
theorem div_bd {h t x i:Rat} (hh:0≤h) (ht:x≤t) (t0:0<t) (i0:0≤i) (ix:i*x=1):h/t≤h*i:=by
 refine zA5 t0 ?_;have m:=Rat.mul_le_mul_of_nonneg_left ht (Rat.mul_nonneg hh i0);have e:h*i*x=h*(i*x):=by grind
 rw[e,ix] at m;grind
theorem zHT {h x i D:Rat} (i0:0≤i) (ix:i*x=1) (h1:h≤D*x):h*i≤D:=by
 have m:=Rat.mul_le_mul_of_nonneg_right h1 i0;have e:D*x*i=D*(i*x):=by grind
 rw[e,ix] at m;grind
theorem zI8 {L:Rat→Nat→Rat} (hL:Lns L) {a x y:Rat} (ha:0<a) (hx:0<x) (hxy:x≤y):LeN (uG L a x) (uG L a y):=by
 obtain ⟨C,D,C0,D0,D16,tan⟩:=uG_tan hL ha (show 0<y by grind)
 have ix:=rdm (a:=1) hx;have ip:0<1/x:=zL (by grind) hx
 obtain ⟨i,hi⟩:∃ i,i=1/x:=⟨_,rfl⟩;rw[← hi] at ix ip
 have key:=zN8 (f:=fun t M => -uG L a t M) (a:=x) (b:=y) (C:=C*(i*i)) (D:=D*x) hxy (Rat.mul_nonneg C0 (yT i)) (Rat.mul_pos D0 hx) (fun t h ht hh hD hb=>by
  have t0:0<t:=by grind
  have um:=rdm (a:=h) t0;have u0:0<h/t:=zL hh t0;have uh:h/t≤h*i:=div_bd (Rat.le_of_lt hh) ht t0 (Rat.le_of_lt ip) ix;have hiD:h*i≤D:=zHT (Rat.le_of_lt ip) ix hD;have l:=tan t (h/t) t0 (by grind) ⟨by grind,by grind⟩
  rw[zLM t0] at l;obtain ⟨z,hz,kz⟩:=l.null;obtain ⟨N,hN⟩:=(zGO hL t0 a).mul (zCQ (-t));refine ⟨z,hz,N,fun M hM=>?_⟩
  have k:=kz M;have n:=Rat.mul_nonneg (Rat.le_of_lt u0) (hN M hM);have m1:=Rat.mul_le_mul_of_nonneg_left uh (Rat.le_of_lt u0);have m2:=Rat.mul_le_mul_of_nonneg_right uh (Rat.mul_nonneg (Rat.le_of_lt hh) (Rat.le_of_lt ip));have m3:=Rat.mul_le_mul_of_nonneg_left (show h/t*(h/t)≤h*i*(h*i) by grind) C0
  simp only[] at k n;have e:C*(h*i*(h*i))=C*(i*i)*(h*h):=by grind
  rw[e] at m3;generalize C*(h/t*(h/t))=w1 at *;generalize C*(i*i)*(h*h)=w2 at *;generalize h/t*(pr L a t M*ex (-t) M)=w3 at *
  grind)
 intro e he
 obtain ⟨N,k⟩:=key e he;exact ⟨N,fun M hM=>by have:=k M hM;simp only[] at this;grind⟩
def uE (L:Rat→Nat→Rat) (a x:Rat) (M:Nat):Rat:=pr L (a-1) x M*ex (-x) M
theorem uE_bdd {L:Rat→Nat→Rat} (hL:Lns L) {x:Rat} (hx:0<x) (a:Rat):Bdd (uE L a x):=(zBW hL hx _).mul (kS _)
theorem zLO {L:Rat→Nat→Rat} (hL:Lns L) {x:Rat} (hx:0<x) (a:Rat):Nn (uE L a x):=(zGO hL hx _).mul (zCQ _)
theorem zN9 {L:Rat→Nat→Rat} (hL:Lns L) {a x:Rat} (ha:0<a) (hx:0<x):Bdd (uG L a x):=((zBW hL hx _).mul (kS _)).mul (zCG ha (Rat.le_of_lt hx))
theorem uG_nn {L:Rat→Nat→Rat} (hL:Lns L) {a x:Rat} (ha:0<a) (hx:0<x):Nn (uG L a x):=((zGO hL hx _).mul (zCQ _)).mul ⟨0,fun M _=>zA7 ha (Rat.le_of_lt hx) M⟩
theorem zK4 {L:Rat→Nat→Rat} (hL:Lns L) {x:Rat} (hx:0<x) (a:Rat):Null (fun M=>x*uE L a x M-pr L a x M*ex (-x) M):=by
 have h1:=pr_add hL hx (a-1) 1;have h2:=(zO6 hL hx).bmul (zBW hL hx (a-1));have e:a-1+1=a:=by grind
 rw[e] at h1;refine ((h1.sub h2).bmul (kS (-x))).of_eq fun M=>?_
 unfold uE;grind
theorem zEQ {L:Rat→Nat→Rat} (hL:Lns L) {c x y:Rat} (hc:c≤0) (hx:0<x) (hxy:x≤y):LeN (pr L c y) (pr L c x):=by
 have hy:0<y:=by grind
 have le:LeN (L x) (L y):=fun e he=>(hL x hx).le (hL y hy) null_zero 0 (fun M _=>by grind) e he
 obtain ⟨z,hz,kz⟩:=(le.cmul (c := -c) (by grind)).null
 obtain ⟨v,hv,N,kv⟩:=zCW (zAP hL hy c) (zAP hL hx c) hz 0 (fun M _=>by have:=kz M;grind)
 exact LeN.of_null hv N kv
theorem uE_step {L:Rat→Nat→Rat} (hL:Lns L) {a t h:Rat} (ha1:a≤1) (ht:0<t) (hh:0≤h):LeN (fun M=>(1+h)*uE L a (t+h) M) (uE L a t):=by
 have l1:=zEQ hL (c:=a-1) (by grind) ht (show t≤t+h by grind)
 have l2:LeN (fun M=>(1+h)*ex (-(t+h)) M) (ex (-t)):=by
  have l:LeN (fun _=>1+h) (ex h):=LeN.of_le 2 fun M hM=>zKK hh hM
  refine (l.bmul (kS (-(t+h))) (zCQ _)).trans ?_;have s:=zGA h (-(t+h));refine LeN.of_eqN (s.of_eq fun M=>?_)
  have e:h + -(t+h) = -t:=by grind
  rw[e]
 have l:=l1.mul l2 ((Bdd.const (1+h)).mul (kS _)) ((Nn.const (by grind)).mul (zCQ _)) (zBW hL ht _) (zGO hL ht _)
 refine LeN.trans (LeN.of_le 0 fun M _=>?_) l
 unfold uE;generalize pr L (a-1) (t+h) M=p;generalize ex (-(t+h)) M=q;grind
theorem zKF {L:Rat→Nat→Rat} (hL:Lns L) {a x y:Rat} (ha:0<a) (ha1:a≤1) (hx:0<x) (hxy:x≤y):LeN (fun M=>uG L a y M+uE L a y M) (fun M=>uG L a x M+uE L a x M):=by
 obtain ⟨C,D,C0,D0,D16,tan⟩:=uG_tan hL ha (show 0<y by grind)
 have ix:=rdm (a:=1) hx;have ip:0<1/x:=zL (by grind) hx
 obtain ⟨i,hi⟩:∃ i,i=1/x:=⟨_,rfl⟩;rw[← hi] at ix ip;refine zN8 (f:=fun t M=>uG L a t M+uE L a t M) (a:=x) (b:=y) (C:=C*(i*i)) (D:=D*x) hxy (Rat.mul_nonneg C0 (yT i)) (Rat.mul_pos D0 hx) (fun t h ht hh hD hb=>?_)
 have t0:0<t:=by grind
 obtain ⟨s,hs⟩:∃ s,s=t+h:=⟨_,rfl⟩;have s0:0<s:=by grind
 have vm:=rdm (a:=h) s0;have v0:0<h/s:=zL hh s0;have vh:h/s≤h*i:=div_bd (Rat.le_of_lt hh) (show x≤s by grind) s0 (Rat.le_of_lt ip) ix
 have hiD:h*i≤D:=zHT (Rat.le_of_lt ip) ix hD;have l:=tan s (-(h/s)) s0 (by grind) ⟨by grind,by grind⟩
 have e1:s*(1 + -(h/s))=t:=by
  have:s*(1 + -(h/s))=s-h/s*s:=by grind
  rw[this,vm];grind
 rw[e1] at l;have l2:=uE_step hL ha1 t0 (Rat.le_of_lt hh);rw[← hs] at l2;obtain ⟨z,hz,kz⟩:=(l.add l2).null;have n:=(zK4 hL s0 a).bmul (Bdd.const (h/s));refine ⟨_,hz.add n.neg,0,fun M _=>?_⟩
 have k:=kz M;rw[← hs];have m1:=Rat.mul_le_mul_of_nonneg_left vh (Rat.le_of_lt v0);have m2:=Rat.mul_le_mul_of_nonneg_right vh (Rat.mul_nonneg (Rat.le_of_lt hh) (Rat.le_of_lt ip));have m3:=Rat.mul_le_mul_of_nonneg_left (show h/s*(h/s)≤h*i*(h*i) by grind) C0
 have e:C*(h*i*(h*i))=C*(i*i)*(h*h):=by grind
 rw[e] at m3;have e2 : -(h/s) * -(h/s)=h/s*(h/s):=by grind
 rw[e2] at k
 have e3:(s*uE L a s M-pr L a s M*ex (-s) M)*(h/s)=h*uE L a s M-h/s*(pr L a s M*ex (-s) M):=by
  have:s*uE L a s M*(h/s)=h/s*s*uE L a s M:=by grind
  have e4:(s*uE L a s M-pr L a s M*ex (-s) M)*(h/s)=s*uE L a s M*(h/s)-h/s*(pr L a s M*ex (-s) M):=by grind
  rw[e4,this,vm]
 rw[e3];generalize C*(h/s*(h/s))=w1 at *;generalize C*(i*i)*(h*h)=w2 at *;have e5 : -(h/s)*(pr L a s M*ex (-s) M) = -(h/s*(pr L a s M*ex (-s) M)):=by grind
 rw[e5] at k;generalize h/s*(pr L a s M*ex (-s) M)=w3 at *;generalize uE L a s M=w4 at *;clear e e1 e2 e3 e5 vm v0 vh hiD m1 m2 l l2 n tan;grind
theorem top_ex (P : Nat → Prop) (k : Nat) : ∃ v, (P v ∨ v = 0) ∧ ∀ n, n ≤ k → P n → n ≤ v := by
  induction k with
  | zero => exact ⟨0, Or.inr rfl, fun n hn _ => by omega⟩
  | succ k ih =>
    by_cases h : P (k + 1)
    · exact ⟨k + 1, Or.inl h, fun n hn _ => hn⟩
    · obtain ⟨v, h1, h2⟩ := ih
      exact ⟨v, h1, fun n hn hp => h2 n (by rcases Nat.lt_or_eq_of_le hn with h' | h'
                                            · omega
                                            · subst h'; exact absurd hp h) hp⟩
theorem zH1 {R:Nat→Nat→Prop} (h:∀ i,∃ N,∀ M,N≤M→R i M) (k:Nat):∃ N,∀ i,i<k→∀ M,N≤M→R i M:=by
 induction k with
 | zero=>exact ⟨0,fun i hi=>by omega⟩
 | succ k ih =>
  obtain ⟨N1,h1⟩:=ih;obtain ⟨N2,h2⟩:=h k;refine ⟨N1+N2,fun i hi M hM=>?_⟩
  by_cases c:i<k
  ·exact h1 i c M (by omega)
  ·have:i=k:=by omega
   subst this;exact h2 M (by omega)
theorem complete {s t : Nat → Nat → Rat} (h1 : ∀ n m, n ≤ m → LeN (s n) (s m)) (h2 : ∀ n m, n ≤ m → LeN (s m) (fun M => s n M + t n M)) : ∃ g, ∀ n, LeN (s n) g ∧ LeN g (fun M => s n M + t n M) := by
  let P : Nat → Nat → Prop := fun M n => ∀ i, i < n + 1 → ∀ j, j < n + 1 → i ≤ j → s i M ≤ s j M + 1 / ((n : Rat) + 1) ∧ s j M ≤ s i M + t i M + 1 / ((n : Rat) + 1)
  have hP : ∀ n, ∃ N, ∀ M, N ≤ M → P M n := fun n => by
    have u0 : (0 : Rat) < 1 / ((n : Rat) + 1) := zL (by grind) (zCD n)
    have step : ∀ i, ∃ N, ∀ M, N ≤ M → ∀ j, j < n + 1 → i ≤ j → s i M ≤ s j M + 1 / ((n : Rat) + 1) ∧ s j M ≤ s i M + t i M + 1 / ((n : Rat) + 1) := fun i => by
      obtain ⟨N, hN⟩ := zH1 (R := fun j M => i ≤ j → s i M ≤ s j M + 1 / ((n : Rat) + 1) ∧ s j M ≤ s i M + t i M + 1 / ((n : Rat) + 1)) (fun j => by
        by_cases c : i ≤ j
        · obtain ⟨N1, k1⟩ := h1 i j c _ u0
          obtain ⟨N2, k2⟩ := h2 i j c _ u0
          exact ⟨N1 + N2, fun M hM _ => ⟨k1 M (by omega), k2 M (by omega)⟩⟩
        · exact ⟨0, fun M _ c' => absurd c' c⟩) (n + 1)
      exact ⟨N, fun M hM j hj => hN j hj M hM⟩
    obtain ⟨N, hN⟩ := zH1 step (n + 1)
    exact ⟨N, fun M hM i hi j hj hij => hN i hi M hM j hj hij⟩
  obtain ⟨v, hv⟩ := Classical.skolem.1 (fun M => top_ex (P M) M)
  have main : ∀ n (e : Rat), 0 < e → ∃ N, ∀ M, N ≤ M → s n M ≤ s (v M) M + e ∧ s (v M) M ≤ s n M + t n M + e := fun n e he => by
    obtain ⟨m, hm⟩ := zB8 (1 / e)
    obtain ⟨N, hN⟩ := hP (n + m + 1)
    refine ⟨N + n + m + 1, fun M hM => ?_⟩
    obtain ⟨w1, w2⟩ := hv M
    have ge := w2 (n + m + 1) (by omega) (hN M (by omega))
    have pv : P M (v M) := by rcases w1 with h | h
                              · exact h
                              · omega
    obtain ⟨a1, a2⟩ := pv n (by omega) (v M) (by omega) (by omega)
    have small : 1 / ((v M : Rat) + 1) ≤ e := by
      refine zA5 (zCD _) ?_
      have c : (m : Rat) ≤ (v M : Rat) := by exact_mod_cast (show m ≤ v M by omega)
      have d := rdm (a := 1) he
      have := Rat.mul_le_mul_of_nonneg_left (Rat.le_trans hm.2 c) (Rat.le_of_lt he)
      grind
    exact ⟨by grind, by grind⟩
  exact ⟨fun M => s (v M) M, fun n => ⟨fun e he => (main n e he).imp fun N h M hM => (h M hM).1, fun e he => (main n e he).imp fun N h M hM => (h M hM).2⟩⟩
structure Gam1 (L:Rat→Nat→Rat) (a:Rat) (g:Nat→Rat):Prop where
 lo:∀ x,0<x→LeN (uG L a x) g
 hi:∀ x,0<x→LeN g (fun M=>uG L a x M+uE L a x M)
theorem gam1_ex {L : Rat → Nat → Rat} (hL : Lns L) {a : Rat} (ha : 0 < a) (ha1 : a ≤ 1) : ∃ g, Gam1 L a g := by
  have cast : ∀ {n m : Nat}, n ≤ m → (n : Rat) + 1 ≤ (m : Rat) + 1 := fun {n m} h => by have : (n : Rat) ≤ (m : Rat) := by exact_mod_cast h
                                                                                        grind
  obtain ⟨g, hg⟩ := complete (s := fun n => uG L a ((n : Rat) + 1)) (t := fun n => uE L a ((n : Rat) + 1))
    (fun n m h => zI8 hL ha (zCD n) (cast h))
    (fun n m h => by
      refine LeN.trans ?_ (zKF hL ha ha1 (zCD n) (cast h))
      obtain ⟨N, hN⟩ := zLO hL (zCD m) a
      exact LeN.of_le N fun M hM => by have := hN M hM; grind)
  have up : ∀ x : Rat, ∃ n : Nat, x ≤ (n : Rat) + 1 := fun x => by
    obtain ⟨n, hn⟩ := zB8 x
    exact ⟨n, by have := hn.2; grind⟩
  refine ⟨g, fun x hx => ?_, fun x hx => ?_⟩
  · obtain ⟨n, hn⟩ := up x
    exact (zI8 hL ha hx hn).trans (hg n).1
  · obtain ⟨n, hn⟩ := up x
    exact (hg n).2.trans (zKF hL ha ha1 hx hn)
end Go.Proofs.YtgmnknmjainababGreat.Ex
namespace Go.Proofs.YtgmnknmjainababGreat.Ex
structure IsGam (L:Rat→Nat→Rat) (a:Rat) (g:Nat→Rat):Prop where
 bdd:Bdd g
 pos:∃ c:Rat,0<c∧∃ N:Nat,∀ M,N≤M→c≤g M
 lo:∀ x,0<x→LeN (uG L a x) g
 hi:∀ x,1≤x→2*a≤x+2→LeN g (fun M=>uG L a x M+2*uE L a x M)
theorem zJX {f g k:Nat→Rat} (h1:LeN f g) (h2:LeN g k) (bf:Bdd f) (bk:Bdd k):Bdd g:=by
 obtain ⟨N1,a1⟩:=h1 1 (by grind)
 obtain ⟨N2,a2⟩:=h2 1 (by grind)
 obtain ⟨K1,M1,k10,b1⟩:=bf;obtain ⟨K2,M2,k20,b2⟩:=bk;refine ⟨K1+K2+1,N1+N2+M1+M2,by grind,fun M hM=>?_⟩
 have:=a1 M (by omega)
 have:=a2 M (by omega)
 have:=b1 M (by omega)
 have:=b2 M (by omega)
 obtain ⟨c1,c2⟩:=this;obtain ⟨d1,d2⟩:=‹AB (f M) K1›;exact ⟨by grind,by grind⟩
theorem uG_low {L:Rat→Nat→Rat} (hL:Lns L) {a x:Rat} (ha:0<a) (hx:0<x):∃ c:Rat,0<c∧∃ N:Nat,∀ M,N≤M→c≤uG L a x M:=by
 obtain ⟨c1,p1,N1,h1⟩:=zC5 (zAP hL hx a);obtain ⟨c2,p2,N2,h2⟩:=zC5 (Bdd.const (-x));have ip:0<1/a:=zL (by grind) ha
 refine ⟨c1*c2*(1/a),Rat.mul_pos (Rat.mul_pos p1 p2) ip,N1+N2+1,fun M hM=>?_⟩
 obtain ⟨m,rfl⟩:∃ m,M=m+1:=⟨M-1,by omega⟩
 have f:=zGL ha (Rat.le_of_lt hx) m;have a1:=h1 (m+1) (by omega)
 have a2:=h2 (m+1) (by omega)
 have b:c1*c2≤pr L a x (m+1)*ex (-x) (m+1):=Rat.le_trans (Rat.mul_le_mul_of_nonneg_right a1 (Rat.le_of_lt p2)) (Rat.mul_le_mul_of_nonneg_left a2 (show 0≤pr L a x (m+1) by unfold pr;grind))
 have c0:=Rat.mul_nonneg (Rat.le_of_lt p1) (Rat.le_of_lt p2);unfold uG;exact Rat.le_trans (Rat.mul_le_mul_of_nonneg_right b (Rat.le_of_lt ip)) (Rat.mul_le_mul_of_nonneg_left f (by grind))
theorem zNW {f g:Nat→Rat} (h:LeN f g) (k:∃ c:Rat,0<c∧∃ N:Nat,∀ M,N≤M→c≤f M):∃ c:Rat,0<c∧∃ N:Nat,∀ M,N≤M→c≤g M:=by
 obtain ⟨c,c0,N,hc⟩:=k;obtain ⟨N2,h2⟩:=h (c/2) (by grind)
 exact ⟨c/2,by grind,N+N2,fun M hM=>by have:=hc M (by omega);have:=h2 M (by omega);grind⟩
theorem Gam1.isGam {L:Rat→Nat→Rat} (hL:Lns L) {a:Rat} {g:Nat→Rat} (ha:0<a) (h:Gam1 L a g):IsGam L a g:=by
 have one:(0:Rat)<1:=by grind
 refine ⟨zJX (h.lo 1 one) (h.hi 1 one) (zN9 hL ha one) ((zN9 hL ha one).add (uE_bdd hL one a)),zNW (h.lo 1 one) (uG_low hL ha one),h.lo,fun x hx _=>(h.hi x (by grind)).trans ?_⟩
 obtain ⟨N,hN⟩:=zLO hL (show 0<x by grind) a
 exact LeN.of_le N fun M hM=>by have:=hN M hM;grind
theorem uE_next {L:Rat→Nat→Rat} (hL:Lns L) {x:Rat} (hx:0<x) (a:Rat):Null (fun M=>x*uE L a x M-uE L (a+1) x M):=by
 refine (zK4 hL hx a).of_eq fun M=>?_
 have e:a+1-1=a:=by grind
 unfold uE;rw[e]
theorem zOP {L:Rat→Nat→Rat} (hL:Lns L) {a x:Rat} (ha:0<a) (hx:0<x):Null (fun M=>uG L (a+1) x M-(a*uG L a x M-uE L (a+1) x M)):=by
 have x0:=Rat.le_of_lt hx;have a1:0<a+1:=by grind
 have h1:=pr_add hL hx a 1;have h2:=(zO6 hL hx).bmul (zBW hL hx a);have b:=(kS (-x)).mul (zCG a1 x0);have h3:=(h2.sub h1).bmul b;have h4:=(zGT ha x0).bmul (((Bdd.const a).mul (zBW hL hx a)).mul (kS (-x)));refine (h4.add h3).of_eq fun M=>?_
 have e1:=zOK ha x M;have e2:uS a x (M+1)=uS a x M+upT a x M:=rfl;have e3:a+1-1=a:=by grind
 unfold uG uE;rw[e3];have e4:x*uS (a+1) x M=a*(uS a x M+upT a x M)-1:=by rw[← e2,e1];grind
 generalize pr L a x M=p at *;generalize pr L (a+1) x M=p1 at *;generalize ex (-x) M=y at *;generalize pr L 1 x M=p2 at *;generalize upT a x M=t at *;generalize uS a x M=s at *;generalize uS (a+1) x M=s1 at *;have k:p*y*(x*s1)=p*y*(a*(s+t)-1):=by rw[e4]
 clear e1 e2 e3 e4 h1 h2 h3 h4;grind
theorem IsGam.next {L:Rat→Nat→Rat} (hL:Lns L) {a:Rat} {g:Nat→Rat} (ha:0<a) (h:IsGam L a g):IsGam L (a+1) (fun M=>a*g M):=by
 have a0:=Rat.le_of_lt ha;refine ⟨(Bdd.const a).mul h.bdd,?_,fun x hx=>?_,fun x hx hx2=>?_⟩
 ·obtain ⟨c,c0,N,hc⟩:=h.pos
  exact ⟨a*c,Rat.mul_pos ha c0,N,fun M hM=>Rat.mul_le_mul_of_nonneg_left (hc M hM) a0⟩
 ·refine (LeN.of_eqN (zOP hL ha hx)).trans (LeN.trans ?_ ((h.lo x hx).cmul a0))
  obtain ⟨N,hN⟩:=zLO hL hx (a+1);exact LeN.of_le N fun M hM=>by have:=hN M hM;grind
 ·have x0:0<x:=by grind
  refine ((h.hi x hx (by grind)).cmul a0).trans ?_
  obtain ⟨z,hz,kz⟩:=(LeN.of_eqN (uE_next hL x0 a)).null;obtain ⟨N,hN⟩:=zLO hL x0 a;refine LeN.of_null ((zOP hL ha x0).neg.add hz) N fun M hM=>?_
  have k:=kz M;have n:=hN M hM;have m:=Rat.mul_le_mul_of_nonneg_right (show 2*a≤x by grind) n
  generalize uG L (a+1) x M=w1 at *;generalize uE L (a+1) x M=w2 at *;generalize uG L a x M=w3 at *;generalize uE L a x M=w4 at *;grind
theorem zOQ {f g:Nat→Rat} (h:∀ n:Nat,LeN f (fun M=>g M+q2 n)):LeN f g:=fun e he=>by
 obtain ⟨N,hN⟩:=null_q2 (e/2) (by grind)
 obtain ⟨N2,h2⟩:=h N (e/2) (by grind)
 have q:=(hN N (Nat.le_refl _)).2;exact ⟨N2,fun M hM=>by have:=h2 M hM;grind⟩
theorem zG3 (n : Nat) : LeN (ex (-(n : Rat))) (fun _ => q2 n) := by
  induction n with
  | zero =>
    refine LeN.of_le 1 fun M hM => ?_
    obtain ⟨m, rfl⟩ : ∃ m, M = m + 1 := ⟨M - 1, by omega⟩
    have e : -((0 : Nat) : Rat) = 0 := by have : ((0 : Nat) : Rat) = 0 := rfl
                                          rw [this]; grind
    rw [e]
    have : ex 0 (m + 1) = 1 := zA9 m
    rw [this]
    show (1 : Rat) ≤ 1
    exact Rat.le_refl
  | succ n ih =>
    have c : ((n + 1 : Nat) : Rat) = (n : Rat) + 1 := by push_cast; rfl
    have l : LeN (fun _ => (2 : Rat)) (ex 1) := LeN.of_le 2 fun M hM => by have := zKK (x := 1) (by grind) hM; show 2 ≤ E 1 M; grind
    have m := l.bmul (kS (-((n : Rat) + 1))) (zCQ _)
    have s := zGA 1 (-((n : Rat) + 1))
    have e : 1 + -((n : Rat) + 1) = -(n : Rat) := by grind
    rw [e] at s
    have k := (m.trans (LeN.of_eqN s)).trans ih
    rw [c]
    refine LeN.trans (LeN.of_le 0 fun M _ => ?_) ((k.cmul (c := 1 / 2) (by grind)).trans (LeN.of_le 0 fun M _ => ?_))
    · grind
    · show 1 / 2 * q2 n ≤ q2 (n + 1)
      have : q2 (n + 1) = q2 n / 2 := rfl
      rw [this]; grind
theorem zM5 {x:Rat} (M:Nat):x*uS 1 x M=E x (M+1)-1:=by
 have t:∀ n:Nat,x*upT 1 x n=tm x (n+1):=fun n=>by
  induction n with
  | zero =>
   have e:=kB x 0;have c:((0:Nat):Rat)=0:=rfl;rw[c] at e;have e2:tm x 0=1:=rfl;rw[e2] at e;have e3:=yK (show (0:Rat)<1 by grind) x
   grind
  | succ n ih =>
   have e1:=kD (show (0:Rat)<1 by grind) x n
   have e2:=kB x (n+1);have c:((n+1:Nat):Rat)=(n:Rat)+1:=by push_cast;rfl
   rw[c] at e2;refine zU (show 0<(n:Rat)+1+1 by have:=zCD n;grind) ?_
   rw[e2,← ih];grind
 induction M with
 | zero=>show x*0=(0+1)-1;grind
 | succ n ih =>
  have:=t n;have e:E x (n+1+1)=E x (n+1)+tm x (n+1):=rfl;rw[yF,e];grind
theorem gam_one {L:Rat→Nat→Rat} (hL:Lns L) {g:Nat→Rat} (h:Gam1 L 1 g):Null (fun M=>g M-1):=by
 have key:∀ x,0<x→Null (fun M=>uG L 1 x M-(1-ex (-x) M)):=fun x hx=>by
  have x0:=Rat.le_of_lt hx;have s:=zGA x (-x);have e:x + -x=0:=by grind
  rw[e] at s;have h2:=(zO6 hL hx).bmul ((kS (-x)).mul (zCG (show (0:Rat)<1 by grind) x0))
  obtain ⟨K,k0,hK⟩:=zMF x
  have tn:Null (tm x):=(zA6 K k0).of_le 1 fun M hM=>(hK M).mono (by
   have m1:(1:Rat)≤(M:Rat):=by exact_mod_cast hM
   have:=Rat.mul_le_mul_of_nonneg_left m1 (Rat.mul_nonneg k0 (Rat.le_of_lt (yI M)))
   grind)
  have h3:=tn.bmul (kS (-x));refine ((h2.add h3).add s).of_eq_from 1 fun M hM=>?_
  have e0:ex 0 M=1:=by
   obtain ⟨m,rfl⟩:∃ m,M=m+1:=⟨M-1,by omega⟩
   exact zA9 m
  have e1:=zM5 (x:=x) M;have e2:E x (M+1)=ex x M+tm x M:=rfl;rw[e0];unfold uG;rw[e2] at e1;generalize pr L 1 x M=p at *;generalize ex (-x) M=y at *;generalize uS 1 x M=u at *;generalize ex x M=v at *;generalize tm x M=t at *;have k:y*(x*u)=y*(v+t-1):=by rw[e1]
  grind
 have up:LeN g (fun _=>1):=by
  refine (h.hi 1 (by grind)).trans ?_
  refine LeN.of_null (key 1 (by grind)) 1 fun M hM=>?_
  have e:pr L (1-1) 1 M=1:=by
   obtain ⟨m,rfl⟩:∃ m,M=m+1:=⟨M-1,by omega⟩
   unfold pr Ev;have e:(1-1:Rat)*L 1 (m+1)=0:=by grind
   show E ((1-1)*L 1 (m+1)) (m+1)=1
   rw[e];exact zA9 m
  unfold uE;rw[e];grind
 have dn:LeN (fun _=>(1:Rat)) g:=by
  refine zOQ fun n=>?_
  have n1:(0:Rat)<(n:Rat)+1:=zCD n;have a:=h.lo _ n1;obtain ⟨z,hz,kz⟩:=(a.add (zG3 (n+1))).null;have c:((n+1:Nat):Rat)=(n:Rat)+1:=by push_cast;rfl
  refine LeN.of_null (hz.add (key _ n1).neg) 0 fun M _=>?_
  have k:=kz M;have e:q2 (n+1)=q2 n/2:=rfl;have q:=zAQ n;rw[c,e] at k;grind
 exact up.eq dn
theorem zN5 {L:Rat→Nat→Rat} (hL:Lns L) {g:Nat→Rat} (hb:Bdd g) (hp:∃ c:Rat,0<c∧∃ N:Nat,∀ M,N≤M→c≤g M):∃ l,IsLog l g:=by
 obtain ⟨c,c0,N1,hc⟩:=hp;obtain ⟨K,N2,k0,hK⟩:=hb;have Kc:0<K+c:=by grind
 obtain ⟨B1,M1,b10,h1⟩:=(hL c c0).1;obtain ⟨B2,M2,b20,h2⟩:=(hL (K+c) Kc).1
 have each:∀ M,∃ y:Rat,N1+N2≤M→AB y (B1+B2+1)∧∃ j,M≤j∧AB (E y j-g M) (q2 M):=fun M=>by
  by_cases hM:N1+N2≤M
  ·have gc:=hc M (by omega)
   have gK:=(hK M (by omega)).2
   have gp:0<g M:=by grind
   obtain ⟨n1,p1⟩:=(hL c c0).le (hL _ gp) null_zero 0 (fun _ _=>by grind) 1 (by grind)
   obtain ⟨n2,p2⟩:=(hL _ gp).le (hL _ Kc) null_zero 0 (fun _ _=>by grind) 1 (by grind)
   obtain ⟨n3,p3⟩:=(hL _ gp).2 (q2 M) (zAQ M);obtain ⟨j,hj⟩:∃ j,j=M+M1+M2+n1+n2+n3:=⟨_,rfl⟩;refine ⟨L (g M) j,fun _=>⟨?_,j,by omega,p3 j (by omega)⟩⟩
   have r1:=p1 j (by omega)
   have r2:=p2 j (by omega)
   have r3:=(h1 j (by omega)).1
   have r4:=(h2 j (by omega)).2
   exact ⟨by grind,by grind⟩
  ·exact ⟨0,fun h=>absurd h hM⟩
 obtain ⟨l,hl⟩:=Classical.skolem.1 each;obtain ⟨T,t0,hT⟩:=zJS (B1+B2+1);refine ⟨l,⟨_,N1+N2,by grind,fun M hM=>(hl M hM).1⟩,?_⟩
 have z:=(zA6 (2*T) (by grind)).add null_q2
 refine z.of_le (N1+N2+1) fun M hM=>?_
 obtain ⟨a1,j,hj,a2⟩:=hl M (by omega)
 obtain ⟨i,rfl⟩:∃ i,j=M+i:=⟨j-M,by omega⟩
 have s:=E_sub (l M) T (fun i=>hT _ a1 i) M i
 have m1:(1:Rat)≤(M:Rat):=by exact_mod_cast (show 1≤M by omega)
 have qm:=yI M;have qi:=yI (M+i);have mq:=Rat.mul_le_mul_of_nonneg_left m1 (Rat.mul_nonneg t0 (Rat.le_of_lt qm));have mi:=Rat.mul_nonneg t0 (Rat.le_of_lt qi);obtain ⟨s1,s2⟩:=s;obtain ⟨d1,d2⟩:=a2
 show AB (E (l M) M-g M) _
 generalize E (l M) (M+i)=w1 at *;generalize E (l M) M=w2 at *;exact ⟨by grind,by grind⟩
end Go.Proofs.YtgmnknmjainababGreat.Ex
namespace Go.Proofs.YtgmnknmjainababGreat
open Ex
structure zGI (n d:Int) (B:Nat):Prop where
 n0:0<n
 nd:n≤d
 dd:d≤2199023255552
 b0:40≤B
 b1:B≤1000
def gaU (d:Int) (B:Nat) (_:Nat):Int:=(B:Int)*d
def gaD (n d:Int) (k:Nat):Int:=n+(k:Int)*d
def gaT (n d:Int) (B:Nat):Nat→Int × Int:=riT (ofI d n B) (gaU d B) (gaD n d)
theorem zE8 {n d:Int} {B:Nat} (h:zGI n d B) (k:Nat):0<gaD n d k:=by
 have:=Int.mul_nonneg (show (0:Int)≤(k:Int) by omega) (show 0≤d by have:=h.n0;have:=h.nd;omega)
 have:=h.n0;unfold gaD;omega
theorem zO1 {n d:Int} {B:Nat} (h:zGI n d B):RiOk (gaU d B) (gaD n d):=⟨fun _=>Int.mul_nonneg (by omega) (by have:=h.n0;have:=h.nd;omega),fun k=>zE8 h k⟩
theorem ga_34 {n d:Int} {B:Nat} (h:zGI n d B) (k:Nat) (hk:2*B≤k):4*gaU d B (k+1)≤3*gaD n d (k+1):=by
 have n0:=h.n0;have nd:=h.nd;have m:=Int.mul_le_mul_of_nonneg_right (show 2*(B:Int)≤((k+1:Nat):Int) by omega) (show 0≤d by omega)
 have e:2*(B:Int)*d=2*((B:Int)*d):=by grind
 have p:=Int.mul_nonneg (show (0:Int)≤(B:Int) by omega) (show 0≤d by omega)
 unfold gaU gaD;omega
theorem ga_val {n d:Int} {B:Nat} (h:zGI n d B) (k M:Nat):riV (fun _=>(d:Rat)/(n:Rat)) (gaU d B) (gaD n d) k M=upT ((n:Rat)/(d:Rat)) (B:Rat) k:=by
 have n0:(0:Rat)<(n:Rat):=by exact_mod_cast h.n0
 have d0:(0:Rat)<(d:Rat):=by exact_mod_cast (show (0:Int)<d by have:=h.n0;have:=h.nd;omega)
 have a0:(0:Rat)<(n:Rat)/(d:Rat):=zL n0 d0;have ed:=rdm (a:=(n:Rat)) d0
 induction k with
 | zero =>
  refine zU (c:=(n:Rat)/(d:Rat)) a0 ?_;rw[yK a0]
  show (n:Rat)/(d:Rat)*((d:Rat)/(n:Rat))=1
  have e2:=rdm (a:=(d:Rat)) n0;refine zU (c:=(n:Rat)*(d:Rat)) (Rat.mul_pos n0 d0) ?_;have e3:(n:Rat)*(d:Rat)*((n:Rat)/(d:Rat)*((d:Rat)/(n:Rat)))=(n:Rat)/(d:Rat)*(d:Rat)*((d:Rat)/(n:Rat)*(n:Rat)):=by grind
  rw[e3,ed,e2];grind
 | succ k ih =>
  have p:(0:Rat)<(gaD n d (k+1):Rat):=by exact_mod_cast zE8 h (k+1)
  refine zU (c:=(n:Rat)/(d:Rat)+((k:Rat)+1)) (zDG a0 k) ?_;rw[kD a0,← ih]
  show ((n:Rat)/(d:Rat)+((k:Rat)+1))*((gaU d B (k+1):Rat)/(gaD n d (k+1):Rat)*riV (fun _=>(d:Rat)/(n:Rat)) (gaU d B) (gaD n d) k M)=_
  generalize riV (fun _=>(d:Rat)/(n:Rat)) (gaU d B) (gaD n d) k M=r
  have eD:(gaD n d (k+1):Rat)=(n:Rat)+((k:Rat)+1)*(d:Rat):=by
   unfold gaD;rw[Rat.intCast_add,Rat.intCast_mul];have:(((k+1:Nat):Int):Rat)=(k:Rat)+1:=by push_cast;rfl
   rw[this]
  have eU:(gaU d B (k+1):Rat)=(B:Rat)*(d:Rat):=by
   unfold gaU;rw[Rat.intCast_mul];rfl
  have e4:=rdm (a:=(gaU d B (k+1):Rat)) p
  have e5:((n:Rat)/(d:Rat)+((k:Rat)+1))*(d:Rat)=(gaD n d (k+1):Rat):=by
   rw[eD];have:((n:Rat)/(d:Rat)+((k:Rat)+1))*(d:Rat)=(n:Rat)/(d:Rat)*(d:Rat)+((k:Rat)+1)*(d:Rat):=by grind
   rw[this,ed]
  refine zU (c:=(d:Rat)) d0 ?_;have e6:(d:Rat)*(((n:Rat)/(d:Rat)+((k:Rat)+1))*((gaU d B (k+1):Rat)/(gaD n d (k+1):Rat)*r))=((n:Rat)/(d:Rat)+((k:Rat)+1))*(d:Rat)*((gaU d B (k+1):Rat)/(gaD n d (k+1):Rat))*r:=by grind
  rw[e6,e5];have e7:(gaD n d (k+1):Rat)*((gaU d B (k+1):Rat)/(gaD n d (k+1):Rat))=(gaU d B (k+1):Rat)/(gaD n d (k+1):Rat)*(gaD n d (k+1):Rat):=by grind
  rw[e7,e4,eU];grind
theorem ga_has {n d:Int} {B N:Nat} (h:zGI n d B) (hN:zBV (gaT n d B) (2*B) N):Iv B (zAY (gaT n d B) N) (uS ((n:Rat)/(d:Rat)) (B:Rat)):=by
 have n0:=h.n0;have q0:(0:Rat)≤(d:Rat)/(n:Rat):=zF3 (by have:=h.nd;omega) n0
 have r:=zGE (zO1 h) (Iv.of B (n:=d) n0) 0 (fun M _=>q0) (fun k hk=>ga_34 h k hk) hN
 refine Has.of_eq r fun M=>?_
 show S (upT ((n:Rat)/(d:Rat)) (B:Rat)) M=S (fun k=>riV (fun _=>(d:Rat)/(n:Rat)) (gaU d B) (gaD n d) k M) M
 exact zCE M fun k _=>(ga_val h k M).symm
theorem zBL {n d:Int} {B:Nat} (h:zGI n d B):Q B≤(ofI d n B).1∧(ofI d n B).1≤(ofI d n B).2∧(ofI d n B).2≤Q (B+41)∧(ofI d n B).2-(ofI d n B).1≤1:=by
 have n0:=h.n0;have q:=zG B;have e:Q (B+41)=Q B*Q 41:=jC B 41;have e41:Q 41=2199023255552:=rfl;refine ⟨?_,zDA n0 B,?_,zC6 n0 B⟩
 ·refine Int.le_ediv_of_mul_le n0 ?_
  have:=Int.mul_le_mul_of_nonneg_left h.nd (show 0≤Q B by omega)
  have:d*Q B=Q B*d:=Int.mul_comm _ _;omega
 ·have:=(jD (x:=d*Q B) (m:=Q (B+41)) (q:=n) n0 (by
   have:=Int.mul_nonneg (show 0≤d by have:=h.nd;omega) (show 0≤Q B by omega)
   have:=Int.mul_nonneg (show 0≤Q (B+41) by have:=zG (B+41);omega) (show 0≤n by omega)
   omega) (by
   have m1:=Int.mul_le_mul_of_nonneg_right h.dd (show 0≤Q B by omega)
   have m2:=Int.mul_le_mul_of_nonneg_left (show 1≤n by omega) (show 0≤Q (B+41) by have:=zG (B+41);omega)
   rw[e,e41] at m2 ⊢;have:Q B*2199023255552=2199023255552*Q B:=Int.mul_comm _ _
   omega)).2.2.2
  exact this
theorem zBP {n d:Int} {B:Nat} (h:zGI n d B) (k:Nat):0≤(gaT n d B k).1∧(gaT n d B k).1≤(gaT n d B k).2:=by
 obtain ⟨f1,f2,f3,f4⟩:=zBL h;have q:=zG B;exact ⟨zCJ (zO1 h) (by omega) k,zK3 (zO1 h) f2 k⟩
theorem zDJ {x u v c:Int} (hv:0<v) (hx:0≤x) (h:u≤c*v) : -(-(x*u)/v)≤c*x:=by
 have e : -(c*x)*v ≤ -(x*u):=by
  have:=Int.mul_le_mul_of_nonneg_left h hx;have e1 : -(c*x)*v = -(x*(c*v)):=by grind
  omega
 have:=Int.le_ediv_of_mul_le hv e;omega
theorem ga_hi1 {n d:Int} {B:Nat} (h:zGI n d B) (k:Nat):(gaT n d B k).2≤Q (B+41+10*k):=by
 induction k with
 | zero=>exact (zBL h).2.2.1
 | succ k ih =>
  obtain ⟨e1,e2⟩:=zBP h k;have p:=zE8 h (k+1);have n0:=h.n0;have nd:=h.nd;have b1:=h.b1
  have m:=zDJ (x:=(gaT n d B k).2) (u:=gaU d B (k+1)) (v:=gaD n d (k+1)) (c:=1024) p (by omega) (by
   have m1:=Int.mul_le_mul_of_nonneg_right (show (B:Int)≤1024 by omega) (show 0≤d by omega)
   have m2:=Int.mul_nonneg (show (0:Int)≤(k:Int) by omega) (show 0≤d by omega)
   have e:((k+1:Nat):Int)*d=(k:Int)*d+d:=by
    have:((k+1:Nat):Int)=(k:Int)+1:=by omega
    rw[this];grind
   unfold gaU gaD
   omega)
  have e10:Q (B+41+10*(k+1))=1024*Q (B+41+10*k):=by
   have:=jC (B+41+10*k) 10;have e:Q 10=1024:=rfl;rw[e] at this;have e2:B+41+10*k+10=B+41+10*(k+1):=by omega
   rw[e2] at this;omega
  show -(-((gaT n d B k).2*gaU d B (k+1))/gaD n d (k+1))≤_
  omega
theorem ga_hi {n d:Int} {B:Nat} (h:zGI n d B) (k:Nat):(gaT n d B k).2≤Q (21*B+41):=by
 by_cases c:k≤2*B
 ·exact Int.le_trans (ga_hi1 h k) (zJ (by omega))
 ·obtain ⟨j,rfl⟩:∃ j,k=2*B+j:=⟨k-2*B,by omega⟩
  have big:3≤Q (21*B+41):=by have:=zJ (show 2≤21*B+41 by omega);have:Q 2=4:=rfl;omega
  clear c
  induction j with
  | zero=>exact Int.le_trans (ga_hi1 h _) (zJ (by omega))
  | succ j ih =>
   obtain ⟨e1,e2⟩:=zBP h (2*B+j);have f:=zNK (x:=(gaT n d B (2*B+j)).2) (zE8 h (2*B+j+1)) (by omega) (ga_34 h (2*B+j) (by omega))
   have e:(gaT n d B (2*B+(j+1))).2 = -(-((gaT n d B (2*B+j)).2*gaU d B (2*B+j+1))/gaD n d (2*B+j+1)):=rfl;rw[e];omega
theorem ga_set {n d:Int} {B:Nat} (h:zGI n d B):∃ N,N≤65*B+126∧zBV (gaT n d B) (2*B) N:=by
 obtain ⟨f1,f2,f3,f4⟩:=zBL h;have q:=zG B
 obtain ⟨N,h1,h2⟩:=zNE (turn:=2*B) (H:=21*B+42) (zO1 h) (show 0≤(ofI d n B).1 by omega) f2 (fun k hk=>ga_34 h k hk) (by
  have a:(riT (ofI d n B) (gaU d B) (gaD n d) (2*B)).2≤Q (21*B+41):=ga_hi h (2*B);have e:Q (21*B+42)=2*Q (21*B+41):=rfl;have:=zG (21*B+41)
  omega)
 exact ⟨N,by omega,h2⟩
theorem ga_rise {n d:Int} {B:Nat} (h:zGI n d B) (k:Nat) (hk:gaD n d (k+1)≤gaU d B (k+1)):(ofI d n B).2≤(gaT n d B k).2:=by
 induction k with
 | zero=>exact Int.le_refl _
 | succ k ih =>
  have n0:=h.n0;have nd:=h.nd
  have hk':gaD n d (k+1)≤gaU d B (k+1):=by
   have e:gaD n d (k+1+1)=gaD n d (k+1)+d:=by
    unfold gaD;have:((k+1+1:Nat):Int)=((k+1:Nat):Int)+1:=by omega
    rw[this];grind
   have e2:gaU d B (k+1+1)=gaU d B (k+1):=rfl;rw[e,e2] at hk;omega
  have i:=ih hk';obtain ⟨e1,e2⟩:=zBP h k;have p:=zE8 h (k+1);have c:=zAW ((gaT n d B k).2*gaU d B (k+1)) p;have m:=Int.mul_le_mul_of_nonneg_left hk' (show 0≤(gaT n d B k).2 by omega)
  refine Int.le_trans i ?_;refine Int.le_of_mul_le_mul_right (a:=gaD n d (k+1)) ?_ p;exact Int.le_trans m c
theorem zJ7 {n d:Int} {B:Nat} (h:zGI n d B) (k:Nat):((gaT n d B k).2-(gaT n d B k).1)*(ofI d n B).2≤(1+2*(k:Int))*((gaT n d B k).2+(ofI d n B).2):=by
 obtain ⟨f1,f2,f3,f4⟩:=zBL h;have q:=zG B;obtain ⟨e1,e2⟩:=zBP h k;have w:=zLA (zO1 h) (show 0≤(ofI d n B).1 by omega) f2 (by omega) f4 (fun k hk=>ga_rise h k hk) k
 refine Int.le_trans w (Int.mul_le_mul_of_nonneg_left ?_ (by omega))
 have e:riT (ofI d n B) (gaU d B) (gaD n d) k=gaT n d B k:=rfl;rw[e];split <;> omega
theorem zKA {n d:Int} {B:Nat} (h:zGI n d B) (k:Nat):((jG (gaT n d B) k).2-(jG (gaT n d B) k).1)*(ofI d n B).2≤(1+2*(k:Int))*((jG (gaT n d B) k).2+((k:Int)+1)*(ofI d n B).2)∧0≤(jG (gaT n d B) k).2∧(ofI d n B).2≤(jG (gaT n d B) k).2∧(ofI d n B).1≤(jG (gaT n d B) k).1:=by
 obtain ⟨f1,f2,f3,f4⟩:=zBL h;have q:=zG B;have a2:0≤(ofI d n B).2:=by omega
 induction k with
 | zero =>
  have w:=zJ7 h 0;refine ⟨?_,by show 0≤(ofI d n B).2;omega,Int.le_refl _,Int.le_refl _⟩
  show ((gaT n d B 0).2-(gaT n d B 0).1)*(ofI d n B).2≤(1+2*((0:Nat):Int))*((gaT n d B 0).2+(((0:Nat):Int)+1)*(ofI d n B).2)
  have e:((0:Nat):Int)=0:=rfl;rw[e] at w ⊢;generalize ((gaT n d B 0).2-(gaT n d B 0).1)*(ofI d n B).2=z at *;omega
 | succ k ih =>
  obtain ⟨i1,i2,i3,i4⟩:=ih;have w:=zJ7 h (k+1);obtain ⟨e1,e2⟩:=zBP h (k+1);have es:jG (gaT n d B) (k+1)=jJ (jG (gaT n d B) k) (gaT n d B (k+1)):=rfl;have es1:(jG (gaT n d B) (k+1)).1=(jG (gaT n d B) k).1+(gaT n d B (k+1)).1:=rfl;have es2:(jG (gaT n d B) (k+1)).2=(jG (gaT n d B) k).2+(gaT n d B (k+1)).2:=rfl;have ec:((k+1:Nat):Int)=(k:Int)+1:=by omega
  refine ⟨?_,by omega,by omega,by omega⟩
  rw[es1,es2];rw[ec] at w ⊢;generalize (jG (gaT n d B) k).2=S2 at *;generalize (jG (gaT n d B) k).1=S1 at *;generalize (gaT n d B (k+1)).2=T2 at *;generalize (gaT n d B (k+1)).1=T1 at *;generalize (ofI d n B).2=A at *;have k0:(0:Int)≤(k:Int):=by omega
  have m1:=Int.mul_nonneg k0 a2;have r0:((k:Int)+1)*A=(k:Int)*A+A:=by grind
  have m2:(1+2*(k:Int))*(S2+((k:Int)+1)*A)≤(1+2*((k:Int)+1))*(S2+((k:Int)+1)*A):=Int.mul_le_mul_of_nonneg_right (by omega) (by omega)
  have r1:(S2+T2-(S1+T1))*A=(S2-S1)*A+(T2-T1)*A:=by grind
  have r2:(1+2*((k:Int)+1))*(S2+T2+((k:Int)+1+1)*A)=(1+2*((k:Int)+1))*(S2+((k:Int)+1)*A)+(1+2*((k:Int)+1))*(T2+A):=by grind
  rw[r1,r2];omega
def jR (n d:Int) (B N:Nat):Int × Int:=zAY (gaT n d B) N
theorem zKG {n d:Int} {B N:Nat} (h:zGI n d B) (hN:N≤65*B+126):Q B≤(jR n d B N).1∧(jR n d B N).1≤(jR n d B N).2∧((jR n d B N).2-(jR n d B N).1)*Q B≤9500*((B:Int)*(B:Int))*(jR n d B N).2:=by
 obtain ⟨f1,f2,f3,f4⟩:=zBL h;obtain ⟨w1,w2,w3,w4⟩:=zKA h N;have q:=zG B;have e1:(jR n d B N).1=(jG (gaT n d B) N).1+0:=rfl;have e2:(jR n d B N).2=(jG (gaT n d B) N).2+9:=rfl;have sl:(jG (gaT n d B) N).1≤(jG (gaT n d B) N).2:=zCB (fun k=>(zBP h k).2) N
 refine ⟨by omega,by omega,?_⟩
 have b0:=h.b0;have b1:=h.b1;rw[e1,e2];generalize (jG (gaT n d B) N).2=S2 at *;generalize (jG (gaT n d B) N).1=S1 at *;generalize (ofI d n B).2=A at *;have m0:=Int.mul_le_mul_of_nonneg_left (show Q B≤A by omega) (show 0≤S2+9-(S1+0) by omega)
 have m1:(1+2*(N:Int))*(S2+((N:Int)+1)*A)≤(1+2*(N:Int))*(((N:Int)+2)*(S2+9)):=Int.mul_le_mul_of_nonneg_left (by
  have a:=Int.mul_le_mul_of_nonneg_left (show A≤S2+9 by omega) (show 0≤(N:Int)+1 by omega)
  have e:((N:Int)+2)*(S2+9)=((N:Int)+1)*(S2+9)+(S2+9):=by grind
  omega) (by omega)
 have r:(S2+9-(S1+0))*A=(S2-S1)*A+9*A:=by grind
 have k1:(1+2*(N:Int))*((N:Int)+2)+9≤9500*((B:Int)*(B:Int)):=by
  have n1:(N:Int)+2≤69*(B:Int):=by omega
  have n2:1+2*(N:Int)≤137*(B:Int):=by omega
  have a:=Int.mul_le_mul n2 n1 (by omega) (by omega)
  have e:137*(B:Int)*(69*(B:Int))=9453*((B:Int)*(B:Int)):=by grind
  have:=Int.mul_le_mul (show (40:Int)≤(B:Int) by omega) (show (40:Int)≤(B:Int) by omega) (by omega) (by omega)
  omega
 have m2:=Int.mul_le_mul_of_nonneg_right k1 (show 0≤S2+9 by omega)
 have r2:((1+2*(N:Int))*((N:Int)+2)+9)*(S2+9)=(1+2*(N:Int))*(((N:Int)+2)*(S2+9))+9*(S2+9):=by grind
 rw[r] at m0;rw[r2] at m2;omega
theorem ga_fit {n d:Int} {B:Nat} (h:zGI n d B) (k:Nat) (hk:k≤65*B+126):(jG (gaT n d B) k).2+9≤Q (21*B+60):=by
 have b1:=h.b1
 have s:∀ j:Nat,(jG (gaT n d B) j).2≤((j:Int)+1)*Q (21*B+41):=fun j=>by
  induction j with
  | zero =>
   have:=ga_hi h 0
   show (gaT n d B 0).2≤(((0:Nat):Int)+1)*Q (21*B+41)
   have e:((0:Nat):Int)=0:=rfl;rw[e];omega
  | succ j ih =>
   have:=ga_hi h (j+1);have e:(jG (gaT n d B) (j+1)).2=(jG (gaT n d B) j).2+(gaT n d B (j+1)).2:=rfl;have ec:((j+1:Nat):Int)+1=((j:Int)+1)+1:=by omega
   have r:(((j:Int)+1)+1)*Q (21*B+41)=((j:Int)+1)*Q (21*B+41)+Q (21*B+41):=by grind
   rw[e,ec,r];omega
 have a:=s k;have q:=zG (21*B+41);have big:9≤Q (21*B+41):=by have:=zJ (show 4≤21*B+41 by omega);have:Q 4=16:=rfl;omega
 have m:=Int.mul_le_mul_of_nonneg_right (show (k:Int)+1≤65127 by omega) (show 0≤Q (21*B+41) by omega)
 have e:Q (21*B+60)=Q (21*B+41)*Q 19:=by have:=jC (21*B+41) 19;exact this
 have e19:Q 19=524288:=rfl;rw[e19] at e;omega
theorem mulI_sq {B:Nat} {a:Int × Int} (h0:0≤a.1) (hl:a.1≤a.2):(kJ B a a).1=a.1*a.1/Q B∧(kJ B a a).2 = -(-(a.2*a.2)/Q B):=by
 obtain ⟨l1,l2,l3,l4,lh⟩:=zCS (a.1*a.1) (a.1*a.2) (a.2*a.1) (a.2*a.2);obtain ⟨g1,g2,g3,g4,gh⟩:=zB3 (a.1*a.1) (a.1*a.2) (a.2*a.1) (a.2*a.2);have m1:=Int.mul_le_mul_of_nonneg_left hl h0;have m2:=Int.mul_le_mul_of_nonneg_right hl h0;have m3:=Int.mul_le_mul_of_nonneg_left hl (show 0≤a.2 by omega)
 have m4:=Int.mul_le_mul_of_nonneg_right hl (show 0≤a.2 by omega)
 unfold kJ;have e1:jA (pr4 (a.1*a.1) (a.1*a.2) (a.2*a.1) (a.2*a.2)) 3=a.1*a.1:=by omega
 have e2:jM (pr4 (a.1*a.1) (a.1*a.2) (a.2*a.1) (a.2*a.2)) 3=a.2*a.2:=by omega
 rw[e1,e2];exact ⟨rfl,rfl⟩
theorem sq_rel {B:Nat} {a:Int × Int} {C:Int} (h0:0≤a.1) (hl:a.1≤a.2) (hC:0≤C) (h:(a.2-a.1)*Q B≤C*a.2) (hq:Q B≤2*(kJ B a a).2):((kJ B a a).2-(kJ B a a).1)*Q B≤(2*C+4)*(kJ B a a).2:=by
 have q:=zG B;obtain ⟨e1,e2⟩:=mulI_sq (B:=B) h0 hl;have f1:=kE (a.1*a.1) (show 0<Q B by omega)
 have f2:=kE (-(a.2*a.2)) (show 0<Q B by omega)
 have f3:=zAW (a.2*a.2) (show 0<Q B by omega)
 rw[← e1] at f1;rw[← e2] at f3
 have f4:((kJ B a a).2-1)*Q B<a.2*a.2:=by
  have:(-(a.2*a.2)/Q B+1)*Q B = -(((kJ B a a).2-1)*Q B):=by rw[e2];grind
  omega
 generalize (kJ B a a).1=x at *;generalize (kJ B a a).2=y at *
 have g1:(y-x)*Q B≤a.2*a.2-a.1*a.1+2*Q B:=by
  have r1:(y-1)*Q B=y*Q B-Q B:=by grind
  have r2:(x+1)*Q B=x*Q B+Q B:=by grind
  have r3:(y-x)*Q B=y*Q B-x*Q B:=by grind
  omega
 have m1:=Int.mul_le_mul_of_nonneg_left h (show 0≤2*a.2 by omega)
 have m2:(a.2*a.2-a.1*a.1)*Q B≤2*a.2*((a.2-a.1)*Q B):=by
  have r:a.2*a.2-a.1*a.1=2*a.2*(a.2-a.1)-(a.2-a.1)*(a.2-a.1):=by grind
  have s:=Int.mul_nonneg (show 0≤a.2-a.1 by omega) (show 0≤a.2-a.1 by omega)
  have m:=Int.mul_le_mul_of_nonneg_right (show a.2*a.2-a.1*a.1≤2*a.2*(a.2-a.1) by omega) (show 0≤Q B by omega)
  have r2:2*a.2*(a.2-a.1)*Q B=2*a.2*((a.2-a.1)*Q B):=by grind
  omega
 have m3:=Int.mul_le_mul_of_nonneg_left f3 (show 0≤2*C by omega)
 have r4:2*a.2*(C*a.2)=2*C*(a.2*a.2):=by grind
 have r5:2*C*(y*Q B)=2*C*y*Q B:=by grind
 rw[r4] at m1;rw[r5] at m3;have m4:a.2*a.2-a.1*a.1≤2*C*y:=Int.le_of_mul_le_mul_right (a:=Q B) (by omega) (by omega)
 have r6:(2*C+4)*y=2*C*y+4*y:=by grind
 omega
theorem sqs_rel {B:Nat} {d:Int × Int} {C:Int} (hB:40≤B) (hd:d.1≤d.2) (hl:Q B-1≤d.1) (hC:0≤C) (h:(d.2-d.1)*Q B≤C*d.2) (i:Nat) (hi:i≤20) :
  ((sqI B d i).2-(sqI B d i).1)*Q B≤(Q i*(C+4)-4)*(sqI B d i).2:=by
 have h4:=zJ hB;have e2:Q 40=1099511627776:=rfl
 induction i with
 | zero =>
  show (d.2-d.1)*Q B≤(1*(C+4)-4)*d.2
  have:1*(C+4)-4=C:=by omega
  rw[this];exact h
 | succ i ih =>
  have i1:=ih (by omega)
  have qi:=zJ (show i+1≤20 by omega)
  have e20:Q 20=1048576:=rfl;have es:Q (i+1)=2*Q i:=rfl;have q0:=zG i;obtain ⟨l1,l2⟩:=zNZ (B:=B) hd i (by omega) hl
  obtain ⟨l3,l4⟩:=zNZ (B:=B) hd (i+1) (by omega) hl
  have m:=Int.mul_le_mul_of_nonneg_right q0 (show 0≤C+4 by omega)
  have r:=sq_rel (B:=B) (a:=sqI B d i) (C:=Q i*(C+4)-4) (by omega) l2 (by omega) i1 (by
   have e:(kJ B (sqI B d i) (sqI B d i)).2=(sqI B d (i+1)).2:=rfl
   rw[e];omega)
  have ec:2*(Q i*(C+4)-4)+4=Q (i+1)*(C+4)-4:=by rw[es];grind
  rw[ec] at r;exact r
theorem bal_nat {B:Nat} {n' d' c:Int} (h0:40≤B) (h1:B≤1000) (h:Bal (B:Int) 1 n' d' c):0≤c∧c≤10∧4*(c+1)≤(B:Int):=by
 obtain ⟨⟨n0,d0,g1,g2⟩,h2,h3⟩:=h
 have c0:0≤c:=Int.not_lt.1 fun hc=>by
  have e:=h3 hc;have q:=zG (-c).toNat;have m:=Int.mul_le_mul_of_nonneg_left q (show 0≤(B:Int)*d' from Int.mul_nonneg (by omega) (by omega))
  have m2:=Int.mul_le_mul_of_nonneg_right (show (40:Int)≤(B:Int) by omega) (show 0≤d' by omega)
  omega
 have e:=h2 c0;obtain ⟨k,hk⟩:∃ k:Nat,c=(k:Int):=⟨c.toNat,by omega⟩
 subst hk;have ek:((k:Int)).toNat=k:=by omega
 rw[ek] at e;have qk:=zG k
 have le:Q k≤2*(B:Int):=by
  have m:=Int.mul_le_mul_of_nonneg_left (show d'≤2*n' by omega) (show 0≤(B:Int) by omega)
  refine Int.le_of_mul_le_mul_left (a:=n') ?_ n0;have r1:n'*1*Q k=n'*Q k:=by grind
  have r2:(B:Int)*(2*n')=n'*(2*(B:Int)):=by grind
  omega
 have k10:k≤10:=Nat.not_lt.1 fun hk=>by
  have:=zJ (show 11≤k by omega)
  have:Q 11=2048:=rfl;omega
 refine ⟨by omega,by omega,?_⟩
 by_cases c9:k≤9
 ·omega
 ·have:k=10:=by omega
  subst this;have:Q 10=1024:=rfl;omega
def gaY (n d:Int) (B:Nat) (o:Int × Int):Int × Int:=yH (ofI (B:Int) 1 B) (zE o n d)
structure zO2 (L:Rat→Nat→Rat) (B:Nat) (o:Int × Int):Prop where
 le:o.1≤o.2
 ab:Abs o ((B:Int)*Q B)
 wd:o.2-o.1≤44*(B:Int)+308
 iv:Iv B o (L (B:Rat))
theorem gaLog_of {L:Rat→Nat→Rat} (hL:Lns L) {B:Nat} (h0:40≤B) (h1:B≤1000) {n' d' c:Int} {N N2:Nat} (h:Bal (B:Int) 1 n' d' c) (hN:jX (lnT n' d' B) N) (hN2:jX (lnT 2 1 B) N2):zO2 L B (zFS (zQ (lnT n' d' B) N) (zQ (lnT 2 1 B) N2) c):=by
 obtain ⟨c0,c1,c2⟩:=bal_nat h0 h1 h;obtain ⟨b1,b2,b3⟩:=zFF (k:=c) h.1 (show 16≤B by omega) hN hN2 c (by omega) (by omega)
 obtain ⟨l,il,iv⟩:=zFB (show (0:Int)<(B:Int) by omega) (by omega) h B N N2
 have q:=zG B;refine ⟨b1,b2.mono ?_,?_,?_⟩
 ·have m:=Int.mul_le_mul_of_nonneg_right c2 (show 0≤Q B by omega)
  have r:(c+1)*(4*Q B)=4*(c+1)*Q B:=by grind
  omega
 ·have m:=Int.mul_le_mul_of_nonneg_right (show c+1≤11 by omega) (show 0≤2*(((B:Int)/3+2)*6+2) by omega)
  omega
 ·have e:(fun (_:Nat)=>((B:Int):Rat)/((1:Int):Rat))=fun _=>(B:Rat):=by
   funext _
   have e1:((1:Int):Rat)=1:=rfl;have e2:((B:Int):Rat)=(B:Rat):=rfl;rw[e1,e2,Rat.div_def];have:(1:Rat)⁻¹=1:=by decide +kernel
   rw[this,Rat.mul_one]
  rw[e] at il;have b0:(0:Rat)<(B:Rat):=by exact_mod_cast (show 0<B by omega)
  exact iv.congr ((hL _ b0).uniq il)
theorem gaY_ok {L:Rat→Nat→Rat} {n d:Int} {B:Nat} {o:Int × Int} (h:zGI n d B) (ho:zO2 L B o):0≤(gaY n d B o).1∧(gaY n d B o).1≤(gaY n d B o).2∧(gaY n d B o).2-(gaY n d B o).1≤44*(B:Int)+309∧zT (gaY n d B o)<Q (B+11)∧Iv B (gaY n d B o) (fun M=>(B:Rat)-(n:Rat)/(d:Rat)*L (B:Rat) M):=by
 have n0:=h.n0;have nd:=h.nd;have b0:=h.b0;have b1:=h.b1;have d0:0<d:=by omega
 have q:=zG B;have sa:=yR ho.ab d0 (show 0≤n by omega) nd
 have sl:=jQ ho.le d0 (show 0≤n by omega)
 have sw:=zBK (a:=o) (n:=n) (d:=d) (c:=o.2-o.1) d0 (Int.mul_le_mul_of_nonneg_left nd (by have:=ho.le;omega))
 have e1:(ofI (B:Int) 1 B).1=(B:Int)*Q B:=Int.ediv_one _;have e2:(ofI (B:Int) 1 B).2=(B:Int)*Q B:=by show -(-((B:Int)*Q B)/1)=_;rw[Int.ediv_one];omega
 have g1:(gaY n d B o).1=(B:Int)*Q B-(zE o n d).2:=by show (ofI (B:Int) 1 B).1-_=_;rw[e1]
 have g2:(gaY n d B o).2=(B:Int)*Q B-(zE o n d).1:=by show (ofI (B:Int) 1 B).2-_=_;rw[e2]
 obtain ⟨s1,s2,s3,s4⟩:=sa;have wd:=ho.wd;have lo:0≤(gaY n d B o).1:=by omega
 refine ⟨lo,by omega,by omega,?_,?_⟩
 ·have r:zT (gaY n d B o)≤2*((B:Int)*Q B):=zAJ ⟨by omega,by omega,by omega,by omega⟩
  have e:Q (B+11)=Q B*Q 11:=jC B 11;have e11:Q 11=2048:=rfl;rw[e11] at e;have m:=Int.mul_le_mul_of_nonneg_right (show (B:Int)≤1000 by omega) (show 0≤Q B by omega)
  omega
 ·have i1:=Iv.of B (n:=(B:Int)) (d:=1) (by decide)
  have i2:=ho.iv.scale (n:=n) (d:=d) (by omega) d0
  refine Has.of_eq (i1.sub i2) fun M=>?_
  have e1:((1:Int):Rat)=1:=rfl;have e2:((B:Int):Rat)=(B:Rat):=rfl
  have e3:(B:Rat)/1=(B:Rat):=by
   rw[Rat.div_def];have:(1:Rat)⁻¹=1:=by decide +kernel
   rw[this,Rat.mul_one]
  rw[e1,e2,e3]
def gaE (n d:Int) (B:Nat) (o:Int × Int) (t N:Nat):Int × Int:=sqI B (zQ (zY B (zN (gaY n d B o) t)) N) t
theorem gaE_ok {L:Rat→Nat→Rat} {n d:Int} {B t N:Nat} {o:Int × Int} (h:zGI n d B) (ho:zO2 L B o) (ht:t≤19) (hA:Abs (zN (gaY n d B o) t) (Q (B-8))) (hN:jX (zY B (zN (gaY n d B o) t)) N) :
  Q B+1≤2*(gaE n d B o t N).1∧(gaE n d B o t N).1≤(gaE n d B o t N).2∧(gaE n d B o t N).2≤Q (B+6144)∧((gaE n d B o t N).2-(gaE n d B o t N).1)*Q B≤9900000*((B:Int)*(B:Int))*(gaE n d B o t N).2∧Iv B (gaE n d B o t N) (Ev (fun M=>(B:Rat)-(n:Rat)/(d:Rat)*L (B:Rat) M)):=by
 obtain ⟨y1,y2,y3,y4,y5⟩:=gaY_ok h ho;have b0:=h.b0;have b1:=h.b1;have q:=zG t;have qB:=zG B
 obtain ⟨g1,g2,g3,g4⟩:=zIK (ws:=44*(B:Int)+309) (by omega) hA y2 (by
  have m:=Int.mul_le_mul_of_nonneg_left q (show 0≤44*(B:Int)+309 by omega)
  omega) hN
 have hs:0≤(zN (gaY n d B o) t).1:=Int.ediv_nonneg y1 (by omega)
 have hsl:(zN (gaY n d B o) t).1≤(zN (gaY n d B o) t).2:=by
  have:=jQ (a:=gaY n d B o) (n:=1) (d:=Q t) y2 (by omega) (by omega)
  simpa [zE,zN] using this
 have dl:=done_low hs hsl hN;have dle:=zFE (kX B (zN (gaY n d B o) t)) N;have sl:=zNZ (B:=B) dle t (zJ (by omega)) dl
 have h3:=zJ (show t≤19 by omega)
 have h4:=zJ b0;have e19:Q 19=524288:=rfl;have e40:Q 40=1099511627776:=rfl;have eb19:eb 19=6144:=by decide
 have ebm:=zEP (show t≤19 by omega)
 rw[eb19] at ebm;have up:=(g2.mono (zJ (show B+eb t≤B+6144 by omega))).2.2.2
 have wd:(zN (gaY n d B o) t).2-(zN (gaY n d B o) t).1≤44*(B:Int)+309+1:=zCN (by omega) (by
  have m:=Int.mul_le_mul_of_nonneg_left q (show 0≤44*(B:Int)+309 by omega)
  omega)
 have wD:=zC4 (zFK (by omega) hA hsl wd) hN
 obtain ⟨D,hD⟩:∃ D,D=zQ (zY B (zN (gaY n d B o) t)) N:=⟨_,rfl⟩;rw[← hD] at dl dle wD
 have wC:D.2-D.1≤((B:Int)/8+2)*(88*(B:Int)+624)+2:=by
  have m:=Int.mul_le_mul_of_nonneg_right (show (N:Int)+1≤(B:Int)/8+2 by omega) (show 0≤2*(44*(B:Int)+309+1)+4 by omega)
  have r:2*(44*(B:Int)+309+1)+4=88*(B:Int)+624:=by omega
  rw[r] at m wD;omega
 obtain ⟨C,hC⟩:∃ C,C=((B:Int)/8+2)*(88*(B:Int)+624)+4:=⟨_,rfl⟩;have C0:0≤C:=by have:=Int.mul_nonneg (show 0≤(B:Int)/8+2 by omega) (show 0≤88*(B:Int)+624 by omega);omega
 have BB:=Int.mul_le_mul (show (40:Int)≤(B:Int) by omega) (show (40:Int)≤(B:Int) by omega) (by omega) (by omega)
 have Cb:40*(C+4)≤735*((B:Int)*(B:Int)):=by
  have m:=Int.mul_le_mul (show 40*((B:Int)/8+2)≤7*(B:Int) by omega) (show 88*(B:Int)+624≤104*(B:Int) by omega) (by omega) (by omega)
  have r1:40*((B:Int)/8+2)*(88*(B:Int)+624)=40*(((B:Int)/8+2)*(88*(B:Int)+624)):=by grind
  have r2:7*(B:Int)*(104*(B:Int))=728*((B:Int)*(B:Int)):=by grind
  omega
 have rel:(D.2-D.1)*Q B≤C*D.2:=by
  have m1:=Int.mul_le_mul_of_nonneg_right wC (show 0≤Q B by omega)
  have m2:=Int.mul_le_mul_of_nonneg_left (show Q B≤D.2+1 by omega) (show 0≤C-2 by have:=Int.mul_nonneg (show 0≤(B:Int)/8+2 by omega) (show 0≤88*(B:Int)+624 by omega);omega)
  have r1:((B:Int)/8+2)*(88*(B:Int)+624)+2=C-2:=by omega
  rw[r1] at m1;have r2:(C-2)*(D.2+1)=C*D.2+C-2*D.2-2:=by grind
  have:C≤2*D.2+2:=by
   have m3:=Int.mul_le_mul (show (B:Int)≤1000 by omega) (show (B:Int)≤1000 by omega) (by omega) (by omega)
   omega
  omega
 have rs:=sqs_rel (B:=B) b0 dle dl C0 rel t (by omega)
 refine ⟨?_,g1,up,?_,zNH (by omega) y5 hA⟩
 ·show Q B+1≤2*(sqI B (zQ (zY B (zN (gaY n d B o) t)) N) t).1
  omega
 ·show ((sqI B (zQ (zY B (zN (gaY n d B o) t)) N) t).2-(sqI B (zQ (zY B (zN (gaY n d B o) t)) N) t).1)*Q B≤9900000*((B:Int)*(B:Int))*(sqI B (zQ (zY B (zN (gaY n d B o) t)) N) t).2
  rw[← hD] at sl ⊢;refine Int.le_trans rs (Int.mul_le_mul_of_nonneg_right ?_ (by omega))
  have m:=Int.mul_le_mul_of_nonneg_right h3 (show 0≤C+4 by omega)
  rw[e19] at m;omega
end Go.Proofs.YtgmnknmjainababGreat
