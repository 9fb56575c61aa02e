/-
  Its own texts.
-/
import Derived.Test.YtgmnknmjainabacGreatI12
set_option maxRecDepth 100000
set_option maxHeartbeats 40000000
set_option linter.unnecessarySimpa false
set_option linter.unusedSimpArgs false
set_option linter.unusedVariables false
namespace Go.Proofs.YtgmnknmjainabacGreat.Ex
theorem zQ3 {Y K V a b:Rat} (B:Bnd Y K V) (ha:0<=a) (ij:a<=b) (hb:b<=Y):LeN (λ M=>eF a M+(b-a)*ex (-(b*b)) M) (eF b):=by
 obtain⟨C,D,c0,d0,_,dn⟩:=eF_dn B
 have d:=zCL (f:=λ x M=>(x-a)*ex (-(b*b)) M-eF x M) (a:=a) (b:=b) (C:=C) (D:=D) ij c0 d0 (λ x h h1 h2 h3 h4=>by
  obtain⟨z,hz,N,k⟩:=dn x h (by grind) h2 h3 (by grind)
  have xx : -(b*b) <= -(x*x):=by
   have:=Yy (show x<=b by grind) (show 0<=x by grind)
   have:=YB (show x<=b by grind) (show 0<=b by grind)
   grind
  obtain⟨z2,M6,k2⟩:=((zBX xx).scale (YC h2)).null
  exact⟨_,hz.add M6,N,λ M hM=>by have:=k M hM;have:=k2 M;grind⟩)
 intro e he
 obtain⟨N,k⟩:=d e he;exact⟨N,λ M hM=>by have:(b-a)*ex (-(b*b)) M-eF b M<=(a-a)*ex (-(b*b)) M-eF a M+e:=k M hM;grind⟩
theorem eF_right {Y K V x h:Rat} (B:Bnd Y K V) (hx:0<=x) (hh:0<=h) (j:Nat) (hj:(j:Rat)*h*x<=Y):LeN (λ M=>S (λ i=>x*h*ex (-((((i+1:Nat):Rat)*h*x)*(((i+1:Nat):Rat)*h*x))) M) j) (eF ((j:Rat)*h*x)):=by
 induction j with
 | zero =>
  refine LeN.of_le 0 λ M _=>?_
  rw[show ((0:Nat):Rat)*h*x=0 by grind,zHZ]
  show (0:Rat)<=0
  grind
 | succ j ih =>
  have ec:((j+1:Nat):Rat)=(j:Rat)+1:=by push_cast;rfl
  have j0:(0:Rat)<=(j:Rat):=by exact_mod_cast Nat.zero_le j
  have mC:=Yz hh hx;have jh:=Yz (Yz j0 hh) hx;have oF:((j:Rat)+1)*h*x<=Y:=by rw[ec] at hj;exact hj
  have e:((j:Rat)+1)*h*x=(j:Rat)*h*x+h*x:=by grind
  have AF:=ih (by grind)
  have c:=zQ3 B jh (show (j:Rat)*h*x<=((j+1:Nat):Rat)*h*x by rw[ec];grind) hj
  refine LeN.trans ?_ c;have:=AF.add (LeN.refl (λ M=>(((j+1:Nat):Rat)*h*x-(j:Rat)*h*x)*ex (-((((j+1:Nat):Rat)*h*x)*(((j+1:Nat):Rat)*h*x))) M))
  refine LeN.trans (LeN.of_le 0 λ M _=>?_) this
  show S (λ i=>x*h*ex (-((((i+1:Nat):Rat)*h*x)*(((i+1:Nat):Rat)*h*x))) M) j+x*h*ex (-((((j+1:Nat):Rat)*h*x)*(((j+1:Nat):Rat)*h*x))) M<=S (λ i=>x*h*ex (-((((i+1:Nat):Rat)*h*x)*(((i+1:Nat):Rat)*h*x))) M) j+(((j+1:Nat):Rat)*h*x-(j:Rat)*h*x)*ex (-((((j+1:Nat):Rat)*h*x)*(((j+1:Nat):Rat)*h*x))) M
  have e9:((j+1:Nat):Rat)*h*x-(j:Rat)*h*x=x*h:=by rw[ec];grind
  rw[e9];exact Rat.le_refl
theorem S_shift (f:Nat->Rat) (n:Nat):S f n+f n=f 0+S (λ i=>f (i+1)) n:=by
 have:=zP7 f n;exact this
theorem gE_le {Y K V x h:Rat} (B:Bnd Y K V) (hx:0<=x) (hxY:x<=Y) (hh:0<=h) (n:Nat) (hn:(n:Rat)*h=1):LeN (λ M=>x*gE h x n M) (λ M=>eF x M+x*h):=by
 have r:=eF_right (x:=x) B hx hh n (by rw[hn];grind)
 rw[hn,show 1*x=x by grind] at r
 obtain⟨z,hz,k⟩:=r.null;obtain⟨N,pos⟩:=zA6 (-(((n:Rat)*h*x)*((n:Rat)*h*x)));refine LeN.of_null hz (N+1) λ M hM=>?_
 have a:=k M;have p:=pos M (by omega)
 have e0:ex (-((((0:Nat):Rat)*h*x)*(((0:Nat):Rat)*h*x))) M=1:=by
  have : -((((0:Nat):Rat)*h*x)*(((0:Nat):Rat)*h*x))=0:=by grind
  rw[this];obtain⟨m,rfl⟩:∃ m,M=m+1:=⟨M-1,by omega⟩
  exact kT m
 have s:=S_shift (λ i=>x*h*ex (-(((i:Rat)*h*x)*((i:Rat)*h*x))) M) n
 rw[gE_mul] at s;rw[e0] at s;have xh:=Yz (Yz hx hh) p;grind
theorem part_dn {Y K V x k s:Rat} (B:Bnd Y K V) (hx:0<=x) (hk:0<k) (k1:k<=1) (hY:x+k<=Y) (hs:0<=s) (hs1:s<=1) (hD:8*(k*(2*Y+1))<=1) :
  ∃ z,Null z/\∃ N:Nat,∀ M,N<=M->rI s*ex (-(x*x*(1+s*s))) M-2*(x*k)*(ex (-(x*x)) M*ex (-((s*x)*(s*x))) M)<=rI s*ex (-((x+k)*(x+k)*(1+s*s))) M+(1+8*((2*Y+1)*(2*Y+1)))*V*(k*k)+z M:=by
 obtain⟨c,hc⟩:∃ c,c=1+s*s:=⟨_,rfl⟩;have k0:=YC hk;have y0:=B.y0;have ss:s*s<=1:=by have:=Yy hs1 hs;grind
 have ss0:=zO s;have rc:rI s*c=1:=by rw[hc];exact zKC s
 have r0:=YC (zKD s);have r1:=rI_le s;obtain⟨t,ht⟩:∃ t,t=k*(2*x+k)*c:=⟨_,rfl⟩;obtain⟨A,hA⟩:∃ A,A=2*Y+1:=⟨_,rfl⟩;have A0:0<=A:=by grind
 have aA:2*x+k<=A:=by grind
 have ka:k*(2*x+k)<=k*A:=Yy aA k0;have DI:0<=k*(2*x+k):=Yz k0 (by grind)
 have t0:0<=t:=by rw[ht];exact Yz DI (by grind)
 have t2:t<=2*(k*A):=by
  have a:=Yy (show c<=2 by grind) DI
  rw[ht];grind
 have t4:t<=1/4:=by rw[<- hA] at hD;grind
 have cx:=zA5 (-(x*x)) (-((s*x)*(s*x)));have pO:=zA5 (-(x*x*c)) (-t);obtain⟨N2,h2⟩:=zA6 (-(x*x*c));refine⟨_,(cx.bmul (Bdd.const (-(2*(x*k))))).add (pO.bmul (Bdd.const (rI s))),N2+2,λ M hM=>?_⟩
 have v0:=h2 M (by omega)
 have vV:ex (-(x*x*c)) M<=V:=B.v _ (Yz (zO x) (by grind)) (by
  have xx:x*x<=Y*Y:=Rat.le_trans (Yy (show x<=Y by grind) hx) (YB (show x<=Y by grind) y0)
  have p1:=Yy (show c<=2 by grind) (zO x)
  grind) M
 have qlo:1-t-2*(t*t)<=ex (-t) M:=by
  have:=(zAB (h := -t) (b:=t) ⟨by grind,by grind⟩ t4 (M:=M) (by omega)).1
  show _<=E (-t) M
  grind
 have e1 : -((x+k)*(x+k)*c) = -(x*x*c) + -t:=by rw[ht];grind
 have e2 : -(x*x) + -((s*x)*(s*x)) = -(x*x*c):=by rw[hc];grind
 rw[<- hc,e1];rw[e2]
 have tt:t*t<=4*(A*A)*(k*k):=by
  have p1:=Yy t2 t0;have p2:=YB t2 (show 0<=2*(k*A) by have:=Yz k0 A0;grind)
  grind
 have rt:rI s*t=2*(x*k)+k*k:=by
  have:rI s*t=k*(2*x+k)*(rI s*c):=by rw[ht];grind
  rw[this,rc];grind
 have m1:=Yy qlo (Yz r0 v0);have Lv:=zO t;have m3:=YB r1 Lv;have m4:=YB (show 2*(rI s*(t*t))<=8*(A*A)*(k*k) by grind) v0
 have AA:=Yz (Yz A0 A0) (Yz k0 k0);have kk:=Yz k0 k0;have m5:=Yy vV (show 0<=k*k+8*(A*A*(k*k)) by grind)
 rw[<- hA];generalize ex (-(x*x*c)) M=v at *;generalize ex (-(x*x*c) + -t) M=vt at *;generalize ex (-t) M=q at *;generalize ex (-(x*x)) M*ex (-((s*x)*(s*x))) M=w at *;clear cx pO h2;have f1:rI s*v*(1-t-2*(t*t))=rI s*v-(rI s*t)*v-2*(rI s*(t*t))*v:=by grind
 rw[f1,rt] at m1;grind
theorem gG_dn {Y K V x k h:Rat} (B:Bnd Y K V) (hx:0<=x) (hk:0<k) (k1:k<=1) (hY:x+k<=Y) (hh:0<=h) (hD:8*(k*(2*Y+1))<=1) (n:Nat) (hn:(n:Rat)*h<=1) :
  ∃ z,Null z/\∃ N:Nat,∀ M,N<=M->gG h x n M-2*(x*k)*(ex (-(x*x)) M*gE h x n M)<=gG h (x+k) n M+(n:Rat)*h*((1+8*((2*Y+1)*(2*Y+1)))*V*(k*k))+z M:=by
 induction n with
 | zero =>
  refine⟨_,null_zero,0,λ M _=>?_⟩
  show 0-2*(x*k)*(ex (-(x*x)) M*0)<=0+((0:Nat):Rat)*h*_+0
  grind
 | succ n ih =>
  have ec:((n+1:Nat):Rat)=(n:Rat)+1:=by push_cast;rfl
  have n0:(0:Rat)<=(n:Rat):=by exact_mod_cast Nat.zero_le n
  rw[ec] at hn;obtain⟨z1,G7,N1,h1⟩:=ih (by grind)
  obtain⟨z2,M6,N2,h2⟩:=part_dn B hx hk k1 hY (s:=(n:Rat)*h) (Yz n0 hh) (by grind) hD
  refine⟨_,G7.add (M6.bmul (Bdd.const h)),N1+N2,λ M hM=>?_⟩
  have a1:=h1 M (by omega)
  have a2:=Yy (h2 M (by omega)) hh
  show gG h x n M+h*rI ((n:Rat)*h)*ex (-(x*x*(1+((n:Rat)*h)*((n:Rat)*h)))) M-2*(x*k)*(ex (-(x*x)) M*(gE h x n M+h*ex (-(((n:Rat)*h*x)*((n:Rat)*h*x))) M))<=gG h (x+k) n M+h*rI ((n:Rat)*h)*ex (-((x+k)*(x+k)*(1+((n:Rat)*h)*((n:Rat)*h)))) M+((n+1:Nat):Rat)*h*((1+8*((2*Y+1)*(2*Y+1)))*V*(k*k))+_
  rw[ec];grind
theorem gG_le {h x:Rat} (hh:0<=h) (n:Nat):LeN (gG h x n) (λ M=>ex (-(x*x)) M*S (λ i=>h*rI ((i:Rat)*h)) n):=by
 induction n with
 | zero=>exact LeN.of_le 0 λ M _=>by show (0:Rat)<=_*0;grind
 | succ n ih =>
  have r0:=YC (zKD ((n:Rat)*h));have m:=(zBX (a := -(x*x*(1+((n:Rat)*h)*((n:Rat)*h)))) (b := -(x*x)) (by have:=Yz (zO x) (zO ((n:Rat)*h));grind)).scale (Yz hh r0)
  refine (ih.add m).trans (LeN.of_le 0 λ M _=>?_)
  show _<=ex (-(x*x)) M*(S (λ i=>h*rI ((i:Rat)*h)) n+h*rI ((n:Rat)*h))
  grind
end Go.Proofs.YtgmnknmjainabacGreat.Ex
namespace Go.Proofs.YtgmnknmjainabacGreat.Ex
theorem zKP {v x h:Rat} (hv:0<=v) (Ax:v<=1/2) (wW:v<=x) (hh:0<=h) (M:Nat) (j:Nat) (hj:tD v (x+(j:Rat)*h)<=1/2) :
  aA (tD v (x+(j:Rat)*h)) M-aA (tD v x) M<=S (λ i=>h*rI (x+(i:Rat)*h)) j+(j:Rat)*(16*(h*h)+2*(h*q4 M)):=by
 induction j with
 | zero =>
  have e:x+((0:Nat):Rat)*h=x:=by grind
  rw[e]
  show _<=0+_
  grind
 | succ j ih =>
  have ec:((j+1:Nat):Rat)=(j:Rat)+1:=by push_cast;rfl
  have j0:(0:Rat)<=(j:Rat):=by exact_mod_cast Nat.zero_le j
  have jh:=Yz j0 hh;have e1:x+((j+1:Nat):Rat)*h=x+(j:Rat)*h+h:=by rw[ec];grind
  rw[e1] at hj ⊢;have AF:=ih (Rat.le_trans (zT0 hv (by grind) (by grind)) hj)
  have st:=(zK9 (x:=x+(j:Rat)*h) (i:=rI (x+(j:Rat)*h)) hv Ax (by grind) hh hj (zKC _) M).2
  show _<=S (λ i=>h*rI (x+(i:Rat)*h)) j+h*rI (x+(j:Rat)*h)+_
  rw[ec];grind
theorem zTZ (n:Nat) {h:Rat} (hm:((n+1:Nat):Rat)*h=1/2):S (λ i=>h*rI ((i:Rat)*h)) (2*(n+1))=S (λ i=>h*rI (0+(i:Rat)*h)) (n+1)+S (λ i=>h*rI (1/2+(i:Rat)*h)) (n+1):=by
 rw[show 2*(n+1)=(n+1)+(n+1) by omega,zP9]
 congr 1
 ·exact kQ _ λ i _=>by rw[show 0+(i:Rat)*h=(i:Rat)*h by grind]
 ·refine kQ _ λ i _=>?_
  have e:((n+1+i:Nat):Rat)=((n+1:Nat):Rat)+(i:Rat):=by push_cast;rfl
  rw[e,show (((n+1:Nat):Rat)+(i:Rat))*h=((n+1:Nat):Rat)*h+(i:Rat)*h by grind,hm]
theorem zPN (n:Nat) {h:Rat} (hh:h*(2*((n:Rat)+1))=1):LeN piS (λ M=>4*S (λ i=>h*rI ((i:Rat)*h)) (2*(n+1))+64*(1/((n:Rat)+1))):=by
 have n0:(0:Rat)<(n:Rat)+1:=zAV n
 have h0:0<h:=by
  refine Rat.not_le.1 λ hle=>?_
  have:=Yz (show 0 <= -h by grind) (show 0<=2*((n:Rat)+1) by grind)
  grind
 have ec:((n+1:Nat):Rat)=(n:Rat)+1:=by push_cast;rfl
 have hm:((n+1:Nat):Rat)*h=1/2:=by rw[ec];grind
 have a:∀ M,aA (1/2) M<=S (λ i=>h*rI (0+(i:Rat)*h)) (n+1)+((n:Rat)+1)*(16*(h*h)+2*(h*q4 M)):=λ M=>by
  have:=zKP (v:=0) (x:=0) (by grind) (by grind) (by grind) (YC h0) M (n+1) (by rw[hm];decide +kernel)
  rw[hm,show tD 0 (0+1/2)=1/2 by decide +kernel,show tD 0 0=0 by decide +kernel,zFW,ec] at this
  grind
 have b:∀ M,aA (1/3) M<=S (λ i=>h*rI (1/2+(i:Rat)*h)) (n+1)+((n:Rat)+1)*(16*(h*h)+2*(h*q4 M)):=λ M=>by
  have:=zKP (v:=1/2) (x:=1/2) (by grind) (by grind) (by grind) (YC h0) M (n+1) (by rw[hm];decide +kernel)
  rw[hm,show tD (1/2) (1/2+1/2)=1/3 by decide +kernel,show tD (1/2) (1/2)=0 by decide +kernel,zFW,ec] at this
  grind
 rw[zTZ n hm];have nh:((n:Rat)+1)*h=1/2:=by grind
 have hu:h=1/2*(1/((n:Rat)+1)):=by
  have um:1/((n:Rat)+1)*((n:Rat)+1)=1:=rdm n0;have:h*(((n:Rat)+1)*(1/((n:Rat)+1)))=1/2*(1/((n:Rat)+1)):=by rw[<- nh];grind
  rw[show ((n:Rat)+1)*(1/((n:Rat)+1))=1 by grind] at this
  grind
 refine LeN.of_null ((pi_four.neg).add (zFM 8 (by grind))) 0 λ M _=>?_
 have a1:=a M;have b1:=b M;have e1:((n:Rat)+1)*(16*(h*h)+2*(h*q4 M))=16*(((n:Rat)+1)*h)*h+2*(((n:Rat)+1)*h)*q4 M:=by grind
 rw[e1,nh] at a1 b1;have u0:(0:Rat)<1/((n:Rat)+1):=zF (by grind) n0
 generalize 1/((n:Rat)+1)=u at *;rw[hu] at a1 b1 ⊢;generalize S (λ i=>1/2*u*rI (0+(i:Rat)*(1/2*u))) (n+1)=s1 at *
 generalize S (λ i=>1/2*u*rI (1/2+(i:Rat)*(1/2*u))) (n+1)=s2 at *
 grind
theorem eF_sum2 {x h:Rat} (hx:0<=x) {K V:Rat} (B:Bnd x K V) (hh:0<h) (n:Nat) (hn:(n:Rat)*h=1):LeN (λ _=>S (λ i=>h*rI ((i:Rat)*h)) n) (λ M=>eF x M*eF x M+gG h x n M+2*(V*x*h)*x):=by
 obtain⟨C,D,c0,d0,d1,dn⟩:=eF_dn B;have h0:=YC hh;have k0:=B.k0;have v1:=B.v1;have A1:0<8*(2*x+1):=by grind
 have dm:1/(8*(2*x+1))*(8*(2*x+1))=1:=rdm A1;have dp:0<1/(8*(2*x+1)):=zF (by grind) A1
 obtain⟨D2,s9,Tn,AX⟩:∃ D2:Rat,0<D2/\D2<=D/\D2<=1/(8*(2*x+1)):=by
  by_cases hc:D<=1/(8*(2*x+1))
  ·exact⟨D,d0,by grind,hc⟩
  ·exact⟨_,dp,by grind,by grind⟩
 obtain⟨F,hF⟩:∃ F,F=K*V:=⟨_,rfl⟩;have F0:0<=F:=by rw[hF];exact Yz k0 (by grind)
 obtain⟨C4,Cp⟩:∃ C4,C4=2*(C*F)+V*C:=⟨_,rfl⟩
 have Tl:0<=C4:=by
  have a:=Yz c0 F0;have b:=Yz (show 0<=V by grind) c0
  grind
 obtain⟨C5,sR⟩:∃ C5,C5=(1+8*((2*x+1)*(2*x+1)))*V:=⟨_,rfl⟩;have Tm:0<=C5:=by rw[sR];exact Yz (by have:=Yz (show 0<=2*x+1 by grind) (show 0<=2*x+1 by grind);grind) (by grind)
 have d:=zCL (f:=λ y M => -(eF y M*eF y M+gG h y n M+2*(V*x*h)*y)) (a:=0) (b:=x) (C:=C4+C5) (D:=D2) hx (by grind) s9 (λ y k hy hk hkD rk=>by
  obtain⟨z1,G7,N1,p1⟩:=dn y k hy hk (by grind) rk
  have k1:k<=1:=by grind
  have kq:=YC hk;obtain⟨z2,M6,N2,p2⟩:=gG_dn B hy hk k1 rk h0 (by have:=YB (Rat.le_trans hkD AX) (YC A1);grind) n (by grind)
  have right:=gE_le (x:=y) B hy (by grind) h0 n hn
  obtain⟨z3,fW,p3⟩:=right.null;obtain⟨N3,ev⟩:=zA6 (-(y*y));obtain⟨N4,zq⟩:=zA6 (-((y+k)*(y+k)))
  have bF:Bdd (eF y):=by
   have:Bdd (eS y):=Bdd.of_le K 0 λ M _=>⟨by have:=jR hy M;grind,B.s _ hy (by grind) M⟩
   exact this.mul (jZ _)
  have PF:Bdd (eF (y+k)):=by
   have:Bdd (eS (y+k)):=Bdd.of_le K 0 λ M _=>⟨by have:=jR (x:=y+k) (by grind) M;grind,B.s _ (by grind) rk M⟩
   exact this.mul (jZ _)
  have bV:=jZ (-(y*y));have q1:=G7.bmul (bF.add PF);have q2:=(G7.bmul bV).bmul (Bdd.const k);have q3:=(fW.bmul bV).bmul (Bdd.const (2*k));refine⟨_,((q1.add q2).add q3).add M6,N1+N2+N3+N4,λ M hM=>?_⟩
  have a1:=p1 M (by omega)
  have a2:=p2 M (by omega)
  have a3:=p3 M;have v0:=ev M (by omega)
  have e0:0<=eF (y+k) M:=Yz (jR (by grind) M) (zq M (by omega))
  have f0:0<=eF y M:=Yz (jR hy M) v0
  have sqb:∀ u,0<=u->u<=x->u*u<=2*(x*x):=λ u h1 h2=>by
   have xx:u*u<=x*x:=Rat.le_trans (Yy h2 h1) (YB h2 hx);have:=Yz hx hx;grind
  have vV:ex (-(y*y)) M<=V:=B.v _ (zO y) (sqb y hy (by grind)) M
  have SN:ex (-((y+k)*(y+k))) M<=V:=B.v _ (zO _) (sqb (y+k) (by grind) rk) M
  have fF:eF y M<=F:=by
   rw[hF];exact Rat.le_trans (YB (B.s y hy (by grind) M) v0) (Yy vV k0)
  have IX:eF (y+k) M<=F:=by
   rw[hF];exact Rat.le_trans (YB (B.s (y+k) (by grind) rk M) (zq M (by omega))) (Yy SN k0)
  rw[hn,<- sR] at a2;generalize eF (y+k) M=f' at *;generalize eF y M=f at *;generalize ex (-(y*y)) M=v at *;generalize gG h (y+k) n M=g' at *;generalize gG h y n M=g at *;generalize gE h y n M=u at *;generalize z1 M=z1 at *;generalize z2 M=z2 at *;generalize z3 M=z3 at *;clear G7 M6 fW q1 q2 q3 bF PF bV right p1 p2 p3 dn ev zq sqb;have kk:=Yz kq kq;have kv:=Yz kq v0;have S0:0<=f'+f:=by grind
  have b1:=YB (show k*v<=(f'-f)+C*(k*k)+z1 by grind) S0
  have b2:=Yy (show f'+f<=2*F by grind) (Yz c0 kk)
  have b3:=Yy (show 2*f+k*v-C*(k*k)-z1<=f'+f by grind) kv
  have kvkv:=Yz kv kv
  have b4:k*v*(C*(k*k))<=V*C*(k*k):=by
   have c1:k*v<=V:=by have:=YB k1 v0;grind
   have c2:=YB c1 (Yz c0 kk);grind
  have b5:=Yy a3 kv
  have b6:k*v*(y*h)<=k*(V*x*h):=by
   have c1:=YB vV (Yz hy h0);have c2:=Yy (YB (show y<=x by grind) h0) (show 0<=V by grind)
   have c3:=Yy (Rat.le_trans c1 c2) kq;grind
  show -(f'*f'+g'+2*(V*x*h)*(y+k)) <= -(f*f+g+2*(V*x*h)*y)+(C4+C5)*(k*k)+(z1*(f+f')+z1*v*k+z3*v*(2*k)+z2)
  have r1:((f'-f)+C*(k*k)+z1)*(f'+f)=f'*f'-f*f+C*(k*k)*(f'+f)+z1*(f+f'):=by grind
  have r2:k*v*(2*f+k*v-C*(k*k)-z1)=2*(k*v*f)+k*v*(k*v)-k*v*(C*(k*k))-k*v*z1:=by grind
  have r3:k*v*(f+y*h+z3)=k*v*f+k*v*(y*h)+k*v*z3:=by grind
  have r4:2*(y*k)*(v*u)=2*(k*v*(y*u)):=by grind
  have r5:(C4+C5)*(k*k)=C*(k*k)*(2*F)+V*C*(k*k)+C5*(k*k):=by rw[Cp];grind
  have r6:z1*v*k=k*v*z1:=by grind
  have r7:z3*v*(2*k)=2*(k*v*z3):=by grind
  have r8:2*(V*x*h)*(y+k)=2*(V*x*h)*y+2*(k*(V*x*h)):=by grind
  rw[r1] at b1;rw[r2] at b3;rw[r3] at b5;rw[r4,Rat.one_mul] at a2;rw[r5,r6,r7,r8];generalize f'*f'=w1 at *;generalize f*f=w2 at *;generalize C*(k*k)*(f'+f)=w3 at *;generalize z1*(f+f')=w4 at *;generalize k*v*(f'+f)=w5 at *;generalize k*v*f=w6 at *;generalize k*v*(k*v)=w7 at *;generalize k*v*(C*(k*k))=w8 at *;generalize k*v*z1=w9 at *;generalize k*v*(y*u)=gV at *;generalize k*v*(y*h)=w11 at *;generalize k*v*z3=w12 at *;generalize C*(k*k)*(2*F)=w13 at *;generalize V*C*(k*k)=w14 at *;generalize C5*(k*k)=w15 at *;generalize k*(V*x*h)=w16 at *;generalize 2*(V*x*h)*y=w17 at *;clear vV SN fF IX Cp hF sR dm r1 r2 r3 r4 r5 r6 r7 r8 AX A1 dp hn
  grind)
 intro e he
 obtain⟨N,k⟩:=d e he;refine⟨N+1,λ M hM=>?_⟩
 have a1 : -(eF x M*eF x M+gG h x n M+2*(V*x*h)*x) <= -(eF 0 M*eF 0 M+gG h 0 n M+2*(V*x*h)*0)+e:=k M (by omega)
 have a3:gG h 0 n M=S (λ i=>h*rI ((i:Rat)*h)) n:=kQ n λ i _=>by
  have e1 : -(0*0*(1+((i:Rat)*h)*((i:Rat)*h)))=(0:Rat):=by grind
  have e2:ex 0 M=1:=by
   obtain⟨m,rfl⟩:∃ m,M=m+1:=⟨M-1,by omega⟩
   exact kT m
  rw[e1,e2];grind
 rw[a3,zHZ] at a1
 show S (λ i=>h*rI ((i:Rat)*h)) n<=eF x M*eF x M+gG h x n M+2*(V*x*h)*x+e
 grind
theorem eF_pi2 {x:Rat} (hx:0<=x):LeN (λ M=>piS M*(1-ex (-(x*x)) M)) (λ M=>4*(eF x M*eF x M)):=by
 obtain⟨K,V,B⟩:=bnd_ex hx;have v1:=B.v1;have vx:=Yz (Yz (show 0<=V by grind) hx) hx
 refine LeN.lim (C:=64+4*(V*x*x)) (by grind) λ n=>?_
 have n0:(0:Rat)<2*((n:Rat)+1):=by have:=zAV n;grind
 obtain⟨h,h0,hh⟩:=zNA (2*((n:Rat)+1)) n0
 have hu:h=1/2*(1/((n:Rat)+1)):=by
  have n1:=zAV n;have um:1/((n:Rat)+1)*((n:Rat)+1)=1:=rdm n1
  have:h*(((n:Rat)+1)*(1/((n:Rat)+1)))=1/2*(1/((n:Rat)+1)):=by
   have e9:h*((n:Rat)+1)=1/2:=by grind
   have:h*(((n:Rat)+1)*(1/((n:Rat)+1)))=h*((n:Rat)+1)*(1/((n:Rat)+1)):=by grind
   rw[this,e9]
  rw[show ((n:Rat)+1)*(1/((n:Rat)+1))=1 by grind] at this
  grind
 have e:((2*(n+1):Nat):Rat)=2*((n:Rat)+1):=by push_cast;rfl
 obtain⟨z1,G7,k1⟩:=(eF_sum2 hx B h0 (2*(n+1)) (by rw[e];grind)).null
 obtain⟨z2,M6,k2⟩:=(zPN n hh).null;obtain⟨z3,fW,k3⟩:=(gG_le (x:=x) (YC h0) (2*(n+1))).null;obtain⟨N,pos⟩:=zA6 (-(x*x));obtain⟨z4,Rx,k4⟩:=(zBX (a := -(x*x)) (b:=0) (by have:=zO x;grind)).null
 have Ca:=jZ (-(x*x));have b1:Bdd (λ M=>1-ex (-(x*x)) M):=(Bdd.const 1).sub Ca
 have bP:Bdd piS:=Tk;obtain⟨g,hg⟩:∃ g,g=S (λ i=>h*rI ((i:Rat)*h)) (2*(n+1)):=⟨_,rfl⟩
 rw[<- hg] at k1 k2 k3;have q1:=(G7.bmul (Bdd.const 4)).add ((M6.bmul b1).add (fW.bmul (Bdd.const 4)));have bz:Bdd (λ M=>4*g+64*(1/((n:Rat)+1))+z2 M-piS M):=(((Bdd.const (4*g)).add (Bdd.const (64*(1/((n:Rat)+1))))).add M6.bdd).sub bP
 have q3:=Rx.bmul bz;refine LeN.of_null (q1.add q3) (N+1) λ M hM=>?_
 have a1:=k1 M;have a2:=k2 M;have a3:=k3 M;have a4:=k4 M;have w0:=pos M (by omega)
 have e0:ex 0 M=1:=by
  obtain⟨m,rfl⟩:∃ m,M=m+1:=⟨M-1,by omega⟩
  exact kT m
 rw[e0] at a4;have u0:(0:Rat)<1/((n:Rat)+1):=zF (by grind) (zAV n)
 generalize 1/((n:Rat)+1)=u at *;generalize ex (-(x*x)) M=w at *;generalize eF x M*eF x M=f at *;generalize gG h x (2*(n+1)) M=G at *;generalize piS M=p at *;generalize z1 M=y1 at *;generalize z2 M=y2 at *;generalize z3 M=y3 at *;generalize z4 M=y4 at *;clear q1 q3 bz b1 Ca bP G7 M6 fW Rx k1 k2 k3 k4 pos hg;have m1:=YB a2 (show 0<=1-w+y4 by grind)
 have aV:2*(V*x*h)*x=V*x*x*u:=by rw[hu];grind
 rw[aV] at a1;have m2:=Yz (Yz (show (0:Rat)<=64 by grind) (YC u0)) w0
 have r1:p*(1-w+y4)=p*(1-w)+y4*p:=by grind
 have r2:(4*g+64*u+y2)*(1-w+y4)=4*g-4*(w*g)+64*u-64*u*w+y2*(1-w)+y4*(4*g+64*u+y2):=by grind
 have r3:y4*(4*g+64*u+y2-p)=y4*(4*g+64*u+y2)-y4*p:=by grind
 have r4:(64+4*(V*x*x))*u=64*u+4*(V*x*x*u):=by grind
 rw[r1,r2] at m1
 show p*(1-w)<=4*f+(64+4*(V*x*x))*u+(y1*4+(y2*(1-w)+y3*4)+y4*(4*g+64*u+y2-p))
 rw[r3,r4];generalize p*(1-w)=t1 at *;generalize y4*p=t2 at *;generalize w*g=t3 at *;generalize y2*(1-w)=t4 at *;generalize y4*(4*g+64*u+y2)=t5 at *;generalize V*x*x*u=t6 at *;generalize 64*u*w=t7 at *;clear r1 r2 r3 r4 aV vx hu hh;grind
theorem erf_low {R:Nat->Rat} (h:yE piS R) {x:Rat} (hx:0<=x):LeN (λ M=>1-ex (-(x*x)) M) (zRF R x):=by
 refine LeN.trans ?_ (zD8 h x hx).symm.leN;obtain⟨z,hz,k⟩:=(eF_pi2 hx).null;obtain⟨N,pos⟩:=zA6 (-(x*x));have Ca:=jZ (-(x*x));have b1:Bdd (λ M=>1-ex (-(x*x)) M):=(Bdd.const 1).sub Ca
 have q:=(h.sq.bmul b1).add hz
 intro e he
 obtain⟨N2,k2⟩:=q e he;obtain⟨N3,epos⟩:=zA6 (-(x*x));refine⟨N+N2+N3,λ M hM=>?_⟩
 have a1:=k M;have a2:=(k2 M (by omega)).2
 have w0:=pos M (by omega)
 have r1:=h.one M;have f0:0<=eF x M:=Yz (jR hx M) (epos M (by omega))
 have p1:0<R M:=by grind
 have c:=rdm (a:=1) p1;have i0:=(zCM (a:=1) (by grind) r1).1
 refine Rat.not_lt.1 λ D5=>?_
 simp only[] at *;obtain⟨q,hq⟩:∃ q,q=eF x M*(2*(1/R M)):=⟨_,rfl⟩;have q0:0<=q:=by rw[hq];exact Yz f0 (by grind)
 have qR:q*R M=2*eF x M:=by
  have:q*R M=2*eF x M*(1/R M*R M):=by rw[hq];grind
  rw[this,c];grind
 rw[<- hq] at D5
 have f2:4*(eF x M*eF x M)=q*q*(R M*R M):=by
  have:q*q*(R M*R M)=(q*R M)*(q*R M):=by grind
  rw[this,qR];grind
 rw[f2] at a1;generalize ex (-(x*x)) M=w at *;generalize R M=r at *;generalize piS M=p at *;generalize z M=y at *;have w1:q<=1-w-e:=by grind
 have qq:q*q<=q:=by
  have:=Yy (show q<=1 by grind) q0
  grind
 have rr:1<=r*r:=by have:=Yy r1 (show 0<=r by grind);grind
 have m1:=Yy (show q*q<=q by grind) (show 0<=r*r by grind)
 have m2:=Rat.mul_lt_mul_of_pos_left D5 (show 0<r*r by grind)
 have m3:=YB rr (YC he);have t1:(r*r-p)*(1-w)=r*r*(1-w)-p*(1-w):=by grind
 have t2:q*q*(r*r)=r*r*(q*q):=by grind
 have t3:r*r*(q+e)=r*r*q+r*r*e:=by grind
 rw[t1] at a2;rw[t2] at a1;rw[t3] at m2;generalize r*r*(1-w)=g1 at *;generalize p*(1-w)=g2 at *;generalize r*r*(q*q)=g3 at *;generalize r*r*q=g4 at *;generalize r*r*e=g5 at *;clear hq qR f2 hz k Ca b1 qq rr t1 t2 t3 c i0;grind
end Go.Proofs.YtgmnknmjainabacGreat.Ex
namespace Go.Proofs.YtgmnknmjainabacGreat
open Go.RowKit
attribute [local go_sem ↓] Go.wp_at_zero Go.wp_at_succ
def BalAns (w:World) (k:Nat) (n d:Int) (r:Ending) (w':World):Prop :=
 ∃ (X Y:Nm) (n' d' c:Int),r=.returned (.tuple #[.agg X.q,.agg Y.q,.int .i64 c])/\Bal n d n' d' c /\ -(16*k+1)<=c/\c<=16*k+1/\IntAt w' X.neg X.a X.n X.cap (k+k+20) n'/\IntAt w' Y.neg Y.a Y.n Y.cap (k+k+20) d'/\Below w.heap.size w w'
theorem bal_near {n d:Int} {L L':Nat} (h1:Q L<=n) (h2:n<Q (L+1)) (h3:Q L'<=d) (h4:d<Q (L'+1)) (a b:Nat) (ij:L+a=L'+b):n*Q a<2*(d*Q b)/\d*Q b<2*(n*Q a):=by
 have qa:=zE a;have qb:=zE b;have e1:Q L*Q a=Q L'*Q b:=by rw[<- jF,<- jF,ij]
 have e2:Q (L+1)=2*Q L:=rfl;have e3:Q (L'+1)=2*Q L':=rfl;have g1:=YA h1 (show 0<=Q a by omega)
 have g2:=Int.mul_lt_mul_of_pos_right h2 (show 0<Q a by omega)
 have g3:=YA h3 (show 0<=Q b by omega)
 have g4:=Int.mul_lt_mul_of_pos_right h4 (show 0<Q b by omega)
 rw[e2,Int.mul_assoc] at g2;rw[e3,Int.mul_assoc] at g4;omega
theorem bal_a {n d n1 d1 c:Int} (hn:0<n1) (hd:0<d1) (h1:0<=c->n*d1=n1*d*Q c.toNat) (h2:c<0->n*d1*Q (-c).toNat=n1*d) (g1:n1<2*d1) (g2:d1<2*n1) (hc:d1*3<n1*2):Bal n d n1 (d1*2) (c+1):=by
 refine⟨⟨hn,by omega,by omega,by omega⟩,λ h=>?_,λ h=>?_⟩
 ·by_cases h0:0<=c
  ·have e:=h1 h0
   have:(c+1).toNat=c.toNat+1:=by omega
   rw[this];have e2:Q (c.toNat+1)=2*Q c.toNat:=rfl;rw[e2];have:n*(d1*2)=2*(n*d1):=by grind
   rw[this,e];grind
  ·have hc:c = -1:=by omega
   have e:=h2 (by omega)
   subst hc;have e3:Q (-(-1:Int)).toNat=2:=rfl;rw[e3] at e;have e4:Q ((-1:Int)+1).toNat=1:=rfl;rw[e4];have:n*(d1*2)=n*d1*2:=by grind
   rw[this,e];grind
 ·have e:=h2 (by omega)
  have:(-c).toNat=(-(c+1)).toNat+1:=by omega
  rw[this] at e;have e2:Q ((-(c+1)).toNat+1)=2*Q (-(c+1)).toNat:=rfl;rw[e2] at e;rw[<- e];grind
theorem bal_b {n d n1 d1 c:Int} (hn:0<n1) (hd:0<d1) (h1:0<=c->n*d1=n1*d*Q c.toNat) (h2:c<0->n*d1*Q (-c).toNat=n1*d) (g1:n1<2*d1) (g2:d1<2*n1) (hc:n1*4<d1*3):Bal n d (n1*2) d1 (c-1):=by
 refine⟨⟨by omega,hd,by omega,by omega⟩,λ h=>?_,λ h=>?_⟩
 ·have e:=h1 (by omega)
  have:c.toNat=(c-1).toNat+1:=by omega
  rw[this] at e;have e2:Q ((c-1).toNat+1)=2*Q (c-1).toNat:=rfl;rw[e2] at e;rw[e];grind
 ·by_cases h0:0<=c
  ·have hc:c=0:=by omega
   have e:=h1 h0;subst hc;have e3:Q ((0:Int)).toNat=1:=rfl;rw[e3] at e;have e4:Q (-((0:Int)-1)).toNat=2:=rfl;rw[e4,e];grind
  ·have e:=h2 (by omega)
   have:(-(c-1)).toNat=(-c).toNat+1:=by omega
   rw[this];have e2:Q ((-c).toNat+1)=2*Q (-c).toNat:=rfl;rw[e2];have:n*d1*(2*Q (-c).toNat)=2*(n*d1*Q (-c).toNat):=by grind
   rw[this,e];grind
theorem bal_c {n d n1 d1 c:Int} (hn:0<n1) (hd:0<d1) (h1:0<=c->n*d1=n1*d*Q c.toNat) (h2:c<0->n*d1*Q (-c).toNat=n1*d) (hc:¬ d1*3<n1*2) (E7:¬ n1*4<d1*3):Bal n d n1 d1 c :=
 ⟨⟨hn,hd,by omega,by omega⟩,h1,h2⟩
theorem zR3 {w:World} {neg:Bool} {a:Option Addr} {n cap k:Nat} {z:Int} {L:Nat} (h:IntAt w neg a n cap k z) (hL:Q L<=z) (hz:0<=z):L<16*k+1:=by
 obtain⟨d,h1,h2,h3,h4,h5⟩:=h;have hV:=zHP h1.dgs n;have hV0:=jC h1.dgs n;have hP:=zBL h4;have eP:=Q_P k
 have M6:z<Q (16*k):=by
  cases neg
  ·simp[sgn] at h5;omega
  ·simp[sgn] at h5;have:=zE (16*k);omega
 refine Nat.lt_of_not_le λ h=>?_
 have:=zJ (show 16*k<=L by omega)
 omega
theorem zGN (neg:Bool) (a:Option Addr) (n cap:Nat) (κ:Int) (A k1:Nat) (x:Int) (w:World) (hκ:κ=(A:Int)) (h1:IntAt w neg a n cap k1 x) (Z9:k1<=1000000000) (hk:A<=1000000000) :
  Calls Tryz.prog 116 #[.agg #[.bool neg,.slice a n cap],.int .i64 κ] w (zCY w (A/16+k1+1) (x*Q A)):=by
 subst hκ;exact zBU neg a n cap A k1 x w h1 Z9 hk
theorem zLE {w wc w2:World} {x y:Nm} {K:Nat} {z1 z2:Int} (hD:Below wc.heap.size wc w2) (hx:NmC w2 w.heap.size x) (hy:NmC w2 (w.heap.size+1) y) (X Y:Nm) (iX:IntAt w2 X.neg X.a X.n X.cap K z1) (iY:IntAt w2 Y.neg Y.a Y.n Y.cap K z2) (R:NoI wc (w.heap.size+1+1)) (R2:NoI wc (w.heap.size+1+1+1)) (hB:Below w.heap.size w wc) :
  ∃ X' Y':Nm,NmC ((((w2.setCell ⟨w.heap.size,0,none⟩ (.bool X.neg)).setCell ⟨w.heap.size,1,none⟩ (.slice X.a X.n X.cap)).setCell ⟨w.heap.size+1,0,none⟩ (.bool Y.neg)).setCell ⟨w.heap.size+1,1,none⟩ (.slice Y.a Y.n Y.cap)) w.heap.size X'/\NmC ((((w2.setCell ⟨w.heap.size,0,none⟩ (.bool X.neg)).setCell ⟨w.heap.size,1,none⟩ (.slice X.a X.n X.cap)).setCell ⟨w.heap.size+1,0,none⟩ (.bool Y.neg)).setCell ⟨w.heap.size+1,1,none⟩ (.slice Y.a Y.n Y.cap)) (w.heap.size+1) Y'/\IntAt ((((w2.setCell ⟨w.heap.size,0,none⟩ (.bool X.neg)).setCell ⟨w.heap.size,1,none⟩ (.slice X.a X.n X.cap)).setCell ⟨w.heap.size+1,0,none⟩ (.bool Y.neg)).setCell ⟨w.heap.size+1,1,none⟩ (.slice Y.a Y.n Y.cap)) X'.neg X'.a X'.n X'.cap K z1/\IntAt ((((w2.setCell ⟨w.heap.size,0,none⟩ (.bool X.neg)).setCell ⟨w.heap.size,1,none⟩ (.slice X.a X.n X.cap)).setCell ⟨w.heap.size+1,0,none⟩ (.bool Y.neg)).setCell ⟨w.heap.size+1,1,none⟩ (.slice Y.a Y.n Y.cap)) Y'.neg Y'.a Y'.n Y'.cap K z2/\NoI ((((w2.setCell ⟨w.heap.size,0,none⟩ (.bool X.neg)).setCell ⟨w.heap.size,1,none⟩ (.slice X.a X.n X.cap)).setCell ⟨w.heap.size+1,0,none⟩ (.bool Y.neg)).setCell ⟨w.heap.size+1,1,none⟩ (.slice Y.a Y.n Y.cap)) (w.heap.size+1+1)/\NoI ((((w2.setCell ⟨w.heap.size,0,none⟩ (.bool X.neg)).setCell ⟨w.heap.size,1,none⟩ (.slice X.a X.n X.cap)).setCell ⟨w.heap.size+1,0,none⟩ (.bool Y.neg)).setCell ⟨w.heap.size+1,1,none⟩ (.slice Y.a Y.n Y.cap)) (w.heap.size+1+1+1)/\Below w.heap.size w ((((w2.setCell ⟨w.heap.size,0,none⟩ (.bool X.neg)).setCell ⟨w.heap.size,1,none⟩ (.slice X.a X.n X.cap)).setCell ⟨w.heap.size+1,0,none⟩ (.bool Y.neg)).setCell ⟨w.heap.size+1,1,none⟩ (.slice Y.a Y.n Y.cap)):=by
 have fV:=hy.off (B':=w.heap.size) (by omega) (.bool X.neg) (.slice X.a X.n X.cap)
 have cW:=zDF hx X;have i1:=iX.put2 hx.c0 hx.c1 (.bool X.neg) (.slice X.a X.n X.cap);have i2:=iY.put2 hx.c0 hx.c1 (.bool X.neg) (.slice X.a X.n X.cap);have r1:=(R.bw hD).off (B':=w.heap.size) (by omega) (.bool X.neg) (.slice X.a X.n X.cap)
 have r2:=(R2.bw hD).off (B':=w.heap.size) (by omega) (.bool X.neg) (.slice X.a X.n X.cap)
 have b1:=zD2 (zB hB hD) (YE _) (.bool X.neg) (.slice X.a X.n X.cap);generalize (w2.setCell ⟨w.heap.size,0,none⟩ (.bool X.neg)).setCell ⟨w.heap.size,1,none⟩ (.slice X.a X.n X.cap)=V at *;exact⟨X,Y,cW.off (by omega) _ _,zDF fV Y,i1.put2 fV.c0 fV.c1 _ _,i2.put2 fV.c0 fV.c1 _ _,r1.off (by omega) _ _,r2.off (by omega) _ _,zD2 b1 (Nat.le_succ _) _ _⟩
theorem cmp_gtB (x y:Int):decide (0<zM x y)=decide (y<x):=by
 unfold zM
 by_cases h1:x<y
 ·have:¬ y<x:=by omega
  simp[h1,this]
 ·by_cases h2:y<x
  ·simp[h1,h2]
  ·simp[h1,h2]
theorem cmp_ltB (x y:Int):decide (zM x y<0)=decide (x<y):=by
 unfold zM
 by_cases h1:x<y
 ·simp[h1]
 ·by_cases h2:y<x
  ·simp[h1,h2]
  ·simp[h1,h2]
theorem zLD {w w1:World} {X Y:Nm} {K:Nat} {z1 z2:Int} (R:NoI w1 (w.heap.size+1+1)) (R2:NoI w1 (w.heap.size+1+1+1)) (iX:IntAt w1 X.neg X.a X.n X.cap K z1) (iY:IntAt w1 Y.neg Y.a Y.n Y.cap K z2) (hB:Below w.heap.size w w1) :
  IntAt ((((w1.setCell ⟨w.heap.size+1+1,0,none⟩ (.bool X.neg)).setCell ⟨w.heap.size+1+1,1,none⟩ (.slice X.a X.n X.cap)).setCell ⟨w.heap.size+1+1+1,0,none⟩ (.bool Y.neg)).setCell ⟨w.heap.size+1+1+1,1,none⟩ (.slice Y.a Y.n Y.cap)) X.neg X.a X.n X.cap K z1/\IntAt ((((w1.setCell ⟨w.heap.size+1+1,0,none⟩ (.bool X.neg)).setCell ⟨w.heap.size+1+1,1,none⟩ (.slice X.a X.n X.cap)).setCell ⟨w.heap.size+1+1+1,0,none⟩ (.bool Y.neg)).setCell ⟨w.heap.size+1+1+1,1,none⟩ (.slice Y.a Y.n Y.cap)) Y.neg Y.a Y.n Y.cap K z2/\Below w.heap.size w ((((w1.setCell ⟨w.heap.size+1+1,0,none⟩ (.bool X.neg)).setCell ⟨w.heap.size+1+1,1,none⟩ (.slice X.a X.n X.cap)).setCell ⟨w.heap.size+1+1+1,0,none⟩ (.bool Y.neg)).setCell ⟨w.heap.size+1+1+1,1,none⟩ (.slice Y.a Y.n Y.cap)):=by
 have r2:=R2.off (B':=w.heap.size+1+1) (by omega) (.bool X.neg) (.slice X.a X.n X.cap)
 have i1:=iX.put2 R.c0 R.c1 (.bool X.neg) (.slice X.a X.n X.cap);have i2:=iY.put2 R.c0 R.c1 (.bool X.neg) (.slice X.a X.n X.cap);have b1:=zD2 hB (show w.heap.size<=w.heap.size+1+1 by omega) (.bool X.neg) (.slice X.a X.n X.cap)
 generalize (w1.setCell ⟨w.heap.size+1+1,0,none⟩ (.bool X.neg)).setCell ⟨w.heap.size+1+1,1,none⟩ (.slice X.a X.n X.cap)=V at *;exact⟨i1.put2 r2.c0 r2.c1 _ _,i2.put2 r2.c0 r2.c1 _ _,zD2 b1 (by omega) _ _⟩
theorem zJF (w:World) (x y:Nm) (k:Nat) (n d:Int) (hx:IntAt w x.neg x.a x.n x.cap k n) (hy:IntAt w y.neg y.a y.n y.cap k d) (hn:0<n) (hd:0<d) (hk:k<=1000000) :
  Calls Tryz.prog 154 #[.agg x.q,.agg y.q] w (BalAns w k n d):=by
 obtain⟨W,hW⟩:∃ W,W=(((w.alloc (.cells x.q 29)).alloc (.cells y.q 29)).alloc (.cells #[.bool false,.slice none 0 0] 29)).alloc (.cells #[.bool false,.slice none 0 0] 29):=⟨_,rfl⟩;have j7:Below w.heap.size w W:=by rw[hW];exact bl4 _ _ _ _ _
 have X:NmC W w.heap.size x:=by rw[hW];constructor<;>simp[go_sem]
 have FX:∀ o,W.frozen? ⟨w.heap.size,o,none⟩=false:=by rw[hW];intro o;simp[go_sem]
 have Y:NmC W (w.heap.size+1) y:=by rw[hW];constructor<;>simp[go_sem]
 have FY:∀ o,W.frozen? ⟨w.heap.size+1,o,none⟩=false:=by rw[hW];intro o;simp[go_sem]
 have R:NoI W (w.heap.size+1+1):=by rw[hW];constructor<;>simp[go_sem]
 have R2:NoI W (w.heap.size+1+1+1):=by rw[hW];constructor<;>simp[go_sem]
 have HX:=zC (hx.bw j7);have HY:=zC (hy.bw j7);have lX:=X.lt;have lY:=Y.lt;have lR:=R.lt;have ae:=R2.lt;have HK:=zC (show ∀ w',Below W.heap.size W w'->(nK w' w.heap.size x (nK0 w' (w.heap.size+1) y)) from λ w' hB=>⟨(X.bw hB).c0,(X.bw hB).c1,(Y.bw hB).c0,(Y.bw hB).c1⟩)
 go_enter Tryz.func154,Tryz.ntmps154
 go_wp2;rw[<- hW];clear hW hx hy;obtain⟨x0,x1,x2,x3⟩:=zA HK _ (Below.refl _ _);have A9:Below W.heap.size W W.drew:=(Below.refl _ _).drew
 go_cut [7] (λ p wx=>∃ (L L':Nat) (D:Int),p=.int .i64 D/\D=(L:Int)-(L':Int)/\Q L<=n/\n<Q (L+1)/\Q L'<=d/\d<Q (L'+1)/\L<16*k+1/\L'<16*k+1/\Below W.heap.size W wx)
 case first =>
  go_region_held3 (λ w'=>nK w' w.heap.size x (nK0 w' (w.heap.size+1) y)) (first|exact zA HK _ (by with_reducible first|exact A9|exact s9|exact p9)|(dsimp only[cK,cK0,nK,nK0,rK,rK0];go_keep)|go_keep)
   (first
    | (go_at_call 98;have hq:=p9;refine (zD1 _ _ _ _ _ d _ ((zA HY).bw p9) (by omega)).mono ?_;rintro r' w2 ⟨l2,Dc,rfl,j8⟩;have s9:=zB p9 j8)
    | (go_at_call 98;refine (zD1 _ _ _ _ _ n _ ((zA HX).bw A9) (by omega)).mono ?_;rintro r' w1 ⟨l1,Db,rfl,b9⟩;have p9:=zB A9 b9))
  all_goals
   obtain⟨L,e1,e2,e3⟩:=Db.2.2 hn;obtain⟨L',f1,f2,f3⟩:=Dc.2.2 hd;have hL:=zR3 (zA HX) e2 (by omega)
   have Jk:=zR3 (zA HY) f2 (by omega)
   have HE:=zC e1;have HF:=zC f1;clear e1 f1;go_wp2_with fail;go_meet;exact⟨L,L',_,rfl,(by rw[jB _ (by have:=zA HE;have:=zA HF;omega) (by have:=zA HE;have:=zA HF;omega)];have:=zA HE;have:=zA HF;omega),e2,e3,f2,f3,hL,Jk,s9⟩
 case rest =>
 obtain⟨L,L',D,rfl,hD,e2,e3,f2,f3,hL,Jk,E8⟩:=hcut;have M3:=bal_near e2 e3 f2 f3;have AY:=zC M3;clear M3 e2 e3 f2 f3 x0 x1 x2 x3 A9;replace X:=X.bw E8;replace Y:=Y.bw E8;replace R:=R.bw E8;replace R2:=R2.bw E8;have GI:∀ o,wc.frozen? ⟨w.heap.size,o,none⟩=false:=λ o=>(E8.frozen (p:=⟨w.heap.size,o,none⟩) lX).trans (FX o)
 have GJ:∀ o,wc.frozen? ⟨w.heap.size+1,o,none⟩=false:=λ o=>(E8.frozen (p:=⟨w.heap.size+1,o,none⟩) lY).trans (FY o)
 replace HX:=zC ((zA HX).bw E8);replace HY:=zC ((zA HY).bw E8);replace j7:=zB j7 E8;clear HK lX lY lR ae FX FY E8;have lX:=X.lt;have lY:=Y.lt;have lR:=R.lt;have ae:=R2.lt;obtain⟨A,hA⟩:∃ A:Nat,(A:Int)=max 0 (-D):=⟨(max 0 (-D)).toNat,by omega⟩
 obtain⟨C,hC⟩:∃ C:Nat,(C:Int)=max 0 D:=⟨(max 0 D).toNat,by omega⟩
 have hwD:IntKind.i64.wrap (-D) = -D:=jB _ (by omega) (by omega)
 have Qm:D<=16*k /\ -(16*k)<=D:=by omega
 have M3:=zA AY A C (by omega)
 have HA:=zC hA;have HC:=zC hC;have HD:=zC hD;have HW:=zC hwD;have OM:=zC Qm;have hAk:A<=16*k:=by omega
 have hCk:C<=16*k:=by omega
 have OK:=zC M3;clear hA hC hD hwD Qm AY hL Jk M3;go_wp2_with fail
 go_cut [7] (λ p wx=>p=.int .i64 D/\∃ X Y:Nm,NmC wx w.heap.size X/\NmC wx (w.heap.size+1) Y/\IntAt wx X.neg X.a X.n X.cap (k+k+10) (n*Q A)/\IntAt wx Y.neg Y.a Y.n Y.cap (k+k+10) (d*Q C)/\NoI wx (w.heap.size+1+1)/\NoI wx (w.heap.size+1+1+1)/\Below w.heap.size w wx)
 case first =>
  have cq:=zC X;have cr:=zC Y;obtain⟨x0,x1⟩:=X;obtain⟨y0,y1⟩:=Y;have Ig:=zC (show (if 0<IntKind.i64.wrap (-D) then IntKind.i64.wrap (-D) else 0)=(A:Int) by rw[zA HW];have:=zA HA;split<;>omega)
  have Ih:=zC (show (if 0<D then D else 0)=(C:Int) by have:=zA HC;split<;>omega)
  by_cases d1:0<D
  ·have d2:IntKind.i64.wrap (-D)<=0:=by rw[zA HW];omega
   have iH:=zC (show (0:Int)=(A:Int) by have:=zA HA;omega)
   have iI:=zC (show D=(C:Int) by have:=zA HC;omega)
   go_region_with
    (first
     | (go_at_call 116;have hq:=p9;(with_reducible refine (zGN _ _ _ _ _ C k d _ (by with_reducible first|exact zA iI|exact zA Ih) ((zA HY).bw p9) (by omega) (by omega)).mono ?_);rintro r' w2 ⟨j6,a2,n2,c2,rfl,A5,j8⟩;have s9:=zB p9 j8;have RF:=YH lX s9.size;have RG:=YH lY s9.size;replace o8:=o8.bw j8;obtain⟨x4,x5⟩:=(zA cq).bw s9;obtain⟨y4,y5⟩:=(zA cr).bw s9;have F2:∀ o,w2.frozen? ⟨w.heap.size,o,none⟩=false:=(λ o=>(s9.frozen (p:=⟨w.heap.size,o,none⟩) lX).trans (GI o));have G2:∀ o,w2.frozen? ⟨w.heap.size+1,o,none⟩=false:=(λ o=>(s9.frozen (p:=⟨w.heap.size+1,o,none⟩) lY).trans (GJ o)))
     | (go_at_call 116;(with_reducible refine (zGN _ _ _ _ _ A k n _ (by with_reducible first|exact zA iH|exact zA Ig) ((zA HX).bw (Below.refl _ _).drew) (by omega) (by omega)).mono ?_);rintro r' w1 ⟨m7,a1,n1,c1,rfl,o8,b9⟩;have p9:Below wc.heap.size wc w1:=zB (Below.refl _ _).drew b9;obtain⟨y2,y3⟩:=(zA cr).bw p9;obtain⟨x2,x3⟩:=(zA cq).bw p9;have RD:=YH lX p9.size;have RE:=YH lY p9.size))
   all_goals
    go_wp2_with fail;go_meet;exact⟨rfl,zLE s9 (NmC.mk x4 x5) (NmC.mk y4 y5) ⟨m7,a1,n1,c1⟩ ⟨j6,a2,n2,c2⟩ (o8.mono (by omega)) (A5.mono (by omega)) R R2 j7⟩
  ·by_cases d3:D<0
   ·have d2:0<IntKind.i64.wrap (-D):=by rw[zA HW];omega
    have d4:D<=0:=by omega
    have iH:=zC (show IntKind.i64.wrap (-D)=(A:Int) by rw[zA HW];have:=zA HA;omega)
    have iI:=zC (show (0:Int)=(C:Int) by have:=zA HC;omega)
    go_region_with
     (first
      | (go_at_call 116;have hq:=p9;(with_reducible refine (zGN _ _ _ _ _ C k d _ (by with_reducible first|exact zA iI|exact zA Ih) ((zA HY).bw p9) (by omega) (by omega)).mono ?_);rintro r' w2 ⟨j6,a2,n2,c2,rfl,A5,j8⟩;have s9:=zB p9 j8;have RF:=YH lX s9.size;have RG:=YH lY s9.size;replace o8:=o8.bw j8;obtain⟨x4,x5⟩:=(zA cq).bw s9;obtain⟨y4,y5⟩:=(zA cr).bw s9;have F2:∀ o,w2.frozen? ⟨w.heap.size,o,none⟩=false:=(λ o=>(s9.frozen (p:=⟨w.heap.size,o,none⟩) lX).trans (GI o));have G2:∀ o,w2.frozen? ⟨w.heap.size+1,o,none⟩=false:=(λ o=>(s9.frozen (p:=⟨w.heap.size+1,o,none⟩) lY).trans (GJ o)))
      | (go_at_call 116;(with_reducible refine (zGN _ _ _ _ _ A k n _ (by with_reducible first|exact zA iH|exact zA Ig) ((zA HX).bw (Below.refl _ _).drew) (by omega) (by omega)).mono ?_);rintro r' w1 ⟨m7,a1,n1,c1,rfl,o8,b9⟩;have p9:Below wc.heap.size wc w1:=zB (Below.refl _ _).drew b9;obtain⟨y2,y3⟩:=(zA cr).bw p9;obtain⟨x2,x3⟩:=(zA cq).bw p9;have RD:=YH lX p9.size;have RE:=YH lY p9.size))
    all_goals
     go_wp2_with fail;go_meet;exact⟨rfl,zLE s9 (NmC.mk x4 x5) (NmC.mk y4 y5) ⟨m7,a1,n1,c1⟩ ⟨j6,a2,n2,c2⟩ (o8.mono (by omega)) (A5.mono (by omega)) R R2 j7⟩
   ·have d2:IntKind.i64.wrap (-D)<=0:=by rw[zA HW];omega
    have d4:D<=0:=by omega
    have iH:=zC (show (0:Int)=(A:Int) by have:=zA HA;omega)
    have iI:=zC (show (0:Int)=(C:Int) by have:=zA HC;omega)
    go_region_with
     (first
      | (go_at_call 116;have hq:=p9;(with_reducible refine (zGN _ _ _ _ _ C k d _ (by with_reducible first|exact zA iI|exact zA Ih) ((zA HY).bw p9) (by omega) (by omega)).mono ?_);rintro r' w2 ⟨j6,a2,n2,c2,rfl,A5,j8⟩;have s9:=zB p9 j8;have RF:=YH lX s9.size;have RG:=YH lY s9.size;replace o8:=o8.bw j8;obtain⟨x4,x5⟩:=(zA cq).bw s9;obtain⟨y4,y5⟩:=(zA cr).bw s9;have F2:∀ o,w2.frozen? ⟨w.heap.size,o,none⟩=false:=(λ o=>(s9.frozen (p:=⟨w.heap.size,o,none⟩) lX).trans (GI o));have G2:∀ o,w2.frozen? ⟨w.heap.size+1,o,none⟩=false:=(λ o=>(s9.frozen (p:=⟨w.heap.size+1,o,none⟩) lY).trans (GJ o)))
      | (go_at_call 116;(with_reducible refine (zGN _ _ _ _ _ A k n _ (by with_reducible first|exact zA iH|exact zA Ig) ((zA HX).bw (Below.refl _ _).drew) (by omega) (by omega)).mono ?_);rintro r' w1 ⟨m7,a1,n1,c1,rfl,o8,b9⟩;have p9:Below wc.heap.size wc w1:=zB (Below.refl _ _).drew b9;obtain⟨y2,y3⟩:=(zA cr).bw p9;obtain⟨x2,x3⟩:=(zA cq).bw p9;have RD:=YH lX p9.size;have RE:=YH lY p9.size))
    all_goals
     go_wp2_with fail;go_meet;exact⟨rfl,zLE s9 (NmC.mk x4 x5) (NmC.mk y4 y5) ⟨m7,a1,n1,c1⟩ ⟨j6,a2,n2,c2⟩ (o8.mono (by omega)) (A5.mono (by omega)) R R2 j7⟩
 case rest =>
 obtain⟨rfl,X,Y,hX,hY,iX,iY,R,R2,j7⟩:=hcut;have Yc:=zE A;have Yd:=zE C;have hnA:0<n*Q A:=Int.mul_pos hn (by omega)
 have hdC:0<d*Q C:=Int.mul_pos hd (by omega)
 obtain⟨N1,T4⟩:∃ N1,N1=n*Q A:=⟨_,rfl⟩;obtain⟨D1,p9⟩:∃ D1,D1=d*Q C:=⟨_,rfl⟩
 have oI:0<=D->n*D1=N1*d*Q D.toNat:=λ h=>by
  have e1:A=0:=by have:=zA HA;omega
  have e2:D.toNat=C:=by have:=zA HC;omega
  rw[T4,p9,e1,e2];simp only[Q];grind
 have K5:D<0->n*D1*Q (-D).toNat=N1*d:=λ h=>by
  have e1:C=0:=by have:=zA HC;omega
  have e2:(-D).toNat=A:=by have:=zA HA;omega
  rw[T4,p9,e1,e2];simp only[Q];grind
 have Hd:=zC oI;have He:=zC K5;have Tx:=zA OM;have EI:Hid (N1<2*D1/\D1<2*N1):=zC (by rw[T4,p9];exact zA OK)
 rw[<- T4] at iX hnA;rw[<- p9] at iY hdC;clear oI K5 HA HC HD HW OM Yc Yd T4 p9 OK;have nP:=zC iX;have nQ:=zC iY;have cq:=zC hX;have cr:=zC hY;have lX:=hX.lt;have lY:=hY.lt;have lR:=R.lt;have ae:=R2.lt;have HK:=zC (show ∀ w',Below wc.heap.size wc w'->(nK w' w.heap.size X (nK0 w' (w.heap.size+1) Y)) from λ w' hB=>⟨(hX.bw hB).c0,(hX.bw hB).c1,(hY.bw hB).c0,(hY.bw hB).c1⟩)
 clear iX iY hX hY;obtain⟨x0,x1,y0,y1⟩:=zA HK _ (Below.refl _ _);have A9:Below wc.heap.size wc wc.drew:=(Below.refl _ _).drew;go_wp2_with fail
 go_cut [22] (λ p wx=>p=.bool (decide (D1*3<N1*2))/\Below wc.heap.size wc wx)
 case first =>
  go_region_held3 (λ w'=>nK w' w.heap.size X (nK0 w' (w.heap.size+1) Y)) (first|exact zA HK _ (by with_reducible first|exact A9|exact I5|exact E9|exact s9|exact p9)|(dsimp only[cK,cK0,nK,nK0,rK,rK0];go_keep)|go_keep)
   (first
    | (go_at_call 17;have hq:=E9;refine (jO _ _ _ _ _ _ _ _ _ _ (N1*2) (D1*3) _ ((o8.bw j8).bw m9) E5).mono ?_;rintro r' w4 ⟨rfl,y9⟩;have I5:=zB E9 y9)
    | (go_at_call 83;have hq:=s9;refine (zT _ _ _ _ _ _ _ _ (k+k+10) 4 D1 3 _ ((zA nQ).bw s9) A5 (by omega) (by omega)).mono ?_;rintro r' w3 ⟨A7,a3,n3,c3,rfl,E5,m9⟩;have E9:=zB s9 m9)
    | (go_at_call 33;have hq:=p9;refine (zD 3 _ (by decide) (by decide)).mono ?_;rintro r' w2 ⟨j6,a2,n2,c2,rfl,A5,j8⟩;have s9:=zB p9 j8)
    | (go_at_call 116;refine (zGN _ _ _ _ _ 1 (k+k+10) N1 _ rfl ((zA nP).bw A9) (by omega) (by omega)).mono ?_;rintro r' w1 ⟨m7,a1,n1,c1,rfl,o8,b9⟩;have p9:=zB A9 b9))
  all_goals
   go_wp2_with fail;go_meet;exact⟨congrArg _ (cmp_gtB _ _),I5⟩
 case rest =>
 obtain⟨rfl,b9⟩:=hcut;have cq:=zC ((zA cq).bw b9);have cr:=zC ((zA cr).bw b9);have nP:=zC ((zA nP).bw b9);have nQ:=zC ((zA nQ).bw b9);replace R:=R.bw b9;replace R2:=R2.bw b9;replace j7:=zB j7 b9;have lX:=(zA cq).lt;have lY:=(zA cr).lt;have lR:=R.lt;have ae:=R2.lt;have HK:=zC (show ∀ w',Below wc.heap.size wc w'->(nK w' w.heap.size X (nK0 w' (w.heap.size+1) Y)) from λ w' hB=>⟨((zA cq).bw hB).c0,((zA cq).bw hB).c1,((zA cr).bw hB).c0,((zA cr).bw hB).c1⟩)
 clear x0 x1 y0 y1 A9;obtain⟨x0,x1,y0,y1⟩:=zA HK _ (Below.refl _ _);have A9:Below wc.heap.size wc wc.drew:=(Below.refl _ _).drew;have n1:w.heap.size≠w.heap.size+1+1:=by omega
 have n2:w.heap.size≠w.heap.size+1+1+1:=by omega
 have n3:w.heap.size+1≠w.heap.size+1+1:=by omega
 have n4:w.heap.size+1≠w.heap.size+1+1+1:=by omega
 have n5:w.heap.size+1+1≠w.heap.size+1+1+1:=by omega
 have n6:w.heap.size+1+1+1≠w.heap.size+1+1:=by omega
 have n7:w.heap.size+1+1≠w.heap.size:=by omega
 have n8:w.heap.size+1+1+1≠w.heap.size:=by omega
 have n9:w.heap.size+1+1≠w.heap.size+1:=by omega
 have Lj:w.heap.size+1+1+1≠w.heap.size+1:=by omega
 by_cases hc:D1*3<N1*2
 ·have HR:Hid (Bal n d N1 (D1*2) (D+1)):=zC (by
   exact bal_a hnA hdC (zA Hd) (zA He) (zA EI).1 (zA EI).2 hc)
  have mX:=zC (show IntKind.i64.wrap (D+1)=D+1 from jB _ (by omega) (by omega))
  have Hc:=zC hc;go_wp2_with fail
  go_region_held3 (λ w'=>nK w' w.heap.size X (nK0 w' (w.heap.size+1) Y)) (first|exact zA HK _ (by with_reducible first|exact A9|exact p9)|(dsimp only[cK,cK0,nK,nK0,rK,rK0];go_keep)|go_keep)
   (first
    | (go_at_call 116;refine (zGN _ _ _ _ _ 1 (k+k+10) D1 _ rfl ((zA nQ).bw A9) (by omega) (by omega)).mono ?_;rintro r' w1 ⟨m7,a1,gR,c1,rfl,o8,b9⟩;have p9:=zB A9 b9;obtain⟨q0,q1,q2⟩:=R.bw p9;obtain⟨p0,p1,p2⟩:=R2.bw p9;obtain⟨z0,z1,z2,z3⟩:=zA HK _ p9))
  all_goals
   have HE:=zLD (w:=w) (K:=k+k+20) (R.bw p9) (R2.bw p9) (X:=X) (Y:=⟨m7,a1,gR,c1⟩) (((zA nP).bw p9).mono (by omega)) (o8.mono (by omega)) (zB j7 p9)
   go_wp2_with fail;refine bodyPost_ret (v:=.tuple #[.agg X.q,.agg #[.bool m7,.slice a1 gR c1],.int .i64 (IntKind.i64.wrap (D+1))]) (by simp[results,Tryz.results154,go_sem,q0,q1,p0,p1,n5,n6]) rfl ⟨X,⟨m7,a1,gR,c1⟩,N1,(D1*2),_,rfl,by rw[zA mX];exact zA HR,by rw[zA mX];omega,by rw[zA mX];omega,HE.1,HE.2.1,HE.2.2⟩
 ·have Hc:=zC hc
  go_wp2_with fail
  go_cut [35] (λ p wx=>p=.bool (decide (N1*4<D1*3))/\Below wc.heap.size wc wx)
  case first =>
   go_region_held3 (λ w'=>nK w' w.heap.size X (nK0 w' (w.heap.size+1) Y)) (first|exact zA HK _ (by with_reducible first|exact A9|exact I5|exact E9|exact s9|exact p9)|(dsimp only[cK,cK0,nK,nK0,rK,rK0];go_keep)|go_keep)
    (first
     | (go_at_call 17;have hq:=E9;refine (jO _ _ _ _ _ _ _ _ _ _ (N1*4) (D1*3) _ ((o8.bw j8).bw m9) E5).mono ?_;rintro r' w4 ⟨rfl,y9⟩;have I5:=zB E9 y9)
     | (go_at_call 83;have hq:=s9;refine (zT _ _ _ _ _ _ _ _ (k+k+10) 4 D1 3 _ ((zA nQ).bw s9) A5 (by omega) (by omega)).mono ?_;rintro r' w3 ⟨A7,a3,n3,c3,rfl,E5,m9⟩;have E9:=zB s9 m9)
     | (go_at_call 33;have hq:=p9;refine (zD 3 _ (by decide) (by decide)).mono ?_;rintro r' w2 ⟨j6,a2,n2,c2,rfl,A5,j8⟩;have s9:=zB p9 j8)
     | (go_at_call 116;refine (zGN _ _ _ _ _ 2 (k+k+10) N1 _ rfl ((zA nP).bw A9) (by omega) (by omega)).mono ?_;rintro r' w1 ⟨m7,a1,n1,c1,rfl,o8,b9⟩;have p9:=zB A9 b9))
   all_goals
    go_wp2_with fail;go_meet;exact⟨congrArg _ (cmp_ltB _ _),I5⟩
  case rest =>
  obtain⟨rfl,b9⟩:=hcut;have cq:=zC ((zA cq).bw b9);have cr:=zC ((zA cr).bw b9);have nP:=zC ((zA nP).bw b9);have nQ:=zC ((zA nQ).bw b9);replace R:=R.bw b9;replace R2:=R2.bw b9;replace j7:=zB j7 b9;have lX:=(zA cq).lt;have lY:=(zA cr).lt;have lR:=R.lt;have ae:=R2.lt;have HK:=zC (show ∀ w',Below wc.heap.size wc w'->(nK w' w.heap.size X (nK0 w' (w.heap.size+1) Y)) from λ w' hB=>⟨((zA cq).bw hB).c0,((zA cq).bw hB).c1,((zA cr).bw hB).c0,((zA cr).bw hB).c1⟩)
  clear x0 x1 y0 y1 A9;obtain⟨x0,x1,y0,y1⟩:=zA HK _ (Below.refl _ _);have A9:Below wc.heap.size wc wc.drew:=(Below.refl _ _).drew
  by_cases E7:N1*4<D1*3
  ·have HR:Hid (Bal n d (N1*2) D1 (D-1)):=zC (by
     exact bal_b hnA hdC (zA Hd) (zA He) (zA EI).1 (zA EI).2 E7)
   have mX:=zC (show IntKind.i64.wrap (D-1)=D-1 from jB _ (by omega) (by omega))
   have VF:=zC E7;go_wp2_with fail
   go_region_held3 (λ w'=>nK w' w.heap.size X (nK0 w' (w.heap.size+1) Y)) (first|exact zA HK _ (by with_reducible first|exact A9|exact p9)|(dsimp only[cK,cK0,nK,nK0,rK,rK0];go_keep)|go_keep)
    (first
     | (go_at_call 116;refine (zGN _ _ _ _ _ 1 (k+k+10) N1 _ rfl ((zA nP).bw A9) (by omega) (by omega)).mono ?_;rintro r' w1 ⟨m7,a1,gR,c1,rfl,o8,b9⟩;have p9:=zB A9 b9;obtain⟨q0,q1,q2⟩:=R.bw p9;obtain⟨p0,p1,p2⟩:=R2.bw p9;obtain⟨z0,z1,z2,z3⟩:=zA HK _ p9))
   all_goals
    have HE:=zLD (w:=w) (K:=k+k+20) (R.bw p9) (R2.bw p9) (X:=⟨m7,a1,gR,c1⟩) (Y:=Y) (o8.mono (by omega)) (((zA nQ).bw p9).mono (by omega)) (zB j7 p9)
    go_wp2_with fail;refine bodyPost_ret (v:=.tuple #[.agg #[.bool m7,.slice a1 gR c1],.agg Y.q,.int .i64 (IntKind.i64.wrap (D-1))]) (by simp[results,Tryz.results154,go_sem,q0,q1,p0,p1,n5,n6]) rfl ⟨⟨m7,a1,gR,c1⟩,Y,(N1*2),D1,_,rfl,by rw[zA mX];exact zA HR,by rw[zA mX];omega,by rw[zA mX];omega,HE.1,HE.2.1,HE.2.2⟩
  ·have HR:Hid (Bal n d N1 D1 D):=zC (by
     exact bal_c hnA hdC (zA Hd) (zA He) (by have:=zA Hc;omega) E7)
   have VF:=zC E7;go_wp2_with fail;have Vd:=R;have Ve:=R2;obtain⟨q0,q1,q2⟩:=R;obtain⟨p0,p1,p2⟩:=R2
   go_region
   all_goals
    have HE:=zLD (w:=w) (K:=k+k+20) (Vd.bw (Below.refl _ _).drew) (Ve.bw (Below.refl _ _).drew) (X:=X) (Y:=Y) (((zA nP).bw (Below.refl _ _).drew).mono (by omega)) (((zA nQ).bw (Below.refl _ _).drew).mono (by omega)) (zB j7 (Below.refl _ _).drew)
    go_wp2_with fail;refine bodyPost_ret (v:=.tuple #[.agg X.q,.agg Y.q,.int .i64 (D)]) (by simp[results,Tryz.results154,go_sem,q0,q1,p0,p1,n5,n6]) rfl ⟨X,Y,N1,D1,_,rfl,by exact zA HR,by omega,by omega,HE.1,HE.2.1,HE.2.2⟩
theorem zA9 (w:World) (s:Sp) (x y:Nm) (k k1 k2 b:Nat) (a:Int × Int) (n d:Int) (hs:SpAt w s k a.1 a.2) (h1:IntAt w x.neg x.a x.n x.cap k1 n) (h2:IntAt w y.neg y.a y.n y.cap k2 d) (hk:k<=300000000) (Z9:k1<=300000000) (hd:0<d) (hb:s.bits=(b:Int)) :
  Calls Tryz.prog 151 #[.agg s.q,.agg x.q,.agg y.q] w (zH w b (k+k1+10) (zK a n d).1 (zK a n d).2) :=
 (zKJ w s _ _ _ _ _ _ _ _ k k1 k2 a.1 a.2 n d hs h1 h2 hk Z9 hd).mono λ r w' h=>by rw[hb] at h;exact h
theorem ln1_iv (w:World) (B0:Nat) (s u:Sp) (k b:Nat) (n:Int) (a c:Int × Int) (hs:SpAt w s k a.1 a.2) (hu:SpAt w u k c.1 c.2) (hU:SpC w B0 u) (hk:k<=100000000) (hb:s.bits=(b:Int)) (pR:b<=1000000) (hn:1<=n) (aR:n<=1000000000000) :
  Calls Tryz.prog 175 #[.agg s.q,.int .i64 n,.pointer (some ⟨B0,0,none⟩)] w (zH w b (k+k+8+4+10) (zK (zAH b a c) (2*n-1) (2*n+1)).1 (zK (zAH b a c) (2*n-1) (2*n+1)).2):=by
 obtain⟨W,hW⟩:∃ W,W=(w.alloc (.cells s.q 31)).alloc (.cells zCq 31):=⟨_,rfl⟩;have j7:Below w.heap.size w W:=by rw[hW];exact bl2 _ _ _
 have R:NoC W (w.heap.size+1):=by rw[hW];constructor<;>simp[go_sem]
 have HS:=zC (hs.bw j7);have HU:=zC (hu.bw j7);have l0:=hU.lt;obtain⟨y0,y1,y2,y3,y4⟩:=hU;have HB:=zC hb;clear hs hu hb
 go_enter Tryz.func175,Tryz.ntmps175
 go_wp2_with fail;rw[<- hW];clear hW;refine (zJ1 _ s u k b a c (zA HS) (zA HU) (by omega) (zA HB) pR).mono ?_
 rintro r' w1 ⟨v,rfl,K3,J7,b9⟩;have HV:=zC K3;clear K3 y0 y1 y2 y3 y4;replace R:=R.bw b9;replace j7:=zB j7 b9;go_wp2_with fail;refine (zD (2*n-1) _ (by omega) (by omega)).mono ?_
 rintro r' w2 ⟨j6,a2,n2,c2,rfl,A5,j8⟩;replace R:=R.bw j8;replace j7:=zB j7 j8;replace J7:=J7.bw j8;go_wp2_with fail;refine (zD (2*n+1) _ (by omega) (by omega)).mono ?_
 rintro r' w3 ⟨A7,a3,n3,c3,rfl,E5,m9⟩;replace R:=R.bw m9;replace j7:=zB j7 m9;replace J7:=J7.bw m9;replace A5:=A5.bw m9;go_wp2_with fail;refine (zA9 _ v ⟨j6,a2,n2,c2⟩ ⟨A7,a3,n3,c3⟩ _ _ _ b _ (2*n-1) (2*n+1) J7 A5 E5 (by omega) (by omega) (by omega) (zA HV)).mono ?_
 rintro r' w4 ⟨t,rfl,I8,P1,y9⟩;obtain⟨q0,q1,q2,q3,q4,q5⟩:=R.bw y9;replace j7:=zB j7 y9;have HT:=zC I8;clear I8;go_wp2_with fail;refine bodyPost_ret (v:=.agg t.q) (by simp[results,Tryz.results175,go_sem,q0,q1,q2,q3,q4]) rfl ⟨t,rfl,zA HT,?_,?_⟩
 ·exact SpAt.put5 (P1.mono (by omega)) q0 q1 q2 q3 q4 _ _ _ _ _
 ·exact jY j7 (Nat.le_succ _) _ _ _ _ _
theorem en_ln (args:Array Value) (w:World):(callFunc 175 args).run Tryz.prog w=.ok (.enter 175 args) w:=by simp[go_sem,callFunc,Tryz.func175];kernel_rfl
theorem zG9 (w:World) (x y:Nm) (k b N K:Nat) (n d:Int) (hx:IntAt w x.neg x.a x.n x.cap k n) (hy:IntAt w y.neg y.a y.n y.cap k d) (hk:k<=10000000) (h1:yQ n d) (O6:16<=b) (hb:b<=1000000) (hN:zU (lnT n d b) N) (hK:Q (b+4)<P K) (nj:K<=10000000) :
  Calls Tryz.prog 155 #[.agg x.q,.agg y.q,.int .i64 b] w (zH w b (K+7) (kH (zN (lnT n d b) N) 2).1 (kH (zN (lnT n d b) N) 2).2):=by
 obtain⟨W,hW⟩:∃ W,W=((w.alloc (.cells x.q 29)).alloc (.cells y.q 29)).alloc (.cells zCq 31):=⟨_,rfl⟩;have j7:Below w.heap.size w W:=by rw[hW];exact bl3 _ _ _ _
 have X:NmC W w.heap.size x:=by rw[hW];constructor<;>simp[go_sem]
 have Y:NmC W (w.heap.size+1) y:=by rw[hW];constructor<;>simp[go_sem]
 have R:NoC W (w.heap.size+1+1):=by rw[hW];constructor<;>simp[go_sem]
 have HX:=zC (hx.bw j7);have HY:=zC (hy.bw j7);have lX:=X.lt;have lY:=Y.lt;have lR:=R.lt;have fQ:0<n+d:=by have:=h1.hn;have:=h1.hd;omega
 have Qz:=zE b
 have gB:Q b*16<P K:=by
  have e:Q (b+4)=2*(2*(2*(2*Q b))):=rfl;omega
 have KW:=zMJ h1 O6;have hfitz : -P K<(zI n d b).1/\(zI n d b).2<P K:=by have:=KW.1;have:=KW.2.2.2;omega
 have Kv:=zL7 h1 O6
 have hfitq : -P K<(zAH b (zI n d b) (zI n d b)).1/\(zAH b (zI n d b) (zI n d b)).2<P K:=by
  have:=Kv.1;have:=Kv.2.2.2;have:=zJ (show b-3<=b by omega);omega
 have Bf:=zC hfitz;have OS:=zC hfitq;have Ii:=zC (yA (n:=n-d) fQ b);have H1:=zC h1;have HN:=zC hN;have HK:=zC (show ∀ w',Below W.heap.size W w'->(nK w' w.heap.size x (nK0 w' (w.heap.size+1) y)) from λ w' hB=>⟨(X.bw hB).c0,(X.bw hB).c1,(Y.bw hB).c0,(Y.bw hB).c1⟩)
 clear hx hy KW hfitz Kv hfitq h1 hN
 go_enter Tryz.func155,Tryz.ntmps155
 go_wp2;rw[<- hW];clear hW;obtain⟨x0,x1,x2,x3⟩:=zA HK _ (Below.refl _ _)
 go_cut [7] (λ p wx=>∃ (B:Nat) (u:Sp),p=.pointer (some ⟨B,0,none⟩)/\W.heap.size<=B/\VrC wx B u/\SpAt wx u K (zI n d b).1 (zI n d b).2/\u.bits=(b:Int)/\Below W.heap.size W wx)
 case first =>
  go_region_held3 (λ w'=>nK w' w.heap.size x (nK0 w' (w.heap.size+1) y)) (exact zA HK _ (by repeat' (first|with_reducible exact bl|with_reducible exact K9|with_reducible exact G1|with_reducible exact Below.refl _ _|with_reducible refine Below.drew ?_|with_reducible refine zL ?_ _|with_reducible refine Below.setCell ?_ (by first|exact YE _|exact R9|exact S3|exact eZ) _)))
   (first
    | (go_at_call 88;have hq:=K9;refine (jP _ _ _ _ _ _ _ _ _ _ b (n-d) (n+d) _ (J8.bw (by with_reducible first|exact Below.refl _ _|exact bl1 _ _)) (T6.bw (by with_reducible first|exact Below.refl _ _|exact bl1 _ _)) (by omega) hb fQ).mono ?_;rintro r xj ⟨SL,rfl,qQ,ks,dW⟩;have Bz:=zC qQ;clear qQ;have ar:Below ft.heap.size ft xj:=(by with_reducible first|exact dW|exact zB (bl1 _ _) dW);have bl:=zB K9 ar;(try with_reducible have sD:=(zQ ft 31).bw dW);replace J8:=J8.bw ar;(try replace Y9:=Y9.bw ar);replace T6:=T6.bw ar;(try replace cw:=cw.bw ar);have eZ:=bl.size;(try have oO:=Y9.lt);(try have PT:=YJ oO);(try have Cg:=YI oO);(try obtain⟨mN,mO,ye,yg,yh,Eo⟩:=Y9);(try have oP:=cw.lt);(try have PV:=YJ oP);(try have Ch:=YI oP);(try obtain⟨mP,mQ,yi,yj,ym,Ep⟩:=cw);(try have DO:=sD.lt);(try have Xc:=YJ DO);(try have IG:=YI DO);(try obtain⟨Er,Es,Et,Ew,Ey,Nw⟩:=sD))
    | (go_at_call 32;have hq:=G1;refine (zAE _ _ _ _ _ _ _ _ k k n d _ ((zA HX).bw (by with_reducible first|exact G1|exact zL G1 _)) ((zA HY).bw (by with_reducible first|exact G1|exact zL G1 _)) (by omega) (by omega)).mono ?_;rintro r ft ⟨aH,rS,wY,rT,rfl,T6,Q8⟩;have Q0:Below bQ.heap.size bQ ft:=(by with_reducible first|exact Q8|exact zB (bl1 _ _) Q8);have K9:=zB G1 Q0;(try with_reducible have cw:=(zQ bQ 31).bw Q8);replace J8:=J8.bw Q0;(try replace Y9:=Y9.bw Q0);have S3:=K9.size)
    | (go_at_call 35;refine (zBI _ _ _ _ _ _ _ _ k k n d _ ((zA HX).bw (by with_reducible first|exact (Below.refl _ _).drew|exact (bl1 _ _).drew)) ((zA HY).bw (by with_reducible first|exact (Below.refl _ _).drew|exact (bl1 _ _).drew)) (by omega) (by omega)).mono ?_;rintro r bQ ⟨aY,zm,AM,zo,rfl,J8,Q7⟩;have G1:Below W.heap.size W bQ:=(by with_reducible first|exact zB (Below.refl _ _).drew Q7|exact zB (bl1 _ _).drew Q7);(try with_reducible have Y9:=((zQ W 31).bw (Below.refl _ _).drew).bw Q7);have R9:=G1.size))
  all_goals
   have hfinU:SpAt xj SL K (zI n d b).1 (zI n d b).2:=(ks.fits (K:=K) (zA Ii) (zA Bf).1 (zA Bf).2);go_wp2_with fail;go_meet;refine⟨_,SL,rfl,?_,⟨⟨?_,?_,?_,?_,?_⟩,?_⟩,?_,zA Bz,?_⟩
   ·first|exact YE _|exact R9|exact S3|exact eZ
   ·simp[go_sem, *]
   ·simp[go_sem, *]
   ·simp[go_sem, *]
   ·simp[go_sem, *]
   ·simp[go_sem, *]
   ·intro o;simp[go_sem, *]
   ·first|with_reducible exact hfinU.bw (bl1 _ _)|with_reducible exact SpAt.put5 hfinU (by assumption) (by assumption) (by assumption) (by assumption) (by assumption) _ _ _ _ _
   ·repeat' (first|with_reducible exact bl|with_reducible exact K9|with_reducible exact G1|with_reducible exact Below.refl _ _|with_reducible refine Below.drew ?_|with_reducible refine zL ?_ _|with_reducible refine Below.setCell ?_ (by first|exact YE _|exact R9|exact S3|exact eZ) _)
 case rest =>
 obtain⟨BU,xU,rfl,Ct,XU,hpU,hxbU,hblU⟩:=hcut;replace R:=R.bw hblU;replace j7:=zB j7 hblU;have lU:=XU.lt;have nRU:w.heap.size+1+1<BU:=by omega
 have ae:=R.lt;have nZ:=zC hxbU;have cm:=zC hpU;have FU:=XU.fz;obtain⟨z0,z1,z2,z3,z4⟩:=XU.c;clear hxbU hpU HX HY HK x0 x1 x2 x3 hblU X Y;go_wp2_with fail;refine (zJ1 _ xU xU K b (zI n d b) (zI n d b) (zA cm) (zA cm) (by omega) (zA nZ) hb).mono ?_
 rintro r w1 ⟨v1,rfl,J6,S7,b9⟩;replace S7:=S7.fits (K:=K) (zBY b) (zA OS).1 (zA OS).2;replace XU:=XU.bw b9;replace cm:=zC ((zA cm).bw b9);replace R:=R.bw b9;replace j7:=zB j7 b9;have rQ:=zC J6;clear b9 J6 z0 z1 z2 z3 z4 FU;obtain⟨V,hV⟩:∃ V,V=w1.alloc (.cells v1.q 31):=⟨_,rfl⟩;have bV:Below w1.heap.size w1 V:=by rw[hV];exact bl1 _ _
 have S1:SpC V w1.heap.size v1:=by rw[hV];exact zB2 w1 v1 _
 have nY:=zC (S7.bw bV);have lU3:=XU.lt;have Z:=zC (XU.c);obtain⟨z0,z1,z2,z3,z4⟩:=XU.c;replace XU:=XU.bw bV;have gQ:=R.lt;replace R:=R.bw bV;replace cm:=zC ((zA cm).bw bV);replace j7:=zB j7 bV;clear S7 bV;have Y8:=zC (zF8 (zA H1) O6);have rM:=zC (zNE (zA H1) b)
 have fZ:Hid (∀ j,j<=N -> -P K<(lnT n d b j).1/\(lnT n d b j).2<P K):=zC (λ j _=>by
  obtain⟨g1,g2,g3,g4⟩:=zA Y8 j;have:=zJ (show b-3*j<=b by omega)
  omega)
 have cl:Hid (∀ j,j<=N -> -P K<(jE (lnT n d b) j).1/\(jE (lnT n d b) j).2<P K):=zC (λ j hj=>by
  obtain⟨g1,g2,g3,g4⟩:=zFR (s:=3) (by omega) (zA Y8) (zA HN) j hj
  have:=zE (b-3*j)
  omega)
 have Af:N<=1000000000:=by
  obtain⟨N',n1,n2⟩:=zB3 (s:=3) (by omega) (zA Y8)
  have:N<=N':=Nat.not_lt.1 λ D5=>by have:=(zA HN).2 N' D5;have:=n2.1;omega
  omega
 go_wp2_with fail;rw[<- hV];clear hV;refine (zL9 _ _ en_ln (lnT n d b) N b K (K+K+8+4+10) xU _ (zA cm) (zA nZ) hb (by omega) (by omega) (zA HN) Af (zA rM) (zA fZ) (zA cl) (λ j u w' hj B8 B7 O7=>?_)).mono ?_
 ·have e:=ln1_iv w' w1.heap.size u v1 K b ((j:Int)+1) (lnT n d b j) (zAH b (zI n d b) (zI n d b)) B7 ((zA nY).bw O7) (S1.bw O7) (by omega) B8 hb (by omega) (by omega)
  have e1:2*((j:Int)+1)-1=2*(j:Int)+1:=by omega
  have e2:2*((j:Int)+1)+1=2*(j:Int)+3:=by omega
  rw[e1,e2] at e;exact e
 rintro r w2 ⟨v2,rfl,P2,X8,j8⟩;replace R:=R.bw j8;replace j7:=zB j7 j8;have mW:=zC P2;clear P2 j8;have lR4:=R.lt;obtain⟨V2,aI⟩:∃ V2,V2=w2.alloc (.cells v2.q 31):=⟨_,rfl⟩;have W5:Below w2.heap.size w2 V2:=by rw[aI];exact bl1 _ _
 replace X8:=X8.bw W5;replace R:=R.bw W5;replace j7:=zB j7 W5;go_wp2_with fail;rw[<- aI];clear aI W5;refine (zDO _ v2 (K+3) b 2 _ X8 (by omega) (zA mW) (by omega) (by omega)).mono ?_
 rintro r w3 ⟨v,rfl,K3,J7,m9⟩;obtain⟨q0,q1,q2,q3,q4,q5⟩:=R.bw m9;replace j7:=zB j7 m9;have HV:=zC K3;clear K3;go_wp2_with fail;refine bodyPost_ret (v:=.agg v.q) (by simp[results,Tryz.results155,go_sem,q0,q1,q2,q3,q4]) rfl ⟨v,rfl,zA HV,?_,?_⟩
 ·exact SpAt.put5 (J7.mono (by omega)) q0 q1 q2 q3 q4 _ _ _ _ _
 ·exact jY j7 (by omega) _ _ _ _ _
end Go.Proofs.YtgmnknmjainabacGreat
