/-
  Its own texts.
-/
import Derived.Deep.Light
import Derived.Test.YtgmnknmjainabacGreatRows
import Derived.ProofKit
import Derived.OpenShut
import Derived.SizedLaws
import Derived.ChangeOld
import Derived.Test.YtgmnknmjainabacGreatH26
set_option maxRecDepth 100000
set_option maxHeartbeats 40000000
set_option linter.unnecessarySimpa false
set_option linter.unusedSimpArgs false
set_option linter.unusedVariables false
namespace Go.Proofs.YtgmnknmjainabacGreat
open Go.RowKit
attribute [local go_sem ↓] Go.wp_at_zero Go.wp_at_succ
open Ex
theorem zNF {w:World} {neg:Bool} {a:Option Addr} {n cap k:Nat} (h:IntAt w neg a n cap k 0):n=0:=by
 obtain⟨d,h1,h2,h3,h4,h5⟩:=h
 rcases h2 with h2|h2
 ·exact h2
 ·refine Nat.eq_zero_of_not_pos λ h0=>?_
  obtain⟨L,l1,l2,l3⟩:=zRZ h1.dgs h0 h2;have:=zE L;have hV:=jA h1.dgs n
  cases neg
  ·simp[sgn] at h5;omega
  ·simp[sgn] at h5;omega
theorem zS4 {w:World} {b e:Int} {r:Ending} {w':World} (h:zB1 w b 250 0 0 e r w'):zLC w b 250 0 0 e r w':=by
 obtain⟨s,h1,h2,h3,h4⟩:=h;refine⟨s,h1,h2,h3,h4,λ h0=>?_,λ h0=>?_⟩
 ·rw[zNF h3.lo] at h0;omega
 ·rw[zNF h3.hi] at h0;omega
theorem pick {R:Nat->Prop} {T:Nat->Int × Int->Prop} (h:∀ m,R m->∃ c,T m c):∃ F:Nat->Int × Int,∀ m,R m->T m (F m):=by
 classical
 refine⟨λ m=>if hm:R m then (h m hm).choose else (0,0),λ m hm=>?_⟩
 simp only[dif_pos hm];exact (h m hm).choose_spec
def Fx (Pr:Nat->Int->Int->Prop) (F:Nat->Int × Int) (B:Nat) (l u:Int):Prop:=Pr B l u/\l=(F B).1/\u=(F B).2
theorem zRL (Pr:Nat->Int->Int->Prop) (F:Nat->Int × Int):zLB (Fx Pr F):=λ _ _ _ _ _ h g=>⟨h.2.1.trans g.2.1.symm,h.2.2.trans g.2.2.symm⟩
theorem zLT {b Kw:Nat} {Pr:Nat->Int->Int->Prop} (h:zBU b Kw Pr) (F:Nat->Int × Int):zBU b Kw (Fx Pr F):=λ m lo hi g=>h m lo hi g.1
theorem zGL {b:Nat} {P R:Nat->Int->Int->Prop} (h:∀ B l u,P B l u->R B l u) {L H:Int} (g:zAI b P L H):zAI b R L H:=by
 obtain⟨m,lo,hi,g1,g2⟩:=g;exact⟨m,lo,hi,h _ _ _ g1,g2⟩
def Agn (f:Nat) (ar:Array Value) (Ok:Prop) (b:Int) (X:Int->Int->Prop):Prop:=∃ Rel:Int->Int->Int->Prop,(∀ b l h b' l' h',Rel b l h->Rel b' l' h'->b=b'/\l=l'/\h=h')/\∀ w:World,Calls Tryz.prog f ar w (λ z w'=>∃ bt l h e,(Rel bt l h/\(Ok->e=0/\bt=b/\X l h))/\zLC w bt 250 l h e z w')
theorem zDU {f:Nat} {ar:Array Value} {Ok:Prop} {b e:Int} {X:Int->Int->Prop} (hn:¬ Ok) (h:∀ w:World,Calls Tryz.prog f ar w (zB1 w 0 250 0 0 e)):Agn f ar Ok b X :=
 ⟨λ b l u=>b=0/\l=0/\u=0,λ _ _ _ _ _ _ h g=>⟨h.1.trans g.1.symm,h.2.1.trans g.2.1.symm,h.2.2.trans g.2.2.symm⟩,λ w=>(h w).mono λ z w' g=>⟨0,0,0,e,⟨⟨rfl,rfl,rfl⟩,λ o=>absurd o hn⟩,zS4 g⟩⟩
theorem zJH {f:Nat} {ar:Array Value} {Ok:Prop} {X:Int->Int->Prop} {b:Nat} {Pr:Nat->Int->Int->Prop} (hf:zLB Pr) (hX:Ok->∀ L H,zAI b Pr L H->X L H) (h:∀ w:World,Calls Tryz.prog f ar w (λ z w'=>∃ L H,(zAI b Pr L H/\SureD b Pr L H)/\zLC w b 250 L H 0 z w')):Agn f ar Ok b X :=
 ⟨λ bt l u=>bt=(b:Int)/\SureD b Pr l u,λ _ _ _ _ _ _ h g=>⟨h.1.trans g.1.symm,(h.2.uq hf g.2).1,(h.2.uq hf g.2).2⟩,λ w=>(h w).mono λ z w' ⟨L,H,g1,g2⟩=>⟨b,L,H,0,⟨⟨rfl,g1.2⟩,λ o=>⟨rfl,rfl,hX o L H g1.1⟩⟩,g2⟩⟩
theorem Agn.ok {f:Nat} {ar:Array Value} {Ok:Prop} {b:Int} {X:Int->Int->Prop} (h:Agn f ar Ok b X) (ho:Ok) (w:World):Calls Tryz.prog f ar w (λ z w'=>∃ L H,X L H/\zB1 w b 250 L H 0 z w'):=by
 obtain⟨Rel,_,g⟩:=h
 exact (g w).mono λ z w' ⟨bt,l,u,e,⟨_,k⟩,s,a1,a2,a3,a4,_⟩=>by
  obtain⟨rfl,rfl,k3⟩:=k ho;exact⟨l,u,k3,s,a1,a2,a3,a4⟩
theorem fx_of {b:Nat} {Pr:Nat->Int->Int->Prop} {F:Nat->Int × Int} {L H:Int} (h:zAI b (Fx Pr F) L H):zAI b Pr L H:=zGL (λ _ _ _ g=>g.1) h
theorem zNP (w:World) (ff:Nat) (k p q r s n d:Int) (b:Nat) (h0:yO k p q r s=0) (h1:rok n d) (h5:8<=b) (h6:b<=120) (Kw KD:Nat) (Pr:Nat->Int->Int->Prop) (PG:Kw<=900000) (PF:KD<=100000000) (hE:zBU b Kw Pr) (hF:∀ (m:Nat) w' B1 B2 B3,32<=m->m<=Kw+120->(∃ i,SuAt b Pr i m)->MdAt w' (.func (.func ff) #[] #[]) k p q r s n d B1 B2 B3->Calls Tryz.prog 90 #[.int .i64 ((b+m:Nat):Int),.pointer (some ⟨B1,0,none⟩),.pointer (some ⟨B2,0,none⟩),.pointer (some ⟨B3,0,none⟩)] w' (BlG KD (Pr (b+m)) w' (b+m))) :
  Calls Tryz.prog 46 #[.agg #[.int .i64 k,.int .i64 p,.int .i64 q,.int .i64 r,.int .i64 s],.agg #[.int .i64 n,.int .i64 d],.int .i64 b,.func (.func ff) #[] #[]] w (λ z w'=>∃ L H,(zAI b Pr L H/\SureD b Pr L H)/\zLC w b 250 L H 0 z w'):=by
 have e1:zFO n d b=0:=by unfold zFO;rw[if_pos ⟨h1,by omega,by omega⟩]
 have E0:=zC h0;have E1:=zC e1;have HF:=zC hF;clear h0 e1 hF;have HE:=zC hE;clear hE
 go_enter Tryz.func46,Tryz.ntmps46
 go_wp2_with fail;refine (jV k p q r s _).mono ?_;rintro r' w1 ⟨rfl,b9⟩;rw[zA E0];have C:MdAt w1 (.func (.func ff) #[] #[]) k p q r s n d (w.heap.size+1+1) w.heap.size (w.heap.size+1):=MdAt.bw ⟨by simp[go_sem],⟨by simp[go_sem],by simp[go_sem],by simp[go_sem],by simp[go_sem],by simp[go_sem]⟩,⟨by simp[go_sem],by simp[go_sem]⟩⟩ b9
 have R:NoC w1 (w.heap.size+1+1+1):=NoC.bw ⟨by simp[go_sem],by simp[go_sem],by simp[go_sem],by simp[go_sem],by simp[go_sem],λ o=>by simp[go_sem]⟩ b9
 have hB:Below w.heap.size w w1:=zB (bl4 _ _ _ _ _) b9;have lR:=R.lt;obtain⟨x0,⟨x1,x2,x3,x4,x5⟩,⟨x6,x7⟩⟩:=C;have C:MdAt w1 (.func (.func ff) #[] #[]) k p q r s n d (w.heap.size+1+1) w.heap.size (w.heap.size+1):=⟨x0,⟨x1,x2,x3,x4,x5⟩,⟨x6,x7⟩⟩;clear b9;go_wp2_with fail;refine (yG b w1 _ (by simp) n d _ _).mono ?_
 rintro r' w2 ⟨rfl,j7⟩;rw[zA E1];replace C:=C.bw j7;replace R:=R.bw j7;replace hB:=zB hB j7;clear j7 x0 x1 x2 x3 x4 x5 x6 x7;go_wp2_with fail;refine (zFR _ _ zOT b Kw KD Pr _ h6 PG PF (zA HE) (λ m w' hm O2 zk A7=>by rw[nat_add];exact zA HF m w' _ _ _ hm O2 zk (C.bw A7))).mono ?_
 rintro r' w3 ⟨L,H,hS,u,rfl,A8,C7,o7,W8⟩;have nX:=zC (W8.mono hB.size);clear W8;obtain⟨q0,q1,q2,q3,q4,q5⟩:=R.bw o7;replace hB:=zB hB o7;have I3:=zC A8;have GK:=zC hS;clear A8 hS;go_wp2_with fail;refine bodyPost_ret (v:=.tuple #[.agg u.q,.int .i64 0]) (by simp[results,Tryz.results46,go_sem,q0,q1,q2,q3,q4]) rfl ⟨L,H,zA GK,u,rfl,zA I3,?_,?_,MineS.put5 (zA nX) _ _ _ _ _ _⟩
 ·exact SpAt.put5 C7 q0 q1 q2 q3 q4 _ _ _ _ _
 ·exact jS hB (by omega) _ _ _ _ _
theorem zPU (k p q r s n d b:Int) (Ok:Prop) (bb:Int) (XX:Int->Int->Prop) (hA:Agn 46 #[.agg #[.int .i64 k,.int .i64 p,.int .i64 q,.int .i64 r,.int .i64 s],.agg #[.int .i64 n,.int .i64 d],.int .i64 b,.func (.func 47) #[] #[]] Ok bb XX):Agn 11 #[.agg #[.int .i64 k,.int .i64 p,.int .i64 q,.int .i64 r,.int .i64 s],.agg #[.int .i64 n,.int .i64 d],.int .i64 b] Ok bb XX:=by
 obtain⟨Rel,hR,hC⟩:=hA;refine⟨Rel,hR,λ w=>?_⟩
 have HC:=zC hC;clear hC
 go_enter Tryz.func11,Tryz.ntmps11
 go_wp2_with fail;refine (zA HC _).mono ?_;rintro r' w1 ⟨bt,L,H,e,hrel,u,rfl,A8,C7,b9,W8⟩;have R:NoC w1 (w.heap.size+1+1):=NoC.bw ⟨by simp[go_sem],by simp[go_sem],by simp[go_sem],by simp[go_sem],by simp[go_sem],λ o=>by simp[go_sem]⟩ b9
 have hB:Below w.heap.size w w1:=zB (bl3 _ _ _ _) b9;obtain⟨q0,q1,q2,q3,q4,q5⟩:=R;have I3:=zC A8;have nX:=zC (W8.mono (bl3 w _ _ _).size);clear W8;have Ax:=zC hrel;clear A8 b9 hrel;go_wp2_with fail;refine bodyPost_ret (v:=.tuple #[.agg u.q,.int .i64 e]) (by simp[results,Tryz.results11,go_sem,q0,q1,q2,q3,q4]) rfl ⟨bt,L,H,e,zA Ax,u,rfl,zA I3,?_,?_,MineS.put5 (zA nX) _ _ _ _ _ _⟩
 ·exact SpAt.put5 C7 q0 q1 q2 q3 q4 _ _ _ _ _
 ·exact jS hB (by omega) _ _ _ _ _
theorem made_agn {R R2:Nat->Rat} {L G:Rat->Nat->Rat} {X:Int->Int->Nat->Rat} (hE:LEnv R R2 L G X) (k p q r s n d b:Int):Agn 46 #[.agg #[.int .i64 k,.int .i64 p,.int .i64 q,.int .i64 r,.int .i64 s],.agg #[.int .i64 n,.int .i64 d],.int .i64 b,.func (.func 47) #[] #[]] (k=6/\lbE k p q r s n d b=0) b (SuB (lbX R R2 L G k p q r s n d) b.toNat):=by
 by_cases h0:yO k p q r s=0
 case neg=>exact zDU (λ ⟨_,o⟩=>h0 (by unfold lbE at o;rw[if_neg h0] at o;exact o)) λ w=>zSK w _ k p q r s n d b h0
 by_cases h1:zFO n d b=0
 case neg=>exact zDU (λ ⟨_,o⟩=>h1 (by unfold lbE at o;rw[if_pos h0] at o;exact o)) λ w=>zSL w _ k p q r s n d b h0 h1
 have h2:rok n d/\8<=b/\b<=120:=by
  unfold zFO at h1
  by_cases c:rok n d/\8<=b/\b<=120
  ·exact c
  ·rw[if_neg c] at h1;omega
 obtain⟨hr,b8,Vo⟩:=h2;obtain⟨B,rfl⟩:∃ B:Nat,b=(B:Int):=⟨b.toNat,by omega⟩
 have key:∀ (K:Nat) (x:Nat->Rat),K<=9000->(k=6->x=lbX R R2 L G k p q r s n d)->(∀ m:Nat,32<=m->m<=K+120->∃ c:Int × Int,LkPr K x (B+m) c.1 c.2/\∀ w:World,Calls Tryz.prog 91 #[.agg #[.int .i64 k,.int .i64 p,.int .i64 q,.int .i64 r,.int .i64 s],.agg #[.int .i64 n,.int .i64 d],.int .i64 ((B+m:Nat):Int)] w (zG w ((B+m:Nat):Int) 30000 c.1 c.2))->Agn 46 #[.agg #[.int .i64 k,.int .i64 p,.int .i64 q,.int .i64 r,.int .i64 s],.agg #[.int .i64 n,.int .i64 d],.int .i64 (B:Int),.func (.func 47) #[] #[]] (k=6/\lbE k p q r s n d (B:Int)=0) (B:Int) (SuB (lbX R R2 L G k p q r s n d) ((B:Int)).toNat):=λ K x hK hx hc=>by
  obtain⟨F,hF⟩:=pick (R:=λ m=>B+32<=m/\m<=B+(K+120)) (T:=λ m c=>LkPr K x m c.1 c.2/\∀ w:World,Calls Tryz.prog 91 #[.agg #[.int .i64 k,.int .i64 p,.int .i64 q,.int .i64 r,.int .i64 s],.agg #[.int .i64 n,.int .i64 d],.int .i64 (m:Int)] w (zG w (m:Int) 30000 c.1 c.2)) λ m hm=>by
   have:=hc (m-B) (by omega) (by omega)
   rw[show B+(m-B)=m by omega] at this
   exact this
  refine zJH (b:=B) (zRL (LkPr K x) F) (λ o L H g=>by
   have eB:((B:Int)).toNat=B:=by omega
   rw[eB,<- hx o.1];exact lk_su (fx_of g)) λ w=>zNP w _ k p q r s n d B h0 hr (by omega) (by omega) K 30000 (Fx (LkPr K x) F) (by omega) (by omega) (zLT (lk_ends K x (by omega)) F) λ m w' B1 B2 B3 hm O2 _ at_=>?_
  obtain⟨f1,f2⟩:=hF (B+m) ⟨by omega,by omega⟩
  exact zF9 (B+m) B1 B2 B3 w' k p q r s n d _ at_ (by omega) λ gH=>(f2 gH).mono λ z w3 g=>⟨_,_,⟨f1,rfl,rfl⟩,g⟩
 by_cases k1:k=1
 case neg =>
  exact key 89 (lbX R R2 L G k p q r s n d) (by omega) (λ _=>rfl) λ m hm O2=>by
   obtain⟨c,c1,c2⟩:=below_ex hE k p q r s n d (B+m) h0 k1 hr (by omega) (by omega)
   exact⟨c,c1.k,c2⟩
 subst k1;obtain⟨a,a2,c,e'⟩:=law_1 h0;have hw:=nor_wr a hr a2 c e'
 have put:∀ (C:Nat) (s0 e0:Int),40<=C->C<=10000->ErfN (((n*q-p*d)*s)*((n*q-p*d)*s)) ((d*q*r)*(d*q*r)*2) C s0 e0->∀ w:World,Calls Tryz.prog 91 #[.agg #[.int .i64 1,.int .i64 p,.int .i64 q,.int .i64 r,.int .i64 s],.agg #[.int .i64 n,.int .i64 d],.int .i64 (C:Int)] w (zG w (C:Int) 30000 (zER C ((n*q-p*d)*s) (s0,e0)).1 (zER C ((n*q-p*d)*s) (s0,e0)).2):=λ C s0 e0 Vv GR hN w=>by
  have g:=below_1 w p q r s n d C (λ l u=>l=(zER C ((n*q-p*d)*s) (s0,e0)).1/\u=(zER C ((n*q-p*d)*s) (s0,e0)).2) λ w'=>(lnorm_iv w' 1 p q r s n d C s0 e0 Vv GR a hr a2 c e' hN).mono λ z gH ⟨u,e1,e2,e3,e4⟩=>⟨_,_,⟨rfl,rfl⟩,u,e1,e2,e3.mono (by omega),e4⟩
  exact g.mono λ z w' ⟨l,u,⟨e1,e2⟩,k⟩=>by rw[e1,e2] at k;exact k
 generalize hP:(n*q-p*d)*s=Pn at put;generalize Xx:d*q*r=Zn at put;rw[hP,Xx] at hw;have z0:0<Zn:=by have:=hw.2.2.1;omega
 have zz:0<Zn*Zn:=Int.mul_pos z0 z0
 by_cases hn:Pn*Pn<Zn*Zn*2*((B:Int)+32)
 ·have Ih:Pn*Pn<152*(Zn*Zn*2):=by
   have:=Za (show (B:Int)+32<=152 by omega) (show 0<=Zn*Zn*2 by omega)
   have e:Zn*Zn*2*152=152*(Zn*Zn*2):=by grind
   omega
  refine key 4500 (nrV (zOV R (nrY Pn Zn) (nrR R2 Pn Zn)) Pn) (by omega) (λ o=>absurd o (by decide)) λ m hm O2=>?_
  have E2:Pn*Pn<Zn*Zn*2*((B+m:Nat):Int):=by
   have:=Za (show (B:Int)+32<=((B+m:Nat):Int) by omega) (show 0<=Zn*Zn*2 by omega)
   omega
  obtain⟨s0,e0,c1,c2⟩:=nor_near hE.r hE.r2 hw Ih (show 40<=B+m by omega) (by omega) E2
  exact⟨_,no_lk c2,put (B+m) s0 e0 (by omega) (by omega) c1⟩
 ·obtain⟨C,hC⟩:∃ C:Nat,C=B+32:=⟨_,rfl⟩
  have hf:Zn*Zn*2*(C:Int)<=Pn*Pn:=by
   have e:(C:Int)=(B:Int)+32:=by omega
   rw[e];omega
  obtain⟨f1,f2⟩:=far_no Pn B
  have g1:(farN Pn B).2-(farN Pn B).1=1:=by
   have qb:=zE B;unfold farN
   by_cases hp:0<Pn
   ·rw[if_pos hp];simp only[];omega
   ·rw[if_neg hp];simp only[];omega
  have qC:=zE C;obtain⟨o1,o2,o3,o4⟩:=zSS (p:=Pn) (B:=C) (show 0<=Q C-1 by omega) (show Q C-1<=Q C by omega) (Int.le_refl _) ((λ (z:Int) (hz:1<=z)=>show Q C-(Q C-1)<=z by omega) _ (zE 4500))
  have pu:=put C _ _ (by omega) (by omega) (nor_farN (p:=Pn) (q:=Zn) (by omega) (by omega) hf)
  rw[<- hC] at f1 f2;generalize zER C Pn (Q C-1,Q C)=fc at *;have one:zLB (λ B' l u=>B'=C/\l=fc.1/\u=fc.2):=λ _ _ _ _ _ h g=>⟨h.2.1.trans g.2.1.symm,h.2.2.trans g.2.2.symm⟩
  refine zJH (b:=B) one (λ o=>absurd o.1 (by decide)) λ w=>zNP w _ 1 p q r s n d B h0 hr (by omega) (by omega) 4500 30000 _ (by omega) (by omega) (λ m lo hi ⟨u1,u2,u3⟩=>?_) λ m w' B1 B2 B3 hm O2 ⟨i,zk⟩ at_=>?_
  ·obtain rfl:m=32:=by omega
   have b1:=big_Q (z:=fc.2) (B:=B) (m:=32) (by omega) (by rw[<- hC];omega)
   rw[u2,u3];exact⟨o1,o4,by have:=zE 32;have:=yI 200;have:=Int.mul_pos (yI 200) (show 0<Q 32 by omega);omega,b1⟩
  ·have em:m=32:=zk.first λ lo hi l ⟨u1,u2,u3⟩ hl=>Or.inl (by
    rw[u2,u3,<- f1,<- f2,g1] at hl
    exact (zID (by omega) hl ⟨by omega,λ h=>by omega,λ _=>⟨0,by omega,by decide,by decide⟩⟩:l=1) ▸ Int.le_refl _)
   subst em;rw[<- hC];exact zF9 C B1 B2 B3 w' 1 p q r s n d _ at_ (by omega) λ gH=>(pu gH).mono λ z w3 g=>⟨_,_,⟨rfl,rfl,rfl⟩,g⟩
theorem zJJ {R R2:Nat->Rat} {L G:Rat->Nat->Rat} {X:Int->Int->Nat->Rat} (hE:LEnv R R2 L G X) (k p q r s n d b:Int):Agn 11 #[.agg #[.int .i64 k,.int .i64 p,.int .i64 q,.int .i64 r,.int .i64 s],.agg #[.int .i64 n,.int .i64 d],.int .i64 b] (k=6/\lbE k p q r s n d b=0) b (SuB (lbX R R2 L G k p q r s n d) b.toNat):=zPU k p q r s n d b _ _ _ (made_agn hE k p q r s n d b)
theorem en_pexp1 (args:Array Value) (w:World):(callFunc 76 args).run Tryz.prog w=.ok (.enter 76 args) w:=by simp[go_sem,callFunc,Tryz.func76];kernel_rfl
theorem en_plog1 (args:Array Value) (w:World):(callFunc 79 args).run Tryz.prog w=.ok (.enter 79 args) w:=by simp[go_sem,callFunc,Tryz.func79];kernel_rfl
theorem zKJ (p q:Int) (b:Nat) (w:World) (hr:rok p q) (h5:8<=b) (h6:b<=120) (n e:Nat) (h7 : -((n:Int)*q)<=p) (h8:p<=(n:Int)*q) (hn:n<=500) (hne:(n:Int)<Q e) (he:e<=9) (F:Nat->Int × Int) (hF:∀ B:Nat,40<=B->∃ (l:Int) (t N:Nat),(yR (zW (ofI p q B)) l/\(t:Int)=max 0 (l-B+8)/\t<=e+8/\Abs (zF (ofI p q B) t) (Q (B-8))/\zU (zV B (zF (ofI p q B) t)) N)/\F B=sqI B (zM (zV B (zF (ofI p q B) t)) N) t) :
  Calls Tryz.prog 37 #[.agg #[.int .i64 p,.int .i64 q],.int .i64 b] w (λ r w'=>∃ L H,(zAI b (Fx (zLA (λ _=>(p:Rat)/(q:Rat)) 1700 (eb (e+8))) F) L H/\SureD b (Fx (zLA (λ _=>(p:Rat)/(q:Rat)) 1700 (eb (e+8))) F) L H)/\zLC w b 250 L H 0 r w'):=by
 have d1:zFO p q b=0:=by unfold zFO;rw[if_pos];exact⟨hr,by omega,by omega⟩
 have hq:0<q:=by have:=hr.2.2.1;omega
 have JB:=YW (show (n:Int)<=500 by omega) (show 0<=q by omega)
 have d2:=within_t (p:=p) (q:=q) (n:=500) (by omega) (by omega)
 have H7:=zC h7;have Gn:=zC hF;have H8:=zC h8;clear h7 h8 JB hF;have HR:=zC hr;obtain⟨r1,r2,r3,r4⟩:=hr
 go_enter Tryz.func37,Tryz.ntmps37
 go_wp2_with (go_at_call 74;refine (yG _ _ _ (by simp) _ _ _ _).mono ?_;rintro r w1 ⟨rfl,b9⟩;rw[d1];obtain⟨C9,B9,D6⟩:=zZ (w.heap.size+1+1) (by simp) b9)
 have A:RaC w1 w.heap.size p q:=⟨by simp[B9,go_sem],by simp[B9,go_sem]⟩
 have R:NoC w1 (w.heap.size+1):=⟨by simp[B9,go_sem],by simp[B9,go_sem],by simp[B9,go_sem],by simp[B9,go_sem],by simp[B9,go_sem],λ o=>by simp[D6,go_sem]⟩
 have X9:Below w.heap.size w w1:=zB (bl2 _ _ _) b9;clear B9 D6 b9;have lA:=A.lt;have lR:=R.lt;obtain⟨x0,x1⟩:=A;refine (zAG p q 500 _ (by omega) (by omega) r3 r4).mono ?_
 rintro r' w2 ⟨rfl,j7⟩;rw[d2];have A:RaC w2 w.heap.size p q:=RaC.bw ⟨x0,x1⟩ j7;replace R:=R.bw j7;replace X9:=zB X9 j7;have Db:=A.lt;have bg:=R.lt;clear x0 x1 j7;go_wp2_with fail;refine (zFR _ #[.pointer (some ⟨w.heap.size,0,none⟩)] en_pexp1 b 1700 500 (Fx (zLA (λ _=>(p:Rat)/(q:Rat)) 1700 (eb (e+8))) F) _ h6 (by omega) (by omega) (zLT (exp_ends _ _ _ _ (by have:=zAP (show e+8<=17 by omega);rw[DQ] at this;omega)) F) (λ m w' hm O2 _ M8=>?_)).mono ?_
 ·have hle:=kO (n:=p) hq (b+m)
  obtain⟨l,t,N,⟨e1,e2,e3,e4,e5⟩,e6⟩:=zA Gn (b+m) (by omega)
  have eB:((b:Int)+(m:Int))=((b+m:Nat):Int):=by omega
  rw[eB];refine (pexp1_iv w' w.heap.size p q (b+m) t N 500 l (zA HR) (A.bw M8) (by omega) (by omega) e1 e2 (by omega) e4 e5 ?_ (by omega) (by omega)).mono ?_
  ·rw[<- Q_P]
   have:=zAP (show t<=17 by omega)
   rw[DQ] at this;have h1:=zH (show b+m+eb t+1<=16*500 by omega)
   have h2:Q (b+m+eb t+1)=2*Q (b+m+eb t):=rfl;have:=zE (b+m+eb t);omega
  ·intro r' gH h
   exact⟨_,_,⟨exp_pr h6 hm (by omega) hle (kU hq _) (Iv.of _ hq) e3 (by omega) e4 e5,by rw[e6],by rw[e6]⟩,h⟩
 rintro r' w3 ⟨L,H,pI,u,rfl,A8,C7,o7,W8⟩;have nX:=zC (W8.mono X9.size);clear W8;obtain⟨q0,q1,q2,q3,q4,q5⟩:=R.bw o7;replace X9:=zB X9 o7;have HU:=zC A8;have Gw:=zC pI;clear A8 pI;go_wp2_with fail;refine bodyPost_ret (v:=.tuple #[.agg u.q,.int .i64 0]) (by simp[results,Tryz.results37,go_sem,q0,q1,q2,q3,q4]) rfl ⟨L,H,zA Gw,u,rfl,zA HU,?_,?_,MineS.put5 (zA nX) _ _ _ _ _ _⟩
 ·exact SpAt.put5 C7 q0 q1 q2 q3 q4 _ _ _ _ _
 ·exact jS X9 (Nat.le_succ _) _ _ _ _ _
theorem zS7 (w:World) (p q:Int) (b:Nat) (hr:rok p q) (o:Int × Int) (hX:LogX 4 p q b 100 o) :
  Calls Tryz.prog 80 #[.agg #[.int .i64 p,.int .i64 q],.int .i64 b] w (zG w b 100 o.1 o.2):=by
 obtain⟨r1,r2,r3,r4⟩:=hr;obtain⟨W,hW⟩:∃ W,W=(w.alloc (.cells #[.int .i64 p,.int .i64 q] 23)).alloc (.cells zCq 31):=⟨_,rfl⟩;have j8:Below w.heap.size w W:=by rw[hW];exact bl2 _ _ _
 have A:RaC W w.heap.size p q:=by rw[hW];constructor<;>simp[go_sem]
 have R:NoC W (w.heap.size+1):=by rw[hW];constructor<;>simp[go_sem]
 have lA:=A.lt;have lR:=R.lt;have HK:=zC (show ∀ w',Below W.heap.size W w'->(rK0 w' w.heap.size p q) from λ w' hB=>⟨(A.bw hB).c0,(A.bw hB).c1⟩)
 go_enter Tryz.func80,Tryz.ntmps80
 go_wp2;rw[<- hW];clear hW;obtain⟨x0,x1⟩:=zA HK _ (Below.refl _ _);have D5:Below W.heap.size W W.drew:=(Below.refl _ _).drew;have Kh:w.heap.size≠w.heap.size+1:=by omega
 have Dn:w.heap.size+1≠w.heap.size:=by omega
 go_region_held3 (λ w'=>rK0 w' w.heap.size p q) (first|exact zA HK _ (by with_reducible first|exact D5|exact F9|exact p9|exact s9)|(dsimp only[cK,cK0,nK,nK0,rK,rK0];go_keep)|go_keep)
  (first
   | (go_at_call 125;have hq:=p9;refine (hX _ ⟨m9,a1,n1,c1⟩ ⟨j6,a2,n2,c2⟩ (o8.bw j7) A5).mono ?_;rintro r' w3 ⟨u,rfl,A8,C7,o7⟩;have F9:=zB p9 o7;have HU:=zC A8;clear A8;obtain⟨q0,q1,q2,q3,q4,q5⟩:=R.bw F9;obtain⟨y0,y1⟩:=zA HK _ F9)
   | (go_at_call 33;have hq:=s9;refine (zD q _ (by omega) (by omega)).mono ?_;rintro r' w2 ⟨j6,a2,n2,c2,rfl,A5,j7⟩;have p9:=zB s9 j7)
   | (go_at_call 33;refine (zD p _ (by omega) (by omega)).mono ?_;rintro r' w1 ⟨m9,a1,n1,c1,rfl,o8,b9⟩;have s9:=zB D5 b9))
 all_goals
  go_wp2_with fail;refine bodyPost_ret (v:=.agg u.q) (by simp[results,Tryz.results80,go_sem,q0,q1,q2,q3,q4]) rfl ⟨u,rfl,zA HU,?_,?_⟩
  ·exact SpAt.put5 C7 q0 q1 q2 q3 q4 _ _ _ _ _
  ·exact jS (zB j8 F9) (Nat.le_succ _) _ _ _ _ _
theorem plog1_at (w:World) (B0:Nat) (p q:Int) (b:Nat) (o:Int × Int) (hr:rok p q) (hX:LogX 4 p q b 100 o) (D7:RaC w B0 p q) :
  Calls Tryz.prog 79 #[.int .i64 b,.pointer (some ⟨B0,0,none⟩)] w (zG w b 100 o.1 o.2):=by
 have l0:=D7.lt;obtain⟨y0,y1⟩:=D7;have R:=zS w 31;have HR:=zC hr;clear hr
 go_enter Tryz.func79,Tryz.ntmps79
 go_wp2_with fail;refine (zS7 _ p q b (zA HR) o hX).mono ?_;rintro r' w1 ⟨u,rfl,A8,C7,b9⟩;obtain⟨q0,q1,q2,q3,q4,q5⟩:=R.bw b9;have j8:Below w.heap.size w w1:=zB (bl1 _ _) b9;have HU:=zC A8;clear A8 y0 y1 b9;go_wp2_with fail;refine bodyPost_ret (v:=.agg u.q) (by simp[results,Tryz.results79,go_sem,q0,q1,q2,q3,q4]) rfl ⟨u,rfl,zA HU,?_,?_⟩
 ·exact SpAt.put5 C7 q0 q1 q2 q3 q4 _ _ _ _ _
 ·exact jS j8 (Zb _) _ _ _ _ _
theorem zKL (p q:Int) (b:Nat) (w:World) (hr:rok p q) (h5:8<=b) (h6:b<=120) (hp:0<p) (F:Nat->Int × Int) (hF:∀ B:Nat,b+32<=B->B<=b+150->zGS b p q B (F B).1 (F B).2/\LogX 4 p q B 100 (F B)) :
  Calls Tryz.prog 38 #[.agg #[.int .i64 p,.int .i64 q],.int .i64 b] w (λ r w'=>∃ L H,(zAI b (Fx (zGS b p q) F) L H/\SureD b (Fx (zGS b p q) F) L H)/\zLC w b 250 L H 0 r w'):=by
 have d1:zFO p q b=0:=by unfold zFO;rw[if_pos];exact⟨hr,by omega,by omega⟩
 have hq:0<q:=by have:=hr.2.2.1;omega
 have HR:=zC hr;have Gn:=zC hF;clear hF;obtain⟨r1,r2,r3,r4⟩:=hr;have hp':¬ p<=0:=by omega
 go_enter Tryz.func38,Tryz.ntmps38
 go_wp2_with (go_at_call 74;refine (yG _ _ _ (by simp) _ _ _ _).mono ?_;rintro r w1 ⟨rfl,b9⟩;rw[d1];obtain⟨C9,B9,D6⟩:=zZ (w.heap.size+1+1) (by simp) b9)
 have A:RaC w1 w.heap.size p q:=⟨by simp[B9,go_sem],by simp[B9,go_sem]⟩
 have R:NoC w1 (w.heap.size+1):=⟨by simp[B9,go_sem],by simp[B9,go_sem],by simp[B9,go_sem],by simp[B9,go_sem],by simp[B9,go_sem],λ o=>by simp[D6,go_sem]⟩
 have X9:Below w.heap.size w w1:=zB (bl2 _ _ _) b9;clear B9 D6 b9;have lA:=A.lt;have lR:=R.lt;obtain⟨x0,x1⟩:=A;go_wp2_with fail;refine (zFR _ #[.pointer (some ⟨w.heap.size,0,none⟩)] en_plog1 b 30 100 (Fx (zGS b p q) F) _ h6 (by omega) (by omega) (zLT (log_ends _ _ _) F) (λ m w' hm O2 _ M8=>?_)).mono ?_
 ·have eB:((b:Int)+(m:Int))=((b+m:Nat):Int):=by omega
  rw[eB];obtain⟨f1,f2⟩:=zA Gn (b+m) (by omega) (by omega)
  exact (plog1_at w' w.heap.size p q (b+m) (F (b+m)) (zA HR) f2 (RaC.bw ⟨x0,x1⟩ M8)).mono λ r' gH h=>⟨_,_,⟨f1,rfl,rfl⟩,h⟩
 rintro r' w3 ⟨L,H,pI,u,rfl,A8,C7,o7,W8⟩;have nX:=zC (W8.mono X9.size);clear W8;obtain⟨q0,q1,q2,q3,q4,q5⟩:=R.bw o7;replace X9:=zB X9 o7;have HU:=zC A8;have Gw:=zC pI;clear A8 pI;go_wp2_with fail;refine bodyPost_ret (v:=.tuple #[.agg u.q,.int .i64 0]) (by simp[results,Tryz.results38,go_sem,q0,q1,q2,q3,q4]) rfl ⟨L,H,zA Gw,u,rfl,zA HU,?_,?_,MineS.put5 (zA nX) _ _ _ _ _ _⟩
 ·exact SpAt.put5 C7 q0 q1 q2 q3 q4 _ _ _ _ _
 ·exact jS X9 (Nat.le_succ _) _ _ _ _ _
theorem exp_F {p q:Int} (hr:rok p q) (h7 : -(500*q)<=p) (h8:p<=500*q):∃ F:Nat->Int × Int,∀ B:Nat,40<=B->∃ (l:Int) (t N:Nat),(yR (zW (ofI p q B)) l/\(t:Int)=max 0 (l-B+8)/\t<=9+8/\Abs (zF (ofI p q B) t) (Q (B-8))/\zU (zV B (zF (ofI p q B) t)) N)/\F B=sqI B (zM (zV B (zF (ofI p q B) t)) N) t:=by
 have hq:0<q:=by have:=hr.2.2.1;omega
 refine pick (R:=λ B=>40<=B) (T:=λ B c=>∃ (l:Int) (t N:Nat),(yR (zW (ofI p q B)) l/\(t:Int)=max 0 (l-B+8)/\t<=9+8/\Abs (zF (ofI p q B) t) (Q (B-8))/\zU (zV B (zF (ofI p q B) t)) N)/\c=sqI B (zM (zV B (zF (ofI p q B) t)) N) t) λ B hB=>?_
 obtain⟨l,t,N,h⟩:=zC3 (B:=B) (e:=9) (by omega) (kO (n:=p) hq B) (zFM (n:=500) hq (by omega) (by omega) (by decide))
 exact⟨_,l,t,N,h,rfl⟩
theorem zRF (p q b:Int):Agn 37 #[.agg #[.int .i64 p,.int .i64 q],.int .i64 b] ((rok p q/\8<=b/\b<=120) /\ -(500*q)<=p/\p<=500*q) b (zAI b.toNat (zLA (λ _=>(p:Rat)/(q:Rat)) 1700 (eb (9+8)))):=by
 by_cases h:rok p q/\8<=b/\b<=120
 case neg=>exact zDU (λ o=>h o.1) λ w=>zKI p q b w h
 obtain⟨hr,h5,h6⟩:=h
 by_cases h2 : -(500*q)<=p/\p<=500*q
 case neg=>exact zDU (λ o=>h2 o.2) λ w=>zI1 p q b w hr h5 h6 h2
 obtain⟨B,rfl⟩:∃ B:Nat,b=(B:Int):=⟨b.toNat,by omega⟩
 obtain⟨F,hF⟩:=exp_F hr h2.1 h2.2;exact zJH (b:=B) (zRL _ F) (λ _ L H g=>by rw[show ((B:Int)).toNat=B by omega];exact fx_of g) λ w=>zKJ p q B w hr (by omega) (by omega) 500 9 h2.1 h2.2 (by omega) (by decide) (by omega) F hF
theorem log_F {p q:Int} {b:Nat} (hr:rok p q) (hp:0<p) (hb:b<=120):∃ F:Nat->Int × Int,∀ B:Nat,b+32<=B->B<=b+150->zGS b p q B (F B).1 (F B).2/\LogX 4 p q B 100 (F B):=by
 obtain⟨r1,r2,r3,r4⟩:=hr;have Vp:=big64
 obtain⟨F,hF⟩:=pick (R:=λ B=>b+32<=B/\B<=b+150) (T:=λ B c=>zGS b p q B c.1 c.2/\LogX 4 p q B 100 c) λ B hB=>by
  obtain⟨n',d',cc,N1,N2,a1,a2,a3,a4,a5,a6⟩:=zBH 4 B 80 p q (by omega) (by omega) (by omega) hp (by omega) (by omega) (by omega) (by
   rw[<- Q_P];have h1:=zH (show B+4+1<=16*80 by omega)
   have h2:Q (B+4+1)=2*Q (B+4):=rfl;have:=zE (B+4)
   omega) (by omega)
  obtain⟨m,rfl⟩:∃ m,B=b+m:=⟨B-b,by omega⟩
  exact⟨_,log_pr hb (by omega) (by omega) hp (by omega) a1 (by omega) (by omega) a4 a5,a6⟩
 exact⟨F,λ B h1 h2=>hF B ⟨h1,h2⟩⟩
theorem zSB (p q b:Int):Agn 38 #[.agg #[.int .i64 p,.int .i64 q],.int .i64 b] ((rok p q/\8<=b/\b<=120)/\0<p) b (zAI b.toNat (zGS b.toNat p q)):=by
 by_cases h:rok p q/\8<=b/\b<=120
 case neg=>exact zDU (λ o=>h o.1) λ w=>zKK p q b w h
 obtain⟨hr,h5,h6⟩:=h
 by_cases h2:0<p
 case neg=>exact zDU (λ o=>h2 o.2) λ w=>zI2 p q b w hr h5 h6 (by omega)
 obtain⟨B,rfl⟩:∃ B:Nat,b=(B:Int):=⟨b.toNat,by omega⟩
 obtain⟨F,hF⟩:=log_F (b:=B) hr h2 (by omega)
 exact zJH (b:=B) (zRL _ F) (λ _ L H g=>by rw[show ((B:Int)).toNat=B by omega];exact fx_of g) λ w=>zKL p q B w hr (by omega) (by omega) h2 F hF
theorem mas_b {x:Nat->Rat} {b:Nat} {L H:Int} (h:zAI b (zHQ x) L H):SuB x b L H:=su_b h λ B lo hi ⟨p1,p2,p3,p4,p5⟩=>⟨p4,p2,p5,p1⟩
theorem lbE_ok {k p q r s n d b:Int} (h0:yO k p q r s=0) (h1:rok n d) (h2:8<=b) (h3:b<=120):lbE k p q r s n d b=0:=by
 unfold lbE zFO;rw[if_pos h0,if_pos ⟨h1,h2,h3⟩]
theorem zSM {k p q r s b:Int} (h:zPS k p q r s 1 b=0):yO k p q r s=0/\(k=6\/k=7)/\8<=b/\b<=120:=by
 unfold zPS at h
 by_cases h0:yO k p q r s=0
 ·have hk:=law_k h0
  rw[if_neg (by simpa using h0)] at h
  split at h
  ·omega
  ·split at h
   ·omega
   ·exact⟨h0,by omega,by omega,by omega⟩
 ·rw[if_pos h0] at h;exact absurd h h0
theorem zNQ (k p q r s b:Int):Agn 19 #[.agg #[.int .i64 k,.int .i64 p,.int .i64 q,.int .i64 r,.int .i64 s],.int .i64 1,.int .i64 b] (k=6/\1<=p/\zPS k p q r s 1 b=0) b (SuB (λ _=>(((ch p.toNat 1:Int)*(r ^ 1*(s-r) ^ (p.toNat-1)):Int):Rat)/((s ^ p.toNat:Int):Rat)) b.toNat):=by
 by_cases hE:zPS k p q r s 1 b=0
 case neg=>exact zDU (λ o=>hE o.2.2) λ w=>mass_bad w k p q r s 1 b hE
 obtain⟨h0,hk,h8,WR⟩:=zSM hE;obtain⟨B,rfl⟩:∃ B:Nat,b=(B:Int):=⟨b.toNat,by omega⟩
 have key:∀ x:Nat->Rat,((k=6/\1<=p)->x=λ _=>(((ch p.toNat 1:Int)*(r ^ 1*(s-r) ^ (p.toNat-1)):Int):Rat)/((s ^ p.toNat:Int):Rat))->(∀ m:Nat,40<=m->m<=2000->∃ c:Int × Int,zHQ x m c.1 c.2/\∀ w:World,Calls Tryz.prog 57 #[.agg #[.int .i64 k,.int .i64 p,.int .i64 q,.int .i64 r,.int .i64 s],.int .i64 1,.int .i64 m] w (zG w m 6000 c.1 c.2))->Agn 19 #[.agg #[.int .i64 k,.int .i64 p,.int .i64 q,.int .i64 r,.int .i64 s],.int .i64 1,.int .i64 (B:Int)] (k=6/\1<=p/\zPS k p q r s 1 (B:Int)=0) (B:Int) (SuB (λ _=>(((ch p.toNat 1:Int)*(r ^ 1*(s-r) ^ (p.toNat-1)):Int):Rat)/((s ^ p.toNat:Int):Rat)) ((B:Int)).toNat):=λ x hx hc=>by
  obtain⟨F,hF⟩:=pick (R:=λ m=>40<=m/\m<=2000) (T:=λ m c=>zHQ x m c.1 c.2/\∀ w:World,Calls Tryz.prog 57 #[.agg #[.int .i64 k,.int .i64 p,.int .i64 q,.int .i64 r,.int .i64 s],.int .i64 1,.int .i64 m] w (zG w m 6000 c.1 c.2)) λ m hm=>hc m hm.1 hm.2
  exact zJH (b:=B) (masF_one x F) (λ o L H g=>by rw[show ((B:Int)).toNat=B by omega,<- hx ⟨o.1,o.2.1⟩];exact mas_b (zGL (λ _ _ _ g=>g.1) g)) λ w=>mass_det w k p q r s 1 B x F (by omega) (by omega) hE λ m h1 h2=>hF m ⟨h1,h2⟩
 rcases hk with rfl|rfl
 ·obtain⟨a,c,e,f,g,i⟩:=law_6 h0
  by_cases hp:p<1
  ·exact key _ (λ o=>absurd o.2 (by omega)) λ m h1 h2=>⟨_,of_pr (N:=0) (D:=1) m (by decide) (by decide) (by decide),λ w=>zRV w p q r s 1 m h2 (by omega) hp⟩
  ·obtain⟨P,rfl⟩:∃ P:Nat,p=(P:Int):=⟨p.toNat,by omega⟩
   have s1:=a.2.2.1;have O3:0<s ^ P:=Int.pow_pos (by omega)
   obtain⟨v0,v1⟩:=zUG (p:=P) (n:=1) (by omega) g i
   exact key _ (λ _=>by rw[show ((P:Int)).toNat=P by omega]) λ m h1 h2=>⟨_,of_pr m v0 O3 v1,λ w=>zLX w q r s P 1 m h2 (by omega) (by omega) g i (by omega) a.2.2.2⟩
 ·obtain⟨a,c,e⟩:=law_7 h0
  exact key (zGY p q 1) (λ o=>absurd o.1 (by decide)) λ m h1 h2=>by
   obtain⟨c,c1,c2⟩:=zPI p q 1 m a (by omega) e (by omega) h1 h2
   exact⟨c,c1,λ w=>zO0 w p q r s 1 m c c2⟩
theorem zGX (w:World):Calls Tryz.prog 36 #[] w λ r w'=>r=.returned (.bool true)/\Below w.heap.size w w':=by
 go_enter Tryz.func36,Tryz.ntmps36
 go_wp2_with fail;refine ((zRF 0 1 20).ok ⟨⟨⟨by omega,by omega,by omega,by omega⟩,by omega,by omega⟩,by omega,by omega⟩ _).mono ?_
 rintro r' w1 ⟨L,H,pI,s,rfl,oH,hs,b9⟩;obtain⟨g1,g2,g3,g4,g5⟩:=sure_exp pI;have hL:=zQS g1 g3 g2;have gO:=zC oH;clear pI g1 g3 g4 g5 oH;obtain⟨V,hV⟩:∃ V,V=w1.alloc (.cells s.q 31):=⟨_,rfl⟩;have bV:Below w1.heap.size w1 V:=by rw[hV];exact bl1 _ _
 have S:SpC V w1.heap.size s:=by rw[hV];exact yW w1 s _
 replace hs:=hs.bw bV;have hB:Below w.heap.size w V:=zB b9 bV;clear b9 bV;go_wp2_with fail;rw[<- hV];clear hV;refine ((zSB 1 1 20).ok ⟨⟨⟨by omega,by omega,by omega,by omega⟩,by omega,by omega⟩,by omega⟩ _).mono ?_
 rintro r' w2 ⟨L2,H2,BJ,t,rfl,J2,ht,j7⟩;obtain⟨f1,f2,f3,f4,f5⟩:=sure_log BJ;obtain⟨k1,k2⟩:=zQT f1;have ph:=zC J2;clear BJ f1 f3 f4 f5 J2;replace S:=S.bw j7;replace hs:=hs.bw j7;replace hB:=zB hB j7;clear j7;obtain⟨V2,P8⟩:∃ V2,V2=w2.alloc (.cells t.q 31):=⟨_,rfl⟩;have O6:Below w2.heap.size w2 V2:=by rw[P8];exact bl1 _ _
 have T:SpC V2 w2.heap.size t:=by rw[P8];exact yW w2 t _
 have lS:=S.lt;have x0:=S.c0;have x1:=S.c1;have x4:=S.c4;rw[zA gO] at x4;replace S:=S.bw O6;replace hs:=hs.bw O6;replace ht:=ht.bw O6;replace hB:=zB hB O6;clear O6;have c1:=cmp_pos hL;have c2:=cmp_npos k1;have c3:=cmp_nneg k2;go_wp2_with fail;rw[<- P8];clear P8 x0 x1 x4;refine (zAY _ _ _ _ 250 L _ hs.lo).mono ?_;rintro r' w3 ⟨rfl,o7⟩;replace T:=T.bw o7;replace ht:=ht.bw o7;replace hB:=zB hB o7;clear o7;have y0:=T.c0;have y1:=T.c1;go_wp2_with fail;refine (zAY _ _ _ _ 250 L2 _ ht.lo).mono ?_;rintro r' w4 ⟨rfl,y9⟩;replace T:=T.bw y9;replace ht:=ht.bw y9;replace hB:=zB hB y9;clear y9 y0 y1;have y2:=T.c2;have y3:=T.c3;go_wp2_with fail;refine (zAY _ _ _ _ 250 H2 _ ht.hi).mono ?_;rintro r' w5 ⟨rfl,D8⟩;replace T:=T.bw D8;replace hB:=zB hB D8;clear D8 y2 y3;have y4:=T.c4;rw[zA ph] at y4;go_wp2_with fail
 go_ret
 exact⟨by simp,hB⟩
theorem zJ1 (w:World):Calls Tryz.prog 9 #[] w λ r w'=>r=.returned (.bool true)/\Below w.heap.size w w':=by
 obtain⟨R,R2,L0,GG,X,hE⟩:=SE;have hl:yO 6 2 1 1 2=0:=by decide
 have HE:=zC hE;clear hE
 go_enter Tryz.func9,Tryz.ntmps9
 go_wp2_with fail;refine ((zJJ (zA HE) 6 2 1 1 2 1 1 20).ok ⟨rfl,lbE_ok hl ⟨by decide,by decide,by decide,by decide⟩ (by decide) (by decide)⟩ _).mono ?_
 rintro r' w1 ⟨L1,H1,hv,s,rfl,oH,hs,b9⟩
 have e3:lbX R R2 L0 GG 6 2 1 1 2 1 1=λ _=>((3:Int):Rat)/((4:Int):Rat):=by
  have:lbX R R2 L0 GG 6 2 1 1 2 1 1=coX (2:Int).toNat 1 2 1 1:=by unfold lbX;rfl
  rw[this]
  funext M
  have a:zDW (zGO ((2:Int).toNat:Nat) 1 2) (coN (2:Int).toNat 1 1)=3:=by decide
  have c:(2:Int) ^ (2:Int).toNat=4:=by decide
  unfold coX;rw[a,c]
 have Ts:=zC (zHO (a:=(L1,H1)) hv.v.val (by rw[e3];exact Iv.of 20 (n:=3) (d:=4) (by decide)))
 have le1:=hv.v.le;have HN:=zC hv.v.nar;have C:LwC w1 w.heap.size 6 2 1 1 2:=(yB w 6 2 1 1 2 _).bw b9;have hB:Below w.heap.size w w1:=zB (bl1 _ _) b9;have gO:=zC oH;clear b9 oH e3 hv;have lC:=C.lt;obtain⟨x0,x1,x2,x3,x4⟩:=C;go_wp2_with fail;refine ((zNQ 6 2 1 1 2 20).ok ⟨rfl,by decide,by decide⟩ _).mono ?_
 rintro r' w2 ⟨L2,H2,hv,t,rfl,J2,ht,j7⟩
 have Tt:=zC (zHO (a:=(L2,H2)) hv.v.val (by
  have i:=Iv.of 20 (n:=1) (d:=2) (by decide)
  exact Has.of_eq i λ M=>by decide +kernel))
 have S:SpC w2 w1.heap.size s:=(yW w1 s _).bw j7;replace hs:=(hs.bw (bl1 _ _)).bw j7;replace hB:=zB (zL hB _) j7;have ph:=zC J2;clear j7 J2 x0 x1 x2 x3 x4 hv;have lS:=S.lt;have S2:=S;have lS2:=S2.lt;obtain⟨V,hV⟩:∃ V,V=w2.alloc (.cells t.q 31):=⟨_,rfl⟩;have bV:Below w2.heap.size w2 V:=by rw[hV];exact bl1 _ _
 have T:SpC V w2.heap.size t:=by rw[hV];exact yW _ _ _
 replace S:=S.bw bV;replace hs:=hs.bw bV;replace ht:=ht.bw bV;replace hB:=zB hB bV;clear bV lS;have lS:=S.lt;have lT:=T.lt;obtain⟨x0,x1,x2,x3,x4⟩:=S2;go_wp2_with fail;rw[<- hV];refine (zKP _ s).mono ?_;rintro r' w3 ⟨rfl,o7⟩;clear hV x0 x1 x2 x3 x4;replace S:=S.bw o7;replace T:=T.bw o7;replace hB:=zB hB o7;replace hs:=hs.bw o7;replace ht:=ht.bw o7;clear o7;go_wp2_with fail;refine (zD 3 _ (by decide) (by decide)).mono ?_
 rintro r' w4 ⟨E6,a4,n4,c4,rfl,I2,y9⟩;replace S:=S.bw y9;replace T:=T.bw y9;replace hB:=zB hB y9;replace hs:=hs.bw y9;replace ht:=ht.bw y9;clear y9;go_wp2_with fail;refine (zD 4 _ (by decide) (by decide)).mono ?_
 rintro r' w5 ⟨L4,a5,n5,c5,rfl,P9,D8⟩;replace I2:=I2.bw D8;replace S:=S.bw D8;replace T:=T.bw D8;replace hB:=zB hB D8;replace hs:=hs.bw D8;replace ht:=ht.bw D8;clear D8;go_wp2_with fail;refine (zEL _ _ _ _ _ _ _ _ 4 4 20 3 4 _ I2 P9 (by omega) (by omega) (by omega) (by decide) (λ j9 a' n' m7 w' p1 p2=>zAB _ _ _ _ _ _ _ _ _ 4 _ _ w' p1 p2 (by omega) (by decide))).mono ?_
 rintro r' w6 ⟨u,rfl,A8,C7,K8⟩;have iZ:=zC A8;clear A8;replace S:=S.bw K8;replace T:=T.bw K8;replace hB:=zB hB K8;replace hs:=hs.bw K8;replace ht:=ht.bw K8;clear K8;go_wp2_with fail;refine (touch_le _ s u 250 0 0 L1 H1 _ _ hs (C7.mono (by omega)) (by omega) (by have:=zA gO;omega) (by have:=zA gO;omega) (by have:=zA iZ;omega) (by have:=zA iZ;omega) (by have:=zA gO;have:=zA iZ;omega) (by omega) (by have:=zA gO;have:=zA iZ;omega)).mono ?_
 rintro r' w7 ⟨rfl,W5⟩;rw[show touB L1 H1 0 ((3:Int)*Q 20/4) (-(-((3:Int)*Q 20)/4)) 0=true from zA Ts]
 clear iZ C7 P9 I2;replace S:=S.bw W5;replace T:=T.bw W5;replace hB:=zB hB W5;replace hs:=hs.bw W5;replace ht:=ht.bw W5;clear W5;obtain⟨x0,x1,x2,x3,x4⟩:=S;obtain⟨y0,y1,y2,y3,y4⟩:=T;go_wp2_with fail;refine (zKP _ t).mono ?_;rintro r' w8 ⟨rfl,Z7⟩;have S:=SpC.mk x0 x1 x2 x3 x4;have T:=SpC.mk y0 y1 y2 y3 y4;clear x0 x1 x2 x3 x4 y0 y1 y2 y3 y4;replace S:=S.bw Z7;replace T:=T.bw Z7;replace hB:=zB hB Z7;replace hs:=hs.bw Z7;replace ht:=ht.bw Z7;clear Z7;go_wp2_with fail;refine (zD 1 _ (by decide) (by decide)).mono ?_
 rintro r' w9 ⟨neg9,a9,n9,c9,rfl,Fa,ah⟩;replace S:=S.bw ah;replace T:=T.bw ah;replace hB:=zB hB ah;replace hs:=hs.bw ah;replace ht:=ht.bw ah;clear ah;go_wp2_with fail;refine (zD 2 _ (by decide) (by decide)).mono ?_
 rintro r' iE ⟨RI,Oz,Dn,jk,rfl,BW,O8⟩;replace Fa:=Fa.bw O8;replace S:=S.bw O8;replace T:=T.bw O8;replace hB:=zB hB O8;replace hs:=hs.bw O8;replace ht:=ht.bw O8;clear O8;go_wp2_with fail;refine (zEL _ _ _ _ _ _ _ _ 4 4 20 1 2 _ Fa BW (by omega) (by omega) (by omega) (by decide) (λ j9 a' n' m7 w' p1 p2=>zAB _ _ _ _ _ _ _ _ _ 4 _ _ w' p1 p2 (by omega) (by decide))).mono ?_
 rintro r' w11 ⟨u,rfl,A8,C7,gZ⟩;have iZ:=zC A8;clear A8;replace S:=S.bw gZ;replace T:=T.bw gZ;replace hB:=zB hB gZ;replace hs:=hs.bw gZ;replace ht:=ht.bw gZ;clear gZ;go_wp2_with fail;refine (touch_le _ t u 250 0 0 L2 H2 _ _ ht (C7.mono (by omega)) (by omega) (by have:=zA ph;omega) (by have:=zA ph;omega) (by have:=zA iZ;omega) (by have:=zA iZ;omega) (by have:=zA ph;have:=zA iZ;omega) (by omega) (by have:=zA ph;have:=zA iZ;omega)).mono ?_
 rintro r' w12 ⟨rfl,aR⟩;rw[show touB L2 H2 0 ((1:Int)*Q 20/2) (-(-((1:Int)*Q 20)/2)) 0=true from zA Tt]
 clear iZ C7 BW Fa;replace S:=S.bw aR;replace T:=T.bw aR;replace hB:=zB hB aR;replace hs:=hs.bw aR;replace ht:=ht.bw aR;clear aR;obtain⟨x0,x1,x2,x3,x4⟩:=S;obtain⟨y0,y1,y2,y3,y4⟩:=T;go_wp2_with fail;refine (zIX _ s 20 L1 H1 hs (zA gO) (by omega) le1 (zA HN)).mono ?_
 rintro r' wz ⟨rfl,PS⟩;replace hB:=zB hB PS;go_wp2_with fail
 go_ret
 exact⟨rfl,hB⟩
theorem zJ2 (e f k p q r s n d bt:Int) (w:World) :
  Calls Tryz.prog 7 #[.agg #[.int .i64 e,.int .i64 f],.agg #[.int .i64 k,.int .i64 p,.int .i64 q,.int .i64 r,.int .i64 s],.agg #[.int .i64 n,.int .i64 d],.int .i64 bt] w λ z w'=>z=.returned (.bool true)/\Below w.heap.size w w':=by
 obtain⟨Q1,Q2,Q3,Q4,Q5,hE⟩:=SE;obtain⟨R0,g0,nO⟩:=zRF e f bt;obtain⟨R1,g1,Ge⟩:=zSB e f bt;obtain⟨R2,g2,Gf⟩:=zJJ hE k p q r s n d bt;obtain⟨R3,g3,Gg⟩:=zNQ k p q r s bt;replace nO:=zC nO;replace Ge:=zC Ge;replace Gf:=zC Gf;replace Gg:=zC Gg;have UQ:=zC (show ∀ j,j<4->∀ b l h b' l' h',pq4 R0 R1 R2 R3 j b l h->pq4 R0 R1 R2 R3 j b' l' h'->b=b'/\l=l'/\h=h' from zGV g0 g1 g2 g3)
 clear hE g0 g1 g2 g3;obtain⟨W,hW⟩:∃ W,W=((w.alloc (.cells #[.int .i64 e,.int .i64 f] 23)).alloc (.cells #[.int .i64 k,.int .i64 p,.int .i64 q,.int .i64 r,.int .i64 s] 25)).alloc (.cells #[.int .i64 n,.int .i64 d] 23):=⟨_,rfl⟩;have j8:Below w.heap.size w W:=by rw[hW];exact bl3 _ _ _ _
 have A:RaC W w.heap.size e f:=by rw[hW];constructor<;>simp[go_sem]
 have G:LwC W (w.heap.size+1) k p q r s:=by rw[hW];constructor<;>simp[go_sem]
 have D:RaC W (w.heap.size+1+1) n d:=by rw[hW];constructor<;>simp[go_sem]
 go_enter Tryz.func7,Tryz.ntmps7
 go_wp2_with fail;rw[<- hW];clear hW;refine (zGX _).mono ?_;rintro z w0 ⟨rfl,E8⟩;replace A:=A.bw E8;replace G:=G.bw E8;replace D:=D.bw E8;replace j8:=zB j8 E8;clear E8;go_wp2_with fail;refine (zJ1 _).mono ?_;rintro z V ⟨rfl,E8⟩;replace A:=A.bw E8;replace G:=G.bw E8;replace D:=D.bw E8;replace j8:=zB j8 E8;clear E8;go_wp2_with fail
 go_loopw [9,10] (λ was ii wr=>∃ i:Nat,i<=2/\ii=.int .i64 i/\Below V.heap.size V wr/\(i=0\/∃ (g cap:Nat) (f:Nat->Sp) (bb LL HH:Nat->Int),was=.slice (some ⟨g,0,none⟩) 4 cap/\RowC wr g 4 f/\∀ j,j<4->(SpAt wr (f j) 70000 (LL j) (HH j)/\(f j).bits=bb j)/\pq4 R0 R1 R2 R3 j (bb j) (LL j) (HH j))) (λ _ ii _=>2-(intOf ii).toNat)
 case atStart=>exact⟨0,by omega,rfl,Below.refl _ _,Or.inl rfl⟩
 case round =>
  obtain⟨i,hi,rfl,hB,BV⟩:=hrel;have HW:=zC BV;clear BV
  by_cases I9:i<2
  ·have ve:(i:Int)<2:=by omega
   obtain⟨x0,x1⟩:=A.bw hB;obtain⟨y0,y1,y2,y3,y4⟩:=G.bw hB;obtain⟨z0,z1⟩:=D.bw hB;have lX:=(A.bw hB).lt;have lY:=(G.bw hB).lt;have lZ:=(D.bw hB).lt;go_wp2_with fail;refine (zA nO _).mono ?_;rintro z w1 ⟨b0,L0,H0,er0,⟨iC,_⟩,u0,rfl,A8,C7,hb,fr⟩;have NI:=zC (zMT (C7.mono (by omega)) A8 fr)
   have Ay:=zC iC;have og:Below wr.heap.size wr w1:=hb;have s9:=zB hB hb;clear A8 C7 hb fr iC x0 x1 y0 y1 y2 y3 y4 z0 z1 lX lY lZ;obtain⟨x0,x1⟩:=A.bw s9;obtain⟨y0,y1,y2,y3,y4⟩:=G.bw s9;obtain⟨z0,z1⟩:=D.bw s9;have lX:=(A.bw s9).lt;have lY:=(G.bw s9).lt;have lZ:=(D.bw s9).lt;obtain⟨V1,L8⟩:∃ V',V'=w1.alloc (.cells u0.q 31):=⟨_,rfl⟩;have kx:Below w1.heap.size w1 V1:=by rw[L8];exact bl1 _ _
   have U0:SpC V1 w1.heap.size u0:=by rw[L8];exact yW _ _ _
   have A6:=zB s9 kx;go_wp2_with fail;rw[<- L8];clear L8;refine (zA Ge _).mono ?_;rintro z w2 ⟨b1,L1,H1,er1,⟨DK,_⟩,u1,rfl,A8,C7,hb,fr⟩;have NJ:=zC (zMT (C7.mono (by omega)) A8 fr)
   have AD:=zC DK;have dL:Below V1.heap.size V1 w2:=hb;have p9:=zB A6 hb;clear A8 C7 hb fr DK x0 x1 y0 y1 y2 y3 y4 z0 z1 lX lY lZ;obtain⟨x0,x1⟩:=A.bw p9;obtain⟨y0,y1,y2,y3,y4⟩:=G.bw p9;obtain⟨z0,z1⟩:=D.bw p9;have lX:=(A.bw p9).lt;have lY:=(G.bw p9).lt;have lZ:=(D.bw p9).lt;obtain⟨V2,P8⟩:∃ V',V'=w2.alloc (.cells u1.q 31):=⟨_,rfl⟩;have lf:Below w2.heap.size w2 V2:=by rw[P8];exact bl1 _ _
   have U1:SpC V2 w2.heap.size u1:=by rw[P8];exact yW _ _ _
   have o9:=zB p9 lf;go_wp2_with fail;rw[<- P8];clear P8;refine (zA Gf _).mono ?_;rintro z w3 ⟨b2,L2,H2,er2,⟨DL,_⟩,u2,rfl,A8,C7,hb,fr⟩;have NK:=zC (zMT (C7.mono (by omega)) A8 fr)
   have AE:=zC DL;have sI:Below V2.heap.size V2 w3:=hb;have F9:=zB o9 hb;clear A8 C7 hb fr DL x0 x1 y0 y1 y2 y3 y4 z0 z1 lX lY lZ;obtain⟨x0,x1⟩:=A.bw F9;obtain⟨y0,y1,y2,y3,y4⟩:=G.bw F9;obtain⟨z0,z1⟩:=D.bw F9;have lX:=(A.bw F9).lt;have lY:=(G.bw F9).lt;have lZ:=(D.bw F9).lt;obtain⟨V3,I6⟩:∃ V',V'=w3.alloc (.cells u2.q 31):=⟨_,rfl⟩;have cq:Below w3.heap.size w3 V3:=by rw[I6];exact bl1 _ _
   have U2:SpC V3 w3.heap.size u2:=by rw[I6];exact yW _ _ _
   have D3:=zB F9 cq;go_wp2_with fail;rw[<- I6];clear I6;refine (zA Gg _).mono ?_;rintro z w4 ⟨b3,L3,H3,er3,⟨DM,_⟩,u3,rfl,A8,C7,hb,fr⟩;have NL:=zC (zMT (C7.mono (by omega)) A8 fr)
   have AF:=zC DM;have sJ:Below V3.heap.size V3 w4:=hb;have I5:=zB D3 hb;clear A8 C7 hb fr DM x0 x1 y0 y1 y2 y3 y4 z0 z1 lX lY lZ;obtain⟨x0,x1⟩:=A.bw I5;obtain⟨y0,y1,y2,y3,y4⟩:=G.bw I5;obtain⟨z0,z1⟩:=D.bw I5;have lX:=(A.bw I5).lt;have lY:=(G.bw I5).lt;have lZ:=(D.bw I5).lt;obtain⟨V4,nt⟩:∃ V',V'=w4.alloc (.cells u3.q 31):=⟨_,rfl⟩;have lj:Below w4.heap.size w4 V4:=by rw[nt];exact bl1 _ _
   have U3:SpC V4 w4.heap.size u3:=by rw[nt];exact yW _ _ _
   have I1:=zB I5 lj;have Z2:Below V3.heap.size V3 w4:=sJ;have Z1:Below V2.heap.size V2 w4:=zB sI (zB cq Z2);have Z0:Below V1.heap.size V1 w4:=zB dL (zB lf Z1);have l0:=(U0.bw Z0).lt;obtain⟨TM,TN,TP,TQ,TR⟩:=U0.bw Z0;have l1:=(U1.bw Z1).lt;obtain⟨Oz,TS,TT,TV,TW⟩:=U1.bw Z1;have l2:=(U2.bw Z2).lt;obtain⟨TY,TZ,Va,Vb,Vc⟩:=U2.bw Z2;go_wp2_with fail;rw[<- nt];obtain⟨w8,h8⟩:∃ w',w'=V4.alloc (.cells #[.bool u0.ln,.slice u0.la u0.lN u0.lc,.bool u0.hn,.slice u0.ha u0.hN u0.hc,.int .i64 u0.bits,.bool u1.ln,.slice u1.la u1.lN u1.lc,.bool u1.hn,.slice u1.ha u1.hN u1.hc,.int .i64 u1.bits,.bool u2.ln,.slice u2.la u2.lN u2.lc,.bool u2.hn,.slice u2.ha u2.hN u2.hc,.int .i64 u2.bits,.bool u3.ln,.slice u3.la u3.lN u3.lc,.bool u3.hn,.slice u3.ha u3.hN u3.hc,.int .i64 u3.bits] 31):=⟨_,rfl⟩;have rowN:RowC w8 V4.heap.size 4 (pq4 u0 u1 u2 u3):=by rw[h8];exact row_new _ _ _ _ 4 rfl
   have Il:Below V4.heap.size V4 w8:=by rw[h8];exact bl1 _ _
   have s4:V4.heap.size=w4.heap.size+1:=by rw[nt];simp
   try rw[<- s4]
   rw[<- h8];obtain⟨gN,hgN⟩:∃ g,g=V4.heap.size:=⟨_,rfl⟩;rw[<- hgN] at rowN ⊢;have HgN:=zC (show V4.heap.size<=gN from Nat.le_of_eq hgN.symm)
   clear hgN h8 s4;clear TM TN TP TQ TR l0;clear Oz TS TT TV TW l1;clear TY TZ Va Vb Vc l2;clear x0 x1 y0 y1 y2 y3 y4 z0 z1 lX lY lZ;have Y4:Below V4.heap.size V4 w8:=Il;have Y3:Below V3.heap.size V3 w8:=zB sJ (zB lj Y4);have Y2:Below V2.heap.size V2 w8:=zB sI (zB cq Y3);have Y1:Below V1.heap.size V1 w8:=zB dL (zB lf Y2);have t0:wr.heap.size<=V1.heap.size:=Nat.le_trans og.size kx.size;have ND:=(((zA NI).bw kx).wide kx.size (Zb _)).bw Y1;have t1:V1.heap.size<=V2.heap.size:=Nat.le_trans dL.size lf.size;have NF:=(((zA NJ).bw lf).wide lf.size (Zb _)).bw Y2;have t2:V2.heap.size<=V3.heap.size:=Nat.le_trans sI.size cq.size;have NG:=(((zA NK).bw cq).wide cq.size (Zb _)).bw Y3;have t3:V3.heap.size<=V4.heap.size:=Nat.le_trans sJ.size lj.size;have NH:=(((zA NL).bw lj).wide lj.size (Zb _)).bw Y4;have Af:=zC (show ∀ j,j<4->An w8 ((pq4 wr.heap.size V1.heap.size V2.heap.size V3.heap.size) j) ((pq4 V1.heap.size V2.heap.size V3.heap.size V4.heap.size) j) ((pq4 u0 u1 u2 u3) j) ((pq4 b0 b1 b2 b3) j) ((pq4 L0 L1 L2 L3) j) ((pq4 H0 H1 H2 H3) j) from zGV ND NF NG NH)
   have Ax:=zC (show ∀ j,j<4->pq4 R0 R1 R2 R3 j ((pq4 b0 b1 b2 b3) j) ((pq4 L0 L1 L2 L3) j) ((pq4 H0 H1 H2 H3) j) from zGV (zA Ay) (zA AD) (zA AE) (zA AF))
   have t9:V.heap.size<=wr.heap.size:=hB.size;have Av:=zC (show ∀ j,j<4->V.heap.size<=(pq4 wr.heap.size V1.heap.size V2.heap.size V3.heap.size) j from zGV (by simp only[pq4];omega) (by simp only[pq4];omega) (by simp only[pq4];omega) (by simp only[pq4];omega))
   have Aw:=zC (show ∀ j,j<4->(pq4 V1.heap.size V2.heap.size V3.heap.size V4.heap.size) j<=V4.heap.size from zGV (by simp only[pq4];omega) (by simp only[pq4];omega) (by simp only[pq4];omega) (by simp only[pq4];omega))
   have GI:=zC (show ∀ j,j<4->∀ k,k<4->k<j->(pq4 V1.heap.size V2.heap.size V3.heap.size V4.heap.size) k<=(pq4 wr.heap.size V1.heap.size V2.heap.size V3.heap.size) j from zGV (zGV (by intro h;simp only[pq4];omega) (by intro h;simp only[pq4];omega) (by intro h;simp only[pq4];omega) (by intro h;simp only[pq4];omega)) (zGV (by intro h;simp only[pq4];omega) (by intro h;simp only[pq4];omega) (by intro h;simp only[pq4];omega) (by intro h;simp only[pq4];omega)) (zGV (by intro h;simp only[pq4];omega) (by intro h;simp only[pq4];omega) (by intro h;simp only[pq4];omega) (by intro h;simp only[pq4];omega)) (zGV (by intro h;simp only[pq4];omega) (by intro h;simp only[pq4];omega) (by intro h;simp only[pq4];omega) (by intro h;simp only[pq4];omega)))
   have gR:Below V.heap.size V w8:=zB I1 Il;have Iy:Below wr.heap.size wr w8:=zB og (zB kx Y1);clear ND NI U0 Ay NF NJ U1 AD NG NK U2 AE NH NL U3 AF Z0 Z1 Z2 Y1 Y2 Y3 Y4 og s9 kx dL p9 lf sI F9 cq sJ I5 lj A6 o9 D3 I1 Il nt;obtain⟨RL,EX⟩:∃ R,R=(pq4 wr.heap.size V1.heap.size V2.heap.size V3.heap.size):=⟨_,rfl⟩;obtain⟨RH,EW⟩:∃ R,R=(pq4 V1.heap.size V2.heap.size V3.heap.size V4.heap.size):=⟨_,rfl⟩;obtain⟨fN,hfN⟩:∃ R,R=(pq4 u0 u1 u2 u3):=⟨_,rfl⟩;obtain⟨bN,hbN⟩:∃ R,R=(pq4 b0 b1 b2 b3):=⟨_,rfl⟩;obtain⟨LN,Ir⟩:∃ R,R=(pq4 L0 L1 L2 L3):=⟨_,rfl⟩;obtain⟨HN,Im⟩:∃ R,R=(pq4 H0 H1 H2 H3):=⟨_,rfl⟩;rw[<- EX,<- EW,<- hfN,<- hbN,<- Ir,<- Im] at Af;rw[<- hbN,<- Ir,<- Im] at Ax;rw[<- EX] at Av;rw[<- EW] at Aw;rw[<- EX,<- EW] at GI;rw[<- hfN] at rowN;clear EX EW hfN hbN Ir Im t0 t1 t2 t3 t9;go_wp2_with fail
   go_loopw [20] (λ kk wq=>∃ k:Nat,k<=4/\kk=.int .i64 k/\Below w8.heap.size w8 wq) (λ kk _=>4-(intOf kk).toNat)
   case atStart=>exact⟨0,by omega,rfl,Below.refl _ _⟩
   case round =>
    obtain⟨k,hk,rfl,hq⟩:=hrel
    by_cases G1:k<4
    ·have Jp:(k:Int)<4:=by omega
     rcases (show i=0\/i=1 by omega) with rfl|rfl
     ·go_wp2_with fail
      go_quiet (fail)
      go_wp2_with fail
      go_roundw
      case rel =>
       go_light
       first|refine⟨_,_,_,_,_,_,_,_,_,_,_,_,_,_,⟨k+1,G1,rfl,?_⟩,rfl⟩|refine⟨_,_,_,_,_,_,_,_,_,_,_,_,_,_,_,⟨k+1,G1,rfl,?_⟩,rfl⟩|refine⟨_,_,_,_,_,_,_,_,_,_,_,_,_,_,_,_,⟨k+1,G1,rfl,?_⟩,rfl⟩|refine⟨_,_,_,_,_,_,_,_,_,_,_,_,_,_,_,_,_,⟨k+1,G1,rfl,?_⟩,rfl⟩|refine⟨_,_,_,_,_,_,_,_,_,_,_,_,_,_,_,_,_,_,⟨k+1,G1,rfl,?_⟩,rfl⟩|refine⟨_,_,_,_,_,_,_,_,_,_,_,_,_,_,_,_,_,_,_,⟨k+1,G1,rfl,?_⟩,rfl⟩|refine⟨_,_,_,_,_,_,_,_,_,_,_,_,_,_,_,_,_,_,_,_,⟨k+1,G1,rfl,?_⟩,rfl⟩|refine⟨_,_,_,_,_,_,_,_,_,_,_,_,_,_,_,_,_,_,_,_,_,⟨k+1,G1,rfl,?_⟩,rfl⟩|refine⟨_,_,_,_,_,_,_,_,_,_,_,_,_,_,_,_,_,_,_,_,_,_,⟨k+1,G1,rfl,?_⟩,rfl⟩|refine⟨_,_,_,_,_,_,_,_,_,_,_,_,_,_,_,_,_,_,_,_,_,_,_,⟨k+1,G1,rfl,?_⟩,rfl⟩|refine⟨_,_,_,_,_,_,_,_,_,_,_,_,_,_,_,_,_,_,_,_,_,_,_,_,⟨k+1,G1,rfl,?_⟩,rfl⟩|refine⟨_,_,_,_,_,_,_,_,_,_,_,_,_,_,_,_,_,_,_,_,_,_,_,_,_,⟨k+1,G1,rfl,?_⟩,rfl⟩|refine⟨_,_,_,_,_,_,_,_,_,_,_,_,_,_,_,_,_,_,_,_,_,_,_,_,_,_,⟨k+1,G1,rfl,?_⟩,rfl⟩
       exact hq.trans ⟨rfl,rfl,rfl,Zb _,λ _ _=>rfl⟩
      case measure =>
       show 4-(intOf (Value.int IntKind.i64 ((k:Int)+1))).toNat<4-(intOf (Value.int IntKind.i64 (k:Int))).toNat
       exact meas4 G1
     ·rcases zA HW with h|⟨gW,cW,fW,bb,LL,HH,rfl,rowW,valW⟩
      ·omega
      have rW:=(rowW.bw Iy).bw hq;obtain⟨⟨Ky,Kz⟩,Sl⟩:=valW k G1;obtain⟨m1,m2,m3⟩:=zA UQ k G1 _ _ _ _ _ _ Sl (zA Ax k G1);rw[m2,m3] at Ky;rw[m1] at Kz;have SW:=zC ((Ky.bw Iy).bw hq);have SN:=zC ((zA Af k G1).at_.bw hq);have BB:=zC ((zA Af k G1).bits.trans Kz.symm);have Oe:=zC (show ∀ w',Below wr.heap.size wr w'->(w'.cell? ⟨gN,k*5,none⟩=some (.bool (fN k).ln)/\w'.cell? ⟨gN,k*5+1,none⟩=some (.slice (fN k).la (fN k).lN (fN k).lc)/\w'.cell? ⟨gN,k*5+2,none⟩=some (.bool (fN k).hn)/\w'.cell? ⟨gN,k*5+3,none⟩=some (.slice (fN k).ha (fN k).hN (fN k).hc)/\w'.cell? ⟨gN,k*5+4,none⟩=some (.int .i64 (fN k).bits)/\w'.cell? ⟨gW,k*5,none⟩=some (.bool (fW k).ln)/\w'.cell? ⟨gW,k*5+1,none⟩=some (.slice (fW k).la (fW k).lN (fW k).lc)/\w'.cell? ⟨gW,k*5+2,none⟩=some (.bool (fW k).hn)/\w'.cell? ⟨gW,k*5+3,none⟩=some (.slice (fW k).ha (fW k).hN (fW k).hc)/\w'.cell? ⟨gW,k*5+4,none⟩=some (.int .i64 (fW k).bits)) from λ w' hb=>⟨((rowN.bw hq).bw hb).c0 k G1,((rowN.bw hq).bw hb).c1 k G1,((rowN.bw hq).bw hb).c2 k G1,((rowN.bw hq).bw hb).c3 k G1,((rowN.bw hq).bw hb).c4 k G1,(rW.bw hb).c0 k G1,(rW.bw hb).c1 k G1,(rW.bw hb).c2 k G1,(rW.bw hb).c3 k G1,(rW.bw hb).c4 k G1⟩)
      have lN:=(rowN.bw hq).lt;have lW:=rW.lt;have bA:(0:Int)<=(k:Int):=by omega
      obtain⟨n0,n1,n2,n3,n4,n5,n6,n7,n8,n9⟩:=zA Oe _ (Below.refl _ _);clear rW Ky Kz Sl m1 m2 m3 rowW valW HW;go_wp2_with fail
      go_region_held3 (λ w'=>w'.cell? ⟨gN,k*5,none⟩=some (.bool (fN k).ln)/\w'.cell? ⟨gN,k*5+1,none⟩=some (.slice (fN k).la (fN k).lN (fN k).lc)/\w'.cell? ⟨gN,k*5+2,none⟩=some (.bool (fN k).hn)/\w'.cell? ⟨gN,k*5+3,none⟩=some (.slice (fN k).ha (fN k).hN (fN k).hc)/\w'.cell? ⟨gN,k*5+4,none⟩=some (.int .i64 (fN k).bits)/\w'.cell? ⟨gW,k*5,none⟩=some (.bool (fW k).ln)/\w'.cell? ⟨gW,k*5+1,none⟩=some (.slice (fW k).la (fW k).lN (fW k).lc)/\w'.cell? ⟨gW,k*5+2,none⟩=some (.bool (fW k).hn)/\w'.cell? ⟨gW,k*5+3,none⟩=some (.slice (fW k).ha (fW k).hN (fW k).hc)/\w'.cell? ⟨gW,k*5+4,none⟩=some (.int .i64 (fW k).bits)) (exact zA Oe _ (by repeat' (first|with_reducible exact BR|with_reducible exact Below.refl _ _|with_reducible refine Below.drew ?_)))
       (first|(go_at_call 39;refine (zTL _ (fN k) (fW k) 70000 _ _ ((zA SN).bw (by repeat' (first|with_reducible exact Below.refl _ _|with_reducible refine Below.drew ?_))) ((zA SW).bw (by repeat' (first|with_reducible exact Below.refl _ _|with_reducible refine Below.drew ?_))) (zA BB)).mono ?_;rintro r wX ⟨rfl,hbX⟩;have BR:Below wr.heap.size wr wX:=zB (by repeat' (first|with_reducible exact Below.refl _ _|with_reducible refine Below.drew ?_)) hbX))
      all_goals
       go_wp2_with fail
       go_roundw
       case rel =>
        go_light
        first|refine⟨_,_,_,_,_,_,_,_,_,_,_,_,_,_,⟨k+1,G1,rfl,?_⟩,rfl⟩|refine⟨_,_,_,_,_,_,_,_,_,_,_,_,_,_,_,⟨k+1,G1,rfl,?_⟩,rfl⟩|refine⟨_,_,_,_,_,_,_,_,_,_,_,_,_,_,_,_,⟨k+1,G1,rfl,?_⟩,rfl⟩|refine⟨_,_,_,_,_,_,_,_,_,_,_,_,_,_,_,_,_,⟨k+1,G1,rfl,?_⟩,rfl⟩|refine⟨_,_,_,_,_,_,_,_,_,_,_,_,_,_,_,_,_,_,⟨k+1,G1,rfl,?_⟩,rfl⟩|refine⟨_,_,_,_,_,_,_,_,_,_,_,_,_,_,_,_,_,_,_,⟨k+1,G1,rfl,?_⟩,rfl⟩|refine⟨_,_,_,_,_,_,_,_,_,_,_,_,_,_,_,_,_,_,_,_,⟨k+1,G1,rfl,?_⟩,rfl⟩|refine⟨_,_,_,_,_,_,_,_,_,_,_,_,_,_,_,_,_,_,_,_,_,⟨k+1,G1,rfl,?_⟩,rfl⟩|refine⟨_,_,_,_,_,_,_,_,_,_,_,_,_,_,_,_,_,_,_,_,_,_,⟨k+1,G1,rfl,?_⟩,rfl⟩|refine⟨_,_,_,_,_,_,_,_,_,_,_,_,_,_,_,_,_,_,_,_,_,_,_,⟨k+1,G1,rfl,?_⟩,rfl⟩|refine⟨_,_,_,_,_,_,_,_,_,_,_,_,_,_,_,_,_,_,_,_,_,_,_,_,⟨k+1,G1,rfl,?_⟩,rfl⟩|refine⟨_,_,_,_,_,_,_,_,_,_,_,_,_,_,_,_,_,_,_,_,_,_,_,_,_,⟨k+1,G1,rfl,?_⟩,rfl⟩|refine⟨_,_,_,_,_,_,_,_,_,_,_,_,_,_,_,_,_,_,_,_,_,_,_,_,_,_,⟨k+1,G1,rfl,?_⟩,rfl⟩
        exact zB hq BR
       case measure =>
        show 4-(intOf (Value.int IntKind.i64 ((k:Int)+1))).toNat<4-(intOf (Value.int IntKind.i64 (k:Int))).toNat
        exact meas4 G1
    ·have hkE:k=4:=by omega
     subst hkE;have KK:=zC (show SplK V wr.heap.size gN V4.heap.size RL RH from⟨zA Av,zA Aw,zA GI,zA HgN,(rowN.bw hq).lt,Nat.le_trans gR.size hq.size⟩)
     have S0:Spl V wr.heap.size gN RL RH fN bN LN HN 0 none 0 fN wr:=⟨OwnS.nil _ _ _,λ j hj=>absurd hj (Nat.not_lt_zero j),λ j hj=>absurd hj (Nat.not_lt_zero j),λ j _ h2=>(zA Af j h2).bw hq,rowN.bw hq,zB gR hq,Zb _⟩
     clear Af Av Aw GI rowN gR Iy HW hq hk G1;obtain⟨Wq,Xw⟩:∃ W,W=wr:=⟨_,rfl⟩;subst Xw;go_wp2_with fail
     go_loopw [9,21] (λ was kk wq=>∃ (k:Nat) (a:Option Addr) (cap:Nat) (f:Nat->Sp),k<=4/\kk=.int .i64 k/\was=.slice a k cap/\Spl V Wq.heap.size gN RL RH fN bN LN HN k a cap f wq) (λ _ kk _=>4-(intOf kk).toNat)
     case atStart=>exact⟨0,none,0,fN,by omega,rfl,rfl,S0⟩
     case round =>
      clear S0;obtain⟨k,a,cap,f,hk,rfl,rfl,st⟩:=hrel
      by_cases G1:k<4
      ·have Jp:(k:Int)<4:=by omega
       have bA:(0:Int)<=(k:Int):=by omega
       have n0:=st.row.c0 k G1;have n1:=st.row.c1 k G1;have n2:=st.row.c2 k G1;have n3:=st.row.c3 k G1;have n4:=st.row.c4 k G1;have lN:=st.row.lt;have ST:=zC st;have AK:=zC (st.ans k (Zb _) G1);have SZ:=zC st.sz;have Iz:=zC (show ∀ i,(Value.slice a k cap).ownBlock=some i->i<wr.heap.size from λ i hi=>(World.ownsRow.lt st.own i hi).2)
       clear st;go_wp2_with fail;obtain⟨d9,e9,D9,E9⟩:=copy_of (zA AK).at_;refine (zF6 (fN k) d9 e9 _ D9).mono ?_;rintro r w9 ⟨u,rfl,q1,q2,q3,q4,q5,q6,q7,q8⟩;have CP:=zC (show Cp w9 wr.heap.size u (bN k) (LN k) (HN k) from⟨E9 _ _ q6 ⟨q1,q2,q3,q4,q5⟩,q5.trans (zA AK).bits,q8⟩)
       have EB:=zC ((zA ST).bw q7);have YH:=zC q7;clear q1 q2 q3 q4 q5 q6 q7 q8 n0 n1 n2 n3 n4 lN D9 E9 AK ST;go_wp2_with (at_builtin;refine zD2 _ rfl _ _ 63 rfl Wq.heap.size Tryz.underlying63 a k cap f rfl ((zA EB).bw (bl1 _ _)).own w9.heap.size 1 u rfl (zSQ _ _ _ _ rfl) G1 ((zA EB).bw (bl1 _ _)).sz ?_;intro g9 c9 iE RQ Ph Bk GQ;have SM:=zC (Spl.append (zA KK) G1 ((zA EB).bw (bl1 _ _)) ((zA CP).bw (bl1 _ _)) (zA SZ) (zA Iz) RQ Ph GQ Bk);have n0:=(zA SM).row.c0 k G1;have n1:=(zA SM).row.c1 k G1;have n2:=(zA SM).row.c2 k G1;have n3:=(zA SM).row.c3 k G1;have n4:=(zA SM).row.c4 k G1;have lN:=(zA SM).row.lt;clear RQ Ph Bk GQ);have xA:=zC ((zA SM).ans k (Zb _) G1);refine (zTR (fN k) (RL k) (RH k) _ (zA xA).l (zA xA).h (zA xA).le (zA xA).room.1 (zA xA).room.2).mono ?_;rintro r w11 ⟨rfl,RR⟩;have Z5:=zC (Spm.spoilt (zA KK) G1 (zA SM) RR);clear RR n0 n1 n2 n3 n4 lN SM xA EB CP YH
       go_wp2_with fail
       go_roundw
       case rel =>
        go_light
        first|refine⟨_,_,_,_,_,_,_,_,_,_,_,_,_,_,⟨k+1,some ⟨g9,0,none⟩,c9,zG1 f k u,G1,rfl,rfl,zA Z5⟩,rfl⟩|refine⟨_,_,_,_,_,_,_,_,_,_,_,_,_,_,_,⟨k+1,some ⟨g9,0,none⟩,c9,zG1 f k u,G1,rfl,rfl,zA Z5⟩,rfl⟩|refine⟨_,_,_,_,_,_,_,_,_,_,_,_,_,_,_,_,⟨k+1,some ⟨g9,0,none⟩,c9,zG1 f k u,G1,rfl,rfl,zA Z5⟩,rfl⟩|refine⟨_,_,_,_,_,_,_,_,_,_,_,_,_,_,_,_,_,⟨k+1,some ⟨g9,0,none⟩,c9,zG1 f k u,G1,rfl,rfl,zA Z5⟩,rfl⟩|refine⟨_,_,_,_,_,_,_,_,_,_,_,_,_,_,_,_,_,_,⟨k+1,some ⟨g9,0,none⟩,c9,zG1 f k u,G1,rfl,rfl,zA Z5⟩,rfl⟩|refine⟨_,_,_,_,_,_,_,_,_,_,_,_,_,_,_,_,_,_,_,⟨k+1,some ⟨g9,0,none⟩,c9,zG1 f k u,G1,rfl,rfl,zA Z5⟩,rfl⟩|refine⟨_,_,_,_,_,_,_,_,_,_,_,_,_,_,_,_,_,_,_,_,⟨k+1,some ⟨g9,0,none⟩,c9,zG1 f k u,G1,rfl,rfl,zA Z5⟩,rfl⟩|refine⟨_,_,_,_,_,_,_,_,_,_,_,_,_,_,_,_,_,_,_,_,_,⟨k+1,some ⟨g9,0,none⟩,c9,zG1 f k u,G1,rfl,rfl,zA Z5⟩,rfl⟩|refine⟨_,_,_,_,_,_,_,_,_,_,_,_,_,_,_,_,_,_,_,_,_,_,⟨k+1,some ⟨g9,0,none⟩,c9,zG1 f k u,G1,rfl,rfl,zA Z5⟩,rfl⟩|refine⟨_,_,_,_,_,_,_,_,_,_,_,_,_,_,_,_,_,_,_,_,_,_,_,⟨k+1,some ⟨g9,0,none⟩,c9,zG1 f k u,G1,rfl,rfl,zA Z5⟩,rfl⟩|refine⟨_,_,_,_,_,_,_,_,_,_,_,_,_,_,_,_,_,_,_,_,_,_,_,_,⟨k+1,some ⟨g9,0,none⟩,c9,zG1 f k u,G1,rfl,rfl,zA Z5⟩,rfl⟩|refine⟨_,_,_,_,_,_,_,_,_,_,_,_,_,_,_,_,_,_,_,_,_,_,_,_,_,⟨k+1,some ⟨g9,0,none⟩,c9,zG1 f k u,G1,rfl,rfl,zA Z5⟩,rfl⟩|refine⟨_,_,_,_,_,_,_,_,_,_,_,_,_,_,_,_,_,_,_,_,_,_,_,_,_,_,⟨k+1,some ⟨g9,0,none⟩,c9,zG1 f k u,G1,rfl,rfl,zA Z5⟩,rfl⟩
       case measure =>
        show 4-(intOf (Value.int IntKind.i64 ((k:Int)+1))).toNat<4-(intOf (Value.int IntKind.i64 (k:Int))).toNat
        exact meas4 G1
      ·have hkE:k=4:=by omega
       subst hkE;obtain⟨g9,rfl,_,DN⟩:=st.own.row (by omega)
       have VAL:=zC st.cps;have sH:=st.bel;have GO:=zC DN;clear DN st hk G1;go_wp2_with fail
       go_roundw
       case rel =>
        go_light
        exact⟨i+1,I9,rfl,sH,Or.inr ⟨g9,cap,f,bN,LN,HN,rfl,zA GO,λ j hj=>⟨⟨(zA VAL j hj).at_,(zA VAL j hj).bits⟩,zA Ax j hj⟩⟩⟩
       case measure =>
        simp only[intOf];omega
  ·have hiE:i=2:=by omega
   subst hiE;clear HW;go_wp2_with fail;exact bodyPost_ret (v:=.bool true) (by simp[results,Tryz.results7]) rfl ⟨rfl,zB j8 hB⟩
open Go.ChangeShapes Go.WideShapes Go.ChangeAt Go.RowKit
theorem Tryz.own:ownKnob Tryz.prog.godebug=none:=by kernel_rfl
theorem Tryz.laidOut:laidOutB Tryz.prog=true:=by kernel_rfl
theorem Tryz.cellsI:Tryz.prog.cellsOf 3=1:=by kernel_rfl
end Go.Proofs.YtgmnknmjainabacGreat
