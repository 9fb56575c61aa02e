/-
  Whatever law, two ratios and two numbers tailsurelaw.QuantileGrows is handed, it returns true, and each argument reads behind the call as it read before; no condition.
-/
import Derived.Carry
import Derived.Test.YtgmnknmjainabacGreatI28
set_option maxRecDepth 100000
set_option maxHeartbeats 40000000
set_option linter.unnecessarySimpa false
set_option linter.unusedSimpArgs false
set_option linter.unusedVariables false
namespace Go.Proofs.YtgmnknmjainabacGreat
open Go.ChangeShapes Go.WideShapes Go.ChangeAt Go.RowKit
theorem zKV {H:Type} {enc:TypeId × Value->H} {P:Program} {w:World} {base:Nat} {spare:Nat->Bool} {held:Bool} {t0 t1 t2 t3 t4:TypeId} {args:Array Value} {ds:List (DataW H)} {ps:List MemPlace} (h:DataW.TrodAll enc P w base spare held [t0,t1,t2,t3,t4] args.toList ds ps) :
  ∃ v0 v1 v2 v3 v4 d0 d1 d2 d3 d4 p0 p1 p2 p3 p4,args=#[v0,v1,v2,v3,v4]/\ds=[d0,d1,d2,d3,d4]/\ps=p0 ++ (p1 ++ (p2 ++ (p3 ++ p4)))/\DataW.Trod enc P w base spare held t0 v0 d0 p0/\DataW.Trod enc P w base spare held t1 v1 d1 p1/\DataW.Trod enc P w base spare held t2 v2 d2 p2/\DataW.Trod enc P w base spare held t3 v3 d3 p3/\DataW.Trod enc P w base spare held t4 v4 d4 p4:=by
 obtain⟨v0,_,d0,_,p0,_,ha,rfl,rfl,k0,h1⟩:=trodAll_cons h;obtain⟨v1,_,d1,_,p1,_,rfl,rfl,rfl,k1,h2⟩:=trodAll_cons h1;obtain⟨v2,_,d2,_,p2,_,rfl,rfl,rfl,k2,h3⟩:=trodAll_cons h2;obtain⟨v3,_,d3,_,p3,_,rfl,rfl,rfl,k3,h4⟩:=trodAll_cons h3;obtain⟨v4,_,d4,_,p4,_,rfl,rfl,rfl,k4,h5⟩:=trodAll_cons h4;obtain⟨rfl,rfl,rfl⟩:=trodAll_nil h5;exact⟨v0,v1,v2,v3,v4,d0,d1,d2,d3,d4,p0,p1,p2,p3,p4,by cases args;simp_all,rfl,by simp,k0,k1,k2,k3,k4⟩
theorem zMC {H:Type} {enc:TypeId × Value->H} {P:Program} {w:World} {base:Nat} {spare:Nat->Bool} {held:Bool} {t0 t1 t2 t3 t4:TypeId} {v0 v1 v2 v3 v4:Value} {d0 d1 d2 d3 d4:DataW H} {p0 p1 p2 p3 p4:List MemPlace} (h0:DataW.Trod enc P w base spare held t0 v0 d0 p0) (h1:DataW.Trod enc P w base spare held t1 v1 d1 p1)
  (h2:DataW.Trod enc P w base spare held t2 v2 d2 p2) (h3:DataW.Trod enc P w base spare held t3 v3 d3 p3) (h4:DataW.Trod enc P w base spare held t4 v4 d4 p4):DataW.TrodAll enc P w base spare held [t0,t1,t2,t3,t4] [v0,v1,v2,v3,v4] [d0,d1,d2,d3,d4] (p0 ++ (p1 ++ (p2 ++ (p3 ++ p4)))):=⟨p0,p1 ++ (p2 ++ (p3 ++ p4)),h0,trodAll_mk4 h1 h2 h3 h4,rfl⟩
theorem zE0 {n:Int} (h:(Lit.int .i64 n).wf=true) : -9223372036854775808<=n/\n<=9223372036854775807:=by
 simp[Lit.wf] at h;exact⟨Int.le_trans (by decide) h.1,h.2⟩
theorem Tryz.cellsRat:Tryz.prog.cellsOf 23=2:=by kernel_rfl
theorem zNO {H:Type} {enc:TypeId × Value->H} {W:World} {base:Nat} {r:Reach} {v:Value} {dd:DataW H} {p:List MemPlace} (hv:Value.okWide Tryz.prog W r base 23 v)
  (h:DataW.Trod enc Tryz.prog W 0 (λ _=>true) true 23 v dd p) :
  ∃ a b:Int,v=.agg #[.int .i64 a,.int .i64 b] /\ -9223372036854775808<=a/\a<=9223372036854775807 /\ -9223372036854775808<=b/\b<=9223372036854775807:=by
 obtain⟨cs,rfl,X7⟩:=okWide_struct Tryz.underlying23 hv;rw[Tryz.cellsRat] at X7;obtain⟨l⟩:=cs
 match l,X7 with
 | [c0,c1],_ =>
 obtain⟨fuel,hf⟩:=h;obtain⟨y0,y1,m,hx,_,h0,h1⟩:=trod_struct2 Tryz.underlying23 hf;simp[Value.cells,Tryz.cellsI] at h0;simp[Value.cells,Tryz.cellsI] at h1;obtain⟨a,e0,_,Te⟩:=DataW.trod_int Tryz.underlying3 h0;obtain⟨b,e1,_,Tf⟩:=DataW.trod_int Tryz.underlying3 h1;simp at e0 e1;subst e0 e1;exact⟨a,b,rfl,(zE0 Te).1,(zE0 Te).2,(zE0 Tf).1,(zE0 Tf).2⟩
theorem Tryz.cellsLaw:Tryz.prog.cellsOf 25=5:=by kernel_rfl
theorem zNP {H:Type} {enc:TypeId × Value->H} {W:World} {fuel:Nat} {c0 c1:Value} {x:DataW H × List MemPlace}
  (h:DataW.trod enc Tryz.prog W 0 (λ _=>true) true fuel 23 [c0,c1]=some x):∃ p q:Int,c0=.int .i64 p/\c1=.int .i64 q:=by
 obtain⟨y0,y1,m,hx,_,h0,h1⟩:=trod_struct2 Tryz.underlying23 h;simp[Tryz.cellsI] at h0;simp[Tryz.cellsI] at h1;obtain⟨p,e0,_,_⟩:=DataW.trod_int Tryz.underlying3 h0;obtain⟨q,e1,_,_⟩:=DataW.trod_int Tryz.underlying3 h1;simp at e0 e1;exact⟨p,q,e0,e1⟩
theorem open_law {H:Type} {enc:TypeId × Value->H} {W:World} {base:Nat} {r:Reach} {v:Value} {dd:DataW H} {p:List MemPlace} (hv:Value.okWide Tryz.prog W r base 25 v)
  (h:DataW.Trod enc Tryz.prog W 0 (λ _=>true) true 25 v dd p) :
  ∃ k a b c d:Int,v=.agg #[.int .i64 k,.int .i64 a,.int .i64 b,.int .i64 c,.int .i64 d]:=by
 obtain⟨cs,rfl,X7⟩:=okWide_struct Tryz.underlying25 hv;rw[Tryz.cellsLaw] at X7;obtain⟨l⟩:=cs
 match l,X7 with
 | [c0,c1,c2,c3,c4],_ =>
 obtain⟨fuel,hf⟩:=h;obtain⟨xs,n,_,hx,_,hlen,S8⟩:=DataW.trod_struct Tryz.underlying25 hf
 match xs,hlen with
 | [y0,y1,y2],_ =>
 have t0:=S8 0 _ rfl;have t1:=S8 1 _ rfl;have t2:=S8 2 _ rfl;simp[Value.cells,Tryz.cellsI] at t0;simp[Value.cells,Tryz.cellsRat] at t1;simp[Value.cells,Tryz.cellsRat] at t2;obtain⟨k,e0,_,_⟩:=DataW.trod_int Tryz.underlying3 t0;obtain⟨a,b,e1,e2⟩:=zNP t1;obtain⟨c,d,e3,e4⟩:=zNP t2;simp at e0;subst e0 e1 e2 e3 e4;exact⟨k,a,b,c,d,rfl⟩
theorem zDR (os:Os) (started:os.Started) (H:Type) (enc:TypeId × Value->H) :
  ReturnsInHanded {} Tryz.checked os 6 .any (Rows.quantileGrowsSpec.pre6 enc Tryz.prog Tryz.f6 Rows.quantileGrowsRow.domain false) (Rows.quantileGrowsSpec.post enc Tryz.prog Tryz.f6 false true false false):=by
 refine returnsInHanded_of_change_sized (C:=Tryz.checked) Tryz.own started (by kernel_rfl) Tryz.func6
  (ChangeSpec.witness6 (enc:=enc) (C:=Tryz.checked) false ⟨#[],#[.agg #[.int .i64 0,.int .i64 0,.int .i64 0,.int .i64 0,.int .i64 0],.agg #[.int .i64 0,.int .i64 0],.agg #[.int .i64 0,.int .i64 0],.int .i64 0,.int .i64 0],[]⟩ 8 (by kernel_rfl) (by kernel_rfl) (by kernel_rfl) (by kernel_rfl)) ?_
 intro W base args ds gs before qy hW hcnd bN _
 have hval:∀ (j:Nat) t v,Tryz.f6.params[j]?=some t->args[j]?=some v->Value.okWide Tryz.prog W .any base t v:=qy;have tx:=hW;obtain⟨p,q,Qi,hV,rfl,fK,fQ⟩:=hW;have hA:DataW.TrodAll enc Tryz.prog W 0 (λ _=>true) true Tryz.f6.params.toList args.toList ds p:=Qi
 rw[Tryz.params6] at hA hval;obtain⟨v0,v1,v2,v3,v4,d0,d1,d2,d3,d4,p0,p1,p2,p3,p4,rfl,rfl,rfl,h0,h1,h2,h3,h4⟩:=zKV hA;obtain⟨rfl,rfl⟩:=trodVars_none hV;have k0:=h0;have lt0:∀ x ∈ p0,x.block<W.heap.size:=by obtain⟨m,hm⟩:=k0;exact DataW.trod_lt m _ _ _ hm
 obtain⟨e0,a0,c0,f0,g0,rfl⟩:=open_law (hval 0 25 v0 rfl rfl) h0;have k1:=h1;have lt1:∀ x ∈ p1,x.block<W.heap.size:=by obtain⟨m,hm⟩:=k1;exact DataW.trod_lt m _ _ _ hm
 obtain⟨a1,c1,rfl,l1⟩:=zNO (hval 1 23 v1 rfl rfl) h1;have k2:=h2;have lt2:∀ x ∈ p2,x.block<W.heap.size:=by obtain⟨m,hm⟩:=k2;exact DataW.trod_lt m _ _ _ hm
 obtain⟨a2,c2,rfl,l2⟩:=zNO (hval 2 23 v2 rfl rfl) h2;obtain⟨n3,rfl,rfl,rfl,Tg⟩:=open_int Tryz.underlying3 (hval 3 3 v3 rfl rfl) h3;have b3 : -9223372036854775808<=n3/\n3<=9223372036854775807:=zE0 Tg;obtain⟨n4,rfl,rfl,rfl,Th⟩:=open_int Tryz.underlying3 (hval 4 3 v4 rfl rfl) h4;have b4 : -9223372036854775808<=n4/\n4<=9223372036854775807:=zE0 Th;clear Qi qy bN;refine (zET e0 a0 c0 f0 g0 a1 c1 a2 c2 n3 n4 W l2.1 l2.2.1 l2.2.2.1 l2.2.2.2).mono λ r W' ⟨he,bel⟩=>?_
 subst he;exact⟨_,rfl,_,_,_,[],_,[],tx,trodAll_mk1 (shut_bool Tryz.underlying4 _),zMC (Below.trod Tryz.laidOut (by kernel_rfl) (of_decide_eq_true (by kernel_rfl)) k0 bel lt0) (Below.trod Tryz.laidOut (by kernel_rfl) (of_decide_eq_true (by kernel_rfl)) k1 bel lt1) (Below.trod Tryz.laidOut (by kernel_rfl) (of_decide_eq_true (by kernel_rfl)) k2 bel lt2) (shut_int Tryz.underlying3 Tg) (shut_int Tryz.underlying3 Th),rfl,bel.frame _,λ h=>by cases h⟩
theorem quantileGrows_holds:Rows.QuantileGrowsSaid :=
 OpenClaim.holds_of_wide 6 Tryz.f6 rfl rfl rfl rfl rfl rfl rfl ⟨rfl,rfl,rfl,rfl,rfl⟩ rfl rfl rfl rfl rfl (by kernel_rfl) Tryz.func6 (by kernel_rfl)
  (of_decide_eq_true (by kernel_rfl)) (by unfold Func.isWrapper;first|(rw[if_pos (by decide +kernel)];kernel_rfl)|(rw[if_neg (by decide +kernel)];exact⟨rfl,rfl⟩))
  (λ os started H enc _=>zDR os started H enc)
#print axioms quantileGrows_holds
end Go.Proofs.YtgmnknmjainabacGreat
