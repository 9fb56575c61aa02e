/-
  Whatever ratio, law, ratio and number tailsurelaw.RestLaws is handed, it returns true, and each argument reads behind the call as it read before; no condition.
-/
import Derived.Carry
import Derived.Test.YtgmnknmjainabacGreatH27
set_option maxRecDepth 100000
set_option maxHeartbeats 40000000
set_option linter.unnecessarySimpa false
set_option linter.unusedSimpArgs false
set_option linter.unusedVariables false
namespace Go.Proofs.YtgmnknmjainabacGreat
open Go.ChangeShapes Go.WideShapes Go.ChangeAt Go.RowKit
theorem wrap_bd {n:Int} (h:(Lit.int .i64 n).wf=true) : -9223372036854775808<=n/\n<=9223372036854775807:=by
 simp[Lit.wf] at h;exact⟨Int.le_trans (by decide) h.1,h.2⟩
theorem Tryz.cellsRat:Tryz.prog.cellsOf 23=2:=by kernel_rfl
theorem zNT {H:Type} {enc:TypeId × Value->H} {W:World} {base:Nat} {r:Reach} {v:Value} {dd:DataW H} {p:List MemPlace} (hv:Value.okWide Tryz.prog W r base 23 v)
  (h:DataW.Trod enc Tryz.prog W 0 (λ _=>true) true 23 v dd p) :
  ∃ a b:Int,v=.agg #[.int .i64 a,.int .i64 b]:=by
 obtain⟨cs,rfl,K3⟩:=okWide_struct Tryz.underlying23 hv;rw[Tryz.cellsRat] at K3;obtain⟨l⟩:=cs
 match l,K3 with
 | [c0,c1],_ =>
 obtain⟨fuel,hf⟩:=h;obtain⟨y0,y1,m,hx,_,h0,h1⟩:=trod_struct2 Tryz.underlying23 hf;simp[Value.cells,Tryz.cellsI] at h0;simp[Value.cells,Tryz.cellsI] at h1;obtain⟨a,e0,_,_⟩:=DataW.trod_int Tryz.underlying3 h0;obtain⟨b,e1,_,_⟩:=DataW.trod_int Tryz.underlying3 h1;simp at e0 e1;subst e0 e1;exact⟨a,b,rfl⟩
theorem Tryz.cellsLaw:Tryz.prog.cellsOf 25=5:=by kernel_rfl
theorem zNU {H:Type} {enc:TypeId × Value->H} {W:World} {fuel:Nat} {c0 c1:Value} {x:DataW H × List MemPlace}
  (h:DataW.trod enc Tryz.prog W 0 (λ _=>true) true fuel 23 [c0,c1]=some x):∃ p q:Int,c0=.int .i64 p/\c1=.int .i64 q:=by
 obtain⟨y0,y1,m,hx,_,h0,h1⟩:=trod_struct2 Tryz.underlying23 h;simp[Tryz.cellsI] at h0;simp[Tryz.cellsI] at h1;obtain⟨p,e0,_,_⟩:=DataW.trod_int Tryz.underlying3 h0;obtain⟨q,e1,_,_⟩:=DataW.trod_int Tryz.underlying3 h1;simp at e0 e1;exact⟨p,q,e0,e1⟩
theorem open_law {H:Type} {enc:TypeId × Value->H} {W:World} {base:Nat} {r:Reach} {v:Value} {dd:DataW H} {p:List MemPlace} (hv:Value.okWide Tryz.prog W r base 25 v)
  (h:DataW.Trod enc Tryz.prog W 0 (λ _=>true) true 25 v dd p) :
  ∃ k a b c d:Int,v=.agg #[.int .i64 k,.int .i64 a,.int .i64 b,.int .i64 c,.int .i64 d]:=by
 obtain⟨cs,rfl,K3⟩:=okWide_struct Tryz.underlying25 hv;rw[Tryz.cellsLaw] at K3;obtain⟨l⟩:=cs
 match l,K3 with
 | [c0,c1,c2,c3,c4],_ =>
 obtain⟨fuel,hf⟩:=h;obtain⟨xs,n,_,hx,_,hlen,cG⟩:=DataW.trod_struct Tryz.underlying25 hf
 match xs,hlen with
 | [y0,y1,y2],_ =>
 have t0:=cG 0 _ rfl;have t1:=cG 1 _ rfl;have t2:=cG 2 _ rfl;simp[Value.cells,Tryz.cellsI] at t0;simp[Value.cells,Tryz.cellsRat] at t1;simp[Value.cells,Tryz.cellsRat] at t2;obtain⟨k,e0,_,_⟩:=DataW.trod_int Tryz.underlying3 t0;obtain⟨a,b,e1,e2⟩:=zNU t1;obtain⟨c,d,e3,e4⟩:=zNU t2;simp at e0;subst e0 e1 e2 e3 e4;exact⟨k,a,b,c,d,rfl⟩
theorem zGG (os:Os) (started:os.Started) (H:Type) (enc:TypeId × Value->H) :
  ReturnsInHanded {} Tryz.checked os 7 .any (Rows.restLawsSpec.pre6 enc Tryz.prog Tryz.f7 Rows.restLawsRow.domain false) (Rows.restLawsSpec.post enc Tryz.prog Tryz.f7 false true false false):=by
 refine returnsInHanded_of_change_sized (C:=Tryz.checked) Tryz.own started (by kernel_rfl) Tryz.func7
  (ChangeSpec.witness6 (enc:=enc) (C:=Tryz.checked) false ⟨#[],#[.agg #[.int .i64 0,.int .i64 0],.agg #[.int .i64 0,.int .i64 0,.int .i64 0,.int .i64 0,.int .i64 0],.agg #[.int .i64 0,.int .i64 0],.int .i64 0],[]⟩ 8 (by kernel_rfl) (by kernel_rfl) (by kernel_rfl) (by kernel_rfl)) ?_
 intro W base args ds gs before ql hW hcnd Y9 _
 have hval:∀ (j:Nat) t v,Tryz.f7.params[j]?=some t->args[j]?=some v->Value.okWide Tryz.prog W .any base t v:=ql;have BT:=hW;obtain⟨p,q,Pw,hV,rfl,bI,iP⟩:=hW;have hA:DataW.TrodAll enc Tryz.prog W 0 (λ _=>true) true Tryz.f7.params.toList args.toList ds p:=Pw
 rw[Tryz.params7] at hA hval;obtain⟨v0,v1,v2,v3,d0,d1,d2,d3,p0,p1,p2,p3,rfl,rfl,rfl,h0,h1,h2,h3⟩:=trodAll_four hA;obtain⟨rfl,rfl⟩:=trodVars_none hV;have k0:=h0;have lt0:∀ x ∈ p0,x.block<W.heap.size:=by obtain⟨m,hm⟩:=k0;exact DataW.trod_lt m _ _ _ hm
 obtain⟨a0,c0,rfl⟩:=zNT (hval 0 23 v0 rfl rfl) h0;have k1:=h1;have lt1:∀ x ∈ p1,x.block<W.heap.size:=by obtain⟨m,hm⟩:=k1;exact DataW.trod_lt m _ _ _ hm
 obtain⟨e1,a1,c1,f1,g1,rfl⟩:=open_law (hval 1 25 v1 rfl rfl) h1;have k2:=h2;have lt2:∀ x ∈ p2,x.block<W.heap.size:=by obtain⟨m,hm⟩:=k2;exact DataW.trod_lt m _ _ _ hm
 obtain⟨a2,c2,rfl⟩:=zNT (hval 2 23 v2 rfl rfl) h2;obtain⟨n3,rfl,rfl,rfl,SB⟩:=open_int Tryz.underlying3 (hval 3 3 v3 rfl rfl) h3;have b3 : -9223372036854775808<=n3/\n3<=9223372036854775807:=wrap_bd SB;clear Pw ql Y9;refine (zJ2 a0 c0 e1 a1 c1 f1 g1 a2 c2 n3 W).mono λ r W' ⟨he,bel⟩=>?_
 subst he;exact⟨_,rfl,_,_,_,[],_,[],BT,trodAll_mk1 (shut_bool Tryz.underlying4 _),trodAll_mk4 (Below.trod Tryz.laidOut (by kernel_rfl) (of_decide_eq_true (by kernel_rfl)) k0 bel lt0) (Below.trod Tryz.laidOut (by kernel_rfl) (of_decide_eq_true (by kernel_rfl)) k1 bel lt1) (Below.trod Tryz.laidOut (by kernel_rfl) (of_decide_eq_true (by kernel_rfl)) k2 bel lt2) (shut_int Tryz.underlying3 SB),rfl,bel.frame _,λ h=>by cases h⟩
theorem restLaws_holds:Rows.RestLawsSaid :=
 OpenClaim.holds_of_wide 7 Tryz.f7 rfl rfl rfl rfl rfl rfl rfl ⟨rfl,rfl,rfl,rfl,rfl⟩ rfl rfl rfl rfl rfl (by kernel_rfl) Tryz.func7 (by kernel_rfl)
  (of_decide_eq_true (by kernel_rfl)) (by unfold Func.isWrapper;first|(rw[if_pos (by decide +kernel)];kernel_rfl)|(rw[if_neg (by decide +kernel)];exact⟨rfl,rfl⟩))
  (λ os started H enc _=>zGG os started H enc)
#print axioms restLaws_holds
end Go.Proofs.YtgmnknmjainabacGreat
