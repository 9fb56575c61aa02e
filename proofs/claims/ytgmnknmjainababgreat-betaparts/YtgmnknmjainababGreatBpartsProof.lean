/-
  Whatever three ratios and number tailsurelaw.BetaParts is handed, it returns true, and each argument reads behind the call as it read before; no condition.
-/
import Derived.Carry
import Derived.Test.YtgmnknmjainababGreatK26
set_option maxRecDepth 100000
set_option maxHeartbeats 40000000
set_option linter.unnecessarySimpa false
set_option linter.unusedSimpArgs false
set_option linter.unusedVariables false
namespace Go.Proofs.YtgmnknmjainababGreat
open Go.ChangeShapes Go.WideShapes Go.ChangeAt Go.RowKit
theorem wrap_bd {n:Int} (h:(Lit.int .i64 n).wf=true) : -9223372036854775808<=n/\n<=9223372036854775807:=by
 simp[Lit.wf] at h;exact⟨Int.le_trans (by decide) h.1,h.2⟩
theorem Tryz.cellsRat:Tryz.prog.cellsOf 23=2:=by kernel_rfl
theorem zH0 {H:Type} {enc:TypeId × Value->H} {W:World} {base:Nat} {r:Reach} {v:Value} {dd:DataW H} {p:List MemPlace} (hv:Value.okWide Tryz.prog W r base 23 v)
  (h:DataW.Trod enc Tryz.prog W 0 (λ _=>true) true 23 v dd p) :
  ∃ a b:Int,v=.agg #[.int .i64 a,.int .i64 b]:=by
 obtain⟨cs,rfl,O6⟩:=okWide_struct Tryz.underlying23 hv;rw[Tryz.cellsRat] at O6;obtain⟨l⟩:=cs
 match l,O6 with
 | [c0,c1],_ =>
 obtain⟨fuel,hf⟩:=h;obtain⟨y0,y1,m,hx,_,h0,h1⟩:=trod_struct2 Tryz.underlying23 hf;simp[Value.cells,Tryz.cellsI] at h0;simp[Value.cells,Tryz.cellsI] at h1;obtain⟨a,e0,_,_⟩:=DataW.trod_int Tryz.underlying3 h0;obtain⟨b,e1,_,_⟩:=DataW.trod_int Tryz.underlying3 h1;simp at e0 e1;subst e0 e1;exact⟨a,b,rfl⟩
theorem zEQ (os:Os) (started:os.Started) (H:Type) (enc:TypeId × Value->H) :
  ReturnsInHanded {} Tryz.checked os 6 .any (Rows.betaPartsSpec.pre6 enc Tryz.prog Tryz.f6 Rows.betaPartsRow.domain false) (Rows.betaPartsSpec.post enc Tryz.prog Tryz.f6 false true false false):=by
 refine returnsInHanded_of_change_sized (C:=Tryz.checked) Tryz.own started (by kernel_rfl) Tryz.func6
  (ChangeSpec.witness6 (enc:=enc) (C:=Tryz.checked) false ⟨#[],#[.agg #[.int .i64 0,.int .i64 0],.agg #[.int .i64 0,.int .i64 0],.agg #[.int .i64 0,.int .i64 0],.int .i64 0],[]⟩ 8 (by kernel_rfl) (by kernel_rfl) (by kernel_rfl) (by kernel_rfl)) ?_
 intro W base args ds gs before qx hW hcnd bZ _
 have hval:∀ (j:Nat) t v,Tryz.f6.params[j]?=some t->args[j]?=some v->Value.okWide Tryz.prog W .any base t v:=qx;have Kq:=hW;obtain⟨p,q,SB,hV,rfl,gF,Cw⟩:=hW;have hA:DataW.TrodAll enc Tryz.prog W 0 (λ _=>true) true Tryz.f6.params.toList args.toList ds p:=SB
 rw[Tryz.params6] at hA hval;obtain⟨v0,v1,v2,v3,d0,d1,d2,d3,p0,p1,p2,p3,rfl,rfl,rfl,h0,h1,h2,h3⟩:=trodAll_four hA;obtain⟨rfl,rfl⟩:=trodVars_none hV;have k0:=h0;have lt0:∀ x ∈ p0,x.block<W.heap.size:=by obtain⟨m,hm⟩:=k0;exact DataW.trod_lt m _ _ _ hm
 obtain⟨a0,c0,rfl⟩:=zH0 (hval 0 23 v0 rfl rfl) h0;have k1:=h1;have Kr:∀ x ∈ p1,x.block<W.heap.size:=by obtain⟨m,hm⟩:=k1;exact DataW.trod_lt m _ _ _ hm
 obtain⟨a1,c1,rfl⟩:=zH0 (hval 1 23 v1 rfl rfl) h1;have k2:=h2;have Ij:∀ x ∈ p2,x.block<W.heap.size:=by obtain⟨m,hm⟩:=k2;exact DataW.trod_lt m _ _ _ hm
 obtain⟨a2,c2,rfl⟩:=zH0 (hval 2 23 v2 rfl rfl) h2;obtain⟨n3,rfl,rfl,rfl,SC⟩:=open_int Tryz.underlying3 (hval 3 3 v3 rfl rfl) h3;have b3 : -9223372036854775808<=n3/\n3<=9223372036854775807:=wrap_bd SC;clear SB qx bZ;refine (zHV a0 c0 a1 c1 a2 c2 n3 W).mono λ r W' ⟨he,bel⟩=>?_
 subst he;exact⟨_,rfl,_,_,_,[],_,[],Kq,trodAll_mk1 (shut_bool Tryz.underlying4 _),trodAll_mk4 (Below.trod Tryz.laidOut (by kernel_rfl) (of_decide_eq_true (by kernel_rfl)) k0 bel lt0) (Below.trod Tryz.laidOut (by kernel_rfl) (of_decide_eq_true (by kernel_rfl)) k1 bel Kr) (Below.trod Tryz.laidOut (by kernel_rfl) (of_decide_eq_true (by kernel_rfl)) k2 bel Ij) (shut_int Tryz.underlying3 SC),rfl,bel.frame _,λ h=>by cases h⟩
theorem betaParts_holds:Rows.BetaPartsSaid :=
 OpenClaim.holds_of_wide 6 Tryz.f6 rfl rfl rfl rfl rfl rfl rfl ⟨rfl,rfl,rfl,rfl,rfl⟩ rfl rfl rfl rfl rfl (by kernel_rfl) Tryz.func6 (by kernel_rfl)
  (of_decide_eq_true (by kernel_rfl)) (by unfold Func.isWrapper;first|(rw[if_pos (by decide +kernel)];kernel_rfl)|(rw[if_neg (by decide +kernel)];exact⟨rfl,rfl⟩))
  (λ os started H enc _=>zEQ os started H enc)
#print axioms betaParts_holds
end Go.Proofs.YtgmnknmjainababGreat
