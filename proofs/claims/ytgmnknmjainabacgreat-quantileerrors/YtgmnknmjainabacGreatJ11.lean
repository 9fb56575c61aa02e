/-
  Its own texts.
-/
import Derived.Deep.RegionHeld3
import Derived.Test.YtgmnknmjainabacGreatJ10
set_option maxRecDepth 100000
set_option maxHeartbeats 40000000
set_option linter.unnecessarySimpa false
set_option linter.unusedSimpArgs false
set_option linter.unusedVariables false
namespace Go.Proofs.YtgmnknmjainabacGreat
open Go
section
variable {Pg : Program} {ops : Array Oper} {Q : Exit -> Act -> World -> Prop} {md : Region.Mode} {S : World -> Prop} {l : Nat}
def AnyL (Pg:Program) (md:Region.Mode) (ops:Array Oper) (Q:Exit->Act->World->Prop) (S:World->Prop) (l:Nat):Nat->Array Bool->Act->World->Prop
 | 0,listed,a,w=>Region.ready md ops listed=[]/\Q .normal a w
 | fuel+1,listed,a,w =>
  (Region.ready md ops listed=[]->Q .normal a w) /\
  ∀ i ∈ Region.ready md ops listed,wpOp Pg ops Q i (λ a' w'=>(i≠l->S w')/\AnyL Pg md ops Q S l fuel (listed.setIfInBounds i true) a' w') a w
theorem AnyL.any:∀ (fuel:Nat) (listed:Array Bool) (a:Act) (w:World),AnyL Pg md ops Q S l fuel listed a w->wpAny Pg md ops Q fuel listed a w
 | 0,_,_,_,h=>h
 | fuel+1,_,_,_,h=>⟨h.1,λ i hi=>wpOp_mono (λ a' w' h'=>AnyL.any fuel _ a' w' h'.2) (h.2 i hi)⟩
def zKI (md:Region.Mode) (ops:Array Oper) (l i:Nat):Bool :=
 match ops[l]? with
 | some o=>o.after.any (λ e=>Region.binds md e && e.on == i)
 | none=>false
theorem zJC {i:Nat} {listed:Array Bool} (hw:zKI md ops l i=true) (hi:i ∈ Region.ready md ops listed) (hl:l ∈ Region.ready md ops listed):False:=by
 obtain⟨_,ol,Wa,iM⟩:=mem_ready.1 hl;obtain⟨h0,oi,GP,_⟩:=mem_ready.1 hi;unfold zKI at hw;rw[Wa] at hw;simp only[Array.any_eq_true'] at hw;obtain⟨e,he,h2⟩:=hw;simp only[Bool.and_eq_true,beq_iff_eq] at h2;have h1:=iM e he h2.1;rw[h2.2] at h1
 rcases Nat.lt_or_ge i listed.size with h'|h'
 ·simp[h'] at h0 h1;rw[h0] at h1;cases h1
 ·simp[Array.getElem?_eq_none h'] at h1
theorem AnyL.first {i:Nat} {oi:Oper} {v:Value} (hi:ops[i]?=some oi) (ji:∀ (j:Nat) (o:Oper) cs b,ops[j]?=some o->o.op≠.select cs b)
  (hQ:∀ c a w,Q (.panic c) (a.put oi.dst v) w->Q (.panic c) a w) (Hk:zKI md ops l i=true) :
  ∀ (fuel:Nat) (listed:Array Bool) (a:Act) (w:World),
   (∀ j oj,ops[j]?=some oj->j≠i->listed.getD j true=false->(∀ e ∈ oj.after,Region.binds md e=true->e.on≠i)->oi.apart ops oj=true) ->
   i ∈ Region.ready md ops listed->YieldsIf Pg ops S oi v a->S w ->
   AnyL Pg md ops Q S l fuel (listed.setIfInBounds i true) (a.put oi.dst v) w->AnyL Pg md ops Q S l (fuel+1) listed a w:=by
 intro fuel
 induction fuel with
 | zero =>
  intro listed a w _ hr hy hS H
  refine⟨λ h=>(by rw[h] at hr;cases hr),λ j hj=>?_⟩
  by_cases Z8:j=i
  ·subst Z8;exact hy.wpOp hi hS ⟨λ _=>hS,H⟩
  ·have:=ready_mono hj Z8
   rw[H.1] at this
   cases this
 | succ fuel ih =>
  intro listed a w hfree hr hy hS H
  refine⟨λ h=>(by rw[h] at hr;cases hr),λ j hj=>?_⟩
  by_cases Z8:j=i
  ·subst Z8;exact hy.wpOp hi hS ⟨λ _=>hS,H⟩
  ·have NK:j≠l:=λ h=>zJC Hk hr (h ▸ hj)
   have h1:=H.2 j (ready_mono hj Z8);obtain⟨fC,oj,sZ,iM⟩:=mem_ready.1 hj
   have sY:∀ e ∈ oj.after,Region.binds md e=true->e.on≠i:=λ e he hb heq=>by
    have h1:=iM e he hb;have h0:=(mem_ready.1 hr).1;rw[heq] at h1
    rcases Nat.lt_or_ge i listed.size with h'|h'
    ·simp[h'] at h0 h1;rw[h0] at h1;cases h1
    ·simp[Array.getElem?_eq_none h'] at h1
   have h2:=wpOp_putIf sZ (hfree j oj sZ Z8 fC sY) (λ cs b=>ji i oi cs b hi) (λ cs b=>ji j oj cs b sZ) hQ hy h1
   have dE:∀ k ok,ops[k]?=some ok->k≠i->(listed.setIfInBounds j true).getD k true=false ->
     (∀ e ∈ ok.after,Region.binds md e=true->e.on≠i)->oi.apart ops ok=true:=λ k ok hk GF AX GO=>by
    refine hfree k ok hk GF ?_ GO
    by_cases mH:j=k
    ·subst mH;exact fC
    ·rw[getD_set_ne true mH] at AX;exact AX
   refine wpOp_mono (λ a' w' h3=>⟨λ _=>h3.2.1 NK,ih (listed.setIfInBounds j true) a' w' dE (ready_mono hr (Ne.symm Z8)) h3.1 (h3.2.1 NK) ?_⟩) h2
   rw[Array.setIfInBounds_comm _ _ Z8];exact h3.2.2
theorem AnyL.take {i:Nat} {oi:Oper} {v:Value} {fuel:Nat} {listed:Array Bool} {a:Act} {w:World} (hi:ops[i]?=some oi)
  (hs:Region.noSelect ops=true) (hf:Region.free md ops listed i=true) (hr:(Region.ready md ops listed).contains i=true) (Hk:zKI md ops l i=true)
  (hQ:∀ c a w,Q (.panic c) (a.put oi.dst v) w->Q (.panic c) a w) (hy:YieldsIf Pg ops S oi v a) (hS:S w)
  (h:AnyL Pg md ops Q S l fuel (listed.setIfInBounds i true) (a.put oi.dst v) w):AnyL Pg md ops Q S l (fuel+1) listed a w :=
 AnyL.first hi (Region.noSelect_spec hs) hQ Hk fuel listed a w (Region.free_spec hi hf) (by simpa using hr) hy hS h
theorem AnyL.one {i:Nat} {o:Oper} {fuel:Nat} {listed:Array Bool} {a:Act} {w:World} (hr:Region.ready md ops listed=[i]) (ho:ops[i]?=some o)
  (h:∀ K':Act->World->Prop,Shut (∀ a w,S w->(S w->AnyL Pg md ops Q S l fuel (listed.setIfInBounds i true) a w)->K' a w)->if Region.wanted o (yielded ops a.tmps)=true then Oper.wp Pg o a w K' Q else K' (a.put o.dst undef) w) :
  AnyL Pg md ops Q S l (fuel+1) listed a w :=
 ⟨λ h0=>absurd (hr ▸ h0) (by simp),λ j hj=>by
  rw[hr] at hj;have mG:j=i:=by simpa using hj
  subst mG
  exact wpOp_step ho (λ K' hK=>h K' (λ a w hS hW=>hK a w ⟨λ _=>hS,hW hS⟩))⟩
theorem AnyL.last {o:Oper} {fuel:Nat} {listed:Array Bool} {a:Act} {w:World} (hr:Region.ready md ops listed=[l]) (ho:ops[l]?=some o)
  (hd:Region.ready md ops (listed.setIfInBounds l true)=[])
  (h:∀ K':Act->World->Prop,Shut (∀ a w,Q .normal a w->K' a w)->if Region.wanted o (yielded ops a.tmps)=true then Oper.wp Pg o a w K' Q else K' (a.put o.dst undef) w) :
  AnyL Pg md ops Q S l (fuel+1) listed a w :=
 ⟨λ h0=>absurd (hr ▸ h0) (by simp),λ j hj=>by
  rw[hr] at hj;have mG:j=l:=by simpa using hj
  subst mG;refine wpOp_step ho (λ K' hK=>h K' (λ a w hW=>hK a w ⟨λ h=>absurd rfl h,?_⟩))
  cases fuel with
  | zero=>exact⟨hd,hW⟩
  | succ fuel=>exact⟨λ _=>hW,by rw[hd];simp⟩⟩
theorem AnyL.start {id:Nat} {a:Act} {w:World} (hm:Pg.follows .mixedOrders=true) (hS:S w.drew)
  (h:S w.drew->AnyL Pg .any ops Q S l ops.size (Array.replicate ops.size false) a w.drew):(Code.region id ops true).wp Pg Q a w :=
 wp_region_any hm (AnyL.any _ _ _ _ (h hS))
end
open Go.RowKit
attribute [local go_sem ↓] Go.wp_at_zero Go.wp_at_succ
theorem zE7 (x q:Int):minZ x q=if x<=q then x else q:=by unfold minZ;split<;>split<;>omega
theorem wideOf_z {b:Nat} (z:Int) (hz:z=(b:Int)) (neg j7:Bool) (a c:Option Addr) (n m cap m7 k k2:Nat) (x y:Int) (w:World) (h1:IntAt w neg a n cap k x) (h2:IntAt w j7 c m m7 k2 y) (hk:k<=700000000) (hb:b<=1000000) (hy:0<y) :
  Calls Tryz.prog 88 #[.agg #[.bool neg,.slice a n cap],.agg #[.bool j7,.slice c m m7],.int .i64 z] w (zL w b (k+b/16+20) (ofI x y b).1 (ofI x y b).2):=by
 subst hz;exact jL _ _ _ _ _ _ _ _ k k2 b x y w h1 h2 hk hb hy
theorem fieldP1 (x y:Bool) (a a':Option Addr) (n c n' c':Nat) (b:Int) (w:World):(Instr.field 31 (.agg #[.bool x,.slice a n c,.bool y,.slice a' n' c',.int .i64 b]) 1).run Tryz.prog w=.ok (.agg #[.bool y,.slice a' n' c']) w:=by kernel_rfl
theorem zL8 {w:World} {B:Nat} {s:Sp} (h:VrC w B s) (x:Nm):VrC ((w.setCell ⟨B,2,none⟩ (.bool x.neg)).setCell ⟨B,3,none⟩ (.slice x.a x.n x.cap)) B ⟨s.ln,s.la,s.lN,s.lc,x.neg,x.a,x.n,x.cap,s.bits⟩:=by
 obtain⟨⟨q0,q1,q2,q3,q4⟩,q5⟩:=h;exact⟨⟨by simp[go_sem,q0],by simp[go_sem,q1],by simp[go_sem,q2],by simp[go_sem,q3],by simp[go_sem,q4]⟩,λ o=>by rw[zV,zV];exact q5 o⟩
theorem NoC.offH {w:World} {B B':Nat} (h:NoC w B) (hne:B≠B') (u0 u1:Value):NoC ((w.setCell ⟨B',2,none⟩ u0).setCell ⟨B',3,none⟩ u1) B:=by
 obtain⟨q0,q1,q2,q3,q4,q5⟩:=h;exact⟨by simp[go_sem,q0,hne,Ne.symm hne],by simp[go_sem,q1,hne,Ne.symm hne],by simp[go_sem,q2,hne,Ne.symm hne],by simp[go_sem,q3,hne,Ne.symm hne],by simp[go_sem,q4,hne,Ne.symm hne],λ o=>by rw[zV,zV];exact q5 o⟩
theorem IntAt.putH {w:World} {neg:Bool} {a:Option Addr} {n cap k:Nat} {z:Int} (h:IntAt w neg a n cap k z) {B:Nat} {x0:Bool} {y0:Option Addr} {y1 y2:Nat} (h0:w.cell? ⟨B,2,none⟩=some (.bool x0))
  (h1:w.cell? ⟨B,3,none⟩=some (.slice y0 y1 y2)) (u0 u1:Value):IntAt ((w.setCell ⟨B,2,none⟩ u0).setCell ⟨B,3,none⟩ u1) neg a n cap k z:=by
 have hne:(⟨B,2,none⟩:Addr)≠⟨B,3,none⟩:=by simp
 have h2:(w.setCell ⟨B,2,none⟩ u0).cell? ⟨B,3,none⟩=some (.slice y0 y1 y2):=(World.cell?_setCell_other _ _ _ _ hne).trans h1;exact (h.store h0 (λ _ e=>by cases e) u0).store h2 (λ _ e=>by cases e) u1
theorem zCH (w:World) (s:Sp) (k b:Nat) (lo hi:Int) (hs:SpAt w s k lo hi) (hbits:s.bits=(b:Int)) (hb:b<=100000) (dH:b/16+24<=k) (hk:k<=100000000) :
  Calls Tryz.prog 141 #[.agg s.q] w (zL w b (k+1) lo (minZ hi (Q b))):=by
 obtain⟨W,hW⟩:∃ W,W=(w.alloc (.cells s.q 31)).alloc (.cells zCq 31):=⟨_,rfl⟩;have j6:Below w.heap.size w W:=by rw[hW];exact bl2 _ _ _
 have A:VrC W w.heap.size s:=by rw[hW];exact⟨⟨by simp[go_sem],by simp[go_sem],by simp[go_sem],by simp[go_sem],by simp[go_sem]⟩,λ o=>by simp[go_sem]⟩
 have R:NoC W (w.heap.size+1):=by rw[hW];constructor<;>simp[go_sem]
 have Eg:=zC j6;have HS:=zC (hs.bw j6);have HB:=zC hbits;have HA:=zC A;have HR:=zC R;have HO:=zC (show -(-(1*Q b)/1)=Q b by rw[Int.ediv_one];omega)
 have HK:=zC (show ∀ w',Below W.heap.size W w'->(w'.cell? ⟨w.heap.size,2,none⟩=some (.bool s.hn)/\w'.cell? ⟨w.heap.size,3,none⟩=some (.slice s.ha s.hN s.hc)/\w'.cell? ⟨w.heap.size,4,none⟩=some (.int .i64 s.bits)) from λ w' hB=>⟨(A.bw hB).c.c2,(A.bw hB).c.c3,(A.bw hB).c.c4⟩)
 have D8:Below W.heap.size W W.drew:=(Below.refl _ _).drew;clear hs hbits j6 A R
 go_enter Tryz.func141,Tryz.ntmps141
 go_wp2;rw[<- hW];clear hW;refine AnyL.start (S:=λ w'=>w'.cell? ⟨w.heap.size,2,none⟩=some (.bool s.hn)/\w'.cell? ⟨w.heap.size,3,none⟩=some (.slice s.ha s.hN s.hc)/\w'.cell? ⟨w.heap.size,4,none⟩=some (.int .i64 s.bits)) (l:=9) (by kernel_rfl) (zA HK _ D8) (λ hHeld=>?_)
 refine AnyL.take (i:=0) (oi:={ dst:=some 3,op:=Go.Op.fieldAddr 31 (Go.Operand.tmp 1) 1,type:=0,pos := "part.go:53",after:=#[],guard:=none }) (v:=.pointer (some ⟨w.heap.size,2,none⟩)) rfl (by kernel_rfl) (by kernel_rfl) (by kernel_rfl) (by kernel_rfl) (λ _ _ _ h=>h) (Or.inl ⟨by rfl,λ w hSw=>?_⟩) hHeld ?_
 ·obtain⟨s0,s1,s2⟩:=hSw;go_simp
 try simp only[Act.put,Ya,Yb,Yc]
 refine AnyL.take (i:=1) (oi:={ dst:=some 4,op:=Go.Op.load 29 (Go.Operand.tmp 3),type:=29,pos := "part.go:53",after:=#[{ on:=0,ground:=Go.Ground.data }],guard:=none }) (v:=.agg #[.bool s.hn,.slice s.ha s.hN s.hc]) rfl (by kernel_rfl) (by kernel_rfl) (by kernel_rfl) (by kernel_rfl) (λ _ _ _ h=>h) (Or.inl ⟨by rfl,λ w hSw=>?_⟩) hHeld ?_
 ·obtain⟨s0,s1,s2⟩:=hSw;go_simp
 try simp only[Act.put,Ya,Yb,Yc]
 refine AnyL.take (i:=2) (oi:={ dst:=some 5,op:=Go.Op.fieldAddr 31 (Go.Operand.tmp 1) 2,type:=0,pos := "part.go:53",after:=#[],guard:=none }) (v:=.pointer (some ⟨w.heap.size,4,none⟩)) rfl (by kernel_rfl) (by kernel_rfl) (by kernel_rfl) (by kernel_rfl) (λ _ _ _ h=>h) (Or.inl ⟨by rfl,λ w hSw=>?_⟩) hHeld ?_
 ·obtain⟨s0,s1,s2⟩:=hSw;go_simp
 try simp only[Act.put,Ya,Yb,Yc]
 refine AnyL.take (i:=3) (oi:={ dst:=some 6,op:=Go.Op.load 3 (Go.Operand.tmp 5),type:=3,pos := "part.go:53",after:=#[{ on:=2,ground:=Go.Ground.data }],guard:=none }) (v:=.int .i64 s.bits) rfl (by kernel_rfl) (by kernel_rfl) (by kernel_rfl) (by kernel_rfl) (λ _ _ _ h=>h) (Or.inl ⟨by rfl,λ w hSw=>?_⟩) hHeld ?_
 ·obtain⟨s0,s1,s2⟩:=hSw;go_simp
 try simp only[Act.put,Ya,Yb,Yc]
 refine AnyL.one (i:=4) (o:={ dst:=some 7,op:=Go.Op.call { callee:=Go.Callee.value (Go.Operand.func 93),args:=#[Go.Operand.tmp 6],argTypes:=#[3] },type:=31,pos := "part.go:53",after:=#[{ on:=3,ground:=Go.Ground.data }],guard:=none }) (by kernel_rfl) rfl (λ Kc I0=>?_)
 go_simp
 rw[zA HB];refine (zCX _ b (by omega)).mono ?_
 rintro r' w1 ⟨v1,rfl,I3,hs1,hb⟩;have y9:=zB D8 hb;clear hb I3;go_wp2_with fail;refine I0.out _ _ (zA HK _ y9) (λ hHeld=>?_)
 clear I0 Kc
 try simp only[Act.put,Ya,Yb,Yc]
 refine AnyL.take (i:=5) (oi:={ dst:=some 8,op:=Go.Op.field 31 (Go.Operand.tmp 7) 1,type:=29,pos := "part.go:53",after:=#[{ on:=4,ground:=Go.Ground.data }],guard:=none }) (v:=.agg #[.bool v1.hn,.slice v1.ha v1.hN v1.hc]) rfl (by kernel_rfl) (by kernel_rfl) (by kernel_rfl) (by kernel_rfl) (λ _ _ _ h=>h) (Or.inl ⟨by rfl,λ w hSw=>?_⟩) hHeld ?_
 ·obtain⟨s0,s1,s2⟩:=hSw;(have Vs:=fieldP1;go_simp)
 try simp only[Act.put,Ya,Yb,Yc]
 refine AnyL.one (i:=6) (o:={ dst:=some 9,op:=Go.Op.buildSlice 101 2 #[(0,Go.Operand.tmp 4),(1,Go.Operand.tmp 8)],type:=101,pos := "part.go:53",after:=#[{ on:=1,ground:=Go.Ground.data },{ on:=5,ground:=Go.Ground.data }],guard:=none }) (by kernel_rfl) rfl (λ Kc I0=>?_)
 go_simp
 refine I0.out _ _ (zA HK _ (zO y9 _)) (λ hHeld=>?_)
 clear I0 Kc
 try simp only[Act.put,Ya,Yb,Yc]
 refine AnyL.one (i:=7) (o:={ dst:=some 10,op:=Go.Op.call { callee:=Go.Callee.value (Go.Operand.func 153),args:=#[Go.Operand.tmp 9],argTypes:=#[101] },type:=29,pos := "part.go:53",after:=#[{ on:=6,ground:=Go.Ground.data },{ on:=4,ground:=Go.Ground.chain }],guard:=none }) (by kernel_rfl) rfl (λ Kc I0=>?_)
 go_simp
 refine (least2 w1 _ rfl ⟨s.hn,s.ha,s.hN,s.hc⟩ ⟨v1.hn,v1.ha,v1.hN,v1.hc⟩ k hi (Q b) _ _ ((zA HS).hi.bw y9) ((zA HO ▸ hs1.hi).mono dH) (by omega)).mono ?_
 rintro r' w2 ⟨j7,a2,n2,c2,rfl,A8,j5⟩;have A6:=zB y9 j5;clear j5;go_wp2_with fail;refine I0.out _ _ (zA HK _ A6) (λ hHeld=>?_)
 clear I0 Kc
 try simp only[Act.put,Ya,Yb,Yc]
 refine AnyL.take (i:=8) (oi:={ dst:=some 11,op:=Go.Op.fieldAddr 31 (Go.Operand.tmp 1) 1,type:=0,pos := "part.go:53",after:=#[{ on:=0,ground:=Go.Ground.phase },{ on:=1,ground:=Go.Ground.phase },{ on:=2,ground:=Go.Ground.phase },{ on:=3,ground:=Go.Ground.phase },{ on:=4,ground:=Go.Ground.phase },{ on:=5,ground:=Go.Ground.phase },{ on:=6,ground:=Go.Ground.phase },{ on:=7,ground:=Go.Ground.phase }],guard:=none }) (v:=.pointer (some ⟨w.heap.size,2,none⟩)) rfl (by kernel_rfl) (by kernel_rfl) (by kernel_rfl) (by kernel_rfl) (λ _ _ _ h=>h) (Or.inl ⟨by rfl,λ w hSw=>?_⟩) hHeld ?_
 ·obtain⟨s0,s1,s2⟩:=hSw;go_simp
 try simp only[Act.put,Ya,Yb,Yc]
 have V2:=(zA HA).bw A6;have lA:=V2.lt;obtain⟨⟨y0,y1,y2,y3,y4⟩,y5⟩:=V2;refine AnyL.last (o:={ dst:=none,op:=Go.Op.store 29 (Go.Operand.tmp 11) (Go.Operand.tmp 10),type:=0,pos := "part.go:53",after:=#[{ on:=8,ground:=Go.Ground.data },{ on:=7,ground:=Go.Ground.data },{ on:=7,ground:=Go.Ground.chain },{ on:=0,ground:=Go.Ground.phase },{ on:=1,ground:=Go.Ground.phase },{ on:=2,ground:=Go.Ground.phase },{ on:=3,ground:=Go.Ground.phase },{ on:=4,ground:=Go.Ground.phase },{ on:=5,ground:=Go.Ground.phase },{ on:=6,ground:=Go.Ground.phase },{ on:=7,ground:=Go.Ground.phase }],guard:=none }) (by kernel_rfl) rfl (by kernel_rfl) (λ Kc I0=>?_)
 go_simp
 refine I0.out _ _ ?_;clear I0 Kc;have R2:=(zA HR).bw A6;obtain⟨V,hV⟩:∃ V,V=((w2.setCell ⟨w.heap.size,2,none⟩ (.bool j7)).setCell ⟨w.heap.size,3,none⟩ (.slice a2 n2 c2)):=⟨_,rfl⟩;have R3:NoC V (w.heap.size+1):=by rw[hV];exact R2.offH (by omega) _ _
 have A3:VrC V w.heap.size ⟨s.ln,s.la,s.lN,s.lc,j7,a2,n2,c2,s.bits⟩:=by rw[hV];exact zL8 ((zA HA).bw A6) ⟨j7,a2,n2,c2⟩
 have i1:IntAt V s.ln s.la s.lN s.lc k lo:=by rw[hV];exact ((zA HS).lo.bw A6).putH y2 y3 _ _
 have i2:IntAt V j7 a2 n2 c2 (k+1) (minZ hi (Q b)):=by rw[hV];exact A8.putH y2 y3 _ _
 have D6:Below w.heap.size w V:=by rw[hV];exact ((zB (zA Eg) A6).setCell (p:=⟨w.heap.size,2,none⟩) (Yj _) _).setCell (p:=⟨w.heap.size,3,none⟩) (Yj _) _
 rw[<- hV];clear hV y0 y1 y2 y3 y4 y5 lA;have lA:=A3.lt;have lR:=R3.lt;obtain⟨⟨y0,y1,y2,y3,y4⟩,y5⟩:=A3;obtain⟨q0,q1,q2,q3,q4,q5⟩:=R3;go_wp2_with fail;refine bodyPost_ret (v:=.agg #[.bool s.ln,.slice s.la s.lN s.lc,.bool j7,.slice a2 n2 c2,.int .i64 s.bits]) (by simp[results,Tryz.results141,go_sem,q0,q1,q2,q3,q4]) rfl ⟨⟨s.ln,s.la,s.lN,s.lc,j7,a2,n2,c2,s.bits⟩,rfl,zA HB,?_,?_⟩
 ·exact SpAt.put5 (show SpAt V ⟨s.ln,s.la,s.lN,s.lc,j7,a2,n2,c2,s.bits⟩ (k+1) lo (minZ hi (Q b)) from⟨i1.mono (by omega),i2⟩) q0 q1 q2 q3 q4 _ _ _ _ _
 ·exact kM D6 (Nat.le_succ _) _ _ _ _ _
theorem zNE (w:World) (s:Sp) (p q:Int) (k b t N:Nat) (l:Int) (a:Int × Int) (hs:SpAt w s k a.1 a.2) (hbits:s.bits=(b:Int)) (Al:a.1<=a.2) (hr:rok p q) (M3:40<=b) (hb:b<=3000) (hp:0<=p)
  (hl:zBM (zX (ofI p q b)) l) (ht:(t:Int)=max 0 (l-b+8)) (fe:t<=17) (og:Abs (zG (ofI p q b) t) (Q (b-8))) (hN:zT (zW b (zG (ofI p q b) t)) N) (hK:Q (b+eb t)<P k) (kx:k<=1000000) (GB:4+b/16+20<=k) :
  Calls Tryz.prog 142 #[.agg s.q,.agg #[.int .i64 p,.int .i64 q]] w (zL w b (b/16+k+10) (zEC a.1 a.2 (sqI b (zM (zW b (zG (ofI p q b) t)) N) t).1 (sqI b (zM (zW b (zG (ofI p q b) t)) N) t).2 b) (zF6 a.1 a.2 (sqI b (zM (zW b (zG (ofI p q b) t)) N) t).1 (sqI b (zM (zW b (zG (ofI p q b) t)) N) t).2 b)):=by
 obtain⟨W,hW⟩:∃ W,W=((w.alloc (.cells s.q 31)).alloc (.cells #[.int .i64 p,.int .i64 q] 23)).alloc (.cells zCq 31):=⟨_,rfl⟩;have j6:Below w.heap.size w W:=by rw[hW];exact bl3 _ _ _ _
 have A:SpC W w.heap.size s:=by rw[hW];constructor<;>simp[go_sem]
 have C:RaC W (w.heap.size+1) p q:=by rw[hW];constructor<;>simp[go_sem]
 have R:NoC W (w.heap.size+1+1):=by rw[hW];constructor<;>simp[go_sem]
 obtain⟨r1,r2,r3,r4⟩:=hr;have hq:0<q:=by omega
 have hle:=yU (n:=p) hq b;have GR:0<=(ofI p q b).1:=Int.ediv_nonneg (Yl hp (by have:=zF b;omega)) (by omega)
 have fW:=zPI GR hle fe M3 hN;have Av:=(zCT (ws:=1) (by omega) og hle (by have:=zF t;have:=yQ (n:=p) hq b;omega) hN).1
 obtain⟨E,hE⟩:∃ E:Int × Int,E=sqI b (zM (zW b (zG (ofI p q b) t)) N) t:=⟨_,rfl⟩;rw[<- hE] at fW Av ⊢;have QA:=zC hE;have ko:0<E.1:=by have:=zF b;omega
 have LQ:=zC (And.intro ko Av);clear fW Av hE ko;have vK:=zC (And.intro hl (And.intro ht (And.intro og hN)));have QO:=zC hle;have HS:=zC (hs.bw j6);have HB:=zC hbits;have QN:=zC hK;have Qr:=zC Al;have HK:=zC (show ∀ w',Below W.heap.size W w'->(cK w' w.heap.size s (rK0 w' (w.heap.size+1) p q)) from λ w' hB=>⟨(A.bw hB).c0,(A.bw hB).c1,(A.bw hB).c2,(A.bw hB).c3,(A.bw hB).c4,(C.bw hB).c0,(C.bw hB).c1⟩)
 have D8:Below W.heap.size W W.drew:=(Below.refl _ _).drew;have lA:=A.lt;have lC:=C.lt;have lR:=R.lt;have m1:w.heap.size≠w.heap.size+1+1:=by omega
 have m2:w.heap.size+1+1≠w.heap.size:=by omega
 have m3:w.heap.size+1≠w.heap.size+1+1:=by omega
 have m4:w.heap.size+1+1≠w.heap.size+1:=by omega
 clear hs hbits A C hl ht og hN hle GR hK Al
 go_enter Tryz.func142,Tryz.ntmps142
 go_wp2;rw[<- hW];clear hW;obtain⟨x0,x1,x2,x3,x4,x5,x6⟩:=zA HK _ (Below.refl _ _)
 go_region_held3 (λ w'=>cK w' w.heap.size s (rK0 w' (w.heap.size+1) p q)) (first|exact zA HK _ (by with_reducible first|exact D8|exact fq|exact J0|exact G6|exact A6|exact y9)|(dsimp only[cK,cK0,nK,nK0,rK,rK0];go_keep)|go_keep)
  (first
   | (go_at_call 162;have K9:=J0;refine (zC5 _ s v4 k b a.1 a.2 E.1 E.2 ((zA HS).bw J0) wO (by omega) (by omega) (zA HB) (zA Qr) (zA LQ).1 (zA LQ).2).mono ?_;rintro r' w5 ⟨v5,rfl,jk,NY,E4⟩;have Rl:=zC jk;clear jk;have fq:=zB J0 E4;obtain⟨q0,q1,q2,q3,q4,q5⟩:=R.bw fq;obtain⟨y0,y1,y2,y3,y4,y5,y6⟩:=zA HK _ fq)
   | (go_at_call 77;have K9:=G6;refine (zB3 _ v3 k b t N (ofI p q b) l (mK.mono GB) (zA kg) (zA QO) (by omega) (by omega) (zA vK).1 (zA vK).2.1 (by omega) (zA vK).2.2.1 (zA vK).2.2.2 (zA QN) (by omega)).mono ?_;rintro r' w4 ⟨v4,rfl,bN,wO,A5⟩;rw[<- zA QA] at wO;have Mg:=zC bN;clear bN;have J0:=zB G6 A5)
   | (go_at_call 88;have K9:=A6;refine (wideOf_z s.bits (zA HB) _ _ _ _ _ _ _ _ 4 4 p q _ s9 A8 (by omega) (by omega) hq).mono ?_;rintro r' w3 ⟨v3,rfl,H7,mK,m8⟩;have kg:=zC H7;clear H7;have G6:=zB A6 m8)
   | (go_at_call 33;have K9:=y9;refine (zE q _ (by omega) (by omega)).mono ?_;rintro r' w2 ⟨j7,a2,n2,c2,rfl,A8,j5⟩;have A6:=zB y9 j5;replace s9:=s9.bw j5)
   | (go_at_call 33;refine (zE p _ (by omega) (by omega)).mono ?_;rintro r' w1 ⟨o7,a1,n1,c1,rfl,s9,b9⟩;have y9:=zB D8 b9))
 all_goals
  go_wp2_with fail;refine bodyPost_ret (v:=.agg v5.q) (by simp[results,Tryz.results142,go_sem,q0,q1,q2,q3,q4]) rfl ⟨v5,rfl,zA Rl,?_,?_⟩
  ·exact SpAt.put5 NY q0 q1 q2 q3 q4 _ _ _ _ _
  ·exact kM (zB j6 fq) (by omega) _ _ _ _ _
structure VnC (w:World) (B:Nat) (x:Nm):Prop where
 c:NmC w B x
 fz:∀ o,w.frozen? ⟨B,o,none⟩=false
theorem VnC.lt {w:World} {B:Nat} {x:Nm} (h:VnC w B x):B<w.heap.size:=h.c.lt
theorem VnC.bw {w w':World} {B:Nat} {x:Nm} (h:VnC w B x) (hb:Below w.heap.size w w'):VnC w' B x :=
 ⟨h.c.bw hb,λ o=>(hb.frozen (p:=⟨B,o,none⟩) h.lt).trans (h.fz o)⟩
abbrev zDD (w:World) (B:Nat) (x:Nm):World:=(w.setCell ⟨B,0,none⟩ (.bool x.neg)).setCell ⟨B,1,none⟩ (.slice x.a x.n x.cap)
theorem VnC.put {w:World} {B:Nat} {x:Nm} (h:VnC w B x) (y:Nm):VnC (zDD w B y) B y:=⟨zCZ h.c y,yY h.fz _ _⟩
theorem VnC.off {w:World} {B B':Nat} {x:Nm} (h:VnC w B x) (hne:B≠B') (y:Nm):VnC (zDD w B' y) B x:=⟨h.c.off hne _ _,yY h.fz _ _⟩
theorem IntAt.putv {w:World} {neg:Bool} {a:Option Addr} {n cap k:Nat} {z:Int} (h:IntAt w neg a n cap k z) {B:Nat} {x:Nm} (hx:VnC w B x) (y:Nm):IntAt (zDD w B y) neg a n cap k z:=h.put2 hx.c.c0 hx.c.c1 _ _
theorem vnc_new (w:World) (x:Nm) (T:TypeId):VnC (w.alloc (.cells x.q T)) w.heap.size x:=⟨⟨by simp,by simp⟩,λ o=>by simp[go_sem]⟩
def MasPr (x:Nat->Rat) (B:Nat) (lo hi:Int):Prop :=
 Iv B (lo,hi) x/\lo<=hi/\hi-lo<=Q 1702/\0<=lo/\hi<=Q B
theorem of_pr {N D:Int} (b:Nat) (hN:0<=N) (hD:0<D) (h:N<=D):MasPr (λ _=>(N:Rat)/(D:Rat)) b (ofI N D b).1 (ofI N D b).2:=by
 have q:=zF b;have hw:=yQ (n:=N) hD b;have h1:=Yg h (show 0<=Q b by omega)
 have q2:=zF 1702;refine⟨Iv.of b hD,yU hD b,by omega,Int.ediv_nonneg (Yl hN (by omega)) (by omega),?_⟩
 have h2 : -(Q b) <= -(N*Q b)/D:=Int.le_ediv_of_mul_le hD (by rw[Int.neg_mul,Int.mul_comm (Q b)];omega)
 show -(-(N*Q b)/D)<=Q b
 omega
end Go.Proofs.YtgmnknmjainabacGreat
namespace Go.Proofs.YtgmnknmjainabacGreat.Ex
theorem dn_key {s h x Y K C1 A t q:Rat} (hx:0<=x) (hh:0<h) (h1:h<=1) (hY:x+h<=Y) (s0:0<=s) (sK:s<=K) (hA:A=2*Y+1) (fS:C1=K+A*(1+2*(Y*K))+2*(A*A)*(K+1+2*(Y*K))) (ht:t=h*(2*x+h)) (hq:1-t-2*(t*t)<=q):s+h<=(s+h+2*(x*h)*s)*q+C1*(h*h):=by
 have K0:0<=K:=by grind
 have Y0:0<=Y:=by grind
 have h0:=Yh hh;have fA:=Ye h0 h0;have a0:0<=2*x+h:=by grind
 have aA:2*x+h<=A:=by grind
 have A0:0<=A:=by grind
 have t0:0<=t:=by rw[ht];exact Ye h0 a0
 have tA:t<=A*h:=by have:=Yd aA h0;rw[ht];grind
 have tt:t*t<=A*A*(h*h):=by
  have p1:=Yd tA t0;have p2:=Yf tA (Ye A0 h0);grind
 obtain⟨p,hp⟩:∃ p,p=s+h+2*(x*h)*s:=⟨_,rfl⟩;have xh:=Ye hx h0;have xhs:=Ye xh s0;have p0:0<=p:=by rw[hp];grind
 have xs:x*s<=Y*K:=Rat.le_trans (Yf (show x<=Y by grind) s0) (Yd sK Y0)
 have pB:p<=K+1+2*(Y*K):=by
  have n1:=Yf h1 (Ye hx s0);rw[hp];grind
 have m1:=Yd hq p0;rw[<- hp];have e1:p*t=2*(x*h)*s+h*h*s+t*(h*(1+2*(x*s))):=by rw[hp,ht];grind
 have b1:=Yd sK fA;have c0:0<=h*(1+2*(x*s)):=Ye h0 (by have:=Ye hx s0;grind)
 have b2:=Yf tA c0;have b3:=Yd (show 1+2*(x*s)<=1+2*(Y*K) by grind) (Ye A0 fA)
 have pt:p*t<=2*(x*h)*s+(K+A*(1+2*(Y*K)))*(h*h):=by
  rw[e1];have e2:A*h*(h*(1+2*(x*s)))=A*(h*h)*(1+2*(x*s)):=by grind
  rw[e2] at b2;have e3:(K+A*(1+2*(Y*K)))*(h*h)=h*h*K+A*(h*h)*(1+2*(Y*K)):=by grind
  rw[e3];generalize h*h*s=w1 at *;generalize h*h*K=w2 at *;generalize A*(h*h)*(1+2*(x*s))=w3 at *;generalize A*(h*h)*(1+2*(Y*K))=w4 at *;generalize t*(h*(1+2*(x*s)))=w5 at *;generalize 2*(x*h)*s=w6 at *;clear e1 e2 e3 m1 hp ht fS;grind
 have q1:=Yf pB (zN t);have q2:=Yd tt (show 0<=K+1+2*(Y*K) by have:=Ye Y0 K0;grind)
 have e4:C1*(h*h)=(K+A*(1+2*(Y*K)))*(h*h)+2*((K+1+2*(Y*K))*(A*A*(h*h))):=by rw[fS];grind
 have e5:p*(1-t-2*(t*t))=p-p*t-2*(p*(t*t)):=by grind
 rw[e5] at m1;rw[e4];have e6:p=s+h+2*(x*h)*s:=hp;generalize p*q=w1 at *;generalize p*t=w2 at *;generalize p*(t*t)=w3 at *;generalize (K+1+2*(Y*K))*(t*t)=w4 at *;generalize (K+1+2*(Y*K))*(A*A*(h*h))=w5 at *;generalize (K+A*(1+2*(Y*K)))*(h*h)=w6 at *;generalize 2*(x*h)*s=w7 at *;clear e1 fS ht hp tt pB b1 b2 b3 c0 e4 e5;grind
theorem eF_dn {Y K V:Rat} (B:Bnd Y K V):∃ C D,0<=C/\0<D/\D<=1/\∀ x h,0<=x->0<h->h<=D->x+h<=Y->∃ z,Null z/\∃ N:Nat,∀ M,N<=M->eF x M+h*ex (-(x*x)) M<=eF (x+h) M+C*(h*h)+z M:=by
 obtain⟨A,hA⟩:∃ A,A=2*Y+1:=⟨_,rfl⟩;obtain⟨C1,fS⟩:∃ C1,C1=K+A*(1+2*(Y*K))+2*(A*A)*(K+1+2*(Y*K)):=⟨_,rfl⟩;have y0:=B.y0;have k0:=B.k0;have v1:=B.v1;have yk:=Ye y0 k0;have A0:0<=A:=by grind
 have AA:=Ye A0 A0
 have ph:0<=C1:=by
  have a:=Ye A0 (show 0<=1+2*(Y*K) by grind)
  have b:=Ye (show 0<=2*(A*A) by grind) (show 0<=K+1+2*(Y*K) by grind)
  grind
 have A4:0<4*A:=by grind
 have dm:1/(4*A)*(4*A)=1:=rdm A4;have d0:0<1/(4*A):=zH (by grind) A4
 refine⟨C1*V,1/(4*A),Ye ph (by grind),d0,jX A4 (by grind),λ x h hx hh hD hY=>?_⟩
 have h1:h<=1:=Rat.le_trans hD (jX A4 (by grind))
 have TC:h*A<=1/4:=by have:=Yf hD A0;grind
 obtain⟨t,ht⟩:∃ t,t=h*(2*x+h):=⟨_,rfl⟩;have h0:=Yh hh;have t0:0<=t:=by rw[ht];exact Ye h0 (by grind)
 have t4:t<=1/4:=by
  have:=Yd (show 2*x+h<=A by grind) h0
  rw[ht];grind
 have sqe : -((x+h)*(x+h)) = -(x*x) + -t:=by rw[ht];grind
 have eb:Bdd (eS (x+h)):=Bdd.of_le K 0 λ M _=>⟨by have:=jO (x:=x+h) (by grind) M;grind,B.s _ (by grind) hY M⟩
 have hz:=(zAZ (-(x*x)) (-t)).bmul eb;have hT:=zO8 hx
 have K6:Null (λ M=>eT x (M-1)):=λ e he=>by
  obtain⟨N,hN⟩:=hT e he;exact⟨N+1,λ M hM=>hN (M-1) (by omega)⟩
 have fh:=(K6.bmul (Bdd.const (2*x*h))).bmul (jW (-(x*x)));obtain⟨N,hN⟩:=zA0 (-(x*x));refine⟨_,fh.add hz,N+2,λ M hM=>?_⟩
 have v0:=hN M (by omega)
 have vV:ex (-(x*x)) M<=V:=B.v _ (zN x) (by
  have xx:x*x<=Y*Y:=Rat.le_trans (Yd (show x<=Y by grind) hx) (Yf (show x<=Y by grind) y0)
  have:=Ye y0 y0
  grind) M
 have q:=zDS t0 t4 (M:=M) (by omega)
 have qlo:1-t-2*(t*t)<=ex (-t) M:=by
  have:=(yV (h := -t) (b:=t) ⟨by grind,by grind⟩ t4 (M:=M) (by omega)).1
  show _<=E (-t) M
  grind
 have q1:ex (-t) M<=1:=by
  have:=q.2;have XN:t*t<=t*(1/4):=Yd t4 t0;grind
 obtain⟨m,rfl⟩:∃ m,M=m+1:=⟨M-1,by omega⟩
 have g:=zO4 hx h0 m;have e2:eS x (m+1)=eS x m+eT x m:=rfl;have T0:=zAM hx m;have k:=dn_key (Y:=Y) (K:=K) hx hh h1 hY (jO hx (m+1)) (B.s x hx (by grind) (m+1)) hA fS ht qlo
 simp only[Nat.add_sub_cancel];rw[zMX,zMX,sqe];have e4:eS x m=eS x (m+1)-eT x m:=by grind
 rw[e4] at g;generalize ex (-(x*x)) (m+1)=v at *;generalize ex (-(x*x) + -t) (m+1)=vt at *;generalize ex (-t) (m+1)=qq at *;generalize eS (x+h) (m+1)=s' at *;generalize eS x (m+1)=s at *;generalize eT x m=T at *;have k1:=Yf k v0;have g2:s+h+2*(x*h)*s<=s'+2*(x*h)*T:=by grind
 have vq:=Ye v0 q.1;have k2:=Yf g2 vq;have w0:=Ye (Ye (Ye hx h0) T0) v0;have w1:=Yd q1 w0;have fA:=Ye h0 h0;have k3:=Yd vV (Ye ph fA);have r1:((s+h+2*(x*h)*s)*qq+C1*(h*h))*v=(s+h+2*(x*h)*s)*(v*qq)+C1*(h*h)*v:=by grind
 have r2:(s'+2*(x*h)*T)*(v*qq)=s'*(v*qq)+2*(x*h*T*v*qq):=by grind
 have r3:T*(2*x*h)*v+(v*qq-vt)*s'=2*(x*h*T*v*1)+s'*(v*qq)-s'*vt:=by grind
 have r4:(s+h)*v=s*v+h*v:=by grind
 have r5:C1*V*(h*h)=C1*(h*h)*V:=by grind
 rw[r1,r4] at k1;rw[r2] at k2;rw[r3,r5];generalize (s+h+2*(x*h)*s)*(v*qq)=g1 at *;generalize s'*(v*qq)=g3 at *;generalize x*h*T*v*qq=g4 at *;generalize x*h*T*v*1=g5 at *;generalize C1*(h*h)*v=g6 at *;generalize C1*(h*h)*V=g7 at *;generalize s'*vt=g8 at *;generalize s*v=g9 at *;generalize h*v=g10 at *;clear k g hz K6 fh hT eb r1 r2 r3 r4 r5 fS dm;grind
end Go.Proofs.YtgmnknmjainabacGreat.Ex
namespace Go.Proofs.YtgmnknmjainabacGreat.Ex
theorem zO3 {Y K V a b:Rat} (B:Bnd Y K V) (ha:0<=a) (fT:a<=b) (hb:b<=Y):LeN (λ M=>eF a M+(b-a)*ex (-(b*b)) M) (eF b):=by
 obtain⟨C,D,c0,d0,_,dn⟩:=eF_dn B
 have d:=zB6 (f:=λ x M=>(x-a)*ex (-(b*b)) M-eF x M) (a:=a) (b:=b) (C:=C) (D:=D) fT c0 d0 (λ x h h1 h2 h3 h4=>by
  obtain⟨z,hz,N,k⟩:=dn x h (by grind) h2 h3 (by grind)
  have xx : -(b*b) <= -(x*x):=by
   have:=Yd (show x<=b by grind) (show 0<=x by grind)
   have:=Yf (show x<=b by grind) (show 0<=b by grind)
   grind
  obtain⟨z2,K6,k2⟩:=((zCS xx).scale (Yh h2)).null
  exact⟨_,hz.add K6,N,λ M hM=>by have:=k M hM;have:=k2 M;grind⟩)
 intro e he
 obtain⟨N,k⟩:=d e he;exact⟨N,λ M hM=>by have:(b-a)*ex (-(b*b)) M-eF b M<=(a-a)*ex (-(b*b)) M-eF a M+e:=k M hM;grind⟩
theorem eF_right {Y K V x h:Rat} (B:Bnd Y K V) (hx:0<=x) (hh:0<=h) (j:Nat) (hj:(j:Rat)*h*x<=Y):LeN (λ M=>S (λ i=>x*h*ex (-((((i+1:Nat):Rat)*h*x)*(((i+1:Nat):Rat)*h*x))) M) j) (eF ((j:Rat)*h*x)):=by
 induction j with
 | zero =>
  refine LeN.of_le 0 λ M _=>?_
  rw[show ((0:Nat):Rat)*h*x=0 by grind,zG5]
  show (0:Rat)<=0
  grind
 | succ j ih =>
  have ec:((j+1:Nat):Rat)=(j:Rat)+1:=by push_cast;rfl
  have j0:(0:Rat)<=(j:Rat):=by exact_mod_cast Nat.zero_le j
  have jm:=Ye hh hx;have jh:=Ye (Ye j0 hh) hx;have mG:((j:Rat)+1)*h*x<=Y:=by rw[ec] at hj;exact hj
  have e:((j:Rat)+1)*h*x=(j:Rat)*h*x+h*x:=by grind
  have wT:=ih (by grind)
  have c:=zO3 B jh (show (j:Rat)*h*x<=((j+1:Nat):Rat)*h*x by rw[ec];grind) hj
  refine LeN.trans ?_ c;have:=wT.add (LeN.refl (λ M=>(((j+1:Nat):Rat)*h*x-(j:Rat)*h*x)*ex (-((((j+1:Nat):Rat)*h*x)*(((j+1:Nat):Rat)*h*x))) M))
  refine LeN.trans (LeN.of_le 0 λ M _=>?_) this
  show S (λ i=>x*h*ex (-((((i+1:Nat):Rat)*h*x)*(((i+1:Nat):Rat)*h*x))) M) j+x*h*ex (-((((j+1:Nat):Rat)*h*x)*(((j+1:Nat):Rat)*h*x))) M<=S (λ i=>x*h*ex (-((((i+1:Nat):Rat)*h*x)*(((i+1:Nat):Rat)*h*x))) M) j+(((j+1:Nat):Rat)*h*x-(j:Rat)*h*x)*ex (-((((j+1:Nat):Rat)*h*x)*(((j+1:Nat):Rat)*h*x))) M
  have e9:((j+1:Nat):Rat)*h*x-(j:Rat)*h*x=x*h:=by rw[ec];grind
  rw[e9];exact Rat.le_refl
theorem S_shift (f:Nat->Rat) (n:Nat):S f n+f n=f 0+S (λ i=>f (i+1)) n:=by
 have:=zN8 f n;exact this
theorem gE_le {Y K V x h:Rat} (B:Bnd Y K V) (hx:0<=x) (hxY:x<=Y) (hh:0<=h) (n:Nat) (hn:(n:Rat)*h=1):LeN (λ M=>x*gE h x n M) (λ M=>eF x M+x*h):=by
 have r:=eF_right (x:=x) B hx hh n (by rw[hn];grind)
 rw[hn,show 1*x=x by grind] at r
 obtain⟨z,hz,k⟩:=r.null;obtain⟨N,pos⟩:=zA0 (-(((n:Rat)*h*x)*((n:Rat)*h*x)));refine LeN.of_null hz (N+1) λ M hM=>?_
 have a:=k M;have p:=pos M (by omega)
 have e0:ex (-((((0:Nat):Rat)*h*x)*(((0:Nat):Rat)*h*x))) M=1:=by
  have : -((((0:Nat):Rat)*h*x)*(((0:Nat):Rat)*h*x))=0:=by grind
  rw[this];obtain⟨m,rfl⟩:∃ m,M=m+1:=⟨M-1,by omega⟩
  exact kV m
 have s:=S_shift (λ i=>x*h*ex (-(((i:Rat)*h*x)*((i:Rat)*h*x))) M) n
 rw[gE_mul] at s;rw[e0] at s;have xh:=Ye (Ye hx hh) p;grind
theorem part_dn {Y K V x k s:Rat} (B:Bnd Y K V) (hx:0<=x) (hk:0<k) (k1:k<=1) (hY:x+k<=Y) (hs:0<=s) (hs1:s<=1) (hD:8*(k*(2*Y+1))<=1) :
  ∃ z,Null z/\∃ N:Nat,∀ M,N<=M->rI s*ex (-(x*x*(1+s*s))) M-2*(x*k)*(ex (-(x*x)) M*ex (-((s*x)*(s*x))) M)<=rI s*ex (-((x+k)*(x+k)*(1+s*s))) M+(1+8*((2*Y+1)*(2*Y+1)))*V*(k*k)+z M:=by
 obtain⟨c,hc⟩:∃ c,c=1+s*s:=⟨_,rfl⟩;have k0:=Yh hk;have y0:=B.y0;have ss:s*s<=1:=by have:=Yd hs1 hs;grind
 have XG:=zN s;have rc:rI s*c=1:=by rw[hc];exact zIX s
 have r0:=Yh (zIY s);have r1:=rI_le s;obtain⟨t,ht⟩:∃ t,t=k*(2*x+k)*c:=⟨_,rfl⟩;obtain⟨A,hA⟩:∃ A,A=2*Y+1:=⟨_,rfl⟩;have A0:0<=A:=by grind
 have aA:2*x+k<=A:=by grind
 have ka:k*(2*x+k)<=k*A:=Yd aA k0;have Bg:0<=k*(2*x+k):=Ye k0 (by grind)
 have t0:0<=t:=by rw[ht];exact Ye Bg (by grind)
 have t2:t<=2*(k*A):=by
  have a:=Yd (show c<=2 by grind) Bg
  rw[ht];grind
 have t4:t<=1/4:=by rw[<- hA] at hD;grind
 have bs:=zAZ (-(x*x)) (-((s*x)*(s*x)));have nO:=zAZ (-(x*x*c)) (-t);obtain⟨N2,h2⟩:=zA0 (-(x*x*c));refine⟨_,(bs.bmul (Bdd.const (-(2*(x*k))))).add (nO.bmul (Bdd.const (rI s))),N2+2,λ M hM=>?_⟩
 have v0:=h2 M (by omega)
 have vV:ex (-(x*x*c)) M<=V:=B.v _ (Ye (zN x) (by grind)) (by
  have xx:x*x<=Y*Y:=Rat.le_trans (Yd (show x<=Y by grind) hx) (Yf (show x<=Y by grind) y0)
  have p1:=Yd (show c<=2 by grind) (zN x)
  grind) M
 have qlo:1-t-2*(t*t)<=ex (-t) M:=by
  have:=(yV (h := -t) (b:=t) ⟨by grind,by grind⟩ t4 (M:=M) (by omega)).1
  show _<=E (-t) M
  grind
 have e1 : -((x+k)*(x+k)*c) = -(x*x*c) + -t:=by rw[ht];grind
 have e2 : -(x*x) + -((s*x)*(s*x)) = -(x*x*c):=by rw[hc];grind
 rw[<- hc,e1];rw[e2]
 have tt:t*t<=4*(A*A)*(k*k):=by
  have p1:=Yd t2 t0;have p2:=Yf t2 (show 0<=2*(k*A) by have:=Ye k0 A0;grind)
  grind
 have rt:rI s*t=2*(x*k)+k*k:=by
  have:rI s*t=k*(2*x+k)*(rI s*c):=by rw[ht];grind
  rw[this,rc];grind
 have m1:=Yd qlo (Ye r0 v0);have Ir:=zN t;have m3:=Yf r1 Ir;have m4:=Yf (show 2*(rI s*(t*t))<=8*(A*A)*(k*k) by grind) v0
 have AA:=Ye (Ye A0 A0) (Ye k0 k0);have kk:=Ye k0 k0;have m5:=Yd vV (show 0<=k*k+8*(A*A*(k*k)) by grind)
 rw[<- hA];generalize ex (-(x*x*c)) M=v at *;generalize ex (-(x*x*c) + -t) M=vt at *;generalize ex (-t) M=q at *;generalize ex (-(x*x)) M*ex (-((s*x)*(s*x))) M=w at *;clear bs nO h2;have f1:rI s*v*(1-t-2*(t*t))=rI s*v-(rI s*t)*v-2*(rI s*(t*t))*v:=by grind
 rw[f1,rt] at m1;grind
theorem gG_dn {Y K V x k h:Rat} (B:Bnd Y K V) (hx:0<=x) (hk:0<k) (k1:k<=1) (hY:x+k<=Y) (hh:0<=h) (hD:8*(k*(2*Y+1))<=1) (n:Nat) (hn:(n:Rat)*h<=1) :
  ∃ z,Null z/\∃ N:Nat,∀ M,N<=M->gG h x n M-2*(x*k)*(ex (-(x*x)) M*gE h x n M)<=gG h (x+k) n M+(n:Rat)*h*((1+8*((2*Y+1)*(2*Y+1)))*V*(k*k))+z M:=by
 induction n with
 | zero =>
  refine⟨_,null_zero,0,λ M _=>?_⟩
  show 0-2*(x*k)*(ex (-(x*x)) M*0)<=0+((0:Nat):Rat)*h*_+0
  grind
 | succ n ih =>
  have ec:((n+1:Nat):Rat)=(n:Rat)+1:=by push_cast;rfl
  have n0:(0:Rat)<=(n:Rat):=by exact_mod_cast Nat.zero_le n
  rw[ec] at hn;obtain⟨z1,F9,N1,h1⟩:=ih (by grind)
  obtain⟨z2,K6,N2,h2⟩:=part_dn B hx hk k1 hY (s:=(n:Rat)*h) (Ye n0 hh) (by grind) hD
  refine⟨_,F9.add (K6.bmul (Bdd.const h)),N1+N2,λ M hM=>?_⟩
  have a1:=h1 M (by omega)
  have a2:=Yd (h2 M (by omega)) hh
  show gG h x n M+h*rI ((n:Rat)*h)*ex (-(x*x*(1+((n:Rat)*h)*((n:Rat)*h)))) M-2*(x*k)*(ex (-(x*x)) M*(gE h x n M+h*ex (-(((n:Rat)*h*x)*((n:Rat)*h*x))) M))<=gG h (x+k) n M+h*rI ((n:Rat)*h)*ex (-((x+k)*(x+k)*(1+((n:Rat)*h)*((n:Rat)*h)))) M+((n+1:Nat):Rat)*h*((1+8*((2*Y+1)*(2*Y+1)))*V*(k*k))+_
  rw[ec];grind
theorem gG_le {h x:Rat} (hh:0<=h) (n:Nat):LeN (gG h x n) (λ M=>ex (-(x*x)) M*S (λ i=>h*rI ((i:Rat)*h)) n):=by
 induction n with
 | zero=>exact LeN.of_le 0 λ M _=>by show (0:Rat)<=_*0;grind
 | succ n ih =>
  have r0:=Yh (zIY ((n:Rat)*h));have m:=(zCS (a := -(x*x*(1+((n:Rat)*h)*((n:Rat)*h)))) (b := -(x*x)) (by have:=Ye (zN x) (zN ((n:Rat)*h));grind)).scale (Ye hh r0)
  refine (ih.add m).trans (LeN.of_le 0 λ M _=>?_)
  show _<=ex (-(x*x)) M*(S (λ i=>h*rI ((i:Rat)*h)) n+h*rI ((n:Rat)*h))
  grind
end Go.Proofs.YtgmnknmjainabacGreat.Ex
namespace Go.Proofs.YtgmnknmjainabacGreat.Ex
theorem zI4 {v x h:Rat} (hv:0<=v) (wP:v<=1/2) (tq:v<=x) (hh:0<=h) (M:Nat) (j:Nat) (hj:tD v (x+(j:Rat)*h)<=1/2) :
  aA (tD v (x+(j:Rat)*h)) M-aA (tD v x) M<=S (λ i=>h*rI (x+(i:Rat)*h)) j+(j:Rat)*(16*(h*h)+2*(h*q4 M)):=by
 induction j with
 | zero =>
  have e:x+((0:Nat):Rat)*h=x:=by grind
  rw[e]
  show _<=0+_
  grind
 | succ j ih =>
  have ec:((j+1:Nat):Rat)=(j:Rat)+1:=by push_cast;rfl
  have j0:(0:Rat)<=(j:Rat):=by exact_mod_cast Nat.zero_le j
  have jh:=Ye j0 hh;have e1:x+((j+1:Nat):Rat)*h=x+(j:Rat)*h+h:=by rw[ec];grind
  rw[e1] at hj ⊢;have wT:=ih (Rat.le_trans (zRZ hv (by grind) (by grind)) hj)
  have st:=(zJM (x:=x+(j:Rat)*h) (i:=rI (x+(j:Rat)*h)) hv wP (by grind) hh hj (zIX _) M).2
  show _<=S (λ i=>h*rI (x+(i:Rat)*h)) j+h*rI (x+(j:Rat)*h)+_
  rw[ec];grind
theorem zRY (n:Nat) {h:Rat} (hm:((n+1:Nat):Rat)*h=1/2):S (λ i=>h*rI ((i:Rat)*h)) (2*(n+1))=S (λ i=>h*rI (0+(i:Rat)*h)) (n+1)+S (λ i=>h*rI (1/2+(i:Rat)*h)) (n+1):=by
 rw[show 2*(n+1)=(n+1)+(n+1) by omega,zOA]
 congr 1
 ·exact kO _ λ i _=>by rw[show 0+(i:Rat)*h=(i:Rat)*h by grind]
 ·refine kO _ λ i _=>?_
  have e:((n+1+i:Nat):Rat)=((n+1:Nat):Rat)+(i:Rat):=by push_cast;rfl
  rw[e,show (((n+1:Nat):Rat)+(i:Rat))*h=((n+1:Nat):Rat)*h+(i:Rat)*h by grind,hm]
theorem zNP (n:Nat) {h:Rat} (hh:h*(2*((n:Rat)+1))=1):LeN piS (λ M=>4*S (λ i=>h*rI ((i:Rat)*h)) (2*(n+1))+64*(1/((n:Rat)+1))):=by
 have n0:(0:Rat)<(n:Rat)+1:=zAT n
 have h0:0<h:=by
  refine Rat.not_le.1 λ hle=>?_
  have:=Ye (show 0 <= -h by grind) (show 0<=2*((n:Rat)+1) by grind)
  grind
 have ec:((n+1:Nat):Rat)=(n:Rat)+1:=by push_cast;rfl
 have hm:((n+1:Nat):Rat)*h=1/2:=by rw[ec];grind
 have a:∀ M,aA (1/2) M<=S (λ i=>h*rI (0+(i:Rat)*h)) (n+1)+((n:Rat)+1)*(16*(h*h)+2*(h*q4 M)):=λ M=>by
  have:=zI4 (v:=0) (x:=0) (by grind) (by grind) (by grind) (Yh h0) M (n+1) (by rw[hm];decide +kernel)
  rw[hm,show tD 0 (0+1/2)=1/2 by decide +kernel,show tD 0 0=0 by decide +kernel,zFG,ec] at this
  grind
 have b:∀ M,aA (1/3) M<=S (λ i=>h*rI (1/2+(i:Rat)*h)) (n+1)+((n:Rat)+1)*(16*(h*h)+2*(h*q4 M)):=λ M=>by
  have:=zI4 (v:=1/2) (x:=1/2) (by grind) (by grind) (by grind) (Yh h0) M (n+1) (by rw[hm];decide +kernel)
  rw[hm,show tD (1/2) (1/2+1/2)=1/3 by decide +kernel,show tD (1/2) (1/2)=0 by decide +kernel,zFG,ec] at this
  grind
 rw[zRY n hm];have nh:((n:Rat)+1)*h=1/2:=by grind
 have hu:h=1/2*(1/((n:Rat)+1)):=by
  have um:1/((n:Rat)+1)*((n:Rat)+1)=1:=rdm n0;have:h*(((n:Rat)+1)*(1/((n:Rat)+1)))=1/2*(1/((n:Rat)+1)):=by rw[<- nh];grind
  rw[show ((n:Rat)+1)*(1/((n:Rat)+1))=1 by grind] at this
  grind
 refine LeN.of_null ((pi_four.neg).add (zE9 8 (by grind))) 0 λ M _=>?_
 have a1:=a M;have b1:=b M;have e1:((n:Rat)+1)*(16*(h*h)+2*(h*q4 M))=16*(((n:Rat)+1)*h)*h+2*(((n:Rat)+1)*h)*q4 M:=by grind
 rw[e1,nh] at a1 b1;have u0:(0:Rat)<1/((n:Rat)+1):=zH (by grind) n0
 generalize 1/((n:Rat)+1)=u at *;rw[hu] at a1 b1 ⊢;generalize S (λ i=>1/2*u*rI (0+(i:Rat)*(1/2*u))) (n+1)=s1 at *
 generalize S (λ i=>1/2*u*rI (1/2+(i:Rat)*(1/2*u))) (n+1)=s2 at *
 grind
theorem eF_sum2 {x h:Rat} (hx:0<=x) {K V:Rat} (B:Bnd x K V) (hh:0<h) (n:Nat) (hn:(n:Rat)*h=1):LeN (λ _=>S (λ i=>h*rI ((i:Rat)*h)) n) (λ M=>eF x M*eF x M+gG h x n M+2*(V*x*h)*x):=by
 obtain⟨C,D,c0,d0,d1,dn⟩:=eF_dn B;have h0:=Yh hh;have k0:=B.k0;have v1:=B.v1;have A1:0<8*(2*x+1):=by grind
 have dm:1/(8*(2*x+1))*(8*(2*x+1))=1:=rdm A1;have dp:0<1/(8*(2*x+1)):=zH (by grind) A1
 obtain⟨D2,A6,Qm,xj⟩:∃ D2:Rat,0<D2/\D2<=D/\D2<=1/(8*(2*x+1)):=by
  by_cases hc:D<=1/(8*(2*x+1))
  ·exact⟨D,d0,by grind,hc⟩
  ·exact⟨_,dp,by grind,by grind⟩
 obtain⟨F,hF⟩:∃ F,F=K*V:=⟨_,rfl⟩;have F0:0<=F:=by rw[hF];exact Ye k0 (by grind)
 obtain⟨C4,zv⟩:∃ C4,C4=2*(C*F)+V*C:=⟨_,rfl⟩
 have Qk:0<=C4:=by
  have a:=Ye c0 F0;have b:=Ye (show 0<=V by grind) c0
  grind
 obtain⟨C5,ql⟩:∃ C5,C5=(1+8*((2*x+1)*(2*x+1)))*V:=⟨_,rfl⟩;have Ql:0<=C5:=by rw[ql];exact Ye (by have:=Ye (show 0<=2*x+1 by grind) (show 0<=2*x+1 by grind);grind) (by grind)
 have d:=zB6 (f:=λ y M => -(eF y M*eF y M+gG h y n M+2*(V*x*h)*y)) (a:=0) (b:=x) (C:=C4+C5) (D:=D2) hx (by grind) A6 (λ y k hy hk hkD oT=>by
  obtain⟨z1,F9,N1,p1⟩:=dn y k hy hk (by grind) oT
  have k1:k<=1:=by grind
  have kq:=Yh hk;obtain⟨z2,K6,N2,p2⟩:=gG_dn B hy hk k1 oT h0 (by have:=Yf (Rat.le_trans hkD xj) (Yh A1);grind) n (by grind)
  have right:=gE_le (x:=y) B hy (by grind) h0 n hn
  obtain⟨z3,fh,p3⟩:=right.null;obtain⟨N3,ev⟩:=zA0 (-(y*y));obtain⟨N4,vQ⟩:=zA0 (-((y+k)*(y+k)))
  have bF:Bdd (eF y):=by
   have:Bdd (eS y):=Bdd.of_le K 0 λ M _=>⟨by have:=jO hy M;grind,B.s _ hy (by grind) M⟩
   exact this.mul (jW _)
  have Mx:Bdd (eF (y+k)):=by
   have:Bdd (eS (y+k)):=Bdd.of_le K 0 λ M _=>⟨by have:=jO (x:=y+k) (by grind) M;grind,B.s _ (by grind) oT M⟩
   exact this.mul (jW _)
  have bV:=jW (-(y*y));have q1:=F9.bmul (bF.add Mx);have q2:=(F9.bmul bV).bmul (Bdd.const k);have q3:=(fh.bmul bV).bmul (Bdd.const (2*k));refine⟨_,((q1.add q2).add q3).add K6,N1+N2+N3+N4,λ M hM=>?_⟩
  have a1:=p1 M (by omega)
  have a2:=p2 M (by omega)
  have a3:=p3 M;have v0:=ev M (by omega)
  have e0:0<=eF (y+k) M:=Ye (jO (by grind) M) (vQ M (by omega))
  have f0:0<=eF y M:=Ye (jO hy M) v0
  have sqb:∀ u,0<=u->u<=x->u*u<=2*(x*x):=λ u h1 h2=>by
   have xx:u*u<=x*x:=Rat.le_trans (Yd h2 h1) (Yf h2 hx);have:=Ye hx hx;grind
  have vV:ex (-(y*y)) M<=V:=B.v _ (zN y) (sqb y hy (by grind)) M
  have PR:ex (-((y+k)*(y+k))) M<=V:=B.v _ (zN _) (sqb (y+k) (by grind) oT) M
  have fF:eF y M<=F:=by
   rw[hF];exact Rat.le_trans (Yf (B.s y hy (by grind) M) v0) (Yd vV k0)
  have Fx:eF (y+k) M<=F:=by
   rw[hF];exact Rat.le_trans (Yf (B.s (y+k) (by grind) oT M) (vQ M (by omega))) (Yd PR k0)
  rw[hn,<- ql] at a2;generalize eF (y+k) M=f' at *;generalize eF y M=f at *;generalize ex (-(y*y)) M=v at *;generalize gG h (y+k) n M=g' at *;generalize gG h y n M=g at *;generalize gE h y n M=u at *;generalize z1 M=z1 at *;generalize z2 M=z2 at *;generalize z3 M=z3 at *;clear F9 K6 fh q1 q2 q3 bF Mx bV right p1 p2 p3 dn ev vQ sqb;have kk:=Ye kq kq;have kv:=Ye kq v0;have S0:0<=f'+f:=by grind
  have b1:=Yf (show k*v<=(f'-f)+C*(k*k)+z1 by grind) S0
  have b2:=Yd (show f'+f<=2*F by grind) (Ye c0 kk)
  have b3:=Yd (show 2*f+k*v-C*(k*k)-z1<=f'+f by grind) kv
  have kvkv:=Ye kv kv
  have b4:k*v*(C*(k*k))<=V*C*(k*k):=by
   have c1:k*v<=V:=by have:=Yf k1 v0;grind
   have c2:=Yf c1 (Ye c0 kk);grind
  have b5:=Yd a3 kv
  have b6:k*v*(y*h)<=k*(V*x*h):=by
   have c1:=Yf vV (Ye hy h0);have c2:=Yd (Yf (show y<=x by grind) h0) (show 0<=V by grind)
   have c3:=Yd (Rat.le_trans c1 c2) kq;grind
  show -(f'*f'+g'+2*(V*x*h)*(y+k)) <= -(f*f+g+2*(V*x*h)*y)+(C4+C5)*(k*k)+(z1*(f+f')+z1*v*k+z3*v*(2*k)+z2)
  have r1:((f'-f)+C*(k*k)+z1)*(f'+f)=f'*f'-f*f+C*(k*k)*(f'+f)+z1*(f+f'):=by grind
  have r2:k*v*(2*f+k*v-C*(k*k)-z1)=2*(k*v*f)+k*v*(k*v)-k*v*(C*(k*k))-k*v*z1:=by grind
  have r3:k*v*(f+y*h+z3)=k*v*f+k*v*(y*h)+k*v*z3:=by grind
  have r4:2*(y*k)*(v*u)=2*(k*v*(y*u)):=by grind
  have r5:(C4+C5)*(k*k)=C*(k*k)*(2*F)+V*C*(k*k)+C5*(k*k):=by rw[zv];grind
  have r6:z1*v*k=k*v*z1:=by grind
  have r7:z3*v*(2*k)=2*(k*v*z3):=by grind
  have r8:2*(V*x*h)*(y+k)=2*(V*x*h)*y+2*(k*(V*x*h)):=by grind
  rw[r1] at b1;rw[r2] at b3;rw[r3] at b5;rw[r4,Rat.one_mul] at a2;rw[r5,r6,r7,r8];generalize f'*f'=w1 at *;generalize f*f=w2 at *;generalize C*(k*k)*(f'+f)=w3 at *;generalize z1*(f+f')=w4 at *;generalize k*v*(f'+f)=w5 at *;generalize k*v*f=w6 at *;generalize k*v*(k*v)=w7 at *;generalize k*v*(C*(k*k))=w8 at *;generalize k*v*z1=w9 at *;generalize k*v*(y*u)=gf at *;generalize k*v*(y*h)=w11 at *;generalize k*v*z3=w12 at *;generalize C*(k*k)*(2*F)=w13 at *;generalize V*C*(k*k)=w14 at *;generalize C5*(k*k)=w15 at *;generalize k*(V*x*h)=w16 at *;generalize 2*(V*x*h)*y=w17 at *;clear vV PR fF Fx zv hF ql dm r1 r2 r3 r4 r5 r6 r7 r8 xj A1 dp hn
  grind)
 intro e he
 obtain⟨N,k⟩:=d e he;refine⟨N+1,λ M hM=>?_⟩
 have a1 : -(eF x M*eF x M+gG h x n M+2*(V*x*h)*x) <= -(eF 0 M*eF 0 M+gG h 0 n M+2*(V*x*h)*0)+e:=k M (by omega)
 have a3:gG h 0 n M=S (λ i=>h*rI ((i:Rat)*h)) n:=kO n λ i _=>by
  have e1 : -(0*0*(1+((i:Rat)*h)*((i:Rat)*h)))=(0:Rat):=by grind
  have e2:ex 0 M=1:=by
   obtain⟨m,rfl⟩:∃ m,M=m+1:=⟨M-1,by omega⟩
   exact kV m
  rw[e1,e2];grind
 rw[a3,zG5] at a1
 show S (λ i=>h*rI ((i:Rat)*h)) n<=eF x M*eF x M+gG h x n M+2*(V*x*h)*x+e
 grind
theorem eF_pi2 {x:Rat} (hx:0<=x):LeN (λ M=>piS M*(1-ex (-(x*x)) M)) (λ M=>4*(eF x M*eF x M)):=by
 obtain⟨K,V,B⟩:=bnd_ex hx;have v1:=B.v1;have vx:=Ye (Ye (show 0<=V by grind) hx) hx
 refine LeN.lim (C:=64+4*(V*x*x)) (by grind) λ n=>?_
 have n0:(0:Rat)<2*((n:Rat)+1):=by have:=zAT n;grind
 obtain⟨h,h0,hh⟩:=zLH (2*((n:Rat)+1)) n0
 have hu:h=1/2*(1/((n:Rat)+1)):=by
  have n1:=zAT n;have um:1/((n:Rat)+1)*((n:Rat)+1)=1:=rdm n1
  have:h*(((n:Rat)+1)*(1/((n:Rat)+1)))=1/2*(1/((n:Rat)+1)):=by
   have e9:h*((n:Rat)+1)=1/2:=by grind
   have:h*(((n:Rat)+1)*(1/((n:Rat)+1)))=h*((n:Rat)+1)*(1/((n:Rat)+1)):=by grind
   rw[this,e9]
  rw[show ((n:Rat)+1)*(1/((n:Rat)+1))=1 by grind] at this
  grind
 have e:((2*(n+1):Nat):Rat)=2*((n:Rat)+1):=by push_cast;rfl
 obtain⟨z1,F9,k1⟩:=(eF_sum2 hx B h0 (2*(n+1)) (by rw[e];grind)).null
 obtain⟨z2,K6,k2⟩:=(zNP n hh).null;obtain⟨z3,fh,k3⟩:=(gG_le (x:=x) (Yh h0) (2*(n+1))).null;obtain⟨N,pos⟩:=zA0 (-(x*x));obtain⟨z4,Om,k4⟩:=(zCS (a := -(x*x)) (b:=0) (by have:=zN x;grind)).null
 have yz:=jW (-(x*x));have b1:Bdd (λ M=>1-ex (-(x*x)) M):=(Bdd.const 1).sub yz
 have bP:Bdd piS:=Qj;obtain⟨g,hg⟩:∃ g,g=S (λ i=>h*rI ((i:Rat)*h)) (2*(n+1)):=⟨_,rfl⟩
 rw[<- hg] at k1 k2 k3;have q1:=(F9.bmul (Bdd.const 4)).add ((K6.bmul b1).add (fh.bmul (Bdd.const 4)));have bz:Bdd (λ M=>4*g+64*(1/((n:Rat)+1))+z2 M-piS M):=(((Bdd.const (4*g)).add (Bdd.const (64*(1/((n:Rat)+1))))).add K6.bdd).sub bP
 have q3:=Om.bmul bz;refine LeN.of_null (q1.add q3) (N+1) λ M hM=>?_
 have a1:=k1 M;have a2:=k2 M;have a3:=k3 M;have a4:=k4 M;have w0:=pos M (by omega)
 have e0:ex 0 M=1:=by
  obtain⟨m,rfl⟩:∃ m,M=m+1:=⟨M-1,by omega⟩
  exact kV m
 rw[e0] at a4;have u0:(0:Rat)<1/((n:Rat)+1):=zH (by grind) (zAT n)
 generalize 1/((n:Rat)+1)=u at *;generalize ex (-(x*x)) M=w at *;generalize eF x M*eF x M=f at *;generalize gG h x (2*(n+1)) M=G at *;generalize piS M=p at *;generalize z1 M=y1 at *;generalize z2 M=y2 at *;generalize z3 M=y3 at *;generalize z4 M=y4 at *;clear q1 q3 bz b1 yz bP F9 K6 fh Om k1 k2 k3 k4 pos hg;have m1:=Yf a2 (show 0<=1-w+y4 by grind)
 have ah:2*(V*x*h)*x=V*x*x*u:=by rw[hu];grind
 rw[ah] at a1;have m2:=Ye (Ye (show (0:Rat)<=64 by grind) (Yh u0)) w0
 have r1:p*(1-w+y4)=p*(1-w)+y4*p:=by grind
 have r2:(4*g+64*u+y2)*(1-w+y4)=4*g-4*(w*g)+64*u-64*u*w+y2*(1-w)+y4*(4*g+64*u+y2):=by grind
 have r3:y4*(4*g+64*u+y2-p)=y4*(4*g+64*u+y2)-y4*p:=by grind
 have r4:(64+4*(V*x*x))*u=64*u+4*(V*x*x*u):=by grind
 rw[r1,r2] at m1
 show p*(1-w)<=4*f+(64+4*(V*x*x))*u+(y1*4+(y2*(1-w)+y3*4)+y4*(4*g+64*u+y2-p))
 rw[r3,r4];generalize p*(1-w)=t1 at *;generalize y4*p=t2 at *;generalize w*g=t3 at *;generalize y2*(1-w)=t4 at *;generalize y4*(4*g+64*u+y2)=t5 at *;generalize V*x*x*u=t6 at *;generalize 64*u*w=t7 at *;clear r1 r2 r3 r4 ah vx hu hh;grind
theorem erf_low {R:Nat->Rat} (h:zAA piS R) {x:Rat} (hx:0<=x):LeN (λ M=>1-ex (-(x*x)) M) (zPD R x):=by
 refine LeN.trans ?_ (zDR h x hx).symm.leN;obtain⟨z,hz,k⟩:=(eF_pi2 hx).null;obtain⟨N,pos⟩:=zA0 (-(x*x));have yz:=jW (-(x*x));have b1:Bdd (λ M=>1-ex (-(x*x)) M):=(Bdd.const 1).sub yz
 have q:=(h.sq.bmul b1).add hz
 intro e he
 obtain⟨N2,k2⟩:=q e he;obtain⟨N3,epos⟩:=zA0 (-(x*x));refine⟨N+N2+N3,λ M hM=>?_⟩
 have a1:=k M;have a2:=(k2 M (by omega)).2
 have w0:=pos M (by omega)
 have r1:=h.one M;have f0:0<=eF x M:=Ye (jO hx M) (epos M (by omega))
 have p1:0<R M:=by grind
 have c:=rdm (a:=1) p1;have i0:=(zDJ (a:=1) (by grind) r1).1
 refine Rat.not_lt.1 λ E2=>?_
 simp only[] at *;obtain⟨q,hq⟩:∃ q,q=eF x M*(2*(1/R M)):=⟨_,rfl⟩;have q0:0<=q:=by rw[hq];exact Ye f0 (by grind)
 have qR:q*R M=2*eF x M:=by
  have:q*R M=2*eF x M*(1/R M*R M):=by rw[hq];grind
  rw[this,c];grind
 rw[<- hq] at E2
 have f2:4*(eF x M*eF x M)=q*q*(R M*R M):=by
  have:q*q*(R M*R M)=(q*R M)*(q*R M):=by grind
  rw[this,qR];grind
 rw[f2] at a1;generalize ex (-(x*x)) M=w at *;generalize R M=r at *;generalize piS M=p at *;generalize z M=y at *;have w1:q<=1-w-e:=by grind
 have qq:q*q<=q:=by
  have:=Yd (show q<=1 by grind) q0
  grind
 have rr:1<=r*r:=by have:=Yd r1 (show 0<=r by grind);grind
 have m1:=Yd (show q*q<=q by grind) (show 0<=r*r by grind)
 have m2:=Rat.mul_lt_mul_of_pos_left E2 (show 0<r*r by grind)
 have m3:=Yf rr (Yh he);have t1:(r*r-p)*(1-w)=r*r*(1-w)-p*(1-w):=by grind
 have t2:q*q*(r*r)=r*r*(q*q):=by grind
 have t3:r*r*(q+e)=r*r*q+r*r*e:=by grind
 rw[t1] at a2;rw[t2] at a1;rw[t3] at m2;generalize r*r*(1-w)=g1 at *;generalize p*(1-w)=g2 at *;generalize r*r*(q*q)=g3 at *;generalize r*r*q=g4 at *;generalize r*r*e=g5 at *;clear hq qR f2 hz k yz b1 qq rr t1 t2 t3 c i0;grind
end Go.Proofs.YtgmnknmjainabacGreat.Ex
