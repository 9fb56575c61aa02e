/-
  No cell of these rows narrows 'for every input' (looked for: loops, veiled, ifaces, maps, wideKeys, modest, calm, conditions, laid).
  DERIVED. THE GIVEN ROWS OF THIS SEAT. 6 by the template 'for every input the law returns true; each argument reads behind the call as it read before'; 0 by the template 'total and deterministic' (their statements: YtgmnknmjainabacGreatTotals.lean).
  GIVEN WITH THE SEED: the statements are not yours to turn. If you find one false, say at which input.
  Laid BY PROGRAM, IN A SANDBOX (cutbox-rows.mjs): the forced cells as the released guide's own fill.sh prints them over the translation 6233efc1117b8c3b… (all of the seat's roots in one cut). By AI agents, Wed Nov 11 2026. No macro, syntax, notation, axiom, sorry.
-/
import Derived.Test.YtgmnknmjainabacGreatChecked
import GoSem.Claim
import GoSem.ClaimJoined
import GoSem.ClaimMapViews
import Derived.JoinedTies
import Derived.KernelRfl
namespace Go.Proofs.YtgmnknmjainabacGreat
/- THE CELL 'sum', in the pinned program and in every row, IS THE sha256 OF THE DUMP (.gsa) THAT YtgmnknmjainabacGreatProg.lean LOADS. Nothing in Lean hashes anything: it is a label: what it is worth is what the hold of that sum in a sandbox is worth. -/
noncomputable def Tryz.pinned : Pinned := { name := "ytgmnknmjainabacgreat", sum := "6233efc1117b8c3b77d40c7ecf67399f8706dede44ced45c69f6f12c954881bd", checked := Tryz.checked }
namespace Rows
def none {H : Type} : Left H := { results := [], args := [] }

/-- 'tailsurelaw.LawTogether': WHATEVER THE INPUT: true; the input reads as it did. -/
def lawTogetherSpec : ChangeSpec := { name := "lawTogether", fn := fun _ => fun
  | [d1, d2, d3, d4, d5] => { results := [.lit (.bool true)], args := [d1, d2, d3, d4, d5] }
  | _ => none }
def lawTogetherRow : OpenClaim := { program := "ytgmnknmjainabacgreat", sum := "6233efc1117b8c3b77d40c7ecf67399f8706dede44ced45c69f6f12c954881bd", func := "tailsure/tailsurelaw.LawTogether", spec := "lawTogether", unfollowed := true, recurses := true, apart := false }
def LawTogetherSaid : Prop := lawTogetherRow.holds Tryz.pinned (OpenSpec.ofChange lawTogetherSpec)

/-- ITS FALSE NEIGHBOUR: 'it returns false'. Refute it at one input. -/
def lawTogetherWrong : ChangeSpec := { name := "lawTogether", fn := fun _ => fun
  | [d1, d2, d3, d4, d5] => { results := [.lit (.bool false)], args := [d1, d2, d3, d4, d5] }
  | _ => none }
def LawTogetherWrongFalsely : Prop := lawTogetherRow.holds Tryz.pinned (OpenSpec.ofChange lawTogetherWrong)

/-- 'tailsurelaw.LawBelows': WHATEVER THE INPUT: true; the input reads as it did. -/
def lawBelowsSpec : ChangeSpec := { name := "lawBelows", fn := fun _ => fun
  | [d1, d2, d3] => { results := [.lit (.bool true)], args := [d1, d2, d3] }
  | _ => none }
def lawBelowsRow : OpenClaim := { program := "ytgmnknmjainabacgreat", sum := "6233efc1117b8c3b77d40c7ecf67399f8706dede44ced45c69f6f12c954881bd", func := "tailsure/tailsurelaw.LawBelows", spec := "lawBelows", unfollowed := true, recurses := true, apart := false }
def LawBelowsSaid : Prop := lawBelowsRow.holds Tryz.pinned (OpenSpec.ofChange lawBelowsSpec)

/-- ITS FALSE NEIGHBOUR: 'it returns false'. Refute it at one input. -/
def lawBelowsWrong : ChangeSpec := { name := "lawBelows", fn := fun _ => fun
  | [d1, d2, d3] => { results := [.lit (.bool false)], args := [d1, d2, d3] }
  | _ => none }
def LawBelowsWrongFalsely : Prop := lawBelowsRow.holds Tryz.pinned (OpenSpec.ofChange lawBelowsWrong)

/-- 'tailsurelaw.QuantileErrors': WHATEVER THE INPUT: true; the input reads as it did. -/
def quantileErrorsSpec : ChangeSpec := { name := "quantileErrors", fn := fun _ => fun
  | [d1, d2, d3, d4] => { results := [.lit (.bool true)], args := [d1, d2, d3, d4] }
  | _ => none }
def quantileErrorsRow : OpenClaim := { program := "ytgmnknmjainabacgreat", sum := "6233efc1117b8c3b77d40c7ecf67399f8706dede44ced45c69f6f12c954881bd", func := "tailsure/tailsurelaw.QuantileErrors", spec := "quantileErrors", unfollowed := true, recurses := true, apart := false }
def QuantileErrorsSaid : Prop := quantileErrorsRow.holds Tryz.pinned (OpenSpec.ofChange quantileErrorsSpec)

/-- ITS FALSE NEIGHBOUR: 'it returns false'. Refute it at one input. -/
def quantileErrorsWrong : ChangeSpec := { name := "quantileErrors", fn := fun _ => fun
  | [d1, d2, d3, d4] => { results := [.lit (.bool false)], args := [d1, d2, d3, d4] }
  | _ => none }
def QuantileErrorsWrongFalsely : Prop := quantileErrorsRow.holds Tryz.pinned (OpenSpec.ofChange quantileErrorsWrong)

/-- 'tailsurelaw.QuantileGrows': WHATEVER THE INPUT: true; the input reads as it did. -/
def quantileGrowsSpec : ChangeSpec := { name := "quantileGrows", fn := fun _ => fun
  | [d1, d2, d3, d4, d5] => { results := [.lit (.bool true)], args := [d1, d2, d3, d4, d5] }
  | _ => none }
def quantileGrowsRow : OpenClaim := { program := "ytgmnknmjainabacgreat", sum := "6233efc1117b8c3b77d40c7ecf67399f8706dede44ced45c69f6f12c954881bd", func := "tailsure/tailsurelaw.QuantileGrows", spec := "quantileGrows", unfollowed := true, recurses := true, apart := false }
def QuantileGrowsSaid : Prop := quantileGrowsRow.holds Tryz.pinned (OpenSpec.ofChange quantileGrowsSpec)

/-- ITS FALSE NEIGHBOUR: 'it returns false'. Refute it at one input. -/
def quantileGrowsWrong : ChangeSpec := { name := "quantileGrows", fn := fun _ => fun
  | [d1, d2, d3, d4, d5] => { results := [.lit (.bool false)], args := [d1, d2, d3, d4, d5] }
  | _ => none }
def QuantileGrowsWrongFalsely : Prop := quantileGrowsRow.holds Tryz.pinned (OpenSpec.ofChange quantileGrowsWrong)

/-- 'tailsurelaw.RestLaws': WHATEVER THE INPUT: true; the input reads as it did. -/
def restLawsSpec : ChangeSpec := { name := "restLaws", fn := fun _ => fun
  | [d1, d2, d3, d4] => { results := [.lit (.bool true)], args := [d1, d2, d3, d4] }
  | _ => none }
def restLawsRow : OpenClaim := { program := "ytgmnknmjainabacgreat", sum := "6233efc1117b8c3b77d40c7ecf67399f8706dede44ced45c69f6f12c954881bd", func := "tailsure/tailsurelaw.RestLaws", spec := "restLaws", unfollowed := true, recurses := true, apart := false }
def RestLawsSaid : Prop := restLawsRow.holds Tryz.pinned (OpenSpec.ofChange restLawsSpec)

/-- ITS FALSE NEIGHBOUR: 'it returns false'. Refute it at one input. -/
def restLawsWrong : ChangeSpec := { name := "restLaws", fn := fun _ => fun
  | [d1, d2, d3, d4] => { results := [.lit (.bool false)], args := [d1, d2, d3, d4] }
  | _ => none }
def RestLawsWrongFalsely : Prop := restLawsRow.holds Tryz.pinned (OpenSpec.ofChange restLawsWrong)

/-- 'tailsurelaw.QuantileFinds': WHATEVER THE INPUT: true; the input reads as it did. -/
def quantileFindsSpec : ChangeSpec := { name := "quantileFinds", fn := fun _ => fun
  | [d1, d2, d3, d4] => { results := [.lit (.bool true)], args := [d1, d2, d3, d4] }
  | _ => none }
def quantileFindsRow : OpenClaim := { program := "ytgmnknmjainabacgreat", sum := "6233efc1117b8c3b77d40c7ecf67399f8706dede44ced45c69f6f12c954881bd", func := "tailsure/tailsurelaw.QuantileFinds", spec := "quantileFinds", unfollowed := true, recurses := true, apart := false }
def QuantileFindsSaid : Prop := quantileFindsRow.holds Tryz.pinned (OpenSpec.ofChange quantileFindsSpec)

/-- ITS FALSE NEIGHBOUR: 'it returns false'. Refute it at one input. -/
def quantileFindsWrong : ChangeSpec := { name := "quantileFinds", fn := fun _ => fun
  | [d1, d2, d3, d4] => { results := [.lit (.bool false)], args := [d1, d2, d3, d4] }
  | _ => none }
def QuantileFindsWrongFalsely : Prop := quantileFindsRow.holds Tryz.pinned (OpenSpec.ofChange quantileFindsWrong)

/- THE SECOND FORM. 'bulk': how many values and letters a reading holds, each counted each time it is reached (what is shared counts as often as it is met; a slice's spare places count too). A statement '..UptoSaid' is the law's where the arguments, and the package variables that the reading takes, are together of bulk at most 1048576: NARROWER than '..Said'. Prove '..Said' where nothing that the law and all that it calls make is longer than what came in: it says more and counts as full. Else prove '..UptoSaid'. A law counts once. -/
mutual
def uptoBulk {H : Type} : DataW H → Nat
  | .lit (.string bytes) => bytes.length + 1
  | .lit _ => 1
  | .nil => 1
  | .ptr d => uptoBulk d + 1
  | .slice elems spare => uptoBulkAll elems + uptoBulkAll spare + 1
  | .agg parts => uptoBulkAll parts + 1
  | .iface _ d => uptoBulk d + 1
  | .map entries => uptoBulkEntries entries + 1
  | .held _ => 1
def uptoBulkAll {H : Type} : List (DataW H) → Nat
  | [] => 0
  | d :: r => uptoBulk d + uptoBulkAll r
def uptoBulkEntries {H : Type} : List (Lit × DataW H) → Nat
  | [] => 0
  | x :: r => uptoBulkEntry x + uptoBulkEntries r
def uptoBulkEntry {H : Type} : Lit × DataW H → Nat
  | (.string bytes, d) => bytes.length + uptoBulk d + 1
  | (_, d) => uptoBulk d + 1
 end
def uptoSmall : (H : Type) → List (DataW H) → Bool := fun _ ds => decide (uptoBulkAll ds ≤ 1048576)
def OpenSpec.upto (s : _root_.Go.ChangeSpec) : _root_.Go.OpenSpec := { _root_.Go.OpenSpec.ofChange s with cond := some uptoSmall }

/-- 'tailsurelaw.LawTogether', WHERE WHAT IT READS IS OF BULK AT MOST 1048576: true; the input reads as it did. -/
def lawTogetherUptoRow : OpenClaim := { program := "ytgmnknmjainabacgreat", sum := "6233efc1117b8c3b77d40c7ecf67399f8706dede44ced45c69f6f12c954881bd", func := "tailsure/tailsurelaw.LawTogether", spec := "lawTogether", unfollowed := true, recurses := true, apart := false, narrowed := true }
def LawTogetherUptoSaid : Prop := lawTogetherUptoRow.holds Tryz.pinned (OpenSpec.upto lawTogetherSpec)

/-- 'tailsurelaw.LawBelows', WHERE WHAT IT READS IS OF BULK AT MOST 1048576: true; the input reads as it did. -/
def lawBelowsUptoRow : OpenClaim := { program := "ytgmnknmjainabacgreat", sum := "6233efc1117b8c3b77d40c7ecf67399f8706dede44ced45c69f6f12c954881bd", func := "tailsure/tailsurelaw.LawBelows", spec := "lawBelows", unfollowed := true, recurses := true, apart := false, narrowed := true }
def LawBelowsUptoSaid : Prop := lawBelowsUptoRow.holds Tryz.pinned (OpenSpec.upto lawBelowsSpec)

/-- 'tailsurelaw.QuantileErrors', WHERE WHAT IT READS IS OF BULK AT MOST 1048576: true; the input reads as it did. -/
def quantileErrorsUptoRow : OpenClaim := { program := "ytgmnknmjainabacgreat", sum := "6233efc1117b8c3b77d40c7ecf67399f8706dede44ced45c69f6f12c954881bd", func := "tailsure/tailsurelaw.QuantileErrors", spec := "quantileErrors", unfollowed := true, recurses := true, apart := false, narrowed := true }
def QuantileErrorsUptoSaid : Prop := quantileErrorsUptoRow.holds Tryz.pinned (OpenSpec.upto quantileErrorsSpec)

/-- 'tailsurelaw.QuantileGrows', WHERE WHAT IT READS IS OF BULK AT MOST 1048576: true; the input reads as it did. -/
def quantileGrowsUptoRow : OpenClaim := { program := "ytgmnknmjainabacgreat", sum := "6233efc1117b8c3b77d40c7ecf67399f8706dede44ced45c69f6f12c954881bd", func := "tailsure/tailsurelaw.QuantileGrows", spec := "quantileGrows", unfollowed := true, recurses := true, apart := false, narrowed := true }
def QuantileGrowsUptoSaid : Prop := quantileGrowsUptoRow.holds Tryz.pinned (OpenSpec.upto quantileGrowsSpec)

/-- 'tailsurelaw.RestLaws', WHERE WHAT IT READS IS OF BULK AT MOST 1048576: true; the input reads as it did. -/
def restLawsUptoRow : OpenClaim := { program := "ytgmnknmjainabacgreat", sum := "6233efc1117b8c3b77d40c7ecf67399f8706dede44ced45c69f6f12c954881bd", func := "tailsure/tailsurelaw.RestLaws", spec := "restLaws", unfollowed := true, recurses := true, apart := false, narrowed := true }
def RestLawsUptoSaid : Prop := restLawsUptoRow.holds Tryz.pinned (OpenSpec.upto restLawsSpec)

/-- 'tailsurelaw.QuantileFinds', WHERE WHAT IT READS IS OF BULK AT MOST 1048576: true; the input reads as it did. -/
def quantileFindsUptoRow : OpenClaim := { program := "ytgmnknmjainabacgreat", sum := "6233efc1117b8c3b77d40c7ecf67399f8706dede44ced45c69f6f12c954881bd", func := "tailsure/tailsurelaw.QuantileFinds", spec := "quantileFinds", unfollowed := true, recurses := true, apart := false, narrowed := true }
def QuantileFindsUptoSaid : Prop := quantileFindsUptoRow.holds Tryz.pinned (OpenSpec.upto quantileFindsSpec)

end Rows
end Go.Proofs.YtgmnknmjainabacGreat
