/-
  No cell of these rows narrows 'for every input' (looked for: loops, veiled, ifaces, maps, wideKeys, modest, calm, conditions, laid).
  DERIVED. THE GIVEN ROWS OF THIS SEAT. 6 by the template 'for every input the law returns true; each argument reads behind the call as it read before'; 0 by the template 'total and deterministic' (their statements: YtgmnknmjainababTotals.lean).
  GIVEN WITH THE SEED: the statements are not yours to turn. If you find one false, say at which input.
  Laid BY PROGRAM, IN A SANDBOX (cutbox-rows.mjs): the forced cells as the released guide's own fill.sh prints them over the translation a735079efe28034e… (all of the seat's roots in one cut). By AI agents, Wed Nov 11 2026. No macro, syntax, notation, axiom, sorry.
-/
import Derived.Test.YtgmnknmjainababChecked
import GoSem.Claim
import GoSem.ClaimJoined
import GoSem.ClaimMapViews
import Derived.JoinedTies
import Derived.KernelRfl
namespace Go.Proofs.Ytgmnknmjainabab
/- THE CELL 'sum', in the pinned program and in every row, IS THE sha256 OF THE DUMP (.gsa) THAT YtgmnknmjainababProg.lean LOADS. Nothing in Lean hashes anything: it is a label: what it is worth is what the hold of that sum in a sandbox is worth. -/
noncomputable def Try.pinned : Pinned := { name := "ytgmnknmjainabab", sum := "a735079efe28034ef0d9e6c7f1c080b4f3c8c5eb97f474151441539c595aa8f9", checked := Try.checked }
namespace Rows
def none {H : Type} : Left H := { results := [], args := [] }

/-- 'tailsurelaw.ErrorfErfs': WHATEVER THE INPUT: true; the input reads as it did. -/
def errorfErfsSpec : ChangeSpec := { name := "errorfErfs", fn := fun _ => fun
  | [d1, d2] => { results := [.lit (.bool true)], args := [d1, d2] }
  | _ => none }
def errorfErfsRow : OpenClaim := { program := "ytgmnknmjainabab", sum := "a735079efe28034ef0d9e6c7f1c080b4f3c8c5eb97f474151441539c595aa8f9", func := "tailsure/tailsurelaw.ErrorfErfs", spec := "errorfErfs", unfollowed := true, recurses := true, apart := false }
def ErrorfErfsSaid : Prop := errorfErfsRow.holds Try.pinned (OpenSpec.ofChange errorfErfsSpec)

/-- ITS FALSE NEIGHBOUR: 'it returns false'. Refute it at one input. -/
def errorfErfsWrong : ChangeSpec := { name := "errorfErfs", fn := fun _ => fun
  | [d1, d2] => { results := [.lit (.bool false)], args := [d1, d2] }
  | _ => none }
def ErrorfErfsWrongFalsely : Prop := errorfErfsRow.holds Try.pinned (OpenSpec.ofChange errorfErfsWrong)

/-- 'tailsurelaw.ErrorfTurns': WHATEVER THE INPUT: true; the input reads as it did. -/
def errorfTurnsSpec : ChangeSpec := { name := "errorfTurns", fn := fun _ => fun
  | [d1, d2, d3] => { results := [.lit (.bool true)], args := [d1, d2, d3] }
  | _ => none }
def errorfTurnsRow : OpenClaim := { program := "ytgmnknmjainabab", sum := "a735079efe28034ef0d9e6c7f1c080b4f3c8c5eb97f474151441539c595aa8f9", func := "tailsure/tailsurelaw.ErrorfTurns", spec := "errorfTurns", unfollowed := true, recurses := true, apart := false }
def ErrorfTurnsSaid : Prop := errorfTurnsRow.holds Try.pinned (OpenSpec.ofChange errorfTurnsSpec)

/-- ITS FALSE NEIGHBOUR: 'it returns false'. Refute it at one input. -/
def errorfTurnsWrong : ChangeSpec := { name := "errorfTurns", fn := fun _ => fun
  | [d1, d2, d3] => { results := [.lit (.bool false)], args := [d1, d2, d3] }
  | _ => none }
def ErrorfTurnsWrongFalsely : Prop := errorfTurnsRow.holds Try.pinned (OpenSpec.ofChange errorfTurnsWrong)

/-- 'tailsurelaw.GammaItself': WHATEVER THE INPUT: true; the input reads as it did. -/
def gammaItselfSpec : ChangeSpec := { name := "gammaItself", fn := fun _ => fun
  | [d1, d2] => { results := [.lit (.bool true)], args := [d1, d2] }
  | _ => none }
def gammaItselfRow : OpenClaim := { program := "ytgmnknmjainabab", sum := "a735079efe28034ef0d9e6c7f1c080b4f3c8c5eb97f474151441539c595aa8f9", func := "tailsure/tailsurelaw.GammaItself", spec := "gammaItself", unfollowed := true, recurses := true, apart := false }
def GammaItselfSaid : Prop := gammaItselfRow.holds Try.pinned (OpenSpec.ofChange gammaItselfSpec)

/-- ITS FALSE NEIGHBOUR: 'it returns false'. Refute it at one input. -/
def gammaItselfWrong : ChangeSpec := { name := "gammaItself", fn := fun _ => fun
  | [d1, d2] => { results := [.lit (.bool false)], args := [d1, d2] }
  | _ => none }
def GammaItselfWrongFalsely : Prop := gammaItselfRow.holds Try.pinned (OpenSpec.ofChange gammaItselfWrong)

/-- 'tailsurelaw.GammaNext': WHATEVER THE INPUT: true; the input reads as it did. -/
def gammaNextSpec : ChangeSpec := { name := "gammaNext", fn := fun _ => fun
  | [d1, d2, d3, d4] => { results := [.lit (.bool true)], args := [d1, d2, d3, d4] }
  | _ => none }
def gammaNextRow : OpenClaim := { program := "ytgmnknmjainabab", sum := "a735079efe28034ef0d9e6c7f1c080b4f3c8c5eb97f474151441539c595aa8f9", func := "tailsure/tailsurelaw.GammaNext", spec := "gammaNext", unfollowed := true, recurses := true, apart := false }
def GammaNextSaid : Prop := gammaNextRow.holds Try.pinned (OpenSpec.ofChange gammaNextSpec)

/-- ITS FALSE NEIGHBOUR: 'it returns false'. Refute it at one input. -/
def gammaNextWrong : ChangeSpec := { name := "gammaNext", fn := fun _ => fun
  | [d1, d2, d3, d4] => { results := [.lit (.bool false)], args := [d1, d2, d3, d4] }
  | _ => none }
def GammaNextWrongFalsely : Prop := gammaNextRow.holds Try.pinned (OpenSpec.ofChange gammaNextWrong)

/-- 'tailsurelaw.UpperNext': WHATEVER THE INPUT: true; the input reads as it did. -/
def upperNextSpec : ChangeSpec := { name := "upperNext", fn := fun _ => fun
  | [d1, d2, d3, d4] => { results := [.lit (.bool true)], args := [d1, d2, d3, d4] }
  | _ => none }
def upperNextRow : OpenClaim := { program := "ytgmnknmjainabab", sum := "a735079efe28034ef0d9e6c7f1c080b4f3c8c5eb97f474151441539c595aa8f9", func := "tailsure/tailsurelaw.UpperNext", spec := "upperNext", unfollowed := true, recurses := true, apart := false }
def UpperNextSaid : Prop := upperNextRow.holds Try.pinned (OpenSpec.ofChange upperNextSpec)

/-- ITS FALSE NEIGHBOUR: 'it returns false'. Refute it at one input. -/
def upperNextWrong : ChangeSpec := { name := "upperNext", fn := fun _ => fun
  | [d1, d2, d3, d4] => { results := [.lit (.bool false)], args := [d1, d2, d3, d4] }
  | _ => none }
def UpperNextWrongFalsely : Prop := upperNextRow.holds Try.pinned (OpenSpec.ofChange upperNextWrong)

/-- 'tailsurelaw.BetaTurns': WHATEVER THE INPUT: true; the input reads as it did. -/
def betaTurnsSpec : ChangeSpec := { name := "betaTurns", fn := fun _ => fun
  | [d1, d2, d3, d4, d5] => { results := [.lit (.bool true)], args := [d1, d2, d3, d4, d5] }
  | _ => none }
def betaTurnsRow : OpenClaim := { program := "ytgmnknmjainabab", sum := "a735079efe28034ef0d9e6c7f1c080b4f3c8c5eb97f474151441539c595aa8f9", func := "tailsure/tailsurelaw.BetaTurns", spec := "betaTurns", unfollowed := true, recurses := true, apart := false }
def BetaTurnsSaid : Prop := betaTurnsRow.holds Try.pinned (OpenSpec.ofChange betaTurnsSpec)

/-- ITS FALSE NEIGHBOUR: 'it returns false'. Refute it at one input. -/
def betaTurnsWrong : ChangeSpec := { name := "betaTurns", fn := fun _ => fun
  | [d1, d2, d3, d4, d5] => { results := [.lit (.bool false)], args := [d1, d2, d3, d4, d5] }
  | _ => none }
def BetaTurnsWrongFalsely : Prop := betaTurnsRow.holds Try.pinned (OpenSpec.ofChange betaTurnsWrong)

/- THE SECOND FORM. 'bulk': how many values and letters a reading holds, each counted each time it is reached (what is shared counts as often as it is met; a slice's spare places count too). A statement '..UptoSaid' is the law's where the arguments, and the package variables that the reading takes, are together of bulk at most 1048576: NARROWER than '..Said'. Prove '..Said' where nothing that the law and all that it calls make is longer than what came in: it says more and counts as full. Else prove '..UptoSaid'. A law counts once. -/
mutual
def uptoBulk {H : Type} : DataW H → Nat
  | .lit (.string bytes) => bytes.length + 1
  | .lit _ => 1
  | .nil => 1
  | .ptr d => uptoBulk d + 1
  | .slice elems spare => uptoBulkAll elems + uptoBulkAll spare + 1
  | .agg parts => uptoBulkAll parts + 1
  | .iface _ d => uptoBulk d + 1
  | .map entries => uptoBulkEntries entries + 1
  | .held _ => 1
def uptoBulkAll {H : Type} : List (DataW H) → Nat
  | [] => 0
  | d :: r => uptoBulk d + uptoBulkAll r
def uptoBulkEntries {H : Type} : List (Lit × DataW H) → Nat
  | [] => 0
  | x :: r => uptoBulkEntry x + uptoBulkEntries r
def uptoBulkEntry {H : Type} : Lit × DataW H → Nat
  | (.string bytes, d) => bytes.length + uptoBulk d + 1
  | (_, d) => uptoBulk d + 1
 end
def uptoSmall : (H : Type) → List (DataW H) → Bool := fun _ ds => decide (uptoBulkAll ds ≤ 1048576)
def OpenSpec.upto (s : _root_.Go.ChangeSpec) : _root_.Go.OpenSpec := { _root_.Go.OpenSpec.ofChange s with cond := some uptoSmall }

/-- 'tailsurelaw.ErrorfErfs', WHERE WHAT IT READS IS OF BULK AT MOST 1048576: true; the input reads as it did. -/
def errorfErfsUptoRow : OpenClaim := { program := "ytgmnknmjainabab", sum := "a735079efe28034ef0d9e6c7f1c080b4f3c8c5eb97f474151441539c595aa8f9", func := "tailsure/tailsurelaw.ErrorfErfs", spec := "errorfErfs", unfollowed := true, recurses := true, apart := false, narrowed := true }
def ErrorfErfsUptoSaid : Prop := errorfErfsUptoRow.holds Try.pinned (OpenSpec.upto errorfErfsSpec)

/-- 'tailsurelaw.ErrorfTurns', WHERE WHAT IT READS IS OF BULK AT MOST 1048576: true; the input reads as it did. -/
def errorfTurnsUptoRow : OpenClaim := { program := "ytgmnknmjainabab", sum := "a735079efe28034ef0d9e6c7f1c080b4f3c8c5eb97f474151441539c595aa8f9", func := "tailsure/tailsurelaw.ErrorfTurns", spec := "errorfTurns", unfollowed := true, recurses := true, apart := false, narrowed := true }
def ErrorfTurnsUptoSaid : Prop := errorfTurnsUptoRow.holds Try.pinned (OpenSpec.upto errorfTurnsSpec)

/-- 'tailsurelaw.GammaItself', WHERE WHAT IT READS IS OF BULK AT MOST 1048576: true; the input reads as it did. -/
def gammaItselfUptoRow : OpenClaim := { program := "ytgmnknmjainabab", sum := "a735079efe28034ef0d9e6c7f1c080b4f3c8c5eb97f474151441539c595aa8f9", func := "tailsure/tailsurelaw.GammaItself", spec := "gammaItself", unfollowed := true, recurses := true, apart := false, narrowed := true }
def GammaItselfUptoSaid : Prop := gammaItselfUptoRow.holds Try.pinned (OpenSpec.upto gammaItselfSpec)

/-- 'tailsurelaw.GammaNext', WHERE WHAT IT READS IS OF BULK AT MOST 1048576: true; the input reads as it did. -/
def gammaNextUptoRow : OpenClaim := { program := "ytgmnknmjainabab", sum := "a735079efe28034ef0d9e6c7f1c080b4f3c8c5eb97f474151441539c595aa8f9", func := "tailsure/tailsurelaw.GammaNext", spec := "gammaNext", unfollowed := true, recurses := true, apart := false, narrowed := true }
def GammaNextUptoSaid : Prop := gammaNextUptoRow.holds Try.pinned (OpenSpec.upto gammaNextSpec)

/-- 'tailsurelaw.UpperNext', WHERE WHAT IT READS IS OF BULK AT MOST 1048576: true; the input reads as it did. -/
def upperNextUptoRow : OpenClaim := { program := "ytgmnknmjainabab", sum := "a735079efe28034ef0d9e6c7f1c080b4f3c8c5eb97f474151441539c595aa8f9", func := "tailsure/tailsurelaw.UpperNext", spec := "upperNext", unfollowed := true, recurses := true, apart := false, narrowed := true }
def UpperNextUptoSaid : Prop := upperNextUptoRow.holds Try.pinned (OpenSpec.upto upperNextSpec)

/-- 'tailsurelaw.BetaTurns', WHERE WHAT IT READS IS OF BULK AT MOST 1048576: true; the input reads as it did. -/
def betaTurnsUptoRow : OpenClaim := { program := "ytgmnknmjainabab", sum := "a735079efe28034ef0d9e6c7f1c080b4f3c8c5eb97f474151441539c595aa8f9", func := "tailsure/tailsurelaw.BetaTurns", spec := "betaTurns", unfollowed := true, recurses := true, apart := false, narrowed := true }
def BetaTurnsUptoSaid : Prop := betaTurnsUptoRow.holds Try.pinned (OpenSpec.upto betaTurnsSpec)

end Rows
end Go.Proofs.Ytgmnknmjainabab
