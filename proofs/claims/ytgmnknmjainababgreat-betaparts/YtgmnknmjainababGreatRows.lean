/-
  No cell of these rows narrows 'for every input' (looked for: loops, veiled, ifaces, maps, wideKeys, modest, calm, conditions, laid).
  DERIVED. THE GIVEN ROWS OF THIS SEAT. 6 by the template 'for every input the law returns true; each argument reads behind the call as it read before'; 0 by the template 'total and deterministic' (their statements: YtgmnknmjainababGreatTotals.lean).
  GIVEN WITH THE SEED: the statements are not yours to turn. If you find one false, say at which input.
  Laid BY PROGRAM, IN A SANDBOX (cutbox-rows.mjs): the forced cells as the released guide's own fill.sh prints them over the translation b15fade6b53acf14… (all of the seat's roots in one cut). By AI agents, Wed Nov 11 2026. No macro, syntax, notation, axiom, sorry.
-/
import Derived.Test.YtgmnknmjainababGreatChecked
import GoSem.Claim
import GoSem.ClaimJoined
import GoSem.ClaimMapViews
import Derived.JoinedTies
import Derived.KernelRfl
namespace Go.Proofs.YtgmnknmjainababGreat
/- THE CELL 'sum', in the pinned program and in every row, IS THE sha256 OF THE DUMP (.gsa) THAT YtgmnknmjainababGreatProg.lean LOADS. Nothing in Lean hashes anything: it is a label: what it is worth is what the hold of that sum in a sandbox is worth. -/
noncomputable def Tryz.pinned : Pinned := { name := "ytgmnknmjainababgreat", sum := "b15fade6b53acf14cc9d6f1106ce26be1f1715fe369bc78f7dc51dc2017319f1", checked := Tryz.checked }
namespace Rows
def none {H : Type} : Left H := { results := [], args := [] }

/-- 'tailsurelaw.ErrorfNormals': WHATEVER THE INPUT: true; the input reads as it did. -/
def errorfNormalsSpec : ChangeSpec := { name := "errorfNormals", fn := fun _ => fun
  | [d1, d2] => { results := [.lit (.bool true)], args := [d1, d2] }
  | _ => none }
def errorfNormalsRow : OpenClaim := { program := "ytgmnknmjainababgreat", sum := "b15fade6b53acf14cc9d6f1106ce26be1f1715fe369bc78f7dc51dc2017319f1", func := "tailsure/tailsurelaw.ErrorfNormals", spec := "errorfNormals", unfollowed := true, recurses := true, apart := false }
def ErrorfNormalsSaid : Prop := errorfNormalsRow.holds Tryz.pinned (OpenSpec.ofChange errorfNormalsSpec)

/-- ITS FALSE NEIGHBOUR: 'it returns false'. Refute it at one input. -/
def errorfNormalsWrong : ChangeSpec := { name := "errorfNormals", fn := fun _ => fun
  | [d1, d2] => { results := [.lit (.bool false)], args := [d1, d2] }
  | _ => none }
def ErrorfNormalsWrongFalsely : Prop := errorfNormalsRow.holds Tryz.pinned (OpenSpec.ofChange errorfNormalsWrong)

/-- 'tailsurelaw.GammaLogs': WHATEVER THE INPUT: true; the input reads as it did. -/
def gammaLogsSpec : ChangeSpec := { name := "gammaLogs", fn := fun _ => fun
  | [d1, d2, d3] => { results := [.lit (.bool true)], args := [d1, d2, d3] }
  | _ => none }
def gammaLogsRow : OpenClaim := { program := "ytgmnknmjainababgreat", sum := "b15fade6b53acf14cc9d6f1106ce26be1f1715fe369bc78f7dc51dc2017319f1", func := "tailsure/tailsurelaw.GammaLogs", spec := "gammaLogs", unfollowed := true, recurses := true, apart := false }
def GammaLogsSaid : Prop := gammaLogsRow.holds Tryz.pinned (OpenSpec.ofChange gammaLogsSpec)

/-- ITS FALSE NEIGHBOUR: 'it returns false'. Refute it at one input. -/
def gammaLogsWrong : ChangeSpec := { name := "gammaLogs", fn := fun _ => fun
  | [d1, d2, d3] => { results := [.lit (.bool false)], args := [d1, d2, d3] }
  | _ => none }
def GammaLogsWrongFalsely : Prop := gammaLogsRow.holds Tryz.pinned (OpenSpec.ofChange gammaLogsWrong)

/-- 'tailsurelaw.UpperParts': WHATEVER THE INPUT: true; the input reads as it did. -/
def upperPartsSpec : ChangeSpec := { name := "upperParts", fn := fun _ => fun
  | [d1, d2, d3] => { results := [.lit (.bool true)], args := [d1, d2, d3] }
  | _ => none }
def upperPartsRow : OpenClaim := { program := "ytgmnknmjainababgreat", sum := "b15fade6b53acf14cc9d6f1106ce26be1f1715fe369bc78f7dc51dc2017319f1", func := "tailsure/tailsurelaw.UpperParts", spec := "upperParts", unfollowed := true, recurses := true, apart := false }
def UpperPartsSaid : Prop := upperPartsRow.holds Tryz.pinned (OpenSpec.ofChange upperPartsSpec)

/-- ITS FALSE NEIGHBOUR: 'it returns false'. Refute it at one input. -/
def upperPartsWrong : ChangeSpec := { name := "upperParts", fn := fun _ => fun
  | [d1, d2, d3] => { results := [.lit (.bool false)], args := [d1, d2, d3] }
  | _ => none }
def UpperPartsWrongFalsely : Prop := upperPartsRow.holds Tryz.pinned (OpenSpec.ofChange upperPartsWrong)

/-- 'tailsurelaw.BetaParts': WHATEVER THE INPUT: true; the input reads as it did. -/
def betaPartsSpec : ChangeSpec := { name := "betaParts", fn := fun _ => fun
  | [d1, d2, d3, d4] => { results := [.lit (.bool true)], args := [d1, d2, d3, d4] }
  | _ => none }
def betaPartsRow : OpenClaim := { program := "ytgmnknmjainababgreat", sum := "b15fade6b53acf14cc9d6f1106ce26be1f1715fe369bc78f7dc51dc2017319f1", func := "tailsure/tailsurelaw.BetaParts", spec := "betaParts", unfollowed := true, recurses := true, apart := false }
def BetaPartsSaid : Prop := betaPartsRow.holds Tryz.pinned (OpenSpec.ofChange betaPartsSpec)

/-- ITS FALSE NEIGHBOUR: 'it returns false'. Refute it at one input. -/
def betaPartsWrong : ChangeSpec := { name := "betaParts", fn := fun _ => fun
  | [d1, d2, d3, d4] => { results := [.lit (.bool false)], args := [d1, d2, d3, d4] }
  | _ => none }
def BetaPartsWrongFalsely : Prop := betaPartsRow.holds Tryz.pinned (OpenSpec.ofChange betaPartsWrong)

/-- 'tailsurelaw.LawChecks': WHATEVER THE INPUT: true; the input reads as it did. -/
def lawChecksSpec : ChangeSpec := { name := "lawChecks", fn := fun _ => fun
  | [d] => { results := [.lit (.bool true)], args := [d] }
  | _ => none }
def lawChecksRow : OpenClaim := { program := "ytgmnknmjainababgreat", sum := "b15fade6b53acf14cc9d6f1106ce26be1f1715fe369bc78f7dc51dc2017319f1", func := "tailsure/tailsurelaw.LawChecks", spec := "lawChecks", unfollowed := true, recurses := true, apart := false }
def LawChecksSaid : Prop := lawChecksRow.holds Tryz.pinned (OpenSpec.ofChange lawChecksSpec)

/-- ITS FALSE NEIGHBOUR: 'it returns false'. Refute it at one input. -/
def lawChecksWrong : ChangeSpec := { name := "lawChecks", fn := fun _ => fun
  | [d] => { results := [.lit (.bool false)], args := [d] }
  | _ => none }
def LawChecksWrongFalsely : Prop := lawChecksRow.holds Tryz.pinned (OpenSpec.ofChange lawChecksWrong)

/-- 'tailsurelaw.LawMasses': WHATEVER THE INPUT: true; the input reads as it did. -/
def lawMassesSpec : ChangeSpec := { name := "lawMasses", fn := fun _ => fun
  | [d1, d2, d3] => { results := [.lit (.bool true)], args := [d1, d2, d3] }
  | _ => none }
def lawMassesRow : OpenClaim := { program := "ytgmnknmjainababgreat", sum := "b15fade6b53acf14cc9d6f1106ce26be1f1715fe369bc78f7dc51dc2017319f1", func := "tailsure/tailsurelaw.LawMasses", spec := "lawMasses", unfollowed := true, recurses := true, apart := false }
def LawMassesSaid : Prop := lawMassesRow.holds Tryz.pinned (OpenSpec.ofChange lawMassesSpec)

/-- ITS FALSE NEIGHBOUR: 'it returns false'. Refute it at one input. -/
def lawMassesWrong : ChangeSpec := { name := "lawMasses", fn := fun _ => fun
  | [d1, d2, d3] => { results := [.lit (.bool false)], args := [d1, d2, d3] }
  | _ => none }
def LawMassesWrongFalsely : Prop := lawMassesRow.holds Tryz.pinned (OpenSpec.ofChange lawMassesWrong)

/- THE SECOND FORM. 'bulk': how many values and letters a reading holds, each counted each time it is reached (what is shared counts as often as it is met; a slice's spare places count too). A statement '..UptoSaid' is the law's where the arguments, and the package variables that the reading takes, are together of bulk at most 1048576: NARROWER than '..Said'. Prove '..Said' where nothing that the law and all that it calls make is longer than what came in: it says more and counts as full. Else prove '..UptoSaid'. A law counts once. -/
mutual
def uptoBulk {H : Type} : DataW H → Nat
  | .lit (.string bytes) => bytes.length + 1
  | .lit _ => 1
  | .nil => 1
  | .ptr d => uptoBulk d + 1
  | .slice elems spare => uptoBulkAll elems + uptoBulkAll spare + 1
  | .agg parts => uptoBulkAll parts + 1
  | .iface _ d => uptoBulk d + 1
  | .map entries => uptoBulkEntries entries + 1
  | .held _ => 1
def uptoBulkAll {H : Type} : List (DataW H) → Nat
  | [] => 0
  | d :: r => uptoBulk d + uptoBulkAll r
def uptoBulkEntries {H : Type} : List (Lit × DataW H) → Nat
  | [] => 0
  | x :: r => uptoBulkEntry x + uptoBulkEntries r
def uptoBulkEntry {H : Type} : Lit × DataW H → Nat
  | (.string bytes, d) => bytes.length + uptoBulk d + 1
  | (_, d) => uptoBulk d + 1
 end
def uptoSmall : (H : Type) → List (DataW H) → Bool := fun _ ds => decide (uptoBulkAll ds ≤ 1048576)
def OpenSpec.upto (s : _root_.Go.ChangeSpec) : _root_.Go.OpenSpec := { _root_.Go.OpenSpec.ofChange s with cond := some uptoSmall }

/-- 'tailsurelaw.ErrorfNormals', WHERE WHAT IT READS IS OF BULK AT MOST 1048576: true; the input reads as it did. -/
def errorfNormalsUptoRow : OpenClaim := { program := "ytgmnknmjainababgreat", sum := "b15fade6b53acf14cc9d6f1106ce26be1f1715fe369bc78f7dc51dc2017319f1", func := "tailsure/tailsurelaw.ErrorfNormals", spec := "errorfNormals", unfollowed := true, recurses := true, apart := false, narrowed := true }
def ErrorfNormalsUptoSaid : Prop := errorfNormalsUptoRow.holds Tryz.pinned (OpenSpec.upto errorfNormalsSpec)

/-- 'tailsurelaw.GammaLogs', WHERE WHAT IT READS IS OF BULK AT MOST 1048576: true; the input reads as it did. -/
def gammaLogsUptoRow : OpenClaim := { program := "ytgmnknmjainababgreat", sum := "b15fade6b53acf14cc9d6f1106ce26be1f1715fe369bc78f7dc51dc2017319f1", func := "tailsure/tailsurelaw.GammaLogs", spec := "gammaLogs", unfollowed := true, recurses := true, apart := false, narrowed := true }
def GammaLogsUptoSaid : Prop := gammaLogsUptoRow.holds Tryz.pinned (OpenSpec.upto gammaLogsSpec)

/-- 'tailsurelaw.UpperParts', WHERE WHAT IT READS IS OF BULK AT MOST 1048576: true; the input reads as it did. -/
def upperPartsUptoRow : OpenClaim := { program := "ytgmnknmjainababgreat", sum := "b15fade6b53acf14cc9d6f1106ce26be1f1715fe369bc78f7dc51dc2017319f1", func := "tailsure/tailsurelaw.UpperParts", spec := "upperParts", unfollowed := true, recurses := true, apart := false, narrowed := true }
def UpperPartsUptoSaid : Prop := upperPartsUptoRow.holds Tryz.pinned (OpenSpec.upto upperPartsSpec)

/-- 'tailsurelaw.BetaParts', WHERE WHAT IT READS IS OF BULK AT MOST 1048576: true; the input reads as it did. -/
def betaPartsUptoRow : OpenClaim := { program := "ytgmnknmjainababgreat", sum := "b15fade6b53acf14cc9d6f1106ce26be1f1715fe369bc78f7dc51dc2017319f1", func := "tailsure/tailsurelaw.BetaParts", spec := "betaParts", unfollowed := true, recurses := true, apart := false, narrowed := true }
def BetaPartsUptoSaid : Prop := betaPartsUptoRow.holds Tryz.pinned (OpenSpec.upto betaPartsSpec)

/-- 'tailsurelaw.LawChecks', WHERE WHAT IT READS IS OF BULK AT MOST 1048576: true; the input reads as it did. -/
def lawChecksUptoRow : OpenClaim := { program := "ytgmnknmjainababgreat", sum := "b15fade6b53acf14cc9d6f1106ce26be1f1715fe369bc78f7dc51dc2017319f1", func := "tailsure/tailsurelaw.LawChecks", spec := "lawChecks", unfollowed := true, recurses := true, apart := false, narrowed := true }
def LawChecksUptoSaid : Prop := lawChecksUptoRow.holds Tryz.pinned (OpenSpec.upto lawChecksSpec)

/-- 'tailsurelaw.LawMasses', WHERE WHAT IT READS IS OF BULK AT MOST 1048576: true; the input reads as it did. -/
def lawMassesUptoRow : OpenClaim := { program := "ytgmnknmjainababgreat", sum := "b15fade6b53acf14cc9d6f1106ce26be1f1715fe369bc78f7dc51dc2017319f1", func := "tailsure/tailsurelaw.LawMasses", spec := "lawMasses", unfollowed := true, recurses := true, apart := false, narrowed := true }
def LawMassesUptoSaid : Prop := lawMassesUptoRow.holds Tryz.pinned (OpenSpec.upto lawMassesSpec)

end Rows
end Go.Proofs.YtgmnknmjainababGreat
