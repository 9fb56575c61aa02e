/-
  No cell of these rows narrows 'for every input' (looked for: loops, veiled, ifaces, maps, wideKeys, modest, calm, conditions, laid).
  DERIVED. THE GIVEN ROWS OF THIS SEAT. 12 by the template 'for every input the law returns true; each argument reads behind the call as it read before'; 0 by the template 'total and deterministic' (their statements: YtgmnknmjainabaaTotals.lean).
  GIVEN WITH THE SEED: the statements are not yours to turn. If you find one false, say at which input.
  Laid BY PROGRAM, IN A SANDBOX (cutbox-rows.mjs): the forced cells as the released guide's own fill.sh prints them over the translation cae454897161e0b9… (all of the seat's roots in one cut). By AI agents, Wed Nov 11 2026. No macro, syntax, notation, axiom, sorry.
-/
import Derived.Test.YtgmnknmjainabaaChecked
import GoSem.Claim
import GoSem.ClaimJoined
import GoSem.ClaimMapViews
import Derived.JoinedTies
import Derived.KernelRfl
namespace Go.Proofs.Ytgmnknmjainabaa
/- THE CELL 'sum', in the pinned program and in every row, IS THE sha256 OF THE DUMP (.gsa) THAT YtgmnknmjainabaaProg.lean LOADS. Nothing in Lean hashes anything: it is a label: what it is worth is what the hold of that sum in a sandbox is worth. -/
noncomputable def Try.pinned : Pinned := { name := "ytgmnknmjainabaa", sum := "cae454897161e0b99c05e65054c89907861ccc5616fcc6c67ff5ec86c799db9a", checked := Try.checked }
namespace Rows
def none {H : Type} : Left H := { results := [], args := [] }

/-- 'tailsurelaw.SpanChecks': WHATEVER THE INPUT: true; the input reads as it did. -/
def spanChecksSpec : ChangeSpec := { name := "spanChecks", fn := fun _ => fun
  | [d1, d2, d3] => { results := [.lit (.bool true)], args := [d1, d2, d3] }
  | _ => none }
def spanChecksRow : OpenClaim := { program := "ytgmnknmjainabaa", sum := "cae454897161e0b99c05e65054c89907861ccc5616fcc6c67ff5ec86c799db9a", func := "tailsure/tailsurelaw.SpanChecks", spec := "spanChecks", unfollowed := true, recurses := true, apart := false }
def SpanChecksSaid : Prop := spanChecksRow.holds Try.pinned (OpenSpec.ofChange spanChecksSpec)

/-- ITS FALSE NEIGHBOUR: 'it returns false'. Refute it at one input. -/
def spanChecksWrong : ChangeSpec := { name := "spanChecks", fn := fun _ => fun
  | [d1, d2, d3] => { results := [.lit (.bool false)], args := [d1, d2, d3] }
  | _ => none }
def SpanChecksWrongFalsely : Prop := spanChecksRow.holds Try.pinned (OpenSpec.ofChange spanChecksWrong)

/-- 'tailsurelaw.SpanAdds': WHATEVER THE INPUT: true; the input reads as it did. -/
def spanAddsSpec : ChangeSpec := { name := "spanAdds", fn := fun _ => fun
  | [d1, d2] => { results := [.lit (.bool true)], args := [d1, d2] }
  | _ => none }
def spanAddsRow : OpenClaim := { program := "ytgmnknmjainabaa", sum := "cae454897161e0b99c05e65054c89907861ccc5616fcc6c67ff5ec86c799db9a", func := "tailsure/tailsurelaw.SpanAdds", spec := "spanAdds", unfollowed := true, recurses := true, apart := false }
def SpanAddsSaid : Prop := spanAddsRow.holds Try.pinned (OpenSpec.ofChange spanAddsSpec)

/-- ITS FALSE NEIGHBOUR: 'it returns false'. Refute it at one input. -/
def spanAddsWrong : ChangeSpec := { name := "spanAdds", fn := fun _ => fun
  | [d1, d2] => { results := [.lit (.bool false)], args := [d1, d2] }
  | _ => none }
def SpanAddsWrongFalsely : Prop := spanAddsRow.holds Try.pinned (OpenSpec.ofChange spanAddsWrong)

/-- 'tailsurelaw.SpanDivs': WHATEVER THE INPUT: true; the input reads as it did. -/
def spanDivsSpec : ChangeSpec := { name := "spanDivs", fn := fun _ => fun
  | [d1, d2] => { results := [.lit (.bool true)], args := [d1, d2] }
  | _ => none }
def spanDivsRow : OpenClaim := { program := "ytgmnknmjainabaa", sum := "cae454897161e0b99c05e65054c89907861ccc5616fcc6c67ff5ec86c799db9a", func := "tailsure/tailsurelaw.SpanDivs", spec := "spanDivs", unfollowed := true, recurses := true, apart := false }
def SpanDivsSaid : Prop := spanDivsRow.holds Try.pinned (OpenSpec.ofChange spanDivsSpec)

/-- ITS FALSE NEIGHBOUR: 'it returns false'. Refute it at one input. -/
def spanDivsWrong : ChangeSpec := { name := "spanDivs", fn := fun _ => fun
  | [d1, d2] => { results := [.lit (.bool false)], args := [d1, d2] }
  | _ => none }
def SpanDivsWrongFalsely : Prop := spanDivsRow.holds Try.pinned (OpenSpec.ofChange spanDivsWrong)

/-- 'tailsurelaw.SpanOrders': WHATEVER THE INPUT: true; the input reads as it did. -/
def spanOrdersSpec : ChangeSpec := { name := "spanOrders", fn := fun _ => fun
  | [d1, d2, d3] => { results := [.lit (.bool true)], args := [d1, d2, d3] }
  | _ => none }
def spanOrdersRow : OpenClaim := { program := "ytgmnknmjainabaa", sum := "cae454897161e0b99c05e65054c89907861ccc5616fcc6c67ff5ec86c799db9a", func := "tailsure/tailsurelaw.SpanOrders", spec := "spanOrders", unfollowed := true, recurses := true, apart := false }
def SpanOrdersSaid : Prop := spanOrdersRow.holds Try.pinned (OpenSpec.ofChange spanOrdersSpec)

/-- ITS FALSE NEIGHBOUR: 'it returns false'. Refute it at one input. -/
def spanOrdersWrong : ChangeSpec := { name := "spanOrders", fn := fun _ => fun
  | [d1, d2, d3] => { results := [.lit (.bool false)], args := [d1, d2, d3] }
  | _ => none }
def SpanOrdersWrongFalsely : Prop := spanOrdersRow.holds Try.pinned (OpenSpec.ofChange spanOrdersWrong)

/-- 'tailsurelaw.SpanHolds': WHATEVER THE INPUT: true; the input reads as it did. -/
def spanHoldsSpec : ChangeSpec := { name := "spanHolds", fn := fun _ => fun
  | [d1, d2, d3, d4] => { results := [.lit (.bool true)], args := [d1, d2, d3, d4] }
  | _ => none }
def spanHoldsRow : OpenClaim := { program := "ytgmnknmjainabaa", sum := "cae454897161e0b99c05e65054c89907861ccc5616fcc6c67ff5ec86c799db9a", func := "tailsure/tailsurelaw.SpanHolds", spec := "spanHolds", unfollowed := true, recurses := true, apart := false }
def SpanHoldsSaid : Prop := spanHoldsRow.holds Try.pinned (OpenSpec.ofChange spanHoldsSpec)

/-- ITS FALSE NEIGHBOUR: 'it returns false'. Refute it at one input. -/
def spanHoldsWrong : ChangeSpec := { name := "spanHolds", fn := fun _ => fun
  | [d1, d2, d3, d4] => { results := [.lit (.bool false)], args := [d1, d2, d3, d4] }
  | _ => none }
def SpanHoldsWrongFalsely : Prop := spanHoldsRow.holds Try.pinned (OpenSpec.ofChange spanHoldsWrong)

/-- 'tailsurelaw.SpanGrows': WHATEVER THE INPUT: true; the input reads as it did. -/
def spanGrowsSpec : ChangeSpec := { name := "spanGrows", fn := fun _ => fun
  | [d1, d2, d3] => { results := [.lit (.bool true)], args := [d1, d2, d3] }
  | _ => none }
def spanGrowsRow : OpenClaim := { program := "ytgmnknmjainabaa", sum := "cae454897161e0b99c05e65054c89907861ccc5616fcc6c67ff5ec86c799db9a", func := "tailsure/tailsurelaw.SpanGrows", spec := "spanGrows", unfollowed := true, recurses := true, apart := false }
def SpanGrowsSaid : Prop := spanGrowsRow.holds Try.pinned (OpenSpec.ofChange spanGrowsSpec)

/-- ITS FALSE NEIGHBOUR: 'it returns false'. Refute it at one input. -/
def spanGrowsWrong : ChangeSpec := { name := "spanGrows", fn := fun _ => fun
  | [d1, d2, d3] => { results := [.lit (.bool false)], args := [d1, d2, d3] }
  | _ => none }
def SpanGrowsWrongFalsely : Prop := spanGrowsRow.holds Try.pinned (OpenSpec.ofChange spanGrowsWrong)

/-- 'tailsurelaw.PowerExps': WHATEVER THE INPUT: true; the input reads as it did. -/
def powerExpsSpec : ChangeSpec := { name := "powerExps", fn := fun _ => fun
  | [d1, d2] => { results := [.lit (.bool true)], args := [d1, d2] }
  | _ => none }
def powerExpsRow : OpenClaim := { program := "ytgmnknmjainabaa", sum := "cae454897161e0b99c05e65054c89907861ccc5616fcc6c67ff5ec86c799db9a", func := "tailsure/tailsurelaw.PowerExps", spec := "powerExps", unfollowed := true, recurses := true, apart := false }
def PowerExpsSaid : Prop := powerExpsRow.holds Try.pinned (OpenSpec.ofChange powerExpsSpec)

/-- ITS FALSE NEIGHBOUR: 'it returns false'. Refute it at one input. -/
def powerExpsWrong : ChangeSpec := { name := "powerExps", fn := fun _ => fun
  | [d1, d2] => { results := [.lit (.bool false)], args := [d1, d2] }
  | _ => none }
def PowerExpsWrongFalsely : Prop := powerExpsRow.holds Try.pinned (OpenSpec.ofChange powerExpsWrong)

/-- 'tailsurelaw.PowerLogs': WHATEVER THE INPUT: true; the input reads as it did. -/
def powerLogsSpec : ChangeSpec := { name := "powerLogs", fn := fun _ => fun
  | [d1, d2] => { results := [.lit (.bool true)], args := [d1, d2] }
  | _ => none }
def powerLogsRow : OpenClaim := { program := "ytgmnknmjainabaa", sum := "cae454897161e0b99c05e65054c89907861ccc5616fcc6c67ff5ec86c799db9a", func := "tailsure/tailsurelaw.PowerLogs", spec := "powerLogs", unfollowed := true, recurses := true, apart := false }
def PowerLogsSaid : Prop := powerLogsRow.holds Try.pinned (OpenSpec.ofChange powerLogsSpec)

/-- ITS FALSE NEIGHBOUR: 'it returns false'. Refute it at one input. -/
def powerLogsWrong : ChangeSpec := { name := "powerLogs", fn := fun _ => fun
  | [d1, d2] => { results := [.lit (.bool false)], args := [d1, d2] }
  | _ => none }
def PowerLogsWrongFalsely : Prop := powerLogsRow.holds Try.pinned (OpenSpec.ofChange powerLogsWrong)

/-- 'tailsurelaw.PowerPows': WHATEVER THE INPUT: true; the input reads as it did. -/
def powerPowsSpec : ChangeSpec := { name := "powerPows", fn := fun _ => fun
  | [d1, d2, d3] => { results := [.lit (.bool true)], args := [d1, d2, d3] }
  | _ => none }
def powerPowsRow : OpenClaim := { program := "ytgmnknmjainabaa", sum := "cae454897161e0b99c05e65054c89907861ccc5616fcc6c67ff5ec86c799db9a", func := "tailsure/tailsurelaw.PowerPows", spec := "powerPows", unfollowed := true, recurses := true, apart := false }
def PowerPowsSaid : Prop := powerPowsRow.holds Try.pinned (OpenSpec.ofChange powerPowsSpec)

/-- ITS FALSE NEIGHBOUR: 'it returns false'. Refute it at one input. -/
def powerPowsWrong : ChangeSpec := { name := "powerPows", fn := fun _ => fun
  | [d1, d2, d3] => { results := [.lit (.bool false)], args := [d1, d2, d3] }
  | _ => none }
def PowerPowsWrongFalsely : Prop := powerPowsRow.holds Try.pinned (OpenSpec.ofChange powerPowsWrong)

/-- 'tailsurelaw.PowerSums': WHATEVER THE INPUT: true; the input reads as it did. -/
def powerSumsSpec : ChangeSpec := { name := "powerSums", fn := fun _ => fun
  | [d1, d2, d3, d4] => { results := [.lit (.bool true)], args := [d1, d2, d3, d4] }
  | _ => none }
def powerSumsRow : OpenClaim := { program := "ytgmnknmjainabaa", sum := "cae454897161e0b99c05e65054c89907861ccc5616fcc6c67ff5ec86c799db9a", func := "tailsure/tailsurelaw.PowerSums", spec := "powerSums", unfollowed := true, recurses := true, apart := false }
def PowerSumsSaid : Prop := powerSumsRow.holds Try.pinned (OpenSpec.ofChange powerSumsSpec)

/-- ITS FALSE NEIGHBOUR: 'it returns false'. Refute it at one input. -/
def powerSumsWrong : ChangeSpec := { name := "powerSums", fn := fun _ => fun
  | [d1, d2, d3, d4] => { results := [.lit (.bool false)], args := [d1, d2, d3, d4] }
  | _ => none }
def PowerSumsWrongFalsely : Prop := powerSumsRow.holds Try.pinned (OpenSpec.ofChange powerSumsWrong)

/-- 'tailsurelaw.PowerBack': WHATEVER THE INPUT: true; the input reads as it did. -/
def powerBackSpec : ChangeSpec := { name := "powerBack", fn := fun _ => fun
  | [d1, d2, d3, d4] => { results := [.lit (.bool true)], args := [d1, d2, d3, d4] }
  | _ => none }
def powerBackRow : OpenClaim := { program := "ytgmnknmjainabaa", sum := "cae454897161e0b99c05e65054c89907861ccc5616fcc6c67ff5ec86c799db9a", func := "tailsure/tailsurelaw.PowerBack", spec := "powerBack", unfollowed := true, recurses := true, apart := false }
def PowerBackSaid : Prop := powerBackRow.holds Try.pinned (OpenSpec.ofChange powerBackSpec)

/-- ITS FALSE NEIGHBOUR: 'it returns false'. Refute it at one input. -/
def powerBackWrong : ChangeSpec := { name := "powerBack", fn := fun _ => fun
  | [d1, d2, d3, d4] => { results := [.lit (.bool false)], args := [d1, d2, d3, d4] }
  | _ => none }
def PowerBackWrongFalsely : Prop := powerBackRow.holds Try.pinned (OpenSpec.ofChange powerBackWrong)

/-- 'tailsurelaw.RestSpans': WHATEVER THE INPUT: true; the input reads as it did. -/
def restSpansSpec : ChangeSpec := { name := "restSpans", fn := fun _ => fun
  | [d1, d2, d3] => { results := [.lit (.bool true)], args := [d1, d2, d3] }
  | _ => none }
def restSpansRow : OpenClaim := { program := "ytgmnknmjainabaa", sum := "cae454897161e0b99c05e65054c89907861ccc5616fcc6c67ff5ec86c799db9a", func := "tailsure/tailsurelaw.RestSpans", spec := "restSpans", unfollowed := true, recurses := true, apart := false }
def RestSpansSaid : Prop := restSpansRow.holds Try.pinned (OpenSpec.ofChange restSpansSpec)

/-- ITS FALSE NEIGHBOUR: 'it returns false'. Refute it at one input. -/
def restSpansWrong : ChangeSpec := { name := "restSpans", fn := fun _ => fun
  | [d1, d2, d3] => { results := [.lit (.bool false)], args := [d1, d2, d3] }
  | _ => none }
def RestSpansWrongFalsely : Prop := restSpansRow.holds Try.pinned (OpenSpec.ofChange restSpansWrong)

/- THE SECOND FORM. 'bulk': how many values and letters a reading holds, each counted each time it is reached (what is shared counts as often as it is met; a slice's spare places count too). A statement '..UptoSaid' is the law's where the arguments, and the package variables that the reading takes, are together of bulk at most 1048576: NARROWER than '..Said'. Prove '..Said' where nothing that the law and all that it calls make is longer than what came in: it says more and counts as full. Else prove '..UptoSaid'. A law counts once. -/
mutual
def uptoBulk {H : Type} : DataW H → Nat
  | .lit (.string bytes) => bytes.length + 1
  | .lit _ => 1
  | .nil => 1
  | .ptr d => uptoBulk d + 1
  | .slice elems spare => uptoBulkAll elems + uptoBulkAll spare + 1
  | .agg parts => uptoBulkAll parts + 1
  | .iface _ d => uptoBulk d + 1
  | .map entries => uptoBulkEntries entries + 1
  | .held _ => 1
def uptoBulkAll {H : Type} : List (DataW H) → Nat
  | [] => 0
  | d :: r => uptoBulk d + uptoBulkAll r
def uptoBulkEntries {H : Type} : List (Lit × DataW H) → Nat
  | [] => 0
  | x :: r => uptoBulkEntry x + uptoBulkEntries r
def uptoBulkEntry {H : Type} : Lit × DataW H → Nat
  | (.string bytes, d) => bytes.length + uptoBulk d + 1
  | (_, d) => uptoBulk d + 1
 end
def uptoSmall : (H : Type) → List (DataW H) → Bool := fun _ ds => decide (uptoBulkAll ds ≤ 1048576)
def OpenSpec.upto (s : _root_.Go.ChangeSpec) : _root_.Go.OpenSpec := { _root_.Go.OpenSpec.ofChange s with cond := some uptoSmall }

/-- 'tailsurelaw.SpanChecks', WHERE WHAT IT READS IS OF BULK AT MOST 1048576: true; the input reads as it did. -/
def spanChecksUptoRow : OpenClaim := { program := "ytgmnknmjainabaa", sum := "cae454897161e0b99c05e65054c89907861ccc5616fcc6c67ff5ec86c799db9a", func := "tailsure/tailsurelaw.SpanChecks", spec := "spanChecks", unfollowed := true, recurses := true, apart := false, narrowed := true }
def SpanChecksUptoSaid : Prop := spanChecksUptoRow.holds Try.pinned (OpenSpec.upto spanChecksSpec)

/-- 'tailsurelaw.SpanAdds', WHERE WHAT IT READS IS OF BULK AT MOST 1048576: true; the input reads as it did. -/
def spanAddsUptoRow : OpenClaim := { program := "ytgmnknmjainabaa", sum := "cae454897161e0b99c05e65054c89907861ccc5616fcc6c67ff5ec86c799db9a", func := "tailsure/tailsurelaw.SpanAdds", spec := "spanAdds", unfollowed := true, recurses := true, apart := false, narrowed := true }
def SpanAddsUptoSaid : Prop := spanAddsUptoRow.holds Try.pinned (OpenSpec.upto spanAddsSpec)

/-- 'tailsurelaw.SpanDivs', WHERE WHAT IT READS IS OF BULK AT MOST 1048576: true; the input reads as it did. -/
def spanDivsUptoRow : OpenClaim := { program := "ytgmnknmjainabaa", sum := "cae454897161e0b99c05e65054c89907861ccc5616fcc6c67ff5ec86c799db9a", func := "tailsure/tailsurelaw.SpanDivs", spec := "spanDivs", unfollowed := true, recurses := true, apart := false, narrowed := true }
def SpanDivsUptoSaid : Prop := spanDivsUptoRow.holds Try.pinned (OpenSpec.upto spanDivsSpec)

/-- 'tailsurelaw.SpanOrders', WHERE WHAT IT READS IS OF BULK AT MOST 1048576: true; the input reads as it did. -/
def spanOrdersUptoRow : OpenClaim := { program := "ytgmnknmjainabaa", sum := "cae454897161e0b99c05e65054c89907861ccc5616fcc6c67ff5ec86c799db9a", func := "tailsure/tailsurelaw.SpanOrders", spec := "spanOrders", unfollowed := true, recurses := true, apart := false, narrowed := true }
def SpanOrdersUptoSaid : Prop := spanOrdersUptoRow.holds Try.pinned (OpenSpec.upto spanOrdersSpec)

/-- 'tailsurelaw.SpanHolds', WHERE WHAT IT READS IS OF BULK AT MOST 1048576: true; the input reads as it did. -/
def spanHoldsUptoRow : OpenClaim := { program := "ytgmnknmjainabaa", sum := "cae454897161e0b99c05e65054c89907861ccc5616fcc6c67ff5ec86c799db9a", func := "tailsure/tailsurelaw.SpanHolds", spec := "spanHolds", unfollowed := true, recurses := true, apart := false, narrowed := true }
def SpanHoldsUptoSaid : Prop := spanHoldsUptoRow.holds Try.pinned (OpenSpec.upto spanHoldsSpec)

/-- 'tailsurelaw.SpanGrows', WHERE WHAT IT READS IS OF BULK AT MOST 1048576: true; the input reads as it did. -/
def spanGrowsUptoRow : OpenClaim := { program := "ytgmnknmjainabaa", sum := "cae454897161e0b99c05e65054c89907861ccc5616fcc6c67ff5ec86c799db9a", func := "tailsure/tailsurelaw.SpanGrows", spec := "spanGrows", unfollowed := true, recurses := true, apart := false, narrowed := true }
def SpanGrowsUptoSaid : Prop := spanGrowsUptoRow.holds Try.pinned (OpenSpec.upto spanGrowsSpec)

/-- 'tailsurelaw.PowerExps', WHERE WHAT IT READS IS OF BULK AT MOST 1048576: true; the input reads as it did. -/
def powerExpsUptoRow : OpenClaim := { program := "ytgmnknmjainabaa", sum := "cae454897161e0b99c05e65054c89907861ccc5616fcc6c67ff5ec86c799db9a", func := "tailsure/tailsurelaw.PowerExps", spec := "powerExps", unfollowed := true, recurses := true, apart := false, narrowed := true }
def PowerExpsUptoSaid : Prop := powerExpsUptoRow.holds Try.pinned (OpenSpec.upto powerExpsSpec)

/-- 'tailsurelaw.PowerLogs', WHERE WHAT IT READS IS OF BULK AT MOST 1048576: true; the input reads as it did. -/
def powerLogsUptoRow : OpenClaim := { program := "ytgmnknmjainabaa", sum := "cae454897161e0b99c05e65054c89907861ccc5616fcc6c67ff5ec86c799db9a", func := "tailsure/tailsurelaw.PowerLogs", spec := "powerLogs", unfollowed := true, recurses := true, apart := false, narrowed := true }
def PowerLogsUptoSaid : Prop := powerLogsUptoRow.holds Try.pinned (OpenSpec.upto powerLogsSpec)

/-- 'tailsurelaw.PowerPows', WHERE WHAT IT READS IS OF BULK AT MOST 1048576: true; the input reads as it did. -/
def powerPowsUptoRow : OpenClaim := { program := "ytgmnknmjainabaa", sum := "cae454897161e0b99c05e65054c89907861ccc5616fcc6c67ff5ec86c799db9a", func := "tailsure/tailsurelaw.PowerPows", spec := "powerPows", unfollowed := true, recurses := true, apart := false, narrowed := true }
def PowerPowsUptoSaid : Prop := powerPowsUptoRow.holds Try.pinned (OpenSpec.upto powerPowsSpec)

/-- 'tailsurelaw.PowerSums', WHERE WHAT IT READS IS OF BULK AT MOST 1048576: true; the input reads as it did. -/
def powerSumsUptoRow : OpenClaim := { program := "ytgmnknmjainabaa", sum := "cae454897161e0b99c05e65054c89907861ccc5616fcc6c67ff5ec86c799db9a", func := "tailsure/tailsurelaw.PowerSums", spec := "powerSums", unfollowed := true, recurses := true, apart := false, narrowed := true }
def PowerSumsUptoSaid : Prop := powerSumsUptoRow.holds Try.pinned (OpenSpec.upto powerSumsSpec)

/-- 'tailsurelaw.PowerBack', WHERE WHAT IT READS IS OF BULK AT MOST 1048576: true; the input reads as it did. -/
def powerBackUptoRow : OpenClaim := { program := "ytgmnknmjainabaa", sum := "cae454897161e0b99c05e65054c89907861ccc5616fcc6c67ff5ec86c799db9a", func := "tailsure/tailsurelaw.PowerBack", spec := "powerBack", unfollowed := true, recurses := true, apart := false, narrowed := true }
def PowerBackUptoSaid : Prop := powerBackUptoRow.holds Try.pinned (OpenSpec.upto powerBackSpec)

/-- 'tailsurelaw.RestSpans', WHERE WHAT IT READS IS OF BULK AT MOST 1048576: true; the input reads as it did. -/
def restSpansUptoRow : OpenClaim := { program := "ytgmnknmjainabaa", sum := "cae454897161e0b99c05e65054c89907861ccc5616fcc6c67ff5ec86c799db9a", func := "tailsure/tailsurelaw.RestSpans", spec := "restSpans", unfollowed := true, recurses := true, apart := false, narrowed := true }
def RestSpansUptoSaid : Prop := restSpansUptoRow.holds Try.pinned (OpenSpec.upto restSpansSpec)

end Rows
end Go.Proofs.Ytgmnknmjainabaa
