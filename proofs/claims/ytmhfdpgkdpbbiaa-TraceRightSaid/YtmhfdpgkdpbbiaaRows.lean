/-
  No cell of these rows narrows 'for every input' (looked for: loops, veiled, ifaces, maps, wideKeys, modest, calm, conditions, laid).
  DERIVED. THE GIVEN ROWS OF THIS SEAT. 4 by the template 'for every input the law returns true; each argument reads behind the call as it read before'; 0 by the template 'total and deterministic' (their statements: YtmhfdpgkdpbbiaaTotals.lean).
  GIVEN WITH THE SEED: the statements are not yours to turn. If you find one false, say at which input.
  Laid BY PROGRAM, IN A SANDBOX (cutbox-rows.mjs): the forced cells as the released guide's own fill.sh prints them over the translation 83b572c25c6aa2fc… (all of the seat's roots in one cut). By AI agents, Wed Nov 11 2026. No macro, syntax, notation, axiom, sorry.
-/
import Derived.Test.YtmhfdpgkdpbbiaaChecked
import GoSem.Claim
import GoSem.ClaimJoined
import GoSem.ClaimMapViews
import Derived.JoinedTies
import Derived.KernelRfl
namespace Go.Proofs.Ytmhfdpgkdpbbiaa
/- THE CELL 'sum', in the pinned program and in every row, IS THE sha256 OF THE DUMP (.gsa) THAT YtmhfdpgkdpbbiaaProg.lean LOADS. Nothing in Lean hashes anything: it is a label: what it is worth is what the hold of that sum in a sandbox is worth. -/
noncomputable def Try.pinned : Pinned := { name := "ytmhfdpgkdpbbiaa", sum := "83b572c25c6aa2fcb461f66b4ee64a04425c4f122a45e2ee2baba3a69c8011c5", checked := Try.checked }
namespace Rows
def none {H : Type} : Left H := { results := [], args := [] }

/-- 'colloquylaw18.TraceVerdicts': WHATEVER THE INPUT: true; the input reads as it did. -/
def traceVerdictsSpec : ChangeSpec := { name := "traceVerdicts", fn := fun _ => fun
  | [d1, d2, d3] => { results := [.lit (.bool true)], args := [d1, d2, d3] }
  | _ => none }
def traceVerdictsRow : OpenClaim := { program := "ytmhfdpgkdpbbiaa", sum := "83b572c25c6aa2fcb461f66b4ee64a04425c4f122a45e2ee2baba3a69c8011c5", func := "colloquy/colloquylaw18.TraceVerdicts", spec := "traceVerdicts", unfollowed := true, recurses := true, apart := false }
def TraceVerdictsSaid : Prop := traceVerdictsRow.holds Try.pinned (OpenSpec.ofChange traceVerdictsSpec)

/-- ITS FALSE NEIGHBOUR: 'it returns false'. Refute it at one input. -/
def traceVerdictsWrong : ChangeSpec := { name := "traceVerdicts", fn := fun _ => fun
  | [d1, d2, d3] => { results := [.lit (.bool false)], args := [d1, d2, d3] }
  | _ => none }
def TraceVerdictsWrongFalsely : Prop := traceVerdictsRow.holds Try.pinned (OpenSpec.ofChange traceVerdictsWrong)

/-- 'colloquylaw18.TraceRight': WHATEVER THE INPUT: true; the input reads as it did. -/
def traceRightSpec : ChangeSpec := { name := "traceRight", fn := fun _ => fun
  | [d] => { results := [.lit (.bool true)], args := [d] }
  | _ => none }
def traceRightRow : OpenClaim := { program := "ytmhfdpgkdpbbiaa", sum := "83b572c25c6aa2fcb461f66b4ee64a04425c4f122a45e2ee2baba3a69c8011c5", func := "colloquy/colloquylaw18.TraceRight", spec := "traceRight", unfollowed := true, recurses := true, apart := false }
def TraceRightSaid : Prop := traceRightRow.holds Try.pinned (OpenSpec.ofChange traceRightSpec)

/-- ITS FALSE NEIGHBOUR: 'it returns false'. Refute it at one input. -/
def traceRightWrong : ChangeSpec := { name := "traceRight", fn := fun _ => fun
  | [d] => { results := [.lit (.bool false)], args := [d] }
  | _ => none }
def TraceRightWrongFalsely : Prop := traceRightRow.holds Try.pinned (OpenSpec.ofChange traceRightWrong)

/-- 'colloquylaw18.TraceCounts': WHATEVER THE INPUT: true; the input reads as it did. -/
def traceCountsSpec : ChangeSpec := { name := "traceCounts", fn := fun _ => fun
  | [d] => { results := [.lit (.bool true)], args := [d] }
  | _ => none }
def traceCountsRow : OpenClaim := { program := "ytmhfdpgkdpbbiaa", sum := "83b572c25c6aa2fcb461f66b4ee64a04425c4f122a45e2ee2baba3a69c8011c5", func := "colloquy/colloquylaw18.TraceCounts", spec := "traceCounts", apart := false }
def TraceCountsSaid : Prop := traceCountsRow.holds Try.pinned (OpenSpec.ofChange traceCountsSpec)

/-- ITS FALSE NEIGHBOUR: 'it returns false'. Refute it at one input. -/
def traceCountsWrong : ChangeSpec := { name := "traceCounts", fn := fun _ => fun
  | [d] => { results := [.lit (.bool false)], args := [d] }
  | _ => none }
def TraceCountsWrongFalsely : Prop := traceCountsRow.holds Try.pinned (OpenSpec.ofChange traceCountsWrong)

/-- 'colloquylaw18.TraceFirst': WHATEVER THE INPUT: true; the input reads as it did. -/
def traceFirstSpec : ChangeSpec := { name := "traceFirst", fn := fun _ => fun
  | [d1, d2, d3] => { results := [.lit (.bool true)], args := [d1, d2, d3] }
  | _ => none }
def traceFirstRow : OpenClaim := { program := "ytmhfdpgkdpbbiaa", sum := "83b572c25c6aa2fcb461f66b4ee64a04425c4f122a45e2ee2baba3a69c8011c5", func := "colloquy/colloquylaw18.TraceFirst", spec := "traceFirst", unfollowed := true, recurses := true, apart := false }
def TraceFirstSaid : Prop := traceFirstRow.holds Try.pinned (OpenSpec.ofChange traceFirstSpec)

/-- ITS FALSE NEIGHBOUR: 'it returns false'. Refute it at one input. -/
def traceFirstWrong : ChangeSpec := { name := "traceFirst", fn := fun _ => fun
  | [d1, d2, d3] => { results := [.lit (.bool false)], args := [d1, d2, d3] }
  | _ => none }
def TraceFirstWrongFalsely : Prop := traceFirstRow.holds Try.pinned (OpenSpec.ofChange traceFirstWrong)

/- THE SECOND FORM. 'bulk': how many values and letters a reading holds, each counted each time it is reached (what is shared counts as often as it is met; a slice's spare places count too). A statement '..UptoSaid' is the law's where the arguments, and the package variables that the reading takes, are together of bulk at most 1048576: NARROWER than '..Said'. Prove '..Said' where nothing that the law and all that it calls make is longer than what came in: it says more and counts as full. Else prove '..UptoSaid'. A law counts once. -/
mutual
def uptoBulk {H : Type} : DataW H → Nat
  | .lit (.string bytes) => bytes.length + 1
  | .lit _ => 1
  | .nil => 1
  | .ptr d => uptoBulk d + 1
  | .slice elems spare => uptoBulkAll elems + uptoBulkAll spare + 1
  | .agg parts => uptoBulkAll parts + 1
  | .iface _ d => uptoBulk d + 1
  | .map entries => uptoBulkEntries entries + 1
  | .held _ => 1
def uptoBulkAll {H : Type} : List (DataW H) → Nat
  | [] => 0
  | d :: r => uptoBulk d + uptoBulkAll r
def uptoBulkEntries {H : Type} : List (Lit × DataW H) → Nat
  | [] => 0
  | x :: r => uptoBulkEntry x + uptoBulkEntries r
def uptoBulkEntry {H : Type} : Lit × DataW H → Nat
  | (.string bytes, d) => bytes.length + uptoBulk d + 1
  | (_, d) => uptoBulk d + 1
 end
def uptoSmall : (H : Type) → List (DataW H) → Bool := fun _ ds => decide (uptoBulkAll ds ≤ 1048576)
def OpenSpec.upto (s : _root_.Go.ChangeSpec) : _root_.Go.OpenSpec := { _root_.Go.OpenSpec.ofChange s with cond := some uptoSmall }

/-- 'colloquylaw18.TraceVerdicts', WHERE WHAT IT READS IS OF BULK AT MOST 1048576: true; the input reads as it did. -/
def traceVerdictsUptoRow : OpenClaim := { program := "ytmhfdpgkdpbbiaa", sum := "83b572c25c6aa2fcb461f66b4ee64a04425c4f122a45e2ee2baba3a69c8011c5", func := "colloquy/colloquylaw18.TraceVerdicts", spec := "traceVerdicts", unfollowed := true, recurses := true, apart := false, narrowed := true }
def TraceVerdictsUptoSaid : Prop := traceVerdictsUptoRow.holds Try.pinned (OpenSpec.upto traceVerdictsSpec)

/-- 'colloquylaw18.TraceRight', WHERE WHAT IT READS IS OF BULK AT MOST 1048576: true; the input reads as it did. -/
def traceRightUptoRow : OpenClaim := { program := "ytmhfdpgkdpbbiaa", sum := "83b572c25c6aa2fcb461f66b4ee64a04425c4f122a45e2ee2baba3a69c8011c5", func := "colloquy/colloquylaw18.TraceRight", spec := "traceRight", unfollowed := true, recurses := true, apart := false, narrowed := true }
def TraceRightUptoSaid : Prop := traceRightUptoRow.holds Try.pinned (OpenSpec.upto traceRightSpec)

/-- 'colloquylaw18.TraceCounts', WHERE WHAT IT READS IS OF BULK AT MOST 1048576: true; the input reads as it did. -/
def traceCountsUptoRow : OpenClaim := { program := "ytmhfdpgkdpbbiaa", sum := "83b572c25c6aa2fcb461f66b4ee64a04425c4f122a45e2ee2baba3a69c8011c5", func := "colloquy/colloquylaw18.TraceCounts", spec := "traceCounts", apart := false, narrowed := true }
def TraceCountsUptoSaid : Prop := traceCountsUptoRow.holds Try.pinned (OpenSpec.upto traceCountsSpec)

/-- 'colloquylaw18.TraceFirst', WHERE WHAT IT READS IS OF BULK AT MOST 1048576: true; the input reads as it did. -/
def traceFirstUptoRow : OpenClaim := { program := "ytmhfdpgkdpbbiaa", sum := "83b572c25c6aa2fcb461f66b4ee64a04425c4f122a45e2ee2baba3a69c8011c5", func := "colloquy/colloquylaw18.TraceFirst", spec := "traceFirst", unfollowed := true, recurses := true, apart := false, narrowed := true }
def TraceFirstUptoSaid : Prop := traceFirstUptoRow.holds Try.pinned (OpenSpec.upto traceFirstSpec)

end Rows
end Go.Proofs.Ytmhfdpgkdpbbiaa
