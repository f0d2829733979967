/-
  NARROWER THAN 'FOR EVERY INPUT', by the rows' own cells (each row's printed sentence says how): NfaLongest: loops · NfaFinds: loops · NfaSteps: loops · NfaKinds: loops · NfaLoops: loops.
  DERIVED. THE GIVEN ROWS OF THIS SEAT. 12 by the template 'for every input the law returns true; each argument reads behind the call as it read before'; 0 by the template 'total and deterministic' (their statements: YtdgjkabbcneenaaTotals.lean).
  GIVEN WITH THE SEED: the statements are not yours to turn. If you find one false, say at which input.
  Laid BY PROGRAM, IN A SANDBOX (cutbox-rows.mjs): the forced cells as the released guide's own fill.sh prints them over the translation c70385bb034b7e98… (all of the seat's roots in one cut). By AI agents, Wed Nov 11 2026. No macro, syntax, notation, axiom, sorry.
-/
import Derived.Test.YtdgjkabbcneenaaChecked
import GoSem.Claim
import GoSem.ClaimJoined
import GoSem.ClaimMapViews
import Derived.JoinedTies
import Derived.KernelRfl
namespace Go.Proofs.Ytdgjkabbcneenaa
/- THE CELL 'sum', in the pinned program and in every row, IS THE sha256 OF THE DUMP (.gsa) THAT YtdgjkabbcneenaaProg.lean LOADS. Nothing in Lean hashes anything: it is a label: what it is worth is what the hold of that sum in a sandbox is worth. -/
noncomputable def Try.pinned : Pinned := { name := "ytdgjkabbcneenaa", sum := "c70385bb034b7e988d2d88bb29864d78392706401c590db24feeba0e8cb3a190", checked := Try.checked }
namespace Rows
def none {H : Type} : Left H := { results := [], args := [] }

/-- 'colloquylaw03.GlobMatches': WHATEVER THE INPUT: true; the input reads as it did. -/
def globMatchesSpec : ChangeSpec := { name := "globMatches", fn := fun _ => fun
  | [d1, d2] => { results := [.lit (.bool true)], args := [d1, d2] }
  | _ => none }
def globMatchesRow : OpenClaim := { program := "ytdgjkabbcneenaa", sum := "c70385bb034b7e988d2d88bb29864d78392706401c590db24feeba0e8cb3a190", func := "colloquy/colloquylaw03.GlobMatches", spec := "globMatches", inPlace := ["internal/bytealg.IndexByteString", "internal/abi.NoEscape"], unfollowed := true, recurses := true, apart := false }
def GlobMatchesSaid : Prop := globMatchesRow.holds Try.pinned (OpenSpec.ofChange globMatchesSpec)

/-- ITS FALSE NEIGHBOUR: 'it returns false'. Refute it at one input. -/
def globMatchesWrong : ChangeSpec := { name := "globMatches", fn := fun _ => fun
  | [d1, d2] => { results := [.lit (.bool false)], args := [d1, d2] }
  | _ => none }
def GlobMatchesWrongFalsely : Prop := globMatchesRow.holds Try.pinned (OpenSpec.ofChange globMatchesWrong)

/-- 'colloquylaw04.RexBack': WHATEVER THE INPUT: true; the input reads as it did. -/
def rexBackSpec : ChangeSpec := { name := "rexBack", fn := fun _ => fun
  | [d] => { results := [.lit (.bool true)], args := [d] }
  | _ => none }
def rexBackRow : OpenClaim := { program := "ytdgjkabbcneenaa", sum := "c70385bb034b7e988d2d88bb29864d78392706401c590db24feeba0e8cb3a190", func := "colloquy/colloquylaw04.RexBack", spec := "rexBack", inPlace := ["internal/bytealg.IndexByteString", "internal/abi.NoEscape"], unfollowed := true, recurses := true, apart := false }
def RexBackSaid : Prop := rexBackRow.holds Try.pinned (OpenSpec.ofChange rexBackSpec)

/-- ITS FALSE NEIGHBOUR: 'it returns false'. Refute it at one input. -/
def rexBackWrong : ChangeSpec := { name := "rexBack", fn := fun _ => fun
  | [d] => { results := [.lit (.bool false)], args := [d] }
  | _ => none }
def RexBackWrongFalsely : Prop := rexBackRow.holds Try.pinned (OpenSpec.ofChange rexBackWrong)

/-- 'colloquylaw05.NfaLongest': WHATEVER THE INPUT: true; the input reads as it did. -/
def nfaLongestSpec : ChangeSpec := { name := "nfaLongest", fn := fun _ => fun
  | [d1, d2, d3] => { results := [.lit (.bool true)], args := [d1, d2, d3] }
  | _ => none }
def nfaLongestRow : OpenClaim := { program := "ytdgjkabbcneenaa", sum := "c70385bb034b7e988d2d88bb29864d78392706401c590db24feeba0e8cb3a190", func := "colloquy/colloquylaw05.NfaLongest", spec := "nfaLongest", recurses := true, loops := true, apart := false }
def NfaLongestSaid : Prop := nfaLongestRow.holds Try.pinned (OpenSpec.ofChange nfaLongestSpec)

/-- ITS FALSE NEIGHBOUR: 'it returns false'. Refute it at one input. -/
def nfaLongestWrong : ChangeSpec := { name := "nfaLongest", fn := fun _ => fun
  | [d1, d2, d3] => { results := [.lit (.bool false)], args := [d1, d2, d3] }
  | _ => none }
def NfaLongestWrongFalsely : Prop := nfaLongestRow.holds Try.pinned (OpenSpec.ofChange nfaLongestWrong)

/-- 'colloquylaw05.NfaFinds': WHATEVER THE INPUT: true; the input reads as it did. -/
def nfaFindsSpec : ChangeSpec := { name := "nfaFinds", fn := fun _ => fun
  | [d1, d2] => { results := [.lit (.bool true)], args := [d1, d2] }
  | _ => none }
def nfaFindsRow : OpenClaim := { program := "ytdgjkabbcneenaa", sum := "c70385bb034b7e988d2d88bb29864d78392706401c590db24feeba0e8cb3a190", func := "colloquy/colloquylaw05.NfaFinds", spec := "nfaFinds", recurses := true, loops := true, apart := false }
def NfaFindsSaid : Prop := nfaFindsRow.holds Try.pinned (OpenSpec.ofChange nfaFindsSpec)

/-- ITS FALSE NEIGHBOUR: 'it returns false'. Refute it at one input. -/
def nfaFindsWrong : ChangeSpec := { name := "nfaFinds", fn := fun _ => fun
  | [d1, d2] => { results := [.lit (.bool false)], args := [d1, d2] }
  | _ => none }
def NfaFindsWrongFalsely : Prop := nfaFindsRow.holds Try.pinned (OpenSpec.ofChange nfaFindsWrong)

/-- 'colloquylaw05.NfaSteps': WHATEVER THE INPUT: true; the input reads as it did. -/
def nfaStepsSpec : ChangeSpec := { name := "nfaSteps", fn := fun _ => fun
  | [d1, d2, d3] => { results := [.lit (.bool true)], args := [d1, d2, d3] }
  | _ => none }
def nfaStepsRow : OpenClaim := { program := "ytdgjkabbcneenaa", sum := "c70385bb034b7e988d2d88bb29864d78392706401c590db24feeba0e8cb3a190", func := "colloquy/colloquylaw05.NfaSteps", spec := "nfaSteps", recurses := true, loops := true, apart := false }
def NfaStepsSaid : Prop := nfaStepsRow.holds Try.pinned (OpenSpec.ofChange nfaStepsSpec)

/-- ITS FALSE NEIGHBOUR: 'it returns false'. Refute it at one input. -/
def nfaStepsWrong : ChangeSpec := { name := "nfaSteps", fn := fun _ => fun
  | [d1, d2, d3] => { results := [.lit (.bool false)], args := [d1, d2, d3] }
  | _ => none }
def NfaStepsWrongFalsely : Prop := nfaStepsRow.holds Try.pinned (OpenSpec.ofChange nfaStepsWrong)

/-- 'colloquylaw05.NfaKinds': WHATEVER THE INPUT: true; the input reads as it did. -/
def nfaKindsSpec : ChangeSpec := { name := "nfaKinds", fn := fun _ => fun
  | [d1, d2, d3, d4] => { results := [.lit (.bool true)], args := [d1, d2, d3, d4] }
  | _ => none }
def nfaKindsRow : OpenClaim := { program := "ytdgjkabbcneenaa", sum := "c70385bb034b7e988d2d88bb29864d78392706401c590db24feeba0e8cb3a190", func := "colloquy/colloquylaw05.NfaKinds", spec := "nfaKinds", recurses := true, loops := true, apart := false }
def NfaKindsSaid : Prop := nfaKindsRow.holds Try.pinned (OpenSpec.ofChange nfaKindsSpec)

/-- ITS FALSE NEIGHBOUR: 'it returns false'. Refute it at one input. -/
def nfaKindsWrong : ChangeSpec := { name := "nfaKinds", fn := fun _ => fun
  | [d1, d2, d3, d4] => { results := [.lit (.bool false)], args := [d1, d2, d3, d4] }
  | _ => none }
def NfaKindsWrongFalsely : Prop := nfaKindsRow.holds Try.pinned (OpenSpec.ofChange nfaKindsWrong)

/-- 'colloquylaw05.NfaLoops': WHATEVER THE INPUT: true; the input reads as it did. -/
def nfaLoopsSpec : ChangeSpec := { name := "nfaLoops", fn := fun _ => fun
  | [d1, d2, d3] => { results := [.lit (.bool true)], args := [d1, d2, d3] }
  | _ => none }
def nfaLoopsRow : OpenClaim := { program := "ytdgjkabbcneenaa", sum := "c70385bb034b7e988d2d88bb29864d78392706401c590db24feeba0e8cb3a190", func := "colloquy/colloquylaw05.NfaLoops", spec := "nfaLoops", recurses := true, loops := true, apart := false }
def NfaLoopsSaid : Prop := nfaLoopsRow.holds Try.pinned (OpenSpec.ofChange nfaLoopsSpec)

/-- ITS FALSE NEIGHBOUR: 'it returns false'. Refute it at one input. -/
def nfaLoopsWrong : ChangeSpec := { name := "nfaLoops", fn := fun _ => fun
  | [d1, d2, d3] => { results := [.lit (.bool false)], args := [d1, d2, d3] }
  | _ => none }
def NfaLoopsWrongFalsely : Prop := nfaLoopsRow.holds Try.pinned (OpenSpec.ofChange nfaLoopsWrong)

/-- 'colloquylaw05.NfaCounts': WHATEVER THE INPUT: true; the input reads as it did. -/
def nfaCountsSpec : ChangeSpec := { name := "nfaCounts", fn := fun _ => fun
  | [d1, d2, d3] => { results := [.lit (.bool true)], args := [d1, d2, d3] }
  | _ => none }
def nfaCountsRow : OpenClaim := { program := "ytdgjkabbcneenaa", sum := "c70385bb034b7e988d2d88bb29864d78392706401c590db24feeba0e8cb3a190", func := "colloquy/colloquylaw05.NfaCounts", spec := "nfaCounts", recurses := true, apart := false }
def NfaCountsSaid : Prop := nfaCountsRow.holds Try.pinned (OpenSpec.ofChange nfaCountsSpec)

/-- ITS FALSE NEIGHBOUR: 'it returns false'. Refute it at one input. -/
def nfaCountsWrong : ChangeSpec := { name := "nfaCounts", fn := fun _ => fun
  | [d1, d2, d3] => { results := [.lit (.bool false)], args := [d1, d2, d3] }
  | _ => none }
def NfaCountsWrongFalsely : Prop := nfaCountsRow.holds Try.pinned (OpenSpec.ofChange nfaCountsWrong)

/-- 'colloquylaw06.PatGrows': WHATEVER THE INPUT: true; the input reads as it did. -/
def patGrowsSpec : ChangeSpec := { name := "patGrows", fn := fun _ => fun
  | [d1, d2, d3, d4] => { results := [.lit (.bool true)], args := [d1, d2, d3, d4] }
  | _ => none }
def patGrowsRow : OpenClaim := { program := "ytdgjkabbcneenaa", sum := "c70385bb034b7e988d2d88bb29864d78392706401c590db24feeba0e8cb3a190", func := "colloquy/colloquylaw06.PatGrows", spec := "patGrows", unfollowed := true, recurses := true, apart := false }
def PatGrowsSaid : Prop := patGrowsRow.holds Try.pinned (OpenSpec.ofChange patGrowsSpec)

/-- ITS FALSE NEIGHBOUR: 'it returns false'. Refute it at one input. -/
def patGrowsWrong : ChangeSpec := { name := "patGrows", fn := fun _ => fun
  | [d1, d2, d3, d4] => { results := [.lit (.bool false)], args := [d1, d2, d3, d4] }
  | _ => none }
def PatGrowsWrongFalsely : Prop := patGrowsRow.holds Try.pinned (OpenSpec.ofChange patGrowsWrong)

/-- 'colloquylaw06.PatExact': WHATEVER THE INPUT: true; the input reads as it did. -/
def patExactSpec : ChangeSpec := { name := "patExact", fn := fun _ => fun
  | [d1, d2] => { results := [.lit (.bool true)], args := [d1, d2] }
  | _ => none }
def patExactRow : OpenClaim := { program := "ytdgjkabbcneenaa", sum := "c70385bb034b7e988d2d88bb29864d78392706401c590db24feeba0e8cb3a190", func := "colloquy/colloquylaw06.PatExact", spec := "patExact", unfollowed := true, recurses := true, apart := false }
def PatExactSaid : Prop := patExactRow.holds Try.pinned (OpenSpec.ofChange patExactSpec)

/-- ITS FALSE NEIGHBOUR: 'it returns false'. Refute it at one input. -/
def patExactWrong : ChangeSpec := { name := "patExact", fn := fun _ => fun
  | [d1, d2] => { results := [.lit (.bool false)], args := [d1, d2] }
  | _ => none }
def PatExactWrongFalsely : Prop := patExactRow.holds Try.pinned (OpenSpec.ofChange patExactWrong)

/-- 'colloquylaw06.PatKinds': WHATEVER THE INPUT: true; the input reads as it did. -/
def patKindsSpec : ChangeSpec := { name := "patKinds", fn := fun _ => fun
  | [d1, d2] => { results := [.lit (.bool true)], args := [d1, d2] }
  | _ => none }
def patKindsRow : OpenClaim := { program := "ytdgjkabbcneenaa", sum := "c70385bb034b7e988d2d88bb29864d78392706401c590db24feeba0e8cb3a190", func := "colloquy/colloquylaw06.PatKinds", spec := "patKinds", unfollowed := true, recurses := true, apart := false }
def PatKindsSaid : Prop := patKindsRow.holds Try.pinned (OpenSpec.ofChange patKindsSpec)

/-- ITS FALSE NEIGHBOUR: 'it returns false'. Refute it at one input. -/
def patKindsWrong : ChangeSpec := { name := "patKinds", fn := fun _ => fun
  | [d1, d2] => { results := [.lit (.bool false)], args := [d1, d2] }
  | _ => none }
def PatKindsWrongFalsely : Prop := patKindsRow.holds Try.pinned (OpenSpec.ofChange patKindsWrong)

/-- 'colloquytop.WholePatterns': WHATEVER THE INPUT: true; the input reads as it did. -/
def wholePatternsSpec : ChangeSpec := { name := "wholePatterns", fn := fun _ => fun
  | [d1, d2] => { results := [.lit (.bool true)], args := [d1, d2] }
  | _ => none }
def wholePatternsRow : OpenClaim := { program := "ytdgjkabbcneenaa", sum := "c70385bb034b7e988d2d88bb29864d78392706401c590db24feeba0e8cb3a190", func := "colloquy/colloquytop.WholePatterns", spec := "wholePatterns", inPlace := ["internal/bytealg.IndexByteString", "internal/abi.NoEscape"], unfollowed := true, recurses := true, apart := false }
def WholePatternsSaid : Prop := wholePatternsRow.holds Try.pinned (OpenSpec.ofChange wholePatternsSpec)

/-- ITS FALSE NEIGHBOUR: 'it returns false'. Refute it at one input. -/
def wholePatternsWrong : ChangeSpec := { name := "wholePatterns", fn := fun _ => fun
  | [d1, d2] => { results := [.lit (.bool false)], args := [d1, d2] }
  | _ => none }
def WholePatternsWrongFalsely : Prop := wholePatternsRow.holds Try.pinned (OpenSpec.ofChange wholePatternsWrong)

/- THE SECOND FORM. 'bulk': how many values and letters a reading holds, each counted each time it is reached (what is shared counts as often as it is met; a slice's spare places count too). A statement '..UptoSaid' is the law's where the arguments, and the package variables that the reading takes, are together of bulk at most 1048576: NARROWER than '..Said'. Prove '..Said' where nothing that the law and all that it calls make is longer than what came in: it says more and counts as full. Else prove '..UptoSaid'. A law counts once. -/
mutual
def uptoBulk {H : Type} : DataW H → Nat
  | .lit (.string bytes) => bytes.length + 1
  | .lit _ => 1
  | .nil => 1
  | .ptr d => uptoBulk d + 1
  | .slice elems spare => uptoBulkAll elems + uptoBulkAll spare + 1
  | .agg parts => uptoBulkAll parts + 1
  | .iface _ d => uptoBulk d + 1
  | .map entries => uptoBulkEntries entries + 1
  | .held _ => 1
def uptoBulkAll {H : Type} : List (DataW H) → Nat
  | [] => 0
  | d :: r => uptoBulk d + uptoBulkAll r
def uptoBulkEntries {H : Type} : List (Lit × DataW H) → Nat
  | [] => 0
  | x :: r => uptoBulkEntry x + uptoBulkEntries r
def uptoBulkEntry {H : Type} : Lit × DataW H → Nat
  | (.string bytes, d) => bytes.length + uptoBulk d + 1
  | (_, d) => uptoBulk d + 1
 end
def uptoSmall : (H : Type) → List (DataW H) → Bool := fun _ ds => decide (uptoBulkAll ds ≤ 1048576)
def OpenSpec.upto (s : _root_.Go.ChangeSpec) : _root_.Go.OpenSpec := { _root_.Go.OpenSpec.ofChange s with cond := some uptoSmall }

/-- 'colloquylaw03.GlobMatches', WHERE WHAT IT READS IS OF BULK AT MOST 1048576: true; the input reads as it did. -/
def globMatchesUptoRow : OpenClaim := { program := "ytdgjkabbcneenaa", sum := "c70385bb034b7e988d2d88bb29864d78392706401c590db24feeba0e8cb3a190", func := "colloquy/colloquylaw03.GlobMatches", spec := "globMatches", inPlace := ["internal/bytealg.IndexByteString", "internal/abi.NoEscape"], unfollowed := true, recurses := true, apart := false, narrowed := true }
def GlobMatchesUptoSaid : Prop := globMatchesUptoRow.holds Try.pinned (OpenSpec.upto globMatchesSpec)

/-- 'colloquylaw04.RexBack', WHERE WHAT IT READS IS OF BULK AT MOST 1048576: true; the input reads as it did. -/
def rexBackUptoRow : OpenClaim := { program := "ytdgjkabbcneenaa", sum := "c70385bb034b7e988d2d88bb29864d78392706401c590db24feeba0e8cb3a190", func := "colloquy/colloquylaw04.RexBack", spec := "rexBack", inPlace := ["internal/bytealg.IndexByteString", "internal/abi.NoEscape"], unfollowed := true, recurses := true, apart := false, narrowed := true }
def RexBackUptoSaid : Prop := rexBackUptoRow.holds Try.pinned (OpenSpec.upto rexBackSpec)

/-- 'colloquylaw05.NfaLongest', WHERE WHAT IT READS IS OF BULK AT MOST 1048576: true; the input reads as it did. -/
def nfaLongestUptoRow : OpenClaim := { program := "ytdgjkabbcneenaa", sum := "c70385bb034b7e988d2d88bb29864d78392706401c590db24feeba0e8cb3a190", func := "colloquy/colloquylaw05.NfaLongest", spec := "nfaLongest", recurses := true, loops := true, apart := false, narrowed := true }
def NfaLongestUptoSaid : Prop := nfaLongestUptoRow.holds Try.pinned (OpenSpec.upto nfaLongestSpec)

/-- 'colloquylaw05.NfaFinds', WHERE WHAT IT READS IS OF BULK AT MOST 1048576: true; the input reads as it did. -/
def nfaFindsUptoRow : OpenClaim := { program := "ytdgjkabbcneenaa", sum := "c70385bb034b7e988d2d88bb29864d78392706401c590db24feeba0e8cb3a190", func := "colloquy/colloquylaw05.NfaFinds", spec := "nfaFinds", recurses := true, loops := true, apart := false, narrowed := true }
def NfaFindsUptoSaid : Prop := nfaFindsUptoRow.holds Try.pinned (OpenSpec.upto nfaFindsSpec)

/-- 'colloquylaw05.NfaSteps', WHERE WHAT IT READS IS OF BULK AT MOST 1048576: true; the input reads as it did. -/
def nfaStepsUptoRow : OpenClaim := { program := "ytdgjkabbcneenaa", sum := "c70385bb034b7e988d2d88bb29864d78392706401c590db24feeba0e8cb3a190", func := "colloquy/colloquylaw05.NfaSteps", spec := "nfaSteps", recurses := true, loops := true, apart := false, narrowed := true }
def NfaStepsUptoSaid : Prop := nfaStepsUptoRow.holds Try.pinned (OpenSpec.upto nfaStepsSpec)

/-- 'colloquylaw05.NfaKinds', WHERE WHAT IT READS IS OF BULK AT MOST 1048576: true; the input reads as it did. -/
def nfaKindsUptoRow : OpenClaim := { program := "ytdgjkabbcneenaa", sum := "c70385bb034b7e988d2d88bb29864d78392706401c590db24feeba0e8cb3a190", func := "colloquy/colloquylaw05.NfaKinds", spec := "nfaKinds", recurses := true, loops := true, apart := false, narrowed := true }
def NfaKindsUptoSaid : Prop := nfaKindsUptoRow.holds Try.pinned (OpenSpec.upto nfaKindsSpec)

/-- 'colloquylaw05.NfaLoops', WHERE WHAT IT READS IS OF BULK AT MOST 1048576: true; the input reads as it did. -/
def nfaLoopsUptoRow : OpenClaim := { program := "ytdgjkabbcneenaa", sum := "c70385bb034b7e988d2d88bb29864d78392706401c590db24feeba0e8cb3a190", func := "colloquy/colloquylaw05.NfaLoops", spec := "nfaLoops", recurses := true, loops := true, apart := false, narrowed := true }
def NfaLoopsUptoSaid : Prop := nfaLoopsUptoRow.holds Try.pinned (OpenSpec.upto nfaLoopsSpec)

/-- 'colloquylaw05.NfaCounts', WHERE WHAT IT READS IS OF BULK AT MOST 1048576: true; the input reads as it did. -/
def nfaCountsUptoRow : OpenClaim := { program := "ytdgjkabbcneenaa", sum := "c70385bb034b7e988d2d88bb29864d78392706401c590db24feeba0e8cb3a190", func := "colloquy/colloquylaw05.NfaCounts", spec := "nfaCounts", recurses := true, apart := false, narrowed := true }
def NfaCountsUptoSaid : Prop := nfaCountsUptoRow.holds Try.pinned (OpenSpec.upto nfaCountsSpec)

/-- 'colloquylaw06.PatGrows', WHERE WHAT IT READS IS OF BULK AT MOST 1048576: true; the input reads as it did. -/
def patGrowsUptoRow : OpenClaim := { program := "ytdgjkabbcneenaa", sum := "c70385bb034b7e988d2d88bb29864d78392706401c590db24feeba0e8cb3a190", func := "colloquy/colloquylaw06.PatGrows", spec := "patGrows", unfollowed := true, recurses := true, apart := false, narrowed := true }
def PatGrowsUptoSaid : Prop := patGrowsUptoRow.holds Try.pinned (OpenSpec.upto patGrowsSpec)

/-- 'colloquylaw06.PatExact', WHERE WHAT IT READS IS OF BULK AT MOST 1048576: true; the input reads as it did. -/
def patExactUptoRow : OpenClaim := { program := "ytdgjkabbcneenaa", sum := "c70385bb034b7e988d2d88bb29864d78392706401c590db24feeba0e8cb3a190", func := "colloquy/colloquylaw06.PatExact", spec := "patExact", unfollowed := true, recurses := true, apart := false, narrowed := true }
def PatExactUptoSaid : Prop := patExactUptoRow.holds Try.pinned (OpenSpec.upto patExactSpec)

/-- 'colloquylaw06.PatKinds', WHERE WHAT IT READS IS OF BULK AT MOST 1048576: true; the input reads as it did. -/
def patKindsUptoRow : OpenClaim := { program := "ytdgjkabbcneenaa", sum := "c70385bb034b7e988d2d88bb29864d78392706401c590db24feeba0e8cb3a190", func := "colloquy/colloquylaw06.PatKinds", spec := "patKinds", unfollowed := true, recurses := true, apart := false, narrowed := true }
def PatKindsUptoSaid : Prop := patKindsUptoRow.holds Try.pinned (OpenSpec.upto patKindsSpec)

/-- 'colloquytop.WholePatterns', WHERE WHAT IT READS IS OF BULK AT MOST 1048576: true; the input reads as it did. -/
def wholePatternsUptoRow : OpenClaim := { program := "ytdgjkabbcneenaa", sum := "c70385bb034b7e988d2d88bb29864d78392706401c590db24feeba0e8cb3a190", func := "colloquy/colloquytop.WholePatterns", spec := "wholePatterns", inPlace := ["internal/bytealg.IndexByteString", "internal/abi.NoEscape"], unfollowed := true, recurses := true, apart := false, narrowed := true }
def WholePatternsUptoSaid : Prop := wholePatternsUptoRow.holds Try.pinned (OpenSpec.upto wholePatternsSpec)

end Rows
end Go.Proofs.Ytdgjkabbcneenaa
