/-
  NARROWER THAN 'FOR EVERY INPUT', by the rows' own cells (each row's printed sentence says how): NfaLongest: loops · NfaFinds: loops · NfaSteps: loops · NfaKinds: loops · NfaLoops: loops · PrintConds: loops.
  DERIVED. THE GIVEN ROWS OF THIS SEAT. 10 by the template 'for every input the law returns true; each argument reads behind the call as it read before'; 0 by the template 'total and deterministic' (their statements: YtepfpmnfecehbaaTotals.lean).
  GIVEN WITH THE SEED: the statements are not yours to turn. If you find one false, say at which input.
  Laid BY PROGRAM, IN A SANDBOX (cutbox-rows.mjs): the forced cells as the released guide's own fill.sh prints them over the translation 115e373a3c80f4d6… (all of the seat's roots in one cut). By AI agents, Wed Nov 11 2026. No macro, syntax, notation, axiom, sorry.
-/
import Derived.Test.YtepfpmnfecehbaaChecked
import GoSem.Claim
import GoSem.ClaimJoined
import GoSem.ClaimMapViews
import Derived.JoinedTies
import Derived.KernelRfl
namespace Go.Proofs.Ytepfpmnfecehbaa
/- THE CELL 'sum', in the pinned program and in every row, IS THE sha256 OF THE DUMP (.gsa) THAT YtepfpmnfecehbaaProg.lean LOADS. Nothing in Lean hashes anything: it is a label: what it is worth is what the hold of that sum in a sandbox is worth. -/
noncomputable def Try.pinned : Pinned := { name := "ytepfpmnfecehbaa", sum := "115e373a3c80f4d6bab8c98ee8d29e1ee9b7882539d3c318a8d3e270a25e49a7", checked := Try.checked }
namespace Rows
def none {H : Type} : Left H := { results := [], args := [] }

/-- 'colloquylaw03.GlobMatches': WHATEVER THE INPUT: true; the input reads as it did. -/
def globMatchesSpec : ChangeSpec := { name := "globMatches", fn := fun _ => fun
  | [d1, d2] => { results := [.lit (.bool true)], args := [d1, d2] }
  | _ => none }
def globMatchesRow : OpenClaim := { program := "ytepfpmnfecehbaa", sum := "115e373a3c80f4d6bab8c98ee8d29e1ee9b7882539d3c318a8d3e270a25e49a7", func := "colloquy/colloquylaw03.GlobMatches", spec := "globMatches", inPlace := ["internal/bytealg.IndexByteString", "internal/abi.NoEscape"], unfollowed := true, recurses := true, apart := false }
def GlobMatchesSaid : Prop := globMatchesRow.holds Try.pinned (OpenSpec.ofChange globMatchesSpec)

/-- ITS FALSE NEIGHBOUR: 'it returns false'. Refute it at one input. -/
def globMatchesWrong : ChangeSpec := { name := "globMatches", fn := fun _ => fun
  | [d1, d2] => { results := [.lit (.bool false)], args := [d1, d2] }
  | _ => none }
def GlobMatchesWrongFalsely : Prop := globMatchesRow.holds Try.pinned (OpenSpec.ofChange globMatchesWrong)

/-- 'colloquylaw05.NfaLongest': WHATEVER THE INPUT: true; the input reads as it did. -/
def nfaLongestSpec : ChangeSpec := { name := "nfaLongest", fn := fun _ => fun
  | [d1, d2, d3] => { results := [.lit (.bool true)], args := [d1, d2, d3] }
  | _ => none }
def nfaLongestRow : OpenClaim := { program := "ytepfpmnfecehbaa", sum := "115e373a3c80f4d6bab8c98ee8d29e1ee9b7882539d3c318a8d3e270a25e49a7", func := "colloquy/colloquylaw05.NfaLongest", spec := "nfaLongest", recurses := true, loops := true, apart := false }
def NfaLongestSaid : Prop := nfaLongestRow.holds Try.pinned (OpenSpec.ofChange nfaLongestSpec)

/-- ITS FALSE NEIGHBOUR: 'it returns false'. Refute it at one input. -/
def nfaLongestWrong : ChangeSpec := { name := "nfaLongest", fn := fun _ => fun
  | [d1, d2, d3] => { results := [.lit (.bool false)], args := [d1, d2, d3] }
  | _ => none }
def NfaLongestWrongFalsely : Prop := nfaLongestRow.holds Try.pinned (OpenSpec.ofChange nfaLongestWrong)

/-- 'colloquylaw05.NfaFinds': WHATEVER THE INPUT: true; the input reads as it did. -/
def nfaFindsSpec : ChangeSpec := { name := "nfaFinds", fn := fun _ => fun
  | [d1, d2] => { results := [.lit (.bool true)], args := [d1, d2] }
  | _ => none }
def nfaFindsRow : OpenClaim := { program := "ytepfpmnfecehbaa", sum := "115e373a3c80f4d6bab8c98ee8d29e1ee9b7882539d3c318a8d3e270a25e49a7", func := "colloquy/colloquylaw05.NfaFinds", spec := "nfaFinds", recurses := true, loops := true, apart := false }
def NfaFindsSaid : Prop := nfaFindsRow.holds Try.pinned (OpenSpec.ofChange nfaFindsSpec)

/-- ITS FALSE NEIGHBOUR: 'it returns false'. Refute it at one input. -/
def nfaFindsWrong : ChangeSpec := { name := "nfaFinds", fn := fun _ => fun
  | [d1, d2] => { results := [.lit (.bool false)], args := [d1, d2] }
  | _ => none }
def NfaFindsWrongFalsely : Prop := nfaFindsRow.holds Try.pinned (OpenSpec.ofChange nfaFindsWrong)

/-- 'colloquylaw05.NfaSteps': WHATEVER THE INPUT: true; the input reads as it did. -/
def nfaStepsSpec : ChangeSpec := { name := "nfaSteps", fn := fun _ => fun
  | [d1, d2, d3] => { results := [.lit (.bool true)], args := [d1, d2, d3] }
  | _ => none }
def nfaStepsRow : OpenClaim := { program := "ytepfpmnfecehbaa", sum := "115e373a3c80f4d6bab8c98ee8d29e1ee9b7882539d3c318a8d3e270a25e49a7", func := "colloquy/colloquylaw05.NfaSteps", spec := "nfaSteps", recurses := true, loops := true, apart := false }
def NfaStepsSaid : Prop := nfaStepsRow.holds Try.pinned (OpenSpec.ofChange nfaStepsSpec)

/-- ITS FALSE NEIGHBOUR: 'it returns false'. Refute it at one input. -/
def nfaStepsWrong : ChangeSpec := { name := "nfaSteps", fn := fun _ => fun
  | [d1, d2, d3] => { results := [.lit (.bool false)], args := [d1, d2, d3] }
  | _ => none }
def NfaStepsWrongFalsely : Prop := nfaStepsRow.holds Try.pinned (OpenSpec.ofChange nfaStepsWrong)

/-- 'colloquylaw05.NfaKinds': WHATEVER THE INPUT: true; the input reads as it did. -/
def nfaKindsSpec : ChangeSpec := { name := "nfaKinds", fn := fun _ => fun
  | [d1, d2, d3, d4] => { results := [.lit (.bool true)], args := [d1, d2, d3, d4] }
  | _ => none }
def nfaKindsRow : OpenClaim := { program := "ytepfpmnfecehbaa", sum := "115e373a3c80f4d6bab8c98ee8d29e1ee9b7882539d3c318a8d3e270a25e49a7", func := "colloquy/colloquylaw05.NfaKinds", spec := "nfaKinds", recurses := true, loops := true, apart := false }
def NfaKindsSaid : Prop := nfaKindsRow.holds Try.pinned (OpenSpec.ofChange nfaKindsSpec)

/-- ITS FALSE NEIGHBOUR: 'it returns false'. Refute it at one input. -/
def nfaKindsWrong : ChangeSpec := { name := "nfaKinds", fn := fun _ => fun
  | [d1, d2, d3, d4] => { results := [.lit (.bool false)], args := [d1, d2, d3, d4] }
  | _ => none }
def NfaKindsWrongFalsely : Prop := nfaKindsRow.holds Try.pinned (OpenSpec.ofChange nfaKindsWrong)

/-- 'colloquylaw05.NfaLoops': WHATEVER THE INPUT: true; the input reads as it did. -/
def nfaLoopsSpec : ChangeSpec := { name := "nfaLoops", fn := fun _ => fun
  | [d1, d2, d3] => { results := [.lit (.bool true)], args := [d1, d2, d3] }
  | _ => none }
def nfaLoopsRow : OpenClaim := { program := "ytepfpmnfecehbaa", sum := "115e373a3c80f4d6bab8c98ee8d29e1ee9b7882539d3c318a8d3e270a25e49a7", func := "colloquy/colloquylaw05.NfaLoops", spec := "nfaLoops", recurses := true, loops := true, apart := false }
def NfaLoopsSaid : Prop := nfaLoopsRow.holds Try.pinned (OpenSpec.ofChange nfaLoopsSpec)

/-- ITS FALSE NEIGHBOUR: 'it returns false'. Refute it at one input. -/
def nfaLoopsWrong : ChangeSpec := { name := "nfaLoops", fn := fun _ => fun
  | [d1, d2, d3] => { results := [.lit (.bool false)], args := [d1, d2, d3] }
  | _ => none }
def NfaLoopsWrongFalsely : Prop := nfaLoopsRow.holds Try.pinned (OpenSpec.ofChange nfaLoopsWrong)

/-- 'colloquylaw05.NfaCounts': WHATEVER THE INPUT: true; the input reads as it did. -/
def nfaCountsSpec : ChangeSpec := { name := "nfaCounts", fn := fun _ => fun
  | [d1, d2, d3] => { results := [.lit (.bool true)], args := [d1, d2, d3] }
  | _ => none }
def nfaCountsRow : OpenClaim := { program := "ytepfpmnfecehbaa", sum := "115e373a3c80f4d6bab8c98ee8d29e1ee9b7882539d3c318a8d3e270a25e49a7", func := "colloquy/colloquylaw05.NfaCounts", spec := "nfaCounts", recurses := true, apart := false }
def NfaCountsSaid : Prop := nfaCountsRow.holds Try.pinned (OpenSpec.ofChange nfaCountsSpec)

/-- ITS FALSE NEIGHBOUR: 'it returns false'. Refute it at one input. -/
def nfaCountsWrong : ChangeSpec := { name := "nfaCounts", fn := fun _ => fun
  | [d1, d2, d3] => { results := [.lit (.bool false)], args := [d1, d2, d3] }
  | _ => none }
def NfaCountsWrongFalsely : Prop := nfaCountsRow.holds Try.pinned (OpenSpec.ofChange nfaCountsWrong)

/-- 'colloquylaw15.PrintConds': WHATEVER THE INPUT: true; the input reads as it did. -/
def printCondsSpec : ChangeSpec := { name := "printConds", fn := fun _ => fun
  | [d] => { results := [.lit (.bool true)], args := [d] }
  | _ => none }
def printCondsRow : OpenClaim := { program := "ytepfpmnfecehbaa", sum := "115e373a3c80f4d6bab8c98ee8d29e1ee9b7882539d3c318a8d3e270a25e49a7", func := "colloquy/colloquylaw15.PrintConds", spec := "printConds", inPlace := ["internal/abi.NoEscape", "internal/bytealg.MakeNoZero"], recurses := true, loops := true, apart := false }
def PrintCondsSaid : Prop := printCondsRow.holds Try.pinned (OpenSpec.ofChange printCondsSpec)

/-- ITS FALSE NEIGHBOUR: 'it returns false'. Refute it at one input. -/
def printCondsWrong : ChangeSpec := { name := "printConds", fn := fun _ => fun
  | [d] => { results := [.lit (.bool false)], args := [d] }
  | _ => none }
def PrintCondsWrongFalsely : Prop := printCondsRow.holds Try.pinned (OpenSpec.ofChange printCondsWrong)

/-- 'colloquylaw16.SoundBounds': WHATEVER THE INPUT: true; the input reads as it did. -/
def soundBoundsSpec : ChangeSpec := { name := "soundBounds", fn := fun _ => fun
  | [d1, d2] => { results := [.lit (.bool true)], args := [d1, d2] }
  | _ => none }
def soundBoundsRow : OpenClaim := { program := "ytepfpmnfecehbaa", sum := "115e373a3c80f4d6bab8c98ee8d29e1ee9b7882539d3c318a8d3e270a25e49a7", func := "colloquy/colloquylaw16.SoundBounds", spec := "soundBounds", inPlace := ["math.Float64bits", "math.Float64frombits"], unfollowed := true, recurses := true, apart := false }
def SoundBoundsSaid : Prop := soundBoundsRow.holds Try.pinned (OpenSpec.ofChange soundBoundsSpec)

/-- ITS FALSE NEIGHBOUR: 'it returns false'. Refute it at one input. -/
def soundBoundsWrong : ChangeSpec := { name := "soundBounds", fn := fun _ => fun
  | [d1, d2] => { results := [.lit (.bool false)], args := [d1, d2] }
  | _ => none }
def SoundBoundsWrongFalsely : Prop := soundBoundsRow.holds Try.pinned (OpenSpec.ofChange soundBoundsWrong)

/-- 'colloquylaw16.SoundTwice': WHATEVER THE INPUT: true; the input reads as it did. -/
def soundTwiceSpec : ChangeSpec := { name := "soundTwice", fn := fun _ => fun
  | [d1, d2] => { results := [.lit (.bool true)], args := [d1, d2] }
  | _ => none }
def soundTwiceRow : OpenClaim := { program := "ytepfpmnfecehbaa", sum := "115e373a3c80f4d6bab8c98ee8d29e1ee9b7882539d3c318a8d3e270a25e49a7", func := "colloquy/colloquylaw16.SoundTwice", spec := "soundTwice", inPlace := ["math.Float64bits", "math.Float64frombits"], unfollowed := true, recurses := true, apart := false }
def SoundTwiceSaid : Prop := soundTwiceRow.holds Try.pinned (OpenSpec.ofChange soundTwiceSpec)

/-- ITS FALSE NEIGHBOUR: 'it returns false'. Refute it at one input. -/
def soundTwiceWrong : ChangeSpec := { name := "soundTwice", fn := fun _ => fun
  | [d1, d2] => { results := [.lit (.bool false)], args := [d1, d2] }
  | _ => none }
def SoundTwiceWrongFalsely : Prop := soundTwiceRow.holds Try.pinned (OpenSpec.ofChange soundTwiceWrong)

/- THE SECOND FORM. 'bulk': how many values and letters a reading holds, each counted each time it is reached (what is shared counts as often as it is met; a slice's spare places count too). A statement '..UptoSaid' is the law's where the arguments, and the package variables that the reading takes, are together of bulk at most 1048576: NARROWER than '..Said'. Prove '..Said' where nothing that the law and all that it calls make is longer than what came in: it says more and counts as full. Else prove '..UptoSaid'. A law counts once. -/
mutual
def uptoBulk {H : Type} : DataW H → Nat
  | .lit (.string bytes) => bytes.length + 1
  | .lit _ => 1
  | .nil => 1
  | .ptr d => uptoBulk d + 1
  | .slice elems spare => uptoBulkAll elems + uptoBulkAll spare + 1
  | .agg parts => uptoBulkAll parts + 1
  | .iface _ d => uptoBulk d + 1
  | .map entries => uptoBulkEntries entries + 1
  | .held _ => 1
def uptoBulkAll {H : Type} : List (DataW H) → Nat
  | [] => 0
  | d :: r => uptoBulk d + uptoBulkAll r
def uptoBulkEntries {H : Type} : List (Lit × DataW H) → Nat
  | [] => 0
  | x :: r => uptoBulkEntry x + uptoBulkEntries r
def uptoBulkEntry {H : Type} : Lit × DataW H → Nat
  | (.string bytes, d) => bytes.length + uptoBulk d + 1
  | (_, d) => uptoBulk d + 1
 end
def uptoSmall : (H : Type) → List (DataW H) → Bool := fun _ ds => decide (uptoBulkAll ds ≤ 1048576)
def OpenSpec.upto (s : _root_.Go.ChangeSpec) : _root_.Go.OpenSpec := { _root_.Go.OpenSpec.ofChange s with cond := some uptoSmall }

/-- 'colloquylaw03.GlobMatches', WHERE WHAT IT READS IS OF BULK AT MOST 1048576: true; the input reads as it did. -/
def globMatchesUptoRow : OpenClaim := { program := "ytepfpmnfecehbaa", sum := "115e373a3c80f4d6bab8c98ee8d29e1ee9b7882539d3c318a8d3e270a25e49a7", func := "colloquy/colloquylaw03.GlobMatches", spec := "globMatches", inPlace := ["internal/bytealg.IndexByteString", "internal/abi.NoEscape"], unfollowed := true, recurses := true, apart := false, narrowed := true }
def GlobMatchesUptoSaid : Prop := globMatchesUptoRow.holds Try.pinned (OpenSpec.upto globMatchesSpec)

/-- 'colloquylaw05.NfaLongest', WHERE WHAT IT READS IS OF BULK AT MOST 1048576: true; the input reads as it did. -/
def nfaLongestUptoRow : OpenClaim := { program := "ytepfpmnfecehbaa", sum := "115e373a3c80f4d6bab8c98ee8d29e1ee9b7882539d3c318a8d3e270a25e49a7", func := "colloquy/colloquylaw05.NfaLongest", spec := "nfaLongest", recurses := true, loops := true, apart := false, narrowed := true }
def NfaLongestUptoSaid : Prop := nfaLongestUptoRow.holds Try.pinned (OpenSpec.upto nfaLongestSpec)

/-- 'colloquylaw05.NfaFinds', WHERE WHAT IT READS IS OF BULK AT MOST 1048576: true; the input reads as it did. -/
def nfaFindsUptoRow : OpenClaim := { program := "ytepfpmnfecehbaa", sum := "115e373a3c80f4d6bab8c98ee8d29e1ee9b7882539d3c318a8d3e270a25e49a7", func := "colloquy/colloquylaw05.NfaFinds", spec := "nfaFinds", recurses := true, loops := true, apart := false, narrowed := true }
def NfaFindsUptoSaid : Prop := nfaFindsUptoRow.holds Try.pinned (OpenSpec.upto nfaFindsSpec)

/-- 'colloquylaw05.NfaSteps', WHERE WHAT IT READS IS OF BULK AT MOST 1048576: true; the input reads as it did. -/
def nfaStepsUptoRow : OpenClaim := { program := "ytepfpmnfecehbaa", sum := "115e373a3c80f4d6bab8c98ee8d29e1ee9b7882539d3c318a8d3e270a25e49a7", func := "colloquy/colloquylaw05.NfaSteps", spec := "nfaSteps", recurses := true, loops := true, apart := false, narrowed := true }
def NfaStepsUptoSaid : Prop := nfaStepsUptoRow.holds Try.pinned (OpenSpec.upto nfaStepsSpec)

/-- 'colloquylaw05.NfaKinds', WHERE WHAT IT READS IS OF BULK AT MOST 1048576: true; the input reads as it did. -/
def nfaKindsUptoRow : OpenClaim := { program := "ytepfpmnfecehbaa", sum := "115e373a3c80f4d6bab8c98ee8d29e1ee9b7882539d3c318a8d3e270a25e49a7", func := "colloquy/colloquylaw05.NfaKinds", spec := "nfaKinds", recurses := true, loops := true, apart := false, narrowed := true }
def NfaKindsUptoSaid : Prop := nfaKindsUptoRow.holds Try.pinned (OpenSpec.upto nfaKindsSpec)

/-- 'colloquylaw05.NfaLoops', WHERE WHAT IT READS IS OF BULK AT MOST 1048576: true; the input reads as it did. -/
def nfaLoopsUptoRow : OpenClaim := { program := "ytepfpmnfecehbaa", sum := "115e373a3c80f4d6bab8c98ee8d29e1ee9b7882539d3c318a8d3e270a25e49a7", func := "colloquy/colloquylaw05.NfaLoops", spec := "nfaLoops", recurses := true, loops := true, apart := false, narrowed := true }
def NfaLoopsUptoSaid : Prop := nfaLoopsUptoRow.holds Try.pinned (OpenSpec.upto nfaLoopsSpec)

/-- 'colloquylaw05.NfaCounts', WHERE WHAT IT READS IS OF BULK AT MOST 1048576: true; the input reads as it did. -/
def nfaCountsUptoRow : OpenClaim := { program := "ytepfpmnfecehbaa", sum := "115e373a3c80f4d6bab8c98ee8d29e1ee9b7882539d3c318a8d3e270a25e49a7", func := "colloquy/colloquylaw05.NfaCounts", spec := "nfaCounts", recurses := true, apart := false, narrowed := true }
def NfaCountsUptoSaid : Prop := nfaCountsUptoRow.holds Try.pinned (OpenSpec.upto nfaCountsSpec)

/-- 'colloquylaw15.PrintConds', WHERE WHAT IT READS IS OF BULK AT MOST 1048576: true; the input reads as it did. -/
def printCondsUptoRow : OpenClaim := { program := "ytepfpmnfecehbaa", sum := "115e373a3c80f4d6bab8c98ee8d29e1ee9b7882539d3c318a8d3e270a25e49a7", func := "colloquy/colloquylaw15.PrintConds", spec := "printConds", inPlace := ["internal/abi.NoEscape", "internal/bytealg.MakeNoZero"], recurses := true, loops := true, apart := false, narrowed := true }
def PrintCondsUptoSaid : Prop := printCondsUptoRow.holds Try.pinned (OpenSpec.upto printCondsSpec)

/-- 'colloquylaw16.SoundBounds', WHERE WHAT IT READS IS OF BULK AT MOST 1048576: true; the input reads as it did. -/
def soundBoundsUptoRow : OpenClaim := { program := "ytepfpmnfecehbaa", sum := "115e373a3c80f4d6bab8c98ee8d29e1ee9b7882539d3c318a8d3e270a25e49a7", func := "colloquy/colloquylaw16.SoundBounds", spec := "soundBounds", inPlace := ["math.Float64bits", "math.Float64frombits"], unfollowed := true, recurses := true, apart := false, narrowed := true }
def SoundBoundsUptoSaid : Prop := soundBoundsUptoRow.holds Try.pinned (OpenSpec.upto soundBoundsSpec)

/-- 'colloquylaw16.SoundTwice', WHERE WHAT IT READS IS OF BULK AT MOST 1048576: true; the input reads as it did. -/
def soundTwiceUptoRow : OpenClaim := { program := "ytepfpmnfecehbaa", sum := "115e373a3c80f4d6bab8c98ee8d29e1ee9b7882539d3c318a8d3e270a25e49a7", func := "colloquy/colloquylaw16.SoundTwice", spec := "soundTwice", inPlace := ["math.Float64bits", "math.Float64frombits"], unfollowed := true, recurses := true, apart := false, narrowed := true }
def SoundTwiceUptoSaid : Prop := soundTwiceUptoRow.holds Try.pinned (OpenSpec.upto soundTwiceSpec)

end Rows
end Go.Proofs.Ytepfpmnfecehbaa
