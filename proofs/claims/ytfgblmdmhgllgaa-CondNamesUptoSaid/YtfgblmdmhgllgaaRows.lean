/-
  NARROWER THAN 'FOR EVERY INPUT', by the rows' own cells (each row's printed sentence says how): CondHolds: loops · CondAny: loops · CondNames: loops · CondSimple: loops · CondParts: loops.
  DERIVED. THE GIVEN ROWS OF THIS SEAT. 9 by the template 'for every input the law returns true; each argument reads behind the call as it read before'; 0 by the template 'total and deterministic' (their statements: YtfgblmdmhgllgaaTotals.lean).
  GIVEN WITH THE SEED: the statements are not yours to turn. If you find one false, say at which input.
  Laid BY PROGRAM, IN A SANDBOX (cutbox-rows.mjs): the forced cells as the released guide's own fill.sh prints them over the translation 1f322ab9624d67d5… (all of the seat's roots in one cut). By AI agents, Wed Nov 11 2026. No macro, syntax, notation, axiom, sorry.
-/
import Derived.Test.YtfgblmdmhgllgaaChecked
import GoSem.Claim
import GoSem.ClaimJoined
import GoSem.ClaimMapViews
import Derived.JoinedTies
import Derived.KernelRfl
namespace Go.Proofs.Ytfgblmdmhgllgaa
/- THE CELL 'sum', in the pinned program and in every row, IS THE sha256 OF THE DUMP (.gsa) THAT YtfgblmdmhgllgaaProg.lean LOADS. Nothing in Lean hashes anything: it is a label: what it is worth is what the hold of that sum in a sandbox is worth. -/
noncomputable def Try.pinned : Pinned := { name := "ytfgblmdmhgllgaa", sum := "1f322ab9624d67d5d72df2134aa1e46dc09005138c73774ff98768017594f5f1", checked := Try.checked }
namespace Rows
def none {H : Type} : Left H := { results := [], args := [] }

/-- 'colloquylaw03.GlobMatches': WHATEVER THE INPUT: true; the input reads as it did. -/
def globMatchesSpec : ChangeSpec := { name := "globMatches", fn := fun _ => fun
  | [d1, d2] => { results := [.lit (.bool true)], args := [d1, d2] }
  | _ => none }
def globMatchesRow : OpenClaim := { program := "ytfgblmdmhgllgaa", sum := "1f322ab9624d67d5d72df2134aa1e46dc09005138c73774ff98768017594f5f1", func := "colloquy/colloquylaw03.GlobMatches", spec := "globMatches", inPlace := ["internal/bytealg.IndexByteString", "internal/abi.NoEscape"], unfollowed := true, recurses := true, apart := false }
def GlobMatchesSaid : Prop := globMatchesRow.holds Try.pinned (OpenSpec.ofChange globMatchesSpec)

/-- ITS FALSE NEIGHBOUR: 'it returns false'. Refute it at one input. -/
def globMatchesWrong : ChangeSpec := { name := "globMatches", fn := fun _ => fun
  | [d1, d2] => { results := [.lit (.bool false)], args := [d1, d2] }
  | _ => none }
def GlobMatchesWrongFalsely : Prop := globMatchesRow.holds Try.pinned (OpenSpec.ofChange globMatchesWrong)

/-- 'colloquylaw07.VfsPlays': WHATEVER THE INPUT: true; the input reads as it did. -/
def vfsPlaysSpec : ChangeSpec := { name := "vfsPlays", fn := fun _ => fun
  | [d1, d2, d3] => { results := [.lit (.bool true)], args := [d1, d2, d3] }
  | _ => none }
def vfsPlaysRow : OpenClaim := { program := "ytfgblmdmhgllgaa", sum := "1f322ab9624d67d5d72df2134aa1e46dc09005138c73774ff98768017594f5f1", func := "colloquy/colloquylaw07.VfsPlays", spec := "vfsPlays", unfollowed := true, recurses := true, apart := false }
def VfsPlaysSaid : Prop := vfsPlaysRow.holds Try.pinned (OpenSpec.ofChange vfsPlaysSpec)

/-- ITS FALSE NEIGHBOUR: 'it returns false'. Refute it at one input. -/
def vfsPlaysWrong : ChangeSpec := { name := "vfsPlays", fn := fun _ => fun
  | [d1, d2, d3] => { results := [.lit (.bool false)], args := [d1, d2, d3] }
  | _ => none }
def VfsPlaysWrongFalsely : Prop := vfsPlaysRow.holds Try.pinned (OpenSpec.ofChange vfsPlaysWrong)

/-- 'colloquylaw08.PackReads': WHATEVER THE INPUT: true; the input reads as it did. -/
def packReadsSpec : ChangeSpec := { name := "packReads", fn := fun _ => fun
  | [d1, d2] => { results := [.lit (.bool true)], args := [d1, d2] }
  | _ => none }
def packReadsRow : OpenClaim := { program := "ytfgblmdmhgllgaa", sum := "1f322ab9624d67d5d72df2134aa1e46dc09005138c73774ff98768017594f5f1", func := "colloquy/colloquylaw08.PackReads", spec := "packReads", unfollowed := true, recurses := true, apart := false }
def PackReadsSaid : Prop := packReadsRow.holds Try.pinned (OpenSpec.ofChange packReadsSpec)

/-- ITS FALSE NEIGHBOUR: 'it returns false'. Refute it at one input. -/
def packReadsWrong : ChangeSpec := { name := "packReads", fn := fun _ => fun
  | [d1, d2] => { results := [.lit (.bool false)], args := [d1, d2] }
  | _ => none }
def PackReadsWrongFalsely : Prop := packReadsRow.holds Try.pinned (OpenSpec.ofChange packReadsWrong)

/-- 'colloquylaw12.CondHolds': WHATEVER THE INPUT: true; the input reads as it did. -/
def condHoldsSpec : ChangeSpec := { name := "condHolds", fn := fun _ => fun
  | [d1, d2] => { results := [.lit (.bool true)], args := [d1, d2] }
  | _ => none }
def condHoldsRow : OpenClaim := { program := "ytfgblmdmhgllgaa", sum := "1f322ab9624d67d5d72df2134aa1e46dc09005138c73774ff98768017594f5f1", func := "colloquy/colloquylaw12.CondHolds", spec := "condHolds", unfollowed := true, recurses := true, loops := true, apart := false }
def CondHoldsSaid : Prop := condHoldsRow.holds Try.pinned (OpenSpec.ofChange condHoldsSpec)

/-- ITS FALSE NEIGHBOUR: 'it returns false'. Refute it at one input. -/
def condHoldsWrong : ChangeSpec := { name := "condHolds", fn := fun _ => fun
  | [d1, d2] => { results := [.lit (.bool false)], args := [d1, d2] }
  | _ => none }
def CondHoldsWrongFalsely : Prop := condHoldsRow.holds Try.pinned (OpenSpec.ofChange condHoldsWrong)

/-- 'colloquylaw12.CondAny': WHATEVER THE INPUT: true; the input reads as it did. -/
def condAnySpec : ChangeSpec := { name := "condAny", fn := fun _ => fun
  | [d1, d2] => { results := [.lit (.bool true)], args := [d1, d2] }
  | _ => none }
def condAnyRow : OpenClaim := { program := "ytfgblmdmhgllgaa", sum := "1f322ab9624d67d5d72df2134aa1e46dc09005138c73774ff98768017594f5f1", func := "colloquy/colloquylaw12.CondAny", spec := "condAny", unfollowed := true, recurses := true, loops := true, apart := false }
def CondAnySaid : Prop := condAnyRow.holds Try.pinned (OpenSpec.ofChange condAnySpec)

/-- ITS FALSE NEIGHBOUR: 'it returns false'. Refute it at one input. -/
def condAnyWrong : ChangeSpec := { name := "condAny", fn := fun _ => fun
  | [d1, d2] => { results := [.lit (.bool false)], args := [d1, d2] }
  | _ => none }
def CondAnyWrongFalsely : Prop := condAnyRow.holds Try.pinned (OpenSpec.ofChange condAnyWrong)

/-- 'colloquylaw12.CondNames': WHATEVER THE INPUT: true; the input reads as it did. -/
def condNamesSpec : ChangeSpec := { name := "condNames", fn := fun _ => fun
  | [d1, d2] => { results := [.lit (.bool true)], args := [d1, d2] }
  | _ => none }
def condNamesRow : OpenClaim := { program := "ytfgblmdmhgllgaa", sum := "1f322ab9624d67d5d72df2134aa1e46dc09005138c73774ff98768017594f5f1", func := "colloquy/colloquylaw12.CondNames", spec := "condNames", unfollowed := true, recurses := true, loops := true, apart := false }
def CondNamesSaid : Prop := condNamesRow.holds Try.pinned (OpenSpec.ofChange condNamesSpec)

/-- ITS FALSE NEIGHBOUR: 'it returns false'. Refute it at one input. -/
def condNamesWrong : ChangeSpec := { name := "condNames", fn := fun _ => fun
  | [d1, d2] => { results := [.lit (.bool false)], args := [d1, d2] }
  | _ => none }
def CondNamesWrongFalsely : Prop := condNamesRow.holds Try.pinned (OpenSpec.ofChange condNamesWrong)

/-- 'colloquylaw12.CondSimple': WHATEVER THE INPUT: true; the input reads as it did. -/
def condSimpleSpec : ChangeSpec := { name := "condSimple", fn := fun _ => fun
  | [d1, d2] => { results := [.lit (.bool true)], args := [d1, d2] }
  | _ => none }
def condSimpleRow : OpenClaim := { program := "ytfgblmdmhgllgaa", sum := "1f322ab9624d67d5d72df2134aa1e46dc09005138c73774ff98768017594f5f1", func := "colloquy/colloquylaw12.CondSimple", spec := "condSimple", unfollowed := true, recurses := true, loops := true, apart := false }
def CondSimpleSaid : Prop := condSimpleRow.holds Try.pinned (OpenSpec.ofChange condSimpleSpec)

/-- ITS FALSE NEIGHBOUR: 'it returns false'. Refute it at one input. -/
def condSimpleWrong : ChangeSpec := { name := "condSimple", fn := fun _ => fun
  | [d1, d2] => { results := [.lit (.bool false)], args := [d1, d2] }
  | _ => none }
def CondSimpleWrongFalsely : Prop := condSimpleRow.holds Try.pinned (OpenSpec.ofChange condSimpleWrong)

/-- 'colloquylaw12.CondParts': WHATEVER THE INPUT: true; the input reads as it did. -/
def condPartsSpec : ChangeSpec := { name := "condParts", fn := fun _ => fun
  | [d1, d2, d3] => { results := [.lit (.bool true)], args := [d1, d2, d3] }
  | _ => none }
def condPartsRow : OpenClaim := { program := "ytfgblmdmhgllgaa", sum := "1f322ab9624d67d5d72df2134aa1e46dc09005138c73774ff98768017594f5f1", func := "colloquy/colloquylaw12.CondParts", spec := "condParts", unfollowed := true, recurses := true, loops := true, apart := false }
def CondPartsSaid : Prop := condPartsRow.holds Try.pinned (OpenSpec.ofChange condPartsSpec)

/-- ITS FALSE NEIGHBOUR: 'it returns false'. Refute it at one input. -/
def condPartsWrong : ChangeSpec := { name := "condParts", fn := fun _ => fun
  | [d1, d2, d3] => { results := [.lit (.bool false)], args := [d1, d2, d3] }
  | _ => none }
def CondPartsWrongFalsely : Prop := condPartsRow.holds Try.pinned (OpenSpec.ofChange condPartsWrong)

/-- 'colloquylaw12.CondFirst': WHATEVER THE INPUT: true; the input reads as it did. -/
def condFirstSpec : ChangeSpec := { name := "condFirst", fn := fun _ => fun
  | [d1, d2, d3] => { results := [.lit (.bool true)], args := [d1, d2, d3] }
  | _ => none }
def condFirstRow : OpenClaim := { program := "ytfgblmdmhgllgaa", sum := "1f322ab9624d67d5d72df2134aa1e46dc09005138c73774ff98768017594f5f1", func := "colloquy/colloquylaw12.CondFirst", spec := "condFirst", unfollowed := true, recurses := true, apart := false }
def CondFirstSaid : Prop := condFirstRow.holds Try.pinned (OpenSpec.ofChange condFirstSpec)

/-- ITS FALSE NEIGHBOUR: 'it returns false'. Refute it at one input. -/
def condFirstWrong : ChangeSpec := { name := "condFirst", fn := fun _ => fun
  | [d1, d2, d3] => { results := [.lit (.bool false)], args := [d1, d2, d3] }
  | _ => none }
def CondFirstWrongFalsely : Prop := condFirstRow.holds Try.pinned (OpenSpec.ofChange condFirstWrong)

/- THE SECOND FORM. 'bulk': how many values and letters a reading holds, each counted each time it is reached (what is shared counts as often as it is met; a slice's spare places count too). A statement '..UptoSaid' is the law's where the arguments, and the package variables that the reading takes, are together of bulk at most 1048576: NARROWER than '..Said'. Prove '..Said' where nothing that the law and all that it calls make is longer than what came in: it says more and counts as full. Else prove '..UptoSaid'. A law counts once. -/
mutual
def uptoBulk {H : Type} : DataW H → Nat
  | .lit (.string bytes) => bytes.length + 1
  | .lit _ => 1
  | .nil => 1
  | .ptr d => uptoBulk d + 1
  | .slice elems spare => uptoBulkAll elems + uptoBulkAll spare + 1
  | .agg parts => uptoBulkAll parts + 1
  | .iface _ d => uptoBulk d + 1
  | .map entries => uptoBulkEntries entries + 1
  | .held _ => 1
def uptoBulkAll {H : Type} : List (DataW H) → Nat
  | [] => 0
  | d :: r => uptoBulk d + uptoBulkAll r
def uptoBulkEntries {H : Type} : List (Lit × DataW H) → Nat
  | [] => 0
  | x :: r => uptoBulkEntry x + uptoBulkEntries r
def uptoBulkEntry {H : Type} : Lit × DataW H → Nat
  | (.string bytes, d) => bytes.length + uptoBulk d + 1
  | (_, d) => uptoBulk d + 1
 end
def uptoSmall : (H : Type) → List (DataW H) → Bool := fun _ ds => decide (uptoBulkAll ds ≤ 1048576)
def OpenSpec.upto (s : _root_.Go.ChangeSpec) : _root_.Go.OpenSpec := { _root_.Go.OpenSpec.ofChange s with cond := some uptoSmall }

/-- 'colloquylaw03.GlobMatches', WHERE WHAT IT READS IS OF BULK AT MOST 1048576: true; the input reads as it did. -/
def globMatchesUptoRow : OpenClaim := { program := "ytfgblmdmhgllgaa", sum := "1f322ab9624d67d5d72df2134aa1e46dc09005138c73774ff98768017594f5f1", func := "colloquy/colloquylaw03.GlobMatches", spec := "globMatches", inPlace := ["internal/bytealg.IndexByteString", "internal/abi.NoEscape"], unfollowed := true, recurses := true, apart := false, narrowed := true }
def GlobMatchesUptoSaid : Prop := globMatchesUptoRow.holds Try.pinned (OpenSpec.upto globMatchesSpec)

/-- 'colloquylaw07.VfsPlays', WHERE WHAT IT READS IS OF BULK AT MOST 1048576: true; the input reads as it did. -/
def vfsPlaysUptoRow : OpenClaim := { program := "ytfgblmdmhgllgaa", sum := "1f322ab9624d67d5d72df2134aa1e46dc09005138c73774ff98768017594f5f1", func := "colloquy/colloquylaw07.VfsPlays", spec := "vfsPlays", unfollowed := true, recurses := true, apart := false, narrowed := true }
def VfsPlaysUptoSaid : Prop := vfsPlaysUptoRow.holds Try.pinned (OpenSpec.upto vfsPlaysSpec)

/-- 'colloquylaw08.PackReads', WHERE WHAT IT READS IS OF BULK AT MOST 1048576: true; the input reads as it did. -/
def packReadsUptoRow : OpenClaim := { program := "ytfgblmdmhgllgaa", sum := "1f322ab9624d67d5d72df2134aa1e46dc09005138c73774ff98768017594f5f1", func := "colloquy/colloquylaw08.PackReads", spec := "packReads", unfollowed := true, recurses := true, apart := false, narrowed := true }
def PackReadsUptoSaid : Prop := packReadsUptoRow.holds Try.pinned (OpenSpec.upto packReadsSpec)

/-- 'colloquylaw12.CondHolds', WHERE WHAT IT READS IS OF BULK AT MOST 1048576: true; the input reads as it did. -/
def condHoldsUptoRow : OpenClaim := { program := "ytfgblmdmhgllgaa", sum := "1f322ab9624d67d5d72df2134aa1e46dc09005138c73774ff98768017594f5f1", func := "colloquy/colloquylaw12.CondHolds", spec := "condHolds", unfollowed := true, recurses := true, loops := true, apart := false, narrowed := true }
def CondHoldsUptoSaid : Prop := condHoldsUptoRow.holds Try.pinned (OpenSpec.upto condHoldsSpec)

/-- 'colloquylaw12.CondAny', WHERE WHAT IT READS IS OF BULK AT MOST 1048576: true; the input reads as it did. -/
def condAnyUptoRow : OpenClaim := { program := "ytfgblmdmhgllgaa", sum := "1f322ab9624d67d5d72df2134aa1e46dc09005138c73774ff98768017594f5f1", func := "colloquy/colloquylaw12.CondAny", spec := "condAny", unfollowed := true, recurses := true, loops := true, apart := false, narrowed := true }
def CondAnyUptoSaid : Prop := condAnyUptoRow.holds Try.pinned (OpenSpec.upto condAnySpec)

/-- 'colloquylaw12.CondNames', WHERE WHAT IT READS IS OF BULK AT MOST 1048576: true; the input reads as it did. -/
def condNamesUptoRow : OpenClaim := { program := "ytfgblmdmhgllgaa", sum := "1f322ab9624d67d5d72df2134aa1e46dc09005138c73774ff98768017594f5f1", func := "colloquy/colloquylaw12.CondNames", spec := "condNames", unfollowed := true, recurses := true, loops := true, apart := false, narrowed := true }
def CondNamesUptoSaid : Prop := condNamesUptoRow.holds Try.pinned (OpenSpec.upto condNamesSpec)

/-- 'colloquylaw12.CondSimple', WHERE WHAT IT READS IS OF BULK AT MOST 1048576: true; the input reads as it did. -/
def condSimpleUptoRow : OpenClaim := { program := "ytfgblmdmhgllgaa", sum := "1f322ab9624d67d5d72df2134aa1e46dc09005138c73774ff98768017594f5f1", func := "colloquy/colloquylaw12.CondSimple", spec := "condSimple", unfollowed := true, recurses := true, loops := true, apart := false, narrowed := true }
def CondSimpleUptoSaid : Prop := condSimpleUptoRow.holds Try.pinned (OpenSpec.upto condSimpleSpec)

/-- 'colloquylaw12.CondParts', WHERE WHAT IT READS IS OF BULK AT MOST 1048576: true; the input reads as it did. -/
def condPartsUptoRow : OpenClaim := { program := "ytfgblmdmhgllgaa", sum := "1f322ab9624d67d5d72df2134aa1e46dc09005138c73774ff98768017594f5f1", func := "colloquy/colloquylaw12.CondParts", spec := "condParts", unfollowed := true, recurses := true, loops := true, apart := false, narrowed := true }
def CondPartsUptoSaid : Prop := condPartsUptoRow.holds Try.pinned (OpenSpec.upto condPartsSpec)

/-- 'colloquylaw12.CondFirst', WHERE WHAT IT READS IS OF BULK AT MOST 1048576: true; the input reads as it did. -/
def condFirstUptoRow : OpenClaim := { program := "ytfgblmdmhgllgaa", sum := "1f322ab9624d67d5d72df2134aa1e46dc09005138c73774ff98768017594f5f1", func := "colloquy/colloquylaw12.CondFirst", spec := "condFirst", unfollowed := true, recurses := true, apart := false, narrowed := true }
def CondFirstUptoSaid : Prop := condFirstUptoRow.holds Try.pinned (OpenSpec.upto condFirstSpec)

end Rows
end Go.Proofs.Ytfgblmdmhgllgaa
