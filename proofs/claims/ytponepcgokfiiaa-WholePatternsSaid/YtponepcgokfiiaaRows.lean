/-
  No cell of these rows narrows 'for every input' (looked for: loops, veiled, ifaces, maps, wideKeys, modest, calm, conditions, laid).
  DERIVED. THE GIVEN ROWS OF THIS SEAT. 9 by the template 'for every input the law returns true; each argument reads behind the call as it read before'; 0 by the template 'total and deterministic' (their statements: YtponepcgokfiiaaTotals.lean).
  GIVEN WITH THE SEED: the statements are not yours to turn. If you find one false, say at which input.
  Laid BY PROGRAM, IN A SANDBOX (cutbox-rows.mjs): the forced cells as the released guide's own fill.sh prints them over the translation 576de961f3ab85bd… (all of the seat's roots in one cut). By AI agents, Wed Nov 11 2026. No macro, syntax, notation, axiom, sorry.
-/
import Derived.Test.YtponepcgokfiiaaChecked
import GoSem.Claim
import GoSem.ClaimJoined
import GoSem.ClaimMapViews
import Derived.JoinedTies
import Derived.KernelRfl
namespace Go.Proofs.Ytponepcgokfiiaa
/- THE CELL 'sum', in the pinned program and in every row, IS THE sha256 OF THE DUMP (.gsa) THAT YtponepcgokfiiaaProg.lean LOADS. Nothing in Lean hashes anything: it is a label: what it is worth is what the hold of that sum in a sandbox is worth. -/
noncomputable def Try.pinned : Pinned := { name := "ytponepcgokfiiaa", sum := "576de961f3ab85bd1fd63813875c85c369b13150ee6dad2420a60b9a48831765", checked := Try.checked }
namespace Rows
def none {H : Type} : Left H := { results := [], args := [] }

/-- 'colloquylaw06.PatCompiles': WHATEVER THE INPUT: true; the input reads as it did. -/
def patCompilesSpec : ChangeSpec := { name := "patCompiles", fn := fun _ => fun
  | [d1, d2] => { results := [.lit (.bool true)], args := [d1, d2] }
  | _ => none }
def patCompilesRow : OpenClaim := { program := "ytponepcgokfiiaa", sum := "576de961f3ab85bd1fd63813875c85c369b13150ee6dad2420a60b9a48831765", func := "colloquy/colloquylaw06.PatCompiles", spec := "patCompiles", unfollowed := true, recurses := true, apart := false }
def PatCompilesSaid : Prop := patCompilesRow.holds Try.pinned (OpenSpec.ofChange patCompilesSpec)

/-- ITS FALSE NEIGHBOUR: 'it returns false'. Refute it at one input. -/
def patCompilesWrong : ChangeSpec := { name := "patCompiles", fn := fun _ => fun
  | [d1, d2] => { results := [.lit (.bool false)], args := [d1, d2] }
  | _ => none }
def PatCompilesWrongFalsely : Prop := patCompilesRow.holds Try.pinned (OpenSpec.ofChange patCompilesWrong)

/-- 'colloquylaw06.PatFinds': WHATEVER THE INPUT: true; the input reads as it did. -/
def patFindsSpec : ChangeSpec := { name := "patFinds", fn := fun _ => fun
  | [d1, d2, d3] => { results := [.lit (.bool true)], args := [d1, d2, d3] }
  | _ => none }
def patFindsRow : OpenClaim := { program := "ytponepcgokfiiaa", sum := "576de961f3ab85bd1fd63813875c85c369b13150ee6dad2420a60b9a48831765", func := "colloquy/colloquylaw06.PatFinds", spec := "patFinds", unfollowed := true, recurses := true, apart := false }
def PatFindsSaid : Prop := patFindsRow.holds Try.pinned (OpenSpec.ofChange patFindsSpec)

/-- ITS FALSE NEIGHBOUR: 'it returns false'. Refute it at one input. -/
def patFindsWrong : ChangeSpec := { name := "patFinds", fn := fun _ => fun
  | [d1, d2, d3] => { results := [.lit (.bool false)], args := [d1, d2, d3] }
  | _ => none }
def PatFindsWrongFalsely : Prop := patFindsRow.holds Try.pinned (OpenSpec.ofChange patFindsWrong)

/-- 'colloquylaw06.PatGrows': WHATEVER THE INPUT: true; the input reads as it did. -/
def patGrowsSpec : ChangeSpec := { name := "patGrows", fn := fun _ => fun
  | [d1, d2, d3, d4] => { results := [.lit (.bool true)], args := [d1, d2, d3, d4] }
  | _ => none }
def patGrowsRow : OpenClaim := { program := "ytponepcgokfiiaa", sum := "576de961f3ab85bd1fd63813875c85c369b13150ee6dad2420a60b9a48831765", func := "colloquy/colloquylaw06.PatGrows", spec := "patGrows", unfollowed := true, recurses := true, apart := false }
def PatGrowsSaid : Prop := patGrowsRow.holds Try.pinned (OpenSpec.ofChange patGrowsSpec)

/-- ITS FALSE NEIGHBOUR: 'it returns false'. Refute it at one input. -/
def patGrowsWrong : ChangeSpec := { name := "patGrows", fn := fun _ => fun
  | [d1, d2, d3, d4] => { results := [.lit (.bool false)], args := [d1, d2, d3, d4] }
  | _ => none }
def PatGrowsWrongFalsely : Prop := patGrowsRow.holds Try.pinned (OpenSpec.ofChange patGrowsWrong)

/-- 'colloquylaw06.PatExact': WHATEVER THE INPUT: true; the input reads as it did. -/
def patExactSpec : ChangeSpec := { name := "patExact", fn := fun _ => fun
  | [d1, d2] => { results := [.lit (.bool true)], args := [d1, d2] }
  | _ => none }
def patExactRow : OpenClaim := { program := "ytponepcgokfiiaa", sum := "576de961f3ab85bd1fd63813875c85c369b13150ee6dad2420a60b9a48831765", func := "colloquy/colloquylaw06.PatExact", spec := "patExact", unfollowed := true, recurses := true, apart := false }
def PatExactSaid : Prop := patExactRow.holds Try.pinned (OpenSpec.ofChange patExactSpec)

/-- ITS FALSE NEIGHBOUR: 'it returns false'. Refute it at one input. -/
def patExactWrong : ChangeSpec := { name := "patExact", fn := fun _ => fun
  | [d1, d2] => { results := [.lit (.bool false)], args := [d1, d2] }
  | _ => none }
def PatExactWrongFalsely : Prop := patExactRow.holds Try.pinned (OpenSpec.ofChange patExactWrong)

/-- 'colloquylaw06.PatKinds': WHATEVER THE INPUT: true; the input reads as it did. -/
def patKindsSpec : ChangeSpec := { name := "patKinds", fn := fun _ => fun
  | [d1, d2] => { results := [.lit (.bool true)], args := [d1, d2] }
  | _ => none }
def patKindsRow : OpenClaim := { program := "ytponepcgokfiiaa", sum := "576de961f3ab85bd1fd63813875c85c369b13150ee6dad2420a60b9a48831765", func := "colloquy/colloquylaw06.PatKinds", spec := "patKinds", unfollowed := true, recurses := true, apart := false }
def PatKindsSaid : Prop := patKindsRow.holds Try.pinned (OpenSpec.ofChange patKindsSpec)

/-- ITS FALSE NEIGHBOUR: 'it returns false'. Refute it at one input. -/
def patKindsWrong : ChangeSpec := { name := "patKinds", fn := fun _ => fun
  | [d1, d2] => { results := [.lit (.bool false)], args := [d1, d2] }
  | _ => none }
def PatKindsWrongFalsely : Prop := patKindsRow.holds Try.pinned (OpenSpec.ofChange patKindsWrong)

/-- 'colloquylaw17.TalkFirst': WHATEVER THE INPUT: true; the input reads as it did. -/
def talkFirstSpec : ChangeSpec := { name := "talkFirst", fn := fun _ => fun
  | [d1, d2, d3] => { results := [.lit (.bool true)], args := [d1, d2, d3] }
  | _ => none }
def talkFirstRow : OpenClaim := { program := "ytponepcgokfiiaa", sum := "576de961f3ab85bd1fd63813875c85c369b13150ee6dad2420a60b9a48831765", func := "colloquy/colloquylaw17.TalkFirst", spec := "talkFirst", unfollowed := true, recurses := true, apart := false }
def TalkFirstSaid : Prop := talkFirstRow.holds Try.pinned (OpenSpec.ofChange talkFirstSpec)

/-- ITS FALSE NEIGHBOUR: 'it returns false'. Refute it at one input. -/
def talkFirstWrong : ChangeSpec := { name := "talkFirst", fn := fun _ => fun
  | [d1, d2, d3] => { results := [.lit (.bool false)], args := [d1, d2, d3] }
  | _ => none }
def TalkFirstWrongFalsely : Prop := talkFirstRow.holds Try.pinned (OpenSpec.ofChange talkFirstWrong)

/-- 'colloquylaw17.TalkTimes': WHATEVER THE INPUT: true; the input reads as it did. -/
def talkTimesSpec : ChangeSpec := { name := "talkTimes", fn := fun _ => fun
  | [d1, d2] => { results := [.lit (.bool true)], args := [d1, d2] }
  | _ => none }
def talkTimesRow : OpenClaim := { program := "ytponepcgokfiiaa", sum := "576de961f3ab85bd1fd63813875c85c369b13150ee6dad2420a60b9a48831765", func := "colloquy/colloquylaw17.TalkTimes", spec := "talkTimes", unfollowed := true, recurses := true, apart := false }
def TalkTimesSaid : Prop := talkTimesRow.holds Try.pinned (OpenSpec.ofChange talkTimesSpec)

/-- ITS FALSE NEIGHBOUR: 'it returns false'. Refute it at one input. -/
def talkTimesWrong : ChangeSpec := { name := "talkTimes", fn := fun _ => fun
  | [d1, d2] => { results := [.lit (.bool false)], args := [d1, d2] }
  | _ => none }
def TalkTimesWrongFalsely : Prop := talkTimesRow.holds Try.pinned (OpenSpec.ofChange talkTimesWrong)

/-- 'colloquylaw17.TalkEnds': WHATEVER THE INPUT: true; the input reads as it did. -/
def talkEndsSpec : ChangeSpec := { name := "talkEnds", fn := fun _ => fun
  | [d1, d2, d3, d4] => { results := [.lit (.bool true)], args := [d1, d2, d3, d4] }
  | _ => none }
def talkEndsRow : OpenClaim := { program := "ytponepcgokfiiaa", sum := "576de961f3ab85bd1fd63813875c85c369b13150ee6dad2420a60b9a48831765", func := "colloquy/colloquylaw17.TalkEnds", spec := "talkEnds", unfollowed := true, recurses := true, apart := false }
def TalkEndsSaid : Prop := talkEndsRow.holds Try.pinned (OpenSpec.ofChange talkEndsSpec)

/-- ITS FALSE NEIGHBOUR: 'it returns false'. Refute it at one input. -/
def talkEndsWrong : ChangeSpec := { name := "talkEnds", fn := fun _ => fun
  | [d1, d2, d3, d4] => { results := [.lit (.bool false)], args := [d1, d2, d3, d4] }
  | _ => none }
def TalkEndsWrongFalsely : Prop := talkEndsRow.holds Try.pinned (OpenSpec.ofChange talkEndsWrong)

/-- 'colloquytop.WholePatterns': WHATEVER THE INPUT: true; the input reads as it did. -/
def wholePatternsSpec : ChangeSpec := { name := "wholePatterns", fn := fun _ => fun
  | [d1, d2] => { results := [.lit (.bool true)], args := [d1, d2] }
  | _ => none }
def wholePatternsRow : OpenClaim := { program := "ytponepcgokfiiaa", sum := "576de961f3ab85bd1fd63813875c85c369b13150ee6dad2420a60b9a48831765", func := "colloquy/colloquytop.WholePatterns", spec := "wholePatterns", inPlace := ["internal/bytealg.IndexByteString", "internal/abi.NoEscape"], unfollowed := true, recurses := true, apart := false }
def WholePatternsSaid : Prop := wholePatternsRow.holds Try.pinned (OpenSpec.ofChange wholePatternsSpec)

/-- ITS FALSE NEIGHBOUR: 'it returns false'. Refute it at one input. -/
def wholePatternsWrong : ChangeSpec := { name := "wholePatterns", fn := fun _ => fun
  | [d1, d2] => { results := [.lit (.bool false)], args := [d1, d2] }
  | _ => none }
def WholePatternsWrongFalsely : Prop := wholePatternsRow.holds Try.pinned (OpenSpec.ofChange wholePatternsWrong)

/- THE SECOND FORM. 'bulk': how many values and letters a reading holds, each counted each time it is reached (what is shared counts as often as it is met; a slice's spare places count too). A statement '..UptoSaid' is the law's where the arguments, and the package variables that the reading takes, are together of bulk at most 1048576: NARROWER than '..Said'. Prove '..Said' where nothing that the law and all that it calls make is longer than what came in: it says more and counts as full. Else prove '..UptoSaid'. A law counts once. -/
mutual
def uptoBulk {H : Type} : DataW H → Nat
  | .lit (.string bytes) => bytes.length + 1
  | .lit _ => 1
  | .nil => 1
  | .ptr d => uptoBulk d + 1
  | .slice elems spare => uptoBulkAll elems + uptoBulkAll spare + 1
  | .agg parts => uptoBulkAll parts + 1
  | .iface _ d => uptoBulk d + 1
  | .map entries => uptoBulkEntries entries + 1
  | .held _ => 1
def uptoBulkAll {H : Type} : List (DataW H) → Nat
  | [] => 0
  | d :: r => uptoBulk d + uptoBulkAll r
def uptoBulkEntries {H : Type} : List (Lit × DataW H) → Nat
  | [] => 0
  | x :: r => uptoBulkEntry x + uptoBulkEntries r
def uptoBulkEntry {H : Type} : Lit × DataW H → Nat
  | (.string bytes, d) => bytes.length + uptoBulk d + 1
  | (_, d) => uptoBulk d + 1
 end
def uptoSmall : (H : Type) → List (DataW H) → Bool := fun _ ds => decide (uptoBulkAll ds ≤ 1048576)
def OpenSpec.upto (s : _root_.Go.ChangeSpec) : _root_.Go.OpenSpec := { _root_.Go.OpenSpec.ofChange s with cond := some uptoSmall }

/-- 'colloquylaw06.PatCompiles', WHERE WHAT IT READS IS OF BULK AT MOST 1048576: true; the input reads as it did. -/
def patCompilesUptoRow : OpenClaim := { program := "ytponepcgokfiiaa", sum := "576de961f3ab85bd1fd63813875c85c369b13150ee6dad2420a60b9a48831765", func := "colloquy/colloquylaw06.PatCompiles", spec := "patCompiles", unfollowed := true, recurses := true, apart := false, narrowed := true }
def PatCompilesUptoSaid : Prop := patCompilesUptoRow.holds Try.pinned (OpenSpec.upto patCompilesSpec)

/-- 'colloquylaw06.PatFinds', WHERE WHAT IT READS IS OF BULK AT MOST 1048576: true; the input reads as it did. -/
def patFindsUptoRow : OpenClaim := { program := "ytponepcgokfiiaa", sum := "576de961f3ab85bd1fd63813875c85c369b13150ee6dad2420a60b9a48831765", func := "colloquy/colloquylaw06.PatFinds", spec := "patFinds", unfollowed := true, recurses := true, apart := false, narrowed := true }
def PatFindsUptoSaid : Prop := patFindsUptoRow.holds Try.pinned (OpenSpec.upto patFindsSpec)

/-- 'colloquylaw06.PatGrows', WHERE WHAT IT READS IS OF BULK AT MOST 1048576: true; the input reads as it did. -/
def patGrowsUptoRow : OpenClaim := { program := "ytponepcgokfiiaa", sum := "576de961f3ab85bd1fd63813875c85c369b13150ee6dad2420a60b9a48831765", func := "colloquy/colloquylaw06.PatGrows", spec := "patGrows", unfollowed := true, recurses := true, apart := false, narrowed := true }
def PatGrowsUptoSaid : Prop := patGrowsUptoRow.holds Try.pinned (OpenSpec.upto patGrowsSpec)

/-- 'colloquylaw06.PatExact', WHERE WHAT IT READS IS OF BULK AT MOST 1048576: true; the input reads as it did. -/
def patExactUptoRow : OpenClaim := { program := "ytponepcgokfiiaa", sum := "576de961f3ab85bd1fd63813875c85c369b13150ee6dad2420a60b9a48831765", func := "colloquy/colloquylaw06.PatExact", spec := "patExact", unfollowed := true, recurses := true, apart := false, narrowed := true }
def PatExactUptoSaid : Prop := patExactUptoRow.holds Try.pinned (OpenSpec.upto patExactSpec)

/-- 'colloquylaw06.PatKinds', WHERE WHAT IT READS IS OF BULK AT MOST 1048576: true; the input reads as it did. -/
def patKindsUptoRow : OpenClaim := { program := "ytponepcgokfiiaa", sum := "576de961f3ab85bd1fd63813875c85c369b13150ee6dad2420a60b9a48831765", func := "colloquy/colloquylaw06.PatKinds", spec := "patKinds", unfollowed := true, recurses := true, apart := false, narrowed := true }
def PatKindsUptoSaid : Prop := patKindsUptoRow.holds Try.pinned (OpenSpec.upto patKindsSpec)

/-- 'colloquylaw17.TalkFirst', WHERE WHAT IT READS IS OF BULK AT MOST 1048576: true; the input reads as it did. -/
def talkFirstUptoRow : OpenClaim := { program := "ytponepcgokfiiaa", sum := "576de961f3ab85bd1fd63813875c85c369b13150ee6dad2420a60b9a48831765", func := "colloquy/colloquylaw17.TalkFirst", spec := "talkFirst", unfollowed := true, recurses := true, apart := false, narrowed := true }
def TalkFirstUptoSaid : Prop := talkFirstUptoRow.holds Try.pinned (OpenSpec.upto talkFirstSpec)

/-- 'colloquylaw17.TalkTimes', WHERE WHAT IT READS IS OF BULK AT MOST 1048576: true; the input reads as it did. -/
def talkTimesUptoRow : OpenClaim := { program := "ytponepcgokfiiaa", sum := "576de961f3ab85bd1fd63813875c85c369b13150ee6dad2420a60b9a48831765", func := "colloquy/colloquylaw17.TalkTimes", spec := "talkTimes", unfollowed := true, recurses := true, apart := false, narrowed := true }
def TalkTimesUptoSaid : Prop := talkTimesUptoRow.holds Try.pinned (OpenSpec.upto talkTimesSpec)

/-- 'colloquylaw17.TalkEnds', WHERE WHAT IT READS IS OF BULK AT MOST 1048576: true; the input reads as it did. -/
def talkEndsUptoRow : OpenClaim := { program := "ytponepcgokfiiaa", sum := "576de961f3ab85bd1fd63813875c85c369b13150ee6dad2420a60b9a48831765", func := "colloquy/colloquylaw17.TalkEnds", spec := "talkEnds", unfollowed := true, recurses := true, apart := false, narrowed := true }
def TalkEndsUptoSaid : Prop := talkEndsUptoRow.holds Try.pinned (OpenSpec.upto talkEndsSpec)

/-- 'colloquytop.WholePatterns', WHERE WHAT IT READS IS OF BULK AT MOST 1048576: true; the input reads as it did. -/
def wholePatternsUptoRow : OpenClaim := { program := "ytponepcgokfiiaa", sum := "576de961f3ab85bd1fd63813875c85c369b13150ee6dad2420a60b9a48831765", func := "colloquy/colloquytop.WholePatterns", spec := "wholePatterns", inPlace := ["internal/bytealg.IndexByteString", "internal/abi.NoEscape"], unfollowed := true, recurses := true, apart := false, narrowed := true }
def WholePatternsUptoSaid : Prop := wholePatternsUptoRow.holds Try.pinned (OpenSpec.upto wholePatternsSpec)

end Rows
end Go.Proofs.Ytponepcgokfiiaa
