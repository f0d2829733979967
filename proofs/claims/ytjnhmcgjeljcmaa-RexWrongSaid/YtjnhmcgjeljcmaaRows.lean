/-
  NARROWER THAN 'FOR EVERY INPUT', by the rows' own cells (each row's printed sentence says how): PrintConds: loops.
  DERIVED. THE GIVEN ROWS OF THIS SEAT. 11 by the template 'for every input the law returns true; each argument reads behind the call as it read before'; 0 by the template 'total and deterministic' (their statements: YtjnhmcgjeljcmaaTotals.lean).
  GIVEN WITH THE SEED: the statements are not yours to turn. If you find one false, say at which input.
  Laid BY PROGRAM, IN A SANDBOX (cutbox-rows.mjs): the forced cells as the released guide's own fill.sh prints them over the translation d0da1906f69b7e6b… (all of the seat's roots in one cut). By AI agents, Wed Nov 11 2026. No macro, syntax, notation, axiom, sorry.
-/
import Derived.Test.YtjnhmcgjeljcmaaChecked
import GoSem.Claim
import GoSem.ClaimJoined
import GoSem.ClaimMapViews
import Derived.JoinedTies
import Derived.KernelRfl
namespace Go.Proofs.Ytjnhmcgjeljcmaa
/- THE CELL 'sum', in the pinned program and in every row, IS THE sha256 OF THE DUMP (.gsa) THAT YtjnhmcgjeljcmaaProg.lean LOADS. Nothing in Lean hashes anything: it is a label: what it is worth is what the hold of that sum in a sandbox is worth. -/
noncomputable def Try.pinned : Pinned := { name := "ytjnhmcgjeljcmaa", sum := "d0da1906f69b7e6bdf3a47cff1b998851d8eced3b239db222498afab56bca943", checked := Try.checked }
namespace Rows
def none {H : Type} : Left H := { results := [], args := [] }

/-- 'colloquylaw04.RexBack': WHATEVER THE INPUT: true; the input reads as it did. -/
def rexBackSpec : ChangeSpec := { name := "rexBack", fn := fun _ => fun
  | [d] => { results := [.lit (.bool true)], args := [d] }
  | _ => none }
def rexBackRow : OpenClaim := { program := "ytjnhmcgjeljcmaa", sum := "d0da1906f69b7e6bdf3a47cff1b998851d8eced3b239db222498afab56bca943", func := "colloquy/colloquylaw04.RexBack", spec := "rexBack", inPlace := ["internal/bytealg.IndexByteString", "internal/abi.NoEscape"], unfollowed := true, recurses := true, apart := false }
def RexBackSaid : Prop := rexBackRow.holds Try.pinned (OpenSpec.ofChange rexBackSpec)

/-- ITS FALSE NEIGHBOUR: 'it returns false'. Refute it at one input. -/
def rexBackWrong : ChangeSpec := { name := "rexBack", fn := fun _ => fun
  | [d] => { results := [.lit (.bool false)], args := [d] }
  | _ => none }
def RexBackWrongFalsely : Prop := rexBackRow.holds Try.pinned (OpenSpec.ofChange rexBackWrong)

/-- 'colloquylaw04.RexJoins': WHATEVER THE INPUT: true; the input reads as it did. -/
def rexJoinsSpec : ChangeSpec := { name := "rexJoins", fn := fun _ => fun
  | [d1, d2] => { results := [.lit (.bool true)], args := [d1, d2] }
  | _ => none }
def rexJoinsRow : OpenClaim := { program := "ytjnhmcgjeljcmaa", sum := "d0da1906f69b7e6bdf3a47cff1b998851d8eced3b239db222498afab56bca943", func := "colloquy/colloquylaw04.RexJoins", spec := "rexJoins", unfollowed := true, recurses := true, apart := false }
def RexJoinsSaid : Prop := rexJoinsRow.holds Try.pinned (OpenSpec.ofChange rexJoinsSpec)

/-- ITS FALSE NEIGHBOUR: 'it returns false'. Refute it at one input. -/
def rexJoinsWrong : ChangeSpec := { name := "rexJoins", fn := fun _ => fun
  | [d1, d2] => { results := [.lit (.bool false)], args := [d1, d2] }
  | _ => none }
def RexJoinsWrongFalsely : Prop := rexJoinsRow.holds Try.pinned (OpenSpec.ofChange rexJoinsWrong)

/-- 'colloquylaw04.RexWrong': WHATEVER THE INPUT: true; the input reads as it did. -/
def rexWrongSpec : ChangeSpec := { name := "rexWrong", fn := fun _ => fun
  | [d1, d2] => { results := [.lit (.bool true)], args := [d1, d2] }
  | _ => none }
def rexWrongRow : OpenClaim := { program := "ytjnhmcgjeljcmaa", sum := "d0da1906f69b7e6bdf3a47cff1b998851d8eced3b239db222498afab56bca943", func := "colloquy/colloquylaw04.RexWrong", spec := "rexWrong", unfollowed := true, recurses := true, apart := false }
def RexWrongSaid : Prop := rexWrongRow.holds Try.pinned (OpenSpec.ofChange rexWrongSpec)

/-- ITS FALSE NEIGHBOUR: 'it returns false'. Refute it at one input. -/
def rexWrongWrong : ChangeSpec := { name := "rexWrong", fn := fun _ => fun
  | [d1, d2] => { results := [.lit (.bool false)], args := [d1, d2] }
  | _ => none }
def RexWrongWrongFalsely : Prop := rexWrongRow.holds Try.pinned (OpenSpec.ofChange rexWrongWrong)

/-- 'colloquylaw04.RexBytes': WHATEVER THE INPUT: true; the input reads as it did. -/
def rexBytesSpec : ChangeSpec := { name := "rexBytes", fn := fun _ => fun
  | [d1, d2] => { results := [.lit (.bool true)], args := [d1, d2] }
  | _ => none }
def rexBytesRow : OpenClaim := { program := "ytjnhmcgjeljcmaa", sum := "d0da1906f69b7e6bdf3a47cff1b998851d8eced3b239db222498afab56bca943", func := "colloquy/colloquylaw04.RexBytes", spec := "rexBytes", inPlace := ["internal/bytealg.IndexByteString", "internal/abi.NoEscape"], unfollowed := true, recurses := true, apart := false }
def RexBytesSaid : Prop := rexBytesRow.holds Try.pinned (OpenSpec.ofChange rexBytesSpec)

/-- ITS FALSE NEIGHBOUR: 'it returns false'. Refute it at one input. -/
def rexBytesWrong : ChangeSpec := { name := "rexBytes", fn := fun _ => fun
  | [d1, d2] => { results := [.lit (.bool false)], args := [d1, d2] }
  | _ => none }
def RexBytesWrongFalsely : Prop := rexBytesRow.holds Try.pinned (OpenSpec.ofChange rexBytesWrong)

/-- 'colloquylaw04.RexSigns': WHATEVER THE INPUT: true; the input reads as it did. -/
def rexSignsSpec : ChangeSpec := { name := "rexSigns", fn := fun _ => fun
  | [d] => { results := [.lit (.bool true)], args := [d] }
  | _ => none }
def rexSignsRow : OpenClaim := { program := "ytjnhmcgjeljcmaa", sum := "d0da1906f69b7e6bdf3a47cff1b998851d8eced3b239db222498afab56bca943", func := "colloquy/colloquylaw04.RexSigns", spec := "rexSigns", inPlace := ["internal/bytealg.IndexByteString", "internal/abi.NoEscape"], unfollowed := true, recurses := true, apart := false }
def RexSignsSaid : Prop := rexSignsRow.holds Try.pinned (OpenSpec.ofChange rexSignsSpec)

/-- ITS FALSE NEIGHBOUR: 'it returns false'. Refute it at one input. -/
def rexSignsWrong : ChangeSpec := { name := "rexSigns", fn := fun _ => fun
  | [d] => { results := [.lit (.bool false)], args := [d] }
  | _ => none }
def RexSignsWrongFalsely : Prop := rexSignsRow.holds Try.pinned (OpenSpec.ofChange rexSignsWrong)

/-- 'colloquylaw06.PatCompiles': WHATEVER THE INPUT: true; the input reads as it did. -/
def patCompilesSpec : ChangeSpec := { name := "patCompiles", fn := fun _ => fun
  | [d1, d2] => { results := [.lit (.bool true)], args := [d1, d2] }
  | _ => none }
def patCompilesRow : OpenClaim := { program := "ytjnhmcgjeljcmaa", sum := "d0da1906f69b7e6bdf3a47cff1b998851d8eced3b239db222498afab56bca943", func := "colloquy/colloquylaw06.PatCompiles", spec := "patCompiles", unfollowed := true, recurses := true, apart := false }
def PatCompilesSaid : Prop := patCompilesRow.holds Try.pinned (OpenSpec.ofChange patCompilesSpec)

/-- ITS FALSE NEIGHBOUR: 'it returns false'. Refute it at one input. -/
def patCompilesWrong : ChangeSpec := { name := "patCompiles", fn := fun _ => fun
  | [d1, d2] => { results := [.lit (.bool false)], args := [d1, d2] }
  | _ => none }
def PatCompilesWrongFalsely : Prop := patCompilesRow.holds Try.pinned (OpenSpec.ofChange patCompilesWrong)

/-- 'colloquylaw06.PatFinds': WHATEVER THE INPUT: true; the input reads as it did. -/
def patFindsSpec : ChangeSpec := { name := "patFinds", fn := fun _ => fun
  | [d1, d2, d3] => { results := [.lit (.bool true)], args := [d1, d2, d3] }
  | _ => none }
def patFindsRow : OpenClaim := { program := "ytjnhmcgjeljcmaa", sum := "d0da1906f69b7e6bdf3a47cff1b998851d8eced3b239db222498afab56bca943", func := "colloquy/colloquylaw06.PatFinds", spec := "patFinds", unfollowed := true, recurses := true, apart := false }
def PatFindsSaid : Prop := patFindsRow.holds Try.pinned (OpenSpec.ofChange patFindsSpec)

/-- ITS FALSE NEIGHBOUR: 'it returns false'. Refute it at one input. -/
def patFindsWrong : ChangeSpec := { name := "patFinds", fn := fun _ => fun
  | [d1, d2, d3] => { results := [.lit (.bool false)], args := [d1, d2, d3] }
  | _ => none }
def PatFindsWrongFalsely : Prop := patFindsRow.holds Try.pinned (OpenSpec.ofChange patFindsWrong)

/-- 'colloquylaw06.PatGrows': WHATEVER THE INPUT: true; the input reads as it did. -/
def patGrowsSpec : ChangeSpec := { name := "patGrows", fn := fun _ => fun
  | [d1, d2, d3, d4] => { results := [.lit (.bool true)], args := [d1, d2, d3, d4] }
  | _ => none }
def patGrowsRow : OpenClaim := { program := "ytjnhmcgjeljcmaa", sum := "d0da1906f69b7e6bdf3a47cff1b998851d8eced3b239db222498afab56bca943", func := "colloquy/colloquylaw06.PatGrows", spec := "patGrows", unfollowed := true, recurses := true, apart := false }
def PatGrowsSaid : Prop := patGrowsRow.holds Try.pinned (OpenSpec.ofChange patGrowsSpec)

/-- ITS FALSE NEIGHBOUR: 'it returns false'. Refute it at one input. -/
def patGrowsWrong : ChangeSpec := { name := "patGrows", fn := fun _ => fun
  | [d1, d2, d3, d4] => { results := [.lit (.bool false)], args := [d1, d2, d3, d4] }
  | _ => none }
def PatGrowsWrongFalsely : Prop := patGrowsRow.holds Try.pinned (OpenSpec.ofChange patGrowsWrong)

/-- 'colloquylaw15.PrintConds': WHATEVER THE INPUT: true; the input reads as it did. -/
def printCondsSpec : ChangeSpec := { name := "printConds", fn := fun _ => fun
  | [d] => { results := [.lit (.bool true)], args := [d] }
  | _ => none }
def printCondsRow : OpenClaim := { program := "ytjnhmcgjeljcmaa", sum := "d0da1906f69b7e6bdf3a47cff1b998851d8eced3b239db222498afab56bca943", func := "colloquy/colloquylaw15.PrintConds", spec := "printConds", inPlace := ["internal/abi.NoEscape", "internal/bytealg.MakeNoZero"], recurses := true, loops := true, apart := false }
def PrintCondsSaid : Prop := printCondsRow.holds Try.pinned (OpenSpec.ofChange printCondsSpec)

/-- ITS FALSE NEIGHBOUR: 'it returns false'. Refute it at one input. -/
def printCondsWrong : ChangeSpec := { name := "printConds", fn := fun _ => fun
  | [d] => { results := [.lit (.bool false)], args := [d] }
  | _ => none }
def PrintCondsWrongFalsely : Prop := printCondsRow.holds Try.pinned (OpenSpec.ofChange printCondsWrong)

/-- 'colloquylaw16.SoundBounds': WHATEVER THE INPUT: true; the input reads as it did. -/
def soundBoundsSpec : ChangeSpec := { name := "soundBounds", fn := fun _ => fun
  | [d1, d2] => { results := [.lit (.bool true)], args := [d1, d2] }
  | _ => none }
def soundBoundsRow : OpenClaim := { program := "ytjnhmcgjeljcmaa", sum := "d0da1906f69b7e6bdf3a47cff1b998851d8eced3b239db222498afab56bca943", func := "colloquy/colloquylaw16.SoundBounds", spec := "soundBounds", inPlace := ["math.Float64bits", "math.Float64frombits"], unfollowed := true, recurses := true, apart := false }
def SoundBoundsSaid : Prop := soundBoundsRow.holds Try.pinned (OpenSpec.ofChange soundBoundsSpec)

/-- ITS FALSE NEIGHBOUR: 'it returns false'. Refute it at one input. -/
def soundBoundsWrong : ChangeSpec := { name := "soundBounds", fn := fun _ => fun
  | [d1, d2] => { results := [.lit (.bool false)], args := [d1, d2] }
  | _ => none }
def SoundBoundsWrongFalsely : Prop := soundBoundsRow.holds Try.pinned (OpenSpec.ofChange soundBoundsWrong)

/-- 'colloquylaw16.SoundTwice': WHATEVER THE INPUT: true; the input reads as it did. -/
def soundTwiceSpec : ChangeSpec := { name := "soundTwice", fn := fun _ => fun
  | [d1, d2] => { results := [.lit (.bool true)], args := [d1, d2] }
  | _ => none }
def soundTwiceRow : OpenClaim := { program := "ytjnhmcgjeljcmaa", sum := "d0da1906f69b7e6bdf3a47cff1b998851d8eced3b239db222498afab56bca943", func := "colloquy/colloquylaw16.SoundTwice", spec := "soundTwice", inPlace := ["math.Float64bits", "math.Float64frombits"], unfollowed := true, recurses := true, apart := false }
def SoundTwiceSaid : Prop := soundTwiceRow.holds Try.pinned (OpenSpec.ofChange soundTwiceSpec)

/-- ITS FALSE NEIGHBOUR: 'it returns false'. Refute it at one input. -/
def soundTwiceWrong : ChangeSpec := { name := "soundTwice", fn := fun _ => fun
  | [d1, d2] => { results := [.lit (.bool false)], args := [d1, d2] }
  | _ => none }
def SoundTwiceWrongFalsely : Prop := soundTwiceRow.holds Try.pinned (OpenSpec.ofChange soundTwiceWrong)

/- THE SECOND FORM. 'bulk': how many values and letters a reading holds, each counted each time it is reached (what is shared counts as often as it is met; a slice's spare places count too). A statement '..UptoSaid' is the law's where the arguments, and the package variables that the reading takes, are together of bulk at most 1048576: NARROWER than '..Said'. Prove '..Said' where nothing that the law and all that it calls make is longer than what came in: it says more and counts as full. Else prove '..UptoSaid'. A law counts once. -/
mutual
def uptoBulk {H : Type} : DataW H → Nat
  | .lit (.string bytes) => bytes.length + 1
  | .lit _ => 1
  | .nil => 1
  | .ptr d => uptoBulk d + 1
  | .slice elems spare => uptoBulkAll elems + uptoBulkAll spare + 1
  | .agg parts => uptoBulkAll parts + 1
  | .iface _ d => uptoBulk d + 1
  | .map entries => uptoBulkEntries entries + 1
  | .held _ => 1
def uptoBulkAll {H : Type} : List (DataW H) → Nat
  | [] => 0
  | d :: r => uptoBulk d + uptoBulkAll r
def uptoBulkEntries {H : Type} : List (Lit × DataW H) → Nat
  | [] => 0
  | x :: r => uptoBulkEntry x + uptoBulkEntries r
def uptoBulkEntry {H : Type} : Lit × DataW H → Nat
  | (.string bytes, d) => bytes.length + uptoBulk d + 1
  | (_, d) => uptoBulk d + 1
 end
def uptoSmall : (H : Type) → List (DataW H) → Bool := fun _ ds => decide (uptoBulkAll ds ≤ 1048576)
def OpenSpec.upto (s : _root_.Go.ChangeSpec) : _root_.Go.OpenSpec := { _root_.Go.OpenSpec.ofChange s with cond := some uptoSmall }

/-- 'colloquylaw04.RexBack', WHERE WHAT IT READS IS OF BULK AT MOST 1048576: true; the input reads as it did. -/
def rexBackUptoRow : OpenClaim := { program := "ytjnhmcgjeljcmaa", sum := "d0da1906f69b7e6bdf3a47cff1b998851d8eced3b239db222498afab56bca943", func := "colloquy/colloquylaw04.RexBack", spec := "rexBack", inPlace := ["internal/bytealg.IndexByteString", "internal/abi.NoEscape"], unfollowed := true, recurses := true, apart := false, narrowed := true }
def RexBackUptoSaid : Prop := rexBackUptoRow.holds Try.pinned (OpenSpec.upto rexBackSpec)

/-- 'colloquylaw04.RexJoins', WHERE WHAT IT READS IS OF BULK AT MOST 1048576: true; the input reads as it did. -/
def rexJoinsUptoRow : OpenClaim := { program := "ytjnhmcgjeljcmaa", sum := "d0da1906f69b7e6bdf3a47cff1b998851d8eced3b239db222498afab56bca943", func := "colloquy/colloquylaw04.RexJoins", spec := "rexJoins", unfollowed := true, recurses := true, apart := false, narrowed := true }
def RexJoinsUptoSaid : Prop := rexJoinsUptoRow.holds Try.pinned (OpenSpec.upto rexJoinsSpec)

/-- 'colloquylaw04.RexWrong', WHERE WHAT IT READS IS OF BULK AT MOST 1048576: true; the input reads as it did. -/
def rexWrongUptoRow : OpenClaim := { program := "ytjnhmcgjeljcmaa", sum := "d0da1906f69b7e6bdf3a47cff1b998851d8eced3b239db222498afab56bca943", func := "colloquy/colloquylaw04.RexWrong", spec := "rexWrong", unfollowed := true, recurses := true, apart := false, narrowed := true }
def RexWrongUptoSaid : Prop := rexWrongUptoRow.holds Try.pinned (OpenSpec.upto rexWrongSpec)

/-- 'colloquylaw04.RexBytes', WHERE WHAT IT READS IS OF BULK AT MOST 1048576: true; the input reads as it did. -/
def rexBytesUptoRow : OpenClaim := { program := "ytjnhmcgjeljcmaa", sum := "d0da1906f69b7e6bdf3a47cff1b998851d8eced3b239db222498afab56bca943", func := "colloquy/colloquylaw04.RexBytes", spec := "rexBytes", inPlace := ["internal/bytealg.IndexByteString", "internal/abi.NoEscape"], unfollowed := true, recurses := true, apart := false, narrowed := true }
def RexBytesUptoSaid : Prop := rexBytesUptoRow.holds Try.pinned (OpenSpec.upto rexBytesSpec)

/-- 'colloquylaw04.RexSigns', WHERE WHAT IT READS IS OF BULK AT MOST 1048576: true; the input reads as it did. -/
def rexSignsUptoRow : OpenClaim := { program := "ytjnhmcgjeljcmaa", sum := "d0da1906f69b7e6bdf3a47cff1b998851d8eced3b239db222498afab56bca943", func := "colloquy/colloquylaw04.RexSigns", spec := "rexSigns", inPlace := ["internal/bytealg.IndexByteString", "internal/abi.NoEscape"], unfollowed := true, recurses := true, apart := false, narrowed := true }
def RexSignsUptoSaid : Prop := rexSignsUptoRow.holds Try.pinned (OpenSpec.upto rexSignsSpec)

/-- 'colloquylaw06.PatCompiles', WHERE WHAT IT READS IS OF BULK AT MOST 1048576: true; the input reads as it did. -/
def patCompilesUptoRow : OpenClaim := { program := "ytjnhmcgjeljcmaa", sum := "d0da1906f69b7e6bdf3a47cff1b998851d8eced3b239db222498afab56bca943", func := "colloquy/colloquylaw06.PatCompiles", spec := "patCompiles", unfollowed := true, recurses := true, apart := false, narrowed := true }
def PatCompilesUptoSaid : Prop := patCompilesUptoRow.holds Try.pinned (OpenSpec.upto patCompilesSpec)

/-- 'colloquylaw06.PatFinds', WHERE WHAT IT READS IS OF BULK AT MOST 1048576: true; the input reads as it did. -/
def patFindsUptoRow : OpenClaim := { program := "ytjnhmcgjeljcmaa", sum := "d0da1906f69b7e6bdf3a47cff1b998851d8eced3b239db222498afab56bca943", func := "colloquy/colloquylaw06.PatFinds", spec := "patFinds", unfollowed := true, recurses := true, apart := false, narrowed := true }
def PatFindsUptoSaid : Prop := patFindsUptoRow.holds Try.pinned (OpenSpec.upto patFindsSpec)

/-- 'colloquylaw06.PatGrows', WHERE WHAT IT READS IS OF BULK AT MOST 1048576: true; the input reads as it did. -/
def patGrowsUptoRow : OpenClaim := { program := "ytjnhmcgjeljcmaa", sum := "d0da1906f69b7e6bdf3a47cff1b998851d8eced3b239db222498afab56bca943", func := "colloquy/colloquylaw06.PatGrows", spec := "patGrows", unfollowed := true, recurses := true, apart := false, narrowed := true }
def PatGrowsUptoSaid : Prop := patGrowsUptoRow.holds Try.pinned (OpenSpec.upto patGrowsSpec)

/-- 'colloquylaw15.PrintConds', WHERE WHAT IT READS IS OF BULK AT MOST 1048576: true; the input reads as it did. -/
def printCondsUptoRow : OpenClaim := { program := "ytjnhmcgjeljcmaa", sum := "d0da1906f69b7e6bdf3a47cff1b998851d8eced3b239db222498afab56bca943", func := "colloquy/colloquylaw15.PrintConds", spec := "printConds", inPlace := ["internal/abi.NoEscape", "internal/bytealg.MakeNoZero"], recurses := true, loops := true, apart := false, narrowed := true }
def PrintCondsUptoSaid : Prop := printCondsUptoRow.holds Try.pinned (OpenSpec.upto printCondsSpec)

/-- 'colloquylaw16.SoundBounds', WHERE WHAT IT READS IS OF BULK AT MOST 1048576: true; the input reads as it did. -/
def soundBoundsUptoRow : OpenClaim := { program := "ytjnhmcgjeljcmaa", sum := "d0da1906f69b7e6bdf3a47cff1b998851d8eced3b239db222498afab56bca943", func := "colloquy/colloquylaw16.SoundBounds", spec := "soundBounds", inPlace := ["math.Float64bits", "math.Float64frombits"], unfollowed := true, recurses := true, apart := false, narrowed := true }
def SoundBoundsUptoSaid : Prop := soundBoundsUptoRow.holds Try.pinned (OpenSpec.upto soundBoundsSpec)

/-- 'colloquylaw16.SoundTwice', WHERE WHAT IT READS IS OF BULK AT MOST 1048576: true; the input reads as it did. -/
def soundTwiceUptoRow : OpenClaim := { program := "ytjnhmcgjeljcmaa", sum := "d0da1906f69b7e6bdf3a47cff1b998851d8eced3b239db222498afab56bca943", func := "colloquy/colloquylaw16.SoundTwice", spec := "soundTwice", inPlace := ["math.Float64bits", "math.Float64frombits"], unfollowed := true, recurses := true, apart := false, narrowed := true }
def SoundTwiceUptoSaid : Prop := soundTwiceUptoRow.holds Try.pinned (OpenSpec.upto soundTwiceSpec)

end Rows
end Go.Proofs.Ytjnhmcgjeljcmaa
