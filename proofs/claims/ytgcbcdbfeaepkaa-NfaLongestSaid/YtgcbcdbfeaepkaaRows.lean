/-
  NARROWER THAN 'FOR EVERY INPUT', by the rows' own cells (each row's printed sentence says how): NfaLongest: loops · NfaFinds: loops · PrintConds: loops.
  DERIVED. THE GIVEN ROWS OF THIS SEAT. 11 by the template 'for every input the law returns true; each argument reads behind the call as it read before'; 0 by the template 'total and deterministic' (their statements: YtgcbcdbfeaepkaaTotals.lean).
  GIVEN WITH THE SEED: the statements are not yours to turn. If you find one false, say at which input.
  Laid BY PROGRAM, IN A SANDBOX (cutbox-rows.mjs): the forced cells as the released guide's own fill.sh prints them over the translation d7341d9ab63b52bd… (all of the seat's roots in one cut). By AI agents, Wed Nov 11 2026. No macro, syntax, notation, axiom, sorry.
-/
import Derived.Test.YtgcbcdbfeaepkaaChecked
import GoSem.Claim
import GoSem.ClaimJoined
import GoSem.ClaimMapViews
import Derived.JoinedTies
import Derived.KernelRfl
namespace Go.Proofs.Ytgcbcdbfeaepkaa
/- THE CELL 'sum', in the pinned program and in every row, IS THE sha256 OF THE DUMP (.gsa) THAT YtgcbcdbfeaepkaaProg.lean LOADS. Nothing in Lean hashes anything: it is a label: what it is worth is what the hold of that sum in a sandbox is worth. -/
noncomputable def Try.pinned : Pinned := { name := "ytgcbcdbfeaepkaa", sum := "d7341d9ab63b52bdb7b557f5518dac5c5a61fd8d04401c2f991e0eec772a855f", checked := Try.checked }
namespace Rows
def none {H : Type} : Left H := { results := [], args := [] }

/-- 'colloquylaw05.NfaLongest': WHATEVER THE INPUT: true; the input reads as it did. -/
def nfaLongestSpec : ChangeSpec := { name := "nfaLongest", fn := fun _ => fun
  | [d1, d2, d3] => { results := [.lit (.bool true)], args := [d1, d2, d3] }
  | _ => none }
def nfaLongestRow : OpenClaim := { program := "ytgcbcdbfeaepkaa", sum := "d7341d9ab63b52bdb7b557f5518dac5c5a61fd8d04401c2f991e0eec772a855f", func := "colloquy/colloquylaw05.NfaLongest", spec := "nfaLongest", recurses := true, loops := true, apart := false }
def NfaLongestSaid : Prop := nfaLongestRow.holds Try.pinned (OpenSpec.ofChange nfaLongestSpec)

/-- ITS FALSE NEIGHBOUR: 'it returns false'. Refute it at one input. -/
def nfaLongestWrong : ChangeSpec := { name := "nfaLongest", fn := fun _ => fun
  | [d1, d2, d3] => { results := [.lit (.bool false)], args := [d1, d2, d3] }
  | _ => none }
def NfaLongestWrongFalsely : Prop := nfaLongestRow.holds Try.pinned (OpenSpec.ofChange nfaLongestWrong)

/-- 'colloquylaw05.NfaFinds': WHATEVER THE INPUT: true; the input reads as it did. -/
def nfaFindsSpec : ChangeSpec := { name := "nfaFinds", fn := fun _ => fun
  | [d1, d2] => { results := [.lit (.bool true)], args := [d1, d2] }
  | _ => none }
def nfaFindsRow : OpenClaim := { program := "ytgcbcdbfeaepkaa", sum := "d7341d9ab63b52bdb7b557f5518dac5c5a61fd8d04401c2f991e0eec772a855f", func := "colloquy/colloquylaw05.NfaFinds", spec := "nfaFinds", recurses := true, loops := true, apart := false }
def NfaFindsSaid : Prop := nfaFindsRow.holds Try.pinned (OpenSpec.ofChange nfaFindsSpec)

/-- ITS FALSE NEIGHBOUR: 'it returns false'. Refute it at one input. -/
def nfaFindsWrong : ChangeSpec := { name := "nfaFinds", fn := fun _ => fun
  | [d1, d2] => { results := [.lit (.bool false)], args := [d1, d2] }
  | _ => none }
def NfaFindsWrongFalsely : Prop := nfaFindsRow.holds Try.pinned (OpenSpec.ofChange nfaFindsWrong)

/-- 'colloquylaw06.PatCompiles': WHATEVER THE INPUT: true; the input reads as it did. -/
def patCompilesSpec : ChangeSpec := { name := "patCompiles", fn := fun _ => fun
  | [d1, d2] => { results := [.lit (.bool true)], args := [d1, d2] }
  | _ => none }
def patCompilesRow : OpenClaim := { program := "ytgcbcdbfeaepkaa", sum := "d7341d9ab63b52bdb7b557f5518dac5c5a61fd8d04401c2f991e0eec772a855f", func := "colloquy/colloquylaw06.PatCompiles", spec := "patCompiles", unfollowed := true, recurses := true, apart := false }
def PatCompilesSaid : Prop := patCompilesRow.holds Try.pinned (OpenSpec.ofChange patCompilesSpec)

/-- ITS FALSE NEIGHBOUR: 'it returns false'. Refute it at one input. -/
def patCompilesWrong : ChangeSpec := { name := "patCompiles", fn := fun _ => fun
  | [d1, d2] => { results := [.lit (.bool false)], args := [d1, d2] }
  | _ => none }
def PatCompilesWrongFalsely : Prop := patCompilesRow.holds Try.pinned (OpenSpec.ofChange patCompilesWrong)

/-- 'colloquylaw06.PatFinds': WHATEVER THE INPUT: true; the input reads as it did. -/
def patFindsSpec : ChangeSpec := { name := "patFinds", fn := fun _ => fun
  | [d1, d2, d3] => { results := [.lit (.bool true)], args := [d1, d2, d3] }
  | _ => none }
def patFindsRow : OpenClaim := { program := "ytgcbcdbfeaepkaa", sum := "d7341d9ab63b52bdb7b557f5518dac5c5a61fd8d04401c2f991e0eec772a855f", func := "colloquy/colloquylaw06.PatFinds", spec := "patFinds", unfollowed := true, recurses := true, apart := false }
def PatFindsSaid : Prop := patFindsRow.holds Try.pinned (OpenSpec.ofChange patFindsSpec)

/-- ITS FALSE NEIGHBOUR: 'it returns false'. Refute it at one input. -/
def patFindsWrong : ChangeSpec := { name := "patFinds", fn := fun _ => fun
  | [d1, d2, d3] => { results := [.lit (.bool false)], args := [d1, d2, d3] }
  | _ => none }
def PatFindsWrongFalsely : Prop := patFindsRow.holds Try.pinned (OpenSpec.ofChange patFindsWrong)

/-- 'colloquylaw06.PatGrows': WHATEVER THE INPUT: true; the input reads as it did. -/
def patGrowsSpec : ChangeSpec := { name := "patGrows", fn := fun _ => fun
  | [d1, d2, d3, d4] => { results := [.lit (.bool true)], args := [d1, d2, d3, d4] }
  | _ => none }
def patGrowsRow : OpenClaim := { program := "ytgcbcdbfeaepkaa", sum := "d7341d9ab63b52bdb7b557f5518dac5c5a61fd8d04401c2f991e0eec772a855f", func := "colloquy/colloquylaw06.PatGrows", spec := "patGrows", unfollowed := true, recurses := true, apart := false }
def PatGrowsSaid : Prop := patGrowsRow.holds Try.pinned (OpenSpec.ofChange patGrowsSpec)

/-- ITS FALSE NEIGHBOUR: 'it returns false'. Refute it at one input. -/
def patGrowsWrong : ChangeSpec := { name := "patGrows", fn := fun _ => fun
  | [d1, d2, d3, d4] => { results := [.lit (.bool false)], args := [d1, d2, d3, d4] }
  | _ => none }
def PatGrowsWrongFalsely : Prop := patGrowsRow.holds Try.pinned (OpenSpec.ofChange patGrowsWrong)

/-- 'colloquylaw15.PrintConds': WHATEVER THE INPUT: true; the input reads as it did. -/
def printCondsSpec : ChangeSpec := { name := "printConds", fn := fun _ => fun
  | [d] => { results := [.lit (.bool true)], args := [d] }
  | _ => none }
def printCondsRow : OpenClaim := { program := "ytgcbcdbfeaepkaa", sum := "d7341d9ab63b52bdb7b557f5518dac5c5a61fd8d04401c2f991e0eec772a855f", func := "colloquy/colloquylaw15.PrintConds", spec := "printConds", inPlace := ["internal/abi.NoEscape", "internal/bytealg.MakeNoZero"], recurses := true, loops := true, apart := false }
def PrintCondsSaid : Prop := printCondsRow.holds Try.pinned (OpenSpec.ofChange printCondsSpec)

/-- ITS FALSE NEIGHBOUR: 'it returns false'. Refute it at one input. -/
def printCondsWrong : ChangeSpec := { name := "printConds", fn := fun _ => fun
  | [d] => { results := [.lit (.bool false)], args := [d] }
  | _ => none }
def PrintCondsWrongFalsely : Prop := printCondsRow.holds Try.pinned (OpenSpec.ofChange printCondsWrong)

/-- 'colloquylaw16.SoundBounds': WHATEVER THE INPUT: true; the input reads as it did. -/
def soundBoundsSpec : ChangeSpec := { name := "soundBounds", fn := fun _ => fun
  | [d1, d2] => { results := [.lit (.bool true)], args := [d1, d2] }
  | _ => none }
def soundBoundsRow : OpenClaim := { program := "ytgcbcdbfeaepkaa", sum := "d7341d9ab63b52bdb7b557f5518dac5c5a61fd8d04401c2f991e0eec772a855f", func := "colloquy/colloquylaw16.SoundBounds", spec := "soundBounds", inPlace := ["math.Float64bits", "math.Float64frombits"], unfollowed := true, recurses := true, apart := false }
def SoundBoundsSaid : Prop := soundBoundsRow.holds Try.pinned (OpenSpec.ofChange soundBoundsSpec)

/-- ITS FALSE NEIGHBOUR: 'it returns false'. Refute it at one input. -/
def soundBoundsWrong : ChangeSpec := { name := "soundBounds", fn := fun _ => fun
  | [d1, d2] => { results := [.lit (.bool false)], args := [d1, d2] }
  | _ => none }
def SoundBoundsWrongFalsely : Prop := soundBoundsRow.holds Try.pinned (OpenSpec.ofChange soundBoundsWrong)

/-- 'colloquylaw16.SoundTwice': WHATEVER THE INPUT: true; the input reads as it did. -/
def soundTwiceSpec : ChangeSpec := { name := "soundTwice", fn := fun _ => fun
  | [d1, d2] => { results := [.lit (.bool true)], args := [d1, d2] }
  | _ => none }
def soundTwiceRow : OpenClaim := { program := "ytgcbcdbfeaepkaa", sum := "d7341d9ab63b52bdb7b557f5518dac5c5a61fd8d04401c2f991e0eec772a855f", func := "colloquy/colloquylaw16.SoundTwice", spec := "soundTwice", inPlace := ["math.Float64bits", "math.Float64frombits"], unfollowed := true, recurses := true, apart := false }
def SoundTwiceSaid : Prop := soundTwiceRow.holds Try.pinned (OpenSpec.ofChange soundTwiceSpec)

/-- ITS FALSE NEIGHBOUR: 'it returns false'. Refute it at one input. -/
def soundTwiceWrong : ChangeSpec := { name := "soundTwice", fn := fun _ => fun
  | [d1, d2] => { results := [.lit (.bool false)], args := [d1, d2] }
  | _ => none }
def SoundTwiceWrongFalsely : Prop := soundTwiceRow.holds Try.pinned (OpenSpec.ofChange soundTwiceWrong)

/-- 'colloquylaw17.TalkFirst': WHATEVER THE INPUT: true; the input reads as it did. -/
def talkFirstSpec : ChangeSpec := { name := "talkFirst", fn := fun _ => fun
  | [d1, d2, d3] => { results := [.lit (.bool true)], args := [d1, d2, d3] }
  | _ => none }
def talkFirstRow : OpenClaim := { program := "ytgcbcdbfeaepkaa", sum := "d7341d9ab63b52bdb7b557f5518dac5c5a61fd8d04401c2f991e0eec772a855f", func := "colloquy/colloquylaw17.TalkFirst", spec := "talkFirst", unfollowed := true, recurses := true, apart := false }
def TalkFirstSaid : Prop := talkFirstRow.holds Try.pinned (OpenSpec.ofChange talkFirstSpec)

/-- ITS FALSE NEIGHBOUR: 'it returns false'. Refute it at one input. -/
def talkFirstWrong : ChangeSpec := { name := "talkFirst", fn := fun _ => fun
  | [d1, d2, d3] => { results := [.lit (.bool false)], args := [d1, d2, d3] }
  | _ => none }
def TalkFirstWrongFalsely : Prop := talkFirstRow.holds Try.pinned (OpenSpec.ofChange talkFirstWrong)

/-- 'colloquylaw17.TalkTimes': WHATEVER THE INPUT: true; the input reads as it did. -/
def talkTimesSpec : ChangeSpec := { name := "talkTimes", fn := fun _ => fun
  | [d1, d2] => { results := [.lit (.bool true)], args := [d1, d2] }
  | _ => none }
def talkTimesRow : OpenClaim := { program := "ytgcbcdbfeaepkaa", sum := "d7341d9ab63b52bdb7b557f5518dac5c5a61fd8d04401c2f991e0eec772a855f", func := "colloquy/colloquylaw17.TalkTimes", spec := "talkTimes", unfollowed := true, recurses := true, apart := false }
def TalkTimesSaid : Prop := talkTimesRow.holds Try.pinned (OpenSpec.ofChange talkTimesSpec)

/-- ITS FALSE NEIGHBOUR: 'it returns false'. Refute it at one input. -/
def talkTimesWrong : ChangeSpec := { name := "talkTimes", fn := fun _ => fun
  | [d1, d2] => { results := [.lit (.bool false)], args := [d1, d2] }
  | _ => none }
def TalkTimesWrongFalsely : Prop := talkTimesRow.holds Try.pinned (OpenSpec.ofChange talkTimesWrong)

/-- 'colloquylaw17.TalkEnds': WHATEVER THE INPUT: true; the input reads as it did. -/
def talkEndsSpec : ChangeSpec := { name := "talkEnds", fn := fun _ => fun
  | [d1, d2, d3, d4] => { results := [.lit (.bool true)], args := [d1, d2, d3, d4] }
  | _ => none }
def talkEndsRow : OpenClaim := { program := "ytgcbcdbfeaepkaa", sum := "d7341d9ab63b52bdb7b557f5518dac5c5a61fd8d04401c2f991e0eec772a855f", func := "colloquy/colloquylaw17.TalkEnds", spec := "talkEnds", unfollowed := true, recurses := true, apart := false }
def TalkEndsSaid : Prop := talkEndsRow.holds Try.pinned (OpenSpec.ofChange talkEndsSpec)

/-- ITS FALSE NEIGHBOUR: 'it returns false'. Refute it at one input. -/
def talkEndsWrong : ChangeSpec := { name := "talkEnds", fn := fun _ => fun
  | [d1, d2, d3, d4] => { results := [.lit (.bool false)], args := [d1, d2, d3, d4] }
  | _ => none }
def TalkEndsWrongFalsely : Prop := talkEndsRow.holds Try.pinned (OpenSpec.ofChange talkEndsWrong)

/- THE SECOND FORM. 'bulk': how many values and letters a reading holds, each counted each time it is reached (what is shared counts as often as it is met; a slice's spare places count too). A statement '..UptoSaid' is the law's where the arguments, and the package variables that the reading takes, are together of bulk at most 1048576: NARROWER than '..Said'. Prove '..Said' where nothing that the law and all that it calls make is longer than what came in: it says more and counts as full. Else prove '..UptoSaid'. A law counts once. -/
mutual
def uptoBulk {H : Type} : DataW H → Nat
  | .lit (.string bytes) => bytes.length + 1
  | .lit _ => 1
  | .nil => 1
  | .ptr d => uptoBulk d + 1
  | .slice elems spare => uptoBulkAll elems + uptoBulkAll spare + 1
  | .agg parts => uptoBulkAll parts + 1
  | .iface _ d => uptoBulk d + 1
  | .map entries => uptoBulkEntries entries + 1
  | .held _ => 1
def uptoBulkAll {H : Type} : List (DataW H) → Nat
  | [] => 0
  | d :: r => uptoBulk d + uptoBulkAll r
def uptoBulkEntries {H : Type} : List (Lit × DataW H) → Nat
  | [] => 0
  | x :: r => uptoBulkEntry x + uptoBulkEntries r
def uptoBulkEntry {H : Type} : Lit × DataW H → Nat
  | (.string bytes, d) => bytes.length + uptoBulk d + 1
  | (_, d) => uptoBulk d + 1
 end
def uptoSmall : (H : Type) → List (DataW H) → Bool := fun _ ds => decide (uptoBulkAll ds ≤ 1048576)
def OpenSpec.upto (s : _root_.Go.ChangeSpec) : _root_.Go.OpenSpec := { _root_.Go.OpenSpec.ofChange s with cond := some uptoSmall }

/-- 'colloquylaw05.NfaLongest', WHERE WHAT IT READS IS OF BULK AT MOST 1048576: true; the input reads as it did. -/
def nfaLongestUptoRow : OpenClaim := { program := "ytgcbcdbfeaepkaa", sum := "d7341d9ab63b52bdb7b557f5518dac5c5a61fd8d04401c2f991e0eec772a855f", func := "colloquy/colloquylaw05.NfaLongest", spec := "nfaLongest", recurses := true, loops := true, apart := false, narrowed := true }
def NfaLongestUptoSaid : Prop := nfaLongestUptoRow.holds Try.pinned (OpenSpec.upto nfaLongestSpec)

/-- 'colloquylaw05.NfaFinds', WHERE WHAT IT READS IS OF BULK AT MOST 1048576: true; the input reads as it did. -/
def nfaFindsUptoRow : OpenClaim := { program := "ytgcbcdbfeaepkaa", sum := "d7341d9ab63b52bdb7b557f5518dac5c5a61fd8d04401c2f991e0eec772a855f", func := "colloquy/colloquylaw05.NfaFinds", spec := "nfaFinds", recurses := true, loops := true, apart := false, narrowed := true }
def NfaFindsUptoSaid : Prop := nfaFindsUptoRow.holds Try.pinned (OpenSpec.upto nfaFindsSpec)

/-- 'colloquylaw06.PatCompiles', WHERE WHAT IT READS IS OF BULK AT MOST 1048576: true; the input reads as it did. -/
def patCompilesUptoRow : OpenClaim := { program := "ytgcbcdbfeaepkaa", sum := "d7341d9ab63b52bdb7b557f5518dac5c5a61fd8d04401c2f991e0eec772a855f", func := "colloquy/colloquylaw06.PatCompiles", spec := "patCompiles", unfollowed := true, recurses := true, apart := false, narrowed := true }
def PatCompilesUptoSaid : Prop := patCompilesUptoRow.holds Try.pinned (OpenSpec.upto patCompilesSpec)

/-- 'colloquylaw06.PatFinds', WHERE WHAT IT READS IS OF BULK AT MOST 1048576: true; the input reads as it did. -/
def patFindsUptoRow : OpenClaim := { program := "ytgcbcdbfeaepkaa", sum := "d7341d9ab63b52bdb7b557f5518dac5c5a61fd8d04401c2f991e0eec772a855f", func := "colloquy/colloquylaw06.PatFinds", spec := "patFinds", unfollowed := true, recurses := true, apart := false, narrowed := true }
def PatFindsUptoSaid : Prop := patFindsUptoRow.holds Try.pinned (OpenSpec.upto patFindsSpec)

/-- 'colloquylaw06.PatGrows', WHERE WHAT IT READS IS OF BULK AT MOST 1048576: true; the input reads as it did. -/
def patGrowsUptoRow : OpenClaim := { program := "ytgcbcdbfeaepkaa", sum := "d7341d9ab63b52bdb7b557f5518dac5c5a61fd8d04401c2f991e0eec772a855f", func := "colloquy/colloquylaw06.PatGrows", spec := "patGrows", unfollowed := true, recurses := true, apart := false, narrowed := true }
def PatGrowsUptoSaid : Prop := patGrowsUptoRow.holds Try.pinned (OpenSpec.upto patGrowsSpec)

/-- 'colloquylaw15.PrintConds', WHERE WHAT IT READS IS OF BULK AT MOST 1048576: true; the input reads as it did. -/
def printCondsUptoRow : OpenClaim := { program := "ytgcbcdbfeaepkaa", sum := "d7341d9ab63b52bdb7b557f5518dac5c5a61fd8d04401c2f991e0eec772a855f", func := "colloquy/colloquylaw15.PrintConds", spec := "printConds", inPlace := ["internal/abi.NoEscape", "internal/bytealg.MakeNoZero"], recurses := true, loops := true, apart := false, narrowed := true }
def PrintCondsUptoSaid : Prop := printCondsUptoRow.holds Try.pinned (OpenSpec.upto printCondsSpec)

/-- 'colloquylaw16.SoundBounds', WHERE WHAT IT READS IS OF BULK AT MOST 1048576: true; the input reads as it did. -/
def soundBoundsUptoRow : OpenClaim := { program := "ytgcbcdbfeaepkaa", sum := "d7341d9ab63b52bdb7b557f5518dac5c5a61fd8d04401c2f991e0eec772a855f", func := "colloquy/colloquylaw16.SoundBounds", spec := "soundBounds", inPlace := ["math.Float64bits", "math.Float64frombits"], unfollowed := true, recurses := true, apart := false, narrowed := true }
def SoundBoundsUptoSaid : Prop := soundBoundsUptoRow.holds Try.pinned (OpenSpec.upto soundBoundsSpec)

/-- 'colloquylaw16.SoundTwice', WHERE WHAT IT READS IS OF BULK AT MOST 1048576: true; the input reads as it did. -/
def soundTwiceUptoRow : OpenClaim := { program := "ytgcbcdbfeaepkaa", sum := "d7341d9ab63b52bdb7b557f5518dac5c5a61fd8d04401c2f991e0eec772a855f", func := "colloquy/colloquylaw16.SoundTwice", spec := "soundTwice", inPlace := ["math.Float64bits", "math.Float64frombits"], unfollowed := true, recurses := true, apart := false, narrowed := true }
def SoundTwiceUptoSaid : Prop := soundTwiceUptoRow.holds Try.pinned (OpenSpec.upto soundTwiceSpec)

/-- 'colloquylaw17.TalkFirst', WHERE WHAT IT READS IS OF BULK AT MOST 1048576: true; the input reads as it did. -/
def talkFirstUptoRow : OpenClaim := { program := "ytgcbcdbfeaepkaa", sum := "d7341d9ab63b52bdb7b557f5518dac5c5a61fd8d04401c2f991e0eec772a855f", func := "colloquy/colloquylaw17.TalkFirst", spec := "talkFirst", unfollowed := true, recurses := true, apart := false, narrowed := true }
def TalkFirstUptoSaid : Prop := talkFirstUptoRow.holds Try.pinned (OpenSpec.upto talkFirstSpec)

/-- 'colloquylaw17.TalkTimes', WHERE WHAT IT READS IS OF BULK AT MOST 1048576: true; the input reads as it did. -/
def talkTimesUptoRow : OpenClaim := { program := "ytgcbcdbfeaepkaa", sum := "d7341d9ab63b52bdb7b557f5518dac5c5a61fd8d04401c2f991e0eec772a855f", func := "colloquy/colloquylaw17.TalkTimes", spec := "talkTimes", unfollowed := true, recurses := true, apart := false, narrowed := true }
def TalkTimesUptoSaid : Prop := talkTimesUptoRow.holds Try.pinned (OpenSpec.upto talkTimesSpec)

/-- 'colloquylaw17.TalkEnds', WHERE WHAT IT READS IS OF BULK AT MOST 1048576: true; the input reads as it did. -/
def talkEndsUptoRow : OpenClaim := { program := "ytgcbcdbfeaepkaa", sum := "d7341d9ab63b52bdb7b557f5518dac5c5a61fd8d04401c2f991e0eec772a855f", func := "colloquy/colloquylaw17.TalkEnds", spec := "talkEnds", unfollowed := true, recurses := true, apart := false, narrowed := true }
def TalkEndsUptoSaid : Prop := talkEndsUptoRow.holds Try.pinned (OpenSpec.upto talkEndsSpec)

end Rows
end Go.Proofs.Ytgcbcdbfeaepkaa
