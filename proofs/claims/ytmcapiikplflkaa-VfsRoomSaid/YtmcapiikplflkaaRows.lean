/-
  No cell of these rows narrows 'for every input' (looked for: loops, veiled, ifaces, maps, wideKeys, modest, calm, conditions, laid).
  DERIVED. THE GIVEN ROWS OF THIS SEAT. 9 by the template 'for every input the law returns true; each argument reads behind the call as it read before'; 0 by the template 'total and deterministic' (their statements: YtmcapiikplflkaaTotals.lean).
  GIVEN WITH THE SEED: the statements are not yours to turn. If you find one false, say at which input.
  Laid BY PROGRAM, IN A SANDBOX (cutbox-rows.mjs): the forced cells as the released guide's own fill.sh prints them over the translation 0305c2ff2fe1cb3e… (all of the seat's roots in one cut). By AI agents, Wed Nov 11 2026. No macro, syntax, notation, axiom, sorry.
-/
import Derived.Test.YtmcapiikplflkaaChecked
import GoSem.Claim
import GoSem.ClaimJoined
import GoSem.ClaimMapViews
import Derived.JoinedTies
import Derived.KernelRfl
namespace Go.Proofs.Ytmcapiikplflkaa
/- THE CELL 'sum', in the pinned program and in every row, IS THE sha256 OF THE DUMP (.gsa) THAT YtmcapiikplflkaaProg.lean LOADS. Nothing in Lean hashes anything: it is a label: what it is worth is what the hold of that sum in a sandbox is worth. -/
noncomputable def Try.pinned : Pinned := { name := "ytmcapiikplflkaa", sum := "0305c2ff2fe1cb3efdb7bb27cd3cc28ce03f2f4e5c7e38ee5dc35aeaad3cd65e", checked := Try.checked }
namespace Rows
def none {H : Type} : Left H := { results := [], args := [] }

/-- 'colloquylaw07.VfsPlays': WHATEVER THE INPUT: true; the input reads as it did. -/
def vfsPlaysSpec : ChangeSpec := { name := "vfsPlays", fn := fun _ => fun
  | [d1, d2, d3] => { results := [.lit (.bool true)], args := [d1, d2, d3] }
  | _ => none }
def vfsPlaysRow : OpenClaim := { program := "ytmcapiikplflkaa", sum := "0305c2ff2fe1cb3efdb7bb27cd3cc28ce03f2f4e5c7e38ee5dc35aeaad3cd65e", func := "colloquy/colloquylaw07.VfsPlays", spec := "vfsPlays", unfollowed := true, recurses := true, apart := false }
def VfsPlaysSaid : Prop := vfsPlaysRow.holds Try.pinned (OpenSpec.ofChange vfsPlaysSpec)

/-- ITS FALSE NEIGHBOUR: 'it returns false'. Refute it at one input. -/
def vfsPlaysWrong : ChangeSpec := { name := "vfsPlays", fn := fun _ => fun
  | [d1, d2, d3] => { results := [.lit (.bool false)], args := [d1, d2, d3] }
  | _ => none }
def VfsPlaysWrongFalsely : Prop := vfsPlaysRow.holds Try.pinned (OpenSpec.ofChange vfsPlaysWrong)

/-- 'colloquylaw07.VfsRoom': WHATEVER THE INPUT: true; the input reads as it did. -/
def vfsRoomSpec : ChangeSpec := { name := "vfsRoom", fn := fun _ => fun
  | [d1, d2] => { results := [.lit (.bool true)], args := [d1, d2] }
  | _ => none }
def vfsRoomRow : OpenClaim := { program := "ytmcapiikplflkaa", sum := "0305c2ff2fe1cb3efdb7bb27cd3cc28ce03f2f4e5c7e38ee5dc35aeaad3cd65e", func := "colloquy/colloquylaw07.VfsRoom", spec := "vfsRoom", unfollowed := true, recurses := true, apart := false }
def VfsRoomSaid : Prop := vfsRoomRow.holds Try.pinned (OpenSpec.ofChange vfsRoomSpec)

/-- ITS FALSE NEIGHBOUR: 'it returns false'. Refute it at one input. -/
def vfsRoomWrong : ChangeSpec := { name := "vfsRoom", fn := fun _ => fun
  | [d1, d2] => { results := [.lit (.bool false)], args := [d1, d2] }
  | _ => none }
def VfsRoomWrongFalsely : Prop := vfsRoomRow.holds Try.pinned (OpenSpec.ofChange vfsRoomWrong)

/-- 'colloquylaw08.PackReads': WHATEVER THE INPUT: true; the input reads as it did. -/
def packReadsSpec : ChangeSpec := { name := "packReads", fn := fun _ => fun
  | [d1, d2] => { results := [.lit (.bool true)], args := [d1, d2] }
  | _ => none }
def packReadsRow : OpenClaim := { program := "ytmcapiikplflkaa", sum := "0305c2ff2fe1cb3efdb7bb27cd3cc28ce03f2f4e5c7e38ee5dc35aeaad3cd65e", func := "colloquy/colloquylaw08.PackReads", spec := "packReads", unfollowed := true, recurses := true, apart := false }
def PackReadsSaid : Prop := packReadsRow.holds Try.pinned (OpenSpec.ofChange packReadsSpec)

/-- ITS FALSE NEIGHBOUR: 'it returns false'. Refute it at one input. -/
def packReadsWrong : ChangeSpec := { name := "packReads", fn := fun _ => fun
  | [d1, d2] => { results := [.lit (.bool false)], args := [d1, d2] }
  | _ => none }
def PackReadsWrongFalsely : Prop := packReadsRow.holds Try.pinned (OpenSpec.ofChange packReadsWrong)

/-- 'colloquylaw10.LineAll': WHATEVER THE INPUT: true; the input reads as it did. -/
def lineAllSpec : ChangeSpec := { name := "lineAll", fn := fun _ => fun
  | [d] => { results := [.lit (.bool true)], args := [d] }
  | _ => none }
def lineAllRow : OpenClaim := { program := "ytmcapiikplflkaa", sum := "0305c2ff2fe1cb3efdb7bb27cd3cc28ce03f2f4e5c7e38ee5dc35aeaad3cd65e", func := "colloquy/colloquylaw10.LineAll", spec := "lineAll", apart := false }
def LineAllSaid : Prop := lineAllRow.holds Try.pinned (OpenSpec.ofChange lineAllSpec)

/-- ITS FALSE NEIGHBOUR: 'it returns false'. Refute it at one input. -/
def lineAllWrong : ChangeSpec := { name := "lineAll", fn := fun _ => fun
  | [d] => { results := [.lit (.bool false)], args := [d] }
  | _ => none }
def LineAllWrongFalsely : Prop := lineAllRow.holds Try.pinned (OpenSpec.ofChange lineAllWrong)

/-- 'colloquylaw10.LineTime': WHATEVER THE INPUT: true; the input reads as it did. -/
def lineTimeSpec : ChangeSpec := { name := "lineTime", fn := fun _ => fun
  | [d1, d2] => { results := [.lit (.bool true)], args := [d1, d2] }
  | _ => none }
def lineTimeRow : OpenClaim := { program := "ytmcapiikplflkaa", sum := "0305c2ff2fe1cb3efdb7bb27cd3cc28ce03f2f4e5c7e38ee5dc35aeaad3cd65e", func := "colloquy/colloquylaw10.LineTime", spec := "lineTime", apart := false }
def LineTimeSaid : Prop := lineTimeRow.holds Try.pinned (OpenSpec.ofChange lineTimeSpec)

/-- ITS FALSE NEIGHBOUR: 'it returns false'. Refute it at one input. -/
def lineTimeWrong : ChangeSpec := { name := "lineTime", fn := fun _ => fun
  | [d1, d2] => { results := [.lit (.bool false)], args := [d1, d2] }
  | _ => none }
def LineTimeWrongFalsely : Prop := lineTimeRow.holds Try.pinned (OpenSpec.ofChange lineTimeWrong)

/-- 'colloquylaw10.LineSends': WHATEVER THE INPUT: true; the input reads as it did. -/
def lineSendsSpec : ChangeSpec := { name := "lineSends", fn := fun _ => fun
  | [d1, d2] => { results := [.lit (.bool true)], args := [d1, d2] }
  | _ => none }
def lineSendsRow : OpenClaim := { program := "ytmcapiikplflkaa", sum := "0305c2ff2fe1cb3efdb7bb27cd3cc28ce03f2f4e5c7e38ee5dc35aeaad3cd65e", func := "colloquy/colloquylaw10.LineSends", spec := "lineSends", apart := false }
def LineSendsSaid : Prop := lineSendsRow.holds Try.pinned (OpenSpec.ofChange lineSendsSpec)

/-- ITS FALSE NEIGHBOUR: 'it returns false'. Refute it at one input. -/
def lineSendsWrong : ChangeSpec := { name := "lineSends", fn := fun _ => fun
  | [d1, d2] => { results := [.lit (.bool false)], args := [d1, d2] }
  | _ => none }
def LineSendsWrongFalsely : Prop := lineSendsRow.holds Try.pinned (OpenSpec.ofChange lineSendsWrong)

/-- 'colloquylaw11.BufPlays': WHATEVER THE INPUT: true; the input reads as it did. -/
def bufPlaysSpec : ChangeSpec := { name := "bufPlays", fn := fun _ => fun
  | [d1, d2] => { results := [.lit (.bool true)], args := [d1, d2] }
  | _ => none }
def bufPlaysRow : OpenClaim := { program := "ytmcapiikplflkaa", sum := "0305c2ff2fe1cb3efdb7bb27cd3cc28ce03f2f4e5c7e38ee5dc35aeaad3cd65e", func := "colloquy/colloquylaw11.BufPlays", spec := "bufPlays", apart := false }
def BufPlaysSaid : Prop := bufPlaysRow.holds Try.pinned (OpenSpec.ofChange bufPlaysSpec)

/-- ITS FALSE NEIGHBOUR: 'it returns false'. Refute it at one input. -/
def bufPlaysWrong : ChangeSpec := { name := "bufPlays", fn := fun _ => fun
  | [d1, d2] => { results := [.lit (.bool false)], args := [d1, d2] }
  | _ => none }
def BufPlaysWrongFalsely : Prop := bufPlaysRow.holds Try.pinned (OpenSpec.ofChange bufPlaysWrong)

/-- 'colloquylaw11.BufParts': WHATEVER THE INPUT: true; the input reads as it did. -/
def bufPartsSpec : ChangeSpec := { name := "bufParts", fn := fun _ => fun
  | [d1, d2, d3] => { results := [.lit (.bool true)], args := [d1, d2, d3] }
  | _ => none }
def bufPartsRow : OpenClaim := { program := "ytmcapiikplflkaa", sum := "0305c2ff2fe1cb3efdb7bb27cd3cc28ce03f2f4e5c7e38ee5dc35aeaad3cd65e", func := "colloquy/colloquylaw11.BufParts", spec := "bufParts", apart := false }
def BufPartsSaid : Prop := bufPartsRow.holds Try.pinned (OpenSpec.ofChange bufPartsSpec)

/-- ITS FALSE NEIGHBOUR: 'it returns false'. Refute it at one input. -/
def bufPartsWrong : ChangeSpec := { name := "bufParts", fn := fun _ => fun
  | [d1, d2, d3] => { results := [.lit (.bool false)], args := [d1, d2, d3] }
  | _ => none }
def BufPartsWrongFalsely : Prop := bufPartsRow.holds Try.pinned (OpenSpec.ofChange bufPartsWrong)

/-- 'colloquylaw11.BufTakes': WHATEVER THE INPUT: true; the input reads as it did. -/
def bufTakesSpec : ChangeSpec := { name := "bufTakes", fn := fun _ => fun
  | [d1, d2, d3] => { results := [.lit (.bool true)], args := [d1, d2, d3] }
  | _ => none }
def bufTakesRow : OpenClaim := { program := "ytmcapiikplflkaa", sum := "0305c2ff2fe1cb3efdb7bb27cd3cc28ce03f2f4e5c7e38ee5dc35aeaad3cd65e", func := "colloquy/colloquylaw11.BufTakes", spec := "bufTakes", apart := false }
def BufTakesSaid : Prop := bufTakesRow.holds Try.pinned (OpenSpec.ofChange bufTakesSpec)

/-- ITS FALSE NEIGHBOUR: 'it returns false'. Refute it at one input. -/
def bufTakesWrong : ChangeSpec := { name := "bufTakes", fn := fun _ => fun
  | [d1, d2, d3] => { results := [.lit (.bool false)], args := [d1, d2, d3] }
  | _ => none }
def BufTakesWrongFalsely : Prop := bufTakesRow.holds Try.pinned (OpenSpec.ofChange bufTakesWrong)

/- THE SECOND FORM. 'bulk': how many values and letters a reading holds, each counted each time it is reached (what is shared counts as often as it is met; a slice's spare places count too). A statement '..UptoSaid' is the law's where the arguments, and the package variables that the reading takes, are together of bulk at most 1048576: NARROWER than '..Said'. Prove '..Said' where nothing that the law and all that it calls make is longer than what came in: it says more and counts as full. Else prove '..UptoSaid'. A law counts once. -/
mutual
def uptoBulk {H : Type} : DataW H → Nat
  | .lit (.string bytes) => bytes.length + 1
  | .lit _ => 1
  | .nil => 1
  | .ptr d => uptoBulk d + 1
  | .slice elems spare => uptoBulkAll elems + uptoBulkAll spare + 1
  | .agg parts => uptoBulkAll parts + 1
  | .iface _ d => uptoBulk d + 1
  | .map entries => uptoBulkEntries entries + 1
  | .held _ => 1
def uptoBulkAll {H : Type} : List (DataW H) → Nat
  | [] => 0
  | d :: r => uptoBulk d + uptoBulkAll r
def uptoBulkEntries {H : Type} : List (Lit × DataW H) → Nat
  | [] => 0
  | x :: r => uptoBulkEntry x + uptoBulkEntries r
def uptoBulkEntry {H : Type} : Lit × DataW H → Nat
  | (.string bytes, d) => bytes.length + uptoBulk d + 1
  | (_, d) => uptoBulk d + 1
 end
def uptoSmall : (H : Type) → List (DataW H) → Bool := fun _ ds => decide (uptoBulkAll ds ≤ 1048576)
def OpenSpec.upto (s : _root_.Go.ChangeSpec) : _root_.Go.OpenSpec := { _root_.Go.OpenSpec.ofChange s with cond := some uptoSmall }

/-- 'colloquylaw07.VfsPlays', WHERE WHAT IT READS IS OF BULK AT MOST 1048576: true; the input reads as it did. -/
def vfsPlaysUptoRow : OpenClaim := { program := "ytmcapiikplflkaa", sum := "0305c2ff2fe1cb3efdb7bb27cd3cc28ce03f2f4e5c7e38ee5dc35aeaad3cd65e", func := "colloquy/colloquylaw07.VfsPlays", spec := "vfsPlays", unfollowed := true, recurses := true, apart := false, narrowed := true }
def VfsPlaysUptoSaid : Prop := vfsPlaysUptoRow.holds Try.pinned (OpenSpec.upto vfsPlaysSpec)

/-- 'colloquylaw07.VfsRoom', WHERE WHAT IT READS IS OF BULK AT MOST 1048576: true; the input reads as it did. -/
def vfsRoomUptoRow : OpenClaim := { program := "ytmcapiikplflkaa", sum := "0305c2ff2fe1cb3efdb7bb27cd3cc28ce03f2f4e5c7e38ee5dc35aeaad3cd65e", func := "colloquy/colloquylaw07.VfsRoom", spec := "vfsRoom", unfollowed := true, recurses := true, apart := false, narrowed := true }
def VfsRoomUptoSaid : Prop := vfsRoomUptoRow.holds Try.pinned (OpenSpec.upto vfsRoomSpec)

/-- 'colloquylaw08.PackReads', WHERE WHAT IT READS IS OF BULK AT MOST 1048576: true; the input reads as it did. -/
def packReadsUptoRow : OpenClaim := { program := "ytmcapiikplflkaa", sum := "0305c2ff2fe1cb3efdb7bb27cd3cc28ce03f2f4e5c7e38ee5dc35aeaad3cd65e", func := "colloquy/colloquylaw08.PackReads", spec := "packReads", unfollowed := true, recurses := true, apart := false, narrowed := true }
def PackReadsUptoSaid : Prop := packReadsUptoRow.holds Try.pinned (OpenSpec.upto packReadsSpec)

/-- 'colloquylaw10.LineAll', WHERE WHAT IT READS IS OF BULK AT MOST 1048576: true; the input reads as it did. -/
def lineAllUptoRow : OpenClaim := { program := "ytmcapiikplflkaa", sum := "0305c2ff2fe1cb3efdb7bb27cd3cc28ce03f2f4e5c7e38ee5dc35aeaad3cd65e", func := "colloquy/colloquylaw10.LineAll", spec := "lineAll", apart := false, narrowed := true }
def LineAllUptoSaid : Prop := lineAllUptoRow.holds Try.pinned (OpenSpec.upto lineAllSpec)

/-- 'colloquylaw10.LineTime', WHERE WHAT IT READS IS OF BULK AT MOST 1048576: true; the input reads as it did. -/
def lineTimeUptoRow : OpenClaim := { program := "ytmcapiikplflkaa", sum := "0305c2ff2fe1cb3efdb7bb27cd3cc28ce03f2f4e5c7e38ee5dc35aeaad3cd65e", func := "colloquy/colloquylaw10.LineTime", spec := "lineTime", apart := false, narrowed := true }
def LineTimeUptoSaid : Prop := lineTimeUptoRow.holds Try.pinned (OpenSpec.upto lineTimeSpec)

/-- 'colloquylaw10.LineSends', WHERE WHAT IT READS IS OF BULK AT MOST 1048576: true; the input reads as it did. -/
def lineSendsUptoRow : OpenClaim := { program := "ytmcapiikplflkaa", sum := "0305c2ff2fe1cb3efdb7bb27cd3cc28ce03f2f4e5c7e38ee5dc35aeaad3cd65e", func := "colloquy/colloquylaw10.LineSends", spec := "lineSends", apart := false, narrowed := true }
def LineSendsUptoSaid : Prop := lineSendsUptoRow.holds Try.pinned (OpenSpec.upto lineSendsSpec)

/-- 'colloquylaw11.BufPlays', WHERE WHAT IT READS IS OF BULK AT MOST 1048576: true; the input reads as it did. -/
def bufPlaysUptoRow : OpenClaim := { program := "ytmcapiikplflkaa", sum := "0305c2ff2fe1cb3efdb7bb27cd3cc28ce03f2f4e5c7e38ee5dc35aeaad3cd65e", func := "colloquy/colloquylaw11.BufPlays", spec := "bufPlays", apart := false, narrowed := true }
def BufPlaysUptoSaid : Prop := bufPlaysUptoRow.holds Try.pinned (OpenSpec.upto bufPlaysSpec)

/-- 'colloquylaw11.BufParts', WHERE WHAT IT READS IS OF BULK AT MOST 1048576: true; the input reads as it did. -/
def bufPartsUptoRow : OpenClaim := { program := "ytmcapiikplflkaa", sum := "0305c2ff2fe1cb3efdb7bb27cd3cc28ce03f2f4e5c7e38ee5dc35aeaad3cd65e", func := "colloquy/colloquylaw11.BufParts", spec := "bufParts", apart := false, narrowed := true }
def BufPartsUptoSaid : Prop := bufPartsUptoRow.holds Try.pinned (OpenSpec.upto bufPartsSpec)

/-- 'colloquylaw11.BufTakes', WHERE WHAT IT READS IS OF BULK AT MOST 1048576: true; the input reads as it did. -/
def bufTakesUptoRow : OpenClaim := { program := "ytmcapiikplflkaa", sum := "0305c2ff2fe1cb3efdb7bb27cd3cc28ce03f2f4e5c7e38ee5dc35aeaad3cd65e", func := "colloquy/colloquylaw11.BufTakes", spec := "bufTakes", apart := false, narrowed := true }
def BufTakesUptoSaid : Prop := bufTakesUptoRow.holds Try.pinned (OpenSpec.upto bufTakesSpec)

end Rows
end Go.Proofs.Ytmcapiikplflkaa
