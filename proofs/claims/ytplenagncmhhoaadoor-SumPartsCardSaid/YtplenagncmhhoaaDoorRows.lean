/-
  NARROWER THAN 'FOR EVERY INPUT', by the rows' own cells (each row's printed sentence says how): SumTexts: laid · SumParses: laid · SumBack: laid · SumCuts: laid · SumForges: laid · SumParts: laid · BookPacks: laid · BookUnpacks: laid · BookTurns: laid.
  DERIVED. THE GIVEN ROWS OF THIS SEAT. 9 by the template 'for every input the law returns true; each argument reads behind the call as it read before'; 0 by the template 'total and deterministic' (their statements: YtplenagncmhhoaaDoorTotals.lean).
  GIVEN WITH THE SEED: the statements are not yours to turn. If you find one false, say at which input.
  Laid BY PROGRAM, IN A SANDBOX (cutbox-rows.mjs): the forced cells as the released guide's own fill.sh prints them over the translation 4d6ef4b033eb789d… (all of the seat's roots in one cut). By AI agents, Wed Nov 11 2026. No macro, syntax, notation, axiom, sorry.
-/
import Derived.Test.YtplenagncmhhoaaDoorChecked
import GoSem.Claim
import GoSem.ClaimJoined
import GoSem.ClaimMapViews
import Derived.JoinedTies
import Derived.KernelRfl
namespace Go.Proofs.YtplenagncmhhoaaDoor
/- THE CELL 'sum', in the pinned program and in every row, IS THE sha256 OF THE DUMP (.gsa) THAT YtplenagncmhhoaaDoorProg.lean LOADS. Nothing in Lean hashes anything: it is a label: what it is worth is what the hold of that sum in a sandbox is worth. -/
noncomputable def Tryd.pinned : Pinned := { name := "ytplenagncmhhoaadoor", sum := "4d6ef4b033eb789dc5e35574bcc1ff888c96dee9fa2eb2b4b28e6aa50d0fdc56", checked := Tryd.checked }
namespace Rows
def none {H : Type} : Left H := { results := [], args := [] }

/- WHAT THE LISTED PACKAGE-LEVEL VARIABLES READ AS WHEN THE CALL BEGINS. Each datum BY PROGRAM (the guide's laid-datum.mjs) off the statement by which the dump's own 'gosem.cut.vars' lays the variable. In a bare row this is a premise. The card (YtplenagncmhhoaaDoorCards.lean) ties it to the program's text. -/
def laid_math_bits_deBruijn32tab {H : Type} : DataW H := .agg [.lit (.int .u8 0), .lit (.int .u8 1), .lit (.int .u8 28), .lit (.int .u8 2), .lit (.int .u8 29), .lit (.int .u8 14), .lit (.int .u8 24), .lit (.int .u8 3), .lit (.int .u8 30), .lit (.int .u8 22), .lit (.int .u8 20), .lit (.int .u8 15), .lit (.int .u8 25), .lit (.int .u8 17), .lit (.int .u8 4), .lit (.int .u8 8), .lit (.int .u8 31), .lit (.int .u8 27), .lit (.int .u8 13), .lit (.int .u8 23), .lit (.int .u8 21), .lit (.int .u8 19), .lit (.int .u8 16), .lit (.int .u8 7), .lit (.int .u8 26), .lit (.int .u8 12), .lit (.int .u8 18), .lit (.int .u8 6), .lit (.int .u8 11), .lit (.int .u8 5), .lit (.int .u8 10), .lit (.int .u8 9)]
def laid_math_bits_deBruijn64tab {H : Type} : DataW H := .agg [.lit (.int .u8 0), .lit (.int .u8 1), .lit (.int .u8 56), .lit (.int .u8 2), .lit (.int .u8 57), .lit (.int .u8 49), .lit (.int .u8 28), .lit (.int .u8 3), .lit (.int .u8 61), .lit (.int .u8 58), .lit (.int .u8 42), .lit (.int .u8 50), .lit (.int .u8 38), .lit (.int .u8 29), .lit (.int .u8 17), .lit (.int .u8 4), .lit (.int .u8 62), .lit (.int .u8 47), .lit (.int .u8 59), .lit (.int .u8 36), .lit (.int .u8 45), .lit (.int .u8 43), .lit (.int .u8 51), .lit (.int .u8 22), .lit (.int .u8 53), .lit (.int .u8 39), .lit (.int .u8 33), .lit (.int .u8 30), .lit (.int .u8 24), .lit (.int .u8 18), .lit (.int .u8 12), .lit (.int .u8 5), .lit (.int .u8 63), .lit (.int .u8 55), .lit (.int .u8 48), .lit (.int .u8 27), .lit (.int .u8 60), .lit (.int .u8 41), .lit (.int .u8 37), .lit (.int .u8 16), .lit (.int .u8 46), .lit (.int .u8 35), .lit (.int .u8 44), .lit (.int .u8 21), .lit (.int .u8 52), .lit (.int .u8 32), .lit (.int .u8 23), .lit (.int .u8 11), .lit (.int .u8 54), .lit (.int .u8 26), .lit (.int .u8 40), .lit (.int .u8 15), .lit (.int .u8 34), .lit (.int .u8 20), .lit (.int .u8 31), .lit (.int .u8 10), .lit (.int .u8 25), .lit (.int .u8 14), .lit (.int .u8 19), .lit (.int .u8 9), .lit (.int .u8 13), .lit (.int .u8 8), .lit (.int .u8 7), .lit (.int .u8 6)]
def laid_internal_strconv_uint64pow10 {H : Type} : DataW H := .agg [.lit (.int .u64 1), .lit (.int .u64 10), .lit (.int .u64 100), .lit (.int .u64 1000), .lit (.int .u64 10000), .lit (.int .u64 100000), .lit (.int .u64 1000000), .lit (.int .u64 10000000), .lit (.int .u64 100000000), .lit (.int .u64 1000000000), .lit (.int .u64 10000000000), .lit (.int .u64 100000000000), .lit (.int .u64 1000000000000), .lit (.int .u64 10000000000000), .lit (.int .u64 100000000000000), .lit (.int .u64 1000000000000000), .lit (.int .u64 10000000000000000), .lit (.int .u64 100000000000000000), .lit (.int .u64 1000000000000000000), .lit (.int .u64 10000000000000000000)]
def laid_colloquy_trace_words {H : Type} : DataW H := .agg [.lit (.string []), .lit (.string [80, 65, 83, 83]), .lit (.string [70, 65, 73, 76]), .lit (.string [88, 80, 65, 83, 83]), .lit (.string [88, 70, 65, 73, 76]), .lit (.string [85, 78, 82, 69, 83, 79, 76, 86, 69, 68]), .lit (.string [85, 78, 84, 69, 83, 84, 69, 68]), .lit (.string [85, 78, 83, 85, 80, 80, 79, 82, 84, 69, 68])]

/-- 'colloquylaw20.SumTexts': WHATEVER THE INPUT: true; the input reads as it did. -/
def sumTextsSpec : ChangeSpec := { name := "sumTexts", fn := fun _ => fun
  | [d] => { results := [.lit (.bool true)], args := [d] }
  | _ => none }
def sumTextsRow : OpenClaim := { program := "ytplenagncmhhoaadoor", sum := "4d6ef4b033eb789dc5e35574bcc1ff888c96dee9fa2eb2b4b28e6aa50d0fdc56", func := "colloquy/colloquylaw20.SumTexts", spec := "sumTexts", inPlace := ["internal/abi.NoEscape", "internal/bytealg.MakeNoZero", "internal/bytealg.IndexByteString", "internal/bytealg.IndexString"], named := ["colloquy/trace.words", "internal/strconv.uint64pow10", "math/bits.deBruijn32tab", "math/bits.deBruijn64tab", "internal/bytealg.MaxLen"], apart := false, laid := [("math/bits.deBruijn32tab", laid_math_bits_deBruijn32tab), ("math/bits.deBruijn64tab", laid_math_bits_deBruijn64tab), ("internal/strconv.uint64pow10", laid_internal_strconv_uint64pow10), ("colloquy/trace.words", laid_colloquy_trace_words)] }
def SumTextsSaid : Prop := sumTextsRow.holds Tryd.pinned (OpenSpec.ofChange sumTextsSpec)

/-- ITS FALSE NEIGHBOUR: 'it returns false'. Refute it at one input. -/
def sumTextsWrong : ChangeSpec := { name := "sumTexts", fn := fun _ => fun
  | [d] => { results := [.lit (.bool false)], args := [d] }
  | _ => none }
def SumTextsWrongFalsely : Prop := sumTextsRow.holds Tryd.pinned (OpenSpec.ofChange sumTextsWrong)

/-- 'colloquylaw20.SumParses': WHATEVER THE INPUT: true; the input reads as it did. -/
def sumParsesSpec : ChangeSpec := { name := "sumParses", fn := fun _ => fun
  | [d] => { results := [.lit (.bool true)], args := [d] }
  | _ => none }
def sumParsesRow : OpenClaim := { program := "ytplenagncmhhoaadoor", sum := "4d6ef4b033eb789dc5e35574bcc1ff888c96dee9fa2eb2b4b28e6aa50d0fdc56", func := "colloquy/colloquylaw20.SumParses", spec := "sumParses", inPlace := ["internal/abi.NoEscape", "internal/bytealg.MakeNoZero", "internal/bytealg.IndexByteString", "internal/bytealg.IndexString"], named := ["colloquy/trace.words", "internal/strconv.uint64pow10", "math/bits.deBruijn32tab", "math/bits.deBruijn64tab", "internal/bytealg.MaxLen"], apart := false, laid := [("math/bits.deBruijn32tab", laid_math_bits_deBruijn32tab), ("math/bits.deBruijn64tab", laid_math_bits_deBruijn64tab), ("internal/strconv.uint64pow10", laid_internal_strconv_uint64pow10), ("colloquy/trace.words", laid_colloquy_trace_words)] }
def SumParsesSaid : Prop := sumParsesRow.holds Tryd.pinned (OpenSpec.ofChange sumParsesSpec)

/-- ITS FALSE NEIGHBOUR: 'it returns false'. Refute it at one input. -/
def sumParsesWrong : ChangeSpec := { name := "sumParses", fn := fun _ => fun
  | [d] => { results := [.lit (.bool false)], args := [d] }
  | _ => none }
def SumParsesWrongFalsely : Prop := sumParsesRow.holds Tryd.pinned (OpenSpec.ofChange sumParsesWrong)

/-- 'colloquylaw20.SumBack': WHATEVER THE INPUT: true; the input reads as it did. -/
def sumBackSpec : ChangeSpec := { name := "sumBack", fn := fun _ => fun
  | [d] => { results := [.lit (.bool true)], args := [d] }
  | _ => none }
def sumBackRow : OpenClaim := { program := "ytplenagncmhhoaadoor", sum := "4d6ef4b033eb789dc5e35574bcc1ff888c96dee9fa2eb2b4b28e6aa50d0fdc56", func := "colloquy/colloquylaw20.SumBack", spec := "sumBack", inPlace := ["internal/abi.NoEscape", "internal/bytealg.MakeNoZero", "internal/bytealg.IndexByteString", "internal/bytealg.IndexString"], named := ["colloquy/trace.words", "internal/strconv.uint64pow10", "math/bits.deBruijn32tab", "math/bits.deBruijn64tab", "internal/bytealg.MaxLen"], apart := false, laid := [("math/bits.deBruijn32tab", laid_math_bits_deBruijn32tab), ("math/bits.deBruijn64tab", laid_math_bits_deBruijn64tab), ("internal/strconv.uint64pow10", laid_internal_strconv_uint64pow10), ("colloquy/trace.words", laid_colloquy_trace_words)] }
def SumBackSaid : Prop := sumBackRow.holds Tryd.pinned (OpenSpec.ofChange sumBackSpec)

/-- ITS FALSE NEIGHBOUR: 'it returns false'. Refute it at one input. -/
def sumBackWrong : ChangeSpec := { name := "sumBack", fn := fun _ => fun
  | [d] => { results := [.lit (.bool false)], args := [d] }
  | _ => none }
def SumBackWrongFalsely : Prop := sumBackRow.holds Tryd.pinned (OpenSpec.ofChange sumBackWrong)

/-- 'colloquylaw20.SumCuts': WHATEVER THE INPUT: true; the input reads as it did. -/
def sumCutsSpec : ChangeSpec := { name := "sumCuts", fn := fun _ => fun
  | [d1, d2, d3] => { results := [.lit (.bool true)], args := [d1, d2, d3] }
  | _ => none }
def sumCutsRow : OpenClaim := { program := "ytplenagncmhhoaadoor", sum := "4d6ef4b033eb789dc5e35574bcc1ff888c96dee9fa2eb2b4b28e6aa50d0fdc56", func := "colloquy/colloquylaw20.SumCuts", spec := "sumCuts", inPlace := ["internal/abi.NoEscape", "internal/bytealg.MakeNoZero", "internal/bytealg.IndexByteString", "internal/bytealg.IndexString"], named := ["colloquy/trace.words", "internal/strconv.uint64pow10", "math/bits.deBruijn32tab", "math/bits.deBruijn64tab", "internal/bytealg.MaxLen"], apart := false, laid := [("math/bits.deBruijn32tab", laid_math_bits_deBruijn32tab), ("math/bits.deBruijn64tab", laid_math_bits_deBruijn64tab), ("internal/strconv.uint64pow10", laid_internal_strconv_uint64pow10), ("colloquy/trace.words", laid_colloquy_trace_words)] }
def SumCutsSaid : Prop := sumCutsRow.holds Tryd.pinned (OpenSpec.ofChange sumCutsSpec)

/-- ITS FALSE NEIGHBOUR: 'it returns false'. Refute it at one input. -/
def sumCutsWrong : ChangeSpec := { name := "sumCuts", fn := fun _ => fun
  | [d1, d2, d3] => { results := [.lit (.bool false)], args := [d1, d2, d3] }
  | _ => none }
def SumCutsWrongFalsely : Prop := sumCutsRow.holds Tryd.pinned (OpenSpec.ofChange sumCutsWrong)

/-- 'colloquylaw20.SumForges': WHATEVER THE INPUT: true; the input reads as it did. -/
def sumForgesSpec : ChangeSpec := { name := "sumForges", fn := fun _ => fun
  | [d1, d2, d3] => { results := [.lit (.bool true)], args := [d1, d2, d3] }
  | _ => none }
def sumForgesRow : OpenClaim := { program := "ytplenagncmhhoaadoor", sum := "4d6ef4b033eb789dc5e35574bcc1ff888c96dee9fa2eb2b4b28e6aa50d0fdc56", func := "colloquy/colloquylaw20.SumForges", spec := "sumForges", inPlace := ["internal/abi.NoEscape", "internal/bytealg.MakeNoZero", "internal/bytealg.IndexByteString", "internal/bytealg.IndexString"], named := ["colloquy/trace.words", "internal/strconv.uint64pow10", "math/bits.deBruijn32tab", "math/bits.deBruijn64tab", "internal/bytealg.MaxLen"], apart := false, laid := [("math/bits.deBruijn32tab", laid_math_bits_deBruijn32tab), ("math/bits.deBruijn64tab", laid_math_bits_deBruijn64tab), ("internal/strconv.uint64pow10", laid_internal_strconv_uint64pow10), ("colloquy/trace.words", laid_colloquy_trace_words)] }
def SumForgesSaid : Prop := sumForgesRow.holds Tryd.pinned (OpenSpec.ofChange sumForgesSpec)

/-- ITS FALSE NEIGHBOUR: 'it returns false'. Refute it at one input. -/
def sumForgesWrong : ChangeSpec := { name := "sumForges", fn := fun _ => fun
  | [d1, d2, d3] => { results := [.lit (.bool false)], args := [d1, d2, d3] }
  | _ => none }
def SumForgesWrongFalsely : Prop := sumForgesRow.holds Tryd.pinned (OpenSpec.ofChange sumForgesWrong)

/-- 'colloquylaw20.SumParts': WHATEVER THE INPUT: true; the input reads as it did. -/
def sumPartsSpec : ChangeSpec := { name := "sumParts", fn := fun _ => fun
  | [d1, d2] => { results := [.lit (.bool true)], args := [d1, d2] }
  | _ => none }
def sumPartsRow : OpenClaim := { program := "ytplenagncmhhoaadoor", sum := "4d6ef4b033eb789dc5e35574bcc1ff888c96dee9fa2eb2b4b28e6aa50d0fdc56", func := "colloquy/colloquylaw20.SumParts", spec := "sumParts", inPlace := ["internal/abi.NoEscape", "internal/bytealg.MakeNoZero", "internal/bytealg.IndexByteString", "internal/bytealg.IndexString"], named := ["colloquy/trace.words", "internal/strconv.uint64pow10", "math/bits.deBruijn32tab", "math/bits.deBruijn64tab", "internal/bytealg.MaxLen"], apart := false, laid := [("math/bits.deBruijn32tab", laid_math_bits_deBruijn32tab), ("math/bits.deBruijn64tab", laid_math_bits_deBruijn64tab), ("internal/strconv.uint64pow10", laid_internal_strconv_uint64pow10), ("colloquy/trace.words", laid_colloquy_trace_words)] }
def SumPartsSaid : Prop := sumPartsRow.holds Tryd.pinned (OpenSpec.ofChange sumPartsSpec)

/-- ITS FALSE NEIGHBOUR: 'it returns false'. Refute it at one input. -/
def sumPartsWrong : ChangeSpec := { name := "sumParts", fn := fun _ => fun
  | [d1, d2] => { results := [.lit (.bool false)], args := [d1, d2] }
  | _ => none }
def SumPartsWrongFalsely : Prop := sumPartsRow.holds Tryd.pinned (OpenSpec.ofChange sumPartsWrong)

/-- 'colloquylaw21.BookPacks': WHATEVER THE INPUT: true; the input reads as it did. -/
def bookPacksSpec : ChangeSpec := { name := "bookPacks", fn := fun _ => fun
  | [d] => { results := [.lit (.bool true)], args := [d] }
  | _ => none }
def bookPacksRow : OpenClaim := { program := "ytplenagncmhhoaadoor", sum := "4d6ef4b033eb789dc5e35574bcc1ff888c96dee9fa2eb2b4b28e6aa50d0fdc56", func := "colloquy/colloquylaw21.BookPacks", spec := "bookPacks", unfollowed := true, recurses := true, named := ["colloquy/trace.words"], apart := false, laid := [("colloquy/trace.words", laid_colloquy_trace_words)] }
def BookPacksSaid : Prop := bookPacksRow.holds Tryd.pinned (OpenSpec.ofChange bookPacksSpec)

/-- ITS FALSE NEIGHBOUR: 'it returns false'. Refute it at one input. -/
def bookPacksWrong : ChangeSpec := { name := "bookPacks", fn := fun _ => fun
  | [d] => { results := [.lit (.bool false)], args := [d] }
  | _ => none }
def BookPacksWrongFalsely : Prop := bookPacksRow.holds Tryd.pinned (OpenSpec.ofChange bookPacksWrong)

/-- 'colloquylaw21.BookUnpacks': WHATEVER THE INPUT: true; the input reads as it did. -/
def bookUnpacksSpec : ChangeSpec := { name := "bookUnpacks", fn := fun _ => fun
  | [d] => { results := [.lit (.bool true)], args := [d] }
  | _ => none }
def bookUnpacksRow : OpenClaim := { program := "ytplenagncmhhoaadoor", sum := "4d6ef4b033eb789dc5e35574bcc1ff888c96dee9fa2eb2b4b28e6aa50d0fdc56", func := "colloquy/colloquylaw21.BookUnpacks", spec := "bookUnpacks", unfollowed := true, recurses := true, named := ["colloquy/trace.words"], apart := false, laid := [("colloquy/trace.words", laid_colloquy_trace_words)] }
def BookUnpacksSaid : Prop := bookUnpacksRow.holds Tryd.pinned (OpenSpec.ofChange bookUnpacksSpec)

/-- ITS FALSE NEIGHBOUR: 'it returns false'. Refute it at one input. -/
def bookUnpacksWrong : ChangeSpec := { name := "bookUnpacks", fn := fun _ => fun
  | [d] => { results := [.lit (.bool false)], args := [d] }
  | _ => none }
def BookUnpacksWrongFalsely : Prop := bookUnpacksRow.holds Tryd.pinned (OpenSpec.ofChange bookUnpacksWrong)

/-- 'colloquylaw21.BookTurns': WHATEVER THE INPUT: true; the input reads as it did. -/
def bookTurnsSpec : ChangeSpec := { name := "bookTurns", fn := fun _ => fun
  | [d1, d2, d3] => { results := [.lit (.bool true)], args := [d1, d2, d3] }
  | _ => none }
def bookTurnsRow : OpenClaim := { program := "ytplenagncmhhoaadoor", sum := "4d6ef4b033eb789dc5e35574bcc1ff888c96dee9fa2eb2b4b28e6aa50d0fdc56", func := "colloquy/colloquylaw21.BookTurns", spec := "bookTurns", unfollowed := true, recurses := true, named := ["colloquy/trace.words"], apart := false, laid := [("colloquy/trace.words", laid_colloquy_trace_words)] }
def BookTurnsSaid : Prop := bookTurnsRow.holds Tryd.pinned (OpenSpec.ofChange bookTurnsSpec)

/-- ITS FALSE NEIGHBOUR: 'it returns false'. Refute it at one input. -/
def bookTurnsWrong : ChangeSpec := { name := "bookTurns", fn := fun _ => fun
  | [d1, d2, d3] => { results := [.lit (.bool false)], args := [d1, d2, d3] }
  | _ => none }
def BookTurnsWrongFalsely : Prop := bookTurnsRow.holds Tryd.pinned (OpenSpec.ofChange bookTurnsWrong)

/- THE SECOND FORM. 'bulk': how many values and letters a reading holds, each counted each time it is reached (what is shared counts as often as it is met; a slice's spare places count too). A statement '..UptoSaid' is the law's where the arguments, and the package variables that the reading takes, are together of bulk at most 1048576: NARROWER than '..Said'. Prove '..Said' where nothing that the law and all that it calls make is longer than what came in: it says more and counts as full. Else prove '..UptoSaid'. A law counts once. -/
mutual
def uptoBulk {H : Type} : DataW H → Nat
  | .lit (.string bytes) => bytes.length + 1
  | .lit _ => 1
  | .nil => 1
  | .ptr d => uptoBulk d + 1
  | .slice elems spare => uptoBulkAll elems + uptoBulkAll spare + 1
  | .agg parts => uptoBulkAll parts + 1
  | .iface _ d => uptoBulk d + 1
  | .map entries => uptoBulkEntries entries + 1
  | .held _ => 1
def uptoBulkAll {H : Type} : List (DataW H) → Nat
  | [] => 0
  | d :: r => uptoBulk d + uptoBulkAll r
def uptoBulkEntries {H : Type} : List (Lit × DataW H) → Nat
  | [] => 0
  | x :: r => uptoBulkEntry x + uptoBulkEntries r
def uptoBulkEntry {H : Type} : Lit × DataW H → Nat
  | (.string bytes, d) => bytes.length + uptoBulk d + 1
  | (_, d) => uptoBulk d + 1
 end
def uptoSmall : (H : Type) → List (DataW H) → Bool := fun _ ds => decide (uptoBulkAll ds ≤ 1048576)
def OpenSpec.upto (s : _root_.Go.ChangeSpec) : _root_.Go.OpenSpec := { _root_.Go.OpenSpec.ofChange s with cond := some uptoSmall }

/-- 'colloquylaw20.SumTexts', WHERE WHAT IT READS IS OF BULK AT MOST 1048576: true; the input reads as it did. -/
def sumTextsUptoRow : OpenClaim := { program := "ytplenagncmhhoaadoor", sum := "4d6ef4b033eb789dc5e35574bcc1ff888c96dee9fa2eb2b4b28e6aa50d0fdc56", func := "colloquy/colloquylaw20.SumTexts", spec := "sumTexts", inPlace := ["internal/abi.NoEscape", "internal/bytealg.MakeNoZero", "internal/bytealg.IndexByteString", "internal/bytealg.IndexString"], named := ["colloquy/trace.words", "internal/strconv.uint64pow10", "math/bits.deBruijn32tab", "math/bits.deBruijn64tab", "internal/bytealg.MaxLen"], apart := false, laid := [("math/bits.deBruijn32tab", laid_math_bits_deBruijn32tab), ("math/bits.deBruijn64tab", laid_math_bits_deBruijn64tab), ("internal/strconv.uint64pow10", laid_internal_strconv_uint64pow10), ("colloquy/trace.words", laid_colloquy_trace_words)], narrowed := true }
def SumTextsUptoSaid : Prop := sumTextsUptoRow.holds Tryd.pinned (OpenSpec.upto sumTextsSpec)

/-- 'colloquylaw20.SumParses', WHERE WHAT IT READS IS OF BULK AT MOST 1048576: true; the input reads as it did. -/
def sumParsesUptoRow : OpenClaim := { program := "ytplenagncmhhoaadoor", sum := "4d6ef4b033eb789dc5e35574bcc1ff888c96dee9fa2eb2b4b28e6aa50d0fdc56", func := "colloquy/colloquylaw20.SumParses", spec := "sumParses", inPlace := ["internal/abi.NoEscape", "internal/bytealg.MakeNoZero", "internal/bytealg.IndexByteString", "internal/bytealg.IndexString"], named := ["colloquy/trace.words", "internal/strconv.uint64pow10", "math/bits.deBruijn32tab", "math/bits.deBruijn64tab", "internal/bytealg.MaxLen"], apart := false, laid := [("math/bits.deBruijn32tab", laid_math_bits_deBruijn32tab), ("math/bits.deBruijn64tab", laid_math_bits_deBruijn64tab), ("internal/strconv.uint64pow10", laid_internal_strconv_uint64pow10), ("colloquy/trace.words", laid_colloquy_trace_words)], narrowed := true }
def SumParsesUptoSaid : Prop := sumParsesUptoRow.holds Tryd.pinned (OpenSpec.upto sumParsesSpec)

/-- 'colloquylaw20.SumBack', WHERE WHAT IT READS IS OF BULK AT MOST 1048576: true; the input reads as it did. -/
def sumBackUptoRow : OpenClaim := { program := "ytplenagncmhhoaadoor", sum := "4d6ef4b033eb789dc5e35574bcc1ff888c96dee9fa2eb2b4b28e6aa50d0fdc56", func := "colloquy/colloquylaw20.SumBack", spec := "sumBack", inPlace := ["internal/abi.NoEscape", "internal/bytealg.MakeNoZero", "internal/bytealg.IndexByteString", "internal/bytealg.IndexString"], named := ["colloquy/trace.words", "internal/strconv.uint64pow10", "math/bits.deBruijn32tab", "math/bits.deBruijn64tab", "internal/bytealg.MaxLen"], apart := false, laid := [("math/bits.deBruijn32tab", laid_math_bits_deBruijn32tab), ("math/bits.deBruijn64tab", laid_math_bits_deBruijn64tab), ("internal/strconv.uint64pow10", laid_internal_strconv_uint64pow10), ("colloquy/trace.words", laid_colloquy_trace_words)], narrowed := true }
def SumBackUptoSaid : Prop := sumBackUptoRow.holds Tryd.pinned (OpenSpec.upto sumBackSpec)

/-- 'colloquylaw20.SumCuts', WHERE WHAT IT READS IS OF BULK AT MOST 1048576: true; the input reads as it did. -/
def sumCutsUptoRow : OpenClaim := { program := "ytplenagncmhhoaadoor", sum := "4d6ef4b033eb789dc5e35574bcc1ff888c96dee9fa2eb2b4b28e6aa50d0fdc56", func := "colloquy/colloquylaw20.SumCuts", spec := "sumCuts", inPlace := ["internal/abi.NoEscape", "internal/bytealg.MakeNoZero", "internal/bytealg.IndexByteString", "internal/bytealg.IndexString"], named := ["colloquy/trace.words", "internal/strconv.uint64pow10", "math/bits.deBruijn32tab", "math/bits.deBruijn64tab", "internal/bytealg.MaxLen"], apart := false, laid := [("math/bits.deBruijn32tab", laid_math_bits_deBruijn32tab), ("math/bits.deBruijn64tab", laid_math_bits_deBruijn64tab), ("internal/strconv.uint64pow10", laid_internal_strconv_uint64pow10), ("colloquy/trace.words", laid_colloquy_trace_words)], narrowed := true }
def SumCutsUptoSaid : Prop := sumCutsUptoRow.holds Tryd.pinned (OpenSpec.upto sumCutsSpec)

/-- 'colloquylaw20.SumForges', WHERE WHAT IT READS IS OF BULK AT MOST 1048576: true; the input reads as it did. -/
def sumForgesUptoRow : OpenClaim := { program := "ytplenagncmhhoaadoor", sum := "4d6ef4b033eb789dc5e35574bcc1ff888c96dee9fa2eb2b4b28e6aa50d0fdc56", func := "colloquy/colloquylaw20.SumForges", spec := "sumForges", inPlace := ["internal/abi.NoEscape", "internal/bytealg.MakeNoZero", "internal/bytealg.IndexByteString", "internal/bytealg.IndexString"], named := ["colloquy/trace.words", "internal/strconv.uint64pow10", "math/bits.deBruijn32tab", "math/bits.deBruijn64tab", "internal/bytealg.MaxLen"], apart := false, laid := [("math/bits.deBruijn32tab", laid_math_bits_deBruijn32tab), ("math/bits.deBruijn64tab", laid_math_bits_deBruijn64tab), ("internal/strconv.uint64pow10", laid_internal_strconv_uint64pow10), ("colloquy/trace.words", laid_colloquy_trace_words)], narrowed := true }
def SumForgesUptoSaid : Prop := sumForgesUptoRow.holds Tryd.pinned (OpenSpec.upto sumForgesSpec)

/-- 'colloquylaw20.SumParts', WHERE WHAT IT READS IS OF BULK AT MOST 1048576: true; the input reads as it did. -/
def sumPartsUptoRow : OpenClaim := { program := "ytplenagncmhhoaadoor", sum := "4d6ef4b033eb789dc5e35574bcc1ff888c96dee9fa2eb2b4b28e6aa50d0fdc56", func := "colloquy/colloquylaw20.SumParts", spec := "sumParts", inPlace := ["internal/abi.NoEscape", "internal/bytealg.MakeNoZero", "internal/bytealg.IndexByteString", "internal/bytealg.IndexString"], named := ["colloquy/trace.words", "internal/strconv.uint64pow10", "math/bits.deBruijn32tab", "math/bits.deBruijn64tab", "internal/bytealg.MaxLen"], apart := false, laid := [("math/bits.deBruijn32tab", laid_math_bits_deBruijn32tab), ("math/bits.deBruijn64tab", laid_math_bits_deBruijn64tab), ("internal/strconv.uint64pow10", laid_internal_strconv_uint64pow10), ("colloquy/trace.words", laid_colloquy_trace_words)], narrowed := true }
def SumPartsUptoSaid : Prop := sumPartsUptoRow.holds Tryd.pinned (OpenSpec.upto sumPartsSpec)

/-- 'colloquylaw21.BookPacks', WHERE WHAT IT READS IS OF BULK AT MOST 1048576: true; the input reads as it did. -/
def bookPacksUptoRow : OpenClaim := { program := "ytplenagncmhhoaadoor", sum := "4d6ef4b033eb789dc5e35574bcc1ff888c96dee9fa2eb2b4b28e6aa50d0fdc56", func := "colloquy/colloquylaw21.BookPacks", spec := "bookPacks", unfollowed := true, recurses := true, named := ["colloquy/trace.words"], apart := false, laid := [("colloquy/trace.words", laid_colloquy_trace_words)], narrowed := true }
def BookPacksUptoSaid : Prop := bookPacksUptoRow.holds Tryd.pinned (OpenSpec.upto bookPacksSpec)

/-- 'colloquylaw21.BookUnpacks', WHERE WHAT IT READS IS OF BULK AT MOST 1048576: true; the input reads as it did. -/
def bookUnpacksUptoRow : OpenClaim := { program := "ytplenagncmhhoaadoor", sum := "4d6ef4b033eb789dc5e35574bcc1ff888c96dee9fa2eb2b4b28e6aa50d0fdc56", func := "colloquy/colloquylaw21.BookUnpacks", spec := "bookUnpacks", unfollowed := true, recurses := true, named := ["colloquy/trace.words"], apart := false, laid := [("colloquy/trace.words", laid_colloquy_trace_words)], narrowed := true }
def BookUnpacksUptoSaid : Prop := bookUnpacksUptoRow.holds Tryd.pinned (OpenSpec.upto bookUnpacksSpec)

/-- 'colloquylaw21.BookTurns', WHERE WHAT IT READS IS OF BULK AT MOST 1048576: true; the input reads as it did. -/
def bookTurnsUptoRow : OpenClaim := { program := "ytplenagncmhhoaadoor", sum := "4d6ef4b033eb789dc5e35574bcc1ff888c96dee9fa2eb2b4b28e6aa50d0fdc56", func := "colloquy/colloquylaw21.BookTurns", spec := "bookTurns", unfollowed := true, recurses := true, named := ["colloquy/trace.words"], apart := false, laid := [("colloquy/trace.words", laid_colloquy_trace_words)], narrowed := true }
def BookTurnsUptoSaid : Prop := bookTurnsUptoRow.holds Tryd.pinned (OpenSpec.upto bookTurnsSpec)

end Rows
end Go.Proofs.YtplenagncmhhoaaDoor
