/-
  DERIVED. GIVEN WITH THE SEED: THE CARDS: each row of YtmhfdpgkdpbbiaaDoorRows.lean that lists a variable, with what it lists TIED to the program's text (the seventh form; the later family's looks); each row that meets fmt, with fmt's text TOLD by the authors' own Lean function (tested against real Go, not proved from fmt's source: count such statements apart). THE CARD IS WHAT COUNTS. Prove the row's statement (the work); the ties are given (YtmhfdpgkdpbbiaaDoorTie.lean); close each card by the builder's one call (the guide's Derived/Test/ToyasCard.lean, 'card_holds'). Laid BY PROGRAM, IN A SANDBOX (cutbox-door.mjs). By AI agents, Wed Nov 11 2026. No macro, syntax, notation, axiom, sorry.
-/
import Derived.Test.YtmhfdpgkdpbbiaaDoorRows
import GoSem.ClaimSeven
namespace Go.Proofs.YtmhfdpgkdpbbiaaDoor
namespace Rows

/-- THE TIED CARD OF 'colloquylaw18.TraceWords'. -/
def traceWordsCard : Claim7 := { stood := { row := traceWordsRow, standIns := [], harness := (true, "b2118917c75b929288d3f89c1348baf95697fae7e66ec1afd9a3be4768f2de52"), looks := false }, kinds := [], alts := [], laidByText := true, laidKinds := [.data], laidTests := true, laidLooks := .later }
def TraceWordsCardSaid : Prop := Claim7.holds Tryd.pinned (.plain (OpenSpec.ofChange traceWordsSpec)) traceWordsCard

/-- THE SECOND FORM's CARD OF 'colloquylaw18.TraceWords'. -/
def traceWordsUptoCard : Claim7 := { stood := { row := traceWordsUptoRow, standIns := [], harness := (true, "b2118917c75b929288d3f89c1348baf95697fae7e66ec1afd9a3be4768f2de52"), looks := false }, kinds := [], alts := [], laidByText := true, laidKinds := [.data], laidTests := true, laidLooks := .later }
def TraceWordsUptoCardSaid : Prop := Claim7.holds Tryd.pinned (.plain (OpenSpec.upto traceWordsSpec)) traceWordsUptoCard
end Rows
end Go.Proofs.YtmhfdpgkdpbbiaaDoor
