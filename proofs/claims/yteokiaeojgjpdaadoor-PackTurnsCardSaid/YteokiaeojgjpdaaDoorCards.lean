/-
  DERIVED. GIVEN WITH THE SEED: THE CARDS: each row of YteokiaeojgjpdaaDoorRows.lean that lists a variable, with what it lists TIED to the program's text (the seventh form; the later family's looks); each row that meets fmt, with fmt's text TOLD by the authors' own Lean function (tested against real Go, not proved from fmt's source: count such statements apart). THE CARD IS WHAT COUNTS. Prove the row's statement (the work); the ties are given (YteokiaeojgjpdaaDoorTie.lean); close each card by the builder's one call (the guide's Derived/Test/ToyasCard.lean, 'card_holds'). Laid BY PROGRAM, IN A SANDBOX (cutbox-door.mjs). By AI agents, Wed Nov 11 2026. No macro, syntax, notation, axiom, sorry.
-/
import Derived.Test.YteokiaeojgjpdaaDoorRows
import GoSem.ClaimSeven
namespace Go.Proofs.YteokiaeojgjpdaaDoor
namespace Rows

/-- THE TIED CARD OF 'colloquylaw08.PackSums'. -/
def packSumsCard : Claim7 := { stood := { row := packSumsRow, standIns := [], harness := (true, "4d9308311ded3ef6dc358f8580a5536ff99a3520152d060d9c6b1e24d88e237c"), looks := true }, kinds := [], alts := [], laidByText := true, laidKinds := [.data], laidTests := true, laidLooks := .later }
def PackSumsCardSaid : Prop := Claim7.holds Tryd.pinned (.plain (OpenSpec.ofChange packSumsSpec)) packSumsCard

/-- THE TIED CARD OF 'colloquylaw08.PackRecords'. -/
def packRecordsCard : Claim7 := { stood := { row := packRecordsRow, standIns := [], harness := (true, "4d9308311ded3ef6dc358f8580a5536ff99a3520152d060d9c6b1e24d88e237c"), looks := true }, kinds := [], alts := [], laidByText := true, laidKinds := [.data], laidTests := true, laidLooks := .later }
def PackRecordsCardSaid : Prop := Claim7.holds Tryd.pinned (.plain (OpenSpec.ofChange packRecordsSpec)) packRecordsCard

/-- THE TIED CARD OF 'colloquylaw08.PackTurns'. -/
def packTurnsCard : Claim7 := { stood := { row := packTurnsRow, standIns := [], harness := (true, "4d9308311ded3ef6dc358f8580a5536ff99a3520152d060d9c6b1e24d88e237c"), looks := true }, kinds := [], alts := [], laidByText := true, laidKinds := [.data], laidTests := true, laidLooks := .later }
def PackTurnsCardSaid : Prop := Claim7.holds Tryd.pinned (.plain (OpenSpec.ofChange packTurnsSpec)) packTurnsCard

/-- THE TIED CARD OF 'colloquylaw09.JournalKeeps'. -/
def journalKeepsCard : Claim7 := { stood := { row := journalKeepsRow, standIns := [], harness := (true, "4d9308311ded3ef6dc358f8580a5536ff99a3520152d060d9c6b1e24d88e237c"), looks := true }, kinds := [], alts := [], laidByText := true, laidKinds := [.data], laidTests := true, laidLooks := .later }
def JournalKeepsCardSaid : Prop := Claim7.holds Tryd.pinned (.plain (OpenSpec.ofChange journalKeepsSpec)) journalKeepsCard

/-- THE TIED CARD OF 'colloquylaw09.JournalFull'. -/
def journalFullCard : Claim7 := { stood := { row := journalFullRow, standIns := [], harness := (true, "4d9308311ded3ef6dc358f8580a5536ff99a3520152d060d9c6b1e24d88e237c"), looks := true }, kinds := [], alts := [], laidByText := true, laidKinds := [.data], laidTests := true, laidLooks := .later }
def JournalFullCardSaid : Prop := Claim7.holds Tryd.pinned (.plain (OpenSpec.ofChange journalFullSpec)) journalFullCard

/-- THE TIED CARD OF 'colloquylaw09.JournalTorn'. -/
def journalTornCard : Claim7 := { stood := { row := journalTornRow, standIns := [], harness := (true, "4d9308311ded3ef6dc358f8580a5536ff99a3520152d060d9c6b1e24d88e237c"), looks := true }, kinds := [], alts := [], laidByText := true, laidKinds := [.data], laidTests := true, laidLooks := .later }
def JournalTornCardSaid : Prop := Claim7.holds Tryd.pinned (.plain (OpenSpec.ofChange journalTornSpec)) journalTornCard

/-- THE SECOND FORM's CARD OF 'colloquylaw08.PackSums'. -/
def packSumsUptoCard : Claim7 := { stood := { row := packSumsUptoRow, standIns := [], harness := (true, "4d9308311ded3ef6dc358f8580a5536ff99a3520152d060d9c6b1e24d88e237c"), looks := true }, kinds := [], alts := [], laidByText := true, laidKinds := [.data], laidTests := true, laidLooks := .later }
def PackSumsUptoCardSaid : Prop := Claim7.holds Tryd.pinned (.plain (OpenSpec.upto packSumsSpec)) packSumsUptoCard

/-- THE SECOND FORM's CARD OF 'colloquylaw08.PackRecords'. -/
def packRecordsUptoCard : Claim7 := { stood := { row := packRecordsUptoRow, standIns := [], harness := (true, "4d9308311ded3ef6dc358f8580a5536ff99a3520152d060d9c6b1e24d88e237c"), looks := true }, kinds := [], alts := [], laidByText := true, laidKinds := [.data], laidTests := true, laidLooks := .later }
def PackRecordsUptoCardSaid : Prop := Claim7.holds Tryd.pinned (.plain (OpenSpec.upto packRecordsSpec)) packRecordsUptoCard

/-- THE SECOND FORM's CARD OF 'colloquylaw08.PackTurns'. -/
def packTurnsUptoCard : Claim7 := { stood := { row := packTurnsUptoRow, standIns := [], harness := (true, "4d9308311ded3ef6dc358f8580a5536ff99a3520152d060d9c6b1e24d88e237c"), looks := true }, kinds := [], alts := [], laidByText := true, laidKinds := [.data], laidTests := true, laidLooks := .later }
def PackTurnsUptoCardSaid : Prop := Claim7.holds Tryd.pinned (.plain (OpenSpec.upto packTurnsSpec)) packTurnsUptoCard

/-- THE SECOND FORM's CARD OF 'colloquylaw09.JournalKeeps'. -/
def journalKeepsUptoCard : Claim7 := { stood := { row := journalKeepsUptoRow, standIns := [], harness := (true, "4d9308311ded3ef6dc358f8580a5536ff99a3520152d060d9c6b1e24d88e237c"), looks := true }, kinds := [], alts := [], laidByText := true, laidKinds := [.data], laidTests := true, laidLooks := .later }
def JournalKeepsUptoCardSaid : Prop := Claim7.holds Tryd.pinned (.plain (OpenSpec.upto journalKeepsSpec)) journalKeepsUptoCard

/-- THE SECOND FORM's CARD OF 'colloquylaw09.JournalFull'. -/
def journalFullUptoCard : Claim7 := { stood := { row := journalFullUptoRow, standIns := [], harness := (true, "4d9308311ded3ef6dc358f8580a5536ff99a3520152d060d9c6b1e24d88e237c"), looks := true }, kinds := [], alts := [], laidByText := true, laidKinds := [.data], laidTests := true, laidLooks := .later }
def JournalFullUptoCardSaid : Prop := Claim7.holds Tryd.pinned (.plain (OpenSpec.upto journalFullSpec)) journalFullUptoCard

/-- THE SECOND FORM's CARD OF 'colloquylaw09.JournalTorn'. -/
def journalTornUptoCard : Claim7 := { stood := { row := journalTornUptoRow, standIns := [], harness := (true, "4d9308311ded3ef6dc358f8580a5536ff99a3520152d060d9c6b1e24d88e237c"), looks := true }, kinds := [], alts := [], laidByText := true, laidKinds := [.data], laidTests := true, laidLooks := .later }
def JournalTornUptoCardSaid : Prop := Claim7.holds Tryd.pinned (.plain (OpenSpec.upto journalTornSpec)) journalTornUptoCard
end Rows
end Go.Proofs.YteokiaeojgjpdaaDoor
