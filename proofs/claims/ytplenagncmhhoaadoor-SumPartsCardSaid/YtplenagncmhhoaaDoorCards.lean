/-
  DERIVED. GIVEN WITH THE SEED: THE CARDS: each row of YtplenagncmhhoaaDoorRows.lean that lists a variable, with what it lists TIED to the program's text (the seventh form; the later family's looks); each row that meets fmt, with fmt's text TOLD by the authors' own Lean function (tested against real Go, not proved from fmt's source: count such statements apart). THE CARD IS WHAT COUNTS. Prove the row's statement (the work); the ties are given (YtplenagncmhhoaaDoorTie.lean); close each card by the builder's one call (the guide's Derived/Test/ToyasCard.lean, 'card_holds'). Laid BY PROGRAM, IN A SANDBOX (cutbox-door.mjs). By AI agents, Wed Nov 11 2026. No macro, syntax, notation, axiom, sorry.
-/
import Derived.Test.YtplenagncmhhoaaDoorRows
import GoSem.ClaimSeven
namespace Go.Proofs.YtplenagncmhhoaaDoor
namespace Rows

/-- THE TIED CARD OF 'colloquylaw20.SumTexts'. -/
def sumTextsCard : Claim7 := { stood := { row := sumTextsRow, standIns := [], harness := (true, "b81882a06f6daa1a344be8a8aa7b457e318d00ff3d25d9d71539da027798c460"), looks := true }, kinds := [], alts := [], laidByText := true, laidKinds := [.data, .data, .data, .data], laidTests := true, laidLooks := .later }
def SumTextsCardSaid : Prop := Claim7.holds Tryd.pinned (.plain (OpenSpec.ofChange sumTextsSpec)) sumTextsCard

/-- THE TIED CARD OF 'colloquylaw20.SumParses'. -/
def sumParsesCard : Claim7 := { stood := { row := sumParsesRow, standIns := [], harness := (true, "b81882a06f6daa1a344be8a8aa7b457e318d00ff3d25d9d71539da027798c460"), looks := true }, kinds := [], alts := [], laidByText := true, laidKinds := [.data, .data, .data, .data], laidTests := true, laidLooks := .later }
def SumParsesCardSaid : Prop := Claim7.holds Tryd.pinned (.plain (OpenSpec.ofChange sumParsesSpec)) sumParsesCard

/-- THE TIED CARD OF 'colloquylaw20.SumBack'. -/
def sumBackCard : Claim7 := { stood := { row := sumBackRow, standIns := [], harness := (true, "b81882a06f6daa1a344be8a8aa7b457e318d00ff3d25d9d71539da027798c460"), looks := true }, kinds := [], alts := [], laidByText := true, laidKinds := [.data, .data, .data, .data], laidTests := true, laidLooks := .later }
def SumBackCardSaid : Prop := Claim7.holds Tryd.pinned (.plain (OpenSpec.ofChange sumBackSpec)) sumBackCard

/-- THE TIED CARD OF 'colloquylaw20.SumCuts'. -/
def sumCutsCard : Claim7 := { stood := { row := sumCutsRow, standIns := [], harness := (true, "b81882a06f6daa1a344be8a8aa7b457e318d00ff3d25d9d71539da027798c460"), looks := true }, kinds := [], alts := [], laidByText := true, laidKinds := [.data, .data, .data, .data], laidTests := true, laidLooks := .later }
def SumCutsCardSaid : Prop := Claim7.holds Tryd.pinned (.plain (OpenSpec.ofChange sumCutsSpec)) sumCutsCard

/-- THE TIED CARD OF 'colloquylaw20.SumForges'. -/
def sumForgesCard : Claim7 := { stood := { row := sumForgesRow, standIns := [], harness := (true, "b81882a06f6daa1a344be8a8aa7b457e318d00ff3d25d9d71539da027798c460"), looks := true }, kinds := [], alts := [], laidByText := true, laidKinds := [.data, .data, .data, .data], laidTests := true, laidLooks := .later }
def SumForgesCardSaid : Prop := Claim7.holds Tryd.pinned (.plain (OpenSpec.ofChange sumForgesSpec)) sumForgesCard

/-- THE TIED CARD OF 'colloquylaw20.SumParts'. -/
def sumPartsCard : Claim7 := { stood := { row := sumPartsRow, standIns := [], harness := (true, "b81882a06f6daa1a344be8a8aa7b457e318d00ff3d25d9d71539da027798c460"), looks := true }, kinds := [], alts := [], laidByText := true, laidKinds := [.data, .data, .data, .data], laidTests := true, laidLooks := .later }
def SumPartsCardSaid : Prop := Claim7.holds Tryd.pinned (.plain (OpenSpec.ofChange sumPartsSpec)) sumPartsCard

/-- THE TIED CARD OF 'colloquylaw21.BookPacks'. -/
def bookPacksCard : Claim7 := { stood := { row := bookPacksRow, standIns := [], harness := (true, "b81882a06f6daa1a344be8a8aa7b457e318d00ff3d25d9d71539da027798c460"), looks := true }, kinds := [], alts := [], laidByText := true, laidKinds := [.data], laidTests := true, laidLooks := .later }
def BookPacksCardSaid : Prop := Claim7.holds Tryd.pinned (.plain (OpenSpec.ofChange bookPacksSpec)) bookPacksCard

/-- THE TIED CARD OF 'colloquylaw21.BookUnpacks'. -/
def bookUnpacksCard : Claim7 := { stood := { row := bookUnpacksRow, standIns := [], harness := (true, "b81882a06f6daa1a344be8a8aa7b457e318d00ff3d25d9d71539da027798c460"), looks := true }, kinds := [], alts := [], laidByText := true, laidKinds := [.data], laidTests := true, laidLooks := .later }
def BookUnpacksCardSaid : Prop := Claim7.holds Tryd.pinned (.plain (OpenSpec.ofChange bookUnpacksSpec)) bookUnpacksCard

/-- THE TIED CARD OF 'colloquylaw21.BookTurns'. -/
def bookTurnsCard : Claim7 := { stood := { row := bookTurnsRow, standIns := [], harness := (true, "b81882a06f6daa1a344be8a8aa7b457e318d00ff3d25d9d71539da027798c460"), looks := true }, kinds := [], alts := [], laidByText := true, laidKinds := [.data], laidTests := true, laidLooks := .later }
def BookTurnsCardSaid : Prop := Claim7.holds Tryd.pinned (.plain (OpenSpec.ofChange bookTurnsSpec)) bookTurnsCard

/-- THE SECOND FORM's CARD OF 'colloquylaw20.SumTexts'. -/
def sumTextsUptoCard : Claim7 := { stood := { row := sumTextsUptoRow, standIns := [], harness := (true, "b81882a06f6daa1a344be8a8aa7b457e318d00ff3d25d9d71539da027798c460"), looks := true }, kinds := [], alts := [], laidByText := true, laidKinds := [.data, .data, .data, .data], laidTests := true, laidLooks := .later }
def SumTextsUptoCardSaid : Prop := Claim7.holds Tryd.pinned (.plain (OpenSpec.upto sumTextsSpec)) sumTextsUptoCard

/-- THE SECOND FORM's CARD OF 'colloquylaw20.SumParses'. -/
def sumParsesUptoCard : Claim7 := { stood := { row := sumParsesUptoRow, standIns := [], harness := (true, "b81882a06f6daa1a344be8a8aa7b457e318d00ff3d25d9d71539da027798c460"), looks := true }, kinds := [], alts := [], laidByText := true, laidKinds := [.data, .data, .data, .data], laidTests := true, laidLooks := .later }
def SumParsesUptoCardSaid : Prop := Claim7.holds Tryd.pinned (.plain (OpenSpec.upto sumParsesSpec)) sumParsesUptoCard

/-- THE SECOND FORM's CARD OF 'colloquylaw20.SumBack'. -/
def sumBackUptoCard : Claim7 := { stood := { row := sumBackUptoRow, standIns := [], harness := (true, "b81882a06f6daa1a344be8a8aa7b457e318d00ff3d25d9d71539da027798c460"), looks := true }, kinds := [], alts := [], laidByText := true, laidKinds := [.data, .data, .data, .data], laidTests := true, laidLooks := .later }
def SumBackUptoCardSaid : Prop := Claim7.holds Tryd.pinned (.plain (OpenSpec.upto sumBackSpec)) sumBackUptoCard

/-- THE SECOND FORM's CARD OF 'colloquylaw20.SumCuts'. -/
def sumCutsUptoCard : Claim7 := { stood := { row := sumCutsUptoRow, standIns := [], harness := (true, "b81882a06f6daa1a344be8a8aa7b457e318d00ff3d25d9d71539da027798c460"), looks := true }, kinds := [], alts := [], laidByText := true, laidKinds := [.data, .data, .data, .data], laidTests := true, laidLooks := .later }
def SumCutsUptoCardSaid : Prop := Claim7.holds Tryd.pinned (.plain (OpenSpec.upto sumCutsSpec)) sumCutsUptoCard

/-- THE SECOND FORM's CARD OF 'colloquylaw20.SumForges'. -/
def sumForgesUptoCard : Claim7 := { stood := { row := sumForgesUptoRow, standIns := [], harness := (true, "b81882a06f6daa1a344be8a8aa7b457e318d00ff3d25d9d71539da027798c460"), looks := true }, kinds := [], alts := [], laidByText := true, laidKinds := [.data, .data, .data, .data], laidTests := true, laidLooks := .later }
def SumForgesUptoCardSaid : Prop := Claim7.holds Tryd.pinned (.plain (OpenSpec.upto sumForgesSpec)) sumForgesUptoCard

/-- THE SECOND FORM's CARD OF 'colloquylaw20.SumParts'. -/
def sumPartsUptoCard : Claim7 := { stood := { row := sumPartsUptoRow, standIns := [], harness := (true, "b81882a06f6daa1a344be8a8aa7b457e318d00ff3d25d9d71539da027798c460"), looks := true }, kinds := [], alts := [], laidByText := true, laidKinds := [.data, .data, .data, .data], laidTests := true, laidLooks := .later }
def SumPartsUptoCardSaid : Prop := Claim7.holds Tryd.pinned (.plain (OpenSpec.upto sumPartsSpec)) sumPartsUptoCard

/-- THE SECOND FORM's CARD OF 'colloquylaw21.BookPacks'. -/
def bookPacksUptoCard : Claim7 := { stood := { row := bookPacksUptoRow, standIns := [], harness := (true, "b81882a06f6daa1a344be8a8aa7b457e318d00ff3d25d9d71539da027798c460"), looks := true }, kinds := [], alts := [], laidByText := true, laidKinds := [.data], laidTests := true, laidLooks := .later }
def BookPacksUptoCardSaid : Prop := Claim7.holds Tryd.pinned (.plain (OpenSpec.upto bookPacksSpec)) bookPacksUptoCard

/-- THE SECOND FORM's CARD OF 'colloquylaw21.BookUnpacks'. -/
def bookUnpacksUptoCard : Claim7 := { stood := { row := bookUnpacksUptoRow, standIns := [], harness := (true, "b81882a06f6daa1a344be8a8aa7b457e318d00ff3d25d9d71539da027798c460"), looks := true }, kinds := [], alts := [], laidByText := true, laidKinds := [.data], laidTests := true, laidLooks := .later }
def BookUnpacksUptoCardSaid : Prop := Claim7.holds Tryd.pinned (.plain (OpenSpec.upto bookUnpacksSpec)) bookUnpacksUptoCard

/-- THE SECOND FORM's CARD OF 'colloquylaw21.BookTurns'. -/
def bookTurnsUptoCard : Claim7 := { stood := { row := bookTurnsUptoRow, standIns := [], harness := (true, "b81882a06f6daa1a344be8a8aa7b457e318d00ff3d25d9d71539da027798c460"), looks := true }, kinds := [], alts := [], laidByText := true, laidKinds := [.data], laidTests := true, laidLooks := .later }
def BookTurnsUptoCardSaid : Prop := Claim7.holds Tryd.pinned (.plain (OpenSpec.upto bookTurnsSpec)) bookTurnsUptoCard
end Rows
end Go.Proofs.YtplenagncmhhoaaDoor
