/-
  DERIVED. GIVEN WITH THE SEED: THE CARDS: each row of YtmicjadbahicfaaDoorRows.lean that lists a variable, with what it lists TIED to the program's text (the seventh form; the later family's looks); each row that meets fmt, with fmt's text TOLD by the authors' own Lean function (tested against real Go, not proved from fmt's source: count such statements apart). THE CARD IS WHAT COUNTS. Prove the row's statement (the work); the ties are given (YtmicjadbahicfaaDoorTie.lean); close each card by the builder's one call (the guide's Derived/Test/ToyasCard.lean, 'card_holds'). Laid BY PROGRAM, IN A SANDBOX (cutbox-door.mjs). By AI agents, Wed Nov 11 2026. No macro, syntax, notation, axiom, sorry.
-/
import Derived.Test.YtmicjadbahicfaaDoorRows
import GoSem.ClaimSeven
namespace Go.Proofs.YtmicjadbahicfaaDoor
namespace Rows

/-- THE TIED CARD OF 'colloquylaw02.NameCmp'. -/
def nameCmpCard : Claim7 := { stood := { row := nameCmpRow, standIns := [], harness := (true, "66af2aa46245f31be2d27a72727409d95c0062332943011b78b4e7bb93a1796c"), looks := false }, kinds := [], alts := [], laidByText := true, laidKinds := [.data, .pinned], laidTests := true, laidLooks := .later }
def NameCmpCardSaid : Prop := Claim7.holds Tryd.pinned (.plain (OpenSpec.ofChange nameCmpSpec)) nameCmpCard

/-- THE TIED CARD OF 'colloquylaw02.NameOrder'. -/
def nameOrderCard : Claim7 := { stood := { row := nameOrderRow, standIns := [], harness := (true, "66af2aa46245f31be2d27a72727409d95c0062332943011b78b4e7bb93a1796c"), looks := false }, kinds := [], alts := [], laidByText := true, laidKinds := [.data, .pinned], laidTests := true, laidLooks := .later }
def NameOrderCardSaid : Prop := Claim7.holds Tryd.pinned (.plain (OpenSpec.ofChange nameOrderSpec)) nameOrderCard

/-- THE TIED CARD OF 'colloquylaw02.NameNumbers'. -/
def nameNumbersCard : Claim7 := { stood := { row := nameNumbersRow, standIns := [], harness := (true, "66af2aa46245f31be2d27a72727409d95c0062332943011b78b4e7bb93a1796c"), looks := false }, kinds := [], alts := [], laidByText := true, laidKinds := [.data, .pinned], laidTests := true, laidLooks := .later }
def NameNumbersCardSaid : Prop := Claim7.holds Tryd.pinned (.plain (OpenSpec.ofChange nameNumbersSpec)) nameNumbersCard

/-- THE TIED CARD OF 'colloquylaw20.SumTexts'. -/
def sumTextsCard : Claim7 := { stood := { row := sumTextsRow, standIns := [], harness := (true, "66af2aa46245f31be2d27a72727409d95c0062332943011b78b4e7bb93a1796c"), looks := false }, kinds := [], alts := [], laidByText := true, laidKinds := [.data, .data, .data, .data], laidTests := true, laidLooks := .later }
def SumTextsCardSaid : Prop := Claim7.holds Tryd.pinned (.plain (OpenSpec.ofChange sumTextsSpec)) sumTextsCard

/-- THE TIED CARD OF 'colloquylaw20.SumParses'. -/
def sumParsesCard : Claim7 := { stood := { row := sumParsesRow, standIns := [], harness := (true, "66af2aa46245f31be2d27a72727409d95c0062332943011b78b4e7bb93a1796c"), looks := false }, kinds := [], alts := [], laidByText := true, laidKinds := [.data, .data, .data, .data], laidTests := true, laidLooks := .later }
def SumParsesCardSaid : Prop := Claim7.holds Tryd.pinned (.plain (OpenSpec.ofChange sumParsesSpec)) sumParsesCard

/-- THE TIED CARD OF 'colloquylaw20.SumBack'. -/
def sumBackCard : Claim7 := { stood := { row := sumBackRow, standIns := [], harness := (true, "66af2aa46245f31be2d27a72727409d95c0062332943011b78b4e7bb93a1796c"), looks := false }, kinds := [], alts := [], laidByText := true, laidKinds := [.data, .data, .data, .data], laidTests := true, laidLooks := .later }
def SumBackCardSaid : Prop := Claim7.holds Tryd.pinned (.plain (OpenSpec.ofChange sumBackSpec)) sumBackCard

/-- THE TIED CARD OF 'colloquylaw20.SumCuts'. -/
def sumCutsCard : Claim7 := { stood := { row := sumCutsRow, standIns := [], harness := (true, "66af2aa46245f31be2d27a72727409d95c0062332943011b78b4e7bb93a1796c"), looks := false }, kinds := [], alts := [], laidByText := true, laidKinds := [.data, .data, .data, .data], laidTests := true, laidLooks := .later }
def SumCutsCardSaid : Prop := Claim7.holds Tryd.pinned (.plain (OpenSpec.ofChange sumCutsSpec)) sumCutsCard

/-- THE TIED CARD OF 'colloquylaw20.SumForges'. -/
def sumForgesCard : Claim7 := { stood := { row := sumForgesRow, standIns := [], harness := (true, "66af2aa46245f31be2d27a72727409d95c0062332943011b78b4e7bb93a1796c"), looks := false }, kinds := [], alts := [], laidByText := true, laidKinds := [.data, .data, .data, .data], laidTests := true, laidLooks := .later }
def SumForgesCardSaid : Prop := Claim7.holds Tryd.pinned (.plain (OpenSpec.ofChange sumForgesSpec)) sumForgesCard

/-- THE SECOND FORM's CARD OF 'colloquylaw02.NameCmp'. -/
def nameCmpUptoCard : Claim7 := { stood := { row := nameCmpUptoRow, standIns := [], harness := (true, "66af2aa46245f31be2d27a72727409d95c0062332943011b78b4e7bb93a1796c"), looks := false }, kinds := [], alts := [], laidByText := true, laidKinds := [.data, .pinned], laidTests := true, laidLooks := .later }
def NameCmpUptoCardSaid : Prop := Claim7.holds Tryd.pinned (.plain (OpenSpec.upto nameCmpSpec)) nameCmpUptoCard

/-- THE SECOND FORM's CARD OF 'colloquylaw02.NameOrder'. -/
def nameOrderUptoCard : Claim7 := { stood := { row := nameOrderUptoRow, standIns := [], harness := (true, "66af2aa46245f31be2d27a72727409d95c0062332943011b78b4e7bb93a1796c"), looks := false }, kinds := [], alts := [], laidByText := true, laidKinds := [.data, .pinned], laidTests := true, laidLooks := .later }
def NameOrderUptoCardSaid : Prop := Claim7.holds Tryd.pinned (.plain (OpenSpec.upto nameOrderSpec)) nameOrderUptoCard

/-- THE SECOND FORM's CARD OF 'colloquylaw02.NameNumbers'. -/
def nameNumbersUptoCard : Claim7 := { stood := { row := nameNumbersUptoRow, standIns := [], harness := (true, "66af2aa46245f31be2d27a72727409d95c0062332943011b78b4e7bb93a1796c"), looks := false }, kinds := [], alts := [], laidByText := true, laidKinds := [.data, .pinned], laidTests := true, laidLooks := .later }
def NameNumbersUptoCardSaid : Prop := Claim7.holds Tryd.pinned (.plain (OpenSpec.upto nameNumbersSpec)) nameNumbersUptoCard

/-- THE SECOND FORM's CARD OF 'colloquylaw20.SumTexts'. -/
def sumTextsUptoCard : Claim7 := { stood := { row := sumTextsUptoRow, standIns := [], harness := (true, "66af2aa46245f31be2d27a72727409d95c0062332943011b78b4e7bb93a1796c"), looks := false }, kinds := [], alts := [], laidByText := true, laidKinds := [.data, .data, .data, .data], laidTests := true, laidLooks := .later }
def SumTextsUptoCardSaid : Prop := Claim7.holds Tryd.pinned (.plain (OpenSpec.upto sumTextsSpec)) sumTextsUptoCard

/-- THE SECOND FORM's CARD OF 'colloquylaw20.SumParses'. -/
def sumParsesUptoCard : Claim7 := { stood := { row := sumParsesUptoRow, standIns := [], harness := (true, "66af2aa46245f31be2d27a72727409d95c0062332943011b78b4e7bb93a1796c"), looks := false }, kinds := [], alts := [], laidByText := true, laidKinds := [.data, .data, .data, .data], laidTests := true, laidLooks := .later }
def SumParsesUptoCardSaid : Prop := Claim7.holds Tryd.pinned (.plain (OpenSpec.upto sumParsesSpec)) sumParsesUptoCard

/-- THE SECOND FORM's CARD OF 'colloquylaw20.SumBack'. -/
def sumBackUptoCard : Claim7 := { stood := { row := sumBackUptoRow, standIns := [], harness := (true, "66af2aa46245f31be2d27a72727409d95c0062332943011b78b4e7bb93a1796c"), looks := false }, kinds := [], alts := [], laidByText := true, laidKinds := [.data, .data, .data, .data], laidTests := true, laidLooks := .later }
def SumBackUptoCardSaid : Prop := Claim7.holds Tryd.pinned (.plain (OpenSpec.upto sumBackSpec)) sumBackUptoCard

/-- THE SECOND FORM's CARD OF 'colloquylaw20.SumCuts'. -/
def sumCutsUptoCard : Claim7 := { stood := { row := sumCutsUptoRow, standIns := [], harness := (true, "66af2aa46245f31be2d27a72727409d95c0062332943011b78b4e7bb93a1796c"), looks := false }, kinds := [], alts := [], laidByText := true, laidKinds := [.data, .data, .data, .data], laidTests := true, laidLooks := .later }
def SumCutsUptoCardSaid : Prop := Claim7.holds Tryd.pinned (.plain (OpenSpec.upto sumCutsSpec)) sumCutsUptoCard

/-- THE SECOND FORM's CARD OF 'colloquylaw20.SumForges'. -/
def sumForgesUptoCard : Claim7 := { stood := { row := sumForgesUptoRow, standIns := [], harness := (true, "66af2aa46245f31be2d27a72727409d95c0062332943011b78b4e7bb93a1796c"), looks := false }, kinds := [], alts := [], laidByText := true, laidKinds := [.data, .data, .data, .data], laidTests := true, laidLooks := .later }
def SumForgesUptoCardSaid : Prop := Claim7.holds Tryd.pinned (.plain (OpenSpec.upto sumForgesSpec)) sumForgesUptoCard
end Rows
end Go.Proofs.YtmicjadbahicfaaDoor
