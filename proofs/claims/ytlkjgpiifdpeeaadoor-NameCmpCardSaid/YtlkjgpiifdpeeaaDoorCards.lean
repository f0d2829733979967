/-
  DERIVED. GIVEN WITH THE SEED: THE CARDS: each row of YtlkjgpiifdpeeaaDoorRows.lean that lists a variable, with what it lists TIED to the program's text (the seventh form; the later family's looks); each row that meets fmt, with fmt's text TOLD by the authors' own Lean function (tested against real Go, not proved from fmt's source: count such statements apart). THE CARD IS WHAT COUNTS. Prove the row's statement (the work); the ties are given (YtlkjgpiifdpeeaaDoorTie.lean); close each card by the builder's one call (the guide's Derived/Test/ToyasCard.lean, 'card_holds'). Laid BY PROGRAM, IN A SANDBOX (cutbox-door.mjs). By AI agents, Wed Nov 11 2026. No macro, syntax, notation, axiom, sorry.
-/
import Derived.Test.YtlkjgpiifdpeeaaDoorRows
import GoSem.ClaimSeven
namespace Go.Proofs.YtlkjgpiifdpeeaaDoor
namespace Rows

/-- THE TIED CARD OF 'colloquylaw01.CnumParses'. -/
def cnumParsesCard : Claim7 := { stood := { row := cnumParsesRow, standIns := [], harness := (true, "279b5004dabbb58788f7cdd3c4adbf7650eb8dd5e600298048bffef06e227bdf"), looks := true }, kinds := [], alts := [], laidByText := true, laidKinds := [.data, .data, .widerDeep, .widerDeep, .data, .data, .data, .data, .data, .sentinel, .sentinel, .pinned, .pinned], laidTests := true, laidLooks := .later }
def CnumParsesCardSaid : Prop := Claim7.holds Tryd.pinned (.plain (OpenSpec.ofChange cnumParsesSpec)) cnumParsesCard

/-- THE TIED CARD OF 'colloquylaw01.CnumFinds'. -/
def cnumFindsCard : Claim7 := { stood := { row := cnumFindsRow, standIns := [], harness := (true, "279b5004dabbb58788f7cdd3c4adbf7650eb8dd5e600298048bffef06e227bdf"), looks := true }, kinds := [], alts := [], laidByText := true, laidKinds := [.data, .data, .widerDeep, .widerDeep, .data, .data, .data, .data, .data, .sentinel, .sentinel, .pinned, .pinned], laidTests := true, laidLooks := .later }
def CnumFindsCardSaid : Prop := Claim7.holds Tryd.pinned (.plain (OpenSpec.ofChange cnumFindsSpec)) cnumFindsCard

/-- THE TIED CARD OF 'colloquylaw01.CnumTexts'. -/
def cnumTextsCard : Claim7 := { stood := { row := cnumTextsRow, standIns := [], harness := (true, "279b5004dabbb58788f7cdd3c4adbf7650eb8dd5e600298048bffef06e227bdf"), looks := true }, kinds := [], alts := [], laidByText := true, laidKinds := [.data, .data, .data, .data, .pinned, .pinned], laidTests := true, laidLooks := .later }
def CnumTextsCardSaid : Prop := Claim7.holds Tryd.pinned (.plain (OpenSpec.ofChange cnumTextsSpec)) cnumTextsCard

/-- THE TIED CARD OF 'colloquylaw02.NameCmp'. -/
def nameCmpCard : Claim7 := { stood := { row := nameCmpRow, standIns := [], harness := (true, "279b5004dabbb58788f7cdd3c4adbf7650eb8dd5e600298048bffef06e227bdf"), looks := true }, kinds := [], alts := [], laidByText := true, laidKinds := [.data, .pinned], laidTests := true, laidLooks := .later }
def NameCmpCardSaid : Prop := Claim7.holds Tryd.pinned (.plain (OpenSpec.ofChange nameCmpSpec)) nameCmpCard

/-- THE TIED CARD OF 'colloquylaw02.NameOrder'. -/
def nameOrderCard : Claim7 := { stood := { row := nameOrderRow, standIns := [], harness := (true, "279b5004dabbb58788f7cdd3c4adbf7650eb8dd5e600298048bffef06e227bdf"), looks := true }, kinds := [], alts := [], laidByText := true, laidKinds := [.data, .pinned], laidTests := true, laidLooks := .later }
def NameOrderCardSaid : Prop := Claim7.holds Tryd.pinned (.plain (OpenSpec.ofChange nameOrderSpec)) nameOrderCard

/-- THE SECOND FORM's CARD OF 'colloquylaw01.CnumParses'. -/
def cnumParsesUptoCard : Claim7 := { stood := { row := cnumParsesUptoRow, standIns := [], harness := (true, "279b5004dabbb58788f7cdd3c4adbf7650eb8dd5e600298048bffef06e227bdf"), looks := true }, kinds := [], alts := [], laidByText := true, laidKinds := [.data, .data, .widerDeep, .widerDeep, .data, .data, .data, .data, .data, .sentinel, .sentinel, .pinned, .pinned], laidTests := true, laidLooks := .later }
def CnumParsesUptoCardSaid : Prop := Claim7.holds Tryd.pinned (.plain (OpenSpec.upto cnumParsesSpec)) cnumParsesUptoCard

/-- THE SECOND FORM's CARD OF 'colloquylaw01.CnumFinds'. -/
def cnumFindsUptoCard : Claim7 := { stood := { row := cnumFindsUptoRow, standIns := [], harness := (true, "279b5004dabbb58788f7cdd3c4adbf7650eb8dd5e600298048bffef06e227bdf"), looks := true }, kinds := [], alts := [], laidByText := true, laidKinds := [.data, .data, .widerDeep, .widerDeep, .data, .data, .data, .data, .data, .sentinel, .sentinel, .pinned, .pinned], laidTests := true, laidLooks := .later }
def CnumFindsUptoCardSaid : Prop := Claim7.holds Tryd.pinned (.plain (OpenSpec.upto cnumFindsSpec)) cnumFindsUptoCard

/-- THE SECOND FORM's CARD OF 'colloquylaw01.CnumTexts'. -/
def cnumTextsUptoCard : Claim7 := { stood := { row := cnumTextsUptoRow, standIns := [], harness := (true, "279b5004dabbb58788f7cdd3c4adbf7650eb8dd5e600298048bffef06e227bdf"), looks := true }, kinds := [], alts := [], laidByText := true, laidKinds := [.data, .data, .data, .data, .pinned, .pinned], laidTests := true, laidLooks := .later }
def CnumTextsUptoCardSaid : Prop := Claim7.holds Tryd.pinned (.plain (OpenSpec.upto cnumTextsSpec)) cnumTextsUptoCard

/-- THE SECOND FORM's CARD OF 'colloquylaw02.NameCmp'. -/
def nameCmpUptoCard : Claim7 := { stood := { row := nameCmpUptoRow, standIns := [], harness := (true, "279b5004dabbb58788f7cdd3c4adbf7650eb8dd5e600298048bffef06e227bdf"), looks := true }, kinds := [], alts := [], laidByText := true, laidKinds := [.data, .pinned], laidTests := true, laidLooks := .later }
def NameCmpUptoCardSaid : Prop := Claim7.holds Tryd.pinned (.plain (OpenSpec.upto nameCmpSpec)) nameCmpUptoCard

/-- THE SECOND FORM's CARD OF 'colloquylaw02.NameOrder'. -/
def nameOrderUptoCard : Claim7 := { stood := { row := nameOrderUptoRow, standIns := [], harness := (true, "279b5004dabbb58788f7cdd3c4adbf7650eb8dd5e600298048bffef06e227bdf"), looks := true }, kinds := [], alts := [], laidByText := true, laidKinds := [.data, .pinned], laidTests := true, laidLooks := .later }
def NameOrderUptoCardSaid : Prop := Claim7.holds Tryd.pinned (.plain (OpenSpec.upto nameOrderSpec)) nameOrderUptoCard
end Rows
end Go.Proofs.YtlkjgpiifdpeeaaDoor
