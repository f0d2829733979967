/- The listed table, out of the row's own condition. -/
import Derived.Test.YtdhiofbimebbkaaDoorRows
import Derived.Test.YtdhiofbimebbkaaDoorSa
import Derived.Test.YtdhiofbimebbkaaDoorLz
import Derived.MakeChecks
import Derived.Lib.LaidTab
namespace Go.Proofs.YtdhiofbimebbkaaDoor
open Go.RowKit
theorem tab_at {W : World} (h : laidMetH Tryd.prog [("colloquy/pack.remainders", Rows.laid_colloquy_pack_remainders)] W) : TabAt W := by
  rw [MakeChecks.laidMetH_plain _ _ _ (by kernel_rfl)] at h
  have h2 : laidMet Tryd.prog [("colloquy/pack.remainders", Lib.tabData .u32 (tabL.map fun n : Nat => (n : Int)))] W := h
  have hT := Lib.tabIs_of_head (g := 0) (t := 94) (e := 82) (n := 16) (by kernel_rfl) (by kernel_rfl) Tryd.underlying94 Tryd.underlying82 (by kernel_rfl) (by kernel_rfl) h2
  have hc : ∀ i, i < 16 → W.cell? ⟨0, i, none⟩ = some (.int .u32 ((tabL.getD i 0 : Nat) : Int)) := fun i hi => by
    have := hT.cell (g := 0) (by kernel_rfl) i (by show i < 16; exact hi)
    rw [this, List.getD_eq_getElem?_getD, List.getElem?_map, List.getD_eq_getElem?_getD]
    rw [List.getElem?_eq_getElem (show i < tabL.length from hi)]
    rfl
  exact ⟨hc, lt_of_cell (hc 0 (by decide))⟩
end Go.Proofs.YtdhiofbimebbkaaDoor
