/- The listed words, out of the row's own condition. -/
import Derived.Test.YtmhfdpgkdpbbiaaDoorRows
import Derived.Test.YtmhfdpgkdpbbiaaDoorEw
import Derived.MakeChecks
import Derived.OpenShut
import Derived.Lib.LaidTab
import Derived.Deep.Slices
namespace Go.Proofs.YtmhfdpgkdpbbiaaDoor
open Go.RowKit Go.ChangeShapes Go.WideShapes Go.Deep
theorem lt_of_cell {w : World} {a : Addr} {v : Value} (h : w.cell? a = some v) : a.block < w.heap.size := by
  unfold World.cell? at h
  rcases Nat.lt_or_ge a.block w.heap.size with h' | h'
  · exact h'
  · rw [Array.getElem?_eq_none h'] at h; simp at h
theorem cells_str1 : Tryd.prog.cellsOf 9 = 1 := by kernel_rfl
theorem cells_arrS : Tryd.prog.cellsOf 26 = 8 := by kernel_rfl
theorem tab_at {W : World} (h : laidMetH Tryd.prog [("colloquy/trace.words", Rows.laid_colloquy_trace_words)] W) : TabAt W := by
  rw [MakeChecks.laidMetH_plain _ _ _ (by kernel_rfl)] at h
  obtain ⟨ps, ⟨g', t', cs, fuel, p, q, hg', ht', hvar, hd, _, _⟩, _⟩ := h
  obtain rfl := Option.some.inj ((show Tryd.prog.globalNamed "colloquy/trace.words" = some 0 by kernel_rfl).symm.trans hg')
  obtain rfl := Option.some.inj ((show (Tryd.prog.globals[0]?).map (·.type) = some 26 by kernel_rfl).symm.trans ht')
  obtain ⟨xs, m, rfl, hx, hl, hxl, hat⟩ := DataW.trod_array Tryd.underlying26 hd
  rw [cells_arrS] at hl
  have hxs : xs.map (·.1) = wordsL.map fun s => (DataW.lit (.string s.data.toList) : DataW Unit) := by
    have := congrArg Prod.fst hx
    simpa [Rows.laid_colloquy_trace_words, wordsL] using this.symm
  have hcs : ∀ (i : Nat) (s : ByteArray), wordsL[i]? = some s → cs[i]? = some (.string s) := fun i s hs => by
    have hi : i < 8 := (List.getElem?_eq_some_iff.1 hs).1
    have h1 := hat i hi
    rw [cells_str1, Nat.mul_one] at h1
    have h2 : (xs.map (·.1))[i]? = some (DataW.lit (.string s.data.toList) : DataW Unit) := by rw [hxs]; simp [hs]
    rw [List.getElem?_map] at h2
    obtain ⟨y, hy, hy2⟩ := Option.map_eq_some_iff.1 h2
    rw [hy] at h1
    obtain ⟨z, hc, hz, _⟩ := DataW.trod_string Tryd.underlying9 h1
    have h3 : cs[i]? = some (.string z) := by
      have := congrArg (·[0]?) hc
      simpa [List.getElem?_take, List.getElem?_drop] using this
    have h4 : z.data.toList = s.data.toList := by
      rw [hz] at hy2
      simpa using hy2
    rw [h3]
    have : z = s := ba_ext (by rw [ByteArray.toList_eq, ByteArray.toList_eq]; exact h4)
    rw [this]
  have hc : ∀ (i : Nat) (s : ByteArray), wordsL[i]? = some s → W.cell? ⟨0, i, none⟩ = some (.string s) := fun i s hs => by
    have := World.var?_cell (show Tryd.prog.globalNamed "colloquy/trace.words" = some 0 by kernel_rfl) hvar i
    rw [this]
    exact hcs i s hs
  exact ⟨hc, lt_of_cell (hc 0 _ rfl)⟩
end Go.Proofs.YtmhfdpgkdpbbiaaDoor
