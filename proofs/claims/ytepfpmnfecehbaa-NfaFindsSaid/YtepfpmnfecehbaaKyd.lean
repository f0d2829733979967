/- The reference's Table of any right tree. -/
import Derived.Test.YtepfpmnfecehbaaKyc
namespace Go.Proofs.Ytepfpmnfecehbaa
open Go.RowKit Go.Maps

theorem TreeAt.kidsT {w : World} {d n' : Nat} {A' : Option Addr} {kids : List Tr} (h4 : kids.length = n')
    (h5 : 0 < n' → ∃ b o, A' = some ⟨b, o, none⟩ ∧ b < w.heap.size ∧ ∀ i t, kids[i]? = some t → ∃ v0 v1 v2, w.cell? ⟨b, o + i * 3, none⟩ = some v0 ∧ w.cell? ⟨b, o + i * 3 + 1, none⟩ = some v1 ∧ w.cell? ⟨b, o + i * 3 + 2, none⟩ = some v2 ∧ TreeAt w (· < w.heap.size) d t [v0, v1, v2]) : KidsT w d n' A' kids := ⟨h4, h5⟩
theorem table_any : ∀ d, TabIH d
  | 0 => fun t v0 v1 v2 s w h _ _ => h.elim
  | d + 1 => fun t v0 v1 v2 s w h hg hs => by
    have ih := table_any d
    obtain ⟨k, rs, kids⟩ := t
    obtain ⟨A, n, c, A', n', c', e, hn, hn', hr, hl, hk⟩ := h
    obtain ⟨g1, g2, g3, g4⟩ := hg
    simp only [List.cons.injEq, and_true] at e
    obtain ⟨rfl, rfl, rfl⟩ := e
    have hkt : KidsT w d n' A' kids := ⟨hl, hk⟩
    rcases (by omega : k = 1 ∨ k = 2 ∨ k = 3 ∨ k = 4 ∨ k = 5 ∨ k = 6) with rfl | rfl | rfl | rfl | rfl | rfl
    · exact table1_any rs kids A A' n c n' c' s w hr hn hs d
    · exact table2_any ih rs kids A A' n c n' c' s w hkt hn'.1 g4 hs
    · exact table3_any ih rs kids A A' n c n' c' s w hkt hn'.1 g4 hs
    · match kids, g3 (by decide), g4, hkt with
      | t :: r, _, g4, hkt => exact table4_any ih rs t r A A' n c n' c' s w hkt hn'.1 (g4 t (List.mem_cons_self ..)) hs
    · match kids, g3 (by decide), g4, hkt with
      | t :: r, _, g4, hkt => exact table5_any ih rs t r A A' n c n' c' s w hkt hn'.1 (g4 t (List.mem_cons_self ..)) hs
    · match kids, g3 (by decide), g4, hkt with
      | t :: r, _, g4, hkt => exact table6_any ih rs t r A A' n c n' c' s w hkt hn'.1 (g4 t (List.mem_cons_self ..)) hs
end Go.Proofs.Ytepfpmnfecehbaa
