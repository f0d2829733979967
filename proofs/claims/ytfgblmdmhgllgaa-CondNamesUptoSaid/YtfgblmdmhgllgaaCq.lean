/- A board among a law's arguments has no more properties than its bulk. -/
import Derived.Test.YtfgblmdmhgllgaaCp
namespace Go.Proofs.Ytfgblmdmhgllgaa
open Go.RowKit Go.ChangeShapes Go.WideShapes Go.ChangeAt Go.Deep Go.Joins

theorem bulk_posC {H : Type} (d : DataW H) : 1 ≤ Rows.uptoBulk d := by
  cases d with
  | lit l => cases l <;> simp [Rows.uptoBulk]
  | _ => simp [Rows.uptoBulk]
theorem bulk_lenC {H : Type} : ∀ l : List (DataW H), l.length ≤ Rows.uptoBulkAll l
  | [] => Nat.zero_le _
  | d :: r => by
    have h1 := bulk_posC d
    have h2 := bulk_lenC r
    simp only [List.length_cons, Rows.uptoBulkAll]; omega
set_option maxRecDepth 100000 in
/-- A board, by value. -/
theorem open_DB {H : Type} {enc : TypeId × Value → H} {w : World} {r : Reach} {b0 : Nat} {v : Value} {d : DataW H} {p : List MemPlace} (hv : Value.okWide Try.prog w r b0 79 v) (h : DataW.Trod enc Try.prog w 0 (fun _ => true) true 79 v d p) :
    ∃ nm A m c ps, v = .agg #[.string nm, .slice A m c] ∧ PropsAt w (· < w.heap.size) A m ps ∧ m ≤ maxLen ∧ m ≤ c ∧ m ≤ Rows.uptoBulk d := by
  obtain ⟨v0, v1, y0, y1, n, rfl, rfl, rfl, t0, t1⟩ := open_agg2 Try.underlying79 (by kernel_rfl) (by kernel_rfl) hv h
  obtain ⟨nm, e1, _, _⟩ := DataW.trod_string Try.underlying9 t0
  obtain ⟨A, m, c, rfl⟩ := slice_form Try.underlying77 t1
  obtain ⟨ps, hp, hm, hc⟩ := open_props t1
  simp at e1
  refine ⟨nm, A, m, c, ps, by rw [e1], hp, hm, hc, ?_⟩
  have h2 : Rows.uptoBulk (DataW.agg [y0.1, y1.1]) = Rows.uptoBulk y0.1 + (Rows.uptoBulk y1.1 + 0) + 1 := rfl
  rw [h2]
  obtain ⟨d1, p1⟩ := y1
  rcases open_len Try.underlying77 (show DataW.trod enc Try.prog w 0 (fun _ => true) true n 77 [.slice A m c] = some (d1, p1) from t1) with h | ⟨el, sp, e, hl⟩
  · omega
  · subst e
    have h1 := bulk_lenC el
    simp only [Rows.uptoBulk]
    omega
end Go.Proofs.Ytfgblmdmhgllgaa
