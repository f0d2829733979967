/- Slices of structs among a law's arguments: what all of them want. -/
import Derived.Test.YteokiaeojgjpdaaLc
import Derived.ChangeSame
import Derived.Deep.Strs
import Derived.SizedLaws
namespace Go.Proofs.Yteokiaeojgjpdaa
open Go.RowKit Go.ChangeShapes Go.WideShapes Go.ChangeAt Go.Deep

theorem cells_int3 : Try.prog.cellsOf 3 = 1 := by kernel_rfl
theorem cells_bytes3 : Try.prog.cellsOf 44 = 1 := by kernel_rfl
theorem three_of {l : List Value} (h : l.length = 3) : ∃ a b c, l = [a, b, c] := by
  match l, h with
  | [a, b, c], _ => exact ⟨a, b, c, rfl⟩
theorem trod_slice3 {H : Type} {enc : TypeId × Value → H} {w : World} {fuel : Nat} {c : Value} {x : DataW H × List MemPlace} (h : DataW.trod enc Try.prog w 0 (fun _ => true) true fuel 44 [c] = some x) : ∃ a l k, c = .slice a l k := by
  rcases open_slice Try.underlying44 h with ⟨h0, _⟩ | ⟨a, len, cap, _, _, _, _, hcs, _⟩
  · exact ⟨none, 0, 0, by simpa using h0⟩
  · exact ⟨some a, len, cap, by simpa using hcs⟩
theorem weights_elem {H : Type} {P : Program} {e : TypeId} {n : Nat} : ∀ {l : List (DataW H)} {d : DataW H}, d ∈ l → n ∈ d.weights P e → n ∈ DataW.weightsAll P e l
  | d0 :: r, d, hd, hn => by
    simp only [DataW.weightsAll, List.mem_append]
    rcases List.mem_cons.1 hd with rfl | hd
    · exact .inl hn
    · exact .inr (weights_elem hd hn)
  | [], _, hd, _ => by cases hd
/-- A slice of bytes that is weighed is no longer than the reach. -/
theorem weighed_bytes {H : Type} {enc : TypeId × Value → H} {w : World} {fuel : Nat} {a0 : Option Addr} {len cap : Nat} {d : DataW H} {p : List MemPlace}
    (h : DataW.trod enc Try.prog w 0 (fun _ => true) true fuel 44 [.slice a0 len cap] = some (d, p)) (hw : ∀ k ∈ d.weights Try.prog 44, k ≤ reachBytes) : len ≤ 140737488355328 := by
  rcases open_len Try.underlying44 h with h0 | ⟨el, sp, e, hl⟩
  · omega
  · subst e
    have hu := Try.underlying44
    have := hw ((el.length + sp.length) * Try.prog.bytesOf 5) (by simp [DataW.weights, hu])
    rw [bytes_byte] at this
    unfold reachBytes at this
    omega
end Go.Proofs.Yteokiaeojgjpdaa
