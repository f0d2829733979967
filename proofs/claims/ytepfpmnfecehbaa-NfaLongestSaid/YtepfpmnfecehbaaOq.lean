/- nfa's walk, made. -/
import Derived.Test.YtepfpmnfecehbaaOp
import Derived.Test.YtepfpmnfecehbaaKu
namespace Go.Proofs.Ytepfpmnfecehbaa
open Go.RowKit Go.Maps

theorem int_infoN : (Try.prog.info? 3).map (fun i => (i.zero, i.size, i.bytes)) = some (some (.int .i64 0), 1, 8) := by kernel_rfl
/-- A row of ints, made. -/
theorem make_ints (W : World) (n : Nat) (hn : n ≤ 1000000) : (Instr.makeSlice 111 (.int .i64 (n : Int)) (.int .i64 (n : Int))).run Try.prog W = .ok (.slice (some ⟨W.heap.size, 0, none⟩) n n) (W.alloc (.cells (madeCells (Value.int .i64 0).cells n) 3)) := by
  obtain ⟨i0, hi0, hz0, hz1, hz2⟩ := info_parts int_infoN
  have := run_make (P := Try.prog) W 111 3 i0 _ Try.underlying111 hi0 hz0 .i64 .i64 (n : Int) (n : Int) (by omega) (by omega) (by rw [hz2]; omega) (by omega)
  rw [this, Int.toNat_natCast, hz1, Nat.mul_one]
theorem made_ints (n : Nat) : madeCells (Value.int .i64 0).cells n = ((List.replicate n 0).map intV).toArray := by
  apply Array.ext'
  apply List.ext_getElem?
  intro j
  rw [Array.getElem?_toList]
  unfold madeCells
  rw [Array.getElem?_map]
  by_cases h : j < n
  · rw [Array.getElem?_range, if_pos h]
    simp [Value.cells, Nat.mod_one, List.getElem?_replicate, h, intV]
  · rw [Array.getElem?_range, if_neg h]
    simp [List.getElem?_replicate, h]
/-- A walk that has not begun. -/
def ws0 (n : Nat) : WS := ⟨List.replicate n 0, [], false, 0, 0⟩
theorem build_walk (W : World) (pp qb n : Nat) : (Instr.build 114 #[(0, .pointer (some ⟨pp, 0, none⟩)), (1, .slice (some ⟨qb, 0, none⟩) n n)]).run Try.prog W = .ok (.agg #[.pointer (some ⟨pp, 0, none⟩), .slice (some ⟨qb, 0, none⟩) n n, .slice none 0 0, .slice none 0 0, .bool false, .int .i64 0, .int .i64 0, .slice none 0 0]) W := by kernel_rfl
set_option maxHeartbeats 1000000 in
set_option maxRecDepth 100000 in
theorem walk_any {w : World} {X : Nat → Prop} {pp : Nat} {start steps : Int} {S : List St} (hm : Mach w X pp start steps S) (hS : S.length ≤ 100000) (hSl : 0 < S.length) :
    Calls Try.prog 54 #[.pointer (some ⟨pp, 0, none⟩)] w (fun e w' => ∃ (wp : Nat) (Z : Nat → Prop), e = .returned (.pointer (some ⟨wp, 0, none⟩)) ∧ Wk w' Z wp pp (.slice none 0 0) (ws0 S.length) [] ∧ (∀ j, Z j → w.heap.size ≤ j) ∧ Below w.heap.size w w') := by
  obtain ⟨sb, cS, p0, -, -, -, hXsb, hXpp, hsp, cS1, cS2, hrd⟩ := hm.read hSl
  have hmk := fun W => make_ints W S.length (by omega)
  have hbw := fun W => build_walk W pp w.heap.size S.length
  go_enter Try.func54, Try.ntmps54
  go_wp2
  go_ret
  refine ⟨w.heap.size + 1, ZX (w.heap.size + 1) w.heap.size (.slice none 0 0) (.slice none 0 0), rfl, ⟨w.heap.size, .slice none 0 0, .slice none 0 0, ⟨?_, ?_, ?_, ?_, by omega, (fun b h => nomatch h), fun b h => nomatch h⟩, fun _ => Iff.rfl⟩, fun j hj => ?_, ?_⟩
  · have := Blk.new (w.alloc (.cells (madeCells #[Value.int IntKind.i64 0] S.length) 3)) 114 #[.pointer (some ⟨pp, 0, none⟩), .slice (some ⟨w.heap.size, 0, none⟩) S.length S.length, .slice none 0 0, .slice none 0 0, .bool false, .int .i64 0, .int .i64 0, .slice none 0 0]
    simpa [ws0, intV] using this
  · have h1 := Blk.new w 3 (madeCells #[Value.int IntKind.i64 0] S.length)
    have h2 := (Below.heap_alloc (w.alloc (.cells (madeCells #[Value.int IntKind.i64 0] S.length) 3)) (.cells #[.pointer (some ⟨pp, 0, none⟩), .slice (some ⟨w.heap.size, 0, none⟩) S.length S.length, .slice none 0 0, .slice none 0 0, .bool false, .int .i64 0, .int .i64 0, .slice none 0 0] 114) w.heap.size (by simp)).trans h1
    show _ = _
    rw [h2]
    exact congrArg (fun x => some (Obj.cells x 3)) (made_ints S.length)
  · exact ⟨rfl, .inl ⟨rfl, rfl⟩⟩
  · exact ⟨rfl, .inl ⟨rfl, rfl⟩⟩
  · rcases hj with rfl | rfl | h | h
    · omega
    · exact Nat.le_refl _
    · exact nomatch h
    · exact nomatch h
  · exact ((Below.refl _ w).alloc (Nat.le_refl _) _).alloc (by simp) _
end Go.Proofs.Ytepfpmnfecehbaa
