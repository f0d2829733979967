/- nfa.Prog.add: a state more. -/
import Derived.Test.YtepfpmnfecehbaaOa
import Derived.Deep.RegionHeld3
namespace Go.Proofs.Ytepfpmnfecehbaa
open Go.RowKit Go.Maps

theorem build_state (x : St) (nv : Value) (W : World) : (Instr.buildSlice 105 1 #[(0, .agg (stC x nv).toList.toArray)]).run Try.prog W = .ok (.slice (some ⟨W.heap.size, 0, none⟩) 1 1) (W.alloc (.cells (stC x nv) 143)) := by kernel_rfl
theorem build_setS (f : Nat → Bool) (ns : List Nat) (A : Option Addr) (n c : Nat) (W : World) : (Instr.build 143 #[(0, .agg (rowV 256 fun j => .bool (f j))), (2, .slice A n c)]).run Try.prog W = .ok (.agg (stC ⟨f, false, ns⟩ (.slice A n c))) W := by kernel_rfl
theorem build_fork (W : World) : (Instr.build 143 #[(1, .bool true)]).run Try.prog W = .ok (.agg (stC ⟨fun _ => false, true, []⟩ (.slice none 0 0))) W := by kernel_rfl
end Go.Proofs.Ytepfpmnfecehbaa
