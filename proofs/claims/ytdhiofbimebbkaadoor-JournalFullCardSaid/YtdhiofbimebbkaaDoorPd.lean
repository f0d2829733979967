/- The Reader's deferred functions. -/
import Derived.Test.YtdhiofbimebbkaaDoorPr
import Derived.Defers
import Derived.Recover
import Derived.RegionTactic
import Derived.BigRegion
namespace Go.Proofs.YtdhiofbimebbkaaDoor
open Go.RowKit

theorem arr16 (a x : Value) : (#[a] ++ (Array.replicate 15 undef).setIfInBounds 3 x) = #[a, undef, undef, undef, x, undef, undef, undef, undef, undef, undef, undef, undef, undef, undef, undef] := rfl
theorem rd_info : (Tryd.prog.info? 101).map (·.size) = some 3 := by kernel_rfl
theorem ptr_eqIn (d rp : Nat) (W : World) : (Op.equalIn (d + 1) 90 (.pointer (some ⟨rp, 0, none⟩)) (.pointer (some ⟨rp, 0, none⟩))).run Tryd.prog W = .ok true W := by
  obtain ⟨i, hi, hz⟩ := Option.map_eq_some_iff.1 rd_info
  simp [Op.equalIn, run_underlying Tryd.underlying90, sizeOf, typeInfo, hi, hz, sameAddr]
theorem ptr_eq (rp : Nat) (W : World) : (Op.equal 90 (.pointer (some ⟨rp, 0, none⟩)) (.pointer (some ⟨rp, 0, none⟩))).run Tryd.prog W = .ok true W := ptr_eqIn 9999 rp W
theorem ptr_neq (rp : Nat) (W : World) : (binOp .neq 90 (.pointer (some ⟨rp, 0, none⟩)) (.pointer (some ⟨rp, 0, none⟩))).run Tryd.prog W = .ok (.bool false) W := by
  simp only [binOp]
  simp [ptr_eq]
theorem lets1_idle (p : Addr) (w : World) :
    CallsD Tryd.prog 81 #[.pointer (some p)] .returning w fun e u' w' => e = .returned (.tuple #[]) ∧ u' = .returning ∧ w' = w := by
  refine callsD_of_wpS Tryd.func81 rfl fun c₀ cs hu => ?_
  apply wpS_seq
  apply wpS_region
  simp [wpOpsS, go_sem, recoverD, hu, Tryd.ntmps81, Exit.thenS]
  rw [arr16]
  refine wpS_of_wp ?_
  have hq : ∀ W : World, (binOp .eql 20 .nilIface .nilIface).run Tryd.prog W = .ok (.bool true) W := fun W => by kernel_rfl
  go_wp2
  cases c₀
  simp_all [bodyPostS, results, Tryd.results81]
set_option maxHeartbeats 1000000 in
set_option maxRecDepth 100000 in
theorem lets1_pan (bx rp : Nat) (older : List PanicEntry) (w : World) (h0 : w.cell? ⟨bx, 0, none⟩ = some (.pointer (some ⟨rp, 0, none⟩))) (hlt : bx < w.heap.size) :
    CallsD Tryd.prog 81 #[.pointer (some ⟨bx, 0, none⟩)] (.panicking ({ v := .iface 106 (.agg #[.pointer (some ⟨rp, 0, none⟩)]), recovered := false } :: older)) w fun e u' w' =>
      e = .returned (.tuple #[]) ∧ u' = .panicking ({ v := .iface 106 (.agg #[.pointer (some ⟨rp, 0, none⟩)]), recovered := true } :: older) ∧ Below w.heap.size w w' := by
  refine callsD_of_wpS Tryd.func81 rfl fun c₀ cs hu => ?_
  apply wpS_seq
  apply wpS_region
  simp [wpOpsS, go_sem, recoverD, hu, Tryd.ntmps81, Exit.thenS]
  rw [arr16]
  refine wpS_of_wp ?_
  have hq : ∀ W : World, (binOp .eql 20 (.iface 106 (.agg #[.pointer (some ⟨rp, 0, none⟩)])) .nilIface).run Tryd.prog W = .ok (.bool false) W := fun W => by kernel_rfl
  have hta : ∀ W : World, (Instr.typeAssert (.iface 106 (.agg #[.pointer (some ⟨rp, 0, none⟩)])) 20 106 true).run Tryd.prog W = .ok (.tuple #[.agg #[.pointer (some ⟨rp, 0, none⟩)], .bool true]) W := fun W => by kernel_rfl
  have hne := ptr_neq rp
  have HB := Lib.hid ((Below.refl w.heap.size w).alloc (Nat.le_refl _) (.cells #[.pointer (some ⟨rp, 0, none⟩)] 106))
  go_wp2
  simp [bodyPostS, results, Tryd.results81]
  exact HB.out
end Go.Proofs.YtdhiofbimebbkaaDoor
