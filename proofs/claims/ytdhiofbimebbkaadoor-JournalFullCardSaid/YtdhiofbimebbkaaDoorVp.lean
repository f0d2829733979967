/- The document's example of the disk (alive). -/
import Derived.Test.YtdhiofbimebbkaaDoorVo
namespace Go.Proofs.YtdhiofbimebbkaaDoor
open Go.RowKit Go.Maps Go.Sort

theorem and_le (a b : Int) (n : Nat) (hb : b = (n : Int)) (hn : n < 4611686018427387904) : 0 ≤ bits BinOp.and IntKind.i64 a b ∧ bits BinOp.and IntKind.i64 a b ≤ n := by
  have hbn : (BitVec.ofInt 64 b).toNat = n := by
    rw [hb, BitVec.toNat_ofInt]; omega
  have h : (BitVec.ofInt 64 a &&& BitVec.ofInt 64 b).toNat ≤ n := by
    rw [BitVec.toNat_and]
    exact Nat.le_trans Nat.and_le_right (Nat.le_of_eq hbn)
  show 0 ≤ IntKind.i64.wrap ((BitVec.ofInt 64 a &&& BitVec.ofInt 64 b).toNat : Int) ∧ IntKind.i64.wrap ((BitVec.ofInt 64 a &&& BitVec.ofInt 64 b).toNat : Int) ≤ n
  rw [IntWalk.i64_in _ (by omega)]; omega
def al (b : List UInt8) (sf fr : Nat) : Sta := ⟨[([97], b, sf)], fr, 0, false⟩
theorem al_ok {b : List UInt8} {sf fr : Nat} (hb : b.length ≤ 100) (hf : fr ≤ 100) : Ok (al b sf fr) := by
  have e : tot (al b sf fr).V = b.length := by simp [al, tot]
  refine ⟨by simp [al], by rw [e]; omega, ?_, by simp [al], fun t ht => ?_⟩
  · rw [e]; show fr + b.length ≤ _; omega
  · obtain rfl : t = ([97], b, sf) := by simpa [al] using ht
    show 1 ≤ 40; decide
theorem al_new : createS [97] ⟨[], 5, 0, false⟩ = (0, al [] 0 5) := by kernel_rfl
theorem al_1 : appendS [97] [97, 98, 99] (al [] 0 5) = (0, al [97, 98, 99] 0 2) := by kernel_rfl
theorem al_2 : syncS [97] (al [97, 98, 99] 0 2) = (0, al [97, 98, 99] 3 2) := by kernel_rfl
theorem al_3 : appendS [97] [100, 101, 102] (al [97, 98, 99] 3 2) = (71, al [97, 98, 99] 3 2) := by kernel_rfl
theorem al_4 : appendS [97] [100, 101] (al [97, 98, 99] 3 2) = (0, al [97, 98, 99, 100, 101] 3 0) := by kernel_rfl
theorem al_5 : crashS [1] (al [97, 98, 99, 100, 101] 3 0) = al [97, 98, 99, 100] 4 1 := by kernel_rfl
theorem al_6 : readS [97] (al [97, 98, 99, 100] 4 1) = (0, [97, 98, 99, 100]) := by kernel_rfl
theorem ints_new (w : World) (z : Int) : IntsAt (w.alloc (.cells #[.int .i64 z] 3)) (some ⟨w.heap.size, 0, none⟩) 1 [z] :=
  ⟨rfl, fun _ => ⟨w.heap.size, 0, rfl, by simp, fun i c hi => by
    match i with
    | 0 =>
      obtain rfl : z = c := by simpa using hi
      exact Blk.cell (Blk.new w 3 #[.int .i64 z]) 0
    | i + 1 => simp at hi⟩⟩
theorem str_a : (⟨#[97]⟩ : ByteArray).data.toList = [97] := rfl
end Go.Proofs.YtdhiofbimebbkaaDoor
