/- Two texts joined; a number laid over 1023. -/
import Derived.Test.YtjnhmcgjeljcmaaXw
namespace Go.Proofs.Ytjnhmcgjeljcmaa
open Go.RowKit
theorem xlist_app (x y : ByteArray) : (x ++ y).data.toList = x.data.toList ++ y.data.toList := by rw [ByteArray.data_append]; simp
theorem xsize_app (x y : ByteArray) : (x ++ y).size = x.size + y.size := by
  have := congrArg List.length (xlist_app x y)
  rw [List.length_append] at this
  exact this
theorem and1023 (n : Int) : 0 ≤ bits BinOp.and IntKind.i64 n 1023 ∧ bits BinOp.and IntKind.i64 n 1023 ≤ 1023 := by
  have h : (BitVec.ofInt 64 n &&& BitVec.ofInt 64 1023).toNat ≤ 1023 := by
    rw [BitVec.toNat_and]; exact Nat.and_le_right
  show 0 ≤ IntKind.i64.wrap ((BitVec.ofInt 64 n &&& BitVec.ofInt 64 1023).toNat : Int) ∧ IntKind.i64.wrap ((BitVec.ofInt 64 n &&& BitVec.ofInt 64 1023).toNat : Int) ≤ 1023
  rw [IntWalk.i64_in _ (by omega)]; omega
end Go.Proofs.Ytjnhmcgjeljcmaa
