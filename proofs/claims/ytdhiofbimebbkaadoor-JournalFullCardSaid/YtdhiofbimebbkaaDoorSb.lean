/- The document's own Sum, bit by bit, is sumL. -/
import Derived.Test.YtdhiofbimebbkaaDoorSa
namespace Go.Proofs.YtdhiofbimebbkaaDoor
open Go.RowKit

theorem and1_int (x : BitVec 32) : bits BinOp.and IntKind.u32 (x.toNat : Int) 1 = (x.toNat : Int) % 2 := by
  show IntKind.u32.wrap ((BitVec.ofInt 32 (x.toNat : Int) &&& BitVec.ofInt 32 1).toNat : Int) = _
  rw [bv_eq, show BitVec.ofInt 32 1 = 1#32 from rfl, BitVec.ofNat_toNat, BitVec.setWidth_eq, BitVec.toNat_and, show (1#32).toNat = 2 ^ 1 - 1 from rfl, Nat.and_two_pow_sub_one_eq_mod]
  rw [wraps_u32 _ (by omega) (by omega)]; omega
theorem and1_u8 (x : Nat) (hx : x < 256) : bits BinOp.and IntKind.u8 (x : Int) 1 = (x : Int) % 2 := by
  show IntKind.u8.wrap ((BitVec.ofInt 8 (x : Int) &&& BitVec.ofInt 8 1).toNat : Int) = _
  have h1 : (BitVec.ofInt 8 (x : Int)).toNat = x := by rw [BitVec.toNat_ofInt]; omega
  rw [show BitVec.ofInt 8 1 = 1#8 from rfl, BitVec.toNat_and, h1, show (1#8).toNat = 2 ^ 1 - 1 from rfl, Nat.and_two_pow_sub_one_eq_mod]
  simp [IntKind.wrap, IntKind.bits, IntKind.signed]; omega
theorem half_nat (x : BitVec 32) : @HDiv.hDiv Int Int Int instHDiv (x.toNat : Int) (2 : Int) = (((x >>> 1).toNat : Nat) : Int) := by
  rw [BitVec.toNat_ushiftRight, Nat.shiftRight_eq_div_pow]; omega
theorem flip_nat (x : BitVec 32) : bits BinOp.xor IntKind.u32 (((x >>> 1).toNat : Nat) : Int) 3988292384 = ((((x >>> 1) ^^^ poly).toNat : Nat) : Int) := by
  have := u32_xor (x >>> 1) 3988292384
  exact this
theorem bit_nat (z k : Nat) : z.testBit k = decide (z / 2 ^ k % 2 = 1) := by
  rw [Nat.testBit_eq_decide_div_mod_eq]
theorem low_nat (x : BitVec 32) : x.getLsbD 0 = decide (x.toNat % 2 = 1) := by
  show x.toNat.testBit 0 = _
  rw [bit_nat]; simp
end Go.Proofs.YtdhiofbimebbkaaDoor
