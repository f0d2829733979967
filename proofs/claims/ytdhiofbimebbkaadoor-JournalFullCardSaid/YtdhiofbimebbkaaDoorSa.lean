/- pack.Sum, the document's own Sum: both are sumL. -/
import Derived.Test.YtdhiofbimebbkaaDoorBt
import Derived.Test.YtdhiofbimebbkaaDoorPc
import Derived.IntWalk
import Derived.Lib.EndianBits
namespace Go.Proofs.YtdhiofbimebbkaaDoor
open Go.RowKit

theorem bv_of {a : Nat} (ha : a < 4294967296) : (BitVec.ofInt 32 (a : Int)).toNat = a := by rw [BitVec.toNat_ofInt]; omega
theorem bv_eq (a : Nat) : BitVec.ofInt 32 (a : Int) = BitVec.ofNat 32 a := by
  apply BitVec.eq_of_toNat_eq
  rw [BitVec.toNat_ofInt, BitVec.toNat_ofNat]; omega
/-- '^' of a register and a number. -/
theorem u32_xor (x : BitVec 32) (b : Nat) : bits BinOp.xor IntKind.u32 (x.toNat : Int) (b : Int) = (((x ^^^ BitVec.ofNat 32 b).toNat : Nat) : Int) := by
  show IntKind.u32.wrap ((BitVec.ofInt 32 (x.toNat : Int) ^^^ BitVec.ofInt 32 (b : Int)).toNat : Int) = _
  rw [bv_eq, bv_eq, BitVec.ofNat_toNat, BitVec.setWidth_eq]
  exact wraps_u32 _ (by omega) (by have := (x ^^^ BitVec.ofNat 32 b).isLt; omega)
theorem u32_and15 (x : BitVec 32) : bits BinOp.and IntKind.u32 (x.toNat : Int) 15 = ((x.toNat % 16 : Nat) : Int) := by
  show IntKind.u32.wrap ((BitVec.ofInt 32 (x.toNat : Int) &&& BitVec.ofInt 32 15).toNat : Int) = _
  rw [bv_eq, show BitVec.ofInt 32 15 = 15#32 from rfl, BitVec.ofNat_toNat, BitVec.setWidth_eq, BitVec.toNat_and, show (15#32).toNat = 2 ^ 4 - 1 from rfl, Nat.and_two_pow_sub_one_eq_mod]
  exact wraps_u32 _ (by omega) (by omega)
theorem nib_nat (x : BitVec 32) : bits BinOp.xor IntKind.u32 ((x.toNat / 16 : Nat) : Int) ((tabL.getD (x.toNat % 16) 0 : Nat) : Int) = (((nib x).toNat : Nat) : Int) := by
  have h : x.toNat / 16 = (x >>> 4).toNat := by rw [BitVec.toNat_ushiftRight, Nat.shiftRight_eq_div_pow]
  rw [h, u32_xor]
  rfl
theorem nib_int (x : BitVec 32) : bits BinOp.xor IntKind.u32 ((x.toNat : Int) / 16) ((tabL.getD (x.toNat % 16) 0 : Nat) : Int) = (((nib x).toNat : Nat) : Int) := by
  have := nib_nat x
  rwa [show ((x.toNat / 16 : Nat) : Int) = (x.toNat : Int) / 16 by omega] at this
theorem and_int (x : BitVec 32) : bits BinOp.and IntKind.u32 (x.toNat : Int) 15 = (x.toNat : Int) % 16 := by
  rw [u32_and15]; omega
theorem not_nat (x : BitVec 32) : bits BinOp.xor IntKind.u32 IntKind.u32.max (x.toNat : Int) = (((~~~ x).toNat : Nat) : Int) := by
  have := u32_xor (4294967295#32) x.toNat
  rw [BitVec.ofNat_toNat, BitVec.setWidth_eq] at this
  rw [show ((4294967295#32).toNat : Int) = IntKind.u32.max from rfl] at this
  rw [this, show (4294967295#32) = BitVec.allOnes 32 from rfl, BitVec.allOnes_xor]
/-- The table of four bits' remainders lies where the program has it. -/
def TabAt (w : World) : Prop := (∀ i, i < 16 → w.cell? ⟨0, i, none⟩ = some (.int .u32 ((tabL.getD i 0 : Nat) : Int))) ∧ 0 < w.heap.size
theorem TabAt.below {w w' : World} (h : TabAt w) (hb : Below w.heap.size w w') : TabAt w' := ⟨fun i hi => (hb.cell (p := ⟨0, i, none⟩) h.2).trans (h.1 i hi), Nat.lt_of_lt_of_le h.2 hb.size⟩
theorem tab_u32 (i : Nat) : tabL.getD i 0 < 4294967296 := by
  by_cases h : i < 16
  · have := List.all_eq_true.1 (show ((List.range 16).all fun i => decide (tabL.getD i 0 < 4294967296)) = true by decide +kernel) i (List.mem_range.2 h)
    simpa using this
  · rw [List.getD_eq_getElem?_getD, List.getElem?_eq_none (by show 16 ≤ i; omega)]; decide
theorem reg_step {bs : List UInt8} {j : Nat} {z : UInt8} (hz : bs[j]? = some z) : regL (bs.take (j + 1)) = crcI (regL (bs.take j)) z := by
  obtain ⟨hjl, e⟩ := List.getElem?_eq_some_iff.1 hz
  rw [List.take_add_one, hz, Option.toList_some, regL_snoc]
set_option maxHeartbeats 1000000 in
set_option maxRecDepth 100000 in
theorem sum_any {w : World} {A : Option Addr} {m c : Nat} {bs : List UInt8} (hb : BytesAt w A m bs) (hm : m ≤ maxLen) (ht : TabAt w) :
    Calls Tryd.prog 47 #[.slice A m c] w fun e w' => e = .returned (.int .u32 (sumL bs : Nat)) ∧ w = w' := by
  unfold maxLen at hm
  have hl := hb.1
  go_enter Tryd.func47, Tryd.ntmps47
  go_wp2_with fail
  go_loop [3, 8] (fun r i => ∃ j : Nat, j ≤ m ∧ i = .int .i64 (j : Nat) ∧ r = .int .u32 ((regL (bs.take j)).toNat : Nat)) (fun _ i => m - (intOf i).toNat)
  case atStart => exact ⟨0, Nat.zero_le _, rfl, rfl⟩
  case round =>
    obtain ⟨j, hj, rfl, rfl⟩ := hrel
    by_cases hlt : j < m
    · have hlt' : (j : Int) < (m : Int) := by omega
      obtain ⟨b, o, rfl, hbw, hcells⟩ := hb.2 (by omega)
      obtain ⟨z, hz⟩ : ∃ z, bs[j]? = some z := ⟨bs[j]'(by omega), List.getElem?_eq_getElem _⟩
      have y1 : w.cell? ⟨b, o + j, none⟩ = some (.int .u8 (z.toNat : Nat)) := hcells j z hz
      have hz255 := UInt8.toNat_lt z
      obtain ⟨R, hR⟩ : ∃ R, R = regL (bs.take j) := ⟨_, rfl⟩
      have hst := reg_step hz
      rw [← hR] at hst
      rw [← hR]
      have HS := Lib.hid (show regL (bs.take (j + 1)) = nib (nib (R ^^^ BitVec.ofNat 32 z.toNat)) from hst)
      have e1 := u32_xor R z.toNat
      obtain ⟨R1, hR1⟩ : ∃ R1, R1 = R ^^^ BitVec.ofNat 32 z.toNat := ⟨_, rfl⟩
      obtain ⟨R2, hR2⟩ : ∃ R2, R2 = nib R1 := ⟨_, rfl⟩
      obtain ⟨R3, hR3⟩ : ∃ R3, R3 = nib R2 := ⟨_, rfl⟩
      rw [← hR1] at e1
      have e2 := and_int R1
      have e3 := nib_int R1
      rw [← hR2] at e3
      have e4 := and_int R2
      have e5 := nib_int R2
      rw [← hR3] at e5
      have t1 := ht.1 (R1.toNat % 16) (Nat.mod_lt _ (by decide))
      have t2 := ht.1 (R2.toNat % 16) (Nat.mod_lt _ (by decide))
      obtain ⟨v1, hv1⟩ : ∃ v1, v1 = tabL.getD (R1.toNat % 16) 0 := ⟨_, rfl⟩
      obtain ⟨v2, hv2⟩ : ∃ v2, v2 = tabL.getD (R2.toNat % 16) 0 := ⟨_, rfl⟩
      rw [← hv1] at t1 e3
      rw [← hv2] at t2 e5
      clear hv1 hv2
      have HR := Lib.hid (show R3 = regL (bs.take (j + 1)) by rw [HS.out, hR3, hR2, hR1])
      clear hcells hz hst HS hR hR1 hR2 hR3
      go_wp2_with fail
      go_roundw
      case rel => exact ⟨j + 1, by omega, by go_num, by rw [HR.out]⟩
      case measure => simp [intOf]; omega
    · obtain rfl : j = m := by omega
      have hlt' : ¬ (j : Int) < (j : Int) := by omega
      rw [List.take_of_length_le (by omega)]
      have e1 : bits BinOp.xor IntKind.u32 IntKind.u32.max ((regL bs).toNat : Int) = ((sumL bs : Nat) : Int) := not_nat (regL bs)
      go_wp2
      go_ret
      exact ⟨rfl, rfl⟩
end Go.Proofs.YtdhiofbimebbkaaDoor
