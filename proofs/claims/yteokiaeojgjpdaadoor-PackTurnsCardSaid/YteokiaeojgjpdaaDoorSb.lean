/- The document's own Sum, bit by bit, is sumL. -/
import Derived.Test.YteokiaeojgjpdaaDoorSa
namespace Go.Proofs.YteokiaeojgjpdaaDoor
open Go.RowKit

theorem and1_int (x : BitVec 32) : bits BinOp.and IntKind.u32 (x.toNat : Int) 1 = (x.toNat : Int) % 2 := by
  show IntKind.u32.wrap ((BitVec.ofInt 32 (x.toNat : Int) &&& BitVec.ofInt 32 1).toNat : Int) = _
  rw [bv_eq, show BitVec.ofInt 32 1 = 1#32 from rfl, BitVec.ofNat_toNat, BitVec.setWidth_eq, BitVec.toNat_and, show (1#32).toNat = 2 ^ 1 - 1 from rfl, Nat.and_two_pow_sub_one_eq_mod]
  rw [wraps_u32 _ (by omega) (by omega)]; omega
theorem and1_u8 (x : Nat) (hx : x < 256) : bits BinOp.and IntKind.u8 (x : Int) 1 = (x : Int) % 2 := by
  show IntKind.u8.wrap ((BitVec.ofInt 8 (x : Int) &&& BitVec.ofInt 8 1).toNat : Int) = _
  have h1 : (BitVec.ofInt 8 (x : Int)).toNat = x := by rw [BitVec.toNat_ofInt]; omega
  rw [show BitVec.ofInt 8 1 = 1#8 from rfl, BitVec.toNat_and, h1, show (1#8).toNat = 2 ^ 1 - 1 from rfl, Nat.and_two_pow_sub_one_eq_mod]
  simp [IntKind.wrap, IntKind.bits, IntKind.signed]; omega
theorem half_nat (x : BitVec 32) : @HDiv.hDiv Int Int Int instHDiv (x.toNat : Int) (2 : Int) = (((x >>> 1).toNat : Nat) : Int) := by
  rw [BitVec.toNat_ushiftRight, Nat.shiftRight_eq_div_pow]; omega
theorem flip_nat (x : BitVec 32) : bits BinOp.xor IntKind.u32 (((x >>> 1).toNat : Nat) : Int) 3988292384 = ((((x >>> 1) ^^^ poly).toNat : Nat) : Int) := by
  have := u32_xor (x >>> 1) 3988292384
  exact this
theorem bit_nat (z k : Nat) : z.testBit k = decide (z / 2 ^ k % 2 = 1) := by
  rw [Nat.testBit_eq_decide_div_mod_eq]
theorem low_nat (x : BitVec 32) : x.getLsbD 0 = decide (x.toNat % 2 = 1) := by
  show x.toNat.testBit 0 = _
  rw [bit_nat]; simp
set_option maxHeartbeats 1000000 in
set_option maxRecDepth 100000 in
theorem refSum_any {w : World} {A : Option Addr} {m c : Nat} {bs : List UInt8} (hb : BytesAt w A m bs) (hm : m ≤ maxLen) :
    Calls Tryd.prog 11 #[.slice A m c] w fun e w' => e = .returned (.int .u32 (sumL bs : Nat)) ∧ w = w' := by
  unfold maxLen at hm
  have hl := hb.1
  go_enter Tryd.func11, Tryd.ntmps11
  go_wp2_with fail
  go_loopw [3, 4, 5, 6] (fun r i k o wr => ∃ j : Nat, j ≤ m ∧ i = .int .i64 (j : Nat) ∧ r = .int .u32 ((regL (bs.take j)).toNat : Nat) ∧ wr = w) (fun _ i _ _ _ => m - (intOf i).toNat)
  case atStart => exact ⟨0, Nat.zero_le _, rfl, rfl, rfl⟩
  case round =>
    obtain ⟨j, hj, rfl, rfl, rfl⟩ := hrel
    by_cases hlt : j < m
    · have hlt' : (j : Int) < (m : Int) := by omega
      obtain ⟨b, o, rfl, hbw, hcells⟩ := hb.2 (by omega)
      obtain ⟨z, hz⟩ : ∃ z, bs[j]? = some z := ⟨bs[j]'(by omega), List.getElem?_eq_getElem _⟩
      have y1 : wr.cell? ⟨b, o + j, none⟩ = some (.int .u8 (z.toNat : Nat)) := hcells j z hz
      have hz255 := UInt8.toNat_lt z
      obtain ⟨R, hR⟩ : ∃ R, R = regL (bs.take j) := ⟨_, rfl⟩
      have hst := reg_step hz
      rw [← hR] at hst
      rw [← hR]
      have HS := Lib.hid (show regL (bs.take (j + 1)) = crcR R z 8 from hst.trans (crc_same R z).symm)
      clear hcells hz hst hR
      obtain ⟨wo, hwo⟩ : ∃ wo, wo = wr := ⟨_, rfl⟩
      subst hwo
      go_wp2_with fail
      go_loopw [3, 5, 6] (fun r k o wr => ∃ q : Nat, q ≤ 8 ∧ k = .int .i64 (q : Nat) ∧ r = .int .u32 ((crcR R z q).toNat : Nat) ∧ wr = wo) (fun _ k _ _ => 8 - (intOf k).toNat)
      case atStart => exact ⟨0, Nat.zero_le _, rfl, rfl, rfl⟩
      case round =>
        obtain ⟨q, hq, rfl, rfl, rfl⟩ := hrel
        by_cases hq8 : q < 8
        · have hq8' : (q : Int) < 8 := by omega
          obtain ⟨T, hT⟩ : ∃ T, T = crcR R z q := ⟨_, rfl⟩
          have HT := Lib.hid (show crcR R z (q + 1) = stp T (z.toNat.testBit q) by rw [hT]; rfl)
          rw [← hT]
          have e1 := and1_int T
          have e2 := half_nat T
          have e4 := flip_nat T
          obtain ⟨zq, hzq⟩ : ∃ zq : Nat, zq = z.toNat / 2 ^ q := ⟨_, rfl⟩
          have hzq1 : zq < 256 := by rw [hzq]; exact Nat.lt_of_le_of_lt (Nat.div_le_self _ _) (by omega)
          have e5 := and1_u8 zq hzq1
          have e6 : (z.toNat : Int) / 2 ^ q = (zq : Int) := by rw [hzq, Int.natCast_ediv, Int.natCast_pow]; rfl
          have hlo := low_nat T
          have hbi := bit_nat z.toNat q
          rw [← hzq] at hbi
          obtain ⟨T1, hT1⟩ : ∃ T1, T1 = T >>> 1 := ⟨_, rfl⟩
          obtain ⟨T2, hT2⟩ : ∃ T2, T2 = T1 ^^^ poly := ⟨_, rfl⟩
          rw [← hT1, ← hT2] at e4
          rw [← hT1] at e2
          have HN := Lib.hid (show crcR R z (q + 1) = if (T.getLsbD 0 != z.toNat.testBit q) = true then T2 else T1 by rw [HT.out, hT2, hT1]; rfl)
          clear HT hT hT1 hT2 hzq hzq1
          rcases (by omega : T.toNat % 2 = 1 ∨ T.toNat % 2 = 0) with h1 | h1 <;> rcases (by omega : zq % 2 = 1 ∨ zq % 2 = 0) with h2 | h2
          all_goals
            rw [h1] at hlo
            rw [h2] at hbi
            have h1' : (T.toNat : Int) % 2 = ((T.toNat % 2 : Nat) : Int) := by omega
            have h2' : (zq : Int) % 2 = ((zq % 2 : Nat) : Int) := by omega
            rw [h1] at h1'
            rw [h2] at h2'
            rw [h1'] at e1
            rw [h2'] at e5
            have HN2 := HN.out
            rw [hlo, hbi] at HN2
            simp at HN2
            have HN3 := Lib.hid HN2
            have E2 := Lib.hid e2
            have E4 := Lib.hid (show bits BinOp.xor IntKind.u32 ((T.toNat : Int) / 2) 3988292384 = ((T2.toNat : Nat) : Int) by rw [e2, e4])
            clear HN HN2 h1 h2 h1' h2' hlo hbi e2 e4
            go_wp2_with fail
            go_roundw
            case rel => exact ⟨q + 1, by omega, by go_num, by rw [HN3.out]; first | rw [E4.out] | rw [E2.out], by trivial⟩
            case measure => simp [intOf]; omega
        · obtain rfl : q = 8 := by omega
          have HS2 := Lib.hid (HS.out.symm)
          generalize crcR R z 8 = T at HS2
          go_wp2_with fail
          go_roundw
          case rel => exact ⟨j + 1, by omega, by go_num, by rw [← HS2.out], by trivial⟩
          case measure => simp [intOf]; omega
    · obtain rfl : j = m := by omega
      have hlt' : ¬ (j : Int) < (j : Int) := by omega
      rw [List.take_of_length_le (by omega)]
      have e1 : bits BinOp.xor IntKind.u32 ((regL bs).toNat : Int) 4294967295 = ((sumL bs : Nat) : Int) := by
        have := u32_xor (regL bs) 4294967295
        rw [show BitVec.ofNat 32 4294967295 = BitVec.allOnes 32 from rfl, BitVec.xor_allOnes] at this
        exact this
      go_wp2
      go_ret
      exact ⟨rfl, rfl⟩
end Go.Proofs.YteokiaeojgjpdaaDoor
