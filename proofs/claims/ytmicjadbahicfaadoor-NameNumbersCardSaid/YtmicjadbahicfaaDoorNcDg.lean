/- digits: a number in decimal digits. -/
import Derived.Test.YtmicjadbahicfaaDoorNcPn
import Derived.Test.YtmicjadbahicfaaDoorNcOl
import Derived.Lib.BufferRead
namespace Go.Proofs.YtmicjadbahicfaaDoor
open Go.RowKit

theorem loopD_go {f r : Nat} {o : List UInt8} (h : o = [] ∨ 0 < r) : loopD (f + 1) r o = loopD f (r / 10) ((48 + r % 10).toUInt8 :: o) := by rw [loopD, if_pos h]
theorem loopD_end {f : Nat} {o : List UInt8} (h : o ≠ []) : loopD (f + 1) 0 o = o := by rw [loopD, if_neg]; rintro (e | e); exact h e; omega
theorem one_byte (w : World) (r : Nat) : (convert 60 9 (.slice (some ⟨w.heap.size, 0, none⟩) 1 1)).run Tryd.prog (w.alloc (.cells #[.int .u8 (48 + (r : Int) % 10)] 5)) = .ok (.string ⟨#[(48 + r % 10).toUInt8]⟩) (w.alloc (.cells #[.int .u8 (48 + (r : Int) % 10)] 5)) := by
  refine run_convert_bytes_back _ 60 9 5 ⟨w.heap.size, 0, none⟩ 1 [(48 + r % 10).toUInt8] Tryd.underlying60 Tryd.underlying5 Tryd.underlying9 (Lib.bytes_of_row (heap_alloc_new w _) ?_)
  simp only [Lib.byteCells, List.length_singleton, List.map_cons, List.map_nil]
  rw [dig_nat (Nat.mod_lt _ (by omega))]
  rfl
def strN : Value → Nat
  | .string o => if o.size = 0 then 1 else 0
  | _ => 0
theorem app_list (x : UInt8) (o : ByteArray) : ((⟨#[x]⟩ : ByteArray) ++ o).data.toList = x :: o.data.toList := by
  rw [ByteArray.data_append]; simp
theorem app_size (x : UInt8) (o : ByteArray) : ((⟨#[x]⟩ : ByteArray) ++ o).size = o.size + 1 := by
  have h := congrArg List.length (app_list x o)
  exact h
theorem pow_small {k r N : Nat} (h : r * 10 ^ k ≤ N) (hr : 0 < r) (hN : N < 1048576) : k ≤ 6 := by
  rcases Nat.lt_or_ge 6 k with h1 | h1
  · exfalso
    have h2 : 10 ^ 7 ≤ 10 ^ k := Nat.pow_le_pow_right (by omega) h1
    have h3 : 1 * 10 ^ k ≤ r * 10 ^ k := Nat.mul_le_mul_right _ hr
    have h4 : (10 : Nat) ^ 7 = 10000000 := by decide
    omega
  · exact h1
theorem pow_next {k r N : Nat} (h : r * 10 ^ k ≤ N) : r / 10 * 10 ^ (k + 1) ≤ N := by
  rw [Nat.pow_succ, Nat.mul_comm (10 ^ k) 10, ← Nat.mul_assoc]
  exact Nat.le_trans (Nat.mul_le_mul_right _ (Nat.div_mul_le_self r 10)) h
theorem u8_sum (r : Nat) : (48 : UInt8) + UInt8.ofNat (r % 10) = (48 + r % 10).toUInt8 := by
  rw [show (48 + r % 10).toUInt8 = UInt8.ofNat (48 + r % 10) from rfl, UInt8.ofNat_add]; rfl
theorem empty_of {o : ByteArray} (h : o.size = 0) : o.data.toList = [] := List.length_eq_zero_iff.1 h

set_option maxHeartbeats 1000000 in
theorem digitsC (N : Nat) (w : World) (hN : N < 1048576) (D : ByteArray) (hD : D.data.toList = decL N) :
    Calls Tryd.prog 13 #[.int .i64 N] w fun e w' => e = .returned (.string D) ∧ Below w.heap.size w w' := by
  have HD := Lib.hid hD
  clear hD
  go_enter Tryd.func13, Tryd.ntmps13
  go_wp2
  go_loopw [0, 3] (fun a s wr => ∃ (k r : Nat) (o : ByteArray), k ≤ 7 ∧ r * 10 ^ k ≤ N ∧ r ≤ 1048576 ∧ a = .int .i64 r ∧ s = .string o ∧ o.size = k ∧ loopD (30 - k) r o.data.toList = decL N ∧ Below w.heap.size w wr) (fun a s _ => 2 * (intOf a).toNat + strN s)
  case atStart => exact ⟨0, N, ⟨#[]⟩, by omega, by omega, by omega, rfl, rfl, rfl, rfl, Below.refl _ _⟩
  case round =>
    obtain ⟨k, r, o, hk, hr0, hr9, rfl, rfl, hok, hl0, hbw⟩ := hrel
    have HL := Lib.hid hl0
    have HK := Lib.hid hok
    have HR := Lib.hid hr0
    have hos : o.size ≤ 7 := by omega
    clear hl0 hok hr0
    have hcv := one_byte wr r
    have hB := hbw.size
    by_cases h0 : o.size = 0
    · have HE := Lib.hid h0
      have e1 : o.toList = [] := by rw [Lib.toList_data]; exact empty_of h0
      have e2 : o.toList.isEmpty = true := by rw [e1]; rfl
      have HN := Lib.hid (show loopD (30 - (k + 1)) (r / 10) ((48 + r % 10).toUInt8 :: o.data.toList) = decL N by
        rw [← HL.out, show 30 - k = (30 - (k + 1)) + 1 by omega, loopD_go (Or.inl (empty_of h0))])
      have hk0 : k + 1 ≤ 7 := by have := HK.out; omega
      clear h0 e1
      go_wp2
      go_roundw
      case rel => exact ⟨k + 1, r / 10, _, hk0, pow_next HR.out, by omega, by go_num, rfl, by rw [app_size, HK.out], by first | (rw [app_list]; exact HN.out) | (rw [app_list, ← u8_sum] ; rw [← u8_sum] at HN; exact HN.out) | (rw [app_list, u8_sum]; exact HN.out), hbw.alloc hB _⟩
      case measure => simp only [strN, app_size, HE.out, intOf]; simp; omega
    · have e1 : ¬ o.toList = [] := by
        rw [Lib.toList_data]; intro e; exact h0 (show o.size = 0 by have := congrArg List.length e; exact this)
      have e2 : o.toList.isEmpty = false := by rw [List.isEmpty_eq_false_iff]; exact e1
      have HE := Lib.hid h0
      clear h0
      by_cases hr : 0 < r
      · have HN := Lib.hid (show loopD (30 - (k + 1)) (r / 10) ((48 + r % 10).toUInt8 :: o.data.toList) = decL N by
          rw [← HL.out, show 30 - k = (30 - (k + 1)) + 1 by omega, loopD_go (Or.inr hr)])
        have hk0 := pow_small HR.out hr hN
        go_wp2
        go_roundw
        case rel => exact ⟨k + 1, r / 10, _, by omega, pow_next HR.out, by omega, by go_num, rfl, by rw [app_size, HK.out], by first | (rw [app_list]; exact HN.out) | (rw [app_list, ← u8_sum] ; rw [← u8_sum] at HN; exact HN.out) | (rw [app_list, u8_sum]; exact HN.out), hbw.alloc hB _⟩
        case measure => simp only [strN, app_size, intOf]; rw [if_neg (by omega), if_neg HE.out]; simp; omega
      · obtain rfl : r = 0 := by omega
        have HN := Lib.hid (show o.data.toList = decL N by
          have hne : o.data.toList ≠ [] := by rw [Lib.toList_data] at e1; exact e1
          rw [← HL.out, show 30 - k = (29 - k) + 1 by omega, loopD_end hne])
        go_wp2
        go_ret
        refine ⟨?_, hbw⟩
        have : o = D := ba_inj (HN.out.trans HD.out.symm)
        rw [← this]; rfl

end Go.Proofs.YtmicjadbahicfaaDoor
