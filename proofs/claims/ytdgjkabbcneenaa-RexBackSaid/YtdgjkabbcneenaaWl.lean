/- rex.signText, letterText. -/
import Derived.Test.YtdgjkabbcneenaaWt
import Derived.Test.YtdgjkabbcneenaaXx
import Derived.Test.YtdgjkabbcneenaaXl
import Derived.Test.YtdgjkabbcneenaaShelf
import Derived.Lib.VarintMem
import Derived.Lib.BufferRead
namespace Go.Proofs.Ytdgjkabbcneenaa
open Go.RowKit

theorem signText_any (k : Int) (w : World) (hk : k = 4 ∨ k = 5 ∨ k = 6) : Calls Try.prog 81 #[.int .i64 k] w fun e w' => e = .returned (.string ⟨(signT k).toArray⟩) ∧ w = w' := by
  rcases hk with rfl | rfl | rfl
  · go_enter Try.func81, Try.ntmps81
    go_wp2
    go_ret
    exact ⟨rfl, rfl⟩
  · go_enter Try.func81, Try.ntmps81
    go_wp2
    go_ret
    exact ⟨rfl, rfl⟩
  · go_enter Try.func81, Try.ntmps81
    go_wp2
    go_ret
    exact ⟨rfl, rfl⟩
theorem xbyte_ne {b c : UInt8} (h : b ≠ c) : (((b.toNat : Nat) : Int) == ((c.toNat : Nat) : Int)) = false := by
  have : b.toNat ≠ c.toNat := fun e => h (UInt8.toNat_inj.1 e)
  simp; omega
theorem xconv1 (w : World) (c : UInt8) : (convert 57 9 (.slice (some ⟨w.heap.size, 0, none⟩) 1 1)).run Try.prog (w.alloc (.cells #[.int .u8 (c.toNat : Nat)] 5)) = .ok (.string ⟨#[c]⟩) (w.alloc (.cells #[.int .u8 (c.toNat : Nat)] 5)) := by
  refine run_convert_bytes_back _ 57 9 5 ⟨w.heap.size, 0, none⟩ 1 [c] Try.underlying57 Try.underlying5 Try.underlying9 (Lib.bytes_of_row (heap_alloc_new w _) ?_)
  simp [Lib.byteCells]
theorem xconv2 (w : World) (c : UInt8) : (convert 57 9 (.slice (some ⟨w.heap.size, 0, none⟩) 2 2)).run Try.prog (w.alloc (.cells #[.int .u8 92, .int .u8 (c.toNat : Nat)] 5)) = .ok (.string ⟨#[92, c]⟩) (w.alloc (.cells #[.int .u8 92, .int .u8 (c.toNat : Nat)] 5)) := by
  refine run_convert_bytes_back _ 57 9 5 ⟨w.heap.size, 0, none⟩ 2 [92, c] Try.underlying57 Try.underlying5 Try.underlying9 (Lib.bytes_of_row (heap_alloc_new w _) ?_)
  simp [Lib.byteCells]
theorem sgs_fin : ∀ n : Fin 256, decide (0 ≤ Lib.indexByte sgs (UInt8.ofNat n.val)) = sgs.contains (UInt8.ofNat n.val) := by decide +kernel
theorem csgs_fin : ∀ n : Fin 256, decide (0 ≤ Lib.indexByte csgs (UInt8.ofNat n.val)) = csgs.contains (UInt8.ofNat n.val) := by decide +kernel
theorem sgs_ix (c : UInt8) : decide (0 ≤ Lib.indexByte sgs c) = sgs.contains c := by
  have := sgs_fin ⟨c.toNat, UInt8.toNat_lt c⟩
  simpa using this
theorem csgs_ix (c : UInt8) : decide (0 ≤ Lib.indexByte csgs c) = csgs.contains c := by
  have := csgs_fin ⟨c.toNat, UInt8.toNat_lt c⟩
  simpa using this
theorem xbyte_back (c : UInt8) : ((c.toNat : Nat) : Int).toNat.toUInt8 = c := by simp
set_option maxHeartbeats 1000000 in
set_option maxRecDepth 100000 in
theorem letterText_any (sg : List UInt8) (hsg : ∀ c, decide (0 ≤ Lib.indexByte sg c) = sg.contains c) (b : UInt8) (w : World) :
    Calls Try.prog 94 #[.int .u8 b.toNat, .string ⟨sg.toArray⟩] w fun e w' => e = .returned (.string ⟨(letterT sg b).toArray⟩) ∧ Below w.heap.size w w' := by
  unfold letterT
  by_cases h10 : b = 10
  · subst h10
    go_enter Try.func94, Try.ntmps94
    go_wp2
    go_ret
    exact ⟨rfl, Below.refl _ _⟩
  · rw [if_neg h10]
    have e10 : (((b.toNat : Nat) : Int) == 10) = false := xbyte_ne h10
    by_cases h9 : b = 9
    · subst h9
      go_enter Try.func94, Try.ntmps94
      go_wp2
      go_ret
      exact ⟨rfl, Below.refl _ _⟩
    · rw [if_neg h9]
      have e9 : (((b.toNat : Nat) : Int) == 9) = false := xbyte_ne h9
      cases hc : sg.contains b
      · have hix : ¬ 0 ≤ Lib.indexByte sg b := by have := hsg b; rw [hc] at this; simpa using this
        clear hc h10 h9 hsg
        go_enter Try.func94, Try.ntmps94
        go_wp2_with fail
        refine (Try.strings_IndexByte _ _ _).mono ?_
        rintro e w1 ⟨rfl, rfl⟩
        rw [xbyte_back]
        go_wp2
        rw [xconv1 w1 b]
        simp only [Result.andThen]
        rw [Oper.upon_value]
        go_wp2
        go_ret
        exact ⟨rfl, (Below.refl _ _).alloc (Nat.le_refl _) _⟩
      · have hix : 0 ≤ Lib.indexByte sg b := by have := hsg b; rw [hc] at this; simpa using this
        clear hc h10 h9 hsg
        go_enter Try.func94, Try.ntmps94
        go_wp2_with fail
        refine (Try.strings_IndexByte _ _ _).mono ?_
        rintro e w1 ⟨rfl, rfl⟩
        rw [xbyte_back]
        go_wp2
        rw [xconv2 w1 b]
        simp only [Result.andThen]
        rw [Oper.upon_value]
        go_wp2
        go_ret
        exact ⟨rfl, (Below.refl _ _).alloc (Nat.le_refl _) _⟩
end Go.Proofs.Ytdgjkabbcneenaa
