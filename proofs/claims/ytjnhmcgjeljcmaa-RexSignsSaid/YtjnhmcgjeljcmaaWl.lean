/- Contracts of the library, laid at this program: one application each. rex.signText, letterText. -/
import Derived.Shelf.Strings.Builder1
import Derived.Shelf.Small.Strs
import Derived.Test.YtjnhmcgjeljcmaaProg
import Derived.Test.YtjnhmcgjeljcmaaWt
import Derived.Test.YtjnhmcgjeljcmaaXx
import Derived.Test.YtjnhmcgjeljcmaaXl
import Derived.Lib.VarintMem
import Derived.Lib.BufferRead
namespace Go.Proofs
open Go.Shelf
def Try.lays169_ren : Go.Shelf.Ren := ⟨fun | 169 => 38 | n => n, fun | 70 => 92 | 9 => 9 | 0 => 0 | 72 => 94 | 37 => 51 | 127 => 132 | 3 => 3 | 5 => 5 | n => n, fun | n => n⟩
theorem Try.lays169 : Go.Proofs.Lays.n169 Try.prog Try.lays169_ren := {
  mixed := by kernel_rfl
  f169 := Try.func38.trans (congrArg some (by kernel_rfl))
  t0 := Try.underlying0
  a0 := Try.isAgg0
  z0 := Try.sizeOf0
  v0 := Try.zeroValue0
  t3 := Try.underlying3
  a3 := Try.isAgg3
  z3 := Try.sizeOf3
  v3 := Try.zeroValue3
  t9 := Try.underlying9
  a9 := Try.isAgg9
  z9 := Try.sizeOf9
  v9 := Try.zeroValue9
  t37 := Try.underlying51
  a37 := Try.isAgg51
  z37 := Try.sizeOf51
  v37 := Try.zeroValue51
  t70 := Try.underlying92
  a70 := Try.isAgg92
  z70 := Try.sizeOf92
  v70 := Try.zeroValue92
  t72 := Try.underlying94
  a72 := Try.isAgg94
  z72 := Try.sizeOf94
  v72 := Try.zeroValue94
  t127 := Try.underlying132
  a127 := Try.isAgg132
  z127 := Try.sizeOf132
  v127 := Try.zeroValue132 }
theorem Try.Builder_Extra_169 : Builder.Extra Try.prog Try.lays169_ren := {
  sizeBuilder := by kernel_rfl
  liesBuilder := by kernel_rfl
  t5 := Try.underlying5
  a5 := Try.isAgg5
  z5 := Try.sizeOf5
  v5 := Try.zeroValue5
  infoByte := by kernel_rfl
  cellsByte := by kernel_rfl
  sizeByte := by kernel_rfl
  neB5 := by decide }
open Go.RowKit in
theorem Try.Builder_String_any (B b : Nat) (l : List UInt8) (w : World) (h : Lib.IsBuilder 94 5 B b (Lib.byteCells l) w) (hBw : B ≤ w.heap.size) :
    Calls Try.prog 38 #[.pointer (some ⟨b, 0, none⟩)] w fun e w' => e = .returned (.string ⟨l.toArray⟩) ∧ Below B w w' := Any.Builder_String_any Try.lays169 Try.Builder_Extra_169 B b l w h hBw
def Try.lays137_ren : Go.Shelf.Ren := ⟨fun | 137 => 119 | 217 => 135 | 266 => 156 | n => n, fun | 9 => 9 | 5 => 5 | 3 => 3 | n => n, fun | n => n⟩
theorem Try.lays137 : Go.Proofs.Lays.n137 Try.prog Try.lays137_ren := {
  mixed := by kernel_rfl
  f137 := Try.func119.trans (congrArg some (by kernel_rfl))
  f217 := Try.func135.trans (congrArg some (by kernel_rfl))
  f266 := Try.func156.trans (congrArg some (by kernel_rfl))
  t3 := Try.underlying3
  a3 := Try.isAgg3
  z3 := Try.sizeOf3
  v3 := Try.zeroValue3
  t5 := Try.underlying5
  a5 := Try.isAgg5
  z5 := Try.sizeOf5
  v5 := Try.zeroValue5
  t9 := Try.underlying9
  a9 := Try.isAgg9
  z9 := Try.sizeOf9
  v9 := Try.zeroValue9 }
open Go.RowKit in
theorem Try.strings_IndexByte (s : ByteArray) (c : Int) (w : World) :
    Calls Try.prog 119 #[.string s, .int .u8 c] w fun e w' => e = .returned (.int .i64 (Lib.indexByte s.data.toList c.toNat.toUInt8)) ∧ w' = w := Any.strings_IndexByte Try.lays137 s c w
end Go.Proofs
namespace Go.Proofs.Ytjnhmcgjeljcmaa
open Go.RowKit

theorem signText_any (k : Int) (w : World) (hk : k = 4 ∨ k = 5 ∨ k = 6) : Calls Try.prog 60 #[.int .i64 k] w fun e w' => e = .returned (.string ⟨(signT k).toArray⟩) ∧ w = w' := by
  rcases hk with rfl | rfl | rfl
  · go_enter Try.func60, Try.ntmps60
    go_wp2
    go_ret
    exact ⟨rfl, rfl⟩
  · go_enter Try.func60, Try.ntmps60
    go_wp2
    go_ret
    exact ⟨rfl, rfl⟩
  · go_enter Try.func60, Try.ntmps60
    go_wp2
    go_ret
    exact ⟨rfl, rfl⟩
theorem xbyte_ne {b c : UInt8} (h : b ≠ c) : (((b.toNat : Nat) : Int) == ((c.toNat : Nat) : Int)) = false := by
  have : b.toNat ≠ c.toNat := fun e => h (UInt8.toNat_inj.1 e)
  simp; omega
theorem xconv1 (w : World) (c : UInt8) : (convert 51 9 (.slice (some ⟨w.heap.size, 0, none⟩) 1 1)).run Try.prog (w.alloc (.cells #[.int .u8 (c.toNat : Nat)] 5)) = .ok (.string ⟨#[c]⟩) (w.alloc (.cells #[.int .u8 (c.toNat : Nat)] 5)) := by
  refine run_convert_bytes_back _ 51 9 5 ⟨w.heap.size, 0, none⟩ 1 [c] Try.underlying51 Try.underlying5 Try.underlying9 (Lib.bytes_of_row (heap_alloc_new w _) ?_)
  simp [Lib.byteCells]
theorem xconv2 (w : World) (c : UInt8) : (convert 51 9 (.slice (some ⟨w.heap.size, 0, none⟩) 2 2)).run Try.prog (w.alloc (.cells #[.int .u8 92, .int .u8 (c.toNat : Nat)] 5)) = .ok (.string ⟨#[92, c]⟩) (w.alloc (.cells #[.int .u8 92, .int .u8 (c.toNat : Nat)] 5)) := by
  refine run_convert_bytes_back _ 51 9 5 ⟨w.heap.size, 0, none⟩ 2 [92, c] Try.underlying51 Try.underlying5 Try.underlying9 (Lib.bytes_of_row (heap_alloc_new w _) ?_)
  simp [Lib.byteCells]
theorem sgs_fin : ∀ n : Fin 256, decide (0 ≤ Lib.indexByte sgs (UInt8.ofNat n.val)) = sgs.contains (UInt8.ofNat n.val) := by decide +kernel
theorem csgs_fin : ∀ n : Fin 256, decide (0 ≤ Lib.indexByte csgs (UInt8.ofNat n.val)) = csgs.contains (UInt8.ofNat n.val) := by decide +kernel
theorem sgs_ix (c : UInt8) : decide (0 ≤ Lib.indexByte sgs c) = sgs.contains c := by
  have := sgs_fin ⟨c.toNat, UInt8.toNat_lt c⟩
  simpa using this
theorem csgs_ix (c : UInt8) : decide (0 ≤ Lib.indexByte csgs c) = csgs.contains c := by
  have := csgs_fin ⟨c.toNat, UInt8.toNat_lt c⟩
  simpa using this
theorem xbyte_back (c : UInt8) : ((c.toNat : Nat) : Int).toNat.toUInt8 = c := by simp
set_option maxHeartbeats 1000000 in
set_option maxRecDepth 100000 in
theorem letterText_any (sg : List UInt8) (hsg : ∀ c, decide (0 ≤ Lib.indexByte sg c) = sg.contains c) (b : UInt8) (w : World) :
    Calls Try.prog 93 #[.int .u8 b.toNat, .string ⟨sg.toArray⟩] w fun e w' => e = .returned (.string ⟨(letterT sg b).toArray⟩) ∧ Below w.heap.size w w' := by
  unfold letterT
  by_cases h10 : b = 10
  · subst h10
    go_enter Try.func93, Try.ntmps93
    go_wp2
    go_ret
    exact ⟨rfl, Below.refl _ _⟩
  · rw [if_neg h10]
    have e10 : (((b.toNat : Nat) : Int) == 10) = false := xbyte_ne h10
    by_cases h9 : b = 9
    · subst h9
      go_enter Try.func93, Try.ntmps93
      go_wp2
      go_ret
      exact ⟨rfl, Below.refl _ _⟩
    · rw [if_neg h9]
      have e9 : (((b.toNat : Nat) : Int) == 9) = false := xbyte_ne h9
      cases hc : sg.contains b
      · have hix : ¬ 0 ≤ Lib.indexByte sg b := by have := hsg b; rw [hc] at this; simpa using this
        clear hc h10 h9 hsg
        go_enter Try.func93, Try.ntmps93
        go_wp2_with fail
        refine (Try.strings_IndexByte _ _ _).mono ?_
        rintro e w1 ⟨rfl, rfl⟩
        rw [xbyte_back]
        go_wp2
        rw [xconv1 w1 b]
        simp only [Result.andThen]
        rw [Oper.upon_value]
        go_wp2
        go_ret
        exact ⟨rfl, (Below.refl _ _).alloc (Nat.le_refl _) _⟩
      · have hix : 0 ≤ Lib.indexByte sg b := by have := hsg b; rw [hc] at this; simpa using this
        clear hc h10 h9 hsg
        go_enter Try.func93, Try.ntmps93
        go_wp2_with fail
        refine (Try.strings_IndexByte _ _ _).mono ?_
        rintro e w1 ⟨rfl, rfl⟩
        rw [xbyte_back]
        go_wp2
        rw [xconv2 w1 b]
        simp only [Result.andThen]
        rw [Oper.upon_value]
        go_wp2
        go_ret
        exact ⟨rfl, (Below.refl _ _).alloc (Nat.le_refl _) _⟩
end Go.Proofs.Ytjnhmcgjeljcmaa
