/- glob.Quote. -/
import Derived.Test.YtepfpmnfecehbaaCu
import Derived.Test.YtepfpmnfecehbaaBld
import Derived.Test.YtepfpmnfecehbaaShelf
import Derived.Lib.VarintMem
namespace Go.Proofs.Ytepfpmnfecehbaa
open Go.RowKit

def isSign (c : UInt8) : Bool := c == 63 || c == 42 || c == 91 || c == 92
def quote1 (c : UInt8) : List UInt8 := if isSign c then [92, c] else [c]
def quoteG (l : List UInt8) : List UInt8 := l.flatMap quote1
theorem quoteG_snoc (l : List UInt8) (c : UInt8) : quoteG (l ++ [c]) = quoteG l ++ quote1 c := by simp [quoteG]
theorem quoteG_len (l : List UInt8) : (quoteG l).length ≤ 2 * l.length := by
  induction l with
  | nil => simp [quoteG]
  | cons c l ih =>
    have h : (quote1 c).length ≤ 2 := by unfold quote1; split <;> simp
    simp only [quoteG, List.flatMap_cons, List.length_append, List.length_cons] at ih ⊢
    omega
theorem sign_fin : ∀ n : Fin 256, decide (0 ≤ Lib.indexByte [63, 42, 91, 92] (UInt8.ofNat n.val)) = isSign (UInt8.ofNat n.val) := by decide +kernel
theorem sign_any (c : UInt8) : decide (0 ≤ Lib.indexByte [63, 42, 91, 92] c) = isSign c := by
  have := sign_fin ⟨c.toNat, UInt8.toNat_lt c⟩
  simpa using this
theorem ret_str {a b : List UInt8} (h : a = b) : Ending.returned (.string ⟨a.toArray⟩) = .returned (.string ⟨b.toArray⟩) := by rw [h]
theorem bytes_snoc (l : List UInt8) (c : UInt8) : Lib.byteCells (l ++ [c]) = Lib.byteCells l ++ [.int .u8 (c.toNat : Nat)] := by simp [Lib.byteCells]
theorem byte_back (c : UInt8) : ((c.toNat : Nat) : Int).toNat.toUInt8 = c := by simp

set_option maxHeartbeats 1000000 in
set_option maxRecDepth 100000 in
theorem quote_any (s : ByteArray) (w : World) (hs : s.size ≤ 35184372088832) :
    Calls Try.prog 40 #[.string s] w fun e w' => e = .returned (.string ⟨(quoteG s.data.toList).toArray⟩) ∧ Below w.heap.size w w' := by
  go_enter Try.func40, Try.ntmps40
  go_wp2_with fail
  go_loopw [7] (fun i wr => ∃ k : Nat, k ≤ s.size ∧ i = .int .i64 k ∧ Lib.IsBuilder 129 5 w.heap.size w.heap.size (Lib.byteCells (quoteG (s.data.toList.take k))) wr ∧ Below w.heap.size w wr) (fun i _ => s.size - (intOf i).toNat)
  case atStart => exact ⟨0, Nat.zero_le _, rfl, Lib.fresh_isBuilder 129 5 w, (Below.refl _ w).alloc (Nat.le_refl _) _⟩
  case round =>
    obtain ⟨k, hk, rfl, hI, hbw⟩ := hrel
    have hB := hbw.size
    by_cases hlt : k < s.size
    · have hlt' : (k : Int) < (s.size : Int) := by omega
      have hbt := byteAt_eq s k hlt
      have hlen := quoteG_len (s.data.toList.take k)
      have hlen2 : (s.data.toList.take k).length ≤ k := List.length_take_le _ _
      have hq : quoteG (s.data.toList.take (k + 1)) = quoteG (s.data.toList.take k) ++ quote1 (byteAt s k) := by
        have h' : k < s.data.toList.length := hlt
        rw [List.take_succ_eq_append_getElem h', quoteG_snoc, show s.data.toList[k] = byteAt s k from hbt]
      cases hsg : isSign (byteAt s k)
      · have HQ := Lib.hid (show Lib.byteCells (quoteG (s.data.toList.take (k + 1))) = Lib.byteCells (quoteG (s.data.toList.take k)) ++ [.int .u8 ((byteAt s k).toNat : Nat)] by
          rw [hq, quote1, hsg]; exact bytes_snoc _ _)
        have hix : decide (0 ≤ Lib.indexByte [63, 42, 91, 92] (byteAt s k)) = false := by rw [sign_any, hsg]
        have hix' : ¬ 0 ≤ Lib.indexByte [63, 42, 91, 92] (byteAt s k) := by simpa using hix
        clear hq hsg
        go_wp2_with fail
        refine (Try.strings_IndexByte _ _ _).mono ?_
        rintro e w1 ⟨rfl, rfl⟩
        rw [byte_back]
        go_wp2_with fail
        refine (writeByte w.heap.size w.heap.size _ _ _ hI (by simp [Lib.byteCells_length]; omega) hB).mono ?_
        rintro e W1 ⟨rfl, h1, b1⟩
        go_wp2
        go_roundw
        case rel => exact ⟨k + 1, by omega, by go_num, by rw [HQ.out]; exact Or.inr h1, hbw.trans b1⟩
        case measure => simp [intOf]; omega
      · have HQ := Lib.hid (show Lib.byteCells (quoteG (s.data.toList.take (k + 1))) = (Lib.byteCells (quoteG (s.data.toList.take k)) ++ [.int .u8 92]) ++ [.int .u8 ((byteAt s k).toNat : Nat)] by
          rw [hq, quote1, hsg]
          rw [show quoteG (s.data.toList.take k) ++ (if true = true then [92, byteAt s k] else [byteAt s k]) = (quoteG (s.data.toList.take k) ++ [92]) ++ [byteAt s k] by simp, bytes_snoc, bytes_snoc]; rfl)
        have hix : decide (0 ≤ Lib.indexByte [63, 42, 91, 92] (byteAt s k)) = true := by rw [sign_any, hsg]
        have hix' : 0 ≤ Lib.indexByte [63, 42, 91, 92] (byteAt s k) := by simpa using hix
        clear hq hsg
        go_wp2_with fail
        refine (Try.strings_IndexByte _ _ _).mono ?_
        rintro e w1 ⟨rfl, rfl⟩
        rw [byte_back]
        go_wp2_with fail
        refine (writeByte w.heap.size w.heap.size _ 92 _ hI (by simp [Lib.byteCells_length]; omega) hB).mono ?_
        rintro e W1 ⟨rfl, h1, b1⟩
        go_wp2_with fail
        refine (writeByte w.heap.size w.heap.size _ _ _ (Or.inr h1) (by simp [Lib.byteCells_length]; omega) (Nat.le_trans hB b1.size)).mono ?_
        rintro e W2 ⟨rfl, h2, b2⟩
        go_wp2
        go_roundw
        case rel => exact ⟨k + 1, by omega, by go_num, by rw [HQ.out]; exact Or.inr h2, (hbw.trans b1).trans b2⟩
        case measure => simp [intOf]; omega
    · obtain rfl : k = s.size := by omega
      have HE := Lib.hid (show s.data.toList.take s.size = s.data.toList from List.take_of_length_le (Nat.le_refl _))
      go_wp2_with fail
      refine (Try.Builder_String_any w.heap.size w.heap.size (quoteG (s.data.toList.take s.size)) _ hI hB).mono ?_
      rintro e W1 ⟨rfl, b1⟩
      go_wp2
      go_ret
      exact ⟨ret_str (by rw [HE.out]), hbw.trans b1⟩
end Go.Proofs.Ytepfpmnfecehbaa
