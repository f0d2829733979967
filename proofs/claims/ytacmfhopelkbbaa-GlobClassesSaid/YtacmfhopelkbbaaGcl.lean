/- GlobClasses answers true. -/
import Derived.Test.YtacmfhopelkbbaaGst
import Derived.Test.YtacmfhopelkbbaaGy
import Derived.Lib.BufferRead
import Derived.OpenShut
namespace Go.Proofs.Ytacmfhopelkbbaa
open Go.RowKit

theorem conv1 (w : World) (c : UInt8) : (convert 41 9 (.slice (some ⟨w.heap.size, 0, none⟩) 1 1)).run Try.prog (w.alloc (.cells #[.int .u8 (c.toNat : Nat)] 5)) = .ok (.string ⟨#[c]⟩) (w.alloc (.cells #[.int .u8 (c.toNat : Nat)] 5)) := by
  refine run_convert_bytes_back _ 41 9 5 ⟨w.heap.size, 0, none⟩ 1 [c] Try.underlying41 Try.underlying5 Try.underlying9 (Lib.bytes_of_row (heap_alloc_new w _) ?_)
  simp [Lib.byteCells]
theorem conv2 (w : World) (o : Obj) (c : UInt8) : (convert 41 9 (.slice (some ⟨w.heap.size + 1, 0, none⟩) 1 1)).run Try.prog ((w.alloc o).alloc (.cells #[.int .u8 (c.toNat : Nat)] 5)) = .ok (.string ⟨#[c]⟩) ((w.alloc o).alloc (.cells #[.int .u8 (c.toNat : Nat)] 5)) := by
  have := conv1 (w.alloc o) c
  simpa using this
theorem one_le (c : UInt8) : (⟨#[c]⟩ : ByteArray).size ≤ maxLen := by show 1 ≤ maxLen; decide
theorem two_le (c : UInt8) : (⟨#[c]⟩ : ByteArray).size + (⟨#[c]⟩ : ByteArray).size ≤ maxLen := by show 1 + 1 ≤ maxLen; decide
def patB (lo hi : UInt8) : ByteArray := ⟨#[91]⟩ ++ (⟨#[92]⟩ ++ ⟨#[lo]⟩ ++ ⟨#[45, 92]⟩ ++ ⟨#[hi]⟩ ++ ⟨#[93]⟩)
theorem patB_list (lo hi : UInt8) : (⟨#[91]⟩ ++ (⟨#[92]⟩ ++ ⟨#[lo]⟩ ++ ⟨#[45, 92]⟩ ++ ⟨#[hi]⟩ ++ ⟨#[93]⟩) : ByteArray).data.toList = 91 :: clsL lo hi := by
  simp only [list_app]; rfl
theorem patN_list (lo hi : UInt8) : (⟨#[91, 33]⟩ ++ (⟨#[92]⟩ ++ ⟨#[lo]⟩ ++ ⟨#[45, 92]⟩ ++ ⟨#[hi]⟩ ++ ⟨#[93]⟩) : ByteArray).data.toList = 91 :: 33 :: clsL lo hi := by
  simp only [list_app]; rfl
theorem two_list (c : UInt8) : (⟨#[c]⟩ ++ ⟨#[c]⟩ : ByteArray).data.toList = [c, c] := by
  simp only [list_app]; rfl
set_option maxHeartbeats 1000000 in
set_option maxRecDepth 100000 in
theorem globClasses_walk (lo hi c : UInt8) (w : World) :
    Calls Try.prog 8 #[.int .u8 (lo.toNat : Nat), .int .u8 (hi.toNat : Nat), .int .u8 (c.toNat : Nat)] w fun e w' => e = .returned (.bool true) ∧ Below w.heap.size w w' := by
  have cv1 := conv1
  have cv2 := conv2
  have hs1 : (⟨#[92]⟩ ++ ⟨#[lo]⟩ ++ ⟨#[45, 92]⟩ ++ ⟨#[hi]⟩ ++ ⟨#[93]⟩ : ByteArray).size = 6 := by simp only [size_app]; rfl
  by_cases hh : hi < lo
  · have hlt : (hi.toNat : Int) < (lo.toNat : Int) := by have := UInt8.lt_iff_toNat_lt.1 hh; omega
    have HP := Lib.hid (fun W => (show Calls Try.prog 10 #[.string (⟨#[91]⟩ ++ (⟨#[92]⟩ ++ ⟨#[lo]⟩ ++ ⟨#[45, 92]⟩ ++ ⟨#[hi]⟩ ++ ⟨#[93]⟩))] W (TreePost W (zeroT, 32, 1)) by
      have := parse_any (⟨#[91]⟩ ++ (⟨#[92]⟩ ++ ⟨#[lo]⟩ ++ ⟨#[45, 92]⟩ ++ ⟨#[hi]⟩ ++ ⟨#[93]⟩)) W
      rw [patB_list, parse_cls_bad hh] at this
      exact this))
    clear hh
    go_enter Try.func8, Try.ntmps8
    go_wp2_with fail
    refine (alive_any _).mono ?_
    rintro e w1 ⟨rfl, b1⟩
    go_wp2_with fail
    refine (HP.out _).mono ?_
    rintro e w2 ⟨d, k, A, n, cc, A', n', c', rfl, _, b2⟩
    go_wp2
    go_ret
    refine ⟨rfl, ?_⟩
    have h1 := ((b1.alloc b1.size (.cells #[.int .u8 (lo.toNat : Nat)] 5)).alloc (by have := b1.size; simp; omega) (.cells #[.int .u8 (hi.toNat : Nat)] 5))
    have h2 := h1.trans (b2.mono h1.size)
    exact h2.alloc h2.size _
  · have hlt : ¬ (hi.toNat : Int) < (lo.toNat : Int) := by
      have h5 : ¬ hi.toNat < lo.toNat := fun h => hh (UInt8.lt_iff_toNat_lt.2 h)
      omega
    have HP := Lib.hid (fun W => (show Calls Try.prog 10 #[.string (⟨#[91]⟩ ++ (⟨#[92]⟩ ++ ⟨#[lo]⟩ ++ ⟨#[45, 92]⟩ ++ ⟨#[hi]⟩ ++ ⟨#[93]⟩))] W (TreePost W (.mk 2 [] [.mk 1 (rangesL [(lo, hi)] false) []], 0, 0)) by
      have := parse_any (⟨#[91]⟩ ++ (⟨#[92]⟩ ++ ⟨#[lo]⟩ ++ ⟨#[45, 92]⟩ ++ ⟨#[hi]⟩ ++ ⟨#[93]⟩)) W
      rw [patB_list, parseG_ok (by simp [clsL]) (pieces_cls hh)] at this
      exact this))
    have HM1 := Lib.hid (fun W => (match_any (⟨#[91]⟩ ++ (⟨#[92]⟩ ++ ⟨#[lo]⟩ ++ ⟨#[45, 92]⟩ ++ ⟨#[hi]⟩ ++ ⟨#[93]⟩)) ⟨#[c]⟩ W (one_le c)).mono (fun e w' h => (show e = .returned (.bool (decide (lo.toNat ≤ c.toNat) && decide (c.toNat ≤ hi.toNat))) ∧ Below W.heap.size W w' from ⟨by rw [h.1, patB_list]; exact ret_bool (match_cls hh c), h.2⟩)))
    have HM2 := Lib.hid (fun W => (match_any (⟨#[91, 33]⟩ ++ (⟨#[92]⟩ ++ ⟨#[lo]⟩ ++ ⟨#[45, 92]⟩ ++ ⟨#[hi]⟩ ++ ⟨#[93]⟩)) ⟨#[c]⟩ W (one_le c)).mono (fun e w' h => (show e = .returned (.bool (!(decide (lo.toNat ≤ c.toNat) && decide (c.toNat ≤ hi.toNat)))) ∧ Below W.heap.size W w' from ⟨by rw [h.1, patN_list]; exact ret_bool (match_cls_not hh c), h.2⟩)))
    have HM3 := Lib.hid (fun W => (match_any (⟨#[91]⟩ ++ (⟨#[92]⟩ ++ ⟨#[lo]⟩ ++ ⟨#[45, 92]⟩ ++ ⟨#[hi]⟩ ++ ⟨#[93]⟩)) (⟨#[c]⟩ ++ ⟨#[c]⟩) W (by rw [size_app]; exact two_le c)).mono (fun e w' h => (show e = .returned (.bool false) ∧ Below W.heap.size W w' from ⟨by rw [h.1, patB_list, two_list]; exact ret_bool (match_cls_two hh c c), h.2⟩)))
    clear hh
    cases hb1 : decide (lo.toNat ≤ c.toNat) <;> cases hb2 : decide (c.toNat ≤ hi.toNat)
    all_goals
      rw [hb1, hb2] at HM1 HM2
      go_enter Try.func8, Try.ntmps8
      go_wp2_with fail
      refine (alive_any _).mono ?_
      rintro e w1 ⟨rfl, b1⟩
      go_wp2_with fail
      refine (HP.out _).mono ?_
      rintro e w2 ⟨d, k, A, n, cc, A', n', c', rfl, _, b2⟩
      go_wp2_with fail
      refine (HM1.out _).mono ?_
      rintro e w3 ⟨rfl, b3⟩
      go_wp2_with fail
      refine (HM2.out _).mono ?_
      rintro e w4 ⟨rfl, b4⟩
      go_wp2_with fail
      refine (HM3.out _).mono ?_
      rintro e w5 ⟨rfl, b5⟩
      go_wp2
      go_ret
      refine ⟨rfl, ?_⟩
      have h1 := ((b1.alloc b1.size (.cells #[.int .u8 (lo.toNat : Nat)] 5)).alloc (by have := b1.size; simp; omega) (.cells #[.int .u8 (hi.toNat : Nat)] 5))
      have h2 := h1.trans (b2.mono h1.size)
      have h3 := (h2.alloc h2.size (.cells #[.int .i64 k, .slice A n cc, .slice A' n' c'] 26)).alloc (by have := h2.size; simp; omega) (.cells #[.int .u8 (c.toNat : Nat)] 5)
      have h4 := h3.trans (b3.mono h3.size)
      have h5 := h4.trans (b4.mono h4.size)
      exact h5.trans (b5.mono h5.size)
theorem byte_of {n : Int} (h : (Lit.int .u8 n).wf = true) : ∃ b : UInt8, n = b.toNat := by
  have := bounds_u8 h
  exact ⟨UInt8.ofNat n.toNat, by simp; omega⟩
theorem globClasses_int (a b c : Int) (ha : (Lit.int .u8 a).wf = true) (hb : (Lit.int .u8 b).wf = true) (hc : (Lit.int .u8 c).wf = true) (w : World) :
    Calls Try.prog 8 #[.int .u8 a, .int .u8 b, .int .u8 c] w fun e w' => e = .returned (.bool true) ∧ Below w.heap.size w w' := by
  obtain ⟨x, rfl⟩ := byte_of ha
  obtain ⟨y, rfl⟩ := byte_of hb
  obtain ⟨z, rfl⟩ := byte_of hc
  exact globClasses_walk x y z w
end Go.Proofs.Ytacmfhopelkbbaa
