/- The examples of Text (telling). -/
import Derived.Test.YtdgjkabbcneenaaWq
import Derived.Test.YtdgjkabbcneenaaXjl
namespace Go.Proofs.Ytdgjkabbcneenaa
open Go.RowKit

def telT : Tr := .mk 3 [] [.mk 2 [] [.mk 5 [] [.mk 1 [(48, 57)] []]], .mk 2 [] [.mk 1 [(46, 46)] []]]
theorem tel1 : parseX [91, 48, 45, 57, 93, 43, 124, 92, 46] = (telT, 0, 0) := by kernel_rfl
theorem tel2 : bodyT telT = [91, 48, 45, 57, 93, 43, 124, 92, 46] := by kernel_rfl
theorem tel3 : stepsT telT ≤ 100 := by decide +kernel

set_option maxHeartbeats 1000000 in
set_option maxRecDepth 100000 in
theorem telling_any (w : World) : Calls Try.prog 20 #[] w fun e w' => e = .returned (.bool true) ∧ Below w.heap.size w w' := by
  have H1 := Lib.hid (fun W => xparse_any ⟨#[91, 48, 45, 57, 93, 43, 124, 92, 46]⟩ W)
  simp only [tel1] at H1
  have H2 := Lib.hid (fun d k A n c A' n' c' W (h : TreeAt W (· < W.heap.size) d telT [.int .i64 k, .slice A n c, .slice A' n' c']) => text_any telT d k A n c A' n' c' W h (by rw [tel2]; decide) (by have := tel3; omega))
  rw [tel2] at H2
  go_enter Try.func20, Try.ntmps20
  go_wp2_with fail
  refine (H1.out _).mono ?_
  rintro e w1 ⟨d, k, A, n, c, A', n', c', rfl, ht, b1⟩
  have HT := Lib.hid (ht.up (w' := w1.alloc (.cells #[.int .i64 k, .slice A n c, .slice A' n' c'] 26)) (fun j hj => hj.2) ((Below.refl _ w1).alloc (Nat.le_refl _) _) (Nat.le_refl _))
  clear ht
  go_wp2_with fail
  refine (H2.out _ _ _ _ _ _ _ _ _ HT.out).mono ?_
  rintro e w2 ⟨rfl, b2⟩
  go_wp2
  go_ret
  have h1 := b1.alloc b1.size (.cells #[.int .i64 k, .slice A n c, .slice A' n' c'] 26)
  exact ⟨rfl, h1.trans (b2.mono h1.size)⟩
end Go.Proofs.Ytdgjkabbcneenaa
