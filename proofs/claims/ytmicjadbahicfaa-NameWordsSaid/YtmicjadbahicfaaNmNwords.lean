/- For every text: the program's Word and the reference's agree, and a word is written as it is (NameWords answers true). No condition. -/
import Derived.Test.YtmicjadbahicfaaNmNw
import Derived.Test.YtmicjadbahicfaaNmWr
import Derived.ProofKit
import Derived.OpenShut
import Derived.ShutString
namespace Go.Proofs.Ytmicjadbahicfaa
open Go.RowKit

theorem okB_plain {c : Int} (h : okB c = true) : plainB c = true := by
  simp [okB, letB, digB, plainB] at *; omega
theorem writeTo_take {s : ByteArray} (hall : ∀ j, j < s.size → okB (bt s j) = true) : ∀ k, k ≤ s.size → writeTo s k = s.data.toList.take k := by
  intro k
  induction k with
  | zero => intro _; simp [writeTo]
  | succ k ih =>
    intro hk
    have hk' : k < s.data.toList.length := hk
    rw [writeTo, ih (by omega), pieceL_yes (standsB_plain (okB_plain (hall k (by omega)))), List.take_succ_eq_append_getElem hk']
    simp [btN, List.getD_eq_getElem?_getD, List.getElem?_eq_getElem hk']
theorem writeL_word {s : ByteArray} (h : wordB s = true) : writeL s = s.data.toList := by
  simp only [wordB, Bool.and_eq_true, decide_eq_true_eq] at h
  rw [writeL_yes (by simp [rightB]; omega), writeTo_take ((allB_iff s).1 h.2) s.size (Nat.le_refl _), List.take_of_length_le (by simp)]
theorem write16_word (s : ByteArray) (w : World) (hs : s.size ≤ maxLen) (h : wordB s = true) :
    Calls Try.prog 8 #[.string s] w fun e w' => e = .returned (.string s) ∧ Below w.heap.size w w' := by
  refine (write16 s w hs).mono ?_
  rintro e w' ⟨rfl, hb⟩
  exact ⟨by rw [writeL_word h], hb⟩

set_option maxHeartbeats 1000000 in
set_option maxRecDepth 100000 in
theorem walk8 (s : ByteArray) (hs : s.size ≤ maxLen) (w : World) :
    Calls Try.prog 6 #[.string s] w fun e w' => e = .returned (.bool true) ∧ Below w.heap.size w w' := by
  have hA : wordB ⟨#[97, 45, 49]⟩ = true := by decide
  have hB : wordB ⟨#[49, 97]⟩ = false := by decide
  cases hw : wordB s
  · go_enter Try.func6, Try.ntmps6
    go_wp2_with fail
    refine (word23 _ _ (by decide)).mono ?_
    rintro e w' ⟨rfl, rfl⟩
    go_wp2_with fail
    refine (word23 _ _ (by decide)).mono ?_
    rintro e w' ⟨rfl, rfl⟩
    go_wp2_with fail
    refine (word23 _ _ hs).mono ?_
    rintro e w' ⟨rfl, rfl⟩
    go_wp2_with fail
    refine (word24 _ _ hs).mono ?_
    rintro e w' ⟨rfl, rfl⟩
    go_wp2_with fail
    refine (word23 _ _ hs).mono ?_
    rintro e w' ⟨rfl, rfl⟩
    go_wp2_with fail
    go_ret
    exact ⟨rfl, Below.refl _ _⟩
  · have HW := Lib.hid hw
    go_enter Try.func6, Try.ntmps6
    go_wp2_with fail
    refine (word23 _ _ (by decide)).mono ?_
    rintro e w' ⟨rfl, rfl⟩
    go_wp2_with fail
    refine (word23 _ _ (by decide)).mono ?_
    rintro e w' ⟨rfl, rfl⟩
    go_wp2_with fail
    refine (word23 _ _ hs).mono ?_
    rintro e w' ⟨rfl, rfl⟩
    go_wp2_with fail
    refine (word24 _ _ hs).mono ?_
    rintro e w' ⟨rfl, rfl⟩
    go_wp2_with fail
    refine (word23 _ _ hs).mono ?_
    rintro e w' ⟨rfl, rfl⟩
    go_wp2_with fail
    refine (write16_word _ _ hs HW.out).mono ?_
    rintro e w' ⟨rfl, hbel⟩
    go_wp2_with fail
    go_ret
    exact ⟨rfl, hbel⟩

end Go.Proofs.Ytmicjadbahicfaa
