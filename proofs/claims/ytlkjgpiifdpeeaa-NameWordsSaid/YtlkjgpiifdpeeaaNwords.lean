/- For every text: the program's Word and the reference's agree, and a word is written as it is (NameWords answers true). No condition. -/
import Derived.Test.YtlkjgpiifdpeeaaRows
import Derived.Test.YtlkjgpiifdpeeaaNw
import Derived.Test.YtlkjgpiifdpeeaaWr
import Derived.ProofKit
import Derived.OpenShut
import Derived.ShutString
namespace Go.Proofs.Ytlkjgpiifdpeeaa
open Go.RowKit

theorem okB_plain {c : Int} (h : okB c = true) : plainB c = true := by
  simp [okB, letB, digB, plainB] at *; omega
theorem writeTo_take {s : ByteArray} (hall : ∀ j, j < s.size → okB (bt s j) = true) : ∀ k, k ≤ s.size → writeTo s k = s.data.toList.take k := by
  intro k
  induction k with
  | zero => intro _; simp [writeTo]
  | succ k ih =>
    intro hk
    have hk' : k < s.data.toList.length := hk
    rw [writeTo, ih (by omega), pieceL_yes (standsB_plain (okB_plain (hall k (by omega)))), List.take_succ_eq_append_getElem hk']
    simp [btN, List.getD_eq_getElem?_getD, List.getElem?_eq_getElem hk']
theorem writeL_word {s : ByteArray} (h : wordB s = true) : writeL s = s.data.toList := by
  simp only [wordB, Bool.and_eq_true, decide_eq_true_eq] at h
  rw [writeL_yes (by simp [rightB]; omega), writeTo_take ((allB_iff s).1 h.2) s.size (Nat.le_refl _), List.take_of_length_le (by simp)]
theorem write16_word (s : ByteArray) (w : World) (hs : s.size ≤ maxLen) (h : wordB s = true) :
    Calls Try.prog 16 #[.string s] w fun e w' => e = .returned (.string s) ∧ Below w.heap.size w w' := by
  refine (write16 s w hs).mono ?_
  rintro e w' ⟨rfl, hb⟩
  exact ⟨by rw [writeL_word h], hb⟩

set_option maxHeartbeats 1000000 in
set_option maxRecDepth 100000 in
theorem walk8 (s : ByteArray) (hs : s.size ≤ maxLen) (w : World) :
    Calls Try.prog 8 #[.string s] w fun e w' => e = .returned (.bool true) ∧ Below w.heap.size w w' := by
  have hA : wordB ⟨#[97, 45, 49]⟩ = true := by decide
  have hB : wordB ⟨#[49, 97]⟩ = false := by decide
  cases hw : wordB s
  · go_enter Try.func8, Try.ntmps8
    go_wp2_with fail
    refine (word23 _ _ (by decide)).mono ?_
    rintro e w' ⟨rfl, rfl⟩
    go_wp2_with fail
    refine (word23 _ _ (by decide)).mono ?_
    rintro e w' ⟨rfl, rfl⟩
    go_wp2_with fail
    refine (word23 _ _ hs).mono ?_
    rintro e w' ⟨rfl, rfl⟩
    go_wp2_with fail
    refine (word24 _ _ hs).mono ?_
    rintro e w' ⟨rfl, rfl⟩
    go_wp2_with fail
    refine (word23 _ _ hs).mono ?_
    rintro e w' ⟨rfl, rfl⟩
    go_wp2_with fail
    go_ret
    exact ⟨rfl, Below.refl _ _⟩
  · have HW := Lib.hid hw
    go_enter Try.func8, Try.ntmps8
    go_wp2_with fail
    refine (word23 _ _ (by decide)).mono ?_
    rintro e w' ⟨rfl, rfl⟩
    go_wp2_with fail
    refine (word23 _ _ (by decide)).mono ?_
    rintro e w' ⟨rfl, rfl⟩
    go_wp2_with fail
    refine (word23 _ _ hs).mono ?_
    rintro e w' ⟨rfl, rfl⟩
    go_wp2_with fail
    refine (word24 _ _ hs).mono ?_
    rintro e w' ⟨rfl, rfl⟩
    go_wp2_with fail
    refine (word23 _ _ hs).mono ?_
    rintro e w' ⟨rfl, rfl⟩
    go_wp2_with fail
    refine (write16_word _ _ hs HW.out).mono ?_
    rintro e w' ⟨rfl, hbel⟩
    go_wp2_with fail
    go_ret
    exact ⟨rfl, hbel⟩

namespace nameWords
open Go.ChangeShapes Go.WideShapes Go.ChangeAt
open Go.ChangeMaps (open_string shut_string)
theorem own : ownKnob Try.prog.godebug = none := by kernel_rfl
set_option maxRecDepth 100000 in
theorem lifted (os : Os) (started : os.Started) (H : Type) (enc : TypeId × Value → H) :
    ReturnsInHanded {} Try.checked os 8 .any (Rows.nameWordsSpec.pre6 enc Try.prog Try.f8 Rows.nameWordsRow.domain false) (Rows.nameWordsSpec.post enc Try.prog Try.f8 false true false false) := by
  refine returnsInHanded_of_change (C := Try.checked) own started (by kernel_rfl) Try.func8
    (ChangeSpec.witness6 (enc := enc) (C := Try.checked) false ⟨#[], #[.string ByteArray.empty], []⟩ 8 (by kernel_rfl) (by kernel_rfl) (by kernel_rfl) (by kernel_rfl)) ?_
  intro W base args ds gs before hval0 hW hcnd _
  have hval : ∀ (j : Nat) t v, Try.f8.params[j]? = some t → args[j]? = some v → Value.okWide Try.prog W .any base t v := hval0
  have hW' := hW
  obtain ⟨p, q, hA0, hV, rfl, hfz, hnd⟩ := hW
  have hA : DataW.TrodAll enc Try.prog W 0 (fun _ => true) true Try.f8.params.toList args.toList ds p := hA0
  rw [Try.params8] at hA hval
  obtain ⟨v0, vs0, d0, ds0, p0, q0, hargs, rfl, rfl, h0, r0⟩ := trodAll_cons hA
  obtain ⟨rfl, rfl, rfl⟩ := trodAll_nil r0
  obtain rfl : args = #[v0] := by cases args; simp_all
  obtain ⟨rfl, rfl⟩ := trodVars_none hV
  obtain ⟨a0, rfl, rfl, rfl, w0⟩ := open_string Try.underlying9 (hval 0 9 v0 rfl rfl) h0
  clear hA0 hval0
  simp only [List.append_nil] at hW'
  refine (walk8 a0 w0 W).mono fun e W' ⟨he, bel⟩ => ?_
  subst he
  exact ⟨_, rfl, _, _, _, [], [], [], hW', trodAll_cons_mk (shut_bool Try.underlying4 _) trodAll_mk0, trodAll_cons_mk (shut_string Try.underlying9 w0) trodAll_mk0, rfl, bel.frame _, fun h => by cases h⟩

theorem over : Rows.nameWordsRow.holds Try.pinned (OpenSpec.ofChange Rows.nameWordsSpec) :=
  OpenClaim.holds_of_wide 8 Try.f8 rfl rfl rfl rfl rfl rfl rfl ⟨rfl, rfl, rfl, rfl, rfl⟩ rfl rfl rfl rfl rfl (by kernel_rfl) Try.func8 (by kernel_rfl)
    (of_decide_eq_true (by kernel_rfl)) (by unfold Func.isWrapper; first | (rw [if_pos (by decide +kernel)]; kernel_rfl) | (rw [if_neg (by decide +kernel)]; exact ⟨rfl, rfl⟩))
    (fun os started H enc _ => lifted os started H enc)
end nameWords

theorem nameWords_holds : Rows.NameWordsSaid := nameWords.over

end Go.Proofs.Ytlkjgpiifdpeeaa
