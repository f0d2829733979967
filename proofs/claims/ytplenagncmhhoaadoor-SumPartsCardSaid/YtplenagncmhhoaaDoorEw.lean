/- Verdicts' words, both ways; TraceWords' walk. -/
import Derived.Test.YtplenagncmhhoaaDoorBk
namespace Go.Proofs.YtplenagncmhhoaaDoor
open Go.RowKit

def wordsL : List ByteArray := [⟨#[]⟩, ⟨#[80, 65, 83, 83]⟩, ⟨#[70, 65, 73, 76]⟩, ⟨#[88, 80, 65, 83, 83]⟩, ⟨#[88, 70, 65, 73, 76]⟩, ⟨#[85, 78, 82, 69, 83, 79, 76, 86, 69, 68]⟩, ⟨#[85, 78, 84, 69, 83, 84, 69, 68]⟩, ⟨#[85, 78, 83, 85, 80, 80, 79, 82, 84, 69, 68]⟩]
structure TabAt (W : World) : Prop where
  cell : ∀ (i : Nat) (s : ByteArray), wordsL[i]? = some s → W.cell? ⟨0, i, none⟩ = some (.string s)
  lt : 0 < W.heap.size
theorem TabAt.below {w w' : World} (h : TabAt w) (hb : Below w.heap.size w w') : TabAt w' :=
  ⟨fun i s hs => (hb.cell (p := ⟨0, i, none⟩) h.lt).trans (h.cell i s hs), Nat.lt_of_lt_of_le h.lt hb.size⟩
def wordT (v : Int) : ByteArray := if v < 0 ∨ 7 < v then ⟨#[]⟩ else wordsL.getD v.toNat ⟨#[]⟩
def StrPost (w : World) (s : ByteArray) (e : Ending) (w' : World) : Prop := e = .returned (.string s) ∧ w = w'
def NumPost (w : World) (k : Int) (e : Ending) (w' : World) : Prop := e = .returned (.int .i64 k) ∧ w = w'
theorem nine (v : Int) : v = 0 ∨ v = 1 ∨ v = 2 ∨ v = 3 ∨ v = 4 ∨ v = 5 ∨ v = 6 ∨ v = 7 ∨ v < 0 ∨ 8 ≤ v := by omega
theorem wordT_out {v : Int} (h : v < 0 ∨ 8 ≤ v) : wordT v = ⟨#[]⟩ := by unfold wordT; rw [if_pos (by omega)]
set_option maxHeartbeats 1000000 in
theorem text_any {w : World} (h : TabAt w) (v : Int) : Calls Tryd.prog 41 #[.int .i64 v] w (StrPost w (wordT v)) := by
  have k0 := h.cell 0 _ rfl; have k1 := h.cell 1 _ rfl; have k2 := h.cell 2 _ rfl; have k3 := h.cell 3 _ rfl
  have k4 := h.cell 4 _ rfl; have k5 := h.cell 5 _ rfl; have k6 := h.cell 6 _ rfl; have k7 := h.cell 7 _ rfl
  clear h
  rcases nine v with rfl | rfl | rfl | rfl | rfl | rfl | rfl | rfl | hv | hv
  rotate_left 8
  · have HX := Lib.hid (wordT_out (.inl hv))
    go_enter Tryd.func41, Tryd.ntmps41
    go_wp2
    go_ret
    exact ⟨by rw [HX.out]; rfl, rfl⟩
  · have HX := Lib.hid (wordT_out (.inr hv))
    have hv0 : ¬ v < 0 := by omega
    go_enter Tryd.func41, Tryd.ntmps41
    go_wp2
    go_ret
    exact ⟨by rw [HX.out]; rfl, rfl⟩
  all_goals
    go_enter Tryd.func41, Tryd.ntmps41
    go_wp2
    go_ret
    exact ⟨rfl, rfl⟩
set_option maxHeartbeats 1000000 in
theorem rtext_any (v : Int) (w : World) : Calls Tryd.prog 79 #[.int .i64 v] w (StrPost w (wordT v)) := by
  rcases nine v with rfl | rfl | rfl | rfl | rfl | rfl | rfl | rfl | hv | hv
  rotate_left 8
  · have HX := Lib.hid (wordT_out (.inl hv))
    have e : ¬ v = 1 ∧ ¬ v = 2 ∧ ¬ v = 3 ∧ ¬ v = 4 ∧ ¬ v = 5 ∧ ¬ v = 6 ∧ ¬ v = 7 := by omega
    obtain ⟨e1, e2, e3, e4, e5, e6, e7⟩ := e
    go_enter Tryd.func79, Tryd.ntmps79
    go_wp2
    go_ret
    exact ⟨by rw [HX.out]; rfl, rfl⟩
  · have HX := Lib.hid (wordT_out (.inr hv))
    have e : ¬ v = 1 ∧ ¬ v = 2 ∧ ¬ v = 3 ∧ ¬ v = 4 ∧ ¬ v = 5 ∧ ¬ v = 6 ∧ ¬ v = 7 := by omega
    obtain ⟨e1, e2, e3, e4, e5, e6, e7⟩ := e
    go_enter Tryd.func79, Tryd.ntmps79
    go_wp2
    go_ret
    exact ⟨by rw [HX.out]; rfl, rfl⟩
  all_goals
    go_enter Tryd.func79, Tryd.ntmps79
    go_wp2
    go_ret
    exact ⟨rfl, rfl⟩
theorem idx0 (W : World) : (Instr.index 129 (.agg #[.string ⟨#[]⟩, .string ⟨#[80, 65, 83, 83]⟩, .string ⟨#[70, 65, 73, 76]⟩, .string ⟨#[88, 80, 65, 83, 83]⟩, .string ⟨#[88, 70, 65, 73, 76]⟩, .string ⟨#[85, 78, 82, 69, 83, 79, 76, 86, 69, 68]⟩, .string ⟨#[85, 78, 84, 69, 83, 84, 69, 68]⟩, .string ⟨#[85, 78, 83, 85, 80, 80, 79, 82, 84, 69, 68]⟩]) (.int .i64 0)).run Tryd.prog W = .ok (.string ⟨#[]⟩) W := by kernel_rfl
theorem idx1 (W : World) : (Instr.index 129 (.agg #[.string ⟨#[]⟩, .string ⟨#[80, 65, 83, 83]⟩, .string ⟨#[70, 65, 73, 76]⟩, .string ⟨#[88, 80, 65, 83, 83]⟩, .string ⟨#[88, 70, 65, 73, 76]⟩, .string ⟨#[85, 78, 82, 69, 83, 79, 76, 86, 69, 68]⟩, .string ⟨#[85, 78, 84, 69, 83, 84, 69, 68]⟩, .string ⟨#[85, 78, 83, 85, 80, 80, 79, 82, 84, 69, 68]⟩]) (.int .i64 1)).run Tryd.prog W = .ok (.string ⟨#[80, 65, 83, 83]⟩) W := by kernel_rfl
theorem idx2 (W : World) : (Instr.index 129 (.agg #[.string ⟨#[]⟩, .string ⟨#[80, 65, 83, 83]⟩, .string ⟨#[70, 65, 73, 76]⟩, .string ⟨#[88, 80, 65, 83, 83]⟩, .string ⟨#[88, 70, 65, 73, 76]⟩, .string ⟨#[85, 78, 82, 69, 83, 79, 76, 86, 69, 68]⟩, .string ⟨#[85, 78, 84, 69, 83, 84, 69, 68]⟩, .string ⟨#[85, 78, 83, 85, 80, 80, 79, 82, 84, 69, 68]⟩]) (.int .i64 2)).run Tryd.prog W = .ok (.string ⟨#[70, 65, 73, 76]⟩) W := by kernel_rfl
theorem idx3 (W : World) : (Instr.index 129 (.agg #[.string ⟨#[]⟩, .string ⟨#[80, 65, 83, 83]⟩, .string ⟨#[70, 65, 73, 76]⟩, .string ⟨#[88, 80, 65, 83, 83]⟩, .string ⟨#[88, 70, 65, 73, 76]⟩, .string ⟨#[85, 78, 82, 69, 83, 79, 76, 86, 69, 68]⟩, .string ⟨#[85, 78, 84, 69, 83, 84, 69, 68]⟩, .string ⟨#[85, 78, 83, 85, 80, 80, 79, 82, 84, 69, 68]⟩]) (.int .i64 3)).run Tryd.prog W = .ok (.string ⟨#[88, 80, 65, 83, 83]⟩) W := by kernel_rfl
theorem idx4 (W : World) : (Instr.index 129 (.agg #[.string ⟨#[]⟩, .string ⟨#[80, 65, 83, 83]⟩, .string ⟨#[70, 65, 73, 76]⟩, .string ⟨#[88, 80, 65, 83, 83]⟩, .string ⟨#[88, 70, 65, 73, 76]⟩, .string ⟨#[85, 78, 82, 69, 83, 79, 76, 86, 69, 68]⟩, .string ⟨#[85, 78, 84, 69, 83, 84, 69, 68]⟩, .string ⟨#[85, 78, 83, 85, 80, 80, 79, 82, 84, 69, 68]⟩]) (.int .i64 4)).run Tryd.prog W = .ok (.string ⟨#[88, 70, 65, 73, 76]⟩) W := by kernel_rfl
theorem idx5 (W : World) : (Instr.index 129 (.agg #[.string ⟨#[]⟩, .string ⟨#[80, 65, 83, 83]⟩, .string ⟨#[70, 65, 73, 76]⟩, .string ⟨#[88, 80, 65, 83, 83]⟩, .string ⟨#[88, 70, 65, 73, 76]⟩, .string ⟨#[85, 78, 82, 69, 83, 79, 76, 86, 69, 68]⟩, .string ⟨#[85, 78, 84, 69, 83, 84, 69, 68]⟩, .string ⟨#[85, 78, 83, 85, 80, 80, 79, 82, 84, 69, 68]⟩]) (.int .i64 5)).run Tryd.prog W = .ok (.string ⟨#[85, 78, 82, 69, 83, 79, 76, 86, 69, 68]⟩) W := by kernel_rfl
theorem idx6 (W : World) : (Instr.index 129 (.agg #[.string ⟨#[]⟩, .string ⟨#[80, 65, 83, 83]⟩, .string ⟨#[70, 65, 73, 76]⟩, .string ⟨#[88, 80, 65, 83, 83]⟩, .string ⟨#[88, 70, 65, 73, 76]⟩, .string ⟨#[85, 78, 82, 69, 83, 79, 76, 86, 69, 68]⟩, .string ⟨#[85, 78, 84, 69, 83, 84, 69, 68]⟩, .string ⟨#[85, 78, 83, 85, 80, 80, 79, 82, 84, 69, 68]⟩]) (.int .i64 6)).run Tryd.prog W = .ok (.string ⟨#[85, 78, 84, 69, 83, 84, 69, 68]⟩) W := by kernel_rfl
theorem idx7 (W : World) : (Instr.index 129 (.agg #[.string ⟨#[]⟩, .string ⟨#[80, 65, 83, 83]⟩, .string ⟨#[70, 65, 73, 76]⟩, .string ⟨#[88, 80, 65, 83, 83]⟩, .string ⟨#[88, 70, 65, 73, 76]⟩, .string ⟨#[85, 78, 82, 69, 83, 79, 76, 86, 69, 68]⟩, .string ⟨#[85, 78, 84, 69, 83, 84, 69, 68]⟩, .string ⟨#[85, 78, 83, 85, 80, 80, 79, 82, 84, 69, 68]⟩]) (.int .i64 7)).run Tryd.prog W = .ok (.string ⟨#[85, 78, 83, 85, 80, 80, 79, 82, 84, 69, 68]⟩) W := by kernel_rfl
theorem ba_ext {a b : ByteArray} (h : a.toList = b.toList) : a = b := by
  apply ByteArray.ext
  have := congrArg List.toArray h
  simpa [ByteArray.toList_eq] using this
def parseL (s : ByteArray) : List ByteArray → Int → Int
  | [], _ => 0
  | x :: r, i => if (x.toList == s.toList) = true then i else parseL s r (i + 1)
set_option maxHeartbeats 1000000 in
theorem parse_any {w : World} (h : TabAt w) (s : ByteArray) : Calls Tryd.prog 114 #[.string s] w (NumPost w (parseL s wordsL 0)) := by
  have k0 := h.cell 0 _ rfl; have k1 := h.cell 1 _ rfl; have k2 := h.cell 2 _ rfl; have k3 := h.cell 3 _ rfl
  have k4 := h.cell 4 _ rfl; have k5 := h.cell 5 _ rfl; have k6 := h.cell 6 _ rfl; have k7 := h.cell 7 _ rfl
  clear h
  go_enter Tryd.func114, Tryd.ntmps114
  go_wp2
  go_loop [6] (fun i => ∃ j : Nat, j ≤ 8 ∧ i = .int .i64 (j : Nat) ∧ parseL s wordsL 0 = parseL s (wordsL.drop j) (j : Nat)) (fun i => 8 - (intOf i).toNat)
  case atStart => exact ⟨0, Nat.zero_le _, rfl, rfl⟩
  case round =>
    obtain ⟨j, hj, rfl, hp⟩ := hrel
    rcases (by omega : j = 0 ∨ j = 1 ∨ j = 2 ∨ j = 3 ∨ j = 4 ∨ j = 5 ∨ j = 6 ∨ j = 7 ∨ j = 8) with rfl | rfl | rfl | rfl | rfl | rfl | rfl | rfl | rfl
    · have HP := Lib.hid hp
      have HX : Hid (parseL s (wordsL.drop 0) (0 : Nat) = if (((⟨#[]⟩ : ByteArray).toList == s.toList) = true) then ((0 : Nat) : Int) else parseL s (wordsL.drop 1) (1 : Nat)) := Lib.hid rfl
      have hi := fun W => idx0 W
      clear hp
      rcases ht : s.toList.isEmpty with _ | _
      · have HT := Lib.hid (show ¬ (((⟨#[]⟩ : ByteArray).toList == s.toList) = true) by simpa using ht)
        go_wp2
        go_round
        case rel => exact ⟨1, by omega, rfl, by rw [HP.out, HX.out, if_neg HT.out]⟩
        case measure => simp [intOf]
      · have HT := Lib.hid (show (((⟨#[]⟩ : ByteArray).toList == s.toList) = true) by simpa using ht)
        go_wp2
        go_ret
        exact ⟨by rw [HP.out, HX.out, if_pos HT.out]; rfl, rfl⟩
    · have HP := Lib.hid hp
      have HX : Hid (parseL s (wordsL.drop 1) (1 : Nat) = if (((⟨#[80, 65, 83, 83]⟩ : ByteArray).toList == s.toList) = true) then ((1 : Nat) : Int) else parseL s (wordsL.drop 2) (2 : Nat)) := Lib.hid rfl
      have hi := fun W => idx1 W
      clear hp
      rcases ht : ([80, 65, 83, 83] == s.toList) with _ | _
      · have HT := Lib.hid (show ¬ (((⟨#[80, 65, 83, 83]⟩ : ByteArray).toList == s.toList) = true) by simpa using ht)
        go_wp2
        go_round
        case rel => exact ⟨2, by omega, rfl, by rw [HP.out, HX.out, if_neg HT.out]⟩
        case measure => simp [intOf]
      · have HT := Lib.hid (show (((⟨#[80, 65, 83, 83]⟩ : ByteArray).toList == s.toList) = true) by simpa using ht)
        go_wp2
        go_ret
        exact ⟨by rw [HP.out, HX.out, if_pos HT.out]; rfl, rfl⟩
    · have HP := Lib.hid hp
      have HX : Hid (parseL s (wordsL.drop 2) (2 : Nat) = if (((⟨#[70, 65, 73, 76]⟩ : ByteArray).toList == s.toList) = true) then ((2 : Nat) : Int) else parseL s (wordsL.drop 3) (3 : Nat)) := Lib.hid rfl
      have hi := fun W => idx2 W
      clear hp
      rcases ht : ([70, 65, 73, 76] == s.toList) with _ | _
      · have HT := Lib.hid (show ¬ (((⟨#[70, 65, 73, 76]⟩ : ByteArray).toList == s.toList) = true) by simpa using ht)
        go_wp2
        go_round
        case rel => exact ⟨3, by omega, rfl, by rw [HP.out, HX.out, if_neg HT.out]⟩
        case measure => simp [intOf]
      · have HT := Lib.hid (show (((⟨#[70, 65, 73, 76]⟩ : ByteArray).toList == s.toList) = true) by simpa using ht)
        go_wp2
        go_ret
        exact ⟨by rw [HP.out, HX.out, if_pos HT.out]; rfl, rfl⟩
    · have HP := Lib.hid hp
      have HX : Hid (parseL s (wordsL.drop 3) (3 : Nat) = if (((⟨#[88, 80, 65, 83, 83]⟩ : ByteArray).toList == s.toList) = true) then ((3 : Nat) : Int) else parseL s (wordsL.drop 4) (4 : Nat)) := Lib.hid rfl
      have hi := fun W => idx3 W
      clear hp
      rcases ht : ([88, 80, 65, 83, 83] == s.toList) with _ | _
      · have HT := Lib.hid (show ¬ (((⟨#[88, 80, 65, 83, 83]⟩ : ByteArray).toList == s.toList) = true) by simpa using ht)
        go_wp2
        go_round
        case rel => exact ⟨4, by omega, rfl, by rw [HP.out, HX.out, if_neg HT.out]⟩
        case measure => simp [intOf]
      · have HT := Lib.hid (show (((⟨#[88, 80, 65, 83, 83]⟩ : ByteArray).toList == s.toList) = true) by simpa using ht)
        go_wp2
        go_ret
        exact ⟨by rw [HP.out, HX.out, if_pos HT.out]; rfl, rfl⟩
    · have HP := Lib.hid hp
      have HX : Hid (parseL s (wordsL.drop 4) (4 : Nat) = if (((⟨#[88, 70, 65, 73, 76]⟩ : ByteArray).toList == s.toList) = true) then ((4 : Nat) : Int) else parseL s (wordsL.drop 5) (5 : Nat)) := Lib.hid rfl
      have hi := fun W => idx4 W
      clear hp
      rcases ht : ([88, 70, 65, 73, 76] == s.toList) with _ | _
      · have HT := Lib.hid (show ¬ (((⟨#[88, 70, 65, 73, 76]⟩ : ByteArray).toList == s.toList) = true) by simpa using ht)
        go_wp2
        go_round
        case rel => exact ⟨5, by omega, rfl, by rw [HP.out, HX.out, if_neg HT.out]⟩
        case measure => simp [intOf]
      · have HT := Lib.hid (show (((⟨#[88, 70, 65, 73, 76]⟩ : ByteArray).toList == s.toList) = true) by simpa using ht)
        go_wp2
        go_ret
        exact ⟨by rw [HP.out, HX.out, if_pos HT.out]; rfl, rfl⟩
    · have HP := Lib.hid hp
      have HX : Hid (parseL s (wordsL.drop 5) (5 : Nat) = if (((⟨#[85, 78, 82, 69, 83, 79, 76, 86, 69, 68]⟩ : ByteArray).toList == s.toList) = true) then ((5 : Nat) : Int) else parseL s (wordsL.drop 6) (6 : Nat)) := Lib.hid rfl
      have hi := fun W => idx5 W
      clear hp
      rcases ht : ([85, 78, 82, 69, 83, 79, 76, 86, 69, 68] == s.toList) with _ | _
      · have HT := Lib.hid (show ¬ (((⟨#[85, 78, 82, 69, 83, 79, 76, 86, 69, 68]⟩ : ByteArray).toList == s.toList) = true) by simpa using ht)
        go_wp2
        go_round
        case rel => exact ⟨6, by omega, rfl, by rw [HP.out, HX.out, if_neg HT.out]⟩
        case measure => simp [intOf]
      · have HT := Lib.hid (show (((⟨#[85, 78, 82, 69, 83, 79, 76, 86, 69, 68]⟩ : ByteArray).toList == s.toList) = true) by simpa using ht)
        go_wp2
        go_ret
        exact ⟨by rw [HP.out, HX.out, if_pos HT.out]; rfl, rfl⟩
    · have HP := Lib.hid hp
      have HX : Hid (parseL s (wordsL.drop 6) (6 : Nat) = if (((⟨#[85, 78, 84, 69, 83, 84, 69, 68]⟩ : ByteArray).toList == s.toList) = true) then ((6 : Nat) : Int) else parseL s (wordsL.drop 7) (7 : Nat)) := Lib.hid rfl
      have hi := fun W => idx6 W
      clear hp
      rcases ht : ([85, 78, 84, 69, 83, 84, 69, 68] == s.toList) with _ | _
      · have HT := Lib.hid (show ¬ (((⟨#[85, 78, 84, 69, 83, 84, 69, 68]⟩ : ByteArray).toList == s.toList) = true) by simpa using ht)
        go_wp2
        go_round
        case rel => exact ⟨7, by omega, rfl, by rw [HP.out, HX.out, if_neg HT.out]⟩
        case measure => simp [intOf]
      · have HT := Lib.hid (show (((⟨#[85, 78, 84, 69, 83, 84, 69, 68]⟩ : ByteArray).toList == s.toList) = true) by simpa using ht)
        go_wp2
        go_ret
        exact ⟨by rw [HP.out, HX.out, if_pos HT.out]; rfl, rfl⟩
    · have HP := Lib.hid hp
      have HX : Hid (parseL s (wordsL.drop 7) (7 : Nat) = if (((⟨#[85, 78, 83, 85, 80, 80, 79, 82, 84, 69, 68]⟩ : ByteArray).toList == s.toList) = true) then ((7 : Nat) : Int) else parseL s (wordsL.drop 8) (8 : Nat)) := Lib.hid rfl
      have hi := fun W => idx7 W
      clear hp
      rcases ht : ([85, 78, 83, 85, 80, 80, 79, 82, 84, 69, 68] == s.toList) with _ | _
      · have HT := Lib.hid (show ¬ (((⟨#[85, 78, 83, 85, 80, 80, 79, 82, 84, 69, 68]⟩ : ByteArray).toList == s.toList) = true) by simpa using ht)
        go_wp2
        go_round
        case rel => exact ⟨8, by omega, rfl, by rw [HP.out, HX.out, if_neg HT.out]⟩
        case measure => simp [intOf]
      · have HT := Lib.hid (show (((⟨#[85, 78, 83, 85, 80, 80, 79, 82, 84, 69, 68]⟩ : ByteArray).toList == s.toList) = true) by simpa using ht)
        go_wp2
        go_ret
        exact ⟨by rw [HP.out, HX.out, if_pos HT.out]; rfl, rfl⟩
    · have HP := Lib.hid hp
      clear hp
      go_wp2
      go_ret
      exact ⟨by rw [HP.out]; rfl, rfl⟩
theorem pw0 : parseL ⟨#[]⟩ wordsL 0 = 0 := by decide +kernel
theorem pw1 : parseL ⟨#[80, 65, 83, 83]⟩ wordsL 0 = 1 := by decide +kernel
theorem pw2 : parseL ⟨#[70, 65, 73, 76]⟩ wordsL 0 = 2 := by decide +kernel
theorem pw3 : parseL ⟨#[88, 80, 65, 83, 83]⟩ wordsL 0 = 3 := by decide +kernel
theorem pw4 : parseL ⟨#[88, 70, 65, 73, 76]⟩ wordsL 0 = 4 := by decide +kernel
theorem pw5 : parseL ⟨#[85, 78, 82, 69, 83, 79, 76, 86, 69, 68]⟩ wordsL 0 = 5 := by decide +kernel
theorem pw6 : parseL ⟨#[85, 78, 84, 69, 83, 84, 69, 68]⟩ wordsL 0 = 6 := by decide +kernel
theorem pw7 : parseL ⟨#[85, 78, 83, 85, 80, 80, 79, 82, 84, 69, 68]⟩ wordsL 0 = 7 := by decide +kernel
def BoolPost (w : World) (b : Bool) (e : Ending) (w' : World) : Prop := e = .returned (.bool b) ∧ w = w'
/-- A text is one of the words, or none. -/
theorem word_or (s : ByteArray) : (∃ k : Nat, k < 8 ∧ 0 < k ∧ wordsL[k]? = some s) ∨ (parseL s wordsL 0 = 0 ∧ ∀ k x, 0 < k → wordsL[k]? = some x → (x.toList == s.toList) = false) := by
  by_cases h : ∃ k : Nat, k < 8 ∧ 0 < k ∧ wordsL[k]? = some s
  · exact .inl h
  · refine .inr ⟨?_, ?_⟩
    · have key : ∀ k x, 0 < k → wordsL[k]? = some x → (x.toList == s.toList) = false := fun k x hk hx => by
        rcases he : (x.toList == s.toList) with _ | _
        · rfl
        · refine absurd ⟨k, ?_, hk, ?_⟩ h
          · exact (List.getElem?_eq_some_iff.1 hx).1
          · have e := ba_ext (a := x) (b := s) (by simpa using he)
            rw [hx, e]
      have e1 := key 1 _ (by decide) rfl; have e2 := key 2 _ (by decide) rfl; have e3 := key 3 _ (by decide) rfl; have e4 := key 4 _ (by decide) rfl
      have e5 := key 5 _ (by decide) rfl; have e6 := key 6 _ (by decide) rfl; have e7 := key 7 _ (by decide) rfl
      unfold wordsL
      simp only [parseL]
      rw [e1, e2, e3, e4, e5, e6, e7]
      simp
    · exact fun k x hk hx => by
        rcases he : (x.toList == s.toList) with _ | _
        · rfl
        · refine absurd ⟨k, ?_, hk, ?_⟩ h
          · exact (List.getElem?_eq_some_iff.1 hx).1
          · have e := ba_ext (a := x) (b := s) (by simpa using he)
            rw [hx, e]
end Go.Proofs.YtplenagncmhhoaaDoor
