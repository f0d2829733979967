/- TraceWords' walk. -/
import Derived.Test.YtmhfdpgkdpbbiaaDoorEw
namespace Go.Proofs.YtmhfdpgkdpbbiaaDoor
open Go.RowKit

theorem rt_lit (k : Nat) (s : ByteArray) (hk : wordsL[k]? = some s) (h8 : k < 8) (W : World) : Calls Tryd.prog 6 #[.int .i64 (k : Nat)] W (StrPost W s) := by
  have e : wordT (k : Nat) = s := by
    unfold wordT
    rw [if_neg (by omega), Int.toNat_natCast, List.getD_eq_getElem?_getD, hk]; rfl
  have := rtext_any (k : Nat) W
  rw [e] at this
  exact this
theorem t_lit (k : Nat) (s : ByteArray) (hk : wordsL[k]? = some s) (h8 : k < 8) {W : World} (h : TabAt W) : Calls Tryd.prog 5 #[.int .i64 (k : Nat)] W (StrPost W s) := by
  have e : wordT (k : Nat) = s := by
    unfold wordT
    rw [if_neg (by omega), Int.toNat_natCast, List.getD_eq_getElem?_getD, hk]; rfl
  have := text_any h (k : Nat)
  rw [e] at this
  exact this
set_option maxHeartbeats 4000000 in
set_option maxRecDepth 100000 in
theorem tw1 {w : World} (h : TabAt w) (v : Int) : Calls Tryd.prog 3 #[.int .i64 v, .string ⟨#[80, 65, 83, 83]⟩] w (BoolPost w true) := by
  have HT := Lib.hid h
  have W0 := Lib.hid (words_any h)
  have C1 := Lib.hid (text_any h v)
  have C2 := Lib.hid (rtext_any v w)
  have C3 := Lib.hid (show Calls Tryd.prog 7 #[.string ⟨#[80, 65, 83, 83]⟩] w (NumPost w 1) by have := parse_any h ⟨#[80, 65, 83, 83]⟩; rw [pw1] at this; exact this)
  generalize wordT v = tv at C1 C2
  clear h
  go_enter Tryd.func3, Tryd.ntmps3
  go_wp2_with fail
  refine W0.out.mono ?_
  rintro e w2 ⟨rfl, rfl⟩
  go_wp2_with fail
  refine C1.out.mono ?_
  rintro e w2 ⟨rfl, rfl⟩
  go_wp2_with fail
  refine C2.out.mono ?_
  rintro e w2 ⟨rfl, rfl⟩
  go_wp2_with fail
  refine C3.out.mono ?_
  rintro e w2 ⟨rfl, rfl⟩
  go_wp2_with fail
  go_loop [6] (fun i => ∃ j : Nat, 1 ≤ j ∧ j ≤ 8 ∧ i = .int .i64 (j : Nat)) (fun i => 8 - (intOf i).toNat)
  case atStart => exact ⟨1, by omega, by omega, rfl⟩
  case round =>
    obtain ⟨j, hj1, hj, rfl⟩ := hrel
    rcases (by omega : j = 1 ∨ j = 2 ∨ j = 3 ∨ j = 4 ∨ j = 5 ∨ j = 6 ∨ j = 7 ∨ j = 8) with rfl | rfl | rfl | rfl | rfl | rfl | rfl | rfl
    · have R := Lib.hid (show Calls Tryd.prog 6 #[.int .i64 1] w (StrPost w ⟨#[80, 65, 83, 83]⟩) from rt_lit 1 _ rfl (by decide) w)
      have T := Lib.hid (show Calls Tryd.prog 5 #[.int .i64 1] w (StrPost w ⟨#[80, 65, 83, 83]⟩) from t_lit 1 _ rfl (by decide) HT.out)
      have P := Lib.hid (parse_any HT.out ⟨#[80, 65, 83, 83]⟩)
      rw [pw1] at P
      go_wp2_with fail
      refine R.out.mono ?_
      rintro e w2 ⟨rfl, rfl⟩
      go_wp2_with fail
      refine T.out.mono ?_
      rintro e w2 ⟨rfl, rfl⟩
      go_wp2_with fail
      refine P.out.mono ?_
      rintro e w2 ⟨rfl, rfl⟩
      go_wp2
      go_round
      case rel => exact ⟨2, by omega, by omega, rfl⟩
      case measure => simp [intOf]
    · have R := Lib.hid (show Calls Tryd.prog 6 #[.int .i64 2] w (StrPost w ⟨#[70, 65, 73, 76]⟩) from rt_lit 2 _ rfl (by decide) w)
      have T := Lib.hid (show Calls Tryd.prog 5 #[.int .i64 2] w (StrPost w ⟨#[70, 65, 73, 76]⟩) from t_lit 2 _ rfl (by decide) HT.out)
      have P := Lib.hid (parse_any HT.out ⟨#[70, 65, 73, 76]⟩)
      rw [pw2] at P
      go_wp2_with fail
      refine R.out.mono ?_
      rintro e w2 ⟨rfl, rfl⟩
      go_wp2_with fail
      refine T.out.mono ?_
      rintro e w2 ⟨rfl, rfl⟩
      go_wp2_with fail
      refine P.out.mono ?_
      rintro e w2 ⟨rfl, rfl⟩
      go_wp2
      go_round
      case rel => exact ⟨3, by omega, by omega, rfl⟩
      case measure => simp [intOf]
    · have R := Lib.hid (show Calls Tryd.prog 6 #[.int .i64 3] w (StrPost w ⟨#[88, 80, 65, 83, 83]⟩) from rt_lit 3 _ rfl (by decide) w)
      have T := Lib.hid (show Calls Tryd.prog 5 #[.int .i64 3] w (StrPost w ⟨#[88, 80, 65, 83, 83]⟩) from t_lit 3 _ rfl (by decide) HT.out)
      have P := Lib.hid (parse_any HT.out ⟨#[88, 80, 65, 83, 83]⟩)
      rw [pw3] at P
      go_wp2_with fail
      refine R.out.mono ?_
      rintro e w2 ⟨rfl, rfl⟩
      go_wp2_with fail
      refine T.out.mono ?_
      rintro e w2 ⟨rfl, rfl⟩
      go_wp2_with fail
      refine P.out.mono ?_
      rintro e w2 ⟨rfl, rfl⟩
      go_wp2
      go_round
      case rel => exact ⟨4, by omega, by omega, rfl⟩
      case measure => simp [intOf]
    · have R := Lib.hid (show Calls Tryd.prog 6 #[.int .i64 4] w (StrPost w ⟨#[88, 70, 65, 73, 76]⟩) from rt_lit 4 _ rfl (by decide) w)
      have T := Lib.hid (show Calls Tryd.prog 5 #[.int .i64 4] w (StrPost w ⟨#[88, 70, 65, 73, 76]⟩) from t_lit 4 _ rfl (by decide) HT.out)
      have P := Lib.hid (parse_any HT.out ⟨#[88, 70, 65, 73, 76]⟩)
      rw [pw4] at P
      go_wp2_with fail
      refine R.out.mono ?_
      rintro e w2 ⟨rfl, rfl⟩
      go_wp2_with fail
      refine T.out.mono ?_
      rintro e w2 ⟨rfl, rfl⟩
      go_wp2_with fail
      refine P.out.mono ?_
      rintro e w2 ⟨rfl, rfl⟩
      go_wp2
      go_round
      case rel => exact ⟨5, by omega, by omega, rfl⟩
      case measure => simp [intOf]
    · have R := Lib.hid (show Calls Tryd.prog 6 #[.int .i64 5] w (StrPost w ⟨#[85, 78, 82, 69, 83, 79, 76, 86, 69, 68]⟩) from rt_lit 5 _ rfl (by decide) w)
      have T := Lib.hid (show Calls Tryd.prog 5 #[.int .i64 5] w (StrPost w ⟨#[85, 78, 82, 69, 83, 79, 76, 86, 69, 68]⟩) from t_lit 5 _ rfl (by decide) HT.out)
      have P := Lib.hid (parse_any HT.out ⟨#[85, 78, 82, 69, 83, 79, 76, 86, 69, 68]⟩)
      rw [pw5] at P
      go_wp2_with fail
      refine R.out.mono ?_
      rintro e w2 ⟨rfl, rfl⟩
      go_wp2_with fail
      refine T.out.mono ?_
      rintro e w2 ⟨rfl, rfl⟩
      go_wp2_with fail
      refine P.out.mono ?_
      rintro e w2 ⟨rfl, rfl⟩
      go_wp2
      go_round
      case rel => exact ⟨6, by omega, by omega, rfl⟩
      case measure => simp [intOf]
    · have R := Lib.hid (show Calls Tryd.prog 6 #[.int .i64 6] w (StrPost w ⟨#[85, 78, 84, 69, 83, 84, 69, 68]⟩) from rt_lit 6 _ rfl (by decide) w)
      have T := Lib.hid (show Calls Tryd.prog 5 #[.int .i64 6] w (StrPost w ⟨#[85, 78, 84, 69, 83, 84, 69, 68]⟩) from t_lit 6 _ rfl (by decide) HT.out)
      have P := Lib.hid (parse_any HT.out ⟨#[85, 78, 84, 69, 83, 84, 69, 68]⟩)
      rw [pw6] at P
      go_wp2_with fail
      refine R.out.mono ?_
      rintro e w2 ⟨rfl, rfl⟩
      go_wp2_with fail
      refine T.out.mono ?_
      rintro e w2 ⟨rfl, rfl⟩
      go_wp2_with fail
      refine P.out.mono ?_
      rintro e w2 ⟨rfl, rfl⟩
      go_wp2
      go_round
      case rel => exact ⟨7, by omega, by omega, rfl⟩
      case measure => simp [intOf]
    · have R := Lib.hid (show Calls Tryd.prog 6 #[.int .i64 7] w (StrPost w ⟨#[85, 78, 83, 85, 80, 80, 79, 82, 84, 69, 68]⟩) from rt_lit 7 _ rfl (by decide) w)
      have T := Lib.hid (show Calls Tryd.prog 5 #[.int .i64 7] w (StrPost w ⟨#[85, 78, 83, 85, 80, 80, 79, 82, 84, 69, 68]⟩) from t_lit 7 _ rfl (by decide) HT.out)
      have P := Lib.hid (parse_any HT.out ⟨#[85, 78, 83, 85, 80, 80, 79, 82, 84, 69, 68]⟩)
      rw [pw7] at P
      go_wp2_with fail
      refine R.out.mono ?_
      rintro e w2 ⟨rfl, rfl⟩
      go_wp2_with fail
      refine T.out.mono ?_
      rintro e w2 ⟨rfl, rfl⟩
      go_wp2_with fail
      refine P.out.mono ?_
      rintro e w2 ⟨rfl, rfl⟩
      go_wp2
      go_round
      case rel => exact ⟨8, by omega, by omega, rfl⟩
      case measure => simp [intOf]
    · go_wp2
      go_ret
      exact ⟨rfl, rfl⟩
set_option maxHeartbeats 4000000 in
set_option maxRecDepth 100000 in
theorem tw2 {w : World} (h : TabAt w) (v : Int) : Calls Tryd.prog 3 #[.int .i64 v, .string ⟨#[70, 65, 73, 76]⟩] w (BoolPost w true) := by
  have HT := Lib.hid h
  have W0 := Lib.hid (words_any h)
  have C1 := Lib.hid (text_any h v)
  have C2 := Lib.hid (rtext_any v w)
  have C3 := Lib.hid (show Calls Tryd.prog 7 #[.string ⟨#[70, 65, 73, 76]⟩] w (NumPost w 2) by have := parse_any h ⟨#[70, 65, 73, 76]⟩; rw [pw2] at this; exact this)
  generalize wordT v = tv at C1 C2
  clear h
  go_enter Tryd.func3, Tryd.ntmps3
  go_wp2_with fail
  refine W0.out.mono ?_
  rintro e w2 ⟨rfl, rfl⟩
  go_wp2_with fail
  refine C1.out.mono ?_
  rintro e w2 ⟨rfl, rfl⟩
  go_wp2_with fail
  refine C2.out.mono ?_
  rintro e w2 ⟨rfl, rfl⟩
  go_wp2_with fail
  refine C3.out.mono ?_
  rintro e w2 ⟨rfl, rfl⟩
  go_wp2_with fail
  go_loop [6] (fun i => ∃ j : Nat, 1 ≤ j ∧ j ≤ 8 ∧ i = .int .i64 (j : Nat)) (fun i => 8 - (intOf i).toNat)
  case atStart => exact ⟨1, by omega, by omega, rfl⟩
  case round =>
    obtain ⟨j, hj1, hj, rfl⟩ := hrel
    rcases (by omega : j = 1 ∨ j = 2 ∨ j = 3 ∨ j = 4 ∨ j = 5 ∨ j = 6 ∨ j = 7 ∨ j = 8) with rfl | rfl | rfl | rfl | rfl | rfl | rfl | rfl
    · have R := Lib.hid (show Calls Tryd.prog 6 #[.int .i64 1] w (StrPost w ⟨#[80, 65, 83, 83]⟩) from rt_lit 1 _ rfl (by decide) w)
      have T := Lib.hid (show Calls Tryd.prog 5 #[.int .i64 1] w (StrPost w ⟨#[80, 65, 83, 83]⟩) from t_lit 1 _ rfl (by decide) HT.out)
      have P := Lib.hid (parse_any HT.out ⟨#[80, 65, 83, 83]⟩)
      rw [pw1] at P
      go_wp2_with fail
      refine R.out.mono ?_
      rintro e w2 ⟨rfl, rfl⟩
      go_wp2_with fail
      refine T.out.mono ?_
      rintro e w2 ⟨rfl, rfl⟩
      go_wp2_with fail
      refine P.out.mono ?_
      rintro e w2 ⟨rfl, rfl⟩
      go_wp2
      go_round
      case rel => exact ⟨2, by omega, by omega, rfl⟩
      case measure => simp [intOf]
    · have R := Lib.hid (show Calls Tryd.prog 6 #[.int .i64 2] w (StrPost w ⟨#[70, 65, 73, 76]⟩) from rt_lit 2 _ rfl (by decide) w)
      have T := Lib.hid (show Calls Tryd.prog 5 #[.int .i64 2] w (StrPost w ⟨#[70, 65, 73, 76]⟩) from t_lit 2 _ rfl (by decide) HT.out)
      have P := Lib.hid (parse_any HT.out ⟨#[70, 65, 73, 76]⟩)
      rw [pw2] at P
      go_wp2_with fail
      refine R.out.mono ?_
      rintro e w2 ⟨rfl, rfl⟩
      go_wp2_with fail
      refine T.out.mono ?_
      rintro e w2 ⟨rfl, rfl⟩
      go_wp2_with fail
      refine P.out.mono ?_
      rintro e w2 ⟨rfl, rfl⟩
      go_wp2
      go_round
      case rel => exact ⟨3, by omega, by omega, rfl⟩
      case measure => simp [intOf]
    · have R := Lib.hid (show Calls Tryd.prog 6 #[.int .i64 3] w (StrPost w ⟨#[88, 80, 65, 83, 83]⟩) from rt_lit 3 _ rfl (by decide) w)
      have T := Lib.hid (show Calls Tryd.prog 5 #[.int .i64 3] w (StrPost w ⟨#[88, 80, 65, 83, 83]⟩) from t_lit 3 _ rfl (by decide) HT.out)
      have P := Lib.hid (parse_any HT.out ⟨#[88, 80, 65, 83, 83]⟩)
      rw [pw3] at P
      go_wp2_with fail
      refine R.out.mono ?_
      rintro e w2 ⟨rfl, rfl⟩
      go_wp2_with fail
      refine T.out.mono ?_
      rintro e w2 ⟨rfl, rfl⟩
      go_wp2_with fail
      refine P.out.mono ?_
      rintro e w2 ⟨rfl, rfl⟩
      go_wp2
      go_round
      case rel => exact ⟨4, by omega, by omega, rfl⟩
      case measure => simp [intOf]
    · have R := Lib.hid (show Calls Tryd.prog 6 #[.int .i64 4] w (StrPost w ⟨#[88, 70, 65, 73, 76]⟩) from rt_lit 4 _ rfl (by decide) w)
      have T := Lib.hid (show Calls Tryd.prog 5 #[.int .i64 4] w (StrPost w ⟨#[88, 70, 65, 73, 76]⟩) from t_lit 4 _ rfl (by decide) HT.out)
      have P := Lib.hid (parse_any HT.out ⟨#[88, 70, 65, 73, 76]⟩)
      rw [pw4] at P
      go_wp2_with fail
      refine R.out.mono ?_
      rintro e w2 ⟨rfl, rfl⟩
      go_wp2_with fail
      refine T.out.mono ?_
      rintro e w2 ⟨rfl, rfl⟩
      go_wp2_with fail
      refine P.out.mono ?_
      rintro e w2 ⟨rfl, rfl⟩
      go_wp2
      go_round
      case rel => exact ⟨5, by omega, by omega, rfl⟩
      case measure => simp [intOf]
    · have R := Lib.hid (show Calls Tryd.prog 6 #[.int .i64 5] w (StrPost w ⟨#[85, 78, 82, 69, 83, 79, 76, 86, 69, 68]⟩) from rt_lit 5 _ rfl (by decide) w)
      have T := Lib.hid (show Calls Tryd.prog 5 #[.int .i64 5] w (StrPost w ⟨#[85, 78, 82, 69, 83, 79, 76, 86, 69, 68]⟩) from t_lit 5 _ rfl (by decide) HT.out)
      have P := Lib.hid (parse_any HT.out ⟨#[85, 78, 82, 69, 83, 79, 76, 86, 69, 68]⟩)
      rw [pw5] at P
      go_wp2_with fail
      refine R.out.mono ?_
      rintro e w2 ⟨rfl, rfl⟩
      go_wp2_with fail
      refine T.out.mono ?_
      rintro e w2 ⟨rfl, rfl⟩
      go_wp2_with fail
      refine P.out.mono ?_
      rintro e w2 ⟨rfl, rfl⟩
      go_wp2
      go_round
      case rel => exact ⟨6, by omega, by omega, rfl⟩
      case measure => simp [intOf]
    · have R := Lib.hid (show Calls Tryd.prog 6 #[.int .i64 6] w (StrPost w ⟨#[85, 78, 84, 69, 83, 84, 69, 68]⟩) from rt_lit 6 _ rfl (by decide) w)
      have T := Lib.hid (show Calls Tryd.prog 5 #[.int .i64 6] w (StrPost w ⟨#[85, 78, 84, 69, 83, 84, 69, 68]⟩) from t_lit 6 _ rfl (by decide) HT.out)
      have P := Lib.hid (parse_any HT.out ⟨#[85, 78, 84, 69, 83, 84, 69, 68]⟩)
      rw [pw6] at P
      go_wp2_with fail
      refine R.out.mono ?_
      rintro e w2 ⟨rfl, rfl⟩
      go_wp2_with fail
      refine T.out.mono ?_
      rintro e w2 ⟨rfl, rfl⟩
      go_wp2_with fail
      refine P.out.mono ?_
      rintro e w2 ⟨rfl, rfl⟩
      go_wp2
      go_round
      case rel => exact ⟨7, by omega, by omega, rfl⟩
      case measure => simp [intOf]
    · have R := Lib.hid (show Calls Tryd.prog 6 #[.int .i64 7] w (StrPost w ⟨#[85, 78, 83, 85, 80, 80, 79, 82, 84, 69, 68]⟩) from rt_lit 7 _ rfl (by decide) w)
      have T := Lib.hid (show Calls Tryd.prog 5 #[.int .i64 7] w (StrPost w ⟨#[85, 78, 83, 85, 80, 80, 79, 82, 84, 69, 68]⟩) from t_lit 7 _ rfl (by decide) HT.out)
      have P := Lib.hid (parse_any HT.out ⟨#[85, 78, 83, 85, 80, 80, 79, 82, 84, 69, 68]⟩)
      rw [pw7] at P
      go_wp2_with fail
      refine R.out.mono ?_
      rintro e w2 ⟨rfl, rfl⟩
      go_wp2_with fail
      refine T.out.mono ?_
      rintro e w2 ⟨rfl, rfl⟩
      go_wp2_with fail
      refine P.out.mono ?_
      rintro e w2 ⟨rfl, rfl⟩
      go_wp2
      go_round
      case rel => exact ⟨8, by omega, by omega, rfl⟩
      case measure => simp [intOf]
    · go_wp2
      go_ret
      exact ⟨rfl, rfl⟩
set_option maxHeartbeats 4000000 in
set_option maxRecDepth 100000 in
theorem tw3 {w : World} (h : TabAt w) (v : Int) : Calls Tryd.prog 3 #[.int .i64 v, .string ⟨#[88, 80, 65, 83, 83]⟩] w (BoolPost w true) := by
  have HT := Lib.hid h
  have W0 := Lib.hid (words_any h)
  have C1 := Lib.hid (text_any h v)
  have C2 := Lib.hid (rtext_any v w)
  have C3 := Lib.hid (show Calls Tryd.prog 7 #[.string ⟨#[88, 80, 65, 83, 83]⟩] w (NumPost w 3) by have := parse_any h ⟨#[88, 80, 65, 83, 83]⟩; rw [pw3] at this; exact this)
  generalize wordT v = tv at C1 C2
  clear h
  go_enter Tryd.func3, Tryd.ntmps3
  go_wp2_with fail
  refine W0.out.mono ?_
  rintro e w2 ⟨rfl, rfl⟩
  go_wp2_with fail
  refine C1.out.mono ?_
  rintro e w2 ⟨rfl, rfl⟩
  go_wp2_with fail
  refine C2.out.mono ?_
  rintro e w2 ⟨rfl, rfl⟩
  go_wp2_with fail
  refine C3.out.mono ?_
  rintro e w2 ⟨rfl, rfl⟩
  go_wp2_with fail
  go_loop [6] (fun i => ∃ j : Nat, 1 ≤ j ∧ j ≤ 8 ∧ i = .int .i64 (j : Nat)) (fun i => 8 - (intOf i).toNat)
  case atStart => exact ⟨1, by omega, by omega, rfl⟩
  case round =>
    obtain ⟨j, hj1, hj, rfl⟩ := hrel
    rcases (by omega : j = 1 ∨ j = 2 ∨ j = 3 ∨ j = 4 ∨ j = 5 ∨ j = 6 ∨ j = 7 ∨ j = 8) with rfl | rfl | rfl | rfl | rfl | rfl | rfl | rfl
    · have R := Lib.hid (show Calls Tryd.prog 6 #[.int .i64 1] w (StrPost w ⟨#[80, 65, 83, 83]⟩) from rt_lit 1 _ rfl (by decide) w)
      have T := Lib.hid (show Calls Tryd.prog 5 #[.int .i64 1] w (StrPost w ⟨#[80, 65, 83, 83]⟩) from t_lit 1 _ rfl (by decide) HT.out)
      have P := Lib.hid (parse_any HT.out ⟨#[80, 65, 83, 83]⟩)
      rw [pw1] at P
      go_wp2_with fail
      refine R.out.mono ?_
      rintro e w2 ⟨rfl, rfl⟩
      go_wp2_with fail
      refine T.out.mono ?_
      rintro e w2 ⟨rfl, rfl⟩
      go_wp2_with fail
      refine P.out.mono ?_
      rintro e w2 ⟨rfl, rfl⟩
      go_wp2
      go_round
      case rel => exact ⟨2, by omega, by omega, rfl⟩
      case measure => simp [intOf]
    · have R := Lib.hid (show Calls Tryd.prog 6 #[.int .i64 2] w (StrPost w ⟨#[70, 65, 73, 76]⟩) from rt_lit 2 _ rfl (by decide) w)
      have T := Lib.hid (show Calls Tryd.prog 5 #[.int .i64 2] w (StrPost w ⟨#[70, 65, 73, 76]⟩) from t_lit 2 _ rfl (by decide) HT.out)
      have P := Lib.hid (parse_any HT.out ⟨#[70, 65, 73, 76]⟩)
      rw [pw2] at P
      go_wp2_with fail
      refine R.out.mono ?_
      rintro e w2 ⟨rfl, rfl⟩
      go_wp2_with fail
      refine T.out.mono ?_
      rintro e w2 ⟨rfl, rfl⟩
      go_wp2_with fail
      refine P.out.mono ?_
      rintro e w2 ⟨rfl, rfl⟩
      go_wp2
      go_round
      case rel => exact ⟨3, by omega, by omega, rfl⟩
      case measure => simp [intOf]
    · have R := Lib.hid (show Calls Tryd.prog 6 #[.int .i64 3] w (StrPost w ⟨#[88, 80, 65, 83, 83]⟩) from rt_lit 3 _ rfl (by decide) w)
      have T := Lib.hid (show Calls Tryd.prog 5 #[.int .i64 3] w (StrPost w ⟨#[88, 80, 65, 83, 83]⟩) from t_lit 3 _ rfl (by decide) HT.out)
      have P := Lib.hid (parse_any HT.out ⟨#[88, 80, 65, 83, 83]⟩)
      rw [pw3] at P
      go_wp2_with fail
      refine R.out.mono ?_
      rintro e w2 ⟨rfl, rfl⟩
      go_wp2_with fail
      refine T.out.mono ?_
      rintro e w2 ⟨rfl, rfl⟩
      go_wp2_with fail
      refine P.out.mono ?_
      rintro e w2 ⟨rfl, rfl⟩
      go_wp2
      go_round
      case rel => exact ⟨4, by omega, by omega, rfl⟩
      case measure => simp [intOf]
    · have R := Lib.hid (show Calls Tryd.prog 6 #[.int .i64 4] w (StrPost w ⟨#[88, 70, 65, 73, 76]⟩) from rt_lit 4 _ rfl (by decide) w)
      have T := Lib.hid (show Calls Tryd.prog 5 #[.int .i64 4] w (StrPost w ⟨#[88, 70, 65, 73, 76]⟩) from t_lit 4 _ rfl (by decide) HT.out)
      have P := Lib.hid (parse_any HT.out ⟨#[88, 70, 65, 73, 76]⟩)
      rw [pw4] at P
      go_wp2_with fail
      refine R.out.mono ?_
      rintro e w2 ⟨rfl, rfl⟩
      go_wp2_with fail
      refine T.out.mono ?_
      rintro e w2 ⟨rfl, rfl⟩
      go_wp2_with fail
      refine P.out.mono ?_
      rintro e w2 ⟨rfl, rfl⟩
      go_wp2
      go_round
      case rel => exact ⟨5, by omega, by omega, rfl⟩
      case measure => simp [intOf]
    · have R := Lib.hid (show Calls Tryd.prog 6 #[.int .i64 5] w (StrPost w ⟨#[85, 78, 82, 69, 83, 79, 76, 86, 69, 68]⟩) from rt_lit 5 _ rfl (by decide) w)
      have T := Lib.hid (show Calls Tryd.prog 5 #[.int .i64 5] w (StrPost w ⟨#[85, 78, 82, 69, 83, 79, 76, 86, 69, 68]⟩) from t_lit 5 _ rfl (by decide) HT.out)
      have P := Lib.hid (parse_any HT.out ⟨#[85, 78, 82, 69, 83, 79, 76, 86, 69, 68]⟩)
      rw [pw5] at P
      go_wp2_with fail
      refine R.out.mono ?_
      rintro e w2 ⟨rfl, rfl⟩
      go_wp2_with fail
      refine T.out.mono ?_
      rintro e w2 ⟨rfl, rfl⟩
      go_wp2_with fail
      refine P.out.mono ?_
      rintro e w2 ⟨rfl, rfl⟩
      go_wp2
      go_round
      case rel => exact ⟨6, by omega, by omega, rfl⟩
      case measure => simp [intOf]
    · have R := Lib.hid (show Calls Tryd.prog 6 #[.int .i64 6] w (StrPost w ⟨#[85, 78, 84, 69, 83, 84, 69, 68]⟩) from rt_lit 6 _ rfl (by decide) w)
      have T := Lib.hid (show Calls Tryd.prog 5 #[.int .i64 6] w (StrPost w ⟨#[85, 78, 84, 69, 83, 84, 69, 68]⟩) from t_lit 6 _ rfl (by decide) HT.out)
      have P := Lib.hid (parse_any HT.out ⟨#[85, 78, 84, 69, 83, 84, 69, 68]⟩)
      rw [pw6] at P
      go_wp2_with fail
      refine R.out.mono ?_
      rintro e w2 ⟨rfl, rfl⟩
      go_wp2_with fail
      refine T.out.mono ?_
      rintro e w2 ⟨rfl, rfl⟩
      go_wp2_with fail
      refine P.out.mono ?_
      rintro e w2 ⟨rfl, rfl⟩
      go_wp2
      go_round
      case rel => exact ⟨7, by omega, by omega, rfl⟩
      case measure => simp [intOf]
    · have R := Lib.hid (show Calls Tryd.prog 6 #[.int .i64 7] w (StrPost w ⟨#[85, 78, 83, 85, 80, 80, 79, 82, 84, 69, 68]⟩) from rt_lit 7 _ rfl (by decide) w)
      have T := Lib.hid (show Calls Tryd.prog 5 #[.int .i64 7] w (StrPost w ⟨#[85, 78, 83, 85, 80, 80, 79, 82, 84, 69, 68]⟩) from t_lit 7 _ rfl (by decide) HT.out)
      have P := Lib.hid (parse_any HT.out ⟨#[85, 78, 83, 85, 80, 80, 79, 82, 84, 69, 68]⟩)
      rw [pw7] at P
      go_wp2_with fail
      refine R.out.mono ?_
      rintro e w2 ⟨rfl, rfl⟩
      go_wp2_with fail
      refine T.out.mono ?_
      rintro e w2 ⟨rfl, rfl⟩
      go_wp2_with fail
      refine P.out.mono ?_
      rintro e w2 ⟨rfl, rfl⟩
      go_wp2
      go_round
      case rel => exact ⟨8, by omega, by omega, rfl⟩
      case measure => simp [intOf]
    · go_wp2
      go_ret
      exact ⟨rfl, rfl⟩
set_option maxHeartbeats 4000000 in
set_option maxRecDepth 100000 in
theorem tw4 {w : World} (h : TabAt w) (v : Int) : Calls Tryd.prog 3 #[.int .i64 v, .string ⟨#[88, 70, 65, 73, 76]⟩] w (BoolPost w true) := by
  have HT := Lib.hid h
  have W0 := Lib.hid (words_any h)
  have C1 := Lib.hid (text_any h v)
  have C2 := Lib.hid (rtext_any v w)
  have C3 := Lib.hid (show Calls Tryd.prog 7 #[.string ⟨#[88, 70, 65, 73, 76]⟩] w (NumPost w 4) by have := parse_any h ⟨#[88, 70, 65, 73, 76]⟩; rw [pw4] at this; exact this)
  generalize wordT v = tv at C1 C2
  clear h
  go_enter Tryd.func3, Tryd.ntmps3
  go_wp2_with fail
  refine W0.out.mono ?_
  rintro e w2 ⟨rfl, rfl⟩
  go_wp2_with fail
  refine C1.out.mono ?_
  rintro e w2 ⟨rfl, rfl⟩
  go_wp2_with fail
  refine C2.out.mono ?_
  rintro e w2 ⟨rfl, rfl⟩
  go_wp2_with fail
  refine C3.out.mono ?_
  rintro e w2 ⟨rfl, rfl⟩
  go_wp2_with fail
  go_loop [6] (fun i => ∃ j : Nat, 1 ≤ j ∧ j ≤ 8 ∧ i = .int .i64 (j : Nat)) (fun i => 8 - (intOf i).toNat)
  case atStart => exact ⟨1, by omega, by omega, rfl⟩
  case round =>
    obtain ⟨j, hj1, hj, rfl⟩ := hrel
    rcases (by omega : j = 1 ∨ j = 2 ∨ j = 3 ∨ j = 4 ∨ j = 5 ∨ j = 6 ∨ j = 7 ∨ j = 8) with rfl | rfl | rfl | rfl | rfl | rfl | rfl | rfl
    · have R := Lib.hid (show Calls Tryd.prog 6 #[.int .i64 1] w (StrPost w ⟨#[80, 65, 83, 83]⟩) from rt_lit 1 _ rfl (by decide) w)
      have T := Lib.hid (show Calls Tryd.prog 5 #[.int .i64 1] w (StrPost w ⟨#[80, 65, 83, 83]⟩) from t_lit 1 _ rfl (by decide) HT.out)
      have P := Lib.hid (parse_any HT.out ⟨#[80, 65, 83, 83]⟩)
      rw [pw1] at P
      go_wp2_with fail
      refine R.out.mono ?_
      rintro e w2 ⟨rfl, rfl⟩
      go_wp2_with fail
      refine T.out.mono ?_
      rintro e w2 ⟨rfl, rfl⟩
      go_wp2_with fail
      refine P.out.mono ?_
      rintro e w2 ⟨rfl, rfl⟩
      go_wp2
      go_round
      case rel => exact ⟨2, by omega, by omega, rfl⟩
      case measure => simp [intOf]
    · have R := Lib.hid (show Calls Tryd.prog 6 #[.int .i64 2] w (StrPost w ⟨#[70, 65, 73, 76]⟩) from rt_lit 2 _ rfl (by decide) w)
      have T := Lib.hid (show Calls Tryd.prog 5 #[.int .i64 2] w (StrPost w ⟨#[70, 65, 73, 76]⟩) from t_lit 2 _ rfl (by decide) HT.out)
      have P := Lib.hid (parse_any HT.out ⟨#[70, 65, 73, 76]⟩)
      rw [pw2] at P
      go_wp2_with fail
      refine R.out.mono ?_
      rintro e w2 ⟨rfl, rfl⟩
      go_wp2_with fail
      refine T.out.mono ?_
      rintro e w2 ⟨rfl, rfl⟩
      go_wp2_with fail
      refine P.out.mono ?_
      rintro e w2 ⟨rfl, rfl⟩
      go_wp2
      go_round
      case rel => exact ⟨3, by omega, by omega, rfl⟩
      case measure => simp [intOf]
    · have R := Lib.hid (show Calls Tryd.prog 6 #[.int .i64 3] w (StrPost w ⟨#[88, 80, 65, 83, 83]⟩) from rt_lit 3 _ rfl (by decide) w)
      have T := Lib.hid (show Calls Tryd.prog 5 #[.int .i64 3] w (StrPost w ⟨#[88, 80, 65, 83, 83]⟩) from t_lit 3 _ rfl (by decide) HT.out)
      have P := Lib.hid (parse_any HT.out ⟨#[88, 80, 65, 83, 83]⟩)
      rw [pw3] at P
      go_wp2_with fail
      refine R.out.mono ?_
      rintro e w2 ⟨rfl, rfl⟩
      go_wp2_with fail
      refine T.out.mono ?_
      rintro e w2 ⟨rfl, rfl⟩
      go_wp2_with fail
      refine P.out.mono ?_
      rintro e w2 ⟨rfl, rfl⟩
      go_wp2
      go_round
      case rel => exact ⟨4, by omega, by omega, rfl⟩
      case measure => simp [intOf]
    · have R := Lib.hid (show Calls Tryd.prog 6 #[.int .i64 4] w (StrPost w ⟨#[88, 70, 65, 73, 76]⟩) from rt_lit 4 _ rfl (by decide) w)
      have T := Lib.hid (show Calls Tryd.prog 5 #[.int .i64 4] w (StrPost w ⟨#[88, 70, 65, 73, 76]⟩) from t_lit 4 _ rfl (by decide) HT.out)
      have P := Lib.hid (parse_any HT.out ⟨#[88, 70, 65, 73, 76]⟩)
      rw [pw4] at P
      go_wp2_with fail
      refine R.out.mono ?_
      rintro e w2 ⟨rfl, rfl⟩
      go_wp2_with fail
      refine T.out.mono ?_
      rintro e w2 ⟨rfl, rfl⟩
      go_wp2_with fail
      refine P.out.mono ?_
      rintro e w2 ⟨rfl, rfl⟩
      go_wp2
      go_round
      case rel => exact ⟨5, by omega, by omega, rfl⟩
      case measure => simp [intOf]
    · have R := Lib.hid (show Calls Tryd.prog 6 #[.int .i64 5] w (StrPost w ⟨#[85, 78, 82, 69, 83, 79, 76, 86, 69, 68]⟩) from rt_lit 5 _ rfl (by decide) w)
      have T := Lib.hid (show Calls Tryd.prog 5 #[.int .i64 5] w (StrPost w ⟨#[85, 78, 82, 69, 83, 79, 76, 86, 69, 68]⟩) from t_lit 5 _ rfl (by decide) HT.out)
      have P := Lib.hid (parse_any HT.out ⟨#[85, 78, 82, 69, 83, 79, 76, 86, 69, 68]⟩)
      rw [pw5] at P
      go_wp2_with fail
      refine R.out.mono ?_
      rintro e w2 ⟨rfl, rfl⟩
      go_wp2_with fail
      refine T.out.mono ?_
      rintro e w2 ⟨rfl, rfl⟩
      go_wp2_with fail
      refine P.out.mono ?_
      rintro e w2 ⟨rfl, rfl⟩
      go_wp2
      go_round
      case rel => exact ⟨6, by omega, by omega, rfl⟩
      case measure => simp [intOf]
    · have R := Lib.hid (show Calls Tryd.prog 6 #[.int .i64 6] w (StrPost w ⟨#[85, 78, 84, 69, 83, 84, 69, 68]⟩) from rt_lit 6 _ rfl (by decide) w)
      have T := Lib.hid (show Calls Tryd.prog 5 #[.int .i64 6] w (StrPost w ⟨#[85, 78, 84, 69, 83, 84, 69, 68]⟩) from t_lit 6 _ rfl (by decide) HT.out)
      have P := Lib.hid (parse_any HT.out ⟨#[85, 78, 84, 69, 83, 84, 69, 68]⟩)
      rw [pw6] at P
      go_wp2_with fail
      refine R.out.mono ?_
      rintro e w2 ⟨rfl, rfl⟩
      go_wp2_with fail
      refine T.out.mono ?_
      rintro e w2 ⟨rfl, rfl⟩
      go_wp2_with fail
      refine P.out.mono ?_
      rintro e w2 ⟨rfl, rfl⟩
      go_wp2
      go_round
      case rel => exact ⟨7, by omega, by omega, rfl⟩
      case measure => simp [intOf]
    · have R := Lib.hid (show Calls Tryd.prog 6 #[.int .i64 7] w (StrPost w ⟨#[85, 78, 83, 85, 80, 80, 79, 82, 84, 69, 68]⟩) from rt_lit 7 _ rfl (by decide) w)
      have T := Lib.hid (show Calls Tryd.prog 5 #[.int .i64 7] w (StrPost w ⟨#[85, 78, 83, 85, 80, 80, 79, 82, 84, 69, 68]⟩) from t_lit 7 _ rfl (by decide) HT.out)
      have P := Lib.hid (parse_any HT.out ⟨#[85, 78, 83, 85, 80, 80, 79, 82, 84, 69, 68]⟩)
      rw [pw7] at P
      go_wp2_with fail
      refine R.out.mono ?_
      rintro e w2 ⟨rfl, rfl⟩
      go_wp2_with fail
      refine T.out.mono ?_
      rintro e w2 ⟨rfl, rfl⟩
      go_wp2_with fail
      refine P.out.mono ?_
      rintro e w2 ⟨rfl, rfl⟩
      go_wp2
      go_round
      case rel => exact ⟨8, by omega, by omega, rfl⟩
      case measure => simp [intOf]
    · go_wp2
      go_ret
      exact ⟨rfl, rfl⟩
set_option maxHeartbeats 4000000 in
set_option maxRecDepth 100000 in
theorem tw5 {w : World} (h : TabAt w) (v : Int) : Calls Tryd.prog 3 #[.int .i64 v, .string ⟨#[85, 78, 82, 69, 83, 79, 76, 86, 69, 68]⟩] w (BoolPost w true) := by
  have HT := Lib.hid h
  have W0 := Lib.hid (words_any h)
  have C1 := Lib.hid (text_any h v)
  have C2 := Lib.hid (rtext_any v w)
  have C3 := Lib.hid (show Calls Tryd.prog 7 #[.string ⟨#[85, 78, 82, 69, 83, 79, 76, 86, 69, 68]⟩] w (NumPost w 5) by have := parse_any h ⟨#[85, 78, 82, 69, 83, 79, 76, 86, 69, 68]⟩; rw [pw5] at this; exact this)
  generalize wordT v = tv at C1 C2
  clear h
  go_enter Tryd.func3, Tryd.ntmps3
  go_wp2_with fail
  refine W0.out.mono ?_
  rintro e w2 ⟨rfl, rfl⟩
  go_wp2_with fail
  refine C1.out.mono ?_
  rintro e w2 ⟨rfl, rfl⟩
  go_wp2_with fail
  refine C2.out.mono ?_
  rintro e w2 ⟨rfl, rfl⟩
  go_wp2_with fail
  refine C3.out.mono ?_
  rintro e w2 ⟨rfl, rfl⟩
  go_wp2_with fail
  go_loop [6] (fun i => ∃ j : Nat, 1 ≤ j ∧ j ≤ 8 ∧ i = .int .i64 (j : Nat)) (fun i => 8 - (intOf i).toNat)
  case atStart => exact ⟨1, by omega, by omega, rfl⟩
  case round =>
    obtain ⟨j, hj1, hj, rfl⟩ := hrel
    rcases (by omega : j = 1 ∨ j = 2 ∨ j = 3 ∨ j = 4 ∨ j = 5 ∨ j = 6 ∨ j = 7 ∨ j = 8) with rfl | rfl | rfl | rfl | rfl | rfl | rfl | rfl
    · have R := Lib.hid (show Calls Tryd.prog 6 #[.int .i64 1] w (StrPost w ⟨#[80, 65, 83, 83]⟩) from rt_lit 1 _ rfl (by decide) w)
      have T := Lib.hid (show Calls Tryd.prog 5 #[.int .i64 1] w (StrPost w ⟨#[80, 65, 83, 83]⟩) from t_lit 1 _ rfl (by decide) HT.out)
      have P := Lib.hid (parse_any HT.out ⟨#[80, 65, 83, 83]⟩)
      rw [pw1] at P
      go_wp2_with fail
      refine R.out.mono ?_
      rintro e w2 ⟨rfl, rfl⟩
      go_wp2_with fail
      refine T.out.mono ?_
      rintro e w2 ⟨rfl, rfl⟩
      go_wp2_with fail
      refine P.out.mono ?_
      rintro e w2 ⟨rfl, rfl⟩
      go_wp2
      go_round
      case rel => exact ⟨2, by omega, by omega, rfl⟩
      case measure => simp [intOf]
    · have R := Lib.hid (show Calls Tryd.prog 6 #[.int .i64 2] w (StrPost w ⟨#[70, 65, 73, 76]⟩) from rt_lit 2 _ rfl (by decide) w)
      have T := Lib.hid (show Calls Tryd.prog 5 #[.int .i64 2] w (StrPost w ⟨#[70, 65, 73, 76]⟩) from t_lit 2 _ rfl (by decide) HT.out)
      have P := Lib.hid (parse_any HT.out ⟨#[70, 65, 73, 76]⟩)
      rw [pw2] at P
      go_wp2_with fail
      refine R.out.mono ?_
      rintro e w2 ⟨rfl, rfl⟩
      go_wp2_with fail
      refine T.out.mono ?_
      rintro e w2 ⟨rfl, rfl⟩
      go_wp2_with fail
      refine P.out.mono ?_
      rintro e w2 ⟨rfl, rfl⟩
      go_wp2
      go_round
      case rel => exact ⟨3, by omega, by omega, rfl⟩
      case measure => simp [intOf]
    · have R := Lib.hid (show Calls Tryd.prog 6 #[.int .i64 3] w (StrPost w ⟨#[88, 80, 65, 83, 83]⟩) from rt_lit 3 _ rfl (by decide) w)
      have T := Lib.hid (show Calls Tryd.prog 5 #[.int .i64 3] w (StrPost w ⟨#[88, 80, 65, 83, 83]⟩) from t_lit 3 _ rfl (by decide) HT.out)
      have P := Lib.hid (parse_any HT.out ⟨#[88, 80, 65, 83, 83]⟩)
      rw [pw3] at P
      go_wp2_with fail
      refine R.out.mono ?_
      rintro e w2 ⟨rfl, rfl⟩
      go_wp2_with fail
      refine T.out.mono ?_
      rintro e w2 ⟨rfl, rfl⟩
      go_wp2_with fail
      refine P.out.mono ?_
      rintro e w2 ⟨rfl, rfl⟩
      go_wp2
      go_round
      case rel => exact ⟨4, by omega, by omega, rfl⟩
      case measure => simp [intOf]
    · have R := Lib.hid (show Calls Tryd.prog 6 #[.int .i64 4] w (StrPost w ⟨#[88, 70, 65, 73, 76]⟩) from rt_lit 4 _ rfl (by decide) w)
      have T := Lib.hid (show Calls Tryd.prog 5 #[.int .i64 4] w (StrPost w ⟨#[88, 70, 65, 73, 76]⟩) from t_lit 4 _ rfl (by decide) HT.out)
      have P := Lib.hid (parse_any HT.out ⟨#[88, 70, 65, 73, 76]⟩)
      rw [pw4] at P
      go_wp2_with fail
      refine R.out.mono ?_
      rintro e w2 ⟨rfl, rfl⟩
      go_wp2_with fail
      refine T.out.mono ?_
      rintro e w2 ⟨rfl, rfl⟩
      go_wp2_with fail
      refine P.out.mono ?_
      rintro e w2 ⟨rfl, rfl⟩
      go_wp2
      go_round
      case rel => exact ⟨5, by omega, by omega, rfl⟩
      case measure => simp [intOf]
    · have R := Lib.hid (show Calls Tryd.prog 6 #[.int .i64 5] w (StrPost w ⟨#[85, 78, 82, 69, 83, 79, 76, 86, 69, 68]⟩) from rt_lit 5 _ rfl (by decide) w)
      have T := Lib.hid (show Calls Tryd.prog 5 #[.int .i64 5] w (StrPost w ⟨#[85, 78, 82, 69, 83, 79, 76, 86, 69, 68]⟩) from t_lit 5 _ rfl (by decide) HT.out)
      have P := Lib.hid (parse_any HT.out ⟨#[85, 78, 82, 69, 83, 79, 76, 86, 69, 68]⟩)
      rw [pw5] at P
      go_wp2_with fail
      refine R.out.mono ?_
      rintro e w2 ⟨rfl, rfl⟩
      go_wp2_with fail
      refine T.out.mono ?_
      rintro e w2 ⟨rfl, rfl⟩
      go_wp2_with fail
      refine P.out.mono ?_
      rintro e w2 ⟨rfl, rfl⟩
      go_wp2
      go_round
      case rel => exact ⟨6, by omega, by omega, rfl⟩
      case measure => simp [intOf]
    · have R := Lib.hid (show Calls Tryd.prog 6 #[.int .i64 6] w (StrPost w ⟨#[85, 78, 84, 69, 83, 84, 69, 68]⟩) from rt_lit 6 _ rfl (by decide) w)
      have T := Lib.hid (show Calls Tryd.prog 5 #[.int .i64 6] w (StrPost w ⟨#[85, 78, 84, 69, 83, 84, 69, 68]⟩) from t_lit 6 _ rfl (by decide) HT.out)
      have P := Lib.hid (parse_any HT.out ⟨#[85, 78, 84, 69, 83, 84, 69, 68]⟩)
      rw [pw6] at P
      go_wp2_with fail
      refine R.out.mono ?_
      rintro e w2 ⟨rfl, rfl⟩
      go_wp2_with fail
      refine T.out.mono ?_
      rintro e w2 ⟨rfl, rfl⟩
      go_wp2_with fail
      refine P.out.mono ?_
      rintro e w2 ⟨rfl, rfl⟩
      go_wp2
      go_round
      case rel => exact ⟨7, by omega, by omega, rfl⟩
      case measure => simp [intOf]
    · have R := Lib.hid (show Calls Tryd.prog 6 #[.int .i64 7] w (StrPost w ⟨#[85, 78, 83, 85, 80, 80, 79, 82, 84, 69, 68]⟩) from rt_lit 7 _ rfl (by decide) w)
      have T := Lib.hid (show Calls Tryd.prog 5 #[.int .i64 7] w (StrPost w ⟨#[85, 78, 83, 85, 80, 80, 79, 82, 84, 69, 68]⟩) from t_lit 7 _ rfl (by decide) HT.out)
      have P := Lib.hid (parse_any HT.out ⟨#[85, 78, 83, 85, 80, 80, 79, 82, 84, 69, 68]⟩)
      rw [pw7] at P
      go_wp2_with fail
      refine R.out.mono ?_
      rintro e w2 ⟨rfl, rfl⟩
      go_wp2_with fail
      refine T.out.mono ?_
      rintro e w2 ⟨rfl, rfl⟩
      go_wp2_with fail
      refine P.out.mono ?_
      rintro e w2 ⟨rfl, rfl⟩
      go_wp2
      go_round
      case rel => exact ⟨8, by omega, by omega, rfl⟩
      case measure => simp [intOf]
    · go_wp2
      go_ret
      exact ⟨rfl, rfl⟩
set_option maxHeartbeats 4000000 in
set_option maxRecDepth 100000 in
theorem tw6 {w : World} (h : TabAt w) (v : Int) : Calls Tryd.prog 3 #[.int .i64 v, .string ⟨#[85, 78, 84, 69, 83, 84, 69, 68]⟩] w (BoolPost w true) := by
  have HT := Lib.hid h
  have W0 := Lib.hid (words_any h)
  have C1 := Lib.hid (text_any h v)
  have C2 := Lib.hid (rtext_any v w)
  have C3 := Lib.hid (show Calls Tryd.prog 7 #[.string ⟨#[85, 78, 84, 69, 83, 84, 69, 68]⟩] w (NumPost w 6) by have := parse_any h ⟨#[85, 78, 84, 69, 83, 84, 69, 68]⟩; rw [pw6] at this; exact this)
  generalize wordT v = tv at C1 C2
  clear h
  go_enter Tryd.func3, Tryd.ntmps3
  go_wp2_with fail
  refine W0.out.mono ?_
  rintro e w2 ⟨rfl, rfl⟩
  go_wp2_with fail
  refine C1.out.mono ?_
  rintro e w2 ⟨rfl, rfl⟩
  go_wp2_with fail
  refine C2.out.mono ?_
  rintro e w2 ⟨rfl, rfl⟩
  go_wp2_with fail
  refine C3.out.mono ?_
  rintro e w2 ⟨rfl, rfl⟩
  go_wp2_with fail
  go_loop [6] (fun i => ∃ j : Nat, 1 ≤ j ∧ j ≤ 8 ∧ i = .int .i64 (j : Nat)) (fun i => 8 - (intOf i).toNat)
  case atStart => exact ⟨1, by omega, by omega, rfl⟩
  case round =>
    obtain ⟨j, hj1, hj, rfl⟩ := hrel
    rcases (by omega : j = 1 ∨ j = 2 ∨ j = 3 ∨ j = 4 ∨ j = 5 ∨ j = 6 ∨ j = 7 ∨ j = 8) with rfl | rfl | rfl | rfl | rfl | rfl | rfl | rfl
    · have R := Lib.hid (show Calls Tryd.prog 6 #[.int .i64 1] w (StrPost w ⟨#[80, 65, 83, 83]⟩) from rt_lit 1 _ rfl (by decide) w)
      have T := Lib.hid (show Calls Tryd.prog 5 #[.int .i64 1] w (StrPost w ⟨#[80, 65, 83, 83]⟩) from t_lit 1 _ rfl (by decide) HT.out)
      have P := Lib.hid (parse_any HT.out ⟨#[80, 65, 83, 83]⟩)
      rw [pw1] at P
      go_wp2_with fail
      refine R.out.mono ?_
      rintro e w2 ⟨rfl, rfl⟩
      go_wp2_with fail
      refine T.out.mono ?_
      rintro e w2 ⟨rfl, rfl⟩
      go_wp2_with fail
      refine P.out.mono ?_
      rintro e w2 ⟨rfl, rfl⟩
      go_wp2
      go_round
      case rel => exact ⟨2, by omega, by omega, rfl⟩
      case measure => simp [intOf]
    · have R := Lib.hid (show Calls Tryd.prog 6 #[.int .i64 2] w (StrPost w ⟨#[70, 65, 73, 76]⟩) from rt_lit 2 _ rfl (by decide) w)
      have T := Lib.hid (show Calls Tryd.prog 5 #[.int .i64 2] w (StrPost w ⟨#[70, 65, 73, 76]⟩) from t_lit 2 _ rfl (by decide) HT.out)
      have P := Lib.hid (parse_any HT.out ⟨#[70, 65, 73, 76]⟩)
      rw [pw2] at P
      go_wp2_with fail
      refine R.out.mono ?_
      rintro e w2 ⟨rfl, rfl⟩
      go_wp2_with fail
      refine T.out.mono ?_
      rintro e w2 ⟨rfl, rfl⟩
      go_wp2_with fail
      refine P.out.mono ?_
      rintro e w2 ⟨rfl, rfl⟩
      go_wp2
      go_round
      case rel => exact ⟨3, by omega, by omega, rfl⟩
      case measure => simp [intOf]
    · have R := Lib.hid (show Calls Tryd.prog 6 #[.int .i64 3] w (StrPost w ⟨#[88, 80, 65, 83, 83]⟩) from rt_lit 3 _ rfl (by decide) w)
      have T := Lib.hid (show Calls Tryd.prog 5 #[.int .i64 3] w (StrPost w ⟨#[88, 80, 65, 83, 83]⟩) from t_lit 3 _ rfl (by decide) HT.out)
      have P := Lib.hid (parse_any HT.out ⟨#[88, 80, 65, 83, 83]⟩)
      rw [pw3] at P
      go_wp2_with fail
      refine R.out.mono ?_
      rintro e w2 ⟨rfl, rfl⟩
      go_wp2_with fail
      refine T.out.mono ?_
      rintro e w2 ⟨rfl, rfl⟩
      go_wp2_with fail
      refine P.out.mono ?_
      rintro e w2 ⟨rfl, rfl⟩
      go_wp2
      go_round
      case rel => exact ⟨4, by omega, by omega, rfl⟩
      case measure => simp [intOf]
    · have R := Lib.hid (show Calls Tryd.prog 6 #[.int .i64 4] w (StrPost w ⟨#[88, 70, 65, 73, 76]⟩) from rt_lit 4 _ rfl (by decide) w)
      have T := Lib.hid (show Calls Tryd.prog 5 #[.int .i64 4] w (StrPost w ⟨#[88, 70, 65, 73, 76]⟩) from t_lit 4 _ rfl (by decide) HT.out)
      have P := Lib.hid (parse_any HT.out ⟨#[88, 70, 65, 73, 76]⟩)
      rw [pw4] at P
      go_wp2_with fail
      refine R.out.mono ?_
      rintro e w2 ⟨rfl, rfl⟩
      go_wp2_with fail
      refine T.out.mono ?_
      rintro e w2 ⟨rfl, rfl⟩
      go_wp2_with fail
      refine P.out.mono ?_
      rintro e w2 ⟨rfl, rfl⟩
      go_wp2
      go_round
      case rel => exact ⟨5, by omega, by omega, rfl⟩
      case measure => simp [intOf]
    · have R := Lib.hid (show Calls Tryd.prog 6 #[.int .i64 5] w (StrPost w ⟨#[85, 78, 82, 69, 83, 79, 76, 86, 69, 68]⟩) from rt_lit 5 _ rfl (by decide) w)
      have T := Lib.hid (show Calls Tryd.prog 5 #[.int .i64 5] w (StrPost w ⟨#[85, 78, 82, 69, 83, 79, 76, 86, 69, 68]⟩) from t_lit 5 _ rfl (by decide) HT.out)
      have P := Lib.hid (parse_any HT.out ⟨#[85, 78, 82, 69, 83, 79, 76, 86, 69, 68]⟩)
      rw [pw5] at P
      go_wp2_with fail
      refine R.out.mono ?_
      rintro e w2 ⟨rfl, rfl⟩
      go_wp2_with fail
      refine T.out.mono ?_
      rintro e w2 ⟨rfl, rfl⟩
      go_wp2_with fail
      refine P.out.mono ?_
      rintro e w2 ⟨rfl, rfl⟩
      go_wp2
      go_round
      case rel => exact ⟨6, by omega, by omega, rfl⟩
      case measure => simp [intOf]
    · have R := Lib.hid (show Calls Tryd.prog 6 #[.int .i64 6] w (StrPost w ⟨#[85, 78, 84, 69, 83, 84, 69, 68]⟩) from rt_lit 6 _ rfl (by decide) w)
      have T := Lib.hid (show Calls Tryd.prog 5 #[.int .i64 6] w (StrPost w ⟨#[85, 78, 84, 69, 83, 84, 69, 68]⟩) from t_lit 6 _ rfl (by decide) HT.out)
      have P := Lib.hid (parse_any HT.out ⟨#[85, 78, 84, 69, 83, 84, 69, 68]⟩)
      rw [pw6] at P
      go_wp2_with fail
      refine R.out.mono ?_
      rintro e w2 ⟨rfl, rfl⟩
      go_wp2_with fail
      refine T.out.mono ?_
      rintro e w2 ⟨rfl, rfl⟩
      go_wp2_with fail
      refine P.out.mono ?_
      rintro e w2 ⟨rfl, rfl⟩
      go_wp2
      go_round
      case rel => exact ⟨7, by omega, by omega, rfl⟩
      case measure => simp [intOf]
    · have R := Lib.hid (show Calls Tryd.prog 6 #[.int .i64 7] w (StrPost w ⟨#[85, 78, 83, 85, 80, 80, 79, 82, 84, 69, 68]⟩) from rt_lit 7 _ rfl (by decide) w)
      have T := Lib.hid (show Calls Tryd.prog 5 #[.int .i64 7] w (StrPost w ⟨#[85, 78, 83, 85, 80, 80, 79, 82, 84, 69, 68]⟩) from t_lit 7 _ rfl (by decide) HT.out)
      have P := Lib.hid (parse_any HT.out ⟨#[85, 78, 83, 85, 80, 80, 79, 82, 84, 69, 68]⟩)
      rw [pw7] at P
      go_wp2_with fail
      refine R.out.mono ?_
      rintro e w2 ⟨rfl, rfl⟩
      go_wp2_with fail
      refine T.out.mono ?_
      rintro e w2 ⟨rfl, rfl⟩
      go_wp2_with fail
      refine P.out.mono ?_
      rintro e w2 ⟨rfl, rfl⟩
      go_wp2
      go_round
      case rel => exact ⟨8, by omega, by omega, rfl⟩
      case measure => simp [intOf]
    · go_wp2
      go_ret
      exact ⟨rfl, rfl⟩
set_option maxHeartbeats 4000000 in
set_option maxRecDepth 100000 in
theorem tw7 {w : World} (h : TabAt w) (v : Int) : Calls Tryd.prog 3 #[.int .i64 v, .string ⟨#[85, 78, 83, 85, 80, 80, 79, 82, 84, 69, 68]⟩] w (BoolPost w true) := by
  have HT := Lib.hid h
  have W0 := Lib.hid (words_any h)
  have C1 := Lib.hid (text_any h v)
  have C2 := Lib.hid (rtext_any v w)
  have C3 := Lib.hid (show Calls Tryd.prog 7 #[.string ⟨#[85, 78, 83, 85, 80, 80, 79, 82, 84, 69, 68]⟩] w (NumPost w 7) by have := parse_any h ⟨#[85, 78, 83, 85, 80, 80, 79, 82, 84, 69, 68]⟩; rw [pw7] at this; exact this)
  generalize wordT v = tv at C1 C2
  clear h
  go_enter Tryd.func3, Tryd.ntmps3
  go_wp2_with fail
  refine W0.out.mono ?_
  rintro e w2 ⟨rfl, rfl⟩
  go_wp2_with fail
  refine C1.out.mono ?_
  rintro e w2 ⟨rfl, rfl⟩
  go_wp2_with fail
  refine C2.out.mono ?_
  rintro e w2 ⟨rfl, rfl⟩
  go_wp2_with fail
  refine C3.out.mono ?_
  rintro e w2 ⟨rfl, rfl⟩
  go_wp2_with fail
  go_loop [6] (fun i => ∃ j : Nat, 1 ≤ j ∧ j ≤ 8 ∧ i = .int .i64 (j : Nat)) (fun i => 8 - (intOf i).toNat)
  case atStart => exact ⟨1, by omega, by omega, rfl⟩
  case round =>
    obtain ⟨j, hj1, hj, rfl⟩ := hrel
    rcases (by omega : j = 1 ∨ j = 2 ∨ j = 3 ∨ j = 4 ∨ j = 5 ∨ j = 6 ∨ j = 7 ∨ j = 8) with rfl | rfl | rfl | rfl | rfl | rfl | rfl | rfl
    · have R := Lib.hid (show Calls Tryd.prog 6 #[.int .i64 1] w (StrPost w ⟨#[80, 65, 83, 83]⟩) from rt_lit 1 _ rfl (by decide) w)
      have T := Lib.hid (show Calls Tryd.prog 5 #[.int .i64 1] w (StrPost w ⟨#[80, 65, 83, 83]⟩) from t_lit 1 _ rfl (by decide) HT.out)
      have P := Lib.hid (parse_any HT.out ⟨#[80, 65, 83, 83]⟩)
      rw [pw1] at P
      go_wp2_with fail
      refine R.out.mono ?_
      rintro e w2 ⟨rfl, rfl⟩
      go_wp2_with fail
      refine T.out.mono ?_
      rintro e w2 ⟨rfl, rfl⟩
      go_wp2_with fail
      refine P.out.mono ?_
      rintro e w2 ⟨rfl, rfl⟩
      go_wp2
      go_round
      case rel => exact ⟨2, by omega, by omega, rfl⟩
      case measure => simp [intOf]
    · have R := Lib.hid (show Calls Tryd.prog 6 #[.int .i64 2] w (StrPost w ⟨#[70, 65, 73, 76]⟩) from rt_lit 2 _ rfl (by decide) w)
      have T := Lib.hid (show Calls Tryd.prog 5 #[.int .i64 2] w (StrPost w ⟨#[70, 65, 73, 76]⟩) from t_lit 2 _ rfl (by decide) HT.out)
      have P := Lib.hid (parse_any HT.out ⟨#[70, 65, 73, 76]⟩)
      rw [pw2] at P
      go_wp2_with fail
      refine R.out.mono ?_
      rintro e w2 ⟨rfl, rfl⟩
      go_wp2_with fail
      refine T.out.mono ?_
      rintro e w2 ⟨rfl, rfl⟩
      go_wp2_with fail
      refine P.out.mono ?_
      rintro e w2 ⟨rfl, rfl⟩
      go_wp2
      go_round
      case rel => exact ⟨3, by omega, by omega, rfl⟩
      case measure => simp [intOf]
    · have R := Lib.hid (show Calls Tryd.prog 6 #[.int .i64 3] w (StrPost w ⟨#[88, 80, 65, 83, 83]⟩) from rt_lit 3 _ rfl (by decide) w)
      have T := Lib.hid (show Calls Tryd.prog 5 #[.int .i64 3] w (StrPost w ⟨#[88, 80, 65, 83, 83]⟩) from t_lit 3 _ rfl (by decide) HT.out)
      have P := Lib.hid (parse_any HT.out ⟨#[88, 80, 65, 83, 83]⟩)
      rw [pw3] at P
      go_wp2_with fail
      refine R.out.mono ?_
      rintro e w2 ⟨rfl, rfl⟩
      go_wp2_with fail
      refine T.out.mono ?_
      rintro e w2 ⟨rfl, rfl⟩
      go_wp2_with fail
      refine P.out.mono ?_
      rintro e w2 ⟨rfl, rfl⟩
      go_wp2
      go_round
      case rel => exact ⟨4, by omega, by omega, rfl⟩
      case measure => simp [intOf]
    · have R := Lib.hid (show Calls Tryd.prog 6 #[.int .i64 4] w (StrPost w ⟨#[88, 70, 65, 73, 76]⟩) from rt_lit 4 _ rfl (by decide) w)
      have T := Lib.hid (show Calls Tryd.prog 5 #[.int .i64 4] w (StrPost w ⟨#[88, 70, 65, 73, 76]⟩) from t_lit 4 _ rfl (by decide) HT.out)
      have P := Lib.hid (parse_any HT.out ⟨#[88, 70, 65, 73, 76]⟩)
      rw [pw4] at P
      go_wp2_with fail
      refine R.out.mono ?_
      rintro e w2 ⟨rfl, rfl⟩
      go_wp2_with fail
      refine T.out.mono ?_
      rintro e w2 ⟨rfl, rfl⟩
      go_wp2_with fail
      refine P.out.mono ?_
      rintro e w2 ⟨rfl, rfl⟩
      go_wp2
      go_round
      case rel => exact ⟨5, by omega, by omega, rfl⟩
      case measure => simp [intOf]
    · have R := Lib.hid (show Calls Tryd.prog 6 #[.int .i64 5] w (StrPost w ⟨#[85, 78, 82, 69, 83, 79, 76, 86, 69, 68]⟩) from rt_lit 5 _ rfl (by decide) w)
      have T := Lib.hid (show Calls Tryd.prog 5 #[.int .i64 5] w (StrPost w ⟨#[85, 78, 82, 69, 83, 79, 76, 86, 69, 68]⟩) from t_lit 5 _ rfl (by decide) HT.out)
      have P := Lib.hid (parse_any HT.out ⟨#[85, 78, 82, 69, 83, 79, 76, 86, 69, 68]⟩)
      rw [pw5] at P
      go_wp2_with fail
      refine R.out.mono ?_
      rintro e w2 ⟨rfl, rfl⟩
      go_wp2_with fail
      refine T.out.mono ?_
      rintro e w2 ⟨rfl, rfl⟩
      go_wp2_with fail
      refine P.out.mono ?_
      rintro e w2 ⟨rfl, rfl⟩
      go_wp2
      go_round
      case rel => exact ⟨6, by omega, by omega, rfl⟩
      case measure => simp [intOf]
    · have R := Lib.hid (show Calls Tryd.prog 6 #[.int .i64 6] w (StrPost w ⟨#[85, 78, 84, 69, 83, 84, 69, 68]⟩) from rt_lit 6 _ rfl (by decide) w)
      have T := Lib.hid (show Calls Tryd.prog 5 #[.int .i64 6] w (StrPost w ⟨#[85, 78, 84, 69, 83, 84, 69, 68]⟩) from t_lit 6 _ rfl (by decide) HT.out)
      have P := Lib.hid (parse_any HT.out ⟨#[85, 78, 84, 69, 83, 84, 69, 68]⟩)
      rw [pw6] at P
      go_wp2_with fail
      refine R.out.mono ?_
      rintro e w2 ⟨rfl, rfl⟩
      go_wp2_with fail
      refine T.out.mono ?_
      rintro e w2 ⟨rfl, rfl⟩
      go_wp2_with fail
      refine P.out.mono ?_
      rintro e w2 ⟨rfl, rfl⟩
      go_wp2
      go_round
      case rel => exact ⟨7, by omega, by omega, rfl⟩
      case measure => simp [intOf]
    · have R := Lib.hid (show Calls Tryd.prog 6 #[.int .i64 7] w (StrPost w ⟨#[85, 78, 83, 85, 80, 80, 79, 82, 84, 69, 68]⟩) from rt_lit 7 _ rfl (by decide) w)
      have T := Lib.hid (show Calls Tryd.prog 5 #[.int .i64 7] w (StrPost w ⟨#[85, 78, 83, 85, 80, 80, 79, 82, 84, 69, 68]⟩) from t_lit 7 _ rfl (by decide) HT.out)
      have P := Lib.hid (parse_any HT.out ⟨#[85, 78, 83, 85, 80, 80, 79, 82, 84, 69, 68]⟩)
      rw [pw7] at P
      go_wp2_with fail
      refine R.out.mono ?_
      rintro e w2 ⟨rfl, rfl⟩
      go_wp2_with fail
      refine T.out.mono ?_
      rintro e w2 ⟨rfl, rfl⟩
      go_wp2_with fail
      refine P.out.mono ?_
      rintro e w2 ⟨rfl, rfl⟩
      go_wp2
      go_round
      case rel => exact ⟨8, by omega, by omega, rfl⟩
      case measure => simp [intOf]
    · go_wp2
      go_ret
      exact ⟨rfl, rfl⟩
set_option maxHeartbeats 4000000 in
set_option maxRecDepth 100000 in
theorem tw0 {w : World} (h : TabAt w) (v : Int) (s : ByteArray) (h0 : parseL s wordsL 0 = 0) (hs : ∀ k x, 0 < k → wordsL[k]? = some x → (x.toList == s.toList) = false) : Calls Tryd.prog 3 #[.int .i64 v, .string s] w (BoolPost w true) := by
  have HT := Lib.hid h
  have W0 := Lib.hid (words_any h)
  have C1 := Lib.hid (text_any h v)
  have C2 := Lib.hid (rtext_any v w)
  have C3 := Lib.hid (show Calls Tryd.prog 7 #[.string s] w (NumPost w 0) by have := parse_any h s; rw [h0] at this; exact this)
  generalize wordT v = tv at C1 C2
  clear h
  have e1 : ([80, 65, 83, 83] == s.toList) = false := by have := hs 1 _ (by decide) rfl; simpa using this
  have e2 : ([70, 65, 73, 76] == s.toList) = false := by have := hs 2 _ (by decide) rfl; simpa using this
  have e3 : ([88, 80, 65, 83, 83] == s.toList) = false := by have := hs 3 _ (by decide) rfl; simpa using this
  have e4 : ([88, 70, 65, 73, 76] == s.toList) = false := by have := hs 4 _ (by decide) rfl; simpa using this
  have e5 : ([85, 78, 82, 69, 83, 79, 76, 86, 69, 68] == s.toList) = false := by have := hs 5 _ (by decide) rfl; simpa using this
  have e6 : ([85, 78, 84, 69, 83, 84, 69, 68] == s.toList) = false := by have := hs 6 _ (by decide) rfl; simpa using this
  have e7 : ([85, 78, 83, 85, 80, 80, 79, 82, 84, 69, 68] == s.toList) = false := by have := hs 7 _ (by decide) rfl; simpa using this
  clear h0 hs
  go_enter Tryd.func3, Tryd.ntmps3
  go_wp2_with fail
  refine W0.out.mono ?_
  rintro e w2 ⟨rfl, rfl⟩
  go_wp2_with fail
  refine C1.out.mono ?_
  rintro e w2 ⟨rfl, rfl⟩
  go_wp2_with fail
  refine C2.out.mono ?_
  rintro e w2 ⟨rfl, rfl⟩
  go_wp2_with fail
  refine C3.out.mono ?_
  rintro e w2 ⟨rfl, rfl⟩
  go_wp2_with fail
  go_loop [6] (fun i => ∃ j : Nat, 1 ≤ j ∧ j ≤ 8 ∧ i = .int .i64 (j : Nat)) (fun i => 8 - (intOf i).toNat)
  case atStart => exact ⟨1, by omega, by omega, rfl⟩
  case round =>
    obtain ⟨j, hj1, hj, rfl⟩ := hrel
    rcases (by omega : j = 1 ∨ j = 2 ∨ j = 3 ∨ j = 4 ∨ j = 5 ∨ j = 6 ∨ j = 7 ∨ j = 8) with rfl | rfl | rfl | rfl | rfl | rfl | rfl | rfl
    · have R := Lib.hid (show Calls Tryd.prog 6 #[.int .i64 1] w (StrPost w ⟨#[80, 65, 83, 83]⟩) from rt_lit 1 _ rfl (by decide) w)
      have T := Lib.hid (show Calls Tryd.prog 5 #[.int .i64 1] w (StrPost w ⟨#[80, 65, 83, 83]⟩) from t_lit 1 _ rfl (by decide) HT.out)
      have P := Lib.hid (parse_any HT.out ⟨#[80, 65, 83, 83]⟩)
      rw [pw1] at P
      go_wp2_with fail
      refine R.out.mono ?_
      rintro e w2 ⟨rfl, rfl⟩
      go_wp2_with fail
      refine T.out.mono ?_
      rintro e w2 ⟨rfl, rfl⟩
      go_wp2_with fail
      refine P.out.mono ?_
      rintro e w2 ⟨rfl, rfl⟩
      go_wp2
      go_round
      case rel => exact ⟨2, by omega, by omega, rfl⟩
      case measure => simp [intOf]
    · have R := Lib.hid (show Calls Tryd.prog 6 #[.int .i64 2] w (StrPost w ⟨#[70, 65, 73, 76]⟩) from rt_lit 2 _ rfl (by decide) w)
      have T := Lib.hid (show Calls Tryd.prog 5 #[.int .i64 2] w (StrPost w ⟨#[70, 65, 73, 76]⟩) from t_lit 2 _ rfl (by decide) HT.out)
      have P := Lib.hid (parse_any HT.out ⟨#[70, 65, 73, 76]⟩)
      rw [pw2] at P
      go_wp2_with fail
      refine R.out.mono ?_
      rintro e w2 ⟨rfl, rfl⟩
      go_wp2_with fail
      refine T.out.mono ?_
      rintro e w2 ⟨rfl, rfl⟩
      go_wp2_with fail
      refine P.out.mono ?_
      rintro e w2 ⟨rfl, rfl⟩
      go_wp2
      go_round
      case rel => exact ⟨3, by omega, by omega, rfl⟩
      case measure => simp [intOf]
    · have R := Lib.hid (show Calls Tryd.prog 6 #[.int .i64 3] w (StrPost w ⟨#[88, 80, 65, 83, 83]⟩) from rt_lit 3 _ rfl (by decide) w)
      have T := Lib.hid (show Calls Tryd.prog 5 #[.int .i64 3] w (StrPost w ⟨#[88, 80, 65, 83, 83]⟩) from t_lit 3 _ rfl (by decide) HT.out)
      have P := Lib.hid (parse_any HT.out ⟨#[88, 80, 65, 83, 83]⟩)
      rw [pw3] at P
      go_wp2_with fail
      refine R.out.mono ?_
      rintro e w2 ⟨rfl, rfl⟩
      go_wp2_with fail
      refine T.out.mono ?_
      rintro e w2 ⟨rfl, rfl⟩
      go_wp2_with fail
      refine P.out.mono ?_
      rintro e w2 ⟨rfl, rfl⟩
      go_wp2
      go_round
      case rel => exact ⟨4, by omega, by omega, rfl⟩
      case measure => simp [intOf]
    · have R := Lib.hid (show Calls Tryd.prog 6 #[.int .i64 4] w (StrPost w ⟨#[88, 70, 65, 73, 76]⟩) from rt_lit 4 _ rfl (by decide) w)
      have T := Lib.hid (show Calls Tryd.prog 5 #[.int .i64 4] w (StrPost w ⟨#[88, 70, 65, 73, 76]⟩) from t_lit 4 _ rfl (by decide) HT.out)
      have P := Lib.hid (parse_any HT.out ⟨#[88, 70, 65, 73, 76]⟩)
      rw [pw4] at P
      go_wp2_with fail
      refine R.out.mono ?_
      rintro e w2 ⟨rfl, rfl⟩
      go_wp2_with fail
      refine T.out.mono ?_
      rintro e w2 ⟨rfl, rfl⟩
      go_wp2_with fail
      refine P.out.mono ?_
      rintro e w2 ⟨rfl, rfl⟩
      go_wp2
      go_round
      case rel => exact ⟨5, by omega, by omega, rfl⟩
      case measure => simp [intOf]
    · have R := Lib.hid (show Calls Tryd.prog 6 #[.int .i64 5] w (StrPost w ⟨#[85, 78, 82, 69, 83, 79, 76, 86, 69, 68]⟩) from rt_lit 5 _ rfl (by decide) w)
      have T := Lib.hid (show Calls Tryd.prog 5 #[.int .i64 5] w (StrPost w ⟨#[85, 78, 82, 69, 83, 79, 76, 86, 69, 68]⟩) from t_lit 5 _ rfl (by decide) HT.out)
      have P := Lib.hid (parse_any HT.out ⟨#[85, 78, 82, 69, 83, 79, 76, 86, 69, 68]⟩)
      rw [pw5] at P
      go_wp2_with fail
      refine R.out.mono ?_
      rintro e w2 ⟨rfl, rfl⟩
      go_wp2_with fail
      refine T.out.mono ?_
      rintro e w2 ⟨rfl, rfl⟩
      go_wp2_with fail
      refine P.out.mono ?_
      rintro e w2 ⟨rfl, rfl⟩
      go_wp2
      go_round
      case rel => exact ⟨6, by omega, by omega, rfl⟩
      case measure => simp [intOf]
    · have R := Lib.hid (show Calls Tryd.prog 6 #[.int .i64 6] w (StrPost w ⟨#[85, 78, 84, 69, 83, 84, 69, 68]⟩) from rt_lit 6 _ rfl (by decide) w)
      have T := Lib.hid (show Calls Tryd.prog 5 #[.int .i64 6] w (StrPost w ⟨#[85, 78, 84, 69, 83, 84, 69, 68]⟩) from t_lit 6 _ rfl (by decide) HT.out)
      have P := Lib.hid (parse_any HT.out ⟨#[85, 78, 84, 69, 83, 84, 69, 68]⟩)
      rw [pw6] at P
      go_wp2_with fail
      refine R.out.mono ?_
      rintro e w2 ⟨rfl, rfl⟩
      go_wp2_with fail
      refine T.out.mono ?_
      rintro e w2 ⟨rfl, rfl⟩
      go_wp2_with fail
      refine P.out.mono ?_
      rintro e w2 ⟨rfl, rfl⟩
      go_wp2
      go_round
      case rel => exact ⟨7, by omega, by omega, rfl⟩
      case measure => simp [intOf]
    · have R := Lib.hid (show Calls Tryd.prog 6 #[.int .i64 7] w (StrPost w ⟨#[85, 78, 83, 85, 80, 80, 79, 82, 84, 69, 68]⟩) from rt_lit 7 _ rfl (by decide) w)
      have T := Lib.hid (show Calls Tryd.prog 5 #[.int .i64 7] w (StrPost w ⟨#[85, 78, 83, 85, 80, 80, 79, 82, 84, 69, 68]⟩) from t_lit 7 _ rfl (by decide) HT.out)
      have P := Lib.hid (parse_any HT.out ⟨#[85, 78, 83, 85, 80, 80, 79, 82, 84, 69, 68]⟩)
      rw [pw7] at P
      go_wp2_with fail
      refine R.out.mono ?_
      rintro e w2 ⟨rfl, rfl⟩
      go_wp2_with fail
      refine T.out.mono ?_
      rintro e w2 ⟨rfl, rfl⟩
      go_wp2_with fail
      refine P.out.mono ?_
      rintro e w2 ⟨rfl, rfl⟩
      go_wp2
      go_round
      case rel => exact ⟨8, by omega, by omega, rfl⟩
      case measure => simp [intOf]
    · go_wp2
      go_ret
      exact ⟨rfl, rfl⟩
theorem traceWords_walk {w : World} (h : TabAt w) (v : Int) (s : ByteArray) : Calls Tryd.prog 3 #[.int .i64 v, .string s] w (BoolPost w true) := by
  rcases word_or s with ⟨k, h8, h0, hk⟩ | ⟨h0, hs⟩
  · rcases (by omega : k = 1 ∨ k = 2 ∨ k = 3 ∨ k = 4 ∨ k = 5 ∨ k = 6 ∨ k = 7) with rfl | rfl | rfl | rfl | rfl | rfl | rfl
    · obtain rfl : _ = s := Option.some.inj hk
      exact tw1 h v
    · obtain rfl : _ = s := Option.some.inj hk
      exact tw2 h v
    · obtain rfl : _ = s := Option.some.inj hk
      exact tw3 h v
    · obtain rfl : _ = s := Option.some.inj hk
      exact tw4 h v
    · obtain rfl : _ = s := Option.some.inj hk
      exact tw5 h v
    · obtain rfl : _ = s := Option.some.inj hk
      exact tw6 h v
    · obtain rfl : _ = s := Option.some.inj hk
      exact tw7 h v
  · exact tw0 h v s h0 hs
end Go.Proofs.YtmhfdpgkdpbbiaaDoor
