/- Words: of the program and of the reference. -/
import Derived.Test.YtfgblmdmhgllgaaCb
namespace Go.Proofs.Ytfgblmdmhgllgaa
open Go.RowKit

set_option maxHeartbeats 400000 in
theorem aLetter_any (c : Int) (w : World) : Calls Try.prog 143 #[.int .u8 c] w fun e w' => e = .returned (.bool (letB c)) ∧ w = w' := by
  go_enter Try.func143, Try.ntmps143
  go_wp2
  all_goals go_ret
  all_goals (refine ⟨ret_bool ?_, rfl⟩; rw [Bool.eq_iff_iff]; simp [letB]; try omega)
set_option maxHeartbeats 400000 in
theorem r2Letter_any (c : Int) (w : World) : Calls Try.prog 117 #[.int .u8 c] w fun e w' => e = .returned (.bool (letB c)) ∧ w = w' := by
  go_enter Try.func117, Try.ntmps117
  go_wp2
  all_goals go_ret
  all_goals (refine ⟨ret_bool ?_, rfl⟩; rw [Bool.eq_iff_iff]; simp [letB]; try omega)
set_option maxHeartbeats 400000 in
theorem aDigit_any (c : Int) (w : World) : Calls Try.prog 160 #[.int .u8 c] w fun e w' => e = .returned (.bool (digB c)) ∧ w = w' := by
  go_enter Try.func160, Try.ntmps160
  go_wp2
  all_goals go_ret
  all_goals (refine ⟨ret_bool ?_, rfl⟩; rw [Bool.eq_iff_iff]; simp [digB]; try omega)
set_option maxHeartbeats 400000 in
theorem r2Digit_any (c : Int) (w : World) : Calls Try.prog 118 #[.int .u8 c] w fun e w' => e = .returned (.bool (digB c)) ∧ w = w' := by
  go_enter Try.func118, Try.ntmps118
  go_wp2
  all_goals go_ret
  all_goals (refine ⟨ret_bool ?_, rfl⟩; rw [Bool.eq_iff_iff]; simp [digB]; try omega)
theorem okB_45 {c : Int} (h : (c != 45) = false) : okB c = true := by simp at h; simp [okB, h]
theorem okB_95 {c : Int} (h : (c != 95) = false) : okB c = true := by simp at h; simp [okB, h]
theorem okB_not {c : Int} (h1 : letB c = false) (h2 : digB c = false) (h3 : (c != 45) = true) (h4 : (c != 95) = true) : okB c = false := by
  simp at h3 h4; simp [okB, h1, h2, h3, h4]
set_option maxHeartbeats 400000 in
theorem aInWord_any (c : Int) (w : World) : Calls Try.prog 144 #[.int .u8 c] w fun e w' => e = .returned (.bool (okB c)) ∧ w = w' := by
  cases hl : letB c
  · cases hd : digB c
    · go_enter Try.func144, Try.ntmps144
      go_wp2_with (first
        | (go_at_call 143; refine (aLetter_any _ _).mono ?_; rintro e w' ⟨rfl, rfl⟩)
        | (go_at_call 160; refine (aDigit_any _ _).mono ?_; rintro e w' ⟨rfl, rfl⟩))
      all_goals go_ret
      all_goals (refine ⟨ret_bool ?_, rfl⟩; simp_all [okB])
    · have H := Lib.hid (okB_dig hd)
      go_enter Try.func144, Try.ntmps144
      go_wp2_with (first
        | (go_at_call 143; refine (aLetter_any _ _).mono ?_; rintro e w' ⟨rfl, rfl⟩)
        | (go_at_call 160; refine (aDigit_any _ _).mono ?_; rintro e w' ⟨rfl, rfl⟩))
      go_ret
      exact ⟨ret_bool H.out.symm, rfl⟩
  · have H := Lib.hid (okB_let hl)
    go_enter Try.func144, Try.ntmps144
    go_wp2_with (first
      | (go_at_call 143; refine (aLetter_any _ _).mono ?_; rintro e w' ⟨rfl, rfl⟩))
    go_ret
    exact ⟨ret_bool H.out.symm, rfl⟩
set_option maxHeartbeats 1000000 in
theorem nWord_loop (s : ByteArray) (w : World) (h1 : 1 ≤ s.size) (h2 : s.size ≤ 40) (h3 : letB (bt s 0) = true) :
    Calls Try.prog 132 #[.string s] w fun e w' => e = .returned (.bool (wordB s)) ∧ w = w' := by
  have hb0 := bt_eq s 0 h1
  go_enter Try.func132, Try.ntmps132
  go_wp2_with (first
    | (go_at_call 143; refine (aLetter_any _ _).mono ?_; rintro e w' ⟨rfl, rfl⟩))
  clear hb0
  have H3 := Lib.hid h3
  clear h3
  go_loop [20] (fun i => ∃ k : Nat, k ≤ s.size ∧ i = .int .i64 k ∧ ∀ j, j < k → okB (bt s j) = true) (fun i => s.size - (intOf i).toNat)
  case atStart => exact ⟨0, Nat.zero_le _, rfl, fun j hj => by omega⟩
  case round =>
    obtain ⟨k, hk, rfl, hall⟩ := hrel
    have HA := Lib.hid hall
    clear hall
    by_cases hlt : k < s.size
    · have hbk := bt_eq s k hlt
      cases hl : okB (bt s k)
      · go_wp2_with (first
          | (go_at_call 144; refine (aInWord_any _ _).mono ?_; rintro e w' ⟨rfl, rfl⟩))
        go_ret
        exact ⟨ret_bool (wordB_not hlt hl).symm, rfl⟩
      · have HL := Lib.hid hl
        go_wp2_with (first
          | (go_at_call 144; refine (aInWord_any _ _).mono ?_; rintro e w' ⟨rfl, rfl⟩))
        go_round
        case rel => exact ⟨k + 1, by omega, by go_num, all_snoc HA.out HL.out⟩
        case measure => simp [intOf]; omega
    · go_wp2
      go_ret
      obtain rfl : k = s.size := by omega
      exact ⟨ret_bool (wordB_yes h1 h2 H3.out HA.out).symm, rfl⟩
set_option maxHeartbeats 400000 in
theorem nWord_any (s : ByteArray) (w : World) (hs : s.size ≤ maxLen) :
    Calls Try.prog 132 #[.string s] w fun e w' => e = .returned (.bool (wordB s)) ∧ w = w' := by
  unfold maxLen at hs
  by_cases h1 : 1 ≤ s.size
  · by_cases h2 : s.size ≤ 40
    · cases h3 : letB (bt s 0)
      · have hb0 := bt_eq s 0 h1
        have H3 := Lib.hid (wordB_not0 h3)
        go_enter Try.func132, Try.ntmps132
        go_wp2_with (first
          | (go_at_call 143; refine (aLetter_any _ _).mono ?_; rintro e w' ⟨rfl, rfl⟩))
        go_ret
        exact ⟨ret_bool H3.out.symm, rfl⟩
      · exact nWord_loop s w h1 h2 h3
    · have H3 := Lib.hid (wordB_big (s := s) (by omega))
      go_enter Try.func132, Try.ntmps132
      go_wp2_with fail
      go_ret
      exact ⟨ret_bool H3.out.symm, rfl⟩
  · have H3 := Lib.hid (wordB_small (s := s) (by omega))
    go_enter Try.func132, Try.ntmps132
    go_wp2_with fail
    go_ret
    exact ⟨ret_bool H3.out.symm, rfl⟩
set_option maxHeartbeats 1000000 in
theorem r2Word_any (s : ByteArray) (w : World) (hs : s.size ≤ maxLen) :
    Calls Try.prog 88 #[.string s] w fun e w' => e = .returned (.bool (wordB s)) ∧ w = w' := by
  unfold maxLen at hs
  go_enter Try.func88, Try.ntmps88
  go_wp2
  go_loop [3] (fun i => ∃ k : Nat, k ≤ s.size ∧ i = .int .i64 k ∧ (∀ j, j < k → okB (bt s j) = true) ∧ (0 < k → letB (bt s 0) = true)) (fun i => s.size - (intOf i).toNat)
  case atStart => exact ⟨0, Nat.zero_le _, rfl, fun j hj => by omega, fun h => by omega⟩
  case round =>
    obtain ⟨k, hk, rfl, hall, hfst⟩ := hrel
    have HA := Lib.hid hall
    have HF := Lib.hid hfst
    clear hall hfst
    by_cases hlt : k < s.size
    · have hbk := bt_eq s k hlt
      cases hl : letB (bt s k)
      · by_cases hk0 : k = 0
        · subst hk0
          go_wp2_with (first
            | (go_at_call 117; refine (r2Letter_any _ _).mono ?_; rintro e w' ⟨rfl, rfl⟩)
            | (go_at_call 118; refine (r2Digit_any _ _).mono ?_; rintro e w' ⟨rfl, rfl⟩))
          go_ret
          exact ⟨ret_bool (wordB_not0 hl).symm, rfl⟩
        · have hk1 : 0 < k := by omega
          have hkb : ((k : Int) == 0) = false := by simp; omega
          clear hk0
          cases hd : digB (bt s k)
          · cases h45 : (bt s k != 45)
            · go_wp2_with (first
                | (go_at_call 117; refine (r2Letter_any _ _).mono ?_; rintro e w' ⟨rfl, rfl⟩)
                | (go_at_call 118; refine (r2Digit_any _ _).mono ?_; rintro e w' ⟨rfl, rfl⟩))
              go_round
              case rel => exact ⟨k + 1, by omega, by go_num, all_snoc HA.out (okB_45 h45), fun _ => HF.out hk1⟩
              case measure => simp [intOf]; omega
            · cases h95 : (bt s k != 95)
              · go_wp2_with (first
                  | (go_at_call 117; refine (r2Letter_any _ _).mono ?_; rintro e w' ⟨rfl, rfl⟩)
                  | (go_at_call 118; refine (r2Digit_any _ _).mono ?_; rintro e w' ⟨rfl, rfl⟩))
                go_round
                case rel => exact ⟨k + 1, by omega, by go_num, all_snoc HA.out (okB_95 h95), fun _ => HF.out hk1⟩
                case measure => simp [intOf]; omega
              · go_wp2_with (first
                  | (go_at_call 117; refine (r2Letter_any _ _).mono ?_; rintro e w' ⟨rfl, rfl⟩)
                  | (go_at_call 118; refine (r2Digit_any _ _).mono ?_; rintro e w' ⟨rfl, rfl⟩))
                go_ret
                exact ⟨ret_bool (wordB_not hlt (okB_not hl hd h45 h95)).symm, rfl⟩
          · go_wp2_with (first
              | (go_at_call 117; refine (r2Letter_any _ _).mono ?_; rintro e w' ⟨rfl, rfl⟩)
              | (go_at_call 118; refine (r2Digit_any _ _).mono ?_; rintro e w' ⟨rfl, rfl⟩))
            go_round
            case rel => exact ⟨k + 1, by omega, by go_num, all_snoc HA.out (okB_dig hd), fun _ => HF.out hk1⟩
            case measure => simp [intOf]; omega
      · have HL := Lib.hid hl
        go_wp2_with (first
          | (go_at_call 117; refine (r2Letter_any _ _).mono ?_; rintro e w' ⟨rfl, rfl⟩)
          | (go_at_call 118; refine (r2Digit_any _ _).mono ?_; rintro e w' ⟨rfl, rfl⟩))
        go_round
        case rel =>
          refine ⟨k + 1, by omega, by go_num, all_snoc HA.out (okB_let HL.out), fun _ => ?_⟩
          rcases Nat.eq_zero_or_pos k with h0 | h0
          · subst h0; exact HL.out
          · exact HF.out h0
        case measure => simp [intOf]; omega
    · obtain rfl : k = s.size := by omega
      by_cases h1 : 1 ≤ s.size
      · by_cases h2 : s.size ≤ 40
        · have HW := Lib.hid (wordB_yes h1 h2 (HF.out h1) HA.out)
          go_wp2
          go_ret
          exact ⟨ret_bool (by rw [HW.out]; simp; omega), rfl⟩
        · have HW := Lib.hid (wordB_big (s := s) (by omega))
          go_wp2
          go_ret
          exact ⟨ret_bool (by rw [HW.out]; simp; omega), rfl⟩
      · have HW := Lib.hid (wordB_small (s := s) (by omega))
        go_wp2
        go_ret
        exact ⟨ret_bool HW.out.symm, rfl⟩

end Go.Proofs.Ytfgblmdmhgllgaa
