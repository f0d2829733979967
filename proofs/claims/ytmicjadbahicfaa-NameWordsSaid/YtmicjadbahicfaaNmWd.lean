/- Word, of the program and of the reference: both answer wordB. -/
import Derived.Test.YtmicjadbahicfaaNmLf
import Derived.Lib.Hide
namespace Go.Proofs.Ytmicjadbahicfaa
open Go.RowKit

theorem okB_let {c : Int} (h : letB c = true) : okB c = true := by simp [okB, h]
theorem okB_dig {c : Int} (h : digB c = true) : okB c = true := by simp [okB, h]
theorem okB_45 {c : Int} (h : (c != 45) = false) : okB c = true := by simp at h; simp [okB, h]
theorem okB_95 {c : Int} (h : (c != 95) = false) : okB c = true := by simp at h; simp [okB, h]
theorem okB_not {c : Int} (h1 : letB c = false) (h2 : digB c = false) (h3 : (c != 45) = true) (h4 : (c != 95) = true) : okB c = false := by
  simp at h3 h4; simp [okB, h1, h2, h3, h4]
theorem all_snoc {P : Nat → Prop} {k : Nat} (h : ∀ j, j < k → P j) (hk : P k) : ∀ j, j < k + 1 → P j := by
  intro j hj
  rcases Nat.lt_or_ge j k with h' | h'
  · exact h j h'
  · obtain rfl : j = k := by omega
    exact hk

theorem inword (c : Int) (w : World) : Calls Try.prog 26 #[.int .u8 c] w fun e w' => e = .returned (.bool (okB c)) ∧ w = w' := by
  cases hl : letB c
  · cases hd : digB c
    · cases h45 : (c != 45)
      · have h45' : (c == 45) = true := by simpa using h45
        have HO := Lib.hid (okB_45 h45)
        go_enter Try.func26, Try.ntmps26
        go_wp2_with (first
          | (go_at_call 25; refine (let38 _ _).mono ?_; rintro e w' ⟨rfl, rfl⟩)
          | (go_at_call 31; refine (dig39 _ _).mono ?_; rintro e w' ⟨rfl, rfl⟩))
        go_ret
        exact ⟨ret_bool HO.out.symm, rfl⟩
      · have h45' : (c == 45) = false := by simpa using h45
        cases h95 : (c != 95)
        · have h95' : (c == 95) = true := by simpa using h95
          have HO := Lib.hid (okB_95 h95)
          go_enter Try.func26, Try.ntmps26
          go_wp2_with (first
            | (go_at_call 25; refine (let38 _ _).mono ?_; rintro e w' ⟨rfl, rfl⟩)
            | (go_at_call 31; refine (dig39 _ _).mono ?_; rintro e w' ⟨rfl, rfl⟩))
          go_ret
          exact ⟨ret_bool HO.out.symm, rfl⟩
        · have h95' : (c == 95) = false := by simpa using h95
          have HO := Lib.hid (okB_not hl hd h45 h95)
          go_enter Try.func26, Try.ntmps26
          go_wp2_with (first
            | (go_at_call 25; refine (let38 _ _).mono ?_; rintro e w' ⟨rfl, rfl⟩)
            | (go_at_call 31; refine (dig39 _ _).mono ?_; rintro e w' ⟨rfl, rfl⟩))
          go_ret
          exact ⟨ret_bool HO.out.symm, rfl⟩
    · have HO := Lib.hid (okB_dig hd)
      go_enter Try.func26, Try.ntmps26
      go_wp2_with (first
        | (go_at_call 25; refine (let38 _ _).mono ?_; rintro e w' ⟨rfl, rfl⟩)
        | (go_at_call 31; refine (dig39 _ _).mono ?_; rintro e w' ⟨rfl, rfl⟩))
      go_ret
      exact ⟨ret_bool HO.out.symm, rfl⟩
  · have HO := Lib.hid (okB_let hl)
    go_enter Try.func26, Try.ntmps26
    go_wp2_with (go_at_call 25; refine (let38 _ _).mono ?_; rintro e w' ⟨rfl, rfl⟩)
    go_ret
    exact ⟨ret_bool HO.out.symm, rfl⟩

set_option maxHeartbeats 1000000 in
theorem word23_loop (s : ByteArray) (w : World) (h1 : 1 ≤ s.size) (h2 : s.size ≤ 40) (h3 : letB (bt s 0) = true) :
    Calls Try.prog 15 #[.string s] w fun e w' => e = .returned (.bool (wordB s)) ∧ w = w' := by
  have hb0 := bt_eq s 0 h1
  go_enter Try.func15, Try.ntmps15
  go_wp2_with (first
    | (go_at_call 25; refine (let38 _ _).mono ?_; rintro e w' ⟨rfl, rfl⟩))
  clear hb0
  have H3 := Lib.hid h3
  clear h3
  go_loop [20] (fun i => ∃ k : Nat, k ≤ s.size ∧ i = .int .i64 k ∧ ∀ j, j < k → okB (bt s j) = true) (fun i => s.size - (intOf i).toNat)
  case atStart => exact ⟨0, Nat.zero_le _, rfl, fun j hj => by omega⟩
  case round =>
    obtain ⟨k, hk, rfl, hall⟩ := hrel
    have HA := Lib.hid hall
    clear hall
    by_cases hlt : k < s.size
    · have hbk := bt_eq s k hlt
      cases hok : okB (bt s k)
      · have HOK := Lib.hid hok
        go_wp2_with (go_at_call 26; refine (inword _ _).mono ?_; rintro e w' ⟨rfl, rfl⟩)
        go_ret
        exact ⟨ret_bool (wordB_not hlt HOK.out).symm, rfl⟩
      · have HOK := Lib.hid hok
        go_wp2_with (go_at_call 26; refine (inword _ _).mono ?_; rintro e w' ⟨rfl, rfl⟩)
        go_round
        case rel => exact ⟨k + 1, by omega, by go_num, all_snoc HA.out HOK.out⟩
        case measure => simp [intOf]; omega
    · go_wp2
      go_ret
      obtain rfl : k = s.size := by omega
      exact ⟨ret_bool (wordB_yes h1 h2 H3.out HA.out).symm, rfl⟩

set_option maxHeartbeats 400000 in
theorem word23 (s : ByteArray) (w : World) (hs : s.size ≤ maxLen) :
    Calls Try.prog 15 #[.string s] w fun e w' => e = .returned (.bool (wordB s)) ∧ w = w' := by
  unfold maxLen at hs
  by_cases h1 : 1 ≤ s.size
  · by_cases h2 : s.size ≤ 40
    · cases h3 : letB (bt s 0)
      · have hb0 := bt_eq s 0 h1
        have H3 := Lib.hid (wordB_not0 h3)
        go_enter Try.func15, Try.ntmps15
        go_wp2_with (first
          | (go_at_call 25; refine (let38 _ _).mono ?_; rintro e w' ⟨rfl, rfl⟩))
        go_ret
        exact ⟨ret_bool H3.out.symm, rfl⟩
      · exact word23_loop s w h1 h2 h3
    · have H3 := Lib.hid (wordB_big (s := s) (by omega))
      go_enter Try.func15, Try.ntmps15
      go_wp2_with fail
      go_ret
      exact ⟨ret_bool H3.out.symm, rfl⟩
  · have H3 := Lib.hid (wordB_small (s := s) (by omega))
    go_enter Try.func15, Try.ntmps15
    go_wp2_with fail
    go_ret
    exact ⟨ret_bool H3.out.symm, rfl⟩

end Go.Proofs.Ytmicjadbahicfaa
