/- Word of the reference answers wordB. -/
import Derived.Test.YtmicjadbahicfaaNmWd
namespace Go.Proofs.Ytmicjadbahicfaa
open Go.RowKit

set_option maxHeartbeats 1000000 in
theorem word24 (s : ByteArray) (w : World) (hs : s.size ≤ maxLen) :
    Calls Try.prog 16 #[.string s] w fun e w' => e = .returned (.bool (wordB s)) ∧ w = w' := by
  unfold maxLen at hs
  go_enter Try.func16, Try.ntmps16
  go_wp2
  go_loop [3] (fun i => ∃ k : Nat, k ≤ s.size ∧ i = .int .i64 k ∧ (∀ j, j < k → okB (bt s j) = true) ∧ (0 < k → letB (bt s 0) = true)) (fun i => s.size - (intOf i).toNat)
  case atStart => exact ⟨0, Nat.zero_le _, rfl, fun j hj => by omega, fun h => by omega⟩
  case round =>
    obtain ⟨k, hk, rfl, hall, hfst⟩ := hrel
    have HA := Lib.hid hall
    have HF := Lib.hid hfst
    clear hall hfst
    by_cases hlt : k < s.size
    · have hbk := bt_eq s k hlt
      cases hl : letB (bt s k)
      · by_cases hk0 : k = 0
        · subst hk0
          go_wp2_with (first
            | (go_at_call 27; refine (let40 _ _).mono ?_; rintro e w' ⟨rfl, rfl⟩)
            | (go_at_call 28; refine (dig41 _ _).mono ?_; rintro e w' ⟨rfl, rfl⟩))
          go_ret
          exact ⟨ret_bool (wordB_not0 hl).symm, rfl⟩
        · have hk1 : 0 < k := by omega
          have hkb : ((k : Int) == 0) = false := by simp; omega
          clear hk0
          cases hd : digB (bt s k)
          · cases h45 : (bt s k != 45)
            · go_wp2_with (first
                | (go_at_call 27; refine (let40 _ _).mono ?_; rintro e w' ⟨rfl, rfl⟩)
                | (go_at_call 28; refine (dig41 _ _).mono ?_; rintro e w' ⟨rfl, rfl⟩))
              go_round
              case rel => exact ⟨k + 1, by omega, by go_num, all_snoc HA.out (okB_45 h45), fun _ => HF.out hk1⟩
              case measure => simp [intOf]; omega
            · cases h95 : (bt s k != 95)
              · go_wp2_with (first
                  | (go_at_call 27; refine (let40 _ _).mono ?_; rintro e w' ⟨rfl, rfl⟩)
                  | (go_at_call 28; refine (dig41 _ _).mono ?_; rintro e w' ⟨rfl, rfl⟩))
                go_round
                case rel => exact ⟨k + 1, by omega, by go_num, all_snoc HA.out (okB_95 h95), fun _ => HF.out hk1⟩
                case measure => simp [intOf]; omega
              · go_wp2_with (first
                  | (go_at_call 27; refine (let40 _ _).mono ?_; rintro e w' ⟨rfl, rfl⟩)
                  | (go_at_call 28; refine (dig41 _ _).mono ?_; rintro e w' ⟨rfl, rfl⟩))
                go_ret
                exact ⟨ret_bool (wordB_not hlt (okB_not hl hd h45 h95)).symm, rfl⟩
          · go_wp2_with (first
              | (go_at_call 27; refine (let40 _ _).mono ?_; rintro e w' ⟨rfl, rfl⟩)
              | (go_at_call 28; refine (dig41 _ _).mono ?_; rintro e w' ⟨rfl, rfl⟩))
            go_round
            case rel => exact ⟨k + 1, by omega, by go_num, all_snoc HA.out (okB_dig hd), fun _ => HF.out hk1⟩
            case measure => simp [intOf]; omega
      · have HL := Lib.hid hl
        go_wp2_with (first
          | (go_at_call 27; refine (let40 _ _).mono ?_; rintro e w' ⟨rfl, rfl⟩)
          | (go_at_call 28; refine (dig41 _ _).mono ?_; rintro e w' ⟨rfl, rfl⟩))
        go_round
        case rel =>
          refine ⟨k + 1, by omega, by go_num, all_snoc HA.out (okB_let HL.out), fun _ => ?_⟩
          rcases Nat.eq_zero_or_pos k with h0 | h0
          · subst h0; exact HL.out
          · exact HF.out h0
        case measure => simp [intOf]; omega
    · obtain rfl : k = s.size := by omega
      by_cases h1 : 1 ≤ s.size
      · by_cases h2 : s.size ≤ 40
        · have HW := Lib.hid (wordB_yes h1 h2 (HF.out h1) HA.out)
          go_wp2
          go_ret
          exact ⟨ret_bool (by rw [HW.out]; simp; omega), rfl⟩
        · have HW := Lib.hid (wordB_big (s := s) (by omega))
          go_wp2
          go_ret
          exact ⟨ret_bool (by rw [HW.out]; simp; omega), rfl⟩
      · have HW := Lib.hid (wordB_small (s := s) (by omega))
        go_wp2
        go_ret
        exact ⟨ret_bool HW.out.symm, rfl⟩

end Go.Proofs.Ytmicjadbahicfaa
