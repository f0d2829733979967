/- The reference's unhex: the value of a digit of the base 16, or -1. -/
import Derived.Test.YtplenagncmhhoaaDoorNmRw
import Derived.Test.YtplenagncmhhoaaDoorNmPb
namespace Go.Proofs.YtplenagncmhhoaaDoor
open Go.RowKit

theorem all_snoc' {P : Nat → Prop} {k : Nat} (h : ∀ j, j < k → P j) (hk : P k) : ∀ j, j < k + 1 → P j := by
  intro j hj
  rcases Nat.lt_or_ge j k with h' | h'
  · exact h j h'
  · obtain rfl : j = k := by omega
    exact hk
theorem hvI_none {c : Int} (h : ∀ j : Nat, j < 16 → ((hexD j : Nat) : Int) ≠ c) : hvI c = -1 := by
  by_cases hd : 48 ≤ c ∧ c ≤ 57
  · exfalso
    refine h (c - 48).toNat (by omega) ?_
    unfold hexD; rw [if_pos (by omega)]; omega
  · by_cases hl : 97 ≤ c ∧ c ≤ 102
    · exfalso
      refine h (c - 87).toNat (by omega) ?_
      unfold hexD; rw [if_neg (by omega)]; omega
    · unfold hvI; rw [if_neg hd, if_neg hl]

set_option maxHeartbeats 1000000 in
theorem unhex37 (c : Int) (w : World) : Calls Tryd.prog 104 #[.int .u8 c] w fun e w' => e = .returned (.int .i64 (hvI c)) ∧ w' = w := by
  go_enter Tryd.func104, Tryd.ntmps104
  go_wp2
  go_loop [3] (fun i => ∃ k : Nat, k ≤ 16 ∧ i = .int .u8 k ∧ ∀ j : Nat, j < k → ((hexD j : Nat) : Int) ≠ c) (fun i => 16 - (intOf i).toNat)
  case atStart => exact ⟨0, by omega, rfl, fun j hj => by omega⟩
  case round =>
    obtain ⟨k, hk, rfl, hall⟩ := hrel
    have HA := Lib.hid hall
    clear hall
    by_cases hlt : k < 16
    · cases hc : (((hexD k : Nat) : Int) == c)
      · have HC := Lib.hid hc
        go_wp2_with fail
        refine (hex35 _ _ (by omega) (by omega)).mono ?_
        rintro e w' ⟨rfl, rfl⟩
        go_wp2_with fail
        go_round
        case rel => exact ⟨k + 1, by omega, by go_num, all_snoc' HA.out (by simpa using HC.out)⟩
        case measure => simp [intOf]; omega
      · have HC := Lib.hid hc
        go_wp2_with fail
        refine (hex35 _ _ (by omega) (by omega)).mono ?_
        rintro e w' ⟨rfl, rfl⟩
        go_wp2_with fail
        go_ret
        refine ⟨ret_int ?_, rfl⟩
        have := beq_iff_eq.1 HC.out
        rw [← this, hvI_hexD hlt]
    · obtain rfl : k = 16 := by omega
      have HN := Lib.hid (hvI_none HA.out)
      go_wp2_with fail
      go_ret
      exact ⟨ret_int HN.out.symm, rfl⟩

end Go.Proofs.YtplenagncmhhoaaDoor
