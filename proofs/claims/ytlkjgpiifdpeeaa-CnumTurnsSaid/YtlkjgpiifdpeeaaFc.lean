/- The small calls on floats: what each answers. -/
import Derived.Test.YtlkjgpiifdpeeaaFl
import Derived.Test.YtlkjgpiifdpeeaaLf
import Derived.Laws.Cover3
import Derived.Laws.Externs
import Derived.WalkLawsBesides
import Derived.Laws.BitsAllLaws
import Derived.Lib.Hide
namespace Go.Proofs.Ytlkjgpiifdpeeaa
open Go.RowKit

def absB (x : Nat) : Nat := x % Ieee.double.signWeight
theorem andNot_abs (x : Nat) (h : x < 2 * Ieee.double.signWeight) : bits BinOp.andNot IntKind.u64 (x : Int) 9223372036854775808 = (absB x : Int) := by
  have hw : Ieee.double.signWeight = 2 ^ 63 := by decide
  rw [u64_andNot _ _ (by omega) (by rw [hw] at h; omega) (by omega) (by omega)]
  have e1 : 18446744073709551615 - (9223372036854775808 : Int).toNat = 2 ^ 63 - 1 := by decide
  rw [Int.toNat_natCast, e1, Nat.and_two_pow_sub_one_eq_mod, absB, hw]

theorem ret_fl {a b : Nat} (h : a = b) : Ending.returned (.float .f64 a) = .returned (.float .f64 b) := by rw [h]
theorem bits46 (x : Nat) (w : World) : (callFunc 46 #[.float .f64 x]).run Try.prog w = .ok (.value (.int .u64 (x : Int))) w := by
  rw [run_callFunc_extern Try.func46 (by kernel_rfl) (by kernel_rfl) (by kernel_rfl) (e := Extern.MathFloatBits.float64bits) (by kernel_rfl)]; rfl
theorem from49 (n : Int) (w : World) : (callFunc 49 #[.int .u64 n]).run Try.prog w = .ok (.value (.float .f64 n.toNat)) w := by
  rw [run_callFunc_extern Try.func49 (by kernel_rfl) (by kernel_rfl) (by kernel_rfl) (e := Extern.MathFloatBits.float64frombits) (by kernel_rfl)]; rfl

set_option maxHeartbeats 400000 in
theorem abs42 (x : Nat) (w : World) (h : x < 2 * Ieee.double.signWeight) : Calls Try.prog 42 #[.float .f64 x] w fun e w' => e = .returned (.float .f64 (absB x)) ∧ w = w' := by
  have h46 := bits46 x
  have h49 := from49
  go_enter Try.func42, Try.ntmps42
  go_wp2
  go_ret
  exact ⟨ret_fl (by rw [andNot_abs x h]; simp), rfl⟩

def nanB (x : Nat) : Bool := (FloatKind.f64.format.order x x != some .eq)
def infB (x : Nat) : Bool := (FloatKind.f64.format.order (absB x) 9218868437227405311 == some .gt)
def finB (x : Nat) : Bool := !nanB x && !infB x

set_option maxHeartbeats 400000 in
theorem nan25 (x : Nat) (w : World) : Calls Try.prog 25 #[.float .f64 x] w fun e w' => e = .returned (.bool (nanB x)) ∧ w = w' := by
  go_enter Try.func25, Try.ntmps25
  go_wp2
  go_ret
  exact ⟨ret_bool rfl, rfl⟩

set_option maxHeartbeats 400000 in
theorem inf45 (x : Nat) (w : World) (h : x < 2 * Ieee.double.signWeight) : Calls Try.prog 45 #[.float .f64 x, .int .i64 0] w fun e w' => e = .returned (.bool (infB x)) ∧ w = w' := by
  go_enter Try.func45, Try.ntmps45
  go_wp2_with (go_at_call 42; refine (abs42 _ _ h).mono ?_; rintro e w' ⟨rfl, rfl⟩)
  go_ret
  exact ⟨ret_bool rfl, rfl⟩

set_option maxHeartbeats 400000 in
theorem fin30 (x : Nat) (w : World) (h : x < 2 * Ieee.double.signWeight) : Calls Try.prog 30 #[.float .f64 x] w fun e w' => e = .returned (.bool (finB x)) ∧ w = w' := by
  have hf : finB x = (!nanB x && !infB x) := rfl
  have HF := Lib.hid hf
  clear hf
  cases hn : nanB x
  · go_enter Try.func30, Try.ntmps30
    go_wp2_with (first
      | (go_at_call 25; refine (nan25 _ _).mono ?_; rintro e w' ⟨rfl, rfl⟩)
      | (go_at_call 45; refine (inf45 _ _ h).mono ?_; rintro e w' ⟨rfl, rfl⟩))
    go_ret
    exact ⟨ret_bool (by rw [HF.out, hn]; simp), rfl⟩
  · go_enter Try.func30, Try.ntmps30
    go_wp2_with (first
      | (go_at_call 25; refine (nan25 _ _).mono ?_; rintro e w' ⟨rfl, rfl⟩)
      | (go_at_call 45; refine (inf45 _ _ h).mono ?_; rintro e w' ⟨rfl, rfl⟩))
    go_ret
    exact ⟨ret_bool (by rw [HF.out, hn]; simp), rfl⟩

set_option maxHeartbeats 400000 in
theorem fin43 (x : Nat) (w : World) (h : x < 2 * Ieee.double.signWeight) : Calls Try.prog 43 #[.float .f64 x] w fun e w' => e = .returned (.bool (finB x)) ∧ w = w' := by
  have hf : finB x = (!nanB x && !infB x) := rfl
  have HF := Lib.hid hf
  clear hf
  cases hn : nanB x
  · go_enter Try.func43, Try.ntmps43
    go_wp2_with (first
      | (go_at_call 25; refine (nan25 _ _).mono ?_; rintro e w' ⟨rfl, rfl⟩)
      | (go_at_call 45; refine (inf45 _ _ h).mono ?_; rintro e w' ⟨rfl, rfl⟩))
    go_ret
    exact ⟨ret_bool (by rw [HF.out, hn]; simp), rfl⟩
  · go_enter Try.func43, Try.ntmps43
    go_wp2_with (first
      | (go_at_call 25; refine (nan25 _ _).mono ?_; rintro e w' ⟨rfl, rfl⟩)
      | (go_at_call 45; refine (inf45 _ _ h).mono ?_; rintro e w' ⟨rfl, rfl⟩))
    go_ret
    exact ⟨ret_bool (by rw [HF.out, hn]; simp), rfl⟩

def finZ (a b : Nat) : Bool := finB a && finB b

set_option maxHeartbeats 400000 in
theorem right12 (a b : Nat) (w : World) (ha : a < 2 * Ieee.double.signWeight) (hb : b < 2 * Ieee.double.signWeight) : Calls Try.prog 12 #[.complex .f64 a b] w fun e w' => e = .returned (.bool (finZ a b)) ∧ w = w' := by
  have hf : finZ a b = (finB a && finB b) := rfl
  have HF := Lib.hid hf
  clear hf
  cases h1 : finB a
  all_goals
    go_enter Try.func12, Try.ntmps12
    go_wp2_with fail
    refine (fin30 _ _ ha).mono ?_
    rintro e w' ⟨rfl, rfl⟩
    go_wp2_with (go_at_call 30; refine (fin30 _ _ hb).mono ?_; rintro e w' ⟨rfl, rfl⟩)
    go_ret
    exact ⟨ret_bool (by rw [HF.out, h1]; simp), rfl⟩

set_option maxHeartbeats 400000 in
theorem right27 (a b : Nat) (w : World) (ha : a < 2 * Ieee.double.signWeight) (hb : b < 2 * Ieee.double.signWeight) : Calls Try.prog 27 #[.complex .f64 a b] w fun e w' => e = .returned (.bool (finZ a b)) ∧ w = w' := by
  have hf : finZ a b = (finB a && finB b) := rfl
  have HF := Lib.hid hf
  clear hf
  cases h1 : finB a
  all_goals
    go_enter Try.func27, Try.ntmps27
    go_wp2_with fail
    refine (fin43 _ _ ha).mono ?_
    rintro e w' ⟨rfl, rfl⟩
    go_wp2_with (go_at_call 43; refine (fin43 _ _ hb).mono ?_; rintro e w' ⟨rfl, rfl⟩)
    go_ret
    exact ⟨ret_bool (by rw [HF.out, h1]; simp), rfl⟩

end Go.Proofs.Ytlkjgpiifdpeeaa
