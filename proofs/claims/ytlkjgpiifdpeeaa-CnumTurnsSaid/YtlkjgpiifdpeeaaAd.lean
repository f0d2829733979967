/- Add of a number and of its opposite's form: nought. -/
import Derived.Test.YtlkjgpiifdpeeaaTu
namespace Go.Proofs.Ytlkjgpiifdpeeaa
open Go.RowKit

theorem fz00 : fzA 0 0 = 0 ∧ fzB 0 0 = 0 := by decide +kernel

set_option maxHeartbeats 1000000 in
theorem add14 (g a b : Nat) (w : World) (ha : a < 2 * FD.signWeight) (hb : b < 2 * FD.signWeight) (hf : finZ a b = true)
    (c0 : w.cell? ⟨g, 0, none⟩ = some (.complex .f64 a b)) (c1 : w.cell? ⟨g, 1, none⟩ = some (.complex .f64 (fmB (ng a)) (fmB (ng b)))) :
    Calls Try.prog 14 #[.slice (some ⟨g, 0, none⟩) 2 2] w fun e w' => e = .returned (.complex .f64 0 0) ∧ w = w' := by
  simp only [finZ, Bool.and_eq_true] at hf
  have s1 := fun w => run_float_arith (P := Try.prog) w .add 22 .f64 0 a (fmB a) (add_zero_left ha hf.1)
  have s2 := fun w => run_float_arith (P := Try.prog) w .add 22 .f64 0 b (fmB b) (add_zero_left hb hf.2)
  have s3 := fun w => run_float_arith (P := Try.prog) w .add 22 .f64 (fmB a) (fmB (ng a)) 0 (add_opp ha hf.1)
  have s4 := fun w => run_float_arith (P := Try.prog) w .add 22 .f64 (fmB b) (fmB (ng b)) 0 (add_opp hb hf.2)
  have H0 := Lib.hid fz00
  have HC := Lib.hid (ifRight29 0 0 w (by decide) (by decide))
  generalize fmB (ng a) = a2 at *
  generalize fmB (ng b) = b2 at *
  generalize fmB a = a1 at *
  generalize fmB b = b1 at *
  clear hf ha hb
  go_enter Try.func14, Try.ntmps14
  go_wp2
  go_loop [3, 4, 9] (fun x y i => (x = .float .f64 0 ∧ y = .float .f64 0 ∧ i = .int .i64 0) ∨ (x = .float .f64 a1 ∧ y = .float .f64 b1 ∧ i = .int .i64 1) ∨ (x = .float .f64 0 ∧ y = .float .f64 0 ∧ i = .int .i64 2)) (fun _ _ i => 2 - (intOf i).toNat)
  case atStart => exact Or.inl ⟨rfl, rfl, rfl⟩
  case round =>
    rcases hrel with ⟨rfl, rfl, rfl⟩ | ⟨rfl, rfl, rfl⟩ | ⟨rfl, rfl, rfl⟩
    · go_wp2
      go_round
      case rel => exact Or.inr (Or.inl ⟨rfl, rfl, rfl⟩)
      case measure => simp [intOf]
    · go_wp2
      go_round
      case rel => exact Or.inr (Or.inr ⟨rfl, rfl, rfl⟩)
      case measure => simp [intOf]
    · go_wp2_with fail
      refine HC.out.mono ?_
      rintro e w' ⟨rfl, rfl⟩
      go_wp2_with fail
      go_ret
      exact ⟨ret_cx H0.out.1 H0.out.2, rfl⟩

end Go.Proofs.Ytlkjgpiifdpeeaa
