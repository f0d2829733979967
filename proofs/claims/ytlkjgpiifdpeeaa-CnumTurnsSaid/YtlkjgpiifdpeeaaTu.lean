/- Turn, the form, SameZ and Add at two numbers: what each answers. -/
import Derived.Test.YtlkjgpiifdpeeaaFt
namespace Go.Proofs.Ytlkjgpiifdpeeaa
open Go.RowKit

theorem ret_cx {a b c d : Nat} (h : a = c) (h' : b = d) : Ending.returned (.complex .f64 a b) = .returned (.complex .f64 c d) := by rw [h, h']

set_option maxHeartbeats 400000 in
theorem formPart50 (x : Nat) (w : World) : Calls Try.prog 50 #[.float .f64 x] w fun e w' => e = .returned (.float .f64 (fmB x)) ∧ w = w' := by
  have HF := Lib.hid (show fmB x = if eqF x 0 then 0 else x from rfl)
  cases he : eqF x 0
  all_goals
    have HE := Lib.hid he
    unfold eqF at he
    go_enter Try.func50, Try.ntmps50
    go_wp2
    go_ret
    exact ⟨ret_fl (by rw [HF.out, HE.out]; rfl), rfl⟩

set_option maxHeartbeats 400000 in
theorem form44 (a b : Nat) (w : World) : Calls Try.prog 44 #[.complex .f64 a b] w fun e w' => e = .returned (.complex .f64 (fmB a) (fmB b)) ∧ w = w' := by
  go_enter Try.func44, Try.ntmps44
  go_wp2_with fail
  refine (formPart50 _ _).mono ?_
  rintro e w' ⟨rfl, rfl⟩
  go_wp2_with fail
  refine (formPart50 _ _).mono ?_
  rintro e w' ⟨rfl, rfl⟩
  go_wp2_with fail
  go_ret
  exact ⟨rfl, rfl⟩

def fzA (a b : Nat) : Nat := if finZ a b then fmB a else a
def fzB (a b : Nat) : Nat := if finZ a b then fmB b else b

set_option maxHeartbeats 400000 in
theorem ifRight29 (a b : Nat) (w : World) (ha : a < 2 * FD.signWeight) (hb : b < 2 * FD.signWeight) : Calls Try.prog 29 #[.complex .f64 a b] w fun e w' => e = .returned (.complex .f64 (fzA a b) (fzB a b)) ∧ w = w' := by
  have HA := Lib.hid (show fzA a b = if finZ a b then fmB a else a from rfl)
  have HB := Lib.hid (show fzB a b = if finZ a b then fmB b else b from rfl)
  cases hf : finZ a b
  · have HE := Lib.hid hf
    go_enter Try.func29, Try.ntmps29
    go_wp2_with (go_at_call 12; refine (right12 _ _ _ ha hb).mono ?_; rintro e w' ⟨rfl, rfl⟩)
    go_ret
    exact ⟨ret_cx (by rw [HA.out, HE.out]; rfl) (by rw [HB.out, HE.out]; rfl), rfl⟩
  · have HE := Lib.hid hf
    go_enter Try.func29, Try.ntmps29
    go_wp2_with (first
      | (go_at_call 12; refine (right12 _ _ _ ha hb).mono ?_; rintro e w' ⟨rfl, rfl⟩)
      | (go_at_call 44; refine (form44 _ _ _).mono ?_; rintro e w' ⟨rfl, rfl⟩))
    go_ret
    exact ⟨ret_cx (by rw [HA.out, HE.out]; rfl) (by rw [HB.out, HE.out]; rfl), rfl⟩

def rot : Nat → Nat × Nat → Nat × Nat
  | 0, p => p
  | k + 1, p => (ng (rot k p).2, (rot k p).1)
theorem rot_lt {a b : Nat} (ha : a < 2 * FD.signWeight) (hb : b < 2 * FD.signWeight) : ∀ k, (rot k (a, b)).1 < 2 * FD.signWeight ∧ (rot k (a, b)).2 < 2 * FD.signWeight
  | 0 => ⟨ha, hb⟩
  | k + 1 => ⟨ng_lt (rot_lt ha hb k).2, (rot_lt ha hb k).1⟩
theorem rot_fin {a b : Nat} (ha : a < 2 * FD.signWeight) (hb : b < 2 * FD.signWeight) : ∀ k, finZ (rot k (a, b)).1 (rot k (a, b)).2 = finZ a b
  | 0 => rfl
  | k + 1 => by
    rw [← rot_fin ha hb k]
    show finZ (ng (rot k (a, b)).2) (rot k (a, b)).1 = _
    unfold finZ
    rw [fin_ng (rot_lt ha hb k).2, Bool.and_comm]

theorem quarter (n : Int) : -3 ≤ n.tmod 4 ∧ n.tmod 4 ≤ 3 ∧ (n.tmod 4 + 4) % 4 = n % 4 := by
  rcases Int.le_total 0 n with h | h
  · rw [Int.tmod_eq_emod_of_nonneg h]; omega
  · obtain ⟨m, rfl⟩ : ∃ m : Int, n = -m := ⟨-n, by omega⟩
    rw [Int.neg_tmod, Int.tmod_eq_emod_of_nonneg (by omega)]; omega

set_option maxHeartbeats 1000000 in
theorem turn11 (a b : Nat) (n : Int) (w : World) (ha : a < 2 * FD.signWeight) (hb : b < 2 * FD.signWeight) :
    Calls Try.prog 11 #[.complex .f64 a b, .int .i64 n] w fun e w' => e = .returned (.complex .f64 (fzA (rot (n % 4).toNat (a, b)).1 (rot (n % 4).toNat (a, b)).2) (fzB (rot (n % 4).toNat (a, b)).1 (rot (n % 4).toNat (a, b)).2)) ∧ w = w' := by
  have hneg : ∀ x, Op.unary .neg (.float .f64 x) = pure (.float .f64 (ng x)) := fun _ => rfl
  obtain ⟨q1, q2, q3⟩ := quarter n
  obtain ⟨K, hK⟩ : ∃ K : Nat, (n % 4).toNat = K := ⟨_, rfl⟩
  have hqa : (n.tmod 4 + 4) % 4 ≤ (K : Int) := by omega
  have hqb : (K : Int) ≤ (n.tmod 4 + 4) % 4 := by omega
  have hK3 : K ≤ 3 := by omega
  rw [hK]
  clear q3 hK
  have HL := Lib.hid (rot_lt ha hb)
  clear ha hb
  go_enter Try.func11, Try.ntmps11
  go_wp2
  go_loop [0, 9] (fun z i => ∃ k : Nat, k ≤ K ∧ i = .int .i64 k ∧ z = .complex .f64 (rot k (a, b)).1 (rot k (a, b)).2) (fun _ i => K - (intOf i).toNat)
  case atStart => exact ⟨0, Nat.zero_le _, rfl, rfl⟩
  case round =>
    obtain ⟨k, hk, rfl, rfl⟩ := hrel
    by_cases hlt : k < K
    · obtain ⟨c, hc⟩ : ∃ c, (rot k (a, b)).1 = c := ⟨_, rfl⟩
      obtain ⟨d, hd⟩ : ∃ d, (rot k (a, b)).2 = d := ⟨_, rfl⟩
      have HR := Lib.hid (show (rot (k + 1) (a, b)).1 = ng d ∧ (rot (k + 1) (a, b)).2 = c from ⟨by rw [← hd]; rfl, by rw [← hc]; rfl⟩)
      rw [hc, hd]
      clear hc hd
      go_wp2
      go_round
      case rel => exact ⟨k + 1, by omega, by go_num, by rw [HR.out.1, HR.out.2]⟩
      case measure => simp [intOf]; omega
    · obtain rfl : k = K := by omega
      have hl := HL.out k
      obtain ⟨c, hc⟩ : ∃ c, (rot k (a, b)).1 = c := ⟨_, rfl⟩
      obtain ⟨d, hd⟩ : ∃ d, (rot k (a, b)).2 = d := ⟨_, rfl⟩
      have HC := Lib.hid hc
      have HD := Lib.hid hd
      rw [hc, hd] at hl ⊢
      clear hc hd
      go_wp2_with fail
      refine (ifRight29 _ _ _ hl.1 hl.2).mono ?_
      rintro e w' ⟨rfl, rfl⟩
      go_wp2_with fail
      go_ret
      exact ⟨ret_cx (by rw [HC.out, HD.out]) (by rw [HC.out, HD.out]), rfl⟩

def sameF (x y : Nat) : Bool := (nanB x && nanB y) || (x == y)
set_option maxHeartbeats 400000 in
theorem same31 (x y : Nat) (w : World) : Calls Try.prog 31 #[.float .f64 x, .float .f64 y] w fun e w' => e = .returned (.bool (sameF x y)) ∧ w = w' := by
  have h46 := bits46
  have HF := Lib.hid (show sameF x y = ((nanB x && nanB y) || (x == y)) from rfl)
  cases h1 : nanB x
  · go_enter Try.func31, Try.ntmps31
    go_wp2_with (go_at_call 25; refine (nan25 _ _).mono ?_; rintro e w' ⟨rfl, rfl⟩)
    go_ret
    exact ⟨ret_bool (by rw [HF.out, h1, Bool.eq_iff_iff]; simp; omega), rfl⟩
  · cases h2 : nanB y
    · go_enter Try.func31, Try.ntmps31
      go_wp2_with fail
      refine (nan25 _ _).mono ?_
      rintro e w' ⟨rfl, rfl⟩
      go_wp2_with fail
      refine (nan25 _ _).mono ?_
      rintro e w' ⟨rfl, rfl⟩
      go_wp2
      go_ret
      exact ⟨ret_bool (by rw [HF.out, h1, h2, Bool.eq_iff_iff]; simp; omega), rfl⟩
    · go_enter Try.func31, Try.ntmps31
      go_wp2_with fail
      refine (nan25 _ _).mono ?_
      rintro e w' ⟨rfl, rfl⟩
      go_wp2_with fail
      refine (nan25 _ _).mono ?_
      rintro e w' ⟨rfl, rfl⟩
      go_wp2
      go_ret
      exact ⟨ret_bool (by rw [HF.out, h1, h2]; rfl), rfl⟩
theorem sameF_self (x : Nat) : sameF x x = true := by simp [sameF]

set_option maxHeartbeats 400000 in
theorem sameZ13 (a b : Nat) (w : World) : Calls Try.prog 13 #[.complex .f64 a b, .complex .f64 a b] w fun e w' => e = .returned (.bool true) ∧ w = w' := by
  have h1 := sameF_self a
  have h2 := sameF_self b
  go_enter Try.func13, Try.ntmps13
  go_wp2_with fail
  refine (same31 _ _ _).mono ?_
  rintro e w' ⟨rfl, rfl⟩
  go_wp2_with fail
  refine (same31 _ _ _).mono ?_
  rintro e w' ⟨rfl, rfl⟩
  go_wp2_with fail
  go_ret
  exact ⟨rfl, rfl⟩

end Go.Proofs.Ytlkjgpiifdpeeaa
