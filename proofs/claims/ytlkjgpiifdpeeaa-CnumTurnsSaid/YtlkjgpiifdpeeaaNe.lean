/- Near, of the program and of the reference: both answer nearZ. -/
import Derived.Test.YtlkjgpiifdpeeaaFc
namespace Go.Proofs.Ytlkjgpiifdpeeaa
open Go.RowKit

abbrev FD := Ieee.double
theorem finB_num {x : Nat} (h : finB x = true) : IsNum FD x := by
  simp only [finB, Bool.and_eq_true, Bool.not_eq_true'] at h
  rcases body_cases FD (x % FD.signWeight) with ⟨m, e, hb⟩ | hb | ⟨q, hb⟩
  · exact ⟨_, m, e, by rw [read_body]; exact hb _⟩
  · exfalso
    have hM : FD.read 9218868437227405311 = .number false 9007199254740991 971 := by decide +kernel
    have h2 := h.2
    unfold infB absB at h2
    have : FD.order (x % FD.signWeight) 9218868437227405311 = some .gt := by
      unfold Ieee.Format.order; rw [read_abs, hb, hM]; rfl
    rw [show FloatKind.f64.format = FD from rfl, this] at h2
    cases h2
  · exfalso
    have h1 := h.1
    unfold nanB at h1
    have : FD.order x x = none := by
      unfold Ieee.Format.order; rw [read_body, hb]; rfl
    rw [show FloatKind.f64.format = FD from rfl, this] at h1
    cases h1

def eqF (a b : Nat) : Bool := (FloatKind.f64.format.order a b == some .eq)
def leB (a b : Nat) : Bool := (FloatKind.f64.format.order a b == some .lt) || (FloatKind.f64.format.order a b == some .eq)
def subV (a b : Nat) : Nat := (FD.sub a b).getD 0
def nearV (a b t : Nat) : Bool := eqF a b || leB (absB (subV a b)) t

theorem subV_spec {a b : Nat} (ha : IsNum FD a) (hb : IsNum FD b) : FD.sub a b = some (subV a b) ∧ subV a b < 2 * FD.signWeight ∧ absB (subV a b) = absB (subV b a) := by
  obtain ⟨r, r', h1, h2, h3, h4⟩ := sub_both ha hb
  have e1 : subV a b = r := by simp [subV, h1]
  have e2 : subV b a = r' := by simp [subV, h2]
  rw [e1, e2]; exact ⟨h1, h4, h3⟩
theorem nearV_comm {a b : Nat} (t : Nat) (ha : IsNum FD a) (hb : IsNum FD b) : nearV a b t = nearV b a t := by
  unfold nearV; rw [(subV_spec ha hb).2.2]
  congr 1
  exact eq_both ha hb
theorem leB_abs (x t : Nat) (h : x < 2 * FD.signWeight) : leB (absB x) t = (leB x t && leB (Op.negFloat .f64 x) t) := leF_abs FD x t h

set_option maxHeartbeats 400000 in
theorem nearPart26 (a b t : Nat) (w : World) (ha : IsNum FD a) (hb : IsNum FD b) :
    Calls Try.prog 26 #[.float .f64 a, .float .f64 b, .float .f64 t] w fun e w' => e = .returned (.bool (nearV a b t)) ∧ w = w' := by
  obtain ⟨hs, hlt, hx⟩ := subV_spec ha hb
  clear hx
  have hsub := fun w => run_float_arith (P := Try.prog) w .sub 22 .f64 a b (subV a b) hs
  have HN := Lib.hid (show nearV a b t = (eqF a b || leB (absB (subV a b)) t) from rfl)
  clear hs
  cases he : eqF a b
  all_goals
    unfold eqF at he
    go_enter Try.func26, Try.ntmps26
    go_wp2_with (go_at_call 42; refine (abs42 _ _ hlt).mono ?_; rintro e w' ⟨rfl, rfl⟩)
    go_ret
    exact ⟨ret_bool (by rw [HN.out, eqF, he]; rfl), rfl⟩

set_option maxHeartbeats 400000 in
theorem near28 (a b t : Nat) (w : World) (ha : IsNum FD a) (hb : IsNum FD b) :
    Calls Try.prog 28 #[.float .f64 a, .float .f64 b, .float .f64 t] w fun e w' => e = .returned (.bool (nearV a b t)) ∧ w = w' := by
  obtain ⟨hs, hlt, hx⟩ := subV_spec ha hb
  clear hx
  have hsub := fun w => run_float_arith (P := Try.prog) w .sub 22 .f64 a b (subV a b) hs
  have HN := Lib.hid (show nearV a b t = (eqF a b || (leB (subV a b) t && leB (Op.negFloat .f64 (subV a b)) t)) by rw [← leB_abs _ _ hlt]; rfl)
  have hneg : ∀ x, Op.unary .neg (.float .f64 x) = pure (.float .f64 (Op.negFloat .f64 x)) := fun _ => rfl
  clear hs
  cases he : eqF a b
  · cases hl : leB (subV a b) t
    all_goals
      unfold eqF at he
      unfold leB at hl
      go_enter Try.func28, Try.ntmps28
      go_wp2
      go_ret
      exact ⟨ret_bool (by rw [HN.out, eqF, he, leB, hl]; rfl), rfl⟩
  · unfold eqF at he
    go_enter Try.func28, Try.ntmps28
    go_wp2
    go_ret
    exact ⟨ret_bool (by rw [HN.out, eqF, he]; rfl), rfl⟩

def nearZ (ra ia rb ib t : Nat) : Bool := finZ ra ia && finZ rb ib && !nanB t && nearV ra rb t && nearV ia ib t
theorem finZ_num {a b : Nat} (h : finZ a b = true) : IsNum FD a ∧ IsNum FD b := by
  simp only [finZ, Bool.and_eq_true] at h; exact ⟨finB_num h.1, finB_num h.2⟩
theorem nearZ_comm (ra ia rb ib t : Nat) : nearZ ra ia rb ib t = nearZ rb ib ra ia t := by
  unfold nearZ
  cases h1 : finZ ra ia
  · simp
  · cases h2 : finZ rb ib
    · simp
    · rw [nearV_comm t (finZ_num h1).1 (finZ_num h2).1, nearV_comm t (finZ_num h1).2 (finZ_num h2).2]

set_option maxHeartbeats 1000000 in
theorem near9 (ra ia rb ib t : Nat) (w : World) (h1 : ra < 2 * FD.signWeight) (h2 : ia < 2 * FD.signWeight) (h3 : rb < 2 * FD.signWeight) (h4 : ib < 2 * FD.signWeight) :
    Calls Try.prog 9 #[.complex .f64 ra ia, .complex .f64 rb ib, .float .f64 t] w fun e w' => e = .returned (.bool (nearZ ra ia rb ib t)) ∧ w = w' := by
  have HN := Lib.hid (show nearZ ra ia rb ib t = (finZ ra ia && finZ rb ib && !nanB t && nearV ra rb t && nearV ia ib t) from rfl)
  cases f1 : finZ ra ia
  · go_enter Try.func9, Try.ntmps9
    go_wp2_with fail
    refine (right12 _ _ _ h1 h2).mono ?_
    rintro e w' ⟨rfl, rfl⟩
    go_wp2_with fail
    go_ret
    exact ⟨ret_bool (by rw [HN.out, f1]; rfl), rfl⟩
  · cases f2 : finZ rb ib
    · go_enter Try.func9, Try.ntmps9
      go_wp2_with fail
      refine (right12 _ _ _ h1 h2).mono ?_
      rintro e w' ⟨rfl, rfl⟩
      go_wp2_with fail
      refine (right12 _ _ _ h3 h4).mono ?_
      rintro e w' ⟨rfl, rfl⟩
      go_wp2_with fail
      go_ret
      exact ⟨ret_bool (by rw [HN.out, f1, f2]; rfl), rfl⟩
    · have n1 := finZ_num f1
      have n2 := finZ_num f2
      cases f3 : nanB t
      · cases f4 : nearV ra rb t
        · go_enter Try.func9, Try.ntmps9
          go_wp2_with fail
          refine (right12 _ _ _ h1 h2).mono ?_
          rintro e w' ⟨rfl, rfl⟩
          go_wp2_with fail
          refine (right12 _ _ _ h3 h4).mono ?_
          rintro e w' ⟨rfl, rfl⟩
          go_wp2_with (first
            | (go_at_call 25; refine (nan25 _ _).mono ?_; rintro e w' ⟨rfl, rfl⟩)
            | (go_at_call 26; refine (nearPart26 _ _ _ _ n1.1 n2.1).mono ?_; rintro e w' ⟨rfl, rfl⟩))
          go_ret
          exact ⟨ret_bool (by rw [HN.out, f1, f2, f3, f4]; rfl), rfl⟩
        · go_enter Try.func9, Try.ntmps9
          go_wp2_with fail
          refine (right12 _ _ _ h1 h2).mono ?_
          rintro e w' ⟨rfl, rfl⟩
          go_wp2_with fail
          refine (right12 _ _ _ h3 h4).mono ?_
          rintro e w' ⟨rfl, rfl⟩
          go_wp2_with (go_at_call 25; refine (nan25 _ _).mono ?_; rintro e w' ⟨rfl, rfl⟩)
          refine (nearPart26 _ _ _ _ n1.1 n2.1).mono ?_
          rintro e w' ⟨rfl, rfl⟩
          go_wp2_with fail
          refine (nearPart26 _ _ _ _ n1.2 n2.2).mono ?_
          rintro e w' ⟨rfl, rfl⟩
          go_wp2_with fail
          go_ret
          exact ⟨ret_bool (by rw [HN.out, f1, f2, f3, f4]; simp), rfl⟩
      · go_enter Try.func9, Try.ntmps9
        go_wp2_with fail
        refine (right12 _ _ _ h1 h2).mono ?_
        rintro e w' ⟨rfl, rfl⟩
        go_wp2_with fail
        refine (right12 _ _ _ h3 h4).mono ?_
        rintro e w' ⟨rfl, rfl⟩
        go_wp2_with (go_at_call 25; refine (nan25 _ _).mono ?_; rintro e w' ⟨rfl, rfl⟩)
        go_ret
        exact ⟨ret_bool (by rw [HN.out, f1, f2, f3]; rfl), rfl⟩

set_option maxHeartbeats 1000000 in
theorem near10 (ra ia rb ib t : Nat) (w : World) (h1 : ra < 2 * FD.signWeight) (h2 : ia < 2 * FD.signWeight) (h3 : rb < 2 * FD.signWeight) (h4 : ib < 2 * FD.signWeight) :
    Calls Try.prog 10 #[.complex .f64 ra ia, .complex .f64 rb ib, .float .f64 t] w fun e w' => e = .returned (.bool (nearZ ra ia rb ib t)) ∧ w = w' := by
  have HN := Lib.hid (show nearZ ra ia rb ib t = (finZ ra ia && finZ rb ib && !nanB t && nearV ra rb t && nearV ia ib t) from rfl)
  cases f1 : finZ ra ia
  · go_enter Try.func10, Try.ntmps10
    go_wp2_with fail
    refine (right27 _ _ _ h1 h2).mono ?_
    rintro e w' ⟨rfl, rfl⟩
    go_wp2_with fail
    go_ret
    exact ⟨ret_bool (by rw [HN.out, f1]; rfl), rfl⟩
  · cases f2 : finZ rb ib
    · go_enter Try.func10, Try.ntmps10
      go_wp2_with fail
      refine (right27 _ _ _ h1 h2).mono ?_
      rintro e w' ⟨rfl, rfl⟩
      go_wp2_with fail
      refine (right27 _ _ _ h3 h4).mono ?_
      rintro e w' ⟨rfl, rfl⟩
      go_wp2_with fail
      go_ret
      exact ⟨ret_bool (by rw [HN.out, f1, f2]; rfl), rfl⟩
    · have n1 := finZ_num f1
      have n2 := finZ_num f2
      cases f3 : nanB t
      · cases f4 : nearV ra rb t
        · go_enter Try.func10, Try.ntmps10
          go_wp2_with fail
          refine (right27 _ _ _ h1 h2).mono ?_
          rintro e w' ⟨rfl, rfl⟩
          go_wp2_with fail
          refine (right27 _ _ _ h3 h4).mono ?_
          rintro e w' ⟨rfl, rfl⟩
          go_wp2_with (first
            | (go_at_call 25; refine (nan25 _ _).mono ?_; rintro e w' ⟨rfl, rfl⟩)
            | (go_at_call 28; refine (near28 _ _ _ _ n1.1 n2.1).mono ?_; rintro e w' ⟨rfl, rfl⟩))
          go_ret
          exact ⟨ret_bool (by rw [HN.out, f1, f2, f3, f4]; rfl), rfl⟩
        · go_enter Try.func10, Try.ntmps10
          go_wp2_with fail
          refine (right27 _ _ _ h1 h2).mono ?_
          rintro e w' ⟨rfl, rfl⟩
          go_wp2_with fail
          refine (right27 _ _ _ h3 h4).mono ?_
          rintro e w' ⟨rfl, rfl⟩
          go_wp2_with (go_at_call 25; refine (nan25 _ _).mono ?_; rintro e w' ⟨rfl, rfl⟩)
          refine (near28 _ _ _ _ n1.1 n2.1).mono ?_
          rintro e w' ⟨rfl, rfl⟩
          go_wp2_with fail
          refine (near28 _ _ _ _ n1.2 n2.2).mono ?_
          rintro e w' ⟨rfl, rfl⟩
          go_wp2_with fail
          go_ret
          exact ⟨ret_bool (by rw [HN.out, f1, f2, f3, f4]; simp), rfl⟩
      · go_enter Try.func10, Try.ntmps10
        go_wp2_with fail
        refine (right27 _ _ _ h1 h2).mono ?_
        rintro e w' ⟨rfl, rfl⟩
        go_wp2_with fail
        refine (right27 _ _ _ h3 h4).mono ?_
        rintro e w' ⟨rfl, rfl⟩
        go_wp2_with (go_at_call 25; refine (nan25 _ _).mono ?_; rintro e w' ⟨rfl, rfl⟩)
        go_ret
        exact ⟨ret_bool (by rw [HN.out, f1, f2, f3]; rfl), rfl⟩

end Go.Proofs.Ytlkjgpiifdpeeaa
