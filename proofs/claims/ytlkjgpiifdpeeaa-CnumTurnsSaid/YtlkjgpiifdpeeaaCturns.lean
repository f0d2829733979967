/- For every number and every count: turned there and back, or four times, a number is its form; turned twice it takes away what it was; what is not right stays so (CnumTurns answers true). No condition. -/
import Derived.Test.YtlkjgpiifdpeeaaRows
import Derived.Test.YtlkjgpiifdpeeaaAd
import Derived.ProofKit
import Derived.OpenShut
import Derived.Below
import Derived.IntWalk
namespace Go.Proofs.Ytlkjgpiifdpeeaa
open Go.RowKit

theorem wf_fl' {a : Nat} (h : (Lit.float .f64 a).wf = true) : a < 2 * FD.signWeight := by
  simp only [Lit.wf, decide_eq_true_eq] at h
  have e : 2 * FD.signWeight = 2 ^ 64 := by decide
  rw [e]; exact h

theorem turn_fin {a b : Nat} {k : Nat} (ha : a < 2 * FD.signWeight) (hb : b < 2 * FD.signWeight) (hf : finZ a b = true) :
    fzA (rot k (a, b)).1 (rot k (a, b)).2 = fmB (rot k (a, b)).1 ∧ fzB (rot k (a, b)).1 (rot k (a, b)).2 = fmB (rot k (a, b)).2 := by
  unfold fzA fzB; rw [rot_fin ha hb, hf]; exact ⟨rfl, rfl⟩
theorem fin_two {a b : Nat} (hf : finZ a b = true) : finB a = true ∧ finB b = true := by simpa [finZ] using hf
theorem back4 {a b : Nat} (ha : a < 2 * FD.signWeight) (hb : b < 2 * FD.signWeight) (hf : finZ a b = true) (k k' : Nat) (hk : k < 4) (hk' : k' = (4 - k) % 4) :
    fmB (rot k' (fmB (rot k (a, b)).1, fmB (rot k (a, b)).2)).1 = fmB a ∧ fmB (rot k' (fmB (rot k (a, b)).1, fmB (rot k (a, b)).2)).2 = fmB b := by
  obtain ⟨fa, fb⟩ := fin_two hf
  have na := fin_ng ha
  have nb := fin_ng hb
  have e1 := fm_ng_fm (ng_lt ha) (na.trans fa)
  have e2 := fm_ng_fm (ng_lt hb) (nb.trans fb)
  rw [ng_ng] at e1 e2
  subst hk'
  match k, hk with
  | 0, _ => exact ⟨fm_fm a, fm_fm b⟩
  | 1, _ => simp only [Nat.reduceSub, Nat.reduceMod, rot, ng_ng]; exact ⟨fm_fm a, e2⟩
  | 2, _ => simp only [Nat.reduceSub, Nat.reduceMod, rot]; exact ⟨e1, e2⟩
  | 3, _ => simp only [Nat.reduceSub, Nat.reduceMod, rot, ng_ng]; exact ⟨e1, fm_fm b⟩

theorem and1023 (n : Int) : 0 ≤ bits BinOp.and IntKind.i64 n 1023 ∧ bits BinOp.and IntKind.i64 n 1023 ≤ 1023 := by
  have h : (BitVec.ofInt 64 n &&& BitVec.ofInt 64 1023).toNat ≤ 1023 := by
    rw [BitVec.toNat_and]; exact Nat.and_le_right
  show 0 ≤ IntKind.i64.wrap ((BitVec.ofInt 64 n &&& BitVec.ofInt 64 1023).toNat : Int) ∧ IntKind.i64.wrap ((BitVec.ofInt 64 n &&& BitVec.ofInt 64 1023).toNat : Int) ≤ 1023
  rw [IntWalk.i64_in _ (by omega)]; omega
theorem turn_is {a b c d : Nat} {n : Int} (w : World) (ha : a < 2 * FD.signWeight) (hb : b < 2 * FD.signWeight) (hf : finZ a b = true) (h1 : fmB (rot (n % 4).toNat (a, b)).1 = c) (h2 : fmB (rot (n % 4).toNat (a, b)).2 = d) :
    Calls Try.prog 11 #[.complex .f64 a b, .int .i64 n] w fun e w' => e = .returned (.complex .f64 c d) ∧ w = w' := by
  refine (turn11 a b n w ha hb).mono ?_
  rintro e w' ⟨rfl, rfl⟩
  obtain ⟨e1, e2⟩ := turn_fin (k := (n % 4).toNat) ha hb hf
  exact ⟨ret_cx (e1.trans h1) (e2.trans h2), rfl⟩
theorem turn_bad {a b c d : Nat} {n : Int} (w : World) (ha : a < 2 * FD.signWeight) (hb : b < 2 * FD.signWeight) (hf : finZ a b = false) (h1 : (rot (n % 4).toNat (a, b)).1 = c) (h2 : (rot (n % 4).toNat (a, b)).2 = d) :
    Calls Try.prog 11 #[.complex .f64 a b, .int .i64 n] w fun e w' => e = .returned (.complex .f64 c d) ∧ w = w' := by
  refine (turn11 a b n w ha hb).mono ?_
  rintro e w' ⟨rfl, rfl⟩
  refine ⟨ret_cx ?_ ?_, rfl⟩
  · unfold fzA; rw [rot_fin ha hb, hf]; exact h1
  · unfold fzB; rw [rot_fin ha hb, hf]; exact h2
theorem turn_one (w : World) : Calls Try.prog 11 #[.complex .f64 4607182418800017408 0, .int .i64 1] w fun e w' => e = .returned (.complex .f64 0 4607182418800017408) ∧ w = w' :=
  turn_is w (by decide) (by decide) (by decide +kernel) (by decide +kernel) (by decide +kernel)

set_option maxHeartbeats 1000000 in
set_option maxRecDepth 100000 in
theorem walk4 (a b : Nat) (n : Int) (wa : (Lit.float .f64 a).wf = true) (wb : (Lit.float .f64 b).wf = true) (_ : (Lit.int .i64 n).wf = true) (w : World) :
    Calls Try.prog 4 #[.float .f64 a, .float .f64 b, .int .i64 n] w fun e w' => e = .returned (.bool true) ∧ Below w.heap.size w w' := by
  have ha := wf_fl' wa
  have hb := wf_fl' wb
  have o1 : (FloatKind.f64.format.order 0 0 == some Ordering.eq) = true := by decide +kernel
  have o2 : (FloatKind.f64.format.order 4607182418800017408 4607182418800017408 == some Ordering.eq) = true := by decide +kernel
  clear wa wb
  cases hf : finZ a b
  · obtain ⟨c, hc⟩ : ∃ c, (rot (n % 4).toNat (a, b)).1 = c := ⟨_, rfl⟩
    obtain ⟨d, hd⟩ : ∃ d, (rot (n % 4).toNat (a, b)).2 = d := ⟨_, rfl⟩
    have hl := rot_lt ha hb (n % 4).toNat
    have hz : finZ c d = false := by rw [← hc, ← hd, rot_fin ha hb]; exact hf
    rw [hc, hd] at hl
    have HB := Lib.hid (fun w => turn_bad (n := n) w ha hb hf hc hd)
    clear hc hd
    go_enter Try.func4, Try.ntmps4
    go_wp2_with fail
    refine (turn_one _).mono ?_
    rintro e w' ⟨rfl, rfl⟩
    go_wp2_with fail
    refine (right12 _ _ _ ha hb).mono ?_
    rintro e w' ⟨rfl, rfl⟩
    go_wp2_with fail
    refine (HB.out _).mono ?_
    rintro e w' ⟨rfl, rfl⟩
    go_wp2_with fail
    refine (right12 _ _ _ hl.1 hl.2).mono ?_
    rintro e w' ⟨rfl, rfl⟩
    go_wp2_with fail
    go_ret
    exact ⟨rfl, Below.refl _ _⟩
  · go_enter Try.func4, Try.ntmps4
    go_wp2_with fail
    refine (turn_one _).mono ?_
    rintro e w' ⟨rfl, rfl⟩
    go_wp2_with fail
    refine (right12 _ _ _ ha hb).mono ?_
    rintro e w' ⟨rfl, rfl⟩
    go_wp2_with fail
    obtain ⟨n0, n1⟩ := and1023 n
    generalize bits BinOp.and IntKind.i64 n 1023 = N at n0 n1 ⊢
    obtain ⟨fa, fb⟩ := fin_two hf
    have HF := Lib.hid hf
    have f1 := fmB_lt ha
    have f2 := fmB_lt hb
    have g1 := fmB_lt (ng_lt ha)
    have g2 := fmB_lt (ng_lt hb)
    have e1 : (FloatKind.f64.format.order (fmB a) a == some Ordering.eq) = true := (eq_fm fa).1
    have e2 : (FloatKind.f64.format.order (fmB b) b == some Ordering.eq) = true := (eq_fm fb).1
    have hnear : nearZ a b (fmB a) (fmB b) 0 = true := by
      have k1 : finZ (fmB a) (fmB b) = true := by unfold finZ; rw [fin_fm fa, fin_fm fb]; rfl
      have k2 : nanB 0 = false := by decide +kernel
      unfold nearZ nearV
      rw [hf, k1, k2, (eq_fm fa).2, (eq_fm fb).2]; rfl
    obtain ⟨c, hc⟩ : ∃ c, fmB (rot (N % 4).toNat (a, b)).1 = c := ⟨_, rfl⟩
    obtain ⟨d, hd⟩ : ∃ d, fmB (rot (N % 4).toNat (a, b)).2 = d := ⟨_, rfl⟩
    have hl := rot_lt ha hb (N % 4).toNat
    have lc : c < 2 * FD.signWeight := by rw [← hc]; exact fmB_lt hl.1
    have ld : d < 2 * FD.signWeight := by rw [← hd]; exact fmB_lt hl.2
    have hfr := rot_fin ha hb (N % 4).toNat
    rw [hf] at hfr
    have fcd : finZ c d = true := by
      rw [← hc, ← hd]; unfold finZ; rw [fin_fm (fin_two hfr).1, fin_fm (fin_two hfr).2]; rfl
    have hback := back4 ha hb hf (N % 4).toNat ((-N) % 4).toNat (by omega) (by omega)
    rw [hc, hd] at hback
    have T0 := Lib.hid (fun w => turn_is (n := 0) (c := fmB a) (d := fmB b) w ha hb hf rfl rfl)
    have T1 := Lib.hid (fun w => turn_is (n := N) w ha hb hf hc hd)
    have T2 := Lib.hid (fun w => turn_is (n := -N) w lc ld fcd hback.1 hback.2)
    have T4 := Lib.hid (fun w => turn_is (n := 4 * N) (c := fmB a) (d := fmB b) w ha hb hf (by rw [show (4 * N % 4).toNat = 0 by omega]; rfl) (by rw [show (4 * N % 4).toNat = 0 by omega]; rfl))
    have TT := Lib.hid (fun w => turn_is (n := 2) (c := fmB (ng a)) (d := fmB (ng b)) w ha hb hf rfl rfl)
    have HN := Lib.hid (fun w => near9 a b (fmB a) (fmB b) 0 w ha hb f1 f2)
    have HA := Lib.hid (fun g w => add14 g a b w ha hb hf)
    clear hc hd hl hfr hback fa fb
    refine (T0.out _).mono ?_
    rintro e w' ⟨rfl, rfl⟩
    go_wp2_with fail
    refine (T1.out _).mono ?_
    rintro e w' ⟨rfl, rfl⟩
    go_wp2_with fail
    refine (T2.out _).mono ?_
    rintro e w' ⟨rfl, rfl⟩
    go_wp2_with fail
    refine (sameZ13 _ _ _).mono ?_
    rintro e w' ⟨rfl, rfl⟩
    go_wp2_with fail
    refine (T4.out _).mono ?_
    rintro e w' ⟨rfl, rfl⟩
    go_wp2_with fail
    refine (sameZ13 _ _ _).mono ?_
    rintro e w' ⟨rfl, rfl⟩
    go_wp2_with fail
    refine (TT.out _).mono ?_
    rintro e w' ⟨rfl, rfl⟩
    go_wp2_with fail
    refine (HA.out w.heap.size _ (by simp) (by simp)).mono ?_
    rintro e w' ⟨rfl, rfl⟩
    go_wp2_with fail
    refine (HN.out _).mono ?_
    rintro e w' ⟨rfl, rfl⟩
    go_wp2_with fail
    go_ret
    exact ⟨rfl, (Below.refl _ _).alloc (Nat.le_refl _) _⟩

namespace cnumTurns
open Go.ChangeShapes Go.WideShapes Go.ChangeAt
open Go.ChangeMaps (open_string shut_string)
theorem own : ownKnob Try.prog.godebug = none := by kernel_rfl
set_option maxRecDepth 100000 in
theorem lifted (os : Os) (started : os.Started) (H : Type) (enc : TypeId × Value → H) :
    ReturnsInHanded {} Try.checked os 4 .any (Rows.cnumTurnsSpec.pre6 enc Try.prog Try.f4 Rows.cnumTurnsRow.domain false) (Rows.cnumTurnsSpec.post enc Try.prog Try.f4 false true false false) := by
  refine returnsInHanded_of_change (C := Try.checked) own started (by kernel_rfl) Try.func4
    (ChangeSpec.witness6 (enc := enc) (C := Try.checked) false ⟨#[], #[.float .f64 0, .float .f64 0, .int .i64 0], []⟩ 8 (by kernel_rfl) (by kernel_rfl) (by kernel_rfl) (by kernel_rfl)) ?_
  intro W base args ds gs before hval0 hW hcnd _
  have hval : ∀ (j : Nat) t v, Try.f4.params[j]? = some t → args[j]? = some v → Value.okWide Try.prog W .any base t v := hval0
  have hW' := hW
  obtain ⟨p, q, hA0, hV, rfl, hfz, hnd⟩ := hW
  have hA : DataW.TrodAll enc Try.prog W 0 (fun _ => true) true Try.f4.params.toList args.toList ds p := hA0
  rw [Try.params4] at hA hval
  obtain ⟨v0, vs0, d0, ds0, p0, q0, hargs, rfl, rfl, h0, r0⟩ := trodAll_cons hA
  obtain ⟨v1, vs1, d1, ds1, p1, q1, rfl, rfl, rfl, h1, r1⟩ := trodAll_cons r0
  obtain ⟨v2, vs2, d2, ds2, p2, q2, rfl, rfl, rfl, h2, r2⟩ := trodAll_cons r1
  obtain ⟨rfl, rfl, rfl⟩ := trodAll_nil r2
  obtain rfl : args = #[v0, v1, v2] := by cases args; simp_all
  obtain ⟨rfl, rfl⟩ := trodVars_none hV
  obtain ⟨a0, rfl, rfl, rfl, w0⟩ := open_float Try.underlying22 (hval 0 22 v0 rfl rfl) h0
  obtain ⟨a1, rfl, rfl, rfl, w1⟩ := open_float Try.underlying22 (hval 1 22 v1 rfl rfl) h1
  obtain ⟨a2, rfl, rfl, rfl, w2⟩ := open_int Try.underlying3 (hval 2 3 v2 rfl rfl) h2
  clear hA0 hval0
  simp only [List.append_nil] at hW'
  refine (walk4 a0 a1 a2 w0 w1 w2  W).mono fun e W' ⟨he, bel⟩ => ?_
  subst he
  exact ⟨_, rfl, _, _, _, [], [], [], hW', trodAll_cons_mk (shut_bool Try.underlying4 _) trodAll_mk0, (trodAll_cons_mk (shut_float Try.underlying22 w0) (trodAll_cons_mk (shut_float Try.underlying22 w1) (trodAll_cons_mk (shut_int Try.underlying3 w2) trodAll_mk0))), rfl, bel.frame _, fun h => by cases h⟩

theorem over : Rows.cnumTurnsRow.holds Try.pinned (OpenSpec.ofChange Rows.cnumTurnsSpec) :=
  OpenClaim.holds_of_wide 4 Try.f4 rfl rfl rfl rfl rfl rfl rfl ⟨rfl, rfl, rfl, rfl, rfl⟩ rfl rfl rfl rfl rfl (by kernel_rfl) Try.func4 (by kernel_rfl)
    (of_decide_eq_true (by kernel_rfl)) (by unfold Func.isWrapper; first | (rw [if_pos (by decide +kernel)]; kernel_rfl) | (rw [if_neg (by decide +kernel)]; exact ⟨rfl, rfl⟩))
    (fun os started H enc _ => lifted os started H enc)
end cnumTurns

theorem cnumTurns_holds : Rows.CnumTurnsSaid := cnumTurns.over

end Go.Proofs.Ytlkjgpiifdpeeaa
