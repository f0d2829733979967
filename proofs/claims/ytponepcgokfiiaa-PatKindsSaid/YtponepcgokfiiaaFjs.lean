/- Of letters alone all three kinds find the same, and a text too long is refused by all: for all letters and all bytes PatKinds answers true. -/
import Derived.Test.YtponepcgokfiiaaRows
import Derived.Test.YtponepcgokfiiaaFj
import Derived.Test.YtponepcgokfiiaaLz
import Derived.ProofKit
import Derived.OpenShut
import Derived.ShutString
import Derived.SizedLaws
import Derived.Carry
namespace Go.Proofs.Ytponepcgokfiiaa
open Go.RowKit

namespace patKinds
open Go.ChangeShapes Go.WideShapes Go.ChangeAt Go.Deep
open Go.ChangeMaps (open_string shut_string)
theorem own : ownKnob Try.prog.godebug = none := by kernel_rfl
theorem laidOut : laidOutB Try.prog = true := by kernel_rfl
set_option maxRecDepth 100000 in
theorem lifted (os : Os) (started : os.Started) (H : Type) (enc : TypeId × Value → H) :
    ReturnsInHanded {} Try.checked os 7 .any (Rows.patKindsSpec.pre6 enc Try.prog Try.f7 Rows.patKindsRow.domain false) (Rows.patKindsSpec.post enc Try.prog Try.f7 false true false false) := by
  refine returnsInHanded_of_change_sized (C := Try.checked) own started (by kernel_rfl) Try.func7
    (ChangeSpec.witness6 (enc := enc) (C := Try.checked) false ⟨#[], #[.slice none 0 0, .slice none 0 0], []⟩ 8 (by kernel_rfl) (by kernel_rfl) (by kernel_rfl) (by kernel_rfl)) ?_
  intro W base args ds gs before hval0 hW hcnd hsz0 _
  have hval : ∀ (j : Nat) t v, Try.f7.params[j]? = some t → args[j]? = some v → Value.okWide Try.prog W .any base t v := hval0
  have hW' := hW
  obtain ⟨p, q, hA0, hV, rfl, hfz, hnd⟩ := hW
  have hA : DataW.TrodAll enc Try.prog W 0 (fun _ => true) true Try.f7.params.toList args.toList ds p := hA0
  have hsz : (DataW.weightsEach Try.prog (Try.f7.params.toList ++ Rows.patKindsSpec.plain.varTypes Try.prog) (ds ++ gs)).all (· ≤ reachBytes) = true := hsz0
  rw [Try.params7] at hA hval hsz
  obtain ⟨v0, vs0, d0, ds0, p0, q0, hargs, rfl, rfl, h0, r0⟩ := trodAll_cons hA
  obtain ⟨v1, vs1, d1, ds1, p1, q1, rfl, rfl, rfl, h1, r1⟩ := trodAll_cons r0
  obtain ⟨rfl, rfl, rfl⟩ := trodAll_nil r1
  obtain rfl : args = #[v0, v1] := by cases args; simp_all
  obtain ⟨rfl, rfl⟩ := trodVars_none hV
  obtain ⟨a0, len0, cap0, rfl⟩ := okWide_slice Try.underlying38 (hval 0 38 v0 rfl rfl)
  obtain ⟨fuel0, hf0⟩ := id h0
  obtain ⟨zs0, hzs0, hlen0⟩ := open_B (x := (d0, p0)) (by simpa [Value.cells] using hf0)
  have z0 : len0 ≤ 140737488355328 := by
    rcases open_len Try.underlying38 (show DataW.trod enc Try.prog W 0 (fun _ => true) true fuel0 38 [.slice a0 len0 cap0] = some (d0, p0) by simpa [Value.cells] using hf0) with h | ⟨el, sp, e, hl⟩
    · omega
    · subst e
      have := sized_slice hsz (j := 0) (t := 38) (e := 5) rfl rfl Try.underlying38
      rw [bytes_byte] at this
      unfold reachBytes at this
      omega
  obtain ⟨a1, len1, cap1, rfl⟩ := okWide_slice Try.underlying38 (hval 1 38 v1 rfl rfl)
  obtain ⟨fuel1, hf1⟩ := id h1
  obtain ⟨zs1, hzs1, hlen1⟩ := open_B (x := (d1, p1)) (by simpa [Value.cells] using hf1)
  have z1 : len1 ≤ 140737488355328 := by
    rcases open_len Try.underlying38 (show DataW.trod enc Try.prog W 0 (fun _ => true) true fuel1 38 [.slice a1 len1 cap1] = some (d1, p1) by simpa [Value.cells] using hf1) with h | ⟨el, sp, e, hl⟩
    · omega
    · subst e
      have := sized_slice hsz (j := 1) (t := 38) (e := 5) rfl rfl Try.underlying38
      rw [bytes_byte] at this
      unfold reachBytes at this
      omega
  clear hA0 hval0
  have hall : ∀ x, x ∈ (p0 ++ (p1 ++ []) : List MemPlace) → x.block < W.heap.size := fun x hx => by have := hW'.lt x (by simpa using hx); simpa using this
  have hlt0 : ∀ x ∈ p0, x.block < W.heap.size := fun x hx => hall x (by simp [hx])
  have hlt1 : ∀ x ∈ p1, x.block < W.heap.size := fun x hx => hall x (by simp [hx])
  refine ((patKinds_walk (w := W) hzs0 hzs1 z0 z1)).mono fun e W' ⟨he, bel⟩ => ?_
  subst he
  exact ⟨_, rfl, _, _, _, [], p0 ++ (p1 ++ []), [], hW', trodAll_cons_mk (shut_bool Try.underlying4 _) trodAll_mk0, (trodAll_cons_mk (Below.trod laidOut (by kernel_rfl) (of_decide_eq_true (by kernel_rfl)) h0 bel hlt0) (trodAll_cons_mk (Below.trod laidOut (by kernel_rfl) (of_decide_eq_true (by kernel_rfl)) h1 bel hlt1) trodAll_mk0)), rfl, bel.frame _, fun h => by cases h⟩

theorem over : Rows.patKindsRow.holds Try.pinned (OpenSpec.ofChange Rows.patKindsSpec) :=
  OpenClaim.holds_of_wide 7 Try.f7 rfl rfl rfl rfl rfl rfl rfl ⟨rfl, rfl, rfl, rfl, rfl⟩ rfl rfl rfl rfl rfl (by kernel_rfl) Try.func7 (by kernel_rfl)
    (of_decide_eq_true (by kernel_rfl)) (by unfold Func.isWrapper; first | (rw [if_pos (by decide +kernel)]; kernel_rfl) | (rw [if_neg (by decide +kernel)]; exact ⟨rfl, rfl⟩))
    (fun os started H enc _ => lifted os started H enc)
end patKinds

theorem patKinds_holds : Rows.PatKindsSaid := patKinds.over
end Go.Proofs.Ytponepcgokfiiaa
