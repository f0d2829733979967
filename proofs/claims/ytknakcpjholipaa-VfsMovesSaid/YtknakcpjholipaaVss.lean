/- VfsMoves: for every three slices of bytes and every number the law answers true: a file that is renamed has its bytes, safe or not, in the place of another one. No condition. -/
import Derived.Test.YtknakcpjholipaaRows
import Derived.Test.YtknakcpjholipaaVs
import Derived.Test.YtknakcpjholipaaLz
import Derived.ProofKit
import Derived.OpenShut
import Derived.ShutString
import Derived.SizedLaws
import Derived.Carry
namespace Go.Proofs.Ytknakcpjholipaa
open Go.RowKit

namespace vfsMoves
open Go.ChangeShapes Go.WideShapes Go.ChangeAt Go.Deep
open Go.ChangeMaps (open_string shut_string)
theorem own : ownKnob Try.prog.godebug = none := by kernel_rfl
theorem laidOut : laidOutB Try.prog = true := by kernel_rfl
set_option maxRecDepth 100000 in
theorem lifted (os : Os) (started : os.Started) (H : Type) (enc : TypeId × Value → H) :
    ReturnsInHanded {} Try.checked os 6 .any (Rows.vfsMovesSpec.pre6 enc Try.prog Try.f6 Rows.vfsMovesRow.domain false) (Rows.vfsMovesSpec.post enc Try.prog Try.f6 false true false false) := by
  refine returnsInHanded_of_change_sized (C := Try.checked) own started (by kernel_rfl) Try.func6
    (ChangeSpec.witness6 (enc := enc) (C := Try.checked) false ⟨#[], #[.slice none 0 0, .slice none 0 0, .slice none 0 0, .int .i64 0], []⟩ 8 (by kernel_rfl) (by kernel_rfl) (by kernel_rfl) (by kernel_rfl)) ?_
  intro W base args ds gs before hval0 hW hcnd hsz0 _
  have hval : ∀ (j : Nat) t v, Try.f6.params[j]? = some t → args[j]? = some v → Value.okWide Try.prog W .any base t v := hval0
  have hW' := hW
  obtain ⟨p, q, hA0, hV, rfl, hfz, hnd⟩ := hW
  have hA : DataW.TrodAll enc Try.prog W 0 (fun _ => true) true Try.f6.params.toList args.toList ds p := hA0
  have hsz : (DataW.weightsEach Try.prog (Try.f6.params.toList ++ Rows.vfsMovesSpec.plain.varTypes Try.prog) (ds ++ gs)).all (· ≤ reachBytes) = true := hsz0
  rw [Try.params6] at hA hval hsz
  obtain ⟨v0, vs0, d0, ds0, p0, q0, hargs, rfl, rfl, h0, r0⟩ := trodAll_cons hA
  obtain ⟨v1, vs1, d1, ds1, p1, q1, rfl, rfl, rfl, h1, r1⟩ := trodAll_cons r0
  obtain ⟨v2, vs2, d2, ds2, p2, q2, rfl, rfl, rfl, h2, r2⟩ := trodAll_cons r1
  obtain ⟨v3, vs3, d3, ds3, p3, q3, rfl, rfl, rfl, h3, r3⟩ := trodAll_cons r2
  obtain ⟨rfl, rfl, rfl⟩ := trodAll_nil r3
  obtain rfl : args = #[v0, v1, v2, v3] := by cases args; simp_all
  obtain ⟨rfl, rfl⟩ := trodVars_none hV
  obtain ⟨a0, len0, cap0, rfl⟩ := okWide_slice Try.underlying30 (hval 0 30 v0 rfl rfl)
  obtain ⟨fuel0, hf0⟩ := id h0
  obtain ⟨zs0, hzs0, hlen0⟩ := open_B (x := (d0, p0)) (by simpa [Value.cells] using hf0)
  have z0 : len0 ≤ 140737488355328 := by
    rcases open_len Try.underlying30 (show DataW.trod enc Try.prog W 0 (fun _ => true) true fuel0 30 [.slice a0 len0 cap0] = some (d0, p0) by simpa [Value.cells] using hf0) with h | ⟨el, sp, e, hl⟩
    · omega
    · subst e
      have := sized_slice hsz (j := 0) (t := 30) (e := 5) rfl rfl Try.underlying30
      rw [bytes_byte] at this
      unfold reachBytes at this
      omega
  obtain ⟨a1, len1, cap1, rfl⟩ := okWide_slice Try.underlying30 (hval 1 30 v1 rfl rfl)
  obtain ⟨fuel1, hf1⟩ := id h1
  obtain ⟨zs1, hzs1, hlen1⟩ := open_B (x := (d1, p1)) (by simpa [Value.cells] using hf1)
  have z1 : len1 ≤ 140737488355328 := by
    rcases open_len Try.underlying30 (show DataW.trod enc Try.prog W 0 (fun _ => true) true fuel1 30 [.slice a1 len1 cap1] = some (d1, p1) by simpa [Value.cells] using hf1) with h | ⟨el, sp, e, hl⟩
    · omega
    · subst e
      have := sized_slice hsz (j := 1) (t := 30) (e := 5) rfl rfl Try.underlying30
      rw [bytes_byte] at this
      unfold reachBytes at this
      omega
  obtain ⟨a2, len2, cap2, rfl⟩ := okWide_slice Try.underlying30 (hval 2 30 v2 rfl rfl)
  obtain ⟨fuel2, hf2⟩ := id h2
  obtain ⟨zs2, hzs2, hlen2⟩ := open_B (x := (d2, p2)) (by simpa [Value.cells] using hf2)
  have z2 : len2 ≤ 140737488355328 := by
    rcases open_len Try.underlying30 (show DataW.trod enc Try.prog W 0 (fun _ => true) true fuel2 30 [.slice a2 len2 cap2] = some (d2, p2) by simpa [Value.cells] using hf2) with h | ⟨el, sp, e, hl⟩
    · omega
    · subst e
      have := sized_slice hsz (j := 2) (t := 30) (e := 5) rfl rfl Try.underlying30
      rw [bytes_byte] at this
      unfold reachBytes at this
      omega
  obtain ⟨a3, rfl, rfl, rfl, w3⟩ := open_int Try.underlying3 (hval 3 3 v3 rfl rfl) h3
  clear hA0 hval0
  have hall : ∀ x, x ∈ (p0 ++ (p1 ++ (p2 ++ ([] ++ []))) : List MemPlace) → x.block < W.heap.size := fun x hx => by have := hW'.lt x (by simpa using hx); simpa using this
  have hlt0 : ∀ x ∈ p0, x.block < W.heap.size := fun x hx => hall x (by simp [hx])
  have hlt1 : ∀ x ∈ p1, x.block < W.heap.size := fun x hx => hall x (by simp [hx])
  have hlt2 : ∀ x ∈ p2, x.block < W.heap.size := fun x hx => hall x (by simp [hx])
  refine (vfsMoves_walk a0 a1 a2 len0 cap0 len1 cap1 len2 cap2 zs0 zs1 zs2 a3 W hzs0 hzs1 hzs2 z0 z1 z2).mono fun e W' ⟨he, bel⟩ => ?_
  subst he
  exact ⟨_, rfl, _, _, _, [], p0 ++ (p1 ++ (p2 ++ ([] ++ []))), [], hW', trodAll_cons_mk (shut_bool Try.underlying4 _) trodAll_mk0, (trodAll_cons_mk (Below.trod laidOut (by kernel_rfl) (of_decide_eq_true (by kernel_rfl)) h0 bel hlt0) (trodAll_cons_mk (Below.trod laidOut (by kernel_rfl) (of_decide_eq_true (by kernel_rfl)) h1 bel hlt1) (trodAll_cons_mk (Below.trod laidOut (by kernel_rfl) (of_decide_eq_true (by kernel_rfl)) h2 bel hlt2) (trodAll_cons_mk (shut_int Try.underlying3 w3) trodAll_mk0)))), rfl, bel.frame _, fun h => by cases h⟩

theorem over : Rows.vfsMovesRow.holds Try.pinned (OpenSpec.ofChange Rows.vfsMovesSpec) :=
  OpenClaim.holds_of_wide 6 Try.f6 rfl rfl rfl rfl rfl rfl rfl ⟨rfl, rfl, rfl, rfl, rfl⟩ rfl rfl rfl rfl rfl (by kernel_rfl) Try.func6 (by kernel_rfl)
    (of_decide_eq_true (by kernel_rfl)) (by unfold Func.isWrapper; first | (rw [if_pos (by decide +kernel)]; kernel_rfl) | (rw [if_neg (by decide +kernel)]; exact ⟨rfl, rfl⟩))
    (fun os started H enc _ => lifted os started H enc)
end vfsMoves

theorem vfsMoves_holds : Rows.VfsMovesSaid := vfsMoves.over
end Go.Proofs.Ytknakcpjholipaa
