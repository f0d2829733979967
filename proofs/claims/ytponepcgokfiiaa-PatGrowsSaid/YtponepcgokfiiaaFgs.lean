/- What is found in a buffer is found, not later, in one that begins with it; what is found lies in the buffer, and is found in itself as a whole: for every kind, every text and every two lists of bytes PatGrows answers true. -/
import Derived.Test.YtponepcgokfiiaaRows
import Derived.Test.YtponepcgokfiiaaFg
import Derived.Test.YtponepcgokfiiaaLc
import Derived.ProofKit
import Derived.OpenShut
import Derived.ShutString
import Derived.SizedLaws
import Derived.Carry
namespace Go.Proofs.Ytponepcgokfiiaa
open Go.RowKit

namespace patGrows
open Go.ChangeShapes Go.WideShapes Go.ChangeAt Go.Deep
open Go.ChangeMaps (open_string shut_string)
theorem own : ownKnob Try.prog.godebug = none := by kernel_rfl
theorem laidOut : laidOutB Try.prog = true := by kernel_rfl
set_option maxRecDepth 100000 in
theorem lifted (os : Os) (started : os.Started) (H : Type) (enc : TypeId × Value → H) :
    ReturnsInHanded {} Try.checked os 5 .any (Rows.patGrowsSpec.pre6 enc Try.prog Try.f5 Rows.patGrowsRow.domain false) (Rows.patGrowsSpec.post enc Try.prog Try.f5 false true false false) := by
  refine returnsInHanded_of_change_sized (C := Try.checked) own started (by kernel_rfl) Try.func5
    (ChangeSpec.witness6 (enc := enc) (C := Try.checked) false ⟨#[], #[.int .i64 0, .string ByteArray.empty, .slice none 0 0, .slice none 0 0], []⟩ 8 (by kernel_rfl) (by kernel_rfl) (by kernel_rfl) (by kernel_rfl)) ?_
  intro W base args ds gs before hval0 hW hcnd hsz0 _
  have hval : ∀ (j : Nat) t v, Try.f5.params[j]? = some t → args[j]? = some v → Value.okWide Try.prog W .any base t v := hval0
  have hW' := hW
  obtain ⟨p, q, hA0, hV, rfl, hfz, hnd⟩ := hW
  have hA : DataW.TrodAll enc Try.prog W 0 (fun _ => true) true Try.f5.params.toList args.toList ds p := hA0
  have hsz : (DataW.weightsEach Try.prog (Try.f5.params.toList ++ Rows.patGrowsSpec.plain.varTypes Try.prog) (ds ++ gs)).all (· ≤ reachBytes) = true := hsz0
  rw [Try.params5] at hA hval hsz
  obtain ⟨v0, vs0, d0, ds0, p0, q0, hargs, rfl, rfl, h0, r0⟩ := trodAll_cons hA
  obtain ⟨v1, vs1, d1, ds1, p1, q1, rfl, rfl, rfl, h1, r1⟩ := trodAll_cons r0
  obtain ⟨v2, vs2, d2, ds2, p2, q2, rfl, rfl, rfl, h2, r2⟩ := trodAll_cons r1
  obtain ⟨v3, vs3, d3, ds3, p3, q3, rfl, rfl, rfl, h3, r3⟩ := trodAll_cons r2
  obtain ⟨rfl, rfl, rfl⟩ := trodAll_nil r3
  obtain rfl : args = #[v0, v1, v2, v3] := by cases args; simp_all
  obtain ⟨rfl, rfl⟩ := trodVars_none hV
  obtain ⟨a0, rfl, rfl, rfl, w0⟩ := open_int Try.underlying3 (hval 0 3 v0 rfl rfl) h0
  obtain ⟨a1, rfl, rfl, rfl, w1⟩ := open_string Try.underlying9 (hval 1 9 v1 rfl rfl) h1
  obtain ⟨a2, len2, cap2, rfl⟩ := okWide_slice Try.underlying38 (hval 2 38 v2 rfl rfl)
  obtain ⟨fuel2, hf2⟩ := id h2
  obtain ⟨zs2, hzs2, hlen2⟩ := open_B (x := (d2, p2)) (by simpa [Value.cells] using hf2)
  have hcap2 := open_cap Try.underlying38 (show DataW.trod enc Try.prog W 0 (fun _ => true) true fuel2 38 [.slice a2 len2 cap2] = some (d2, p2) by simpa [Value.cells] using hf2)
  have z2 : len2 ≤ 140737488355328 := by
    rcases open_len Try.underlying38 (show DataW.trod enc Try.prog W 0 (fun _ => true) true fuel2 38 [.slice a2 len2 cap2] = some (d2, p2) by simpa [Value.cells] using hf2) with h | ⟨el, sp, e, hl⟩
    · omega
    · subst e
      have := sized_slice hsz (j := 2) (t := 38) (e := 5) rfl rfl Try.underlying38
      rw [bytes_byte] at this
      unfold reachBytes at this
      omega
  obtain ⟨a3, len3, cap3, rfl⟩ := okWide_slice Try.underlying38 (hval 3 38 v3 rfl rfl)
  obtain ⟨fuel3, hf3⟩ := id h3
  obtain ⟨zs3, hzs3, hlen3⟩ := open_B (x := (d3, p3)) (by simpa [Value.cells] using hf3)
  have hcap3 := open_cap Try.underlying38 (show DataW.trod enc Try.prog W 0 (fun _ => true) true fuel3 38 [.slice a3 len3 cap3] = some (d3, p3) by simpa [Value.cells] using hf3)
  have z3 : len3 ≤ 140737488355328 := by
    rcases open_len Try.underlying38 (show DataW.trod enc Try.prog W 0 (fun _ => true) true fuel3 38 [.slice a3 len3 cap3] = some (d3, p3) by simpa [Value.cells] using hf3) with h | ⟨el, sp, e, hl⟩
    · omega
    · subst e
      have := sized_slice hsz (j := 3) (t := 38) (e := 5) rfl rfl Try.underlying38
      rw [bytes_byte] at this
      unfold reachBytes at this
      omega
  clear hA0 hval0
  have hall : ∀ x, x ∈ ([] ++ ([] ++ (p2 ++ (p3 ++ []))) : List MemPlace) → x.block < W.heap.size := fun x hx => by have := hW'.lt x (by simpa using hx); simpa using this
  have hlt2 : ∀ x ∈ p2, x.block < W.heap.size := fun x hx => hall x (by simp [hx])
  have hlt3 : ∀ x ∈ p3, x.block < W.heap.size := fun x hx => hall x (by simp [hx])
  refine ((patGrows_walk (w := W) a0 a1 w1 hzs2 hzs3 hcap2.1 z2 z3)).mono fun e W' ⟨he, bel⟩ => ?_
  subst he
  exact ⟨_, rfl, _, _, _, [], [] ++ ([] ++ (p2 ++ (p3 ++ []))), [], hW', trodAll_cons_mk (shut_bool Try.underlying4 _) trodAll_mk0, (trodAll_cons_mk (shut_int Try.underlying3 w0) (trodAll_cons_mk (shut_string Try.underlying9 w1) (trodAll_cons_mk (Below.trod laidOut (by kernel_rfl) (of_decide_eq_true (by kernel_rfl)) h2 bel hlt2) (trodAll_cons_mk (Below.trod laidOut (by kernel_rfl) (of_decide_eq_true (by kernel_rfl)) h3 bel hlt3) trodAll_mk0)))), rfl, bel.frame _, fun h => by cases h⟩

theorem over : Rows.patGrowsRow.holds Try.pinned (OpenSpec.ofChange Rows.patGrowsSpec) :=
  OpenClaim.holds_of_wide 5 Try.f5 rfl rfl rfl rfl rfl rfl rfl ⟨rfl, rfl, rfl, rfl, rfl⟩ rfl rfl rfl rfl rfl (by kernel_rfl) Try.func5 (by kernel_rfl)
    (of_decide_eq_true (by kernel_rfl)) (by unfold Func.isWrapper; first | (rw [if_pos (by decide +kernel)]; kernel_rfl) | (rw [if_neg (by decide +kernel)]; exact ⟨rfl, rfl⟩))
    (fun os started H enc _ => lifted os started H enc)
end patGrows

theorem patGrows_holds : Rows.PatGrowsSaid := patGrows.over
end Go.Proofs.Ytponepcgokfiiaa
