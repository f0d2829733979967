/- In every buffer that piece is found which the document says, and the buffer stays: for every kind, text and all bytes PatFinds answers true. -/
import Derived.Test.YtjnhmcgjeljcmaaRows
import Derived.Test.YtjnhmcgjeljcmaaIn
import Derived.Test.YtjnhmcgjeljcmaaLc
import Derived.ProofKit
import Derived.OpenShut
import Derived.ShutString
import Derived.SizedLaws
import Derived.Carry
namespace Go.Proofs.Ytjnhmcgjeljcmaa
open Go.RowKit

namespace patFinds
open Go.ChangeShapes Go.WideShapes Go.ChangeAt Go.Deep
open Go.ChangeMaps (open_string shut_string)
theorem own : ownKnob Try.prog.godebug = none := by kernel_rfl
theorem laidOut : laidOutB Try.prog = true := by kernel_rfl
set_option maxRecDepth 100000 in
theorem lifted (os : Os) (started : os.Started) (H : Type) (enc : TypeId × Value → H) :
    ReturnsInHanded {} Try.checked os 9 .any (Rows.patFindsSpec.pre6 enc Try.prog Try.f9 Rows.patFindsRow.domain false) (Rows.patFindsSpec.post enc Try.prog Try.f9 false true false false) := by
  refine returnsInHanded_of_change_sized (C := Try.checked) own started (by kernel_rfl) Try.func9
    (ChangeSpec.witness6 (enc := enc) (C := Try.checked) false ⟨#[], #[.int .i64 0, .string ByteArray.empty, .slice none 0 0], []⟩ 8 (by kernel_rfl) (by kernel_rfl) (by kernel_rfl) (by kernel_rfl)) ?_
  intro W base args ds gs before hval0 hW hcnd hsz0 _
  have hval : ∀ (j : Nat) t v, Try.f9.params[j]? = some t → args[j]? = some v → Value.okWide Try.prog W .any base t v := hval0
  have hW' := hW
  obtain ⟨p, q, hA0, hV, rfl, hfz, hnd⟩ := hW
  have hA : DataW.TrodAll enc Try.prog W 0 (fun _ => true) true Try.f9.params.toList args.toList ds p := hA0
  have hsz : (DataW.weightsEach Try.prog (Try.f9.params.toList ++ Rows.patFindsSpec.plain.varTypes Try.prog) (ds ++ gs)).all (· ≤ reachBytes) = true := hsz0
  rw [Try.params9] at hA hval hsz
  obtain ⟨v0, vs0, d0, ds0, p0, q0, hargs, rfl, rfl, h0, r0⟩ := trodAll_cons hA
  obtain ⟨v1, vs1, d1, ds1, p1, q1, rfl, rfl, rfl, h1, r1⟩ := trodAll_cons r0
  obtain ⟨v2, vs2, d2, ds2, p2, q2, rfl, rfl, rfl, h2, r2⟩ := trodAll_cons r1
  obtain ⟨rfl, rfl, rfl⟩ := trodAll_nil r2
  obtain rfl : args = #[v0, v1, v2] := by cases args; simp_all
  obtain ⟨rfl, rfl⟩ := trodVars_none hV
  obtain ⟨a0, rfl, rfl, rfl, w0⟩ := open_int Try.underlying3 (hval 0 3 v0 rfl rfl) h0
  obtain ⟨a1, rfl, rfl, rfl, w1⟩ := open_string Try.underlying9 (hval 1 9 v1 rfl rfl) h1
  obtain ⟨a2, len2, cap2, rfl⟩ := okWide_slice Try.underlying51 (hval 2 51 v2 rfl rfl)
  obtain ⟨fuel2, hf2⟩ := id h2
  obtain ⟨zs2, hzs2, hlen2⟩ := open_B (x := (d2, p2)) (by simpa [Value.cells] using hf2)
  have hcap2 := open_cap Try.underlying51 (show DataW.trod enc Try.prog W 0 (fun _ => true) true fuel2 51 [.slice a2 len2 cap2] = some (d2, p2) by simpa [Value.cells] using hf2)
  have z2 : len2 ≤ 140737488355328 := by
    rcases open_len Try.underlying51 (show DataW.trod enc Try.prog W 0 (fun _ => true) true fuel2 51 [.slice a2 len2 cap2] = some (d2, p2) by simpa [Value.cells] using hf2) with h | ⟨el, sp, e, hl⟩
    · omega
    · subst e
      have := sized_slice hsz (j := 2) (t := 51) (e := 5) rfl rfl Try.underlying51
      rw [bytes_byte] at this
      unfold reachBytes at this
      omega
  clear hA0 hval0
  have hall : ∀ x, x ∈ ([] ++ ([] ++ (p2 ++ [])) : List MemPlace) → x.block < W.heap.size := fun x hx => by have := hW'.lt x (by simpa using hx); simpa using this
  have hlt2 : ∀ x ∈ p2, x.block < W.heap.size := fun x hx => hall x (by simp [hx])
  refine (patFinds_walk a0 a1 w1 hzs2 hcap2.1 z2).mono fun e W' ⟨he, bel⟩ => ?_
  subst he
  exact ⟨_, rfl, _, _, _, [], [] ++ ([] ++ (p2 ++ [])), [], hW', trodAll_cons_mk (shut_bool Try.underlying4 _) trodAll_mk0, (trodAll_cons_mk (shut_int Try.underlying3 w0) (trodAll_cons_mk (shut_string Try.underlying9 w1) (trodAll_cons_mk (Below.trod laidOut (by kernel_rfl) (of_decide_eq_true (by kernel_rfl)) h2 bel hlt2) trodAll_mk0))), rfl, bel.frame _, fun h => by cases h⟩

theorem over : Rows.patFindsRow.holds Try.pinned (OpenSpec.ofChange Rows.patFindsSpec) :=
  OpenClaim.holds_of_wide 9 Try.f9 rfl rfl rfl rfl rfl rfl rfl ⟨rfl, rfl, rfl, rfl, rfl⟩ rfl rfl rfl rfl rfl (by kernel_rfl) Try.func9 (by kernel_rfl)
    (of_decide_eq_true (by kernel_rfl)) (by unfold Func.isWrapper; first | (rw [if_pos (by decide +kernel)]; kernel_rfl) | (rw [if_neg (by decide +kernel)]; exact ⟨rfl, rfl⟩))
    (fun os started H enc _ => lifted os started H enc)
end patFinds

theorem patFinds_holds : Rows.PatFindsSaid := patFinds.over
end Go.Proofs.Ytjnhmcgjeljcmaa
