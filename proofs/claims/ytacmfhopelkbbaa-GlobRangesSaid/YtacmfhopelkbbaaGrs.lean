/- For every slice of ranges and each 'not': glob.Ranges answers the ranges that the reference answers, its answer is new memory, and the argument stays (GlobRanges answers true). No condition. -/
import Derived.Test.YtacmfhopelkbbaaRows
import Derived.Test.YtacmfhopelkbbaaGrw
import Derived.ProofKit
import Derived.OpenShut
import Derived.Deep.Slices
import Derived.SizedLaws
import Derived.Carry
namespace Go.Proofs.Ytacmfhopelkbbaa
open Go.RowKit

namespace globRanges
open Go.ChangeShapes Go.WideShapes Go.ChangeAt Go.Deep
theorem lt_of_cell {w : World} {a : Addr} {v : Value} (h : w.cell? a = some v) : a.block < w.heap.size := by
  unfold World.cell? at h
  rcases Nat.lt_or_ge a.block w.heap.size with h' | h'
  · exact h'
  · rw [Array.getElem?_eq_none h'] at h; simp at h
theorem byte_of {n : Int} (h : (Lit.int .u8 n).wf = true) : ∃ b : UInt8, n = b.toNat := by
  have := bounds_u8 h
  exact ⟨UInt8.ofNat n.toNat, by simp; omega⟩
theorem two_of {l : List Value} (h : l.length = 2) : ∃ a b, l = [a, b] := by
  match l, h with
  | [a, b], _ => exact ⟨a, b, rfl⟩
theorem cells2 : Try.prog.cellsOf 38 = 2 := by kernel_rfl
theorem cells1 : Try.prog.cellsOf 5 = 1 := by kernel_rfl
theorem open_rgs {H : Type} {enc : TypeId × Value → H} {w : World} {fuel : Nat} {a0 : Option Addr} {len cap : Nat} {x : DataW H × List MemPlace}
    (h : DataW.trod enc Try.prog w 0 (fun _ => true) true fuel 23 [.slice a0 len cap] = some x) :
    ∃ rs, RgAt w (· < w.heap.size) a0 len rs ∧ len ≤ maxLen ∧ (a0 = none → cap = 0) ∧ (a0 = none → len = 0) ∧ (∀ ad, a0 = some ad → ∃ es sp, x.1 = .slice es sp ∧ es.length = len) := by
  rcases open_slice Try.underlying23 h with ⟨h0, hx⟩ | ⟨a, len', cap', m, n, D, Pl, hcs, _, hl, hm, hmm, hx, hi⟩
  · simp only [List.cons.injEq, Value.slice.injEq, and_true] at h0
    obtain ⟨rfl, rfl, rfl⟩ := h0
    exact ⟨[], RgAt.nil _ _ _, Nat.zero_le _, fun _ => rfl, fun _ => rfl, fun ad h => by cases h⟩
  · simp only [List.cons.injEq, Value.slice.injEq, and_true] at hcs
    obtain ⟨rfl, rfl, rfl⟩ := hcs
    simp only [if_true] at hmm
    subst hmm
    have hel : ∀ i, i < len → ∃ r : UInt8 × UInt8, w.cell? (a.add (i * 2)) = some (.int .u8 r.1.toNat) ∧ w.cell? (a.add (i * 2 + 1)) = some (.int .u8 r.2.toNat) := by
      intro i hlt
      obtain ⟨cs', hc, ht⟩ := hi i (by omega)
      rw [cells2] at hc
      obtain ⟨_, hcl, hcc⟩ := World.cells?_some hc
      obtain ⟨y0, y1, n', _, _, t0, t1⟩ := trod_struct2 Try.underlying38 ht
      obtain ⟨c0, c1, rfl⟩ := two_of hcl
      · rw [cells1] at t0 t1
        obtain ⟨x0, e0, _, w0⟩ := DataW.trod_int Try.underlying5 t0
        obtain ⟨x1, e1, _, w1⟩ := DataW.trod_int Try.underlying5 t1
        simp at e0 e1
        obtain ⟨b0, rfl⟩ := byte_of w0
        obtain ⟨b1, rfl⟩ := byte_of w1
        have h0 := hcc 0 (by omega)
        have h1 := hcc 1 (by omega)
        rw [add_add] at h0 h1
        refine ⟨(b0, b1), ?_, ?_⟩
        · rw [Nat.add_zero] at h0; rw [h0]; simp [e0]
        · rw [h1]; simp [e1]
    obtain ⟨f, hf⟩ := choose_lt hel
    refine ⟨(List.range len).map f, ⟨by simp, fun hn => ?_⟩, by omega, (fun h => by cases h), (fun h => by cases h), fun ad h => ⟨_, _, by rw [hx], by simp⟩⟩
    obtain ⟨b, off, spot⟩ := a
    have hspot : spot = none := by simpa [Addr.add] using World.cell?_spot (hf 0 hn).1
    subst hspot
    refine ⟨b, off, rfl, by simpa [Addr.add] using lt_of_cell (hf 0 hn).1, fun i r hr => ?_⟩
    have hi' : i < len := by have := (List.getElem?_eq_some_iff.1 hr).1; simpa using this
    have hr' : f i = r := by
      rw [List.getElem?_map, List.getElem?_range hi'] at hr
      simpa using hr
    obtain ⟨q0, q1⟩ := hf i hi'
    rw [hr'] at q0 q1
    rw [Addr.add_mid] at q0 q1
    exact ⟨q0, q1⟩

theorem own : ownKnob Try.prog.godebug = none := by kernel_rfl
theorem laidOut : laidOutB Try.prog = true := by kernel_rfl
set_option maxRecDepth 100000 in
theorem lifted (os : Os) (started : os.Started) (H : Type) (enc : TypeId × Value → H) :
    ReturnsInHanded {} Try.checked os 5 .any (Rows.globRangesSpec.pre6 enc Try.prog Try.f5 Rows.globRangesRow.domain false) (Rows.globRangesSpec.post enc Try.prog Try.f5 false true false false) := by
  refine returnsInHanded_of_change_sized (C := Try.checked) own started (by kernel_rfl) Try.func5
    (ChangeSpec.witness6 (enc := enc) (C := Try.checked) false ⟨#[], #[.slice none 0 0, .bool false], []⟩ 8 (by kernel_rfl) (by kernel_rfl) (by kernel_rfl) (by kernel_rfl)) ?_
  intro W base args ds gs before hval0 hW hcnd hsz0 _
  have hval : ∀ (j : Nat) t v, Try.f5.params[j]? = some t → args[j]? = some v → Value.okWide Try.prog W .any base t v := hval0
  have hW' := hW
  obtain ⟨p, q, hA0, hV, rfl, hfz, hnd⟩ := hW
  have hA : DataW.TrodAll enc Try.prog W 0 (fun _ => true) true Try.f5.params.toList args.toList ds p := hA0
  have hsz : (DataW.weightsEach Try.prog (Try.f5.params.toList ++ Rows.globRangesSpec.plain.varTypes Try.prog) (ds ++ gs)).all (· ≤ reachBytes) = true := hsz0
  rw [Try.params5] at hA hval hsz
  obtain ⟨v0, v1, d0, d1, p0, p1, rfl, rfl, rfl, h0, h1⟩ := trodAll_two hA
  obtain ⟨rfl, rfl⟩ := trodVars_none hV
  obtain ⟨neg, rfl, rfl, rfl⟩ := open_bool Try.underlying4 (hval 1 4 v1 rfl rfl) h1
  obtain ⟨a0, len, cap, rfl⟩ := okWide_slice Try.underlying23 (hval 0 23 v0 rfl rfl)
  obtain ⟨fuel, hf⟩ := id h0
  obtain ⟨rs, hrg, hlen, hc0, hl0, hd0⟩ := open_rgs (x := (d0, p0)) (by simpa [Value.cells] using hf)
  have hbytes : len * 2 ≤ 140737488355328 := by
    rcases a0 with _ | ad
    · rw [hl0 rfl]; omega
    · obtain ⟨es, sp, hd, he⟩ := hd0 ad rfl
      simp only at hd
      have hz := sized_slice hsz (j := 0) (t := 23) (elems := es) (spare := sp) rfl (by simp [hd]) Try.underlying23
      have hby : Try.prog.bytesOf 38 = 2 := by kernel_rfl
      rw [hby] at hz
      have := reachBytes_lt
      omega
  clear hA0 hval0
  simp only [List.append_nil] at hW'
  have hlt : ∀ x ∈ p0, x.block < W.heap.size := fun x hx => by simpa using hW'.lt x (by simp [hx])
  refine (globRanges_walk a0 len cap rs neg W hrg hlen hbytes hc0).mono fun e W' ⟨he, bel⟩ => ?_
  subst he
  exact ⟨_, rfl, _, _, _, [], p0 ++ [], [], hW', trodAll_cons_mk (shut_bool Try.underlying4 _) trodAll_mk0,
    trodAll_mk2 (Below.trod laidOut (by kernel_rfl) (of_decide_eq_true (by kernel_rfl)) h0 bel hlt) (shut_bool Try.underlying4 _), rfl, bel.frame _, fun h => by cases h⟩

theorem over : Rows.globRangesRow.holds Try.pinned (OpenSpec.ofChange Rows.globRangesSpec) :=
  OpenClaim.holds_of_wide 5 Try.f5 rfl rfl rfl rfl rfl rfl rfl ⟨rfl, rfl, rfl, rfl, rfl⟩ rfl rfl rfl rfl rfl (by kernel_rfl) Try.func5 (by kernel_rfl)
    (of_decide_eq_true (by kernel_rfl)) (by unfold Func.isWrapper; first | (rw [if_pos (by decide +kernel)]; kernel_rfl) | (rw [if_neg (by decide +kernel)]; exact ⟨rfl, rfl⟩))
    (fun os started H enc _ => lifted os started H enc)
end globRanges

theorem globRanges_holds : Rows.GlobRangesSaid := globRanges.over
end Go.Proofs.Ytacmfhopelkbbaa
