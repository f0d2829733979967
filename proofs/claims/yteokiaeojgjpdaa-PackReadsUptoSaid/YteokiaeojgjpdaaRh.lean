/- PackReads, plain: what has been read stands at the beginning of what will have been. No program. -/
import Derived.Test.YteokiaeojgjpdaaRe
namespace Go.Proofs.Yteokiaeojgjpdaa

/-- s is what s2 begins with. -/
def RSt.Pre (s s2 : RSt) : Prop := s.nums <+: s2.nums ∧ s.texts <+: s2.texts ∧ s.left <+: s2.left
theorem RSt.Pre.refl (s : RSt) : s.Pre s := ⟨List.prefix_refl _, List.prefix_refl _, List.prefix_refl _⟩
theorem RSt.Pre.trans {a b c : RSt} (h : a.Pre b) (k : b.Pre c) : a.Pre c := ⟨h.1.trans k.1, h.2.1.trans k.2.1, h.2.2.trans k.2.2⟩
theorem RSt.pre_add (s : RSt) (r : List Nat × List (List UInt8) × List UInt8) : s.Pre (s.add r) := ⟨List.prefix_append _ _, List.prefix_append _ _, List.prefix_append _ _⟩
theorem goC_pre : ∀ (cs : List Int) (s : RSt), s.Pre (goC cs s).1
  | [], s => RSt.Pre.refl s
  | c :: cs, s => by
    rw [goC]
    cases h : stepC c s.rest with
    | none => exact RSt.Pre.refl s
    | some r => exact (s.pre_add r).trans (goC_pre cs (s.add r))
/-- As many numbers of what is left as calls that were not refused. -/
theorem goC_left : ∀ (cs : List Int) (s : RSt), (goC cs s).2 = true → (goC cs s).1.left.length = s.left.length + cs.length
  | [], s, _ => by simp [goC]
  | c :: cs, s, h => by
    rw [goC] at h ⊢
    cases hs : stepC c s.rest with
    | none => rw [hs] at h; cases h
    | some r =>
      rw [hs] at h
      rw [goC_left cs (s.add r) h]
      simp [RSt.add]; omega
/-- The next number that was read stands where it was put. -/
theorem goC_num {c : Int} {cs : List Int} {s : RSt} {n : Nat} {rest : List UInt8} (h : stepC c s.rest = some ([n], [], rest)) : (goC (c :: cs) s).1.nums[s.nums.length]? = some n := by
  rw [goC_step h]
  obtain ⟨t, ht⟩ := (goC_pre cs (s.add ([n], [], rest))).1
  rw [← ht]
  simp [RSt.add]
theorem goC_text {c : Int} {cs : List Int} {s : RSt} {l rest : List UInt8} (h : stepC c s.rest = some ([], [l], rest)) : (goC (c :: cs) s).1.texts[s.texts.length]? = some l := by
  rw [goC_step h]
  obtain ⟨t, ht⟩ := (goC_pre cs (s.add ([], [l], rest))).2.1
  rw [← ht]
  simp [RSt.add]
theorem goC_len {c : Int} {cs : List Int} {s : RSt} {r : List Nat × List (List UInt8) × List UInt8} (h : stepC c s.rest = some r) : (goC (c :: cs) s).1.left[s.left.length]? = some r.2.2.length := by
  rw [goC_step h]
  obtain ⟨t, ht⟩ := (goC_pre cs (s.add r)).2.2
  rw [← ht]
  simp [RSt.add]
end Go.Proofs.Yteokiaeojgjpdaa
