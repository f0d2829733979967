/- A drawn region by a relation that every operation keeps, whichever comes next. -/
import Derived.Test.YtplenagncmhhoaaDoorSoA
namespace Go.Proofs.YtplenagncmhhoaaDoor
open Go.RowKit

/-- What has come up, with one more. -/
def upF (f : Nat → Bool) (i : Nat) : Nat → Bool := fun j => if j = i then true else f j
def sl (a : Act) (t : Nat) : Value := a.tmps.getD t undef
theorem sl_put (a : Act) (d t : Nat) (v : Value) (hd : d < a.tmps.size) : sl (a.put (some d) v) t = if t = d then v else sl a t := by
  unfold sl Act.put
  simp only [Array.getD_eq_getD_getElem?, Array.getElem?_setIfInBounds]
  by_cases h : t = d
  · subst h; simp [hd]
  · simp [h, Ne.symm h]
theorem put_size (a : Act) (d : Nat) (v : Value) : (a.put (some d) v).tmps.size = a.tmps.size := by simp [Act.put]
theorem count_set : ∀ (L : List Bool) (i : Nat), L[i]? = some false → ((L.set i true).filter fun b => !b).length + 1 = (L.filter fun b => !b).length
  | [], i, h => by simp at h
  | x :: r, 0, h => by
    have h : x = false := by simpa using h
    subst h; simp
  | x :: r, i + 1, h => by
    have ih := count_set r i (by simpa using h)
    cases x
    · show ((false :: r.set i true).filter fun b => !b).length + 1 = _
      simpa using ih
    · show ((true :: r.set i true).filter fun b => !b).length + 1 = _
      simpa using ih
section
variable {P : Program} {ops : Array Oper} {Q : Exit → Act → World → Prop}
theorem wpAny_inv (I : (Nat → Bool) → Act → World → Prop)
    (hacy : ∀ (i : Nat) o, ops[i]? = some o → ∀ e ∈ o.after, Region.binds .any e = true → e.on < i)
    (hstep : ∀ f a w (i : Nat) o, I f a w → ops[i]? = some o → f i = false → (∀ e ∈ o.after, Region.binds .any e = true → f e.on = true) → if Region.wanted o (yielded ops a.tmps) = true then o.wp P a w (I (upF f i)) Q else I (upF f i) (a.put o.dst undef) w)
    (hdone : ∀ f a w, I f a w → (∀ i, i < ops.size → f i = true) → Q .normal a w) :
    ∀ (fuel : Nat) (l : Array Bool) (a : Act) (w : World), l.size = ops.size → (l.toList.filter fun b => !b).length ≤ fuel → I (fun j => l.getD j false) a w → wpAny P .any ops Q fuel l a w := by
  have hall : ∀ (l : Array Bool), l.size = ops.size → Region.ready .any ops l = [] → ∀ i, i < ops.size → l.getD i false = true := by
    intro l hl hr i
    induction i using Nat.strongRecOn with
    | _ i ih =>
      intro hi
      cases hb : l.getD i false with
      | true => rfl
      | false =>
        have hb2 : l.getD i true = false := by
          have h1 : i < l.size := by omega
          simp only [Array.getD_eq_getD_getElem?, Array.getElem?_eq_getElem h1, Option.getD_some] at hb ⊢
          exact hb
        have : i ∈ Region.ready .any ops l := mem_ready.2 ⟨hb2, ops[i], Array.getElem?_eq_getElem hi, fun e he hbi => ih e.on (hacy i _ (Array.getElem?_eq_getElem hi) e he hbi) (by have := hacy i _ (Array.getElem?_eq_getElem hi) e he hbi; omega)⟩
        rw [hr] at this; cases this
  intro fuel
  induction fuel with
  | zero =>
    intro l a w hl hf hI
    have hnil : Region.ready .any ops l = [] := by
      rw [List.eq_nil_iff_forall_not_mem]
      intro i hi
      obtain ⟨h1, _⟩ := mem_ready.1 hi
      have hlt : i < l.size := by
        rcases Nat.lt_or_ge i l.size with h | h
        · exact h
        · rw [Array.getD_eq_getD_getElem?, Array.getElem?_eq_none h] at h1; cases h1
      have hm : l[i] ∈ l.toList.filter fun b => !b := by
        rw [List.mem_filter]
        refine ⟨by simp, ?_⟩
        rw [Array.getD_eq_getD_getElem?, Array.getElem?_eq_getElem hlt] at h1
        simpa using h1
      have := List.length_pos_of_mem hm
      omega
    exact ⟨hnil, hdone _ a w hI (hall l hl hnil)⟩
  | succ fuel ih =>
    intro l a w hl hf hI
    refine ⟨fun hr => hdone _ a w hI (hall l hl hr), fun i hi => ?_⟩
    obtain ⟨h1, o, ho, hafter⟩ := mem_ready.1 hi
    have hlt : i < l.size := by
      rcases Nat.lt_or_ge i l.size with h | h
      · exact h
      · rw [Array.getD_eq_getD_getElem?, Array.getElem?_eq_none h] at h1; cases h1
    have hfi : l.getD i false = false := by
      simp only [Array.getD_eq_getD_getElem?, Array.getElem?_eq_getElem hlt, Option.getD_some] at h1 ⊢
      exact h1
    have hs := hstep _ a w i o hI ho hfi hafter
    have hup : (fun j => (l.setIfInBounds i true).getD j false) = upF (fun j => l.getD j false) i := by
      funext j
      unfold upF
      simp only [Array.getD_eq_getD_getElem?, Array.getElem?_setIfInBounds]
      by_cases h : j = i
      · subst h; simp [hlt]
      · simp [h, Ne.symm h]
    have hcount : ((l.setIfInBounds i true).toList.filter fun b => !b).length ≤ fuel := by
      have hset : (l.setIfInBounds i true).toList = l.toList.set i true := by simp
      have hb : l.toList[i]? = some false := by
        simp only [Array.getD_eq_getD_getElem?, Array.getElem?_eq_getElem hlt, Option.getD_some] at hfi
        simp [hlt, hfi]
      have := count_set _ _ hb
      rw [hset]; omega
    have hk : ∀ a' w', I (upF (fun j => l.getD j false) i) a' w' → wpAny P .any ops Q fuel (l.setIfInBounds i true) a' w' := fun a' w' h => ih _ a' w' (by simpa using hl) hcount (by rw [hup]; exact h)
    unfold wpOp
    rw [ho]
    simp only
    split
    · rename_i hw
      rw [if_pos hw] at hs
      exact .inl (Oper.wp_mono hk hs)
    · rename_i hw
      rw [if_neg hw] at hs
      exact hk _ _ hs
/-- A DRAWN REGION, by a relation that stands at its beginning and that every operation keeps when it may come next. -/
theorem wp_region_inv {id : Nat} {a : Act} {w : World} (hm : P.follows .mixedOrders = true) (I : (Nat → Bool) → Act → World → Prop)
    (hacy : ∀ (i : Nat) o, ops[i]? = some o → ∀ e ∈ o.after, Region.binds .any e = true → e.on < i)
    (h0 : I (fun _ => false) a w.drew)
    (hstep : ∀ f a w (i : Nat) o, I f a w → ops[i]? = some o → f i = false → (∀ e ∈ o.after, Region.binds .any e = true → f e.on = true) → if Region.wanted o (yielded ops a.tmps) = true then o.wp P a w (I (upF f i)) Q else I (upF f i) (a.put o.dst undef) w)
    (hdone : ∀ f a w, I f a w → (∀ i, i < ops.size → f i = true) → Q .normal a w) : (Code.region id ops true).wp P Q a w := by
  refine wp_region_any hm (wpAny_inv I hacy hstep hdone ops.size _ a _ (by simp) ?_ ?_)
  · exact Nat.le_trans (List.length_filter_le _ _) (by simp)
  · have : (fun j => (Array.replicate ops.size false).getD j false) = fun _ => false := by
      funext j
      simp only [Array.getD_eq_getD_getElem?, Array.getElem?_replicate]
      split <;> rfl
    rw [this]
    exact h0
end
end Go.Proofs.YtplenagncmhhoaaDoor
