/- Items that have the keys 0, 1, ..: in plain words. -/
import Derived.Test.YtdhiofbimebbkaaDoorJo
namespace Go.Proofs.YtdhiofbimebbkaaDoor
open Go.RowKit Go.Maps Go.Sort

def idxI : Nat → List (List UInt8) → List Itm
  | _, [] => []
  | s, d :: r => (s, d) :: idxI (s + 1) r
theorem idxI_app : ∀ (a b : List (List UInt8)) (s : Nat), idxI s (a ++ b) = idxI s a ++ idxI (s + a.length) b
  | [], b, s => by simp [idxI]
  | x :: a, b, s => by
    show (s, x) :: idxI (s + 1) (a ++ b) = (s, x) :: (idxI (s + 1) a ++ idxI (s + (a.length + 1)) b)
    rw [idxI_app a b (s + 1), show s + 1 + a.length = s + (a.length + 1) by omega]
theorem idxI_snoc (a : List (List UInt8)) (d : List UInt8) : idxI 0 (a ++ [d]) = idxI 0 a ++ [(a.length, d)] := by
  rw [idxI_app]; simp [idxI]
theorem idxI_len : ∀ (a : List (List UInt8)) (s : Nat), (idxI s a).length = a.length
  | [], _ => rfl
  | _ :: a, s => by show (idxI (s + 1) a).length + 1 = a.length + 1; rw [idxI_len a]
theorem idxI_take : ∀ (a : List (List UInt8)) (s j : Nat), (idxI s a).take j = idxI s (a.take j)
  | [], s, j => by simp [idxI]
  | x :: a, s, 0 => by simp [idxI]
  | x :: a, s, j + 1 => by
    show ((s, x) :: idxI (s + 1) a).take (j + 1) = idxI s ((x :: a).take (j + 1))
    rw [List.take_succ_cons, List.take_succ_cons, idxI_take a (s + 1) j]; rfl
theorem idxI_key : ∀ (a : List (List UInt8)) (s i : Nat), (idxI s a)[i]? = (a[i]?).map fun d => (s + i, d)
  | [], s, i => by simp [idxI]
  | x :: a, s, 0 => by simp [idxI]
  | x :: a, s, i + 1 => by
    show ((s, x) :: idxI (s + 1) a)[i + 1]? = _
    rw [List.getElem?_cons_succ, idxI_key a (s + 1) i, List.getElem?_cons_succ, show s + 1 + i = s + (i + 1) by omega]
theorem hasK_idx : ∀ (a : List (List UInt8)) (s k : Nat), s ≤ k → hasK (idxI s a) k = decide (k < s + a.length)
  | [], s, k, h => by
    have : ¬ k < s + ([] : List (List UInt8)).length := by show ¬ k < s + 0; omega
    rw [decide_eq_false this]; rfl
  | x :: a, s, k, h => by
    show ((s == k) || hasK (idxI (s + 1) a) k) = _
    by_cases e : s = k
    · subst e
      have : s < s + (x :: a).length := by rw [List.length_cons]; omega
      rw [decide_eq_true this]; simp
    · rw [hasK_idx a (s + 1) k (by omega)]
      have : (s == k) = false := by rw [beq_eq_false_iff_ne]; exact e
      rw [this, Bool.false_or, List.length_cons, show s + 1 + a.length = s + (a.length + 1) by omega]
theorem good_at : ∀ (a : List (List UInt8)) (s : Nat) (acc : List Itm), s + a.length ≤ 1000000 → (∀ d ∈ a, d.length ≤ 1000) → (∀ k, s ≤ k → hasK acc k = false) → GoodL acc (idxI s a)
  | [], _, _, _, _, _ => trivial
  | x :: a, s, acc, h1, h2, h3 => by
    rw [List.length_cons] at h1
    refine ⟨⟨by show s ≤ _; omega, by have := h2 x (List.mem_cons_self ..); show x.length ≤ _; omega⟩, h3 s (Nat.le_refl _), good_at a (s + 1) _ (by omega) (fun d hd => h2 d (List.mem_cons_of_mem _ hd)) fun k hk => ?_⟩
    rw [hasK_app, h3 k (by omega)]
    have : (s == k) = false := by rw [beq_eq_false_iff_ne]; omega
    simp [hasK, this]
theorem good_idx {a : List (List UInt8)} (h1 : a.length ≤ 1000000) (h2 : ∀ d ∈ a, d.length ≤ 1000) : GoodL [] (idxI 0 a) := good_at a 0 [] (by omega) h2 fun _ _ => rfl
theorem idx_file : ∀ (a : List (List UInt8)) (s : Nat), (∀ d ∈ a, d.length ≤ 1000) → (fileL (idxI s a)).length ≤ 1017 * a.length
  | [], _, _ => Nat.zero_le _
  | x :: a, s, h => by
    have h1 := recI_len (s, x)
    have h2 := h x (List.mem_cons_self ..)
    have h3 := idx_file a (s + 1) fun d hd => h d (List.mem_cons_of_mem _ hd)
    show (fileL ((s, x) :: idxI (s + 1) a)).length ≤ _
    rw [fileL_cons, List.length_append, List.length_cons]
    simp only at h1
    omega
theorem idx_ent {L : List Ent} {a : List (List UInt8)} (h : itms L = idxI 0 a) {i : Nat} (hi : i < a.length) : ∃ e ∈ L, e.key = i ∧ a[i]? = some e.data ∧ L[i]? = some e := by
  have hl : L.length = a.length := by rw [← itms_len, h, idxI_len]
  obtain ⟨e, he⟩ : ∃ e, L[i]? = some e := ⟨L[i]'(by omega), List.getElem?_eq_getElem _⟩
  have e1 := congrArg (fun l => l[i]?) h
  simp only [itms, List.getElem?_map, idxI_key, he, Option.map_some] at e1
  cases ha : a[i]? with
  | none => rw [ha] at e1; cases e1
  | some d =>
    rw [ha] at e1
    simp only [Option.map_some, Option.some.injEq, Ent.itm, Prod.mk.injEq, Nat.zero_add] at e1
    exact ⟨e, List.mem_of_getElem? he, e1.1, by rw [e1.2], he⟩
theorem idx_keys {L : List Ent} {a : List (List UInt8)} (h : itms L = idxI 0 a) : (L.map fun e => ((e.key : Nat) : Int)) = (List.range a.length).map fun i : Nat => (i : Int) := by
  have hl : L.length = a.length := by rw [← itms_len, h, idxI_len]
  refine List.ext_getElem? fun i => ?_
  rw [List.getElem?_map, List.getElem?_map]
  rcases Nat.lt_or_ge i a.length with hi | hi
  · obtain ⟨e, _, h1, _, h2⟩ := idx_ent h hi
    rw [h2, List.getElem?_range hi, Option.map_some, Option.map_some, h1]
  · rw [List.getElem?_eq_none (by omega), List.getElem?_eq_none (by simp; omega)]
    rfl
theorem idx_keyL {L : List Ent} {a : List (List UInt8)} (h : itms L = idxI 0 a) : keyL L = (List.range a.length).map fun i : Nat => (i : Int) := by
  unfold keyL
  rw [idx_keys h]
  refine List.mergeSort_of_pairwise ?_
  rw [List.pairwise_map]
  refine (List.pairwise_lt_range (n := a.length)).imp fun {x y} hxy => ?_
  simp; omega
end Go.Proofs.YtdhiofbimebbkaaDoor
