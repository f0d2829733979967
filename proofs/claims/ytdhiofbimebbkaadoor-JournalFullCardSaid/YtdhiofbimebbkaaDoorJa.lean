/- A journal's items, in plain words: their bytes, what bytes begin with. No program. -/
import Derived.Test.YtdhiofbimebbkaaDoorPk
import Derived.Test.YtdhiofbimebbkaaDoorPc
namespace Go.Proofs.YtdhiofbimebbkaaDoor

/-- An item: its key, its data. -/
abbrev Itm := Nat × List UInt8
def payI (x : Itm) : List UInt8 := numL x.1 ++ x.2
def recI (x : Itm) : List UInt8 := recL (payI x)
def partL (p : List UInt8) : Option Itm :=
  if (getL p).2 = 0 then none else if 1099511627776 < (getL p).1 ∨ 536870912 < p.length - (getL p).2 then none else some ((getL p).1, p.drop (getL p).2)
def hasK (its : List Itm) (k : Nat) : Bool := its.any fun x => x.1 == k
def scanF : Nat → List Itm → List UInt8 → List Itm
  | 0, acc, _ => acc
  | f + 1, acc, bs => match splitL bs with
    | none => acc
    | some (p, m) => match partL p with
      | none => acc
      | some x => if hasK acc x.1 then acc else scanF f (acc ++ [x]) (bs.drop m)
/-- The items with which bytes begin, behind others. -/
def scanL (acc : List Itm) (bs : List UInt8) : List Itm := scanF bs.length acc bs
def fileL (its : List Itm) : List UInt8 := its.flatMap recI
theorem splitL_nil : splitL [] = none := rfl
theorem scanF_more : ∀ (f g : Nat) (acc : List Itm) (bs : List UInt8), bs.length ≤ f → bs.length ≤ g → scanF f acc bs = scanF g acc bs
  | 0, g, acc, bs, hf, hg => by
    obtain rfl : bs = [] := List.eq_nil_of_length_eq_zero (by omega)
    cases g with
    | zero => rfl
    | succ g => simp [scanF, splitL_nil]
  | f + 1, 0, acc, bs, hf, hg => by
    obtain rfl : bs = [] := List.eq_nil_of_length_eq_zero (by omega)
    simp [scanF, splitL_nil]
  | f + 1, g + 1, acc, bs, hf, hg => by
    unfold scanF
    cases h : splitL bs with
    | none => rfl
    | some pm =>
      obtain ⟨p, m⟩ := pm
      have h8 := (splitL_bd h).2.1
      have hb := (splitL_bd h).2.2.1
      simp only
      cases partL p with
      | none => rfl
      | some x =>
        simp only
        split
        · rfl
        · exact scanF_more f g _ _ (by rw [List.length_drop]; omega) (by rw [List.length_drop]; omega)
theorem scanL_none {acc : List Itm} {bs : List UInt8} (h : splitL bs = none) : scanL acc bs = acc := by
  unfold scanL
  cases hb : bs.length with
  | zero => rfl
  | succ n => unfold scanF; rw [h]
theorem scanL_part {acc : List Itm} {bs p : List UInt8} {m : Nat} (h : splitL bs = some (p, m)) (hp : partL p = none) : scanL acc bs = acc := by
  unfold scanL
  cases hb : bs.length with
  | zero => rfl
  | succ n => unfold scanF; rw [h]; simp only; rw [hp]
theorem scanL_twice {acc : List Itm} {bs p : List UInt8} {m : Nat} {x : Itm} (h : splitL bs = some (p, m)) (hp : partL p = some x) (hk : hasK acc x.1 = true) : scanL acc bs = acc := by
  unfold scanL
  cases hb : bs.length with
  | zero => rfl
  | succ n => unfold scanF; rw [h]; simp only; rw [hp]; simp only; rw [if_pos hk]
theorem scanL_step {acc : List Itm} {bs p : List UInt8} {m : Nat} {x : Itm} (h : splitL bs = some (p, m)) (hp : partL p = some x) (hk : hasK acc x.1 = false) : scanL acc bs = scanL (acc ++ [x]) (bs.drop m) := by
  have h8 := (splitL_bd h).2.1
  have hm := (splitL_bd h).2.2.1
  unfold scanL
  cases hb : bs.length with
  | zero => omega
  | succ n =>
    conv => lhs; unfold scanF
    rw [h]; simp only; rw [hp]; simp only; rw [if_neg (by rw [hk]; decide)]
    exact scanF_more _ _ _ _ (by rw [List.length_drop]; omega) (by omega)
/-- What the records may bear. -/
def GoodI (x : Itm) : Prop := x.1 ≤ 1099511627776 ∧ x.2.length ≤ 536870912
theorem payI_len (x : Itm) : x.2.length + 1 ≤ (payI x).length ∧ (payI x).length ≤ x.2.length + 9 := by
  have := numL_len x.1
  unfold payI; rw [List.length_append]; omega
theorem recI_len (x : Itm) : x.2.length + 9 ≤ (recI x).length ∧ (recI x).length ≤ x.2.length + 17 := by
  have := payI_len x
  unfold recI; rw [recL_len]; omega
theorem partL_pay {x : Itm} (h : GoodI x) : partL (payI x) = some x := by
  have hl := numL_len x.1
  have e : getL (payI x) = (x.1, (numL x.1).length) := getL_num (by have := h.1; omega) _
  unfold partL
  rw [e]
  simp only
  rw [if_neg (by omega), if_neg (by have := h.1; have := h.2; unfold payI; rw [List.length_append]; omega)]
  unfold payI
  rw [List.drop_left' rfl]
theorem splitL_item {x : Itm} (h : GoodI x) (r : List UInt8) : splitL (recI x ++ r) = some (payI x, (recI x).length) := by
  have h1 := payI_len x
  have h2 := h.2
  unfold recI
  rw [splitL_rec (by omega) r, recL_len]
theorem scanL_item {acc : List Itm} {x : Itm} (h : GoodI x) (hk : hasK acc x.1 = false) (r : List UInt8) : scanL acc (recI x ++ r) = scanL (acc ++ [x]) r := by
  rw [scanL_step (splitL_item h r) (partL_pay h) hk, List.drop_left' rfl]
theorem scanL_torn {acc : List Itm} {x : Itm} (h : GoodI x) {i : Nat} (hi : i < (recI x).length) : scanL acc ((recI x).take i) = acc := by
  have h1 := payI_len x
  have h2 := h.2
  refine scanL_none ?_
  unfold recI at hi ⊢
  rw [recL_len] at hi
  exact splitL_cut (by omega) hi
theorem hasK_app (a b : List Itm) (k : Nat) : hasK (a ++ b) k = (hasK a k || hasK b k) := by unfold hasK; rw [List.any_append]
theorem fileL_cons (x : Itm) (r : List Itm) : fileL (x :: r) = recI x ++ fileL r := rfl
theorem fileL_snoc (its : List Itm) (x : Itm) : fileL (its ++ [x]) = fileL its ++ recI x := by unfold fileL; rw [List.flatMap_append]; simp
/-- Items that may stand behind one another. -/
def GoodL : List Itm → List Itm → Prop
  | _, [] => True
  | acc, x :: r => GoodI x ∧ hasK acc x.1 = false ∧ GoodL (acc ++ [x]) r
/-- A beginning of the items' bytes holds the first ones. -/
theorem scan_take : ∀ (its acc : List Itm) (m : Nat), GoodL acc its → ∃ j, j ≤ its.length ∧ scanL acc ((fileL its).take m) = acc ++ its.take j ∧ (∀ i, i ≤ its.length → (fileL (its.take i)).length ≤ m → i ≤ j) ∧ (fileL (its.take j)).length ≤ m
  | [], acc, m, _ => ⟨0, Nat.le_refl _, by rw [show (fileL []).take m = [] by simp [fileL], scanL_none splitL_nil]; simp, fun i hi _ => hi, Nat.zero_le _⟩
  | x :: r, acc, m, h => by
    obtain ⟨hx, hk, hr⟩ := h
    rw [fileL_cons]
    rcases Nat.lt_or_ge m (recI x).length with hm | hm
    · refine ⟨0, Nat.zero_le _, ?_, fun i hi hl => ?_, Nat.zero_le _⟩
      · rw [List.take_append_of_le_length (Nat.le_of_lt hm), scanL_torn hx hm]; simp
      · cases i with
        | zero => exact Nat.le_refl _
        | succ i => rw [List.take_succ_cons, fileL_cons, List.length_append] at hl; omega
    · obtain ⟨j, hj, hs, hi, hf⟩ := scan_take r (acc ++ [x]) (m - (recI x).length) hr
      refine ⟨j + 1, by simp; omega, ?_, fun i hi' hl => ?_, ?_⟩
      · rw [List.take_append, List.take_of_length_le hm, scanL_item hx hk, hs, List.take_succ_cons]; simp
      · cases i with
        | zero => omega
        | succ i =>
          rw [List.take_succ_cons, fileL_cons, List.length_append] at hl
          have := hi i (by simp at hi'; omega) (by omega)
          omega
      · rw [List.take_succ_cons, fileL_cons, List.length_append]; omega
theorem scan_all {its acc : List Itm} (h : GoodL acc its) : scanL acc (fileL its) = acc ++ its := by
  obtain ⟨j, hj, hs, hi, _⟩ := scan_take its acc (fileL its).length h
  have := hi its.length (Nat.le_refl _) (by rw [List.take_length]; exact Nat.le_refl _)
  obtain rfl : j = its.length := by omega
  rw [List.take_length, List.take_length] at hs
  exact hs
end Go.Proofs.YtdhiofbimebbkaaDoor
