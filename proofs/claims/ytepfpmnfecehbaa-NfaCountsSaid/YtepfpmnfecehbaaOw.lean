/- Plain: what a text of one byte again and again holds of Star, Plus, Maybe, two. -/
import Derived.Test.YtepfpmnfecehbaaOu
namespace Go.Proofs.Ytepfpmnfecehbaa

section
variable {n : Nat} {c : UInt8} {f r : Nat}
theorem one_Mt {d i j : Nat} : Mt (List.replicate n c) (d + 1) (setT1 c) i j ↔ i < n ∧ j = i + 1 := by
  show setT [(c, c)] (List.replicate n c) i j = true ↔ _
  rw [setT_iff]
  constructor
  · rintro ⟨x, hx, hj, _⟩
    have := (List.getElem?_eq_some_iff.1 hx).1
    rw [List.length_replicate] at this
    exact ⟨this, hj⟩
  · rintro ⟨hi, hj⟩
    exact ⟨c, by rw [List.getElem?_replicate, if_pos hi], hj, by simp [inR]⟩
theorem it_Mt {d : Nat} : ∀ {k i j : Nat}, itR (Mt (List.replicate n c) (d + 1) (setT1 c)) k i j ↔ j = i + k ∧ (k = 0 ∨ j ≤ n)
  | 0, i, j => by
    show i = j ↔ _
    constructor
    · intro h; exact ⟨by omega, .inl rfl⟩
    · intro h; omega
  | k + 1, i, j => by
    show (∃ m, Mt (List.replicate n c) (d + 1) (setT1 c) i m ∧ itR _ k m j) ↔ _
    constructor
    · rintro ⟨m, h1, h2⟩
      have h1 := one_Mt.1 h1
      have h2 := it_Mt.1 h2
      omega
    · rintro ⟨h1, h2⟩
      exact ⟨i + 1, one_Mt.2 ⟨by omega, rfl⟩, it_Mt.2 ⟨by omega, by omega⟩⟩
def starT (c : UInt8) : Tr := .mk 4 [] [setT1 c]
def plusT (c : UInt8) : Tr := .mk 5 [] [setT1 c]
def maybeT (c : UInt8) : Tr := .mk 6 [] [setT1 c]
def twoT (c : UInt8) : Tr := .mk 2 [] [setT1 c, setT1 c]
theorem star_Mt {i j : Nat} : Mt (List.replicate n c) 2 (starT c) i j ↔ j = i ∨ (i < j ∧ j ≤ n) := by
  show (∃ k, itR (Mt (List.replicate n c) 1 (setT1 c)) k i j) ↔ _
  constructor
  · rintro ⟨k, h⟩; have := it_Mt.1 h; omega
  · intro h; exact ⟨j - i, it_Mt.2 ⟨by omega, by omega⟩⟩
theorem plus_Mt {i j : Nat} : Mt (List.replicate n c) 2 (plusT c) i j ↔ i < j ∧ j ≤ n := by
  show (∃ k, itR (Mt (List.replicate n c) 1 (setT1 c)) (k + 1) i j) ↔ _
  constructor
  · rintro ⟨k, h⟩; have := it_Mt.1 h; omega
  · intro h; exact ⟨j - i - 1, it_Mt.2 ⟨by omega, by omega⟩⟩
theorem maybe_Mt {i j : Nat} : Mt (List.replicate n c) 2 (maybeT c) i j ↔ j = i ∨ (i < n ∧ j = i + 1) := by
  show (Mt (List.replicate n c) 1 (setT1 c) i j ∨ i = j) ↔ _
  rw [one_Mt]; omega
theorem two_Mt {i j : Nat} : Mt (List.replicate n c) 2 (twoT c) i j ↔ i + 1 < n ∧ j = i + 2 := by
  show chR (Mt (List.replicate n c) 1) [setT1 c, setT1 c] i j ↔ _
  constructor
  · rintro ⟨m, h1, m', h2, h3⟩
    have h1 := one_Mt.1 h1
    have h2 := one_Mt.1 h2
    have h3 : m' = j := h3
    omega
  · intro h
    exact ⟨i + 1, one_Mt.2 ⟨by omega, rfl⟩, i + 2, one_Mt.2 ⟨by omega, rfl⟩, (by omega : i + 2 = j)⟩
theorem lon_past {d : Nat} {t : Tr} (h : n < f) : lonR (List.replicate n c) d t (f : Nat) (-1) := .inl ⟨.inr (by rw [List.length_replicate]; omega), rfl⟩
theorem lon_star (h : f ≤ n) : lonR (List.replicate n c) 2 (starT c) (f : Nat) (n : Nat) :=
  .inr ⟨f, rfl, by simpa using h, .inr ⟨n, rfl, by simp, star_Mt.2 (by omega), fun k h1 h2 hm => by have := star_Mt.1 hm; omega⟩⟩
theorem lon_plus (h : f ≤ n) : lonR (List.replicate n c) 2 (plusT c) (f : Nat) (if f < n then (n : Int) else -1) := by
  by_cases h1 : f < n
  · rw [if_pos h1]
    exact .inr ⟨f, rfl, by simpa using h, .inr ⟨n, rfl, by simp, plus_Mt.2 (by omega), fun k h1 h2 hm => by have := plus_Mt.1 hm; omega⟩⟩
  · rw [if_neg h1]
    exact .inr ⟨f, rfl, by simpa using h, .inl ⟨rfl, fun k h2 hm => by have := plus_Mt.1 hm; omega⟩⟩
theorem lon_maybe (h : f ≤ n) : lonR (List.replicate n c) 2 (maybeT c) (f : Nat) (if f < n then (f : Int) + 1 else (f : Nat)) := by
  by_cases h1 : f < n
  · rw [if_pos h1]
    exact .inr ⟨f, rfl, by simpa using h, .inr ⟨f + 1, by simp, by simp; omega, maybe_Mt.2 (by omega), fun k h1 h2 hm => by have := maybe_Mt.1 hm; omega⟩⟩
  · rw [if_neg h1]
    exact .inr ⟨f, rfl, by simpa using h, .inr ⟨f, rfl, by simpa using h, maybe_Mt.2 (by omega), fun k h1 h2 hm => by have := maybe_Mt.1 hm; omega⟩⟩
theorem lon_two (h : f ≤ n) : lonR (List.replicate n c) 2 (twoT c) (f : Nat) (if f + 1 < n then (f : Int) + 2 else -1) := by
  by_cases h1 : f + 1 < n
  · rw [if_pos h1]
    exact .inr ⟨f, rfl, by simpa using h, .inr ⟨f + 2, by simp, by simp; omega, two_Mt.2 (by omega), fun k h1 h2 hm => by have := two_Mt.1 hm; omega⟩⟩
  · rw [if_neg h1]
    exact .inr ⟨f, rfl, by simpa using h, .inl ⟨rfl, fun k h2 hm => by have := two_Mt.1 hm; omega⟩⟩
theorem star_good : GoodT 2 (starT c) := by simp [GoodT, starT, setT1]
theorem plus_good : GoodT 2 (plusT c) := by simp [GoodT, plusT, setT1]
theorem maybe_good : GoodT 2 (maybeT c) := by simp [GoodT, maybeT, setT1]
theorem two_good : GoodT 2 (twoT c) := by simp [GoodT, twoT, setT1]
theorem star_nodes : nodesT 2 (starT c) ≤ 1000 ∧ highT 2 (starT c) ≤ 300 := ⟨by show (2 : Nat) ≤ 1000; decide, by show (2 : Nat) ≤ 300; decide⟩
theorem plus_nodes : nodesT 2 (plusT c) ≤ 1000 ∧ highT 2 (plusT c) ≤ 300 := ⟨by show (2 : Nat) ≤ 1000; decide, by show (2 : Nat) ≤ 300; decide⟩
theorem maybe_nodes : nodesT 2 (maybeT c) ≤ 1000 ∧ highT 2 (maybeT c) ≤ 300 := ⟨by show (2 : Nat) ≤ 1000; decide, by show (2 : Nat) ≤ 300; decide⟩
theorem two_nodes : nodesT 2 (twoT c) ≤ 1000 ∧ highT 2 (twoT c) ≤ 300 := ⟨by show (3 : Nat) ≤ 1000; decide, by show (2 : Nat) ≤ 300; decide⟩
end
end Go.Proofs.Ytepfpmnfecehbaa
