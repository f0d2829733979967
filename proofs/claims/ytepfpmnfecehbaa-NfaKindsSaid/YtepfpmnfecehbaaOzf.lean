/- Plain: Alt, Maybe, a tree and all the rest. -/
import Derived.Test.YtepfpmnfecehbaaOzc
namespace Go.Proofs.Ytepfpmnfecehbaa
open Go.RowKit Go.Maps

section
variable {s : List UInt8} {d f : Nat} {t u : Tr} {x y : Int}
theorem lon_form (hf : f ≤ s.length) (h : lonR s d t (f : Nat) x) : (x = -1 ∧ ∀ k, k ≤ s.length → ¬ Mt s d t f k) ∨ ∃ v : Nat, x = (v : Nat) ∧ f ≤ v ∧ v ≤ s.length ∧ Mt s d t f v ∧ ∀ k, v < k → k ≤ s.length → ¬ Mt s d t f k := by
  rcases h with ⟨ho, -⟩ | ⟨g, eg, hg, hc⟩
  · omega
  · obtain rfl : f = g := by clear hc; omega
    rcases hc with hc | ⟨v, e, hv, hm, hl⟩
    · exact .inl hc
    · exact .inr ⟨v, e, (Mt_le _ _ _ _ hm hf).1, hv, hm, hl⟩
theorem alt_iff {i j : Nat} : Mt s (d + 1) (.mk 3 [] [t, u]) i j ↔ Mt s d t i j ∨ Mt s d u i j := by
  show (∃ z, z ∈ [t, u] ∧ Mt s d z i j) ↔ _
  simp
theorem or_lon (hf : f ≤ s.length) (h1 : lonR s d t (f : Nat) x) (h2 : lonR s d u (f : Nat) y) : lonR s (d + 1) (.mk 3 [] [t, u]) (f : Nat) (max x y) := by
  rcases lon_form hf h1 with ⟨rfl, n1⟩ | ⟨v, rfl, -, hv, m1, l1⟩
  · rcases lon_form hf h2 with ⟨rfl, n2⟩ | ⟨v', rfl, -, hv', m2, l2⟩
    · exact .inr ⟨f, rfl, hf, .inl ⟨by omega, fun k hk hm => (alt_iff.1 hm).elim (n1 k hk) (n2 k hk)⟩⟩
    · exact .inr ⟨f, rfl, hf, .inr ⟨v', by omega, hv', alt_iff.2 (.inr m2), fun k h3 hk hm => (alt_iff.1 hm).elim (n1 k hk) (l2 k h3 hk)⟩⟩
  · rcases lon_form hf h2 with ⟨rfl, n2⟩ | ⟨v', rfl, -, hv', m2, l2⟩
    · exact .inr ⟨f, rfl, hf, .inr ⟨v, by omega, hv, alt_iff.2 (.inl m1), fun k h3 hk hm => (alt_iff.1 hm).elim (l1 k h3 hk) (n2 k hk)⟩⟩
    · by_cases hlt : v < v'
      · exact .inr ⟨f, rfl, hf, .inr ⟨v', by omega, hv', alt_iff.2 (.inr m2), fun k h3 hk hm => (alt_iff.1 hm).elim (l1 k (by omega) hk) (l2 k h3 hk)⟩⟩
      · exact .inr ⟨f, rfl, hf, .inr ⟨v, by omega, hv, alt_iff.2 (.inl m1), fun k h3 hk hm => (alt_iff.1 hm).elim (l1 k h3 hk) (l2 k (by omega) hk)⟩⟩
theorem opt_iff {i j : Nat} : Mt s (d + 1) (.mk 6 [] [t]) i j ↔ Mt s d t i j ∨ i = j := Iff.rfl
theorem opt_lon (hf : f ≤ s.length) (h1 : lonR s d t (f : Nat) x) : lonR s (d + 1) (.mk 6 [] [t]) (f : Nat) (max x (f : Nat)) := by
  rcases lon_form hf h1 with ⟨rfl, n1⟩ | ⟨v, rfl, hfv, hv, m1, l1⟩
  · exact .inr ⟨f, rfl, hf, .inr ⟨f, by omega, hf, opt_iff.2 (.inr rfl), fun k h3 hk hm => (opt_iff.1 hm).elim (n1 k hk) (by omega)⟩⟩
  · exact .inr ⟨f, rfl, hf, .inr ⟨v, by omega, hv, opt_iff.2 (.inl m1), fun k h3 hk hm => (opt_iff.1 hm).elim (l1 k h3 hk) (by omega)⟩⟩
def allT : Tr := .mk 4 [] [.mk 1 [(0, 255)] []]
theorem all_set {i : Nat} (hi : i < s.length) : Mt s (d + 1) (.mk 1 [(0, 255)] []) i (i + 1) := by
  show setT [(0, 255)] s i (i + 1) = true
  rw [setT_iff]
  refine ⟨s[i], List.getElem?_eq_getElem hi, rfl, ?_⟩
  have := s[i].toNat_lt
  simp [inR]; omega
theorem all_it : ∀ {c i : Nat}, i + c = s.length → itR (Mt s (d + 1) (.mk 1 [(0, 255)] [])) c i s.length
  | 0, i, h => by show i = _; omega
  | c + 1, i, h => ⟨i + 1, all_set (by omega), all_it (by omega)⟩
def restT (t : Tr) : Tr := .mk 2 [] [t, allT]
theorem rest_iff {i j : Nat} : Mt s (d + 3) (restT t) i j ↔ ∃ m, Mt s (d + 2) t i m ∧ Mt s (d + 2) allT m j := by
  show chR (Mt s (d + 2)) [t, allT] i j ↔ _
  constructor
  · rintro ⟨m, h1, m', h2, h3⟩
    obtain rfl : m' = j := h3
    exact ⟨m, h1, h2⟩
  · rintro ⟨m, h1, h2⟩; exact ⟨m, h1, j, h2, rfl⟩
theorem rest_none (hf : f ≤ s.length) (h : lonR s (d + 2) t (f : Nat) x) (hx : x < 0) : lonR s (d + 3) (restT t) (f : Nat) (-1) := by
  rcases lon_form hf h with ⟨rfl, n1⟩ | ⟨v, rfl, _⟩
  · exact .inr ⟨f, rfl, hf, .inl ⟨rfl, fun k hk hm => by
      obtain ⟨m, h1, _⟩ := rest_iff.1 hm
      exact n1 m (Mt_le _ _ _ _ h1 hf).2 h1⟩⟩
  · omega
theorem rest_some (hf : f ≤ s.length) (h : lonR s (d + 2) t (f : Nat) x) (hx : ¬ x < 0) : lonR s (d + 3) (restT t) (f : Nat) (s.length : Nat) := by
  rcases lon_form hf h with ⟨rfl, n1⟩ | ⟨v, rfl, _, hv, hm, _⟩
  · omega
  · exact .inr ⟨f, rfl, hf, .inr ⟨s.length, rfl, Nat.le_refl _, rest_iff.2 ⟨v, hm, s.length - v, all_it (by omega)⟩, fun k h1 h2 _ => by omega⟩⟩
end
theorem nodes_two {d : Nat} {k : Int} {t u : Tr} : nodesT (d + 1) (.mk k [] [t, u]) = 1 + (nodesT d t + nodesT d u) := by show 1 + ([t, u].map (nodesT d)).sum = _; simp
theorem high_two {d : Nat} {k : Int} {t u : Tr} : highT (d + 1) (.mk k [] [t, u]) = 1 + max (highT d t) (highT d u) := by show 1 + ([t, u].map (highT d)).foldr max 0 = _; simp
theorem good_two {d : Nat} {k : Int} {t u : Tr} (h : GoodT d t) (h' : GoodT d u) (h1 : k = 2 ∨ k = 3) : GoodT (d + 1) (.mk k [] [t, u]) := ⟨by omega, by omega, (fun _ e => by cases e), fun z hz => by
  rcases List.mem_cons.1 hz with rfl | hz
  · exact h
  · rw [List.mem_singleton.1 hz]; exact h'⟩
theorem all_good {d : Nat} : GoodT (d + 2) allT := by simp [GoodT, allT]
theorem all_nodes {d : Nat} : nodesT (d + 2) allT = 2 ∧ highT (d + 2) allT = 2 := ⟨rfl, rfl⟩
end Go.Proofs.Ytepfpmnfecehbaa
