/- Events in plain words: what decides, a trace's verdict, whether it is right; no program. -/
import Derived.Test.YtmhfdpgkdpbbiaaBk
namespace Go.Proofs.Ytmhfdpgkdpbbiaa

structure Ev where
  kind : Int
  n : Int
  text : ByteArray
  at_ : Int
  deriving Inhabited
def decB (e : Ev) : Bool := if e.kind = 5 ∨ e.kind = 6 ∨ e.kind = 7 then decide (e.n < 0) else decide (e.kind = 8 ∨ e.kind = 9 ∨ e.kind = 11 ∨ e.kind = 12 ∨ e.kind = 13)
/-- The verdict of an event that decides. -/
def verK (x : Bool) (k : Int) : Int := if k = 12 then (if x then 3 else 1) else if k = 11 ∨ k = 13 then (if x then 4 else 2) else 5
def verL (x : Bool) : List Ev → Int
  | [] => 5
  | e :: r => if decB e = true then verK x e.kind else verL x r
def verT (kind : Int) (es : List Ev) (x : Bool) : Int := if kind = 1 then 6 else if kind = 2 then 7 else verL x es
theorem verK_cases (x : Bool) (k : Int) : verK x k = 5 ∧ verK (!x) k = 5 ∨ (verK x k = (if x then 3 else 1) ∧ verK (!x) k = (if x then 1 else 3)) ∨ (verK x k = (if x then 4 else 2) ∧ verK (!x) k = (if x then 2 else 4)) := by
  unfold verK
  by_cases h : k = 12
  · simp only [if_pos h]; cases x <;> simp
  · simp only [if_neg h]
    by_cases h2 : k = 11 ∨ k = 13
    · simp only [if_pos h2]; cases x <;> simp
    · simp only [if_neg h2]; simp
theorem verL_cases (x : Bool) : ∀ es : List Ev, verL x es = 5 ∧ verL (!x) es = 5 ∨ (verL x es = (if x then 3 else 1) ∧ verL (!x) es = (if x then 1 else 3)) ∨ (verL x es = (if x then 4 else 2) ∧ verL (!x) es = (if x then 2 else 4))
  | [] => .inl ⟨rfl, rfl⟩
  | e :: r => by
    by_cases h : decB e = true
    · simp only [verL, if_pos h]; exact verK_cases x e.kind
    · simp only [verL, if_neg h]; exact verL_cases x r
theorem verL_app_yes (x : Bool) : ∀ (es more : List Ev), es.any decB = true → verL x (es ++ more) = verL x es
  | [], _, h => by simp at h
  | e :: r, more, h => by
    rw [List.cons_append]
    by_cases hd : decB e = true
    · simp only [verL, if_pos hd]
    · simp only [verL, if_neg hd]
      refine verL_app_yes x r more ?_
      rw [List.any_cons] at h
      simpa [hd] using h
theorem verL_app_no (x : Bool) : ∀ (es more : List Ev), es.any decB = false → verL x (es ++ more) = verL x more ∧ verL x es = 5
  | [], _, _ => ⟨rfl, rfl⟩
  | e :: r, more, h => by
    rw [List.any_cons, Bool.or_eq_false_iff] at h
    have hd : ¬ decB e = true := by rw [h.1]; decide
    rw [List.cons_append]
    simp only [verL, if_neg hd]
    exact verL_app_no x r more h.2
theorem verL_drop {x : Bool} {es : List Ev} {j : Nat} {e : Ev} (he : es[j]? = some e) (hd : decB e = false) : verL x (es.drop j) = verL x (es.drop (j + 1)) := by
  obtain ⟨hl, hg⟩ := List.getElem?_eq_some_iff.1 he
  rw [List.drop_eq_getElem_cons hl, hg]
  simp only [verL, hd]
  simp
theorem verL_hit {x : Bool} {es : List Ev} {j : Nat} {e : Ev} (he : es[j]? = some e) (hd : decB e = true) : verL x (es.drop j) = verK x e.kind := by
  obtain ⟨hl, hg⟩ := List.getElem?_eq_some_iff.1 he
  rw [List.drop_eq_getElem_cons hl, hg]
  simp only [verL, hd]
  simp
/-- May a kind have this number and this text? -/
def rkB (e : Ev) : Bool :=
  if e.kind = 3 ∨ e.kind = 4 then decide (0 ≤ e.n)
  else if e.kind = 2 then (e.n == 0)
  else if e.kind = 1 ∨ e.kind = 14 then decide (0 ≤ e.n) && e.text.toList.isEmpty
  else if e.kind = 5 ∨ e.kind = 6 ∨ e.kind = 7 then decide (-1 ≤ e.n) && e.text.toList.isEmpty
  else if e.kind = 8 ∨ e.kind = 9 ∨ e.kind = 10 ∨ e.kind = 11 ∨ e.kind = 12 ∨ e.kind = 13 then (e.n == 0) && e.text.toList.isEmpty
  else false
def rtB (e : Ev) (a : Int) : Bool := if e.kind = 1 then (e.at_ == 0) else decide (a ≤ e.at_)
def rghL : Int → List Ev → Bool
  | _, [] => true
  | a, e :: r => rkB e && (rtB e a && ((!(decB e) || r.isEmpty) && rghL e.at_ r))
theorem rghL_bad1 {a : Int} {e : Ev} {r : List Ev} (h : rkB e = false) : rghL a (e :: r) = false := by simp [rghL, h]
theorem rghL_bad2 {a : Int} {e : Ev} {r : List Ev} (h : rtB e a = false) : rghL a (e :: r) = false := by simp [rghL, h]
theorem rghL_bad3 {a : Int} {e : Ev} {r : List Ev} (h : decB e = true) (hr : r ≠ []) : rghL a (e :: r) = false := by
  cases r with
  | nil => exact absurd rfl hr
  | cons x y => simp [rghL, h]
theorem rghL_ok {a : Int} {e : Ev} {r : List Ev} (h1 : rkB e = true) (h2 : rtB e a = true) (h3 : decB e = false ∨ r = []) : rghL a (e :: r) = rghL e.at_ r := by
  simp only [rghL, h1, h2, Bool.true_and]
  rcases h3 with h | h
  · simp [h]
  · simp [h]
theorem rt_nonneg {e : Ev} {a : Int} (ha : 0 ≤ a) (h : rtB e a = true) : 0 ≤ e.at_ := by
  unfold rtB at h
  split at h <;> simp at h <;> omega
end Go.Proofs.Ytmhfdpgkdpbbiaa
