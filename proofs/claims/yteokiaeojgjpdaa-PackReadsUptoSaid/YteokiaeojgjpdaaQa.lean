/- Numbers and texts one behind the other, in plain words; what is left of them. -/
import Derived.Test.YteokiaeojgjpdaaPr
namespace Go.Proofs.Yteokiaeojgjpdaa

def encN (ns : List Int) : List UInt8 := ns.flatMap fun n => numL (numC n)
def encT (ts : List (List UInt8)) : List UInt8 := ts.flatMap textL
/-- All, with bytes behind it; or all but the last byte. -/
def rsQ (q : Option (List UInt8)) (l : List UInt8) : List UInt8 := match q with | some r => l ++ r | none => l.dropLast
theorem rsQ_app {q : Option (List UInt8)} {x l : List UInt8} (h : q = none → l ≠ []) : rsQ q (x ++ l) = x ++ rsQ q l := by
  cases q with
  | some r => exact List.append_assoc _ _ _
  | none =>
    show (x ++ l).dropLast = x ++ l.dropLast
    rw [List.dropLast_append_of_ne_nil (h rfl)]
theorem dropLast_take {l : List UInt8} : l.dropLast = l.take (l.length - 1) := List.dropLast_eq_take
theorem numL_ne (n : Nat) : numL n ≠ [] := fun h => by have := numL_len n; rw [h] at this; simp at this
theorem textL_ne (s : List UInt8) : textL s ≠ [] := fun h => by
  unfold textL at h
  exact numL_ne _ (List.append_eq_nil_iff.1 h).1
/-- A number whose last byte is gone is none. -/
theorem getL_drop {n : Nat} (h : n ≤ 4611686018427387904) : getL (numL n).dropLast = (0, 0) := by
  rw [dropLast_take]
  exact getL_cut h (by have := numL_len n; omega)
theorem getT_text {most : Int} {s r : List UInt8} (h : (s.length : Int) ≤ most) (h2 : s.length ≤ 4611686018427387904) : getT most (textL s ++ r) = (s, (textL s).length) := by
  have hg : getL (textL s ++ r) = (s.length, (numL s.length).length) := by
    unfold textL; rw [List.append_assoc]; exact getL_num h2 _
  have hl := numL_len s.length
  unfold getT
  rw [hg]
  simp only
  rw [if_neg (by
    simp only [textL, List.length_append, not_or]
    omega)]
  have e1 : ((textL s ++ r).drop (numL s.length).length).take s.length = s := by
    unfold textL
    rw [List.append_assoc, List.drop_left' rfl, List.take_left' rfl]
  rw [e1]
  unfold textL
  rw [List.length_append]
theorem getT_drop {most : Int} {s : List UInt8} (h2 : s.length ≤ 4611686018427387904) : getT most (textL s).dropLast = ([], 0) := by
  unfold getT
  by_cases h0 : s = []
  · subst h0
    have : getL (textL ([] : List UInt8)).dropLast = (0, 0) := by decide
    rw [this]; simp
  · have e : (textL s).dropLast = numL s.length ++ s.dropLast := by
      unfold textL; rw [List.dropLast_append_of_ne_nil h0]
    rw [e, getL_num h2]
    simp only
    rw [if_pos]
    right; right
    rw [List.length_append, List.length_dropLast]
    have : 0 < s.length := List.length_pos_iff.2 h0
    omega
end Go.Proofs.Yteokiaeojgjpdaa
