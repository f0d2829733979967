/- Plain facts: ranges counted by where they begin and end. No program. -/
import Derived.Test.YtjnhmcgjeljcmaaPp
namespace Go.Proofs.Ytjnhmcgjeljcmaa

def rowV (n : Nat) (f : Nat → Value) : Array Value := ((List.range n).map f).toArray
theorem rowV_get (n : Nat) (f : Nat → Value) (i : Nat) (h : i < n) : (rowV n f)[i]? = some (f i) := by
  unfold rowV
  rw [List.getElem?_toArray, List.getElem?_map, List.getElem?_range h]; rfl
theorem rowV_size (n : Nat) (f : Nat → Value) : (rowV n f).size = n := by simp [rowV]
theorem rowV_set (n : Nat) (f : Nat → Value) (i : Nat) (v : Value) : (rowV n f).setIfInBounds i v = rowV n (fun j => if j = i then v else f j) := by
  apply Array.ext_getElem?
  intro j
  rw [Array.getElem?_setIfInBounds]
  rcases Nat.lt_or_ge j n with h | h
  · rw [rowV_get _ _ _ h, rowV_get _ _ _ h]
    by_cases e : i = j
    · subst e; simp [rowV_size, h]
    · have e' : ¬ j = i := fun x => e x.symm
      simp [e, e']
  · rw [Array.getElem?_eq_none (by rw [rowV_size]; exact h), Array.getElem?_eq_none (by rw [rowV_size]; exact h)]
    simp [rowV_size]; omega
theorem rowV_congr {n : Nat} {f g : Nat → Value} (h : ∀ i, i < n → f i = g i) : rowV n f = rowV n g := by
  apply Array.ext_getElem?
  intro j
  rcases Nat.lt_or_ge j n with hj | hj
  · rw [rowV_get _ _ _ hj, rowV_get _ _ _ hj, h j hj]
  · rw [Array.getElem?_eq_none (by rw [rowV_size]; exact hj), Array.getElem?_eq_none (by rw [rowV_size]; exact hj)]

def one1 (r : UInt8 × UInt8) (j : Nat) : Int := if r.1 ≤ r.2 then (if r.1.toNat = j then 1 else 0) - (if r.2.toNat + 1 = j then 1 else 0) else 0
def chg : List (UInt8 × UInt8) → Nat → Int
  | [], _ => 0
  | r :: rs, j => one1 r j + chg rs j
theorem chg_snoc (rs : List (UInt8 × UInt8)) (r : UInt8 × UInt8) (j : Nat) : chg (rs ++ [r]) j = chg rs j + one1 r j := by
  induction rs with
  | nil => simp [chg]
  | cons a rs ih => simp [chg, ih]; omega
theorem one1_bd (r : UInt8 × UInt8) (j : Nat) : -1 ≤ one1 r j ∧ one1 r j ≤ 1 := by
  unfold one1; split
  · split <;> split <;> omega
  · omega
theorem chg_bd (rs : List (UInt8 × UInt8)) (j : Nat) : -(rs.length : Int) ≤ chg rs j ∧ chg rs j ≤ rs.length := by
  induction rs with
  | nil => simp [chg]
  | cons a rs ih => have := one1_bd a j; simp only [chg, List.length_cons]; omega
def psum (f : Nat → Int) : Nat → Int
  | 0 => 0
  | b + 1 => psum f b + f b
def cntR (rs : List (UInt8 × UInt8)) (b : Nat) : Nat := (rs.filter fun r => decide (r.1.toNat ≤ b) && decide (b ≤ r.2.toNat)).length
theorem psum_add (f g : Nat → Int) (b : Nat) : psum (fun j => f j + g j) b = psum f b + psum g b := by
  induction b with
  | zero => rfl
  | succ b ih => simp only [psum, ih]; omega
theorem psum_one (r : UInt8 × UInt8) (b : Nat) : psum (one1 r) b = if r.1 ≤ r.2 then (if r.1.toNat < b then 1 else 0) - (if r.2.toNat + 1 < b then 1 else 0) else 0 := by
  induction b with
  | zero => simp [psum]
  | succ b ih =>
    simp only [psum, ih, one1]
    split
    · split <;> split <;> split <;> split <;> split <;> split <;> omega
    · rfl
theorem psum_chg (rs : List (UInt8 × UInt8)) (b : Nat) : psum (chg rs) (b + 1) = cntR rs b := by
  induction rs with
  | nil =>
    have : ∀ k, psum (chg []) k = 0 := by intro k; induction k with | zero => rfl | succ k ih => (show psum (chg []) k + chg [] k = 0); rw [ih]; rfl
    rw [this]; rfl
  | cons r rs ih =>
    have : chg (r :: rs) = fun j => one1 r j + chg rs j := rfl
    rw [this, psum_add, ih, psum_one]
    simp only [cntR, List.filter_cons]
    have hle : (r.1 ≤ r.2) ↔ r.1.toNat ≤ r.2.toNat := UInt8.le_iff_toNat_le
    by_cases h : r.1 ≤ r.2
    · have h' := hle.1 h
      simp only [h, if_true]
      by_cases h1 : r.1.toNat ≤ b <;> by_cases h2 : b ≤ r.2.toNat
      · simp [h1, h2, Nat.lt_succ_of_le]; omega
      · simp [h1, h2, Nat.lt_succ_of_le]; omega
      · simp [h1, h2]; omega
      · simp [h1, h2]; omega
    · have h' : ¬ r.1.toNat ≤ r.2.toNat := fun x => h (hle.2 x)
      simp only [h, if_false]
      have : (decide (r.1.toNat ≤ b) && decide (b ≤ r.2.toNat)) = false := by simp; omega
      simp [this]
theorem cntR_pos (rs : List (UInt8 × UInt8)) (b : Nat) : decide (0 < (cntR rs b : Int)) = inR rs b := by
  unfold cntR inR
  rw [Bool.eq_iff_iff]
  simp only [decide_eq_true_eq, List.any_eq_true]
  rw [show (0 : Int) < ((rs.filter fun r => decide (r.1.toNat ≤ b) && decide (b ≤ r.2.toNat)).length : Nat) ↔ 0 < (rs.filter fun r => decide (r.1.toNat ≤ b) && decide (b ≤ r.2.toNat)).length by omega]
  rw [List.length_pos_iff_exists_mem]
  simp only [List.mem_filter]
theorem cntR_le (rs : List (UInt8 × UInt8)) (b : Nat) : cntR rs b ≤ rs.length := List.length_filter_le _ _
end Go.Proofs.Ytjnhmcgjeljcmaa
