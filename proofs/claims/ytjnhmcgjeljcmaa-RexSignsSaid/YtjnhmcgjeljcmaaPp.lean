/- Plain functions: trees of patterns, letters and ranges as the parsers read them. No program. -/
import Derived.WalkKit
namespace Go.Proofs.Ytjnhmcgjeljcmaa

/-- A letter: the byte and how many bytes it takes; or an error and its place from here on. -/
inductive Lr where
  | ok (c : UInt8) (n : Nat)
  | err (code : Int) (off : Nat)
deriving DecidableEq
/-- A range, likewise. -/
inductive Rr where
  | ok (lo hi : UInt8) (n : Nat)
  | err (code : Int) (off : Nat)
deriving DecidableEq

def starts (t l : List UInt8) : Bool := t.isPrefixOf l

def letterG : List UInt8 → Lr
  | [] => .err 31 0
  | c :: t => if c = 92 then (match t with | [] => .err 31 1 | d :: _ => .ok d 2) else .ok c 1

/-- Does a range go on here: a - that no ] is behind? -/
def dashB (t : List UInt8) : Bool := starts [45] t && !starts [45, 93] t

def rangeP (L : List UInt8 → Lr) (l : List UInt8) : Rr :=
  match L l with
  | .err c o => .err c o
  | .ok lo n =>
    if dashB (l.drop n) then
      match L (l.drop (n + 1)) with
      | .err c o => .err c (n + 1 + o)
      | .ok hi m => if hi < lo then .err 32 0 else .ok lo hi (n + 1 + m)
    else .ok lo lo n

/-- A reading of letters that takes at least one byte, and no more than there are. -/
def GoodL (L : List UInt8 → Lr) : Prop := ∀ l, (∀ c n, L l = .ok c n → 1 ≤ n ∧ n ≤ l.length) ∧ (∀ c o, L l = .err c o → o ≤ l.length)
theorem good_letterG : GoodL letterG := by
  intro l
  match l with
  | [] => exact ⟨fun c n h => by simp [letterG] at h, fun c o h => by simp [letterG] at h; omega⟩
  | [x] =>
    by_cases hx : x = 92
    · exact ⟨fun c n h => by simp [letterG, hx] at h, fun c o h => by simp [letterG, hx] at h; simp; omega⟩
    · exact ⟨fun c n h => by simp [letterG, hx] at h; simp; omega, fun c o h => by simp [letterG, hx] at h⟩
  | x :: y :: t =>
    by_cases hx : x = 92
    · exact ⟨fun c n h => by simp [letterG, hx] at h; simp; omega, fun c o h => by simp [letterG, hx] at h⟩
    · exact ⟨fun c n h => by simp [letterG, hx] at h; simp; omega, fun c o h => by simp [letterG, hx] at h⟩
theorem rangeP_ok {L : List UInt8 → Lr} (hL : GoodL L) {l : List UInt8} {lo hi : UInt8} {n : Nat} (h : rangeP L l = .ok lo hi n) : 1 ≤ n ∧ n ≤ l.length := by
  unfold rangeP at h
  split at h
  · cases h
  · rename_i lo' n' h1
    have a1 := (hL l).1 _ _ h1
    split at h
    · split at h
      · cases h
      · rename_i hi' m h2
        have a2 := (hL _).1 _ _ h2
        split at h
        · cases h
        · injection h with _ _ h3
          rw [List.length_drop] at a2
          omega
    · injection h with _ _ h3
      omega
theorem rangeP_err {L : List UInt8 → Lr} (hL : GoodL L) {l : List UInt8} {c : Int} {o : Nat} (h : rangeP L l = .err c o) : o ≤ l.length := by
  unfold rangeP at h
  split at h
  · rename_i c' o' h1
    injection h with _ h3
    have := (hL l).2 _ _ h1
    omega
  · rename_i lo' n' h1
    have a1 := (hL l).1 _ _ h1
    split at h
    · rename_i hd
      have hnl : n' + 1 ≤ l.length := by
        have hp : starts [45] (l.drop n') = true := by simp only [dashB, Bool.and_eq_true] at hd; exact hd.1
        unfold starts at hp
        rw [List.isPrefixOf_iff_prefix] at hp
        have := hp.length_le
        rw [List.length_drop] at this
        simp at this; omega
      split at h
      · rename_i c2 o2 h2
        have a2 := (hL _).2 _ _ h2
        injection h with _ h3
        rw [List.length_drop] at a2
        omega
      · split at h
        · injection h with _ h3
          omega
        · cases h
    · cases h

/-- The items of a class up to its ]: the ranges, and how many bytes they take with the ]. 'first': none was read yet (then a ] is an item). -/
inductive Ir where
  | ok (rs : List (UInt8 × UInt8)) (n : Nat)
  | err (code : Int) (off : Nat)
deriving DecidableEq
def Ir.more (lo hi : UInt8) (n : Nat) : Ir → Ir
  | .ok rs m => .ok ((lo, hi) :: rs) (n + m)
  | .err c o => .err c (n + o)
/-- fuel: more than the bytes that are left. -/
def itemsP (L : List UInt8 → Lr) : Nat → Bool → List UInt8 → Ir
  | 0, _, _ => .err 0 0
  | f + 1, first, l =>
    if !first && starts [93] l then .ok [] 1
    else match rangeP L l with
      | .err c o => .err c o
      | .ok lo hi n => (itemsP L f false (l.drop n)).more lo hi n
theorem itemsP_fuel {L : List UInt8 → Lr} (hL : GoodL L) : ∀ (f g : Nat) (b : Bool) (l : List UInt8), l.length < f → l.length < g → itemsP L f b l = itemsP L g b l := by
  intro f
  induction f with
  | zero => intro g b l h; omega
  | succ f ih =>
    intro g b l hf hg
    match g, hg with
    | g + 1, hg =>
      unfold itemsP
      split
      · rfl
      · split
        · rfl
        · rename_i lo hi n h
          have := rangeP_ok hL h
          rw [ih g false (l.drop n) (by rw [List.length_drop]; omega) (by rw [List.length_drop]; omega)]

/-! Ranges of bytes -/
def inR (rs : List (UInt8 × UInt8)) (c : Nat) : Bool := rs.any fun r => decide (r.1.toNat ≤ c) && decide (c ≤ r.2.toNat)
/-- The last range goes up to k. -/
def bump (l : List (UInt8 × UInt8)) (k : Nat) : List (UInt8 × UInt8) := l.dropLast ++ [((l.getLast?.getD (0, 0)).1, UInt8.ofNat k)]
def rgTo (m : Nat → Bool) : Nat → List (UInt8 × UInt8)
  | 0 => []
  | k + 1 => if m k then (if decide (0 < k) && m (k - 1) then bump (rgTo m k) k else rgTo m k ++ [(UInt8.ofNat k, UInt8.ofNat k)]) else rgTo m k
def memB (rs : List (UInt8 × UInt8)) (neg : Bool) (c : Nat) : Bool := inR rs c != neg
def rangesL (rs : List (UInt8 × UInt8)) (neg : Bool) : List (UInt8 × UInt8) := rgTo (memB rs neg) 256
theorem rgTo_length (m : Nat → Bool) (k : Nat) : (rgTo m k).length ≤ k := by
  induction k with
  | zero => simp [rgTo]
  | succ k ih =>
    rw [rgTo]
    split
    · split
      · rename_i h1 h2
        rcases Nat.eq_zero_or_pos k with h | h
        · subst h; simp at h2
        · simp only [bump, List.length_append, List.length_dropLast, List.length_singleton]; omega
      · simp; omega
    · omega
/-- Where k - 1 is in, the list isn't empty and its last range ends there. -/
theorem rgTo_last (m : Nat → Bool) (k : Nat) (h : m k = true) : ∃ l lo, rgTo m (k + 1) = l ++ [(lo, UInt8.ofNat k)] := by
  rw [rgTo, if_pos h]
  split
  · exact ⟨_, _, rfl⟩
  · exact ⟨_, _, rfl⟩
end Go.Proofs.Ytjnhmcgjeljcmaa
