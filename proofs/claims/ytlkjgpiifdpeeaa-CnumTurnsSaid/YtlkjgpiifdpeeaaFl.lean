/- Plain facts on words of a binary format: the sign taken away, the sign turned, differences both ways. No program. -/
import Derived.Laws.FloatArith
namespace Go.Proofs.Ytlkjgpiifdpeeaa
open Ieee

def bodyD (f : Format) (r : Nat) (s : Bool) : Datum :=
  if r < f.binade then .number s r f.leastPlace
  else if r < f.infRung then .number s (f.binade + r % f.binade) (f.leastPlace + (r / f.binade - 1 : Nat))
  else if r = f.infRung then .infinity s
  else .nan s (r - f.infRung)

theorem read_body (f : Format) (x : Nat) : f.read x = bodyD f (x % f.signWeight) (x / f.signWeight % 2 == 1) := rfl
theorem body_opp (f : Format) (r : Nat) (s : Bool) : (bodyD f r s).opposite = bodyD f r (!s) := by
  unfold bodyD; split
  · rfl
  · split
    · rfl
    · split <;> rfl
theorem sw_pos (f : Format) : 0 < f.signWeight := Nat.two_pow_pos _
theorem read_abs (f : Format) (x : Nat) : f.read (x % f.signWeight) = bodyD f (x % f.signWeight) false := by
  rw [read_body, Nat.mod_mod, Nat.div_eq_of_lt (Nat.mod_lt _ (sw_pos f))]; rfl
theorem read_neg (f : Format) (x : Nat) (h : x < 2 * f.signWeight) : f.read (x ^^^ f.signWeight) = (f.read x).opposite := by
  have hw : f.signWeight = 2 ^ (f.exponentBits + f.fractionBits) := rfl
  have h1 : (x ^^^ f.signWeight) % f.signWeight = x % f.signWeight := by
    rw [hw, Nat.xor_mod_two_pow, Nat.mod_self, Nat.xor_zero]
  have h2 : (x ^^^ f.signWeight) / f.signWeight = (x / f.signWeight) ^^^ 1 := by
    rw [hw, Nat.xor_div_two_pow, Nat.div_self (Nat.two_pow_pos _)]
  have h3 : x / f.signWeight < 2 := Nat.div_lt_of_lt_mul (by omega)
  rw [read_body, read_body, body_opp, h1, h2]
  congr 1
  match hq : x / f.signWeight, h3 with
  | 0, _ => rfl
  | 1, _ => rfl

def leD (a b : Datum) : Bool := (a.order b == some .lt) || (a.order b == some .eq)
theorem signed_opp (s : Bool) (m u : Nat) : signed (!s) m u = - signed s m u := by cases s <;> simp [signed]
theorem cmp_le {a b : Int} : ((some (compare a b) == some Ordering.lt) || (some (compare a b) == some Ordering.eq)) = decide (a ≤ b) := by
  rw [Bool.eq_iff_iff]
  simp only [Bool.or_eq_true, beq_iff_eq, Option.some.injEq, decide_eq_true_eq, Int.compare_eq_lt, Int.compare_eq_eq]
  omega
theorem body_cases (f : Format) (r : Nat) : (∃ m e, ∀ s, bodyD f r s = .number s m e) ∨ (∀ s, bodyD f r s = .infinity s) ∨ (∃ q, ∀ s, bodyD f r s = .nan s q) := by
  by_cases h1 : r < f.binade
  · exact Or.inl ⟨r, f.leastPlace, fun s => by simp [bodyD, h1]⟩
  · by_cases h2 : r < f.infRung
    · exact Or.inl ⟨_, _, fun s => by rw [bodyD, if_neg h1, if_pos h2]⟩
    · by_cases h3 : r = f.infRung
      · exact Or.inr (Or.inl fun s => by rw [bodyD, if_neg h1, if_neg h2, if_pos h3])
      · exact Or.inr (Or.inr ⟨_, fun s => by rw [bodyD, if_neg h1, if_neg h2, if_neg h3]⟩)
theorem signed_nonneg (m u : Nat) : 0 ≤ signed false m u := by
  unfold signed; rw [if_neg (by decide)]; exact Int.natCast_nonneg _
theorem le_pos (f : Format) (r : Nat) (T : Datum) (h : leD (bodyD f r false) T = true) : leD (bodyD f r true) T = true := by
  rcases body_cases f r with ⟨m, e, hb⟩ | hb | ⟨q, hb⟩ <;> rw [hb] at h ⊢
  · cases T with
    | number t n j =>
      simp only [leD, Datum.order] at h ⊢
      rw [cmp_le] at h ⊢
      simp only [decide_eq_true_eq] at h ⊢
      have := signed_opp false m (e - min e j).toNat
      have hp := signed_nonneg m (e - min e j).toNat
      simp only [Bool.not_false] at this
      omega
    | infinity t => exact h
    | nan => exact h
  · cases T with
    | number => exact absurd h (by simp [leD, Datum.order])
    | infinity t => cases t
                    · decide
                    · exact absurd h (by decide)
    | nan => exact h
  · cases T <;> exact h
theorem le_abs (f : Format) (r : Nat) (s : Bool) (T : Datum) : leD (bodyD f r false) T = (leD (bodyD f r s) T && leD (bodyD f r s).opposite T) := by
  have h := le_pos f r T
  rw [body_opp]
  cases s <;> simp only [Bool.not_false, Bool.not_true] <;> revert h <;> cases leD (bodyD f r false) T <;> cases leD (bodyD f r true) T <;> simp

/-- in words: 'at most', over words -/
def leF (f : Format) (x y : Nat) : Bool := (f.order x y == some .lt) || (f.order x y == some .eq)
theorem leF_abs (f : Format) (x y : Nat) (h : x < 2 * f.signWeight) : leF f (x % f.signWeight) y = (leF f x y && leF f (x ^^^ f.signWeight) y) := by
  show leD (f.read (x % f.signWeight)) (f.read y) = (leD (f.read x) (f.read y) && leD (f.read (x ^^^ f.signWeight)) (f.read y))
  rw [read_neg f x h, read_abs, read_body f x]
  exact le_abs f _ _ _

/-- the rung of a magnitude: it hangs on no sign -/
def rungOf (f : Format) (mag : Nat) (place : Int) : Nat :=
  if mag = 0 then 0 else
  let last := max (place + mag.log2 - f.fractionBits) f.leastPlace
  min ((last - f.leastPlace).toNat * f.binade + Toward.even.cut false (mag <<< (place - last).toNat) (last - place).toNat) f.infRung
theorem nearest_rung (f : Format) (neg : Bool) (mag : Nat) (place : Int) : f.nearest neg mag place = f.word neg (rungOf f mag place) := by
  unfold Format.nearest rungOf
  split
  · rfl
  · rfl
theorem rungOf_lt (f : Format) (mag : Nat) (place : Int) : rungOf f mag place < f.signWeight := by
  unfold rungOf
  split
  · exact sw_pos f
  · exact Nat.lt_of_le_of_lt (Nat.min_le_right ..) f.infRung_lt
theorem word_mod (f : Format) (neg : Bool) {r : Nat} (h : r < f.signWeight) : f.word neg r % f.signWeight = r := by
  unfold Format.word
  split
  · rw [Nat.add_mod_left, Nat.mod_eq_of_lt h]
  · exact Nat.mod_eq_of_lt h
theorem word_lt2 (f : Format) (neg : Bool) {r : Nat} (h : r < f.signWeight) : f.word neg r < 2 * f.signWeight := by
  unfold Format.word; split <;> omega

def IsNum (f : Format) (x : Nat) : Prop := ∃ s m e, f.read x = .number s m e

theorem sub_both {f : Format} {x y : Nat} (hx : IsNum f x) (hy : IsNum f y) :
    ∃ r r', f.sub x y = some r ∧ f.sub y x = some r' ∧ r % f.signWeight = r' % f.signWeight ∧ r < 2 * f.signWeight := by
  obtain ⟨s, m, i, hx⟩ := hx
  obtain ⟨t, n, j, hy⟩ := hy
  refine ⟨_, _, by rw [Format.sub, hx, hy]; rfl, by rw [Format.sub, hx, hy]; rfl, ?_, ?_⟩
  · simp only [Format.write, nearest_rung]
    rw [word_mod f _ (rungOf_lt ..), word_mod f _ (rungOf_lt ..), Int.min_comm j i, signed_opp, signed_opp]
    congr 1
    omega
  · simp only [Format.write, nearest_rung]
    exact word_lt2 f _ (rungOf_lt ..)
theorem eq_both {f : Format} {x y : Nat} (hx : IsNum f x) (hy : IsNum f y) : (f.order x y == some .eq) = (f.order y x == some .eq) := by
  obtain ⟨s, m, i, hx⟩ := hx
  obtain ⟨t, n, j, hy⟩ := hy
  simp only [Format.order, hx, hy, Datum.order]
  rw [Int.min_comm j i, Bool.eq_iff_iff]
  simp only [beq_iff_eq, Option.some.injEq, Int.compare_eq_eq]
  omega

end Go.Proofs.Ytlkjgpiifdpeeaa
