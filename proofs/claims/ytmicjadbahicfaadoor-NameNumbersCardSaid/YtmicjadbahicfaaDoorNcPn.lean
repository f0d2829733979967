/- Plain facts: texts that end in a number stand in the order of the numbers. No program. -/
import Derived.Test.YtmicjadbahicfaaDoorNcPr
namespace Go.Proofs.YtmicjadbahicfaaDoor

def loopD : Nat → Nat → List UInt8 → List UInt8
  | 0, _, o => o
  | f + 1, r, o => if o = [] ∨ 0 < r then loopD f (r / 10) ((48 + r % 10).toUInt8 :: o) else o
def decL (n : Nat) : List UInt8 := loopD 30 n []

theorem dig_nat {d : Nat} (h : d < 10) : ((48 + d).toUInt8).toNat = 48 + d := by
  simp [Nat.toUInt8, UInt8.ofNat, UInt8.toNat]; omega
theorem loopD_spec : ∀ f r o, AllD o → r < 10 ^ f → (o ≠ [] ∨ 0 < f) → AllD (loopD f r o) ∧ loopD f r o ≠ [] ∧ val (loopD f r o) = r * 10 ^ o.length + val o := by
  intro f
  induction f with
  | zero =>
    intro r o ho hr h
    have : r = 0 := by simpa using hr
    subst this
    refine ⟨ho, ?_, by simp [loopD]⟩
    rcases h with h | h
    · exact h
    · omega
  | succ f ih =>
    intro r o ho hr _
    simp only [loopD]
    split
    · have hd : r % 10 < 10 := Nat.mod_lt _ (by omega)
      have hn := dig_nat hd
      have ho' : AllD ((48 + r % 10).toUInt8 :: o) := fun c hc => by
        rcases List.mem_cons.1 hc with rfl | h
        · exact isD_iff.2 (by rw [hn]; omega)
        · exact ho c h
      have hr' : r / 10 < 10 ^ f := by rw [Nat.pow_succ] at hr; omega
      obtain ⟨h1, h2, h3⟩ := ih (r / 10) _ ho' hr' (Or.inl (by simp))
      refine ⟨h1, h2, ?_⟩
      rw [h3]
      simp only [val, List.length_cons, hn, Nat.pow_succ]
      have e : r = r / 10 * 10 + r % 10 := by omega
      have e2 : 48 + r % 10 - 48 = r % 10 := by omega
      rw [e2]
      generalize r / 10 = q at *
      generalize r % 10 = m at *
      subst e
      generalize 10 ^ o.length = t
      rw [Nat.add_mul, ← Nat.add_assoc]
      congr 2
      rw [Nat.mul_comm t 10, Nat.mul_assoc]
    · rename_i hc
      have h0 : r = 0 := by
        rcases Nat.eq_zero_or_pos r with h | h
        · exact h
        · exact absurd (Or.inr h) hc
      have hne : o ≠ [] := fun e => hc (Or.inl e)
      subst h0
      exact ⟨ho, hne, by simp⟩
theorem decL_spec {n : Nat} (h : n < 10 ^ 30) : AllD (decL n) ∧ decL n ≠ [] ∧ val (decL n) = n := by
  have := loopD_spec 30 n [] (fun c hc => by simp at hc) h (Or.inr (by omega))
  simpa [decL, val] using this

theorem run_allD {l : List UInt8} (h : AllD l) : run l = l := by
  unfold run
  induction l with
  | nil => rfl
  | cons c l ih => rw [List.takeWhile_cons, if_pos h.tail.1, ih h.tail.2]
theorem run_append {s : List UInt8} (X : List UInt8) (h : ∃ c ∈ s, isD c = false) : run (s ++ X) = run s ∧ (run s).length < s.length := by
  unfold run
  induction s with
  | nil => obtain ⟨c, hc, _⟩ := h; simp at hc
  | cons c s ih =>
    rw [List.cons_append, List.takeWhile_cons, List.takeWhile_cons]
    cases hc : isD c
    · simp
    · have h' : ∃ d ∈ s, isD d = false := by
        obtain ⟨d, hd, hf⟩ := h
        rcases List.mem_cons.1 hd with rfl | hd
        · rw [hc] at hf; cases hf
        · exact ⟨d, hd, hf⟩
      obtain ⟨h1, h2⟩ := ih h'
      simp only [if_true]
      rw [h1]; exact ⟨rfl, by simpa using h2⟩
/-- a beginning that ends in no digit counts for nothing -/
theorem cmpS_pre : ∀ (n : Nat) (s X Y : List UInt8) (c : UInt8), s.length ≤ n → isD c = false → cmpS ((s ++ [c]) ++ X) ((s ++ [c]) ++ Y) = cmpS X Y := by
  intro n
  induction n with
  | zero =>
    intro s X Y c hs hc
    have : s = [] := List.length_eq_zero_iff.1 (by omega)
    subst this
    simp only [List.nil_append, List.cons_append]
    rw [cmpS_step (by simp) (by simp), (tok_other hc).1, (tok_other hc).1, (tok_other hc).2, (tok_other hc).2, if_neg (by simp [cT_zero.2 rfl])]
    rfl
  | succ n ih =>
    intro s X Y c hs hc
    cases s with
    | nil => exact ih [] X Y c (by simp) hc
    | cons x s =>
      cases hx : isD x
      · simp only [List.cons_append]
        rw [cmpS_step (by simp) (by simp), (tok_other hx).1, (tok_other hx).1, (tok_other hx).2, (tok_other hx).2, if_neg (by simp [cT_zero.2 rfl])]
        simp only [List.drop_succ_cons, List.drop_zero]
        exact ih s X Y c (by simpa using hs) hc
      · have hex : ∃ d ∈ (x :: s) ++ [c], isD d = false := ⟨c, by simp, hc⟩
        obtain ⟨r1, r2⟩ := run_append X hex
        obtain ⟨r3, _⟩ := run_append Y hex
        have t1 := tok_digit (x := x) (l := s ++ [c] ++ X) hx
        have t2 := tok_digit (x := x) (l := s ++ [c] ++ Y) hx
        have e1 : x :: (s ++ [c] ++ X) = (x :: s) ++ [c] ++ X := by simp
        have e2 : x :: (s ++ [c] ++ Y) = (x :: s) ++ [c] ++ Y := by simp
        rw [e1, r1] at t1
        rw [e2, r3] at t2
        rw [cmpS_step (by simp) (by simp), t1.1, t2.1, t1.2, t2.2, if_neg (by simp [cT_zero.2 rfl])]
        have hpos : 1 ≤ (run ((x :: s) ++ [c])).length := by
          unfold run; rw [List.cons_append, List.takeWhile_cons, if_pos hx]; simp
        -- what is left of the beginning
        have hk : (run ((x :: s) ++ [c])).length ≤ (x :: s).length := by simpa using Nat.le_of_lt_succ (by simpa using r2)
        generalize (run ((x :: s) ++ [c])).length = k at *
        rw [List.append_assoc, List.append_assoc, List.drop_append_of_le_length hk, List.drop_append_of_le_length hk, ← List.append_assoc, ← List.append_assoc]
        exact ih _ X Y c (by rw [List.length_drop]; simp at hs ⊢; omega) hc
/-- numbers -/
theorem cmpS_run {X Y : List UInt8} (hX : AllD X) (hY : AllD Y) (h1 : X ≠ []) (h2 : Y ≠ []) : cmpS X Y = cT (48, val X, X.length) (48, val Y, Y.length) := by
  have tk : ∀ {Z : List UInt8}, AllD Z → Z ≠ [] → tok Z = (48, val Z, Z.length) ∧ tlen Z = Z.length := fun {Z} hZ hn => by
    cases Z with
    | nil => exact absurd rfl hn
    | cons c l => have := tok_digit (x := c) (l := l) hZ.tail.1; rw [run_allD hZ] at this; exact this
  rw [cmpS_step h1 h2, (tk hX h1).1, (tk hY h2).1, (tk hX h1).2, (tk hY h2).2]
  split
  · rfl
  · rename_i h0
    rw [List.drop_length, List.drop_length]
    exact (Classical.not_not.1 h0).symm
theorem num_lt {s X Y : List UInt8} {c : UInt8} (hc : isD c = false) (hX : AllD X) (hY : AllD Y) (h1 : X ≠ []) (h2 : Y ≠ []) (h : val X < val Y ∨ (val X = val Y ∧ X.length < Y.length)) : cmpS ((s ++ [c]) ++ X) ((s ++ [c]) ++ Y) = -1 := by
  rw [cmpS_pre s.length s X Y c (Nat.le_refl _) hc, cmpS_run hX hY h1 h2]
  have h48 : c3 48 48 = 0 := by decide
  unfold cT
  simp only [h48, ne_eq, not_true_eq_false, if_false]
  rcases h with h | ⟨h, hl⟩
  · have : c3 (val X) (val Y) = -1 := by unfold c3; rw [if_pos h]
    rw [this]; simp
  · have e1 : c3 (val X) (val Y) = 0 := c3_zero.2 h
    have e2 : c3 X.length Y.length = -1 := by unfold c3; rw [if_pos hl]
    rw [e1, e2]; simp
theorem num_gt {s X Y : List UInt8} {c : UInt8} (hc : isD c = false) (hX : AllD X) (hY : AllD Y) (h1 : X ≠ []) (h2 : Y ≠ []) (h : val Y < val X) : cmpS ((s ++ [c]) ++ X) ((s ++ [c]) ++ Y) = 1 := by
  rw [cmpS_neg, num_lt hc hY hX h2 h1 (Or.inl h)]; rfl
theorem AllD_zero {X : List UInt8} (h : AllD X) : AllD (48 :: X) := fun c hc => by
  rcases List.mem_cons.1 hc with rfl | h'
  · decide
  · exact h c h'
theorem val_zero (X : List UInt8) : val (48 :: X) = val X := by simp [val]

end Go.Proofs.YtmicjadbahicfaaDoor
