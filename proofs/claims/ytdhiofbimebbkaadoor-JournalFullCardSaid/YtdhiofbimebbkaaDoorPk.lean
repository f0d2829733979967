/- Numbers and texts as bytes, in plain words. -/
namespace Go.Proofs.YtdhiofbimebbkaaDoor

def numF : Nat → Nat → List UInt8
  | 0, n => [UInt8.ofNat n]
  | k + 1, n => if n < 128 then [UInt8.ofNat n] else UInt8.ofNat (n % 128 + 128) :: numF k (n / 128)
/-- A number's bytes. -/
def numL (n : Nat) : List UInt8 := numF 8 n
/-- A number as it counts. -/
def numC (n : Int) : Nat := (min (max n 0) 4611686018427387904).toNat
theorem numC_le (n : Int) : numC n ≤ 4611686018427387904 := by unfold numC; omega
theorem numC_eq (n : Int) : ((numC n : Nat) : Int) = min (max n 0) 4611686018427387904 := by unfold numC; omega
def textL (s : List UInt8) : List UInt8 := numL s.length ++ s
def getF : Nat → Nat → Nat → List UInt8 → Nat × Nat
  | 0, _, _, _ => (0, 0)
  | _ + 1, _, _, [] => (0, 0)
  | k + 1, i, n, c :: r =>
    if 128 ≤ c.toNat then getF k (i + 1) (n + c.toNat % 128 * 128 ^ i) r
    else if 4611686018427387904 < n + c.toNat % 128 * 128 ^ i ∨ (0 < i ∧ c.toNat = 0) then (0, 0) else (n + c.toNat % 128 * 128 ^ i, i + 1)
/-- The number with which bytes begin, and how many it has; 0: none. -/
def getL (bs : List UInt8) : Nat × Nat := getF 9 0 0 bs
theorem numF_len : ∀ k n, 1 ≤ (numF k n).length ∧ (numF k n).length ≤ k + 1
  | 0, n => by simp [numF]
  | k + 1, n => by
    have := numF_len k (n / 128)
    unfold numF
    split
    · simp
    · simp; omega
theorem numL_len (n : Nat) : 1 ≤ (numL n).length ∧ (numL n).length ≤ 9 := numF_len 8 n
theorem numL_small {n : Nat} (h : n < 128) : numL n = [UInt8.ofNat n] := by unfold numL numF; rw [if_pos h]
theorem u8_of_lt {n : Nat} (h : n < 256) : (UInt8.ofNat n).toNat = n := by simp; omega
theorem getF_num : ∀ (k i m n : Nat) (r : List UInt8), n < 128 ^ (k + 1) → m + n * 128 ^ i ≤ 4611686018427387904 → (0 < i → 0 < n) → getF (k + 1) i m (numF k n ++ r) = (m + n * 128 ^ i, i + (numF k n).length)
  | 0, i, m, n, r, hn, hm, hi => by
    have h1 : n < 128 := by simpa using hn
    have h2 : (UInt8.ofNat n).toNat = n := u8_of_lt (by omega)
    show getF 1 i m (UInt8.ofNat n :: ([] ++ r)) = _
    unfold getF
    rw [h2, if_neg (by omega), Nat.mod_eq_of_lt h1, if_neg (by
      rintro (h | ⟨h, h3⟩)
      · omega
      · have := hi h; omega)]
    rfl
  | k + 1, i, m, n, r, hn, hm, hi => by
    unfold numF
    by_cases h1 : n < 128
    · rw [if_pos h1]
      have h2 : (UInt8.ofNat n).toNat = n := u8_of_lt (by omega)
      show getF (k + 1 + 1) i m (UInt8.ofNat n :: ([] ++ r)) = _
      unfold getF
      rw [h2, if_neg (by omega), Nat.mod_eq_of_lt h1, if_neg (by
        rintro (h | ⟨h, h3⟩)
        · omega
        · have := hi h; omega)]
      rfl
    · rw [if_neg h1]
      have h2 : (UInt8.ofNat (n % 128 + 128)).toNat = n % 128 + 128 := u8_of_lt (by omega)
      have h3 : (n % 128 + 128) % 128 = n % 128 := by omega
      show getF (k + 1 + 1) i m (UInt8.ofNat (n % 128 + 128) :: (numF k (n / 128) ++ r)) = _
      unfold getF
      rw [h2, if_pos (by omega), h3]
      have e : m + n % 128 * 128 ^ i + n / 128 * 128 ^ (i + 1) = m + n * 128 ^ i := by
        have hd := Nat.div_add_mod n 128
        calc m + n % 128 * 128 ^ i + n / 128 * 128 ^ (i + 1) = m + (128 * (n / 128) + n % 128) * 128 ^ i := by rw [Nat.pow_succ]; rw [Nat.add_mul]; rw [Nat.mul_comm 128 (n / 128), Nat.mul_assoc, Nat.mul_comm 128 (128 ^ i)]; omega
          _ = _ := by rw [hd]
      rw [getF_num k (i + 1) (m + n % 128 * 128 ^ i) (n / 128) r (by rw [Nat.div_lt_iff_lt_mul (by decide)]; rw [Nat.pow_succ] at hn; exact hn) (by rw [e]; exact hm) (fun _ => by omega), e]
      simp only [List.length_cons]
      rw [Prod.mk.injEq]
      exact ⟨rfl, by omega⟩
/-- A number that is written is read as it. -/
theorem getL_num {n : Nat} (h : n ≤ 4611686018427387904) (r : List UInt8) : getL (numL n ++ r) = (n, (numL n).length) := by
  have := getF_num 8 0 0 n r (by omega) (by omega) (fun h => by omega)
  unfold getL numL
  rw [this]
  simp
theorem getF_cut : ∀ (k i m n j : Nat), n < 128 ^ (k + 1) → j < (numF k n).length → getF (k + 1) i m ((numF k n).take j) = (0, 0)
  | 0, i, m, n, j, hn, hj => by
    obtain rfl : j = 0 := by simp [numF] at hj; exact hj
    simp [getF]
  | k + 1, i, m, n, j, hn, hj => by
    unfold numF at hj ⊢
    by_cases h1 : n < 128
    · rw [if_pos h1] at hj ⊢
      obtain rfl : j = 0 := by simp at hj; exact hj
      simp [getF]
    · rw [if_neg h1] at hj ⊢
      match j with
      | 0 => simp [getF]
      | j + 1 =>
        have h2 : (UInt8.ofNat (n % 128 + 128)).toNat = n % 128 + 128 := u8_of_lt (by omega)
        rw [List.take_succ_cons]
        unfold getF
        rw [h2, if_pos (by omega)]
        exact getF_cut k (i + 1) _ (n / 128) j (by rw [Nat.div_lt_iff_lt_mul (by decide)]; rw [Nat.pow_succ] at hn; exact hn) (by simpa using hj)
/-- A proper beginning of a number is none. -/
theorem getL_cut {n j : Nat} (h : n ≤ 4611686018427387904) (hj : j < (numL n).length) : getL ((numL n).take j) = (0, 0) := getF_cut 8 0 0 n j (by omega) hj
theorem getF_bd : ∀ (k i n : Nat) (bs : List UInt8), getF k i n bs = (0, 0) ∨ (i < (getF k i n bs).2 ∧ (getF k i n bs).2 ≤ i + k ∧ (getF k i n bs).2 ≤ i + bs.length ∧ (getF k i n bs).1 ≤ 4611686018427387904)
  | 0, _, _, _ => .inl rfl
  | _ + 1, _, _, [] => .inl rfl
  | k + 1, i, n, c :: r => by
    unfold getF
    split
    · rcases getF_bd k (i + 1) (n + c.toNat % 128 * 128 ^ i) r with h | ⟨h1, h2, h3, h4⟩
      · exact .inl h
      · refine .inr ⟨by omega, by omega, ?_, h4⟩
        simp only [List.length_cons]; omega
    · split
      · exact .inl rfl
      · rename_i h
        refine .inr ⟨by simp, by simp, by simp, ?_⟩
        simp only [not_or] at h
        exact Nat.le_of_not_lt h.1
theorem getL_bd (bs : List UInt8) : getL bs = (0, 0) ∨ (0 < (getL bs).2 ∧ (getL bs).2 ≤ 9 ∧ (getL bs).2 ≤ bs.length ∧ (getL bs).1 ≤ 4611686018427387904) := by
  rcases getF_bd 9 0 0 bs with h | ⟨h1, h2, h3, h4⟩
  · exact .inl h
  · refine .inr ⟨h1, ?_, ?_, h4⟩
    · unfold getL; omega
    · unfold getL; omega
end Go.Proofs.YtdhiofbimebbkaaDoor
