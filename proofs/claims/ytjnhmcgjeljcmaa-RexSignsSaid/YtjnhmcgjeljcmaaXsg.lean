/- Plain facts: signs behind a byte. No program. -/
import Derived.Test.YtjnhmcgjeljcmaaXz
namespace Go.Proofs.Ytjnhmcgjeljcmaa

def sgB (k : Nat) : UInt8 := if k = 0 then 42 else if k = 1 then 43 else 63
def patL (ks : List Nat) : List UInt8 := 97 :: ks.map sgB
def setA : Tr := .mk 1 [(97, 97)] []
def wantT (ks : List Nat) : Tr := ks.foldl (fun (t : Tr) (k : Nat) => .mk (4 + (k : Int)) [] [t]) setA
theorem wantT_snoc (ks : List Nat) (k : Nat) : wantT (ks ++ [k]) = .mk (4 + (k : Int)) [] [wantT ks] := by simp [wantT]
theorem patL_snoc (ks : List Nat) (k : Nat) : patL (ks ++ [k]) = patL ks ++ [sgB k] := by simp [patL]
theorem kind_sgB {k : Nat} (h : k < 3) : kindX (sgB k) = 4 + (k : Int) := by
  have : k = 0 ∨ k = 1 ∨ k = 2 := by omega
  rcases this with rfl | rfl | rfl <;> rfl
theorem signs_fold : ∀ (ks : List Nat) (t : Tr), (∀ k ∈ ks, k < 3) → signsX t (ks.map sgB) = (ks.foldl (fun (t : Tr) (k : Nat) => .mk (4 + (k : Int)) [] [t]) t, ks.length)
  | [], t, _ => rfl
  | k :: ks, t, h => by
    have hk := kind_sgB (h k (by simp))
    have ih := signs_fold ks (.mk (4 + (k : Int)) [] [t]) (fun j hj => h j (by simp [hj]))
    simp only [List.map_cons, signsX, hk]
    rw [if_neg (by omega), ih]
    simp
theorem whole_signs {ks : List Nat} (h : ∀ k ∈ ks, k < 3) : wholeX (patL ks) = .ok (.mk 2 [] [wantT ks]) (patL ks).length := by
  have ha : atomX (altX (patL ks).length) (patL ks) = .ok setA 1 := by
    unfold atomX patL
    rw [if_neg (by simp [signX, kindX]), if_neg (by simp [starts, List.isPrefixOf]), if_neg (by simp [starts, List.isPrefixOf]), if_neg (by simp [starts, List.isPrefixOf]), if_neg (by simp [starts, List.isPrefixOf])]
    simp [letterX, setA]
  have hp : pieceX (altX (patL ks).length) (patL ks) = .ok (wantT ks) (1 + ks.length) := by
    unfold pieceX
    rw [ha]
    simp only
    have hd : (patL ks).drop 1 = ks.map sgB := rfl
    rw [hd, signs_fold ks setA h]
    rfl
  have hl : (patL ks).length = 1 + ks.length := by simp [patL]; omega
  have hg : goF (altX (patL ks).length) [] (patL ks) = .ok [.mk 2 [] [wantT ks]] (patL ks).length := by
    rw [goF_more (by rfl) (by rfl) hp]
    have : List.drop (1 + ks.length) (patL ks) = [] := by rw [List.drop_eq_nil_of_le]; omega
    rw [this, goF_nil]
    simp [Gl.pre, hl]
  have := whole_of_go hg
  simpa [altEnd] using this
theorem parse_signs {ks : List Nat} (h : ∀ k ∈ ks, k < 3) (hl : ks.length ≤ 200) : parseX (patL ks) = (.mk 2 [] [wantT ks], 0, 0) :=
  parseX_ok (by simp [patL]; omega) (whole_signs h)
theorem kind_want (ks : List Nat) : kindOf (wantT ks) ≠ 2 ∧ kindOf (wantT ks) ≠ 3 := by
  rcases List.eq_nil_or_concat ks with rfl | ⟨l, k, rfl⟩
  · exact ⟨by decide, by decide⟩
  · rw [List.concat_eq_append, wantT_snoc]; simp [kindOf]; omega
theorem within_want (k : Int) (ks : List Nat) : within k (wantT ks) = false := by
  have := kind_want ks
  simp [within, this.1, this.2]
theorem sgB_sign {k : Nat} (h : k < 3) : signT (4 + (k : Int)) = [sgB k] := by
  have : k = 0 ∨ k = 1 ∨ k = 2 := by omega
  rcases this with rfl | rfl | rfl <;> rfl
theorem body_want : ∀ (n : Nat) (ks : List Nat), ks.length = n → (∀ k ∈ ks, k < 3) → bodyT (wantT ks) = patL ks ∧ stepsT (wantT ks) = 2 * n
  | 0, ks, hl, _ => by
    obtain rfl : ks = [] := List.eq_nil_of_length_eq_zero hl
    have e : setTx [(97, 97)] = [97] := by kernel_rfl
    exact ⟨by simp [wantT, setA, bodyT, patL, e], by simp [wantT, setA, stepsT]⟩
  | n + 1, ks, hl, h => by
    rcases List.eq_nil_or_concat ks with rfl | ⟨l, k, rfl⟩
    · simp at hl
    · rw [List.concat_eq_append] at hl h ⊢
      have hk : k < 3 := h k (by simp)
      obtain ⟨i1, i2⟩ := body_want n l (by simpa using hl) (fun j hj => h j (by simp [hj]))
      rw [wantT_snoc, patL_snoc]
      have h1 : ¬ (4 + (k : Int) = 1) := by omega
      have h2 : ¬ (4 + (k : Int) = 2 ∨ 4 + (k : Int) = 3) := by omega
      have h3 : 4 + (k : Int) = 4 ∨ 4 + (k : Int) = 5 ∨ 4 + (k : Int) = 6 := by omega
      constructor
      · rw [bodyT, if_neg h1, if_neg h2, if_pos h3, firstTx, within_want, i1, sgB_sign hk]; rfl
      · rw [stepsT, if_neg h2, if_pos h3, stepsF, i2]; omega
theorem body_signs {ks : List Nat} (h : ∀ k ∈ ks, k < 3) : bodyT (.mk 2 [] [wantT ks]) = patL ks ∧ stepsT (.mk 2 [] [wantT ks]) = 2 * ks.length + 2 := by
  obtain ⟨i1, i2⟩ := body_want ks.length ks rfl h
  constructor
  · simp [bodyT, kidsTx, within_want, wrapP, i1]
  · simp [stepsT, stepsK, i2]; omega
end Go.Proofs.Ytjnhmcgjeljcmaa
