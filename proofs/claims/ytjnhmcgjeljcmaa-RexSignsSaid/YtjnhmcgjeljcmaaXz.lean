/- Plain facts: what the text of a set is read as. No program. -/
import Derived.Test.YtjnhmcgjeljcmaaXx
import Derived.Test.YtjnhmcgjeljcmaaXj
namespace Go.Proofs.Ytjnhmcgjeljcmaa

theorem inR_append (a b : List (UInt8 × UInt8)) (c : Nat) : inR (a ++ b) c = (inR a c || inR b c) := by simp [inR, List.any_append]
theorem rgTo_in (m : Nat → Bool) : ∀ k, k ≤ 256 → (∀ c, inR (rgTo m k) c = (decide (c < k) && m c)) ∧ (∀ r ∈ rgTo m k, r.1.toNat ≤ r.2.toNat) := by
  intro k
  induction k with
  | zero => intro _; exact ⟨fun c => by simp [rgTo, inR], by simp [rgTo]⟩
  | succ k ih =>
    intro hk
    obtain ⟨ih1, ih2⟩ := ih (by omega)
    have hku : (UInt8.ofNat k).toNat = k := by simp; omega
    cases hm : m k
    · rw [rgTo_skip hm]
      refine ⟨fun c => ?_, ih2⟩
      rw [ih1]
      by_cases hc : c = k
      · subst hc; simp [hm]
      · have : decide (c < k + 1) = decide (c < k) := by rw [Bool.eq_iff_iff]; simp; omega
        rw [this]
    · have fin : ∀ c, (decide (c < k + 1) && m c) = ((decide (c < k) && m c) || decide (c = k)) := by
        intro c
        by_cases hc : c = k
        · subst hc; simp [hm]
        · have : decide (c < k + 1) = decide (c < k) := by rw [Bool.eq_iff_iff]; simp; omega
          rw [this]; simp [hc]
      by_cases hb : k = 0 ∨ m (k - 1) = false
      · rw [rgTo_new hm hb]
        refine ⟨fun c => ?_, fun r hr => ?_⟩
        · rw [inR_append, ih1, fin]
          congr 1
          rw [Bool.eq_iff_iff]
          simp [inR, hku]; omega
        · rcases List.mem_append.1 hr with h | h
          · exact ih2 r h
          · simp at h; subst h; exact Nat.le_refl _
      · obtain ⟨j, rfl⟩ : ∃ j, k = j + 1 := ⟨k - 1, by omega⟩
        have hm2 : m j = true := by
          cases h : m j
          · exact absurd (Or.inr (by simpa using h)) hb
          · rfl
        obtain ⟨l, lo, e1, e2⟩ := rgTo_bump hm hm2
        have hju : (UInt8.ofNat j).toNat = j := by simp; omega
        have hlo : lo.toNat ≤ j := by
          have := ih2 (lo, UInt8.ofNat j) (by rw [e1]; simp)
          simpa [hju] using this
        rw [e2]
        refine ⟨fun c => ?_, fun r hr => ?_⟩
        · have h1 := ih1 c
          rw [e1, inR_append] at h1
          rw [inR_append, fin, ← h1, Bool.or_assoc]
          congr 1
          rw [Bool.eq_iff_iff]
          simp only [inR, List.any_cons, List.any_nil, Bool.or_false, Bool.and_eq_true, Bool.or_eq_true, decide_eq_true_eq, hju, hku]
          omega
        · rcases List.mem_append.1 hr with h | h
          · exact ih2 r (by rw [e1]; exact List.mem_append_left _ h)
          · rw [List.mem_singleton] at h; subst h; show lo.toNat ≤ (UInt8.ofNat (j + 1)).toNat; rw [hku]; omega
theorem inR_ranges (rs : List (UInt8 × UInt8)) (neg : Bool) (c : UInt8) : inR (rangesL rs neg) c.toNat = (inR rs c.toNat != neg) := by
  have h := (rgTo_in (memB rs neg) 256 (Nat.le_refl _)).1 c.toNat
  have hc := UInt8.toNat_lt c
  unfold rangesL
  rw [h]
  simp [memB]; omega

theorem rangesL_one {lo hi : UInt8} (h : lo.toNat ≤ hi.toNat) : rangesL [(lo, hi)] false = [(lo, hi)] := by
  have hm : ∀ c, memB [(lo, hi)] false c = (decide (lo.toNat ≤ c) && decide (c ≤ hi.toNat)) := fun c => by simp [memB, inR]
  have hh := UInt8.toNat_lt hi
  have main : ∀ k, k ≤ 256 → rgTo (memB [(lo, hi)] false) k = if k ≤ lo.toNat then [] else if k ≤ hi.toNat + 1 then [(lo, UInt8.ofNat (k - 1))] else [(lo, hi)] := by
    intro k
    induction k with
    | zero => intro _; simp [rgTo]
    | succ k ih =>
      intro hk
      have ih := ih (by omega)
      rw [rgTo, hm k, hm (k - 1)]
      by_cases h1 : k < lo.toNat
      · rw [if_neg (by simp; omega), ih, if_pos (by omega), if_pos (by omega)]
      · by_cases h2 : k ≤ hi.toNat
        · rw [if_pos (by simp; omega)]
          by_cases h3 : k = lo.toNat
          · rw [if_neg (by simp; omega), ih, if_pos (by omega), if_neg (by omega), if_pos (by omega)]
            simp [h3]
          · rw [if_pos (by simp; omega), ih, if_neg (by omega), if_pos (by omega), if_neg (by omega), if_pos (by omega)]
            simp [bump]
        · rw [if_neg (by simp; omega), ih, if_neg (show ¬ k ≤ lo.toNat by omega), if_neg (show ¬ k + 1 ≤ lo.toNat by omega), if_neg (show ¬ k + 1 ≤ hi.toNat + 1 by omega)]
          by_cases h3 : k ≤ hi.toNat + 1
          · obtain rfl : k = hi.toNat + 1 := by omega
            rw [if_pos (Nat.le_refl _)]
            simp
          · rw [if_neg h3]
  unfold rangesL
  rw [main 256 (Nat.le_refl _), if_neg (by omega)]
  by_cases h2 : 256 ≤ hi.toNat + 1
  · rw [if_pos h2]
    have : hi.toNat = 255 := by omega
    have e : hi = UInt8.ofNat (256 - 1) := UInt8.toNat_inj.1 (by rw [this]; rfl)
    rw [← e]
  · rw [if_neg h2]
theorem rangesL_not_dot {lo hi : UInt8} (_ : lo.toNat ≤ hi.toNat) : rangesL [(lo, hi)] true ≠ [(10, 10)] := by
  intro e
  have h0 := inR_ranges [(lo, hi)] true 0
  have h255 := inR_ranges [(lo, hi)] true 255
  have h10 := inR_ranges [(lo, hi)] true 10
  rw [e] at h0 h255 h10
  have l0 := UInt8.toNat_lt lo
  have l1 := UInt8.toNat_lt hi
  simp [inR] at h0 h255 h10
  omega
theorem setT_one (c : UInt8) : setTx [(c, c)] = letterT sgs c := by
  unfold setTx
  rw [rangesL_one (Nat.le_refl _)]
  simp [setT2, oneR]
theorem setT_two {lo hi : UInt8} (h : lo.toNat < hi.toNat) : setTx [(lo, hi)] = 91 :: (letterT csgs lo ++ 45 :: (letterT csgs hi ++ [93])) := by
  have hne : hi ≠ lo := by rintro rfl; omega
  unfold setTx
  rw [rangesL_one (by omega)]
  have hd := rangesL_not_dot (lo := lo) (hi := hi) (by omega)
  unfold setT2
  rw [if_neg (by simp [oneR, hne]), if_neg hd, if_neg (by simp only [Bool.or_eq_true, Bool.and_eq_true, decide_eq_true_eq, List.length_cons, List.length_nil]; omega)]
  simp [rangesT, range1T, hne]
theorem letterX_csgs (b : UInt8) (r : List UInt8) : letterX (letterT csgs b ++ r) = .ok b (letterT csgs b).length := by
  unfold letterT
  by_cases h10 : b = 10
  · subst h10; rfl
  · by_cases h9 : b = 9
    · subst h9; rfl
    · rw [if_neg h10, if_neg h9]
      cases hc : csgs.contains b
      · have h92 : b ≠ 92 := by rintro rfl; simp [csgs] at hc
        simp [letterX, h92]
      · have : b = 93 ∨ b = 94 ∨ b = 45 ∨ b = 92 := by simpa [csgs] using hc
        rcases this with rfl | rfl | rfl | rfl <;> rfl
theorem letterT_first (b : UInt8) (r : List UInt8) : starts [93] (letterT csgs b ++ r) = false ∧ starts [94] (letterT csgs b ++ r) = false := by
  unfold letterT
  by_cases h10 : b = 10
  · subst h10; exact ⟨rfl, rfl⟩
  · by_cases h9 : b = 9
    · subst h9; exact ⟨rfl, rfl⟩
    · rw [if_neg h10, if_neg h9]
      cases hc : csgs.contains b
      · have h1 : b ≠ 93 ∧ b ≠ 94 := by
          constructor
          · rintro rfl; simp [csgs] at hc
          · rintro rfl; simp [csgs] at hc
        refine ⟨?_, ?_⟩
        · simp [starts, List.isPrefixOf]; exact fun e => h1.1 e.symm
        · simp [starts, List.isPrefixOf]; exact fun e => h1.2 e.symm
      · exact ⟨rfl, rfl⟩
theorem class_two {lo hi : UInt8} (h : lo.toNat < hi.toNat) : classX (letterT csgs lo ++ 45 :: (letterT csgs hi ++ [93])) = .ok (.mk 1 [(lo, hi)] []) ((letterT csgs lo).length + 1 + (letterT csgs hi).length + 1) := by
  have h1 := letterT_first lo (45 :: (letterT csgs hi ++ [93]))
  have h2 := letterT_first hi [93]
  have hr : rangeP letterX (letterT csgs lo ++ 45 :: (letterT csgs hi ++ [93])) = .ok lo hi ((letterT csgs lo).length + 1 + (letterT csgs hi).length) := by
    unfold rangeP
    rw [letterX_csgs]
    simp only
    rw [List.drop_left]
    have hd : dashB (45 :: (letterT csgs hi ++ [93])) = true := by
      have : starts [45, 93] (45 :: (letterT csgs hi ++ [93])) = starts [93] (letterT csgs hi ++ [93]) := by simp [starts, List.isPrefixOf]
      unfold dashB
      rw [this, h2.1]; simp [starts, List.isPrefixOf]
    rw [if_pos hd]
    have hdr : List.drop ((letterT csgs lo).length + 1) (letterT csgs lo ++ 45 :: (letterT csgs hi ++ [93])) = letterT csgs hi ++ [93] := by
      rw [List.drop_append]; simp
    rw [hdr, letterX_csgs]
    simp only
    rw [if_neg (by rw [UInt8.lt_iff_toNat_lt]; omega)]
  unfold classX
  rw [if_neg (by rw [h1.2]; simp), if_neg (by rw [h1.1]; simp)]
  have hi0 : (!false && starts [93] (letterT csgs lo ++ 45 :: (letterT csgs hi ++ [93]))) = false := by rw [h1.1]; rfl
  rw [itemsF_more good_letterX hi0 hr]
  have hdr : List.drop ((letterT csgs lo).length + 1 + (letterT csgs hi).length) (letterT csgs lo ++ 45 :: (letterT csgs hi ++ [93])) = [93] := by
    rw [List.drop_append, List.drop_eq_nil_of_le (by omega), List.nil_append, show (letterT csgs lo).length + 1 + (letterT csgs hi).length - (letterT csgs lo).length = (letterT csgs hi).length + 1 by omega, List.drop_succ_cons, List.drop_left]
  rw [hdr, itemsF_end (by rfl)]
  simp only [Ir.more, itemsPr]
  rw [rangesL_one (by omega)]
  simp
theorem whole_class {l : List UInt8} {t : Tr} {n : Nat} (h : classX l = .ok t n) (hn : n = l.length) : wholeX (91 :: l) = .ok (.mk 2 [] [t]) (l.length + 1) := by
  have hp : pieceX (altX (91 :: l).length) (91 :: l) = .ok t (1 + n) := by
    unfold pieceX atomX
    rw [if_neg (by simp [signX, kindX]), if_neg (by simp [starts, List.isPrefixOf]), if_pos (by simp [starts, List.isPrefixOf])]
    simp only [List.drop_succ_cons, List.drop_zero, h, Pr.shift]
    have : List.drop (1 + n) (91 :: l) = [] := by rw [List.drop_eq_nil_of_le]; simp; omega
    rw [this]; rfl
  have hg : goF (altX (91 :: l).length) [] (91 :: l) = .ok [.mk 2 [] [t]] (91 :: l).length := by
    rw [goF_more (by rfl) (by rfl) hp]
    have : List.drop (1 + n) (91 :: l) = [] := by rw [List.drop_eq_nil_of_le]; simp; omega
    rw [this, goF_nil]
    simp [Gl.pre, hn]; omega
  have := whole_of_go hg
  simpa [altEnd] using this
theorem back_two {lo hi : UInt8} (h : lo.toNat < hi.toNat) : parseX (setTx [(lo, hi)]) = (.mk 2 [] [.mk 1 [(lo, hi)] []], 0, 0) := by
  rw [setT_two h]
  have h1 := letterT_len csgs lo
  have h2 := letterT_len csgs hi
  refine parseX_ok (by simp; omega) (whole_class (class_two h) (by simp; omega))
def okOne (c : UInt8) : Bool := match wholeX (letterT sgs c) with | .ok (.mk 2 [] [.mk 1 [(a, b)] []]) _ => a == c && b == c | _ => false
theorem okOne_fin : ∀ n : Fin 256, okOne (UInt8.ofNat n.val) = true := by decide +kernel
theorem back_one (c : UInt8) : parseX (setTx [(c, c)]) = (.mk 2 [] [.mk 1 [(c, c)] []], 0, 0) := by
  have h := okOne_fin ⟨c.toNat, UInt8.toNat_lt c⟩
  simp only [UInt8.ofNat_toNat] at h
  rw [setT_one]
  have hl := letterT_len sgs c
  unfold okOne at h
  split at h
  · rename_i a b n hw
    simp only [Bool.and_eq_true, beq_iff_eq] at h
    rw [h.1, h.2] at hw
    exact parseX_ok (by omega) hw
  · cases h
theorem back_any {lo hi : UInt8} (h : lo.toNat ≤ hi.toNat) : parseX (setTx [(lo, hi)]) = (.mk 2 [] [.mk 1 [(lo, hi)] []], 0, 0) := by
  rcases Nat.eq_or_lt_of_le h with e | l
  · have : lo = hi := UInt8.toNat_inj.1 e
    subst this; exact back_one lo
  · exact back_two l
end Go.Proofs.Ytjnhmcgjeljcmaa
