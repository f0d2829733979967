/- Plain facts: names and digits in a report's lines. No program. -/
import Derived.Test.YtplenagncmhhoaaDoorSmA
import Derived.Lib.ItoaNum
namespace Go.Proofs.YtplenagncmhhoaaDoor

def okN (l : Ln) : Bool := rightB l.length
def wrN (l : Ln) : Ln := writeL ⟨l.toArray⟩
def rdN (l : Ln) : Option Ln := readO ⟨l.toArray⟩
theorem nmOk : NmOk okN wrN rdN where
  back n h := by
    have := readO_writeL (s := ⟨n.toArray⟩) (v := ⟨(wrN n).toArray⟩) (by simpa [okN, ByteArray.size] using h) (by simp [wrN])
    simpa [rdN] using this
  only l n h := by
    unfold rdN readO at h
    cases hd : decAt (⟨l.toArray⟩ : ByteArray) 0 with
    | none => rw [hd] at h; cases h
    | some u =>
      rw [hd] at h
      simp only at h
      by_cases hc : rightB u.length = true ∧ writeL ⟨u.toArray⟩ = (⟨l.toArray⟩ : ByteArray).data.toList
      · rw [if_pos hc] at h
        injection h with h
        subst h
        exact ⟨hc.1, by simpa [wrN] using hc.2⟩
      · rw [if_neg hc] at h; cases h
def prt (c : UInt8) : Prop := 32 ≤ c.toNat ∧ c.toNat ≤ 126
theorem prt_10 {l : Ln} (h : ∀ c, c ∈ l → prt c) : (10 : UInt8) ∉ l := fun hc => by
  have := (h _ hc).1
  exact absurd this (by decide)
theorem wr_prt {n : Ln} (h : okN n = true) : ∀ c, c ∈ wrN n → prt c := by
  intro c hc
  unfold wrN at hc
  rw [writeL_yes (by simpa [okN, ByteArray.size] using h)] at hc
  obtain ⟨j, hj, rfl⟩ := List.getElem_of_mem hc
  have := writeTo_print (⟨n.toArray⟩ : ByteArray) _ (Nat.le_refl _) j hj
  exact ⟨this.1, this.2.1⟩
def dgN (n : Nat) : Ln := Lib.decDigits n
theorem dec_prt : ∀ (N n : Nat), n ≤ N → ∀ c, c ∈ Lib.decDigits n → prt c := by
  intro N
  induction N with
  | zero =>
    intro n hn c hc
    obtain rfl : n = 0 := by omega
    rw [Lib.decDigits, dif_pos (by decide)] at hc
    simp at hc
    subst hc
    exact ⟨by decide, by decide⟩
  | succ N ih =>
    intro n hn c hc
    have dig : ∀ k, k < 10 → prt (UInt8.ofNat (48 + k)) := fun k hk => by
      have e : (UInt8.ofNat (48 + k)).toNat = 48 + k := by simp; omega
      exact ⟨by rw [e]; omega, by rw [e]; omega⟩
    rw [Lib.decDigits] at hc
    split at hc
    · rename_i h
      simp only [List.mem_singleton] at hc
      subst hc
      exact dig n h
    · rename_i h
      rcases List.mem_append.1 hc with hc | hc
      · exact ih (n / 10) (by omega) c hc
      · simp only [List.mem_singleton] at hc
        subst hc
        exact dig _ (by omega)
theorem wd_prt (v : Nat) : ∀ c, c ∈ wd v → prt c := by
  by_cases h : v < 8
  · have key : ∀ i : Fin 8, ∀ c, c ∈ wd i.val → (decide (32 ≤ c.toNat) && decide (c.toNat ≤ 126)) = true := by decide
    intro c hc
    have := key ⟨v, h⟩ c hc
    simpa [prt] using this
  · intro c hc
    unfold wd at hc
    rw [List.getD_eq_getElem?_getD, List.getElem?_eq_none (by simp [wdL]; omega)] at hc; simp at hc
theorem lit_prt {l : Ln} (h : (l.all fun c => decide (32 ≤ c.toNat) && decide (c.toNat ≤ 126)) = true) : ∀ c, c ∈ l → prt c := fun c hc => by
  have := List.all_eq_true.1 h c hc
  simpa [prt] using this
theorem app_prt {a b : Ln} (ha : ∀ c, c ∈ a → prt c) (hb : ∀ c, c ∈ b → prt c) : ∀ c, c ∈ a ++ b → prt c := fun c hc => (List.mem_append.1 hc).elim (ha c) (hb c)
theorem cons_prt {x : UInt8} {b : Ln} (hx : prt x) (hb : ∀ c, c ∈ b → prt c) : ∀ c, c ∈ x :: b → prt c := fun c hc => (List.mem_cons.1 hc).elim (fun e => e ▸ hx) (hb c)
theorem tail_prt (ps : List Pt) : ∀ l, l ∈ tailL dgN ps → ∀ c, c ∈ l → prt c := by
  have one : ∀ v l, l ∈ cntV dgN ps v → ∀ c, c ∈ l → prt c := by
    intro v l hl
    unfold cntV at hl
    split at hl
    · simp at hl
    · simp only [List.mem_singleton] at hl
      subst hl
      exact cons_prt ⟨by decide, by decide⟩ (cons_prt ⟨by decide, by decide⟩ (app_prt (wd_prt v) (cons_prt ⟨by decide, by decide⟩ (dec_prt _ _ (Nat.le_refl _)))))
  intro l hl
  unfold tailL at hl
  simp only [List.mem_append, List.mem_singleton] at hl
  rcases hl with ((((((hl | hl) | hl) | hl) | hl) | hl) | hl) | rfl
  · exact one _ l hl
  · exact one _ l hl
  · exact one _ l hl
  · exact one _ l hl
  · exact one _ l hl
  · exact one _ l hl
  · exact one _ l hl
  · exact lit_prt (by decide)
theorem sum_prt {s : Sm} (hs : okS okN s) : ∀ l, l ∈ sumL wrN dgN s → ∀ c, c ∈ l → prt c := by
  obtain ⟨h1, h2, h3⟩ := hs
  intro l hl
  unfold sumL at hl
  rcases List.mem_cons.1 hl with rfl | hl
  · exact app_prt (lit_prt (by decide)) (wr_prt h1)
  rcases List.mem_cons.1 hl with rfl | hl
  · exact app_prt (lit_prt (by decide)) (wr_prt h2)
  rcases List.mem_append.1 hl with hl | hl
  · unfold partsL at hl
    obtain ⟨q, hq, hl⟩ := List.mem_flatten.1 hl
    obtain ⟨p, hp, rfl⟩ := List.mem_map.1 hq
    obtain ⟨g1, g2⟩ := h3 p hp
    rcases List.mem_cons.1 hl with rfl | hl
    · exact app_prt (lit_prt (by decide)) (wr_prt g1)
    · obtain ⟨r, hr, rfl⟩ := List.mem_map.1 hl
      exact app_prt (wd_prt _) (cons_prt ⟨by decide, by decide⟩ (cons_prt ⟨by decide, by decide⟩ (wr_prt (g2 r hr).1)))
  · exact tail_prt _ l hl
def textB (s : Sm) : Ln := flat (sumL wrN dgN s)
def parseB (t : Ln) : Option Sm × Nat := sumP rdN dgN (linesOf [] t).1 (linesOf [] t).2
theorem parse_text {s : Sm} (hs : okS okN s) : parseB (textB s) = (some s, 0) := by
  have h := lines_flat (sumL wrN dgN s) [] fun l hl => prt_10 (sum_prt hs l hl)
  rw [List.append_nil] at h
  unfold parseB textB
  rw [h]
  simp only [linesOf, List.append_nil]
  exact sum_back nmOk hs
theorem parse_cut {s : Sm} (hs : okS okN s) {i : Nat} (hi : i < (textB s).length) : parseB ((textB s).take i) = (none, ((textB s).take i).count 10) := by
  have hno : ∀ l, l ∈ sumL wrN dgN s → (10 : UInt8) ∉ l := fun l hl => prt_10 (sum_prt hs l hl)
  obtain ⟨m, t, h1, h2, h3⟩ := flat_cut (sumL wrN dgN s) i hi
  obtain ⟨u, hu⟩ := h3 _ (List.getElem?_eq_getElem h1)
  have ht : (10 : UInt8) ∉ t := fun h => hno _ (List.getElem_mem h1) (by rw [hu]; exact List.mem_append_left _ h)
  have hno' : ∀ l, l ∈ (sumL wrN dgN s).take m → (10 : UInt8) ∉ l := fun l hl => hno l (List.mem_of_mem_take hl)
  have e1 : linesOf [] ((textB s).take i) = ((sumL wrN dgN s).take m, t) := by
    unfold textB
    rw [h2, lines_flat _ t hno', lines_end t [] ht]
    simp
  unfold parseB
  rw [e1]
  simp only
  rw [sum_cut nmOk hs h1 t]
  unfold textB
  rw [h2, List.count_append, flat_count _ hno', List.count_eq_zero.2 ht]
  simp
  omega
theorem lines_ne : ∀ (l cur : Ln), (10 : UInt8) ∈ l → (linesOf cur l).1 ≠ []
  | [], cur, h => by simp at h
  | c :: l, cur, h => by
    rw [lines_cons]
    by_cases hc : c = 10
    · rw [if_pos hc]; simp
    · rw [if_neg hc]
      exact lines_ne l _ (by rcases List.mem_cons.1 h with h | h; exact absurd h.symm hc; exact h)
theorem parse_more {s : Sm} (hs : okS okN s) (more : Ln) : parseB (textB s ++ more ++ [10]) = (none, (textB s).count 10) := by
  have hno : ∀ l, l ∈ sumL wrN dgN s → (10 : UInt8) ∉ l := fun l hl => prt_10 (sum_prt hs l hl)
  unfold parseB textB
  rw [List.append_assoc, lines_flat _ _ hno, flat_count _ hno]
  exact sum_more nmOk hs _ (.inl (lines_ne _ _ (by simp)))
end Go.Proofs.YtplenagncmhhoaaDoor
