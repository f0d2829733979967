/- Plain facts: no error of rex's parser has the number 0; what can't stand behind a pattern. No program. -/
import Derived.Test.YtjnhmcgjeljcmaaXu
import Derived.Test.YtjnhmcgjeljcmaaTw
namespace Go.Proofs.Ytjnhmcgjeljcmaa

theorem letterX_code {l : List UInt8} {c : Int} {o : Nat} (h : letterX l = .err c o) : c ≠ 0 := by
  rintro rfl
  match l with
  | [] => simp [letterX] at h
  | [x] => by_cases hx : x = 92 <;> simp [letterX, hx] at h
  | x :: y :: t =>
    by_cases hx : x = 92
    · simp only [letterX, hx, if_true] at h
      split at h
      · cases h
      · split at h
        · cases h
        · split at h
          · injection h with h; simp at h
          · cases h
    · simp [letterX, hx] at h
theorem rangeP_code {L : List UInt8 → Lr} (hL : ∀ l c o, L l = .err c o → c ≠ 0) {l : List UInt8} {c : Int} {o : Nat} (h : rangeP L l = .err c o) : c ≠ 0 := by
  unfold rangeP at h
  split at h
  · rename_i c' o' h1
    injection h with h2 _; subst h2; exact hL _ _ _ h1
  · split at h
    · split at h
      · rename_i c' o' h1
        injection h with h2 _; subst h2; exact hL _ _ _ h1
      · split at h
        · injection h with h2 _; subst h2; decide
        · cases h
    · cases h
theorem itemsP_code {L : List UInt8 → Lr} (hG : GoodL L) (hL : ∀ l c o, L l = .err c o → c ≠ 0) : ∀ (f : Nat) (b : Bool) (l : List UInt8), l.length < f → ∀ c o, itemsP L f b l = .err c o → c ≠ 0
  | 0, _, _, h => by omega
  | f + 1, b, l, h => by
    intro c o e
    unfold itemsP at e
    split at e
    · cases e
    · split at e
      · rename_i c' o' h1
        injection e with h2 _; subst h2; exact rangeP_code hL h1
      · rename_i lo hi n h1
        have hn := rangeP_ok hG h1
        cases hi2 : itemsP L f false (l.drop n) with
        | ok rs m => rw [hi2] at e; simp [Ir.more] at e
        | err c' o' =>
          rw [hi2] at e
          simp only [Ir.more] at e
          injection e with h2 _; subst h2
          exact itemsP_code hG hL f false _ (by rw [List.length_drop]; omega) _ _ hi2
theorem itemsPr_code {neg : Bool} {m : Nat} {b : Bool} {l : List UInt8} {c : Int} {o : Nat} (h : itemsPr neg m (itemsF letterX b l) = .err c o) : c ≠ 0 := by
  cases hi : itemsF letterX b l with
  | ok rs k => rw [hi] at h; simp [itemsPr] at h
  | err c' o' =>
    rw [hi] at h
    simp only [itemsPr] at h
    injection h with h2 _; subst h2
    exact itemsP_code good_letterX (fun _ _ _ => letterX_code) _ b l (by omega) _ _ hi
theorem classX_code {l : List UInt8} {c : Int} {o : Nat} (h : classX l = .err c o) : c ≠ 0 := by
  unfold classX at h
  split at h
  · split at h
    · injection h with h2 _; subst h2; decide
    · exact itemsPr_code h
  · split at h
    · injection h with h2 _; subst h2; decide
    · exact itemsPr_code h
theorem shift_err {m : Nat} {r : Pr} {c : Int} {n : Nat} (h : r.shift m = .err c n) : ∃ n', r = .err c n' ∧ n = m + n' := by
  cases r with
  | err c' n' => simp [Pr.shift] at h; exact ⟨n', by rw [h.1], h.2.symm⟩
  | ok c o => simp [Pr.shift] at h
theorem groupX_code {Al : List UInt8 → Pr} {l : List UInt8} (hA : ∀ c o, Al l = .err c o → c ≠ 0) {c : Int} {o : Nat} (h : groupX Al l = .err c o) : c ≠ 0 := by
  unfold groupX at h
  split at h
  · split at h
    · cases h
    · injection h with h2 _; subst h2; decide
  · rename_i c' o' h1
    injection h with h2 _; subst h2; exact hA _ _ h1
theorem atomX_code {Al : List UInt8 → Pr} {l : List UInt8} (hA : ∀ l', l'.length < l.length → ∀ c o, Al l' = .err c o → c ≠ 0) {c : Int} {o : Nat} (h : atomX Al l = .err c o) : c ≠ 0 := by
  unfold atomX at h
  split at h
  · injection h with h2 _; subst h2; decide
  · split at h
    · rename_i h1
      have := starts_len h1
      obtain ⟨n', h2, _⟩ := shift_err h
      exact groupX_code (hA _ (by rw [List.length_drop]; omega)) h2
    · split at h
      · obtain ⟨n', h2, _⟩ := shift_err h
        exact classX_code h2
      · split at h
        · cases h
        · split at h
          · cases h
          · split at h
            · cases h
            · rename_i c' o' h1
              injection h with h2 _; subst h2; exact letterX_code h1
theorem pieceX_code {Al : List UInt8 → Pr} {l : List UInt8} (hA : ∀ l', l'.length < l.length → ∀ c o, Al l' = .err c o → c ≠ 0) {c : Int} {o : Nat} (h : pieceX Al l = .err c o) : c ≠ 0 := by
  unfold pieceX at h
  split at h
  · cases h
  · rename_i c' o' h1
    injection h with h2 _; subst h2; exact atomX_code hA h1
theorem goL_code {Al : List UInt8 → Pr} : ∀ (f : Nat) (cur : List Tr) (l : List UInt8), l.length < f → (∀ l', l'.length < l.length → ∀ c o, Al l' = .err c o → c ≠ 0) → ∀ c o, goL Al f cur l = .err c o → c ≠ 0
  | 0, _, _, h => by omega
  | f + 1, cur, l, h => by
    intro hA c o e
    unfold goL at e
    split at e
    · cases e
    · split at e
      · rename_i h1
        have h2 := starts_len h1
        cases hg : goL Al f [] (l.drop 1) with
        | ok ps n => rw [hg] at e; simp [Gl.pre] at e
        | err c' o' =>
          rw [hg] at e
          simp only [Gl.pre] at e
          injection e with h3 _; subst h3
          exact goL_code f [] (l.drop 1) (by rw [List.length_drop]; omega) (fun l' hl' => hA l' (by rw [List.length_drop] at hl'; omega)) _ _ hg
      · split at e
        · rename_i t n h1
          have h2 := pieceX_bd h1
          cases hg : goL Al f (cur ++ [t]) (l.drop n) with
          | ok ps n => rw [hg] at e; simp [Gl.pre] at e
          | err c' o' =>
            rw [hg] at e
            simp only [Gl.pre] at e
            injection e with h3 _; subst h3
            exact goL_code f _ (l.drop n) (by rw [List.length_drop]; omega) (fun l' hl' => hA l' (by rw [List.length_drop] at hl'; omega)) _ _ hg
        · rename_i c' o' h1
          injection e with h3 _; subst h3
          exact pieceX_code hA h1
theorem altX_code : ∀ (d : Nat) (l : List UInt8), l.length < d → ∀ c o, altX d l = .err c o → c ≠ 0
  | 0, _, h => by omega
  | d + 1, l, h => by
    intro c o e
    rw [altX_go] at e
    cases hg : goF (altX d) [] l with
    | ok ps n => rw [hg] at e; simp [Gl.pr] at e
    | err c' o' =>
      rw [hg] at e
      simp only [Gl.pr] at e
      injection e with h3 _; subst h3
      exact goL_code _ [] l (by omega) (fun l' hl' => altX_code d l' (by omega)) _ _ hg
theorem wholeX_code {l : List UInt8} {c : Int} {o : Nat} (h : wholeX l = .err c o) : c ≠ 0 := by
  unfold wholeX at h
  split at h
  · split at h
    · cases h
    · injection h with h2 _; subst h2; decide
  · rename_i c' o' h1
    injection h with h2 _; subst h2; exact altX_code _ _ (by omega) _ _ h1
def wholeW (l : List UInt8) : Wr := match wholeX l with | .ok t _ => .ok t | .err c o => .err c o
def parseX (l : List UInt8) : Tr × Int × Nat := treeOf wholeW l
/-- A pattern that is read. -/
theorem parseX_zero {l : List UInt8} (h : (parseX l).2.1 = 0) : l.length ≤ 256 ∧ ∃ t n, wholeX l = .ok t n ∧ parseX l = (t, 0, 0) := by
  unfold parseX treeOf at h ⊢
  split at h
  · simp at h
  · rename_i hl
    refine ⟨by omega, ?_⟩
    rw [if_neg hl]
    unfold wholeW at h ⊢
    cases hw : wholeX l with
    | ok t n => exact ⟨t, n, rfl, rfl⟩
    | err c o => rw [hw] at h; exact absurd h (wholeX_code hw)
theorem parseX_err {l : List UInt8} {c : Int} {o : Nat} (hl : l.length ≤ 256) (h : wholeX l = .err c o) : parseX l = (zeroT, c, o) := by
  unfold parseX treeOf wholeW; rw [if_neg (by omega), h]
theorem parseX_ok {l : List UInt8} {t : Tr} {n : Nat} (hl : l.length ≤ 256) (h : wholeX l = .ok t n) : parseX l = (t, 0, 0) := by
  unfold parseX treeOf wholeW; rw [if_neg (by omega), h]
/-- What can't stand behind a pattern: its bytes, the error, its place. -/
def badX : List (List UInt8 × Int × Nat) := [([41], 30, 0), ([124, 42], 30, 1), ([40], 31, 1), ([91, 93], 30, 1), ([91, 97], 31, 2), ([92], 31, 1), ([92, 113], 30, 0), ([91, 122, 45, 97, 93], 32, 1), ([40, 124, 43], 30, 2), ([91, 94, 93], 30, 2)]
theorem bad_go : ∀ b ∈ badX, b.1 ≠ [41] → ∀ (d : Nat) (cur : List Tr), goF (altX (d + 1)) cur b.1 = .err b.2.1 b.2.2 := by
  intro b hb hne d cur
  simp only [badX, List.mem_cons, List.not_mem_nil, or_false] at hb
  rcases hb with rfl | rfl | rfl | rfl | rfl | rfl | rfl | rfl | rfl | rfl
  · exact absurd rfl hne
  all_goals kernel_rfl
theorem bad_sign : ∀ b ∈ badX, signX b.1 = 0 ∧ 1 ≤ b.1.length ∧ b.1.length ≤ 5 := by decide
theorem bad_whole {l : List UInt8} {t : Tr} {n : Nat} (h : wholeX l = .ok t n) {b : List UInt8 × Int × Nat} (hb : b ∈ badX) : wholeX (l ++ b.1) = .err b.2.1 (l.length + b.2.2) := by
  obtain ⟨ps, cur, _, hm⟩ := whole_more h
  obtain ⟨hs, h1, h5⟩ := bad_sign b hb
  have hd : ∃ d, (l ++ b.1).length = d + 1 := ⟨(l ++ b.1).length - 1, by rw [List.length_append]; omega⟩
  obtain ⟨d, hd⟩ := hd
  unfold wholeX
  rw [hm (l ++ b.1).length b.1 (by rw [List.length_append]; omega) hs]
  by_cases h41 : b.1 = [41]
  · have hb2 : b = ([41], 30, 0) := by
      simp only [badX, List.mem_cons, List.not_mem_nil, or_false] at hb
      rcases hb with rfl | rfl | rfl | rfl | rfl | rfl | rfl | rfl | rfl | rfl
      · rfl
      all_goals (exact absurd h41 (by decide))
    subst hb2
    rw [goF_stop (by decide)]
    simp only [Gl.pre, Gl.pr]
    rw [if_neg (by simp)]
  · rw [hd, bad_go b hb h41 d cur]
    simp only [Gl.pre, Gl.pr]
theorem bad_parse {l : List UInt8} (h : (parseX l).2.1 = 0) (hl : l.length ≤ 240) {b : List UInt8 × Int × Nat} (hb : b ∈ badX) : parseX (l ++ b.1) = (zeroT, b.2.1, l.length + b.2.2) := by
  obtain ⟨_, t, n, h1, _⟩ := parseX_zero h
  obtain ⟨hs, h2, h5⟩ := bad_sign b hb
  exact parseX_err (by rw [List.length_append]; omega) (bad_whole h1 hb)
end Go.Proofs.Ytjnhmcgjeljcmaa
