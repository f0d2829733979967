/- Plain facts: two patterns one behind the other. No program. -/
import Derived.Test.YtepfpmnfecehbaaGx
namespace Go.Proofs.Ytepfpmnfecehbaa

theorem letterG_app {l : List UInt8} {c : UInt8} {n : Nat} (h : letterG l = .ok c n) (q : List UInt8) : letterG (l ++ q) = .ok c n := by
  match l with
  | [] => simp [letterG] at h
  | [x] =>
    by_cases hx : x = 92
    · simp [letterG, hx] at h
    · simpa [letterG, hx] using h
  | x :: y :: t =>
    by_cases hx : x = 92
    · simpa [letterG, hx] using h
    · simpa [letterG, hx] using h
theorem starts_app {c : UInt8} {l q : List UInt8} (h : l ≠ []) : starts [c] (l ++ q) = starts [c] l := by
  match l, h with
  | d :: l, _ => rw [List.cons_append, starts_cons, starts_cons]
theorem starts2_app {c d : UInt8} {l q : List UInt8} (h : l ≠ []) (h2 : l ≠ [c]) : starts [c, d] (l ++ q) = starts [c, d] l := by
  match l, h, h2 with
  | [x], _, h2 =>
    have hx : (c == x) = false := by simp; intro e; exact h2 (by rw [e])
    simp [starts, List.isPrefixOf, hx]
  | x :: y :: l, _, _ => simp [starts, List.isPrefixOf]
theorem drop_app_le {l q : List UInt8} {n : Nat} (h : n ≤ l.length) : (l ++ q).drop n = l.drop n ++ q := List.drop_append_of_le_length h
theorem rangeP_app {l : List UInt8} {lo hi : UInt8} {n : Nat} (h : rangeP letterG l = .ok lo hi n) (hn : n < l.length) (q : List UInt8) : rangeP letterG (l ++ q) = .ok lo hi n := by
  unfold rangeP at h ⊢
  cases h1 : letterG l with
  | err c o => rw [h1] at h; cases h
  | ok lo' n1 =>
    rw [h1] at h
    rw [letterG_app h1 q]
    simp only at h ⊢
    have b1 := (good_letterG l).1 _ _ h1
    have hne : l.drop n1 ≠ [] := by
      intro e
      have e1 : dashB (l.drop n1) = false := by rw [e]; rfl
      rw [e1] at h
      simp at h
      have := congrArg List.length e
      simp at this
      omega
    have hne2 : l.drop n1 ≠ [45] := by
      intro e
      have e1 : dashB (l.drop n1) = true := by rw [e]; decide
      have e2 : l.drop (n1 + 1) = [] := by rw [← List.drop_drop, e]; rfl
      rw [e1, e2] at h
      simp [letterG] at h
    have hd : dashB ((l ++ q).drop n1) = dashB (l.drop n1) := by
      rw [drop_app_le b1.2]
      unfold dashB
      rw [starts_app hne, starts2_app hne hne2]
    rw [hd]
    cases hdb : dashB (l.drop n1)
    · rw [hdb] at h; simpa using h
    · rw [hdb] at h
      simp only [if_true] at h ⊢
      have hl1 : n1 + 1 ≤ l.length := by
        have := List.length_pos_iff.2 hne
        rw [List.length_drop] at this; omega
      cases h2 : letterG (l.drop (n1 + 1)) with
      | err c o => rw [h2] at h; cases h
      | ok hi' m =>
        rw [h2] at h
        rw [drop_app_le hl1, letterG_app h2 q]
        exact h
theorem itemsP_app : ∀ (f : Nat) (b : Bool) (l : List UInt8), l.length < f → ∀ rs n, itemsP letterG f b l = .ok rs n → ∀ (q : List UInt8) (g : Nat), (l ++ q).length < g → itemsP letterG g b (l ++ q) = .ok rs n
  | 0, _, _, h => by omega
  | f + 1, b, l, h => by
    intro rs n hi q g hg
    match g, hg with
    | g + 1, hg =>
      unfold itemsP at hi ⊢
      by_cases hl : l = []
      · subst hl
        have h0 : (!b && starts [93] []) = false := by simp [starts_nil]
        rw [h0] at hi
        simp [rangeP, letterG] at hi
      · rw [starts_app hl]
        by_cases h1 : (!b && starts [93] l) = true
        · rw [if_pos h1] at hi ⊢; exact hi
        · rw [if_neg h1] at hi ⊢
          cases hr : rangeP letterG l with
          | err c o => rw [hr] at hi; cases hi
          | ok lo hi' m =>
            rw [hr] at hi
            simp only at hi
            have hm := rangeP_ok good_letterG hr
            cases hi2 : itemsP letterG f false (l.drop m) with
            | err c o => rw [hi2] at hi; simp [Ir.more] at hi
            | ok rs' n' =>
              have hb := (itemsP_bd good_letterG f false (l.drop m) (by rw [List.length_drop]; omega)).1 rs' n' hi2
              rw [List.length_drop] at hb
              rw [rangeP_app hr (by omega) q]
              simp only
              rw [drop_app_le hm.2]
              rw [itemsP_app f false (l.drop m) (by rw [List.length_drop]; omega) rs' n' hi2 q g (by simp at hg ⊢; omega)]
              rw [hi2] at hi
              exact hi
theorem itemsF_app {b : Bool} {l : List UInt8} {rs : List (UInt8 × UInt8)} {n : Nat} (h : itemsF letterG b l = .ok rs n) (q : List UInt8) : itemsF letterG b (l ++ q) = .ok rs n :=
  itemsP_app _ b l (by omega) rs n h q _ (by omega)
theorem classP_app {l : List UInt8} {t : Tr} {n : Nat} (h : classP letterG 33 l = .ok t n) (q : List UInt8) : classP letterG 33 (l ++ q) = .ok t n := by
  have hne : l ≠ [] := by
    rintro rfl
    have := (classP_bd good_letterG 33 []).1 t n h
    simp at this; omega
  unfold classP at h ⊢
  rw [starts_app hne]
  by_cases h1 : starts [33] l = true
  · have hl := starts_len h1
    rw [if_pos h1] at h ⊢
    cases hi : itemsF letterG true (l.drop 1) with
    | err c o => rw [hi] at h; cases h
    | ok rs m =>
      rw [hi] at h
      rw [drop_app_le hl, itemsF_app hi q]
      exact h
  · rw [if_neg h1] at h ⊢
    cases hi : itemsF letterG true l with
    | err c o => rw [hi] at h; cases h
    | ok rs m =>
      rw [hi] at h
      rw [itemsF_app hi q]
      exact h
theorem pieceG_app {l : List UInt8} {t : Tr} {n : Nat} (h : pieceG l = .ok t n) (q : List UInt8) : pieceG (l ++ q) = .ok t n := by
  have hne : l ≠ [] := by
    rintro rfl
    have := (pieceG_bd []).1 t n h
    simp at this; omega
  unfold pieceG at h ⊢
  rw [starts_app hne, starts_app hne, starts_app hne]
  by_cases h1 : starts [63] l = true
  · rw [if_pos h1] at h ⊢; exact h
  · rw [if_neg h1] at h ⊢
    by_cases h2 : starts [42] l = true
    · rw [if_pos h2] at h ⊢; exact h
    · rw [if_neg h2] at h ⊢
      by_cases h3 : starts [91] l = true
      · rw [if_pos h3] at h ⊢
        have hl := starts_len h3
        rw [drop_app_le hl]
        cases hc : classP letterG 33 (l.drop 1) with
        | err c o => rw [hc] at h; simp [Pr.shift] at h
        | ok t' m => rw [hc] at h; rw [classP_app hc q]; exact h
      · rw [if_neg h3] at h ⊢
        cases hl : letterG l with
        | err c o => rw [hl] at h; cases h
        | ok c m => rw [hl] at h; rw [letterG_app hl q]; exact h
theorem piecesF_app (q : List UInt8) : ∀ (N : Nat) (p : List UInt8), p.length ≤ N → ∀ ts, piecesF p = .ok ts → piecesF (p ++ q) = Ks.pre ts p.length (piecesF q) := by
  intro N
  induction N with
  | zero =>
    intro p hp ts h
    have : p = [] := List.eq_nil_of_length_eq_zero (by omega)
    subst this
    rw [piecesF_nil] at h
    injection h with h
    subst h
    simp [Ks.pre_nil]
  | succ N ih =>
    intro p hp ts h
    by_cases hne : p = []
    · subst hne
      rw [piecesF_nil] at h
      injection h with h
      subst h
      simp [Ks.pre_nil]
    · cases hpc : pieceG p with
      | err c o => rw [piecesF_err hne hpc] at h; cases h
      | ok t n =>
        have hn := (pieceG_bd p).1 t n hpc
        rw [piecesF_more hne hpc] at h
        cases hr : piecesF (p.drop n) with
        | err c o => rw [hr] at h; simp [Ks.pre] at h
        | ok ts' =>
          rw [hr] at h
          simp only [Ks.pre] at h
          injection h with h
          subst h
          rw [piecesF_more (by simp [hne]) (pieceG_app hpc q), drop_app_le hn.2, ih (p.drop n) (by rw [List.length_drop]; omega) ts' hr, Ks.pre_pre]
          rw [List.length_drop, show n + (p.length - n) = p.length by omega]
theorem gm_app : ∀ (ps qs : List Pc) (s : List UInt8), gm (ps ++ qs) s = true ↔ ∃ i, i ≤ s.length ∧ gm ps (s.take i) = true ∧ gm qs (s.drop i) = true
  | [], qs, s => by
    constructor
    · intro h; exact ⟨0, Nat.zero_le _, rfl, h⟩
    · rintro ⟨i, hi, h1, h2⟩
      have : s.take i = [] := by simpa [gm] using h1
      rcases List.take_eq_nil_iff.1 this with h | h
      · subst h; exact h2
      · subst h; simpa using h2
  | .set rs :: ps, qs, [] => by
    constructor
    · intro h; simp [gm] at h
    · rintro ⟨i, _, h1, _⟩; simp [gm] at h1
  | .set rs :: ps, qs, c :: t => by
    simp only [List.cons_append, gm, Bool.and_eq_true, gm_app ps qs t]
    constructor
    · rintro ⟨h0, i, hi, h1, h2⟩
      exact ⟨i + 1, by simp; omega, by simp [h0, h1], by simpa using h2⟩
    · rintro ⟨i, hi, h1, h2⟩
      match i with
      | 0 => simp at h1
      | i + 1 =>
        simp at h1
        exact ⟨h1.1, i, by simp at hi; omega, h1.2, by simpa using h2⟩
  | .star :: ps, qs, s => by
    simp only [List.cons_append, gm, starM_iff]
    constructor
    · rintro ⟨j, hj, h⟩
      obtain ⟨i, hi, h1, h2⟩ := (gm_app ps qs (s.drop j)).1 h
      rw [List.length_drop] at hi
      refine ⟨j + i, by omega, ⟨j, by rw [List.length_take]; omega, ?_⟩, by rw [← List.drop_drop]; exact h2⟩
      rw [List.drop_take, show j + i - j = i by omega]
      exact h1
    · rintro ⟨k, hk, ⟨j, hj, h1⟩, h2⟩
      rw [List.length_take] at hj
      refine ⟨j, by omega, (gm_app ps qs (s.drop j)).2 ⟨k - j, by rw [List.length_drop]; omega, ?_, ?_⟩⟩
      · rw [List.drop_take] at h1; exact h1
      · rw [List.drop_drop, show j + (k - j) = k by omega]; exact h2
theorem letterG_code {l : List UInt8} {c : Int} {o : Nat} (h : letterG l = .err c o) : c = 31 := by
  match l with
  | [] => simp [letterG] at h; omega
  | [x] =>
    by_cases hx : x = 92
    · simp [letterG, hx] at h; omega
    · simp [letterG, hx] at h
  | x :: y :: t =>
    by_cases hx : x = 92
    · simp [letterG, hx] at h
    · simp [letterG, hx] at h
theorem rangeP_code {l : List UInt8} {c : Int} {o : Nat} (h : rangeP letterG l = .err c o) : c = 31 ∨ c = 32 := by
  unfold rangeP at h
  split at h
  · rename_i c' o' h1
    injection h with h _
    exact Or.inl (h ▸ letterG_code h1)
  · split at h
    · split at h
      · rename_i c' o' h1
        injection h with h _
        exact Or.inl (h ▸ letterG_code h1)
      · split at h
        · injection h with h _
          exact Or.inr h.symm
        · cases h
    · cases h
theorem itemsP_code : ∀ (f : Nat) (b : Bool) (l : List UInt8), l.length < f → ∀ c o, itemsP letterG f b l = .err c o → c = 31 ∨ c = 32
  | 0, _, _, h => by omega
  | f + 1, b, l, h => by
    intro c o hi
    unfold itemsP at hi
    split at hi
    · cases hi
    · split at hi
      · rename_i c' o' hr
        injection hi with hi _
        exact hi ▸ rangeP_code hr
      · rename_i lo hi' n hr
        have hm := rangeP_ok good_letterG hr
        cases hi2 : itemsP letterG f false (l.drop n) with
        | ok rs m => rw [hi2] at hi; simp [Ir.more] at hi
        | err c' o' =>
          rw [hi2] at hi
          simp only [Ir.more] at hi
          injection hi with hi _
          exact hi ▸ itemsP_code f false (l.drop n) (by rw [List.length_drop]; omega) c' o' hi2
theorem classP_code {l : List UInt8} {c : Int} {o : Nat} (h : classP letterG 33 l = .err c o) : c = 31 ∨ c = 32 := by
  unfold classP at h
  split at h
  · split at h
    · cases h
    · rename_i c' o' hi
      injection h with h _
      exact h ▸ itemsP_code _ true _ (by omega) c' o' hi
  · split at h
    · cases h
    · rename_i c' o' hi
      injection h with h _
      exact h ▸ itemsP_code _ true _ (by omega) c' o' hi
theorem pieceG_code {l : List UInt8} {c : Int} {o : Nat} (h : pieceG l = .err c o) : c = 31 ∨ c = 32 := by
  unfold pieceG at h
  split at h
  · cases h
  · split at h
    · cases h
    · split at h
      · cases hc : classP letterG 33 (l.drop 1) with
        | ok t n => rw [hc] at h; simp [Pr.shift] at h
        | err c' o' =>
          rw [hc] at h
          simp only [Pr.shift] at h
          injection h with h _
          exact h ▸ classP_code hc
      · split at h
        · cases h
        · rename_i c' o' hl
          injection h with h _
          exact Or.inl (h ▸ letterG_code hl)
theorem piecesP_code : ∀ (f : Nat) (l : List UInt8), l.length < f → ∀ c o, piecesP f l = .err c o → c = 31 ∨ c = 32
  | 0, _, h => by omega
  | f + 1, l, h => by
    intro c o e
    unfold piecesP at e
    split at e
    · cases e
    · split at e
      · rename_i c' o' hp
        injection e with e _
        exact e ▸ pieceG_code hp
      · rename_i t n hp
        have hn := (pieceG_bd l).1 t n hp
        cases hk : piecesP f (l.drop n) with
        | ok ts => rw [hk] at e; simp [Ks.pre] at e
        | err c' o' =>
          rw [hk] at e
          simp only [Ks.pre] at e
          injection e with e _
          exact e ▸ piecesP_code f (l.drop n) (by rw [List.length_drop]; omega) c' o' hk
theorem piecesF_code {l : List UInt8} {c : Int} {o : Nat} (h : piecesF l = .err c o) : c ≠ 0 := by
  rcases piecesP_code _ l (by omega) c o h with h | h <;> omega
/-- Some place up to k parts the text so. -/
def partTo (p q s : List UInt8) (k : Nat) : Bool := (List.range k).any fun i => matchG p (s.take i) && matchG q (s.drop i)
theorem partTo_succ (p q s : List UInt8) (k : Nat) : partTo p q s (k + 1) = (partTo p q s k || (matchG p (s.take k) && matchG q (s.drop k))) := by
  simp [partTo, List.range_succ, List.any_append]
theorem match_parts {p q : List UInt8} (hl : p.length + q.length ≤ 256) (hp : (parseG p).2.1 = 0) (hq : (parseG q).2.1 = 0) (s : List UInt8) :
    matchG (p ++ q) s = partTo p q s (s.length + 1) := by
  have ok : ∀ l : List UInt8, l.length ≤ 256 → (parseG l).2.1 = 0 → ∃ ts, piecesF l = .ok ts := by
    intro l hl h
    cases h1 : piecesF l with
    | ok ts => exact ⟨ts, rfl⟩
    | err c o =>
      unfold parseG at h
      rw [if_neg (by omega), h1] at h
      exact absurd h (piecesF_code h1)
  obtain ⟨ts, h1⟩ := ok p (by omega) hp
  obtain ⟨us, h2⟩ := ok q (by omega) hq
  have h3 : piecesF (p ++ q) = .ok (ts ++ us) := by rw [piecesF_app q p.length p (Nat.le_refl _) ts h1, h2]; rfl
  rw [matchG_ok (by simp; omega) h3, List.map_append, Bool.eq_iff_iff, gm_app]
  unfold partTo
  rw [List.any_eq_true]
  constructor
  · rintro ⟨i, hi, a, b⟩
    exact ⟨i, List.mem_range.2 (by omega), by rw [matchG_ok (by omega) h1, matchG_ok (by omega) h2, a, b]; rfl⟩
  · rintro ⟨i, hi, h⟩
    rw [matchG_ok (by omega) h1, matchG_ok (by omega) h2, Bool.and_eq_true] at h
    exact ⟨i, by have := List.mem_range.1 hi; omega, h.1, h.2⟩
end Go.Proofs.Ytepfpmnfecehbaa
