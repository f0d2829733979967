/- Plain facts: tables of places; what the table of a tree says of a glob's pieces. No program. -/
import Derived.Test.YtepfpmnfecehbaaGm
namespace Go.Proofs.Ytepfpmnfecehbaa

/-- One table behind the other, over the first k places. -/
def bothT (A B : Nat → Nat → Bool) : Nat → Nat → Nat → Bool
  | 0, _, _ => false
  | k + 1, i, j => bothT A B k i j || (A i k && B k j)
/-- A table's way on through the first k places. -/
def warT (A : Nat → Nat → Bool) : Nat → Nat → Nat → Bool
  | 0, i, j => A i j
  | k + 1, i, j => warT A k i j || (warT A k i k && warT A k k j)
def eqT (i j : Nat) : Bool := decide (i = j)
def setT (rs : List (UInt8 × UInt8)) (s : List UInt8) (i j : Nat) : Bool := match s[i]? with
  | some c => decide (j = i + 1) && inR rs c.toNat
  | none => false
/-- The table of a tree, as deep as d. -/
def tabT (s : List UInt8) : Nat → Tr → Nat → Nat → Bool
  | 0, _ => fun _ _ => false
  | d + 1, .mk k rs kids =>
    if k = 1 then setT rs s
    else if k = 2 then kids.foldl (fun T t => bothT T (tabT s d t) (s.length + 1)) eqT
    else if k = 3 then kids.foldl (fun T t i j => T i j || tabT s d t i j) (fun _ _ => false)
    else if k < 4 ∨ 6 < k then fun _ _ => false
    else match kids with
      | [] => fun _ _ => false
      | t :: _ =>
        if k = 6 then fun i j => tabT s d t i j || eqT i j
        else if k = 4 then fun i j => warT (tabT s d t) (s.length + 1) i j || eqT i j
        else warT (tabT s d t) (s.length + 1)
theorem bothT_iff (A B : Nat → Nat → Bool) (i j : Nat) : ∀ k, bothT A B k i j = true ↔ ∃ m, m < k ∧ A i m = true ∧ B m j = true
  | 0 => by simp [bothT]
  | k + 1 => by
    rw [bothT, Bool.or_eq_true, Bool.and_eq_true, bothT_iff A B i j k]
    constructor
    · rintro (⟨m, h1, h2⟩ | h)
      · exact ⟨m, by omega, h2⟩
      · exact ⟨k, by omega, h⟩
    · rintro ⟨m, h1, h2⟩
      by_cases e : m = k
      · subst e; exact .inr h2
      · exact .inl ⟨m, by omega, h2⟩
/-- Steps of one, again and again. -/
theorem warT_step {A : Nat → Nat → Bool} {n : Nat} (hA : ∀ i j, j < n → A i j = decide (j = i + 1)) : ∀ k, k ≤ n → ∀ i j, j < n → warT A k i j = decide (i < j ∧ (j = i + 1 ∨ j ≤ k))
  | 0, _, i, j, hj => by
    rw [warT, hA i j hj, Bool.eq_iff_iff, decide_eq_true_eq, decide_eq_true_eq]
    omega
  | k + 1, hk, i, j, hj => by
    rw [warT, warT_step hA k (by omega) i j hj, warT_step hA k (by omega) i k (by omega), warT_step hA k (by omega) k j hj, Bool.eq_iff_iff]
    simp only [Bool.or_eq_true, Bool.and_eq_true, decide_eq_true_eq]
    omega
/-- A glob's piece: a set, or any bytes. -/
def IsPc (t : Tr) : Prop := (∃ rs, t = .mk 1 rs []) ∨ t = .mk 4 [] [anyT]
theorem classP_isPc {L : List UInt8 → Lr} {sg : UInt8} {l : List UInt8} {t : Tr} {n : Nat} (h : classP L sg l = .ok t n) : IsPc t := by
  unfold classP at h
  split at h
  · split at h
    · injection h with h _; exact .inl ⟨_, h.symm⟩
    · cases h
  · split at h
    · injection h with h _; exact .inl ⟨_, h.symm⟩
    · cases h
theorem pieceG_isPc {l : List UInt8} {t : Tr} {n : Nat} (h : pieceG l = .ok t n) : IsPc t := by
  unfold pieceG at h
  split at h
  · injection h with h _; exact .inl ⟨_, h.symm⟩
  · split at h
    · injection h with h _; exact .inr h.symm
    · split at h
      · cases hc : classP letterG 33 (l.drop 1) with
        | ok t' n' => rw [hc] at h; simp only [Pr.shift] at h; injection h with h _; subst h; exact classP_isPc hc
        | err c o => rw [hc] at h; cases h
      · split at h
        · injection h with h _; exact .inl ⟨_, h.symm⟩
        · cases h
theorem piecesP_isPc : ∀ (f : Nat) (l : List UInt8) (ts : List Tr), piecesP f l = .ok ts → ∀ t ∈ ts, IsPc t
  | 0, _, _, h => by cases h
  | f + 1, l, ts, h => by
    unfold piecesP at h
    split at h
    · injection h with h; subst h; simp
    · split at h
      · cases h
      · rename_i t n hp
        cases hk : piecesP f (l.drop n) with
        | err c o => rw [hk] at h; simp [Ks.pre] at h
        | ok ts' =>
          rw [hk] at h
          simp only [Ks.pre] at h
          injection h with h
          subst h
          intro x hx
          rcases List.mem_append.1 hx with hx | hx
          · obtain rfl := List.mem_singleton.1 hx; exact pieceG_isPc hp
          · exact piecesP_isPc f _ _ hk x hx
theorem inR_any (c : UInt8) : inR (rangesL [] true) c.toNat = true := by
  have h : ∀ n : Nat, n < 256 → inR (rangesL [] true) n = true := by decide +kernel
  exact h _ c.toNat_lt
/-- One piece's table leads to where the rest goes on. -/
theorem pc_tab {s : List UInt8} {d : Nat} {t : Tr} (h : IsPc t) (ps : List Pc) {k : Nat} (hk : k ≤ s.length) :
    gm (pcOf t :: ps) (s.drop k) = true ↔ ∃ m, m < s.length + 1 ∧ tabT s (d + 2) t k m = true ∧ gm ps (s.drop m) = true := by
  rcases h with ⟨rs, rfl⟩ | rfl
  · have hp : pcOf (.mk 1 rs []) = .set rs := by simp [pcOf]
    rw [hp]
    have ht : ∀ m, tabT s (d + 2) (.mk 1 rs []) k m = setT rs s k m := fun m => by simp [tabT]
    simp only [ht]
    by_cases hlt : k < s.length
    · have hd : s.drop k = s[k] :: s.drop (k + 1) := List.drop_eq_getElem_cons hlt
      rw [hd, gm]
      have hs : ∀ m, setT rs s k m = (decide (m = k + 1) && inR rs s[k].toNat) := fun m => by unfold setT; rw [List.getElem?_eq_getElem hlt]
      simp only [hs, Bool.and_eq_true, decide_eq_true_eq]
      constructor
      · rintro ⟨h1, h2⟩; exact ⟨k + 1, by omega, ⟨rfl, h1⟩, h2⟩
      · rintro ⟨m, _, ⟨rfl, h1⟩, h2⟩; exact ⟨h1, h2⟩
    · have hd : s.drop k = [] := List.drop_of_length_le (by omega)
      rw [hd, gm]
      constructor
      · intro h; cases h
      · rintro ⟨m, _, h, _⟩
        unfold setT at h
        rw [List.getElem?_eq_none (by omega)] at h
        cases h
  · have hp : pcOf (.mk 4 [] [anyT]) = .star := by simp [pcOf]
    rw [hp]
    have hA : ∀ i j, j < s.length + 1 → tabT s (d + 1) anyT i j = decide (j = i + 1) := by
      intro i j hj
      show (if (1 : Int) = 1 then setT (rangesL [] true) s else _) i j = _
      rw [if_pos rfl]
      unfold setT
      by_cases hi : i < s.length
      · rw [List.getElem?_eq_getElem hi]
        simp only [inR_any, Bool.and_true]
      · rw [List.getElem?_eq_none (by omega)]
        exact (decide_eq_false (by omega)).symm
    have ht : ∀ m, m < s.length + 1 → (tabT s (d + 2) (.mk 4 [] [anyT]) k m = true ↔ k ≤ m) := by
      intro m hm
      have e : tabT s (d + 2) (.mk 4 [] [anyT]) k m = (warT (tabT s (d + 1) anyT) (s.length + 1) k m || eqT k m) := by simp [tabT]
      rw [e, warT_step hA (s.length + 1) (Nat.le_refl _) k m hm]
      simp only [Bool.or_eq_true, decide_eq_true_eq, eqT]
      omega
    rw [gm, starM_iff]
    constructor
    · rintro ⟨j, hj, h⟩
      rw [List.length_drop] at hj
      rw [List.drop_drop] at h
      exact ⟨k + j, by omega, (ht _ (by omega)).2 (by omega), h⟩
    · rintro ⟨m, hm, h1, h2⟩
      have := (ht m hm).1 h1
      refine ⟨m - k, by rw [List.length_drop]; omega, ?_⟩
      rw [List.drop_drop, show k + (m - k) = m by omega]
      exact h2
theorem fold_tab {s : List UInt8} {d : Nat} : ∀ (ts : List Tr) (T : Nat → Nat → Bool), (∀ t ∈ ts, IsPc t) →
    (ts.foldl (fun T t => bothT T (tabT s (d + 2) t) (s.length + 1)) T 0 s.length = true ↔ ∃ m, m < s.length + 1 ∧ T 0 m = true ∧ gm (ts.map pcOf) (s.drop m) = true)
  | [], T, _ => by
    rw [List.foldl_nil]
    constructor
    · intro h; exact ⟨s.length, by omega, h, by rw [List.drop_length]; rfl⟩
    · rintro ⟨m, hm, h1, h2⟩
      have h3 : s.drop m = [] := by simpa [gm] using h2
      have : s.length - m = 0 := by have := congrArg List.length h3; simpa using this
      obtain rfl : m = s.length := by omega
      exact h1
  | t :: ts, T, h => by
    rw [List.foldl_cons, fold_tab ts _ (fun x hx => h x (List.mem_cons_of_mem _ hx)), List.map_cons]
    constructor
    · rintro ⟨m, hm, h1, h2⟩
      obtain ⟨k, hk, h3, h4⟩ := (bothT_iff _ _ _ _ _).1 h1
      exact ⟨k, hk, h3, (pc_tab (h t (List.mem_cons_self ..)) _ (by omega)).2 ⟨m, hm, h4, h2⟩⟩
    · rintro ⟨k, hk, h3, h4⟩
      obtain ⟨m, hm, h5, h6⟩ := (pc_tab (d := d) (h t (List.mem_cons_self ..)) _ (by omega)).1 h4
      exact ⟨m, hm, (bothT_iff _ _ _ _ _).2 ⟨k, hk, h3, h5⟩, h6⟩
end Go.Proofs.Ytepfpmnfecehbaa
