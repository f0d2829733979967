/- Plain facts: what a tree matches, as paths through places; its table says just that. No program. -/
import Derived.Test.YtepfpmnfecehbaaKt
namespace Go.Proofs.Ytepfpmnfecehbaa

/-- Paths of c steps. -/
def itR (R : Nat → Nat → Prop) : Nat → Nat → Nat → Prop
  | 0, i, j => i = j
  | c + 1, i, j => ∃ m, R i m ∧ itR R c m j
def chR (R : Tr → Nat → Nat → Prop) : List Tr → Nat → Nat → Prop
  | [], i, j => i = j
  | t :: ts, i, j => ∃ m, R t i m ∧ chR R ts m j
/-- What a tree matches of a text: from place to place. -/
def Mt (s : List UInt8) : Nat → Tr → Nat → Nat → Prop
  | 0, _ => fun _ _ => False
  | d + 1, .mk k rs kids =>
    if k = 1 then fun i j => setT rs s i j = true
    else if k = 2 then chR (Mt s d) kids
    else if k = 3 then fun i j => ∃ t, t ∈ kids ∧ Mt s d t i j
    else if k < 4 ∨ 6 < k then fun _ _ => False
    else match kids with
      | [] => fun _ _ => False
      | t :: _ =>
        if k = 6 then fun i j => Mt s d t i j ∨ i = j
        else if k = 4 then fun i j => ∃ c, itR (Mt s d t) c i j
        else fun i j => ∃ c, itR (Mt s d t) (c + 1) i j
theorem setT_iff {rs : List (UInt8 × UInt8)} {s : List UInt8} {i j : Nat} : setT rs s i j = true ↔ ∃ c, s[i]? = some c ∧ j = i + 1 ∧ inR rs c.toNat = true := by
  unfold setT
  cases h : s[i]? with
  | none => simp
  | some c => simp
theorem itR_le {R : Nat → Nat → Prop} {n : Nat} (hR : ∀ i j, R i j → i ≤ n → i ≤ j ∧ j ≤ n) : ∀ c i j, itR R c i j → i ≤ n → i ≤ j ∧ j ≤ n
  | 0, i, j, h, hi => by obtain rfl : i = j := h; exact ⟨Nat.le_refl _, hi⟩
  | c + 1, i, j, ⟨m, h1, h2⟩, hi => by
    have a := hR i m h1 hi
    have b := itR_le hR c m j h2 a.2
    omega
theorem chR_le {R : Tr → Nat → Nat → Prop} {n : Nat} : ∀ (ts : List Tr), (∀ t, t ∈ ts → ∀ i j, R t i j → i ≤ n → i ≤ j ∧ j ≤ n) → ∀ i j, chR R ts i j → i ≤ n → i ≤ j ∧ j ≤ n
  | [], _, i, j, h, hi => by obtain rfl : i = j := h; exact ⟨Nat.le_refl _, hi⟩
  | t :: ts, hR, i, j, ⟨m, h1, h2⟩, hi => by
    have a := hR t (List.mem_cons_self ..) i m h1 hi
    have b := chR_le ts (fun t ht => hR t (List.mem_cons_of_mem _ ht)) m j h2 a.2
    omega
theorem Mt_le {s : List UInt8} : ∀ d t i j, Mt s d t i j → i ≤ s.length → i ≤ j ∧ j ≤ s.length
  | 0, _, _, _, h, _ => h.elim
  | d + 1, .mk k rs kids, i, j, h, hi => by
    unfold Mt at h
    by_cases h1 : k = 1
    · rw [if_pos h1] at h
      obtain ⟨c, hc, rfl, _⟩ := setT_iff.1 h
      have := (List.getElem?_eq_some_iff.1 hc).1
      omega
    rw [if_neg h1] at h
    by_cases h2 : k = 2
    · rw [if_pos h2] at h
      exact chR_le kids (fun t _ i j h hi => Mt_le d t i j h hi) i j h hi
    rw [if_neg h2] at h
    by_cases h3 : k = 3
    · rw [if_pos h3] at h
      obtain ⟨t, _, h⟩ := h
      exact Mt_le d t i j h hi
    rw [if_neg h3] at h
    by_cases h4 : k < 4 ∨ 6 < k
    · rw [if_pos h4] at h; exact h.elim
    rw [if_neg h4] at h
    match kids, h with
    | t :: _, h =>
      simp only at h
      by_cases h6 : k = 6
      · rw [if_pos h6] at h
        rcases h with h | rfl
        · exact Mt_le d t i j h hi
        · omega
      rw [if_neg h6] at h
      by_cases h5 : k = 4
      · rw [if_pos h5] at h
        obtain ⟨c, h⟩ := h
        exact itR_le (fun i j h hi => Mt_le d t i j h hi) c i j h hi
      · rw [if_neg h5] at h
        obtain ⟨c, h⟩ := h
        exact itR_le (fun i j h hi => Mt_le d t i j h hi) (c + 1) i j h hi
/-! the way on through places is what paths are -/
theorem warT_mono {A : Nat → Nat → Bool} {i j : Nat} : ∀ {k : Nat}, A i j = true → warT A k i j = true
  | 0, h => h
  | k + 1, h => by rw [warT, warT_mono h]; rfl
theorem warT_succ {A : Nat → Nat → Bool} {k i j : Nat} : warT A (k + 1) i j = true ↔ warT A k i j = true ∨ (warT A k i k = true ∧ warT A k k j = true) := by
  rw [warT, Bool.or_eq_true, Bool.and_eq_true]
theorem warT_trans {A : Nat → Nat → Bool} : ∀ {k i m j : Nat}, m < k → warT A k i m = true → warT A k m j = true → warT A k i j = true
  | 0, _, _, _, h, _, _ => by omega
  | k + 1, i, m, j, hm, h1, h2 => by
    rw [warT_succ] at h1 h2 ⊢
    by_cases e : m = k
    · subst e
      have a : warT A m i m = true := by rcases h1 with h | h; exact h; exact h.1
      have b : warT A m m j = true := by rcases h2 with h | h; exact h; exact h.2
      exact .inr ⟨a, b⟩
    · have hm' : m < k := by omega
      rcases h1 with h1 | ⟨h1, h1'⟩ <;> rcases h2 with h2 | ⟨h2, h2'⟩
      · exact .inl (warT_trans hm' h1 h2)
      · exact .inr ⟨warT_trans hm' h1 h2, h2'⟩
      · exact .inr ⟨h1, warT_trans hm' h1' h2⟩
      · exact .inr ⟨h1, h2'⟩
theorem itR_app {R : Nat → Nat → Prop} : ∀ {a b i m j : Nat}, itR R a i m → itR R b m j → itR R (a + b) i j
  | 0, b, i, m, j, h, h2 => by obtain rfl : i = m := h; rw [Nat.zero_add]; exact h2
  | a + 1, b, i, m, j, ⟨x, h1, h3⟩, h2 => by rw [Nat.add_right_comm]; exact ⟨x, h1, itR_app h3 h2⟩
theorem warT_path {A : Nat → Nat → Bool} : ∀ k i j, warT A k i j = true → ∃ c, itR (fun a b => A a b = true) (c + 1) i j
  | 0, i, j, h => ⟨0, j, h, rfl⟩
  | k + 1, i, j, h => by
    rcases warT_succ.1 h with h | ⟨h1, h2⟩
    · exact warT_path k i j h
    · obtain ⟨a, ha⟩ := warT_path k i k h1
      obtain ⟨b, hb⟩ := warT_path k k j h2
      refine ⟨a + 1 + b, ?_⟩
      have := itR_app ha hb
      rwa [show a + 1 + (b + 1) = a + 1 + b + 1 by omega] at this
theorem path_warT {A : Nat → Nat → Bool} {n : Nat} (hA : ∀ i j, A i j = true → i ≤ n → j ≤ n) : ∀ c i j, i ≤ n → itR (fun a b => A a b = true) (c + 1) i j → warT A (n + 1) i j = true
  | 0, i, j, _, ⟨m, h, e⟩ => by obtain rfl : m = j := e; exact warT_mono h
  | c + 1, i, j, hi, ⟨m, h, h2⟩ => by
    have hm := hA i m h hi
    exact warT_trans (m := m) (by omega) (warT_mono h) (path_warT hA c m j hm h2)
theorem itR_congr {R Q : Nat → Nat → Prop} {n : Nat} (hR : ∀ i j, R i j → i ≤ n → j ≤ n) (h : ∀ i j, i ≤ n → j ≤ n → R i j → Q i j) : ∀ c i j, i ≤ n → itR R c i j → itR Q c i j
  | 0, _, _, _, e => e
  | c + 1, i, j, hi, ⟨m, h1, h2⟩ => ⟨m, h i m hi (hR i m h1 hi) h1, itR_congr hR h c m j (hR i m h1 hi) h2⟩
theorem fold_or {s : List UInt8} {d i j : Nat} : ∀ (ts : List Tr) (T : Nat → Nat → Bool), ts.foldl (fun T t i j => T i j || tabT s d t i j) T i j = true ↔ T i j = true ∨ ∃ t, t ∈ ts ∧ tabT s d t i j = true
  | [], T => by simp
  | t :: ts, T => by
    rw [List.foldl_cons, fold_or ts]
    simp only [Bool.or_eq_true, List.mem_cons]
    constructor
    · rintro ((h | h) | ⟨x, hx, h⟩)
      · exact .inl h
      · exact .inr ⟨t, .inl rfl, h⟩
      · exact .inr ⟨x, .inr hx, h⟩
    · rintro (h | ⟨x, rfl | hx, h⟩)
      · exact .inl (.inl h)
      · exact .inl (.inr h)
      · exact .inr ⟨x, hx, h⟩
/-- Off the table of a tree inside the text nothing leads outside. -/
theorem tab_Mt {s : List UInt8} : ∀ d t i j, i ≤ s.length → j ≤ s.length → (tabT s d t i j = true ↔ Mt s d t i j)
  | 0, _, i, j, _, _ => by simp [tabT, Mt]
  | d + 1, .mk k rs kids, i, j, hi, hj => by
    unfold tabT Mt
    by_cases h1 : k = 1
    · rw [if_pos h1, if_pos h1]
    rw [if_neg h1, if_neg h1]
    by_cases h2 : k = 2
    · rw [if_pos h2, if_pos h2]
      have key : ∀ (ts : List Tr) (T : Nat → Nat → Bool), ts.foldl (fun T t => bothT T (tabT s d t) (s.length + 1)) T i j = true ↔ ∃ m, m < s.length + 1 ∧ T i m = true ∧ chR (Mt s d) ts m j := by
        intro ts
        induction ts with
        | nil =>
          intro T
          exact ⟨fun h => ⟨j, by omega, h, rfl⟩, fun ⟨m, _, h, e⟩ => by obtain rfl : m = j := e; exact h⟩
        | cons t ts ih =>
          intro T
          rw [List.foldl_cons, ih]
          constructor
          · rintro ⟨m, hm, hb, hc⟩
            obtain ⟨x, hx, ha, hb⟩ := (bothT_iff _ _ _ _ _).1 hb
            exact ⟨x, hx, ha, m, (tab_Mt d t x m (by omega) (by omega)).1 hb, hc⟩
          · rintro ⟨x, hx, ha, m, hb, hc⟩
            have hm := (Mt_le d t x m hb (by omega)).2
            exact ⟨m, by omega, (bothT_iff _ _ _ _ _).2 ⟨x, hx, ha, (tab_Mt d t x m (by omega) hm).2 hb⟩, hc⟩
      rw [key]
      constructor
      · rintro ⟨m, _, e, h⟩
        obtain rfl : i = m := by simpa [eqT] using e
        exact h
      · intro h
        exact ⟨i, by omega, by simp [eqT], h⟩
    rw [if_neg h2, if_neg h2]
    by_cases h3 : k = 3
    · rw [if_pos h3, if_pos h3, fold_or]
      simp only [Bool.false_eq_true, false_or]
      exact ⟨fun ⟨t, ht, h⟩ => ⟨t, ht, (tab_Mt d t i j hi hj).1 h⟩, fun ⟨t, ht, h⟩ => ⟨t, ht, (tab_Mt d t i j hi hj).2 h⟩⟩
    rw [if_neg h3, if_neg h3]
    by_cases h4 : k < 4 ∨ 6 < k
    · rw [if_pos h4, if_pos h4]; simp
    rw [if_neg h4, if_neg h4]
    match kids with
    | [] => simp
    | t :: _ =>
      simp only
      have hw : (warT (tabT s d t) (s.length + 1) i j = true ↔ ∃ c, itR (Mt s d t) (c + 1) i j) := by
        constructor
        · intro h
          have hW : ∀ k, k ≤ s.length + 1 → ∀ i j, i ≤ s.length → j ≤ s.length → warT (tabT s d t) k i j = true → ∃ c, itR (Mt s d t) (c + 1) i j := by
            intro k
            induction k with
            | zero => intro _ i j hi hj h; exact ⟨0, j, (tab_Mt d t i j hi hj).1 h, rfl⟩
            | succ k ih =>
              intro hk i j hi hj h
              rcases warT_succ.1 h with h | ⟨h1, h2⟩
              · exact ih (by omega) i j hi hj h
              · obtain ⟨a, ha⟩ := ih (by omega) i k hi (by omega) h1
                obtain ⟨b, hb⟩ := ih (by omega) k j (by omega) hj h2
                refine ⟨a + 1 + b, ?_⟩
                have := itR_app ha hb
                rwa [show a + 1 + (b + 1) = a + 1 + b + 1 by omega] at this
          exact hW _ (Nat.le_refl _) i j hi hj h
        · rintro ⟨c, h⟩
          have hW : ∀ c i j, i ≤ s.length → itR (Mt s d t) (c + 1) i j → warT (tabT s d t) (s.length + 1) i j = true := by
            intro c
            induction c with
            | zero =>
              rintro i j hi ⟨m, h, e⟩
              obtain rfl : m = j := e
              exact warT_mono ((tab_Mt d t i m hi (Mt_le d t i m h hi).2).2 h)
            | succ c ih =>
              rintro i j hi ⟨m, h, h2⟩
              have hm := (Mt_le d t i m h hi).2
              exact warT_trans (m := m) (by omega) (warT_mono ((tab_Mt d t i m hi hm).2 h)) (ih m j hm h2)
          exact hW c i j hi h
      by_cases h6 : k = 6
      · rw [if_pos h6, if_pos h6, Bool.or_eq_true, tab_Mt d t i j hi hj]
        simp [eqT]
      rw [if_neg h6, if_neg h6]
      by_cases h5 : k = 4
      · rw [if_pos h5, if_pos h5, Bool.or_eq_true, hw]
        simp only [eqT, decide_eq_true_eq]
        constructor
        · rintro (⟨c, h⟩ | rfl)
          · exact ⟨c + 1, h⟩
          · exact ⟨0, rfl⟩
        · rintro ⟨c, h⟩
          match c, h with
          | 0, h => exact .inr h
          | c + 1, h => exact .inl ⟨c, h⟩
      · rw [if_neg h5, if_neg h5]; exact hw
end Go.Proofs.Ytepfpmnfecehbaa
