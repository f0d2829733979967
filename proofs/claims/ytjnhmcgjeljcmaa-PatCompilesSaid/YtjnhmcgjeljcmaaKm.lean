/- Plain facts: tables of places; what the table of a tree says of a glob's pieces. No program. Plain facts: what a tree matches, as paths through places; its table says just that. No program. -/
import Derived.Test.YtjnhmcgjeljcmaaGm
namespace Go.Proofs.Ytjnhmcgjeljcmaa

/-- One table behind the other, over the first k places. -/
def bothT (A B : Nat → Nat → Bool) : Nat → Nat → Nat → Bool
  | 0, _, _ => false
  | k + 1, i, j => bothT A B k i j || (A i k && B k j)
/-- A table's way on through the first k places. -/
def warT (A : Nat → Nat → Bool) : Nat → Nat → Nat → Bool
  | 0, i, j => A i j
  | k + 1, i, j => warT A k i j || (warT A k i k && warT A k k j)
def eqT (i j : Nat) : Bool := decide (i = j)
def setT (rs : List (UInt8 × UInt8)) (s : List UInt8) (i j : Nat) : Bool := match s[i]? with
  | some c => decide (j = i + 1) && inR rs c.toNat
  | none => false
/-- The table of a tree, as deep as d. -/
def tabT (s : List UInt8) : Nat → Tr → Nat → Nat → Bool
  | 0, _ => fun _ _ => false
  | d + 1, .mk k rs kids =>
    if k = 1 then setT rs s
    else if k = 2 then kids.foldl (fun T t => bothT T (tabT s d t) (s.length + 1)) eqT
    else if k = 3 then kids.foldl (fun T t i j => T i j || tabT s d t i j) (fun _ _ => false)
    else if k < 4 ∨ 6 < k then fun _ _ => false
    else match kids with
      | [] => fun _ _ => false
      | t :: _ =>
        if k = 6 then fun i j => tabT s d t i j || eqT i j
        else if k = 4 then fun i j => warT (tabT s d t) (s.length + 1) i j || eqT i j
        else warT (tabT s d t) (s.length + 1)
theorem bothT_iff (A B : Nat → Nat → Bool) (i j : Nat) : ∀ k, bothT A B k i j = true ↔ ∃ m, m < k ∧ A i m = true ∧ B m j = true
  | 0 => by simp [bothT]
  | k + 1 => by
    rw [bothT, Bool.or_eq_true, Bool.and_eq_true, bothT_iff A B i j k]
    constructor
    · rintro (⟨m, h1, h2⟩ | h)
      · exact ⟨m, by omega, h2⟩
      · exact ⟨k, by omega, h⟩
    · rintro ⟨m, h1, h2⟩
      by_cases e : m = k
      · subst e; exact .inr h2
      · exact .inl ⟨m, by omega, h2⟩
/-- Steps of one, again and again. -/
theorem warT_step {A : Nat → Nat → Bool} {n : Nat} (hA : ∀ i j, j < n → A i j = decide (j = i + 1)) : ∀ k, k ≤ n → ∀ i j, j < n → warT A k i j = decide (i < j ∧ (j = i + 1 ∨ j ≤ k))
  | 0, _, i, j, hj => by
    rw [warT, hA i j hj, Bool.eq_iff_iff, decide_eq_true_eq, decide_eq_true_eq]
    omega
  | k + 1, hk, i, j, hj => by
    rw [warT, warT_step hA k (by omega) i j hj, warT_step hA k (by omega) i k (by omega), warT_step hA k (by omega) k j hj, Bool.eq_iff_iff]
    simp only [Bool.or_eq_true, Bool.and_eq_true, decide_eq_true_eq]
    omega
/-- A glob's piece: a set, or any bytes. -/
def IsPc (t : Tr) : Prop := (∃ rs, t = .mk 1 rs []) ∨ t = .mk 4 [] [anyT]
theorem classP_isPc {L : List UInt8 → Lr} {sg : UInt8} {l : List UInt8} {t : Tr} {n : Nat} (h : classP L sg l = .ok t n) : IsPc t := by
  unfold classP at h
  split at h
  · split at h
    · injection h with h _; exact .inl ⟨_, h.symm⟩
    · cases h
  · split at h
    · injection h with h _; exact .inl ⟨_, h.symm⟩
    · cases h
theorem pieceG_isPc {l : List UInt8} {t : Tr} {n : Nat} (h : pieceG l = .ok t n) : IsPc t := by
  unfold pieceG at h
  split at h
  · injection h with h _; exact .inl ⟨_, h.symm⟩
  · split at h
    · injection h with h _; exact .inr h.symm
    · split at h
      · cases hc : classP letterG 33 (l.drop 1) with
        | ok t' n' => rw [hc] at h; simp only [Pr.shift] at h; injection h with h _; subst h; exact classP_isPc hc
        | err c o => rw [hc] at h; cases h
      · split at h
        · injection h with h _; exact .inl ⟨_, h.symm⟩
        · cases h
theorem piecesP_isPc : ∀ (f : Nat) (l : List UInt8) (ts : List Tr), piecesP f l = .ok ts → ∀ t ∈ ts, IsPc t
  | 0, _, _, h => by cases h
  | f + 1, l, ts, h => by
    unfold piecesP at h
    split at h
    · injection h with h; subst h; simp
    · split at h
      · cases h
      · rename_i t n hp
        cases hk : piecesP f (l.drop n) with
        | err c o => rw [hk] at h; simp [Ks.pre] at h
        | ok ts' =>
          rw [hk] at h
          simp only [Ks.pre] at h
          injection h with h
          subst h
          intro x hx
          rcases List.mem_append.1 hx with hx | hx
          · obtain rfl := List.mem_singleton.1 hx; exact pieceG_isPc hp
          · exact piecesP_isPc f _ _ hk x hx
theorem inR_any (c : UInt8) : inR (rangesL [] true) c.toNat = true := by
  have h : ∀ n : Nat, n < 256 → inR (rangesL [] true) n = true := by decide +kernel
  exact h _ c.toNat_lt
/-- One piece's table leads to where the rest goes on. -/
theorem pc_tab {s : List UInt8} {d : Nat} {t : Tr} (h : IsPc t) (ps : List Pc) {k : Nat} (hk : k ≤ s.length) :
    gm (pcOf t :: ps) (s.drop k) = true ↔ ∃ m, m < s.length + 1 ∧ tabT s (d + 2) t k m = true ∧ gm ps (s.drop m) = true := by
  rcases h with ⟨rs, rfl⟩ | rfl
  · have hp : pcOf (.mk 1 rs []) = .set rs := by simp [pcOf]
    rw [hp]
    have ht : ∀ m, tabT s (d + 2) (.mk 1 rs []) k m = setT rs s k m := fun m => by simp [tabT]
    simp only [ht]
    by_cases hlt : k < s.length
    · have hd : s.drop k = s[k] :: s.drop (k + 1) := List.drop_eq_getElem_cons hlt
      rw [hd, gm]
      have hs : ∀ m, setT rs s k m = (decide (m = k + 1) && inR rs s[k].toNat) := fun m => by unfold setT; rw [List.getElem?_eq_getElem hlt]
      simp only [hs, Bool.and_eq_true, decide_eq_true_eq]
      constructor
      · rintro ⟨h1, h2⟩; exact ⟨k + 1, by omega, ⟨rfl, h1⟩, h2⟩
      · rintro ⟨m, _, ⟨rfl, h1⟩, h2⟩; exact ⟨h1, h2⟩
    · have hd : s.drop k = [] := List.drop_of_length_le (by omega)
      rw [hd, gm]
      constructor
      · intro h; cases h
      · rintro ⟨m, _, h, _⟩
        unfold setT at h
        rw [List.getElem?_eq_none (by omega)] at h
        cases h
  · have hp : pcOf (.mk 4 [] [anyT]) = .star := by simp [pcOf]
    rw [hp]
    have hA : ∀ i j, j < s.length + 1 → tabT s (d + 1) anyT i j = decide (j = i + 1) := by
      intro i j hj
      show (if (1 : Int) = 1 then setT (rangesL [] true) s else _) i j = _
      rw [if_pos rfl]
      unfold setT
      by_cases hi : i < s.length
      · rw [List.getElem?_eq_getElem hi]
        simp only [inR_any, Bool.and_true]
      · rw [List.getElem?_eq_none (by omega)]
        exact (decide_eq_false (by omega)).symm
    have ht : ∀ m, m < s.length + 1 → (tabT s (d + 2) (.mk 4 [] [anyT]) k m = true ↔ k ≤ m) := by
      intro m hm
      have e : tabT s (d + 2) (.mk 4 [] [anyT]) k m = (warT (tabT s (d + 1) anyT) (s.length + 1) k m || eqT k m) := by simp [tabT]
      rw [e, warT_step hA (s.length + 1) (Nat.le_refl _) k m hm]
      simp only [Bool.or_eq_true, decide_eq_true_eq, eqT]
      omega
    rw [gm, starM_iff]
    constructor
    · rintro ⟨j, hj, h⟩
      rw [List.length_drop] at hj
      rw [List.drop_drop] at h
      exact ⟨k + j, by omega, (ht _ (by omega)).2 (by omega), h⟩
    · rintro ⟨m, hm, h1, h2⟩
      have := (ht m hm).1 h1
      refine ⟨m - k, by rw [List.length_drop]; omega, ?_⟩
      rw [List.drop_drop, show k + (m - k) = m by omega]
      exact h2
theorem fold_tab {s : List UInt8} {d : Nat} : ∀ (ts : List Tr) (T : Nat → Nat → Bool), (∀ t ∈ ts, IsPc t) →
    (ts.foldl (fun T t => bothT T (tabT s (d + 2) t) (s.length + 1)) T 0 s.length = true ↔ ∃ m, m < s.length + 1 ∧ T 0 m = true ∧ gm (ts.map pcOf) (s.drop m) = true)
  | [], T, _ => by
    rw [List.foldl_nil]
    constructor
    · intro h; exact ⟨s.length, by omega, h, by rw [List.drop_length]; rfl⟩
    · rintro ⟨m, hm, h1, h2⟩
      have h3 : s.drop m = [] := by simpa [gm] using h2
      have : s.length - m = 0 := by have := congrArg List.length h3; simpa using this
      obtain rfl : m = s.length := by omega
      exact h1
  | t :: ts, T, h => by
    rw [List.foldl_cons, fold_tab ts _ (fun x hx => h x (List.mem_cons_of_mem _ hx)), List.map_cons]
    constructor
    · rintro ⟨m, hm, h1, h2⟩
      obtain ⟨k, hk, h3, h4⟩ := (bothT_iff _ _ _ _ _).1 h1
      exact ⟨k, hk, h3, (pc_tab (h t (List.mem_cons_self ..)) _ (by omega)).2 ⟨m, hm, h4, h2⟩⟩
    · rintro ⟨k, hk, h3, h4⟩
      obtain ⟨m, hm, h5, h6⟩ := (pc_tab (d := d) (h t (List.mem_cons_self ..)) _ (by omega)).1 h4
      exact ⟨m, hm, (bothT_iff _ _ _ _ _).2 ⟨k, hk, h3, h5⟩, h6⟩
end Go.Proofs.Ytjnhmcgjeljcmaa
namespace Go.Proofs.Ytjnhmcgjeljcmaa

/-- Paths of c steps. -/
def itR (R : Nat → Nat → Prop) : Nat → Nat → Nat → Prop
  | 0, i, j => i = j
  | c + 1, i, j => ∃ m, R i m ∧ itR R c m j
def chR (R : Tr → Nat → Nat → Prop) : List Tr → Nat → Nat → Prop
  | [], i, j => i = j
  | t :: ts, i, j => ∃ m, R t i m ∧ chR R ts m j
/-- What a tree matches of a text: from place to place. -/
def Mt (s : List UInt8) : Nat → Tr → Nat → Nat → Prop
  | 0, _ => fun _ _ => False
  | d + 1, .mk k rs kids =>
    if k = 1 then fun i j => setT rs s i j = true
    else if k = 2 then chR (Mt s d) kids
    else if k = 3 then fun i j => ∃ t, t ∈ kids ∧ Mt s d t i j
    else if k < 4 ∨ 6 < k then fun _ _ => False
    else match kids with
      | [] => fun _ _ => False
      | t :: _ =>
        if k = 6 then fun i j => Mt s d t i j ∨ i = j
        else if k = 4 then fun i j => ∃ c, itR (Mt s d t) c i j
        else fun i j => ∃ c, itR (Mt s d t) (c + 1) i j
theorem setT_iff {rs : List (UInt8 × UInt8)} {s : List UInt8} {i j : Nat} : setT rs s i j = true ↔ ∃ c, s[i]? = some c ∧ j = i + 1 ∧ inR rs c.toNat = true := by
  unfold setT
  cases h : s[i]? with
  | none => simp
  | some c => simp
theorem itR_le {R : Nat → Nat → Prop} {n : Nat} (hR : ∀ i j, R i j → i ≤ n → i ≤ j ∧ j ≤ n) : ∀ c i j, itR R c i j → i ≤ n → i ≤ j ∧ j ≤ n
  | 0, i, j, h, hi => by obtain rfl : i = j := h; exact ⟨Nat.le_refl _, hi⟩
  | c + 1, i, j, ⟨m, h1, h2⟩, hi => by
    have a := hR i m h1 hi
    have b := itR_le hR c m j h2 a.2
    omega
theorem chR_le {R : Tr → Nat → Nat → Prop} {n : Nat} : ∀ (ts : List Tr), (∀ t, t ∈ ts → ∀ i j, R t i j → i ≤ n → i ≤ j ∧ j ≤ n) → ∀ i j, chR R ts i j → i ≤ n → i ≤ j ∧ j ≤ n
  | [], _, i, j, h, hi => by obtain rfl : i = j := h; exact ⟨Nat.le_refl _, hi⟩
  | t :: ts, hR, i, j, ⟨m, h1, h2⟩, hi => by
    have a := hR t (List.mem_cons_self ..) i m h1 hi
    have b := chR_le ts (fun t ht => hR t (List.mem_cons_of_mem _ ht)) m j h2 a.2
    omega
theorem Mt_le {s : List UInt8} : ∀ d t i j, Mt s d t i j → i ≤ s.length → i ≤ j ∧ j ≤ s.length
  | 0, _, _, _, h, _ => h.elim
  | d + 1, .mk k rs kids, i, j, h, hi => by
    unfold Mt at h
    by_cases h1 : k = 1
    · rw [if_pos h1] at h
      obtain ⟨c, hc, rfl, _⟩ := setT_iff.1 h
      have := (List.getElem?_eq_some_iff.1 hc).1
      omega
    rw [if_neg h1] at h
    by_cases h2 : k = 2
    · rw [if_pos h2] at h
      exact chR_le kids (fun t _ i j h hi => Mt_le d t i j h hi) i j h hi
    rw [if_neg h2] at h
    by_cases h3 : k = 3
    · rw [if_pos h3] at h
      obtain ⟨t, _, h⟩ := h
      exact Mt_le d t i j h hi
    rw [if_neg h3] at h
    by_cases h4 : k < 4 ∨ 6 < k
    · rw [if_pos h4] at h; exact h.elim
    rw [if_neg h4] at h
    match kids, h with
    | t :: _, h =>
      simp only at h
      by_cases h6 : k = 6
      · rw [if_pos h6] at h
        rcases h with h | rfl
        · exact Mt_le d t i j h hi
        · omega
      rw [if_neg h6] at h
      by_cases h5 : k = 4
      · rw [if_pos h5] at h
        obtain ⟨c, h⟩ := h
        exact itR_le (fun i j h hi => Mt_le d t i j h hi) c i j h hi
      · rw [if_neg h5] at h
        obtain ⟨c, h⟩ := h
        exact itR_le (fun i j h hi => Mt_le d t i j h hi) (c + 1) i j h hi
/-! the way on through places is what paths are -/
theorem warT_mono {A : Nat → Nat → Bool} {i j : Nat} : ∀ {k : Nat}, A i j = true → warT A k i j = true
  | 0, h => h
  | k + 1, h => by rw [warT, warT_mono h]; rfl
theorem warT_succ {A : Nat → Nat → Bool} {k i j : Nat} : warT A (k + 1) i j = true ↔ warT A k i j = true ∨ (warT A k i k = true ∧ warT A k k j = true) := by
  rw [warT, Bool.or_eq_true, Bool.and_eq_true]
theorem warT_trans {A : Nat → Nat → Bool} : ∀ {k i m j : Nat}, m < k → warT A k i m = true → warT A k m j = true → warT A k i j = true
  | 0, _, _, _, h, _, _ => by omega
  | k + 1, i, m, j, hm, h1, h2 => by
    rw [warT_succ] at h1 h2 ⊢
    by_cases e : m = k
    · subst e
      have a : warT A m i m = true := by rcases h1 with h | h; exact h; exact h.1
      have b : warT A m m j = true := by rcases h2 with h | h; exact h; exact h.2
      exact .inr ⟨a, b⟩
    · have hm' : m < k := by omega
      rcases h1 with h1 | ⟨h1, h1'⟩ <;> rcases h2 with h2 | ⟨h2, h2'⟩
      · exact .inl (warT_trans hm' h1 h2)
      · exact .inr ⟨warT_trans hm' h1 h2, h2'⟩
      · exact .inr ⟨h1, warT_trans hm' h1' h2⟩
      · exact .inr ⟨h1, h2'⟩
theorem itR_app {R : Nat → Nat → Prop} : ∀ {a b i m j : Nat}, itR R a i m → itR R b m j → itR R (a + b) i j
  | 0, b, i, m, j, h, h2 => by obtain rfl : i = m := h; rw [Nat.zero_add]; exact h2
  | a + 1, b, i, m, j, ⟨x, h1, h3⟩, h2 => by rw [Nat.add_right_comm]; exact ⟨x, h1, itR_app h3 h2⟩
theorem warT_path {A : Nat → Nat → Bool} : ∀ k i j, warT A k i j = true → ∃ c, itR (fun a b => A a b = true) (c + 1) i j
  | 0, i, j, h => ⟨0, j, h, rfl⟩
  | k + 1, i, j, h => by
    rcases warT_succ.1 h with h | ⟨h1, h2⟩
    · exact warT_path k i j h
    · obtain ⟨a, ha⟩ := warT_path k i k h1
      obtain ⟨b, hb⟩ := warT_path k k j h2
      refine ⟨a + 1 + b, ?_⟩
      have := itR_app ha hb
      rwa [show a + 1 + (b + 1) = a + 1 + b + 1 by omega] at this
theorem path_warT {A : Nat → Nat → Bool} {n : Nat} (hA : ∀ i j, A i j = true → i ≤ n → j ≤ n) : ∀ c i j, i ≤ n → itR (fun a b => A a b = true) (c + 1) i j → warT A (n + 1) i j = true
  | 0, i, j, _, ⟨m, h, e⟩ => by obtain rfl : m = j := e; exact warT_mono h
  | c + 1, i, j, hi, ⟨m, h, h2⟩ => by
    have hm := hA i m h hi
    exact warT_trans (m := m) (by omega) (warT_mono h) (path_warT hA c m j hm h2)
theorem itR_congr {R Q : Nat → Nat → Prop} {n : Nat} (hR : ∀ i j, R i j → i ≤ n → j ≤ n) (h : ∀ i j, i ≤ n → j ≤ n → R i j → Q i j) : ∀ c i j, i ≤ n → itR R c i j → itR Q c i j
  | 0, _, _, _, e => e
  | c + 1, i, j, hi, ⟨m, h1, h2⟩ => ⟨m, h i m hi (hR i m h1 hi) h1, itR_congr hR h c m j (hR i m h1 hi) h2⟩
theorem fold_or {s : List UInt8} {d i j : Nat} : ∀ (ts : List Tr) (T : Nat → Nat → Bool), ts.foldl (fun T t i j => T i j || tabT s d t i j) T i j = true ↔ T i j = true ∨ ∃ t, t ∈ ts ∧ tabT s d t i j = true
  | [], T => by simp
  | t :: ts, T => by
    rw [List.foldl_cons, fold_or ts]
    simp only [Bool.or_eq_true, List.mem_cons]
    constructor
    · rintro ((h | h) | ⟨x, hx, h⟩)
      · exact .inl h
      · exact .inr ⟨t, .inl rfl, h⟩
      · exact .inr ⟨x, .inr hx, h⟩
    · rintro (h | ⟨x, rfl | hx, h⟩)
      · exact .inl (.inl h)
      · exact .inl (.inr h)
      · exact .inr ⟨x, hx, h⟩
/-- Off the table of a tree inside the text nothing leads outside. -/
theorem tab_Mt {s : List UInt8} : ∀ d t i j, i ≤ s.length → j ≤ s.length → (tabT s d t i j = true ↔ Mt s d t i j)
  | 0, _, i, j, _, _ => by simp [tabT, Mt]
  | d + 1, .mk k rs kids, i, j, hi, hj => by
    unfold tabT Mt
    by_cases h1 : k = 1
    · rw [if_pos h1, if_pos h1]
    rw [if_neg h1, if_neg h1]
    by_cases h2 : k = 2
    · rw [if_pos h2, if_pos h2]
      have key : ∀ (ts : List Tr) (T : Nat → Nat → Bool), ts.foldl (fun T t => bothT T (tabT s d t) (s.length + 1)) T i j = true ↔ ∃ m, m < s.length + 1 ∧ T i m = true ∧ chR (Mt s d) ts m j := by
        intro ts
        induction ts with
        | nil =>
          intro T
          exact ⟨fun h => ⟨j, by omega, h, rfl⟩, fun ⟨m, _, h, e⟩ => by obtain rfl : m = j := e; exact h⟩
        | cons t ts ih =>
          intro T
          rw [List.foldl_cons, ih]
          constructor
          · rintro ⟨m, hm, hb, hc⟩
            obtain ⟨x, hx, ha, hb⟩ := (bothT_iff _ _ _ _ _).1 hb
            exact ⟨x, hx, ha, m, (tab_Mt d t x m (by omega) (by omega)).1 hb, hc⟩
          · rintro ⟨x, hx, ha, m, hb, hc⟩
            have hm := (Mt_le d t x m hb (by omega)).2
            exact ⟨m, by omega, (bothT_iff _ _ _ _ _).2 ⟨x, hx, ha, (tab_Mt d t x m (by omega) hm).2 hb⟩, hc⟩
      rw [key]
      constructor
      · rintro ⟨m, _, e, h⟩
        obtain rfl : i = m := by simpa [eqT] using e
        exact h
      · intro h
        exact ⟨i, by omega, by simp [eqT], h⟩
    rw [if_neg h2, if_neg h2]
    by_cases h3 : k = 3
    · rw [if_pos h3, if_pos h3, fold_or]
      simp only [Bool.false_eq_true, false_or]
      exact ⟨fun ⟨t, ht, h⟩ => ⟨t, ht, (tab_Mt d t i j hi hj).1 h⟩, fun ⟨t, ht, h⟩ => ⟨t, ht, (tab_Mt d t i j hi hj).2 h⟩⟩
    rw [if_neg h3, if_neg h3]
    by_cases h4 : k < 4 ∨ 6 < k
    · rw [if_pos h4, if_pos h4]; simp
    rw [if_neg h4, if_neg h4]
    match kids with
    | [] => simp
    | t :: _ =>
      simp only
      have hw : (warT (tabT s d t) (s.length + 1) i j = true ↔ ∃ c, itR (Mt s d t) (c + 1) i j) := by
        constructor
        · intro h
          have hW : ∀ k, k ≤ s.length + 1 → ∀ i j, i ≤ s.length → j ≤ s.length → warT (tabT s d t) k i j = true → ∃ c, itR (Mt s d t) (c + 1) i j := by
            intro k
            induction k with
            | zero => intro _ i j hi hj h; exact ⟨0, j, (tab_Mt d t i j hi hj).1 h, rfl⟩
            | succ k ih =>
              intro hk i j hi hj h
              rcases warT_succ.1 h with h | ⟨h1, h2⟩
              · exact ih (by omega) i j hi hj h
              · obtain ⟨a, ha⟩ := ih (by omega) i k hi (by omega) h1
                obtain ⟨b, hb⟩ := ih (by omega) k j (by omega) hj h2
                refine ⟨a + 1 + b, ?_⟩
                have := itR_app ha hb
                rwa [show a + 1 + (b + 1) = a + 1 + b + 1 by omega] at this
          exact hW _ (Nat.le_refl _) i j hi hj h
        · rintro ⟨c, h⟩
          have hW : ∀ c i j, i ≤ s.length → itR (Mt s d t) (c + 1) i j → warT (tabT s d t) (s.length + 1) i j = true := by
            intro c
            induction c with
            | zero =>
              rintro i j hi ⟨m, h, e⟩
              obtain rfl : m = j := e
              exact warT_mono ((tab_Mt d t i m hi (Mt_le d t i m h hi).2).2 h)
            | succ c ih =>
              rintro i j hi ⟨m, h, h2⟩
              have hm := (Mt_le d t i m h hi).2
              exact warT_trans (m := m) (by omega) (warT_mono ((tab_Mt d t i m hi hm).2 h)) (ih m j hm h2)
          exact hW c i j hi h
      by_cases h6 : k = 6
      · rw [if_pos h6, if_pos h6, Bool.or_eq_true, tab_Mt d t i j hi hj]
        simp [eqT]
      rw [if_neg h6, if_neg h6]
      by_cases h5 : k = 4
      · rw [if_pos h5, if_pos h5, Bool.or_eq_true, hw]
        simp only [eqT, decide_eq_true_eq]
        constructor
        · rintro (⟨c, h⟩ | rfl)
          · exact ⟨c + 1, h⟩
          · exact ⟨0, rfl⟩
        · rintro ⟨c, h⟩
          match c, h with
          | 0, h => exact .inr h
          | c + 1, h => exact .inl ⟨c, h⟩
      · rw [if_neg h5, if_neg h5]; exact hw
end Go.Proofs.Ytjnhmcgjeljcmaa
