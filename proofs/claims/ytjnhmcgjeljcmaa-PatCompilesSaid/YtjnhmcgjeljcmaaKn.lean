/- Plain facts: machines of states; a tree's states lead to the end just where the tree matches. No program. -/
import Derived.Test.YtjnhmcgjeljcmaaKm
namespace Go.Proofs.Ytjnhmcgjeljcmaa

/-- A state of a machine: its bytes, whether it is a fork, where it goes on to. -/
structure St where
  bytes : Nat → Bool
  fork : Bool
  next : List Nat
/-- A fork goes on to some more. -/
def joinM (S : List St) (f : Nat) (ns : List Nat) : List St := S.modify f fun x => ⟨x.bytes, x.fork, x.next ++ ns⟩
/-- The states of a tree ahead of a state: where it begins, all states. -/
def aheadT : Nat → Tr → Nat → List St → Nat × List St
  | 0, _, nx, S => (nx, S)
  | d + 1, .mk k rs kids, nx, S =>
    if k = 1 then (S.length, S ++ [⟨inR rs, false, [nx]⟩])
    else if k = 2 then kids.foldr (fun t r => aheadT d t r.1 r.2) (nx, S)
    else if k = 3 then (S.length, kids.foldl (fun Q t => joinM (aheadT d t nx Q).2 S.length [(aheadT d t nx Q).1]) (S ++ [⟨fun _ => false, true, []⟩]))
    else match kids with
      | [] => (S.length, S ++ [⟨fun _ => false, true, []⟩])
      | t :: _ =>
        if k = 6 then (S.length, joinM (aheadT d t nx (S ++ [⟨fun _ => false, true, []⟩])).2 S.length [(aheadT d t nx (S ++ [⟨fun _ => false, true, []⟩])).1, nx])
        else (if k = 5 then (aheadT d t S.length (S ++ [⟨fun _ => false, true, []⟩])).1 else S.length, joinM (aheadT d t S.length (S ++ [⟨fun _ => false, true, []⟩])).2 S.length [(aheadT d t S.length (S ++ [⟨fun _ => false, true, []⟩])).1, nx])
/-- A tree without a wrong node. -/
def GoodT : Nat → Tr → Prop
  | 0, _ => False
  | d + 1, .mk k _ kids => 1 ≤ k ∧ k ≤ 6 ∧ (3 < k → kids ≠ []) ∧ ∀ t, t ∈ kids → GoodT d t
/-- One step of a machine through a text. -/
def Stp (M : List St) (s : List UInt8) (a b : Nat × Nat) : Prop :=
  a.1 ≠ 0 ∧ ∃ x, M[a.1]? = some x ∧ ((x.fork = true ∧ b.1 ∈ x.next ∧ b.2 = a.2) ∨ (x.fork = false ∧ ∃ c, s[a.2]? = some c ∧ x.bytes c.toNat = true ∧ x.next[0]? = some b.1 ∧ b.2 = a.2 + 1))
def RunM (M : List St) (s : List UInt8) : Nat → Nat × Nat → Nat × Nat → Prop
  | 0, a, b => a = b
  | m + 1, a, b => ∃ c, Stp M s a c ∧ RunM M s m c b
/-- M has the states of S from place a on up to b. -/
def Agr (M S : List St) (a b : Nat) : Prop := ∀ q, a ≤ q → q < b → M[q]? = S[q]?
section
variable {M : List St} {s : List UInt8}
theorem joinM_len (S : List St) (f : Nat) (ns : List Nat) : (joinM S f ns).length = S.length := by unfold joinM; rw [List.length_modify]
theorem joinM_far (S : List St) (f : Nat) (ns : List Nat) {q : Nat} (h : q ≠ f) : (joinM S f ns)[q]? = S[q]? := by
  unfold joinM; rw [List.getElem?_modify]; simp [Ne.symm h]
theorem joinM_at (S : List St) (f : Nat) (ns : List Nat) : (joinM S f ns)[f]? = S[f]?.map fun x => ⟨x.bytes, x.fork, x.next ++ ns⟩ := by
  unfold joinM; rw [List.getElem?_modify]; simp
theorem RunM.app : ∀ {m n : Nat} {a b c : Nat × Nat}, RunM M s m a b → RunM M s n b c → RunM M s (m + n) a c
  | 0, n, a, b, c, h, h2 => by obtain rfl : a = b := h; rw [Nat.zero_add]; exact h2
  | m + 1, n, a, b, c, ⟨x, h1, h3⟩, h2 => by rw [Nat.add_right_comm]; exact ⟨x, h1, RunM.app h3 h2⟩
theorem RunM.one {a b : Nat × Nat} (h : Stp M s a b) : RunM M s 1 a b := ⟨b, h, rfl⟩
theorem Stp.at0 {i : Nat} {b : Nat × Nat} (h : Stp M s (0, i) b) : False := h.1 rfl
/-- What ahead keeps of the states that were there, and what it leaves. -/
structure Ext (S S' : List St) (st nx : Nat) : Prop where
  le : S.length ≤ S'.length
  keep : ∀ q, q < S.length → S'[q]? = S[q]?
  start : st = nx ∨ (S.length ≤ st ∧ st < S'.length)
theorem ahead_ext : ∀ d t nx S, Ext S (aheadT d t nx S).2 (aheadT d t nx S).1 nx
  | 0, _, nx, S => ⟨Nat.le_refl _, fun _ _ => rfl, .inl rfl⟩
  | d + 1, .mk k rs kids, nx, S => by
    have keep1 : ∀ (x : St) q, q < S.length → (S ++ [x])[q]? = S[q]? := fun x q h => List.getElem?_append_left h
    unfold aheadT
    by_cases h1 : k = 1
    · rw [if_pos h1]
      exact ⟨by simp, keep1 _, .inr ⟨Nat.le_refl _, by simp⟩⟩
    rw [if_neg h1]
    by_cases h2 : k = 2
    · rw [if_pos h2]
      induction kids with
      | nil => exact ⟨Nat.le_refl _, fun _ _ => rfl, .inl rfl⟩
      | cons t ts ih =>
        rw [List.foldr_cons]
        generalize ts.foldr (fun t r => aheadT d t r.1 r.2) (nx, S) = R at ih ⊢
        have e := ahead_ext d t R.1 R.2
        refine ⟨Nat.le_trans ih.le e.le, fun q hq => (e.keep q (Nat.lt_of_lt_of_le hq ih.le)).trans (ih.keep q hq), ?_⟩
        have := ih.le
        have := e.le
        rcases e.start with h | h
        · rcases ih.start with h' | h'
          · exact .inl (h.trans h')
          · exact .inr (by rw [h]; exact ⟨h'.1, by omega⟩)
        · exact .inr ⟨by omega, h.2⟩
    rw [if_neg h2]
    by_cases h3 : k = 3
    · rw [if_pos h3]
      have key : ∀ (ts : List Tr) (Q : List St), S.length < Q.length → (∀ q, q < S.length → Q[q]? = S[q]?) →
          let Z := ts.foldl (fun Q t => joinM (aheadT d t nx Q).2 S.length [(aheadT d t nx Q).1]) Q
          S.length < Z.length ∧ ∀ q, q < S.length → Z[q]? = S[q]? := by
        intro ts
        induction ts with
        | nil => intro Q h h'; exact ⟨h, h'⟩
        | cons t ts ih =>
          intro Q h h'
          rw [List.foldl_cons]
          have e := ahead_ext d t nx Q
          refine ih _ ?_ ?_
          · rw [joinM_len]; exact Nat.lt_of_lt_of_le h e.le
          · intro q hq
            rw [joinM_far _ _ _ (by omega), e.keep q (by omega), h' q hq]
      have := key kids (S ++ [⟨fun _ => false, true, []⟩]) (by simp) (keep1 _)
      exact ⟨Nat.le_of_lt this.1, this.2, .inr ⟨Nat.le_refl _, this.1⟩⟩
    rw [if_neg h3]
    match kids with
    | [] => exact ⟨by simp, keep1 _, .inr ⟨Nat.le_refl _, by simp⟩⟩
    | t :: _ =>
      simp only
      by_cases h6 : k = 6
      · rw [if_pos h6]
        have e := ahead_ext d t nx (S ++ [⟨fun _ => false, true, []⟩])
        have h := e.le
        rw [List.length_append, List.length_singleton] at h
        refine ⟨by rw [joinM_len]; omega, fun q hq => ?_, .inr ⟨Nat.le_refl _, by rw [joinM_len]; omega⟩⟩
        rw [joinM_far _ _ _ (by omega), e.keep q (by rw [List.length_append, List.length_singleton]; omega), keep1 _ q hq]
      · rw [if_neg h6]
        have e := ahead_ext d t S.length (S ++ [⟨fun _ => false, true, []⟩])
        have h := e.le
        rw [List.length_append, List.length_singleton] at h
        refine ⟨by rw [joinM_len]; omega, fun q hq => ?_, .inr ?_⟩
        · rw [joinM_far _ _ _ (by omega), e.keep q (by rw [List.length_append, List.length_singleton]; omega), keep1 _ q hq]
        · rw [joinM_len]
          by_cases h5 : k = 5
          · rw [if_pos h5]
            rcases e.start with h' | h'
            · rw [h']; omega
            · rw [List.length_append, List.length_singleton] at h'; omega
          · rw [if_neg h5]; omega
/-- What is said of a tree's states within a machine. -/
def FragOk (M : List St) (s : List UInt8) (R : Nat → Nat → Prop) (st nx : Nat) : Prop :=
  (∀ m i k, i ≤ s.length → RunM M s m (st, i) (0, k) → ∃ j m', m' ≤ m ∧ R i j ∧ RunM M s m' (nx, j) (0, k)) ∧
  (∀ i j, i ≤ s.length → R i j → ∃ m, RunM M s m (st, i) (nx, j))
theorem FragOk.id_ (n : Nat) : FragOk M s (fun i j => i = j) n n := ⟨fun m i k _ h => ⟨i, m, Nat.le_refl _, rfl, h⟩, fun i j _ h => ⟨0, by rw [h]; rfl⟩⟩
theorem FragOk.comp {R Q : Nat → Nat → Prop} {a b c : Nat} (hR : ∀ i j, R i j → i ≤ s.length → j ≤ s.length) (h1 : FragOk M s R a b) (h2 : FragOk M s Q b c) : FragOk M s (fun i j => ∃ m, R i m ∧ Q m j) a c := by
  refine ⟨fun m i k hi h => ?_, fun i j hi ⟨x, hx, hq⟩ => ?_⟩
  · obtain ⟨j, m', hm, hr, h⟩ := h1.1 m i k hi h
    obtain ⟨j2, m2, hm2, hq, h⟩ := h2.1 m' j k (hR i j hr hi) h
    exact ⟨j2, m2, by omega, ⟨j, hr, hq⟩, h⟩
  · obtain ⟨m1, r1⟩ := h1.2 i x hi hx
    obtain ⟨m2, r2⟩ := h2.2 x j (hR i x hx hi) hq
    exact ⟨_, r1.app r2⟩
/-- A fork's first step. -/
theorem fork_step {f : Nat} {x : St} (hf : f ≠ 0) (hx : M[f]? = some x) (hk : x.fork = true) {m i k : Nat} (h : RunM M s m (f, i) (0, k)) : ∃ m' q, m = m' + 1 ∧ q ∈ x.next ∧ RunM M s m' (q, i) (0, k) := by
  match m, h with
  | 0, h => injection (show (f, i) = (0, k) from h) with h1 _; exact (hf h1).elim
  | m + 1, ⟨c, ⟨_, y, hy, hc⟩, hr⟩ =>
    rw [hx] at hy
    obtain rfl := Option.some.inj hy
    rcases hc with ⟨_, h1, h2⟩ | ⟨h1, _⟩
    · obtain ⟨c1, c2⟩ := c
      simp only at h1 h2
      subst h2
      exact ⟨m, c1, rfl, h1, hr⟩
    · rw [hk] at h1; cases h1
theorem fork_go {f q : Nat} {x : St} (hf : f ≠ 0) (hx : M[f]? = some x) (hk : x.fork = true) (hq : q ∈ x.next) (i : Nat) : RunM M s 1 (f, i) (q, i) := RunM.one ⟨hf, x, hx, .inl ⟨hk, hq, rfl⟩⟩
/-- A tree's states, wherever they lie in a machine: what leads through them to the end is what the tree matches. -/
theorem frag : ∀ d t nx S, GoodT d t → 0 < S.length → Agr M (aheadT d t nx S).2 S.length (aheadT d t nx S).2.length → FragOk M s (Mt s d t) (aheadT d t nx S).1 nx
  | 0, _, _, _, h, _, _ => h.elim
  | d + 1, .mk k rs kids, nx, S, hg, hS, ha => by
    obtain ⟨g1, g2, g3, g4⟩ := hg
    have hF0 : ∀ y : St, (S ++ [y])[S.length]? = some y := fun y => by simp
    unfold aheadT at ha ⊢
    unfold Mt
    by_cases h1 : k = 1
    · rw [if_pos h1] at ha ⊢
      rw [if_pos h1]
      have hM : M[S.length]? = some ⟨inR rs, false, [nx]⟩ := (ha S.length (Nat.le_refl _) (by simp)).trans (hF0 _)
      refine ⟨fun m i k hi h => ?_, fun i j hi h => ?_⟩
      · match m, h with
        | 0, h => injection (show (S.length, i) = (0, k) from h) with h1 _; omega
        | m + 1, ⟨c, ⟨_, y, hy, hc⟩, hr⟩ =>
          have hy' : some (⟨inR rs, false, [nx]⟩ : St) = some y := hM.symm.trans hy
          obtain rfl := Option.some.inj hy'
          rcases hc with ⟨h, _⟩ | ⟨_, b, hb, hin, hn, hk⟩
          · cases h
          · obtain ⟨c1, c2⟩ := c
            simp only [List.getElem?_cons_zero, Option.some.injEq] at hn hk hb
            subst hn hk
            exact ⟨i + 1, m, by omega, setT_iff.2 ⟨b, hb, rfl, hin⟩, hr⟩
      · obtain ⟨b, hb, rfl, hin⟩ := setT_iff.1 h
        exact ⟨1, RunM.one ⟨by omega, _, hM, .inr ⟨rfl, b, hb, hin, rfl, rfl⟩⟩⟩
    rw [if_neg h1] at ha ⊢
    rw [if_neg h1]
    by_cases h2 : k = 2
    · rw [if_pos h2] at ha ⊢
      rw [if_pos h2]
      clear g3
      induction kids with
      | nil => exact FragOk.id_ nx
      | cons t ts ih =>
        rw [List.foldr_cons] at ha ⊢
        have hE : Ext S (ts.foldr (fun t r => aheadT d t r.1 r.2) (nx, S)).2 (ts.foldr (fun t r => aheadT d t r.1 r.2) (nx, S)).1 nx := by
          have := ahead_ext (d + 1) (.mk 2 [] ts) nx S
          unfold aheadT at this
          simpa using this
        generalize hR : ts.foldr (fun t r => aheadT d t r.1 r.2) (nx, S) = R at ha ih hE ⊢
        have e := ahead_ext d t R.1 R.2
        have i1 := ih (fun t ht => g4 t (List.mem_cons_of_mem _ ht)) (fun q h h' => (ha q h (Nat.lt_of_lt_of_le h' e.le)).trans (e.keep q h'))
        have i2 := frag d t R.1 R.2 (g4 t (List.mem_cons_self ..)) (Nat.lt_of_lt_of_le hS hE.le) (fun q h h' => ha q (Nat.le_trans hE.le h) h')
        exact FragOk.comp (fun i j h hi => (Mt_le d t i j h hi).2) i2 i1
    rw [if_neg h2] at ha ⊢
    rw [if_neg h2]
    by_cases h3 : k = 3
    · rw [if_pos h3] at ha ⊢
      rw [if_pos h3]
      -- all kids' states, one behind the other; the fork's row
      have key : ∀ (ts : List Tr) (Q : List St) (ns : List Nat), (∀ t, t ∈ ts → GoodT d t) → S.length < Q.length → Q[S.length]? = some ⟨fun _ => false, true, ns⟩ →
          Agr M (ts.foldl (fun Q t => joinM (aheadT d t nx Q).2 S.length [(aheadT d t nx Q).1]) Q) Q.length (ts.foldl (fun Q t => joinM (aheadT d t nx Q).2 S.length [(aheadT d t nx Q).1]) Q).length →
          ∃ qs : List Nat, (ts.foldl (fun Q t => joinM (aheadT d t nx Q).2 S.length [(aheadT d t nx Q).1]) Q)[S.length]? = some ⟨fun _ => false, true, ns ++ qs⟩ ∧ Q.length ≤ (ts.foldl (fun Q t => joinM (aheadT d t nx Q).2 S.length [(aheadT d t nx Q).1]) Q).length ∧
            (∀ q, S.length < q → q < Q.length → (ts.foldl (fun Q t => joinM (aheadT d t nx Q).2 S.length [(aheadT d t nx Q).1]) Q)[q]? = Q[q]?) ∧
            (∀ q, q ∈ qs → ∃ t, t ∈ ts ∧ FragOk M s (Mt s d t) q nx) ∧ (∀ t, t ∈ ts → ∃ q, q ∈ qs ∧ FragOk M s (Mt s d t) q nx) := by
        intro ts
        induction ts with
        | nil => intro Q ns _ hQ hq _; exact ⟨[], by simpa using hq, Nat.le_refl _, fun _ _ _ => rfl, (fun q h => nomatch h), (fun t h => nomatch h)⟩
        | cons t ts ih =>
          intro Q ns hg hQ hq ha
          rw [List.foldl_cons] at ha ⊢
          have e := ahead_ext d t nx Q
          have hq1 : (joinM (aheadT d t nx Q).2 S.length [(aheadT d t nx Q).1])[S.length]? = some ⟨fun _ => false, true, ns ++ [(aheadT d t nx Q).1]⟩ := by
            rw [joinM_at, e.keep _ hQ, hq]; rfl
          have hl1 : (joinM (aheadT d t nx Q).2 S.length [(aheadT d t nx Q).1]).length = (aheadT d t nx Q).2.length := joinM_len _ _ _
          have hQ1 : Q.length ≤ (joinM (aheadT d t nx Q).2 S.length [(aheadT d t nx Q).1]).length := by rw [hl1]; exact e.le
          obtain ⟨qs, f1, f2, f3, f4, f5⟩ := ih _ (ns ++ [(aheadT d t nx Q).1]) (fun t ht => hg t (List.mem_cons_of_mem _ ht)) (Nat.lt_of_lt_of_le hQ hQ1) hq1 (fun q h h' => ha q (Nat.le_trans hQ1 h) h')
          have hfr := frag d t nx Q (hg t (List.mem_cons_self ..)) (Nat.lt_of_le_of_lt (Nat.zero_le _) hQ) (fun q h h' => by
            have h'' : q < (joinM (aheadT d t nx Q).2 S.length [(aheadT d t nx Q).1]).length := by rw [hl1]; exact h'
            rw [ha q h (Nat.lt_of_lt_of_le h'' f2), f3 q (by omega) h'', joinM_far _ _ _ (by omega)])
          refine ⟨(aheadT d t nx Q).1 :: qs, by simpa using f1, Nat.le_trans hQ1 f2, fun q h h' => ?_, fun q h => ?_, fun x h => ?_⟩
          · rw [f3 q h (Nat.lt_of_lt_of_le h' hQ1), joinM_far _ _ _ (by omega), e.keep q h']
          · rcases List.mem_cons.1 h with rfl | h
            · exact ⟨t, List.mem_cons_self .., hfr⟩
            · obtain ⟨x, hx, hf⟩ := f4 q h; exact ⟨x, List.mem_cons_of_mem _ hx, hf⟩
          · rcases List.mem_cons.1 h with rfl | h
            · exact ⟨_, List.mem_cons_self .., hfr⟩
            · obtain ⟨q, hq, hf⟩ := f5 x h; exact ⟨q, List.mem_cons_of_mem _ hq, hf⟩
      obtain ⟨qs, f1, f2, f3, f4, f5⟩ := key kids (S ++ [⟨fun _ => false, true, []⟩]) [] g4 (by simp) (hF0 _) (fun q h h' => ha q (by rw [List.length_append, List.length_singleton] at h; omega) h')
      rw [List.nil_append] at f1
      have hfl : S.length < (kids.foldl (fun Q t => joinM (aheadT d t nx Q).2 S.length [(aheadT d t nx Q).1]) (S ++ [⟨fun _ => false, true, []⟩])).length := by
        rw [List.length_append, List.length_singleton] at f2; omega
      have hM : M[S.length]? = some ⟨fun _ => false, true, qs⟩ := (ha S.length (Nat.le_refl _) hfl).trans f1
      refine ⟨fun m i k hi h => ?_, fun i j hi h => ?_⟩
      · obtain ⟨m', q, rfl, hq, hr⟩ := fork_step (by omega) hM rfl h
        obtain ⟨t, ht, hf⟩ := f4 q hq
        obtain ⟨j, m2, hm, hR, hr⟩ := hf.1 m' i k hi hr
        exact ⟨j, m2, by omega, ⟨t, ht, hR⟩, hr⟩
      · obtain ⟨t, ht, hR⟩ := h
        obtain ⟨q, hq, hf⟩ := f5 t ht
        obtain ⟨m, hr⟩ := hf.2 i j hi hR
        exact ⟨_, (fork_go (by omega) hM rfl hq i).app hr⟩
    rw [if_neg h3] at ha ⊢
    rw [if_neg h3, if_neg (by omega)]
    match kids, g3 (by omega), g4, ha with
    | t :: r, _, g4, ha =>
      simp only at ha ⊢
      by_cases h6 : k = 6
      · rw [if_pos h6] at ha ⊢
        rw [if_pos h6]
        have e := ahead_ext d t nx (S ++ [⟨fun _ => false, true, []⟩])
        have hl := e.le
        rw [List.length_append, List.length_singleton] at hl
        have hM : M[S.length]? = some ⟨fun _ => false, true, [(aheadT d t nx (S ++ [⟨fun _ => false, true, []⟩])).1, nx]⟩ := by
          rw [ha S.length (Nat.le_refl _) (by rw [joinM_len]; omega), joinM_at, e.keep _ (by simp), hF0]; rfl
        have hf := frag d t nx (S ++ [⟨fun _ => false, true, []⟩]) (g4 t (List.mem_cons_self ..)) (by simp) (fun q h h' => by
          rw [List.length_append, List.length_singleton] at h
          rw [ha q (by omega) (by rw [joinM_len]; exact h'), joinM_far _ _ _ (by omega)])
        refine ⟨fun m i k hi h => ?_, fun i j hi h => ?_⟩
        · obtain ⟨m', q, rfl, hq, hr⟩ := fork_step (by omega) hM rfl h
          rcases List.mem_cons.1 hq with rfl | hq
          · obtain ⟨j, m2, hm, hR, hr⟩ := hf.1 m' i k hi hr
            exact ⟨j, m2, by omega, .inl hR, hr⟩
          · obtain rfl := List.mem_singleton.1 hq
            exact ⟨i, m', by omega, .inr rfl, hr⟩
        · rcases h with h | rfl
          · obtain ⟨m, hr⟩ := hf.2 i j hi h
            exact ⟨_, (fork_go (by omega) hM rfl (List.mem_cons_self ..) i).app hr⟩
          · exact ⟨1, fork_go (by omega) hM rfl (by simp) i⟩
      · rw [if_neg h6] at ha ⊢
        rw [if_neg h6]
        have e := ahead_ext d t S.length (S ++ [⟨fun _ => false, true, []⟩])
        have hl := e.le
        rw [List.length_append, List.length_singleton] at hl
        have hM : M[S.length]? = some ⟨fun _ => false, true, [(aheadT d t S.length (S ++ [⟨fun _ => false, true, []⟩])).1, nx]⟩ := by
          rw [ha S.length (Nat.le_refl _) (by rw [joinM_len]; omega), joinM_at, e.keep _ (by simp), hF0]; rfl
        have hf := frag d t S.length (S ++ [⟨fun _ => false, true, []⟩]) (g4 t (List.mem_cons_self ..)) (by simp) (fun q h h' => by
          rw [List.length_append, List.length_singleton] at h
          rw [ha q (by omega) (by rw [joinM_len]; exact h'), joinM_far _ _ _ (by omega)])
        generalize (aheadT d t S.length (S ++ [⟨fun _ => false, true, []⟩])).1 = ag at hM hf ⊢
        have star : FragOk M s (fun i j => ∃ c, itR (Mt s d t) c i j) S.length nx := by
          refine ⟨fun m => ?_, fun i j hi h => ?_⟩
          · induction m using Nat.strongRecOn with
            | ind m ih =>
              intro i k hi h
              obtain ⟨m', q, rfl, hq, hr⟩ := fork_step (by omega) hM rfl h
              rcases List.mem_cons.1 hq with rfl | hq
              · obtain ⟨j, m2, hm, hR, hr⟩ := hf.1 m' i k hi hr
                obtain ⟨j2, m3, hm3, ⟨c, hc⟩, hr⟩ := ih m2 (by omega) j k (Mt_le d t i j hR hi).2 hr
                exact ⟨j2, m3, by omega, ⟨c + 1, j, hR, hc⟩, hr⟩
              · obtain rfl := List.mem_singleton.1 hq
                exact ⟨i, m', by omega, ⟨0, rfl⟩, hr⟩
          · obtain ⟨c, hc⟩ := h
            induction c generalizing i with
            | zero => obtain rfl : i = j := hc; exact ⟨1, fork_go (by omega) hM rfl (by simp) i⟩
            | succ c ih =>
              obtain ⟨x, hx, hc⟩ := hc
              obtain ⟨m1, r1⟩ := hf.2 i x hi hx
              obtain ⟨m2, r2⟩ := ih x (Mt_le d t i x hx hi).2 hc
              exact ⟨_, ((fork_go (by omega) hM rfl (List.mem_cons_self ..) i).app r1).app r2⟩
        by_cases h5 : k = 5
        · rw [if_pos h5, if_neg (by omega)]
          have := FragOk.comp (fun i j h hi => (Mt_le d t i j h hi).2) hf star
          refine ⟨fun m i k hi h => ?_, fun i j hi ⟨c, x, hx, hc⟩ => this.2 i j hi ⟨x, hx, c, hc⟩⟩
          obtain ⟨j, m', hm, ⟨x, hx, c, hc⟩, hr⟩ := this.1 m i k hi h
          exact ⟨j, m', hm, ⟨c, x, hx, hc⟩, hr⟩
        · rw [if_neg h5, if_pos (by omega)]
          exact star
end
end Go.Proofs.Ytjnhmcgjeljcmaa
