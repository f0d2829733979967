/- Plain facts: how great a tree's machine is; that it is one; what leads through it is what the tree matches. No program. -/
import Derived.Test.YtepfpmnfecehbaaKo
namespace Go.Proofs.Ytepfpmnfecehbaa

/-- How many nodes a tree has. -/
def nodesT : Nat → Tr → Nat
  | 0, _ => 0
  | d + 1, .mk _ _ kids => 1 + (kids.map (nodesT d)).sum
/-- How many ways on all states have. -/
def edgesM (S : List St) : Nat := (S.map fun x => x.next.length).sum
/-- All ways on lead to states below N; one that waits has one. -/
def Vld (S : List St) (N : Nat) : Prop := ∀ q x, S[q]? = some x → (∀ r, r ∈ x.next → r < N) ∧ (q ≠ 0 → x.fork = false → ∃ r, x.next[0]? = some r)
theorem edges_app (S : List St) (x : St) : edgesM (S ++ [x]) = edgesM S + x.next.length := by simp [edgesM]
theorem edges_join (f : Nat) (ns : List Nat) : ∀ (S : List St) , edgesM (joinM S f ns) ≤ edgesM S + ns.length := by
  unfold joinM edgesM
  induction f with
  | zero => intro S; cases S with
    | nil => simp
    | cons x S => simp; omega
  | succ f ih => intro S; cases S with
    | nil => simp
    | cons x S => have := ih S; simp at this ⊢; omega
theorem ahead_edges : ∀ d t nx S, GoodT d t → edgesM (aheadT d t nx S).2 + 1 ≤ edgesM S + 3 * nodesT d t
  | 0, _, _, _, h => h.elim
  | d + 1, .mk k rs kids, nx, S, hg => by
    obtain ⟨g1, g2, g3, g4⟩ := hg
    have hs : edgesM (S ++ [⟨fun _ => false, true, []⟩]) = edgesM S := by rw [edges_app]; rfl
    unfold aheadT nodesT
    by_cases h1 : k = 1
    · rw [if_pos h1]; simp only; rw [edges_app]; simp only [List.length_cons, List.length_nil]; omega
    rw [if_neg h1]
    by_cases h2 : k = 2
    · rw [if_pos h2]
      have : ∀ ts : List Tr, (∀ t, t ∈ ts → GoodT d t) → edgesM (ts.foldr (fun t r => aheadT d t r.1 r.2) (nx, S)).2 ≤ edgesM S + 3 * (ts.map (nodesT d)).sum := by
        intro ts
        induction ts with
        | nil => intro _; simp
        | cons t ts ih =>
          intro hg
          rw [List.foldr_cons, List.map_cons, List.sum_cons]
          have a := ahead_edges d t (ts.foldr (fun t r => aheadT d t r.1 r.2) (nx, S)).1 (ts.foldr (fun t r => aheadT d t r.1 r.2) (nx, S)).2 (hg t (List.mem_cons_self ..))
          have b := ih (fun t ht => hg t (List.mem_cons_of_mem _ ht))
          omega
      have := this kids g4
      omega
    rw [if_neg h2]
    by_cases h3 : k = 3
    · rw [if_pos h3]
      have key : ∀ (ts : List Tr) (Q : List St), (∀ t, t ∈ ts → GoodT d t) → edgesM (ts.foldl (fun Q t => joinM (aheadT d t nx Q).2 S.length [(aheadT d t nx Q).1]) Q) ≤ edgesM Q + 3 * (ts.map (nodesT d)).sum := by
        intro ts
        induction ts with
        | nil => intro Q _; simp
        | cons t ts ih =>
          intro Q hg
          rw [List.foldl_cons, List.map_cons, List.sum_cons]
          have a := ih (joinM (aheadT d t nx Q).2 S.length [(aheadT d t nx Q).1]) (fun t ht => hg t (List.mem_cons_of_mem _ ht))
          have b := edges_join S.length [(aheadT d t nx Q).1] (aheadT d t nx Q).2
          have c := ahead_edges d t nx Q (hg t (List.mem_cons_self ..))
          simp only [List.length_singleton] at b
          omega
      have := key kids (S ++ [⟨fun _ => false, true, []⟩]) g4
      rw [hs] at this
      simp only
      omega
    rw [if_neg h3]
    match kids, g3 (by omega), g4 with
    | t :: r, _, g4 =>
      simp only [List.map_cons, List.sum_cons]
      by_cases h6 : k = 6
      · rw [if_pos h6]
        have a := ahead_edges d t nx (S ++ [⟨fun _ => false, true, []⟩]) (g4 t (List.mem_cons_self ..))
        have b := edges_join S.length [(aheadT d t nx (S ++ [⟨fun _ => false, true, []⟩])).1, nx] (aheadT d t nx (S ++ [⟨fun _ => false, true, []⟩])).2
        rw [hs] at a
        simp only [List.length_cons, List.length_nil] at b ⊢
        omega
      · rw [if_neg h6]
        have a := ahead_edges d t S.length (S ++ [⟨fun _ => false, true, []⟩]) (g4 t (List.mem_cons_self ..))
        have b := edges_join S.length [(aheadT d t S.length (S ++ [⟨fun _ => false, true, []⟩])).1, nx] (aheadT d t S.length (S ++ [⟨fun _ => false, true, []⟩])).2
        rw [hs] at a
        simp only [List.length_cons, List.length_nil] at b ⊢
        omega
theorem ahead_len : ∀ d t nx S, (aheadT d t nx S).2.length ≤ S.length + nodesT d t
  | 0, _, _, _ => by simp [aheadT]
  | d + 1, .mk k rs kids, nx, S => by
    have hs : (S ++ [(⟨fun _ => false, true, []⟩ : St)]).length = S.length + 1 := by simp
    unfold aheadT nodesT
    by_cases h1 : k = 1
    · rw [if_pos h1]; simp only; rw [List.length_append, List.length_singleton]; omega
    rw [if_neg h1]
    by_cases h2 : k = 2
    · rw [if_pos h2]
      have : ∀ ts : List Tr, (ts.foldr (fun t r => aheadT d t r.1 r.2) (nx, S)).2.length ≤ S.length + (ts.map (nodesT d)).sum := by
        intro ts
        induction ts with
        | nil => simp
        | cons t ts ih =>
          rw [List.foldr_cons, List.map_cons, List.sum_cons]
          have a := ahead_len d t (ts.foldr (fun t r => aheadT d t r.1 r.2) (nx, S)).1 (ts.foldr (fun t r => aheadT d t r.1 r.2) (nx, S)).2
          omega
      have := this kids
      omega
    rw [if_neg h2]
    by_cases h3 : k = 3
    · rw [if_pos h3]
      have key : ∀ (ts : List Tr) (Q : List St), (ts.foldl (fun Q t => joinM (aheadT d t nx Q).2 S.length [(aheadT d t nx Q).1]) Q).length ≤ Q.length + (ts.map (nodesT d)).sum := by
        intro ts
        induction ts with
        | nil => intro Q; simp
        | cons t ts ih =>
          intro Q
          rw [List.foldl_cons, List.map_cons, List.sum_cons]
          have a := ih (joinM (aheadT d t nx Q).2 S.length [(aheadT d t nx Q).1])
          have c := ahead_len d t nx Q
          rw [joinM_len] at a
          omega
      have := key kids (S ++ [⟨fun _ => false, true, []⟩])
      rw [hs] at this
      simp only
      omega
    rw [if_neg h3]
    match kids with
    | [] => simp only; rw [hs]; simp
    | t :: r =>
      simp only [List.map_cons, List.sum_cons]
      by_cases h6 : k = 6
      · rw [if_pos h6]
        have a := ahead_len d t nx (S ++ [⟨fun _ => false, true, []⟩])
        rw [hs] at a
        simp only [joinM_len]
        omega
      · rw [if_neg h6]
        have a := ahead_len d t S.length (S ++ [⟨fun _ => false, true, []⟩])
        rw [hs] at a
        simp only [joinM_len]
        omega
theorem vld_app {S : List St} {N : Nat} {x : St} (h : Vld S N) (hx : (∀ r, r ∈ x.next → r < N) ∧ (x.fork = false → ∃ r, x.next[0]? = some r)) : Vld (S ++ [x]) N := fun q y hy => by
  rcases Nat.lt_trichotomy q S.length with hlt | he | hgt
  · rw [List.getElem?_append_left hlt] at hy; exact h q y hy
  · subst he
    simp at hy
    subst hy
    exact ⟨hx.1, fun _ hf => hx.2 hf⟩
  · rw [List.getElem?_eq_none (by simp; omega)] at hy; cases hy
theorem vld_join {S : List St} {N f : Nat} {ns : List Nat} (h : Vld S N) (hn : ∀ r, r ∈ ns → r < N) : Vld (joinM S f ns) N := fun q y hy => by
  by_cases e : q = f
  · subst e
    rw [joinM_at] at hy
    cases hS : S[q]? with
    | none => rw [hS] at hy; cases hy
    | some x =>
      rw [hS] at hy
      simp only [Option.map_some, Option.some.injEq] at hy
      subst hy
      refine ⟨fun r hr => ?_, fun hq hf => ?_⟩
      · rcases List.mem_append.1 hr with hr | hr
        · exact (h q x hS).1 r hr
        · exact hn r hr
      · obtain ⟨r, hr⟩ := (h q x hS).2 hq hf
        exact ⟨r, by rw [List.getElem?_append_left (List.getElem?_eq_some_iff.1 hr).1]; exact hr⟩
  · rw [joinM_far _ _ _ e] at hy; exact h q y hy
/-- A tree's states lead to states. -/
theorem ahead_vld : ∀ d t nx S N, Vld S N → nx < N → (aheadT d t nx S).2.length ≤ N → Vld (aheadT d t nx S).2 N
  | 0, _, _, _, _, h, _, _ => h
  | d + 1, .mk k rs kids, nx, S, N, h, hn, hl => by
    have hst : ∀ t nx Q, nx < N → (aheadT d t nx Q).2.length ≤ N → (aheadT d t nx Q).1 < N := fun t nx Q hn hl => by
      rcases (ahead_ext d t nx Q).start with e | e
      · rw [e]; exact hn
      · exact Nat.lt_of_lt_of_le e.2 hl
    have hS1 : Vld (S ++ [⟨fun _ => false, true, []⟩]) N := vld_app h ⟨(fun r hr => nomatch hr), fun hf => by cases hf⟩
    have hs : (S ++ [(⟨fun _ => false, true, []⟩ : St)]).length = S.length + 1 := by simp
    unfold aheadT at hl ⊢
    by_cases h1 : k = 1
    · rw [if_pos h1] at hl ⊢
      exact vld_app h ⟨fun r hr => by obtain rfl := List.mem_singleton.1 hr; exact hn, fun _ => ⟨nx, rfl⟩⟩
    rw [if_neg h1] at hl ⊢
    by_cases h2 : k = 2
    · rw [if_pos h2] at hl ⊢
      clear hS1
      induction kids with
      | nil => exact h
      | cons t ts ih =>
        rw [List.foldr_cons] at hl ⊢
        have e := ahead_ext d t (ts.foldr (fun t r => aheadT d t r.1 r.2) (nx, S)).1 (ts.foldr (fun t r => aheadT d t r.1 r.2) (nx, S)).2
        have i1 := ih (Nat.le_trans e.le hl)
        have hE : Ext S (ts.foldr (fun t r => aheadT d t r.1 r.2) (nx, S)).2 (ts.foldr (fun t r => aheadT d t r.1 r.2) (nx, S)).1 nx := by
          have := ahead_ext (d + 1) (.mk 2 [] ts) nx S
          unfold aheadT at this
          simpa using this
        refine ahead_vld d t _ _ N i1 ?_ hl
        rcases hE.start with e2 | e2
        · rw [e2]; exact hn
        · exact Nat.lt_of_lt_of_le e2.2 (Nat.le_trans e.le hl)
    rw [if_neg h2] at hl ⊢
    by_cases h3 : k = 3
    · rw [if_pos h3] at hl ⊢
      have key : ∀ (ts : List Tr) (Q : List St), Vld Q N → (ts.foldl (fun Q t => joinM (aheadT d t nx Q).2 S.length [(aheadT d t nx Q).1]) Q).length ≤ N → Vld (ts.foldl (fun Q t => joinM (aheadT d t nx Q).2 S.length [(aheadT d t nx Q).1]) Q) N := by
        intro ts
        induction ts with
        | nil => intro Q h _; exact h
        | cons t ts ih =>
          intro Q hQ hl
          rw [List.foldl_cons] at hl ⊢
          have hle : ∀ (ts : List Tr) (Q : List St), Q.length ≤ (ts.foldl (fun Q t => joinM (aheadT d t nx Q).2 S.length [(aheadT d t nx Q).1]) Q).length := by
            intro ts
            induction ts with
            | nil => intro Q; exact Nat.le_refl _
            | cons t ts ih => intro Q; rw [List.foldl_cons]; refine Nat.le_trans ?_ (ih _); rw [joinM_len]; exact (ahead_ext d t nx Q).le
          have hl2 : (aheadT d t nx Q).2.length ≤ N := by have := hle ts (joinM (aheadT d t nx Q).2 S.length [(aheadT d t nx Q).1]); rw [joinM_len] at this; omega
          exact ih _ (vld_join (ahead_vld d t nx Q N hQ hn hl2) (fun r hr => by obtain rfl := List.mem_singleton.1 hr; exact hst t nx Q hn hl2)) hl
      exact key kids _ hS1 hl
    rw [if_neg h3] at hl ⊢
    match kids, hl with
    | [], hl => exact hS1
    | t :: _, hl =>
      simp only at hl ⊢
      by_cases h6 : k = 6
      · rw [if_pos h6] at hl ⊢
        simp only [joinM_len] at hl
        refine vld_join (ahead_vld d t nx _ N hS1 hn hl) (fun r hr => ?_)
        rcases List.mem_cons.1 hr with rfl | hr
        · exact hst t nx _ hn hl
        · obtain rfl := List.mem_singleton.1 hr; exact hn
      · rw [if_neg h6] at hl ⊢
        simp only [joinM_len] at hl
        have hf : S.length < N := by have := (ahead_ext d t S.length (S ++ [⟨fun _ => false, true, []⟩])).le; rw [hs] at this; omega
        refine vld_join (ahead_vld d t S.length _ N hS1 hf hl) (fun r hr => ?_)
        rcases List.mem_cons.1 hr with rfl | hr
        · exact hst t S.length _ hf hl
        · obtain rfl := List.mem_singleton.1 hr; exact hn
/-- The machine of a tree: its states, where it starts. -/
def machT (d : Nat) (t : Tr) : Nat × List St := aheadT d t 0 [⟨fun _ => false, false, []⟩]
theorem mach_ok (d : Nat) (t : Tr) : MOk (machT d t).2 ∧ (machT d t).1 < (machT d t).2.length := by
  have e := ahead_ext d t 0 [⟨fun _ => false, false, []⟩]
  have h0 : 0 < (machT d t).2.length := Nat.lt_of_lt_of_le (by decide) e.le
  have hv : Vld (machT d t).2 (machT d t).2.length := ahead_vld d t 0 _ _ (fun q x hx => by
    match q, hx with
    | 0, hx =>
      simp at hx
      subst hx
      exact ⟨(fun r hr => nomatch hr), fun h => absurd rfl h⟩) h0 (Nat.le_refl _)
  refine ⟨⟨h0, fun q x hx => hv q x hx⟩, ?_⟩
  rcases e.start with e1 | e1
  · show (machT d t).1 < _; rw [show (machT d t).1 = 0 from e1]; exact h0
  · exact e1.2
/-- What leads from a machine's start to its end is what its tree matches. -/
theorem mach_run {d : Nat} {t : Tr} (hg : GoodT d t) {s : List UInt8} {i k : Nat} (hi : i ≤ s.length) : Rch (machT d t).2 s ((machT d t).1, i) (0, k) ↔ Mt s d t i k := by
  have hf : FragOk (machT d t).2 s (Mt s d t) (machT d t).1 0 := frag d t 0 _ hg (by decide) (fun _ _ _ => rfl)
  constructor
  · rintro ⟨m, h⟩
    obtain ⟨j, m', _, hm, hr⟩ := hf.1 m i k hi h
    match m', hr with
    | 0, hr => injection (show (0, j) = (0, k) from hr) with _ e; rw [← e]; exact hm
    | m' + 1, ⟨c, hs, _⟩ => exact absurd rfl hs.1
  · intro h
    obtain ⟨m, hr⟩ := hf.2 i k hi h
    exact ⟨m, hr⟩
end Go.Proofs.Ytepfpmnfecehbaa
