/- Plain facts: how great a tree's machine is; that it is one; what leads through it is what the tree matches. No program. nfa.Prog.ahead: a tree's states (the ways one by one). nfa.Prog.ahead: a Cat. -/
import Derived.Test.YtjnhmcgjeljcmaaKo
import Derived.Test.YtjnhmcgjeljcmaaOd
namespace Go.Proofs.Ytjnhmcgjeljcmaa

/-- How many nodes a tree has. -/
def nodesT : Nat → Tr → Nat
  | 0, _ => 0
  | d + 1, .mk _ _ kids => 1 + (kids.map (nodesT d)).sum
/-- How many ways on all states have. -/
def edgesM (S : List St) : Nat := (S.map fun x => x.next.length).sum
/-- All ways on lead to states below N; one that waits has one. -/
def Vld (S : List St) (N : Nat) : Prop := ∀ q x, S[q]? = some x → (∀ r, r ∈ x.next → r < N) ∧ (q ≠ 0 → x.fork = false → ∃ r, x.next[0]? = some r)
theorem edges_app (S : List St) (x : St) : edgesM (S ++ [x]) = edgesM S + x.next.length := by simp [edgesM]
theorem edges_join (f : Nat) (ns : List Nat) : ∀ (S : List St) , edgesM (joinM S f ns) ≤ edgesM S + ns.length := by
  unfold joinM edgesM
  induction f with
  | zero => intro S; cases S with
    | nil => simp
    | cons x S => simp; omega
  | succ f ih => intro S; cases S with
    | nil => simp
    | cons x S => have := ih S; simp at this ⊢; omega
theorem ahead_edges : ∀ d t nx S, GoodT d t → edgesM (aheadT d t nx S).2 + 1 ≤ edgesM S + 3 * nodesT d t
  | 0, _, _, _, h => h.elim
  | d + 1, .mk k rs kids, nx, S, hg => by
    obtain ⟨g1, g2, g3, g4⟩ := hg
    have hs : edgesM (S ++ [⟨fun _ => false, true, []⟩]) = edgesM S := by rw [edges_app]; rfl
    unfold aheadT nodesT
    by_cases h1 : k = 1
    · rw [if_pos h1]; simp only; rw [edges_app]; simp only [List.length_cons, List.length_nil]; omega
    rw [if_neg h1]
    by_cases h2 : k = 2
    · rw [if_pos h2]
      have : ∀ ts : List Tr, (∀ t, t ∈ ts → GoodT d t) → edgesM (ts.foldr (fun t r => aheadT d t r.1 r.2) (nx, S)).2 ≤ edgesM S + 3 * (ts.map (nodesT d)).sum := by
        intro ts
        induction ts with
        | nil => intro _; simp
        | cons t ts ih =>
          intro hg
          rw [List.foldr_cons, List.map_cons, List.sum_cons]
          have a := ahead_edges d t (ts.foldr (fun t r => aheadT d t r.1 r.2) (nx, S)).1 (ts.foldr (fun t r => aheadT d t r.1 r.2) (nx, S)).2 (hg t (List.mem_cons_self ..))
          have b := ih (fun t ht => hg t (List.mem_cons_of_mem _ ht))
          omega
      have := this kids g4
      omega
    rw [if_neg h2]
    by_cases h3 : k = 3
    · rw [if_pos h3]
      have key : ∀ (ts : List Tr) (Q : List St), (∀ t, t ∈ ts → GoodT d t) → edgesM (ts.foldl (fun Q t => joinM (aheadT d t nx Q).2 S.length [(aheadT d t nx Q).1]) Q) ≤ edgesM Q + 3 * (ts.map (nodesT d)).sum := by
        intro ts
        induction ts with
        | nil => intro Q _; simp
        | cons t ts ih =>
          intro Q hg
          rw [List.foldl_cons, List.map_cons, List.sum_cons]
          have a := ih (joinM (aheadT d t nx Q).2 S.length [(aheadT d t nx Q).1]) (fun t ht => hg t (List.mem_cons_of_mem _ ht))
          have b := edges_join S.length [(aheadT d t nx Q).1] (aheadT d t nx Q).2
          have c := ahead_edges d t nx Q (hg t (List.mem_cons_self ..))
          simp only [List.length_singleton] at b
          omega
      have := key kids (S ++ [⟨fun _ => false, true, []⟩]) g4
      rw [hs] at this
      simp only
      omega
    rw [if_neg h3]
    match kids, g3 (by omega), g4 with
    | t :: r, _, g4 =>
      simp only [List.map_cons, List.sum_cons]
      by_cases h6 : k = 6
      · rw [if_pos h6]
        have a := ahead_edges d t nx (S ++ [⟨fun _ => false, true, []⟩]) (g4 t (List.mem_cons_self ..))
        have b := edges_join S.length [(aheadT d t nx (S ++ [⟨fun _ => false, true, []⟩])).1, nx] (aheadT d t nx (S ++ [⟨fun _ => false, true, []⟩])).2
        rw [hs] at a
        simp only [List.length_cons, List.length_nil] at b ⊢
        omega
      · rw [if_neg h6]
        have a := ahead_edges d t S.length (S ++ [⟨fun _ => false, true, []⟩]) (g4 t (List.mem_cons_self ..))
        have b := edges_join S.length [(aheadT d t S.length (S ++ [⟨fun _ => false, true, []⟩])).1, nx] (aheadT d t S.length (S ++ [⟨fun _ => false, true, []⟩])).2
        rw [hs] at a
        simp only [List.length_cons, List.length_nil] at b ⊢
        omega
theorem ahead_len : ∀ d t nx S, (aheadT d t nx S).2.length ≤ S.length + nodesT d t
  | 0, _, _, _ => by simp [aheadT]
  | d + 1, .mk k rs kids, nx, S => by
    have hs : (S ++ [(⟨fun _ => false, true, []⟩ : St)]).length = S.length + 1 := by simp
    unfold aheadT nodesT
    by_cases h1 : k = 1
    · rw [if_pos h1]; simp only; rw [List.length_append, List.length_singleton]; omega
    rw [if_neg h1]
    by_cases h2 : k = 2
    · rw [if_pos h2]
      have : ∀ ts : List Tr, (ts.foldr (fun t r => aheadT d t r.1 r.2) (nx, S)).2.length ≤ S.length + (ts.map (nodesT d)).sum := by
        intro ts
        induction ts with
        | nil => simp
        | cons t ts ih =>
          rw [List.foldr_cons, List.map_cons, List.sum_cons]
          have a := ahead_len d t (ts.foldr (fun t r => aheadT d t r.1 r.2) (nx, S)).1 (ts.foldr (fun t r => aheadT d t r.1 r.2) (nx, S)).2
          omega
      have := this kids
      omega
    rw [if_neg h2]
    by_cases h3 : k = 3
    · rw [if_pos h3]
      have key : ∀ (ts : List Tr) (Q : List St), (ts.foldl (fun Q t => joinM (aheadT d t nx Q).2 S.length [(aheadT d t nx Q).1]) Q).length ≤ Q.length + (ts.map (nodesT d)).sum := by
        intro ts
        induction ts with
        | nil => intro Q; simp
        | cons t ts ih =>
          intro Q
          rw [List.foldl_cons, List.map_cons, List.sum_cons]
          have a := ih (joinM (aheadT d t nx Q).2 S.length [(aheadT d t nx Q).1])
          have c := ahead_len d t nx Q
          rw [joinM_len] at a
          omega
      have := key kids (S ++ [⟨fun _ => false, true, []⟩])
      rw [hs] at this
      simp only
      omega
    rw [if_neg h3]
    match kids with
    | [] => simp only; rw [hs]; simp
    | t :: r =>
      simp only [List.map_cons, List.sum_cons]
      by_cases h6 : k = 6
      · rw [if_pos h6]
        have a := ahead_len d t nx (S ++ [⟨fun _ => false, true, []⟩])
        rw [hs] at a
        simp only [joinM_len]
        omega
      · rw [if_neg h6]
        have a := ahead_len d t S.length (S ++ [⟨fun _ => false, true, []⟩])
        rw [hs] at a
        simp only [joinM_len]
        omega
theorem vld_app {S : List St} {N : Nat} {x : St} (h : Vld S N) (hx : (∀ r, r ∈ x.next → r < N) ∧ (x.fork = false → ∃ r, x.next[0]? = some r)) : Vld (S ++ [x]) N := fun q y hy => by
  rcases Nat.lt_trichotomy q S.length with hlt | he | hgt
  · rw [List.getElem?_append_left hlt] at hy; exact h q y hy
  · subst he
    simp at hy
    subst hy
    exact ⟨hx.1, fun _ hf => hx.2 hf⟩
  · rw [List.getElem?_eq_none (by simp; omega)] at hy; cases hy
theorem vld_join {S : List St} {N f : Nat} {ns : List Nat} (h : Vld S N) (hn : ∀ r, r ∈ ns → r < N) : Vld (joinM S f ns) N := fun q y hy => by
  by_cases e : q = f
  · subst e
    rw [joinM_at] at hy
    cases hS : S[q]? with
    | none => rw [hS] at hy; cases hy
    | some x =>
      rw [hS] at hy
      simp only [Option.map_some, Option.some.injEq] at hy
      subst hy
      refine ⟨fun r hr => ?_, fun hq hf => ?_⟩
      · rcases List.mem_append.1 hr with hr | hr
        · exact (h q x hS).1 r hr
        · exact hn r hr
      · obtain ⟨r, hr⟩ := (h q x hS).2 hq hf
        exact ⟨r, by rw [List.getElem?_append_left (List.getElem?_eq_some_iff.1 hr).1]; exact hr⟩
  · rw [joinM_far _ _ _ e] at hy; exact h q y hy
/-- A tree's states lead to states. -/
theorem ahead_vld : ∀ d t nx S N, Vld S N → nx < N → (aheadT d t nx S).2.length ≤ N → Vld (aheadT d t nx S).2 N
  | 0, _, _, _, _, h, _, _ => h
  | d + 1, .mk k rs kids, nx, S, N, h, hn, hl => by
    have hst : ∀ t nx Q, nx < N → (aheadT d t nx Q).2.length ≤ N → (aheadT d t nx Q).1 < N := fun t nx Q hn hl => by
      rcases (ahead_ext d t nx Q).start with e | e
      · rw [e]; exact hn
      · exact Nat.lt_of_lt_of_le e.2 hl
    have hS1 : Vld (S ++ [⟨fun _ => false, true, []⟩]) N := vld_app h ⟨(fun r hr => nomatch hr), fun hf => by cases hf⟩
    have hs : (S ++ [(⟨fun _ => false, true, []⟩ : St)]).length = S.length + 1 := by simp
    unfold aheadT at hl ⊢
    by_cases h1 : k = 1
    · rw [if_pos h1] at hl ⊢
      exact vld_app h ⟨fun r hr => by obtain rfl := List.mem_singleton.1 hr; exact hn, fun _ => ⟨nx, rfl⟩⟩
    rw [if_neg h1] at hl ⊢
    by_cases h2 : k = 2
    · rw [if_pos h2] at hl ⊢
      clear hS1
      induction kids with
      | nil => exact h
      | cons t ts ih =>
        rw [List.foldr_cons] at hl ⊢
        have e := ahead_ext d t (ts.foldr (fun t r => aheadT d t r.1 r.2) (nx, S)).1 (ts.foldr (fun t r => aheadT d t r.1 r.2) (nx, S)).2
        have i1 := ih (Nat.le_trans e.le hl)
        have hE : Ext S (ts.foldr (fun t r => aheadT d t r.1 r.2) (nx, S)).2 (ts.foldr (fun t r => aheadT d t r.1 r.2) (nx, S)).1 nx := by
          have := ahead_ext (d + 1) (.mk 2 [] ts) nx S
          unfold aheadT at this
          simpa using this
        refine ahead_vld d t _ _ N i1 ?_ hl
        rcases hE.start with e2 | e2
        · rw [e2]; exact hn
        · exact Nat.lt_of_lt_of_le e2.2 (Nat.le_trans e.le hl)
    rw [if_neg h2] at hl ⊢
    by_cases h3 : k = 3
    · rw [if_pos h3] at hl ⊢
      have key : ∀ (ts : List Tr) (Q : List St), Vld Q N → (ts.foldl (fun Q t => joinM (aheadT d t nx Q).2 S.length [(aheadT d t nx Q).1]) Q).length ≤ N → Vld (ts.foldl (fun Q t => joinM (aheadT d t nx Q).2 S.length [(aheadT d t nx Q).1]) Q) N := by
        intro ts
        induction ts with
        | nil => intro Q h _; exact h
        | cons t ts ih =>
          intro Q hQ hl
          rw [List.foldl_cons] at hl ⊢
          have hle : ∀ (ts : List Tr) (Q : List St), Q.length ≤ (ts.foldl (fun Q t => joinM (aheadT d t nx Q).2 S.length [(aheadT d t nx Q).1]) Q).length := by
            intro ts
            induction ts with
            | nil => intro Q; exact Nat.le_refl _
            | cons t ts ih => intro Q; rw [List.foldl_cons]; refine Nat.le_trans ?_ (ih _); rw [joinM_len]; exact (ahead_ext d t nx Q).le
          have hl2 : (aheadT d t nx Q).2.length ≤ N := by have := hle ts (joinM (aheadT d t nx Q).2 S.length [(aheadT d t nx Q).1]); rw [joinM_len] at this; omega
          exact ih _ (vld_join (ahead_vld d t nx Q N hQ hn hl2) (fun r hr => by obtain rfl := List.mem_singleton.1 hr; exact hst t nx Q hn hl2)) hl
      exact key kids _ hS1 hl
    rw [if_neg h3] at hl ⊢
    match kids, hl with
    | [], hl => exact hS1
    | t :: _, hl =>
      simp only at hl ⊢
      by_cases h6 : k = 6
      · rw [if_pos h6] at hl ⊢
        simp only [joinM_len] at hl
        refine vld_join (ahead_vld d t nx _ N hS1 hn hl) (fun r hr => ?_)
        rcases List.mem_cons.1 hr with rfl | hr
        · exact hst t nx _ hn hl
        · obtain rfl := List.mem_singleton.1 hr; exact hn
      · rw [if_neg h6] at hl ⊢
        simp only [joinM_len] at hl
        have hf : S.length < N := by have := (ahead_ext d t S.length (S ++ [⟨fun _ => false, true, []⟩])).le; rw [hs] at this; omega
        refine vld_join (ahead_vld d t S.length _ N hS1 hf hl) (fun r hr => ?_)
        rcases List.mem_cons.1 hr with rfl | hr
        · exact hst t S.length _ hf hl
        · obtain rfl := List.mem_singleton.1 hr; exact hn
/-- The machine of a tree: its states, where it starts. -/
def machT (d : Nat) (t : Tr) : Nat × List St := aheadT d t 0 [⟨fun _ => false, false, []⟩]
theorem mach_ok (d : Nat) (t : Tr) : MOk (machT d t).2 ∧ (machT d t).1 < (machT d t).2.length := by
  have e := ahead_ext d t 0 [⟨fun _ => false, false, []⟩]
  have h0 : 0 < (machT d t).2.length := Nat.lt_of_lt_of_le (by decide) e.le
  have hv : Vld (machT d t).2 (machT d t).2.length := ahead_vld d t 0 _ _ (fun q x hx => by
    match q, hx with
    | 0, hx =>
      simp at hx
      subst hx
      exact ⟨(fun r hr => nomatch hr), fun h => absurd rfl h⟩) h0 (Nat.le_refl _)
  refine ⟨⟨h0, fun q x hx => hv q x hx⟩, ?_⟩
  rcases e.start with e1 | e1
  · show (machT d t).1 < _; rw [show (machT d t).1 = 0 from e1]; exact h0
  · exact e1.2
/-- What leads from a machine's start to its end is what its tree matches. -/
theorem mach_run {d : Nat} {t : Tr} (hg : GoodT d t) {s : List UInt8} {i k : Nat} (hi : i ≤ s.length) : Rch (machT d t).2 s ((machT d t).1, i) (0, k) ↔ Mt s d t i k := by
  have hf : FragOk (machT d t).2 s (Mt s d t) (machT d t).1 0 := frag d t 0 _ hg (by decide) (fun _ _ _ => rfl)
  constructor
  · rintro ⟨m, h⟩
    obtain ⟨j, m', _, hm, hr⟩ := hf.1 m i k hi h
    match m', hr with
    | 0, hr => injection (show (0, j) = (0, k) from hr) with _ e; rw [← e]; exact hm
    | m' + 1, ⟨c, hs, _⟩ => exact absurd rfl hs.1
  · intro h
    obtain ⟨m, hr⟩ := hf.2 i k hi h
    exact ⟨m, hr⟩
end Go.Proofs.Ytjnhmcgjeljcmaa
namespace Go.Proofs.Ytjnhmcgjeljcmaa
open Go.RowKit Go.Maps

/-- A build at the list of a plain region's operations, its run known. -/
theorem wpList_build1 {w : World} {ops : Array Oper} {rest : List Oper} {o : Oper} {a : Act} {Q : Exit → Act → World → Prop} (hgd : o.guard = none) (t : TypeId) (i : Nat) (x : Operand)
    (ho : o.op = .build t #[(i, x)]) (v r : Value) (hx : a.eval x = v) (hrun : (Instr.build t #[(i, v)]).run Try.prog w = .ok r w) (h : wpList Try.prog ops Q rest (a.put o.dst r) w) : wpList Try.prog ops Q (o :: rest) a w := by
  refine wpList_plain hgd fun K hK => ?_
  unfold Oper.wp execOp
  simp only [ho, List.map_toArray, List.map_cons, List.map_nil, hx, Sem.run_bind, Sem.run_pure, Result.andThen_ok, hrun]
  exact hK _ _ h
theorem wpList_build2 {w : World} {ops : Array Oper} {rest : List Oper} {o : Oper} {a : Act} {Q : Exit → Act → World → Prop} (hgd : o.guard = none) (t : TypeId) (i j : Nat) (x y : Operand)
    (ho : o.op = .build t #[(i, x), (j, y)]) (v u r : Value) (hx : a.eval x = v) (hy : a.eval y = u) (hrun : (Instr.build t #[(i, v), (j, u)]).run Try.prog w = .ok r w) (h : wpList Try.prog ops Q rest (a.put o.dst r) w) : wpList Try.prog ops Q (o :: rest) a w := by
  refine wpList_plain hgd fun K hK => ?_
  unfold Oper.wp execOp
  simp only [ho, List.map_toArray, List.map_cons, List.map_nil, hx, hy, Sem.run_bind, Sem.run_pure, Result.andThen_ok, hrun]
  exact hK _ _ h
/-- What ahead answers. -/
def AhPost (w : World) (X : Nat → Prop) (pp : Nat) (start steps : Int) (r : Nat × List St) (e : Ending) (w' : World) : Prop :=
  e = .returned (.int .i64 (r.1 : Nat)) ∧ ∃ X', Mach w' X' pp start steps r.2 ∧ (∀ j, X' j → X j ∨ w.heap.size ≤ j) ∧ Kept X w w'
/-- Where a tree may lie beside a machine. -/
def Off (w : World) (X : Nat → Prop) (b : Nat) : Prop := b < w.heap.size ∧ ¬ X b
def AhIH (d : Nat) : Prop := ∀ (t : Tr) (v0 v1 v2 : Value) (w : World) (X : Nat → Prop) (pp : Nat) (start steps : Int) (S : List St) (nx : Nat), TreeAt w (Off w X) d t [v0, v1, v2] → GoodT d t → Mach w X pp start steps S → nx ≤ 90000 → S.length + nodesT d t ≤ 90000 →
  Calls Try.prog 97 #[.pointer (some ⟨pp, 0, none⟩), .agg #[v0, v1, v2], .int .i64 (nx : Nat)] w (AhPost w X pp start steps (aheadT d t nx S))
theorem off_keep {w w' : World} {X X' : Nat → Prop} (hk : Kept X w w') (hX : ∀ j, X' j → X j ∨ w.heap.size ≤ j) {b : Nat} (h : Off w X b) : Off w' X' b := ⟨Nat.lt_of_lt_of_le h.1 hk.size, fun hx => by
  rcases hX b hx with h1 | h1
  · exact h.2 h1
  · have := h.1; omega⟩
theorem tree_off {w w' : World} {X X' : Nat → Prop} {d : Nat} {t : Tr} {cs : List Value} (h : TreeAt w (Off w X) d t cs) (hk : Kept X w w') (hX : ∀ j, X' j → X j ∨ w.heap.size ≤ j) : TreeAt w' (Off w' X') d t cs :=
  (h.keep (fun b hb => hk.block b hb.1 hb.2)).mono fun _ hb => off_keep hk hX hb
theorem kept_alloc (X : Nat → Prop) (w : World) (o : Obj) : Kept X w (w.alloc o) := (Kept.refl X w).alloc o
theorem Mach.alloc {w : World} {X : Nat → Prop} {pp : Nat} {start steps : Int} {S : List St} (h : Mach w X pp start steps S) (o : Obj) : Mach (w.alloc o) X pp start steps S := h.below ((Below.refl _ w).alloc (Nat.le_refl _) o)
set_option maxHeartbeats 400000 in
set_option maxRecDepth 100000 in
theorem ahead1_any (d : Nat) (rs : List (UInt8 × UInt8)) (kids : List Tr) (A A' : Option Addr) (n c n' c' : Nat) (w : World) (X : Nat → Prop) (pp : Nat) (start steps : Int) (S : List St) (nx : Nat)
    (hr : RgAt w (Off w X) A n rs) (hn : n ≤ maxLen) (hm : Mach w X pp start steps S) (_ : nx ≤ 90000) (hl : S.length + 1 ≤ 90000) :
    Calls Try.prog 97 #[.pointer (some ⟨pp, 0, none⟩), .agg #[.int .i64 1, .slice A n c, .slice A' n' c'], .int .i64 (nx : Nat)] w (AhPost w X pp start steps (aheadT (d + 1) (.mk 1 rs kids) nx S)) := by
  have HT : aheadT (d + 1) (.mk 1 rs kids) nx S = (S.length, S ++ [⟨inR rs, false, [nx]⟩]) := by unfold aheadT; rw [if_pos rfl]
  rw [HT]
  clear HT
  have b0 : Below w.heap.size w (w.alloc (.cells #[.int .i64 1, .slice A n c, .slice A' n' c'] 26)) := (Below.refl _ w).alloc (Nat.le_refl _) _
  have HB := Lib.hid (members_any A n c rs (w.alloc (.cells #[.int .i64 1, .slice A n c, .slice A' n' c'] 26)) ((hr.keep fun b hb => b0.block b hb.1).mono fun b hb => by have := hb.1; simp; omega) hn)
  have hs0 : (w.alloc (.cells #[.int .i64 1, .slice A n c, .slice A' n' c'] 26)).heap.size = w.heap.size + 1 := by simp
  have hpl := hm.lt
  have HM := Lib.hid hm
  have hMl := Lib.hid (fun j (hj : X j) => hm.old hj)
  clear hm hr
  go_enter Try.func97, Try.ntmps97
  go_wp2_with fail
  refine HB.out.mono ?_
  rintro e w1 ⟨rfl, b1⟩
  have B1 := Lib.hid (b0.trans (b1.mono (by omega)))
  obtain ⟨f, hf⟩ : ∃ f : Nat → Bool, f = inR rs := ⟨_, rfl⟩
  have hs1 := b1.size
  have HF := Lib.hid hf
  have hK := Blk.new w1 3 #[.int .i64 (nx : Nat)]
  have hw2 : Below w1.heap.size w1 (w1.alloc (.cells #[.int .i64 (nx : Nat)] 3)) := (Below.refl _ w1).alloc (Nat.le_refl _) _
  have HA := Lib.hid (add_any ((HM.out.below B1.out).below hw2) ⟨f, false, [nx]⟩ (.slice (some ⟨w1.heap.size, 0, none⟩) 1 1) ⟨rfl, .inr ⟨w1.heap.size, 1, #[.int .i64 (nx : Nat)], rfl, Nat.zero_le _, hK, Nat.le_refl _, by decide, rfl, rfl⟩⟩ (fun b hb hx => by
    have h1 : w1.heap.size = b := Option.some.inj hb
    have := hMl.out b hx
    have := B1.out.size
    omega) (by omega))
  have HW2 := Lib.hid hw2
  clear b1 hK hw2 HB b0
  rw [show (rowV 256 fun j => Value.bool (inR rs j)) = rowV 256 fun j => .bool (f j) by rw [hf]]
  clear hf
  have HBU := Lib.hid (fun W => build_setS f [nx] (some ⟨w1.heap.size, 0, none⟩) 1 1 W)
  obtain ⟨RV, hRV⟩ : ∃ RV, RV = (rowV 256 fun j => Value.bool (f j)) := ⟨_, rfl⟩
  obtain ⟨SV, hSV⟩ : ∃ SV, SV = stC ⟨f, false, [nx]⟩ (.slice (some ⟨w1.heap.size, 0, none⟩) 1 1) := ⟨_, rfl⟩
  rw [← hRV, ← hSV] at HBU
  rw [← hRV]
  rw [← hSV] at HA
  clear hRV hSV
  go_wp2_with (refine wpList_build2 rfl 175 0 2 (.tmp 19) (.tmp 21) rfl (.agg RV) (.slice (some ⟨w1.heap.size, 0, none⟩) 1 1) (.agg SV) rfl rfl (HBU.out _) ?_)
  refine HA.out.mono ?_
  rintro e w3 ⟨rfl, X3, hm3, hx3, hk3⟩
  have HFIN := Lib.hid (show ∃ X', Mach w3 X' pp start steps (S ++ [⟨inR rs, false, [nx]⟩]) ∧ (∀ j, X' j → X j ∨ w.heap.size ≤ j) ∧ Kept X w w3 from by
    rw [← HF.out]
    have k1 : Kept X w w1 := kept_below B1.out |>.mono (fun j _ hj => hj)
    refine ⟨X3, hm3, fun j hj => ?_, (k1.alloc (.cells #[.int .i64 (nx : Nat)] 3)).trans hk3 (fun j hj => .inl hj)⟩
    have := B1.out.size
    rcases hx3 j hj with h1 | h1 | h1
    · exact .inl h1
    · have h2 : w1.heap.size = j := Option.some.inj h1
      exact .inr (by omega)
    · exact .inr (by simp at h1; omega))
  clear hm3 hx3 hk3 HA
  go_wp2
  go_ret
  exact ⟨rfl, HFIN.out⟩
end Go.Proofs.Ytjnhmcgjeljcmaa
namespace Go.Proofs.Ytjnhmcgjeljcmaa
open Go.RowKit Go.Maps

/-- Kids in memory beside a machine. -/
def KidsO (w : World) (X : Nat → Prop) (d n' : Nat) (A' : Option Addr) (kids : List Tr) : Prop := kids.length = n' ∧ (0 < n' → ∃ b o, A' = some ⟨b, o, none⟩ ∧ Off w X b ∧ ∀ (i : Nat) (t : Tr), kids[i]? = some t → ∃ v0 v1 v2, w.cell? ⟨b, o + i * 3, none⟩ = some v0 ∧ w.cell? ⟨b, o + i * 3 + 1, none⟩ = some v1 ∧ w.cell? ⟨b, o + i * 3 + 2, none⟩ = some v2 ∧ TreeAt w (Off w X) d t [v0, v1, v2])
/-- The states of the kids from j on. -/
def catR (d : Nat) (kids : List Tr) (nx : Nat) (S : List St) (j : Nat) : Nat × List St := (kids.drop j).foldr (fun t r => aheadT d t r.1 r.2) (nx, S)
section
variable {d : Nat} {kids : List Tr} {nx : Nat} {S : List St}
theorem catR_step {i : Nat} {t : Tr} (h : kids[i]? = some t) : catR d kids nx S i = aheadT d t (catR d kids nx S (i + 1)).1 (catR d kids nx S (i + 1)).2 := by
  have hlt := (List.getElem?_eq_some_iff.1 h)
  obtain ⟨hl, he⟩ := hlt
  unfold catR
  rw [List.drop_eq_getElem_cons hl, List.foldr_cons, he]
theorem catR_len (j : Nat) : (catR d kids nx S j).2.length ≤ S.length + ((kids.drop j).map (nodesT d)).sum := by
  unfold catR
  generalize kids.drop j = ts
  induction ts with
  | nil => simp
  | cons t ts ih =>
    rw [List.foldr_cons, List.map_cons, List.sum_cons]
    have a := ahead_len d t (ts.foldr (fun t r => aheadT d t r.1 r.2) (nx, S)).1 (ts.foldr (fun t r => aheadT d t r.1 r.2) (nx, S)).2
    omega
theorem catR_start (j : Nat) : (catR d kids nx S j).1 = nx ∨ (catR d kids nx S j).1 < (catR d kids nx S j).2.length := by
  have := (ahead_ext (d + 1) (.mk 2 [] (kids.drop j)) nx S).start
  unfold aheadT at this
  rw [if_neg (by decide), if_pos rfl] at this
  rcases this with h | h
  · exact .inl h
  · exact .inr h.2
theorem sum_drop (j : Nat) : ((kids.drop j).map (nodesT d)).sum ≤ (kids.map (nodesT d)).sum := by
  conv => rhs; rw [← List.take_append_drop j kids, List.map_append, List.sum_append]
  omega
theorem sum_at {i : Nat} {t : Tr} (h : kids[i]? = some t) : nodesT d t + ((kids.drop (i + 1)).map (nodesT d)).sum ≤ (kids.map (nodesT d)).sum := by
  obtain ⟨hl, he⟩ := List.getElem?_eq_some_iff.1 h
  have := sum_drop (d := d) (kids := kids) i
  rw [List.drop_eq_getElem_cons hl, List.map_cons, List.sum_cons, he] at this
  exact this
end
set_option maxHeartbeats 400000 in
set_option maxRecDepth 100000 in
theorem ahead2_any {d : Nat} (IH : AhIH d) (rs : List (UInt8 × UInt8)) (kids : List Tr) (A A' : Option Addr) (n c n' c' : Nat) (w : World) (X : Nat → Prop) (pp : Nat) (start steps : Int) (S : List St) (nx : Nat)
    (hk : KidsO w X d n' A' kids) (hn : n' ≤ maxLen) (hg : ∀ t, t ∈ kids → GoodT d t) (hm : Mach w X pp start steps S) (hnx : nx ≤ 90000) (hl : S.length + (kids.map (nodesT d)).sum ≤ 90000) :
    Calls Try.prog 97 #[.pointer (some ⟨pp, 0, none⟩), .agg #[.int .i64 2, .slice A n c, .slice A' n' c'], .int .i64 (nx : Nat)] w (AhPost w X pp start steps (aheadT (d + 1) (.mk 2 rs kids) nx S)) := by
  have HT : aheadT (d + 1) (.mk 2 rs kids) nx S = catR d kids nx S 0 := by unfold aheadT catR; rw [if_neg (by decide), if_pos rfl, List.drop_zero]
  rw [HT]
  clear HT
  unfold maxLen at hn
  have hkl := hk.1
  have b0 : Below w.heap.size w (w.alloc (.cells #[.int .i64 2, .slice A n c, .slice A' n' c'] 26)) := (Below.refl _ w).alloc (Nat.le_refl _) _
  have k0 : Blk (w.alloc (.cells #[.int .i64 2, .slice A n c, .slice A' n' c'] 26)) w.heap.size 26 #[.int .i64 2, .slice A n c, .slice A' n' c'] := Blk.new w _ _
  have hs0 : (w.alloc (.cells #[.int .i64 2, .slice A n c, .slice A' n' c'] 26)).heap.size = w.heap.size + 1 := by simp
  have hRn : catR d kids nx S n' = (nx, S) := by unfold catR; rw [List.drop_of_length_le (by omega)]; rfl
  have HRS := Lib.hid (fun (i : Nat) (t : Tr) (h : kids[i]? = some t) => catR_step (d := d) (nx := nx) (S := S) h)
  have HRL := Lib.hid (fun j => catR_len (d := d) (kids := kids) (nx := nx) (S := S) j)
  have HRT := Lib.hid (fun j => catR_start (d := d) (kids := kids) (nx := nx) (S := S) j)
  have HSA := Lib.hid (fun (i : Nat) (t : Tr) (h : kids[i]? = some t) => sum_at (d := d) h)
  have HSD := Lib.hid (fun j => sum_drop (d := d) (kids := kids) j)
  have HM0 := Lib.hid (show Mach (w.alloc (.cells #[.int .i64 2, .slice A n c, .slice A' n' c'] 26)) X pp start steps (catR d kids nx S n').2 by rw [hRn]; exact hm.below b0)
  have HN0 := Lib.hid (show (nx : Nat) = (catR d kids nx S n').1 by rw [hRn])
  have HK := Lib.hid hk
  have HIH := Lib.hid IH
  have HK0 := Lib.hid k0
  have hXl := Lib.hid (fun j (hj : X j) => hm.old hj)
  have HKP := Lib.hid (kept_alloc X w (.cells #[.int .i64 2, .slice A n c, .slice A' n' c'] 26))
  clear IH hk hm k0 b0 hRn
  generalize catR d kids nx S = R at *
  have hj0 : ((n' : Int) - 1) = ((n' : Nat) : Int) - 1 := rfl
  go_enter Try.func97, Try.ntmps97
  go_wp2_with fail
  go_loopw [2, 7] (fun vn va wr => ∃ (j : Nat) (Xr : Nat → Prop), j ≤ n' ∧ va = .int .i64 ((j : Int) - 1) ∧ vn = .int .i64 ((R j).1 : Nat) ∧ Mach wr Xr pp start steps (R j).2 ∧ (∀ x, Xr x → X x ∨ w.heap.size + 1 ≤ x) ∧ Kept X w wr ∧ Blk wr w.heap.size 26 #[.int .i64 2, .slice A n c, .slice A' n' c']) (fun _ va _ => (intOf va + 1).toNat)
  case atStart => exact ⟨n', X, Nat.le_refl _, rfl, by rw [← HN0.out], HM0.out, fun x hx => .inl hx, HKP.out, HK0.out⟩
  case round =>
    clear HM0 HN0 HKP HK0
    obtain ⟨j, Xr, hj, rfl, rfl, hm, hx, hkp, hb⟩ := hrel
    have hw2 : wr.cell? ⟨w.heap.size, 2, none⟩ = some (.slice A' n' c') := hb.cell 2
    have HB := Lib.hid hb
    have HM := Lib.hid hm
    have HKP := Lib.hid hkp
    have HX := Lib.hid hx
    clear hb hm hkp hx
    match j, hj with
    | 0, hj =>
      have HFIN := Lib.hid (show ∃ X', Mach wr X' pp start steps (R 0).2 ∧ (∀ j, X' j → X j ∨ w.heap.size ≤ j) ∧ Kept X w wr from ⟨Xr, HM.out, fun j hj => by
        rcases HX.out j hj with h | h
        · exact .inl h
        · exact .inr (by omega), HKP.out⟩)
      go_wp2
      go_ret
      exact ⟨rfl, HFIN.out⟩
    | i + 1, hj =>
      have e1 : (((i + 1 : Nat) : Int) - 1) = (i : Int) := by omega
      rw [e1]
      have hi0 : (0 : Int) ≤ (i : Int) := by omega
      have hi1 : (i : Int) < (n' : Int) := by omega
      obtain ⟨b, o, rfl, hbo, hcells⟩ := HK.out.2 (by omega)
      obtain ⟨t, htk⟩ : ∃ t, kids[i]? = some t := ⟨kids[i]'(by omega), List.getElem?_eq_getElem _⟩
      obtain ⟨v0, v1, v2, e0, e1', e2, htr⟩ := hcells i t htk
      have hbk := HKP.out.block b hbo.1 hbo.2
      replace e0 := (World.cell?_of_block (a := ⟨b, o + i * 3, none⟩) hbk).trans e0
      replace e1' := (World.cell?_of_block (a := ⟨b, o + i * 3 + 1, none⟩) hbk).trans e1'
      replace e2 := (World.cell?_of_block (a := ⟨b, o + i * 3 + 2, none⟩) hbk).trans e2
      have hxw : ∀ j, Xr j → X j ∨ w.heap.size ≤ j := fun j hj => by
        rcases HX.out j hj with h | h
        · exact .inl h
        · exact .inr (by omega)
      have HR := Lib.hid (HIH.out t v0 v1 v2 wr Xr pp start steps (R (i + 1)).2 (R (i + 1)).1 (tree_off htr HKP.out hxw) (hg t (List.mem_of_getElem? htk)) HM.out (by
        have := HRL.out (i + 1)
        have := HSD.out (i + 1)
        rcases HRT.out (i + 1) with h | h
        · rw [h]; exact hnx
        · omega) (by
        have := HRL.out (i + 1)
        have := HSA.out i t htk
        omega))
      rw [← HRS.out i t htk] at HR
      clear htr hcells htk hbk
      go_wp2_with fail
      refine HR.out.mono ?_
      rintro e w3 ⟨rfl, X3, hm3, hx3, hk3⟩
      have hs3 := HKP.out.size
      have hnb : ¬ Xr w.heap.size := fun hx => by
        rcases HX.out _ hx with h | h
        · have := hXl.out _ h; omega
        · omega
      have HM3 := Lib.hid hm3
      have HX3 := Lib.hid (show ∀ x, X3 x → X x ∨ w.heap.size + 1 ≤ x from fun x hx => by
        rcases hx3 x hx with h | h
        · exact HX.out x h
        · have := HB.out.lt; exact .inr (by omega))
      have HB3 := Lib.hid (show Blk w3 w.heap.size 26 #[.int .i64 2, .slice A n c, .slice (some ⟨b, o, none⟩) n' c'] from (hk3.block _ HB.out.lt hnb).trans HB.out)
      have HK3 := Lib.hid (HKP.out.trans hk3 hxw)
      clear hm3 hx3 hk3 HR
      go_wp2
      go_roundw
      case rel => exact ⟨i, X3, by omega, by go_num, rfl, HM3.out, HX3.out, HK3.out, HB3.out⟩
      case measure => simp [intOf]
end Go.Proofs.Ytjnhmcgjeljcmaa
