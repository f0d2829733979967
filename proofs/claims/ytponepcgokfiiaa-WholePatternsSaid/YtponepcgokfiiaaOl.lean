/- Plain facts: following forks, state by state; how much is left. No program. -/
import Derived.Test.YtponepcgokfiiaaOg
namespace Go.Proofs.Ytponepcgokfiiaa

/-- Within reach: what is left to follow is st; W0 is the walk ahead of it. -/
structure RInv (M : List St) (W0 : WS) (first frm at_ : Nat) (st : List Nat) (W : WS) : Prop where
  len : W.seen.length = W0.seen.length
  mark : ∀ q : Nat, W.seen[q]? = W0.seen[q]? ∨ (W.seen[q]? = some (at_ + 1) ∧ W0.seen[q]? ≠ some (at_ + 1) ∧ Clo M first q)
  stk : ∀ q, q ∈ st → Clo M first q ∧ q < M.length
  one : first ∈ st ∨ W.seen[first]? = some (at_ + 1)
  clo : ∀ q r : Nat, W.seen[q]? = some (at_ + 1) → W0.seen[q]? ≠ some (at_ + 1) → Fk M q r → r ∈ st ∨ W.seen[r]? = some (at_ + 1)
  held : ∃ hs : List Nat, W.held = W0.held ++ hs.map (fun q => (frm, q)) ∧ hs.Nodup ∧ ∀ q, q ∈ hs ↔ W.seen[q]? = some (at_ + 1) ∧ W0.seen[q]? ≠ some (at_ + 1) ∧ Waits M q
  over : (W.seen[0]? = some (at_ + 1) ∧ W0.seen[0]? ≠ some (at_ + 1) ∧ W.found = true ∧ W.frm = frm ∧ W.to = at_) ∨ (¬ (W.seen[0]? = some (at_ + 1) ∧ W0.seen[0]? ≠ some (at_ + 1)) ∧ W.found = W0.found ∧ W.frm = W0.frm ∧ W.to = W0.to)
/-- A state marked. -/
def WS.marks (W : WS) (q a : Nat) : WS := ⟨W.seen.set q a, W.held, W.found, W.frm, W.to⟩
/-- How many ways on the states have that aren't marked. -/
def muR (M : List St) (seen : List Nat) (a : Nat) : Nat := (M.zipIdx.map fun p => if seen[p.2]? = some a then 0 else p.1.next.length).sum
section
variable {M : List St} {W0 W : WS} {first frm at_ : Nat} {st : List Nat}
theorem RInv.begin_ (hl : first < M.length) : RInv M W first frm at_ [first] W :=
  ⟨rfl, fun _ => .inl rfl, fun q hq => by obtain rfl := List.mem_singleton.1 hq; exact ⟨Clo.rfl' _, hl⟩, .inl (List.mem_singleton_self _), fun q r h h' => (h' h).elim, ⟨[], by simp, List.nodup_nil, fun q => ⟨(fun h => nomatch h), fun h => (h.2.1 h.1).elim⟩⟩, .inr ⟨fun h => h.2 h.1, rfl, rfl, rfl⟩⟩
/-- What is marked already is left. -/
theorem RInv.skip {s : Nat} (h : RInv M W0 first frm at_ (st ++ [s]) W) (hs : W.seen[s]? = some (at_ + 1)) : RInv M W0 first frm at_ st W :=
  ⟨h.len, h.mark, fun q hq => h.stk q (List.mem_append_left _ hq), by
    rcases h.one with e | e
    · rcases List.mem_append.1 e with e | e
      · exact .inl e
      · obtain rfl := List.mem_singleton.1 e; exact .inr hs
    · exact .inr e, fun q r h1 h2 h3 => by
    rcases h.clo q r h1 h2 h3 with e | e
    · rcases List.mem_append.1 e with e | e
      · exact .inl e
      · obtain rfl := List.mem_singleton.1 e; exact .inr hs
    · exact .inr e, h.held, h.over⟩
theorem seen_set {W : WS} {s a : Nat} (hl : s < W.seen.length) (q : Nat) : (W.marks s a).seen[q]? = if q = s then some a else W.seen[q]? := by
  unfold WS.marks
  simp only
  rw [List.getElem?_set]
  by_cases e : s = q
  · subst e; simp [hl]
  · rw [if_neg e, if_neg (fun x => e x.symm)]
theorem old_mark (h : RInv M W0 first frm at_ st W) {s : Nat} (hs : W.seen[s]? ≠ some (at_ + 1)) : W0.seen[s]? ≠ some (at_ + 1) := by
  rcases h.mark s with e | e
  · rw [← e]; exact hs
  · exact e.2.1
/-- A state that isn't marked: the marks, the closedness of those that were, in all ways. -/
theorem RInv.go {s : Nat} {ns : List Nat} {W' : WS} (h : RInv M W0 first frm at_ (st ++ [s]) W) (hs : W.seen[s]? ≠ some (at_ + 1)) (hl : s < W.seen.length) (hse : W'.seen = (W.marks s (at_ + 1)).seen)
    (hns : ∀ r, r ∈ ns ↔ Fk M s r) (hnl : ∀ r, r ∈ ns → r < M.length)
    (hh : (Waits M s ∧ W'.held = W.held ++ [(frm, s)]) ∨ (¬ Waits M s ∧ W'.held = W.held))
    (ho : (s = 0 ∧ W'.found = true ∧ W'.frm = frm ∧ W'.to = at_) ∨ (s ≠ 0 ∧ W'.found = W.found ∧ W'.frm = W.frm ∧ W'.to = W.to)) : RInv M W0 first frm at_ (st ++ ns) W' := by
  have hS : ∀ q : Nat, W'.seen[q]? = if q = s then some (at_ + 1) else W.seen[q]? := fun q => by rw [hse]; exact seen_set hl q
  have hcs := (h.stk s (List.mem_append_right _ (List.mem_singleton_self _))).1
  have h0 := old_mark h hs
  have hin : ∀ q : Nat, (W'.seen[q]? = some (at_ + 1) ∧ W0.seen[q]? ≠ some (at_ + 1)) ↔ q = s ∨ (W.seen[q]? = some (at_ + 1) ∧ W0.seen[q]? ≠ some (at_ + 1)) := fun q => by
    rw [hS q]
    by_cases e : q = s
    · subst e; simp [h0]
    · simp [e]
  have hstk : ∀ q, q ∈ st ++ [s] → q ∈ st ++ ns ∨ W'.seen[q]? = some (at_ + 1) := fun q hq => by
    rcases List.mem_append.1 hq with hq | hq
    · exact .inl (List.mem_append_left _ hq)
    · obtain rfl := List.mem_singleton.1 hq; right; rw [hS]; rw [if_pos rfl]
  have hup : ∀ q : Nat, W.seen[q]? = some (at_ + 1) → W'.seen[q]? = some (at_ + 1) := fun q e => by rw [hS]; split; rfl; exact e
  refine ⟨by rw [hse, ← h.len]; unfold WS.marks; simp, fun q => ?_, fun q hq => ?_, ?_, fun q r h1 h2 h3 => ?_, ?_, ?_⟩
  · rw [hS]
    by_cases e : q = s
    · subst e; rw [if_pos rfl]; exact .inr ⟨rfl, h0, hcs⟩
    · rw [if_neg e]; exact h.mark q
  · rcases List.mem_append.1 hq with hq | hq
    · exact h.stk q (List.mem_append_left _ hq)
    · exact ⟨hcs.snoc ((hns q).1 hq), hnl q hq⟩
  · rcases h.one with e | e
    · exact hstk _ e
    · exact .inr (hup _ e)
  · rcases (hin q).1 ⟨h1, h2⟩ with rfl | ⟨e, _⟩
    · exact .inl (List.mem_append_right _ ((hns r).2 h3))
    · rcases h.clo q r e h2 h3 with e | e
      · exact hstk _ e
      · exact .inr (hup _ e)
  · obtain ⟨hs', e1, e2, e3⟩ := h.held
    have hnot : s ∉ hs' := fun hm => hs ((e3 s).1 hm).1
    rcases hh with ⟨hw, hh⟩ | ⟨hw, hh⟩
    · refine ⟨hs' ++ [s], by rw [hh, e1]; simp, ?_, fun q => ?_⟩
      · rw [List.nodup_append]
        exact ⟨e2, by simp, fun a ha b hb => by obtain rfl := List.mem_singleton.1 hb; rintro rfl; exact hnot ha⟩
      · rw [List.mem_append, e3 q, ← and_assoc, ← and_assoc, hin q, List.mem_singleton]
        constructor
        · rintro (⟨a, b⟩ | rfl)
          · exact ⟨.inr a, b⟩
          · exact ⟨.inl rfl, hw⟩
        · rintro ⟨rfl | a, b⟩
          · exact .inr rfl
          · exact .inl ⟨a, b⟩
    · refine ⟨hs', by rw [hh, e1], e2, fun q => ?_⟩
      rw [e3 q, ← and_assoc, ← and_assoc, hin q]
      constructor
      · rintro ⟨a, b⟩; exact ⟨.inr a, b⟩
      · rintro ⟨rfl | a, b⟩
        · exact (hw b).elim
        · exact ⟨a, b⟩
  · rcases ho with ⟨rfl, o1, o2, o3⟩ | ⟨hne, o1, o2, o3⟩
    · exact .inl ⟨by rw [hS, if_pos rfl], h0, o1, o2, o3⟩
    · rcases h.over with ⟨p1, p2, p3, p4, p5⟩ | ⟨p1, p2, p3, p4⟩
      · exact .inl ⟨hup _ p1, p2, o1.trans p3, o2.trans p4, o3.trans p5⟩
      · refine .inr ⟨fun e => ?_, o1.trans p2, o2.trans p3, o3.trans p4⟩
        rcases (hin 0).1 e with e | e
        · exact hne e.symm
        · exact p1 e
theorem RInv.out (hc : ∀ q r : Nat, W0.seen[q]? = some (at_ + 1) → Fk M q r → W0.seen[r]? = some (at_ + 1)) (h : RInv M W0 first frm at_ [] W) : ROut M first frm at_ W0 W := by
  have hkeep : ∀ q : Nat, W0.seen[q]? = some (at_ + 1) → W.seen[q]? = some (at_ + 1) := fun q e => by
    rcases h.mark q with e' | e'
    · rw [e', e]
    · exact e'.1
  have hclo : ∀ q, Clo M first q → W.seen[q]? = some (at_ + 1) := fun q ⟨c, hc'⟩ => by
    have key : ∀ (c a : Nat), W.seen[a]? = some (at_ + 1) → itR (Fk M) c a q → W.seen[q]? = some (at_ + 1) := by
      intro c
      induction c with
      | zero => intro a ha e; obtain rfl : a = q := e; exact ha
      | succ c ih =>
        rintro a ha ⟨m, h1, h2⟩
        refine ih m ?_ h2
        by_cases e0 : W0.seen[a]? = some (at_ + 1)
        · exact hkeep m (hc a m e0 h1)
        · rcases h.clo a m ha e0 h1 with e | e
          · exact nomatch e
          · exact e
    refine key c first ?_ hc'
    rcases h.one with e | e
    · exact nomatch e
    · exact e
  have hiff : ∀ q : Nat, (W.seen[q]? = some (at_ + 1) ∧ W0.seen[q]? ≠ some (at_ + 1)) ↔ Clo M first q ∧ W0.seen[q]? ≠ some (at_ + 1) := fun q => by
    constructor
    · rintro ⟨a, b⟩
      rcases h.mark q with e | e
      · rw [e] at a; exact (b a).elim
      · exact ⟨e.2.2, b⟩
    · rintro ⟨a, b⟩; exact ⟨hclo q a, b⟩
  refine ⟨h.len, fun q _ => ⟨fun e => ?_, fun e => ?_⟩, fun q => ?_, ?_, ?_⟩
  · by_cases e0 : W0.seen[q]? = some (at_ + 1)
    · exact .inl e0
    · exact .inr ((hiff q).1 ⟨e, e0⟩).1
  · rcases e with e | e
    · exact hkeep q e
    · exact hclo q e
  · rcases h.mark q with e | e
    · exact .inl e
    · exact .inr e.1
  · obtain ⟨hs, e1, e2, e3⟩ := h.held
    exact ⟨hs, e1, e2, fun q => by rw [e3 q, ← and_assoc, hiff q, and_assoc]⟩
  · rcases h.over with ⟨p1, p2, p3⟩ | ⟨p1, p3⟩
    · exact .inl ⟨((hiff 0).1 ⟨p1, p2⟩).1, p2, p3⟩
    · exact .inr ⟨fun e => p1 ((hiff 0).2 e), p3⟩
theorem muR_set {s a : Nat} {x : St} {seen : List Nat} (hs : M[s]? = some x) (hn : seen[s]? ≠ some a) (hl : s < seen.length) : muR M (seen.set s a) a + x.next.length = muR M seen a := by
  unfold muR
  have key : ∀ (L : List St) (k : Nat), k ≤ s → L[s - k]? = some x → ((L.zipIdx k).map fun p => if (seen.set s a)[p.2]? = some a then 0 else p.1.next.length).sum + x.next.length = ((L.zipIdx k).map fun p => if seen[p.2]? = some a then 0 else p.1.next.length).sum := by
    intro L
    induction L with
    | nil => intro k _ h; cases h
    | cons y L ih =>
      intro k hk h
      rw [List.zipIdx_cons, List.map_cons, List.map_cons, List.sum_cons, List.sum_cons]
      by_cases e : k = s
      · subst e
        rw [Nat.sub_self] at h
        obtain rfl : y = x := Option.some.inj h
        have hrest : ∀ (L : List St) (m : Nat), k < m → ((L.zipIdx m).map fun p => if (seen.set k a)[p.2]? = some a then 0 else p.1.next.length).sum = ((L.zipIdx m).map fun p => if seen[p.2]? = some a then 0 else p.1.next.length).sum := by
          intro L
          induction L with
          | nil => intro m _; rfl
          | cons z L ih2 =>
            intro m hm
            rw [List.zipIdx_cons, List.map_cons, List.map_cons, List.sum_cons, List.sum_cons, ih2 (m + 1) (by omega)]
            simp only
            rw [List.getElem?_set_ne (by omega)]
        rw [hrest L (k + 1) (by omega)]
        simp only
        rw [if_neg hn, List.getElem?_set_self hl, if_pos rfl]
        omega
      · have := ih (k + 1) (by omega) (by
          rw [show s - k = (s - (k + 1)) + 1 by omega, List.getElem?_cons_succ] at h; exact h)
        simp only
        rw [List.getElem?_set_ne (by omega)]
        omega
  exact key M 0 (Nat.zero_le _) (by rw [Nat.sub_zero]; exact hs)
theorem muR_le (seen : List Nat) (a : Nat) : muR M seen a ≤ edgesM M := by
  unfold muR edgesM
  have key : ∀ (L : List St) (k : Nat), ((L.zipIdx k).map fun p => if seen[p.2]? = some a then 0 else p.1.next.length).sum ≤ (L.map fun x => x.next.length).sum := by
    intro L
    induction L with
    | nil => intro k; exact Nat.le_refl _
    | cons y L ih =>
      intro k
      rw [List.zipIdx_cons, List.map_cons, List.sum_cons, List.map_cons, List.sum_cons]
      have := ih (k + 1)
      simp only
      split <;> omega
  exact key M 0
end
end Go.Proofs.Ytponepcgokfiiaa
