/- Plain facts: a walk over a machine's states: what it knows at each place; what it has found at the end is the first and longest piece. No program. -/
import Derived.Test.YtjnhmcgjeljcmaaKn
namespace Go.Proofs.Ytjnhmcgjeljcmaa

/-- A fork's way on, which needs no byte. -/
def Fk (M : List St) (a b : Nat) : Prop := a ≠ 0 ∧ ∃ x, M[a]? = some x ∧ x.fork = true ∧ b ∈ x.next
def Clo (M : List St) (a b : Nat) : Prop := ∃ c, itR (Fk M) c a b
def Waits (M : List St) (q : Nat) : Prop := q ≠ 0 ∧ ∃ x, M[q]? = some x ∧ x.fork = false
def Rch (M : List St) (s : List UInt8) (a b : Nat × Nat) : Prop := ∃ m, RunM M s m a b
/-- All states go on to states; one that waits goes on to one. -/
def MOk (M : List St) : Prop := 0 < M.length ∧ (∀ q x, M[q]? = some x → (∀ r, r ∈ x.next → r < M.length) ∧ (q ≠ 0 → x.fork = false → ∃ r, x.next[0]? = some r))
/-- What a walk knows: the marks, the pieces held, what is over. -/
structure WS where
  seen : List Nat
  held : List (Nat × Nat)
  found : Bool
  frm : Nat
  to : Nat
section
variable {M : List St} {s : List UInt8} {P : Nat → Prop} {start : Nat}
theorem Clo.rfl' (a : Nat) : Clo M a a := ⟨0, rfl⟩
theorem itR_snoc {R : Nat → Nat → Prop} {c i m j : Nat} (h : itR R c i m) (h2 : R m j) : itR R (c + 1) i j := itR_app h ⟨j, h2, rfl⟩
theorem Clo.snoc {a b c : Nat} (h : Clo M a b) (h2 : Fk M b c) : Clo M a c := by obtain ⟨n, h⟩ := h; exact ⟨n + 1, itR_snoc h h2⟩
theorem Fk.stp {a b : Nat} (h : Fk M a b) (i : Nat) : Stp M s (a, i) (b, i) := by obtain ⟨h0, x, hx, hk, hb⟩ := h; exact ⟨h0, x, hx, .inl ⟨hk, hb, rfl⟩⟩
theorem Clo.run {a b : Nat} (h : Clo M a b) (i : Nat) : Rch M s (a, i) (b, i) := by
  obtain ⟨c, h⟩ := h
  refine ⟨c, ?_⟩
  induction c generalizing a with
  | zero => obtain rfl : a = b := h; rfl
  | succ c ih => obtain ⟨m, h1, h2⟩ := h; exact ⟨(m, i), h1.stp i, ih h2⟩
theorem Rch.trans {a b c : Nat × Nat} (h : Rch M s a b) (h2 : Rch M s b c) : Rch M s a c := by obtain ⟨m, h⟩ := h; obtain ⟨n, h2⟩ := h2; exact ⟨m + n, h.app h2⟩
theorem Stp.le {a b : Nat × Nat} (h : Stp M s a b) : a.2 ≤ b.2 ∧ b.2 ≤ a.2 + 1 := by
  obtain ⟨_, x, _, ⟨_, _, h⟩ | ⟨_, c, _, _, _, h⟩⟩ := h <;> omega
theorem RunM.le : ∀ {m : Nat} {a b : Nat × Nat}, RunM M s m a b → a.2 ≤ b.2
  | 0, a, b, h => by obtain rfl : a = b := h; exact Nat.le_refl _
  | m + 1, a, b, ⟨c, h1, h2⟩ => Nat.le_trans h1.le.1 (RunM.le h2)
theorem Rch.le {a b : Nat × Nat} (h : Rch M s a b) : a.2 ≤ b.2 := by obtain ⟨_, h⟩ := h; exact h.le
/-- A way within one place is a way over forks. -/
theorem Rch.clo {a b i : Nat} (h : Rch M s (a, i) (b, i)) : Clo M a b := by
  obtain ⟨m, h⟩ := h
  induction m generalizing a with
  | zero => injection (show (a, i) = (b, i) from h) with e _; subst e; exact Clo.rfl' _
  | succ m ih =>
    obtain ⟨⟨c, j⟩, h1, h2⟩ := h
    have e1 := h1.le
    have e2 := RunM.le h2
    simp only at e1 e2
    obtain rfl : j = i := by omega
    obtain ⟨n, hn⟩ := ih h2
    obtain ⟨h0, x, hx, ⟨hk, hb, _⟩ | ⟨_, _, _, _, _, hj⟩⟩ := h1
    · exact ⟨n + 1, c, ⟨h0, x, hx, hk, hb⟩, hn⟩
    · simp only at hj; omega
/-- A way to a later place goes through a state that waits at this one. -/
theorem Rch.cross {a b i k j : Nat} (h : Rch M s (a, i) (b, k)) (h1 : i ≤ j) (h2 : j < k) : ∃ q n, Rch M s (a, i) (q, j) ∧ Waits M q ∧ Stp M s (q, j) (n, j + 1) ∧ Rch M s (n, j + 1) (b, k) := by
  obtain ⟨m, h⟩ := h
  induction m generalizing a i with
  | zero => injection (show (a, i) = (b, k) from h) with _ e; omega
  | succ m ih =>
    obtain ⟨⟨c, y⟩, g1, g2⟩ := h
    have e1 := g1.le
    simp only at e1
    by_cases hy : y ≤ j
    · obtain ⟨q, n, r1, r2, r3, r4⟩ := ih hy g2
      exact ⟨q, n, Rch.trans ⟨1, RunM.one g1⟩ r1, r2, r3, r4⟩
    · obtain rfl : i = j := by omega
      obtain rfl : y = i + 1 := by omega
      obtain ⟨h0, x, hx, ⟨_, _, hj⟩ | ⟨hk, hr⟩⟩ := id g1
      · simp only at hj; omega
      · exact ⟨a, c, ⟨0, rfl⟩, ⟨h0, x, hx, hk⟩, g1, ⟨m, g2⟩⟩
theorem Rch.last {a b i j : Nat} (h : Rch M s (a, i) (b, j + 1)) (h1 : i ≤ j) : ∃ q n, Rch M s (a, i) (q, j) ∧ Waits M q ∧ Stp M s (q, j) (n, j + 1) ∧ Clo M n b := by
  obtain ⟨q, n, r1, r2, r3, r4⟩ := h.cross h1 (Nat.lt_succ_self _)
  exact ⟨q, n, r1, r2, r3, r4.clo⟩
theorem Clo.lt {a b : Nat} (hM : MOk M) (ha : a < M.length) (h : Clo M a b) : b < M.length := by
  obtain ⟨c, h⟩ := h
  induction c generalizing a with
  | zero => obtain rfl : a = b := h; exact ha
  | succ c ih =>
    obtain ⟨m, ⟨_, x, hx, _, hm⟩, h2⟩ := h
    exact ih ((hM.2 a x hx).1 m hm) h2
theorem Stp.lt {a b : Nat × Nat} (hM : MOk M) (h : Stp M s a b) : b.1 < M.length := by
  obtain ⟨_, x, hx, ⟨_, hb, _⟩ | ⟨_, c, _, _, hn, _⟩⟩ := h
  · exact (hM.2 _ x hx).1 _ hb
  · exact (hM.2 _ x hx).1 _ (List.mem_of_getElem? hn)
/-- A waiting state's step at a byte is one. -/
theorem Waits.one {q i a : Nat} {b : Nat × Nat} (hq : Waits M q) (h1 : Stp M s (q, i) (a, i + 1)) (h2 : Stp M s (q, i) b) : b = (a, i + 1) := by
  obtain ⟨_, x, hx, hf⟩ := hq
  obtain ⟨_, y, hy, ⟨hk, _⟩ | ⟨_, _, _, _, hn, _⟩⟩ := h1
  · rw [hx] at hy; obtain rfl := Option.some.inj hy; rw [hf] at hk; cases hk
  · rw [hx] at hy; obtain rfl := Option.some.inj hy
    obtain ⟨_, z, hz, ⟨hk, _⟩ | ⟨_, _, _, _, hn2, h2⟩⟩ := h2
    · simp only at hz; rw [hx] at hz; obtain rfl := Option.some.inj hz; rw [hf] at hk; cases hk
    · simp only at hz hn2 h2; rw [hx] at hz; obtain rfl := Option.some.inj hz
      simp only at hn
      rw [hn] at hn2
      obtain ⟨b1, b2⟩ := b
      simp only at hn2 h2
      rw [Option.some.inj hn2, h2]

/-- What reach does: of the states over forks those that were not marked are marked, and held where they wait. -/
structure ROut (M : List St) (first frm at_ : Nat) (W W' : WS) : Prop where
  len : W'.seen.length = W.seen.length
  mark : ∀ q : Nat, q < M.length → ((W'.seen : List Nat)[q]? = some (at_ + 1) ↔ (W.seen : List Nat)[q]? = some (at_ + 1) ∨ Clo M first q)
  rest : ∀ q : Nat, W'.seen[q]? = W.seen[q]? ∨ W'.seen[q]? = some (at_ + 1)
  held : ∃ hs : List Nat, W'.held = W.held ++ hs.map (fun q => (frm, q)) ∧ hs.Nodup ∧ ∀ q, q ∈ hs ↔ Clo M first q ∧ W.seen[q]? ≠ some (at_ + 1) ∧ Waits M q
  over : (Clo M first 0 ∧ W.seen[0]? ≠ some (at_ + 1) ∧ W'.found = true ∧ W'.frm = frm ∧ W'.to = at_) ∨ (¬ (Clo M first 0 ∧ W.seen[0]? ≠ some (at_ + 1)) ∧ W'.found = W.found ∧ W'.frm = W.frm ∧ W'.to = W.to)

/-- The walk at a place, whose pieces began at places of P. -/
structure HInv (M : List St) (s : List UInt8) (start : Nat) (P : Nat → Prop) (at_ : Nat) (W : WS) : Prop where
  len : W.seen.length = M.length
  le : ∀ (q v : Nat), W.seen[q]? = some v → v ≤ at_ + 1
  clo : ∀ q r : Nat, W.seen[q]? = some (at_ + 1) → Fk M q r → W.seen[r]? = some (at_ + 1)
  sort : W.held.Pairwise fun x y => x.1 ≤ y.1 ∧ x.2 ≠ y.2
  sound : ∀ x, x ∈ W.held → P x.1 ∧ x.1 ≤ at_ ∧ Waits M x.2 ∧ Rch M s (start, x.1) (x.2, at_)
  full : ∀ f q, P f → f ≤ at_ → (W.found = true → f ≤ W.frm) → Waits M q → Rch M s (start, f) (q, at_) → ∃ g, g ≤ f ∧ (g, q) ∈ W.held
  heldmark : ∀ x, x ∈ W.held → W.seen[x.2]? = some (at_ + 1)
  marked : ∀ q : Nat, W.seen[q]? = some (at_ + 1) → Waits M q → ∃ g, (g, q) ∈ W.held
  zero : W.seen[0]? = some (at_ + 1) → W.found = true
  none : W.found = false → ∀ f k, P f → k ≤ at_ → ¬ Rch M s (start, f) (0, k)
  some_ : W.found = true → P W.frm ∧ W.to ≤ at_ ∧ Rch M s (start, W.frm) (0, W.to) ∧ (∀ k, W.to < k → k ≤ at_ → ¬ Rch M s (start, W.frm) (0, k)) ∧ (∀ f, f < W.frm → P f → ∀ k, k ≤ at_ → ¬ Rch M s (start, f) (0, k))
theorem HInv.begin_ {at_ : Nat} (n : Nat) (hn : n = M.length) : HInv M s start (fun _ => False) at_ ⟨List.replicate n 0, [], false, 0, 0⟩ := by
  have h0 : ∀ q v, (List.replicate n 0)[q]? = some v → v = 0 := fun q v h => by
    have := List.mem_of_getElem? h
    exact (List.mem_replicate.1 this).2
  exact ⟨by simp [hn], fun q v h => by rw [h0 q v h]; omega, fun q r h => by have := h0 q _ h; omega, List.Pairwise.nil, (fun x h => nomatch h), (fun f q h => h.elim), (fun x h => nomatch h), fun q h => by have := h0 q _ h; omega,
    fun h => by have := h0 0 _ h; omega, fun _ f k h => h.elim, (fun h => by cases h)⟩
/-- A new place at which pieces begin. -/
theorem HInv.starts {at_ : Nat} {W W' : WS} (hM : MOk M) (hs : start < M.length) (h : HInv M s start P at_ W) (hP : ∀ f, P f → f ≤ at_) (hf : W.found = false) (hr : ROut M start at_ at_ W W') : HInv M s start (fun f => P f ∨ f = at_) at_ W' := by
  obtain ⟨hs', hh, hnd, hmem⟩ := hr.held
  have hlt : ∀ q, Clo M start q → q < M.length := fun q h => h.lt hM hs
  have hz : W.seen[0]? ≠ some (at_ + 1) := fun e => by rw [h.zero e] at hf; cases hf
  have hml : ∀ q : Nat, W.seen[q]? = some (at_ + 1) → W'.seen[q]? = some (at_ + 1) := fun q e => by rcases hr.rest q with e' | e'; rw [e', e]; exact e'
  refine ⟨by rw [hr.len, h.len], fun q v hv => ?_, fun q r hq hqr => ?_, ?_, fun x hx => ?_, fun f q hfP hle hfo hw hrun => ?_, fun x hx => ?_, fun q hq hw => ?_, fun hq => ?_, fun hfo f k hfP hk hrun => ?_, fun hfo => ?_⟩
  · rcases hr.rest q with e | e
    · exact h.le q v (e ▸ hv)
    · rw [e] at hv; rw [← Option.some.inj hv]; exact Nat.le_refl _
  · have hql : q < M.length := by have := (List.getElem?_eq_some_iff.1 hq).1; rw [hr.len, h.len] at this; exact this
    have hrl : r < M.length := by obtain ⟨_, x, hx, _, hm⟩ := hqr; exact (hM.2 q x hx).1 r hm
    rw [hr.mark r hrl]
    rcases (hr.mark q hql).1 hq with e | e
    · exact .inl (h.clo q r e hqr)
    · exact .inr (e.snoc hqr)
  · rw [hh, List.pairwise_append]
    refine ⟨h.sort, ?_, fun x hx y hy => ?_⟩
    · rw [List.pairwise_map]
      exact hnd.imp fun hne => ⟨Nat.le_refl _, hne⟩
    · obtain ⟨q, hq, rfl⟩ := List.mem_map.1 hy
      refine ⟨(h.sound x hx).2.1, fun e => ?_⟩
      exact ((hmem q).1 hq).2.1 ((show x.2 = q from e) ▸ h.heldmark x hx)
  · rw [hh, List.mem_append] at hx
    rcases hx with hx | hx
    · obtain ⟨a, b, c, d⟩ := h.sound x hx; exact ⟨.inl a, b, c, d⟩
    · obtain ⟨q, hq, rfl⟩ := List.mem_map.1 hx
      obtain ⟨c1, _, c3⟩ := (hmem q).1 hq
      exact ⟨.inr rfl, Nat.le_refl _, c3, c1.run at_⟩
  · rw [hh]
    rcases hfP with hfP | rfl
    · obtain ⟨g, hg, hm⟩ := h.full f q hfP hle (fun e => by rw [hf] at e; cases e) hw hrun
      exact ⟨g, hg, List.mem_append_left _ hm⟩
    · by_cases hu : W.seen[q]? = some (f + 1)
      · obtain ⟨g, hm⟩ := h.marked q hu hw
        exact ⟨g, (h.sound _ hm).2.1, List.mem_append_left _ hm⟩
      · exact ⟨f, Nat.le_refl _, List.mem_append_right _ (List.mem_map.2 ⟨q, (hmem q).2 ⟨hrun.clo, hu, hw⟩, rfl⟩)⟩
  · rw [hh, List.mem_append] at hx
    rcases hx with hx | hx
    · exact hml _ (h.heldmark x hx)
    · obtain ⟨q, hq, rfl⟩ := List.mem_map.1 hx
      have c1 := ((hmem q).1 hq).1
      exact (hr.mark q (hlt q c1)).2 (.inr c1)
  · rw [hh]
    have hql : q < M.length := by have := (List.getElem?_eq_some_iff.1 hq).1; rw [hr.len, h.len] at this; exact this
    by_cases hu : W.seen[q]? = some (at_ + 1)
    · obtain ⟨g, hm⟩ := h.marked q hu hw
      exact ⟨g, List.mem_append_left _ hm⟩
    · rcases (hr.mark q hql).1 hq with e | e
      · exact (hu e).elim
      · exact ⟨at_, List.mem_append_right _ (List.mem_map.2 ⟨q, (hmem q).2 ⟨e, hu, hw⟩, rfl⟩)⟩
  · rcases (hr.mark 0 hM.1).1 hq with e | e
    · exact (hz e).elim
    · rcases hr.over with o | o
      · exact o.2.2.1
      · exact (o.1 ⟨e, hz⟩).elim
  · rcases hr.over with o | o
    · rw [o.2.2.1] at hfo; cases hfo
    · rcases hfP with hfP | rfl
      · exact h.none hf f k hfP hk hrun
      · have e := hrun.le
        simp only at e
        obtain rfl : f = k := by omega
        exact o.1 ⟨hrun.clo, hz⟩
  · rcases hr.over with o | o
    · obtain ⟨o1, o2, o3, o4, o5⟩ := o
      rw [o4, o5]
      exact ⟨.inr rfl, Nat.le_refl _, o1.run at_, fun k h1 h2 => by omega, fun f hlt hfP k hk hrun => by
        rcases hfP with hfP | rfl
        · exact h.none hf f k hfP hk hrun
        · omega⟩
    · rw [o.2.1, hf] at hfo; cases hfo
/-- Within a byte's round: so many pieces have met the byte at place at_; V is the walk ahead of it, H what it held. -/
structure MInvW (M : List St) (s : List UInt8) (at_ : Nat) (V : WS) (i : Nat) (W : WS) : Prop where
  len : W.seen.length = M.length
  le : ∀ (q v : Nat), W.seen[q]? = some v → v ≤ at_ + 2
  mark : ∀ q : Nat, q < M.length → (W.seen[q]? = some (at_ + 2) ↔ ∃ x n, x ∈ V.held.take i ∧ Stp M s (x.2, at_) (n, at_ + 1) ∧ Clo M n q)
  sort : W.held.Pairwise fun x y => x.1 ≤ y.1 ∧ x.2 ≠ y.2
  sound : ∀ y, y ∈ W.held → W.seen[y.2]? = some (at_ + 2) ∧ ∃ x n, x ∈ V.held.take i ∧ x.1 = y.1 ∧ Stp M s (x.2, at_) (n, at_ + 1) ∧ Clo M n y.2 ∧ Waits M y.2
  full : ∀ x n q, x ∈ V.held.take i → Stp M s (x.2, at_) (n, at_ + 1) → Clo M n q → Waits M q → ∃ g, g ≤ x.1 ∧ (g, q) ∈ W.held
  over : (W.seen[0]? ≠ some (at_ + 2) ∧ W.found = V.found ∧ W.frm = V.frm ∧ W.to = V.to) ∨
    (W.found = true ∧ W.to = at_ + 1 ∧ (V.found = true → W.frm ≤ V.frm) ∧ (∃ x n, x ∈ V.held.take i ∧ x.1 = W.frm ∧ Stp M s (x.2, at_) (n, at_ + 1) ∧ Clo M n 0) ∧ ∀ x n, x ∈ V.held.take i → Stp M s (x.2, at_) (n, at_ + 1) → Clo M n 0 → W.frm ≤ x.1)
theorem MInvW.begin_ {at_ : Nat} {V : WS} (h : HInv M s start P at_ V) : MInvW M s at_ V 0 ⟨V.seen, [], V.found, V.frm, V.to⟩ := by
  have hno : ∀ q : Nat, V.seen[q]? ≠ some (at_ + 2) := fun q e => by have := h.le q _ e; omega
  exact ⟨h.len, fun q v hv => by have := h.le q v hv; omega, fun q _ => ⟨fun e => (hno q e).elim, fun ⟨x, n, hx, _⟩ => nomatch hx⟩, List.Pairwise.nil, (fun y hy => nomatch hy), (fun x n q hx => nomatch hx), .inl ⟨hno 0, rfl, rfl, rfl⟩⟩
theorem take_mem_succ {α : Type} {H : List α} {i : Nat} {x : α} (hx : H[i]? = some x) (y : α) : y ∈ H.take (i + 1) ↔ y ∈ H.take i ∨ y = x := by
  have hl := (List.getElem?_eq_some_iff.1 hx)
  obtain ⟨hlt, he⟩ := hl
  rw [List.take_add_one, hx]
  simp
/-- A piece whose state doesn't have the byte. -/
theorem MInvW.skip {at_ i : Nat} {V W : WS} {x : Nat × Nat} (h : MInvW M s at_ V i W) (hx : V.held[i]? = some x) (hno : ∀ n, ¬ Stp M s (x.2, at_) (n, at_ + 1)) : MInvW M s at_ V (i + 1) W := by
  have key : ∀ (Q : Nat × Nat → Nat → Prop), (∃ y n, y ∈ V.held.take (i + 1) ∧ Stp M s (y.2, at_) (n, at_ + 1) ∧ Q y n) ↔ ∃ y n, y ∈ V.held.take i ∧ Stp M s (y.2, at_) (n, at_ + 1) ∧ Q y n := fun Q => by
    constructor
    · rintro ⟨y, n, hy, h1, h2⟩
      rcases (take_mem_succ hx y).1 hy with hy | rfl
      · exact ⟨y, n, hy, h1, h2⟩
      · exact (hno n h1).elim
    · rintro ⟨y, n, hy, h1, h2⟩
      exact ⟨y, n, (take_mem_succ hx y).2 (.inl hy), h1, h2⟩
  refine ⟨h.len, h.le, fun q hq => (h.mark q hq).trans (key _).symm, h.sort, fun y hy => ?_, fun y n q hy h1 => ?_, ?_⟩
  · obtain ⟨e, z, n, hz, h1, h2, h3⟩ := h.sound y hy
    exact ⟨e, z, n, (take_mem_succ hx z).2 (.inl hz), h1, h2, h3⟩
  · rcases (take_mem_succ hx y).1 hy with hy | rfl
    · exact h.full y n q hy h1
    · exact (hno n h1).elim
  · rcases h.over with o | ⟨o1, o2, o3, ⟨z, n, hz, h1, h2, h3⟩, o5⟩
    · exact .inl o
    · refine .inr ⟨o1, o2, o3, ⟨z, n, (take_mem_succ hx z).2 (.inl hz), h1, h2, h3⟩, fun y n hy h1 h2 => ?_⟩
      rcases (take_mem_succ hx y).1 hy with hy | rfl
      · exact o5 y n hy h1 h2
      · exact (hno n h1).elim
/-- A piece whose state has the byte. -/
theorem MInvW.step {at_ i n : Nat} {V W W' : WS} {x : Nat × Nat} (hM : MOk M) (hV : HInv M s start P at_ V) (h : MInvW M s at_ V i W) (hx : V.held[i]? = some x) (hst : Stp M s (x.2, at_) (n, at_ + 1)) (hgo : W.found = true → x.1 ≤ W.frm)
    (hr : ROut M n x.1 (at_ + 1) W W') : MInvW M s at_ V (i + 1) W' := by
  obtain ⟨hs', hh, hnd, hmem⟩ := hr.held
  have hxm : x ∈ V.held := List.mem_of_getElem? hx
  have hxw := (hV.sound x hxm).2.2.1
  have hone : ∀ m, Stp M s (x.2, at_) (m, at_ + 1) → m = n := fun m hm => congrArg Prod.fst (hxw.one hst hm)
  have hnl : n < M.length := hst.lt hM
  have hsort : ∀ y, y ∈ V.held.take i → y.1 ≤ x.1 := fun y hy => by
    have hp := hV.sort
    rw [← List.take_append_drop i V.held, List.pairwise_append] at hp
    refine (hp.2.2 y hy x ?_).1
    have hlt := (List.getElem?_eq_some_iff.1 hx).1
    rw [List.drop_eq_getElem_cons hlt]
    rw [List.getElem?_eq_getElem hlt] at hx
    rw [Option.some.inj hx]
    exact List.mem_cons_self ..
  have hml : ∀ q : Nat, W.seen[q]? = some (at_ + 2) → W'.seen[q]? = some (at_ + 2) := fun q e => by rcases hr.rest q with e' | e'; rw [e', e]; exact e'
  refine ⟨by rw [hr.len, h.len], fun q v hv => ?_, fun q hq => ?_, ?_, fun y hy => ?_, fun y m q hy h1 h2 h3 => ?_, ?_⟩
  · rcases hr.rest q with e | e
    · exact h.le q v (e ▸ hv)
    · rw [e] at hv; rw [← Option.some.inj hv]; exact Nat.le_refl _
  · rw [hr.mark q hq, h.mark q hq]
    constructor
    · rintro (⟨y, m, hy, h1, h2⟩ | e)
      · exact ⟨y, m, (take_mem_succ hx y).2 (.inl hy), h1, h2⟩
      · exact ⟨x, n, (take_mem_succ hx x).2 (.inr rfl), hst, e⟩
    · rintro ⟨y, m, hy, h1, h2⟩
      rcases (take_mem_succ hx y).1 hy with hy | rfl
      · exact .inl ⟨y, m, hy, h1, h2⟩
      · rw [hone m h1] at h2; exact .inr h2
  · rw [hh, List.pairwise_append]
    refine ⟨h.sort, ?_, fun y hy z hz => ?_⟩
    · rw [List.pairwise_map]
      exact hnd.imp fun hne => ⟨Nat.le_refl _, hne⟩
    · obtain ⟨q, hq, rfl⟩ := List.mem_map.1 hz
      obtain ⟨e, u, m, hu, hu1, _⟩ := h.sound y hy
      refine ⟨by rw [← hu1]; exact hsort u hu, fun e' => ?_⟩
      exact ((hmem q).1 hq).2.1 ((show y.2 = q from e') ▸ e)
  · rw [hh, List.mem_append] at hy
    rcases hy with hy | hy
    · obtain ⟨e, u, m, hu, h1⟩ := h.sound y hy
      exact ⟨hml _ e, u, m, (take_mem_succ hx u).2 (.inl hu), h1⟩
    · obtain ⟨q, hq, rfl⟩ := List.mem_map.1 hy
      obtain ⟨c1, c2, c3⟩ := (hmem q).1 hq
      exact ⟨(hr.mark q (c1.lt hM hnl)).2 (.inr c1), x, n, (take_mem_succ hx x).2 (.inr rfl), rfl, hst, c1, c3⟩
  · rw [hh]
    rcases (take_mem_succ hx y).1 hy with hy | rfl
    · obtain ⟨g, hg, hm⟩ := h.full y m q hy h1 h2 h3
      exact ⟨g, hg, List.mem_append_left _ hm⟩
    · rw [hone m h1] at h2
      by_cases hu : W.seen[q]? = some (at_ + 1 + 1)
      · obtain ⟨z, k, hz, h4, h5⟩ := (h.mark q (h2.lt hM hnl)).1 hu
        obtain ⟨g, hg, hm⟩ := h.full z k q hz h4 h5 h3
        exact ⟨g, Nat.le_trans hg (hsort z hz), List.mem_append_left _ hm⟩
      · exact ⟨y.1, Nat.le_refl _, List.mem_append_right _ (List.mem_map.2 ⟨q, (hmem q).2 ⟨h2, hu, h3⟩, rfl⟩)⟩
  · rcases hr.over with ⟨o1, o2, o3, o4, o5⟩ | ⟨o1, o2, o3, o4⟩
    · rcases h.over with ⟨p1, p2, p3, p4⟩ | ⟨_, _, _, ⟨z, m, hz, _, h5, h6⟩, _⟩
      · refine .inr ⟨o3, o5, fun hf => by rw [o4, ← p3]; exact hgo (p2.trans hf), ⟨x, n, (take_mem_succ hx x).2 (.inr rfl), o4.symm, hst, o1⟩, fun y m hy h1 h2 => ?_⟩
        rcases (take_mem_succ hx y).1 hy with hy | rfl
        · exact (p1 ((h.mark 0 hM.1).2 ⟨y, m, hy, h1, h2⟩)).elim
        · rw [o4]; exact Nat.le_refl _
      · exact (o2 ((h.mark 0 hM.1).2 ⟨z, m, hz, h5, h6⟩)).elim
    · rcases h.over with ⟨p1, p2, p3, p4⟩ | ⟨p1, p2, p3, ⟨z, m, hz, h4, h5, h6⟩, p5⟩
      · refine .inl ⟨fun e => ?_, o2.trans p2, o3.trans p3, o4.trans p4⟩
        rcases (hr.mark 0 hM.1).1 e with e' | e'
        · exact p1 e'
        · exact o1 ⟨e', p1⟩
      · refine .inr ⟨o2.trans p1, o4.trans p2, fun hf => by rw [o3]; exact p3 hf, ⟨z, m, (take_mem_succ hx z).2 (.inl hz), h4.trans o3.symm, h5, h6⟩, fun y k hy h1 h2 => ?_⟩
        rw [o3]
        rcases (take_mem_succ hx y).1 hy with hy | rfl
        · exact p5 y k hy h1 h2
        · exact Nat.le_trans (p5 z m hz h5 h6) (hsort z hz)
/-- The round is over: all pieces have met the byte, or all that began in time. -/
theorem MInvW.done {at_ i : Nat} {V W : WS} (hM : MOk M) (hV : HInv M s start P at_ V) (hP : ∀ f, P f → f ≤ at_) (h : MInvW M s at_ V i W)
    (hend : V.held.length ≤ i ∨ ∃ x, V.held[i]? = some x ∧ W.found = true ∧ W.frm < x.1) : HInv M s start P (at_ + 1) W := by
  have hproc : ∀ x, x ∈ V.held → (W.found = true → x.1 ≤ W.frm) → x ∈ V.held.take i := fun x hx hf => by
    rcases hend with he | ⟨y, hy, h1, h2⟩
    · rw [List.take_of_length_le he]; exact hx
    · have hp := hV.sort
      rw [← List.take_append_drop i V.held] at hx
      rcases List.mem_append.1 hx with hx | hx
      · exact hx
      · have hlt := (List.getElem?_eq_some_iff.1 hy).1
        have hd := List.drop_eq_getElem_cons hlt
        rw [List.getElem?_eq_getElem hlt] at hy
        rw [Option.some.inj hy] at hd
        rw [← List.take_append_drop i V.held, List.pairwise_append, hd, List.pairwise_cons] at hp
        rw [hd] at hx
        have := hf h1
        rcases List.mem_cons.1 hx with rfl | hx
        · omega
        · have := (hp.2.1.1 x hx).1; omega
  have hfr : V.found = true → W.found = true ∧ W.frm ≤ V.frm := fun hf => by
    rcases h.over with ⟨_, o2, o3, _⟩ | ⟨o1, _, o3, _⟩
    · exact ⟨o2.trans hf, Nat.le_of_eq o3⟩
    · exact ⟨o1, o3 hf⟩
  have dec : ∀ f q, P f → (W.found = true → f ≤ W.frm) → Rch M s (start, f) (q, at_ + 1) → ∃ x n, x ∈ V.held.take i ∧ x.1 ≤ f ∧ Stp M s (x.2, at_) (n, at_ + 1) ∧ Clo M n q := fun f q hf hfo hrun => by
    obtain ⟨q0, n, r1, r2, r3, r4⟩ := hrun.last (hP f hf)
    obtain ⟨g, hg, hm⟩ := hV.full f q0 hf (hP f hf) (fun e => by have := hfr e; have := hfo this.1; omega) r2 r1
    exact ⟨(g, q0), n, hproc _ hm (fun e => Nat.le_trans hg (hfo e)), hg, r3, r4⟩
  have hH : ∀ x, x ∈ V.held.take i → x ∈ V.held := fun x hx => List.mem_of_mem_take hx
  have z0 : ∀ x n, x ∈ V.held.take i → Stp M s (x.2, at_) (n, at_ + 1) → Clo M n 0 → W.seen[0]? = some (at_ + 2) := fun x n h1 h2 h3 => (h.mark 0 hM.1).2 ⟨x, n, h1, h2, h3⟩
  have hlen : ∀ q v : Nat, W.seen[q]? = some v → q < M.length := fun q v hq => by have := (List.getElem?_eq_some_iff.1 hq).1; rw [h.len] at this; exact this
  refine ⟨h.len, h.le, fun q r hq hqr => ?_, h.sort, fun x hx => ?_, fun f q hfP hle hfo hw hrun => ?_, fun x hx => (h.sound x hx).1, fun q hq hw => ?_, fun hq => ?_, fun hfo f k hfP hk hrun => ?_, fun hfo => ?_⟩
  · have hrl : r < M.length := by obtain ⟨_, x, hx, _, hm⟩ := hqr; exact (hM.2 q x hx).1 r hm
    obtain ⟨x, n, h1, h2, h3⟩ := (h.mark q (hlen q _ hq)).1 hq
    exact (h.mark r hrl).2 ⟨x, n, h1, h2, h3.snoc hqr⟩
  · obtain ⟨_, y, n, h1, h2, h3, h4, h5⟩ := h.sound x hx
    obtain ⟨a, b, c, d⟩ := hV.sound y (hH y h1)
    rw [h2] at a b d
    exact ⟨a, by omega, h5, d.trans (Rch.trans ⟨1, RunM.one h3⟩ (h4.run _))⟩
  · obtain ⟨x, n, h1, h2, h3, h4⟩ := dec f q hfP hfo hrun
    obtain ⟨g, hg, hm⟩ := h.full x n q h1 h3 h4 hw
    exact ⟨g, Nat.le_trans hg h2, hm⟩
  · obtain ⟨x, n, h1, h2, h3⟩ := (h.mark q (hlen q _ hq)).1 hq
    obtain ⟨g, _, hm⟩ := h.full x n q h1 h2 h3 hw
    exact ⟨g, hm⟩
  · rcases h.over with ⟨o1, _⟩ | ⟨o1, _⟩
    · exact (o1 hq).elim
    · exact o1
  · rcases h.over with ⟨o1, o2, _⟩ | ⟨o1, _⟩
    · by_cases hk' : k ≤ at_
      · exact hV.none (o2 ▸ hfo) f k hfP hk' hrun
      · obtain rfl : k = at_ + 1 := by omega
        obtain ⟨x, n, h1, _, h3, h4⟩ := dec f 0 hfP (fun e => by rw [hfo] at e; cases e) hrun
        exact o1 (z0 x n h1 h3 h4)
    · rw [hfo] at o1; cases o1
  · rcases h.over with ⟨o1, o2, o3, o4⟩ | ⟨o1, o2, o3, ⟨x, n, h1, h2, h3, h4⟩, o5⟩
    · obtain ⟨a, b, c, e, f⟩ := hV.some_ (o2 ▸ hfo)
      rw [o3, o4]
      refine ⟨a, by omega, c, fun k hk1 hk2 hrun => ?_, fun f' hf' hfP k hk hrun => ?_⟩
      · by_cases hk' : k ≤ at_
        · exact e k hk1 hk' hrun
        · obtain rfl : k = at_ + 1 := by omega
          obtain ⟨x, n, h1, _, h3, h4⟩ := dec V.frm 0 a (fun _ => by rw [o3]; exact Nat.le_refl _) hrun
          exact o1 (z0 x n h1 h3 h4)
      · by_cases hk' : k ≤ at_
        · exact f f' hf' hfP k hk' hrun
        · obtain rfl : k = at_ + 1 := by omega
          obtain ⟨x, n, h1, _, h3, h4⟩ := dec f' 0 hfP (fun _ => by rw [o3]; omega) hrun
          exact o1 (z0 x n h1 h3 h4)
    · obtain ⟨a, b, c, d⟩ := hV.sound x (hH x h1)
      rw [h2] at a d
      rw [o2]
      refine ⟨a, Nat.le_refl _, d.trans (Rch.trans ⟨1, RunM.one h3⟩ (h4.run _)), fun k hk1 hk2 => by omega, fun f' hf' hfP k hk hrun => ?_⟩
      by_cases hk' : k ≤ at_
      · cases hvf : V.found with
        | true => exact (hV.some_ hvf).2.2.2.2 f' (by have := o3 hvf; omega) hfP k hk' hrun
        | false => exact hV.none hvf f' k hfP hk' hrun
      · obtain rfl : k = at_ + 1 := by omega
        obtain ⟨y, m, g1, g2, g3, g4⟩ := dec f' 0 hfP (fun _ => by omega) hrun
        have := o5 y m g1 g3 g4
        omega
/-- Nothing is held: nothing more is over. -/
theorem HInv.empty {at_ : Nat} {W : WS} (h : HInv M s start P at_ W) (hP : ∀ f, P f → f ≤ at_) (he : W.held = []) {f k : Nat} (hf : P f) (hfo : W.found = true → f ≤ W.frm) (hk : at_ < k) : ¬ Rch M s (start, f) (0, k) := fun hrun => by
  obtain ⟨q, n, r1, r2, _, _⟩ := hrun.cross (hP f hf) hk
  obtain ⟨g, _, hm⟩ := h.full f q hf (hP f hf) hfo r2 r1
  rw [he] at hm
  exact nomatch hm
theorem long_end {frm at_ n : Nat} {W : WS} (h : HInv M s start (fun f => False ∨ f = frm) at_ W) (hle : frm ≤ at_) (hat : at_ ≤ n) (hend : at_ = n ∨ W.held = []) :
    (W.found = false → ∀ k, k ≤ n → ¬ Rch M s (start, frm) (0, k)) ∧ (W.found = true → W.to ≤ n ∧ Rch M s (start, frm) (0, W.to) ∧ ∀ k, W.to < k → k ≤ n → ¬ Rch M s (start, frm) (0, k)) := by
  have hP : ∀ f, (False ∨ f = frm) → f ≤ at_ := fun f hf => by rcases hf with hf | rfl; exact hf.elim; exact hle
  refine ⟨fun hf k hk hrun => ?_, fun hf => ?_⟩
  · by_cases hk' : k ≤ at_
    · exact h.none hf frm k (.inr rfl) hk' hrun
    · rcases hend with rfl | he
      · exact hk' hk
      · exact h.empty hP he (.inr rfl) (fun e => by rw [hf] at e; cases e) (by omega) hrun
  · obtain ⟨a, b, c, d, _⟩ := h.some_ hf
    rcases a with a | a
    · exact a.elim
    · rw [a] at c d
      refine ⟨by omega, c, fun k h1 h2 hrun => ?_⟩
      by_cases hk' : k ≤ at_
      · exact d k h1 hk' hrun
      · rcases hend with rfl | he
        · exact hk' h2
        · exact h.empty hP he (.inr rfl) (fun _ => by omega) (by omega) hrun
theorem find_end {a at_ n : Nat} {W : WS} (h : HInv M s start (fun f => f ≤ a) at_ W) (ha : W.found = false → a = at_) (hle : a ≤ at_) (hat : at_ ≤ n) (hend : at_ = n ∨ W.held = []) :
    (W.found = false → ∀ f k, k ≤ n → ¬ Rch M s (start, f) (0, k)) ∧
    (W.found = true → W.frm ≤ W.to ∧ W.to ≤ n ∧ Rch M s (start, W.frm) (0, W.to) ∧ (∀ k, W.to < k → k ≤ n → ¬ Rch M s (start, W.frm) (0, k)) ∧ ∀ f, f < W.frm → ∀ k, k ≤ n → ¬ Rch M s (start, f) (0, k)) := by
  have hP : ∀ f, f ≤ a → f ≤ at_ := fun f hf => Nat.le_trans hf hle
  refine ⟨fun hf f k hk hrun => ?_, fun hf => ?_⟩
  · have hfk := hrun.le
    simp only at hfk
    have haa := ha hf
    have hnf : W.found = true → ∀ x : Prop, x := fun e => by rw [hf] at e; cases e
    by_cases hk' : k ≤ at_
    · exact h.none hf f k (by omega) hk' hrun
    · rcases hend with rfl | he
      · exact hk' hk
      · by_cases hfa : f ≤ a
        · exact h.empty hP he hfa (fun e => hnf e _) (by omega) hrun
        · by_cases e : f = k
          · subst e
            exact h.none hf at_ at_ (by omega) (Nat.le_refl _) (hrun.clo.run at_)
          · obtain ⟨q, n', r1, r2, _, _⟩ := hrun.cross (Nat.le_refl f) (by omega)
            obtain ⟨g, _, hm⟩ := h.full at_ q (by omega) (Nat.le_refl _) (fun e => hnf e _) r2 (r1.clo.run at_)
            rw [he] at hm
            exact nomatch hm
  · obtain ⟨b, c, d, e, g⟩ := h.some_ hf
    refine ⟨d.le, by omega, d, fun k h1 h2 hrun => ?_, fun f hf' k hk hrun => ?_⟩
    · by_cases hk' : k ≤ at_
      · exact e k h1 hk' hrun
      · rcases hend with rfl | he
        · exact hk' h2
        · exact h.empty hP he b (fun _ => Nat.le_refl _) (by omega) hrun
    · by_cases hk' : k ≤ at_
      · exact g f hf' (by omega) k hk' hrun
      · rcases hend with rfl | he
        · exact hk' hk
        · exact h.empty hP he (by omega) (fun _ => by omega) (by omega) hrun
/-- How many pieces are held. -/
theorem nodup_le : ∀ (n : Nat) (l : List Nat), l.Nodup → (∀ x, x ∈ l → x < n) → l.length ≤ n
  | 0, l, _, h => by
    match l with
    | [] => exact Nat.le_refl _
    | x :: _ => exact absurd (h x (List.mem_cons_self ..)) (by omega)
  | n + 1, l, hn, h => by
    have h1 := nodup_le n (l.filter fun x => decide (x ≠ n)) (hn.filter _) (fun x hx => by
      have := (List.mem_filter.1 hx)
      have h2 := h x this.1
      have h3 : x ≠ n := by simpa using this.2
      omega)
    have h2 : l.length ≤ (l.filter fun x => decide (x ≠ n)).length + 1 := by
      clear h h1
      induction l with
      | nil => simp
      | cons x l ih =>
        rw [List.nodup_cons] at hn
        by_cases e : x = n
        · subst e
          rw [List.filter_cons_of_neg (by simp), List.filter_eq_self.2]
          · simp
          · intro a ha; simp; rintro rfl; exact hn.1 ha
        · rw [List.filter_cons_of_pos (by simpa using e)]
          have := ih hn.2
          simp only [List.length_cons]; omega
    omega
theorem HInv.few {at_ : Nat} {W : WS} (h : HInv M s start P at_ W) : W.held.length ≤ M.length := by
  have h1 : (W.held.map Prod.snd).Nodup := by
    rw [List.Nodup, List.pairwise_map]
    exact h.sort.imp fun hxy => hxy.2
  have := nodup_le M.length _ h1 (fun x hx => by
    obtain ⟨y, hy, rfl⟩ := List.mem_map.1 hx
    obtain ⟨_, x, hx, _⟩ := (h.sound y hy).2.2.1
    exact (List.getElem?_eq_some_iff.1 hx).1)
  rwa [List.length_map] at this
end
end Go.Proofs.Ytjnhmcgjeljcmaa
