/- Two buffers that a law has made, and a row of the law's own beside them. -/
import Derived.Test.YtmcapiikplflkaaBh
namespace Go.Proofs.Ytmcapiikplflkaa
open Go.RowKit Go.Maps

/-- An append at a guarded step, its run known. -/
theorem wpList_append_run_g {w w' : World} {ops : Array Oper} {rest : List Oper} {o : Oper} {a : Act} {Q : Exit → Act → World → Prop} (hgd : Region.wanted o (yielded ops a.tmps) = true) (s x : Operand) (t : TypeId)
    (ho : o.op = .call { callee := .builtin .append, args := #[s, x], argTypes := #[t, t] }) (v u r : Value) (hs : a.eval s = v) (hx : a.eval x = u)
    (hrun : (Builtin.append_ #[t, t] o.type #[v, u]).run Try.prog w = .ok r w') (h : wpList Try.prog ops Q rest (a.put o.dst r) w') : wpList Try.prog ops Q (o :: rest) a w := by
  refine wpList_step fun K hK => ?_
  rw [if_pos hgd]
  unfold Oper.wp execOp
  simp only [ho, resolve, invoke, builtin, Sem.run_bind, Sem.run_pure, Result.andThen_ok, List.map_toArray, List.map_cons, List.map_nil, hs, hx, hrun]
  exact hK _ _ h
structure Two (w0 w : World) (ap bp : Nat) (X Y : Nat → Prop) (us : List UInt8) (am : Nat) (ag : Int) (bs : List UInt8) (bm : Nat) (bg : Int) : Prop where
  a : BS w0 w ap X us am ag
  b : BS w0 w bp Y bs bm bg
  dis : ∀ j, X j → ¬ Y j
/-- A row beside them. -/
def Far (w0 : World) (A : Option Addr) (X Y : Nat → Prop) : Prop := ∀ j, InB A j → ¬ X j ∧ ¬ Y j ∧ w0.heap.size ≤ j
section
variable {w0 w w' : World} {ap bp : Nat} {A B : Option Addr} {X X' Y Z : Nat → Prop} {n c m d am bm : Nat} {us us' bs bs' xs ys : List UInt8} {ag ag' bg bg' : Int}
theorem Two.kept (h : Two w0 w ap bp X Y us am ag bs bm bg) (hk : Kept Z w w') (hZ : ∀ j, Z j → ¬ X j ∧ ¬ Y j ∧ w0.heap.size ≤ j) : Two w0 w' ap bp X Y us am ag bs bm bg :=
  ⟨h.a.kept hk (fun j hj hz => (hZ j hz).1 hj) (fun j hz => (hZ j hz).2.2), h.b.kept hk (fun j hj hz => (hZ j hz).2.1 hj) (fun j hz => (hZ j hz).2.2), h.dis⟩
theorem Two.below (h : Two w0 w ap bp X Y us am ag bs bm bg) (hb : Below w.heap.size w w') : Two w0 w' ap bp X Y us am ag bs bm bg := ⟨h.a.below hb, h.b.below hb, h.dis⟩
theorem Two.left (h : Two w0 w ap bp X Y us am ag bs bm bg) (ha : Aft w0 w ap X us' am ag' w') : ∃ X', Two w0 w' ap bp X' Y us' am ag' bs bm bg ∧ Kept X w w' ∧ ∀ j, X' j → X j ∨ w.heap.size ≤ j := by
  obtain ⟨X', h1, hk, hs⟩ := ha
  exact ⟨X', ⟨h1, h.b.kept hk (fun j hy hx => h.dis j hx hy) h.a.own, fun j hx hy => by
    rcases hs j hx with h2 | h2
    · exact h.dis j h2 hy
    · have := (h.b.inn j hy).1; omega⟩, hk, hs⟩
theorem Two.right (h : Two w0 w ap bp X Y us am ag bs bm bg) (ha : Aft w0 w bp Y bs' bm bg' w') : ∃ Y', Two w0 w' ap bp X Y' us am ag bs' bm bg' ∧ Kept Y w w' ∧ ∀ j, Y' j → Y j ∨ w.heap.size ≤ j := by
  obtain ⟨Y', h1, hk, hs⟩ := ha
  exact ⟨Y', ⟨h.a.kept hk h.dis h.b.own, h1, fun j hx hy => by
    rcases hs j hy with h2 | h2
    · exact h.dis j hx h2
    · have := (h.a.inn j hx).1; omega⟩, hk, hs⟩
theorem Two.turnA (h : Two w0 w ap bp X Y us am ag bs bm bg) (h1 : BS w0 w' ap X us' am ag') (hk : Kept X w w') : Two w0 w' ap bp X Y us' am ag' bs bm bg :=
  ⟨h1, h.b.kept hk (fun j hy hx => h.dis j hx hy) h.a.own, h.dis⟩
theorem Two.turnB (h : Two w0 w ap bp X Y us am ag bs bm bg) (h1 : BS w0 w' bp Y bs' bm bg') (hk : Kept Y w w') : Two w0 w' ap bp X Y us am ag bs' bm bg' :=
  ⟨h.a.kept hk h.dis h.b.own, h1, h.dis⟩
theorem two_new (k : Int) (h : BS w0 w ap X us am ag) : Calls Try.prog 42 #[.int .i64 k] w fun e w' => e = .returned (.pointer (some ⟨w.heap.size, 0, none⟩)) ∧ Two w0 w' ap w.heap.size X (fun j => j = w.heap.size) us am ag [] (mostOf k) 0 :=
  (bs_new k w h.old).mono fun e w' ⟨he, h1, hb, hs⟩ => ⟨he, h.below hb, h1, fun j hj e => by have := (h.inn j hj).1; omega⟩
/-- A row stays while something else turns. -/
theorem far_row (hr : RowAt w A n c xs) (hf : Far w0 A X Y) (hk : Kept Z w w') (hZ : ∀ j, Z j → X j ∨ Y j) : RowAt w' A n c xs := hr.kept hk fun b hb hz => by
  rcases hZ b hz with h | h
  · exact (hf b hb).1 h
  · exact (hf b hb).2.1 h
/-- Bytes more behind a row. -/
theorem Two.push (h : Two w0 w ap bp X Y us am ag bs bm bg) (ty : TypeId) (hr : RowAt w A n c xs) (hf : Far w0 A X Y) (hx : BytesAt w B m ys) (hl : n + m ≤ 140737488355328) :
    ∃ A' c' w', (Builtin.append_ #[30, 30] ty #[.slice A n c, .slice B m d]).run Try.prog w = .ok (.slice A' (n + m) c') w' ∧ RowAt w' A' (n + m) c' (xs ++ ys) ∧ Far w0 A' X Y ∧ Two w0 w' ap bp X Y us am ag bs bm bg ∧ Kept (InB A) w w' ∧ ∀ j, InB A' j → InB A j ∨ w.heap.size ≤ j := by
  obtain ⟨A', c', w', h1, h2, h3, h4⟩ := row_append (d := d) ty hr hx hl
  refine ⟨A', c', w', h1, h2, fun j hj => ?_, h.kept h3 hf, h3, h4⟩
  rcases h4 j hj with h5 | h5
  · exact hf j h5
  · have hs := h.a.old.size
    exact ⟨fun hx => by have := (h.a.inn j hx).1; omega, fun hx => by have := (h.b.inn j hx).1; omega, by omega⟩
theorem far_new (h : Two w0 w ap bp X Y us am ag bs bm bg) (hA : ∀ j, InB A j → w.heap.size ≤ j) : Far w0 A X Y := fun j hj => by
  have h5 := hA j hj
  have hs := h.a.old.size
  exact ⟨fun hx => by have := (h.a.inn j hx).1; omega, fun hx => by have := (h.b.inn j hx).1; omega, by omega⟩
end
end Go.Proofs.Ytmcapiikplflkaa
