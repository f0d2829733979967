/- Two sessions that a law has made of one stream, and a row of the law's own beside them. -/
import Derived.Test.YtmcapiikplflkaaNe
import Derived.Test.YtmcapiikplflkaaBi
namespace Go.Proofs.Ytmcapiikplflkaa
open Go.RowKit Go.Maps

structure TwoL (w0 w : World) (pa pb : Nat) (X R Y Q : Nat → Prop) (s t : Ls) : Prop where
  a : LS w0 w pa X R s
  b : LS w0 w pb Y Q t
  dis : ∀ j, X j ∨ R j → ¬ (Y j ∨ Q j)
def FarL (w0 : World) (A : Option Addr) (X R Y Q : Nat → Prop) : Prop := ∀ j, InB A j → ¬ (X j ∨ R j) ∧ ¬ (Y j ∨ Q j) ∧ w0.heap.size ≤ j
section
variable {w0 w w' : World} {pa pb : Nat} {X X' R Y Q Z : Nat → Prop} {s s' t t' : Ls} {A B : Option Addr} {n c m d : Nat} {xs ys : List UInt8}
theorem TwoL.kept (h : TwoL w0 w pa pb X R Y Q s t) (hk : Kept Z w w') (hZ : ∀ j, Z j → ¬ (X j ∨ R j) ∧ ¬ (Y j ∨ Q j) ∧ w0.heap.size ≤ j) : TwoL w0 w' pa pb X R Y Q s t :=
  ⟨h.a.kept hk (fun j hj hz => (hZ j hz).1 hj) (fun j hz => (hZ j hz).2.2), h.b.kept hk (fun j hj hz => (hZ j hz).2.1 hj) (fun j hz => (hZ j hz).2.2), h.dis⟩
theorem TwoL.below (h : TwoL w0 w pa pb X R Y Q s t) (hb : Below w.heap.size w w') : TwoL w0 w' pa pb X R Y Q s t := ⟨h.a.below hb, h.b.below hb, h.dis⟩
theorem TwoL.turnA (h : TwoL w0 w pa pb X R Y Q s t) (h1 : LS w0 w' pa X R s') (hk : Kept X w w') : TwoL w0 w' pa pb X R Y Q s' t :=
  ⟨h1, h.b.kept hk (fun j hy hx => h.dis j (.inl hx) hy) h.a.own, h.dis⟩
theorem TwoL.turnB (h : TwoL w0 w pa pb X R Y Q s t) (h1 : LS w0 w' pb Y Q t') (hk : Kept Y w w') : TwoL w0 w' pa pb X R Y Q s t' :=
  ⟨h.a.kept hk (fun j hx hy => h.dis j hx (.inl hy)) h.b.own, h1, h.dis⟩
theorem TwoL.left (h : TwoL w0 w pa pb X R Y Q s t) (ha : AftL w0 w pa X R s' w') : ∃ X', TwoL w0 w' pa pb X' R Y Q s' t ∧ Kept X w w' ∧ ∀ j, X' j → X j ∨ w.heap.size ≤ j := by
  obtain ⟨X', h1, hk, hs⟩ := ha
  refine ⟨X', ⟨h1, h.b.kept hk (fun j hy hx => h.dis j (.inl hx) hy) h.a.own, fun j hx hy => ?_⟩, hk, hs⟩
  rcases hx with hx | hx
  · rcases hs j hx with h2 | h2
    · exact h.dis j (.inl h2) hy
    · have := (h.b.inn j hy).1; omega
  · exact h.dis j (.inr hx) hy
theorem farL_new (h : TwoL w0 w pa pb X R Y Q s t) (hA : ∀ j, InB A j → w.heap.size ≤ j) : FarL w0 A X R Y Q := fun j hj => ⟨(h.a.new (hA j hj)).1, (h.b.new (hA j hj)).1, (h.a.new (hA j hj)).2⟩
theorem TwoL.push (h : TwoL w0 w pa pb X R Y Q s t) (ty : TypeId) (hr : RowAt w A n c xs) (hf : FarL w0 A X R Y Q) (hx : BytesAt w B m ys) (hl : n + m ≤ 140737488355328) :
    ∃ A' c' w', (Builtin.append_ #[30, 30] ty #[.slice A n c, .slice B m d]).run Try.prog w = .ok (.slice A' (n + m) c') w' ∧ RowAt w' A' (n + m) c' (xs ++ ys) ∧ FarL w0 A' X R Y Q ∧ TwoL w0 w' pa pb X R Y Q s t ∧ Kept (InB A) w w' := by
  obtain ⟨A', c', w', h1, h2, h3, h4⟩ := row_append (d := d) ty hr hx hl
  refine ⟨A', c', w', h1, h2, fun j hj => ?_, h.kept h3 hf, h3⟩
  rcases h4 j hj with h5 | h5
  · exact hf j h5
  · exact ⟨(h.a.new h5).1, (h.b.new h5).1, (h.a.new h5).2⟩
/-- Two sessions opened, the one behind the other. -/
theorem two_open (h : LS w0 w pa X R s) (h1 : LS w w' pb Y Q t) : TwoL w0 w' pa pb X R Y Q s t :=
  ⟨h.below h1.old, ⟨h1.at_, fun j hj => ⟨(h1.inn j hj).1, by have := (h1.inn j hj).2; have := h.old.size; omega⟩, h1.dis, h.old.trans (h1.old.mono h.old.size)⟩, fun j hx hy => by
    have := (h.inn j hx).1
    have := (h1.inn j hy).2
    omega⟩
theorem TwoL.swap (h : TwoL w0 w pa pb X R Y Q s t) : TwoL w0 w pb pa Y Q X R t s := ⟨h.b, h.a, fun j hy hx => h.dis j hx hy⟩
end
/-- What is sent hangs on nothing. -/
theorem nextS_sent (s : Ls) (x : List UInt8) (l : Int) : nextS { s with sent := x } l = ((nextS s l).1, (nextS s l).2.1, { (nextS s l).2.2 with sent := x }) := by
  unfold nextS
  cases s.ds with
  | nil =>
    simp only
    by_cases h1 : s.fin = 1 ∨ s.fin = 2
    · simp only [if_pos h1]
      by_cases h2 : max l s.now < s.last + tk s.wait
      · simp only [if_pos h2]
      · simp only [if_neg h2]
    · simp only [if_neg h1]
  | cons k r =>
    simp only
    by_cases h2 : max l s.now < s.last + tk k.1
    · simp only [if_pos h2]
    · simp only [if_neg h2]
theorem nextS_last (s : Ls) (l : Int) (h : 0 ≤ s.last) : 0 ≤ (nextS s l).2.2.last ∧ (nextS s l).2.2.last ≤ s.last + 1000000 := by
  unfold nextS
  cases s.ds with
  | nil =>
    simp only
    by_cases h1 : s.fin = 1 ∨ s.fin = 2
    · simp only [if_pos h1]
      by_cases h2 : max l s.now < s.last + tk s.wait
      · simp only [if_pos h2]; omega
      · simp only [if_neg h2]; omega
    · simp only [if_neg h1]; omega
  | cons k r =>
    have := tk_bd k.1
    simp only
    by_cases h2 : max l s.now < s.last + tk k.1
    · simp only [if_pos h2]; omega
    · simp only [if_neg h2]; omega
theorem nextS_same (s : Ls) (l : Int) : (nextS s l).2.2.sent = s.sent := by
  unfold nextS
  cases s.ds with
  | nil =>
    simp only
    by_cases h1 : s.fin = 1 ∨ s.fin = 2
    · simp only [if_pos h1]
      by_cases h2 : max l s.now < s.last + tk s.wait
      · simp only [if_pos h2]
      · simp only [if_neg h2]
    · simp only [if_neg h1]
  | cons k r =>
    simp only
    by_cases h2 : max l s.now < s.last + tk k.1
    · simp only [if_pos h2]
    · simp only [if_neg h2]
/-- No chunk is beyond the reach. -/
def Small (s : Ls) : Prop := ∀ d ∈ s.ds, d.2.length ≤ 140737488355328
theorem nextS_small (s : Ls) (l : Int) (h : Small s) : (nextS s l).2.1.length ≤ 140737488355328 ∧ Small (nextS s l).2.2 := by
  unfold nextS
  unfold Small at h ⊢
  cases hd : s.ds with
  | nil =>
    rw [hd] at h
    simp only
    by_cases h1 : s.fin = 1 ∨ s.fin = 2
    · simp only [if_pos h1]
      by_cases h2 : max l s.now < s.last + tk s.wait
      · simp only [if_pos h2]; exact ⟨by simp, by (first | exact h | (rw [hd]; exact h))⟩
      · simp only [if_neg h2]; exact ⟨by simp, by (first | exact h | (rw [hd]; exact h))⟩
    · simp only [if_neg h1]; exact ⟨by simp, by (first | exact h | (rw [hd]; exact h))⟩
  | cons k r =>
    rw [hd] at h
    simp only
    by_cases h2 : max l s.now < s.last + tk k.1
    · simp only [if_pos h2]; exact ⟨by simp, by (first | exact h | (rw [hd]; exact h))⟩
    · simp only [if_neg h2]; exact ⟨h k (List.mem_cons_self ..), fun d hd => h d (List.mem_cons_of_mem _ hd)⟩
theorem small_arg {w : World} {A : Option Addr} {n : Nat} {cks : List Ck} (h : ArgCh w A n cks) (fin wait : Int) : Small ⟨plainD cks, fin, wait, 0, 0, []⟩ := fun d hd => by
  obtain ⟨k, hk, rfl⟩ := List.mem_map.1 hd
  have := h.2.2.1 k hk
  show k.bs.length ≤ _
  rw [this.1.1]; exact this.2
end Go.Proofs.Ytmcapiikplflkaa
