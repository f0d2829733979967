/- Files by rising names, in plain words; the map that holds them. -/
import Derived.Maps.OwnSet
import Derived.Maps.Ext
import Derived.Sort.KeysCollected
namespace Go.Proofs.YtdhiofbimebbkaaDoor
open Go.RowKit Go.Maps

/-- A file: its name, its bytes, how many are safe; its block, the slice of its bytes. -/
structure Fl where
  name : List UInt8
  bytes : List UInt8
  safe : Nat
  fb : Nat
  v : Value
def ent (f : Fl) : Lit × DataW Unit := (.string f.name, .lit (.int .i64 (f.fb : Nat)))
def dOf (M : List Fl) : DataW Unit := .map (M.map ent)
def Rise (M : List Fl) : Prop := M.Pairwise (fun f g => bytesBefore f.name g.name = true)
def look (nm : List UInt8) (M : List Fl) : Option Fl := M.find? (fun f => f.name == nm)
def delF (nm : List UInt8) (M : List Fl) : List Fl := M.filter (fun f => !(f.name == nm))
def insF (x : Fl) : List Fl → List Fl
  | [] => [x]
  | y :: r => if bytesBefore x.name y.name then x :: y :: r else y :: insF x r
def updF (x : Fl) (M : List Fl) : List Fl := M.map (fun f => if f.name == x.name then x else f)

theorem dOf_del (nm : List UInt8) (M : List Fl) : (dOf M).del (.string nm) = dOf (delF nm M) := by
  unfold dOf DataW.del delF
  simp only [List.filter_map, DataW.map.injEq]
  rfl
theorem insert_ent (x : Fl) : ∀ M : List Fl, DataW.insert (ent x) (M.map ent) = (insF x M).map ent
  | [] => rfl
  | y :: r => by
    simp only [List.map_cons, DataW.insert, insF]
    have e : (ent x).1.before (ent y).1 = bytesBefore x.name y.name := rfl
    rw [e]
    split
    · rfl
    · rw [insert_ent x r, List.map_cons]
theorem dOf_put (x : Fl) (M : List Fl) : (dOf M).put (.string x.name) (.lit (.int .i64 (x.fb : Nat))) = dOf (insF x (delF x.name M)) := by
  have h := dOf_del x.name M
  unfold dOf DataW.del at h
  unfold dOf DataW.put
  simp only [DataW.map.injEq] at h ⊢
  rw [h]
  exact insert_ent x _
theorem dOf_at (nm : List UInt8) : ∀ M : List Fl, (dOf M).atKey (.string nm) .nil = match look nm M with | some f => .lit (.int .i64 (f.fb : Nat)) | none => .nil
  | [] => rfl
  | f :: r => by
    have ih := dOf_at nm r
    unfold dOf DataW.atKey look at ih ⊢
    simp only [List.map_cons, List.find?_cons]
    have e : (ent f).1.sameKey (.string nm) = (f.name == nm) := rfl
    rw [e]
    cases f.name == nm
    · exact ih
    · rfl
theorem dOf_at_some {nm : List UInt8} {M : List Fl} {f : Fl} (h : look nm M = some f) : (dOf M).atKey (.string nm) .nil = .lit (.int .i64 (f.fb : Nat)) := by rw [dOf_at, h]
theorem dOf_at_none {nm : List UInt8} {M : List Fl} (h : look nm M = none) : (dOf M).atKey (.string nm) .nil = .nil := by rw [dOf_at, h]
theorem dOf_keys (M : List Fl) : strKeys (dOf M) = M.map Fl.name := by
  unfold dOf strKeys
  simp only [List.map_map]
  rfl
theorem dOf_size (M : List Fl) : Maps.size (dOf M) = M.length := by
  unfold dOf Maps.size; simp
theorem look_mem {nm : List UInt8} {M : List Fl} {f : Fl} (h : look nm M = some f) : f ∈ M ∧ f.name = nm :=
  ⟨List.mem_of_find?_eq_some h, by have := List.find?_some h; simpa using this⟩
theorem look_none {nm : List UInt8} {M : List Fl} (h : look nm M = none) : ∀ f ∈ M, f.name ≠ nm := by
  intro f hf e
  have := List.find?_eq_none.1 h f hf
  simp [e] at this
theorem before_ne {a b : List UInt8} (h : bytesBefore a b = true) : a ≠ b := by
  rintro rfl; rw [WideAt.bytes_irrefl] at h; cases h
/-- Two files of one name are one. -/
theorem Rise.one {M : List Fl} (h : Rise M) : ∀ f ∈ M, ∀ g ∈ M, f.name = g.name → f = g := by
  induction M with
  | nil => intro f hf; cases hf
  | cons x r ih =>
    have h1 := List.pairwise_cons.1 h
    intro f hf g hg e
    rcases List.mem_cons.1 hf with e1 | hf'
    · subst e1
      rcases List.mem_cons.1 hg with e2 | hg'
      · exact e2.symm
      · exact absurd e (before_ne (h1.1 g hg'))
    · rcases List.mem_cons.1 hg with e2 | hg'
      · subst e2; exact absurd e.symm (before_ne (h1.1 f hf'))
      · exact ih h1.2 f hf' g hg' e
theorem Rise.look {M : List Fl} (h : Rise M) {f : Fl} (hf : f ∈ M) : look f.name M = some f := by
  cases hl : Proofs.YtdhiofbimebbkaaDoor.look f.name M with
  | none => exact absurd rfl (look_none hl f hf)
  | some g => obtain ⟨hg, e⟩ := look_mem hl; rw [h.one g hg f hf e]
theorem Rise.del {M : List Fl} (h : Rise M) (nm : List UInt8) : Rise (delF nm M) := List.Pairwise.filter _ h
theorem mem_ins {x g : Fl} : ∀ {M : List Fl}, g ∈ insF x M ↔ g = x ∨ g ∈ M
  | [] => by simp [insF]
  | y :: r => by
    unfold insF
    split
    · simp
    · rw [List.mem_cons, mem_ins, List.mem_cons]
      constructor
      · rintro (h | h | h)
        · exact .inr (.inl h)
        · exact .inl h
        · exact .inr (.inr h)
      · rintro (h | h | h)
        · exact .inr (.inl h)
        · exact .inl h
        · exact .inr (.inr h)
theorem Rise.ins {x : Fl} : ∀ {M : List Fl}, Rise M → (∀ f ∈ M, f.name ≠ x.name) → Rise (insF x M)
  | [], _, _ => List.pairwise_singleton _ _
  | y :: r, h, hn => by
    have h1 := List.pairwise_cons.1 h
    unfold insF
    by_cases hb : bytesBefore x.name y.name = true
    · rw [if_pos hb]
      refine List.pairwise_cons.2 ⟨fun g hg => ?_, h⟩
      rcases List.mem_cons.1 hg with rfl | hg
      · exact hb
      · exact WideShapes.bytes_trans _ _ _ hb (h1.1 g hg)
    · rw [if_neg hb]
      refine List.pairwise_cons.2 ⟨fun g hg => ?_, Rise.ins h1.2 (fun f hf => hn f (List.mem_cons_of_mem _ hf))⟩
      rcases mem_ins.1 hg with rfl | hg
      · rcases WideAt.bytes_total y.name g.name (hn y (List.mem_cons_self ..)) with h2 | h2
        · exact h2
        · exact absurd h2 hb
      · exact h1.1 g hg
theorem mem_del {nm : List UInt8} {M : List Fl} {f : Fl} : f ∈ delF nm M ↔ f ∈ M ∧ f.name ≠ nm := by
  unfold delF; simp
theorem del_none {nm : List UInt8} {M : List Fl} (h : look nm M = none) : delF nm M = M := by
  unfold delF
  exact List.filter_eq_self.2 fun f hf => by simpa using look_none h f hf
theorem length_ins (x : Fl) : ∀ M : List Fl, (insF x M).length = M.length + 1
  | [] => rfl
  | y :: r => by unfold insF; split <;> simp [length_ins x r]
theorem upd_names (x : Fl) (M : List Fl) : (updF x M).map Fl.name = M.map Fl.name := by
  unfold updF
  rw [List.map_map]
  refine List.map_congr_left fun f _ => ?_
  simp only [Function.comp]
  split
  · rename_i h; simpa using (by simpa using h : f.name = x.name).symm
  · rfl
theorem Rise.upd {M : List Fl} (h : Rise M) (x : Fl) : Rise (updF x M) := by
  have e : ∀ L : List Fl, Rise L ↔ (L.map Fl.name).Pairwise (fun a b => bytesBefore a b = true) := fun L => by
    unfold Rise; rw [List.pairwise_map]
  rw [e, upd_names, ← e]; exact h
theorem mem_upd {x g : Fl} {M : List Fl} (h : g ∈ updF x M) : g = x ∨ (g ∈ M ∧ g.name ≠ x.name) := by
  unfold updF at h
  obtain ⟨f, hf, rfl⟩ := List.mem_map.1 h
  split
  · exact .inl rfl
  · rename_i hn; exact .inr ⟨hf, by simpa using hn⟩
theorem dOf_upd {x : Fl} {M : List Fl} (h : Rise M) {f : Fl} (hf : f ∈ M) (hn : x.name = f.name) (hb : x.fb = f.fb) : dOf (updF x M) = dOf M := by
  unfold dOf updF
  rw [List.map_map]
  congr 1
  refine List.map_congr_left fun g hg => ?_
  simp only [Function.comp]
  split
  · rename_i e
    have e' : g.name = x.name := by simpa using e
    have := h.one g hg f hf (e'.trans hn)
    subst this
    unfold ent; rw [hn, hb]
  · rfl
theorem length_upd (x : Fl) (M : List Fl) : (updF x M).length = M.length := by unfold updF; simp

theorem before_le : ∀ {a b : List UInt8}, bytesBefore a b = true → a ≤ b
  | [], _, _ => List.nil_le _
  | _ :: _, [], h => by simp [bytesBefore] at h
  | x :: r, y :: s, h => by
    simp only [bytesBefore, Bool.or_eq_true, Bool.and_eq_true, decide_eq_true_eq, beq_iff_eq] at h
    rw [List.cons_le_cons_iff]
    rcases h with h | ⟨h, h2⟩
    · exact .inl h
    · exact .inr ⟨h, before_le h2⟩
/-- The names, sorted, are the names. -/
theorem Rise.sorted {M : List Fl} (h : Rise M) {ss : List (List UInt8)} (hp : ss.Perm (M.map Fl.name)) : ss.mergeSort leB = M.map Fl.name := by
  rw [mergeSort_of_perm hp]
  refine List.mergeSort_of_pairwise ?_
  rw [List.pairwise_map]
  exact h.imp fun hb => by simpa using before_le hb
end Go.Proofs.YtdhiofbimebbkaaDoor
