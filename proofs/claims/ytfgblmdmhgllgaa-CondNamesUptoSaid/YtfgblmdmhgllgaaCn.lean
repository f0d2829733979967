/- Names by their bytes, rising, each once, in plain words; the map that holds them. -/
import Derived.Test.YtfgblmdmhgllgaaCa
import Derived.Maps.OwnSet
import Derived.Maps.Ext
import Derived.Sort.KeysCollected
namespace Go.Proofs.Ytfgblmdmhgllgaa
open Go.RowKit Go.Maps

def entN (nm : List UInt8) : Lit × DataW Unit := (.string nm, .agg [])
def kOf (M : List (List UInt8)) : DataW Unit := .map (M.map entN)
def RiseN (M : List (List UInt8)) : Prop := M.Pairwise (fun f g => bytesBefore f g = true)
def delN (nm : List UInt8) (M : List (List UInt8)) : List (List UInt8) := M.filter (fun f => !(f == nm))
def insN (x : List UInt8) : List (List UInt8) → List (List UInt8)
  | [] => [x]
  | y :: r => if bytesBefore x y then x :: y :: r else y :: insN x r
def putN (M : List (List UInt8)) (x : List UInt8) : List (List UInt8) := insN x (delN x M)
theorem kOf_del (nm : List UInt8) (M : List (List UInt8)) : (kOf M).del (.string nm) = kOf (delN nm M) := by
  unfold kOf DataW.del delN
  simp only [List.filter_map, DataW.map.injEq]
  rfl
theorem insert_entN (x : List UInt8) : ∀ M : List (List UInt8), DataW.insert (entN x) (M.map entN) = (insN x M).map entN
  | [] => rfl
  | y :: r => by
    simp only [List.map_cons, DataW.insert, insN]
    have e : (entN x).1.before (entN y).1 = bytesBefore x y := rfl
    rw [e]
    split
    · rfl
    · rw [insert_entN x r, List.map_cons]
theorem kOf_put (x : List UInt8) (M : List (List UInt8)) : (kOf M).put (.string x) (.agg []) = kOf (putN M x) := by
  have h := kOf_del x M
  unfold kOf DataW.del at h
  unfold kOf DataW.put putN
  simp only [DataW.map.injEq] at h ⊢
  rw [h]
  exact insert_entN x _
theorem kOf_keys (M : List (List UInt8)) : strKeys (kOf M) = M := by
  unfold kOf strKeys
  simp only [List.map_map]
  have : ((fun p : Lit × DataW Unit => strOf p.1) ∘ entN) = id := rfl
  rw [this, List.map_id]
theorem kOf_size (M : List (List UInt8)) : Maps.size (kOf M) = M.length := by
  unfold kOf Maps.size; simp
theorem mem_insN {x g : List UInt8} : ∀ {M : List (List UInt8)}, g ∈ insN x M ↔ g = x ∨ g ∈ M
  | [] => by simp [insN]
  | y :: r => by
    unfold insN
    split
    · simp
    · rw [List.mem_cons, mem_insN, List.mem_cons]
      constructor
      · rintro (h | h | h)
        · exact .inr (.inl h)
        · exact .inl h
        · exact .inr (.inr h)
      · rintro (h | h | h)
        · exact .inr (.inl h)
        · exact .inl h
        · exact .inr (.inr h)
theorem mem_putN {x g : List UInt8} {M : List (List UInt8)} : g ∈ putN M x ↔ g = x ∨ g ∈ M := by
  unfold putN delN
  rw [mem_insN, List.mem_filter]
  by_cases h : g = x
  · simp [h]
  · simp [h]
theorem RiseN.ins {x : List UInt8} : ∀ {M : List (List UInt8)}, RiseN M → (∀ f ∈ M, f ≠ x) → RiseN (insN x M)
  | [], _, _ => List.pairwise_singleton _ _
  | y :: r, h, hn => by
    have h1 := List.pairwise_cons.1 h
    unfold insN
    by_cases hb : bytesBefore x y = true
    · rw [if_pos hb]
      refine List.pairwise_cons.2 ⟨fun g hg => ?_, h⟩
      rcases List.mem_cons.1 hg with rfl | hg
      · exact hb
      · exact WideShapes.bytes_trans _ _ _ hb (h1.1 g hg)
    · rw [if_neg hb]
      refine List.pairwise_cons.2 ⟨fun g hg => ?_, RiseN.ins h1.2 (fun f hf => hn f (List.mem_cons_of_mem _ hf))⟩
      rcases mem_insN.1 hg with rfl | hg
      · rcases WideAt.bytes_total y g (hn y (List.mem_cons_self ..)) with h2 | h2
        · exact h2
        · exact absurd h2 hb
      · exact h1.1 g hg
theorem RiseN.put {x : List UInt8} {M : List (List UInt8)} (h : RiseN M) : RiseN (putN M x) :=
  RiseN.ins (h.filter _) fun f hf => by have := (List.mem_filter.1 hf).2; simpa using this
theorem putN_len (x : List UInt8) (M : List (List UInt8)) : (putN M x).length ≤ M.length + 1 := by
  have h : ∀ M : List (List UInt8), (insN x M).length = M.length + 1 := by
    intro M
    induction M with
    | nil => rfl
    | cons y r ih => unfold insN; split <;> simp [ih]
  unfold putN delN
  rw [h]
  have := List.length_filter_le (fun f => !(f == x)) M
  omega
theorem before_leN : ∀ {a b : List UInt8}, bytesBefore a b = true → a ≤ b
  | [], _, _ => List.nil_le _
  | _ :: _, [], h => by simp [bytesBefore] at h
  | x :: r, y :: s, h => by
    simp only [bytesBefore, Bool.or_eq_true, Bool.and_eq_true, decide_eq_true_eq, beq_iff_eq] at h
    rw [List.cons_le_cons_iff]
    rcases h with h | ⟨h, h2⟩
    · exact .inl h
    · exact .inr ⟨h, before_leN h2⟩
theorem RiseN.sorted {M : List (List UInt8)} (h : RiseN M) {ss : List (List UInt8)} (hp : ss.Perm M) : ss.mergeSort leB = M := by
  rw [mergeSort_of_perm hp]
  refine List.mergeSort_of_pairwise ?_
  exact h.imp fun hb => by simpa using before_leN hb
/-- All names of a tree, put to others. -/
def putsN (M : List (List UInt8)) (ns : List ByteArray) : List (List UInt8) := ns.foldl (fun M n => putN M n.data.toList) M
theorem mem_putsN {g : List UInt8} : ∀ {ns : List ByteArray} {M : List (List UInt8)}, g ∈ putsN M ns ↔ g ∈ M ∨ ∃ n ∈ ns, n.data.toList = g
  | [], M => by simp [putsN]
  | n :: ns, M => by
    have ih := mem_putsN (g := g) (ns := ns) (M := putN M n.data.toList)
    unfold putsN at ih ⊢
    rw [List.foldl_cons, ih, mem_putN]
    simp only [List.mem_cons, exists_eq_or_imp]
    constructor
    · rintro ((h | h) | h)
      · exact .inr (.inl h.symm)
      · exact .inl h
      · exact .inr (.inr h)
    · rintro (h | h | h)
      · exact .inl (.inr h)
      · exact .inl (.inl h.symm)
      · exact .inr h
theorem RiseN.puts : ∀ {ns : List ByteArray} {M : List (List UInt8)}, RiseN M → RiseN (putsN M ns)
  | [], _, h => h
  | n :: ns, M, h => by
    unfold putsN
    rw [List.foldl_cons]
    exact RiseN.puts (ns := ns) h.put
theorem putsN_len : ∀ (ns : List ByteArray) (M : List (List UInt8)), (putsN M ns).length ≤ M.length + ns.length
  | [], M => by simp [putsN]
  | n :: ns, M => by
    have h1 := putN_len n.data.toList M
    have h2 := putsN_len ns (putN M n.data.toList)
    unfold putsN at h2 ⊢
    rw [List.foldl_cons, List.length_cons]
    omega
theorem putsN_app (M : List (List UInt8)) (a b : List ByteArray) : putsN M (a ++ b) = putsN (putsN M a) b := by
  unfold putsN; rw [List.foldl_append]
theorem riseN_nil : RiseN [] := List.Pairwise.nil
end Go.Proofs.Ytfgblmdmhgllgaa
