/- Plain facts for the reader: what Cut, CutPrefix, a word's number and Read answer of a line, in the plain words. -/
import Derived.Test.YtplenagncmhhoaaDoorSmJ
import Derived.Lib.IndexMore
namespace Go.Proofs.YtplenagncmhhoaaDoor

theorem index_cons (b : UInt8) (l sub : List UInt8) : Lib.index (b :: l) sub = if sub.isPrefixOf (b :: l) = true then 0 else if Lib.index l sub = -1 then -1 else Lib.index l sub + 1 := by
  conv => lhs; unfold Lib.index
  by_cases h : sub.isPrefixOf (b :: l) = true
  · simp [h]
  · simp [h]
theorem index_ge (l sub : List UInt8) : -1 ≤ Lib.index l sub := by
  rcases Lib.index_spec l sub with ⟨h, _⟩ | ⟨i, h, _⟩ <;> omega
theorem cut_here (s sep : List UInt8) (h : sep.isPrefixOf s = true) (hs : s ≠ []) : Lib.cut s sep = ([], s.drop sep.length, true) := by
  match s, hs with
  | b :: l, _ =>
    unfold Lib.cut
    rw [index_cons, if_pos h]
    simp
theorem cut_on (b : UInt8) (l sep : List UInt8) (h : sep.isPrefixOf (b :: l) = false) : Lib.cut (b :: l) sep = if (Lib.cut l sep).2.2 = true then (b :: (Lib.cut l sep).1, (Lib.cut l sep).2.1, true) else (b :: l, [], false) := by
  have hg := index_ge l sep
  have e : Lib.index (b :: l) sep = if Lib.index l sep = -1 then -1 else Lib.index l sep + 1 := by
    rw [index_cons, if_neg (by simp [h])]
  unfold Lib.cut
  by_cases h1 : Lib.index l sep = -1
  · rw [if_pos h1] at e
    rw [e, h1]; rfl
  · rw [if_neg h1] at e
    rw [e]
    have h2 : 0 ≤ Lib.index l sep := by omega
    have h3 : (0 : Int) ≤ Lib.index l sep + 1 := by omega
    have h4 : (Lib.index l sep + 1).toNat = (Lib.index l sep).toNat + 1 := by omega
    simp only [h2, h3, h4, if_true, List.take_succ_cons]
    rw [show (Lib.index l sep).toNat + 1 + sep.length = ((Lib.index l sep).toNat + sep.length) + 1 by omega, List.drop_succ_cons]
theorem cut_nil (c : UInt8) (sep : List UInt8) : Lib.cut [] (c :: sep) = ([], [], false) := by
  simp [Lib.cut, Lib.index]
theorem cut_none : ∀ (l : List UInt8) , (10 : UInt8) ∉ l → Lib.cut l [10] = (l, [], false)
  | [], _ => cut_nil _ _
  | b :: l, h => by
    have hb : b ≠ 10 := fun e => h (by simp [e])
    have ih := cut_none l fun e => h (List.mem_cons_of_mem _ e)
    rw [cut_on _ _ _ (by simp [List.isPrefixOf]; exact fun e => hb e.symm), ih]; rfl
theorem cut_line : ∀ (l r : List UInt8), (10 : UInt8) ∉ l → Lib.cut (l ++ 10 :: r) [10] = (l, r, true)
  | [], r, _ => by
    rw [List.nil_append, cut_here _ _ (by simp [List.isPrefixOf]) (by simp)]; rfl
  | b :: l, r, h => by
    have hb : b ≠ 10 := fun e => h (by simp [e])
    have ih := cut_line l r fun e => h (List.mem_cons_of_mem _ e)
    rw [List.cons_append, cut_on _ _ _ (by simp [List.isPrefixOf]; exact fun e => hb e.symm), ih]; rfl
theorem cut_flat : ∀ (ls : List Ln) (t : Ln), (∀ l, l ∈ ls → (10 : UInt8) ∉ l) → (10 : UInt8) ∉ t → Lib.cut (flat ls ++ t) [10] = match ls with
    | [] => (t, [], false)
    | l :: r => (l, flat r ++ t, true)
  | [], t, _, h => by
    have := cut_none t h
    simpa [flat] using this
  | l :: r, t, h, _ => by
    have e : flat (l :: r) ++ t = l ++ 10 :: (flat r ++ t) := by simp [flat]
    rw [e]
    exact cut_line l _ (h l (List.mem_cons_self ..))
theorem cut_c : ∀ l : Ln, Lib.cut l [58, 32] = match cutC l with
    | none => (l, [], false)
    | some p => (p.1, p.2, true)
  | [] => cut_nil _ _
  | c :: l => by
    have ih := cut_c l
    by_cases h : ∃ r, c = 58 ∧ l = 32 :: r
    · obtain ⟨r, rfl, rfl⟩ := h
      rw [cut_here _ _ (by simp [List.isPrefixOf]) (by simp)]
      rfl
    · have hp : ([58, 32] : Ln).isPrefixOf (c :: l) = false := by
        cases l with
        | nil => simp [List.isPrefixOf]
        | cons d r =>
          simp only [List.isPrefixOf, Bool.and_true, Bool.and_eq_false_iff, beq_eq_false_iff_ne]
          by_cases hc : c = 58
          · exact .inr fun e => h ⟨r, hc, by rw [← e]⟩
          · exact .inl fun e => hc e.symm
      have hcut : cutC (c :: l) = (cutC l).map fun p => (c :: p.1, p.2) := by
        conv => lhs; unfold cutC
        split
        · rename_i heq
          injection heq with h1 h2
          exact absurd ⟨_, h1, h2⟩ h
        · rename_i heq
          injection heq with h1 h2
          subst h1 h2
          rfl
        · rename_i heq; cases heq
      rw [cut_on _ _ _ hp, ih, hcut]
      cases cutC l with
      | none => rfl
      | some p => rfl
theorem parseL_vpL (s : ByteArray) : ∀ (ws : List ByteArray) (i : Nat), parseL s ws (i : Nat) = (vpL (ws.map lnB) i (lnB s) : Nat)
  | [], _ => rfl
  | x :: r, i => by
    have ih := parseL_vpL s r (i + 1)
    unfold parseL
    simp only [List.map_cons, vpL]
    by_cases h : lnB x = lnB s
    · rw [if_pos h, if_pos]
      rw [ByteArray.toList_eq, ByteArray.toList_eq]
      exact beq_iff_eq.2 h
    · rw [if_neg h, if_neg]
      · rw [← ih]; rfl
      · rw [ByteArray.toList_eq, ByteArray.toList_eq]
        exact fun e => h (beq_iff_eq.1 e)
theorem parse_vp (l : Ln) : parseL ⟨l.toArray⟩ wordsL 0 = (vp l : Nat) := by
  have := parseL_vpL ⟨l.toArray⟩ wordsL 0
  have e : wordsL.map lnB = wdL := by decide
  have e2 : lnB ⟨l.toArray⟩ = l := by simp [lnB]
  rw [e, e2] at this
  exact this
theorem read_rdN (l : Ln) : (rdN l = none → readS ⟨l.toArray⟩ = [] ∧ readB ⟨l.toArray⟩ = false) ∧ (∀ n, rdN l = some n → readS ⟨l.toArray⟩ = n ∧ readB ⟨l.toArray⟩ = true) :=
  ⟨fun h => read_none h, fun _ h => read_some h⟩
/-- A line is words and a name, or what fails. -/
theorem named_cases (w l : Ln) : (∃ n, namedP rdN w l = some n ∧ Lib.hasPrefix l w = true ∧ Lib.trimPrefix l w = l.drop w.length ∧ readS ⟨(Lib.trimPrefix l w).toArray⟩ = n ∧ readB ⟨(Lib.trimPrefix l w).toArray⟩ = true)
    ∨ (namedP rdN w l = none ∧ (Lib.hasPrefix l w = false ∨ readB ⟨(Lib.trimPrefix l w).toArray⟩ = false)) := by
  unfold namedP Lib.trimPrefix Lib.hasPrefix
  cases hp : w.isPrefixOf l with
  | false => right; simp
  | true =>
    simp only [if_true]
    cases hr : rdN (l.drop w.length) with
    | none => right; exact ⟨rfl, .inr ((read_rdN _).1 hr).2⟩
    | some n => left; exact ⟨n, rfl, trivial, trivial, ((read_rdN _).2 n hr).1, ((read_rdN _).2 n hr).2⟩
def cutA (l : Ln) : Ln := (Lib.cut l [58, 32]).1
def cutB (l : Ln) : Ln := (Lib.cut l [58, 32]).2.1
theorem rdN_nil : rdN [] = none := by
  cases h : rdN [] with
  | none => rfl
  | some n =>
    obtain ⟨h1, h2⟩ := nmOk.only _ _ h
    unfold wrN at h2
    rw [writeL_yes (by simpa [okN, ByteArray.size] using h1)] at h2
    have : (writeTo ⟨n.toArray⟩ (⟨n.toArray⟩ : ByteArray).size).length = 0 := by rw [h2]; rfl
    have h3 := writeTo_ge ⟨n.toArray⟩ (⟨n.toArray⟩ : ByteArray).size
    have h4 : 0 < n.length := by
      cases n with
      | nil => simp [okN, rightB] at h1
      | cons a b => simp
    have h5 : (⟨n.toArray⟩ : ByteArray).size = n.length := by simp [ByteArray.size]
    omega
/-- A line is a result's, or what fails. -/
theorem res_cases (l : Ln) : (∃ n, resP rdN l = some (n, vp (cutA l)) ∧ vp (cutA l) ≠ 0 ∧ readS ⟨(cutB l).toArray⟩ = n ∧ readB ⟨(cutB l).toArray⟩ = true)
    ∨ (resP rdN l = none ∧ (vp (cutA l) = 0 ∨ readB ⟨(cutB l).toArray⟩ = false)) := by
  unfold resP cutA cutB
  rw [cut_c]
  cases hc : cutC l with
  | none =>
    right
    refine ⟨rfl, .inr ?_⟩
    exact ((read_rdN []).1 rdN_nil).2
  | some p =>
    obtain ⟨a, b⟩ := p
    simp only
    by_cases hv : vp a = 0
    · right; simp [hv]
    · rw [if_neg hv]
      cases hr : rdN b with
      | none => right; exact ⟨rfl, .inr ((read_rdN _).1 hr).2⟩
      | some n => left; exact ⟨n, rfl, hv, ((read_rdN _).2 n hr).1, ((read_rdN _).2 n hr).2⟩
end Go.Proofs.YtplenagncmhhoaaDoor
