/- Two reports' parts behind each other: rightness, totals, cells; a slice of parts appended to one. -/
import Derived.Test.YtplenagncmhhoaaDoorSnI
namespace Go.Proofs.YtplenagncmhhoaaDoor
open Go.RowKit

theorem rightS_app {su bo su' bo' : ByteArray} {ps qs : List PtB} (h : rightS su bo ps = true) (h' : rightS su' bo' qs = true) : rightS su bo (ps ++ qs) = true := by
  have h1 : (rightB su.size = true ∧ rightB bo.size = true) ∧ rightPs ps = true := by simpa [rightS] using h
  have h2 : (rightB su'.size = true ∧ rightB bo'.size = true) ∧ rightPs qs = true := by simpa [rightS] using h'
  have h3 : rightPs (ps ++ qs) = true := by
    unfold rightPs at h1 h2 ⊢
    rw [List.all_append, h1.2, h2.2]; rfl
  simp [rightS, h1.1.1, h1.1.2, h3]
theorem totV_app (ps qs : List PtB) (v : Int) : totV (ps ++ qs) v = totV ps v + totV qs v := by simp [totV]
theorem lenSum_app (ps qs : List PtB) : lenSum (ps ++ qs) = lenSum ps + lenSum qs := by simp [lenSum]
/-- The cells that parts have. -/
def PCells (w : World) (cs : List Value) (ps : List PtB) : Prop :=
  cs.length = ps.length * 2 ∧ (∀ u ∈ cs, u.oneCell' = true) ∧ ∀ i p, ps[i]? = some p → ∃ RA rn rc, cs[i * 2]? = some (.string p.1) ∧ cs[i * 2 + 1]? = some (.slice RA rn rc) ∧ ResAt w RA rn p.2
theorem PCells.below {w w' : World} {cs : List Value} {ps : List PtB} (h : PCells w cs ps) (hb : Below w.heap.size w w') : PCells w' cs ps :=
  ⟨h.1, h.2.1, fun i p hi => by
    obtain ⟨RA, rn, rc, c1, c2, hr⟩ := h.2.2 i p hi
    exact ⟨RA, rn, rc, c1, c2, hr.below hb⟩⟩
theorem PCells.nil (w : World) : PCells w [] [] := ⟨rfl, fun u h => (by cases h), fun i p h => (by simp at h)⟩
theorem PCells.app {w : World} {cs cs' : List Value} {ps qs : List PtB} (h : PCells w cs ps) (h' : PCells w cs' qs) : PCells w (cs ++ cs') (ps ++ qs) := by
  refine ⟨by rw [List.length_append, List.length_append, h.1, h'.1]; omega, fun u hu => (List.mem_append.1 hu).elim (h.2.1 u) (h'.2.1 u), fun i p hi => ?_⟩
  by_cases hlt : i < ps.length
  · rw [List.getElem?_append_left hlt] at hi
    obtain ⟨RA, rn, rc, c1, c2, hr⟩ := h.2.2 i p hi
    have hl := h.1
    exact ⟨RA, rn, rc, by rw [List.getElem?_append_left (by omega)]; exact c1, by rw [List.getElem?_append_left (by omega)]; exact c2, hr⟩
  · rw [List.getElem?_append_right (by omega)] at hi
    obtain ⟨RA, rn, rc, c1, c2, hr⟩ := h'.2.2 _ p hi
    have hl := h.1
    refine ⟨RA, rn, rc, ?_, ?_, hr⟩
    · rw [List.getElem?_append_right (by omega), hl, show i * 2 - ps.length * 2 = (i - ps.length) * 2 by omega]; exact c1
    · rw [List.getElem?_append_right (by omega), hl, show i * 2 + 1 - ps.length * 2 = (i - ps.length) * 2 + 1 by omega]; exact c2
theorem range_two (g : Nat → Value) (q : Value → Prop) : ∀ n, (∀ i, i < n → q (g (i * 2)) ∧ q (g (i * 2 + 1))) → ∀ u ∈ (List.range (n * 2)).map g, q u := by
  intro n h u hu
  obtain ⟨j, hj, rfl⟩ := List.mem_map.1 hu
  have hj := List.mem_range.1 hj
  rcases Nat.mod_two_eq_zero_or_one j with h0 | h1
  · have := (h (j / 2) (by omega)).1
    rwa [show j / 2 * 2 = j by omega] at this
  · have := (h (j / 2) (by omega)).2
    rwa [show j / 2 * 2 + 1 = j by omega] at this
theorem parts_cells {w : World} {A : Option Addr} {n : Nat} {ps : List PtB} (h : PartsAt w A n ps) : ∃ cs, PCells w cs ps ∧ (0 < n → ∃ b f, A = some ⟨b, f, none⟩ ∧ b < w.heap.size ∧ ∀ (j : Nat) u, cs[j]? = some u → w.cell? ⟨b, f + j, none⟩ = some u) := by
  obtain ⟨hl, hn, hsz, hc⟩ := h
  by_cases h0 : 0 < n
  · obtain ⟨b, f, rfl, hb, hcell⟩ := hc h0
    have hone : ∀ i, i < n → (∃ u, w.cell? ⟨b, f + i * 2, none⟩ = some u ∧ u.oneCell' = true) ∧ (∃ u, w.cell? ⟨b, f + (i * 2 + 1), none⟩ = some u ∧ u.oneCell' = true) := fun i hi => by
      obtain ⟨p, hp⟩ : ∃ p, ps[i]? = some p := ⟨ps[i]'(by omega), List.getElem?_eq_getElem _⟩
      obtain ⟨RA, rn, rc, c1, c2, _⟩ := hcell i p hp
      exact ⟨⟨_, c1, rfl⟩, ⟨_, by rw [← Nat.add_assoc]; exact c2, rfl⟩⟩
    refine ⟨cellsAt w b f (n * 2), ⟨by rw [cellsAt_len, hl], ?_, fun i p hi => ?_⟩, fun _ => ⟨b, f, rfl, hb, fun j u hu => ?_⟩⟩
    · unfold cellsAt
      refine range_two (fun j => (w.cell? ⟨b, f + j, none⟩).getD undef) (fun u => u.oneCell' = true) n fun i hi => ?_
      obtain ⟨⟨u, e1, o1⟩, ⟨v, e2, o2⟩⟩ := hone i hi
      simp only [e1, e2, Option.getD_some]
      exact ⟨o1, o2⟩
    · have hil : i < n := by rw [← hl]; exact (List.getElem?_eq_some_iff.1 hi).1
      obtain ⟨RA, rn, rc, c1, c2, hr⟩ := hcell i p hi
      exact ⟨RA, rn, rc, cellsAt_at w b f _ _ (by omega) c1, cellsAt_at w b f _ _ (by omega) (by rw [← Nat.add_assoc]; exact c2), hr⟩
    · have hj : j < n * 2 := by have := (List.getElem?_eq_some_iff.1 hu).1; rwa [cellsAt_len] at this
      have hcj : ∃ x, w.cell? ⟨b, f + j, none⟩ = some x := by
        have hh := hone (j / 2) (by omega)
        rcases Nat.mod_two_eq_zero_or_one j with h0 | h1
        · obtain ⟨x, e, _⟩ := hh.1
          exact ⟨x, by rwa [show j / 2 * 2 = j by omega] at e⟩
        · obtain ⟨x, e, _⟩ := hh.2
          exact ⟨x, by rwa [show j / 2 * 2 + 1 = j by omega] at e⟩
      obtain ⟨x, e⟩ := hcj
      rw [cellsAt_at w b f _ _ hj e] at hu
      rw [e, hu]
  · have : ps = [] := List.eq_nil_of_length_eq_zero (by omega)
    subst this
    exact ⟨[], PCells.nil w, fun h => absurd h h0⟩
theorem parts_of_row {W : World} {B : Nat} {A : Option Addr} {n c : Nat} {cs : List Value} {ps : List PtB} (hown : W.ownsRow B 46 2 (.slice A n c) n cs) (hc : PCells W cs ps) (hl : ps.length = n) (hn : n ≤ 1000000) (hs : ∀ p, p ∈ ps → p.1.size ≤ maxLen) : PartsAt W A n ps := by
  refine ⟨hl, by omega, hs, fun h0 => ?_⟩
  obtain ⟨g, cap', e, _, hg⟩ := World.ownsRow.form hown h0
  injection e with e1 e2 e3
  subst e1 e3
  refine ⟨g, 0, rfl, hg, fun i p hi => ?_⟩
  have hil : i < n := by rw [← hl]; exact (List.getElem?_eq_some_iff.1 hi).1
  obtain ⟨RA, rn, rc, c1, c2, hr⟩ := hc.2.2 i p hi
  refine ⟨RA, rn, rc, ?_, ?_, hr⟩
  · rw [Nat.zero_add, World.ownsRow.cellAt hown (i * 2) (by omega)]; exact c1
  · rw [Nat.zero_add, World.ownsRow.cellAt hown (i * 2 + 1) (by omega)]; exact c2
/-- A slice of parts appended: its run. -/
theorem append_parts {w : World} {B : Nat} {A : Option Addr} {m c n : Nat} {v : Value} {xs cs : List Value} (ty : TypeId) (hB : B ≤ w.heap.size) (hown : w.ownsRow B 46 2 v n xs) (hl : cs.length = m * 2) (h1 : ∀ u ∈ cs, u.oneCell' = true)
    (hs : 0 < m → ∃ b f, A = some ⟨b, f, none⟩ ∧ b < w.heap.size ∧ ∀ (j : Nat) u, cs[j]? = some u → w.cell? ⟨b, f + j, none⟩ = some u) (hlen : n + m ≤ 1000000) :
    ∃ A' c' w', (Builtin.append_ #[22, 22] ty #[v, .slice A m c]).run Tryd.prog w = .ok (.slice A' (n + m) c') w' ∧ w'.ownsRow B 46 2 (.slice A' (n + m) c') (n + m) (xs ++ cs) ∧ w.grownBy w' v.ownBlock ∧
      ((Value.slice A' (n + m) c').ownBlock = v.ownBlock ∨ (Value.slice A' (n + m) c').ownBlock = some w.heap.size) := by
  obtain ⟨i0, hi0, hz0, hz1, hz2⟩ := info_parts infPart
  have fin : ∀ v' w', (Builtin.append_ #[22, 22] ty #[v, .slice A m c]).run Tryd.prog w = .ok v' w' → w'.ownsRow B 46 2 v' (n + m) (xs ++ cs) → w.grownBy w' v.ownBlock → (v'.ownBlock = v.ownBlock ∨ v'.ownBlock = some w.heap.size) →
      ∃ A' c' w', (Builtin.append_ #[22, 22] ty #[v, .slice A m c]).run Tryd.prog w = .ok (.slice A' (n + m) c') w' ∧ w'.ownsRow B 46 2 (.slice A' (n + m) c') (n + m) (xs ++ cs) ∧ w.grownBy w' v.ownBlock ∧
      ((Value.slice A' (n + m) c').ownBlock = v.ownBlock ∨ (Value.slice A' (n + m) c').ownBlock = some w.heap.size) := by
    intro v' w' h1 h2 h3 h4
    obtain ⟨A', c', e⟩ : ∃ A' c', v' = .slice A' (n + m) c' := by
      rcases h2.2 with ⟨e, h0⟩ | ⟨g, cap, cur, e, _⟩
      · exact ⟨none, 0, by rw [h0]; exact e⟩
      · exact ⟨_, cap, e⟩
    subst e
    exact ⟨A', c', w', h1, h2, h3, h4⟩
  cases A with
  | none =>
    obtain rfl : m = 0 := by
      rcases Nat.eq_zero_or_pos m with h0 | h0
      · exact h0
      · obtain ⟨b, o, h, _⟩ := hs h0; cases h
    obtain rfl : cs = [] := List.eq_nil_of_length_eq_zero (by omega)
    refine fin v w ?_ (by simpa using hown) (World.grownBy.refl w _) (.inl rfl)
    rcases hown.2 with ⟨rfl, rfl⟩ | ⟨g, cap, cur, rfl, _, _, hnc, _⟩
    · simp [Builtin.append_, run_underlying Tryd.underlying22, sizeOf, typeInfo, hi0, Builtin.lenOf, Builtin.firstCells]
    · simp [Builtin.append_, run_underlying Tryd.underlying22, sizeOf, typeInfo, hi0, Builtin.lenOf, Builtin.firstCells, hnc, storeCells]
  | some ad =>
    obtain ⟨v', w', h1, h2, h3, _, h5⟩ := run_append_own_at (P := Tryd.prog) w B 22 ty 46 i0 _ 2 40 Tryd.underlying22 hi0 hz0 hz1 hz2 rfl (by decide) v n xs hown ad m c cs hl (fun j u hu => by
      have hj : 0 < m := by
        have := (List.getElem?_eq_some_iff.1 hu).1
        omega
      obtain ⟨b, o, e, _, hc⟩ := hs hj
      have e := Option.some.inj e
      subst e
      have h9 := hc j u hu
      unfold Addr.add
      split
      · rename_i h0; subst h0; exact h9
      · exact h9) h1 (by unfold maxLen; omega) (by omega) hB
    exact fin v' w' h1 h2 h3 h5
end Go.Proofs.YtplenagncmhhoaaDoor
