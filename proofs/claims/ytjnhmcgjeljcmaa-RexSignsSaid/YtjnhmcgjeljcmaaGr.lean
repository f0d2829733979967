/- Rows of ranges in memory. -/
import Derived.Test.YtjnhmcgjeljcmaaTa
import Derived.Test.YtjnhmcgjeljcmaaRr
import Derived.Maps.AppendAt
import Derived.Laws.AppendOwnNone
namespace Go.Proofs.Ytjnhmcgjeljcmaa
open Go.RowKit

theorem rg_of_own {w : World} {B n : Nat} {v : Value} {l : List (UInt8 × UInt8)} (h : w.ownsRow B 37 2 v n (rgCells l)) :
    ∃ A c, v = .slice A l.length c ∧ n = l.length ∧ l.length ≤ maxLen ∧ RgAt w (fun b => B ≤ b ∧ b < w.heap.size ∧ v.ownBlock = some b) A l.length l := by
  have hn : n = l.length := by have := h.1; rw [rgCells_len] at this; omega
  subst hn
  rcases h.2 with ⟨rfl, h0⟩ | ⟨g, cap, cur, rfl, h1, h2, h3, h4, h5, h6⟩
  · exact ⟨none, 0, by rw [h0], rfl, by omega, by rw [h0, List.eq_nil_of_length_eq_zero h0]; exact RgAt.nil _ _ _⟩
  · refine ⟨_, _, rfl, rfl, by omega, rfl, fun hn => ⟨g, 0, rfl, ⟨h1, (Array.getElem?_eq_some_iff.1 h2).1, rfl⟩, fun i r hr => ?_⟩⟩
    obtain ⟨q1, q2⟩ := rgCells_get l i r hr
    have hi : i < l.length := (List.getElem?_eq_some_iff.1 hr).1
    simp only [Nat.zero_add]
    exact ⟨by rw [h.cellAt _ (by omega)]; exact q1, by rw [h.cellAt _ (by omega)]; exact q2⟩
theorem tree_leaf {w : World} {X : Nat → Prop} {A : Option Addr} {n c : Nat} {k : Int} {rs : List (UInt8 × UInt8)} (hn : n ≤ maxLen) (h : RgAt w X A n rs) (d : Nat) : TreeAt w X (d + 1) (.mk k rs []) [.int .i64 k, .slice A n c, .slice none 0 0] :=
  ⟨A, n, c, none, 0, 0, rfl, hn, ⟨Nat.zero_le _, Nat.le_refl _⟩, h, rfl, fun h => absurd h (by omega)⟩
theorem rgCells_one (l : List (UInt8 × UInt8)) : ∀ u ∈ rgCells l, u.oneCell' = true := by
  intro u hu
  simp only [rgCells, List.mem_flatMap] at hu
  obtain ⟨r, _, hr⟩ := hu
  simp at hr; rcases hr with rfl | rfl <;> rfl
theorem rgCells_at {l : List (UInt8 × UInt8)} {j : Nat} {u : Value} (h : (rgCells l)[j]? = some u) : ∃ i r, l[i]? = some r ∧ ((j = i * 2 ∧ u = .int .u8 r.1.toNat) ∨ (j = i * 2 + 1 ∧ u = .int .u8 r.2.toNat)) := by
  have hj : j < (rgCells l).length := (List.getElem?_eq_some_iff.1 h).1
  rw [rgCells_len] at hj
  have hi : j / 2 < l.length := by omega
  refine ⟨j / 2, l[j / 2], List.getElem?_eq_getElem hi, ?_⟩
  obtain ⟨q1, q2⟩ := rgCells_get l (j / 2) _ (List.getElem?_eq_getElem hi)
  rcases Nat.mod_two_eq_zero_or_one j with hm | hm
  · left; refine ⟨by omega, ?_⟩
    rw [show j / 2 * 2 = j by omega, h] at q1; injection q1
  · right; refine ⟨by omega, ?_⟩
    rw [show j / 2 * 2 + 1 = j by omega, h] at q2; injection q2
set_option maxRecDepth 100000 in
/-- append onto an empty row of the call's own, of a slice of ranges, nil or not. -/
theorem append_rg {w : World} {ops : Array Oper} {rest : List Oper} {o : Oper} {a : Act} {Q : Exit → Act → World → Prop} (hgd : o.guard = none) (s x : Operand)
    (ho : o.op = .call { callee := .builtin .append, args := #[s, x], argTypes := #[23, 23] }) (base : Nat) (v : Value) (hs : a.eval s = v) (hown : w.ownsRow base 37 2 v 0 [])
    {X : Nat → Prop} {A : Option Addr} {n c : Nat} {rs : List (UInt8 × UInt8)} (hx : a.eval x = .slice A n c) (hr : RgAt w X A n rs) (hc : A = none → c = 0) (hn : n ≤ maxLen) (hb : n * 2 ≤ 140737488355328) (hbase : base ≤ w.heap.size)
    (h : ∀ v' w', w'.ownsRow base 37 2 v' n (rgCells rs) → w.grownBy w' v.ownBlock → wpList Try.prog ops Q rest (a.put o.dst v') w') : wpList Try.prog ops Q (o :: rest) a w := by
  obtain ⟨i0, hi0, hz0, hz1, hz2⟩ := info_parts rgInfo
  rcases A with _ | ad
  · have hn0 : n = 0 := by
      rcases Nat.eq_zero_or_pos n with h0 | h0
      · exact h0
      · obtain ⟨b, o, h1, _⟩ := hr.2 h0; cases h1
    subst hn0
    obtain rfl := hc rfl
    have hrs : rs = [] := List.eq_nil_of_length_eq_zero hr.1
    subst hrs
    exact wpList_append_own_none hgd s x 23 ho base 37 i0 2 Try.underlying23 hi0 v 0 [] hs hown hx (h v w hown (World.grownBy.refl _ _))
  · refine wpList_append_own _ hgd s x 23 ho base 37 i0 _ 2 2 Try.underlying23 hi0 hz0 hz1 hz2 rfl (by decide) v 0 [] hs hown ad n c (rgCells rs) hx ?_ ?_ (rgCells_one rs) (by simpa using hn) (by simpa using hb) hbase ?_
    · rw [rgCells_len, hr.1]
    · intro j u hu
      have hn0 : 0 < n := by
        have h1 := (List.getElem?_eq_some_iff.1 hu).1
        rw [rgCells_len, hr.1] at h1; omega
      obtain ⟨b, o, h1, _, hcell⟩ := hr.2 hn0
      injection h1 with h1
      subst h1
      rw [Addr.add_mid]
      obtain ⟨i, r, hi, ⟨rfl, rfl⟩ | ⟨rfl, rfl⟩⟩ := rgCells_at hu
      · exact (hcell i r hi).1
      · exact (hcell i r hi).2
    · intro v' w' h1 h2 _
      exact h v' w' (by simpa using h1) h2
theorem own_below {w w' : World} {B e sz n : Nat} {v : Value} {xs : List Value} (h : w.ownsRow B e sz v n xs) (hb : Below w.heap.size w w') : w'.ownsRow B e sz v n xs :=
  h.kept (row := none) ⟨hb.os, hb.tape, hb.output, hb.size, fun i hi _ => hb.block i hi⟩ (by cases v.ownBlock <;> simp)
theorem one_ranges : rangesL [(1, 254)] true = [(0, 0), (255, 255)] := by decide +kernel

end Go.Proofs.Ytjnhmcgjeljcmaa
