/- Plain facts for SumBack and SumCuts: bytes 10 of a text. -/
import Derived.Test.YtplenagncmhhoaaDoorSmV
namespace Go.Proofs.YtplenagncmhhoaaDoor
open Go.RowKit

def cnt10 (T : ByteArray) (k : Nat) : Nat := ((lnB T).take k).count 10
theorem bt_ten (T : ByteArray) (k : Nat) (h : k < T.size) : (lnB T)[k]? = some 10 ↔ bt T k = 10 := by
  have h' : k < T.data.toList.length := h
  rw [bt_get T k h']
  unfold lnB
  rw [List.getElem?_eq_getElem h']
  constructor
  · intro e
    injection e with e
    rw [e]; rfl
  · intro e
    congr 1
    apply UInt8.toNat_inj.1
    have : ((T.data.toList[k]).toNat : Int) = ((10 : UInt8).toNat : Nat) := e
    omega
theorem cnt10_step (T : ByteArray) (k : Nat) (h : k < T.size) : cnt10 T (k + 1) = cnt10 T k + (if bt T k = 10 then 1 else 0) := by
  have h' : k < (lnB T).length := h
  unfold cnt10
  rw [List.take_add_one, List.count_append]
  congr 1
  have hb := bt_ten T k h
  rw [List.getElem?_eq_getElem h'] at hb ⊢
  by_cases e : bt T k = 10
  · rw [if_pos e]
    have e2 := hb.2 e
    injection e2 with e2
    rw [e2]; rfl
  · rw [if_neg e]
    have e2 : (lnB T)[k] ≠ 10 := fun e3 => e (hb.1 (by rw [e3]))
    simp [e2]
theorem cnt10_yes (T : ByteArray) (k : Nat) (h : k < T.size) (e : bt T k = 10) : cnt10 T (k + 1) = cnt10 T k + 1 := by
  rw [cnt10_step T k h, if_pos e]
theorem cnt10_no (T : ByteArray) (k : Nat) (h : k < T.size) (e : ¬ bt T k = 10) : cnt10 T (k + 1) = cnt10 T k := by
  rw [cnt10_step T k h, if_neg e]; rfl
theorem cnt10_le (T : ByteArray) (k : Nat) : cnt10 T k ≤ k := by
  unfold cnt10
  exact Nat.le_trans List.count_le_length (by rw [List.length_take]; omega)
theorem cnt10_all (T : ByteArray) : cnt10 T T.size = (lnB T).count 10 := by
  unfold cnt10
  rw [List.take_of_length_le (Nat.le_of_eq (show (lnB T).length = T.size from Array.length_toList))]
theorem lines_count : ∀ (l cur : Ln), (linesOf cur l).1.length = l.count 10
  | [], cur => by simp [linesOf]
  | c :: r, cur => by
    rw [lines_cons]
    by_cases hc : c = 10
    · rw [if_pos hc, hc]
      have := lines_count r []
      simp [this]
    · rw [if_neg hc, lines_count r (cur ++ [c])]
      simp [hc]
theorem count_take (l : Ln) (i : Nat) : (l.take i).count 10 ≤ l.count 10 := by
  conv => rhs; rw [← List.take_append_drop i l]
  rw [List.count_append]; omega
theorem text_pos (s : Sm) : 0 < (textB s).length := by
  unfold textB sumL
  rw [flat_len]
  simp only [List.length_cons]
  omega
theorem lnB_mk (l : Ln) : lnB ⟨l.toArray⟩ = l := by simp [lnB]
/-- What Parse answers where the plain words refuse. -/
theorem parse_bad {w : World} (T : ByteArray) {k : Nat} (h : parseB (lnB T) = (none, k)) (hg : GlAt w) (hw : 4 < w.heap.size) (h1 : T.size ≤ 4000000000) (h2 : (lnB T).count 10 ≤ 1000000) :
    Calls Tryd.prog 21 #[.string T] w fun e w' => e = .returned (.tuple #[.agg #[.string ⟨#[]⟩, .string ⟨#[]⟩, .slice none 0 0], .int .i64 80, .int .i64 (k : Nat)]) ∧ Below w.heap.size w w' := by
  refine (sParse_any T hg hw h1 (by rw [lines_count]; exact h2)).mono ?_
  rintro e w' hp
  rcases hp with ⟨s, A, n, c, e1, _⟩ | ⟨k', e1, e2, e3⟩
  · rw [h] at e1; cases e1
  · rw [h] at e1
    injection e1 with _ e1
    subst e1
    exact ⟨e2, e3⟩
theorem cut_bad {w : World} {su bo : ByteArray} {ps : List PtB} (hr : rightS su bo ps = true) (hn : ps.length + lenSum ps ≤ 10000) {T : ByteArray} (hT : T = ⟨(textB (smB su bo ps)).toArray⟩) {i : Nat} (hi : i < T.size) {C : ByteArray} (hC : lnB C = (lnB T).take i) (hg : GlAt w) (hw : 4 < w.heap.size) :
    Calls Tryd.prog 21 #[.string C] w fun e w' => e = .returned (.tuple #[.agg #[.string ⟨#[]⟩, .string ⟨#[]⟩, .slice none 0 0], .int .i64 80, .int .i64 (cnt10 T i : Nat)]) ∧ Below w.heap.size w w' := by
  have hok := okS_of hr
  have hsm := text_small hok (by
    show (ps.map ptB).length + ((ps.map ptB).map fun p => p.2.length).sum ≤ 10000
    rw [List.length_map, ptB_sum]; exact hn)
  have hl : lnB T = textB (smB su bo ps) := by rw [hT, lnB_mk]
  rw [lines_count] at hsm
  have hTs : T.size = (textB (smB su bo ps)).length := by rw [← hl]; exact (Array.length_toList).symm
  have hCs : C.size ≤ 4000000000 := by
    have h1 : C.size = (lnB C).length := (Array.length_toList).symm
    rw [h1, hC, List.length_take]; omega
  refine parse_bad C ?_ hg hw hCs ?_
  · rw [hC, hl, parse_cut hok (by omega)]
    unfold cnt10
    rw [hl]
  · rw [hC]
    have := count_take (lnB T) i
    rw [hl] at this ⊢
    omega
theorem more_bad {w : World} {su bo : ByteArray} {ps : List PtB} (hr : rightS su bo ps = true) (hn : ps.length + lenSum ps ≤ 10000) {T : ByteArray} (hT : T = ⟨(textB (smB su bo ps)).toArray⟩) {M : ByteArray} (hM : M.size ≤ 1000) (hg : GlAt w) (hw : 4 < w.heap.size) :
    Calls Tryd.prog 21 #[.string (T ++ M ++ ⟨#[10]⟩)] w fun e w' => e = .returned (.tuple #[.agg #[.string ⟨#[]⟩, .string ⟨#[]⟩, .slice none 0 0], .int .i64 80, .int .i64 (cnt10 T T.size : Nat)]) ∧ Below w.heap.size w w' := by
  have hok := okS_of hr
  have hsm := text_small hok (by
    show (ps.map ptB).length + ((ps.map ptB).map fun p => p.2.length).sum ≤ 10000
    rw [List.length_map, ptB_sum]; exact hn)
  have hl : lnB T = textB (smB su bo ps) := by rw [hT, lnB_mk]
  rw [lines_count] at hsm
  have hTs : T.size = (textB (smB su bo ps)).length := by rw [← hl]; exact (Array.length_toList).symm
  have hC : lnB (T ++ M ++ ⟨#[10]⟩) = textB (smB su bo ps) ++ lnB M ++ [10] := by
    rw [← hl]
    unfold lnB
    simp
  have hMl : (lnB M).length = M.size := Array.length_toList
  refine parse_bad _ ?_ hg hw ?_ ?_
  · rw [hC, parse_more hok, cnt10_all, hl]
  · have h1 : (T ++ M ++ ⟨#[10]⟩ : ByteArray).size = (lnB (T ++ M ++ ⟨#[10]⟩)).length := (Array.length_toList).symm
    rw [h1, hC]
    simp only [List.length_append, List.length_cons, List.length_nil]
    omega
  · rw [hC, List.count_append, List.count_append]
    have h1 : (lnB M).count 10 ≤ (lnB M).length := List.count_le_length
    have h2 : ([10] : Ln).count 10 = 1 := by decide
    omega
end Go.Proofs.YtplenagncmhhoaaDoor
