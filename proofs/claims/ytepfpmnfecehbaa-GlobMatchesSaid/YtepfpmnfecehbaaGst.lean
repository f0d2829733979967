/- GlobStars answers true. -/
import Derived.Test.YtepfpmnfecehbaaAl
import Derived.Test.YtepfpmnfecehbaaGx
namespace Go.Proofs.Ytepfpmnfecehbaa
open Go.RowKit

theorem list_app (x y : ByteArray) : (x ++ y).data.toList = x.data.toList ++ y.data.toList := by rw [ByteArray.data_append]; simp
theorem list_mk (l : List UInt8) : (⟨l.toArray⟩ : ByteArray).data.toList = l := by simp
theorem size_mk (l : List UInt8) : (⟨l.toArray⟩ : ByteArray).size = l.length := by simp [ByteArray.size]
theorem size_app (x y : ByteArray) : (x ++ y).size = x.size + y.size := by
  have := congrArg List.length (list_app x y)
  rw [List.length_append] at this
  exact this
theorem ext_pre (s a : ByteArray) (_ : a.size ≤ s.size) : ((s.extract 0 a.size).toList == a.toList) = a.data.toList.isPrefixOf s.data.toList := by
  have h1 : (s.extract 0 a.size).toList = s.data.toList.take a.size := by
    rw [ByteArray.toList_eq]; simp [ByteArray.data_extract]
  rw [h1, ByteArray.toList_eq, Bool.eq_iff_iff, List.isPrefixOf_iff_prefix, List.prefix_iff_eq_take]
  simp only [beq_iff_eq]
  exact eq_comm
theorem ext_suf (s b : ByteArray) : ((s.extract (s.size - b.size) s.size).toList == b.toList) = decide (s.data.toList.drop (s.data.toList.length - b.data.toList.length) = b.data.toList) := by
  have h1 : (s.extract (s.size - b.size) s.size).toList = s.data.toList.drop (s.size - b.size) := by
    rw [ByteArray.toList_eq, rest_extract]; rfl
  rw [h1, ByteArray.toList_eq, Bool.eq_iff_iff]
  simp only [beq_iff_eq, decide_eq_true_eq]
  exact Iff.rfl
/-- The four calls that the law makes. -/
structure StarCalls (a b s x y : ByteArray) (bg bt : Bool) : Prop where
  m1 : ∀ W, Calls Try.prog 15 #[.string ⟨#[42]⟩, .string s] W fun e w' => e = .returned (.bool true) ∧ Below W.heap.size W w'
  m2 : ∀ W, Calls Try.prog 15 #[.string ⟨#[63]⟩, .string s] W fun e w' => e = .returned (.bool ((s.size : Int) == 1)) ∧ Below W.heap.size W w'
  m3 : ∀ W, Calls Try.prog 15 #[.string (x ++ ⟨#[42]⟩), .string s] W fun e w' => e = .returned (.bool bg) ∧ Below W.heap.size W w'
  m4 : ∀ W, Calls Try.prog 15 #[.string ((x ++ ⟨#[42]⟩) ++ y), .string s] W fun e w' => e = .returned (.bool bt) ∧ Below W.heap.size W w'
  qa : ∀ W, Calls Try.prog 40 #[.string a] W fun e w' => e = .returned (.string x) ∧ Below W.heap.size W w'
  qb : ∀ W, Calls Try.prog 40 #[.string b] W fun e w' => e = .returned (.string y) ∧ Below W.heap.size W w'
theorem starCalls (a b s : ByteArray) (hab : a.size + b.size ≤ 100) (hs : s.size ≤ 5000) {bg bt : Bool} (h3 : bg = a.data.toList.isPrefixOf s.data.toList)
    (h4 : bt = (a.data.toList.isPrefixOf s.data.toList && decide (a.data.toList.length + b.data.toList.length ≤ s.data.toList.length) && decide (s.data.toList.drop (s.data.toList.length - b.data.toList.length) = b.data.toList))) : ∃ x y, StarCalls a b s x y bg bt ∧ x.size ≤ 200 ∧ y.size ≤ 200 := by
  have la := quoteG_len a.data.toList
  have lb := quoteG_len b.data.toList
  have ea : a.data.toList.length = a.size := rfl
  have eb : b.data.toList.length = b.size := rfl
  have hsm : s.size ≤ maxLen := by unfold maxLen; omega
  refine ⟨⟨(quoteG a.data.toList).toArray⟩, ⟨(quoteG b.data.toList).toArray⟩, ?_, by rw [size_mk]; omega, by rw [size_mk]; omega⟩
  refine ⟨fun W => (match_any _ _ W hsm).mono ?_, fun W => (match_any _ _ W hsm).mono ?_, fun W => (match_any _ _ W hsm).mono ?_, fun W => (match_any _ _ W hsm).mono ?_, fun W => quote_any a W (by omega), fun W => quote_any b W (by omega)⟩
  · rintro e w' ⟨rfl, hb⟩; exact ⟨ret_bool (match_star _), hb⟩
  · rintro e w' ⟨rfl, hb⟩
    refine ⟨ret_bool ?_, hb⟩
    rw [match_one, Bool.eq_iff_iff]
    simp only [decide_eq_true_eq, beq_iff_eq]
    have : s.data.toList.length = s.size := rfl
    omega
  · rintro e w' ⟨rfl, hb⟩
    refine ⟨ret_bool ?_, hb⟩
    rw [list_app, list_mk]
    show matchG (quoteG a.data.toList ++ [42]) _ = _
    rw [match_pre (by omega), h3]
  · rintro e w' ⟨rfl, hb⟩
    refine ⟨ret_bool ?_, hb⟩
    rw [list_app, list_app, list_mk, list_mk]
    show matchG ((quoteG a.data.toList ++ [42]) ++ quoteG b.data.toList) _ = _
    rw [match_both (by omega), h4]

end Go.Proofs.Ytepfpmnfecehbaa
