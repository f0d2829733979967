/- GlobQuotes answers true, of texts that a builder can hold twice. -/
import Derived.Test.YtacmfhopelkbbaaGst
namespace Go.Proofs.Ytacmfhopelkbbaa
open Go.RowKit

set_option maxHeartbeats 1000000 in
set_option maxRecDepth 100000 in
theorem globQuotes_walk (s t : ByteArray) (hs : s.size ≤ 1048576) (ht : t.size ≤ maxLen) (w : World) :
    Calls Try.prog 4 #[.string s, .string t] w fun e w' => e = .returned (.bool true) ∧ Below w.heap.size w w' := by
  have hsm : s.size ≤ maxLen := by unfold maxLen; omega
  obtain ⟨x, hx, HQ⟩ : ∃ x : ByteArray, x.data.toList = quoteG s.data.toList ∧ ∀ W, Calls Try.prog 13 #[.string s] W fun e w' => e = .returned (.string x) ∧ Below W.heap.size W w' :=
    ⟨⟨(quoteG s.data.toList).toArray⟩, list_mk _, fun W => quote_any s W (by omega)⟩
  have hxs : (quoteG s.data.toList).length = x.size := by rw [← hx]; rfl
  have hxl := quoteG_len s.data.toList
  have hsl : s.data.toList.length = s.size := rfl
  have hxb : x.size ≤ 2097152 := by omega
  have HQ' := Lib.hid HQ
  clear HQ
  by_cases hbig : 256 < x.size
  · have hbig' : (256 : Int) < (x.size : Int) := by omega
    have HM := Lib.hid (fun W => (match_any x s W hsm).mono (fun e w' h => (show e = .returned (.bool false) ∧ Below W.heap.size W w' from ⟨by rw [h.1, hx, matchG_long (by omega)], h.2⟩)))
    clear hx hxs hsl
    go_enter Try.func4, Try.ntmps4
    go_wp2_with fail
    refine (alive_any _).mono ?_
    rintro e w1 ⟨rfl, b1⟩
    go_wp2_with fail
    refine (HQ'.out _).mono ?_
    rintro e w2 ⟨rfl, b2⟩
    go_wp2_with fail
    refine (HM.out _).mono ?_
    rintro e w3 ⟨rfl, b3⟩
    go_wp2
    go_ret
    have c2 := b1.trans (b2.mono b1.size)
    exact ⟨rfl, c2.trans (b3.mono c2.size)⟩
  · have hbig' : ¬ (256 : Int) < (x.size : Int) := by omega
    have HM1 := Lib.hid (fun W => (match_any x s W hsm).mono (fun e w' h => (show e = .returned (.bool true) ∧ Below W.heap.size W w' from ⟨by rw [h.1, hx, match_quote (by omega)]; simp, h.2⟩)))
    have heq : decide (s.data.toList = t.data.toList) = (s.toList == t.toList) := by
      rw [ByteArray.toList_eq, ByteArray.toList_eq, Bool.eq_iff_iff]; simp only [decide_eq_true_eq, beq_iff_eq]
    have HM2 := Lib.hid (fun W => (match_any x t W ht).mono (fun e w' h => (show e = .returned (.bool (s.toList == t.toList)) ∧ Below W.heap.size W w' from ⟨by rw [h.1, hx, match_quote (by omega), heq], h.2⟩)))
    clear hx hxs hsl heq
    go_enter Try.func4, Try.ntmps4
    go_wp2_with fail
    refine (alive_any _).mono ?_
    rintro e w1 ⟨rfl, b1⟩
    go_wp2_with fail
    refine (HQ'.out _).mono ?_
    rintro e w2 ⟨rfl, b2⟩
    go_wp2_with fail
    refine (HM1.out _).mono ?_
    rintro e w3 ⟨rfl, b3⟩
    go_wp2_with fail
    refine (HM2.out _).mono ?_
    rintro e w4 ⟨rfl, b4⟩
    go_wp2
    go_ret
    have c2 := b1.trans (b2.mono b1.size)
    have c3 := c2.trans (b3.mono c2.size)
    exact ⟨ret_bool (by simp), c3.trans (b4.mono c3.size)⟩
end Go.Proofs.Ytacmfhopelkbbaa
