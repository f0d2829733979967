/- The reference's SameTexts says true of equal rows; the law's examples (alive). -/
import Derived.Test.YtfgblmdmhgllgaaCv
namespace Go.Proofs.Ytfgblmdmhgllgaa
open Go.RowKit Go.Maps

/-- Texts in memory. -/
def TxAt (w : World) (A : Option Addr) (m : Nat) (ss : List (List UInt8)) : Prop := ss.length = m ∧ (0 < m → ∃ b o, A = some ⟨b, o, none⟩ ∧ b < w.heap.size ∧ ∀ i s, ss[i]? = some s → w.cell? ⟨b, o + i, none⟩ = some (.string ⟨s.toArray⟩))
theorem TxAt.below {w w' : World} {A : Option Addr} {m : Nat} {ss : List (List UInt8)} (h : TxAt w A m ss) (hb : Below w.heap.size w w') : TxAt w' A m ss := by
  refine ⟨h.1, fun hn => ?_⟩
  obtain ⟨b, o, hA, hlt, hc⟩ := h.2 hn
  exact ⟨b, o, hA, Nat.lt_of_lt_of_le hlt hb.size, fun i s hs => (hb.cell (p := ⟨b, o + i, none⟩) hlt).trans (hc i s hs)⟩
theorem row_texts {w : World} {B : Nat} {u : Value} {ss : List (List UInt8)} (h : w.ownsRow B 9 1 u ss.length (ss.map encStr)) : ∃ A c, u = .slice A ss.length c ∧ TxAt w A ss.length ss ∧ ss.length ≤ maxLen := by
  rcases h.2 with ⟨e, h0⟩ | ⟨g, cap, cur, e, hB, hg, hn, hm, hc, ht⟩
  · exact ⟨none, 0, by rw [e, h0], ⟨rfl, fun hp => by omega⟩, by rw [h0]; exact Nat.zero_le _⟩
  · refine ⟨_, _, e, ⟨rfl, fun hp => ⟨g, 0, rfl, (Array.getElem?_eq_some_iff.1 hg).1, fun i s hs => ?_⟩⟩, by omega⟩
    rw [cell_of_row w g (0 + i) cur 9 (0, 0) hg]
    have h5 : (cur.toList.take (ss.length * 1))[i]? = some (encStr s) := by rw [ht, List.getElem?_map, hs]; rfl
    have hl := (List.getElem?_eq_some_iff.1 hs).1
    rw [List.getElem?_take_of_lt (by omega)] at h5
    rw [Nat.zero_add, ← Array.getElem?_toList]
    exact h5
set_option maxHeartbeats 1000000 in
set_option maxRecDepth 100000 in
theorem sameTexts_yes {w : World} {A B : Option Addr} {m c d : Nat} {ss : List (List UInt8)} (ha : TxAt w A m ss) (hb : TxAt w B m ss) (hm : m ≤ maxLen) :
    Calls Try.prog 87 #[.slice A m c, .slice B m d] w fun e w' => e = .returned (.bool true) ∧ Below w.heap.size w w' := by
  unfold maxLen at hm
  go_enter Try.func87, Try.ntmps87
  go_wp2_with fail
  go_loopw [5] (fun i wr => ∃ j : Nat, j ≤ m ∧ i = .int .i64 j ∧ Below w.heap.size w wr) (fun i _ => m - (intOf i).toNat)
  case atStart => exact ⟨0, Nat.zero_le _, rfl, Below.refl _ _⟩
  case round =>
    obtain ⟨j, hj, rfl, hbw⟩ := hrel
    by_cases hlt : j < m
    · have hlt' : (j : Int) < (m : Int) := by omega
      have hj0 : (0 : Int) ≤ (j : Int) := by omega
      obtain ⟨b1, o1, rfl, hb1, hc1⟩ := ha.2 (by omega)
      obtain ⟨b2, o2, rfl, hb2, hc2⟩ := hb.2 (by omega)
      have hjs : j < ss.length := by have := ha.1; omega
      have y1 := (hbw.cell (p := ⟨b1, o1 + j, none⟩) hb1).trans (hc1 j _ (List.getElem?_eq_getElem hjs))
      have y2 := (hbw.cell (p := ⟨b2, o2 + j, none⟩) hb2).trans (hc2 j _ (List.getElem?_eq_getElem hjs))
      generalize (⟨ss[j].toArray⟩ : ByteArray) = s at y1 y2
      clear hc1 hc2
      go_wp2
      go_quiet (fail)
      go_wp2
      go_roundw
      case rel => exact ⟨j + 1, by omega, by go_num, ⟨hbw.os, hbw.tape, hbw.output, hbw.size, hbw.block⟩⟩
      case measure => simp [intOf]; omega
    · have hlt' : ¬ (j : Int) < (m : Int) := by omega
      go_wp2
      go_ret
      exact ⟨rfl, hbw⟩
theorem emp0 : emp ⟨#[]⟩ = true := by unfold emp; rw [ByteArray.toList_eq]; rfl
theorem word_a : wordB ⟨#[97]⟩ = true := by decide +kernel
theorem no_right : rightT 20 noT = true := by
  simp [rightT, noT, orT, isT, alone, emp0, word_a]
theorem no_holds : holdsT [] noT = true ∧ holdsT [(⟨#[97]⟩, ⟨#[50]⟩)] noT = false := by
  constructor <;> simp [holdsT, firstT, anyT, noT, orT, isT, hasP]
theorem no_simple : simpleL noT = .mk 4 ⟨#[]⟩ ⟨#[]⟩ [.mk 2 ⟨#[97]⟩ ⟨#[49]⟩ [], .mk 2 ⟨#[97]⟩ ⟨#[50]⟩ []] := by
  unfold simpleL; rw [no_right]; rfl
theorem no_names : namesL noT = [[97]] := by
  unfold namesL; rw [no_right]; decide +kernel
theorem no_few : (namesT noT).length ≤ 1000000000 := by decide
end Go.Proofs.Ytfgblmdmhgllgaa
