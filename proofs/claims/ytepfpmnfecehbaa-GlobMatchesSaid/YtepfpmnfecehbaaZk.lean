/- The reference's class. -/
import Derived.Test.YtepfpmnfecehbaaZi
namespace Go.Proofs.Ytepfpmnfecehbaa
open Go.RowKit

def CRes (w : World) (k : Nat) (r : Pr) (e : Ending) (w' : World) : Prop :=
  match r with
  | .ok t n => ∃ d kk A m c A' m' c', e = .returned (.tuple #[.agg #[.int .i64 kk, .slice A m c, .slice A' m' c'], .int .i64 ((k + n : Nat) : Int), .int .i64 0, .int .i64 0]) ∧ TreeAt w' (Fresh w w') d t [.int .i64 kk, .slice A m c, .slice A' m' c'] ∧ Below w.heap.size w w'
  | .err code off => e = .returned (.tuple #[.agg #[.int .i64 0, .slice none 0 0, .slice none 0 0], .int .i64 0, .int .i64 code, .int .i64 ((k + off : Nat) : Int)]) ∧ Below w.heap.size w w'
theorem byte_eq_true {s : ByteArray} {k : Nat} {c : UInt8} (h : byteAt s k = c) : (((byteAt s k).toNat : Int) == (c.toNat : Int)) = true := by rw [h]; simp
theorem byte_eq_false {s : ByteArray} {k : Nat} {c : UInt8} (h : byteAt s k ≠ c) : (((byteAt s k).toNat : Int) == (c.toNat : Int)) = false := by
  rw [beq_eq_false_iff_ne]; intro e; exact h (UInt8.toNat_inj.1 (by omega))
theorem byte_ne_true {s : ByteArray} {k : Nat} {c : UInt8} (h : byteAt s k ≠ c) : (((byteAt s k).toNat : Int) != (c.toNat : Int)) = true := by
  rw [bne_iff_ne]; intro e; exact h (UInt8.toNat_inj.1 (by omega))
theorem byte_ne_false {s : ByteArray} {k : Nat} {c : UInt8} (h : byteAt s k = c) : (((byteAt s k).toNat : Int) != (c.toNat : Int)) = false := by rw [h]; simp
theorem starts_rest (s : ByteArray) (k : Nat) (c : UInt8) (h : k < s.size) : starts [c] (restL s k) = (byteAt s k == c) := by
  rw [rest_cons s k h, starts_cons, Bool.eq_iff_iff]; simp only [beq_iff_eq]; exact eq_comm
/-- Whether a range goes on at k, as the reference asks it. -/
theorem dashR_at (s : ByteArray) (k : Nat) : dashR (restL s k) = (decide (k + 1 < s.size) && (byteAt s k == 45) && !(byteAt s (k + 1) == 93)) := by
  by_cases h : k + 1 < s.size
  · rw [rest_cons s k (by omega), rest_cons s (k + 1) h]
    simp only [dashR, dashB, h, decide_true, Bool.true_and, List.length_cons, starts_cons]
    have h2 : decide (2 ≤ (restL s (k + 1 + 1)).length + 1 + 1) = true := by simp
    rw [h2, Bool.true_and]
    have h3 : starts [45, 93] (byteAt s k :: byteAt s (k + 1) :: restL s (k + 1 + 1)) = ((45 == byteAt s k) && (93 == byteAt s (k + 1))) := by simp [starts, List.isPrefixOf]
    rw [h3, show (45 == byteAt s k) = (byteAt s k == 45) from Bool.eq_iff_iff.2 ⟨fun h => by rw [beq_iff_eq] at h ⊢; exact h.symm, fun h => by rw [beq_iff_eq] at h ⊢; exact h.symm⟩,
      show (93 == byteAt s (k + 1)) = (byteAt s (k + 1) == 93) from Bool.eq_iff_iff.2 ⟨fun h => by rw [beq_iff_eq] at h ⊢; exact h.symm, fun h => by rw [beq_iff_eq] at h ⊢; exact h.symm⟩]
    cases (byteAt s k == 45) <;> cases (byteAt s (k + 1) == 93) <;> rfl
  · have h2 : ¬ 2 ≤ (restL s k).length := by rw [rest_len]; omega
    simp [dashR, h, h2]
theorem class_ways (s : ByteArray) (j : Nat) (_ : j ≤ s.size) :
    (∃ k1, k1 = j + 1 ∧ j < s.size ∧ byteAt s j = 33 ∧ classP letterG 33 (restL s j) = itemsPr true (k1 - j) (itemsF letterG true (restL s k1))) ∨
    (∃ k1, k1 = j ∧ j < s.size ∧ byteAt s j ≠ 33 ∧ classP letterG 33 (restL s j) = itemsPr false (k1 - j) (itemsF letterG true (restL s k1))) ∨
    (∃ k1, k1 = j ∧ s.size ≤ j ∧ classP letterG 33 (restL s j) = itemsPr false (k1 - j) (itemsF letterG true (restL s k1))) := by
  rcases Nat.lt_or_ge j s.size with h | h
  · by_cases hb : byteAt s j = 33
    · left
      refine ⟨j + 1, rfl, h, hb, ?_⟩
      unfold classP
      rw [if_pos (by rw [starts_rest s j 33 h]; simp [hb]), rest_drop]
      cases itemsF letterG true (restL s (j + 1)) <;> simp [itemsPr]
    · right; left
      refine ⟨j, rfl, h, hb, ?_⟩
      unfold classP
      rw [if_neg (by rw [starts_rest s j 33 h]; simp [hb])]
      cases itemsF letterG true (restL s j) <;> simp [itemsPr]
  · right; right
    refine ⟨j, rfl, h, ?_⟩
    unfold classP
    rw [if_neg (by rw [rest_nil s j h, starts_nil]; simp)]
    cases itemsF letterG true (restL s j) <;> simp [itemsPr]
theorem zero_store {w wr : World} {g : Nat} (_ : Blk wr g 26 #[.int .i64 0, .slice none 0 0, .slice none 0 0]) (hb : Below w.heap.size w wr) (hg : w.heap.size ≤ g) :
    Below w.heap.size w (((wr.setCell ⟨g, 0, none⟩ (.int .i64 0)).setCell ⟨g, 1, none⟩ (.slice none 0 0)).setCell ⟨g, 2, none⟩ (.slice none 0 0)) :=
  ((hb.setCell (p := ⟨g, 0, none⟩) hg _).setCell (p := ⟨g, 1, none⟩) hg _).setCell (p := ⟨g, 2, none⟩) hg _

end Go.Proofs.Ytepfpmnfecehbaa
