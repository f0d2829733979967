/- Tables: the reference's same, both, either. -/
import Derived.Test.YtepfpmnfecehbaaKu
import Derived.StillTailTactics
namespace Go.Proofs.Ytepfpmnfecehbaa
open Go.RowKit Go.Maps

set_option maxHeartbeats 1000000 in
set_option maxRecDepth 100000 in
theorem samet_any (n : Nat) (w : World) (h0 : 0 < n) (hn : n ≤ 100000) : Calls Try.prog 48 #[.int .i64 (n : Int)] w (TabPost w n fun i j => decide (i = j)) := by
  have HN := Lib.hid (none_any n w h0 hn)
  go_enter Try.func48, Try.ntmps48
  go_wp2_with fail
  refine HN.out.mono ?_
  rintro e w1 ⟨g, rb, c, rfl, hc, ht, hb⟩
  have HT := Lib.hid (ht.congr (T' := fun i j => decide (i = j ∧ i < 0)) (fun i j _ _ => by simp))
  have HC := Lib.hid hc
  clear ht hc
  go_wp2_with fail
  go_loopw [4] (fun i wr => ∃ k : Nat, k ≤ n ∧ i = .int .i64 (k : Nat) ∧ Tab wr w.heap.size g rb n (fun i j => decide (i = j ∧ i < k)) ∧ Below w.heap.size w wr) (fun i _ => n - (intOf i).toNat)
  case atStart => exact ⟨0, Nat.zero_le _, rfl, HT.out, hb⟩
  case round =>
    clear hb
    obtain ⟨k, hk, rfl, ht, hb⟩ := hrel
    by_cases hlt : k < n
    · have hlt' : (k : Int) < (n : Int) := by omega
      have hk0 : (0 : Int) ≤ (k : Int) := by omega
      have r0 := ht.row k hlt
      obtain ⟨c0, f0⟩ := ht.cell k k hlt hlt
      have HT2 := Lib.hid (ht.set_ (T' := fun i j => decide (i = j ∧ i < k + 1)) hlt hlt (v := true) (fun a b _ _ => by
        by_cases e : a = k ∧ b = k
        · rw [if_pos e]; obtain ⟨rfl, rfl⟩ := e; simp
        · rw [if_neg e, decide_eq_decide]; omega))
      have hB := (ht.blk k hlt).1
      clear ht
      go_wp2
      go_roundw
      case rel => exact ⟨k + 1, by omega, by go_num, HT2.out, hb.trans ⟨rfl, rfl, rfl, by simp [World.setCell], fun j hj => Below.heap_setCell wr _ _ j (by show j ≠ rb k; omega)⟩⟩
      case measure => simp [intOf]; omega
    · obtain rfl : n = k := by omega
      have hlt' : ¬ (n : Int) < (n : Int) := by omega
      have HT2 := Lib.hid (ht.congr (T' := fun i j => decide (i = j)) (fun i j hi _ => by rw [decide_eq_decide]; omega))
      clear ht
      go_wp2
      go_ret
      exact ⟨g, rb, c, rfl, HC.out, HT2.out, hb⟩
end Go.Proofs.Ytepfpmnfecehbaa
