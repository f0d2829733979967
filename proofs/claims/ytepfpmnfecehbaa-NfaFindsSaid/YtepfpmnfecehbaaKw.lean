/- Tables: the reference's either. -/
import Derived.Test.YtepfpmnfecehbaaKv
import Derived.BigRegion
namespace Go.Proofs.Ytepfpmnfecehbaa
open Go.RowKit Go.Maps

/-- A table turned row by row: up to row k, column j the new one. -/
def partT (k j : Nat) (G F : Nat → Nat → Bool) (a b : Nat) : Bool := if a < k ∨ (a = k ∧ b < j) then G a b else F a b
theorem partT_step {k j : Nat} {G F : Nat → Nat → Bool} {v : Bool} (hv : G k j = v) (a b : Nat) : partT k (j + 1) G F a b = if a = k ∧ b = j then v else partT k j G F a b := by
  unfold partT
  by_cases e : a = k ∧ b = j
  · obtain ⟨rfl, rfl⟩ := e
    rw [if_pos (by omega), if_pos ⟨rfl, rfl⟩, hv]
  · rw [if_neg e]
    by_cases e2 : a < k ∨ (a = k ∧ b < j)
    · rw [if_pos e2, if_pos (by omega)]
    · rw [if_neg e2, if_neg (by omega)]
theorem partT_row {k n : Nat} {G F : Nat → Nat → Bool} (a b : Nat) (hb : b < n) : partT (k + 1) 0 G F a b = partT k n G F a b := by
  unfold partT
  by_cases e : a < k + 1
  · rw [if_pos (by omega), if_pos (by omega)]
  · rw [if_neg (by omega), if_neg (by omega)]
theorem partT_full {n : Nat} {G F : Nat → Nat → Bool} (a b : Nat) (ha : a < n) : partT n 0 G F a b = G a b := by
  unfold partT; rw [if_pos (.inl ha)]
theorem partT_start {G F : Nat → Nat → Bool} (a b : Nat) : partT 0 0 G F a b = F a b := by
  unfold partT; rw [if_neg (by omega)]
set_option maxHeartbeats 1000000 in
set_option maxRecDepth 100000 in
theorem either_any {n : Nat} {w : World} {Ba Bb ga gb ca cb : Nat} {ra rb : Nat → Nat} {Ta Tb : Nat → Nat → Bool} (ha : Tab w Ba ga ra n Ta) (hb : Tab w Bb gb rb n Tb) (h0 : 0 < n) (hn : n ≤ 100000) :
    Calls Try.prog 50 #[.slice (some ⟨ga, 0, none⟩) n ca, .slice (some ⟨gb, 0, none⟩) n cb] w (TabPost w n fun i j => Ta i j || Tb i j) := by
  have HN := Lib.hid (none_any n w h0 hn)
  have HA := Lib.hid ha
  have HBB := Lib.hid hb
  clear ha hb
  go_enter Try.func50, Try.ntmps50
  go_wp2_with fail
  refine HN.out.mono ?_
  rintro e w1 ⟨g, ro, c, rfl, hc, ht, hbw⟩
  have HT := Lib.hid (ht.congr (T' := partT 0 0 (fun i j => Ta i j || Tb i j) (fun _ _ => false)) (fun i j _ _ => partT_start i j))
  have HC := Lib.hid hc
  clear ht hc
  go_wp2_with fail
  go_loopw [6, 7] (fun i _ wr => ∃ k : Nat, k ≤ n ∧ i = .int .i64 (k : Nat) ∧ Tab wr w.heap.size g ro n (partT k 0 (fun i j => Ta i j || Tb i j) (fun _ _ => false)) ∧ Below w.heap.size w wr) (fun i _ _ => n - (intOf i).toNat)
  case atStart => exact ⟨0, Nat.zero_le _, rfl, HT.out, hbw⟩
  case round =>
    clear hbw HT
    obtain ⟨k, hk, rfl, ht, hbw⟩ := hrel
    by_cases hlt : k < n
    · have hlt' : (k : Int) < (n : Int) := by omega
      have hk0 : (0 : Int) ≤ (k : Int) := by omega
      go_wp2_with fail
      go_loopw [7] (fun i wr => ∃ j : Nat, j ≤ n ∧ i = .int .i64 (j : Nat) ∧ Tab wr w.heap.size g ro n (partT k j (fun i j => Ta i j || Tb i j) (fun _ _ => false)) ∧ Below w.heap.size w wr) (fun i _ => n - (intOf i).toNat)
      case atStart => exact ⟨0, Nat.zero_le _, rfl, ht, hbw⟩
      case round =>
        clear ht hbw
        obtain ⟨j, hj, rfl, ht, hbw⟩ := hrel
        by_cases hlt2 : j < n
        · have hlt2' : (j : Int) < (n : Int) := by omega
          have hj0 : (0 : Int) ≤ (j : Int) := by omega
          have a0 := (HA.out.below hbw).row k hlt
          have a1 := ((HA.out.below hbw).cell k j hlt hlt2).1
          have b0 := (HBB.out.below hbw).row k hlt
          have b1 := ((HBB.out.below hbw).cell k j hlt hlt2).1
          have r0 := ht.row k hlt
          obtain ⟨c0, f0⟩ := ht.cell k j hlt hlt2
          have hB := (ht.blk k hlt).1
          cases hv : Ta k j
          · rw [hv] at a1
            have HT2 := Lib.hid (ht.drew.set_ (T' := partT k (j + 1) (fun i j => Ta i j || Tb i j) (fun _ _ => false)) hlt hlt2 (v := Tb k j) (fun a b _ _ => partT_step (by simp [hv]) a b))
            clear ht hv
            generalize Tb k j = tb at *
            go_wp2_with fail
            refine wp_region_still_tail 22 (by kernel_rfl) (by kernel_rfl) ?_
            simp only [List.take_succ_cons, List.take_zero, List.drop_succ_cons, List.drop_zero]
            repeat (refine wpStill_step (fun K hK => ?_); go_simp; refine hK _ ?_; clear hK K; try simp only [Act.put, List.getElem_toArray, List.getElem_cons_zero, List.getElem_cons_succ, List.setIfInBounds_toArray, List.set_cons_zero, List.set_cons_succ])
            try refine wpStill_nil ?_
            change wpList _ _ _ _ _ wr.drew
            go_wp2
            go_roundw
            case rel => exact ⟨j + 1, by omega, by go_num, HT2.out, hbw.trans ⟨rfl, rfl, rfl, by simp [World.setCell], fun i hi => Below.heap_setCell wr _ _ i (by show i ≠ ro k; omega)⟩⟩
            case measure => simp [intOf]; omega
          · rw [hv] at a1
            have HT2 := Lib.hid (ht.drew.set_ (T' := partT k (j + 1) (fun i j => Ta i j || Tb i j) (fun _ _ => false)) hlt hlt2 (v := true) (fun a b _ _ => partT_step (by simp [hv]) a b))
            clear ht hv
            go_wp2_with fail
            go_region
            go_wp2
            go_roundw
            case rel => exact ⟨j + 1, by omega, by go_num, HT2.out, hbw.trans ⟨rfl, rfl, rfl, by simp [World.setCell], fun i hi => Below.heap_setCell wr _ _ i (by show i ≠ ro k; omega)⟩⟩
            case measure => simp [intOf]; omega
        · obtain rfl : n = j := by omega
          have hlt2' : ¬ (n : Int) < (n : Int) := by omega
          have HT2 := Lib.hid (ht.congr (T' := partT (k + 1) 0 (fun i j => Ta i j || Tb i j) (fun _ _ => false)) (fun a b _ hb => partT_row a b hb))
          clear ht
          go_wp2
          go_roundw
          case rel => exact ⟨k + 1, by omega, by go_num, HT2.out, hbw⟩
          case measure => simp [intOf]; omega
    · obtain rfl : n = k := by omega
      have hlt' : ¬ (n : Int) < (n : Int) := by omega
      have HT2 := Lib.hid (ht.congr (T' := fun i j => Ta i j || Tb i j) (fun a b ha _ => (partT_full (G := fun i j => Ta i j || Tb i j) (F := fun _ _ => false) a b ha).symm))
      clear ht
      go_wp2
      go_ret
      exact ⟨g, ro, c, rfl, HC.out, HT2.out, hbw⟩
end Go.Proofs.Ytepfpmnfecehbaa
