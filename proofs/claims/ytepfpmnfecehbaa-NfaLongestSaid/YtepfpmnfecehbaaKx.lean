/- Tables: the reference's both. -/
import Derived.Test.YtepfpmnfecehbaaKw
import Derived.Test.YtepfpmnfecehbaaKt
namespace Go.Proofs.Ytepfpmnfecehbaa
open Go.RowKit Go.Maps

/-- One table behind the other in the making: at row i, the k-th place between, column j. -/
def bT (Ta Tb : Nat → Nat → Bool) (n i k j a b : Nat) : Bool := if a < i then bothT Ta Tb n a b else if a = i then (if b < j then bothT Ta Tb (k + 1) a b else bothT Ta Tb k a b) else false
section
variable {Ta Tb : Nat → Nat → Bool} {n i k j : Nat}
theorem bT_start (a b : Nat) : bT Ta Tb n 0 0 0 a b = false := by
  unfold bT
  rw [if_neg (Nat.not_lt_zero _), if_neg (Nat.not_lt_zero _)]
  by_cases h : a = 0
  · rw [if_pos h]; rfl
  · rw [if_neg h]
theorem bT_at : bT Ta Tb n i k j i j = bothT Ta Tb k i j := by
  unfold bT; rw [if_neg (Nat.lt_irrefl _), if_pos rfl, if_neg (Nat.lt_irrefl _)]
theorem bT_step {v : Bool} (hv : bothT Ta Tb (k + 1) i j = v) (a b : Nat) : bT Ta Tb n i k (j + 1) a b = if a = i ∧ b = j then v else bT Ta Tb n i k j a b := by
  unfold bT
  by_cases e : a = i ∧ b = j
  · obtain ⟨rfl, rfl⟩ := e
    rw [if_neg (Nat.lt_irrefl a), if_pos rfl, if_pos (Nat.lt_succ_self b), hv]
    simp
  · rw [if_neg e]
    by_cases h1 : a < i
    · rw [if_pos h1, if_pos h1]
    · rw [if_neg h1, if_neg h1]
      by_cases h2 : a = i
      · rw [if_pos h2, if_pos h2]
        by_cases h3 : b < j
        · rw [if_pos h3, if_pos (by omega)]
        · rw [if_neg h3, if_neg (by omega)]
      · rw [if_neg h2, if_neg h2]
theorem bT_next (a b : Nat) (hb : b < n) : bT Ta Tb n i (k + 1) 0 a b = bT Ta Tb n i k n a b := by
  unfold bT; rw [if_neg (Nat.not_lt_zero _), if_pos hb]
theorem bT_skip (h : Ta i k = false) (a b : Nat) : bT Ta Tb n i (k + 1) 0 a b = bT Ta Tb n i k j a b := by
  unfold bT
  by_cases h2 : a = i
  · subst h2
    have e : bothT Ta Tb (k + 1) a b = bothT Ta Tb k a b := by rw [bothT, h]; simp
    rw [if_neg (Nat.not_lt_zero _), e]
    simp
  · rw [if_neg h2, if_neg h2]
theorem bT_row (a b : Nat) : bT Ta Tb n (i + 1) 0 0 a b = bT Ta Tb n i n 0 a b := by
  unfold bT
  rw [if_neg (Nat.not_lt_zero _), if_neg (Nat.not_lt_zero _)]
  by_cases h1 : a < i
  · rw [if_pos h1, if_pos (by omega)]
  · rw [if_neg h1]
    by_cases h2 : a = i
    · rw [if_pos h2, if_pos (by omega)]
    · rw [if_neg h2, if_neg (by omega)]
      by_cases h3 : a = i + 1
      · rw [if_pos h3]; rfl
      · rw [if_neg h3]
theorem bT_full (a b : Nat) (ha : a < n) : bothT Ta Tb n a b = bT Ta Tb n n 0 0 a b := by unfold bT; rw [if_pos ha]
end
set_option maxHeartbeats 2000000 in
set_option maxRecDepth 100000 in
theorem both_any {n : Nat} {w : World} {Ba Bb ga gb ca cb : Nat} {ra rb : Nat → Nat} {Ta Tb : Nat → Nat → Bool} (ha : Tab w Ba ga ra n Ta) (hb : Tab w Bb gb rb n Tb) (h0 : 0 < n) (hn : n ≤ 100000) :
    Calls Try.prog 49 #[.slice (some ⟨ga, 0, none⟩) n ca, .slice (some ⟨gb, 0, none⟩) n cb] w (TabPost w n (bothT Ta Tb n)) := by
  have HN := Lib.hid (none_any n w h0 hn)
  have HA := Lib.hid ha
  have HBB := Lib.hid hb
  clear ha hb
  go_enter Try.func49, Try.ntmps49
  go_wp2_with fail
  refine HN.out.mono ?_
  rintro e w1 ⟨g, ro, c, rfl, hc, ht, hbw⟩
  have HT := Lib.hid (ht.congr (T' := bT Ta Tb n 0 0 0) (fun i j _ _ => bT_start i j))
  have HC := Lib.hid hc
  clear ht hc
  go_wp2_with fail
  go_loopw [6, 7, 8] (fun vi _ _ wr => ∃ i : Nat, i ≤ n ∧ vi = .int .i64 (i : Nat) ∧ Tab wr w.heap.size g ro n (bT Ta Tb n i 0 0) ∧ Below w.heap.size w wr) (fun i _ _ _ => n - (intOf i).toNat)
  case atStart => exact ⟨0, Nat.zero_le _, rfl, HT.out, hbw⟩
  case round =>
    clear hbw HT
    obtain ⟨i, hi, rfl, ht, hbw⟩ := hrel
    by_cases hlti : i < n
    · have hlti' : (i : Int) < (n : Int) := by omega
      have hi0 : (0 : Int) ≤ (i : Int) := by omega
      go_wp2_with fail
      go_loopw [7, 8] (fun vk _ wr => ∃ k : Nat, k ≤ n ∧ vk = .int .i64 (k : Nat) ∧ Tab wr w.heap.size g ro n (bT Ta Tb n i k 0) ∧ Below w.heap.size w wr) (fun k _ _ => n - (intOf k).toNat)
      case atStart => exact ⟨0, Nat.zero_le _, rfl, ht, hbw⟩
      case round =>
        clear ht hbw
        obtain ⟨k, hk, rfl, ht, hbw⟩ := hrel
        by_cases hltk : k < n
        · have hltk' : (k : Int) < (n : Int) := by omega
          have hk0 : (0 : Int) ≤ (k : Int) := by omega
          go_wp2_with fail
          go_loopw [8] (fun vj wr => ∃ j : Nat, j ≤ n ∧ vj = .int .i64 (j : Nat) ∧ Tab wr w.heap.size g ro n (bT Ta Tb n i k j) ∧ Below w.heap.size w wr) (fun j _ => n - (intOf j).toNat)
          case atStart => exact ⟨0, Nat.zero_le _, rfl, ht, hbw⟩
          case round =>
            clear ht hbw
            obtain ⟨j, hj, rfl, ht, hbw⟩ := hrel
            have a0 := (HA.out.below hbw).row i hlti
            have a1 := ((HA.out.below hbw).cell i k hlti hltk).1
            by_cases hltj : j < n
            · have hltj' : (j : Int) < (n : Int) := by omega
              have hj0 : (0 : Int) ≤ (j : Int) := by omega
              cases hak : Ta i k
              · rw [hak] at a1
                have HT2 := Lib.hid (ht.congr (T' := bT Ta Tb n i (k + 1) 0) (fun a b _ _ => bT_skip hak a b))
                clear ht hak
                go_wp2
                go_roundw
                case rel => exact ⟨k + 1, by omega, by go_num, HT2.out, hbw⟩
                case measure => simp [intOf]; omega
              · rw [hak] at a1
                have b0 := (HBB.out.below hbw).row k hltk
                have b1 := ((HBB.out.below hbw).cell k j hltk hltj).1
                have r0 := ht.row i hlti
                obtain ⟨c0, f0⟩ := ht.cell i j hlti hltj
                rw [bT_at] at c0
                have hB := (ht.blk i hlti).1
                have HAK := Lib.hid hak
                clear hak
                cases hv : bothT Ta Tb k i j
                · rw [hv] at c0
                  have HT2 := Lib.hid (ht.drew.set_ (T' := bT Ta Tb n i k (j + 1)) hlti hltj (v := Tb k j) (fun a b _ _ => bT_step (by rw [bothT, hv, HAK.out]; simp) a b))
                  clear ht hv
                  generalize Tb k j = tb at *
                  go_wp2_with fail
                  go_still_tail 22, (by kernel_rfl)
                  change wpList _ _ _ _ _ wr.drew
                  go_wp2
                  go_roundw
                  case rel => exact ⟨j + 1, by omega, by go_num, HT2.out, hbw.trans ⟨rfl, rfl, rfl, by simp [World.setCell], fun x hx => Below.heap_setCell wr _ _ x (by show x ≠ ro i; omega)⟩⟩
                  case measure => simp [intOf]; omega
                · rw [hv] at c0
                  have HT2 := Lib.hid (ht.drew.set_ (T' := bT Ta Tb n i k (j + 1)) hlti hltj (v := true) (fun a b _ _ => bT_step (by rw [bothT, hv]; simp) a b))
                  clear ht hv
                  go_wp2_with fail
                  go_region
                  go_wp2
                  go_roundw
                  case rel => exact ⟨j + 1, by omega, by go_num, HT2.out, hbw.trans ⟨rfl, rfl, rfl, by simp [World.setCell], fun x hx => Below.heap_setCell wr _ _ x (by show x ≠ ro i; omega)⟩⟩
                  case measure => simp [intOf]; omega
            · obtain rfl : n = j := by omega
              have hltj' : ¬ (n : Int) < (n : Int) := by omega
              have HT2 := Lib.hid (ht.congr (T' := bT Ta Tb n i (k + 1) 0) (fun a b _ hb => bT_next a b hb))
              clear ht
              go_wp2
              go_roundw
              case rel => exact ⟨k + 1, by omega, by go_num, HT2.out, hbw⟩
              case measure => simp [intOf]; omega
        · obtain rfl : n = k := by omega
          have hltk' : ¬ (n : Int) < (n : Int) := by omega
          have HT2 := Lib.hid (ht.congr (T' := bT Ta Tb n (i + 1) 0 0) (fun a b _ _ => bT_row a b))
          clear ht
          go_wp2
          go_roundw
          case rel => exact ⟨i + 1, by omega, by go_num, HT2.out, hbw⟩
          case measure => simp [intOf]; omega
    · obtain rfl : n = i := by omega
      have hlti' : ¬ (n : Int) < (n : Int) := by omega
      have HT2 := Lib.hid (ht.congr (T' := bothT Ta Tb n) (fun a b ha _ => bT_full a b ha))
      clear ht
      go_wp2
      go_ret
      exact ⟨g, ro, c, rfl, HC.out, HT2.out, hbw⟩
end Go.Proofs.Ytepfpmnfecehbaa
