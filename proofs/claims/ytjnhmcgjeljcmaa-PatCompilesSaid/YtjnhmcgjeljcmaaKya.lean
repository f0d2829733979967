/- Tables: the reference's same, both, either. Tables: the reference's either. Tables: the reference's both. The reference's Table: of a set. -/
import Derived.Test.YtjnhmcgjeljcmaaOs
import Derived.StillTailTactics
import Derived.BigRegion
import Derived.Test.YtjnhmcgjeljcmaaKm
import Derived.Test.YtjnhmcgjeljcmaaGr
namespace Go.Proofs.Ytjnhmcgjeljcmaa
open Go.RowKit Go.Maps

set_option maxHeartbeats 1000000 in
set_option maxRecDepth 100000 in
theorem samet_any (n : Nat) (w : World) (h0 : 0 < n) (hn : n ≤ 100000) : Calls Try.prog 102 #[.int .i64 (n : Int)] w (TabPost w n fun i j => decide (i = j)) := by
  have HN := Lib.hid (none_any n w h0 hn)
  go_enter Try.func102, Try.ntmps102
  go_wp2_with fail
  refine HN.out.mono ?_
  rintro e w1 ⟨g, rb, c, rfl, hc, ht, hb⟩
  have HT := Lib.hid (ht.congr (T' := fun i j => decide (i = j ∧ i < 0)) (fun i j _ _ => by simp))
  have HC := Lib.hid hc
  clear ht hc
  go_wp2_with fail
  go_loopw [4] (fun i wr => ∃ k : Nat, k ≤ n ∧ i = .int .i64 (k : Nat) ∧ Tab wr w.heap.size g rb n (fun i j => decide (i = j ∧ i < k)) ∧ Below w.heap.size w wr) (fun i _ => n - (intOf i).toNat)
  case atStart => exact ⟨0, Nat.zero_le _, rfl, HT.out, hb⟩
  case round =>
    clear hb
    obtain ⟨k, hk, rfl, ht, hb⟩ := hrel
    by_cases hlt : k < n
    · have hlt' : (k : Int) < (n : Int) := by omega
      have hk0 : (0 : Int) ≤ (k : Int) := by omega
      have r0 := ht.row k hlt
      obtain ⟨c0, f0⟩ := ht.cell k k hlt hlt
      have HT2 := Lib.hid (ht.set_ (T' := fun i j => decide (i = j ∧ i < k + 1)) hlt hlt (v := true) (fun a b _ _ => by
        by_cases e : a = k ∧ b = k
        · rw [if_pos e]; obtain ⟨rfl, rfl⟩ := e; simp
        · rw [if_neg e, decide_eq_decide]; omega))
      have hB := (ht.blk k hlt).1
      clear ht
      go_wp2
      go_roundw
      case rel => exact ⟨k + 1, by omega, by go_num, HT2.out, hb.trans ⟨rfl, rfl, rfl, by simp [World.setCell], fun j hj => Below.heap_setCell wr _ _ j (by show j ≠ rb k; omega)⟩⟩
      case measure => simp [intOf]; omega
    · obtain rfl : n = k := by omega
      have hlt' : ¬ (n : Int) < (n : Int) := by omega
      have HT2 := Lib.hid (ht.congr (T' := fun i j => decide (i = j)) (fun i j hi _ => by rw [decide_eq_decide]; omega))
      clear ht
      go_wp2
      go_ret
      exact ⟨g, rb, c, rfl, HC.out, HT2.out, hb⟩
end Go.Proofs.Ytjnhmcgjeljcmaa
namespace Go.Proofs.Ytjnhmcgjeljcmaa
open Go.RowKit Go.Maps

/-- A table turned row by row: up to row k, column j the new one. -/
def partT (k j : Nat) (G F : Nat → Nat → Bool) (a b : Nat) : Bool := if a < k ∨ (a = k ∧ b < j) then G a b else F a b
theorem partT_step {k j : Nat} {G F : Nat → Nat → Bool} {v : Bool} (hv : G k j = v) (a b : Nat) : partT k (j + 1) G F a b = if a = k ∧ b = j then v else partT k j G F a b := by
  unfold partT
  by_cases e : a = k ∧ b = j
  · obtain ⟨rfl, rfl⟩ := e
    rw [if_pos (by omega), if_pos ⟨rfl, rfl⟩, hv]
  · rw [if_neg e]
    by_cases e2 : a < k ∨ (a = k ∧ b < j)
    · rw [if_pos e2, if_pos (by omega)]
    · rw [if_neg e2, if_neg (by omega)]
theorem partT_row {k n : Nat} {G F : Nat → Nat → Bool} (a b : Nat) (hb : b < n) : partT (k + 1) 0 G F a b = partT k n G F a b := by
  unfold partT
  by_cases e : a < k + 1
  · rw [if_pos (by omega), if_pos (by omega)]
  · rw [if_neg (by omega), if_neg (by omega)]
theorem partT_full {n : Nat} {G F : Nat → Nat → Bool} (a b : Nat) (ha : a < n) : partT n 0 G F a b = G a b := by
  unfold partT; rw [if_pos (.inl ha)]
theorem partT_start {G F : Nat → Nat → Bool} (a b : Nat) : partT 0 0 G F a b = F a b := by
  unfold partT; rw [if_neg (by omega)]
set_option maxHeartbeats 1000000 in
set_option maxRecDepth 100000 in
theorem either_any {n : Nat} {w : World} {Ba Bb ga gb ca cb : Nat} {ra rb : Nat → Nat} {Ta Tb : Nat → Nat → Bool} (ha : Tab w Ba ga ra n Ta) (hb : Tab w Bb gb rb n Tb) (h0 : 0 < n) (hn : n ≤ 100000) :
    Calls Try.prog 104 #[.slice (some ⟨ga, 0, none⟩) n ca, .slice (some ⟨gb, 0, none⟩) n cb] w (TabPost w n fun i j => Ta i j || Tb i j) := by
  have HN := Lib.hid (none_any n w h0 hn)
  have HA := Lib.hid ha
  have HBB := Lib.hid hb
  clear ha hb
  go_enter Try.func104, Try.ntmps104
  go_wp2_with fail
  refine HN.out.mono ?_
  rintro e w1 ⟨g, ro, c, rfl, hc, ht, hbw⟩
  have HT := Lib.hid (ht.congr (T' := partT 0 0 (fun i j => Ta i j || Tb i j) (fun _ _ => false)) (fun i j _ _ => partT_start i j))
  have HC := Lib.hid hc
  clear ht hc
  go_wp2_with fail
  go_loopw [6, 7] (fun i _ wr => ∃ k : Nat, k ≤ n ∧ i = .int .i64 (k : Nat) ∧ Tab wr w.heap.size g ro n (partT k 0 (fun i j => Ta i j || Tb i j) (fun _ _ => false)) ∧ Below w.heap.size w wr) (fun i _ _ => n - (intOf i).toNat)
  case atStart => exact ⟨0, Nat.zero_le _, rfl, HT.out, hbw⟩
  case round =>
    clear hbw HT
    obtain ⟨k, hk, rfl, ht, hbw⟩ := hrel
    by_cases hlt : k < n
    · have hlt' : (k : Int) < (n : Int) := by omega
      have hk0 : (0 : Int) ≤ (k : Int) := by omega
      go_wp2_with fail
      go_loopw [7] (fun i wr => ∃ j : Nat, j ≤ n ∧ i = .int .i64 (j : Nat) ∧ Tab wr w.heap.size g ro n (partT k j (fun i j => Ta i j || Tb i j) (fun _ _ => false)) ∧ Below w.heap.size w wr) (fun i _ => n - (intOf i).toNat)
      case atStart => exact ⟨0, Nat.zero_le _, rfl, ht, hbw⟩
      case round =>
        clear ht hbw
        obtain ⟨j, hj, rfl, ht, hbw⟩ := hrel
        by_cases hlt2 : j < n
        · have hlt2' : (j : Int) < (n : Int) := by omega
          have hj0 : (0 : Int) ≤ (j : Int) := by omega
          have a0 := (HA.out.below hbw).row k hlt
          have a1 := ((HA.out.below hbw).cell k j hlt hlt2).1
          have b0 := (HBB.out.below hbw).row k hlt
          have b1 := ((HBB.out.below hbw).cell k j hlt hlt2).1
          have r0 := ht.row k hlt
          obtain ⟨c0, f0⟩ := ht.cell k j hlt hlt2
          have hB := (ht.blk k hlt).1
          cases hv : Ta k j
          · rw [hv] at a1
            have HT2 := Lib.hid (ht.drew.set_ (T' := partT k (j + 1) (fun i j => Ta i j || Tb i j) (fun _ _ => false)) hlt hlt2 (v := Tb k j) (fun a b _ _ => partT_step (by simp [hv]) a b))
            clear ht hv
            generalize Tb k j = tb at *
            go_wp2_with fail
            refine wp_region_still_tail 22 (by kernel_rfl) (by kernel_rfl) ?_
            simp only [List.take_succ_cons, List.take_zero, List.drop_succ_cons, List.drop_zero]
            repeat (refine wpStill_step (fun K hK => ?_); go_simp; refine hK _ ?_; clear hK K; try simp only [Act.put, List.getElem_toArray, List.getElem_cons_zero, List.getElem_cons_succ, List.setIfInBounds_toArray, List.set_cons_zero, List.set_cons_succ])
            try refine wpStill_nil ?_
            change wpList _ _ _ _ _ wr.drew
            go_wp2
            go_roundw
            case rel => exact ⟨j + 1, by omega, by go_num, HT2.out, hbw.trans ⟨rfl, rfl, rfl, by simp [World.setCell], fun i hi => Below.heap_setCell wr _ _ i (by show i ≠ ro k; omega)⟩⟩
            case measure => simp [intOf]; omega
          · rw [hv] at a1
            have HT2 := Lib.hid (ht.drew.set_ (T' := partT k (j + 1) (fun i j => Ta i j || Tb i j) (fun _ _ => false)) hlt hlt2 (v := true) (fun a b _ _ => partT_step (by simp [hv]) a b))
            clear ht hv
            go_wp2_with fail
            go_region
            go_wp2
            go_roundw
            case rel => exact ⟨j + 1, by omega, by go_num, HT2.out, hbw.trans ⟨rfl, rfl, rfl, by simp [World.setCell], fun i hi => Below.heap_setCell wr _ _ i (by show i ≠ ro k; omega)⟩⟩
            case measure => simp [intOf]; omega
        · obtain rfl : n = j := by omega
          have hlt2' : ¬ (n : Int) < (n : Int) := by omega
          have HT2 := Lib.hid (ht.congr (T' := partT (k + 1) 0 (fun i j => Ta i j || Tb i j) (fun _ _ => false)) (fun a b _ hb => partT_row a b hb))
          clear ht
          go_wp2
          go_roundw
          case rel => exact ⟨k + 1, by omega, by go_num, HT2.out, hbw⟩
          case measure => simp [intOf]; omega
    · obtain rfl : n = k := by omega
      have hlt' : ¬ (n : Int) < (n : Int) := by omega
      have HT2 := Lib.hid (ht.congr (T' := fun i j => Ta i j || Tb i j) (fun a b ha _ => (partT_full (G := fun i j => Ta i j || Tb i j) (F := fun _ _ => false) a b ha).symm))
      clear ht
      go_wp2
      go_ret
      exact ⟨g, ro, c, rfl, HC.out, HT2.out, hbw⟩
end Go.Proofs.Ytjnhmcgjeljcmaa
namespace Go.Proofs.Ytjnhmcgjeljcmaa
open Go.RowKit Go.Maps

/-- One table behind the other in the making: at row i, the k-th place between, column j. -/
def bT (Ta Tb : Nat → Nat → Bool) (n i k j a b : Nat) : Bool := if a < i then bothT Ta Tb n a b else if a = i then (if b < j then bothT Ta Tb (k + 1) a b else bothT Ta Tb k a b) else false
section
variable {Ta Tb : Nat → Nat → Bool} {n i k j : Nat}
theorem bT_start (a b : Nat) : bT Ta Tb n 0 0 0 a b = false := by
  unfold bT
  rw [if_neg (Nat.not_lt_zero _), if_neg (Nat.not_lt_zero _)]
  by_cases h : a = 0
  · rw [if_pos h]; rfl
  · rw [if_neg h]
theorem bT_at : bT Ta Tb n i k j i j = bothT Ta Tb k i j := by
  unfold bT; rw [if_neg (Nat.lt_irrefl _), if_pos rfl, if_neg (Nat.lt_irrefl _)]
theorem bT_step {v : Bool} (hv : bothT Ta Tb (k + 1) i j = v) (a b : Nat) : bT Ta Tb n i k (j + 1) a b = if a = i ∧ b = j then v else bT Ta Tb n i k j a b := by
  unfold bT
  by_cases e : a = i ∧ b = j
  · obtain ⟨rfl, rfl⟩ := e
    rw [if_neg (Nat.lt_irrefl a), if_pos rfl, if_pos (Nat.lt_succ_self b), hv]
    simp
  · rw [if_neg e]
    by_cases h1 : a < i
    · rw [if_pos h1, if_pos h1]
    · rw [if_neg h1, if_neg h1]
      by_cases h2 : a = i
      · rw [if_pos h2, if_pos h2]
        by_cases h3 : b < j
        · rw [if_pos h3, if_pos (by omega)]
        · rw [if_neg h3, if_neg (by omega)]
      · rw [if_neg h2, if_neg h2]
theorem bT_next (a b : Nat) (hb : b < n) : bT Ta Tb n i (k + 1) 0 a b = bT Ta Tb n i k n a b := by
  unfold bT; rw [if_neg (Nat.not_lt_zero _), if_pos hb]
theorem bT_skip (h : Ta i k = false) (a b : Nat) : bT Ta Tb n i (k + 1) 0 a b = bT Ta Tb n i k j a b := by
  unfold bT
  by_cases h2 : a = i
  · subst h2
    have e : bothT Ta Tb (k + 1) a b = bothT Ta Tb k a b := by rw [bothT, h]; simp
    rw [if_neg (Nat.not_lt_zero _), e]
    simp
  · rw [if_neg h2, if_neg h2]
theorem bT_row (a b : Nat) : bT Ta Tb n (i + 1) 0 0 a b = bT Ta Tb n i n 0 a b := by
  unfold bT
  rw [if_neg (Nat.not_lt_zero _), if_neg (Nat.not_lt_zero _)]
  by_cases h1 : a < i
  · rw [if_pos h1, if_pos (by omega)]
  · rw [if_neg h1]
    by_cases h2 : a = i
    · rw [if_pos h2, if_pos (by omega)]
    · rw [if_neg h2, if_neg (by omega)]
      by_cases h3 : a = i + 1
      · rw [if_pos h3]; rfl
      · rw [if_neg h3]
theorem bT_full (a b : Nat) (ha : a < n) : bothT Ta Tb n a b = bT Ta Tb n n 0 0 a b := by unfold bT; rw [if_pos ha]
end
set_option maxHeartbeats 2000000 in
set_option maxRecDepth 100000 in
theorem both_any {n : Nat} {w : World} {Ba Bb ga gb ca cb : Nat} {ra rb : Nat → Nat} {Ta Tb : Nat → Nat → Bool} (ha : Tab w Ba ga ra n Ta) (hb : Tab w Bb gb rb n Tb) (h0 : 0 < n) (hn : n ≤ 100000) :
    Calls Try.prog 103 #[.slice (some ⟨ga, 0, none⟩) n ca, .slice (some ⟨gb, 0, none⟩) n cb] w (TabPost w n (bothT Ta Tb n)) := by
  have HN := Lib.hid (none_any n w h0 hn)
  have HA := Lib.hid ha
  have HBB := Lib.hid hb
  clear ha hb
  go_enter Try.func103, Try.ntmps103
  go_wp2_with fail
  refine HN.out.mono ?_
  rintro e w1 ⟨g, ro, c, rfl, hc, ht, hbw⟩
  have HT := Lib.hid (ht.congr (T' := bT Ta Tb n 0 0 0) (fun i j _ _ => bT_start i j))
  have HC := Lib.hid hc
  clear ht hc
  go_wp2_with fail
  go_loopw [6, 7, 8] (fun vi _ _ wr => ∃ i : Nat, i ≤ n ∧ vi = .int .i64 (i : Nat) ∧ Tab wr w.heap.size g ro n (bT Ta Tb n i 0 0) ∧ Below w.heap.size w wr) (fun i _ _ _ => n - (intOf i).toNat)
  case atStart => exact ⟨0, Nat.zero_le _, rfl, HT.out, hbw⟩
  case round =>
    clear hbw HT
    obtain ⟨i, hi, rfl, ht, hbw⟩ := hrel
    by_cases hlti : i < n
    · have hlti' : (i : Int) < (n : Int) := by omega
      have hi0 : (0 : Int) ≤ (i : Int) := by omega
      go_wp2_with fail
      go_loopw [7, 8] (fun vk _ wr => ∃ k : Nat, k ≤ n ∧ vk = .int .i64 (k : Nat) ∧ Tab wr w.heap.size g ro n (bT Ta Tb n i k 0) ∧ Below w.heap.size w wr) (fun k _ _ => n - (intOf k).toNat)
      case atStart => exact ⟨0, Nat.zero_le _, rfl, ht, hbw⟩
      case round =>
        clear ht hbw
        obtain ⟨k, hk, rfl, ht, hbw⟩ := hrel
        by_cases hltk : k < n
        · have hltk' : (k : Int) < (n : Int) := by omega
          have hk0 : (0 : Int) ≤ (k : Int) := by omega
          go_wp2_with fail
          go_loopw [8] (fun vj wr => ∃ j : Nat, j ≤ n ∧ vj = .int .i64 (j : Nat) ∧ Tab wr w.heap.size g ro n (bT Ta Tb n i k j) ∧ Below w.heap.size w wr) (fun j _ => n - (intOf j).toNat)
          case atStart => exact ⟨0, Nat.zero_le _, rfl, ht, hbw⟩
          case round =>
            clear ht hbw
            obtain ⟨j, hj, rfl, ht, hbw⟩ := hrel
            have a0 := (HA.out.below hbw).row i hlti
            have a1 := ((HA.out.below hbw).cell i k hlti hltk).1
            by_cases hltj : j < n
            · have hltj' : (j : Int) < (n : Int) := by omega
              have hj0 : (0 : Int) ≤ (j : Int) := by omega
              cases hak : Ta i k
              · rw [hak] at a1
                have HT2 := Lib.hid (ht.congr (T' := bT Ta Tb n i (k + 1) 0) (fun a b _ _ => bT_skip hak a b))
                clear ht hak
                go_wp2
                go_roundw
                case rel => exact ⟨k + 1, by omega, by go_num, HT2.out, hbw⟩
                case measure => simp [intOf]; omega
              · rw [hak] at a1
                have b0 := (HBB.out.below hbw).row k hltk
                have b1 := ((HBB.out.below hbw).cell k j hltk hltj).1
                have r0 := ht.row i hlti
                obtain ⟨c0, f0⟩ := ht.cell i j hlti hltj
                rw [bT_at] at c0
                have hB := (ht.blk i hlti).1
                have HAK := Lib.hid hak
                clear hak
                cases hv : bothT Ta Tb k i j
                · rw [hv] at c0
                  have HT2 := Lib.hid (ht.drew.set_ (T' := bT Ta Tb n i k (j + 1)) hlti hltj (v := Tb k j) (fun a b _ _ => bT_step (by rw [bothT, hv, HAK.out]; simp) a b))
                  clear ht hv
                  generalize Tb k j = tb at *
                  go_wp2_with fail
                  go_still_tail 22, (by kernel_rfl)
                  change wpList _ _ _ _ _ wr.drew
                  go_wp2
                  go_roundw
                  case rel => exact ⟨j + 1, by omega, by go_num, HT2.out, hbw.trans ⟨rfl, rfl, rfl, by simp [World.setCell], fun x hx => Below.heap_setCell wr _ _ x (by show x ≠ ro i; omega)⟩⟩
                  case measure => simp [intOf]; omega
                · rw [hv] at c0
                  have HT2 := Lib.hid (ht.drew.set_ (T' := bT Ta Tb n i k (j + 1)) hlti hltj (v := true) (fun a b _ _ => bT_step (by rw [bothT, hv]; simp) a b))
                  clear ht hv
                  go_wp2_with fail
                  go_region
                  go_wp2
                  go_roundw
                  case rel => exact ⟨j + 1, by omega, by go_num, HT2.out, hbw.trans ⟨rfl, rfl, rfl, by simp [World.setCell], fun x hx => Below.heap_setCell wr _ _ x (by show x ≠ ro i; omega)⟩⟩
                  case measure => simp [intOf]; omega
            · obtain rfl : n = j := by omega
              have hltj' : ¬ (n : Int) < (n : Int) := by omega
              have HT2 := Lib.hid (ht.congr (T' := bT Ta Tb n i (k + 1) 0) (fun a b _ hb => bT_next a b hb))
              clear ht
              go_wp2
              go_roundw
              case rel => exact ⟨k + 1, by omega, by go_num, HT2.out, hbw⟩
              case measure => simp [intOf]; omega
        · obtain rfl : n = k := by omega
          have hltk' : ¬ (n : Int) < (n : Int) := by omega
          have HT2 := Lib.hid (ht.congr (T' := bT Ta Tb n (i + 1) 0 0) (fun a b _ _ => bT_row a b))
          clear ht
          go_wp2
          go_roundw
          case rel => exact ⟨i + 1, by omega, by go_num, HT2.out, hbw⟩
          case measure => simp [intOf]; omega
    · obtain rfl : n = i := by omega
      have hlti' : ¬ (n : Int) < (n : Int) := by omega
      have HT2 := Lib.hid (ht.congr (T' := bothT Ta Tb n) (fun a b ha _ => bT_full a b ha))
      clear ht
      go_wp2
      go_ret
      exact ⟨g, ro, c, rfl, HC.out, HT2.out, hbw⟩
end Go.Proofs.Ytjnhmcgjeljcmaa
namespace Go.Proofs.Ytjnhmcgjeljcmaa
open Go.RowKit Go.Maps

theorem none_at (s : ByteArray) (W : World) (hs : s.size ≤ 99000) : Calls Try.prog 100 #[.int .i64 ((s.size : Int) + 1)] W (TabPost W (s.size + 1) fun _ _ => false) := by
  have := none_any (s.size + 1) W (by omega) (by omega)
  simpa using this
theorem samet_at (s : ByteArray) (W : World) (hs : s.size ≤ 99000) : Calls Try.prog 102 #[.int .i64 ((s.size : Int) + 1)] W (TabPost W (s.size + 1) fun i j => decide (i = j)) := by
  have := samet_any (s.size + 1) W (by omega) (by omega)
  simpa using this
/-- The rows of a set's table so far. -/
def setP (rs : List (UInt8 × UInt8)) (s : List UInt8) (k a b : Nat) : Bool := decide (a < k) && setT rs s a b
theorem setP_step {rs : List (UInt8 × UInt8)} {s : ByteArray} {k : Nat} (hk : k < s.size) (a b : Nat) : setP rs s.data.toList (k + 1) a b = if a = k ∧ b = k + 1 then inR rs (byteAt s k).toNat else setP rs s.data.toList k a b := by
  have hl : k < s.data.toList.length := hk
  have hg : s.data.toList[k]? = some (byteAt s k) := by
    rw [List.getElem?_eq_getElem hl, ← byteAt_eq s k hk]; rfl
  unfold setP
  by_cases e : a = k ∧ b = k + 1
  · obtain ⟨rfl, rfl⟩ := e
    rw [if_pos ⟨rfl, rfl⟩]
    unfold setT
    rw [hg]; simp
  · rw [if_neg e]
    by_cases e2 : a = k
    · subst e2
      have e3 : ¬ b = a + 1 := fun x => e ⟨rfl, x⟩
      unfold setT
      rw [hg]; simp [e3]
    · have h1 : decide (a < k + 1) = decide (a < k) := by rw [decide_eq_decide]; omega
      rw [h1]
theorem setP_full {rs : List (UInt8 × UInt8)} {s : List UInt8} (a b : Nat) : setT rs s a b = setP rs s s.length a b := by
  unfold setP
  by_cases h : a < s.length
  · simp [h]
  · unfold setT
    rw [List.getElem?_eq_none (by omega)]; simp
theorem setP_start {rs : List (UInt8 × UInt8)} {s : List UInt8} (a b : Nat) : setP rs s 0 a b = false := by simp [setP]
set_option maxHeartbeats 1000000 in
set_option maxRecDepth 100000 in
theorem table1_any (rs : List (UInt8 × UInt8)) (kids : List Tr) (A A' : Option Addr) (n c n' c' : Nat) (s : ByteArray) (w : World) (hr : RgAt w (· < w.heap.size) A n rs) (hn : n ≤ maxLen) (hs : s.size ≤ 99000) (d : Nat) :
    Calls Try.prog 76 #[.agg #[.int .i64 1, .slice A n c, .slice A' n' c'], .string s] w (TabPost w (s.size + 1) (tabT s.data.toList (d + 1) (.mk 1 rs kids))) := by
  have HT0 : tabT s.data.toList (d + 1) (.mk 1 rs kids) = setT rs s.data.toList := by unfold tabT; rw [if_pos rfl]
  rw [HT0]
  clear HT0
  have k0 : Blk (w.alloc (.cells #[.int .i64 1, .slice A n c, .slice A' n' c'] 26)) w.heap.size 26 #[.int .i64 1, .slice A n c, .slice A' n' c'] := Blk.new w _ _
  have b0 : Below w.heap.size w (w.alloc (.cells #[.int .i64 1, .slice A n c, .slice A' n' c'] 26)) := (Below.refl _ w).alloc (Nat.le_refl _) _
  have hsz : (w.alloc (.cells #[.int .i64 1, .slice A n c, .slice A' n' c'] 26)).heap.size = w.heap.size + 1 := by simp
  have HN := Lib.hid (fun W => none_at s W hs)
  have K0 := Lib.hid k0
  have B0 := Lib.hid b0
  have hN : 0 < s.size + 1 := by omega
  clear k0 b0
  go_enter Try.func76, Try.ntmps76
  go_wp2_with fail
  refine (HN.out _).mono ?_
  rintro e w1 ⟨g, rb, cc, rfl, hc, ht, hb⟩
  have KW := Lib.hid (K0.out.below hb (by omega))
  have hg := ht.low
  have HT := Lib.hid ((ht.mono (B' := w.heap.size + 1) (by omega)).congr (T' := setP rs s.data.toList 0) (fun a b _ _ => setP_start a b))
  have HC := Lib.hid hc
  have HB := Lib.hid (B0.out.trans (hb.mono (by omega)))
  clear hc ht hb hg
  go_wp2_with fail
  go_loopw [6] (fun i wr => ∃ k : Nat, k ≤ s.size ∧ i = .int .i64 (k : Nat) ∧ Tab wr (w.heap.size + 1) g rb (s.size + 1) (setP rs s.data.toList k) ∧ Below w.heap.size w wr ∧ Blk wr w.heap.size 26 #[.int .i64 1, .slice A n c, .slice A' n' c']) (fun i _ => s.size - (intOf i).toNat)
  case atStart => exact ⟨0, Nat.zero_le _, rfl, HT.out, HB.out, KW.out⟩
  case round =>
    clear HT HB KW
    obtain ⟨k, hk, rfl, ht, hb, hkw⟩ := hrel
    have hbs := hb.size
    by_cases hlt : k < s.size
    · have hlt' : (k : Int) < (s.size : Int) := by omega
      have hk0 : (0 : Int) ≤ (k : Int) := by omega
      have hk1 : (k : Int) < (s.size : Int) + 1 := by omega
      have hk2 : (0 : Int) ≤ (k : Int) + 1 := by omega
      have hk3 : (k : Int) + 1 < (s.size : Int) + 1 := by omega
      have hk4 : IntKind.i64.wrap ((k : Int) + 1) = (k : Int) + 1 := by rw [IntKind.wrap_i64]; omega
      have hk5 : ((k : Int) + 1).toNat = k + 1 := by omega
      have hbt := byteAt_eq s k hlt
      have hwr : IntKind.i64.wrap ((byteAt s k).toNat : Int) = ((byteAt s k).toNat : Int) := by rw [IntKind.wrap_i64]; have := (byteAt s k).toNat_lt; omega
      have r0 := ht.row k (by omega)
      obtain ⟨c0, f0⟩ := ht.cell k (k + 1) (by omega) (by omega)
      have hw1 : wr.cell? ⟨w.heap.size, 1, none⟩ = some (.slice A n c) := hkw.cell 1
      have hB := (ht.blk k (by omega)).1
      have HT2 := Lib.hid (ht.drew.set_ (T' := setP rs s.data.toList (k + 1)) (i := k) (j := k + 1) (by omega) (by omega) (v := inR rs (byteAt s k).toNat) (fun a b _ _ => setP_step hlt a b))
      have HIN := Lib.hid (show Calls Try.prog 101 #[.slice A n c, .int .i64 ((byteAt s k).toNat : Int)] wr.drew (fun e w'' => e = .returned (.bool (inR rs (byteAt s k).toNat)) ∧ w'' = wr.drew) from (in_any A n c rs (byteAt s k).toNat wr.drew ((hr.keep (w' := wr.drew) (fun b hb' => hb.block b hb')).mono fun b hb' => Nat.lt_of_lt_of_le hb' hbs) hn (by have := (byteAt s k).toNat_lt; omega)).mono fun _ _ h => ⟨h.1, h.2.symm⟩)
      have HKW := Lib.hid hkw
      have HB := Lib.hid hb
      clear ht hkw hb
      go_wp2_with fail
      refine wp_region_still_tail 14 (by kernel_rfl) (by kernel_rfl) ?_
      simp only [List.take_succ_cons, List.take_zero, List.drop_succ_cons, List.drop_zero]
      repeat still_step
      still_call HIN.out
      repeat still_step
      refine wpStill_nil ?_
      change wpList _ _ _ _ _ wr.drew
      go_wp2
      go_roundw
      case rel => exact ⟨k + 1, by omega, by go_num, HT2.out, HB.out.trans ⟨rfl, rfl, rfl, by simp [World.setCell], fun x hx => Below.heap_setCell wr _ _ x (by show x ≠ rb k; omega)⟩, HKW.out.drew.far (by show w.heap.size ≠ rb k; omega) _⟩
      case measure => simp [intOf]; omega
    · obtain rfl : s.size = k := by omega
      have hlt' : ¬ (s.size : Int) < (s.size : Int) := by omega
      have HT2 := Lib.hid ((ht.mono (B' := w.heap.size) (by omega)).congr (T' := setT rs s.data.toList) (fun a b _ _ => setP_full (s := s.data.toList) a b))
      clear ht
      go_wp2
      go_ret
      exact ⟨g, rb, cc, rfl, HC.out, HT2.out, hb⟩
end Go.Proofs.Ytjnhmcgjeljcmaa
