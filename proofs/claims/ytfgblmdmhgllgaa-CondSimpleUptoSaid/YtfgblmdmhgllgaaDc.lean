/- The reference's Same says true of two conditions that read alike. -/
import Derived.Test.YtfgblmdmhgllgaaCe
namespace Go.Proofs.Ytfgblmdmhgllgaa
open Go.RowKit

set_option maxHeartbeats 2000000 in
set_option maxRecDepth 100000 in
theorem sameC_yes : ∀ (d : Nat) (t : CT) (a0 a1 a2 a3 b0 b1 b2 b3 : Value) (w : World), CondAt w (· < w.heap.size) d t [a0, a1, a2, a3] → CondAt w (· < w.heap.size) d t [b0, b1, b2, b3] →
    Calls Try.prog 49 #[.agg #[a0, a1, a2, a3], .agg #[b0, b1, b2, b3]] w fun e w' => e = .returned (.bool true) ∧ Below w.heap.size w w' := by
  intro d
  induction d with
  | zero => intro t a0 a1 a2 a3 b0 b1 b2 b3 w h; exact h.elim
  | succ d ih =>
    intro t a0 a1 a2 a3 b0 b1 b2 b3 w ha hb
    obtain ⟨k, n, v, kids⟩ := t
    obtain ⟨A, m, c, ea, _, ⟨hm, _⟩, ka⟩ := ha
    obtain ⟨B, m2, c2, eb, _, ⟨_, _⟩, kb⟩ := hb
    simp only [List.cons.injEq, and_true] at ea eb
    obtain ⟨rfl, rfl, rfl, rfl⟩ := ea
    obtain ⟨rfl, rfl, rfl, rfl⟩ := eb
    have ka' : KidsAt w (· < w.heap.size) d A m kids := ka
    have kb' : KidsAt w (· < w.heap.size) d B m2 kids := kb
    obtain rfl : m = m2 := ka'.1.symm.trans kb'.1
    have IH := Lib.hid ih
    clear ih ka kb
    unfold maxLen at hm
    have hbw := ((Below.refl _ w).alloc (Nat.le_refl _) (.cells #[.int .i64 k, .string n, .string v, .slice A m c] 76)).alloc (by simp) (.cells #[.int .i64 k, .string n, .string v, .slice B m c2] 76)
    have hp0 : Blk ((w.alloc (.cells #[.int .i64 k, .string n, .string v, .slice A m c] 76)).alloc (.cells #[.int .i64 k, .string n, .string v, .slice B m c2] 76)) w.heap.size 76 #[.int .i64 k, .string n, .string v, .slice A m c] := (Blk.new w _ _).alloc _
    have hq0 : Blk ((w.alloc (.cells #[.int .i64 k, .string n, .string v, .slice A m c] 76)).alloc (.cells #[.int .i64 k, .string n, .string v, .slice B m c2] 76)) (w.heap.size + 1) 76 #[.int .i64 k, .string n, .string v, .slice B m c2] := by simpa using Blk.new (w.alloc (.cells #[.int .i64 k, .string n, .string v, .slice A m c] 76)) 76 _
    go_enter Try.func49, Try.ntmps49
    go_wp2_with fail
    go_loopw [5] (fun i wr => ∃ j : Nat, j ≤ m ∧ i = .int .i64 j ∧ Blk wr w.heap.size 76 #[.int .i64 k, .string n, .string v, .slice A m c] ∧ Blk wr (w.heap.size + 1) 76 #[.int .i64 k, .string n, .string v, .slice B m c2] ∧ Below w.heap.size w wr) (fun i _ => m - (intOf i).toNat)
    case atStart => exact ⟨0, Nat.zero_le _, rfl, hp0, hq0, hbw⟩
    case round =>
      clear hp0 hq0 hbw
      obtain ⟨j, hj, rfl, hp, hq, hb⟩ := hrel
      obtain ⟨p0, p1, p2, p3⟩ := blkc hp
      obtain ⟨q0, q1, q2, q3⟩ := blkc hq
      by_cases hlt : j < m
      · have hlt' : (j : Int) < (m : Int) := by omega
        have hj0 : (0 : Int) ≤ (j : Int) := by omega
        obtain ⟨b, o, t, k', n', v', B', q', c', rfl, hX, htj, e0, e1, e2, e3, ht⟩ := ka'.kid hlt
        obtain ⟨g, o', t', kx, nx, vx, Bx, qx, cx, rfl, hX', htj', f0, f1, f2, f3, ht'⟩ := kb'.kid hlt
        rw [htj] at htj'
        obtain rfl := Option.some.inj htj'
        replace e0 := (hb.cell (p := ⟨b, o + j * 4, none⟩) hX).trans e0
        replace e1 := (hb.cell (p := ⟨b, o + j * 4 + 1, none⟩) hX).trans e1
        replace e2 := (hb.cell (p := ⟨b, o + j * 4 + 2, none⟩) hX).trans e2
        replace e3 := (hb.cell (p := ⟨b, o + j * 4 + 3, none⟩) hX).trans e3
        replace f0 := (hb.cell (p := ⟨g, o' + j * 4, none⟩) hX').trans f0
        replace f1 := (hb.cell (p := ⟨g, o' + j * 4 + 1, none⟩) hX').trans f1
        replace f2 := (hb.cell (p := ⟨g, o' + j * 4 + 2, none⟩) hX').trans f2
        replace f3 := (hb.cell (p := ⟨g, o' + j * 4 + 3, none⟩) hX').trans f3
        have hXw : b < wr.heap.size := Nat.lt_of_lt_of_le hX hb.size
        have hXw' : g < wr.heap.size := Nat.lt_of_lt_of_le hX' hb.size
        have hc1 : CondAt wr (· < wr.heap.size) d t [.int .i64 k', .string n', .string v', .slice B' q' c'] := (ht.keep (fun i hi => hb.block i hi)).mono fun i hi => Nat.lt_of_lt_of_le hi hb.size
        have hc2 : CondAt wr (· < wr.heap.size) d t [.int .i64 kx, .string nx, .string vx, .slice Bx qx cx] := (ht'.keep (fun i hi => hb.block i hi)).mono fun i hi => Nat.lt_of_lt_of_le hi hb.size
        have HC := Lib.hid (IH.out t _ _ _ _ _ _ _ _ wr.drew hc1.drewB hc2.drewB)
        have hL0 := hp.lt
        have hL1 := hq.lt
        have HP := Lib.hid hp
        have HQ := Lib.hid hq
        clear ht ht' htj htj' ka' kb' hp hq hc1 hc2
        go_wp2_with fail
        go_region_held3 (fun W => W.cell? ⟨w.heap.size, 3, none⟩ = some (.slice (some ⟨b, o, none⟩) m c) ∧ W.cell? ⟨w.heap.size + 1, 3, none⟩ = some (.slice (some ⟨g, o', none⟩) m c2) ∧
            W.cell? ⟨b, o + j * 4, none⟩ = some (.int .i64 k') ∧ W.cell? ⟨b, o + j * 4 + 1, none⟩ = some (.string n') ∧ W.cell? ⟨b, o + j * 4 + 2, none⟩ = some (.string v') ∧ W.cell? ⟨b, o + j * 4 + 3, none⟩ = some (.slice B' q' c') ∧
            W.cell? ⟨g, o' + j * 4, none⟩ = some (.int .i64 kx) ∧ W.cell? ⟨g, o' + j * 4 + 1, none⟩ = some (.string nx) ∧ W.cell? ⟨g, o' + j * 4 + 2, none⟩ = some (.string vx) ∧ W.cell? ⟨g, o' + j * 4 + 3, none⟩ = some (.slice Bx qx cx)) (go_keep)
          ((go_at_call 49; (with_reducible refine HC.out.mono ?_); rintro e w3 ⟨rfl, hb3⟩
            have g0 := (hb3.cell (p := ⟨w.heap.size, 3, none⟩) hL0).trans p3
            have g1 := (hb3.cell (p := ⟨w.heap.size + 1, 3, none⟩) hL1).trans q3
            have g2 := (hb3.cell (p := ⟨b, o + j * 4, none⟩) hXw).trans e0
            have g3 := (hb3.cell (p := ⟨b, o + j * 4 + 1, none⟩) hXw).trans e1
            have g4 := (hb3.cell (p := ⟨b, o + j * 4 + 2, none⟩) hXw).trans e2
            have g5 := (hb3.cell (p := ⟨b, o + j * 4 + 3, none⟩) hXw).trans e3
            have g6 := (hb3.cell (p := ⟨g, o' + j * 4, none⟩) hXw').trans f0
            have g7 := (hb3.cell (p := ⟨g, o' + j * 4 + 1, none⟩) hXw').trans f1
            have g8 := (hb3.cell (p := ⟨g, o' + j * 4 + 2, none⟩) hXw').trans f2
            have g9 := (hb3.cell (p := ⟨g, o' + j * 4 + 3, none⟩) hXw').trans f3))
        have hb4 := Below.undrew hb3
        go_wp2
        go_roundw
        case rel => exact ⟨j + 1, by omega, by go_num, HP.out.below hb4 hL0, HQ.out.below hb4 hL1, hb.trans (hb4.mono hb.size)⟩
        case measure => simp [intOf]; omega
      · have hlt' : ¬ (j : Int) < (m : Int) := by omega
        go_wp2
        go_ret
        exact ⟨rfl, hb⟩
end Go.Proofs.Ytfgblmdmhgllgaa
