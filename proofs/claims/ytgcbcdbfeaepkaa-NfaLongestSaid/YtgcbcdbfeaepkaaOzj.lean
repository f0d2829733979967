/- The reference's Check, Last, Find. -/
import Derived.Test.YtgcbcdbfeaepkaaOzi
namespace Go.Proofs.Ytgcbcdbfeaepkaa
open Go.RowKit Go.Maps

def CkPost (w : World) (d : Nat) (t : Tr) (e : Ending) (w' : World) : Prop := ∃ r : Int, e = .returned (.int .i64 r) ∧ (r = 0 → GoodT d t) ∧ Below w.heap.size w w'
set_option maxHeartbeats 1000000 in
set_option maxRecDepth 100000 in
theorem rcheck_any {d : Nat} {t : Tr} {v0 v1 v2 : Value} {w : World} (h : TreeAt w (· < w.heap.size) d t [v0, v1, v2]) : Calls Try.prog 16 #[.agg #[v0, v1, v2]] w (CkPost w d t) := by
  obtain ⟨k, A, n, c, A', n', c', rfl, rfl, rfl⟩ := tree_shape h
  have hb0 : Below w.heap.size w (w.alloc (.cells #[.int .i64 k, .slice A n c, .slice A' n' c'] 25)) := (Below.refl _ w).alloc (Nat.le_refl _) _
  have kx := Blk.new w 25 #[.int .i64 k, .slice A n c, .slice A' n' c']
  have HD := Lib.hid (show Calls Try.prog 50 #[.agg #[.int .i64 k, .slice A n c, .slice A' n' c'], .int .i64 300] (w.alloc (.cells #[.int .i64 k, .slice A n c, .slice A' n' c'] 25)) (DeepPost _ d t 300) from deep_any d t _ _ _ _ 300 (tree_below h hb0) (by decide))
  have HB0 := Lib.hid hb0
  have HK0 := Lib.hid kx
  have HT := Lib.hid h
  clear hb0 kx h
  go_enter Try.func16, Try.ntmps16
  go_wp2_with fail
  refine HD.out.mono ?_
  rintro e w2 ⟨bd, rfl, hbd, b2⟩
  have HB2 := Lib.hid (HB0.out.trans (b2.mono HB0.out.size))
  have HK2 := Lib.hid (node_cells HK0.out b2)
  clear b2 HD HB0 HK0 hbd
  cases bd with
  | true =>
    go_wp2_with fail
    go_ret
    exact ⟨34, rfl, (fun h => by omega), HB2.out⟩
  | false =>
    obtain ⟨k0, k1, k2, -, -, -⟩ := blk3 HK2.out
    have HC := Lib.hid (show Calls Try.prog 51 #[.agg #[.int .i64 k, .slice A n c, .slice A' n' c'], .int .i64 1001] w2 (RCPost w2 d t 1001) from rcount_any d t _ _ _ w2 1001 (tree_below HT.out HB2.out) (by decide) (by decide))
    go_wp2_with fail
    refine HC.out.mono ?_
    rintro e w3 ⟨r, rfl, hr1, hr2, b3⟩
    have HB3 := Lib.hid (HB2.out.trans (b3.mono HB2.out.size))
    have HK3 := Lib.hid (node_cells HK2.out b3)
    clear k0 k1 k2 b3 HC HB2 HK2 hr2
    by_cases hr : 1000 < r
    · have hr' : (1000 : Int) < (r : Int) := by omega
      go_wp2_with fail
      go_ret
      exact ⟨34, rfl, (fun h => by omega), HB3.out⟩
    · have hr' : ¬ (1000 : Int) < (r : Int) := by omega
      obtain ⟨k0, k1, k2, -, -, -⟩ := blk3 HK3.out
      have HW := Lib.hid (rwrong_any d t _ _ _ w3 (tree_below HT.out HB3.out))
      go_wp2_with fail
      refine HW.out.mono ?_
      rintro e w4 ⟨bw, rfl, hbw, b4⟩
      have HB4 := Lib.hid (HB3.out.trans (b4.mono HB3.out.size))
      have HBW := Lib.hid hbw
      clear k0 k1 k2 b4 HW hbw
      cases bw with
      | true =>
        go_wp2_with fail
        go_ret
        exact ⟨1, rfl, (fun h => by omega), HB4.out⟩
      | false =>
        go_wp2_with fail
        go_ret
        exact ⟨0, rfl, (fun _ => good_of d t (by have h := HBW.out; simpa using h)), HB4.out⟩
/-- The last place of a row. -/
def LaR (T : Nat → Nat → Bool) (n i : Nat) (r : Int) : Prop := (r = -1 ∧ ∀ k, k < n → T i k = false) ∨ ∃ u : Nat, r = (u : Nat) ∧ u < n ∧ T i u = true ∧ ∀ k, u < k → k < n → T i k = false
def LaPost (w : World) (T : Nat → Nat → Bool) (n i : Nat) (e : Ending) (w' : World) : Prop := ∃ r : Int, e = .returned (.int .i64 r) ∧ LaR T n i r ∧ Below w.heap.size w w'
set_option maxHeartbeats 1000000 in
set_option maxRecDepth 100000 in
theorem last_any {w : World} {B g n c i : Nat} {rb : Nat → Nat} {T : Nat → Nat → Bool} (h : Tab w B g rb n T) (hi : i < n) (hn : n ≤ 100000) (hc : n ≤ c) : Calls Try.prog 21 #[.slice (some ⟨g, 0, none⟩) n c, .int .i64 (i : Nat)] w (LaPost w T n i) := by
  have HT := Lib.hid h
  have hwr : IntKind.i64.wrap ((n : Int) - 1) = (n : Int) - 1 := by rw [IntKind.wrap_i64]; omega
  have hi0 : (0 : Int) ≤ (i : Int) := by omega
  have hi1 : (i : Int) < (n : Int) := by omega
  clear h
  go_enter Try.func21, Try.ntmps21
  go_wp2_with fail
  go_loopw [5] (fun vi wr => ∃ j : Nat, j ≤ n ∧ vi = .int .i64 ((j : Int) - 1) ∧ (∀ k, j ≤ k → k < n → T i k = false) ∧ Below w.heap.size w wr) (fun vi _ => (intOf vi + 1).toNat)
  case atStart => exact ⟨n, Nat.le_refl _, rfl, (fun k h1 h2 => absurd h1 (by omega)), Below.refl _ _⟩
  case round =>
    obtain ⟨j, hj, rfl, hno, hb⟩ := hrel
    have HNO := Lib.hid hno
    have HB := Lib.hid hb
    have hTb := HT.out.below hb
    by_cases hj0 : 0 < j
    · obtain ⟨x, rfl⟩ : ∃ x, j = x + 1 := ⟨j - 1, by omega⟩
      have e1 : ((x + 1 : Nat) : Int) - 1 = (x : Int) := by omega
      rw [e1]
      have hx0 : (0 : Int) ≤ (x : Int) := by omega
      have hx1 : (x : Int) < (n : Int) := by omega
      have hwx : IntKind.i64.wrap ((x : Int) - 1) = (x : Int) - 1 := by rw [IntKind.wrap_i64]; omega
      have r0 := hTb.row i hi
      obtain ⟨c0, -⟩ := hTb.cell i x hi (by omega)
      cases hT : T i x
      · rw [hT] at c0
        have HN2 := Lib.hid (show ∀ k, x ≤ k → k < n → T i k = false from fun k h1 h2 => by
          rcases Nat.lt_or_ge x k with h' | h'
          · exact HNO.out k h' h2
          · obtain rfl : k = x := by omega
            exact hT)
        clear hno hb hTb hT e1
        go_wp2_with fail
        go_roundw
        case rel => exact ⟨x, by omega, rfl, HN2.out, HB.out⟩
        case measure => simp [intOf]
      · rw [hT] at c0
        have HFIN := Lib.hid (show LaPost w T n i (.returned (.int .i64 (x : Nat))) wr from ⟨x, rfl, .inr ⟨x, rfl, by omega, hT, fun k h1 h2 => HNO.out k h1 h2⟩, HB.out⟩)
        clear hno hb hTb hT e1
        go_wp2_with fail
        go_ret
        exact HFIN.out
    · obtain rfl : j = 0 := by omega
      have HFIN := Lib.hid (show LaPost w T n i (.returned (.int .i64 (-1))) wr from ⟨-1, rfl, .inl ⟨rfl, fun k hk => HNO.out k (Nat.zero_le _) hk⟩, HB.out⟩)
      clear hno hb hTb
      go_wp2_with fail
      go_ret
      exact HFIN.out
end Go.Proofs.Ytgcbcdbfeaepkaa
