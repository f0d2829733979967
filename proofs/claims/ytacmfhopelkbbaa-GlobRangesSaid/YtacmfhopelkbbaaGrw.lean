/- GlobRanges answers true. -/
import Derived.Test.YtacmfhopelkbbaaGr
namespace Go.Proofs.Ytacmfhopelkbbaa
open Go.RowKit
set_option maxHeartbeats 1000000 in
set_option maxRecDepth 100000 in
theorem globRanges_walk (A : Option Addr) (n c : Nat) (rs : List (UInt8 × UInt8)) (neg : Bool) (w : World) (hr : RgAt w (· < w.heap.size) A n rs) (hn : n ≤ maxLen) (hb : n * 2 ≤ 140737488355328) (hc0 : A = none → c = 0) :
    Calls Try.prog 5 #[.slice A n c, .bool neg] w fun e w' => e = .returned (.bool true) ∧ Below w.heap.size w w' := by
  obtain ⟨i0, hi0, hz0, hz1, hz2⟩ := info_parts rgInfo
  have hn' := hn
  unfold maxLen at hn'
  go_enter Try.func5, Try.ntmps5
  go_wp2_with fail
  refine (ranges_any (some ⟨w.heap.size, 0, none⟩) 1 1 [(1, 254)] true _ ?_ (by decide)).mono ?_
  · refine ⟨rfl, fun _ => ⟨w.heap.size, 0, rfl, by simp, fun i r hr => ?_⟩⟩
    obtain ⟨p0, p1, _, _⟩ := blk2 (Blk.new w 38 #[.int .u8 1, .int .u8 254])
    match i, hr with
    | 0, hr => simp at hr; subst hr; exact ⟨p0, p1⟩
  rintro e w1 ⟨v1, rfl, o1, b1⟩
  rw [one_ranges] at o1
  obtain ⟨A1, c1, rfl, _, _, r1⟩ := rg_of_own o1
  obtain ⟨g1, q1, rfl, hX1, hc1⟩ := r1.2 (by simp)
  obtain ⟨x0, x1⟩ := hc1 1 (255, 255) rfl
  have hb1 : Below w.heap.size w w1 := ((Below.refl _ w).alloc (Nat.le_refl _) _).trans (b1.mono (by simp))
  clear hc1 r1 o1 b1
  have hr1 : RgAt w1 (· < w.heap.size) A n rs := hr.keep (fun i hi => hb1.block i hi)
  have hs1 := hb1.size
  have HC0 := Lib.hid hc0
  clear hc0
  go_wp2_with (at_builtin; refine append_rg rfl (.tmp 22) (.tmp 23) rfl w1.heap.size _ rfl ⟨rfl, Or.inr ⟨w1.heap.size, 0, #[], rfl, Nat.le_refl _, heap_alloc_new w1 _, Nat.le_refl _, Nat.zero_le _, rfl, rfl⟩⟩ rfl (hr1.keep (w' := w1.alloc (.cells #[] 38)) fun i hi => Below.heap_alloc w1 _ i (Nat.lt_of_lt_of_le hi hs1)) HC0.out hn hb (by simp) ?_)
  intro v2 w2 o2 g2
  have hb2 : Below w.heap.size w w2 := (hb1.alloc hs1 _).grown g2 (by simp; omega) (fun k hk => by simp [Value.ownBlock] at hk; omega)
  have hs2 := hb2.size
  have hs12 : w1.heap.size + 1 ≤ w2.heap.size := by have := g2.size; simpa using this
  have hr2 : RgAt w2 (· < w.heap.size) A n rs := hr.keep (fun i hi => hb2.block i hi)
  obtain ⟨A2, c2, rfl, hn2, hm2, r2⟩ := rg_of_own o2
  have R2 := Lib.hid (r2.mono (Y := fun b => w.heap.size ≤ b ∧ b < w2.heap.size) fun b hb => ⟨by omega, hb.2.1⟩)
  rw [← hn2]
  rw [← hn2] at R2
  clear o2 r2 g2 hn2 hm2 hr1
  have HR2 := Lib.hid hr2
  clear hr2
  go_wp2_with fail
  refine (ranges_any A n c rs neg w2 (HR2.out.mono fun b hb => Nat.lt_of_lt_of_le hb hs2) hn).mono ?_
  rintro e w3 ⟨v3, rfl, o3, b3⟩
  have hb3 : Below w.heap.size w w3 := hb2.trans (b3.mono hs2)
  have hs3 := b3.size
  obtain ⟨A3, c3, rfl, hn3, hm3, r3⟩ := rg_of_own o3
  go_wp2_with fail
  refine (rranges_any A n c rs neg w3 ((hr.keep (fun i hi => hb3.block i hi)).mono fun b hb => Nat.lt_of_lt_of_le hb hb3.size) hn).mono ?_
  rintro e w4 ⟨v4, rfl, o4, b4⟩
  have hb4 : Below w.heap.size w w4 := hb3.trans (b4.mono hb3.size)
  have hs4 := b4.size
  obtain ⟨A4, c4, rfl, hn4, hm4, r4⟩ := rg_of_own o4
  have r3' : RgAt w4 (· < w4.heap.size) A3 _ (rangesL rs neg) := (r3.keep (w' := w4) fun b hb => b4.block b hb.2.1).mono fun b hb => Nat.lt_of_lt_of_le hb.2.1 hs4
  have r4' : RgAt w4 (· < w4.heap.size) A4 _ (rangesL rs neg) := r4.mono fun b hb => hb.2.1
  have o3' : w4.ownsRow w2.heap.size 38 2 (.slice A3 (rangesL rs neg).length c3) (rangesL rs neg).length (rgCells (rangesL rs neg)) := own_below o3 b4
  have HT3 := Lib.hid (tree_leaf (k := 0) (c := c3) hm3 r3' 0)
  have HT4 := Lib.hid (tree_leaf (k := 0) (c := c4) hm4 r4' 0)
  clear r3 r4 r3' r4' o4 o3
  go_wp2_with fail
  refine (same_yes 1 _ _ _ _ _ _ _ w4 HT3.out HT4.out).mono ?_
  rintro e w5 ⟨rfl, b5⟩
  have hb5 : Below w.heap.size w w5 := hb4.trans (b5.mono hb4.size)
  have o5 : w5.ownsRow w2.heap.size 38 2 (.slice A3 (rangesL rs neg).length c3) (rangesL rs neg).length (rgCells (rangesL rs neg)) := own_below o3' b5
  have h25 : Below w2.heap.size w2 w5 := (b3.trans (b4.mono hs3)).trans (b5.mono (Nat.le_trans hs3 hs4))
  have hl256 : (rangesL rs neg).length ≤ 256 := rgTo_length _ _
  clear HT3 HT4 o3'
  generalize hL : (rangesL rs neg).length = L at *
  generalize rgCells (rangesL rs neg) = xs at *
  clear hL
  go_wp2_with fail
  go_loopw [38] (fun i wr => ∃ (k : Nat) (ys : List Value), k ≤ L ∧ i = .int .i64 k ∧ wr.ownsRow w2.heap.size 38 2 (.slice A3 L c3) L ys ∧ Below w.heap.size w wr ∧ Below w2.heap.size w2 wr) (fun i _ => L - (intOf i).toNat)
  case atStart => exact ⟨0, xs, Nat.zero_le _, rfl, o5, hb5, h25⟩
  case round =>
    clear o5 hb5 h25
    obtain ⟨k, ys, hk, rfl, o5, hb5, h25⟩ := hrel
    by_cases hlt : k < L
    · have hlt' : (k : Int) < (L : Int) := by omega
      obtain ⟨g, cp, hv, hg0, hg1⟩ := o5.form (by omega)
      injection hv with hv1 _ hv2
      subst hv1 hv2
      have hyl := o5.1
      have cc : wr.cell? ⟨g, k * 2, none⟩ = some ys[k * 2] := by rw [o5.cellAt _ (by omega)]; exact List.getElem?_eq_getElem (by omega)
      have ff : wr.frozen? ⟨g, k * 2, none⟩ = false := o5.frozenAt _
      have HST := Lib.hid (o5.stored (k * 2) (.int .u8 7))
      go_wp2
      go_roundw
      case rel => exact ⟨k + 1, _, by omega, by go_num, HST.out.1, hb5.setCell (p := ⟨g, k * 2, none⟩) (by simp; omega) _, h25.setCell (p := ⟨g, k * 2, none⟩) hg0 _⟩
      case measure => simp [intOf]; omega
    · obtain rfl : L = k := by omega
      have ra : RgAt wr (· < wr.heap.size) A n rs := (hr.keep (fun i hi => hb5.block i hi)).mono fun b hb => Nat.lt_of_lt_of_le hb hb5.size
      have rb : RgAt wr (· < wr.heap.size) A2 n rs := (R2.out.keep (w' := wr) (fun i hi => h25.block i hi.2)).mono fun b hb => Nat.lt_of_lt_of_le hb.2 h25.size
      have HA := Lib.hid (tree_leaf (k := 0) (c := c) hn ra 0)
      have HB := Lib.hid (tree_leaf (k := 0) (c := c2) hn rb 0)
      clear ra rb hlt
      go_wp2_with fail
      refine (same_yes 1 _ _ _ _ _ _ _ wr HA.out HB.out).mono ?_
      rintro e w6 ⟨rfl, b6⟩
      go_wp2
      go_ret
      exact ⟨rfl, hb5.trans (b6.mono hb5.size)⟩
end Go.Proofs.Ytacmfhopelkbbaa
