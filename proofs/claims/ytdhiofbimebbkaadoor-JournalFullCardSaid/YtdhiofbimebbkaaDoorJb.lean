/- slices.Grow of the nil slice of bytes; slices.Concat of two slices of bytes. -/
import Derived.Test.YtdhiofbimebbkaaDoorPw
import Derived.Test.YtdhiofbimebbkaaDoorSd
import Derived.Lib.AppendZeros
namespace Go.Proofs.YtdhiofbimebbkaaDoor
open Go.RowKit

def GrowPost (w : World) (e : Ending) (w' : World) : Prop := ∃ v, e = .returned v ∧ w'.ownsRow w.heap.size 5 1 v 0 [] ∧ Below w.heap.size w w'
set_option maxHeartbeats 1000000 in
set_option maxRecDepth 100000 in
theorem grow_any (w : World) (n : Nat) (h0 : 0 < n) (hn : n ≤ 1000000000) : Calls Tryd.prog 45 #[.slice none 0 0, .int .i64 (n : Nat)] w (GrowPost w) := by
  obtain ⟨i0, hi0, hz0, hz1, hz2⟩ := info_parts byte_info
  have hrun := Lib.run_append_nil_zeros (P := Tryd.prog) w 30 3 30 5 i0 _ .i64 .i64 Tryd.underlying30 Tryd.underlying3 hi0 hz0 n h0 (by omega) (by omega) (by rw [hz2]; omega)
  have hge := grownCap_ge w n 0 5
  have hcm := grownCap_le_maxLen w n 0 5 (by unfold maxLen; omega)
  obtain ⟨cap, hcap⟩ : ∃ cap, cap = grownCap w n 0 5 := ⟨_, rfl⟩
  rw [← hcap] at hrun hge hcm
  obtain ⟨w1, hw1⟩ : ∃ w1, w1 = (w.drew.alloc (.cells (Builtin.zeroCells (Value.int IntKind.u8 0).cells n ++ Builtin.zeroCells (Value.int IntKind.u8 0).cells (cap - n)) 5)) := ⟨_, rfl⟩
  rw [← hw1] at hrun
  have HRUN := Lib.hid hrun
  have HROW := Lib.hid (show w1.ownsRow w.heap.size 5 1 (.slice (some ⟨w.heap.size, 0, none⟩) 0 cap) 0 [] by
    refine ⟨rfl, .inr ⟨w.heap.size, cap, _, rfl, Nat.le_refl _, by rw [hw1]; exact heap_alloc_new w.drew _, Nat.zero_le _, hcm, ?_, rfl⟩⟩
    simp only [Array.size_append, size_zeroCells, Value.cells, List.size_toArray, List.length_cons, List.length_nil]
    omega)
  have HB := Lib.hid (show Below w.heap.size w w1 by rw [hw1]; exact ⟨rfl, rfl, rfl, by simp, fun j hj => Below.heap_alloc w.drew _ j hj⟩)
  have hnI : (0 : Int) < (n : Int) := by omega
  clear hrun hcap hge hw1
  go_enter Tryd.func45, Tryd.ntmps45
  go_wp2_with (at_builtin; refine Lib.wpList_append_run _ rfl (.tmp 20) (.tmp 21) 30 3 rfl _ _ rfl rfl _ _ HRUN.out ?_)
  go_ret
  exact ⟨_, rfl, HROW.out, HB.out⟩
def CcS (n m : Nat) (s i : Value) : Prop := (i = .int .i64 0 ∧ s = .int .i64 0) ∨ (i = .int .i64 1 ∧ s = .int .i64 (n : Nat)) ∨ (i = .int .i64 2 ∧ s = .int .i64 ((n + m : Nat)))
def CcRow (w : World) (xs : List UInt8) (v : Value) (wr : World) : Prop := wr.ownsRow w.heap.size 5 1 v xs.length (xs.map u8V) ∧ Below w.heap.size w wr
def CcInv (w : World) (xs ys : List UInt8) (v i : Value) (wr : World) : Prop := (i = .int .i64 0 ∧ CcRow w [] v wr) ∨ (i = .int .i64 1 ∧ CcRow w xs v wr) ∨ (i = .int .i64 2 ∧ CcRow w (xs ++ ys) v wr)
theorem CcRow.put {w wr : World} {v : Value} {xs ys : List UInt8} {A : Option Addr} {m : Nat} (h : CcRow w xs v wr) (hy : BytesAt w A m ys) (hl : xs.length + m ≤ 1000000000) (c : Nat) :
    ∃ A' c' W', (Builtin.append_ #[30, 30] 30 #[v, .slice A m c]).run Tryd.prog wr = .ok (.slice A' (xs.length + m) c') W' ∧ CcRow w (xs ++ ys) (.slice A' (xs.length + m) c') W' := by
  obtain ⟨A', c', W', h1, h2, h3⟩ := put_bytes (c := c) 30 h.1 h.2.size (hy.below h.2) hl
  exact ⟨A', c', W', h1, h2, h.2.trans h3⟩
set_option maxHeartbeats 2000000 in
set_option maxRecDepth 100000 in
theorem concat_any {w : World} {b : Nat} {A B : Option Addr} {n c m d : Nat} {xs ys : List UInt8} (h0 : w.cell? ⟨b, 0, none⟩ = some (.slice A n c)) (h1 : w.cell? ⟨b, 1, none⟩ = some (.slice B m d)) (hbl : b < w.heap.size) (hx : BytesAt w A n xs) (hy : BytesAt w B m ys) (hn0 : 0 < n) (hn : n ≤ 200000000) (hm : m ≤ 600000000) :
    Calls Tryd.prog 26 #[.slice (some ⟨b, 0, none⟩) 2 2] w (NumPost w (xs ++ ys)) := by
  have hxl := hx.1
  have hyl := hy.1
  have HX := Lib.hid hx
  have HY := Lib.hid hy
  have HXL := Lib.hid hxl
  have HYL := Lib.hid hyl
  clear hx hy hxl hyl
  go_enter Tryd.func26, Tryd.ntmps26
  go_wp2_with fail
  go_loop [3, 11] (fun s i => CcS n m s i) (fun _ i => 2 - (intOf i).toNat)
  case atStart => exact .inl ⟨rfl, rfl⟩
  case round =>
    rcases hrel with ⟨rfl, rfl⟩ | ⟨rfl, rfl⟩ | ⟨rfl, rfl⟩
    · go_wp2
      go_round
      case rel => exact .inr (.inl ⟨rfl, by go_num⟩)
      case measure => simp [intOf]
    · go_wp2
      go_round
      case rel => exact .inr (.inr ⟨rfl, by go_num⟩)
      case measure => simp [intOf]
    · have CG := Lib.hid (grow_any w (n + m) (by omega) (by omega))
      go_wp2_with fail
      refine CG.out.mono ?_
      rintro e w1 ⟨v1, rfl, ho, hb⟩
      have HR := Lib.hid (show CcRow w [] v1 w1 from ⟨ho, hb⟩)
      clear CG ho hb
      go_wp2_with fail
      go_loopw [6, 27] (fun v i wr => CcInv w xs ys v i wr) (fun _ i _ => 2 - (intOf i).toNat)
      case atStart => exact .inl ⟨rfl, HR.out⟩
      case round =>
        clear HR
        rcases hrel with ⟨rfl, hr⟩ | ⟨rfl, hr⟩ | ⟨rfl, hr⟩
        · have y0 : wr.cell? ⟨b, 0, none⟩ = some (.slice A n c) := by rw [hr.2.cell (p := ⟨b, 0, none⟩) hbl]; exact h0
          obtain ⟨A2, c2, W2, hrun, hr2⟩ := hr.put HX.out (by simp; omega) c
          rw [List.nil_append] at hr2
          rw [show ([] : List UInt8).length + n = n by simp] at hrun hr2
          obtain ⟨A1, c1, ev, _, _⟩ := row_shape (row_base hr.1 (Nat.zero_le _))
          subst ev
          have HRUN := Lib.hid hrun
          have HR2 := Lib.hid hr2
          clear hrun hr2 hr
          go_wp2_with (at_builtin; refine wpList_append_run rfl (.tmp 31) (.tmp 32) 30 rfl _ _ _ rfl rfl HRUN.out ?_)
          go_roundw
          case rel => exact .inr (.inl ⟨rfl, HR2.out⟩)
          case measure => simp [intOf]
        · have y0 : wr.cell? ⟨b, 1, none⟩ = some (.slice B m d) := by rw [hr.2.cell (p := ⟨b, 1, none⟩) hbl]; exact h1
          obtain ⟨A2, c2, W2, hrun, hr2⟩ := hr.put HY.out (by rw [HXL.out]; omega) d
          obtain ⟨A1, c1, ev, _, _⟩ := row_shape (row_base hr.1 (Nat.zero_le _))
          subst ev
          have HRUN := Lib.hid hrun
          have HR2 := Lib.hid hr2
          clear hrun hr2 hr
          go_wp2_with (at_builtin; refine wpList_append_run rfl (.tmp 31) (.tmp 32) 30 rfl _ _ _ rfl rfl HRUN.out ?_)
          go_roundw
          case rel => exact .inr (.inr ⟨rfl, HR2.out⟩)
          case measure => simp [intOf]
        · have HR2 := Lib.hid hr
          clear hr
          go_wp2
          go_ret
          exact ⟨_, rfl, HR2.out.1, HR2.out.2⟩
end Go.Proofs.YtdhiofbimebbkaaDoor
