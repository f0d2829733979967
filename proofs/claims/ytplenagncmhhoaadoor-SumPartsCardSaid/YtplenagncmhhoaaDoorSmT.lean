/- The document's Same of equal reports. -/
import Derived.Test.YtplenagncmhhoaaDoorSmS
import Derived.BigQuiet
namespace Go.Proofs.YtplenagncmhhoaaDoor
open Go.RowKit

set_option maxHeartbeats 4000000 in
set_option maxRecDepth 100000 in
theorem same_yes20 {w : World} (su bo : ByteArray) {A A' : Option Addr} {n c c' : Nat} {ps : List PtB} (h : PartsAt w A n ps) (h' : PartsAt w A' n ps) :
    Calls Tryd.prog 23 #[.agg #[.string su, .string bo, .slice A n c], .agg #[.string su, .string bo, .slice A' n c']] w fun e w' => e = .returned (.bool true) ∧ Below w.heap.size w w' := by
  obtain ⟨hl, hn, _, hc⟩ := h
  obtain ⟨_, _, _, hc'⟩ := h'
  have HC := Lib.hid hc
  have HC' := Lib.hid hc'
  have hb0 := (Below.refl w.heap.size w).alloc (Nat.le_refl _) (.cells #[.string su, .string bo, .slice A n c] 29)
  have hb1 := hb0.alloc (by simp) (.cells #[.string su, .string bo, .slice A' n c'] 29)
  have Z0 := (Blk.new w 29 #[.string su, .string bo, .slice A n c]).alloc (.cells #[.string su, .string bo, .slice A' n c'] 29)
  have Z1 := Blk.new (w.alloc (.cells #[.string su, .string bo, .slice A n c] 29)) 29 #[.string su, .string bo, .slice A' n c']
  rw [show (w.alloc (.cells #[.string su, .string bo, .slice A n c] 29)).heap.size = w.heap.size + 1 by simp] at Z1
  have HB := Lib.hid hb1
  have HZ0 := Lib.hid Z0
  have HZ1 := Lib.hid Z1
  have hss : (su.toList == su.toList) = true := by simp
  have hbb : (bo.toList == bo.toList) = true := by simp
  have hnn : ((n : Int) == (n : Int)) = true := by simp
  clear hc hc' hb0 hb1 Z0 Z1
  go_enter Tryd.func23, Tryd.ntmps23
  go_wp2
  obtain ⟨W, hW⟩ : ∃ W, W = (w.alloc (.cells #[.string su, .string bo, .slice A n c] 29)).alloc (.cells #[.string su, .string bo, .slice A' n c'] 29) := ⟨_, rfl⟩
  rw [← hW]
  rw [← hW] at HB HZ0 HZ1
  have hsw := HB.out.size
  clear hW
  obtain ⟨z0, z1, z2, _, _, _⟩ := blk3 HZ0.out
  obtain ⟨y0, y1, y2, _, _, _⟩ := blk3 HZ1.out
  have hzl := HZ1.out.lt
  go_loopw [5] (fun i wr => ∃ k : Nat, k ≤ n ∧ i = .int .i64 (k : Nat) ∧ ∃ q, wr = W.drewN q) (fun i _ => n - (intOf i).toNat)
  case atStart => exact ⟨0, Nat.zero_le _, rfl, 0, rfl⟩
  case round =>
    obtain ⟨k, hk, rfl, q, rfl⟩ := hrel
    by_cases hlt : k < n
    · have hlt' : (k : Int) < (n : Int) := by omega
      have hk0 : (0 : Int) ≤ (k : Int) := by omega
      obtain ⟨b, f, rfl, hbl, hcell⟩ := HC.out (by omega)
      obtain ⟨b', f', rfl, hbl', hcell'⟩ := HC'.out (by omega)
      obtain ⟨⟨g, rs⟩, hr⟩ : ∃ r, ps[k]? = some r := ⟨ps[k]'(by omega), List.getElem?_eq_getElem _⟩
      obtain ⟨RA, rn, rc, c1, c2, hres⟩ := hcell k _ hr
      obtain ⟨RA', rn', rc', d1, d2, hres'⟩ := hcell' k _ hr
      obtain rfl : rn = rn' := hres.1.symm.trans hres'.1
      replace c1 := (World.cell?_of_block (a := ⟨b, f + k * 2, none⟩) (HB.out.block b hbl)).trans c1
      replace c2 := (World.cell?_of_block (a := ⟨b, f + k * 2 + 1, none⟩) (HB.out.block b hbl)).trans c2
      replace d1 := (World.cell?_of_block (a := ⟨b', f' + k * 2, none⟩) (HB.out.block b' hbl')).trans d1
      replace d2 := (World.cell?_of_block (a := ⟨b', f' + k * 2 + 1, none⟩) (HB.out.block b' hbl')).trans d2
      have hgg : (g.toList == g.toList) = true := by simp
      have hrr : ((rn : Int) == (rn : Int)) = true := by simp
      have HR1 := Lib.hid hres
      have HR2 := Lib.hid hres'
      have hq : IntKind.i64.wrap ((k : Int) + 1) = (k : Int) + 1 := IntWalk.i64_in _ (by omega)
      clear hr hcell hcell' hres hres'
      go_wp2
      go_quiet (fail)
      go_wp2
      go_loopw [6] (fun i wr => ∃ j : Nat, j ≤ rn ∧ i = .int .i64 (j : Nat) ∧ ∃ q, wr = W.drewN q) (fun i _ => rn - (intOf i).toNat)
      case atStart => exact ⟨0, Nat.zero_le _, rfl, q + nq, by simp⟩
      case round =>
        obtain ⟨j, hj, rfl, q2, rfl⟩ := hrel
        by_cases hjt : j < rn
        · have hjt' : (j : Int) < (rn : Int) := by omega
          have hj0 : (0 : Int) ≤ (j : Int) := by omega
          obtain ⟨hrl, _, _, hrc⟩ := HR1.out
          obtain ⟨_, _, _, hrc'⟩ := HR2.out
          obtain ⟨b3, f3, rfl, hb3, hcc⟩ := hrc (by omega)
          obtain ⟨b4, f4, rfl, hb4, hcc'⟩ := hrc' (by omega)
          obtain ⟨⟨nm, x⟩, hr3⟩ : ∃ r, rs[j]? = some r := ⟨rs[j]'(by omega), List.getElem?_eq_getElem _⟩
          obtain ⟨e1, e2⟩ := hcc j _ hr3
          obtain ⟨g1, g2⟩ := hcc' j _ hr3
          replace e1 := (World.cell?_of_block (a := ⟨b3, f3 + j * 2, none⟩) (HB.out.block b3 hb3)).trans e1
          replace e2 := (World.cell?_of_block (a := ⟨b3, f3 + j * 2 + 1, none⟩) (HB.out.block b3 hb3)).trans e2
          replace g1 := (World.cell?_of_block (a := ⟨b4, f4 + j * 2, none⟩) (HB.out.block b4 hb4)).trans g1
          replace g2 := (World.cell?_of_block (a := ⟨b4, f4 + j * 2 + 1, none⟩) (HB.out.block b4 hb4)).trans g2
          have hq2 : IntKind.i64.wrap ((j : Int) + 1) = (j : Int) + 1 := IntWalk.i64_in _ (by omega)
          have hnm : (nm.toList == nm.toList) = true := by simp
          clear hr3 hcc hcc' hrc hrc'
          go_wp2
          go_quiet (fail)
          go_wp2
          go_roundw
          case rel => exact ⟨j + 1, by omega, by go_num, q2 + nq, by simp⟩
          case measure => simp [intOf]; omega
        · have hjt' : ¬ (j : Int) < (rn : Int) := by omega
          go_wp2
          go_roundw
          case rel => exact ⟨k + 1, by omega, by go_num, _, rfl⟩
          case measure => simp [intOf]; omega
    · have hlt' : ¬ (k : Int) < (n : Int) := by omega
      go_wp2
      go_ret
      exact ⟨by simp, ⟨HB.out.os, HB.out.tape, HB.out.output, HB.out.size, HB.out.block⟩⟩
end Go.Proofs.YtplenagncmhhoaaDoor
