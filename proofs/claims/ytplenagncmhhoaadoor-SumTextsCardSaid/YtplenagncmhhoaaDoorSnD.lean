/- The document's Total. -/
import Derived.Test.YtplenagncmhhoaaDoorSnC
namespace Go.Proofs.YtplenagncmhhoaaDoor
open Go.RowKit

set_option maxHeartbeats 4000000 in
set_option maxRecDepth 100000 in
theorem rTotal_any {w : World} (su bo : ByteArray) (v : Int) {A : Option Addr} {n c : Nat} {ps : List PtB} (h : PartsAt w A n ps) (hb : (ps.map fun p => p.2.length).sum ≤ 1000000) :
    Calls Tryd.prog 16 #[.agg #[.string su, .string bo, .slice A n c], .int .i64 v] w fun e w' => e = .returned (.int .i64 (totV ps v : Nat)) ∧ Below w.heap.size w w' := by
  have hl := h.1
  have hn := h.2.1
  have HC := Lib.hid h.2.2.2
  have B0 := Lib.hid ((Below.refl w.heap.size w).alloc (Nat.le_refl _) (.cells #[.string su, .string bo, .slice A n c] 29))
  have Z0 := Lib.hid (Blk.new w 29 #[.string su, .string bo, .slice A n c])
  obtain ⟨W, hW⟩ : ∃ W, W = w.alloc (.cells #[.string su, .string bo, .slice A n c] 29) := ⟨_, rfl⟩
  clear h
  go_enter Tryd.func16, Tryd.ntmps16
  go_wp2_with fail
  rw [← hW]
  rw [← hW] at B0 Z0
  clear hW
  obtain ⟨_, _, z2, _, _, _⟩ := blk3 Z0.out
  have hlt0 := Z0.out.lt
  go_loopw [5, 6] (fun m i wr => ∃ k : Nat, k ≤ n ∧ i = .int .i64 (k : Nat) ∧ m = .int .i64 (totV (ps.take k) v : Nat) ∧ wr = W) (fun _ i _ => n - (intOf i).toNat)
  case atStart => exact ⟨0, Nat.zero_le _, rfl, rfl, rfl⟩
  case round =>
    obtain ⟨k, hk, rfl, rfl, rfl⟩ := hrel
    have htot : totV (ps.take k) v ≤ 1000000 := Nat.le_trans (totV_le _ v) (Nat.le_trans (sum_take ps k) hb)
    by_cases hlt : k < n
    · have hlt' : (k : Int) < (n : Int) := by omega
      have hk0 : (0 : Int) ≤ (k : Int) := by omega
      obtain ⟨b, f, rfl, hbl, hcell⟩ := HC.out (by omega)
      obtain ⟨⟨g, rs⟩, hr⟩ : ∃ r, ps[k]? = some r := ⟨ps[k]'(by omega), List.getElem?_eq_getElem _⟩
      obtain ⟨RA, rn, rc, c1, c2, hres⟩ := hcell k _ hr
      replace c2 := (World.cell?_of_block (a := ⟨b, f + k * 2 + 1, none⟩) (B0.out.block b hbl)).trans c2
      have htot2 : totV (ps.take (k + 1)) v ≤ 1000000 := Nat.le_trans (totV_le _ v) (Nat.le_trans (sum_take ps (k + 1)) hb)
      have HS := Lib.hid (totV_take hr v)
      have HR := Lib.hid (rcount_any rc v (hres.below B0.out).rss)
      rw [HS.out] at htot2
      simp only at htot2 HS
      obtain ⟨T, hT⟩ : ∃ T, T = totV (ps.take k) v := ⟨_, rfl⟩
      rw [← hT] at htot2 htot HS
      rw [← hT]
      generalize cntL (rs.map (·.2)) v = C at HS HR htot2
      have hq : IntKind.i64.wrap ((k : Int) + 1) = (k : Int) + 1 := IntWalk.i64_in _ (by omega)
      have hq2 : IntKind.i64.wrap ((T : Int) + (C : Int)) = (T : Int) + (C : Int) := IntWalk.i64_in _ (by omega)
      clear hr hcell hres c1 hT
      go_wp2_with fail
      (with_reducible refine HR.out.mono ?_)
      rintro e w3 ⟨rfl, rfl⟩
      go_wp2
      go_roundw
      case rel => exact ⟨k + 1, by omega, by go_num, by rw [HS.out]; push_cast; rfl, by trivial⟩
      case measure => simp [intOf]; omega
    · have hlt' : ¬ (k : Int) < (n : Int) := by omega
      have htk : ps.take k = ps := List.take_of_length_le (by omega)
      rw [htk]
      clear htk
      go_wp2
      go_ret
      exact ⟨rfl, B0.out⟩
end Go.Proofs.YtplenagncmhhoaaDoor
