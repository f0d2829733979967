/- The reference's class: one of the ways of its sign. -/
import Derived.Test.YtepfpmnfecehbaaZk
namespace Go.Proofs.Ytepfpmnfecehbaa
open Go.RowKit
set_option maxHeartbeats 2000000 in
set_option maxRecDepth 100000 in
theorem rclass_end (k k1 : Nat) (s : ByteArray) (w : World) (hk : k < s.size) (hs : s.size ≤ 256) (hk1 : k1 = k + 1) (hjl : s.size ≤ k + 1) (hcl : classP letterG 33 (restL s (k + 1)) = itemsPr false (k1 - (k + 1)) (itemsF letterG true (restL s k1))) :
    Calls Try.prog 42 #[.string s, .int .i64 (k : Nat)] w (CRes w (k + 1) (classP letterG 33 (restL s (k + 1)))) := by
  obtain ⟨i0, hi0, hz0, hz1, hz2⟩ := info_parts rgInfo
  have t1 : ¬ ((k : Int) + 1) < (s.size : Int) := by omega
  have HS := Lib.hid (show (k1 : Int) = (k : Int) + 1 by omega)
  have b1 : k + 1 ≤ k1 ∧ k1 ≤ s.size := by omega
  rw [hcl]
  generalize hR : itemsF letterG true (restL s k1) = R
  have HR := Lib.hid hR
  clear hR hcl hk1
  go_enter Try.func42, Try.ntmps42
  go_wp2_with fail
  go_loopw [1, 9, 10] (fun vat vrs vf wr => ∃ (k2 : Nat) (acc : List (UInt8 × UInt8)), k1 ≤ k2 ∧ k2 ≤ s.size ∧ acc.length ≤ k2 ∧ vat = .int .i64 k2 ∧ vf = .bool acc.isEmpty ∧ wr.ownsRow (w.heap.size + 1) 117 2 vrs acc.length (rgCells acc) ∧
      Blk wr w.heap.size 26 #[.int .i64 0, .slice none 0 0, .slice none 0 0] ∧ R = Ir.pre acc (k2 - k1) (itemsF letterG acc.isEmpty (restL s k2)) ∧ Below w.heap.size w wr) (fun vat _ _ _ => s.size - (intOf vat).toNat)
  case atStart =>
    refine ⟨k1, [], Nat.le_refl _, b1.2, Nat.zero_le _, by rw [HS.out], rfl, ⟨rfl, Or.inr ⟨w.heap.size + 1, 0, #[], rfl, Nat.le_refl _, heap_alloc_new2 w _ _, Nat.le_refl _, Nat.zero_le _, rfl, rfl⟩⟩, (Blk.new w _ _).alloc _, by rw [Nat.sub_self, Ir.pre_nil]; exact HR.out.symm, ((Below.refl _ w).alloc (Nat.le_refl _) _).alloc (by simp) _⟩
  case round =>
    obtain ⟨k2, acc, h12, h2s, hal, rfl, rfl, hown, hblk, hRR, hbw⟩ := hrel
    have HRR := Lib.hid hRR
    clear hRR
    obtain ⟨ao, cap, hv⟩ := own_form hown
    subst hv
    obtain ⟨p0, p1, p2, z0, z1, z2⟩ := blk3 hblk
    have hB := hbw.size
    have hbl := hblk.lt
    rcases Nat.eq_or_lt_of_le h2s with hend | hlt
    · have HX := Lib.hid (show R = .err 31 (k2 - k1) by rw [HRR.out, itemsF_letterErr (c := 31) (o := 0) (by rw [rest_nil s k2 (by omega), starts_nil]; simp) (by rw [rest_nil s k2 (by omega)]; rfl)]; rfl)
      have e1 : ¬ (k2 : Int) < (s.size : Int) := by omega
      have e2 : (s.size : Int) ≤ (k2 : Int) := by omega
      have HW := Lib.hid (show ((s.size : Nat) : Int) = ((k + 1 + (k1 - (k + 1) + (k2 - k1)) : Nat) : Int) by omega)
      clear hend
      go_wp2
      rw [HX.out]
      refine bodyPost_ret (v := .tuple #[.agg #[.int .i64 0, .slice none 0 0, .slice none 0 0], .int .i64 0, .int .i64 31, .int .i64 ((s.size : Nat) : Int)]) (by simp [results, Try.results42, go_sem, *]) rfl ⟨by rw [HW.out], zero_store hblk hbw (Nat.le_refl _)⟩
    · exact absurd hlt (by omega)
end Go.Proofs.Ytepfpmnfecehbaa
