/- TraceRight's walk. -/
import Derived.Test.YtmhfdpgkdpbbiaaEe
import Derived.Test.YtmhfdpgkdpbbiaaEf
import Derived.StillTailTactics
import Derived.Deep.DeepCutAuto
import Derived.Deep.RegionHeld3
namespace Go.Proofs.Ytmhfdpgkdpbbiaa
open Go.RowKit

set_option maxHeartbeats 8000000 in
set_option maxRecDepth 100000 in
theorem traceRight_walk {w : World} {A : Option Addr} {n : Nat} {es : List Ev} (c : Nat) (h : EvsAt w A n es) :
    Calls Try.prog 4 #[.slice A n c] w (BoolPost w true) := by
  have HH := Lib.hid h
  have hl := h.1
  have hn := h.2.1
  clear h
  go_enter Try.func4, Try.ntmps4
  go_wp2_with fail
  refine (ealive_any _).mono ?_
  rintro e w2 ⟨rfl, b2⟩
  have B2 := Lib.hid b2
  clear b2
  go_wp2_with fail
  go_loopw [9] (fun i wr => ∃ (j : Nat), j ≤ n ∧ i = .int .i64 (j : Nat) ∧ Below w.heap.size w wr) (fun i _ => n - (intOf i).toNat)
  case atStart => exact ⟨0, Nat.zero_le _, rfl, B2.out⟩
  case round =>
    obtain ⟨j, hj, rfl, hb⟩ := hrel
    by_cases hlt : j < n
    · have hlt' : (j : Int) < (n : Int) := by omega
      have hj0 : (0 : Int) ≤ (j : Int) := by omega
      obtain ⟨⟨k, m, t, a⟩, hz⟩ : ∃ z, es[j]? = some z := ⟨es[j]'(by omega), List.getElem?_eq_getElem _⟩
      obtain ⟨b1, o1, rfl, hb1, hc1⟩ := (HH.out.below hb).2.2 (by omega)
      obtain ⟨c0, c1, c2, c3⟩ := hc1 j _ hz
      have HB := Lib.hid (hb.alloc hb.size (.cells #[.int .i64 k, .int .i64 m, .string t, .int .i64 a] 27))
      have HKB := Lib.hid (Blk.new wr 27 #[.int .i64 k, .int .i64 m, .string t, .int .i64 a])
      have E1 := fun W => Lib.hid (decides_any k m t a W)
      have E2 := fun W => Lib.hid (rdecides_any k m t a W)
      clear hc1 hz hl hb1
      generalize decB ⟨k, m, t, a⟩ = dec at E1 E2
      go_upto_region 6 with fail
      obtain ⟨d0, d1, d2, d3⟩ := blk4 HKB.out
      clear HKB hb c0 c1 c2 c3 B2
      generalize (wr.alloc (.cells #[.int .i64 k, .int .i64 m, .string t, .int .i64 a] 27)) = W1 at HB d0 d1 d2 d3 ⊢
      have mixed : Try.prog.follows .mixedOrders = true := by kernel_rfl
      have hep : wr.heap.size < W1.drew.heap.size := lt_of_cell0 d0
      refine wp_region_held_drew (S := fun W => W.cell? ⟨wr.heap.size, 0, none⟩ = some (.int .i64 k) ∧ W.cell? ⟨wr.heap.size, 1, none⟩ = some (.int .i64 m) ∧ W.cell? ⟨wr.heap.size, 2, none⟩ = some (.string t) ∧ W.cell? ⟨wr.heap.size, 3, none⟩ = some (.int .i64 a)) mixed ⟨d0, d1, d2, d3⟩ (fun hS => ?_)
      refine wpAnyH_take (i := 0) (v := .agg #[.int .i64 k, .int .i64 m, .string t, .int .i64 a]) rfl (by kernel_rfl) (by kernel_rfl) (by kernel_rfl) (fun _ _ _ h => h) (Or.inl ⟨by rfl, fun W hW => by obtain ⟨h0, h1, h2, h3⟩ := hW; go_simp⟩) hS ?_
      try simp only [Act.put, List.getElem_toArray, List.getElem_cons_zero, List.getElem_cons_succ, List.setIfInBounds_toArray, List.set_cons_zero, List.set_cons_succ]
      refine wpAnyH_take (i := 2) (v := .agg #[.int .i64 k, .int .i64 m, .string t, .int .i64 a]) rfl (by kernel_rfl) (by kernel_rfl) (by kernel_rfl) (fun _ _ _ h => h) (Or.inl ⟨by rfl, fun W hW => by obtain ⟨h0, h1, h2, h3⟩ := hW; go_simp⟩) hS ?_
      try simp only [Act.put, List.getElem_toArray, List.getElem_cons_zero, List.getElem_cons_succ, List.setIfInBounds_toArray, List.set_cons_zero, List.set_cons_succ]
      refine wpAnyH_ready (rs := [1]) (by kernel_rfl) (by simp) ?_
      refine AllReadyH.cons rfl (fun K hK => ?_) AllReadyH.nil
      go_simp
      refine (E1 _).out.mono ?_
      rintro e w3 ⟨rfl, b3⟩
      have e0 := (b3.cell (p := ⟨wr.heap.size, 0, none⟩) hep).trans d0
      have e1 := (b3.cell (p := ⟨wr.heap.size, 1, none⟩) hep).trans d1
      have e2 := (b3.cell (p := ⟨wr.heap.size, 2, none⟩) hep).trans d2
      have e3 := (b3.cell (p := ⟨wr.heap.size, 3, none⟩) hep).trans d3
      have hep3 : wr.heap.size < w3.heap.size := lt_of_cell0 e0
      have B3 := Lib.hid (HB.out.trans (Below.mono (w := W1) ⟨b3.os, b3.tape, b3.output, b3.size, b3.block⟩ HB.out.size))
      refine hK.out _ _ ⟨e0, e1, e2, e3⟩ (fun hS => ?_)
      clear hK K
      try simp only [Act.put, List.getElem_toArray, List.getElem_cons_zero, List.getElem_cons_succ, List.setIfInBounds_toArray, List.set_cons_zero, List.set_cons_succ]
      refine wpAnyH_ready (rs := [3]) (by kernel_rfl) (by simp) ?_
      refine AllReadyH.cons rfl (fun K hK => ?_) AllReadyH.nil
      go_simp
      refine (E2 _).out.mono ?_
      rintro e w4 ⟨rfl, b4⟩
      have B4 := Lib.hid (B3.out.trans (b4.mono B3.out.size))
      refine hK.out _ _ ⟨(b4.cell (p := ⟨wr.heap.size, 0, none⟩) hep3).trans e0, (b4.cell (p := ⟨wr.heap.size, 1, none⟩) hep3).trans e1, (b4.cell (p := ⟨wr.heap.size, 2, none⟩) hep3).trans e2, (b4.cell (p := ⟨wr.heap.size, 3, none⟩) hep3).trans e3⟩ (fun hS => ?_)
      clear hK K
      try simp only [Act.put, List.getElem_toArray, List.getElem_cons_zero, List.getElem_cons_succ, List.setIfInBounds_toArray, List.set_cons_zero, List.set_cons_succ]
      refine wpAnyH_take (i := 4) (v := .bool false) rfl (by kernel_rfl) (by kernel_rfl) (by kernel_rfl) (fun _ _ _ h => h) (Or.inl ⟨by rfl, fun W hW => by obtain ⟨h0, h1, h2, h3⟩ := hW; go_simp⟩) hS ?_
      try simp only [Act.put, List.getElem_toArray, List.getElem_cons_zero, List.getElem_cons_succ, List.setIfInBounds_toArray, List.set_cons_zero, List.set_cons_succ]
      refine wpAnyH_done (by kernel_rfl) ?_ _
      clear hS
      go_wp2
      go_roundw
      case rel => exact ⟨j + 1, by omega, by go_num, B4.out⟩
      case measure => simp [intOf]; omega
    · have hge : ¬ (j : Int) < (n : Int) := by omega
      have B5 := Lib.hid hb
      clear hb
      go_wp2_with fail
      refine (right_any c (HH.out.below B5.out)).mono ?_
      rintro e w3 ⟨rfl, b3⟩
      have B6 := Lib.hid (B5.out.trans (b3.mono B5.out.size))
      clear b3
      go_wp2_with fail
      refine (rright_any c (HH.out.below B6.out)).mono ?_
      rintro e w4 ⟨rfl, b4⟩
      go_wp2
      go_ret
      exact ⟨ret_bool (by simp), B6.out.trans (b4.mono B6.out.size)⟩
end Go.Proofs.Ytmhfdpgkdpbbiaa
