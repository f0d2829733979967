/- CondAny's walk. -/
import Derived.Test.YtfgblmdmhgllgaaDe
namespace Go.Proofs.Ytfgblmdmhgllgaa
open Go.RowKit Go.Maps

set_option maxHeartbeats 2000000 in
set_option maxRecDepth 100000 in
theorem condAny_walk (D : Nat) (ts : List CT) (A : Option Addr) (m c : Nat) (nm : ByteArray) (PA : Option Addr) (pm pc : Nat) (ps : Props) (w : World) (hk : KidsAt w (· < w.heap.size) D A m ts) (hm : m ≤ maxLen) (hp : PropsAt w (· < w.heap.size) PA pm ps) (hpm : pm ≤ maxLen) :
    Calls Try.prog 7 #[.slice A m c, .agg #[.string nm, .slice PA pm pc]] w fun e w' => e = .returned (.bool true) ∧ Below w.heap.size w w' := by
  have mixed : Try.prog.follows .mixedOrders = true := by kernel_rfl
  have hbW := (Below.refl _ w).alloc (Nat.le_refl _) (.cells #[.string nm, .slice PA pm pc] 79)
  have hB := Blk.new w 79 #[.string nm, .slice PA pm pc]
  have hB0 : Below (w.alloc (.cells #[.string nm, .slice PA pm pc] 79)).drew.heap.size (w.alloc (.cells #[.string nm, .slice PA pm pc] 79)).drew (w.alloc (.cells #[.string nm, .slice PA pm pc] 79)).drew := Below.refl _ _
  have HK := Lib.hid (hk.below hbW).drewB
  have HP := Lib.hid (hp.below hbW).drewB
  obtain ⟨q0, q1, _⟩ := blk2 hB
  have HQ := Lib.hid (hB.drew)
  have hno : [noT].any (holdB []) = true := by simp [holdB, no_right, no_holds.1]
  have HNO := Lib.hid hno
  clear hk hp hB hno
  go_enter Try.func7, Try.ntmps7
  go_wp2_with fail
  refine wp_region_held_drew (S := fun W => W.cell? ⟨w.heap.size, 0, none⟩ = some (.string nm) ∧ W.cell? ⟨w.heap.size, 1, none⟩ = some (.slice PA pm pc)) mixed ⟨q0, q1⟩ (fun hS => ?_)
  clear q0 q1
  refine wpAnyH_ready (rs := [0]) (by kernel_rfl) (by simp) ?_
  refine AllReadyH.cons rfl (fun K hK => ?_) AllReadyH.nil
  go_simp
  refine (alive_any _).mono ?_
  rintro e w1 ⟨rfl, hc⟩
  have hB1 := hB0.trans (hc.mono hB0.size)
  obtain ⟨q0, q1, -⟩ := blk2 (HQ.out.below hB1 (by simp))
  refine hK.out _ _ ⟨q0, q1⟩ (fun hS => ?_)
  clear hK K hc q0 q1
  refine wpAnyH_ready (rs := [1]) (by kernel_rfl) (by simp) ?_
  refine AllReadyH.cons rfl (fun K hK => ?_) AllReadyH.nil
  go_simp
  refine hK.out _ _ hS (fun hS => ?_)
  clear hK K
  refine wpAnyH_take (i := 4) (v := .agg #[.string ⟨#[]⟩, .slice none 0 0]) rfl (by kernel_rfl) (by kernel_rfl) (by kernel_rfl) (fun _ _ _ h => h) (Or.inl ⟨by rfl, fun W hW => by obtain ⟨h0, h1⟩ := hW; go_simp⟩) hS ?_
  refine wpAnyH_ready (rs := [2]) (by kernel_rfl) (by simp) ?_
  refine AllReadyH.cons rfl (fun K hK => ?_) AllReadyH.nil
  go_simp
  refine (lno_any _).mono ?_
  intro e w2 hp
  obtain ⟨b2, rfl, hc2, hb2⟩ := hp.up
  have hB2 := hB1.trans (hb2.mono hB1.size)
  obtain ⟨q0, q1, -⟩ := blk2 (HQ.out.below hB2 (by simp))
  refine hK.out _ _ ⟨q0, q1⟩ (fun hS => ?_)
  clear hK K q0 q1 hb2 hp
  have hb3 := (Below.refl _ w2).alloc (Nat.le_refl _) (.cells #[.int .i64 3, .string ⟨#[]⟩, .string ⟨#[]⟩, .slice (some ⟨b2, 0, none⟩) 1 1] 76)
  have hB3 := hB2.trans (hb3.mono hB2.size)
  have hk3 := one_kid (X := (· < (w2.alloc (.cells #[.int .i64 3, .string ⟨#[]⟩, .string ⟨#[]⟩, .slice (some ⟨b2, 0, none⟩) 1 1] 76)).heap.size)) (Blk.new w2 76 #[.int .i64 3, .string ⟨#[]⟩, .string ⟨#[]⟩, .slice (some ⟨b2, 0, none⟩) 1 1]) (by simp) (hc2.below hb3)
  have HC := Lib.hid (cAny_any (nm := ⟨#[]⟩) (pc := 0) 3 [noT] (some ⟨w2.heap.size, 0, none⟩) 1 1 _ hk3 (by unfold maxLen; omega) (props0 _) (Nat.zero_le _))
  rw [HNO.out] at HC
  obtain ⟨q0, q1, -⟩ := blk2 (HQ.out.below hB3 (by simp))
  clear hk3 hc2
  refine wpAnyH_ready (rs := [3]) (by kernel_rfl) (by simp) ?_
  refine AllReadyH.cons rfl (fun K hK => ?_) AllReadyH.nil
  go_simp
  refine hK.out _ _ ⟨q0, q1⟩ (fun hS => ?_)
  clear hK K q0 q1
  refine wpAnyH_ready (rs := [5]) (by kernel_rfl) (by simp) ?_
  refine AllReadyH.cons rfl (fun K hK => ?_) AllReadyH.nil
  go_simp
  refine HC.out.mono ?_
  clear HC
  rintro e w4 ⟨rfl, hc⟩
  have hB4 := hB3.trans (hc.mono hB3.size)
  obtain ⟨q0, q1, -⟩ := blk2 (HQ.out.below hB4 (by simp))
  refine hK.out _ _ ⟨q0, q1⟩ (fun hS => ?_)
  clear hK K hc hb3
  have HC := Lib.hid (cAny_any (c := c) (nm := nm) (pc := pc) D ts A m w4 (HK.out.below hB4) hm (HP.out.below hB4) hpm)
  refine wpAnyH_ready (rs := [6]) (by kernel_rfl) (by simp) ?_
  refine AllReadyH.cons rfl (fun K hK => ?_) AllReadyH.nil
  go_simp
  refine hK.out _ _ hS (fun hS => ?_)
  clear hK K
  refine wpAnyH_ready (rs := [7]) (by kernel_rfl) (by simp) ?_
  refine AllReadyH.cons rfl (fun K hK => ?_) AllReadyH.nil
  go_simp
  refine hK.out _ _ hS (fun hS => ?_)
  clear hK K
  refine wpAnyH_take (i := 8) (v := .slice A m c) rfl (by kernel_rfl) (by kernel_rfl) (by kernel_rfl) (fun _ _ _ h => h) (Or.inl ⟨by rfl, fun W hW => by obtain ⟨h0, h1⟩ := hW; go_simp⟩) hS ?_
  refine wpAnyH_take (i := 9) (v := .agg #[.string nm, .slice PA pm pc]) rfl (by kernel_rfl) (by kernel_rfl) (by kernel_rfl) (fun _ _ _ h => h) (Or.inl ⟨by rfl, fun W hW => by obtain ⟨h0, h1⟩ := hW; go_simp⟩) hS ?_
  refine wpAnyH_take (i := 11) (v := .slice A m c) rfl (by kernel_rfl) (by kernel_rfl) (by kernel_rfl) (fun _ _ _ h => h) (Or.inl ⟨by rfl, fun W hW => by obtain ⟨h0, h1⟩ := hW; go_simp⟩) hS ?_
  refine wpAnyH_take (i := 12) (v := .agg #[.string nm, .slice PA pm pc]) rfl (by kernel_rfl) (by kernel_rfl) (by kernel_rfl) (fun _ _ _ h => h) (Or.inl ⟨by rfl, fun W hW => by obtain ⟨h0, h1⟩ := hW; go_simp⟩) hS ?_
  clear q0 q1
  refine wpAnyH_ready (rs := [10]) (by kernel_rfl) (by simp) ?_
  refine AllReadyH.cons rfl (fun K hK => ?_) AllReadyH.nil
  go_simp
  refine HC.out.mono ?_
  clear HC
  rintro e w5 ⟨rfl, hc⟩
  have hB5 := hB4.trans (hc.mono hB4.size)
  obtain ⟨q0, q1, -⟩ := blk2 (HQ.out.below hB5 (by simp))
  refine hK.out _ _ ⟨q0, q1⟩ (fun hS => ?_)
  clear hK K hc q0 q1
  have HC := Lib.hid (rAny_any (c := c) (nm := nm) (pc := pc) D ts A m w5 (HK.out.below hB5) hm (HP.out.below hB5) hpm)
  refine wpAnyH_ready (rs := [13]) (by kernel_rfl) (by simp) ?_
  refine AllReadyH.cons rfl (fun K hK => ?_) AllReadyH.nil
  go_simp
  refine HC.out.mono ?_
  clear HC
  rintro e w6 ⟨rfl, hc⟩
  have hB6 := hB5.trans (hc.mono hB5.size)
  obtain ⟨q0, q1, -⟩ := blk2 (HQ.out.below hB6 (by simp))
  refine hK.out _ _ ⟨q0, q1⟩ (fun hS => ?_)
  clear hK K hc q0 q1
  refine wpAnyH_ready (rs := [14]) (by kernel_rfl) (by simp) ?_
  refine AllReadyH.cons rfl (fun K hK => ?_) AllReadyH.nil
  go_simp
  refine hK.out _ _ hS (fun hS => ?_)
  clear hK K
  refine wpAnyH_ready (rs := [15]) (by kernel_rfl) (by simp) ?_
  refine AllReadyH.cons rfl (fun K hK => ?_) AllReadyH.nil
  go_simp
  refine hK.out _ _ hS (fun hS => ?_)
  clear hK K
  refine wpAnyH_ready (rs := [16]) (by kernel_rfl) (by simp) ?_
  refine AllReadyH.cons rfl (fun K hK => ?_) AllReadyH.nil
  go_simp
  refine hK.out _ _ hS (fun hS => ?_)
  clear hK K
  refine wpAnyH_done (by kernel_rfl) ?_ _
  go_wp2
  go_ret
  exact ⟨rfl, hbW.trans ((Below.undrew hB6).mono hbW.size)⟩
end Go.Proofs.Ytfgblmdmhgllgaa
