/- The reference's Any; CondAny's walk. -/
import Derived.Test.YtfgblmdmhgllgaaDd
import Derived.Test.YtfgblmdmhgllgaaCx
namespace Go.Proofs.Ytfgblmdmhgllgaa
open Go.RowKit

section
variable {nm : ByteArray} {PA : Option Addr} {pm pc : Nat} {ps : Props}
set_option maxHeartbeats 1000000 in
set_option maxRecDepth 100000 in
theorem rAny_any (D : Nat) (ts : List CT) (A : Option Addr) (m c : Nat) (w : World) (hk : KidsAt w (· < w.heap.size) D A m ts) (hm : m ≤ maxLen) (hp : PropsAt w (· < w.heap.size) PA pm ps) (hpm : pm ≤ maxLen) :
    Calls Try.prog 44 #[.slice A m c, .agg #[.string nm, .slice PA pm pc]] w fun e w' => e = .returned (.bool (ts.any (holdB ps))) ∧ Below w.heap.size w w' := by
  have hbw := (Below.refl _ w).alloc (Nat.le_refl _) (.cells #[.string nm, .slice PA pm pc] 79)
  have hq0 := Blk.new w 79 #[.string nm, .slice PA pm pc]
  unfold maxLen at hm
  have mixed : Try.prog.follows .mixedOrders = true := by kernel_rfl
  go_enter Try.func44, Try.ntmps44
  go_wp2_with fail
  go_loopw [5] (fun i wr => ∃ j : Nat, j ≤ m ∧ i = .int .i64 j ∧ (ts.take j).any (holdB ps) = false ∧ Blk wr w.heap.size 79 #[.string nm, .slice PA pm pc] ∧ Below w.heap.size w wr) (fun i _ => m - (intOf i).toNat)
  case atStart => exact ⟨0, Nat.zero_le _, rfl, rfl, hq0, hbw⟩
  case round =>
    clear hq0 hbw
    obtain ⟨j, hj, rfl, hall, hq, hb⟩ := hrel
    have HA := Lib.hid hall
    clear hall
    obtain ⟨q0, q1, _⟩ := blk2 hq
    by_cases hlt : j < m
    · have hlt' : (j : Int) < (m : Int) := by omega
      have hj0 : (0 : Int) ≤ (j : Int) := by omega
      obtain ⟨b, o, t, k', n', v', B, q, c', rfl, hX, htj, e0, e1, e2, e3, ht⟩ := hk.kid hlt
      replace e0 := (hb.cell (p := ⟨b, o + j * 4, none⟩) hX).trans e0
      replace e1 := (hb.cell (p := ⟨b, o + j * 4 + 1, none⟩) hX).trans e1
      replace e2 := (hb.cell (p := ⟨b, o + j * 4 + 2, none⟩) hX).trans e2
      replace e3 := (hb.cell (p := ⟨b, o + j * 4 + 3, none⟩) hX).trans e3
      have hX' : b < wr.heap.size := Nat.lt_of_lt_of_le hX hb.size
      have hL := hq.lt
      have hc : CondAt wr (· < wr.heap.size) D t [.int .i64 k', .string n', .string v', .slice B q c'] := (ht.keep (fun i hi => hb.block i hi)).mono fun i hi => Nat.lt_of_lt_of_le hi hb.size
      have hpr : PropsAt wr (· < wr.heap.size) PA pm ps := (hp.keep (fun i hi => hb.block i hi)).mono fun i hi => Nat.lt_of_lt_of_le hi hb.size
      have HR := Lib.hid (rRight_any 20 D t _ _ _ _ 20 wr.drew hc.drewB rfl (by omega))
      have HCD := Lib.hid hc.drewB
      have HPD := Lib.hid hpr.drewB
      have HQ := Lib.hid hq
      have HJ := Lib.hid htj
      clear ht htj hk hp hq hc hpr
      cases hr : rightT 20 t
      · rw [hr] at HR
        have HF := Lib.hid (show (ts.take (j + 1)).any (holdB ps) = false by rw [any_take HJ.out, HA.out]; unfold holdB; rw [hr]; rfl)
        clear hr
        go_wp2_with fail
        refine wp_region_held_drew (S := fun W => W.cell? ⟨w.heap.size, 0, none⟩ = some (.string nm) ∧ W.cell? ⟨w.heap.size, 1, none⟩ = some (.slice PA pm pc) ∧
            W.cell? ⟨b, o + j * 4, none⟩ = some (.int .i64 k') ∧ W.cell? ⟨b, o + j * 4 + 1, none⟩ = some (.string n') ∧ W.cell? ⟨b, o + j * 4 + 2, none⟩ = some (.string v') ∧ W.cell? ⟨b, o + j * 4 + 3, none⟩ = some (.slice B q c')) mixed ⟨q0, q1, e0, e1, e2, e3⟩ (fun hS => ?_)
        refine wpAnyH_take (i := 0) (v := .slice (some ⟨b, o, none⟩) m c) rfl (by kernel_rfl) (by kernel_rfl) (by kernel_rfl) (fun _ _ _ h => h) (Or.inl ⟨by rfl, fun W hW => by obtain ⟨h0, h1, h2, h3, h4, h5⟩ := hW; go_simp⟩) hS ?_
        refine wpAnyH_take (i := 1) (v := .int .i64 j) rfl (by kernel_rfl) (by kernel_rfl) (by kernel_rfl) (fun _ _ _ h => h) (Or.inl ⟨by rfl, fun W hW => by obtain ⟨h0, h1, h2, h3, h4, h5⟩ := hW; go_simp⟩) hS ?_
        refine wpAnyH_take (i := 2) (v := .pointer (some ⟨b, o + j * 4, none⟩)) rfl (by kernel_rfl) (by kernel_rfl) (by kernel_rfl) (fun _ _ _ h => h) (Or.inl ⟨by rfl, fun W hW => by obtain ⟨h0, h1, h2, h3, h4, h5⟩ := hW; go_simp⟩) hS ?_
        refine wpAnyH_take (i := 3) (v := .agg #[.int .i64 k', .string n', .string v', .slice B q c']) rfl (by kernel_rfl) (by kernel_rfl) (by kernel_rfl) (fun _ _ _ h => h) (Or.inl ⟨by rfl, fun W hW => by obtain ⟨h0, h1, h2, h3, h4, h5⟩ := hW; go_simp⟩) hS ?_
        refine wpAnyH_ready (rs := [4]) (by kernel_rfl) (by simp) ?_
        refine AllReadyH.cons rfl (fun K hK => ?_) AllReadyH.nil
        go_simp
        (with_reducible refine HR.out.mono ?_)
        rintro e w3 ⟨rfl, hb3⟩
        refine hK.out _ _ ⟨(hb3.cell (p := ⟨w.heap.size, 0, none⟩) hL).trans q0, (hb3.cell (p := ⟨w.heap.size, 1, none⟩) hL).trans q1, (hb3.cell (p := ⟨b, o + j * 4, none⟩) hX').trans e0, (hb3.cell (p := ⟨b, o + j * 4 + 1, none⟩) hX').trans e1, (hb3.cell (p := ⟨b, o + j * 4 + 2, none⟩) hX').trans e2, (hb3.cell (p := ⟨b, o + j * 4 + 3, none⟩) hX').trans e3⟩ (fun hS => ?_)
        clear hK K
        refine wpAnyH_ready (rs := [5]) (by kernel_rfl) (by simp) ?_
        refine AllReadyH.cons rfl (fun K hK => ?_) AllReadyH.nil
        go_simp
        refine hK.out _ _ hS (fun hS => ?_)
        clear hK K
        refine wpAnyH_take (i := 6) (v := undef) rfl (by kernel_rfl) (by kernel_rfl) (by kernel_rfl) (fun _ _ _ h => h) (Or.inr ⟨by rfl, rfl⟩) hS ?_
        refine wpAnyH_take (i := 7) (v := undef) rfl (by kernel_rfl) (by kernel_rfl) (by kernel_rfl) (fun _ _ _ h => h) (Or.inr ⟨by rfl, rfl⟩) hS ?_
        refine wpAnyH_take (i := 8) (v := undef) rfl (by kernel_rfl) (by kernel_rfl) (by kernel_rfl) (fun _ _ _ h => h) (Or.inr ⟨by rfl, rfl⟩) hS ?_
        refine wpAnyH_take (i := 9) (v := undef) rfl (by kernel_rfl) (by kernel_rfl) (by kernel_rfl) (fun _ _ _ h => h) (Or.inr ⟨by rfl, rfl⟩) hS ?_
        refine wpAnyH_take (i := 10) (v := undef) rfl (by kernel_rfl) (by kernel_rfl) (by kernel_rfl) (fun _ _ _ h => h) (Or.inr ⟨by rfl, rfl⟩) hS ?_
        refine wpAnyH_take (i := 11) (v := undef) rfl (by kernel_rfl) (by kernel_rfl) (by kernel_rfl) (fun _ _ _ h => h) (Or.inr ⟨by rfl, rfl⟩) hS ?_
        refine wpAnyH_ready (rs := [12]) (by kernel_rfl) (by simp) ?_
        refine AllReadyH.cons rfl (fun K hK => ?_) AllReadyH.nil
        go_simp
        refine hK.out _ _ hS (fun hS => ?_)
        clear hK K
        refine wpAnyH_done (by kernel_rfl) ?_ _
        have hb4 := Below.undrew hb3
        go_wp2
        go_roundw
        case rel => exact ⟨j + 1, by omega, by go_num, HF.out, HQ.out.below hb4 hL, hb.trans (hb4.mono hb.size)⟩
        case measure => simp [intOf]; omega
      · rw [hr] at HR
        have HH := Lib.hid (fun W (hb3 : Below wr.drew.heap.size wr.drew W) => rHolds_any nm PA pm pc ps 20 D t _ _ _ _ W (HCD.out.below hb3) hr (HPD.out.below hb3) hpm)
        cases hx : holdsT ps t
        · rw [hx] at HH
          have HF := Lib.hid (show (ts.take (j + 1)).any (holdB ps) = false by rw [any_take HJ.out, HA.out]; unfold holdB; rw [hx]; simp)
          clear hr hx
          go_wp2_with fail
          refine wp_region_held_drew (S := fun W => W.cell? ⟨w.heap.size, 0, none⟩ = some (.string nm) ∧ W.cell? ⟨w.heap.size, 1, none⟩ = some (.slice PA pm pc) ∧
              W.cell? ⟨b, o + j * 4, none⟩ = some (.int .i64 k') ∧ W.cell? ⟨b, o + j * 4 + 1, none⟩ = some (.string n') ∧ W.cell? ⟨b, o + j * 4 + 2, none⟩ = some (.string v') ∧ W.cell? ⟨b, o + j * 4 + 3, none⟩ = some (.slice B q c')) mixed ⟨q0, q1, e0, e1, e2, e3⟩ (fun hS => ?_)
          refine wpAnyH_take (i := 0) (v := .slice (some ⟨b, o, none⟩) m c) rfl (by kernel_rfl) (by kernel_rfl) (by kernel_rfl) (fun _ _ _ h => h) (Or.inl ⟨by rfl, fun W hW => by obtain ⟨h0, h1, h2, h3, h4, h5⟩ := hW; go_simp⟩) hS ?_
          refine wpAnyH_take (i := 1) (v := .int .i64 j) rfl (by kernel_rfl) (by kernel_rfl) (by kernel_rfl) (fun _ _ _ h => h) (Or.inl ⟨by rfl, fun W hW => by obtain ⟨h0, h1, h2, h3, h4, h5⟩ := hW; go_simp⟩) hS ?_
          refine wpAnyH_take (i := 2) (v := .pointer (some ⟨b, o + j * 4, none⟩)) rfl (by kernel_rfl) (by kernel_rfl) (by kernel_rfl) (fun _ _ _ h => h) (Or.inl ⟨by rfl, fun W hW => by obtain ⟨h0, h1, h2, h3, h4, h5⟩ := hW; go_simp⟩) hS ?_
          refine wpAnyH_take (i := 3) (v := .agg #[.int .i64 k', .string n', .string v', .slice B q c']) rfl (by kernel_rfl) (by kernel_rfl) (by kernel_rfl) (fun _ _ _ h => h) (Or.inl ⟨by rfl, fun W hW => by obtain ⟨h0, h1, h2, h3, h4, h5⟩ := hW; go_simp⟩) hS ?_
          refine wpAnyH_ready (rs := [4]) (by kernel_rfl) (by simp) ?_
          refine AllReadyH.cons rfl (fun K hK => ?_) AllReadyH.nil
          go_simp
          (with_reducible refine HR.out.mono ?_)
          rintro e w3 ⟨rfl, hb3⟩
          refine hK.out _ _ ⟨(hb3.cell (p := ⟨w.heap.size, 0, none⟩) hL).trans q0, (hb3.cell (p := ⟨w.heap.size, 1, none⟩) hL).trans q1, (hb3.cell (p := ⟨b, o + j * 4, none⟩) hX').trans e0, (hb3.cell (p := ⟨b, o + j * 4 + 1, none⟩) hX').trans e1, (hb3.cell (p := ⟨b, o + j * 4 + 2, none⟩) hX').trans e2, (hb3.cell (p := ⟨b, o + j * 4 + 3, none⟩) hX').trans e3⟩ (fun hS => ?_)
          clear hK K
          refine wpAnyH_ready (rs := [5]) (by kernel_rfl) (by simp) ?_
          refine AllReadyH.cons rfl (fun K hK => ?_) AllReadyH.nil
          go_simp
          refine hK.out _ _ hS (fun hS => ?_)
          clear hK K
          refine wpAnyH_take (i := 6) (v := .slice (some ⟨b, o, none⟩) m c) rfl (by kernel_rfl) (by kernel_rfl) (by kernel_rfl) (fun _ _ _ h => h) (Or.inl ⟨by rfl, fun W hW => by obtain ⟨h0, h1, h2, h3, h4, h5⟩ := hW; go_simp⟩) hS ?_
          refine wpAnyH_take (i := 7) (v := .int .i64 j) rfl (by kernel_rfl) (by kernel_rfl) (by kernel_rfl) (fun _ _ _ h => h) (Or.inl ⟨by rfl, fun W hW => by obtain ⟨h0, h1, h2, h3, h4, h5⟩ := hW; go_simp⟩) hS ?_
          refine wpAnyH_take (i := 8) (v := .pointer (some ⟨b, o + j * 4, none⟩)) rfl (by kernel_rfl) (by kernel_rfl) (by kernel_rfl) (fun _ _ _ h => h) (Or.inl ⟨by rfl, fun W hW => by obtain ⟨h0, h1, h2, h3, h4, h5⟩ := hW; go_simp⟩) hS ?_
          refine wpAnyH_take (i := 9) (v := .agg #[.int .i64 k', .string n', .string v', .slice B q c']) rfl (by kernel_rfl) (by kernel_rfl) (by kernel_rfl) (fun _ _ _ h => h) (Or.inl ⟨by rfl, fun W hW => by obtain ⟨h0, h1, h2, h3, h4, h5⟩ := hW; go_simp⟩) hS ?_
          refine wpAnyH_take (i := 10) (v := .agg #[.string nm, .slice PA pm pc]) rfl (by kernel_rfl) (by kernel_rfl) (by kernel_rfl) (fun _ _ _ h => h) (Or.inl ⟨by rfl, fun W hW => by obtain ⟨h0, h1, h2, h3, h4, h5⟩ := hW; go_simp⟩) hS ?_
          refine wpAnyH_ready (rs := [11]) (by kernel_rfl) (by simp) ?_
          refine AllReadyH.cons rfl (fun K hK => ?_) AllReadyH.nil
          go_simp
          (with_reducible refine (HH.out _ hb3).mono ?_)
          rintro e w5 ⟨rfl, hb5⟩
          have hb6 := hb3.trans (hb5.mono hb3.size)
          refine hK.out _ _ ⟨(hb6.cell (p := ⟨w.heap.size, 0, none⟩) hL).trans q0, (hb6.cell (p := ⟨w.heap.size, 1, none⟩) hL).trans q1, (hb6.cell (p := ⟨b, o + j * 4, none⟩) hX').trans e0, (hb6.cell (p := ⟨b, o + j * 4 + 1, none⟩) hX').trans e1, (hb6.cell (p := ⟨b, o + j * 4 + 2, none⟩) hX').trans e2, (hb6.cell (p := ⟨b, o + j * 4 + 3, none⟩) hX').trans e3⟩ (fun hS => ?_)
          clear hK K
          refine wpAnyH_ready (rs := [12]) (by kernel_rfl) (by simp) ?_
          refine AllReadyH.cons rfl (fun K hK => ?_) AllReadyH.nil
          go_simp
          refine hK.out _ _ hS (fun hS => ?_)
          clear hK K
          refine wpAnyH_done (by kernel_rfl) ?_ _
          have hb4 := Below.undrew hb6
          go_wp2
          go_roundw
          case rel => exact ⟨j + 1, by omega, by go_num, HF.out, HQ.out.below hb4 hL, hb.trans (hb4.mono hb.size)⟩
          case measure => simp [intOf]; omega
        · rw [hx] at HH
          have HF := Lib.hid (show ts.any (holdB ps) = true from any_yes HJ.out (by unfold holdB; rw [hr, hx]; rfl))
          clear hr hx
          go_wp2_with fail
          refine wp_region_held_drew (S := fun W => W.cell? ⟨w.heap.size, 0, none⟩ = some (.string nm) ∧ W.cell? ⟨w.heap.size, 1, none⟩ = some (.slice PA pm pc) ∧
              W.cell? ⟨b, o + j * 4, none⟩ = some (.int .i64 k') ∧ W.cell? ⟨b, o + j * 4 + 1, none⟩ = some (.string n') ∧ W.cell? ⟨b, o + j * 4 + 2, none⟩ = some (.string v') ∧ W.cell? ⟨b, o + j * 4 + 3, none⟩ = some (.slice B q c')) mixed ⟨q0, q1, e0, e1, e2, e3⟩ (fun hS => ?_)
          refine wpAnyH_take (i := 0) (v := .slice (some ⟨b, o, none⟩) m c) rfl (by kernel_rfl) (by kernel_rfl) (by kernel_rfl) (fun _ _ _ h => h) (Or.inl ⟨by rfl, fun W hW => by obtain ⟨h0, h1, h2, h3, h4, h5⟩ := hW; go_simp⟩) hS ?_
          refine wpAnyH_take (i := 1) (v := .int .i64 j) rfl (by kernel_rfl) (by kernel_rfl) (by kernel_rfl) (fun _ _ _ h => h) (Or.inl ⟨by rfl, fun W hW => by obtain ⟨h0, h1, h2, h3, h4, h5⟩ := hW; go_simp⟩) hS ?_
          refine wpAnyH_take (i := 2) (v := .pointer (some ⟨b, o + j * 4, none⟩)) rfl (by kernel_rfl) (by kernel_rfl) (by kernel_rfl) (fun _ _ _ h => h) (Or.inl ⟨by rfl, fun W hW => by obtain ⟨h0, h1, h2, h3, h4, h5⟩ := hW; go_simp⟩) hS ?_
          refine wpAnyH_take (i := 3) (v := .agg #[.int .i64 k', .string n', .string v', .slice B q c']) rfl (by kernel_rfl) (by kernel_rfl) (by kernel_rfl) (fun _ _ _ h => h) (Or.inl ⟨by rfl, fun W hW => by obtain ⟨h0, h1, h2, h3, h4, h5⟩ := hW; go_simp⟩) hS ?_
          refine wpAnyH_ready (rs := [4]) (by kernel_rfl) (by simp) ?_
          refine AllReadyH.cons rfl (fun K hK => ?_) AllReadyH.nil
          go_simp
          (with_reducible refine HR.out.mono ?_)
          rintro e w3 ⟨rfl, hb3⟩
          refine hK.out _ _ ⟨(hb3.cell (p := ⟨w.heap.size, 0, none⟩) hL).trans q0, (hb3.cell (p := ⟨w.heap.size, 1, none⟩) hL).trans q1, (hb3.cell (p := ⟨b, o + j * 4, none⟩) hX').trans e0, (hb3.cell (p := ⟨b, o + j * 4 + 1, none⟩) hX').trans e1, (hb3.cell (p := ⟨b, o + j * 4 + 2, none⟩) hX').trans e2, (hb3.cell (p := ⟨b, o + j * 4 + 3, none⟩) hX').trans e3⟩ (fun hS => ?_)
          clear hK K
          refine wpAnyH_ready (rs := [5]) (by kernel_rfl) (by simp) ?_
          refine AllReadyH.cons rfl (fun K hK => ?_) AllReadyH.nil
          go_simp
          refine hK.out _ _ hS (fun hS => ?_)
          clear hK K
          refine wpAnyH_take (i := 6) (v := .slice (some ⟨b, o, none⟩) m c) rfl (by kernel_rfl) (by kernel_rfl) (by kernel_rfl) (fun _ _ _ h => h) (Or.inl ⟨by rfl, fun W hW => by obtain ⟨h0, h1, h2, h3, h4, h5⟩ := hW; go_simp⟩) hS ?_
          refine wpAnyH_take (i := 7) (v := .int .i64 j) rfl (by kernel_rfl) (by kernel_rfl) (by kernel_rfl) (fun _ _ _ h => h) (Or.inl ⟨by rfl, fun W hW => by obtain ⟨h0, h1, h2, h3, h4, h5⟩ := hW; go_simp⟩) hS ?_
          refine wpAnyH_take (i := 8) (v := .pointer (some ⟨b, o + j * 4, none⟩)) rfl (by kernel_rfl) (by kernel_rfl) (by kernel_rfl) (fun _ _ _ h => h) (Or.inl ⟨by rfl, fun W hW => by obtain ⟨h0, h1, h2, h3, h4, h5⟩ := hW; go_simp⟩) hS ?_
          refine wpAnyH_take (i := 9) (v := .agg #[.int .i64 k', .string n', .string v', .slice B q c']) rfl (by kernel_rfl) (by kernel_rfl) (by kernel_rfl) (fun _ _ _ h => h) (Or.inl ⟨by rfl, fun W hW => by obtain ⟨h0, h1, h2, h3, h4, h5⟩ := hW; go_simp⟩) hS ?_
          refine wpAnyH_take (i := 10) (v := .agg #[.string nm, .slice PA pm pc]) rfl (by kernel_rfl) (by kernel_rfl) (by kernel_rfl) (fun _ _ _ h => h) (Or.inl ⟨by rfl, fun W hW => by obtain ⟨h0, h1, h2, h3, h4, h5⟩ := hW; go_simp⟩) hS ?_
          refine wpAnyH_ready (rs := [11]) (by kernel_rfl) (by simp) ?_
          refine AllReadyH.cons rfl (fun K hK => ?_) AllReadyH.nil
          go_simp
          (with_reducible refine (HH.out _ hb3).mono ?_)
          rintro e w5 ⟨rfl, hb5⟩
          have hb6 := hb3.trans (hb5.mono hb3.size)
          refine hK.out _ _ ⟨(hb6.cell (p := ⟨w.heap.size, 0, none⟩) hL).trans q0, (hb6.cell (p := ⟨w.heap.size, 1, none⟩) hL).trans q1, (hb6.cell (p := ⟨b, o + j * 4, none⟩) hX').trans e0, (hb6.cell (p := ⟨b, o + j * 4 + 1, none⟩) hX').trans e1, (hb6.cell (p := ⟨b, o + j * 4 + 2, none⟩) hX').trans e2, (hb6.cell (p := ⟨b, o + j * 4 + 3, none⟩) hX').trans e3⟩ (fun hS => ?_)
          clear hK K
          refine wpAnyH_ready (rs := [12]) (by kernel_rfl) (by simp) ?_
          refine AllReadyH.cons rfl (fun K hK => ?_) AllReadyH.nil
          go_simp
          refine hK.out _ _ hS (fun hS => ?_)
          clear hK K
          refine wpAnyH_done (by kernel_rfl) ?_ _
          have hb4 := Below.undrew hb6
          go_wp2
          go_ret
          exact ⟨ret_bool HF.out.symm, hb.trans (hb4.mono hb.size)⟩
    · obtain rfl : j = m := by omega
      have HF := Lib.hid (show ts.any (holdB ps) = false by have := HA.out; rwa [List.take_of_length_le (by rw [hk.1]; omega)] at this)
      go_wp2
      go_ret
      exact ⟨ret_bool HF.out.symm, hb⟩
end
end Go.Proofs.Ytfgblmdmhgllgaa
