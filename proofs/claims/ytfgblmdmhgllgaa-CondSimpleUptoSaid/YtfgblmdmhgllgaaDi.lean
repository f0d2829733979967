/- CondSimple's walk. -/
import Derived.Test.YtfgblmdmhgllgaaDc
import Derived.Test.YtfgblmdmhgllgaaDa
import Derived.Test.YtfgblmdmhgllgaaDh
import Derived.Test.YtfgblmdmhgllgaaCx
namespace Go.Proofs.Ytfgblmdmhgllgaa
open Go.RowKit Go.Maps

theorem simple_own {t : CT} (h : rightT 20 t = true) : simpleL (simpT false t) = simpT false t := by
  unfold simpleL
  rw [simp_right 20 false t h, simp_own h]; rfl
set_option maxHeartbeats 20000000 in
set_option maxRecDepth 100000 in
theorem condSimple_walk (D : Nat) (t : CT) (k : Int) (n v : ByteArray) (A : Option Addr) (m c : Nat) (nm : ByteArray) (PA : Option Addr) (pm pc : Nat) (ps : Props) (w : World) (ht : CondAt w (· < w.heap.size) D t [.int .i64 k, .string n, .string v, .slice A m c]) (hp : PropsAt w (· < w.heap.size) PA pm ps) (hpm : pm ≤ maxLen) (hnl : (namesT t).length ≤ 1000000000) :
    Calls Try.prog 9 #[.agg #[.int .i64 k, .string n, .string v, .slice A m c], .agg #[.string nm, .slice PA pm pc]] w fun e w' => e = .returned (.bool true) ∧ Below w.heap.size w w' := by
  have mixed : Try.prog.follows .mixedOrders = true := by kernel_rfl
  have hbW := ((Below.refl _ w).alloc (Nat.le_refl _) (.cells #[.int .i64 k, .string n, .string v, .slice A m c] 76)).alloc (by simp) (.cells #[.string nm, .slice PA pm pc] 79)
  have HA := Lib.hid (show Blk ((w.alloc (.cells #[.int .i64 k, .string n, .string v, .slice A m c] 76)).alloc (.cells #[.string nm, .slice PA pm pc] 79)) w.heap.size 76 #[.int .i64 k, .string n, .string v, .slice A m c] from (Blk.new w _ _).alloc _)
  have HQ := Lib.hid (show Blk ((w.alloc (.cells #[.int .i64 k, .string n, .string v, .slice A m c] 76)).alloc (.cells #[.string nm, .slice PA pm pc] 79)) (w.heap.size + 1) 79 #[.string nm, .slice PA pm pc] by simpa using Blk.new (w.alloc (.cells #[.int .i64 k, .string n, .string v, .slice A m c] 76)) 79 _)
  have HT := Lib.hid (ht.below hbW)
  have HPS := Lib.hid (hp.below hbW)
  have hB0 := Below.refl ((w.alloc (.cells #[.int .i64 k, .string n, .string v, .slice A m c] 76)).alloc (.cells #[.string nm, .slice PA pm pc] 79)).heap.size ((w.alloc (.cells #[.int .i64 k, .string n, .string v, .slice A m c] 76)).alloc (.cells #[.string nm, .slice PA pm pc] 79))
  clear ht hp
  go_enter Try.func9, Try.ntmps9
  go_wp2_with fail
  refine (alive_any _).mono ?_
  rintro e w1 ⟨rfl, hc⟩
  have hB1 := hB0.trans (hc.mono hB0.size)
  clear hc
  obtain ⟨p0, p1, p2, p3⟩ := blkc (HA.out.below hB1 (by simp; omega))
  have HC := Lib.hid (cSimple_any D t k n v A m c w1 (HT.out.below hB1) hnl)
  go_wp2_with fail
  refine HC.out.mono ?_
  clear HC
  rintro e w2 ⟨sk, sn, sv, sA, sm, sc, sD, rfl, hcs, hc⟩
  have hB2 := hB1.trans (hc.mono hB1.size)
  have hcs2 := hcs.mono (Y := (· < w2.heap.size)) fun j hj => hj.2
  have hb3 := (Below.refl _ w2).alloc (Nat.le_refl _) (.cells #[.int .i64 sk, .string sn, .string sv, .slice sA sm sc] 76)
  have hB3 := hB2.trans (hb3.mono hB2.size)
  have hB3s := hB3.size
  have HSB := Lib.hid (Blk.new w2 76 #[.int .i64 sk, .string sn, .string sv, .slice sA sm sc])
  have HCS := Lib.hid (hcs2.below hb3)
  have hlw : w.heap.size < w2.heap.size := by have := hB2.size; simp at this; omega
  clear hc hcs hcs2 p0 p1 p2 p3
  obtain ⟨p0, p1, p2, p3⟩ := blkc (HA.out.below hB2 (by simp; omega))
  have HC := Lib.hid (rRight_any 20 D t _ _ _ _ 20 (w2.alloc (.cells #[.int .i64 sk, .string sn, .string sv, .slice sA sm sc] 76)) (HT.out.below hB3) rfl (by omega))
  have hV0 := Below.refl (w2.alloc (.cells #[.int .i64 sk, .string sn, .string sv, .slice sA sm sc] 76)).heap.size (w2.alloc (.cells #[.int .i64 sk, .string sn, .string sv, .slice sA sm sc] 76))
  cases hr : rightT 20 t
  · rw [hr] at HC
    have HZ := Lib.hid (show simpleL t = zeroC by unfold simpleL; rw [hr]; rfl)
    clear hr
    go_wp2_with fail
    refine HC.out.mono ?_
    clear HC
    rintro e w4 ⟨rfl, hc⟩
    have hV1 := hV0.trans (hc.mono hV0.size)
    clear hc p0 p1 p2 p3
    obtain ⟨q0, q1, q2, q3⟩ := blkc (HSB.out.below hV1 (by simp))
    have hcs4 := HCS.out.below hV1
    rw [HZ.out] at hcs4
    have hz : CondAt w4 (· < w4.heap.size) 1 zeroC [.int .i64 0, .string ⟨#[]⟩, .string ⟨#[]⟩, .slice none 0 0] := CondAt.of (d := 0) empty_str empty_str (Nat.zero_le _) (Nat.le_refl _) ⟨rfl, fun h => by omega⟩
    have HS := Lib.hid (sameC_yes (max sD 1) zeroC _ _ _ _ _ _ _ _ w4 (hcs4.deeper (Nat.le_max_left _ _)) (hz.deeper (Nat.le_max_right _ _)))
    clear hcs4 hz
    go_wp2_with fail
    refine HS.out.mono ?_
    rintro e w5 ⟨rfl, hc⟩
    go_wp2
    go_ret
    exact ⟨rfl, hbW.trans ((hB3.trans ((hV1.trans (hc.mono hV1.size)).mono hB3.size)).mono hbW.size)⟩
  · rw [hr] at HC
    have HR := Lib.hid hr
    have hL : simpleL t = simpT false t := by unfold simpleL; rw [hr]; rfl
    rw [hL] at HCS
    have HSR := Lib.hid (simp_right 20 false t hr)
    have HSH := Lib.hid (simp_holds ps 20 false t hr)
    have HSO := Lib.hid (simple_own hr)
    have HSN := Lib.hid (simp_names 20 false t hr)
    clear hr hL
    go_wp2_with fail
    refine HC.out.mono ?_
    clear HC
    rintro e w4 ⟨rfl, hc⟩
    have hV1 := hV0.trans (hc.mono hV0.size)
    have hV1' := hB3.trans (hV1.mono hB3.size)
    clear hc p0 p1 p2 p3
    obtain ⟨q0, q1, q2, q3⟩ := blkc (HSB.out.below hV1 (by simp))
    obtain ⟨p0, p1, p2, p3⟩ := blkc (HA.out.below hV1' (by simp; omega))
    obtain ⟨r0, r1, -⟩ := blk2 (HQ.out.below hV1' (by simp))
    have HAV := Lib.hid (HA.out.below hV1' (by simp; omega)).drew
    have HQV := Lib.hid (HQ.out.below hV1' (by simp)).drew
    have HSV := Lib.hid (HSB.out.below hV1 (by simp)).drew
    have HTV := Lib.hid (HT.out.below hV1').drewB
    have HPV := Lib.hid (HPS.out.below hV1').drewB
    have HCV := Lib.hid (HCS.out.below hV1).drewB
    have hX0 := Below.refl w4.drew.heap.size w4.drew
    have HSS := Lib.hid (show ∀ W, Below w4.drew.heap.size w4.drew W → (W.cell? ⟨w2.heap.size, 0, none⟩ = some (.int .i64 sk) ∧ W.cell? ⟨w2.heap.size, 1, none⟩ = some (.string sn) ∧ W.cell? ⟨w2.heap.size, 2, none⟩ = some (.string sv) ∧ W.cell? ⟨w2.heap.size, 3, none⟩ = some (.slice sA sm sc) ∧ W.cell? ⟨w.heap.size, 0, none⟩ = some (.int .i64 k) ∧ W.cell? ⟨w.heap.size, 1, none⟩ = some (.string n) ∧ W.cell? ⟨w.heap.size, 2, none⟩ = some (.string v) ∧ W.cell? ⟨w.heap.size, 3, none⟩ = some (.slice A m c) ∧ W.cell? ⟨w.heap.size + 1, 0, none⟩ = some (.string nm) ∧ W.cell? ⟨w.heap.size + 1, 1, none⟩ = some (.slice PA pm pc)) from fun W hb => by
      obtain ⟨x0, x1, x2, x3⟩ := blkc (HSV.out.below hb HSV.out.lt)
      obtain ⟨y0, y1, y2, y3⟩ := blkc (HAV.out.below hb HAV.out.lt)
      obtain ⟨z0, z1, -⟩ := blk2 (HQV.out.below hb HQV.out.lt)
      exact ⟨x0, x1, x2, x3, y0, y1, y2, y3, z0, z1⟩)
    have KR := Lib.hid (fun W (hb : Below w4.drew.heap.size w4.drew W) => rSimple_any 20 D t false _ _ _ _ W (HTV.out.below hb) HR.out hnl)
    have KI := Lib.hid (fun W (hb : Below w4.drew.heap.size w4.drew W) => cRight_any sD (simpT false t) sk sn sv sA sm sc W (HCV.out.below hb))
    have K1 := Lib.hid (fun W (hb : Below w4.drew.heap.size w4.drew W) => cHolds_any nm PA pm pc ps sD (simpT false t) sk sn sv sA sm sc W (HCV.out.below hb) (HPV.out.below hb) hpm)
    have K2 := Lib.hid (fun W (hb : Below w4.drew.heap.size w4.drew W) => cHolds_any nm PA pm pc ps D t k n v A m c W (HTV.out.below hb) (HPV.out.below hb) hpm)
    have KS := Lib.hid (fun W (hb : Below w4.drew.heap.size w4.drew W) => cSimple_any sD (simpT false t) sk sn sv sA sm sc W (HCV.out.below hb) (by rw [HSN.out]; exact hnl))
    rw [HSR.out] at KI
    rw [HSR.out, HSH.out, Bool.true_and] at K1
    rw [HR.out, Bool.true_and] at K2
    rw [HSO.out] at KS
    clear HA HQ HT HPS HSB HCS
    cases hx : holdsT ps t
    all_goals
      rw [hx] at K1 K2
      simp only [Bool.false_bne, Bool.bne_false, Bool.bne_true, Bool.true_bne, bne_self_eq_false, Bool.not_true, Bool.not_false] at K1
      clear hx
      go_wp2_with fail
      refine wp_region_held_drew (S := fun W => W.cell? ⟨w2.heap.size, 0, none⟩ = some (.int .i64 sk) ∧ W.cell? ⟨w2.heap.size, 1, none⟩ = some (.string sn) ∧ W.cell? ⟨w2.heap.size, 2, none⟩ = some (.string sv) ∧ W.cell? ⟨w2.heap.size, 3, none⟩ = some (.slice sA sm sc) ∧ W.cell? ⟨w.heap.size, 0, none⟩ = some (.int .i64 k) ∧ W.cell? ⟨w.heap.size, 1, none⟩ = some (.string n) ∧ W.cell? ⟨w.heap.size, 2, none⟩ = some (.string v) ∧ W.cell? ⟨w.heap.size, 3, none⟩ = some (.slice A m c) ∧ W.cell? ⟨w.heap.size + 1, 0, none⟩ = some (.string nm) ∧ W.cell? ⟨w.heap.size + 1, 1, none⟩ = some (.slice PA pm pc)) mixed (HSS.out _ hX0) (fun hS => ?_)
      clear p0 p1 p2 p3 q0 q1 q2 q3 r0 r1
      refine wpAnyH_take (i := 0) (v := .agg #[.int .i64 sk, .string sn, .string sv, .slice sA sm sc]) rfl (by kernel_rfl) (by kernel_rfl) (by kernel_rfl) (fun _ _ _ h => h) (Or.inl ⟨by rfl, fun W hW => by obtain ⟨h0, h1, h2, h3, h4, h5, h6, h7, h8, h9⟩ := hW; go_simp⟩) hS ?_
      refine wpAnyH_take (i := 1) (v := .agg #[.int .i64 k, .string n, .string v, .slice A m c]) rfl (by kernel_rfl) (by kernel_rfl) (by kernel_rfl) (fun _ _ _ h => h) (Or.inl ⟨by rfl, fun W hW => by obtain ⟨h0, h1, h2, h3, h4, h5, h6, h7, h8, h9⟩ := hW; go_simp⟩) hS ?_
      refine wpAnyH_ready (rs := [2]) (by kernel_rfl) (by simp) ?_
      refine AllReadyH.cons rfl (fun K hK => ?_) AllReadyH.nil
      go_simp
      (with_reducible refine (KR.out _ hX0).mono ?_)
      rintro e w5 ⟨rk, rn, rv, rA, rm, rc, rD, rfl, hcr, hc⟩
      have hX1 := hX0.trans (hc.mono hX0.size)
      have HM := Lib.hid (sameC_yes (max sD rD) (simpT false t) _ _ _ _ _ _ _ _ w5 ((HCV.out.below hX1).deeper (Nat.le_max_left _ _)) ((hcr.mono (Y := (· < w5.heap.size)) fun j hj => hj.2).deeper (Nat.le_max_right _ _)))
      refine hK.out _ _ (HSS.out _ hX1) (fun hS => ?_)
      clear hK K hc hcr KR
      refine wpAnyH_ready (rs := [3]) (by kernel_rfl) (by simp) ?_
      refine AllReadyH.cons rfl (fun K hK => ?_) AllReadyH.nil
      go_simp
      (with_reducible refine HM.out.mono ?_)
      rintro e w6 ⟨rfl, hc⟩
      have hX2 := hX1.trans (hc.mono hX1.size)
      refine hK.out _ _ (HSS.out _ hX2) (fun hS => ?_)
      clear hK K hc HM
      refine wpAnyH_ready (rs := [4]) (by kernel_rfl) (by simp) ?_
      refine AllReadyH.cons rfl (fun K hK => ?_) AllReadyH.nil
      go_simp
      refine hK.out _ _ hS (fun hS => ?_)
      clear hK K
      refine wpAnyH_take (i := 5) (v := .agg #[.int .i64 sk, .string sn, .string sv, .slice sA sm sc]) rfl (by kernel_rfl) (by kernel_rfl) (by kernel_rfl) (fun _ _ _ h => h) (Or.inl ⟨by rfl, fun W hW => by obtain ⟨h0, h1, h2, h3, h4, h5, h6, h7, h8, h9⟩ := hW; go_simp⟩) hS ?_
      refine wpAnyH_ready (rs := [6]) (by kernel_rfl) (by simp) ?_
      refine AllReadyH.cons rfl (fun K hK => ?_) AllReadyH.nil
      go_simp
      (with_reducible refine (KI.out _ hX2).mono ?_)
      rintro e w7 ⟨rfl, hc⟩
      have hX3 := hX2.trans (hc.mono hX2.size)
      refine hK.out _ _ (HSS.out _ hX3) (fun hS => ?_)
      clear hK K hc KI
      refine wpAnyH_ready (rs := [7]) (by kernel_rfl) (by simp) ?_
      refine AllReadyH.cons rfl (fun K hK => ?_) AllReadyH.nil
      go_simp
      refine hK.out _ _ hS (fun hS => ?_)
      clear hK K
      refine wpAnyH_ready (rs := [8]) (by kernel_rfl) (by simp) ?_
      refine AllReadyH.cons rfl (fun K hK => ?_) AllReadyH.nil
      go_simp
      refine hK.out _ _ hS (fun hS => ?_)
      clear hK K
      refine wpAnyH_take (i := 9) (v := .agg #[.int .i64 sk, .string sn, .string sv, .slice sA sm sc]) rfl (by kernel_rfl) (by kernel_rfl) (by kernel_rfl) (fun _ _ _ h => h) (Or.inl ⟨by rfl, fun W hW => by obtain ⟨h0, h1, h2, h3, h4, h5, h6, h7, h8, h9⟩ := hW; go_simp⟩) hS ?_
      refine wpAnyH_take (i := 10) (v := .agg #[.string nm, .slice PA pm pc]) rfl (by kernel_rfl) (by kernel_rfl) (by kernel_rfl) (fun _ _ _ h => h) (Or.inl ⟨by rfl, fun W hW => by obtain ⟨h0, h1, h2, h3, h4, h5, h6, h7, h8, h9⟩ := hW; go_simp⟩) hS ?_
      refine wpAnyH_take (i := 12) (v := .agg #[.int .i64 k, .string n, .string v, .slice A m c]) rfl (by kernel_rfl) (by kernel_rfl) (by kernel_rfl) (fun _ _ _ h => h) (Or.inl ⟨by rfl, fun W hW => by obtain ⟨h0, h1, h2, h3, h4, h5, h6, h7, h8, h9⟩ := hW; go_simp⟩) hS ?_
      refine wpAnyH_take (i := 13) (v := .agg #[.string nm, .slice PA pm pc]) rfl (by kernel_rfl) (by kernel_rfl) (by kernel_rfl) (fun _ _ _ h => h) (Or.inl ⟨by rfl, fun W hW => by obtain ⟨h0, h1, h2, h3, h4, h5, h6, h7, h8, h9⟩ := hW; go_simp⟩) hS ?_
      refine wpAnyH_ready (rs := [11]) (by kernel_rfl) (by simp) ?_
      refine AllReadyH.cons rfl (fun K hK => ?_) AllReadyH.nil
      go_simp
      (with_reducible refine (K1.out _ hX3).mono ?_)
      rintro e w8 ⟨rfl, hc⟩
      have hX4 := hX3.trans (hc.mono hX3.size)
      refine hK.out _ _ (HSS.out _ hX4) (fun hS => ?_)
      clear hK K hc K1
      refine wpAnyH_ready (rs := [14]) (by kernel_rfl) (by simp) ?_
      refine AllReadyH.cons rfl (fun K hK => ?_) AllReadyH.nil
      go_simp
      (with_reducible refine (K2.out _ hX4).mono ?_)
      rintro e w9 ⟨rfl, hc⟩
      have hX5 := hX4.trans (hc.mono hX4.size)
      refine hK.out _ _ (HSS.out _ hX5) (fun hS => ?_)
      clear hK K hc K2
      refine wpAnyH_ready (rs := [15]) (by kernel_rfl) (by simp) ?_
      refine AllReadyH.cons rfl (fun K hK => ?_) AllReadyH.nil
      go_simp
      refine hK.out _ _ hS (fun hS => ?_)
      clear hK K
      refine wpAnyH_ready (rs := [16]) (by kernel_rfl) (by simp) ?_
      refine AllReadyH.cons rfl (fun K hK => ?_) AllReadyH.nil
      go_simp
      refine hK.out _ _ hS (fun hS => ?_)
      clear hK K
      refine wpAnyH_ready (rs := [17]) (by kernel_rfl) (by simp) ?_
      refine AllReadyH.cons rfl (fun K hK => ?_) AllReadyH.nil
      go_simp
      refine hK.out _ _ hS (fun hS => ?_)
      clear hK K
      refine wpAnyH_take (i := 18) (v := .agg #[.int .i64 sk, .string sn, .string sv, .slice sA sm sc]) rfl (by kernel_rfl) (by kernel_rfl) (by kernel_rfl) (fun _ _ _ h => h) (Or.inl ⟨by rfl, fun W hW => by obtain ⟨h0, h1, h2, h3, h4, h5, h6, h7, h8, h9⟩ := hW; go_simp⟩) hS ?_
      refine wpAnyH_take (i := 20) (v := .agg #[.int .i64 sk, .string sn, .string sv, .slice sA sm sc]) rfl (by kernel_rfl) (by kernel_rfl) (by kernel_rfl) (fun _ _ _ h => h) (Or.inl ⟨by rfl, fun W hW => by obtain ⟨h0, h1, h2, h3, h4, h5, h6, h7, h8, h9⟩ := hW; go_simp⟩) hS ?_
      refine wpAnyH_ready (rs := [19]) (by kernel_rfl) (by simp) ?_
      refine AllReadyH.cons rfl (fun K hK => ?_) AllReadyH.nil
      go_simp
      (with_reducible refine (KS.out _ hX5).mono ?_)
      rintro e w10 ⟨rk2, rn2, rv2, rA2, rm2, rc2, rD2, rfl, hcr, hc⟩
      have hX6 := hX5.trans (hc.mono hX5.size)
      have HM := Lib.hid (sameC_yes (max rD2 sD) (simpT false t) _ _ _ _ _ _ _ _ w10 ((hcr.mono (Y := (· < w10.heap.size)) fun j hj => hj.2).deeper (Nat.le_max_left _ _)) ((HCV.out.below hX6).deeper (Nat.le_max_right _ _)))
      refine hK.out _ _ (HSS.out _ hX6) (fun hS => ?_)
      clear hK K hc hcr KS
      refine wpAnyH_ready (rs := [21]) (by kernel_rfl) (by simp) ?_
      refine AllReadyH.cons rfl (fun K hK => ?_) AllReadyH.nil
      go_simp
      (with_reducible refine HM.out.mono ?_)
      rintro e w11 ⟨rfl, hc⟩
      have hX7 := hX6.trans (hc.mono hX6.size)
      refine hK.out _ _ (HSS.out _ hX7) (fun hS => ?_)
      clear hK K hc HM
      refine wpAnyH_ready (rs := [22]) (by kernel_rfl) (by simp) ?_
      refine AllReadyH.cons rfl (fun K hK => ?_) AllReadyH.nil
      go_simp
      refine hK.out _ _ hS (fun hS => ?_)
      clear hK K
      refine wpAnyH_ready (rs := [23]) (by kernel_rfl) (by simp) ?_
      refine AllReadyH.cons rfl (fun K hK => ?_) AllReadyH.nil
      go_simp
      refine hK.out _ _ hS (fun hS => ?_)
      clear hK K
      refine wpAnyH_done (by kernel_rfl) ?_ _
      go_wp2
      go_ret
      exact ⟨rfl, hbW.trans ((hV1'.trans ((Below.undrew hX7).mono hV1'.size)).mono hbW.size)⟩
end Go.Proofs.Ytfgblmdmhgllgaa
