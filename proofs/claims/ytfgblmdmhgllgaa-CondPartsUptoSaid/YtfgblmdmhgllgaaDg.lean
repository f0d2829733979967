/- CondParts' walk. -/
import Derived.Test.YtfgblmdmhgllgaaDc
import Derived.Test.YtfgblmdmhgllgaaDa
import Derived.Test.YtfgblmdmhgllgaaCx
namespace Go.Proofs.Ytfgblmdmhgllgaa
open Go.RowKit Go.Maps

theorem ps_not {t : CT} (h : rightT 18 t = true) : rightT 19 (.mk 3 ⟨#[]⟩ ⟨#[]⟩ [t]) = true := by simp [rightT, alone, emp0, h]
theorem ps_not20 {t : CT} (h : rightT 18 t = true) : rightT 20 (.mk 3 ⟨#[]⟩ ⟨#[]⟩ [t]) = true := rightT_up 19 20 _ (by omega) (ps_not h)
theorem ps_two {t : CT} (h : rightT 18 t = true) : rightT 20 (.mk 3 ⟨#[]⟩ ⟨#[]⟩ [.mk 3 ⟨#[]⟩ ⟨#[]⟩ [t]]) = true := by
  have h1 := ps_not h
  rw [rightT]
  simp only [List.all_cons, List.all_nil, h1]
  simp [alone, emp0]
theorem ps_and {t u : CT} (h : rightT 18 t = true) (h2 : rightT 18 u = true) : rightT 20 (.mk 4 ⟨#[]⟩ ⟨#[]⟩ [t, u]) = true := rightT_up 19 20 _ (by omega) (by simp [rightT, alone, emp0, h, h2])
theorem ps_or {t u : CT} (h : rightT 18 t = true) (h2 : rightT 18 u = true) : rightT 20 (.mk 5 ⟨#[]⟩ ⟨#[]⟩ [t, u]) = true := rightT_up 19 20 _ (by omega) (by simp [rightT, alone, emp0, h, h2])
theorem ph_not (ps : Props) (t : CT) : holdsT ps (.mk 3 ⟨#[]⟩ ⟨#[]⟩ [t]) = !holdsT ps t := by simp [holdsT, firstT]
theorem ph_and (ps : Props) (t u : CT) : holdsT ps (.mk 4 ⟨#[]⟩ ⟨#[]⟩ [t, u]) = (holdsT ps t && holdsT ps u) := by simp [holdsT, allT]
theorem ph_or (ps : Props) (t u : CT) : holdsT ps (.mk 5 ⟨#[]⟩ ⟨#[]⟩ [t, u]) = (holdsT ps t || holdsT ps u) := by simp [holdsT, anyT]
theorem pn_two (t : CT) : namesT (.mk 3 ⟨#[]⟩ ⟨#[]⟩ [.mk 3 ⟨#[]⟩ ⟨#[]⟩ [t]]) = namesT t := by simp [namesT, namesK]
theorem psi_two {t : CT} (h : rightT 18 t = true) : simpleL (.mk 3 ⟨#[]⟩ ⟨#[]⟩ [.mk 3 ⟨#[]⟩ ⟨#[]⟩ [t]]) = simpleL t := by
  unfold simpleL
  rw [ps_two h, rightT_up 18 20 t (by omega) h]
  simp [simpT, simpF]

set_option maxHeartbeats 20000000 in
set_option maxRecDepth 100000 in
theorem condParts_walk (D : Nat) (t : CT) (k : Int) (n v : ByteArray) (A : Option Addr) (m c : Nat) (D2 : Nat) (t2 : CT) (k2 : Int) (n2 v2 : ByteArray) (A2 : Option Addr) (m2 c2 : Nat) (nm : ByteArray) (PA : Option Addr) (pm pc : Nat) (ps : Props) (w : World)
    (ht : CondAt w (· < w.heap.size) D t [.int .i64 k, .string n, .string v, .slice A m c]) (ht2 : CondAt w (· < w.heap.size) D2 t2 [.int .i64 k2, .string n2, .string v2, .slice A2 m2 c2]) (hp : PropsAt w (· < w.heap.size) PA pm ps) (hpm : pm ≤ maxLen) (hnl : (namesT t).length ≤ 1000000000) :
    Calls Try.prog 10 #[.agg #[.int .i64 k, .string n, .string v, .slice A m c], .agg #[.int .i64 k2, .string n2, .string v2, .slice A2 m2 c2], .agg #[.string nm, .slice PA pm pc]] w fun e w' => e = .returned (.bool true) ∧ Below w.heap.size w w' := by
  have mixed : Try.prog.follows .mixedOrders = true := by kernel_rfl
  have hbW := (((Below.refl _ w).alloc (Nat.le_refl _) (.cells #[.int .i64 k, .string n, .string v, .slice A m c] 76)).alloc (by simp) (.cells #[.int .i64 k2, .string n2, .string v2, .slice A2 m2 c2] 76)).alloc (by simp; omega) (.cells #[.string nm, .slice PA pm pc] 79)
  have HA := Lib.hid (show Blk (((w.alloc (.cells #[.int .i64 k, .string n, .string v, .slice A m c] 76)).alloc (.cells #[.int .i64 k2, .string n2, .string v2, .slice A2 m2 c2] 76)).alloc (.cells #[.string nm, .slice PA pm pc] 79)) w.heap.size 76 #[.int .i64 k, .string n, .string v, .slice A m c] from ((Blk.new w _ _).alloc _).alloc _)
  have HC0 := Lib.hid (show Blk (((w.alloc (.cells #[.int .i64 k, .string n, .string v, .slice A m c] 76)).alloc (.cells #[.int .i64 k2, .string n2, .string v2, .slice A2 m2 c2] 76)).alloc (.cells #[.string nm, .slice PA pm pc] 79)) (w.heap.size + 1) 76 #[.int .i64 k2, .string n2, .string v2, .slice A2 m2 c2] by simpa using (Blk.new (w.alloc (.cells #[.int .i64 k, .string n, .string v, .slice A m c] 76)) 76 #[.int .i64 k2, .string n2, .string v2, .slice A2 m2 c2]).alloc (.cells #[.string nm, .slice PA pm pc] 79))
  have HQ := Lib.hid (show Blk (((w.alloc (.cells #[.int .i64 k, .string n, .string v, .slice A m c] 76)).alloc (.cells #[.int .i64 k2, .string n2, .string v2, .slice A2 m2 c2] 76)).alloc (.cells #[.string nm, .slice PA pm pc] 79)) (w.heap.size + 1 + 1) 79 #[.string nm, .slice PA pm pc] by simpa using Blk.new ((w.alloc (.cells #[.int .i64 k, .string n, .string v, .slice A m c] 76)).alloc (.cells #[.int .i64 k2, .string n2, .string v2, .slice A2 m2 c2] 76)) 79 #[.string nm, .slice PA pm pc])
  have HT := Lib.hid (ht.below hbW)
  have HT2 := Lib.hid (ht2.below hbW)
  have HPS := Lib.hid (hp.below hbW)
  have hB0 := Below.refl (((w.alloc (.cells #[.int .i64 k, .string n, .string v, .slice A m c] 76)).alloc (.cells #[.int .i64 k2, .string n2, .string v2, .slice A2 m2 c2] 76)).alloc (.cells #[.string nm, .slice PA pm pc] 79)).heap.size (((w.alloc (.cells #[.int .i64 k, .string n, .string v, .slice A m c] 76)).alloc (.cells #[.int .i64 k2, .string n2, .string v2, .slice A2 m2 c2] 76)).alloc (.cells #[.string nm, .slice PA pm pc] 79))
  clear ht ht2 hp
  go_enter Try.func10, Try.ntmps10
  go_wp2_with fail
  refine (alive_any _).mono ?_
  rintro e w1 ⟨rfl, hc⟩
  have hB1 := hB0.trans (hc.mono hB0.size)
  clear hc
  obtain ⟨p0, p1, p2, p3⟩ := blkc (HA.out.below hB1 (by simp; omega))
  have HC := Lib.hid (rRight_any 18 D t _ _ _ _ 18 w1 (HT.out.below hB1) rfl (by omega))
  cases hr : rightT 18 t
  · rw [hr] at HC
    clear hr
    go_wp2_with fail
    refine HC.out.mono ?_
    rintro e w2 ⟨rfl, hc⟩
    go_wp2
    go_ret
    exact ⟨rfl, hbW.trans ((hB1.trans (hc.mono hB1.size)).mono hbW.size)⟩
  rw [hr] at HC
  have HR := Lib.hid hr
  clear hr
  go_wp2_with fail
  refine HC.out.mono ?_
  clear HC
  rintro e w2 ⟨rfl, hc⟩
  have hB2 := hB1.trans (hc.mono hB1.size)
  clear hc p0 p1 p2 p3
  obtain ⟨p0, p1, p2, p3⟩ := blkc (HC0.out.below hB2 (by simp))
  have HC := Lib.hid (rRight_any 18 D2 t2 _ _ _ _ 18 w2 (HT2.out.below hB2) rfl (by omega))
  cases hr : rightT 18 t2
  · rw [hr] at HC
    clear hr
    go_wp2_with fail
    refine HC.out.mono ?_
    rintro e w3 ⟨rfl, hc⟩
    go_wp2
    go_ret
    exact ⟨rfl, hbW.trans ((hB2.trans (hc.mono hB2.size)).mono hbW.size)⟩
  rw [hr] at HC
  have HR2 := Lib.hid hr
  clear hr
  go_wp2_with fail
  refine HC.out.mono ?_
  clear HC
  rintro e w3 ⟨rfl, hc⟩
  have hB3 := hB2.trans (hc.mono hB2.size)
  clear hc p0 p1 p2 p3
  obtain ⟨p0, p1, p2, p3⟩ := blkc (HA.out.below hB3 (by simp; omega))
  obtain ⟨r0, r1, r2, r3⟩ := blkc (HC0.out.below hB3 (by simp))
  obtain ⟨q0, q1, -⟩ := blk2 (HQ.out.below hB3 (by simp))
  have HR20 := Lib.hid (rightT_up 18 20 t (by omega) HR.out)
  have HR220 := Lib.hid (rightT_up 18 20 t2 (by omega) HR2.out)
  have HX := Lib.hid (cHolds_any nm PA pm pc ps D t k n v A m c w3.drew (HT.out.below hB3).drewB (HPS.out.below hB3).drewB hpm)
  have HY := Lib.hid (fun W (hb : Below w3.drew.heap.size w3.drew W) => cHolds_any nm PA pm pc ps D2 t2 k2 n2 v2 A2 m2 c2 W ((HT2.out.below hB3).drewB.below hb) ((HPS.out.below hB3).drewB.below hb) hpm)
  rw [HR20.out, Bool.true_and] at HX
  rw [HR220.out, Bool.true_and] at HY
  cases hx : holdsT ps t
  all_goals cases hy : holdsT ps t2
  · rw [hx] at HX
    rw [hy] at HY
    have HHX := Lib.hid hx
    have HHY := Lib.hid hy
    clear hx hy
    go_wp2_with fail
    refine wp_region_held_drew (S := fun W => W.cell? ⟨w.heap.size, 0, none⟩ = some (.int .i64 k) ∧ W.cell? ⟨w.heap.size, 1, none⟩ = some (.string n) ∧ W.cell? ⟨w.heap.size, 2, none⟩ = some (.string v) ∧ W.cell? ⟨w.heap.size, 3, none⟩ = some (.slice A m c) ∧ W.cell? ⟨w.heap.size + 1, 0, none⟩ = some (.int .i64 k2) ∧ W.cell? ⟨w.heap.size + 1, 1, none⟩ = some (.string n2) ∧ W.cell? ⟨w.heap.size + 1, 2, none⟩ = some (.string v2) ∧ W.cell? ⟨w.heap.size + 1, 3, none⟩ = some (.slice A2 m2 c2) ∧ W.cell? ⟨w.heap.size + 1 + 1, 0, none⟩ = some (.string nm) ∧ W.cell? ⟨w.heap.size + 1 + 1, 1, none⟩ = some (.slice PA pm pc)) mixed ⟨p0, p1, p2, p3, r0, r1, r2, r3, q0, q1⟩ (fun hS => ?_)
    clear p0 p1 p2 p3 r0 r1 r2 r3 q0 q1
    refine wpAnyH_take (i := 0) (v := .agg #[.int .i64 k, .string n, .string v, .slice A m c]) rfl (by kernel_rfl) (by kernel_rfl) (by kernel_rfl) (fun _ _ _ h => h) (Or.inl ⟨by rfl, fun W hW => by obtain ⟨h0, h1, h2, h3, h4, h5, h6, h7, h8, h9⟩ := hW; go_simp⟩) hS ?_
    refine wpAnyH_take (i := 1) (v := .agg #[.string nm, .slice PA pm pc]) rfl (by kernel_rfl) (by kernel_rfl) (by kernel_rfl) (fun _ _ _ h => h) (Or.inl ⟨by rfl, fun W hW => by obtain ⟨h0, h1, h2, h3, h4, h5, h6, h7, h8, h9⟩ := hW; go_simp⟩) hS ?_
    refine wpAnyH_take (i := 3) (v := .agg #[.int .i64 k2, .string n2, .string v2, .slice A2 m2 c2]) rfl (by kernel_rfl) (by kernel_rfl) (by kernel_rfl) (fun _ _ _ h => h) (Or.inl ⟨by rfl, fun W hW => by obtain ⟨h0, h1, h2, h3, h4, h5, h6, h7, h8, h9⟩ := hW; go_simp⟩) hS ?_
    refine wpAnyH_take (i := 4) (v := .agg #[.string nm, .slice PA pm pc]) rfl (by kernel_rfl) (by kernel_rfl) (by kernel_rfl) (fun _ _ _ h => h) (Or.inl ⟨by rfl, fun W hW => by obtain ⟨h0, h1, h2, h3, h4, h5, h6, h7, h8, h9⟩ := hW; go_simp⟩) hS ?_
    refine wpAnyH_ready (rs := [2]) (by kernel_rfl) (by simp) ?_
    refine AllReadyH.cons rfl (fun K hK => ?_) AllReadyH.nil
    go_simp
    (with_reducible refine HX.out.mono ?_)
    clear HX
    rintro e w4 ⟨rfl, hc4⟩
    have hB4 := hB3.trans ((Below.undrew hc4).mono hB3.size)
    obtain ⟨p0, p1, p2, p3⟩ := blkc (HA.out.below hB4 (by simp; omega))
    obtain ⟨r0, r1, r2, r3⟩ := blkc (HC0.out.below hB4 (by simp))
    obtain ⟨q0, q1, -⟩ := blk2 (HQ.out.below hB4 (by simp))
    refine hK.out _ _ ⟨p0, p1, p2, p3, r0, r1, r2, r3, q0, q1⟩ (fun hS => ?_)
    clear hK K p0 p1 p2 p3 r0 r1 r2 r3 q0 q1
    refine wpAnyH_ready (rs := [5]) (by kernel_rfl) (by simp) ?_
    refine AllReadyH.cons rfl (fun K hK => ?_) AllReadyH.nil
    go_simp
    (with_reducible refine (HY.out _ hc4).mono ?_)
    clear HY
    rintro e w5 ⟨rfl, hc5⟩
    have hB5 := hB4.trans (hc5.mono hB4.size)
    obtain ⟨p0, p1, p2, p3⟩ := blkc (HA.out.below hB5 (by simp; omega))
    obtain ⟨r0, r1, r2, r3⟩ := blkc (HC0.out.below hB5 (by simp))
    obtain ⟨q0, q1, -⟩ := blk2 (HQ.out.below hB5 (by simp))
    refine hK.out _ _ ⟨p0, p1, p2, p3, r0, r1, r2, r3, q0, q1⟩ (fun hS => ?_)
    clear hK K hc4 hc5 q0 q1
    refine wpAnyH_take (i := 6) (v := .bool false) rfl (by kernel_rfl) (by kernel_rfl) (by kernel_rfl) (fun _ _ _ h => h) (Or.inl ⟨by rfl, fun W hW => by obtain ⟨h0, h1, h2, h3, h4, h5, h6, h7, h8, h9⟩ := hW; go_simp⟩) hS ?_
    refine wpAnyH_ready (rs := [7]) (by kernel_rfl) (by simp) ?_
    refine AllReadyH.cons rfl (fun K hK => ?_) AllReadyH.nil
    go_simp
    refine hK.out _ _ hS (fun hS => ?_)
    clear hK K
    refine wpAnyH_done (by kernel_rfl) ?_ _
    have hl0 : w.heap.size + 1 + 1 < w5.heap.size := by have := hB5.size; simp at this; omega
    have hla : w.heap.size < w5.heap.size := by omega
    have hlb : w.heap.size + 1 < w5.heap.size := by omega

    have hla1 : w.heap.size < w5.heap.size + 1 := by omega
    have hlb1 : w.heap.size + 1 < w5.heap.size + 1 := by omega
    have hla2 : w.heap.size < w5.heap.size + 1 + 1 := by omega
    have hlb2 : w.heap.size + 1 < w5.heap.size + 1 + 1 := by omega
    have hla3 : w.heap.size < w5.heap.size + 1 + 1 + 1 := by omega
    have hlb3 : w.heap.size + 1 < w5.heap.size + 1 + 1 + 1 := by omega
    have hla4 : w.heap.size < w5.heap.size + 1 + 1 + 1 + 1 := by omega
    have hlb4 : w.heap.size + 1 < w5.heap.size + 1 + 1 + 1 + 1 := by omega
    have hla5 : w.heap.size < w5.heap.size + 1 + 1 + 1 + 1 + 1 := by omega
    have hlb5 : w.heap.size + 1 < w5.heap.size + 1 + 1 + 1 + 1 + 1 := by omega
    have hla6 : w.heap.size < w5.heap.size + 1 + 1 + 1 + 1 + 1 + 1 := by omega
    have hlb6 : w.heap.size + 1 < w5.heap.size + 1 + 1 + 1 + 1 + 1 + 1 := by omega
    have hla7 : w.heap.size < w5.heap.size + 1 + 1 + 1 + 1 + 1 + 1 + 1 := by omega
    have hlb7 : w.heap.size + 1 < w5.heap.size + 1 + 1 + 1 + 1 + 1 + 1 + 1 := by omega
    go_wp2_with fail
    clear p0 p1 p2 p3 r0 r1 r2 r3
    have hbV : Below w5.heap.size w5 ((((((((w5.alloc (.cells #[.int .i64 k, .string n, .string v, .slice A m c] 76)).alloc (.cells #[.int .i64 3, .string ⟨#[]⟩, .string ⟨#[]⟩, .slice (some ⟨w5.heap.size, 0, none⟩) 1 1] 76)).alloc (.cells #[.int .i64 3, .string ⟨#[]⟩, .string ⟨#[]⟩, .slice (some ⟨w5.heap.size, 0, none⟩) 1 1] 76)).alloc (.cells #[.int .i64 3, .string ⟨#[]⟩, .string ⟨#[]⟩, .slice (some ⟨w5.heap.size + 1 + 1, 0, none⟩) 1 1] 76)).alloc (.cells #[.int .i64 k, .string n, .string v, .slice A m c, .int .i64 k2, .string n2, .string v2, .slice A2 m2 c2] 76)).alloc (.cells #[.int .i64 4, .string ⟨#[]⟩, .string ⟨#[]⟩, .slice (some ⟨w5.heap.size + 1 + 1 + 1 + 1, 0, none⟩) 2 2] 76)).alloc (.cells #[.int .i64 k, .string n, .string v, .slice A m c, .int .i64 k2, .string n2, .string v2, .slice A2 m2 c2] 76)).alloc (.cells #[.int .i64 5, .string ⟨#[]⟩, .string ⟨#[]⟩, .slice (some ⟨w5.heap.size + 1 + 1 + 1 + 1 + 1 + 1, 0, none⟩) 2 2] 76)) := ((((((((Below.refl _ w5).alloc (Nat.le_refl _) _).alloc (by simp; try omega) _).alloc (by simp; try omega) _).alloc (by simp; try omega) _).alloc (by simp; try omega) _).alloc (by simp; try omega) _).alloc (by simp; try omega) _).alloc (by simp; try omega) _
    have B0 : Blk ((((((((w5.alloc (.cells #[.int .i64 k, .string n, .string v, .slice A m c] 76)).alloc (.cells #[.int .i64 3, .string ⟨#[]⟩, .string ⟨#[]⟩, .slice (some ⟨w5.heap.size, 0, none⟩) 1 1] 76)).alloc (.cells #[.int .i64 3, .string ⟨#[]⟩, .string ⟨#[]⟩, .slice (some ⟨w5.heap.size, 0, none⟩) 1 1] 76)).alloc (.cells #[.int .i64 3, .string ⟨#[]⟩, .string ⟨#[]⟩, .slice (some ⟨w5.heap.size + 1 + 1, 0, none⟩) 1 1] 76)).alloc (.cells #[.int .i64 k, .string n, .string v, .slice A m c, .int .i64 k2, .string n2, .string v2, .slice A2 m2 c2] 76)).alloc (.cells #[.int .i64 4, .string ⟨#[]⟩, .string ⟨#[]⟩, .slice (some ⟨w5.heap.size + 1 + 1 + 1 + 1, 0, none⟩) 2 2] 76)).alloc (.cells #[.int .i64 k, .string n, .string v, .slice A m c, .int .i64 k2, .string n2, .string v2, .slice A2 m2 c2] 76)).alloc (.cells #[.int .i64 5, .string ⟨#[]⟩, .string ⟨#[]⟩, .slice (some ⟨w5.heap.size + 1 + 1 + 1 + 1 + 1 + 1, 0, none⟩) 2 2] 76)) (w5.heap.size) 76 #[.int .i64 k, .string n, .string v, .slice A m c] := by simpa using (((((((Blk.new w5 76 #[.int .i64 k, .string n, .string v, .slice A m c]).alloc (.cells #[.int .i64 3, .string ⟨#[]⟩, .string ⟨#[]⟩, .slice (some ⟨w5.heap.size, 0, none⟩) 1 1] 76)).alloc (.cells #[.int .i64 3, .string ⟨#[]⟩, .string ⟨#[]⟩, .slice (some ⟨w5.heap.size, 0, none⟩) 1 1] 76)).alloc (.cells #[.int .i64 3, .string ⟨#[]⟩, .string ⟨#[]⟩, .slice (some ⟨w5.heap.size + 1 + 1, 0, none⟩) 1 1] 76)).alloc (.cells #[.int .i64 k, .string n, .string v, .slice A m c, .int .i64 k2, .string n2, .string v2, .slice A2 m2 c2] 76)).alloc (.cells #[.int .i64 4, .string ⟨#[]⟩, .string ⟨#[]⟩, .slice (some ⟨w5.heap.size + 1 + 1 + 1 + 1, 0, none⟩) 2 2] 76)).alloc (.cells #[.int .i64 k, .string n, .string v, .slice A m c, .int .i64 k2, .string n2, .string v2, .slice A2 m2 c2] 76)).alloc (.cells #[.int .i64 5, .string ⟨#[]⟩, .string ⟨#[]⟩, .slice (some ⟨w5.heap.size + 1 + 1 + 1 + 1 + 1 + 1, 0, none⟩) 2 2] 76)
    have B1 : Blk ((((((((w5.alloc (.cells #[.int .i64 k, .string n, .string v, .slice A m c] 76)).alloc (.cells #[.int .i64 3, .string ⟨#[]⟩, .string ⟨#[]⟩, .slice (some ⟨w5.heap.size, 0, none⟩) 1 1] 76)).alloc (.cells #[.int .i64 3, .string ⟨#[]⟩, .string ⟨#[]⟩, .slice (some ⟨w5.heap.size, 0, none⟩) 1 1] 76)).alloc (.cells #[.int .i64 3, .string ⟨#[]⟩, .string ⟨#[]⟩, .slice (some ⟨w5.heap.size + 1 + 1, 0, none⟩) 1 1] 76)).alloc (.cells #[.int .i64 k, .string n, .string v, .slice A m c, .int .i64 k2, .string n2, .string v2, .slice A2 m2 c2] 76)).alloc (.cells #[.int .i64 4, .string ⟨#[]⟩, .string ⟨#[]⟩, .slice (some ⟨w5.heap.size + 1 + 1 + 1 + 1, 0, none⟩) 2 2] 76)).alloc (.cells #[.int .i64 k, .string n, .string v, .slice A m c, .int .i64 k2, .string n2, .string v2, .slice A2 m2 c2] 76)).alloc (.cells #[.int .i64 5, .string ⟨#[]⟩, .string ⟨#[]⟩, .slice (some ⟨w5.heap.size + 1 + 1 + 1 + 1 + 1 + 1, 0, none⟩) 2 2] 76)) (w5.heap.size + 1) 76 #[.int .i64 3, .string ⟨#[]⟩, .string ⟨#[]⟩, .slice (some ⟨w5.heap.size, 0, none⟩) 1 1] := by simpa using ((((((Blk.new (w5.alloc (.cells #[.int .i64 k, .string n, .string v, .slice A m c] 76)) 76 #[.int .i64 3, .string ⟨#[]⟩, .string ⟨#[]⟩, .slice (some ⟨w5.heap.size, 0, none⟩) 1 1]).alloc (.cells #[.int .i64 3, .string ⟨#[]⟩, .string ⟨#[]⟩, .slice (some ⟨w5.heap.size, 0, none⟩) 1 1] 76)).alloc (.cells #[.int .i64 3, .string ⟨#[]⟩, .string ⟨#[]⟩, .slice (some ⟨w5.heap.size + 1 + 1, 0, none⟩) 1 1] 76)).alloc (.cells #[.int .i64 k, .string n, .string v, .slice A m c, .int .i64 k2, .string n2, .string v2, .slice A2 m2 c2] 76)).alloc (.cells #[.int .i64 4, .string ⟨#[]⟩, .string ⟨#[]⟩, .slice (some ⟨w5.heap.size + 1 + 1 + 1 + 1, 0, none⟩) 2 2] 76)).alloc (.cells #[.int .i64 k, .string n, .string v, .slice A m c, .int .i64 k2, .string n2, .string v2, .slice A2 m2 c2] 76)).alloc (.cells #[.int .i64 5, .string ⟨#[]⟩, .string ⟨#[]⟩, .slice (some ⟨w5.heap.size + 1 + 1 + 1 + 1 + 1 + 1, 0, none⟩) 2 2] 76)
    have B2 : Blk ((((((((w5.alloc (.cells #[.int .i64 k, .string n, .string v, .slice A m c] 76)).alloc (.cells #[.int .i64 3, .string ⟨#[]⟩, .string ⟨#[]⟩, .slice (some ⟨w5.heap.size, 0, none⟩) 1 1] 76)).alloc (.cells #[.int .i64 3, .string ⟨#[]⟩, .string ⟨#[]⟩, .slice (some ⟨w5.heap.size, 0, none⟩) 1 1] 76)).alloc (.cells #[.int .i64 3, .string ⟨#[]⟩, .string ⟨#[]⟩, .slice (some ⟨w5.heap.size + 1 + 1, 0, none⟩) 1 1] 76)).alloc (.cells #[.int .i64 k, .string n, .string v, .slice A m c, .int .i64 k2, .string n2, .string v2, .slice A2 m2 c2] 76)).alloc (.cells #[.int .i64 4, .string ⟨#[]⟩, .string ⟨#[]⟩, .slice (some ⟨w5.heap.size + 1 + 1 + 1 + 1, 0, none⟩) 2 2] 76)).alloc (.cells #[.int .i64 k, .string n, .string v, .slice A m c, .int .i64 k2, .string n2, .string v2, .slice A2 m2 c2] 76)).alloc (.cells #[.int .i64 5, .string ⟨#[]⟩, .string ⟨#[]⟩, .slice (some ⟨w5.heap.size + 1 + 1 + 1 + 1 + 1 + 1, 0, none⟩) 2 2] 76)) (w5.heap.size + 1 + 1) 76 #[.int .i64 3, .string ⟨#[]⟩, .string ⟨#[]⟩, .slice (some ⟨w5.heap.size, 0, none⟩) 1 1] := by simpa using (((((Blk.new ((w5.alloc (.cells #[.int .i64 k, .string n, .string v, .slice A m c] 76)).alloc (.cells #[.int .i64 3, .string ⟨#[]⟩, .string ⟨#[]⟩, .slice (some ⟨w5.heap.size, 0, none⟩) 1 1] 76)) 76 #[.int .i64 3, .string ⟨#[]⟩, .string ⟨#[]⟩, .slice (some ⟨w5.heap.size, 0, none⟩) 1 1]).alloc (.cells #[.int .i64 3, .string ⟨#[]⟩, .string ⟨#[]⟩, .slice (some ⟨w5.heap.size + 1 + 1, 0, none⟩) 1 1] 76)).alloc (.cells #[.int .i64 k, .string n, .string v, .slice A m c, .int .i64 k2, .string n2, .string v2, .slice A2 m2 c2] 76)).alloc (.cells #[.int .i64 4, .string ⟨#[]⟩, .string ⟨#[]⟩, .slice (some ⟨w5.heap.size + 1 + 1 + 1 + 1, 0, none⟩) 2 2] 76)).alloc (.cells #[.int .i64 k, .string n, .string v, .slice A m c, .int .i64 k2, .string n2, .string v2, .slice A2 m2 c2] 76)).alloc (.cells #[.int .i64 5, .string ⟨#[]⟩, .string ⟨#[]⟩, .slice (some ⟨w5.heap.size + 1 + 1 + 1 + 1 + 1 + 1, 0, none⟩) 2 2] 76)
    have B3 : Blk ((((((((w5.alloc (.cells #[.int .i64 k, .string n, .string v, .slice A m c] 76)).alloc (.cells #[.int .i64 3, .string ⟨#[]⟩, .string ⟨#[]⟩, .slice (some ⟨w5.heap.size, 0, none⟩) 1 1] 76)).alloc (.cells #[.int .i64 3, .string ⟨#[]⟩, .string ⟨#[]⟩, .slice (some ⟨w5.heap.size, 0, none⟩) 1 1] 76)).alloc (.cells #[.int .i64 3, .string ⟨#[]⟩, .string ⟨#[]⟩, .slice (some ⟨w5.heap.size + 1 + 1, 0, none⟩) 1 1] 76)).alloc (.cells #[.int .i64 k, .string n, .string v, .slice A m c, .int .i64 k2, .string n2, .string v2, .slice A2 m2 c2] 76)).alloc (.cells #[.int .i64 4, .string ⟨#[]⟩, .string ⟨#[]⟩, .slice (some ⟨w5.heap.size + 1 + 1 + 1 + 1, 0, none⟩) 2 2] 76)).alloc (.cells #[.int .i64 k, .string n, .string v, .slice A m c, .int .i64 k2, .string n2, .string v2, .slice A2 m2 c2] 76)).alloc (.cells #[.int .i64 5, .string ⟨#[]⟩, .string ⟨#[]⟩, .slice (some ⟨w5.heap.size + 1 + 1 + 1 + 1 + 1 + 1, 0, none⟩) 2 2] 76)) (w5.heap.size + 1 + 1 + 1) 76 #[.int .i64 3, .string ⟨#[]⟩, .string ⟨#[]⟩, .slice (some ⟨w5.heap.size + 1 + 1, 0, none⟩) 1 1] := by simpa using ((((Blk.new (((w5.alloc (.cells #[.int .i64 k, .string n, .string v, .slice A m c] 76)).alloc (.cells #[.int .i64 3, .string ⟨#[]⟩, .string ⟨#[]⟩, .slice (some ⟨w5.heap.size, 0, none⟩) 1 1] 76)).alloc (.cells #[.int .i64 3, .string ⟨#[]⟩, .string ⟨#[]⟩, .slice (some ⟨w5.heap.size, 0, none⟩) 1 1] 76)) 76 #[.int .i64 3, .string ⟨#[]⟩, .string ⟨#[]⟩, .slice (some ⟨w5.heap.size + 1 + 1, 0, none⟩) 1 1]).alloc (.cells #[.int .i64 k, .string n, .string v, .slice A m c, .int .i64 k2, .string n2, .string v2, .slice A2 m2 c2] 76)).alloc (.cells #[.int .i64 4, .string ⟨#[]⟩, .string ⟨#[]⟩, .slice (some ⟨w5.heap.size + 1 + 1 + 1 + 1, 0, none⟩) 2 2] 76)).alloc (.cells #[.int .i64 k, .string n, .string v, .slice A m c, .int .i64 k2, .string n2, .string v2, .slice A2 m2 c2] 76)).alloc (.cells #[.int .i64 5, .string ⟨#[]⟩, .string ⟨#[]⟩, .slice (some ⟨w5.heap.size + 1 + 1 + 1 + 1 + 1 + 1, 0, none⟩) 2 2] 76)
    have B4 : Blk ((((((((w5.alloc (.cells #[.int .i64 k, .string n, .string v, .slice A m c] 76)).alloc (.cells #[.int .i64 3, .string ⟨#[]⟩, .string ⟨#[]⟩, .slice (some ⟨w5.heap.size, 0, none⟩) 1 1] 76)).alloc (.cells #[.int .i64 3, .string ⟨#[]⟩, .string ⟨#[]⟩, .slice (some ⟨w5.heap.size, 0, none⟩) 1 1] 76)).alloc (.cells #[.int .i64 3, .string ⟨#[]⟩, .string ⟨#[]⟩, .slice (some ⟨w5.heap.size + 1 + 1, 0, none⟩) 1 1] 76)).alloc (.cells #[.int .i64 k, .string n, .string v, .slice A m c, .int .i64 k2, .string n2, .string v2, .slice A2 m2 c2] 76)).alloc (.cells #[.int .i64 4, .string ⟨#[]⟩, .string ⟨#[]⟩, .slice (some ⟨w5.heap.size + 1 + 1 + 1 + 1, 0, none⟩) 2 2] 76)).alloc (.cells #[.int .i64 k, .string n, .string v, .slice A m c, .int .i64 k2, .string n2, .string v2, .slice A2 m2 c2] 76)).alloc (.cells #[.int .i64 5, .string ⟨#[]⟩, .string ⟨#[]⟩, .slice (some ⟨w5.heap.size + 1 + 1 + 1 + 1 + 1 + 1, 0, none⟩) 2 2] 76)) (w5.heap.size + 1 + 1 + 1 + 1) 76 #[.int .i64 k, .string n, .string v, .slice A m c, .int .i64 k2, .string n2, .string v2, .slice A2 m2 c2] := by simpa using (((Blk.new ((((w5.alloc (.cells #[.int .i64 k, .string n, .string v, .slice A m c] 76)).alloc (.cells #[.int .i64 3, .string ⟨#[]⟩, .string ⟨#[]⟩, .slice (some ⟨w5.heap.size, 0, none⟩) 1 1] 76)).alloc (.cells #[.int .i64 3, .string ⟨#[]⟩, .string ⟨#[]⟩, .slice (some ⟨w5.heap.size, 0, none⟩) 1 1] 76)).alloc (.cells #[.int .i64 3, .string ⟨#[]⟩, .string ⟨#[]⟩, .slice (some ⟨w5.heap.size + 1 + 1, 0, none⟩) 1 1] 76)) 76 #[.int .i64 k, .string n, .string v, .slice A m c, .int .i64 k2, .string n2, .string v2, .slice A2 m2 c2]).alloc (.cells #[.int .i64 4, .string ⟨#[]⟩, .string ⟨#[]⟩, .slice (some ⟨w5.heap.size + 1 + 1 + 1 + 1, 0, none⟩) 2 2] 76)).alloc (.cells #[.int .i64 k, .string n, .string v, .slice A m c, .int .i64 k2, .string n2, .string v2, .slice A2 m2 c2] 76)).alloc (.cells #[.int .i64 5, .string ⟨#[]⟩, .string ⟨#[]⟩, .slice (some ⟨w5.heap.size + 1 + 1 + 1 + 1 + 1 + 1, 0, none⟩) 2 2] 76)
    have B5 : Blk ((((((((w5.alloc (.cells #[.int .i64 k, .string n, .string v, .slice A m c] 76)).alloc (.cells #[.int .i64 3, .string ⟨#[]⟩, .string ⟨#[]⟩, .slice (some ⟨w5.heap.size, 0, none⟩) 1 1] 76)).alloc (.cells #[.int .i64 3, .string ⟨#[]⟩, .string ⟨#[]⟩, .slice (some ⟨w5.heap.size, 0, none⟩) 1 1] 76)).alloc (.cells #[.int .i64 3, .string ⟨#[]⟩, .string ⟨#[]⟩, .slice (some ⟨w5.heap.size + 1 + 1, 0, none⟩) 1 1] 76)).alloc (.cells #[.int .i64 k, .string n, .string v, .slice A m c, .int .i64 k2, .string n2, .string v2, .slice A2 m2 c2] 76)).alloc (.cells #[.int .i64 4, .string ⟨#[]⟩, .string ⟨#[]⟩, .slice (some ⟨w5.heap.size + 1 + 1 + 1 + 1, 0, none⟩) 2 2] 76)).alloc (.cells #[.int .i64 k, .string n, .string v, .slice A m c, .int .i64 k2, .string n2, .string v2, .slice A2 m2 c2] 76)).alloc (.cells #[.int .i64 5, .string ⟨#[]⟩, .string ⟨#[]⟩, .slice (some ⟨w5.heap.size + 1 + 1 + 1 + 1 + 1 + 1, 0, none⟩) 2 2] 76)) (w5.heap.size + 1 + 1 + 1 + 1 + 1) 76 #[.int .i64 4, .string ⟨#[]⟩, .string ⟨#[]⟩, .slice (some ⟨w5.heap.size + 1 + 1 + 1 + 1, 0, none⟩) 2 2] := by simpa using ((Blk.new (((((w5.alloc (.cells #[.int .i64 k, .string n, .string v, .slice A m c] 76)).alloc (.cells #[.int .i64 3, .string ⟨#[]⟩, .string ⟨#[]⟩, .slice (some ⟨w5.heap.size, 0, none⟩) 1 1] 76)).alloc (.cells #[.int .i64 3, .string ⟨#[]⟩, .string ⟨#[]⟩, .slice (some ⟨w5.heap.size, 0, none⟩) 1 1] 76)).alloc (.cells #[.int .i64 3, .string ⟨#[]⟩, .string ⟨#[]⟩, .slice (some ⟨w5.heap.size + 1 + 1, 0, none⟩) 1 1] 76)).alloc (.cells #[.int .i64 k, .string n, .string v, .slice A m c, .int .i64 k2, .string n2, .string v2, .slice A2 m2 c2] 76)) 76 #[.int .i64 4, .string ⟨#[]⟩, .string ⟨#[]⟩, .slice (some ⟨w5.heap.size + 1 + 1 + 1 + 1, 0, none⟩) 2 2]).alloc (.cells #[.int .i64 k, .string n, .string v, .slice A m c, .int .i64 k2, .string n2, .string v2, .slice A2 m2 c2] 76)).alloc (.cells #[.int .i64 5, .string ⟨#[]⟩, .string ⟨#[]⟩, .slice (some ⟨w5.heap.size + 1 + 1 + 1 + 1 + 1 + 1, 0, none⟩) 2 2] 76)
    have B6 : Blk ((((((((w5.alloc (.cells #[.int .i64 k, .string n, .string v, .slice A m c] 76)).alloc (.cells #[.int .i64 3, .string ⟨#[]⟩, .string ⟨#[]⟩, .slice (some ⟨w5.heap.size, 0, none⟩) 1 1] 76)).alloc (.cells #[.int .i64 3, .string ⟨#[]⟩, .string ⟨#[]⟩, .slice (some ⟨w5.heap.size, 0, none⟩) 1 1] 76)).alloc (.cells #[.int .i64 3, .string ⟨#[]⟩, .string ⟨#[]⟩, .slice (some ⟨w5.heap.size + 1 + 1, 0, none⟩) 1 1] 76)).alloc (.cells #[.int .i64 k, .string n, .string v, .slice A m c, .int .i64 k2, .string n2, .string v2, .slice A2 m2 c2] 76)).alloc (.cells #[.int .i64 4, .string ⟨#[]⟩, .string ⟨#[]⟩, .slice (some ⟨w5.heap.size + 1 + 1 + 1 + 1, 0, none⟩) 2 2] 76)).alloc (.cells #[.int .i64 k, .string n, .string v, .slice A m c, .int .i64 k2, .string n2, .string v2, .slice A2 m2 c2] 76)).alloc (.cells #[.int .i64 5, .string ⟨#[]⟩, .string ⟨#[]⟩, .slice (some ⟨w5.heap.size + 1 + 1 + 1 + 1 + 1 + 1, 0, none⟩) 2 2] 76)) (w5.heap.size + 1 + 1 + 1 + 1 + 1 + 1) 76 #[.int .i64 k, .string n, .string v, .slice A m c, .int .i64 k2, .string n2, .string v2, .slice A2 m2 c2] := by simpa using (Blk.new ((((((w5.alloc (.cells #[.int .i64 k, .string n, .string v, .slice A m c] 76)).alloc (.cells #[.int .i64 3, .string ⟨#[]⟩, .string ⟨#[]⟩, .slice (some ⟨w5.heap.size, 0, none⟩) 1 1] 76)).alloc (.cells #[.int .i64 3, .string ⟨#[]⟩, .string ⟨#[]⟩, .slice (some ⟨w5.heap.size, 0, none⟩) 1 1] 76)).alloc (.cells #[.int .i64 3, .string ⟨#[]⟩, .string ⟨#[]⟩, .slice (some ⟨w5.heap.size + 1 + 1, 0, none⟩) 1 1] 76)).alloc (.cells #[.int .i64 k, .string n, .string v, .slice A m c, .int .i64 k2, .string n2, .string v2, .slice A2 m2 c2] 76)).alloc (.cells #[.int .i64 4, .string ⟨#[]⟩, .string ⟨#[]⟩, .slice (some ⟨w5.heap.size + 1 + 1 + 1 + 1, 0, none⟩) 2 2] 76)) 76 #[.int .i64 k, .string n, .string v, .slice A m c, .int .i64 k2, .string n2, .string v2, .slice A2 m2 c2]).alloc (.cells #[.int .i64 5, .string ⟨#[]⟩, .string ⟨#[]⟩, .slice (some ⟨w5.heap.size + 1 + 1 + 1 + 1 + 1 + 1, 0, none⟩) 2 2] 76)
    have B7 : Blk ((((((((w5.alloc (.cells #[.int .i64 k, .string n, .string v, .slice A m c] 76)).alloc (.cells #[.int .i64 3, .string ⟨#[]⟩, .string ⟨#[]⟩, .slice (some ⟨w5.heap.size, 0, none⟩) 1 1] 76)).alloc (.cells #[.int .i64 3, .string ⟨#[]⟩, .string ⟨#[]⟩, .slice (some ⟨w5.heap.size, 0, none⟩) 1 1] 76)).alloc (.cells #[.int .i64 3, .string ⟨#[]⟩, .string ⟨#[]⟩, .slice (some ⟨w5.heap.size + 1 + 1, 0, none⟩) 1 1] 76)).alloc (.cells #[.int .i64 k, .string n, .string v, .slice A m c, .int .i64 k2, .string n2, .string v2, .slice A2 m2 c2] 76)).alloc (.cells #[.int .i64 4, .string ⟨#[]⟩, .string ⟨#[]⟩, .slice (some ⟨w5.heap.size + 1 + 1 + 1 + 1, 0, none⟩) 2 2] 76)).alloc (.cells #[.int .i64 k, .string n, .string v, .slice A m c, .int .i64 k2, .string n2, .string v2, .slice A2 m2 c2] 76)).alloc (.cells #[.int .i64 5, .string ⟨#[]⟩, .string ⟨#[]⟩, .slice (some ⟨w5.heap.size + 1 + 1 + 1 + 1 + 1 + 1, 0, none⟩) 2 2] 76)) (w5.heap.size + 1 + 1 + 1 + 1 + 1 + 1 + 1) 76 #[.int .i64 5, .string ⟨#[]⟩, .string ⟨#[]⟩, .slice (some ⟨w5.heap.size + 1 + 1 + 1 + 1 + 1 + 1, 0, none⟩) 2 2] := by simpa using Blk.new (((((((w5.alloc (.cells #[.int .i64 k, .string n, .string v, .slice A m c] 76)).alloc (.cells #[.int .i64 3, .string ⟨#[]⟩, .string ⟨#[]⟩, .slice (some ⟨w5.heap.size, 0, none⟩) 1 1] 76)).alloc (.cells #[.int .i64 3, .string ⟨#[]⟩, .string ⟨#[]⟩, .slice (some ⟨w5.heap.size, 0, none⟩) 1 1] 76)).alloc (.cells #[.int .i64 3, .string ⟨#[]⟩, .string ⟨#[]⟩, .slice (some ⟨w5.heap.size + 1 + 1, 0, none⟩) 1 1] 76)).alloc (.cells #[.int .i64 k, .string n, .string v, .slice A m c, .int .i64 k2, .string n2, .string v2, .slice A2 m2 c2] 76)).alloc (.cells #[.int .i64 4, .string ⟨#[]⟩, .string ⟨#[]⟩, .slice (some ⟨w5.heap.size + 1 + 1 + 1 + 1, 0, none⟩) 2 2] 76)).alloc (.cells #[.int .i64 k, .string n, .string v, .slice A m c, .int .i64 k2, .string n2, .string v2, .slice A2 m2 c2] 76)) 76 #[.int .i64 5, .string ⟨#[]⟩, .string ⟨#[]⟩, .slice (some ⟨w5.heap.size + 1 + 1 + 1 + 1 + 1 + 1, 0, none⟩) 2 2]
    have hBV := hB5.trans (hbV.mono hB5.size)
    have hta := HT.out.below hBV
    have htb := HT2.out.below hBV
    have hpv := HPS.out.below hBV
    have hAV := HA.out.below hBV (by simp; omega)
    have hQV := HQ.out.below hBV (by simp)
    clear hbV HT HT2 HPS
    generalize ((((((((w5.alloc (.cells #[.int .i64 k, .string n, .string v, .slice A m c] 76)).alloc (.cells #[.int .i64 3, .string ⟨#[]⟩, .string ⟨#[]⟩, .slice (some ⟨w5.heap.size, 0, none⟩) 1 1] 76)).alloc (.cells #[.int .i64 3, .string ⟨#[]⟩, .string ⟨#[]⟩, .slice (some ⟨w5.heap.size, 0, none⟩) 1 1] 76)).alloc (.cells #[.int .i64 3, .string ⟨#[]⟩, .string ⟨#[]⟩, .slice (some ⟨w5.heap.size + 1 + 1, 0, none⟩) 1 1] 76)).alloc (.cells #[.int .i64 k, .string n, .string v, .slice A m c, .int .i64 k2, .string n2, .string v2, .slice A2 m2 c2] 76)).alloc (.cells #[.int .i64 4, .string ⟨#[]⟩, .string ⟨#[]⟩, .slice (some ⟨w5.heap.size + 1 + 1 + 1 + 1, 0, none⟩) 2 2] 76)).alloc (.cells #[.int .i64 k, .string n, .string v, .slice A m c, .int .i64 k2, .string n2, .string v2, .slice A2 m2 c2] 76)).alloc (.cells #[.int .i64 5, .string ⟨#[]⟩, .string ⟨#[]⟩, .slice (some ⟨w5.heap.size + 1 + 1 + 1 + 1 + 1 + 1, 0, none⟩) 2 2] 76)) = V at *
    have hsz : w5.heap.size + 8 ≤ V.heap.size := by have := B7.lt; omega
    have cn : CondAt V (· < V.heap.size) (D + 1) (.mk 3 ⟨#[]⟩ ⟨#[]⟩ [t]) [.int .i64 3, .string ⟨#[]⟩, .string ⟨#[]⟩, .slice (some ⟨w5.heap.size, 0, none⟩) 1 1] := CondAt.of empty_str empty_str (by unfold maxLen; omega) (Nat.le_refl _) (one_kid B0 B0.lt hta)
    have c2 : CondAt V (· < V.heap.size) (D + 1 + 1) (.mk 3 ⟨#[]⟩ ⟨#[]⟩ [.mk 3 ⟨#[]⟩ ⟨#[]⟩ [t]]) [.int .i64 3, .string ⟨#[]⟩, .string ⟨#[]⟩, .slice (some ⟨w5.heap.size + 1 + 1, 0, none⟩) 1 1] := CondAt.of empty_str empty_str (by unfold maxLen; omega) (Nat.le_refl _) (one_kid B2 B2.lt cn)
    have ca : CondAt V (· < V.heap.size) (max D D2 + 1) (.mk 4 ⟨#[]⟩ ⟨#[]⟩ [t, t2]) [.int .i64 4, .string ⟨#[]⟩, .string ⟨#[]⟩, .slice (some ⟨w5.heap.size + 1 + 1 + 1 + 1, 0, none⟩) 2 2] := CondAt.of empty_str empty_str (by unfold maxLen; omega) (Nat.le_refl _) (two_kids B4 B4.lt (hta.deeper (Nat.le_max_left _ _)) (htb.deeper (Nat.le_max_right _ _)))
    have co : CondAt V (· < V.heap.size) (max D D2 + 1) (.mk 5 ⟨#[]⟩ ⟨#[]⟩ [t, t2]) [.int .i64 5, .string ⟨#[]⟩, .string ⟨#[]⟩, .slice (some ⟨w5.heap.size + 1 + 1 + 1 + 1 + 1 + 1, 0, none⟩) 2 2] := CondAt.of empty_str empty_str (by unfold maxLen; omega) (Nat.le_refl _) (two_kids B6 B6.lt (hta.deeper (Nat.le_max_left _ _)) (htb.deeper (Nat.le_max_right _ _)))
    have KN := Lib.hid (fun W (hb : Below V.drew.heap.size V.drew W) => cHolds_any nm PA pm pc ps (D + 1) (.mk 3 ⟨#[]⟩ ⟨#[]⟩ [t]) _ _ _ _ _ _ W (cn.drewB.below hb) (hpv.drewB.below hb) hpm)
    have K2 := Lib.hid (fun W (hb : Below V.drew.heap.size V.drew W) => cHolds_any nm PA pm pc ps (D + 1 + 1) (.mk 3 ⟨#[]⟩ ⟨#[]⟩ [.mk 3 ⟨#[]⟩ ⟨#[]⟩ [t]]) _ _ _ _ _ _ W (c2.drewB.below hb) (hpv.drewB.below hb) hpm)
    have KA := Lib.hid (fun W (hb : Below V.drew.heap.size V.drew W) => cHolds_any nm PA pm pc ps (max D D2 + 1) (.mk 4 ⟨#[]⟩ ⟨#[]⟩ [t, t2]) _ _ _ _ _ _ W (ca.drewB.below hb) (hpv.drewB.below hb) hpm)
    have KO := Lib.hid (fun W (hb : Below V.drew.heap.size V.drew W) => cHolds_any nm PA pm pc ps (max D D2 + 1) (.mk 5 ⟨#[]⟩ ⟨#[]⟩ [t, t2]) _ _ _ _ _ _ W (co.drewB.below hb) (hpv.drewB.below hb) hpm)
    have KS2 := Lib.hid (fun W (hb : Below V.drew.heap.size V.drew W) => cSimple_any (D + 1 + 1) (.mk 3 ⟨#[]⟩ ⟨#[]⟩ [.mk 3 ⟨#[]⟩ ⟨#[]⟩ [t]]) _ _ _ _ _ _ W (c2.drewB.below hb) (by rw [pn_two]; exact hnl))
    have KS1 := Lib.hid (fun W (hb : Below V.drew.heap.size V.drew W) => cSimple_any D t k n v A m c W (hta.drewB.below hb) hnl)
    rw [ps_not20 HR.out, ph_not, HHX.out] at KN
    rw [ps_two HR.out, ph_not, ph_not, HHX.out] at K2
    rw [ps_and HR.out HR2.out, ph_and, HHX.out, HHY.out] at KA
    rw [ps_or HR.out HR2.out, ph_or, HHX.out, HHY.out] at KO
    rw [psi_two HR.out] at KS2
    simp only [Bool.true_and, Bool.and_true, Bool.and_false, Bool.or_true, Bool.or_false, Bool.false_or, Bool.true_or, Bool.false_and, Bool.not_true, Bool.not_false] at KN K2 KA KO
    have HB1 := Lib.hid B1
    have HB3 := Lib.hid B3
    have HB5 := Lib.hid B5
    have HB7 := Lib.hid B7
    have HAV := Lib.hid hAV
    have HQV := Lib.hid hQV
    have HSS := Lib.hid (show ∀ W, Below V.drew.heap.size V.drew W → (W.cell? ⟨w5.heap.size + 1, 0, none⟩ = some (.int .i64 3) ∧ W.cell? ⟨w5.heap.size + 1, 1, none⟩ = some (.string ⟨#[]⟩) ∧ W.cell? ⟨w5.heap.size + 1, 2, none⟩ = some (.string ⟨#[]⟩) ∧ W.cell? ⟨w5.heap.size + 1, 3, none⟩ = some (.slice (some ⟨w5.heap.size, 0, none⟩) 1 1) ∧ W.cell? ⟨w5.heap.size + 1 + 1 + 1, 0, none⟩ = some (.int .i64 3) ∧ W.cell? ⟨w5.heap.size + 1 + 1 + 1, 1, none⟩ = some (.string ⟨#[]⟩) ∧ W.cell? ⟨w5.heap.size + 1 + 1 + 1, 2, none⟩ = some (.string ⟨#[]⟩) ∧ W.cell? ⟨w5.heap.size + 1 + 1 + 1, 3, none⟩ = some (.slice (some ⟨w5.heap.size + 1 + 1, 0, none⟩) 1 1) ∧ W.cell? ⟨w5.heap.size + 1 + 1 + 1 + 1 + 1, 0, none⟩ = some (.int .i64 4) ∧ W.cell? ⟨w5.heap.size + 1 + 1 + 1 + 1 + 1, 1, none⟩ = some (.string ⟨#[]⟩) ∧ W.cell? ⟨w5.heap.size + 1 + 1 + 1 + 1 + 1, 2, none⟩ = some (.string ⟨#[]⟩) ∧ W.cell? ⟨w5.heap.size + 1 + 1 + 1 + 1 + 1, 3, none⟩ = some (.slice (some ⟨w5.heap.size + 1 + 1 + 1 + 1, 0, none⟩) 2 2) ∧ W.cell? ⟨w5.heap.size + 1 + 1 + 1 + 1 + 1 + 1 + 1, 0, none⟩ = some (.int .i64 5) ∧ W.cell? ⟨w5.heap.size + 1 + 1 + 1 + 1 + 1 + 1 + 1, 1, none⟩ = some (.string ⟨#[]⟩) ∧ W.cell? ⟨w5.heap.size + 1 + 1 + 1 + 1 + 1 + 1 + 1, 2, none⟩ = some (.string ⟨#[]⟩) ∧ W.cell? ⟨w5.heap.size + 1 + 1 + 1 + 1 + 1 + 1 + 1, 3, none⟩ = some (.slice (some ⟨w5.heap.size + 1 + 1 + 1 + 1 + 1 + 1, 0, none⟩) 2 2) ∧ W.cell? ⟨w.heap.size, 0, none⟩ = some (.int .i64 k) ∧ W.cell? ⟨w.heap.size, 1, none⟩ = some (.string n) ∧ W.cell? ⟨w.heap.size, 2, none⟩ = some (.string v) ∧ W.cell? ⟨w.heap.size, 3, none⟩ = some (.slice A m c) ∧ W.cell? ⟨w.heap.size + 1 + 1, 0, none⟩ = some (.string nm) ∧ W.cell? ⟨w.heap.size + 1 + 1, 1, none⟩ = some (.slice PA pm pc)) from fun W hb => by
      obtain ⟨x0, x1, x2, x3⟩ := blkc (HB1.out.drew.below hb HB1.out.lt)
      obtain ⟨y0, y1, y2, y3⟩ := blkc (HB3.out.drew.below hb HB3.out.lt)
      obtain ⟨z0, z1, z2, z3⟩ := blkc (HB5.out.drew.below hb HB5.out.lt)
      obtain ⟨u0, u1, u2, u3⟩ := blkc (HB7.out.drew.below hb HB7.out.lt)
      obtain ⟨i0, i1, i2, i3⟩ := blkc (HAV.out.drew.below hb HAV.out.lt)
      obtain ⟨j0, j1, -⟩ := blk2 (HQV.out.drew.below hb HQV.out.lt)
      exact ⟨x0, x1, x2, x3, y0, y1, y2, y3, z0, z1, z2, z3, u0, u1, u2, u3, i0, i1, i2, i3, j0, j1⟩)
    have hV0 := Below.refl V.drew.heap.size V.drew
    have hBVb := hBV
    clear B0 B1 B2 B3 B4 B5 B6 B7 hAV hQV hta htb hpv cn c2 ca co HA HC0 HQ hBV
    refine wp_region_held_drew (S := fun W => W.cell? ⟨w5.heap.size + 1, 0, none⟩ = some (.int .i64 3) ∧ W.cell? ⟨w5.heap.size + 1, 1, none⟩ = some (.string ⟨#[]⟩) ∧ W.cell? ⟨w5.heap.size + 1, 2, none⟩ = some (.string ⟨#[]⟩) ∧ W.cell? ⟨w5.heap.size + 1, 3, none⟩ = some (.slice (some ⟨w5.heap.size, 0, none⟩) 1 1) ∧ W.cell? ⟨w5.heap.size + 1 + 1 + 1, 0, none⟩ = some (.int .i64 3) ∧ W.cell? ⟨w5.heap.size + 1 + 1 + 1, 1, none⟩ = some (.string ⟨#[]⟩) ∧ W.cell? ⟨w5.heap.size + 1 + 1 + 1, 2, none⟩ = some (.string ⟨#[]⟩) ∧ W.cell? ⟨w5.heap.size + 1 + 1 + 1, 3, none⟩ = some (.slice (some ⟨w5.heap.size + 1 + 1, 0, none⟩) 1 1) ∧ W.cell? ⟨w5.heap.size + 1 + 1 + 1 + 1 + 1, 0, none⟩ = some (.int .i64 4) ∧ W.cell? ⟨w5.heap.size + 1 + 1 + 1 + 1 + 1, 1, none⟩ = some (.string ⟨#[]⟩) ∧ W.cell? ⟨w5.heap.size + 1 + 1 + 1 + 1 + 1, 2, none⟩ = some (.string ⟨#[]⟩) ∧ W.cell? ⟨w5.heap.size + 1 + 1 + 1 + 1 + 1, 3, none⟩ = some (.slice (some ⟨w5.heap.size + 1 + 1 + 1 + 1, 0, none⟩) 2 2) ∧ W.cell? ⟨w5.heap.size + 1 + 1 + 1 + 1 + 1 + 1 + 1, 0, none⟩ = some (.int .i64 5) ∧ W.cell? ⟨w5.heap.size + 1 + 1 + 1 + 1 + 1 + 1 + 1, 1, none⟩ = some (.string ⟨#[]⟩) ∧ W.cell? ⟨w5.heap.size + 1 + 1 + 1 + 1 + 1 + 1 + 1, 2, none⟩ = some (.string ⟨#[]⟩) ∧ W.cell? ⟨w5.heap.size + 1 + 1 + 1 + 1 + 1 + 1 + 1, 3, none⟩ = some (.slice (some ⟨w5.heap.size + 1 + 1 + 1 + 1 + 1 + 1, 0, none⟩) 2 2) ∧ W.cell? ⟨w.heap.size, 0, none⟩ = some (.int .i64 k) ∧ W.cell? ⟨w.heap.size, 1, none⟩ = some (.string n) ∧ W.cell? ⟨w.heap.size, 2, none⟩ = some (.string v) ∧ W.cell? ⟨w.heap.size, 3, none⟩ = some (.slice A m c) ∧ W.cell? ⟨w.heap.size + 1 + 1, 0, none⟩ = some (.string nm) ∧ W.cell? ⟨w.heap.size + 1 + 1, 1, none⟩ = some (.slice PA pm pc)) mixed (HSS.out _ hV0) (fun hS => ?_)
    refine wpAnyH_take (i := 0) (v := .agg #[.int .i64 3, .string ⟨#[]⟩, .string ⟨#[]⟩, .slice (some ⟨w5.heap.size, 0, none⟩) 1 1]) rfl (by kernel_rfl) (by kernel_rfl) (by kernel_rfl) (fun _ _ _ h => h) (Or.inl ⟨by rfl, fun W hW => by obtain ⟨h0, h1, h2, h3, h4, h5, h6, h7, h8, h9, h10, h11, h12, h13, h14, h15, h16, h17, h18, h19, h20, h21⟩ := hW; go_simp⟩) hS ?_
    refine wpAnyH_take (i := 1) (v := .agg #[.string nm, .slice PA pm pc]) rfl (by kernel_rfl) (by kernel_rfl) (by kernel_rfl) (fun _ _ _ h => h) (Or.inl ⟨by rfl, fun W hW => by obtain ⟨h0, h1, h2, h3, h4, h5, h6, h7, h8, h9, h10, h11, h12, h13, h14, h15, h16, h17, h18, h19, h20, h21⟩ := hW; go_simp⟩) hS ?_
    refine wpAnyH_take (i := 3) (v := .bool false) rfl (by kernel_rfl) (by kernel_rfl) (by kernel_rfl) (fun _ _ _ h => h) (Or.inl ⟨by rfl, fun W hW => by obtain ⟨h0, h1, h2, h3, h4, h5, h6, h7, h8, h9, h10, h11, h12, h13, h14, h15, h16, h17, h18, h19, h20, h21⟩ := hW; go_simp⟩) hS ?_
    refine wpAnyH_take (i := 4) (v := .bool true) rfl (by kernel_rfl) (by kernel_rfl) (by kernel_rfl) (fun _ _ _ h => h) (Or.inl ⟨by rfl, fun W hW => by obtain ⟨h0, h1, h2, h3, h4, h5, h6, h7, h8, h9, h10, h11, h12, h13, h14, h15, h16, h17, h18, h19, h20, h21⟩ := hW; go_simp⟩) hS ?_
    refine wpAnyH_ready (rs := [2]) (by kernel_rfl) (by simp) ?_
    refine AllReadyH.cons rfl (fun K hK => ?_) AllReadyH.nil
    go_simp
    (with_reducible refine (KN.out _ hV0).mono ?_)
    rintro e w6 ⟨rfl, hc⟩
    have hV1 := hV0.trans (hc.mono hV0.size)
    refine hK.out _ _ (HSS.out _ hV1) (fun hS => ?_)
    clear hK K hc KN
    refine wpAnyH_ready (rs := [5]) (by kernel_rfl) (by simp) ?_
    refine AllReadyH.cons rfl (fun K hK => ?_) AllReadyH.nil
    go_simp
    refine hK.out _ _ hS (fun hS => ?_)
    clear hK K
    refine wpAnyH_ready (rs := [6]) (by kernel_rfl) (by simp) ?_
    refine AllReadyH.cons rfl (fun K hK => ?_) AllReadyH.nil
    go_simp
    refine hK.out _ _ hS (fun hS => ?_)
    clear hK K
    refine wpAnyH_take (i := 7) (v := .agg #[.int .i64 3, .string ⟨#[]⟩, .string ⟨#[]⟩, .slice (some ⟨w5.heap.size + 1 + 1, 0, none⟩) 1 1]) rfl (by kernel_rfl) (by kernel_rfl) (by kernel_rfl) (fun _ _ _ h => h) (Or.inl ⟨by rfl, fun W hW => by obtain ⟨h0, h1, h2, h3, h4, h5, h6, h7, h8, h9, h10, h11, h12, h13, h14, h15, h16, h17, h18, h19, h20, h21⟩ := hW; go_simp⟩) hS ?_
    refine wpAnyH_take (i := 8) (v := .agg #[.string nm, .slice PA pm pc]) rfl (by kernel_rfl) (by kernel_rfl) (by kernel_rfl) (fun _ _ _ h => h) (Or.inl ⟨by rfl, fun W hW => by obtain ⟨h0, h1, h2, h3, h4, h5, h6, h7, h8, h9, h10, h11, h12, h13, h14, h15, h16, h17, h18, h19, h20, h21⟩ := hW; go_simp⟩) hS ?_
    refine wpAnyH_take (i := 10) (v := .bool false) rfl (by kernel_rfl) (by kernel_rfl) (by kernel_rfl) (fun _ _ _ h => h) (Or.inl ⟨by rfl, fun W hW => by obtain ⟨h0, h1, h2, h3, h4, h5, h6, h7, h8, h9, h10, h11, h12, h13, h14, h15, h16, h17, h18, h19, h20, h21⟩ := hW; go_simp⟩) hS ?_
    refine wpAnyH_ready (rs := [9]) (by kernel_rfl) (by simp) ?_
    refine AllReadyH.cons rfl (fun K hK => ?_) AllReadyH.nil
    go_simp
    (with_reducible refine (K2.out _ hV1).mono ?_)
    rintro e w7 ⟨rfl, hc⟩
    have hV2 := hV1.trans (hc.mono hV1.size)
    refine hK.out _ _ (HSS.out _ hV2) (fun hS => ?_)
    clear hK K hc K2
    refine wpAnyH_ready (rs := [11]) (by kernel_rfl) (by simp) ?_
    refine AllReadyH.cons rfl (fun K hK => ?_) AllReadyH.nil
    go_simp
    refine hK.out _ _ hS (fun hS => ?_)
    clear hK K
    refine wpAnyH_ready (rs := [12]) (by kernel_rfl) (by simp) ?_
    refine AllReadyH.cons rfl (fun K hK => ?_) AllReadyH.nil
    go_simp
    refine hK.out _ _ hS (fun hS => ?_)
    clear hK K
    refine wpAnyH_ready (rs := [13]) (by kernel_rfl) (by simp) ?_
    refine AllReadyH.cons rfl (fun K hK => ?_) AllReadyH.nil
    go_simp
    refine hK.out _ _ hS (fun hS => ?_)
    clear hK K
    refine wpAnyH_take (i := 14) (v := .agg #[.int .i64 4, .string ⟨#[]⟩, .string ⟨#[]⟩, .slice (some ⟨w5.heap.size + 1 + 1 + 1 + 1, 0, none⟩) 2 2]) rfl (by kernel_rfl) (by kernel_rfl) (by kernel_rfl) (fun _ _ _ h => h) (Or.inl ⟨by rfl, fun W hW => by obtain ⟨h0, h1, h2, h3, h4, h5, h6, h7, h8, h9, h10, h11, h12, h13, h14, h15, h16, h17, h18, h19, h20, h21⟩ := hW; go_simp⟩) hS ?_
    refine wpAnyH_take (i := 15) (v := .agg #[.string nm, .slice PA pm pc]) rfl (by kernel_rfl) (by kernel_rfl) (by kernel_rfl) (fun _ _ _ h => h) (Or.inl ⟨by rfl, fun W hW => by obtain ⟨h0, h1, h2, h3, h4, h5, h6, h7, h8, h9, h10, h11, h12, h13, h14, h15, h16, h17, h18, h19, h20, h21⟩ := hW; go_simp⟩) hS ?_
    refine wpAnyH_take (i := 17) (v := .bool false) rfl (by kernel_rfl) (by kernel_rfl) (by kernel_rfl) (fun _ _ _ h => h) (Or.inl ⟨by rfl, fun W hW => by obtain ⟨h0, h1, h2, h3, h4, h5, h6, h7, h8, h9, h10, h11, h12, h13, h14, h15, h16, h17, h18, h19, h20, h21⟩ := hW; go_simp⟩) hS ?_
    refine wpAnyH_ready (rs := [16]) (by kernel_rfl) (by simp) ?_
    refine AllReadyH.cons rfl (fun K hK => ?_) AllReadyH.nil
    go_simp
    (with_reducible refine (KA.out _ hV2).mono ?_)
    rintro e w8 ⟨rfl, hc⟩
    have hV3 := hV2.trans (hc.mono hV2.size)
    refine hK.out _ _ (HSS.out _ hV3) (fun hS => ?_)
    clear hK K hc KA
    refine wpAnyH_ready (rs := [18]) (by kernel_rfl) (by simp) ?_
    refine AllReadyH.cons rfl (fun K hK => ?_) AllReadyH.nil
    go_simp
    refine hK.out _ _ hS (fun hS => ?_)
    clear hK K
    refine wpAnyH_take (i := 19) (v := undef) rfl (by kernel_rfl) (by kernel_rfl) (by kernel_rfl) (fun _ _ _ h => h) (Or.inr ⟨by rfl, rfl⟩) hS ?_
    refine wpAnyH_ready (rs := [20]) (by kernel_rfl) (by simp) ?_
    refine AllReadyH.cons rfl (fun K hK => ?_) AllReadyH.nil
    go_simp
    refine hK.out _ _ hS (fun hS => ?_)
    clear hK K
    refine wpAnyH_ready (rs := [21]) (by kernel_rfl) (by simp) ?_
    refine AllReadyH.cons rfl (fun K hK => ?_) AllReadyH.nil
    go_simp
    refine hK.out _ _ hS (fun hS => ?_)
    clear hK K
    refine wpAnyH_ready (rs := [22]) (by kernel_rfl) (by simp) ?_
    refine AllReadyH.cons rfl (fun K hK => ?_) AllReadyH.nil
    go_simp
    refine hK.out _ _ hS (fun hS => ?_)
    clear hK K
    refine wpAnyH_ready (rs := [23]) (by kernel_rfl) (by simp) ?_
    refine AllReadyH.cons rfl (fun K hK => ?_) AllReadyH.nil
    go_simp
    refine hK.out _ _ hS (fun hS => ?_)
    clear hK K
    refine wpAnyH_take (i := 24) (v := .agg #[.int .i64 5, .string ⟨#[]⟩, .string ⟨#[]⟩, .slice (some ⟨w5.heap.size + 1 + 1 + 1 + 1 + 1 + 1, 0, none⟩) 2 2]) rfl (by kernel_rfl) (by kernel_rfl) (by kernel_rfl) (fun _ _ _ h => h) (Or.inl ⟨by rfl, fun W hW => by obtain ⟨h0, h1, h2, h3, h4, h5, h6, h7, h8, h9, h10, h11, h12, h13, h14, h15, h16, h17, h18, h19, h20, h21⟩ := hW; go_simp⟩) hS ?_
    refine wpAnyH_take (i := 25) (v := .agg #[.string nm, .slice PA pm pc]) rfl (by kernel_rfl) (by kernel_rfl) (by kernel_rfl) (fun _ _ _ h => h) (Or.inl ⟨by rfl, fun W hW => by obtain ⟨h0, h1, h2, h3, h4, h5, h6, h7, h8, h9, h10, h11, h12, h13, h14, h15, h16, h17, h18, h19, h20, h21⟩ := hW; go_simp⟩) hS ?_
    refine wpAnyH_take (i := 27) (v := .bool false) rfl (by kernel_rfl) (by kernel_rfl) (by kernel_rfl) (fun _ _ _ h => h) (Or.inl ⟨by rfl, fun W hW => by obtain ⟨h0, h1, h2, h3, h4, h5, h6, h7, h8, h9, h10, h11, h12, h13, h14, h15, h16, h17, h18, h19, h20, h21⟩ := hW; go_simp⟩) hS ?_
    refine wpAnyH_ready (rs := [26]) (by kernel_rfl) (by simp) ?_
    refine AllReadyH.cons rfl (fun K hK => ?_) AllReadyH.nil
    go_simp
    (with_reducible refine (KO.out _ hV3).mono ?_)
    rintro e w9 ⟨rfl, hc⟩
    have hV4 := hV3.trans (hc.mono hV3.size)
    refine hK.out _ _ (HSS.out _ hV4) (fun hS => ?_)
    clear hK K hc KO
    refine wpAnyH_ready (rs := [28]) (by kernel_rfl) (by simp) ?_
    refine AllReadyH.cons rfl (fun K hK => ?_) AllReadyH.nil
    go_simp
    refine hK.out _ _ hS (fun hS => ?_)
    clear hK K
    refine wpAnyH_take (i := 29) (v := .bool false) rfl (by kernel_rfl) (by kernel_rfl) (by kernel_rfl) (fun _ _ _ h => h) (Or.inl ⟨by rfl, fun W hW => by obtain ⟨h0, h1, h2, h3, h4, h5, h6, h7, h8, h9, h10, h11, h12, h13, h14, h15, h16, h17, h18, h19, h20, h21⟩ := hW; go_simp⟩) hS ?_
    refine wpAnyH_ready (rs := [30]) (by kernel_rfl) (by simp) ?_
    refine AllReadyH.cons rfl (fun K hK => ?_) AllReadyH.nil
    go_simp
    refine hK.out _ _ hS (fun hS => ?_)
    clear hK K
    refine wpAnyH_ready (rs := [31]) (by kernel_rfl) (by simp) ?_
    refine AllReadyH.cons rfl (fun K hK => ?_) AllReadyH.nil
    go_simp
    refine hK.out _ _ hS (fun hS => ?_)
    clear hK K
    refine wpAnyH_ready (rs := [32]) (by kernel_rfl) (by simp) ?_
    refine AllReadyH.cons rfl (fun K hK => ?_) AllReadyH.nil
    go_simp
    refine hK.out _ _ hS (fun hS => ?_)
    clear hK K
    refine wpAnyH_ready (rs := [33]) (by kernel_rfl) (by simp) ?_
    refine AllReadyH.cons rfl (fun K hK => ?_) AllReadyH.nil
    go_simp
    refine hK.out _ _ hS (fun hS => ?_)
    clear hK K
    refine wpAnyH_take (i := 34) (v := .agg #[.int .i64 3, .string ⟨#[]⟩, .string ⟨#[]⟩, .slice (some ⟨w5.heap.size + 1 + 1, 0, none⟩) 1 1]) rfl (by kernel_rfl) (by kernel_rfl) (by kernel_rfl) (fun _ _ _ h => h) (Or.inl ⟨by rfl, fun W hW => by obtain ⟨h0, h1, h2, h3, h4, h5, h6, h7, h8, h9, h10, h11, h12, h13, h14, h15, h16, h17, h18, h19, h20, h21⟩ := hW; go_simp⟩) hS ?_
    refine wpAnyH_take (i := 36) (v := .agg #[.int .i64 k, .string n, .string v, .slice A m c]) rfl (by kernel_rfl) (by kernel_rfl) (by kernel_rfl) (fun _ _ _ h => h) (Or.inl ⟨by rfl, fun W hW => by obtain ⟨h0, h1, h2, h3, h4, h5, h6, h7, h8, h9, h10, h11, h12, h13, h14, h15, h16, h17, h18, h19, h20, h21⟩ := hW; go_simp⟩) hS ?_
    refine wpAnyH_ready (rs := [35]) (by kernel_rfl) (by simp) ?_
    refine AllReadyH.cons rfl (fun K hK => ?_) AllReadyH.nil
    go_simp
    (with_reducible refine (KS2.out _ hV4).mono ?_)
    rintro e w10 ⟨rk, rn, rv, rA, rm, rc, rD, rfl, hcr, hc⟩
    have hV5 := hV4.trans (hc.mono hV4.size)
    have HR1 := Lib.hid (hcr.mono (Y := (· < w10.heap.size)) fun j hj => hj.2)
    refine hK.out _ _ (HSS.out _ hV5) (fun hS => ?_)
    clear hK K hc KS2 hcr
    refine wpAnyH_ready (rs := [37]) (by kernel_rfl) (by simp) ?_
    refine AllReadyH.cons rfl (fun K hK => ?_) AllReadyH.nil
    go_simp
    (with_reducible refine (KS1.out _ hV5).mono ?_)
    rintro e w11 ⟨rk2, rn2, rv2, rA2, rm2, rc2, rD2, rfl, hcr, hc⟩
    have hV6 := hV5.trans (hc.mono hV5.size)
    have HSM := Lib.hid (sameC_yes (max rD rD2) (simpleL t) _ _ _ _ _ _ _ _ w11 ((HR1.out.below hc).deeper (Nat.le_max_left _ _)) ((hcr.mono (Y := (· < w11.heap.size)) fun j hj => hj.2).deeper (Nat.le_max_right _ _)))
    refine hK.out _ _ (HSS.out _ hV6) (fun hS => ?_)
    clear hK K hc KS1 hcr HR1
    refine wpAnyH_ready (rs := [38]) (by kernel_rfl) (by simp) ?_
    refine AllReadyH.cons rfl (fun K hK => ?_) AllReadyH.nil
    go_simp
    (with_reducible refine HSM.out.mono ?_)
    rintro e w12 ⟨rfl, hc⟩
    have hV7 := hV6.trans (hc.mono hV6.size)
    refine hK.out _ _ (HSS.out _ hV7) (fun hS => ?_)
    clear hK K hc HSM
    refine wpAnyH_ready (rs := [39]) (by kernel_rfl) (by simp) ?_
    refine AllReadyH.cons rfl (fun K hK => ?_) AllReadyH.nil
    go_simp
    refine hK.out _ _ hS (fun hS => ?_)
    clear hK K
    refine wpAnyH_ready (rs := [40]) (by kernel_rfl) (by simp) ?_
    refine AllReadyH.cons rfl (fun K hK => ?_) AllReadyH.nil
    go_simp
    refine hK.out _ _ hS (fun hS => ?_)
    clear hK K
    refine wpAnyH_done (by kernel_rfl) ?_ _
    go_wp2
    go_ret
    exact ⟨rfl, hbW.trans ((hBVb.trans ((Below.undrew hV7).mono hBVb.size)).mono hbW.size)⟩
  · rw [hx] at HX
    rw [hy] at HY
    have HHX := Lib.hid hx
    have HHY := Lib.hid hy
    clear hx hy
    go_wp2_with fail
    refine wp_region_held_drew (S := fun W => W.cell? ⟨w.heap.size, 0, none⟩ = some (.int .i64 k) ∧ W.cell? ⟨w.heap.size, 1, none⟩ = some (.string n) ∧ W.cell? ⟨w.heap.size, 2, none⟩ = some (.string v) ∧ W.cell? ⟨w.heap.size, 3, none⟩ = some (.slice A m c) ∧ W.cell? ⟨w.heap.size + 1, 0, none⟩ = some (.int .i64 k2) ∧ W.cell? ⟨w.heap.size + 1, 1, none⟩ = some (.string n2) ∧ W.cell? ⟨w.heap.size + 1, 2, none⟩ = some (.string v2) ∧ W.cell? ⟨w.heap.size + 1, 3, none⟩ = some (.slice A2 m2 c2) ∧ W.cell? ⟨w.heap.size + 1 + 1, 0, none⟩ = some (.string nm) ∧ W.cell? ⟨w.heap.size + 1 + 1, 1, none⟩ = some (.slice PA pm pc)) mixed ⟨p0, p1, p2, p3, r0, r1, r2, r3, q0, q1⟩ (fun hS => ?_)
    clear p0 p1 p2 p3 r0 r1 r2 r3 q0 q1
    refine wpAnyH_take (i := 0) (v := .agg #[.int .i64 k, .string n, .string v, .slice A m c]) rfl (by kernel_rfl) (by kernel_rfl) (by kernel_rfl) (fun _ _ _ h => h) (Or.inl ⟨by rfl, fun W hW => by obtain ⟨h0, h1, h2, h3, h4, h5, h6, h7, h8, h9⟩ := hW; go_simp⟩) hS ?_
    refine wpAnyH_take (i := 1) (v := .agg #[.string nm, .slice PA pm pc]) rfl (by kernel_rfl) (by kernel_rfl) (by kernel_rfl) (fun _ _ _ h => h) (Or.inl ⟨by rfl, fun W hW => by obtain ⟨h0, h1, h2, h3, h4, h5, h6, h7, h8, h9⟩ := hW; go_simp⟩) hS ?_
    refine wpAnyH_take (i := 3) (v := .agg #[.int .i64 k2, .string n2, .string v2, .slice A2 m2 c2]) rfl (by kernel_rfl) (by kernel_rfl) (by kernel_rfl) (fun _ _ _ h => h) (Or.inl ⟨by rfl, fun W hW => by obtain ⟨h0, h1, h2, h3, h4, h5, h6, h7, h8, h9⟩ := hW; go_simp⟩) hS ?_
    refine wpAnyH_take (i := 4) (v := .agg #[.string nm, .slice PA pm pc]) rfl (by kernel_rfl) (by kernel_rfl) (by kernel_rfl) (fun _ _ _ h => h) (Or.inl ⟨by rfl, fun W hW => by obtain ⟨h0, h1, h2, h3, h4, h5, h6, h7, h8, h9⟩ := hW; go_simp⟩) hS ?_
    refine wpAnyH_ready (rs := [2]) (by kernel_rfl) (by simp) ?_
    refine AllReadyH.cons rfl (fun K hK => ?_) AllReadyH.nil
    go_simp
    (with_reducible refine HX.out.mono ?_)
    clear HX
    rintro e w4 ⟨rfl, hc4⟩
    have hB4 := hB3.trans ((Below.undrew hc4).mono hB3.size)
    obtain ⟨p0, p1, p2, p3⟩ := blkc (HA.out.below hB4 (by simp; omega))
    obtain ⟨r0, r1, r2, r3⟩ := blkc (HC0.out.below hB4 (by simp))
    obtain ⟨q0, q1, -⟩ := blk2 (HQ.out.below hB4 (by simp))
    refine hK.out _ _ ⟨p0, p1, p2, p3, r0, r1, r2, r3, q0, q1⟩ (fun hS => ?_)
    clear hK K p0 p1 p2 p3 r0 r1 r2 r3 q0 q1
    refine wpAnyH_ready (rs := [5]) (by kernel_rfl) (by simp) ?_
    refine AllReadyH.cons rfl (fun K hK => ?_) AllReadyH.nil
    go_simp
    (with_reducible refine (HY.out _ hc4).mono ?_)
    clear HY
    rintro e w5 ⟨rfl, hc5⟩
    have hB5 := hB4.trans (hc5.mono hB4.size)
    obtain ⟨p0, p1, p2, p3⟩ := blkc (HA.out.below hB5 (by simp; omega))
    obtain ⟨r0, r1, r2, r3⟩ := blkc (HC0.out.below hB5 (by simp))
    obtain ⟨q0, q1, -⟩ := blk2 (HQ.out.below hB5 (by simp))
    refine hK.out _ _ ⟨p0, p1, p2, p3, r0, r1, r2, r3, q0, q1⟩ (fun hS => ?_)
    clear hK K hc4 hc5 q0 q1
    refine wpAnyH_take (i := 6) (v := .bool false) rfl (by kernel_rfl) (by kernel_rfl) (by kernel_rfl) (fun _ _ _ h => h) (Or.inl ⟨by rfl, fun W hW => by obtain ⟨h0, h1, h2, h3, h4, h5, h6, h7, h8, h9⟩ := hW; go_simp⟩) hS ?_
    refine wpAnyH_ready (rs := [7]) (by kernel_rfl) (by simp) ?_
    refine AllReadyH.cons rfl (fun K hK => ?_) AllReadyH.nil
    go_simp
    refine hK.out _ _ hS (fun hS => ?_)
    clear hK K
    refine wpAnyH_done (by kernel_rfl) ?_ _
    have hl0 : w.heap.size + 1 + 1 < w5.heap.size := by have := hB5.size; simp at this; omega
    have hla : w.heap.size < w5.heap.size := by omega
    have hlb : w.heap.size + 1 < w5.heap.size := by omega

    have hla1 : w.heap.size < w5.heap.size + 1 := by omega
    have hlb1 : w.heap.size + 1 < w5.heap.size + 1 := by omega
    have hla2 : w.heap.size < w5.heap.size + 1 + 1 := by omega
    have hlb2 : w.heap.size + 1 < w5.heap.size + 1 + 1 := by omega
    have hla3 : w.heap.size < w5.heap.size + 1 + 1 + 1 := by omega
    have hlb3 : w.heap.size + 1 < w5.heap.size + 1 + 1 + 1 := by omega
    have hla4 : w.heap.size < w5.heap.size + 1 + 1 + 1 + 1 := by omega
    have hlb4 : w.heap.size + 1 < w5.heap.size + 1 + 1 + 1 + 1 := by omega
    have hla5 : w.heap.size < w5.heap.size + 1 + 1 + 1 + 1 + 1 := by omega
    have hlb5 : w.heap.size + 1 < w5.heap.size + 1 + 1 + 1 + 1 + 1 := by omega
    have hla6 : w.heap.size < w5.heap.size + 1 + 1 + 1 + 1 + 1 + 1 := by omega
    have hlb6 : w.heap.size + 1 < w5.heap.size + 1 + 1 + 1 + 1 + 1 + 1 := by omega
    have hla7 : w.heap.size < w5.heap.size + 1 + 1 + 1 + 1 + 1 + 1 + 1 := by omega
    have hlb7 : w.heap.size + 1 < w5.heap.size + 1 + 1 + 1 + 1 + 1 + 1 + 1 := by omega
    go_wp2_with fail
    clear p0 p1 p2 p3 r0 r1 r2 r3
    have hbV : Below w5.heap.size w5 ((((((((w5.alloc (.cells #[.int .i64 k, .string n, .string v, .slice A m c] 76)).alloc (.cells #[.int .i64 3, .string ⟨#[]⟩, .string ⟨#[]⟩, .slice (some ⟨w5.heap.size, 0, none⟩) 1 1] 76)).alloc (.cells #[.int .i64 3, .string ⟨#[]⟩, .string ⟨#[]⟩, .slice (some ⟨w5.heap.size, 0, none⟩) 1 1] 76)).alloc (.cells #[.int .i64 3, .string ⟨#[]⟩, .string ⟨#[]⟩, .slice (some ⟨w5.heap.size + 1 + 1, 0, none⟩) 1 1] 76)).alloc (.cells #[.int .i64 k, .string n, .string v, .slice A m c, .int .i64 k2, .string n2, .string v2, .slice A2 m2 c2] 76)).alloc (.cells #[.int .i64 4, .string ⟨#[]⟩, .string ⟨#[]⟩, .slice (some ⟨w5.heap.size + 1 + 1 + 1 + 1, 0, none⟩) 2 2] 76)).alloc (.cells #[.int .i64 k, .string n, .string v, .slice A m c, .int .i64 k2, .string n2, .string v2, .slice A2 m2 c2] 76)).alloc (.cells #[.int .i64 5, .string ⟨#[]⟩, .string ⟨#[]⟩, .slice (some ⟨w5.heap.size + 1 + 1 + 1 + 1 + 1 + 1, 0, none⟩) 2 2] 76)) := ((((((((Below.refl _ w5).alloc (Nat.le_refl _) _).alloc (by simp; try omega) _).alloc (by simp; try omega) _).alloc (by simp; try omega) _).alloc (by simp; try omega) _).alloc (by simp; try omega) _).alloc (by simp; try omega) _).alloc (by simp; try omega) _
    have B0 : Blk ((((((((w5.alloc (.cells #[.int .i64 k, .string n, .string v, .slice A m c] 76)).alloc (.cells #[.int .i64 3, .string ⟨#[]⟩, .string ⟨#[]⟩, .slice (some ⟨w5.heap.size, 0, none⟩) 1 1] 76)).alloc (.cells #[.int .i64 3, .string ⟨#[]⟩, .string ⟨#[]⟩, .slice (some ⟨w5.heap.size, 0, none⟩) 1 1] 76)).alloc (.cells #[.int .i64 3, .string ⟨#[]⟩, .string ⟨#[]⟩, .slice (some ⟨w5.heap.size + 1 + 1, 0, none⟩) 1 1] 76)).alloc (.cells #[.int .i64 k, .string n, .string v, .slice A m c, .int .i64 k2, .string n2, .string v2, .slice A2 m2 c2] 76)).alloc (.cells #[.int .i64 4, .string ⟨#[]⟩, .string ⟨#[]⟩, .slice (some ⟨w5.heap.size + 1 + 1 + 1 + 1, 0, none⟩) 2 2] 76)).alloc (.cells #[.int .i64 k, .string n, .string v, .slice A m c, .int .i64 k2, .string n2, .string v2, .slice A2 m2 c2] 76)).alloc (.cells #[.int .i64 5, .string ⟨#[]⟩, .string ⟨#[]⟩, .slice (some ⟨w5.heap.size + 1 + 1 + 1 + 1 + 1 + 1, 0, none⟩) 2 2] 76)) (w5.heap.size) 76 #[.int .i64 k, .string n, .string v, .slice A m c] := by simpa using (((((((Blk.new w5 76 #[.int .i64 k, .string n, .string v, .slice A m c]).alloc (.cells #[.int .i64 3, .string ⟨#[]⟩, .string ⟨#[]⟩, .slice (some ⟨w5.heap.size, 0, none⟩) 1 1] 76)).alloc (.cells #[.int .i64 3, .string ⟨#[]⟩, .string ⟨#[]⟩, .slice (some ⟨w5.heap.size, 0, none⟩) 1 1] 76)).alloc (.cells #[.int .i64 3, .string ⟨#[]⟩, .string ⟨#[]⟩, .slice (some ⟨w5.heap.size + 1 + 1, 0, none⟩) 1 1] 76)).alloc (.cells #[.int .i64 k, .string n, .string v, .slice A m c, .int .i64 k2, .string n2, .string v2, .slice A2 m2 c2] 76)).alloc (.cells #[.int .i64 4, .string ⟨#[]⟩, .string ⟨#[]⟩, .slice (some ⟨w5.heap.size + 1 + 1 + 1 + 1, 0, none⟩) 2 2] 76)).alloc (.cells #[.int .i64 k, .string n, .string v, .slice A m c, .int .i64 k2, .string n2, .string v2, .slice A2 m2 c2] 76)).alloc (.cells #[.int .i64 5, .string ⟨#[]⟩, .string ⟨#[]⟩, .slice (some ⟨w5.heap.size + 1 + 1 + 1 + 1 + 1 + 1, 0, none⟩) 2 2] 76)
    have B1 : Blk ((((((((w5.alloc (.cells #[.int .i64 k, .string n, .string v, .slice A m c] 76)).alloc (.cells #[.int .i64 3, .string ⟨#[]⟩, .string ⟨#[]⟩, .slice (some ⟨w5.heap.size, 0, none⟩) 1 1] 76)).alloc (.cells #[.int .i64 3, .string ⟨#[]⟩, .string ⟨#[]⟩, .slice (some ⟨w5.heap.size, 0, none⟩) 1 1] 76)).alloc (.cells #[.int .i64 3, .string ⟨#[]⟩, .string ⟨#[]⟩, .slice (some ⟨w5.heap.size + 1 + 1, 0, none⟩) 1 1] 76)).alloc (.cells #[.int .i64 k, .string n, .string v, .slice A m c, .int .i64 k2, .string n2, .string v2, .slice A2 m2 c2] 76)).alloc (.cells #[.int .i64 4, .string ⟨#[]⟩, .string ⟨#[]⟩, .slice (some ⟨w5.heap.size + 1 + 1 + 1 + 1, 0, none⟩) 2 2] 76)).alloc (.cells #[.int .i64 k, .string n, .string v, .slice A m c, .int .i64 k2, .string n2, .string v2, .slice A2 m2 c2] 76)).alloc (.cells #[.int .i64 5, .string ⟨#[]⟩, .string ⟨#[]⟩, .slice (some ⟨w5.heap.size + 1 + 1 + 1 + 1 + 1 + 1, 0, none⟩) 2 2] 76)) (w5.heap.size + 1) 76 #[.int .i64 3, .string ⟨#[]⟩, .string ⟨#[]⟩, .slice (some ⟨w5.heap.size, 0, none⟩) 1 1] := by simpa using ((((((Blk.new (w5.alloc (.cells #[.int .i64 k, .string n, .string v, .slice A m c] 76)) 76 #[.int .i64 3, .string ⟨#[]⟩, .string ⟨#[]⟩, .slice (some ⟨w5.heap.size, 0, none⟩) 1 1]).alloc (.cells #[.int .i64 3, .string ⟨#[]⟩, .string ⟨#[]⟩, .slice (some ⟨w5.heap.size, 0, none⟩) 1 1] 76)).alloc (.cells #[.int .i64 3, .string ⟨#[]⟩, .string ⟨#[]⟩, .slice (some ⟨w5.heap.size + 1 + 1, 0, none⟩) 1 1] 76)).alloc (.cells #[.int .i64 k, .string n, .string v, .slice A m c, .int .i64 k2, .string n2, .string v2, .slice A2 m2 c2] 76)).alloc (.cells #[.int .i64 4, .string ⟨#[]⟩, .string ⟨#[]⟩, .slice (some ⟨w5.heap.size + 1 + 1 + 1 + 1, 0, none⟩) 2 2] 76)).alloc (.cells #[.int .i64 k, .string n, .string v, .slice A m c, .int .i64 k2, .string n2, .string v2, .slice A2 m2 c2] 76)).alloc (.cells #[.int .i64 5, .string ⟨#[]⟩, .string ⟨#[]⟩, .slice (some ⟨w5.heap.size + 1 + 1 + 1 + 1 + 1 + 1, 0, none⟩) 2 2] 76)
    have B2 : Blk ((((((((w5.alloc (.cells #[.int .i64 k, .string n, .string v, .slice A m c] 76)).alloc (.cells #[.int .i64 3, .string ⟨#[]⟩, .string ⟨#[]⟩, .slice (some ⟨w5.heap.size, 0, none⟩) 1 1] 76)).alloc (.cells #[.int .i64 3, .string ⟨#[]⟩, .string ⟨#[]⟩, .slice (some ⟨w5.heap.size, 0, none⟩) 1 1] 76)).alloc (.cells #[.int .i64 3, .string ⟨#[]⟩, .string ⟨#[]⟩, .slice (some ⟨w5.heap.size + 1 + 1, 0, none⟩) 1 1] 76)).alloc (.cells #[.int .i64 k, .string n, .string v, .slice A m c, .int .i64 k2, .string n2, .string v2, .slice A2 m2 c2] 76)).alloc (.cells #[.int .i64 4, .string ⟨#[]⟩, .string ⟨#[]⟩, .slice (some ⟨w5.heap.size + 1 + 1 + 1 + 1, 0, none⟩) 2 2] 76)).alloc (.cells #[.int .i64 k, .string n, .string v, .slice A m c, .int .i64 k2, .string n2, .string v2, .slice A2 m2 c2] 76)).alloc (.cells #[.int .i64 5, .string ⟨#[]⟩, .string ⟨#[]⟩, .slice (some ⟨w5.heap.size + 1 + 1 + 1 + 1 + 1 + 1, 0, none⟩) 2 2] 76)) (w5.heap.size + 1 + 1) 76 #[.int .i64 3, .string ⟨#[]⟩, .string ⟨#[]⟩, .slice (some ⟨w5.heap.size, 0, none⟩) 1 1] := by simpa using (((((Blk.new ((w5.alloc (.cells #[.int .i64 k, .string n, .string v, .slice A m c] 76)).alloc (.cells #[.int .i64 3, .string ⟨#[]⟩, .string ⟨#[]⟩, .slice (some ⟨w5.heap.size, 0, none⟩) 1 1] 76)) 76 #[.int .i64 3, .string ⟨#[]⟩, .string ⟨#[]⟩, .slice (some ⟨w5.heap.size, 0, none⟩) 1 1]).alloc (.cells #[.int .i64 3, .string ⟨#[]⟩, .string ⟨#[]⟩, .slice (some ⟨w5.heap.size + 1 + 1, 0, none⟩) 1 1] 76)).alloc (.cells #[.int .i64 k, .string n, .string v, .slice A m c, .int .i64 k2, .string n2, .string v2, .slice A2 m2 c2] 76)).alloc (.cells #[.int .i64 4, .string ⟨#[]⟩, .string ⟨#[]⟩, .slice (some ⟨w5.heap.size + 1 + 1 + 1 + 1, 0, none⟩) 2 2] 76)).alloc (.cells #[.int .i64 k, .string n, .string v, .slice A m c, .int .i64 k2, .string n2, .string v2, .slice A2 m2 c2] 76)).alloc (.cells #[.int .i64 5, .string ⟨#[]⟩, .string ⟨#[]⟩, .slice (some ⟨w5.heap.size + 1 + 1 + 1 + 1 + 1 + 1, 0, none⟩) 2 2] 76)
    have B3 : Blk ((((((((w5.alloc (.cells #[.int .i64 k, .string n, .string v, .slice A m c] 76)).alloc (.cells #[.int .i64 3, .string ⟨#[]⟩, .string ⟨#[]⟩, .slice (some ⟨w5.heap.size, 0, none⟩) 1 1] 76)).alloc (.cells #[.int .i64 3, .string ⟨#[]⟩, .string ⟨#[]⟩, .slice (some ⟨w5.heap.size, 0, none⟩) 1 1] 76)).alloc (.cells #[.int .i64 3, .string ⟨#[]⟩, .string ⟨#[]⟩, .slice (some ⟨w5.heap.size + 1 + 1, 0, none⟩) 1 1] 76)).alloc (.cells #[.int .i64 k, .string n, .string v, .slice A m c, .int .i64 k2, .string n2, .string v2, .slice A2 m2 c2] 76)).alloc (.cells #[.int .i64 4, .string ⟨#[]⟩, .string ⟨#[]⟩, .slice (some ⟨w5.heap.size + 1 + 1 + 1 + 1, 0, none⟩) 2 2] 76)).alloc (.cells #[.int .i64 k, .string n, .string v, .slice A m c, .int .i64 k2, .string n2, .string v2, .slice A2 m2 c2] 76)).alloc (.cells #[.int .i64 5, .string ⟨#[]⟩, .string ⟨#[]⟩, .slice (some ⟨w5.heap.size + 1 + 1 + 1 + 1 + 1 + 1, 0, none⟩) 2 2] 76)) (w5.heap.size + 1 + 1 + 1) 76 #[.int .i64 3, .string ⟨#[]⟩, .string ⟨#[]⟩, .slice (some ⟨w5.heap.size + 1 + 1, 0, none⟩) 1 1] := by simpa using ((((Blk.new (((w5.alloc (.cells #[.int .i64 k, .string n, .string v, .slice A m c] 76)).alloc (.cells #[.int .i64 3, .string ⟨#[]⟩, .string ⟨#[]⟩, .slice (some ⟨w5.heap.size, 0, none⟩) 1 1] 76)).alloc (.cells #[.int .i64 3, .string ⟨#[]⟩, .string ⟨#[]⟩, .slice (some ⟨w5.heap.size, 0, none⟩) 1 1] 76)) 76 #[.int .i64 3, .string ⟨#[]⟩, .string ⟨#[]⟩, .slice (some ⟨w5.heap.size + 1 + 1, 0, none⟩) 1 1]).alloc (.cells #[.int .i64 k, .string n, .string v, .slice A m c, .int .i64 k2, .string n2, .string v2, .slice A2 m2 c2] 76)).alloc (.cells #[.int .i64 4, .string ⟨#[]⟩, .string ⟨#[]⟩, .slice (some ⟨w5.heap.size + 1 + 1 + 1 + 1, 0, none⟩) 2 2] 76)).alloc (.cells #[.int .i64 k, .string n, .string v, .slice A m c, .int .i64 k2, .string n2, .string v2, .slice A2 m2 c2] 76)).alloc (.cells #[.int .i64 5, .string ⟨#[]⟩, .string ⟨#[]⟩, .slice (some ⟨w5.heap.size + 1 + 1 + 1 + 1 + 1 + 1, 0, none⟩) 2 2] 76)
    have B4 : Blk ((((((((w5.alloc (.cells #[.int .i64 k, .string n, .string v, .slice A m c] 76)).alloc (.cells #[.int .i64 3, .string ⟨#[]⟩, .string ⟨#[]⟩, .slice (some ⟨w5.heap.size, 0, none⟩) 1 1] 76)).alloc (.cells #[.int .i64 3, .string ⟨#[]⟩, .string ⟨#[]⟩, .slice (some ⟨w5.heap.size, 0, none⟩) 1 1] 76)).alloc (.cells #[.int .i64 3, .string ⟨#[]⟩, .string ⟨#[]⟩, .slice (some ⟨w5.heap.size + 1 + 1, 0, none⟩) 1 1] 76)).alloc (.cells #[.int .i64 k, .string n, .string v, .slice A m c, .int .i64 k2, .string n2, .string v2, .slice A2 m2 c2] 76)).alloc (.cells #[.int .i64 4, .string ⟨#[]⟩, .string ⟨#[]⟩, .slice (some ⟨w5.heap.size + 1 + 1 + 1 + 1, 0, none⟩) 2 2] 76)).alloc (.cells #[.int .i64 k, .string n, .string v, .slice A m c, .int .i64 k2, .string n2, .string v2, .slice A2 m2 c2] 76)).alloc (.cells #[.int .i64 5, .string ⟨#[]⟩, .string ⟨#[]⟩, .slice (some ⟨w5.heap.size + 1 + 1 + 1 + 1 + 1 + 1, 0, none⟩) 2 2] 76)) (w5.heap.size + 1 + 1 + 1 + 1) 76 #[.int .i64 k, .string n, .string v, .slice A m c, .int .i64 k2, .string n2, .string v2, .slice A2 m2 c2] := by simpa using (((Blk.new ((((w5.alloc (.cells #[.int .i64 k, .string n, .string v, .slice A m c] 76)).alloc (.cells #[.int .i64 3, .string ⟨#[]⟩, .string ⟨#[]⟩, .slice (some ⟨w5.heap.size, 0, none⟩) 1 1] 76)).alloc (.cells #[.int .i64 3, .string ⟨#[]⟩, .string ⟨#[]⟩, .slice (some ⟨w5.heap.size, 0, none⟩) 1 1] 76)).alloc (.cells #[.int .i64 3, .string ⟨#[]⟩, .string ⟨#[]⟩, .slice (some ⟨w5.heap.size + 1 + 1, 0, none⟩) 1 1] 76)) 76 #[.int .i64 k, .string n, .string v, .slice A m c, .int .i64 k2, .string n2, .string v2, .slice A2 m2 c2]).alloc (.cells #[.int .i64 4, .string ⟨#[]⟩, .string ⟨#[]⟩, .slice (some ⟨w5.heap.size + 1 + 1 + 1 + 1, 0, none⟩) 2 2] 76)).alloc (.cells #[.int .i64 k, .string n, .string v, .slice A m c, .int .i64 k2, .string n2, .string v2, .slice A2 m2 c2] 76)).alloc (.cells #[.int .i64 5, .string ⟨#[]⟩, .string ⟨#[]⟩, .slice (some ⟨w5.heap.size + 1 + 1 + 1 + 1 + 1 + 1, 0, none⟩) 2 2] 76)
    have B5 : Blk ((((((((w5.alloc (.cells #[.int .i64 k, .string n, .string v, .slice A m c] 76)).alloc (.cells #[.int .i64 3, .string ⟨#[]⟩, .string ⟨#[]⟩, .slice (some ⟨w5.heap.size, 0, none⟩) 1 1] 76)).alloc (.cells #[.int .i64 3, .string ⟨#[]⟩, .string ⟨#[]⟩, .slice (some ⟨w5.heap.size, 0, none⟩) 1 1] 76)).alloc (.cells #[.int .i64 3, .string ⟨#[]⟩, .string ⟨#[]⟩, .slice (some ⟨w5.heap.size + 1 + 1, 0, none⟩) 1 1] 76)).alloc (.cells #[.int .i64 k, .string n, .string v, .slice A m c, .int .i64 k2, .string n2, .string v2, .slice A2 m2 c2] 76)).alloc (.cells #[.int .i64 4, .string ⟨#[]⟩, .string ⟨#[]⟩, .slice (some ⟨w5.heap.size + 1 + 1 + 1 + 1, 0, none⟩) 2 2] 76)).alloc (.cells #[.int .i64 k, .string n, .string v, .slice A m c, .int .i64 k2, .string n2, .string v2, .slice A2 m2 c2] 76)).alloc (.cells #[.int .i64 5, .string ⟨#[]⟩, .string ⟨#[]⟩, .slice (some ⟨w5.heap.size + 1 + 1 + 1 + 1 + 1 + 1, 0, none⟩) 2 2] 76)) (w5.heap.size + 1 + 1 + 1 + 1 + 1) 76 #[.int .i64 4, .string ⟨#[]⟩, .string ⟨#[]⟩, .slice (some ⟨w5.heap.size + 1 + 1 + 1 + 1, 0, none⟩) 2 2] := by simpa using ((Blk.new (((((w5.alloc (.cells #[.int .i64 k, .string n, .string v, .slice A m c] 76)).alloc (.cells #[.int .i64 3, .string ⟨#[]⟩, .string ⟨#[]⟩, .slice (some ⟨w5.heap.size, 0, none⟩) 1 1] 76)).alloc (.cells #[.int .i64 3, .string ⟨#[]⟩, .string ⟨#[]⟩, .slice (some ⟨w5.heap.size, 0, none⟩) 1 1] 76)).alloc (.cells #[.int .i64 3, .string ⟨#[]⟩, .string ⟨#[]⟩, .slice (some ⟨w5.heap.size + 1 + 1, 0, none⟩) 1 1] 76)).alloc (.cells #[.int .i64 k, .string n, .string v, .slice A m c, .int .i64 k2, .string n2, .string v2, .slice A2 m2 c2] 76)) 76 #[.int .i64 4, .string ⟨#[]⟩, .string ⟨#[]⟩, .slice (some ⟨w5.heap.size + 1 + 1 + 1 + 1, 0, none⟩) 2 2]).alloc (.cells #[.int .i64 k, .string n, .string v, .slice A m c, .int .i64 k2, .string n2, .string v2, .slice A2 m2 c2] 76)).alloc (.cells #[.int .i64 5, .string ⟨#[]⟩, .string ⟨#[]⟩, .slice (some ⟨w5.heap.size + 1 + 1 + 1 + 1 + 1 + 1, 0, none⟩) 2 2] 76)
    have B6 : Blk ((((((((w5.alloc (.cells #[.int .i64 k, .string n, .string v, .slice A m c] 76)).alloc (.cells #[.int .i64 3, .string ⟨#[]⟩, .string ⟨#[]⟩, .slice (some ⟨w5.heap.size, 0, none⟩) 1 1] 76)).alloc (.cells #[.int .i64 3, .string ⟨#[]⟩, .string ⟨#[]⟩, .slice (some ⟨w5.heap.size, 0, none⟩) 1 1] 76)).alloc (.cells #[.int .i64 3, .string ⟨#[]⟩, .string ⟨#[]⟩, .slice (some ⟨w5.heap.size + 1 + 1, 0, none⟩) 1 1] 76)).alloc (.cells #[.int .i64 k, .string n, .string v, .slice A m c, .int .i64 k2, .string n2, .string v2, .slice A2 m2 c2] 76)).alloc (.cells #[.int .i64 4, .string ⟨#[]⟩, .string ⟨#[]⟩, .slice (some ⟨w5.heap.size + 1 + 1 + 1 + 1, 0, none⟩) 2 2] 76)).alloc (.cells #[.int .i64 k, .string n, .string v, .slice A m c, .int .i64 k2, .string n2, .string v2, .slice A2 m2 c2] 76)).alloc (.cells #[.int .i64 5, .string ⟨#[]⟩, .string ⟨#[]⟩, .slice (some ⟨w5.heap.size + 1 + 1 + 1 + 1 + 1 + 1, 0, none⟩) 2 2] 76)) (w5.heap.size + 1 + 1 + 1 + 1 + 1 + 1) 76 #[.int .i64 k, .string n, .string v, .slice A m c, .int .i64 k2, .string n2, .string v2, .slice A2 m2 c2] := by simpa using (Blk.new ((((((w5.alloc (.cells #[.int .i64 k, .string n, .string v, .slice A m c] 76)).alloc (.cells #[.int .i64 3, .string ⟨#[]⟩, .string ⟨#[]⟩, .slice (some ⟨w5.heap.size, 0, none⟩) 1 1] 76)).alloc (.cells #[.int .i64 3, .string ⟨#[]⟩, .string ⟨#[]⟩, .slice (some ⟨w5.heap.size, 0, none⟩) 1 1] 76)).alloc (.cells #[.int .i64 3, .string ⟨#[]⟩, .string ⟨#[]⟩, .slice (some ⟨w5.heap.size + 1 + 1, 0, none⟩) 1 1] 76)).alloc (.cells #[.int .i64 k, .string n, .string v, .slice A m c, .int .i64 k2, .string n2, .string v2, .slice A2 m2 c2] 76)).alloc (.cells #[.int .i64 4, .string ⟨#[]⟩, .string ⟨#[]⟩, .slice (some ⟨w5.heap.size + 1 + 1 + 1 + 1, 0, none⟩) 2 2] 76)) 76 #[.int .i64 k, .string n, .string v, .slice A m c, .int .i64 k2, .string n2, .string v2, .slice A2 m2 c2]).alloc (.cells #[.int .i64 5, .string ⟨#[]⟩, .string ⟨#[]⟩, .slice (some ⟨w5.heap.size + 1 + 1 + 1 + 1 + 1 + 1, 0, none⟩) 2 2] 76)
    have B7 : Blk ((((((((w5.alloc (.cells #[.int .i64 k, .string n, .string v, .slice A m c] 76)).alloc (.cells #[.int .i64 3, .string ⟨#[]⟩, .string ⟨#[]⟩, .slice (some ⟨w5.heap.size, 0, none⟩) 1 1] 76)).alloc (.cells #[.int .i64 3, .string ⟨#[]⟩, .string ⟨#[]⟩, .slice (some ⟨w5.heap.size, 0, none⟩) 1 1] 76)).alloc (.cells #[.int .i64 3, .string ⟨#[]⟩, .string ⟨#[]⟩, .slice (some ⟨w5.heap.size + 1 + 1, 0, none⟩) 1 1] 76)).alloc (.cells #[.int .i64 k, .string n, .string v, .slice A m c, .int .i64 k2, .string n2, .string v2, .slice A2 m2 c2] 76)).alloc (.cells #[.int .i64 4, .string ⟨#[]⟩, .string ⟨#[]⟩, .slice (some ⟨w5.heap.size + 1 + 1 + 1 + 1, 0, none⟩) 2 2] 76)).alloc (.cells #[.int .i64 k, .string n, .string v, .slice A m c, .int .i64 k2, .string n2, .string v2, .slice A2 m2 c2] 76)).alloc (.cells #[.int .i64 5, .string ⟨#[]⟩, .string ⟨#[]⟩, .slice (some ⟨w5.heap.size + 1 + 1 + 1 + 1 + 1 + 1, 0, none⟩) 2 2] 76)) (w5.heap.size + 1 + 1 + 1 + 1 + 1 + 1 + 1) 76 #[.int .i64 5, .string ⟨#[]⟩, .string ⟨#[]⟩, .slice (some ⟨w5.heap.size + 1 + 1 + 1 + 1 + 1 + 1, 0, none⟩) 2 2] := by simpa using Blk.new (((((((w5.alloc (.cells #[.int .i64 k, .string n, .string v, .slice A m c] 76)).alloc (.cells #[.int .i64 3, .string ⟨#[]⟩, .string ⟨#[]⟩, .slice (some ⟨w5.heap.size, 0, none⟩) 1 1] 76)).alloc (.cells #[.int .i64 3, .string ⟨#[]⟩, .string ⟨#[]⟩, .slice (some ⟨w5.heap.size, 0, none⟩) 1 1] 76)).alloc (.cells #[.int .i64 3, .string ⟨#[]⟩, .string ⟨#[]⟩, .slice (some ⟨w5.heap.size + 1 + 1, 0, none⟩) 1 1] 76)).alloc (.cells #[.int .i64 k, .string n, .string v, .slice A m c, .int .i64 k2, .string n2, .string v2, .slice A2 m2 c2] 76)).alloc (.cells #[.int .i64 4, .string ⟨#[]⟩, .string ⟨#[]⟩, .slice (some ⟨w5.heap.size + 1 + 1 + 1 + 1, 0, none⟩) 2 2] 76)).alloc (.cells #[.int .i64 k, .string n, .string v, .slice A m c, .int .i64 k2, .string n2, .string v2, .slice A2 m2 c2] 76)) 76 #[.int .i64 5, .string ⟨#[]⟩, .string ⟨#[]⟩, .slice (some ⟨w5.heap.size + 1 + 1 + 1 + 1 + 1 + 1, 0, none⟩) 2 2]
    have hBV := hB5.trans (hbV.mono hB5.size)
    have hta := HT.out.below hBV
    have htb := HT2.out.below hBV
    have hpv := HPS.out.below hBV
    have hAV := HA.out.below hBV (by simp; omega)
    have hQV := HQ.out.below hBV (by simp)
    clear hbV HT HT2 HPS
    generalize ((((((((w5.alloc (.cells #[.int .i64 k, .string n, .string v, .slice A m c] 76)).alloc (.cells #[.int .i64 3, .string ⟨#[]⟩, .string ⟨#[]⟩, .slice (some ⟨w5.heap.size, 0, none⟩) 1 1] 76)).alloc (.cells #[.int .i64 3, .string ⟨#[]⟩, .string ⟨#[]⟩, .slice (some ⟨w5.heap.size, 0, none⟩) 1 1] 76)).alloc (.cells #[.int .i64 3, .string ⟨#[]⟩, .string ⟨#[]⟩, .slice (some ⟨w5.heap.size + 1 + 1, 0, none⟩) 1 1] 76)).alloc (.cells #[.int .i64 k, .string n, .string v, .slice A m c, .int .i64 k2, .string n2, .string v2, .slice A2 m2 c2] 76)).alloc (.cells #[.int .i64 4, .string ⟨#[]⟩, .string ⟨#[]⟩, .slice (some ⟨w5.heap.size + 1 + 1 + 1 + 1, 0, none⟩) 2 2] 76)).alloc (.cells #[.int .i64 k, .string n, .string v, .slice A m c, .int .i64 k2, .string n2, .string v2, .slice A2 m2 c2] 76)).alloc (.cells #[.int .i64 5, .string ⟨#[]⟩, .string ⟨#[]⟩, .slice (some ⟨w5.heap.size + 1 + 1 + 1 + 1 + 1 + 1, 0, none⟩) 2 2] 76)) = V at *
    have hsz : w5.heap.size + 8 ≤ V.heap.size := by have := B7.lt; omega
    have cn : CondAt V (· < V.heap.size) (D + 1) (.mk 3 ⟨#[]⟩ ⟨#[]⟩ [t]) [.int .i64 3, .string ⟨#[]⟩, .string ⟨#[]⟩, .slice (some ⟨w5.heap.size, 0, none⟩) 1 1] := CondAt.of empty_str empty_str (by unfold maxLen; omega) (Nat.le_refl _) (one_kid B0 B0.lt hta)
    have c2 : CondAt V (· < V.heap.size) (D + 1 + 1) (.mk 3 ⟨#[]⟩ ⟨#[]⟩ [.mk 3 ⟨#[]⟩ ⟨#[]⟩ [t]]) [.int .i64 3, .string ⟨#[]⟩, .string ⟨#[]⟩, .slice (some ⟨w5.heap.size + 1 + 1, 0, none⟩) 1 1] := CondAt.of empty_str empty_str (by unfold maxLen; omega) (Nat.le_refl _) (one_kid B2 B2.lt cn)
    have ca : CondAt V (· < V.heap.size) (max D D2 + 1) (.mk 4 ⟨#[]⟩ ⟨#[]⟩ [t, t2]) [.int .i64 4, .string ⟨#[]⟩, .string ⟨#[]⟩, .slice (some ⟨w5.heap.size + 1 + 1 + 1 + 1, 0, none⟩) 2 2] := CondAt.of empty_str empty_str (by unfold maxLen; omega) (Nat.le_refl _) (two_kids B4 B4.lt (hta.deeper (Nat.le_max_left _ _)) (htb.deeper (Nat.le_max_right _ _)))
    have co : CondAt V (· < V.heap.size) (max D D2 + 1) (.mk 5 ⟨#[]⟩ ⟨#[]⟩ [t, t2]) [.int .i64 5, .string ⟨#[]⟩, .string ⟨#[]⟩, .slice (some ⟨w5.heap.size + 1 + 1 + 1 + 1 + 1 + 1, 0, none⟩) 2 2] := CondAt.of empty_str empty_str (by unfold maxLen; omega) (Nat.le_refl _) (two_kids B6 B6.lt (hta.deeper (Nat.le_max_left _ _)) (htb.deeper (Nat.le_max_right _ _)))
    have KN := Lib.hid (fun W (hb : Below V.drew.heap.size V.drew W) => cHolds_any nm PA pm pc ps (D + 1) (.mk 3 ⟨#[]⟩ ⟨#[]⟩ [t]) _ _ _ _ _ _ W (cn.drewB.below hb) (hpv.drewB.below hb) hpm)
    have K2 := Lib.hid (fun W (hb : Below V.drew.heap.size V.drew W) => cHolds_any nm PA pm pc ps (D + 1 + 1) (.mk 3 ⟨#[]⟩ ⟨#[]⟩ [.mk 3 ⟨#[]⟩ ⟨#[]⟩ [t]]) _ _ _ _ _ _ W (c2.drewB.below hb) (hpv.drewB.below hb) hpm)
    have KA := Lib.hid (fun W (hb : Below V.drew.heap.size V.drew W) => cHolds_any nm PA pm pc ps (max D D2 + 1) (.mk 4 ⟨#[]⟩ ⟨#[]⟩ [t, t2]) _ _ _ _ _ _ W (ca.drewB.below hb) (hpv.drewB.below hb) hpm)
    have KO := Lib.hid (fun W (hb : Below V.drew.heap.size V.drew W) => cHolds_any nm PA pm pc ps (max D D2 + 1) (.mk 5 ⟨#[]⟩ ⟨#[]⟩ [t, t2]) _ _ _ _ _ _ W (co.drewB.below hb) (hpv.drewB.below hb) hpm)
    have KS2 := Lib.hid (fun W (hb : Below V.drew.heap.size V.drew W) => cSimple_any (D + 1 + 1) (.mk 3 ⟨#[]⟩ ⟨#[]⟩ [.mk 3 ⟨#[]⟩ ⟨#[]⟩ [t]]) _ _ _ _ _ _ W (c2.drewB.below hb) (by rw [pn_two]; exact hnl))
    have KS1 := Lib.hid (fun W (hb : Below V.drew.heap.size V.drew W) => cSimple_any D t k n v A m c W (hta.drewB.below hb) hnl)
    rw [ps_not20 HR.out, ph_not, HHX.out] at KN
    rw [ps_two HR.out, ph_not, ph_not, HHX.out] at K2
    rw [ps_and HR.out HR2.out, ph_and, HHX.out, HHY.out] at KA
    rw [ps_or HR.out HR2.out, ph_or, HHX.out, HHY.out] at KO
    rw [psi_two HR.out] at KS2
    simp only [Bool.true_and, Bool.and_true, Bool.and_false, Bool.or_true, Bool.or_false, Bool.false_or, Bool.true_or, Bool.false_and, Bool.not_true, Bool.not_false] at KN K2 KA KO
    have HB1 := Lib.hid B1
    have HB3 := Lib.hid B3
    have HB5 := Lib.hid B5
    have HB7 := Lib.hid B7
    have HAV := Lib.hid hAV
    have HQV := Lib.hid hQV
    have HSS := Lib.hid (show ∀ W, Below V.drew.heap.size V.drew W → (W.cell? ⟨w5.heap.size + 1, 0, none⟩ = some (.int .i64 3) ∧ W.cell? ⟨w5.heap.size + 1, 1, none⟩ = some (.string ⟨#[]⟩) ∧ W.cell? ⟨w5.heap.size + 1, 2, none⟩ = some (.string ⟨#[]⟩) ∧ W.cell? ⟨w5.heap.size + 1, 3, none⟩ = some (.slice (some ⟨w5.heap.size, 0, none⟩) 1 1) ∧ W.cell? ⟨w5.heap.size + 1 + 1 + 1, 0, none⟩ = some (.int .i64 3) ∧ W.cell? ⟨w5.heap.size + 1 + 1 + 1, 1, none⟩ = some (.string ⟨#[]⟩) ∧ W.cell? ⟨w5.heap.size + 1 + 1 + 1, 2, none⟩ = some (.string ⟨#[]⟩) ∧ W.cell? ⟨w5.heap.size + 1 + 1 + 1, 3, none⟩ = some (.slice (some ⟨w5.heap.size + 1 + 1, 0, none⟩) 1 1) ∧ W.cell? ⟨w5.heap.size + 1 + 1 + 1 + 1 + 1, 0, none⟩ = some (.int .i64 4) ∧ W.cell? ⟨w5.heap.size + 1 + 1 + 1 + 1 + 1, 1, none⟩ = some (.string ⟨#[]⟩) ∧ W.cell? ⟨w5.heap.size + 1 + 1 + 1 + 1 + 1, 2, none⟩ = some (.string ⟨#[]⟩) ∧ W.cell? ⟨w5.heap.size + 1 + 1 + 1 + 1 + 1, 3, none⟩ = some (.slice (some ⟨w5.heap.size + 1 + 1 + 1 + 1, 0, none⟩) 2 2) ∧ W.cell? ⟨w5.heap.size + 1 + 1 + 1 + 1 + 1 + 1 + 1, 0, none⟩ = some (.int .i64 5) ∧ W.cell? ⟨w5.heap.size + 1 + 1 + 1 + 1 + 1 + 1 + 1, 1, none⟩ = some (.string ⟨#[]⟩) ∧ W.cell? ⟨w5.heap.size + 1 + 1 + 1 + 1 + 1 + 1 + 1, 2, none⟩ = some (.string ⟨#[]⟩) ∧ W.cell? ⟨w5.heap.size + 1 + 1 + 1 + 1 + 1 + 1 + 1, 3, none⟩ = some (.slice (some ⟨w5.heap.size + 1 + 1 + 1 + 1 + 1 + 1, 0, none⟩) 2 2) ∧ W.cell? ⟨w.heap.size, 0, none⟩ = some (.int .i64 k) ∧ W.cell? ⟨w.heap.size, 1, none⟩ = some (.string n) ∧ W.cell? ⟨w.heap.size, 2, none⟩ = some (.string v) ∧ W.cell? ⟨w.heap.size, 3, none⟩ = some (.slice A m c) ∧ W.cell? ⟨w.heap.size + 1 + 1, 0, none⟩ = some (.string nm) ∧ W.cell? ⟨w.heap.size + 1 + 1, 1, none⟩ = some (.slice PA pm pc)) from fun W hb => by
      obtain ⟨x0, x1, x2, x3⟩ := blkc (HB1.out.drew.below hb HB1.out.lt)
      obtain ⟨y0, y1, y2, y3⟩ := blkc (HB3.out.drew.below hb HB3.out.lt)
      obtain ⟨z0, z1, z2, z3⟩ := blkc (HB5.out.drew.below hb HB5.out.lt)
      obtain ⟨u0, u1, u2, u3⟩ := blkc (HB7.out.drew.below hb HB7.out.lt)
      obtain ⟨i0, i1, i2, i3⟩ := blkc (HAV.out.drew.below hb HAV.out.lt)
      obtain ⟨j0, j1, -⟩ := blk2 (HQV.out.drew.below hb HQV.out.lt)
      exact ⟨x0, x1, x2, x3, y0, y1, y2, y3, z0, z1, z2, z3, u0, u1, u2, u3, i0, i1, i2, i3, j0, j1⟩)
    have hV0 := Below.refl V.drew.heap.size V.drew
    have hBVb := hBV
    clear B0 B1 B2 B3 B4 B5 B6 B7 hAV hQV hta htb hpv cn c2 ca co HA HC0 HQ hBV
    refine wp_region_held_drew (S := fun W => W.cell? ⟨w5.heap.size + 1, 0, none⟩ = some (.int .i64 3) ∧ W.cell? ⟨w5.heap.size + 1, 1, none⟩ = some (.string ⟨#[]⟩) ∧ W.cell? ⟨w5.heap.size + 1, 2, none⟩ = some (.string ⟨#[]⟩) ∧ W.cell? ⟨w5.heap.size + 1, 3, none⟩ = some (.slice (some ⟨w5.heap.size, 0, none⟩) 1 1) ∧ W.cell? ⟨w5.heap.size + 1 + 1 + 1, 0, none⟩ = some (.int .i64 3) ∧ W.cell? ⟨w5.heap.size + 1 + 1 + 1, 1, none⟩ = some (.string ⟨#[]⟩) ∧ W.cell? ⟨w5.heap.size + 1 + 1 + 1, 2, none⟩ = some (.string ⟨#[]⟩) ∧ W.cell? ⟨w5.heap.size + 1 + 1 + 1, 3, none⟩ = some (.slice (some ⟨w5.heap.size + 1 + 1, 0, none⟩) 1 1) ∧ W.cell? ⟨w5.heap.size + 1 + 1 + 1 + 1 + 1, 0, none⟩ = some (.int .i64 4) ∧ W.cell? ⟨w5.heap.size + 1 + 1 + 1 + 1 + 1, 1, none⟩ = some (.string ⟨#[]⟩) ∧ W.cell? ⟨w5.heap.size + 1 + 1 + 1 + 1 + 1, 2, none⟩ = some (.string ⟨#[]⟩) ∧ W.cell? ⟨w5.heap.size + 1 + 1 + 1 + 1 + 1, 3, none⟩ = some (.slice (some ⟨w5.heap.size + 1 + 1 + 1 + 1, 0, none⟩) 2 2) ∧ W.cell? ⟨w5.heap.size + 1 + 1 + 1 + 1 + 1 + 1 + 1, 0, none⟩ = some (.int .i64 5) ∧ W.cell? ⟨w5.heap.size + 1 + 1 + 1 + 1 + 1 + 1 + 1, 1, none⟩ = some (.string ⟨#[]⟩) ∧ W.cell? ⟨w5.heap.size + 1 + 1 + 1 + 1 + 1 + 1 + 1, 2, none⟩ = some (.string ⟨#[]⟩) ∧ W.cell? ⟨w5.heap.size + 1 + 1 + 1 + 1 + 1 + 1 + 1, 3, none⟩ = some (.slice (some ⟨w5.heap.size + 1 + 1 + 1 + 1 + 1 + 1, 0, none⟩) 2 2) ∧ W.cell? ⟨w.heap.size, 0, none⟩ = some (.int .i64 k) ∧ W.cell? ⟨w.heap.size, 1, none⟩ = some (.string n) ∧ W.cell? ⟨w.heap.size, 2, none⟩ = some (.string v) ∧ W.cell? ⟨w.heap.size, 3, none⟩ = some (.slice A m c) ∧ W.cell? ⟨w.heap.size + 1 + 1, 0, none⟩ = some (.string nm) ∧ W.cell? ⟨w.heap.size + 1 + 1, 1, none⟩ = some (.slice PA pm pc)) mixed (HSS.out _ hV0) (fun hS => ?_)
    refine wpAnyH_take (i := 0) (v := .agg #[.int .i64 3, .string ⟨#[]⟩, .string ⟨#[]⟩, .slice (some ⟨w5.heap.size, 0, none⟩) 1 1]) rfl (by kernel_rfl) (by kernel_rfl) (by kernel_rfl) (fun _ _ _ h => h) (Or.inl ⟨by rfl, fun W hW => by obtain ⟨h0, h1, h2, h3, h4, h5, h6, h7, h8, h9, h10, h11, h12, h13, h14, h15, h16, h17, h18, h19, h20, h21⟩ := hW; go_simp⟩) hS ?_
    refine wpAnyH_take (i := 1) (v := .agg #[.string nm, .slice PA pm pc]) rfl (by kernel_rfl) (by kernel_rfl) (by kernel_rfl) (fun _ _ _ h => h) (Or.inl ⟨by rfl, fun W hW => by obtain ⟨h0, h1, h2, h3, h4, h5, h6, h7, h8, h9, h10, h11, h12, h13, h14, h15, h16, h17, h18, h19, h20, h21⟩ := hW; go_simp⟩) hS ?_
    refine wpAnyH_take (i := 3) (v := .bool false) rfl (by kernel_rfl) (by kernel_rfl) (by kernel_rfl) (fun _ _ _ h => h) (Or.inl ⟨by rfl, fun W hW => by obtain ⟨h0, h1, h2, h3, h4, h5, h6, h7, h8, h9, h10, h11, h12, h13, h14, h15, h16, h17, h18, h19, h20, h21⟩ := hW; go_simp⟩) hS ?_
    refine wpAnyH_take (i := 4) (v := .bool true) rfl (by kernel_rfl) (by kernel_rfl) (by kernel_rfl) (fun _ _ _ h => h) (Or.inl ⟨by rfl, fun W hW => by obtain ⟨h0, h1, h2, h3, h4, h5, h6, h7, h8, h9, h10, h11, h12, h13, h14, h15, h16, h17, h18, h19, h20, h21⟩ := hW; go_simp⟩) hS ?_
    refine wpAnyH_ready (rs := [2]) (by kernel_rfl) (by simp) ?_
    refine AllReadyH.cons rfl (fun K hK => ?_) AllReadyH.nil
    go_simp
    (with_reducible refine (KN.out _ hV0).mono ?_)
    rintro e w6 ⟨rfl, hc⟩
    have hV1 := hV0.trans (hc.mono hV0.size)
    refine hK.out _ _ (HSS.out _ hV1) (fun hS => ?_)
    clear hK K hc KN
    refine wpAnyH_ready (rs := [5]) (by kernel_rfl) (by simp) ?_
    refine AllReadyH.cons rfl (fun K hK => ?_) AllReadyH.nil
    go_simp
    refine hK.out _ _ hS (fun hS => ?_)
    clear hK K
    refine wpAnyH_ready (rs := [6]) (by kernel_rfl) (by simp) ?_
    refine AllReadyH.cons rfl (fun K hK => ?_) AllReadyH.nil
    go_simp
    refine hK.out _ _ hS (fun hS => ?_)
    clear hK K
    refine wpAnyH_take (i := 7) (v := .agg #[.int .i64 3, .string ⟨#[]⟩, .string ⟨#[]⟩, .slice (some ⟨w5.heap.size + 1 + 1, 0, none⟩) 1 1]) rfl (by kernel_rfl) (by kernel_rfl) (by kernel_rfl) (fun _ _ _ h => h) (Or.inl ⟨by rfl, fun W hW => by obtain ⟨h0, h1, h2, h3, h4, h5, h6, h7, h8, h9, h10, h11, h12, h13, h14, h15, h16, h17, h18, h19, h20, h21⟩ := hW; go_simp⟩) hS ?_
    refine wpAnyH_take (i := 8) (v := .agg #[.string nm, .slice PA pm pc]) rfl (by kernel_rfl) (by kernel_rfl) (by kernel_rfl) (fun _ _ _ h => h) (Or.inl ⟨by rfl, fun W hW => by obtain ⟨h0, h1, h2, h3, h4, h5, h6, h7, h8, h9, h10, h11, h12, h13, h14, h15, h16, h17, h18, h19, h20, h21⟩ := hW; go_simp⟩) hS ?_
    refine wpAnyH_take (i := 10) (v := .bool false) rfl (by kernel_rfl) (by kernel_rfl) (by kernel_rfl) (fun _ _ _ h => h) (Or.inl ⟨by rfl, fun W hW => by obtain ⟨h0, h1, h2, h3, h4, h5, h6, h7, h8, h9, h10, h11, h12, h13, h14, h15, h16, h17, h18, h19, h20, h21⟩ := hW; go_simp⟩) hS ?_
    refine wpAnyH_ready (rs := [9]) (by kernel_rfl) (by simp) ?_
    refine AllReadyH.cons rfl (fun K hK => ?_) AllReadyH.nil
    go_simp
    (with_reducible refine (K2.out _ hV1).mono ?_)
    rintro e w7 ⟨rfl, hc⟩
    have hV2 := hV1.trans (hc.mono hV1.size)
    refine hK.out _ _ (HSS.out _ hV2) (fun hS => ?_)
    clear hK K hc K2
    refine wpAnyH_ready (rs := [11]) (by kernel_rfl) (by simp) ?_
    refine AllReadyH.cons rfl (fun K hK => ?_) AllReadyH.nil
    go_simp
    refine hK.out _ _ hS (fun hS => ?_)
    clear hK K
    refine wpAnyH_ready (rs := [12]) (by kernel_rfl) (by simp) ?_
    refine AllReadyH.cons rfl (fun K hK => ?_) AllReadyH.nil
    go_simp
    refine hK.out _ _ hS (fun hS => ?_)
    clear hK K
    refine wpAnyH_ready (rs := [13]) (by kernel_rfl) (by simp) ?_
    refine AllReadyH.cons rfl (fun K hK => ?_) AllReadyH.nil
    go_simp
    refine hK.out _ _ hS (fun hS => ?_)
    clear hK K
    refine wpAnyH_take (i := 14) (v := .agg #[.int .i64 4, .string ⟨#[]⟩, .string ⟨#[]⟩, .slice (some ⟨w5.heap.size + 1 + 1 + 1 + 1, 0, none⟩) 2 2]) rfl (by kernel_rfl) (by kernel_rfl) (by kernel_rfl) (fun _ _ _ h => h) (Or.inl ⟨by rfl, fun W hW => by obtain ⟨h0, h1, h2, h3, h4, h5, h6, h7, h8, h9, h10, h11, h12, h13, h14, h15, h16, h17, h18, h19, h20, h21⟩ := hW; go_simp⟩) hS ?_
    refine wpAnyH_take (i := 15) (v := .agg #[.string nm, .slice PA pm pc]) rfl (by kernel_rfl) (by kernel_rfl) (by kernel_rfl) (fun _ _ _ h => h) (Or.inl ⟨by rfl, fun W hW => by obtain ⟨h0, h1, h2, h3, h4, h5, h6, h7, h8, h9, h10, h11, h12, h13, h14, h15, h16, h17, h18, h19, h20, h21⟩ := hW; go_simp⟩) hS ?_
    refine wpAnyH_take (i := 17) (v := .bool false) rfl (by kernel_rfl) (by kernel_rfl) (by kernel_rfl) (fun _ _ _ h => h) (Or.inl ⟨by rfl, fun W hW => by obtain ⟨h0, h1, h2, h3, h4, h5, h6, h7, h8, h9, h10, h11, h12, h13, h14, h15, h16, h17, h18, h19, h20, h21⟩ := hW; go_simp⟩) hS ?_
    refine wpAnyH_ready (rs := [16]) (by kernel_rfl) (by simp) ?_
    refine AllReadyH.cons rfl (fun K hK => ?_) AllReadyH.nil
    go_simp
    (with_reducible refine (KA.out _ hV2).mono ?_)
    rintro e w8 ⟨rfl, hc⟩
    have hV3 := hV2.trans (hc.mono hV2.size)
    refine hK.out _ _ (HSS.out _ hV3) (fun hS => ?_)
    clear hK K hc KA
    refine wpAnyH_ready (rs := [18]) (by kernel_rfl) (by simp) ?_
    refine AllReadyH.cons rfl (fun K hK => ?_) AllReadyH.nil
    go_simp
    refine hK.out _ _ hS (fun hS => ?_)
    clear hK K
    refine wpAnyH_take (i := 19) (v := undef) rfl (by kernel_rfl) (by kernel_rfl) (by kernel_rfl) (fun _ _ _ h => h) (Or.inr ⟨by rfl, rfl⟩) hS ?_
    refine wpAnyH_ready (rs := [20]) (by kernel_rfl) (by simp) ?_
    refine AllReadyH.cons rfl (fun K hK => ?_) AllReadyH.nil
    go_simp
    refine hK.out _ _ hS (fun hS => ?_)
    clear hK K
    refine wpAnyH_ready (rs := [21]) (by kernel_rfl) (by simp) ?_
    refine AllReadyH.cons rfl (fun K hK => ?_) AllReadyH.nil
    go_simp
    refine hK.out _ _ hS (fun hS => ?_)
    clear hK K
    refine wpAnyH_ready (rs := [22]) (by kernel_rfl) (by simp) ?_
    refine AllReadyH.cons rfl (fun K hK => ?_) AllReadyH.nil
    go_simp
    refine hK.out _ _ hS (fun hS => ?_)
    clear hK K
    refine wpAnyH_ready (rs := [23]) (by kernel_rfl) (by simp) ?_
    refine AllReadyH.cons rfl (fun K hK => ?_) AllReadyH.nil
    go_simp
    refine hK.out _ _ hS (fun hS => ?_)
    clear hK K
    refine wpAnyH_take (i := 24) (v := .agg #[.int .i64 5, .string ⟨#[]⟩, .string ⟨#[]⟩, .slice (some ⟨w5.heap.size + 1 + 1 + 1 + 1 + 1 + 1, 0, none⟩) 2 2]) rfl (by kernel_rfl) (by kernel_rfl) (by kernel_rfl) (fun _ _ _ h => h) (Or.inl ⟨by rfl, fun W hW => by obtain ⟨h0, h1, h2, h3, h4, h5, h6, h7, h8, h9, h10, h11, h12, h13, h14, h15, h16, h17, h18, h19, h20, h21⟩ := hW; go_simp⟩) hS ?_
    refine wpAnyH_take (i := 25) (v := .agg #[.string nm, .slice PA pm pc]) rfl (by kernel_rfl) (by kernel_rfl) (by kernel_rfl) (fun _ _ _ h => h) (Or.inl ⟨by rfl, fun W hW => by obtain ⟨h0, h1, h2, h3, h4, h5, h6, h7, h8, h9, h10, h11, h12, h13, h14, h15, h16, h17, h18, h19, h20, h21⟩ := hW; go_simp⟩) hS ?_
    refine wpAnyH_take (i := 27) (v := .bool false) rfl (by kernel_rfl) (by kernel_rfl) (by kernel_rfl) (fun _ _ _ h => h) (Or.inl ⟨by rfl, fun W hW => by obtain ⟨h0, h1, h2, h3, h4, h5, h6, h7, h8, h9, h10, h11, h12, h13, h14, h15, h16, h17, h18, h19, h20, h21⟩ := hW; go_simp⟩) hS ?_
    refine wpAnyH_ready (rs := [26]) (by kernel_rfl) (by simp) ?_
    refine AllReadyH.cons rfl (fun K hK => ?_) AllReadyH.nil
    go_simp
    (with_reducible refine (KO.out _ hV3).mono ?_)
    rintro e w9 ⟨rfl, hc⟩
    have hV4 := hV3.trans (hc.mono hV3.size)
    refine hK.out _ _ (HSS.out _ hV4) (fun hS => ?_)
    clear hK K hc KO
    refine wpAnyH_ready (rs := [28]) (by kernel_rfl) (by simp) ?_
    refine AllReadyH.cons rfl (fun K hK => ?_) AllReadyH.nil
    go_simp
    refine hK.out _ _ hS (fun hS => ?_)
    clear hK K
    refine wpAnyH_take (i := 29) (v := .bool true) rfl (by kernel_rfl) (by kernel_rfl) (by kernel_rfl) (fun _ _ _ h => h) (Or.inl ⟨by rfl, fun W hW => by obtain ⟨h0, h1, h2, h3, h4, h5, h6, h7, h8, h9, h10, h11, h12, h13, h14, h15, h16, h17, h18, h19, h20, h21⟩ := hW; go_simp⟩) hS ?_
    refine wpAnyH_ready (rs := [30]) (by kernel_rfl) (by simp) ?_
    refine AllReadyH.cons rfl (fun K hK => ?_) AllReadyH.nil
    go_simp
    refine hK.out _ _ hS (fun hS => ?_)
    clear hK K
    refine wpAnyH_ready (rs := [31]) (by kernel_rfl) (by simp) ?_
    refine AllReadyH.cons rfl (fun K hK => ?_) AllReadyH.nil
    go_simp
    refine hK.out _ _ hS (fun hS => ?_)
    clear hK K
    refine wpAnyH_ready (rs := [32]) (by kernel_rfl) (by simp) ?_
    refine AllReadyH.cons rfl (fun K hK => ?_) AllReadyH.nil
    go_simp
    refine hK.out _ _ hS (fun hS => ?_)
    clear hK K
    refine wpAnyH_ready (rs := [33]) (by kernel_rfl) (by simp) ?_
    refine AllReadyH.cons rfl (fun K hK => ?_) AllReadyH.nil
    go_simp
    refine hK.out _ _ hS (fun hS => ?_)
    clear hK K
    refine wpAnyH_take (i := 34) (v := .agg #[.int .i64 3, .string ⟨#[]⟩, .string ⟨#[]⟩, .slice (some ⟨w5.heap.size + 1 + 1, 0, none⟩) 1 1]) rfl (by kernel_rfl) (by kernel_rfl) (by kernel_rfl) (fun _ _ _ h => h) (Or.inl ⟨by rfl, fun W hW => by obtain ⟨h0, h1, h2, h3, h4, h5, h6, h7, h8, h9, h10, h11, h12, h13, h14, h15, h16, h17, h18, h19, h20, h21⟩ := hW; go_simp⟩) hS ?_
    refine wpAnyH_take (i := 36) (v := .agg #[.int .i64 k, .string n, .string v, .slice A m c]) rfl (by kernel_rfl) (by kernel_rfl) (by kernel_rfl) (fun _ _ _ h => h) (Or.inl ⟨by rfl, fun W hW => by obtain ⟨h0, h1, h2, h3, h4, h5, h6, h7, h8, h9, h10, h11, h12, h13, h14, h15, h16, h17, h18, h19, h20, h21⟩ := hW; go_simp⟩) hS ?_
    refine wpAnyH_ready (rs := [35]) (by kernel_rfl) (by simp) ?_
    refine AllReadyH.cons rfl (fun K hK => ?_) AllReadyH.nil
    go_simp
    (with_reducible refine (KS2.out _ hV4).mono ?_)
    rintro e w10 ⟨rk, rn, rv, rA, rm, rc, rD, rfl, hcr, hc⟩
    have hV5 := hV4.trans (hc.mono hV4.size)
    have HR1 := Lib.hid (hcr.mono (Y := (· < w10.heap.size)) fun j hj => hj.2)
    refine hK.out _ _ (HSS.out _ hV5) (fun hS => ?_)
    clear hK K hc KS2 hcr
    refine wpAnyH_ready (rs := [37]) (by kernel_rfl) (by simp) ?_
    refine AllReadyH.cons rfl (fun K hK => ?_) AllReadyH.nil
    go_simp
    (with_reducible refine (KS1.out _ hV5).mono ?_)
    rintro e w11 ⟨rk2, rn2, rv2, rA2, rm2, rc2, rD2, rfl, hcr, hc⟩
    have hV6 := hV5.trans (hc.mono hV5.size)
    have HSM := Lib.hid (sameC_yes (max rD rD2) (simpleL t) _ _ _ _ _ _ _ _ w11 ((HR1.out.below hc).deeper (Nat.le_max_left _ _)) ((hcr.mono (Y := (· < w11.heap.size)) fun j hj => hj.2).deeper (Nat.le_max_right _ _)))
    refine hK.out _ _ (HSS.out _ hV6) (fun hS => ?_)
    clear hK K hc KS1 hcr HR1
    refine wpAnyH_ready (rs := [38]) (by kernel_rfl) (by simp) ?_
    refine AllReadyH.cons rfl (fun K hK => ?_) AllReadyH.nil
    go_simp
    (with_reducible refine HSM.out.mono ?_)
    rintro e w12 ⟨rfl, hc⟩
    have hV7 := hV6.trans (hc.mono hV6.size)
    refine hK.out _ _ (HSS.out _ hV7) (fun hS => ?_)
    clear hK K hc HSM
    refine wpAnyH_ready (rs := [39]) (by kernel_rfl) (by simp) ?_
    refine AllReadyH.cons rfl (fun K hK => ?_) AllReadyH.nil
    go_simp
    refine hK.out _ _ hS (fun hS => ?_)
    clear hK K
    refine wpAnyH_ready (rs := [40]) (by kernel_rfl) (by simp) ?_
    refine AllReadyH.cons rfl (fun K hK => ?_) AllReadyH.nil
    go_simp
    refine hK.out _ _ hS (fun hS => ?_)
    clear hK K
    refine wpAnyH_done (by kernel_rfl) ?_ _
    go_wp2
    go_ret
    exact ⟨rfl, hbW.trans ((hBVb.trans ((Below.undrew hV7).mono hBVb.size)).mono hbW.size)⟩
  · rw [hx] at HX
    rw [hy] at HY
    have HHX := Lib.hid hx
    have HHY := Lib.hid hy
    clear hx hy
    go_wp2_with fail
    refine wp_region_held_drew (S := fun W => W.cell? ⟨w.heap.size, 0, none⟩ = some (.int .i64 k) ∧ W.cell? ⟨w.heap.size, 1, none⟩ = some (.string n) ∧ W.cell? ⟨w.heap.size, 2, none⟩ = some (.string v) ∧ W.cell? ⟨w.heap.size, 3, none⟩ = some (.slice A m c) ∧ W.cell? ⟨w.heap.size + 1, 0, none⟩ = some (.int .i64 k2) ∧ W.cell? ⟨w.heap.size + 1, 1, none⟩ = some (.string n2) ∧ W.cell? ⟨w.heap.size + 1, 2, none⟩ = some (.string v2) ∧ W.cell? ⟨w.heap.size + 1, 3, none⟩ = some (.slice A2 m2 c2) ∧ W.cell? ⟨w.heap.size + 1 + 1, 0, none⟩ = some (.string nm) ∧ W.cell? ⟨w.heap.size + 1 + 1, 1, none⟩ = some (.slice PA pm pc)) mixed ⟨p0, p1, p2, p3, r0, r1, r2, r3, q0, q1⟩ (fun hS => ?_)
    clear p0 p1 p2 p3 r0 r1 r2 r3 q0 q1
    refine wpAnyH_take (i := 0) (v := .agg #[.int .i64 k, .string n, .string v, .slice A m c]) rfl (by kernel_rfl) (by kernel_rfl) (by kernel_rfl) (fun _ _ _ h => h) (Or.inl ⟨by rfl, fun W hW => by obtain ⟨h0, h1, h2, h3, h4, h5, h6, h7, h8, h9⟩ := hW; go_simp⟩) hS ?_
    refine wpAnyH_take (i := 1) (v := .agg #[.string nm, .slice PA pm pc]) rfl (by kernel_rfl) (by kernel_rfl) (by kernel_rfl) (fun _ _ _ h => h) (Or.inl ⟨by rfl, fun W hW => by obtain ⟨h0, h1, h2, h3, h4, h5, h6, h7, h8, h9⟩ := hW; go_simp⟩) hS ?_
    refine wpAnyH_take (i := 3) (v := .agg #[.int .i64 k2, .string n2, .string v2, .slice A2 m2 c2]) rfl (by kernel_rfl) (by kernel_rfl) (by kernel_rfl) (fun _ _ _ h => h) (Or.inl ⟨by rfl, fun W hW => by obtain ⟨h0, h1, h2, h3, h4, h5, h6, h7, h8, h9⟩ := hW; go_simp⟩) hS ?_
    refine wpAnyH_take (i := 4) (v := .agg #[.string nm, .slice PA pm pc]) rfl (by kernel_rfl) (by kernel_rfl) (by kernel_rfl) (fun _ _ _ h => h) (Or.inl ⟨by rfl, fun W hW => by obtain ⟨h0, h1, h2, h3, h4, h5, h6, h7, h8, h9⟩ := hW; go_simp⟩) hS ?_
    refine wpAnyH_ready (rs := [2]) (by kernel_rfl) (by simp) ?_
    refine AllReadyH.cons rfl (fun K hK => ?_) AllReadyH.nil
    go_simp
    (with_reducible refine HX.out.mono ?_)
    clear HX
    rintro e w4 ⟨rfl, hc4⟩
    have hB4 := hB3.trans ((Below.undrew hc4).mono hB3.size)
    obtain ⟨p0, p1, p2, p3⟩ := blkc (HA.out.below hB4 (by simp; omega))
    obtain ⟨r0, r1, r2, r3⟩ := blkc (HC0.out.below hB4 (by simp))
    obtain ⟨q0, q1, -⟩ := blk2 (HQ.out.below hB4 (by simp))
    refine hK.out _ _ ⟨p0, p1, p2, p3, r0, r1, r2, r3, q0, q1⟩ (fun hS => ?_)
    clear hK K p0 p1 p2 p3 r0 r1 r2 r3 q0 q1
    refine wpAnyH_ready (rs := [5]) (by kernel_rfl) (by simp) ?_
    refine AllReadyH.cons rfl (fun K hK => ?_) AllReadyH.nil
    go_simp
    (with_reducible refine (HY.out _ hc4).mono ?_)
    clear HY
    rintro e w5 ⟨rfl, hc5⟩
    have hB5 := hB4.trans (hc5.mono hB4.size)
    obtain ⟨p0, p1, p2, p3⟩ := blkc (HA.out.below hB5 (by simp; omega))
    obtain ⟨r0, r1, r2, r3⟩ := blkc (HC0.out.below hB5 (by simp))
    obtain ⟨q0, q1, -⟩ := blk2 (HQ.out.below hB5 (by simp))
    refine hK.out _ _ ⟨p0, p1, p2, p3, r0, r1, r2, r3, q0, q1⟩ (fun hS => ?_)
    clear hK K hc4 hc5 q0 q1
    refine wpAnyH_take (i := 6) (v := .bool true) rfl (by kernel_rfl) (by kernel_rfl) (by kernel_rfl) (fun _ _ _ h => h) (Or.inl ⟨by rfl, fun W hW => by obtain ⟨h0, h1, h2, h3, h4, h5, h6, h7, h8, h9⟩ := hW; go_simp⟩) hS ?_
    refine wpAnyH_ready (rs := [7]) (by kernel_rfl) (by simp) ?_
    refine AllReadyH.cons rfl (fun K hK => ?_) AllReadyH.nil
    go_simp
    refine hK.out _ _ hS (fun hS => ?_)
    clear hK K
    refine wpAnyH_done (by kernel_rfl) ?_ _
    have hl0 : w.heap.size + 1 + 1 < w5.heap.size := by have := hB5.size; simp at this; omega
    have hla : w.heap.size < w5.heap.size := by omega
    have hlb : w.heap.size + 1 < w5.heap.size := by omega

    have hla1 : w.heap.size < w5.heap.size + 1 := by omega
    have hlb1 : w.heap.size + 1 < w5.heap.size + 1 := by omega
    have hla2 : w.heap.size < w5.heap.size + 1 + 1 := by omega
    have hlb2 : w.heap.size + 1 < w5.heap.size + 1 + 1 := by omega
    have hla3 : w.heap.size < w5.heap.size + 1 + 1 + 1 := by omega
    have hlb3 : w.heap.size + 1 < w5.heap.size + 1 + 1 + 1 := by omega
    have hla4 : w.heap.size < w5.heap.size + 1 + 1 + 1 + 1 := by omega
    have hlb4 : w.heap.size + 1 < w5.heap.size + 1 + 1 + 1 + 1 := by omega
    have hla5 : w.heap.size < w5.heap.size + 1 + 1 + 1 + 1 + 1 := by omega
    have hlb5 : w.heap.size + 1 < w5.heap.size + 1 + 1 + 1 + 1 + 1 := by omega
    have hla6 : w.heap.size < w5.heap.size + 1 + 1 + 1 + 1 + 1 + 1 := by omega
    have hlb6 : w.heap.size + 1 < w5.heap.size + 1 + 1 + 1 + 1 + 1 + 1 := by omega
    have hla7 : w.heap.size < w5.heap.size + 1 + 1 + 1 + 1 + 1 + 1 + 1 := by omega
    have hlb7 : w.heap.size + 1 < w5.heap.size + 1 + 1 + 1 + 1 + 1 + 1 + 1 := by omega
    go_wp2_with fail
    clear p0 p1 p2 p3 r0 r1 r2 r3
    have hbV : Below w5.heap.size w5 ((((((((w5.alloc (.cells #[.int .i64 k, .string n, .string v, .slice A m c] 76)).alloc (.cells #[.int .i64 3, .string ⟨#[]⟩, .string ⟨#[]⟩, .slice (some ⟨w5.heap.size, 0, none⟩) 1 1] 76)).alloc (.cells #[.int .i64 3, .string ⟨#[]⟩, .string ⟨#[]⟩, .slice (some ⟨w5.heap.size, 0, none⟩) 1 1] 76)).alloc (.cells #[.int .i64 3, .string ⟨#[]⟩, .string ⟨#[]⟩, .slice (some ⟨w5.heap.size + 1 + 1, 0, none⟩) 1 1] 76)).alloc (.cells #[.int .i64 k, .string n, .string v, .slice A m c, .int .i64 k2, .string n2, .string v2, .slice A2 m2 c2] 76)).alloc (.cells #[.int .i64 4, .string ⟨#[]⟩, .string ⟨#[]⟩, .slice (some ⟨w5.heap.size + 1 + 1 + 1 + 1, 0, none⟩) 2 2] 76)).alloc (.cells #[.int .i64 k, .string n, .string v, .slice A m c, .int .i64 k2, .string n2, .string v2, .slice A2 m2 c2] 76)).alloc (.cells #[.int .i64 5, .string ⟨#[]⟩, .string ⟨#[]⟩, .slice (some ⟨w5.heap.size + 1 + 1 + 1 + 1 + 1 + 1, 0, none⟩) 2 2] 76)) := ((((((((Below.refl _ w5).alloc (Nat.le_refl _) _).alloc (by simp; try omega) _).alloc (by simp; try omega) _).alloc (by simp; try omega) _).alloc (by simp; try omega) _).alloc (by simp; try omega) _).alloc (by simp; try omega) _).alloc (by simp; try omega) _
    have B0 : Blk ((((((((w5.alloc (.cells #[.int .i64 k, .string n, .string v, .slice A m c] 76)).alloc (.cells #[.int .i64 3, .string ⟨#[]⟩, .string ⟨#[]⟩, .slice (some ⟨w5.heap.size, 0, none⟩) 1 1] 76)).alloc (.cells #[.int .i64 3, .string ⟨#[]⟩, .string ⟨#[]⟩, .slice (some ⟨w5.heap.size, 0, none⟩) 1 1] 76)).alloc (.cells #[.int .i64 3, .string ⟨#[]⟩, .string ⟨#[]⟩, .slice (some ⟨w5.heap.size + 1 + 1, 0, none⟩) 1 1] 76)).alloc (.cells #[.int .i64 k, .string n, .string v, .slice A m c, .int .i64 k2, .string n2, .string v2, .slice A2 m2 c2] 76)).alloc (.cells #[.int .i64 4, .string ⟨#[]⟩, .string ⟨#[]⟩, .slice (some ⟨w5.heap.size + 1 + 1 + 1 + 1, 0, none⟩) 2 2] 76)).alloc (.cells #[.int .i64 k, .string n, .string v, .slice A m c, .int .i64 k2, .string n2, .string v2, .slice A2 m2 c2] 76)).alloc (.cells #[.int .i64 5, .string ⟨#[]⟩, .string ⟨#[]⟩, .slice (some ⟨w5.heap.size + 1 + 1 + 1 + 1 + 1 + 1, 0, none⟩) 2 2] 76)) (w5.heap.size) 76 #[.int .i64 k, .string n, .string v, .slice A m c] := by simpa using (((((((Blk.new w5 76 #[.int .i64 k, .string n, .string v, .slice A m c]).alloc (.cells #[.int .i64 3, .string ⟨#[]⟩, .string ⟨#[]⟩, .slice (some ⟨w5.heap.size, 0, none⟩) 1 1] 76)).alloc (.cells #[.int .i64 3, .string ⟨#[]⟩, .string ⟨#[]⟩, .slice (some ⟨w5.heap.size, 0, none⟩) 1 1] 76)).alloc (.cells #[.int .i64 3, .string ⟨#[]⟩, .string ⟨#[]⟩, .slice (some ⟨w5.heap.size + 1 + 1, 0, none⟩) 1 1] 76)).alloc (.cells #[.int .i64 k, .string n, .string v, .slice A m c, .int .i64 k2, .string n2, .string v2, .slice A2 m2 c2] 76)).alloc (.cells #[.int .i64 4, .string ⟨#[]⟩, .string ⟨#[]⟩, .slice (some ⟨w5.heap.size + 1 + 1 + 1 + 1, 0, none⟩) 2 2] 76)).alloc (.cells #[.int .i64 k, .string n, .string v, .slice A m c, .int .i64 k2, .string n2, .string v2, .slice A2 m2 c2] 76)).alloc (.cells #[.int .i64 5, .string ⟨#[]⟩, .string ⟨#[]⟩, .slice (some ⟨w5.heap.size + 1 + 1 + 1 + 1 + 1 + 1, 0, none⟩) 2 2] 76)
    have B1 : Blk ((((((((w5.alloc (.cells #[.int .i64 k, .string n, .string v, .slice A m c] 76)).alloc (.cells #[.int .i64 3, .string ⟨#[]⟩, .string ⟨#[]⟩, .slice (some ⟨w5.heap.size, 0, none⟩) 1 1] 76)).alloc (.cells #[.int .i64 3, .string ⟨#[]⟩, .string ⟨#[]⟩, .slice (some ⟨w5.heap.size, 0, none⟩) 1 1] 76)).alloc (.cells #[.int .i64 3, .string ⟨#[]⟩, .string ⟨#[]⟩, .slice (some ⟨w5.heap.size + 1 + 1, 0, none⟩) 1 1] 76)).alloc (.cells #[.int .i64 k, .string n, .string v, .slice A m c, .int .i64 k2, .string n2, .string v2, .slice A2 m2 c2] 76)).alloc (.cells #[.int .i64 4, .string ⟨#[]⟩, .string ⟨#[]⟩, .slice (some ⟨w5.heap.size + 1 + 1 + 1 + 1, 0, none⟩) 2 2] 76)).alloc (.cells #[.int .i64 k, .string n, .string v, .slice A m c, .int .i64 k2, .string n2, .string v2, .slice A2 m2 c2] 76)).alloc (.cells #[.int .i64 5, .string ⟨#[]⟩, .string ⟨#[]⟩, .slice (some ⟨w5.heap.size + 1 + 1 + 1 + 1 + 1 + 1, 0, none⟩) 2 2] 76)) (w5.heap.size + 1) 76 #[.int .i64 3, .string ⟨#[]⟩, .string ⟨#[]⟩, .slice (some ⟨w5.heap.size, 0, none⟩) 1 1] := by simpa using ((((((Blk.new (w5.alloc (.cells #[.int .i64 k, .string n, .string v, .slice A m c] 76)) 76 #[.int .i64 3, .string ⟨#[]⟩, .string ⟨#[]⟩, .slice (some ⟨w5.heap.size, 0, none⟩) 1 1]).alloc (.cells #[.int .i64 3, .string ⟨#[]⟩, .string ⟨#[]⟩, .slice (some ⟨w5.heap.size, 0, none⟩) 1 1] 76)).alloc (.cells #[.int .i64 3, .string ⟨#[]⟩, .string ⟨#[]⟩, .slice (some ⟨w5.heap.size + 1 + 1, 0, none⟩) 1 1] 76)).alloc (.cells #[.int .i64 k, .string n, .string v, .slice A m c, .int .i64 k2, .string n2, .string v2, .slice A2 m2 c2] 76)).alloc (.cells #[.int .i64 4, .string ⟨#[]⟩, .string ⟨#[]⟩, .slice (some ⟨w5.heap.size + 1 + 1 + 1 + 1, 0, none⟩) 2 2] 76)).alloc (.cells #[.int .i64 k, .string n, .string v, .slice A m c, .int .i64 k2, .string n2, .string v2, .slice A2 m2 c2] 76)).alloc (.cells #[.int .i64 5, .string ⟨#[]⟩, .string ⟨#[]⟩, .slice (some ⟨w5.heap.size + 1 + 1 + 1 + 1 + 1 + 1, 0, none⟩) 2 2] 76)
    have B2 : Blk ((((((((w5.alloc (.cells #[.int .i64 k, .string n, .string v, .slice A m c] 76)).alloc (.cells #[.int .i64 3, .string ⟨#[]⟩, .string ⟨#[]⟩, .slice (some ⟨w5.heap.size, 0, none⟩) 1 1] 76)).alloc (.cells #[.int .i64 3, .string ⟨#[]⟩, .string ⟨#[]⟩, .slice (some ⟨w5.heap.size, 0, none⟩) 1 1] 76)).alloc (.cells #[.int .i64 3, .string ⟨#[]⟩, .string ⟨#[]⟩, .slice (some ⟨w5.heap.size + 1 + 1, 0, none⟩) 1 1] 76)).alloc (.cells #[.int .i64 k, .string n, .string v, .slice A m c, .int .i64 k2, .string n2, .string v2, .slice A2 m2 c2] 76)).alloc (.cells #[.int .i64 4, .string ⟨#[]⟩, .string ⟨#[]⟩, .slice (some ⟨w5.heap.size + 1 + 1 + 1 + 1, 0, none⟩) 2 2] 76)).alloc (.cells #[.int .i64 k, .string n, .string v, .slice A m c, .int .i64 k2, .string n2, .string v2, .slice A2 m2 c2] 76)).alloc (.cells #[.int .i64 5, .string ⟨#[]⟩, .string ⟨#[]⟩, .slice (some ⟨w5.heap.size + 1 + 1 + 1 + 1 + 1 + 1, 0, none⟩) 2 2] 76)) (w5.heap.size + 1 + 1) 76 #[.int .i64 3, .string ⟨#[]⟩, .string ⟨#[]⟩, .slice (some ⟨w5.heap.size, 0, none⟩) 1 1] := by simpa using (((((Blk.new ((w5.alloc (.cells #[.int .i64 k, .string n, .string v, .slice A m c] 76)).alloc (.cells #[.int .i64 3, .string ⟨#[]⟩, .string ⟨#[]⟩, .slice (some ⟨w5.heap.size, 0, none⟩) 1 1] 76)) 76 #[.int .i64 3, .string ⟨#[]⟩, .string ⟨#[]⟩, .slice (some ⟨w5.heap.size, 0, none⟩) 1 1]).alloc (.cells #[.int .i64 3, .string ⟨#[]⟩, .string ⟨#[]⟩, .slice (some ⟨w5.heap.size + 1 + 1, 0, none⟩) 1 1] 76)).alloc (.cells #[.int .i64 k, .string n, .string v, .slice A m c, .int .i64 k2, .string n2, .string v2, .slice A2 m2 c2] 76)).alloc (.cells #[.int .i64 4, .string ⟨#[]⟩, .string ⟨#[]⟩, .slice (some ⟨w5.heap.size + 1 + 1 + 1 + 1, 0, none⟩) 2 2] 76)).alloc (.cells #[.int .i64 k, .string n, .string v, .slice A m c, .int .i64 k2, .string n2, .string v2, .slice A2 m2 c2] 76)).alloc (.cells #[.int .i64 5, .string ⟨#[]⟩, .string ⟨#[]⟩, .slice (some ⟨w5.heap.size + 1 + 1 + 1 + 1 + 1 + 1, 0, none⟩) 2 2] 76)
    have B3 : Blk ((((((((w5.alloc (.cells #[.int .i64 k, .string n, .string v, .slice A m c] 76)).alloc (.cells #[.int .i64 3, .string ⟨#[]⟩, .string ⟨#[]⟩, .slice (some ⟨w5.heap.size, 0, none⟩) 1 1] 76)).alloc (.cells #[.int .i64 3, .string ⟨#[]⟩, .string ⟨#[]⟩, .slice (some ⟨w5.heap.size, 0, none⟩) 1 1] 76)).alloc (.cells #[.int .i64 3, .string ⟨#[]⟩, .string ⟨#[]⟩, .slice (some ⟨w5.heap.size + 1 + 1, 0, none⟩) 1 1] 76)).alloc (.cells #[.int .i64 k, .string n, .string v, .slice A m c, .int .i64 k2, .string n2, .string v2, .slice A2 m2 c2] 76)).alloc (.cells #[.int .i64 4, .string ⟨#[]⟩, .string ⟨#[]⟩, .slice (some ⟨w5.heap.size + 1 + 1 + 1 + 1, 0, none⟩) 2 2] 76)).alloc (.cells #[.int .i64 k, .string n, .string v, .slice A m c, .int .i64 k2, .string n2, .string v2, .slice A2 m2 c2] 76)).alloc (.cells #[.int .i64 5, .string ⟨#[]⟩, .string ⟨#[]⟩, .slice (some ⟨w5.heap.size + 1 + 1 + 1 + 1 + 1 + 1, 0, none⟩) 2 2] 76)) (w5.heap.size + 1 + 1 + 1) 76 #[.int .i64 3, .string ⟨#[]⟩, .string ⟨#[]⟩, .slice (some ⟨w5.heap.size + 1 + 1, 0, none⟩) 1 1] := by simpa using ((((Blk.new (((w5.alloc (.cells #[.int .i64 k, .string n, .string v, .slice A m c] 76)).alloc (.cells #[.int .i64 3, .string ⟨#[]⟩, .string ⟨#[]⟩, .slice (some ⟨w5.heap.size, 0, none⟩) 1 1] 76)).alloc (.cells #[.int .i64 3, .string ⟨#[]⟩, .string ⟨#[]⟩, .slice (some ⟨w5.heap.size, 0, none⟩) 1 1] 76)) 76 #[.int .i64 3, .string ⟨#[]⟩, .string ⟨#[]⟩, .slice (some ⟨w5.heap.size + 1 + 1, 0, none⟩) 1 1]).alloc (.cells #[.int .i64 k, .string n, .string v, .slice A m c, .int .i64 k2, .string n2, .string v2, .slice A2 m2 c2] 76)).alloc (.cells #[.int .i64 4, .string ⟨#[]⟩, .string ⟨#[]⟩, .slice (some ⟨w5.heap.size + 1 + 1 + 1 + 1, 0, none⟩) 2 2] 76)).alloc (.cells #[.int .i64 k, .string n, .string v, .slice A m c, .int .i64 k2, .string n2, .string v2, .slice A2 m2 c2] 76)).alloc (.cells #[.int .i64 5, .string ⟨#[]⟩, .string ⟨#[]⟩, .slice (some ⟨w5.heap.size + 1 + 1 + 1 + 1 + 1 + 1, 0, none⟩) 2 2] 76)
    have B4 : Blk ((((((((w5.alloc (.cells #[.int .i64 k, .string n, .string v, .slice A m c] 76)).alloc (.cells #[.int .i64 3, .string ⟨#[]⟩, .string ⟨#[]⟩, .slice (some ⟨w5.heap.size, 0, none⟩) 1 1] 76)).alloc (.cells #[.int .i64 3, .string ⟨#[]⟩, .string ⟨#[]⟩, .slice (some ⟨w5.heap.size, 0, none⟩) 1 1] 76)).alloc (.cells #[.int .i64 3, .string ⟨#[]⟩, .string ⟨#[]⟩, .slice (some ⟨w5.heap.size + 1 + 1, 0, none⟩) 1 1] 76)).alloc (.cells #[.int .i64 k, .string n, .string v, .slice A m c, .int .i64 k2, .string n2, .string v2, .slice A2 m2 c2] 76)).alloc (.cells #[.int .i64 4, .string ⟨#[]⟩, .string ⟨#[]⟩, .slice (some ⟨w5.heap.size + 1 + 1 + 1 + 1, 0, none⟩) 2 2] 76)).alloc (.cells #[.int .i64 k, .string n, .string v, .slice A m c, .int .i64 k2, .string n2, .string v2, .slice A2 m2 c2] 76)).alloc (.cells #[.int .i64 5, .string ⟨#[]⟩, .string ⟨#[]⟩, .slice (some ⟨w5.heap.size + 1 + 1 + 1 + 1 + 1 + 1, 0, none⟩) 2 2] 76)) (w5.heap.size + 1 + 1 + 1 + 1) 76 #[.int .i64 k, .string n, .string v, .slice A m c, .int .i64 k2, .string n2, .string v2, .slice A2 m2 c2] := by simpa using (((Blk.new ((((w5.alloc (.cells #[.int .i64 k, .string n, .string v, .slice A m c] 76)).alloc (.cells #[.int .i64 3, .string ⟨#[]⟩, .string ⟨#[]⟩, .slice (some ⟨w5.heap.size, 0, none⟩) 1 1] 76)).alloc (.cells #[.int .i64 3, .string ⟨#[]⟩, .string ⟨#[]⟩, .slice (some ⟨w5.heap.size, 0, none⟩) 1 1] 76)).alloc (.cells #[.int .i64 3, .string ⟨#[]⟩, .string ⟨#[]⟩, .slice (some ⟨w5.heap.size + 1 + 1, 0, none⟩) 1 1] 76)) 76 #[.int .i64 k, .string n, .string v, .slice A m c, .int .i64 k2, .string n2, .string v2, .slice A2 m2 c2]).alloc (.cells #[.int .i64 4, .string ⟨#[]⟩, .string ⟨#[]⟩, .slice (some ⟨w5.heap.size + 1 + 1 + 1 + 1, 0, none⟩) 2 2] 76)).alloc (.cells #[.int .i64 k, .string n, .string v, .slice A m c, .int .i64 k2, .string n2, .string v2, .slice A2 m2 c2] 76)).alloc (.cells #[.int .i64 5, .string ⟨#[]⟩, .string ⟨#[]⟩, .slice (some ⟨w5.heap.size + 1 + 1 + 1 + 1 + 1 + 1, 0, none⟩) 2 2] 76)
    have B5 : Blk ((((((((w5.alloc (.cells #[.int .i64 k, .string n, .string v, .slice A m c] 76)).alloc (.cells #[.int .i64 3, .string ⟨#[]⟩, .string ⟨#[]⟩, .slice (some ⟨w5.heap.size, 0, none⟩) 1 1] 76)).alloc (.cells #[.int .i64 3, .string ⟨#[]⟩, .string ⟨#[]⟩, .slice (some ⟨w5.heap.size, 0, none⟩) 1 1] 76)).alloc (.cells #[.int .i64 3, .string ⟨#[]⟩, .string ⟨#[]⟩, .slice (some ⟨w5.heap.size + 1 + 1, 0, none⟩) 1 1] 76)).alloc (.cells #[.int .i64 k, .string n, .string v, .slice A m c, .int .i64 k2, .string n2, .string v2, .slice A2 m2 c2] 76)).alloc (.cells #[.int .i64 4, .string ⟨#[]⟩, .string ⟨#[]⟩, .slice (some ⟨w5.heap.size + 1 + 1 + 1 + 1, 0, none⟩) 2 2] 76)).alloc (.cells #[.int .i64 k, .string n, .string v, .slice A m c, .int .i64 k2, .string n2, .string v2, .slice A2 m2 c2] 76)).alloc (.cells #[.int .i64 5, .string ⟨#[]⟩, .string ⟨#[]⟩, .slice (some ⟨w5.heap.size + 1 + 1 + 1 + 1 + 1 + 1, 0, none⟩) 2 2] 76)) (w5.heap.size + 1 + 1 + 1 + 1 + 1) 76 #[.int .i64 4, .string ⟨#[]⟩, .string ⟨#[]⟩, .slice (some ⟨w5.heap.size + 1 + 1 + 1 + 1, 0, none⟩) 2 2] := by simpa using ((Blk.new (((((w5.alloc (.cells #[.int .i64 k, .string n, .string v, .slice A m c] 76)).alloc (.cells #[.int .i64 3, .string ⟨#[]⟩, .string ⟨#[]⟩, .slice (some ⟨w5.heap.size, 0, none⟩) 1 1] 76)).alloc (.cells #[.int .i64 3, .string ⟨#[]⟩, .string ⟨#[]⟩, .slice (some ⟨w5.heap.size, 0, none⟩) 1 1] 76)).alloc (.cells #[.int .i64 3, .string ⟨#[]⟩, .string ⟨#[]⟩, .slice (some ⟨w5.heap.size + 1 + 1, 0, none⟩) 1 1] 76)).alloc (.cells #[.int .i64 k, .string n, .string v, .slice A m c, .int .i64 k2, .string n2, .string v2, .slice A2 m2 c2] 76)) 76 #[.int .i64 4, .string ⟨#[]⟩, .string ⟨#[]⟩, .slice (some ⟨w5.heap.size + 1 + 1 + 1 + 1, 0, none⟩) 2 2]).alloc (.cells #[.int .i64 k, .string n, .string v, .slice A m c, .int .i64 k2, .string n2, .string v2, .slice A2 m2 c2] 76)).alloc (.cells #[.int .i64 5, .string ⟨#[]⟩, .string ⟨#[]⟩, .slice (some ⟨w5.heap.size + 1 + 1 + 1 + 1 + 1 + 1, 0, none⟩) 2 2] 76)
    have B6 : Blk ((((((((w5.alloc (.cells #[.int .i64 k, .string n, .string v, .slice A m c] 76)).alloc (.cells #[.int .i64 3, .string ⟨#[]⟩, .string ⟨#[]⟩, .slice (some ⟨w5.heap.size, 0, none⟩) 1 1] 76)).alloc (.cells #[.int .i64 3, .string ⟨#[]⟩, .string ⟨#[]⟩, .slice (some ⟨w5.heap.size, 0, none⟩) 1 1] 76)).alloc (.cells #[.int .i64 3, .string ⟨#[]⟩, .string ⟨#[]⟩, .slice (some ⟨w5.heap.size + 1 + 1, 0, none⟩) 1 1] 76)).alloc (.cells #[.int .i64 k, .string n, .string v, .slice A m c, .int .i64 k2, .string n2, .string v2, .slice A2 m2 c2] 76)).alloc (.cells #[.int .i64 4, .string ⟨#[]⟩, .string ⟨#[]⟩, .slice (some ⟨w5.heap.size + 1 + 1 + 1 + 1, 0, none⟩) 2 2] 76)).alloc (.cells #[.int .i64 k, .string n, .string v, .slice A m c, .int .i64 k2, .string n2, .string v2, .slice A2 m2 c2] 76)).alloc (.cells #[.int .i64 5, .string ⟨#[]⟩, .string ⟨#[]⟩, .slice (some ⟨w5.heap.size + 1 + 1 + 1 + 1 + 1 + 1, 0, none⟩) 2 2] 76)) (w5.heap.size + 1 + 1 + 1 + 1 + 1 + 1) 76 #[.int .i64 k, .string n, .string v, .slice A m c, .int .i64 k2, .string n2, .string v2, .slice A2 m2 c2] := by simpa using (Blk.new ((((((w5.alloc (.cells #[.int .i64 k, .string n, .string v, .slice A m c] 76)).alloc (.cells #[.int .i64 3, .string ⟨#[]⟩, .string ⟨#[]⟩, .slice (some ⟨w5.heap.size, 0, none⟩) 1 1] 76)).alloc (.cells #[.int .i64 3, .string ⟨#[]⟩, .string ⟨#[]⟩, .slice (some ⟨w5.heap.size, 0, none⟩) 1 1] 76)).alloc (.cells #[.int .i64 3, .string ⟨#[]⟩, .string ⟨#[]⟩, .slice (some ⟨w5.heap.size + 1 + 1, 0, none⟩) 1 1] 76)).alloc (.cells #[.int .i64 k, .string n, .string v, .slice A m c, .int .i64 k2, .string n2, .string v2, .slice A2 m2 c2] 76)).alloc (.cells #[.int .i64 4, .string ⟨#[]⟩, .string ⟨#[]⟩, .slice (some ⟨w5.heap.size + 1 + 1 + 1 + 1, 0, none⟩) 2 2] 76)) 76 #[.int .i64 k, .string n, .string v, .slice A m c, .int .i64 k2, .string n2, .string v2, .slice A2 m2 c2]).alloc (.cells #[.int .i64 5, .string ⟨#[]⟩, .string ⟨#[]⟩, .slice (some ⟨w5.heap.size + 1 + 1 + 1 + 1 + 1 + 1, 0, none⟩) 2 2] 76)
    have B7 : Blk ((((((((w5.alloc (.cells #[.int .i64 k, .string n, .string v, .slice A m c] 76)).alloc (.cells #[.int .i64 3, .string ⟨#[]⟩, .string ⟨#[]⟩, .slice (some ⟨w5.heap.size, 0, none⟩) 1 1] 76)).alloc (.cells #[.int .i64 3, .string ⟨#[]⟩, .string ⟨#[]⟩, .slice (some ⟨w5.heap.size, 0, none⟩) 1 1] 76)).alloc (.cells #[.int .i64 3, .string ⟨#[]⟩, .string ⟨#[]⟩, .slice (some ⟨w5.heap.size + 1 + 1, 0, none⟩) 1 1] 76)).alloc (.cells #[.int .i64 k, .string n, .string v, .slice A m c, .int .i64 k2, .string n2, .string v2, .slice A2 m2 c2] 76)).alloc (.cells #[.int .i64 4, .string ⟨#[]⟩, .string ⟨#[]⟩, .slice (some ⟨w5.heap.size + 1 + 1 + 1 + 1, 0, none⟩) 2 2] 76)).alloc (.cells #[.int .i64 k, .string n, .string v, .slice A m c, .int .i64 k2, .string n2, .string v2, .slice A2 m2 c2] 76)).alloc (.cells #[.int .i64 5, .string ⟨#[]⟩, .string ⟨#[]⟩, .slice (some ⟨w5.heap.size + 1 + 1 + 1 + 1 + 1 + 1, 0, none⟩) 2 2] 76)) (w5.heap.size + 1 + 1 + 1 + 1 + 1 + 1 + 1) 76 #[.int .i64 5, .string ⟨#[]⟩, .string ⟨#[]⟩, .slice (some ⟨w5.heap.size + 1 + 1 + 1 + 1 + 1 + 1, 0, none⟩) 2 2] := by simpa using Blk.new (((((((w5.alloc (.cells #[.int .i64 k, .string n, .string v, .slice A m c] 76)).alloc (.cells #[.int .i64 3, .string ⟨#[]⟩, .string ⟨#[]⟩, .slice (some ⟨w5.heap.size, 0, none⟩) 1 1] 76)).alloc (.cells #[.int .i64 3, .string ⟨#[]⟩, .string ⟨#[]⟩, .slice (some ⟨w5.heap.size, 0, none⟩) 1 1] 76)).alloc (.cells #[.int .i64 3, .string ⟨#[]⟩, .string ⟨#[]⟩, .slice (some ⟨w5.heap.size + 1 + 1, 0, none⟩) 1 1] 76)).alloc (.cells #[.int .i64 k, .string n, .string v, .slice A m c, .int .i64 k2, .string n2, .string v2, .slice A2 m2 c2] 76)).alloc (.cells #[.int .i64 4, .string ⟨#[]⟩, .string ⟨#[]⟩, .slice (some ⟨w5.heap.size + 1 + 1 + 1 + 1, 0, none⟩) 2 2] 76)).alloc (.cells #[.int .i64 k, .string n, .string v, .slice A m c, .int .i64 k2, .string n2, .string v2, .slice A2 m2 c2] 76)) 76 #[.int .i64 5, .string ⟨#[]⟩, .string ⟨#[]⟩, .slice (some ⟨w5.heap.size + 1 + 1 + 1 + 1 + 1 + 1, 0, none⟩) 2 2]
    have hBV := hB5.trans (hbV.mono hB5.size)
    have hta := HT.out.below hBV
    have htb := HT2.out.below hBV
    have hpv := HPS.out.below hBV
    have hAV := HA.out.below hBV (by simp; omega)
    have hQV := HQ.out.below hBV (by simp)
    clear hbV HT HT2 HPS
    generalize ((((((((w5.alloc (.cells #[.int .i64 k, .string n, .string v, .slice A m c] 76)).alloc (.cells #[.int .i64 3, .string ⟨#[]⟩, .string ⟨#[]⟩, .slice (some ⟨w5.heap.size, 0, none⟩) 1 1] 76)).alloc (.cells #[.int .i64 3, .string ⟨#[]⟩, .string ⟨#[]⟩, .slice (some ⟨w5.heap.size, 0, none⟩) 1 1] 76)).alloc (.cells #[.int .i64 3, .string ⟨#[]⟩, .string ⟨#[]⟩, .slice (some ⟨w5.heap.size + 1 + 1, 0, none⟩) 1 1] 76)).alloc (.cells #[.int .i64 k, .string n, .string v, .slice A m c, .int .i64 k2, .string n2, .string v2, .slice A2 m2 c2] 76)).alloc (.cells #[.int .i64 4, .string ⟨#[]⟩, .string ⟨#[]⟩, .slice (some ⟨w5.heap.size + 1 + 1 + 1 + 1, 0, none⟩) 2 2] 76)).alloc (.cells #[.int .i64 k, .string n, .string v, .slice A m c, .int .i64 k2, .string n2, .string v2, .slice A2 m2 c2] 76)).alloc (.cells #[.int .i64 5, .string ⟨#[]⟩, .string ⟨#[]⟩, .slice (some ⟨w5.heap.size + 1 + 1 + 1 + 1 + 1 + 1, 0, none⟩) 2 2] 76)) = V at *
    have hsz : w5.heap.size + 8 ≤ V.heap.size := by have := B7.lt; omega
    have cn : CondAt V (· < V.heap.size) (D + 1) (.mk 3 ⟨#[]⟩ ⟨#[]⟩ [t]) [.int .i64 3, .string ⟨#[]⟩, .string ⟨#[]⟩, .slice (some ⟨w5.heap.size, 0, none⟩) 1 1] := CondAt.of empty_str empty_str (by unfold maxLen; omega) (Nat.le_refl _) (one_kid B0 B0.lt hta)
    have c2 : CondAt V (· < V.heap.size) (D + 1 + 1) (.mk 3 ⟨#[]⟩ ⟨#[]⟩ [.mk 3 ⟨#[]⟩ ⟨#[]⟩ [t]]) [.int .i64 3, .string ⟨#[]⟩, .string ⟨#[]⟩, .slice (some ⟨w5.heap.size + 1 + 1, 0, none⟩) 1 1] := CondAt.of empty_str empty_str (by unfold maxLen; omega) (Nat.le_refl _) (one_kid B2 B2.lt cn)
    have ca : CondAt V (· < V.heap.size) (max D D2 + 1) (.mk 4 ⟨#[]⟩ ⟨#[]⟩ [t, t2]) [.int .i64 4, .string ⟨#[]⟩, .string ⟨#[]⟩, .slice (some ⟨w5.heap.size + 1 + 1 + 1 + 1, 0, none⟩) 2 2] := CondAt.of empty_str empty_str (by unfold maxLen; omega) (Nat.le_refl _) (two_kids B4 B4.lt (hta.deeper (Nat.le_max_left _ _)) (htb.deeper (Nat.le_max_right _ _)))
    have co : CondAt V (· < V.heap.size) (max D D2 + 1) (.mk 5 ⟨#[]⟩ ⟨#[]⟩ [t, t2]) [.int .i64 5, .string ⟨#[]⟩, .string ⟨#[]⟩, .slice (some ⟨w5.heap.size + 1 + 1 + 1 + 1 + 1 + 1, 0, none⟩) 2 2] := CondAt.of empty_str empty_str (by unfold maxLen; omega) (Nat.le_refl _) (two_kids B6 B6.lt (hta.deeper (Nat.le_max_left _ _)) (htb.deeper (Nat.le_max_right _ _)))
    have KN := Lib.hid (fun W (hb : Below V.drew.heap.size V.drew W) => cHolds_any nm PA pm pc ps (D + 1) (.mk 3 ⟨#[]⟩ ⟨#[]⟩ [t]) _ _ _ _ _ _ W (cn.drewB.below hb) (hpv.drewB.below hb) hpm)
    have K2 := Lib.hid (fun W (hb : Below V.drew.heap.size V.drew W) => cHolds_any nm PA pm pc ps (D + 1 + 1) (.mk 3 ⟨#[]⟩ ⟨#[]⟩ [.mk 3 ⟨#[]⟩ ⟨#[]⟩ [t]]) _ _ _ _ _ _ W (c2.drewB.below hb) (hpv.drewB.below hb) hpm)
    have KA := Lib.hid (fun W (hb : Below V.drew.heap.size V.drew W) => cHolds_any nm PA pm pc ps (max D D2 + 1) (.mk 4 ⟨#[]⟩ ⟨#[]⟩ [t, t2]) _ _ _ _ _ _ W (ca.drewB.below hb) (hpv.drewB.below hb) hpm)
    have KO := Lib.hid (fun W (hb : Below V.drew.heap.size V.drew W) => cHolds_any nm PA pm pc ps (max D D2 + 1) (.mk 5 ⟨#[]⟩ ⟨#[]⟩ [t, t2]) _ _ _ _ _ _ W (co.drewB.below hb) (hpv.drewB.below hb) hpm)
    have KS2 := Lib.hid (fun W (hb : Below V.drew.heap.size V.drew W) => cSimple_any (D + 1 + 1) (.mk 3 ⟨#[]⟩ ⟨#[]⟩ [.mk 3 ⟨#[]⟩ ⟨#[]⟩ [t]]) _ _ _ _ _ _ W (c2.drewB.below hb) (by rw [pn_two]; exact hnl))
    have KS1 := Lib.hid (fun W (hb : Below V.drew.heap.size V.drew W) => cSimple_any D t k n v A m c W (hta.drewB.below hb) hnl)
    rw [ps_not20 HR.out, ph_not, HHX.out] at KN
    rw [ps_two HR.out, ph_not, ph_not, HHX.out] at K2
    rw [ps_and HR.out HR2.out, ph_and, HHX.out, HHY.out] at KA
    rw [ps_or HR.out HR2.out, ph_or, HHX.out, HHY.out] at KO
    rw [psi_two HR.out] at KS2
    simp only [Bool.true_and, Bool.and_true, Bool.and_false, Bool.or_true, Bool.or_false, Bool.false_or, Bool.true_or, Bool.false_and, Bool.not_true, Bool.not_false] at KN K2 KA KO
    have HB1 := Lib.hid B1
    have HB3 := Lib.hid B3
    have HB5 := Lib.hid B5
    have HB7 := Lib.hid B7
    have HAV := Lib.hid hAV
    have HQV := Lib.hid hQV
    have HSS := Lib.hid (show ∀ W, Below V.drew.heap.size V.drew W → (W.cell? ⟨w5.heap.size + 1, 0, none⟩ = some (.int .i64 3) ∧ W.cell? ⟨w5.heap.size + 1, 1, none⟩ = some (.string ⟨#[]⟩) ∧ W.cell? ⟨w5.heap.size + 1, 2, none⟩ = some (.string ⟨#[]⟩) ∧ W.cell? ⟨w5.heap.size + 1, 3, none⟩ = some (.slice (some ⟨w5.heap.size, 0, none⟩) 1 1) ∧ W.cell? ⟨w5.heap.size + 1 + 1 + 1, 0, none⟩ = some (.int .i64 3) ∧ W.cell? ⟨w5.heap.size + 1 + 1 + 1, 1, none⟩ = some (.string ⟨#[]⟩) ∧ W.cell? ⟨w5.heap.size + 1 + 1 + 1, 2, none⟩ = some (.string ⟨#[]⟩) ∧ W.cell? ⟨w5.heap.size + 1 + 1 + 1, 3, none⟩ = some (.slice (some ⟨w5.heap.size + 1 + 1, 0, none⟩) 1 1) ∧ W.cell? ⟨w5.heap.size + 1 + 1 + 1 + 1 + 1, 0, none⟩ = some (.int .i64 4) ∧ W.cell? ⟨w5.heap.size + 1 + 1 + 1 + 1 + 1, 1, none⟩ = some (.string ⟨#[]⟩) ∧ W.cell? ⟨w5.heap.size + 1 + 1 + 1 + 1 + 1, 2, none⟩ = some (.string ⟨#[]⟩) ∧ W.cell? ⟨w5.heap.size + 1 + 1 + 1 + 1 + 1, 3, none⟩ = some (.slice (some ⟨w5.heap.size + 1 + 1 + 1 + 1, 0, none⟩) 2 2) ∧ W.cell? ⟨w5.heap.size + 1 + 1 + 1 + 1 + 1 + 1 + 1, 0, none⟩ = some (.int .i64 5) ∧ W.cell? ⟨w5.heap.size + 1 + 1 + 1 + 1 + 1 + 1 + 1, 1, none⟩ = some (.string ⟨#[]⟩) ∧ W.cell? ⟨w5.heap.size + 1 + 1 + 1 + 1 + 1 + 1 + 1, 2, none⟩ = some (.string ⟨#[]⟩) ∧ W.cell? ⟨w5.heap.size + 1 + 1 + 1 + 1 + 1 + 1 + 1, 3, none⟩ = some (.slice (some ⟨w5.heap.size + 1 + 1 + 1 + 1 + 1 + 1, 0, none⟩) 2 2) ∧ W.cell? ⟨w.heap.size, 0, none⟩ = some (.int .i64 k) ∧ W.cell? ⟨w.heap.size, 1, none⟩ = some (.string n) ∧ W.cell? ⟨w.heap.size, 2, none⟩ = some (.string v) ∧ W.cell? ⟨w.heap.size, 3, none⟩ = some (.slice A m c) ∧ W.cell? ⟨w.heap.size + 1 + 1, 0, none⟩ = some (.string nm) ∧ W.cell? ⟨w.heap.size + 1 + 1, 1, none⟩ = some (.slice PA pm pc)) from fun W hb => by
      obtain ⟨x0, x1, x2, x3⟩ := blkc (HB1.out.drew.below hb HB1.out.lt)
      obtain ⟨y0, y1, y2, y3⟩ := blkc (HB3.out.drew.below hb HB3.out.lt)
      obtain ⟨z0, z1, z2, z3⟩ := blkc (HB5.out.drew.below hb HB5.out.lt)
      obtain ⟨u0, u1, u2, u3⟩ := blkc (HB7.out.drew.below hb HB7.out.lt)
      obtain ⟨i0, i1, i2, i3⟩ := blkc (HAV.out.drew.below hb HAV.out.lt)
      obtain ⟨j0, j1, -⟩ := blk2 (HQV.out.drew.below hb HQV.out.lt)
      exact ⟨x0, x1, x2, x3, y0, y1, y2, y3, z0, z1, z2, z3, u0, u1, u2, u3, i0, i1, i2, i3, j0, j1⟩)
    have hV0 := Below.refl V.drew.heap.size V.drew
    have hBVb := hBV
    clear B0 B1 B2 B3 B4 B5 B6 B7 hAV hQV hta htb hpv cn c2 ca co HA HC0 HQ hBV
    refine wp_region_held_drew (S := fun W => W.cell? ⟨w5.heap.size + 1, 0, none⟩ = some (.int .i64 3) ∧ W.cell? ⟨w5.heap.size + 1, 1, none⟩ = some (.string ⟨#[]⟩) ∧ W.cell? ⟨w5.heap.size + 1, 2, none⟩ = some (.string ⟨#[]⟩) ∧ W.cell? ⟨w5.heap.size + 1, 3, none⟩ = some (.slice (some ⟨w5.heap.size, 0, none⟩) 1 1) ∧ W.cell? ⟨w5.heap.size + 1 + 1 + 1, 0, none⟩ = some (.int .i64 3) ∧ W.cell? ⟨w5.heap.size + 1 + 1 + 1, 1, none⟩ = some (.string ⟨#[]⟩) ∧ W.cell? ⟨w5.heap.size + 1 + 1 + 1, 2, none⟩ = some (.string ⟨#[]⟩) ∧ W.cell? ⟨w5.heap.size + 1 + 1 + 1, 3, none⟩ = some (.slice (some ⟨w5.heap.size + 1 + 1, 0, none⟩) 1 1) ∧ W.cell? ⟨w5.heap.size + 1 + 1 + 1 + 1 + 1, 0, none⟩ = some (.int .i64 4) ∧ W.cell? ⟨w5.heap.size + 1 + 1 + 1 + 1 + 1, 1, none⟩ = some (.string ⟨#[]⟩) ∧ W.cell? ⟨w5.heap.size + 1 + 1 + 1 + 1 + 1, 2, none⟩ = some (.string ⟨#[]⟩) ∧ W.cell? ⟨w5.heap.size + 1 + 1 + 1 + 1 + 1, 3, none⟩ = some (.slice (some ⟨w5.heap.size + 1 + 1 + 1 + 1, 0, none⟩) 2 2) ∧ W.cell? ⟨w5.heap.size + 1 + 1 + 1 + 1 + 1 + 1 + 1, 0, none⟩ = some (.int .i64 5) ∧ W.cell? ⟨w5.heap.size + 1 + 1 + 1 + 1 + 1 + 1 + 1, 1, none⟩ = some (.string ⟨#[]⟩) ∧ W.cell? ⟨w5.heap.size + 1 + 1 + 1 + 1 + 1 + 1 + 1, 2, none⟩ = some (.string ⟨#[]⟩) ∧ W.cell? ⟨w5.heap.size + 1 + 1 + 1 + 1 + 1 + 1 + 1, 3, none⟩ = some (.slice (some ⟨w5.heap.size + 1 + 1 + 1 + 1 + 1 + 1, 0, none⟩) 2 2) ∧ W.cell? ⟨w.heap.size, 0, none⟩ = some (.int .i64 k) ∧ W.cell? ⟨w.heap.size, 1, none⟩ = some (.string n) ∧ W.cell? ⟨w.heap.size, 2, none⟩ = some (.string v) ∧ W.cell? ⟨w.heap.size, 3, none⟩ = some (.slice A m c) ∧ W.cell? ⟨w.heap.size + 1 + 1, 0, none⟩ = some (.string nm) ∧ W.cell? ⟨w.heap.size + 1 + 1, 1, none⟩ = some (.slice PA pm pc)) mixed (HSS.out _ hV0) (fun hS => ?_)
    refine wpAnyH_take (i := 0) (v := .agg #[.int .i64 3, .string ⟨#[]⟩, .string ⟨#[]⟩, .slice (some ⟨w5.heap.size, 0, none⟩) 1 1]) rfl (by kernel_rfl) (by kernel_rfl) (by kernel_rfl) (fun _ _ _ h => h) (Or.inl ⟨by rfl, fun W hW => by obtain ⟨h0, h1, h2, h3, h4, h5, h6, h7, h8, h9, h10, h11, h12, h13, h14, h15, h16, h17, h18, h19, h20, h21⟩ := hW; go_simp⟩) hS ?_
    refine wpAnyH_take (i := 1) (v := .agg #[.string nm, .slice PA pm pc]) rfl (by kernel_rfl) (by kernel_rfl) (by kernel_rfl) (fun _ _ _ h => h) (Or.inl ⟨by rfl, fun W hW => by obtain ⟨h0, h1, h2, h3, h4, h5, h6, h7, h8, h9, h10, h11, h12, h13, h14, h15, h16, h17, h18, h19, h20, h21⟩ := hW; go_simp⟩) hS ?_
    refine wpAnyH_take (i := 3) (v := .bool true) rfl (by kernel_rfl) (by kernel_rfl) (by kernel_rfl) (fun _ _ _ h => h) (Or.inl ⟨by rfl, fun W hW => by obtain ⟨h0, h1, h2, h3, h4, h5, h6, h7, h8, h9, h10, h11, h12, h13, h14, h15, h16, h17, h18, h19, h20, h21⟩ := hW; go_simp⟩) hS ?_
    refine wpAnyH_take (i := 4) (v := .bool false) rfl (by kernel_rfl) (by kernel_rfl) (by kernel_rfl) (fun _ _ _ h => h) (Or.inl ⟨by rfl, fun W hW => by obtain ⟨h0, h1, h2, h3, h4, h5, h6, h7, h8, h9, h10, h11, h12, h13, h14, h15, h16, h17, h18, h19, h20, h21⟩ := hW; go_simp⟩) hS ?_
    refine wpAnyH_ready (rs := [2]) (by kernel_rfl) (by simp) ?_
    refine AllReadyH.cons rfl (fun K hK => ?_) AllReadyH.nil
    go_simp
    (with_reducible refine (KN.out _ hV0).mono ?_)
    rintro e w6 ⟨rfl, hc⟩
    have hV1 := hV0.trans (hc.mono hV0.size)
    refine hK.out _ _ (HSS.out _ hV1) (fun hS => ?_)
    clear hK K hc KN
    refine wpAnyH_ready (rs := [5]) (by kernel_rfl) (by simp) ?_
    refine AllReadyH.cons rfl (fun K hK => ?_) AllReadyH.nil
    go_simp
    refine hK.out _ _ hS (fun hS => ?_)
    clear hK K
    refine wpAnyH_ready (rs := [6]) (by kernel_rfl) (by simp) ?_
    refine AllReadyH.cons rfl (fun K hK => ?_) AllReadyH.nil
    go_simp
    refine hK.out _ _ hS (fun hS => ?_)
    clear hK K
    refine wpAnyH_take (i := 7) (v := .agg #[.int .i64 3, .string ⟨#[]⟩, .string ⟨#[]⟩, .slice (some ⟨w5.heap.size + 1 + 1, 0, none⟩) 1 1]) rfl (by kernel_rfl) (by kernel_rfl) (by kernel_rfl) (fun _ _ _ h => h) (Or.inl ⟨by rfl, fun W hW => by obtain ⟨h0, h1, h2, h3, h4, h5, h6, h7, h8, h9, h10, h11, h12, h13, h14, h15, h16, h17, h18, h19, h20, h21⟩ := hW; go_simp⟩) hS ?_
    refine wpAnyH_take (i := 8) (v := .agg #[.string nm, .slice PA pm pc]) rfl (by kernel_rfl) (by kernel_rfl) (by kernel_rfl) (fun _ _ _ h => h) (Or.inl ⟨by rfl, fun W hW => by obtain ⟨h0, h1, h2, h3, h4, h5, h6, h7, h8, h9, h10, h11, h12, h13, h14, h15, h16, h17, h18, h19, h20, h21⟩ := hW; go_simp⟩) hS ?_
    refine wpAnyH_take (i := 10) (v := .bool true) rfl (by kernel_rfl) (by kernel_rfl) (by kernel_rfl) (fun _ _ _ h => h) (Or.inl ⟨by rfl, fun W hW => by obtain ⟨h0, h1, h2, h3, h4, h5, h6, h7, h8, h9, h10, h11, h12, h13, h14, h15, h16, h17, h18, h19, h20, h21⟩ := hW; go_simp⟩) hS ?_
    refine wpAnyH_ready (rs := [9]) (by kernel_rfl) (by simp) ?_
    refine AllReadyH.cons rfl (fun K hK => ?_) AllReadyH.nil
    go_simp
    (with_reducible refine (K2.out _ hV1).mono ?_)
    rintro e w7 ⟨rfl, hc⟩
    have hV2 := hV1.trans (hc.mono hV1.size)
    refine hK.out _ _ (HSS.out _ hV2) (fun hS => ?_)
    clear hK K hc K2
    refine wpAnyH_ready (rs := [11]) (by kernel_rfl) (by simp) ?_
    refine AllReadyH.cons rfl (fun K hK => ?_) AllReadyH.nil
    go_simp
    refine hK.out _ _ hS (fun hS => ?_)
    clear hK K
    refine wpAnyH_ready (rs := [12]) (by kernel_rfl) (by simp) ?_
    refine AllReadyH.cons rfl (fun K hK => ?_) AllReadyH.nil
    go_simp
    refine hK.out _ _ hS (fun hS => ?_)
    clear hK K
    refine wpAnyH_ready (rs := [13]) (by kernel_rfl) (by simp) ?_
    refine AllReadyH.cons rfl (fun K hK => ?_) AllReadyH.nil
    go_simp
    refine hK.out _ _ hS (fun hS => ?_)
    clear hK K
    refine wpAnyH_take (i := 14) (v := .agg #[.int .i64 4, .string ⟨#[]⟩, .string ⟨#[]⟩, .slice (some ⟨w5.heap.size + 1 + 1 + 1 + 1, 0, none⟩) 2 2]) rfl (by kernel_rfl) (by kernel_rfl) (by kernel_rfl) (fun _ _ _ h => h) (Or.inl ⟨by rfl, fun W hW => by obtain ⟨h0, h1, h2, h3, h4, h5, h6, h7, h8, h9, h10, h11, h12, h13, h14, h15, h16, h17, h18, h19, h20, h21⟩ := hW; go_simp⟩) hS ?_
    refine wpAnyH_take (i := 15) (v := .agg #[.string nm, .slice PA pm pc]) rfl (by kernel_rfl) (by kernel_rfl) (by kernel_rfl) (fun _ _ _ h => h) (Or.inl ⟨by rfl, fun W hW => by obtain ⟨h0, h1, h2, h3, h4, h5, h6, h7, h8, h9, h10, h11, h12, h13, h14, h15, h16, h17, h18, h19, h20, h21⟩ := hW; go_simp⟩) hS ?_
    refine wpAnyH_take (i := 17) (v := .bool true) rfl (by kernel_rfl) (by kernel_rfl) (by kernel_rfl) (fun _ _ _ h => h) (Or.inl ⟨by rfl, fun W hW => by obtain ⟨h0, h1, h2, h3, h4, h5, h6, h7, h8, h9, h10, h11, h12, h13, h14, h15, h16, h17, h18, h19, h20, h21⟩ := hW; go_simp⟩) hS ?_
    refine wpAnyH_ready (rs := [16]) (by kernel_rfl) (by simp) ?_
    refine AllReadyH.cons rfl (fun K hK => ?_) AllReadyH.nil
    go_simp
    (with_reducible refine (KA.out _ hV2).mono ?_)
    rintro e w8 ⟨rfl, hc⟩
    have hV3 := hV2.trans (hc.mono hV2.size)
    refine hK.out _ _ (HSS.out _ hV3) (fun hS => ?_)
    clear hK K hc KA
    refine wpAnyH_ready (rs := [18]) (by kernel_rfl) (by simp) ?_
    refine AllReadyH.cons rfl (fun K hK => ?_) AllReadyH.nil
    go_simp
    refine hK.out _ _ hS (fun hS => ?_)
    clear hK K
    refine wpAnyH_take (i := 19) (v := .bool false) rfl (by kernel_rfl) (by kernel_rfl) (by kernel_rfl) (fun _ _ _ h => h) (Or.inl ⟨by rfl, fun W hW => by obtain ⟨h0, h1, h2, h3, h4, h5, h6, h7, h8, h9, h10, h11, h12, h13, h14, h15, h16, h17, h18, h19, h20, h21⟩ := hW; go_simp⟩) hS ?_
    refine wpAnyH_ready (rs := [20]) (by kernel_rfl) (by simp) ?_
    refine AllReadyH.cons rfl (fun K hK => ?_) AllReadyH.nil
    go_simp
    refine hK.out _ _ hS (fun hS => ?_)
    clear hK K
    refine wpAnyH_ready (rs := [21]) (by kernel_rfl) (by simp) ?_
    refine AllReadyH.cons rfl (fun K hK => ?_) AllReadyH.nil
    go_simp
    refine hK.out _ _ hS (fun hS => ?_)
    clear hK K
    refine wpAnyH_ready (rs := [22]) (by kernel_rfl) (by simp) ?_
    refine AllReadyH.cons rfl (fun K hK => ?_) AllReadyH.nil
    go_simp
    refine hK.out _ _ hS (fun hS => ?_)
    clear hK K
    refine wpAnyH_ready (rs := [23]) (by kernel_rfl) (by simp) ?_
    refine AllReadyH.cons rfl (fun K hK => ?_) AllReadyH.nil
    go_simp
    refine hK.out _ _ hS (fun hS => ?_)
    clear hK K
    refine wpAnyH_take (i := 24) (v := .agg #[.int .i64 5, .string ⟨#[]⟩, .string ⟨#[]⟩, .slice (some ⟨w5.heap.size + 1 + 1 + 1 + 1 + 1 + 1, 0, none⟩) 2 2]) rfl (by kernel_rfl) (by kernel_rfl) (by kernel_rfl) (fun _ _ _ h => h) (Or.inl ⟨by rfl, fun W hW => by obtain ⟨h0, h1, h2, h3, h4, h5, h6, h7, h8, h9, h10, h11, h12, h13, h14, h15, h16, h17, h18, h19, h20, h21⟩ := hW; go_simp⟩) hS ?_
    refine wpAnyH_take (i := 25) (v := .agg #[.string nm, .slice PA pm pc]) rfl (by kernel_rfl) (by kernel_rfl) (by kernel_rfl) (fun _ _ _ h => h) (Or.inl ⟨by rfl, fun W hW => by obtain ⟨h0, h1, h2, h3, h4, h5, h6, h7, h8, h9, h10, h11, h12, h13, h14, h15, h16, h17, h18, h19, h20, h21⟩ := hW; go_simp⟩) hS ?_
    refine wpAnyH_take (i := 27) (v := .bool true) rfl (by kernel_rfl) (by kernel_rfl) (by kernel_rfl) (fun _ _ _ h => h) (Or.inl ⟨by rfl, fun W hW => by obtain ⟨h0, h1, h2, h3, h4, h5, h6, h7, h8, h9, h10, h11, h12, h13, h14, h15, h16, h17, h18, h19, h20, h21⟩ := hW; go_simp⟩) hS ?_
    refine wpAnyH_ready (rs := [26]) (by kernel_rfl) (by simp) ?_
    refine AllReadyH.cons rfl (fun K hK => ?_) AllReadyH.nil
    go_simp
    (with_reducible refine (KO.out _ hV3).mono ?_)
    rintro e w9 ⟨rfl, hc⟩
    have hV4 := hV3.trans (hc.mono hV3.size)
    refine hK.out _ _ (HSS.out _ hV4) (fun hS => ?_)
    clear hK K hc KO
    refine wpAnyH_ready (rs := [28]) (by kernel_rfl) (by simp) ?_
    refine AllReadyH.cons rfl (fun K hK => ?_) AllReadyH.nil
    go_simp
    refine hK.out _ _ hS (fun hS => ?_)
    clear hK K
    refine wpAnyH_take (i := 29) (v := undef) rfl (by kernel_rfl) (by kernel_rfl) (by kernel_rfl) (fun _ _ _ h => h) (Or.inr ⟨by rfl, rfl⟩) hS ?_
    refine wpAnyH_ready (rs := [30]) (by kernel_rfl) (by simp) ?_
    refine AllReadyH.cons rfl (fun K hK => ?_) AllReadyH.nil
    go_simp
    refine hK.out _ _ hS (fun hS => ?_)
    clear hK K
    refine wpAnyH_ready (rs := [31]) (by kernel_rfl) (by simp) ?_
    refine AllReadyH.cons rfl (fun K hK => ?_) AllReadyH.nil
    go_simp
    refine hK.out _ _ hS (fun hS => ?_)
    clear hK K
    refine wpAnyH_ready (rs := [32]) (by kernel_rfl) (by simp) ?_
    refine AllReadyH.cons rfl (fun K hK => ?_) AllReadyH.nil
    go_simp
    refine hK.out _ _ hS (fun hS => ?_)
    clear hK K
    refine wpAnyH_ready (rs := [33]) (by kernel_rfl) (by simp) ?_
    refine AllReadyH.cons rfl (fun K hK => ?_) AllReadyH.nil
    go_simp
    refine hK.out _ _ hS (fun hS => ?_)
    clear hK K
    refine wpAnyH_take (i := 34) (v := .agg #[.int .i64 3, .string ⟨#[]⟩, .string ⟨#[]⟩, .slice (some ⟨w5.heap.size + 1 + 1, 0, none⟩) 1 1]) rfl (by kernel_rfl) (by kernel_rfl) (by kernel_rfl) (fun _ _ _ h => h) (Or.inl ⟨by rfl, fun W hW => by obtain ⟨h0, h1, h2, h3, h4, h5, h6, h7, h8, h9, h10, h11, h12, h13, h14, h15, h16, h17, h18, h19, h20, h21⟩ := hW; go_simp⟩) hS ?_
    refine wpAnyH_take (i := 36) (v := .agg #[.int .i64 k, .string n, .string v, .slice A m c]) rfl (by kernel_rfl) (by kernel_rfl) (by kernel_rfl) (fun _ _ _ h => h) (Or.inl ⟨by rfl, fun W hW => by obtain ⟨h0, h1, h2, h3, h4, h5, h6, h7, h8, h9, h10, h11, h12, h13, h14, h15, h16, h17, h18, h19, h20, h21⟩ := hW; go_simp⟩) hS ?_
    refine wpAnyH_ready (rs := [35]) (by kernel_rfl) (by simp) ?_
    refine AllReadyH.cons rfl (fun K hK => ?_) AllReadyH.nil
    go_simp
    (with_reducible refine (KS2.out _ hV4).mono ?_)
    rintro e w10 ⟨rk, rn, rv, rA, rm, rc, rD, rfl, hcr, hc⟩
    have hV5 := hV4.trans (hc.mono hV4.size)
    have HR1 := Lib.hid (hcr.mono (Y := (· < w10.heap.size)) fun j hj => hj.2)
    refine hK.out _ _ (HSS.out _ hV5) (fun hS => ?_)
    clear hK K hc KS2 hcr
    refine wpAnyH_ready (rs := [37]) (by kernel_rfl) (by simp) ?_
    refine AllReadyH.cons rfl (fun K hK => ?_) AllReadyH.nil
    go_simp
    (with_reducible refine (KS1.out _ hV5).mono ?_)
    rintro e w11 ⟨rk2, rn2, rv2, rA2, rm2, rc2, rD2, rfl, hcr, hc⟩
    have hV6 := hV5.trans (hc.mono hV5.size)
    have HSM := Lib.hid (sameC_yes (max rD rD2) (simpleL t) _ _ _ _ _ _ _ _ w11 ((HR1.out.below hc).deeper (Nat.le_max_left _ _)) ((hcr.mono (Y := (· < w11.heap.size)) fun j hj => hj.2).deeper (Nat.le_max_right _ _)))
    refine hK.out _ _ (HSS.out _ hV6) (fun hS => ?_)
    clear hK K hc KS1 hcr HR1
    refine wpAnyH_ready (rs := [38]) (by kernel_rfl) (by simp) ?_
    refine AllReadyH.cons rfl (fun K hK => ?_) AllReadyH.nil
    go_simp
    (with_reducible refine HSM.out.mono ?_)
    rintro e w12 ⟨rfl, hc⟩
    have hV7 := hV6.trans (hc.mono hV6.size)
    refine hK.out _ _ (HSS.out _ hV7) (fun hS => ?_)
    clear hK K hc HSM
    refine wpAnyH_ready (rs := [39]) (by kernel_rfl) (by simp) ?_
    refine AllReadyH.cons rfl (fun K hK => ?_) AllReadyH.nil
    go_simp
    refine hK.out _ _ hS (fun hS => ?_)
    clear hK K
    refine wpAnyH_ready (rs := [40]) (by kernel_rfl) (by simp) ?_
    refine AllReadyH.cons rfl (fun K hK => ?_) AllReadyH.nil
    go_simp
    refine hK.out _ _ hS (fun hS => ?_)
    clear hK K
    refine wpAnyH_done (by kernel_rfl) ?_ _
    go_wp2
    go_ret
    exact ⟨rfl, hbW.trans ((hBVb.trans ((Below.undrew hV7).mono hBVb.size)).mono hbW.size)⟩
  · rw [hx] at HX
    rw [hy] at HY
    have HHX := Lib.hid hx
    have HHY := Lib.hid hy
    clear hx hy
    go_wp2_with fail
    refine wp_region_held_drew (S := fun W => W.cell? ⟨w.heap.size, 0, none⟩ = some (.int .i64 k) ∧ W.cell? ⟨w.heap.size, 1, none⟩ = some (.string n) ∧ W.cell? ⟨w.heap.size, 2, none⟩ = some (.string v) ∧ W.cell? ⟨w.heap.size, 3, none⟩ = some (.slice A m c) ∧ W.cell? ⟨w.heap.size + 1, 0, none⟩ = some (.int .i64 k2) ∧ W.cell? ⟨w.heap.size + 1, 1, none⟩ = some (.string n2) ∧ W.cell? ⟨w.heap.size + 1, 2, none⟩ = some (.string v2) ∧ W.cell? ⟨w.heap.size + 1, 3, none⟩ = some (.slice A2 m2 c2) ∧ W.cell? ⟨w.heap.size + 1 + 1, 0, none⟩ = some (.string nm) ∧ W.cell? ⟨w.heap.size + 1 + 1, 1, none⟩ = some (.slice PA pm pc)) mixed ⟨p0, p1, p2, p3, r0, r1, r2, r3, q0, q1⟩ (fun hS => ?_)
    clear p0 p1 p2 p3 r0 r1 r2 r3 q0 q1
    refine wpAnyH_take (i := 0) (v := .agg #[.int .i64 k, .string n, .string v, .slice A m c]) rfl (by kernel_rfl) (by kernel_rfl) (by kernel_rfl) (fun _ _ _ h => h) (Or.inl ⟨by rfl, fun W hW => by obtain ⟨h0, h1, h2, h3, h4, h5, h6, h7, h8, h9⟩ := hW; go_simp⟩) hS ?_
    refine wpAnyH_take (i := 1) (v := .agg #[.string nm, .slice PA pm pc]) rfl (by kernel_rfl) (by kernel_rfl) (by kernel_rfl) (fun _ _ _ h => h) (Or.inl ⟨by rfl, fun W hW => by obtain ⟨h0, h1, h2, h3, h4, h5, h6, h7, h8, h9⟩ := hW; go_simp⟩) hS ?_
    refine wpAnyH_take (i := 3) (v := .agg #[.int .i64 k2, .string n2, .string v2, .slice A2 m2 c2]) rfl (by kernel_rfl) (by kernel_rfl) (by kernel_rfl) (fun _ _ _ h => h) (Or.inl ⟨by rfl, fun W hW => by obtain ⟨h0, h1, h2, h3, h4, h5, h6, h7, h8, h9⟩ := hW; go_simp⟩) hS ?_
    refine wpAnyH_take (i := 4) (v := .agg #[.string nm, .slice PA pm pc]) rfl (by kernel_rfl) (by kernel_rfl) (by kernel_rfl) (fun _ _ _ h => h) (Or.inl ⟨by rfl, fun W hW => by obtain ⟨h0, h1, h2, h3, h4, h5, h6, h7, h8, h9⟩ := hW; go_simp⟩) hS ?_
    refine wpAnyH_ready (rs := [2]) (by kernel_rfl) (by simp) ?_
    refine AllReadyH.cons rfl (fun K hK => ?_) AllReadyH.nil
    go_simp
    (with_reducible refine HX.out.mono ?_)
    clear HX
    rintro e w4 ⟨rfl, hc4⟩
    have hB4 := hB3.trans ((Below.undrew hc4).mono hB3.size)
    obtain ⟨p0, p1, p2, p3⟩ := blkc (HA.out.below hB4 (by simp; omega))
    obtain ⟨r0, r1, r2, r3⟩ := blkc (HC0.out.below hB4 (by simp))
    obtain ⟨q0, q1, -⟩ := blk2 (HQ.out.below hB4 (by simp))
    refine hK.out _ _ ⟨p0, p1, p2, p3, r0, r1, r2, r3, q0, q1⟩ (fun hS => ?_)
    clear hK K p0 p1 p2 p3 r0 r1 r2 r3 q0 q1
    refine wpAnyH_ready (rs := [5]) (by kernel_rfl) (by simp) ?_
    refine AllReadyH.cons rfl (fun K hK => ?_) AllReadyH.nil
    go_simp
    (with_reducible refine (HY.out _ hc4).mono ?_)
    clear HY
    rintro e w5 ⟨rfl, hc5⟩
    have hB5 := hB4.trans (hc5.mono hB4.size)
    obtain ⟨p0, p1, p2, p3⟩ := blkc (HA.out.below hB5 (by simp; omega))
    obtain ⟨r0, r1, r2, r3⟩ := blkc (HC0.out.below hB5 (by simp))
    obtain ⟨q0, q1, -⟩ := blk2 (HQ.out.below hB5 (by simp))
    refine hK.out _ _ ⟨p0, p1, p2, p3, r0, r1, r2, r3, q0, q1⟩ (fun hS => ?_)
    clear hK K hc4 hc5 q0 q1
    refine wpAnyH_take (i := 6) (v := .bool true) rfl (by kernel_rfl) (by kernel_rfl) (by kernel_rfl) (fun _ _ _ h => h) (Or.inl ⟨by rfl, fun W hW => by obtain ⟨h0, h1, h2, h3, h4, h5, h6, h7, h8, h9⟩ := hW; go_simp⟩) hS ?_
    refine wpAnyH_ready (rs := [7]) (by kernel_rfl) (by simp) ?_
    refine AllReadyH.cons rfl (fun K hK => ?_) AllReadyH.nil
    go_simp
    refine hK.out _ _ hS (fun hS => ?_)
    clear hK K
    refine wpAnyH_done (by kernel_rfl) ?_ _
    have hl0 : w.heap.size + 1 + 1 < w5.heap.size := by have := hB5.size; simp at this; omega
    have hla : w.heap.size < w5.heap.size := by omega
    have hlb : w.heap.size + 1 < w5.heap.size := by omega

    have hla1 : w.heap.size < w5.heap.size + 1 := by omega
    have hlb1 : w.heap.size + 1 < w5.heap.size + 1 := by omega
    have hla2 : w.heap.size < w5.heap.size + 1 + 1 := by omega
    have hlb2 : w.heap.size + 1 < w5.heap.size + 1 + 1 := by omega
    have hla3 : w.heap.size < w5.heap.size + 1 + 1 + 1 := by omega
    have hlb3 : w.heap.size + 1 < w5.heap.size + 1 + 1 + 1 := by omega
    have hla4 : w.heap.size < w5.heap.size + 1 + 1 + 1 + 1 := by omega
    have hlb4 : w.heap.size + 1 < w5.heap.size + 1 + 1 + 1 + 1 := by omega
    have hla5 : w.heap.size < w5.heap.size + 1 + 1 + 1 + 1 + 1 := by omega
    have hlb5 : w.heap.size + 1 < w5.heap.size + 1 + 1 + 1 + 1 + 1 := by omega
    have hla6 : w.heap.size < w5.heap.size + 1 + 1 + 1 + 1 + 1 + 1 := by omega
    have hlb6 : w.heap.size + 1 < w5.heap.size + 1 + 1 + 1 + 1 + 1 + 1 := by omega
    have hla7 : w.heap.size < w5.heap.size + 1 + 1 + 1 + 1 + 1 + 1 + 1 := by omega
    have hlb7 : w.heap.size + 1 < w5.heap.size + 1 + 1 + 1 + 1 + 1 + 1 + 1 := by omega
    go_wp2_with fail
    clear p0 p1 p2 p3 r0 r1 r2 r3
    have hbV : Below w5.heap.size w5 ((((((((w5.alloc (.cells #[.int .i64 k, .string n, .string v, .slice A m c] 76)).alloc (.cells #[.int .i64 3, .string ⟨#[]⟩, .string ⟨#[]⟩, .slice (some ⟨w5.heap.size, 0, none⟩) 1 1] 76)).alloc (.cells #[.int .i64 3, .string ⟨#[]⟩, .string ⟨#[]⟩, .slice (some ⟨w5.heap.size, 0, none⟩) 1 1] 76)).alloc (.cells #[.int .i64 3, .string ⟨#[]⟩, .string ⟨#[]⟩, .slice (some ⟨w5.heap.size + 1 + 1, 0, none⟩) 1 1] 76)).alloc (.cells #[.int .i64 k, .string n, .string v, .slice A m c, .int .i64 k2, .string n2, .string v2, .slice A2 m2 c2] 76)).alloc (.cells #[.int .i64 4, .string ⟨#[]⟩, .string ⟨#[]⟩, .slice (some ⟨w5.heap.size + 1 + 1 + 1 + 1, 0, none⟩) 2 2] 76)).alloc (.cells #[.int .i64 k, .string n, .string v, .slice A m c, .int .i64 k2, .string n2, .string v2, .slice A2 m2 c2] 76)).alloc (.cells #[.int .i64 5, .string ⟨#[]⟩, .string ⟨#[]⟩, .slice (some ⟨w5.heap.size + 1 + 1 + 1 + 1 + 1 + 1, 0, none⟩) 2 2] 76)) := ((((((((Below.refl _ w5).alloc (Nat.le_refl _) _).alloc (by simp; try omega) _).alloc (by simp; try omega) _).alloc (by simp; try omega) _).alloc (by simp; try omega) _).alloc (by simp; try omega) _).alloc (by simp; try omega) _).alloc (by simp; try omega) _
    have B0 : Blk ((((((((w5.alloc (.cells #[.int .i64 k, .string n, .string v, .slice A m c] 76)).alloc (.cells #[.int .i64 3, .string ⟨#[]⟩, .string ⟨#[]⟩, .slice (some ⟨w5.heap.size, 0, none⟩) 1 1] 76)).alloc (.cells #[.int .i64 3, .string ⟨#[]⟩, .string ⟨#[]⟩, .slice (some ⟨w5.heap.size, 0, none⟩) 1 1] 76)).alloc (.cells #[.int .i64 3, .string ⟨#[]⟩, .string ⟨#[]⟩, .slice (some ⟨w5.heap.size + 1 + 1, 0, none⟩) 1 1] 76)).alloc (.cells #[.int .i64 k, .string n, .string v, .slice A m c, .int .i64 k2, .string n2, .string v2, .slice A2 m2 c2] 76)).alloc (.cells #[.int .i64 4, .string ⟨#[]⟩, .string ⟨#[]⟩, .slice (some ⟨w5.heap.size + 1 + 1 + 1 + 1, 0, none⟩) 2 2] 76)).alloc (.cells #[.int .i64 k, .string n, .string v, .slice A m c, .int .i64 k2, .string n2, .string v2, .slice A2 m2 c2] 76)).alloc (.cells #[.int .i64 5, .string ⟨#[]⟩, .string ⟨#[]⟩, .slice (some ⟨w5.heap.size + 1 + 1 + 1 + 1 + 1 + 1, 0, none⟩) 2 2] 76)) (w5.heap.size) 76 #[.int .i64 k, .string n, .string v, .slice A m c] := by simpa using (((((((Blk.new w5 76 #[.int .i64 k, .string n, .string v, .slice A m c]).alloc (.cells #[.int .i64 3, .string ⟨#[]⟩, .string ⟨#[]⟩, .slice (some ⟨w5.heap.size, 0, none⟩) 1 1] 76)).alloc (.cells #[.int .i64 3, .string ⟨#[]⟩, .string ⟨#[]⟩, .slice (some ⟨w5.heap.size, 0, none⟩) 1 1] 76)).alloc (.cells #[.int .i64 3, .string ⟨#[]⟩, .string ⟨#[]⟩, .slice (some ⟨w5.heap.size + 1 + 1, 0, none⟩) 1 1] 76)).alloc (.cells #[.int .i64 k, .string n, .string v, .slice A m c, .int .i64 k2, .string n2, .string v2, .slice A2 m2 c2] 76)).alloc (.cells #[.int .i64 4, .string ⟨#[]⟩, .string ⟨#[]⟩, .slice (some ⟨w5.heap.size + 1 + 1 + 1 + 1, 0, none⟩) 2 2] 76)).alloc (.cells #[.int .i64 k, .string n, .string v, .slice A m c, .int .i64 k2, .string n2, .string v2, .slice A2 m2 c2] 76)).alloc (.cells #[.int .i64 5, .string ⟨#[]⟩, .string ⟨#[]⟩, .slice (some ⟨w5.heap.size + 1 + 1 + 1 + 1 + 1 + 1, 0, none⟩) 2 2] 76)
    have B1 : Blk ((((((((w5.alloc (.cells #[.int .i64 k, .string n, .string v, .slice A m c] 76)).alloc (.cells #[.int .i64 3, .string ⟨#[]⟩, .string ⟨#[]⟩, .slice (some ⟨w5.heap.size, 0, none⟩) 1 1] 76)).alloc (.cells #[.int .i64 3, .string ⟨#[]⟩, .string ⟨#[]⟩, .slice (some ⟨w5.heap.size, 0, none⟩) 1 1] 76)).alloc (.cells #[.int .i64 3, .string ⟨#[]⟩, .string ⟨#[]⟩, .slice (some ⟨w5.heap.size + 1 + 1, 0, none⟩) 1 1] 76)).alloc (.cells #[.int .i64 k, .string n, .string v, .slice A m c, .int .i64 k2, .string n2, .string v2, .slice A2 m2 c2] 76)).alloc (.cells #[.int .i64 4, .string ⟨#[]⟩, .string ⟨#[]⟩, .slice (some ⟨w5.heap.size + 1 + 1 + 1 + 1, 0, none⟩) 2 2] 76)).alloc (.cells #[.int .i64 k, .string n, .string v, .slice A m c, .int .i64 k2, .string n2, .string v2, .slice A2 m2 c2] 76)).alloc (.cells #[.int .i64 5, .string ⟨#[]⟩, .string ⟨#[]⟩, .slice (some ⟨w5.heap.size + 1 + 1 + 1 + 1 + 1 + 1, 0, none⟩) 2 2] 76)) (w5.heap.size + 1) 76 #[.int .i64 3, .string ⟨#[]⟩, .string ⟨#[]⟩, .slice (some ⟨w5.heap.size, 0, none⟩) 1 1] := by simpa using ((((((Blk.new (w5.alloc (.cells #[.int .i64 k, .string n, .string v, .slice A m c] 76)) 76 #[.int .i64 3, .string ⟨#[]⟩, .string ⟨#[]⟩, .slice (some ⟨w5.heap.size, 0, none⟩) 1 1]).alloc (.cells #[.int .i64 3, .string ⟨#[]⟩, .string ⟨#[]⟩, .slice (some ⟨w5.heap.size, 0, none⟩) 1 1] 76)).alloc (.cells #[.int .i64 3, .string ⟨#[]⟩, .string ⟨#[]⟩, .slice (some ⟨w5.heap.size + 1 + 1, 0, none⟩) 1 1] 76)).alloc (.cells #[.int .i64 k, .string n, .string v, .slice A m c, .int .i64 k2, .string n2, .string v2, .slice A2 m2 c2] 76)).alloc (.cells #[.int .i64 4, .string ⟨#[]⟩, .string ⟨#[]⟩, .slice (some ⟨w5.heap.size + 1 + 1 + 1 + 1, 0, none⟩) 2 2] 76)).alloc (.cells #[.int .i64 k, .string n, .string v, .slice A m c, .int .i64 k2, .string n2, .string v2, .slice A2 m2 c2] 76)).alloc (.cells #[.int .i64 5, .string ⟨#[]⟩, .string ⟨#[]⟩, .slice (some ⟨w5.heap.size + 1 + 1 + 1 + 1 + 1 + 1, 0, none⟩) 2 2] 76)
    have B2 : Blk ((((((((w5.alloc (.cells #[.int .i64 k, .string n, .string v, .slice A m c] 76)).alloc (.cells #[.int .i64 3, .string ⟨#[]⟩, .string ⟨#[]⟩, .slice (some ⟨w5.heap.size, 0, none⟩) 1 1] 76)).alloc (.cells #[.int .i64 3, .string ⟨#[]⟩, .string ⟨#[]⟩, .slice (some ⟨w5.heap.size, 0, none⟩) 1 1] 76)).alloc (.cells #[.int .i64 3, .string ⟨#[]⟩, .string ⟨#[]⟩, .slice (some ⟨w5.heap.size + 1 + 1, 0, none⟩) 1 1] 76)).alloc (.cells #[.int .i64 k, .string n, .string v, .slice A m c, .int .i64 k2, .string n2, .string v2, .slice A2 m2 c2] 76)).alloc (.cells #[.int .i64 4, .string ⟨#[]⟩, .string ⟨#[]⟩, .slice (some ⟨w5.heap.size + 1 + 1 + 1 + 1, 0, none⟩) 2 2] 76)).alloc (.cells #[.int .i64 k, .string n, .string v, .slice A m c, .int .i64 k2, .string n2, .string v2, .slice A2 m2 c2] 76)).alloc (.cells #[.int .i64 5, .string ⟨#[]⟩, .string ⟨#[]⟩, .slice (some ⟨w5.heap.size + 1 + 1 + 1 + 1 + 1 + 1, 0, none⟩) 2 2] 76)) (w5.heap.size + 1 + 1) 76 #[.int .i64 3, .string ⟨#[]⟩, .string ⟨#[]⟩, .slice (some ⟨w5.heap.size, 0, none⟩) 1 1] := by simpa using (((((Blk.new ((w5.alloc (.cells #[.int .i64 k, .string n, .string v, .slice A m c] 76)).alloc (.cells #[.int .i64 3, .string ⟨#[]⟩, .string ⟨#[]⟩, .slice (some ⟨w5.heap.size, 0, none⟩) 1 1] 76)) 76 #[.int .i64 3, .string ⟨#[]⟩, .string ⟨#[]⟩, .slice (some ⟨w5.heap.size, 0, none⟩) 1 1]).alloc (.cells #[.int .i64 3, .string ⟨#[]⟩, .string ⟨#[]⟩, .slice (some ⟨w5.heap.size + 1 + 1, 0, none⟩) 1 1] 76)).alloc (.cells #[.int .i64 k, .string n, .string v, .slice A m c, .int .i64 k2, .string n2, .string v2, .slice A2 m2 c2] 76)).alloc (.cells #[.int .i64 4, .string ⟨#[]⟩, .string ⟨#[]⟩, .slice (some ⟨w5.heap.size + 1 + 1 + 1 + 1, 0, none⟩) 2 2] 76)).alloc (.cells #[.int .i64 k, .string n, .string v, .slice A m c, .int .i64 k2, .string n2, .string v2, .slice A2 m2 c2] 76)).alloc (.cells #[.int .i64 5, .string ⟨#[]⟩, .string ⟨#[]⟩, .slice (some ⟨w5.heap.size + 1 + 1 + 1 + 1 + 1 + 1, 0, none⟩) 2 2] 76)
    have B3 : Blk ((((((((w5.alloc (.cells #[.int .i64 k, .string n, .string v, .slice A m c] 76)).alloc (.cells #[.int .i64 3, .string ⟨#[]⟩, .string ⟨#[]⟩, .slice (some ⟨w5.heap.size, 0, none⟩) 1 1] 76)).alloc (.cells #[.int .i64 3, .string ⟨#[]⟩, .string ⟨#[]⟩, .slice (some ⟨w5.heap.size, 0, none⟩) 1 1] 76)).alloc (.cells #[.int .i64 3, .string ⟨#[]⟩, .string ⟨#[]⟩, .slice (some ⟨w5.heap.size + 1 + 1, 0, none⟩) 1 1] 76)).alloc (.cells #[.int .i64 k, .string n, .string v, .slice A m c, .int .i64 k2, .string n2, .string v2, .slice A2 m2 c2] 76)).alloc (.cells #[.int .i64 4, .string ⟨#[]⟩, .string ⟨#[]⟩, .slice (some ⟨w5.heap.size + 1 + 1 + 1 + 1, 0, none⟩) 2 2] 76)).alloc (.cells #[.int .i64 k, .string n, .string v, .slice A m c, .int .i64 k2, .string n2, .string v2, .slice A2 m2 c2] 76)).alloc (.cells #[.int .i64 5, .string ⟨#[]⟩, .string ⟨#[]⟩, .slice (some ⟨w5.heap.size + 1 + 1 + 1 + 1 + 1 + 1, 0, none⟩) 2 2] 76)) (w5.heap.size + 1 + 1 + 1) 76 #[.int .i64 3, .string ⟨#[]⟩, .string ⟨#[]⟩, .slice (some ⟨w5.heap.size + 1 + 1, 0, none⟩) 1 1] := by simpa using ((((Blk.new (((w5.alloc (.cells #[.int .i64 k, .string n, .string v, .slice A m c] 76)).alloc (.cells #[.int .i64 3, .string ⟨#[]⟩, .string ⟨#[]⟩, .slice (some ⟨w5.heap.size, 0, none⟩) 1 1] 76)).alloc (.cells #[.int .i64 3, .string ⟨#[]⟩, .string ⟨#[]⟩, .slice (some ⟨w5.heap.size, 0, none⟩) 1 1] 76)) 76 #[.int .i64 3, .string ⟨#[]⟩, .string ⟨#[]⟩, .slice (some ⟨w5.heap.size + 1 + 1, 0, none⟩) 1 1]).alloc (.cells #[.int .i64 k, .string n, .string v, .slice A m c, .int .i64 k2, .string n2, .string v2, .slice A2 m2 c2] 76)).alloc (.cells #[.int .i64 4, .string ⟨#[]⟩, .string ⟨#[]⟩, .slice (some ⟨w5.heap.size + 1 + 1 + 1 + 1, 0, none⟩) 2 2] 76)).alloc (.cells #[.int .i64 k, .string n, .string v, .slice A m c, .int .i64 k2, .string n2, .string v2, .slice A2 m2 c2] 76)).alloc (.cells #[.int .i64 5, .string ⟨#[]⟩, .string ⟨#[]⟩, .slice (some ⟨w5.heap.size + 1 + 1 + 1 + 1 + 1 + 1, 0, none⟩) 2 2] 76)
    have B4 : Blk ((((((((w5.alloc (.cells #[.int .i64 k, .string n, .string v, .slice A m c] 76)).alloc (.cells #[.int .i64 3, .string ⟨#[]⟩, .string ⟨#[]⟩, .slice (some ⟨w5.heap.size, 0, none⟩) 1 1] 76)).alloc (.cells #[.int .i64 3, .string ⟨#[]⟩, .string ⟨#[]⟩, .slice (some ⟨w5.heap.size, 0, none⟩) 1 1] 76)).alloc (.cells #[.int .i64 3, .string ⟨#[]⟩, .string ⟨#[]⟩, .slice (some ⟨w5.heap.size + 1 + 1, 0, none⟩) 1 1] 76)).alloc (.cells #[.int .i64 k, .string n, .string v, .slice A m c, .int .i64 k2, .string n2, .string v2, .slice A2 m2 c2] 76)).alloc (.cells #[.int .i64 4, .string ⟨#[]⟩, .string ⟨#[]⟩, .slice (some ⟨w5.heap.size + 1 + 1 + 1 + 1, 0, none⟩) 2 2] 76)).alloc (.cells #[.int .i64 k, .string n, .string v, .slice A m c, .int .i64 k2, .string n2, .string v2, .slice A2 m2 c2] 76)).alloc (.cells #[.int .i64 5, .string ⟨#[]⟩, .string ⟨#[]⟩, .slice (some ⟨w5.heap.size + 1 + 1 + 1 + 1 + 1 + 1, 0, none⟩) 2 2] 76)) (w5.heap.size + 1 + 1 + 1 + 1) 76 #[.int .i64 k, .string n, .string v, .slice A m c, .int .i64 k2, .string n2, .string v2, .slice A2 m2 c2] := by simpa using (((Blk.new ((((w5.alloc (.cells #[.int .i64 k, .string n, .string v, .slice A m c] 76)).alloc (.cells #[.int .i64 3, .string ⟨#[]⟩, .string ⟨#[]⟩, .slice (some ⟨w5.heap.size, 0, none⟩) 1 1] 76)).alloc (.cells #[.int .i64 3, .string ⟨#[]⟩, .string ⟨#[]⟩, .slice (some ⟨w5.heap.size, 0, none⟩) 1 1] 76)).alloc (.cells #[.int .i64 3, .string ⟨#[]⟩, .string ⟨#[]⟩, .slice (some ⟨w5.heap.size + 1 + 1, 0, none⟩) 1 1] 76)) 76 #[.int .i64 k, .string n, .string v, .slice A m c, .int .i64 k2, .string n2, .string v2, .slice A2 m2 c2]).alloc (.cells #[.int .i64 4, .string ⟨#[]⟩, .string ⟨#[]⟩, .slice (some ⟨w5.heap.size + 1 + 1 + 1 + 1, 0, none⟩) 2 2] 76)).alloc (.cells #[.int .i64 k, .string n, .string v, .slice A m c, .int .i64 k2, .string n2, .string v2, .slice A2 m2 c2] 76)).alloc (.cells #[.int .i64 5, .string ⟨#[]⟩, .string ⟨#[]⟩, .slice (some ⟨w5.heap.size + 1 + 1 + 1 + 1 + 1 + 1, 0, none⟩) 2 2] 76)
    have B5 : Blk ((((((((w5.alloc (.cells #[.int .i64 k, .string n, .string v, .slice A m c] 76)).alloc (.cells #[.int .i64 3, .string ⟨#[]⟩, .string ⟨#[]⟩, .slice (some ⟨w5.heap.size, 0, none⟩) 1 1] 76)).alloc (.cells #[.int .i64 3, .string ⟨#[]⟩, .string ⟨#[]⟩, .slice (some ⟨w5.heap.size, 0, none⟩) 1 1] 76)).alloc (.cells #[.int .i64 3, .string ⟨#[]⟩, .string ⟨#[]⟩, .slice (some ⟨w5.heap.size + 1 + 1, 0, none⟩) 1 1] 76)).alloc (.cells #[.int .i64 k, .string n, .string v, .slice A m c, .int .i64 k2, .string n2, .string v2, .slice A2 m2 c2] 76)).alloc (.cells #[.int .i64 4, .string ⟨#[]⟩, .string ⟨#[]⟩, .slice (some ⟨w5.heap.size + 1 + 1 + 1 + 1, 0, none⟩) 2 2] 76)).alloc (.cells #[.int .i64 k, .string n, .string v, .slice A m c, .int .i64 k2, .string n2, .string v2, .slice A2 m2 c2] 76)).alloc (.cells #[.int .i64 5, .string ⟨#[]⟩, .string ⟨#[]⟩, .slice (some ⟨w5.heap.size + 1 + 1 + 1 + 1 + 1 + 1, 0, none⟩) 2 2] 76)) (w5.heap.size + 1 + 1 + 1 + 1 + 1) 76 #[.int .i64 4, .string ⟨#[]⟩, .string ⟨#[]⟩, .slice (some ⟨w5.heap.size + 1 + 1 + 1 + 1, 0, none⟩) 2 2] := by simpa using ((Blk.new (((((w5.alloc (.cells #[.int .i64 k, .string n, .string v, .slice A m c] 76)).alloc (.cells #[.int .i64 3, .string ⟨#[]⟩, .string ⟨#[]⟩, .slice (some ⟨w5.heap.size, 0, none⟩) 1 1] 76)).alloc (.cells #[.int .i64 3, .string ⟨#[]⟩, .string ⟨#[]⟩, .slice (some ⟨w5.heap.size, 0, none⟩) 1 1] 76)).alloc (.cells #[.int .i64 3, .string ⟨#[]⟩, .string ⟨#[]⟩, .slice (some ⟨w5.heap.size + 1 + 1, 0, none⟩) 1 1] 76)).alloc (.cells #[.int .i64 k, .string n, .string v, .slice A m c, .int .i64 k2, .string n2, .string v2, .slice A2 m2 c2] 76)) 76 #[.int .i64 4, .string ⟨#[]⟩, .string ⟨#[]⟩, .slice (some ⟨w5.heap.size + 1 + 1 + 1 + 1, 0, none⟩) 2 2]).alloc (.cells #[.int .i64 k, .string n, .string v, .slice A m c, .int .i64 k2, .string n2, .string v2, .slice A2 m2 c2] 76)).alloc (.cells #[.int .i64 5, .string ⟨#[]⟩, .string ⟨#[]⟩, .slice (some ⟨w5.heap.size + 1 + 1 + 1 + 1 + 1 + 1, 0, none⟩) 2 2] 76)
    have B6 : Blk ((((((((w5.alloc (.cells #[.int .i64 k, .string n, .string v, .slice A m c] 76)).alloc (.cells #[.int .i64 3, .string ⟨#[]⟩, .string ⟨#[]⟩, .slice (some ⟨w5.heap.size, 0, none⟩) 1 1] 76)).alloc (.cells #[.int .i64 3, .string ⟨#[]⟩, .string ⟨#[]⟩, .slice (some ⟨w5.heap.size, 0, none⟩) 1 1] 76)).alloc (.cells #[.int .i64 3, .string ⟨#[]⟩, .string ⟨#[]⟩, .slice (some ⟨w5.heap.size + 1 + 1, 0, none⟩) 1 1] 76)).alloc (.cells #[.int .i64 k, .string n, .string v, .slice A m c, .int .i64 k2, .string n2, .string v2, .slice A2 m2 c2] 76)).alloc (.cells #[.int .i64 4, .string ⟨#[]⟩, .string ⟨#[]⟩, .slice (some ⟨w5.heap.size + 1 + 1 + 1 + 1, 0, none⟩) 2 2] 76)).alloc (.cells #[.int .i64 k, .string n, .string v, .slice A m c, .int .i64 k2, .string n2, .string v2, .slice A2 m2 c2] 76)).alloc (.cells #[.int .i64 5, .string ⟨#[]⟩, .string ⟨#[]⟩, .slice (some ⟨w5.heap.size + 1 + 1 + 1 + 1 + 1 + 1, 0, none⟩) 2 2] 76)) (w5.heap.size + 1 + 1 + 1 + 1 + 1 + 1) 76 #[.int .i64 k, .string n, .string v, .slice A m c, .int .i64 k2, .string n2, .string v2, .slice A2 m2 c2] := by simpa using (Blk.new ((((((w5.alloc (.cells #[.int .i64 k, .string n, .string v, .slice A m c] 76)).alloc (.cells #[.int .i64 3, .string ⟨#[]⟩, .string ⟨#[]⟩, .slice (some ⟨w5.heap.size, 0, none⟩) 1 1] 76)).alloc (.cells #[.int .i64 3, .string ⟨#[]⟩, .string ⟨#[]⟩, .slice (some ⟨w5.heap.size, 0, none⟩) 1 1] 76)).alloc (.cells #[.int .i64 3, .string ⟨#[]⟩, .string ⟨#[]⟩, .slice (some ⟨w5.heap.size + 1 + 1, 0, none⟩) 1 1] 76)).alloc (.cells #[.int .i64 k, .string n, .string v, .slice A m c, .int .i64 k2, .string n2, .string v2, .slice A2 m2 c2] 76)).alloc (.cells #[.int .i64 4, .string ⟨#[]⟩, .string ⟨#[]⟩, .slice (some ⟨w5.heap.size + 1 + 1 + 1 + 1, 0, none⟩) 2 2] 76)) 76 #[.int .i64 k, .string n, .string v, .slice A m c, .int .i64 k2, .string n2, .string v2, .slice A2 m2 c2]).alloc (.cells #[.int .i64 5, .string ⟨#[]⟩, .string ⟨#[]⟩, .slice (some ⟨w5.heap.size + 1 + 1 + 1 + 1 + 1 + 1, 0, none⟩) 2 2] 76)
    have B7 : Blk ((((((((w5.alloc (.cells #[.int .i64 k, .string n, .string v, .slice A m c] 76)).alloc (.cells #[.int .i64 3, .string ⟨#[]⟩, .string ⟨#[]⟩, .slice (some ⟨w5.heap.size, 0, none⟩) 1 1] 76)).alloc (.cells #[.int .i64 3, .string ⟨#[]⟩, .string ⟨#[]⟩, .slice (some ⟨w5.heap.size, 0, none⟩) 1 1] 76)).alloc (.cells #[.int .i64 3, .string ⟨#[]⟩, .string ⟨#[]⟩, .slice (some ⟨w5.heap.size + 1 + 1, 0, none⟩) 1 1] 76)).alloc (.cells #[.int .i64 k, .string n, .string v, .slice A m c, .int .i64 k2, .string n2, .string v2, .slice A2 m2 c2] 76)).alloc (.cells #[.int .i64 4, .string ⟨#[]⟩, .string ⟨#[]⟩, .slice (some ⟨w5.heap.size + 1 + 1 + 1 + 1, 0, none⟩) 2 2] 76)).alloc (.cells #[.int .i64 k, .string n, .string v, .slice A m c, .int .i64 k2, .string n2, .string v2, .slice A2 m2 c2] 76)).alloc (.cells #[.int .i64 5, .string ⟨#[]⟩, .string ⟨#[]⟩, .slice (some ⟨w5.heap.size + 1 + 1 + 1 + 1 + 1 + 1, 0, none⟩) 2 2] 76)) (w5.heap.size + 1 + 1 + 1 + 1 + 1 + 1 + 1) 76 #[.int .i64 5, .string ⟨#[]⟩, .string ⟨#[]⟩, .slice (some ⟨w5.heap.size + 1 + 1 + 1 + 1 + 1 + 1, 0, none⟩) 2 2] := by simpa using Blk.new (((((((w5.alloc (.cells #[.int .i64 k, .string n, .string v, .slice A m c] 76)).alloc (.cells #[.int .i64 3, .string ⟨#[]⟩, .string ⟨#[]⟩, .slice (some ⟨w5.heap.size, 0, none⟩) 1 1] 76)).alloc (.cells #[.int .i64 3, .string ⟨#[]⟩, .string ⟨#[]⟩, .slice (some ⟨w5.heap.size, 0, none⟩) 1 1] 76)).alloc (.cells #[.int .i64 3, .string ⟨#[]⟩, .string ⟨#[]⟩, .slice (some ⟨w5.heap.size + 1 + 1, 0, none⟩) 1 1] 76)).alloc (.cells #[.int .i64 k, .string n, .string v, .slice A m c, .int .i64 k2, .string n2, .string v2, .slice A2 m2 c2] 76)).alloc (.cells #[.int .i64 4, .string ⟨#[]⟩, .string ⟨#[]⟩, .slice (some ⟨w5.heap.size + 1 + 1 + 1 + 1, 0, none⟩) 2 2] 76)).alloc (.cells #[.int .i64 k, .string n, .string v, .slice A m c, .int .i64 k2, .string n2, .string v2, .slice A2 m2 c2] 76)) 76 #[.int .i64 5, .string ⟨#[]⟩, .string ⟨#[]⟩, .slice (some ⟨w5.heap.size + 1 + 1 + 1 + 1 + 1 + 1, 0, none⟩) 2 2]
    have hBV := hB5.trans (hbV.mono hB5.size)
    have hta := HT.out.below hBV
    have htb := HT2.out.below hBV
    have hpv := HPS.out.below hBV
    have hAV := HA.out.below hBV (by simp; omega)
    have hQV := HQ.out.below hBV (by simp)
    clear hbV HT HT2 HPS
    generalize ((((((((w5.alloc (.cells #[.int .i64 k, .string n, .string v, .slice A m c] 76)).alloc (.cells #[.int .i64 3, .string ⟨#[]⟩, .string ⟨#[]⟩, .slice (some ⟨w5.heap.size, 0, none⟩) 1 1] 76)).alloc (.cells #[.int .i64 3, .string ⟨#[]⟩, .string ⟨#[]⟩, .slice (some ⟨w5.heap.size, 0, none⟩) 1 1] 76)).alloc (.cells #[.int .i64 3, .string ⟨#[]⟩, .string ⟨#[]⟩, .slice (some ⟨w5.heap.size + 1 + 1, 0, none⟩) 1 1] 76)).alloc (.cells #[.int .i64 k, .string n, .string v, .slice A m c, .int .i64 k2, .string n2, .string v2, .slice A2 m2 c2] 76)).alloc (.cells #[.int .i64 4, .string ⟨#[]⟩, .string ⟨#[]⟩, .slice (some ⟨w5.heap.size + 1 + 1 + 1 + 1, 0, none⟩) 2 2] 76)).alloc (.cells #[.int .i64 k, .string n, .string v, .slice A m c, .int .i64 k2, .string n2, .string v2, .slice A2 m2 c2] 76)).alloc (.cells #[.int .i64 5, .string ⟨#[]⟩, .string ⟨#[]⟩, .slice (some ⟨w5.heap.size + 1 + 1 + 1 + 1 + 1 + 1, 0, none⟩) 2 2] 76)) = V at *
    have hsz : w5.heap.size + 8 ≤ V.heap.size := by have := B7.lt; omega
    have cn : CondAt V (· < V.heap.size) (D + 1) (.mk 3 ⟨#[]⟩ ⟨#[]⟩ [t]) [.int .i64 3, .string ⟨#[]⟩, .string ⟨#[]⟩, .slice (some ⟨w5.heap.size, 0, none⟩) 1 1] := CondAt.of empty_str empty_str (by unfold maxLen; omega) (Nat.le_refl _) (one_kid B0 B0.lt hta)
    have c2 : CondAt V (· < V.heap.size) (D + 1 + 1) (.mk 3 ⟨#[]⟩ ⟨#[]⟩ [.mk 3 ⟨#[]⟩ ⟨#[]⟩ [t]]) [.int .i64 3, .string ⟨#[]⟩, .string ⟨#[]⟩, .slice (some ⟨w5.heap.size + 1 + 1, 0, none⟩) 1 1] := CondAt.of empty_str empty_str (by unfold maxLen; omega) (Nat.le_refl _) (one_kid B2 B2.lt cn)
    have ca : CondAt V (· < V.heap.size) (max D D2 + 1) (.mk 4 ⟨#[]⟩ ⟨#[]⟩ [t, t2]) [.int .i64 4, .string ⟨#[]⟩, .string ⟨#[]⟩, .slice (some ⟨w5.heap.size + 1 + 1 + 1 + 1, 0, none⟩) 2 2] := CondAt.of empty_str empty_str (by unfold maxLen; omega) (Nat.le_refl _) (two_kids B4 B4.lt (hta.deeper (Nat.le_max_left _ _)) (htb.deeper (Nat.le_max_right _ _)))
    have co : CondAt V (· < V.heap.size) (max D D2 + 1) (.mk 5 ⟨#[]⟩ ⟨#[]⟩ [t, t2]) [.int .i64 5, .string ⟨#[]⟩, .string ⟨#[]⟩, .slice (some ⟨w5.heap.size + 1 + 1 + 1 + 1 + 1 + 1, 0, none⟩) 2 2] := CondAt.of empty_str empty_str (by unfold maxLen; omega) (Nat.le_refl _) (two_kids B6 B6.lt (hta.deeper (Nat.le_max_left _ _)) (htb.deeper (Nat.le_max_right _ _)))
    have KN := Lib.hid (fun W (hb : Below V.drew.heap.size V.drew W) => cHolds_any nm PA pm pc ps (D + 1) (.mk 3 ⟨#[]⟩ ⟨#[]⟩ [t]) _ _ _ _ _ _ W (cn.drewB.below hb) (hpv.drewB.below hb) hpm)
    have K2 := Lib.hid (fun W (hb : Below V.drew.heap.size V.drew W) => cHolds_any nm PA pm pc ps (D + 1 + 1) (.mk 3 ⟨#[]⟩ ⟨#[]⟩ [.mk 3 ⟨#[]⟩ ⟨#[]⟩ [t]]) _ _ _ _ _ _ W (c2.drewB.below hb) (hpv.drewB.below hb) hpm)
    have KA := Lib.hid (fun W (hb : Below V.drew.heap.size V.drew W) => cHolds_any nm PA pm pc ps (max D D2 + 1) (.mk 4 ⟨#[]⟩ ⟨#[]⟩ [t, t2]) _ _ _ _ _ _ W (ca.drewB.below hb) (hpv.drewB.below hb) hpm)
    have KO := Lib.hid (fun W (hb : Below V.drew.heap.size V.drew W) => cHolds_any nm PA pm pc ps (max D D2 + 1) (.mk 5 ⟨#[]⟩ ⟨#[]⟩ [t, t2]) _ _ _ _ _ _ W (co.drewB.below hb) (hpv.drewB.below hb) hpm)
    have KS2 := Lib.hid (fun W (hb : Below V.drew.heap.size V.drew W) => cSimple_any (D + 1 + 1) (.mk 3 ⟨#[]⟩ ⟨#[]⟩ [.mk 3 ⟨#[]⟩ ⟨#[]⟩ [t]]) _ _ _ _ _ _ W (c2.drewB.below hb) (by rw [pn_two]; exact hnl))
    have KS1 := Lib.hid (fun W (hb : Below V.drew.heap.size V.drew W) => cSimple_any D t k n v A m c W (hta.drewB.below hb) hnl)
    rw [ps_not20 HR.out, ph_not, HHX.out] at KN
    rw [ps_two HR.out, ph_not, ph_not, HHX.out] at K2
    rw [ps_and HR.out HR2.out, ph_and, HHX.out, HHY.out] at KA
    rw [ps_or HR.out HR2.out, ph_or, HHX.out, HHY.out] at KO
    rw [psi_two HR.out] at KS2
    simp only [Bool.true_and, Bool.and_true, Bool.and_false, Bool.or_true, Bool.or_false, Bool.false_or, Bool.true_or, Bool.false_and, Bool.not_true, Bool.not_false] at KN K2 KA KO
    have HB1 := Lib.hid B1
    have HB3 := Lib.hid B3
    have HB5 := Lib.hid B5
    have HB7 := Lib.hid B7
    have HAV := Lib.hid hAV
    have HQV := Lib.hid hQV
    have HSS := Lib.hid (show ∀ W, Below V.drew.heap.size V.drew W → (W.cell? ⟨w5.heap.size + 1, 0, none⟩ = some (.int .i64 3) ∧ W.cell? ⟨w5.heap.size + 1, 1, none⟩ = some (.string ⟨#[]⟩) ∧ W.cell? ⟨w5.heap.size + 1, 2, none⟩ = some (.string ⟨#[]⟩) ∧ W.cell? ⟨w5.heap.size + 1, 3, none⟩ = some (.slice (some ⟨w5.heap.size, 0, none⟩) 1 1) ∧ W.cell? ⟨w5.heap.size + 1 + 1 + 1, 0, none⟩ = some (.int .i64 3) ∧ W.cell? ⟨w5.heap.size + 1 + 1 + 1, 1, none⟩ = some (.string ⟨#[]⟩) ∧ W.cell? ⟨w5.heap.size + 1 + 1 + 1, 2, none⟩ = some (.string ⟨#[]⟩) ∧ W.cell? ⟨w5.heap.size + 1 + 1 + 1, 3, none⟩ = some (.slice (some ⟨w5.heap.size + 1 + 1, 0, none⟩) 1 1) ∧ W.cell? ⟨w5.heap.size + 1 + 1 + 1 + 1 + 1, 0, none⟩ = some (.int .i64 4) ∧ W.cell? ⟨w5.heap.size + 1 + 1 + 1 + 1 + 1, 1, none⟩ = some (.string ⟨#[]⟩) ∧ W.cell? ⟨w5.heap.size + 1 + 1 + 1 + 1 + 1, 2, none⟩ = some (.string ⟨#[]⟩) ∧ W.cell? ⟨w5.heap.size + 1 + 1 + 1 + 1 + 1, 3, none⟩ = some (.slice (some ⟨w5.heap.size + 1 + 1 + 1 + 1, 0, none⟩) 2 2) ∧ W.cell? ⟨w5.heap.size + 1 + 1 + 1 + 1 + 1 + 1 + 1, 0, none⟩ = some (.int .i64 5) ∧ W.cell? ⟨w5.heap.size + 1 + 1 + 1 + 1 + 1 + 1 + 1, 1, none⟩ = some (.string ⟨#[]⟩) ∧ W.cell? ⟨w5.heap.size + 1 + 1 + 1 + 1 + 1 + 1 + 1, 2, none⟩ = some (.string ⟨#[]⟩) ∧ W.cell? ⟨w5.heap.size + 1 + 1 + 1 + 1 + 1 + 1 + 1, 3, none⟩ = some (.slice (some ⟨w5.heap.size + 1 + 1 + 1 + 1 + 1 + 1, 0, none⟩) 2 2) ∧ W.cell? ⟨w.heap.size, 0, none⟩ = some (.int .i64 k) ∧ W.cell? ⟨w.heap.size, 1, none⟩ = some (.string n) ∧ W.cell? ⟨w.heap.size, 2, none⟩ = some (.string v) ∧ W.cell? ⟨w.heap.size, 3, none⟩ = some (.slice A m c) ∧ W.cell? ⟨w.heap.size + 1 + 1, 0, none⟩ = some (.string nm) ∧ W.cell? ⟨w.heap.size + 1 + 1, 1, none⟩ = some (.slice PA pm pc)) from fun W hb => by
      obtain ⟨x0, x1, x2, x3⟩ := blkc (HB1.out.drew.below hb HB1.out.lt)
      obtain ⟨y0, y1, y2, y3⟩ := blkc (HB3.out.drew.below hb HB3.out.lt)
      obtain ⟨z0, z1, z2, z3⟩ := blkc (HB5.out.drew.below hb HB5.out.lt)
      obtain ⟨u0, u1, u2, u3⟩ := blkc (HB7.out.drew.below hb HB7.out.lt)
      obtain ⟨i0, i1, i2, i3⟩ := blkc (HAV.out.drew.below hb HAV.out.lt)
      obtain ⟨j0, j1, -⟩ := blk2 (HQV.out.drew.below hb HQV.out.lt)
      exact ⟨x0, x1, x2, x3, y0, y1, y2, y3, z0, z1, z2, z3, u0, u1, u2, u3, i0, i1, i2, i3, j0, j1⟩)
    have hV0 := Below.refl V.drew.heap.size V.drew
    have hBVb := hBV
    clear B0 B1 B2 B3 B4 B5 B6 B7 hAV hQV hta htb hpv cn c2 ca co HA HC0 HQ hBV
    refine wp_region_held_drew (S := fun W => W.cell? ⟨w5.heap.size + 1, 0, none⟩ = some (.int .i64 3) ∧ W.cell? ⟨w5.heap.size + 1, 1, none⟩ = some (.string ⟨#[]⟩) ∧ W.cell? ⟨w5.heap.size + 1, 2, none⟩ = some (.string ⟨#[]⟩) ∧ W.cell? ⟨w5.heap.size + 1, 3, none⟩ = some (.slice (some ⟨w5.heap.size, 0, none⟩) 1 1) ∧ W.cell? ⟨w5.heap.size + 1 + 1 + 1, 0, none⟩ = some (.int .i64 3) ∧ W.cell? ⟨w5.heap.size + 1 + 1 + 1, 1, none⟩ = some (.string ⟨#[]⟩) ∧ W.cell? ⟨w5.heap.size + 1 + 1 + 1, 2, none⟩ = some (.string ⟨#[]⟩) ∧ W.cell? ⟨w5.heap.size + 1 + 1 + 1, 3, none⟩ = some (.slice (some ⟨w5.heap.size + 1 + 1, 0, none⟩) 1 1) ∧ W.cell? ⟨w5.heap.size + 1 + 1 + 1 + 1 + 1, 0, none⟩ = some (.int .i64 4) ∧ W.cell? ⟨w5.heap.size + 1 + 1 + 1 + 1 + 1, 1, none⟩ = some (.string ⟨#[]⟩) ∧ W.cell? ⟨w5.heap.size + 1 + 1 + 1 + 1 + 1, 2, none⟩ = some (.string ⟨#[]⟩) ∧ W.cell? ⟨w5.heap.size + 1 + 1 + 1 + 1 + 1, 3, none⟩ = some (.slice (some ⟨w5.heap.size + 1 + 1 + 1 + 1, 0, none⟩) 2 2) ∧ W.cell? ⟨w5.heap.size + 1 + 1 + 1 + 1 + 1 + 1 + 1, 0, none⟩ = some (.int .i64 5) ∧ W.cell? ⟨w5.heap.size + 1 + 1 + 1 + 1 + 1 + 1 + 1, 1, none⟩ = some (.string ⟨#[]⟩) ∧ W.cell? ⟨w5.heap.size + 1 + 1 + 1 + 1 + 1 + 1 + 1, 2, none⟩ = some (.string ⟨#[]⟩) ∧ W.cell? ⟨w5.heap.size + 1 + 1 + 1 + 1 + 1 + 1 + 1, 3, none⟩ = some (.slice (some ⟨w5.heap.size + 1 + 1 + 1 + 1 + 1 + 1, 0, none⟩) 2 2) ∧ W.cell? ⟨w.heap.size, 0, none⟩ = some (.int .i64 k) ∧ W.cell? ⟨w.heap.size, 1, none⟩ = some (.string n) ∧ W.cell? ⟨w.heap.size, 2, none⟩ = some (.string v) ∧ W.cell? ⟨w.heap.size, 3, none⟩ = some (.slice A m c) ∧ W.cell? ⟨w.heap.size + 1 + 1, 0, none⟩ = some (.string nm) ∧ W.cell? ⟨w.heap.size + 1 + 1, 1, none⟩ = some (.slice PA pm pc)) mixed (HSS.out _ hV0) (fun hS => ?_)
    refine wpAnyH_take (i := 0) (v := .agg #[.int .i64 3, .string ⟨#[]⟩, .string ⟨#[]⟩, .slice (some ⟨w5.heap.size, 0, none⟩) 1 1]) rfl (by kernel_rfl) (by kernel_rfl) (by kernel_rfl) (fun _ _ _ h => h) (Or.inl ⟨by rfl, fun W hW => by obtain ⟨h0, h1, h2, h3, h4, h5, h6, h7, h8, h9, h10, h11, h12, h13, h14, h15, h16, h17, h18, h19, h20, h21⟩ := hW; go_simp⟩) hS ?_
    refine wpAnyH_take (i := 1) (v := .agg #[.string nm, .slice PA pm pc]) rfl (by kernel_rfl) (by kernel_rfl) (by kernel_rfl) (fun _ _ _ h => h) (Or.inl ⟨by rfl, fun W hW => by obtain ⟨h0, h1, h2, h3, h4, h5, h6, h7, h8, h9, h10, h11, h12, h13, h14, h15, h16, h17, h18, h19, h20, h21⟩ := hW; go_simp⟩) hS ?_
    refine wpAnyH_take (i := 3) (v := .bool true) rfl (by kernel_rfl) (by kernel_rfl) (by kernel_rfl) (fun _ _ _ h => h) (Or.inl ⟨by rfl, fun W hW => by obtain ⟨h0, h1, h2, h3, h4, h5, h6, h7, h8, h9, h10, h11, h12, h13, h14, h15, h16, h17, h18, h19, h20, h21⟩ := hW; go_simp⟩) hS ?_
    refine wpAnyH_take (i := 4) (v := .bool false) rfl (by kernel_rfl) (by kernel_rfl) (by kernel_rfl) (fun _ _ _ h => h) (Or.inl ⟨by rfl, fun W hW => by obtain ⟨h0, h1, h2, h3, h4, h5, h6, h7, h8, h9, h10, h11, h12, h13, h14, h15, h16, h17, h18, h19, h20, h21⟩ := hW; go_simp⟩) hS ?_
    refine wpAnyH_ready (rs := [2]) (by kernel_rfl) (by simp) ?_
    refine AllReadyH.cons rfl (fun K hK => ?_) AllReadyH.nil
    go_simp
    (with_reducible refine (KN.out _ hV0).mono ?_)
    rintro e w6 ⟨rfl, hc⟩
    have hV1 := hV0.trans (hc.mono hV0.size)
    refine hK.out _ _ (HSS.out _ hV1) (fun hS => ?_)
    clear hK K hc KN
    refine wpAnyH_ready (rs := [5]) (by kernel_rfl) (by simp) ?_
    refine AllReadyH.cons rfl (fun K hK => ?_) AllReadyH.nil
    go_simp
    refine hK.out _ _ hS (fun hS => ?_)
    clear hK K
    refine wpAnyH_ready (rs := [6]) (by kernel_rfl) (by simp) ?_
    refine AllReadyH.cons rfl (fun K hK => ?_) AllReadyH.nil
    go_simp
    refine hK.out _ _ hS (fun hS => ?_)
    clear hK K
    refine wpAnyH_take (i := 7) (v := .agg #[.int .i64 3, .string ⟨#[]⟩, .string ⟨#[]⟩, .slice (some ⟨w5.heap.size + 1 + 1, 0, none⟩) 1 1]) rfl (by kernel_rfl) (by kernel_rfl) (by kernel_rfl) (fun _ _ _ h => h) (Or.inl ⟨by rfl, fun W hW => by obtain ⟨h0, h1, h2, h3, h4, h5, h6, h7, h8, h9, h10, h11, h12, h13, h14, h15, h16, h17, h18, h19, h20, h21⟩ := hW; go_simp⟩) hS ?_
    refine wpAnyH_take (i := 8) (v := .agg #[.string nm, .slice PA pm pc]) rfl (by kernel_rfl) (by kernel_rfl) (by kernel_rfl) (fun _ _ _ h => h) (Or.inl ⟨by rfl, fun W hW => by obtain ⟨h0, h1, h2, h3, h4, h5, h6, h7, h8, h9, h10, h11, h12, h13, h14, h15, h16, h17, h18, h19, h20, h21⟩ := hW; go_simp⟩) hS ?_
    refine wpAnyH_take (i := 10) (v := .bool true) rfl (by kernel_rfl) (by kernel_rfl) (by kernel_rfl) (fun _ _ _ h => h) (Or.inl ⟨by rfl, fun W hW => by obtain ⟨h0, h1, h2, h3, h4, h5, h6, h7, h8, h9, h10, h11, h12, h13, h14, h15, h16, h17, h18, h19, h20, h21⟩ := hW; go_simp⟩) hS ?_
    refine wpAnyH_ready (rs := [9]) (by kernel_rfl) (by simp) ?_
    refine AllReadyH.cons rfl (fun K hK => ?_) AllReadyH.nil
    go_simp
    (with_reducible refine (K2.out _ hV1).mono ?_)
    rintro e w7 ⟨rfl, hc⟩
    have hV2 := hV1.trans (hc.mono hV1.size)
    refine hK.out _ _ (HSS.out _ hV2) (fun hS => ?_)
    clear hK K hc K2
    refine wpAnyH_ready (rs := [11]) (by kernel_rfl) (by simp) ?_
    refine AllReadyH.cons rfl (fun K hK => ?_) AllReadyH.nil
    go_simp
    refine hK.out _ _ hS (fun hS => ?_)
    clear hK K
    refine wpAnyH_ready (rs := [12]) (by kernel_rfl) (by simp) ?_
    refine AllReadyH.cons rfl (fun K hK => ?_) AllReadyH.nil
    go_simp
    refine hK.out _ _ hS (fun hS => ?_)
    clear hK K
    refine wpAnyH_ready (rs := [13]) (by kernel_rfl) (by simp) ?_
    refine AllReadyH.cons rfl (fun K hK => ?_) AllReadyH.nil
    go_simp
    refine hK.out _ _ hS (fun hS => ?_)
    clear hK K
    refine wpAnyH_take (i := 14) (v := .agg #[.int .i64 4, .string ⟨#[]⟩, .string ⟨#[]⟩, .slice (some ⟨w5.heap.size + 1 + 1 + 1 + 1, 0, none⟩) 2 2]) rfl (by kernel_rfl) (by kernel_rfl) (by kernel_rfl) (fun _ _ _ h => h) (Or.inl ⟨by rfl, fun W hW => by obtain ⟨h0, h1, h2, h3, h4, h5, h6, h7, h8, h9, h10, h11, h12, h13, h14, h15, h16, h17, h18, h19, h20, h21⟩ := hW; go_simp⟩) hS ?_
    refine wpAnyH_take (i := 15) (v := .agg #[.string nm, .slice PA pm pc]) rfl (by kernel_rfl) (by kernel_rfl) (by kernel_rfl) (fun _ _ _ h => h) (Or.inl ⟨by rfl, fun W hW => by obtain ⟨h0, h1, h2, h3, h4, h5, h6, h7, h8, h9, h10, h11, h12, h13, h14, h15, h16, h17, h18, h19, h20, h21⟩ := hW; go_simp⟩) hS ?_
    refine wpAnyH_take (i := 17) (v := .bool true) rfl (by kernel_rfl) (by kernel_rfl) (by kernel_rfl) (fun _ _ _ h => h) (Or.inl ⟨by rfl, fun W hW => by obtain ⟨h0, h1, h2, h3, h4, h5, h6, h7, h8, h9, h10, h11, h12, h13, h14, h15, h16, h17, h18, h19, h20, h21⟩ := hW; go_simp⟩) hS ?_
    refine wpAnyH_ready (rs := [16]) (by kernel_rfl) (by simp) ?_
    refine AllReadyH.cons rfl (fun K hK => ?_) AllReadyH.nil
    go_simp
    (with_reducible refine (KA.out _ hV2).mono ?_)
    rintro e w8 ⟨rfl, hc⟩
    have hV3 := hV2.trans (hc.mono hV2.size)
    refine hK.out _ _ (HSS.out _ hV3) (fun hS => ?_)
    clear hK K hc KA
    refine wpAnyH_ready (rs := [18]) (by kernel_rfl) (by simp) ?_
    refine AllReadyH.cons rfl (fun K hK => ?_) AllReadyH.nil
    go_simp
    refine hK.out _ _ hS (fun hS => ?_)
    clear hK K
    refine wpAnyH_take (i := 19) (v := .bool true) rfl (by kernel_rfl) (by kernel_rfl) (by kernel_rfl) (fun _ _ _ h => h) (Or.inl ⟨by rfl, fun W hW => by obtain ⟨h0, h1, h2, h3, h4, h5, h6, h7, h8, h9, h10, h11, h12, h13, h14, h15, h16, h17, h18, h19, h20, h21⟩ := hW; go_simp⟩) hS ?_
    refine wpAnyH_ready (rs := [20]) (by kernel_rfl) (by simp) ?_
    refine AllReadyH.cons rfl (fun K hK => ?_) AllReadyH.nil
    go_simp
    refine hK.out _ _ hS (fun hS => ?_)
    clear hK K
    refine wpAnyH_ready (rs := [21]) (by kernel_rfl) (by simp) ?_
    refine AllReadyH.cons rfl (fun K hK => ?_) AllReadyH.nil
    go_simp
    refine hK.out _ _ hS (fun hS => ?_)
    clear hK K
    refine wpAnyH_ready (rs := [22]) (by kernel_rfl) (by simp) ?_
    refine AllReadyH.cons rfl (fun K hK => ?_) AllReadyH.nil
    go_simp
    refine hK.out _ _ hS (fun hS => ?_)
    clear hK K
    refine wpAnyH_ready (rs := [23]) (by kernel_rfl) (by simp) ?_
    refine AllReadyH.cons rfl (fun K hK => ?_) AllReadyH.nil
    go_simp
    refine hK.out _ _ hS (fun hS => ?_)
    clear hK K
    refine wpAnyH_take (i := 24) (v := .agg #[.int .i64 5, .string ⟨#[]⟩, .string ⟨#[]⟩, .slice (some ⟨w5.heap.size + 1 + 1 + 1 + 1 + 1 + 1, 0, none⟩) 2 2]) rfl (by kernel_rfl) (by kernel_rfl) (by kernel_rfl) (fun _ _ _ h => h) (Or.inl ⟨by rfl, fun W hW => by obtain ⟨h0, h1, h2, h3, h4, h5, h6, h7, h8, h9, h10, h11, h12, h13, h14, h15, h16, h17, h18, h19, h20, h21⟩ := hW; go_simp⟩) hS ?_
    refine wpAnyH_take (i := 25) (v := .agg #[.string nm, .slice PA pm pc]) rfl (by kernel_rfl) (by kernel_rfl) (by kernel_rfl) (fun _ _ _ h => h) (Or.inl ⟨by rfl, fun W hW => by obtain ⟨h0, h1, h2, h3, h4, h5, h6, h7, h8, h9, h10, h11, h12, h13, h14, h15, h16, h17, h18, h19, h20, h21⟩ := hW; go_simp⟩) hS ?_
    refine wpAnyH_take (i := 27) (v := .bool true) rfl (by kernel_rfl) (by kernel_rfl) (by kernel_rfl) (fun _ _ _ h => h) (Or.inl ⟨by rfl, fun W hW => by obtain ⟨h0, h1, h2, h3, h4, h5, h6, h7, h8, h9, h10, h11, h12, h13, h14, h15, h16, h17, h18, h19, h20, h21⟩ := hW; go_simp⟩) hS ?_
    refine wpAnyH_ready (rs := [26]) (by kernel_rfl) (by simp) ?_
    refine AllReadyH.cons rfl (fun K hK => ?_) AllReadyH.nil
    go_simp
    (with_reducible refine (KO.out _ hV3).mono ?_)
    rintro e w9 ⟨rfl, hc⟩
    have hV4 := hV3.trans (hc.mono hV3.size)
    refine hK.out _ _ (HSS.out _ hV4) (fun hS => ?_)
    clear hK K hc KO
    refine wpAnyH_ready (rs := [28]) (by kernel_rfl) (by simp) ?_
    refine AllReadyH.cons rfl (fun K hK => ?_) AllReadyH.nil
    go_simp
    refine hK.out _ _ hS (fun hS => ?_)
    clear hK K
    refine wpAnyH_take (i := 29) (v := undef) rfl (by kernel_rfl) (by kernel_rfl) (by kernel_rfl) (fun _ _ _ h => h) (Or.inr ⟨by rfl, rfl⟩) hS ?_
    refine wpAnyH_ready (rs := [30]) (by kernel_rfl) (by simp) ?_
    refine AllReadyH.cons rfl (fun K hK => ?_) AllReadyH.nil
    go_simp
    refine hK.out _ _ hS (fun hS => ?_)
    clear hK K
    refine wpAnyH_ready (rs := [31]) (by kernel_rfl) (by simp) ?_
    refine AllReadyH.cons rfl (fun K hK => ?_) AllReadyH.nil
    go_simp
    refine hK.out _ _ hS (fun hS => ?_)
    clear hK K
    refine wpAnyH_ready (rs := [32]) (by kernel_rfl) (by simp) ?_
    refine AllReadyH.cons rfl (fun K hK => ?_) AllReadyH.nil
    go_simp
    refine hK.out _ _ hS (fun hS => ?_)
    clear hK K
    refine wpAnyH_ready (rs := [33]) (by kernel_rfl) (by simp) ?_
    refine AllReadyH.cons rfl (fun K hK => ?_) AllReadyH.nil
    go_simp
    refine hK.out _ _ hS (fun hS => ?_)
    clear hK K
    refine wpAnyH_take (i := 34) (v := .agg #[.int .i64 3, .string ⟨#[]⟩, .string ⟨#[]⟩, .slice (some ⟨w5.heap.size + 1 + 1, 0, none⟩) 1 1]) rfl (by kernel_rfl) (by kernel_rfl) (by kernel_rfl) (fun _ _ _ h => h) (Or.inl ⟨by rfl, fun W hW => by obtain ⟨h0, h1, h2, h3, h4, h5, h6, h7, h8, h9, h10, h11, h12, h13, h14, h15, h16, h17, h18, h19, h20, h21⟩ := hW; go_simp⟩) hS ?_
    refine wpAnyH_take (i := 36) (v := .agg #[.int .i64 k, .string n, .string v, .slice A m c]) rfl (by kernel_rfl) (by kernel_rfl) (by kernel_rfl) (fun _ _ _ h => h) (Or.inl ⟨by rfl, fun W hW => by obtain ⟨h0, h1, h2, h3, h4, h5, h6, h7, h8, h9, h10, h11, h12, h13, h14, h15, h16, h17, h18, h19, h20, h21⟩ := hW; go_simp⟩) hS ?_
    refine wpAnyH_ready (rs := [35]) (by kernel_rfl) (by simp) ?_
    refine AllReadyH.cons rfl (fun K hK => ?_) AllReadyH.nil
    go_simp
    (with_reducible refine (KS2.out _ hV4).mono ?_)
    rintro e w10 ⟨rk, rn, rv, rA, rm, rc, rD, rfl, hcr, hc⟩
    have hV5 := hV4.trans (hc.mono hV4.size)
    have HR1 := Lib.hid (hcr.mono (Y := (· < w10.heap.size)) fun j hj => hj.2)
    refine hK.out _ _ (HSS.out _ hV5) (fun hS => ?_)
    clear hK K hc KS2 hcr
    refine wpAnyH_ready (rs := [37]) (by kernel_rfl) (by simp) ?_
    refine AllReadyH.cons rfl (fun K hK => ?_) AllReadyH.nil
    go_simp
    (with_reducible refine (KS1.out _ hV5).mono ?_)
    rintro e w11 ⟨rk2, rn2, rv2, rA2, rm2, rc2, rD2, rfl, hcr, hc⟩
    have hV6 := hV5.trans (hc.mono hV5.size)
    have HSM := Lib.hid (sameC_yes (max rD rD2) (simpleL t) _ _ _ _ _ _ _ _ w11 ((HR1.out.below hc).deeper (Nat.le_max_left _ _)) ((hcr.mono (Y := (· < w11.heap.size)) fun j hj => hj.2).deeper (Nat.le_max_right _ _)))
    refine hK.out _ _ (HSS.out _ hV6) (fun hS => ?_)
    clear hK K hc KS1 hcr HR1
    refine wpAnyH_ready (rs := [38]) (by kernel_rfl) (by simp) ?_
    refine AllReadyH.cons rfl (fun K hK => ?_) AllReadyH.nil
    go_simp
    (with_reducible refine HSM.out.mono ?_)
    rintro e w12 ⟨rfl, hc⟩
    have hV7 := hV6.trans (hc.mono hV6.size)
    refine hK.out _ _ (HSS.out _ hV7) (fun hS => ?_)
    clear hK K hc HSM
    refine wpAnyH_ready (rs := [39]) (by kernel_rfl) (by simp) ?_
    refine AllReadyH.cons rfl (fun K hK => ?_) AllReadyH.nil
    go_simp
    refine hK.out _ _ hS (fun hS => ?_)
    clear hK K
    refine wpAnyH_ready (rs := [40]) (by kernel_rfl) (by simp) ?_
    refine AllReadyH.cons rfl (fun K hK => ?_) AllReadyH.nil
    go_simp
    refine hK.out _ _ hS (fun hS => ?_)
    clear hK K
    refine wpAnyH_done (by kernel_rfl) ?_ _
    go_wp2
    go_ret
    exact ⟨rfl, hbW.trans ((hBVb.trans ((Below.undrew hV7).mono hBVb.size)).mono hbW.size)⟩
end Go.Proofs.Ytfgblmdmhgllgaa
