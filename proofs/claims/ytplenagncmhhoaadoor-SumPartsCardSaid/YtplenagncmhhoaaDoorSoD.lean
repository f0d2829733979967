/- SumParts: its walk. -/
import Derived.Test.YtplenagncmhhoaaDoorSoE
import Derived.Deep.RegionHeld3
import Derived.BigQuiet
namespace Go.Proofs.YtplenagncmhhoaaDoor
open Go.RowKit

set_option maxHeartbeats 8000000 in
set_option maxRecDepth 100000 in
theorem sumParts_walk {w : World} (hg : GlAt w) (hw : 4 < w.heap.size) (su bo su' bo' : ByteArray) {A A' : Option Addr} {n c n' c' : Nat} {ps qs : List PtB} (hp : PartsAt w A n ps) (hq : PartsAt w A' n' qs) (hsu : su.size ≤ maxLen) (hbo : bo.size ≤ maxLen) (hsu' : su'.size ≤ maxLen) (hbo' : bo'.size ≤ maxLen) :
    Calls Tryd.prog 8 #[.agg #[.string su, .string bo, .slice A n c], .agg #[.string su', .string bo', .slice A' n' c']] w fun e w' => e = .returned (.bool true) ∧ Below w.heap.size w w' := by
  have HG := Lib.hid hg
  have hb0 := ((Below.refl w.heap.size w).alloc (Nat.le_refl _) (.cells #[.string su, .string bo, .slice A n c] 24)).alloc (by simp) (.cells #[.string su', .string bo', .slice A' n' c'] 24)
  have B0 := Lib.hid hb0
  have HA := Lib.hid (sAlive_any (hg.below hb0) (by simp; omega))
  have Z0 := Lib.hid ((Blk.new w 24 #[.string su, .string bo, .slice A n c]).alloc (.cells #[.string su', .string bo', .slice A' n' c'] 24))
  have Y0 := Lib.hid (show Blk ((w.alloc (.cells #[.string su, .string bo, .slice A n c] 24)).alloc (.cells #[.string su', .string bo', .slice A' n' c'] 24)) (w.heap.size + 1) 24 #[.string su', .string bo', .slice A' n' c'] by
    have h := Blk.new (w.alloc (.cells #[.string su, .string bo, .slice A n c] 24)) 24 #[.string su', .string bo', .slice A' n' c']
    simpa using h)
  have P0 := Lib.hid (hp.below hb0)
  have Q0 := Lib.hid (hq.below hb0)
  have hl : ps.length = n := hp.1
  have hl' : qs.length = n' := hq.1
  clear hg hb0 hp hq
  go_enter Tryd.func8, Tryd.ntmps8
  go_wp2_with fail
  (with_reducible refine HA.out.mono ?_)
  rintro e w1 ⟨rfl, b1⟩
  have B1 := Lib.hid (B0.out.trans (b1.mono (by simp; omega)))
  have Z1 := Lib.hid (Z0.out.below b1 (by simp; omega))
  have Y1 := Lib.hid (Y0.out.below b1 (by simp))
  have P1 := Lib.hid (P0.out.below b1)
  have Q1 := Lib.hid (Q0.out.below b1)
  have hs1 := B1.out.size
  obtain ⟨z0, z1, z2, _, _, _⟩ := blk3 Z1.out
  obtain ⟨y0, y1, y2, _, _, _⟩ := blk3 Y1.out
  have hz1 := Z1.out.lt
  have hy1 := Y1.out.lt
  have HF := Lib.hid (few_any (c := c) su bo P1.out)
  clear b1
  cases hD : decide (ps.length + lenSum ps ≤ 2000)
  · rw [hD] at HF
    clear hD
    go_wp2_with fail
    (with_reducible refine HF.out.mono ?_)
    rintro e w2 ⟨rfl, b2⟩
    have B2 := Lib.hid (B1.out.trans (b2.mono hs1))
    clear b2
    go_wp2
    go_ret
    exact ⟨rfl, B2.out⟩
  · rw [hD] at HF
    have hfew : ps.length + lenSum ps ≤ 2000 := of_decide_eq_true hD
    clear hD
    go_wp2_with fail
    (with_reducible refine HF.out.mono ?_)
    rintro e w2 ⟨rfl, b2⟩
    have B2 := Lib.hid (B1.out.trans (b2.mono hs1))
    have Z2 := Lib.hid (Z1.out.below b2 hz1)
    have Y2 := Lib.hid (Y1.out.below b2 hy1)
    have P2 := Lib.hid (P1.out.below b2)
    have Q2 := Lib.hid (Q1.out.below b2)
    have hs2 := B2.out.size
    have hz2 := Z2.out.lt
    have hy2 := Y2.out.lt
    clear z0 z1 z2 y0 y1 y2
    obtain ⟨z0, z1, z2, _, _, _⟩ := blk3 Z2.out
    obtain ⟨y0, y1, y2, _, _, _⟩ := blk3 Y2.out
    have HF2 := Lib.hid (few_any (c := c') su' bo' Q2.out)
    clear b2
    cases hD : decide (qs.length + lenSum qs ≤ 2000)
    · rw [hD] at HF2
      clear hD
      go_wp2_with fail
      (with_reducible refine HF2.out.mono ?_)
      rintro e w3 ⟨rfl, b3⟩
      have B3 := Lib.hid (B2.out.trans (b3.mono hs2))
      clear b3
      go_wp2
      go_ret
      exact ⟨rfl, B3.out⟩
    · rw [hD] at HF2
      have hfew' : qs.length + lenSum qs ≤ 2000 := of_decide_eq_true hD
      clear hD
      go_wp2_with fail
      (with_reducible refine HF2.out.mono ?_)
      rintro e w3 ⟨rfl, b3⟩
      have B3 := Lib.hid (B2.out.trans (b3.mono hs2))
      have Z3 := Lib.hid (Z2.out.below b3 hz2)
      have Y3 := Lib.hid (Y2.out.below b3 hy2)
      have P3 := Lib.hid (P2.out.below b3)
      have Q3 := Lib.hid (Q2.out.below b3)
      have hs3 := B3.out.size
      have hz3 := Z3.out.lt
      have hy3 := Y3.out.lt
      clear z0 z1 z2 y0 y1 y2
      obtain ⟨z0, z1, z2, _, _, _⟩ := blk3 Z3.out
      obtain ⟨y0, y1, y2, _, _, _⟩ := blk3 Y3.out
      have HR := Lib.hid (sRight_any (c := c) su bo P3.out (HG.out.below B3.out).tab hsu hbo)
      clear b3
      cases hr : rightS su bo ps
      · rw [hr] at HR
        clear hr
        go_wp2_with fail
        (with_reducible refine HR.out.mono ?_)
        rintro e w4 ⟨rfl, b4⟩
        have B4 := Lib.hid (B3.out.trans (b4.mono hs3))
        clear b4
        go_wp2
        go_ret
        exact ⟨rfl, B4.out⟩
      · rw [hr] at HR
        have HRT := Lib.hid hr
        clear hr
        go_wp2_with fail
        (with_reducible refine HR.out.mono ?_)
        rintro e w4 ⟨rfl, b4⟩
        have B4 := Lib.hid (B3.out.trans (b4.mono hs3))
        have Z4 := Lib.hid (Z3.out.below b4 hz3)
        have Y4 := Lib.hid (Y3.out.below b4 hy3)
        have P4 := Lib.hid (P3.out.below b4)
        have Q4 := Lib.hid (Q3.out.below b4)
        have hs4 := B4.out.size
        have hz4 := Z4.out.lt
        have hy4 := Y4.out.lt
        clear z0 z1 z2 y0 y1 y2
        obtain ⟨z0, z1, z2, _, _, _⟩ := blk3 Z4.out
        obtain ⟨y0, y1, y2, _, _, _⟩ := blk3 Y4.out
        have HR2 := Lib.hid (sRight_any (c := c') su' bo' Q4.out (HG.out.below B4.out).tab hsu' hbo')
        clear b4
        cases hr : rightS su' bo' qs
        · rw [hr] at HR2
          clear hr
          go_wp2_with fail
          (with_reducible refine HR2.out.mono ?_)
          rintro e w5 ⟨rfl, b5⟩
          have B5 := Lib.hid (B4.out.trans (b5.mono hs4))
          clear b5
          go_wp2
          go_ret
          exact ⟨rfl, B5.out⟩
        · rw [hr] at HR2
          have HRT2 := Lib.hid hr
          clear hr
          go_wp2_with fail
          (with_reducible refine HR2.out.mono ?_)
          rintro e w5 ⟨rfl, b5⟩
          have B5 := Lib.hid (B4.out.trans (b5.mono hs4))
          have Z5 := Lib.hid (Z4.out.below b5 hz4)
          have Y5 := Lib.hid (Y4.out.below b5 hy4)
          have P5 := Lib.hid (P4.out.below b5)
          have Q5 := Lib.hid (Q4.out.below b5)
          have hs5 := B5.out.size
          have hz5 := Z5.out.lt
          have hy5 := Y5.out.lt
          clear z0 z1 z2 y0 y1 y2 b5
          obtain ⟨z0, z1, z2, _, _, _⟩ := blk3 Z5.out
          obtain ⟨y0, y1, y2, _, _, _⟩ := blk3 Y5.out
          go_wp2_with fail
          obtain ⟨cs, hcs, hca⟩ := parts_cells P5.out
          obtain ⟨cs', hcs', hca'⟩ := parts_cells Q5.out
          have hcl : cs.length = n * 2 := by rw [hcs.1, hl]
          have hcl' : cs'.length = n' * 2 := by rw [hcs'.1, hl']
          have HPC := Lib.hid (hcs.app hcs')
          have HSZ := Lib.hid (show ∀ p, p ∈ ps ++ qs → p.1.size ≤ maxLen from fun p hp => (List.mem_append.1 hp).elim (P5.out.2.2.1 p) (Q5.out.2.2.1 p))
          have hpl : (ps ++ qs).length = n + n' := by rw [List.length_append, hl, hl']
          have hone := hcs.2.1
          have hone' := hcs'.2.1
          have hca : CsAt w5 A n cs := hca
          have hca' : CsAt w5 A' n' cs' := hca'
          obtain ⟨M, hM⟩ : ∃ M, M = w5.heap.size := ⟨_, rfl⟩
          have X0 := Lib.hid (Below.refl w5.heap.size w5).drew
          have Xr := Below.refl w5.heap.size w5
          have X1 := Lib.hid (Xr.alloc (Nat.le_refl _) (.cells #[] 46)).drew
          have X2 := Lib.hid (Xr.alloc (Nat.le_refl _) (.cells zero3 24)).drew
          have X3 := Lib.hid ((Xr.alloc (Nat.le_refl _) (.cells #[] 46)).alloc (by simp) (.cells zero3 24)).drew
          have X4 := Lib.hid ((Xr.alloc (Nat.le_refl _) (.cells zero3 24)).alloc (by simp) (.cells #[] 46)).drew
          have e2 := (Blk.new w5 46 #[]).drew
          have q3 : Blk ((w5.alloc (.cells #[] 46)).alloc (.cells zero3 24)).drew (w5.heap.size + 1) 24 zero3 := by
            have h := (Blk.new (w5.alloc (.cells #[] 46)) 24 zero3).drew
            simpa using h
          have e3 := ((Blk.new w5 46 #[]).alloc (.cells zero3 24)).drew
          have q4 := ((Blk.new w5 24 zero3).alloc (.cells #[] 46)).drew
          have e4 : Blk ((w5.alloc (.cells zero3 24)).alloc (.cells #[] 46)).drew (w5.heap.size + 1) 46 #[] := by
            have h := (Blk.new (w5.alloc (.cells zero3 24)) 46 #[]).drew
            simpa using h
          obtain ⟨A5, c5, W5, r5, o5, b5, k5⟩ := app1P (c := c) X4.out (row_empty e4 (by omega)) hcl hone hca (by omega)
          obtain ⟨A6, c6, W6, r6, o6, b6, k6⟩ := app1P (c := c) X3.out (row_empty e3 (Nat.le_refl _)) hcl hone hca (by omega)
          obtain ⟨A7, c7, W7, r7, o7, b7, k7⟩ := app1P (c := c) X1.out (row_empty e2 (Nat.le_refl _)) hcl hone hca (by omega)
          simp only [Nat.zero_add, List.nil_append] at r5 o5 k5 r6 o6 k6 r7 o7 k7
          obtain ⟨y5, n5⟩ := k5 _ _ _ (by simp <;> omega) (by simp [Value.ownBlock] <;> omega) q4
          obtain ⟨y6, n6⟩ := k6 _ _ _ (by simp <;> omega) (by simp [Value.ownBlock] <;> omega) q3
          have b8 := b7.alloc b7.size (.cells zero3 24)
          have o8 := o7.alloc (.cells zero3 24)
          have q8 := Blk.new W7 24 zero3
          obtain ⟨A9, c9, W9, r9, o9, b9, k9⟩ := app1P (c := c') b5 o5 hcl' hone' hca' (by omega)
          obtain ⟨A10, c10, W10, r10, o10, b10, k10⟩ := app1P (c := c') b6 o6 hcl' hone' hca' (by omega)
          obtain ⟨A11, c11, W11, r11, o11, b11, k11⟩ := app1P (c := c') b7 o7 hcl' hone' hca' (by omega)
          obtain ⟨A12, c12, W12, r12, o12, b12, k12⟩ := app1P (c := c') b8 o8 hcl' hone' hca' (by omega)
          obtain ⟨y9, n9⟩ := k9 _ _ _ y5.lt n5 y5
          obtain ⟨y10, n10⟩ := k10 _ _ _ y6.lt n6 y6
          obtain ⟨y12, n12⟩ := k12 _ _ _ (by simp) (fun e => by have := (o7.lt _ e).2; omega) q8
          have F9 := Lib.hid (fin5 su bo o9 n9 y9 b9 (Nat.le_refl _) HPC.out hpl (by omega) HSZ.out)
          have F10 := Lib.hid (fin5 su bo o10 n10 y10 b10 (by omega) HPC.out hpl (by omega) HSZ.out)
          have F12 := Lib.hid (fin5 su bo o12 n12 y12 b12 b7.size HPC.out hpl (by omega) HSZ.out)
          have F11 := Lib.hid (fin5n su bo o11 b11 HPC.out hpl (by omega) HSZ.out)
          obtain ⟨p1, p2, p3, p4, p5, p6⟩ := blk3 y9
          obtain ⟨s1, s2, s3, s4, s5, s6⟩ := blk3 y10
          obtain ⟨t1, t2, t3, t4, t5, t6⟩ := blk3 y12
          have R5' := Lib.hid r5
          have R6 := Lib.hid r6
          have R7 := Lib.hid r7
          have R9 := Lib.hid r9
          have R10 := Lib.hid r10
          have R11 := Lib.hid r11
          have R12 := Lib.hid r12
          have X5 := Lib.hid b5
          have X6 := Lib.hid b6
          have X7 := Lib.hid b7
          have X8 := Lib.hid b8
          have X9 := Lib.hid b9
          have X10 := Lib.hid b10
          have X11 := Lib.hid b11
          have X12 := Lib.hid b12
          have X13 := Lib.hid (b11.alloc b11.size (.cells zero3 24))
          have HSX := Lib.hid (show ∀ W : World, Below w5.heap.size w5 W → W.cell? ⟨w.heap.size, 0, none⟩ = some (.string su) ∧ W.cell? ⟨w.heap.size, 1, none⟩ = some (.string bo) ∧ W.cell? ⟨w.heap.size, 2, none⟩ = some (.slice A n c) ∧ W.cell? ⟨w.heap.size + 1, 2, none⟩ = some (.slice A' n' c') from fun X hB => four (Z5.out.below hB hz5) ((Y5.out.below hB hy5).cell 2))
          clear hcs hcs' hca hca' r5 r6 r7 r9 r10 r11 r12 o5 o6 o7 o8 o9 o10 o11 o12 b5 b6 b7 b8 b9 b10 b11 b12 k5 k6 k7 k9 k10 k11 k12 y5 y6 y9 y10 y12 n5 n6 n9 n10 n12 q3 q4 q8 e2 e3 e4 hone hone' hM
          refine region_cut (R5 w5 su bo (n + n') (ps ++ qs)) ?_ ?_
          · go_region_held3 (fun W => W.cell? ⟨w.heap.size, 0, none⟩ = some (.string su) ∧ W.cell? ⟨w.heap.size, 1, none⟩ = some (.string bo) ∧ W.cell? ⟨w.heap.size, 2, none⟩ = some (.slice A n c) ∧ W.cell? ⟨w.heap.size + 1, 2, none⟩ = some (.slice A' n' c')) (first | with_reducible exact HSX.out _ X0.out | with_reducible exact HSX.out _ X1.out | with_reducible exact HSX.out _ X2.out | with_reducible exact HSX.out _ X3.out | with_reducible exact HSX.out _ X4.out | with_reducible exact HSX.out _ X5.out | with_reducible exact HSX.out _ X6.out | with_reducible exact HSX.out _ X7.out | with_reducible exact HSX.out _ X8.out | with_reducible exact HSX.out _ X9.out | with_reducible exact HSX.out _ X10.out | with_reducible exact HSX.out _ X11.out | with_reducible exact HSX.out _ X12.out | with_reducible exact HSX.out _ X13.out | with_reducible exact HSX.out _ F9.out.2.2.2 | with_reducible exact HSX.out _ F10.out.2.2.2 | with_reducible exact HSX.out _ F12.out.2.2.2 | with_reducible exact HSX.out _ F11.out.2.2.2)
              (first
                | ((with_reducible refine world_is ((w5.alloc (.cells zero3 24)).alloc (.cells #[] 46)).drew ?_); refine step_app_run (by rfl) _ _ _ (by rfl) _ _ _ (by rfl) (by rfl) R5'.out ?_)
                | ((with_reducible refine world_is ((w5.alloc (.cells #[] 46)).alloc (.cells zero3 24)).drew ?_); refine step_app_run (by rfl) _ _ _ (by rfl) _ _ _ (by rfl) (by rfl) R6.out ?_)
                | ((with_reducible refine world_is (w5.alloc (.cells #[] 46)).drew ?_); refine step_app_run (by rfl) _ _ _ (by rfl) _ _ _ (by rfl) (by rfl) R7.out ?_)
                | ((with_reducible refine world_is W5 ?_); refine step_app_run (by rfl) _ _ _ (by rfl) _ _ _ (by rfl) (by rfl) R9.out ?_)
                | ((with_reducible refine world_is W6 ?_); refine step_app_run (by rfl) _ _ _ (by rfl) _ _ _ (by rfl) (by rfl) R10.out ?_)
                | ((with_reducible refine world_is W7 ?_); refine step_app_run (by rfl) _ _ _ (by rfl) _ _ _ (by rfl) (by rfl) R11.out ?_)
                | ((with_reducible refine world_is (W7.alloc (.cells zero3 24)) ?_); refine step_app_run (by rfl) _ _ _ (by rfl) _ _ _ (by rfl) (by rfl) R12.out ?_))
            all_goals first
              | exact R5.intro _ _ _ (by kernel_rfl) F9.out
              | exact R5.intro _ _ _ (by kernel_rfl) F10.out
              | exact R5.intro _ _ _ (by kernel_rfl) F12.out
              | exact R5.intro _ _ _ (by kernel_rfl) F11.out
          · rintro a' w6 ⟨x36, x37, x38, x39, x40, x41, x42, x43, x44, x45, x46, x47, q, A2, c2, rfl, hq, yb, pb, bb⟩
            clear X0 X1 X2 X3 X4 X5 X6 X7 X8 X9 X10 X11 X12 X13 R5' R6 R7 R9 R10 R11 R12 F9 F10 F11 F12 HSX p1 p2 p3 p4 p5 p6 s1 s2 s3 s4 s5 s6 t1 t2 t3 t4 t5 t6 Xr z0 z1 z2 y0 y1 y2 hcl hcl'
            have B6 := Lib.hid (B5.out.trans (bb.mono hs5))
            have Z6 := Lib.hid (Z5.out.below bb hz5)
            have Y6 := Lib.hid (Y5.out.below bb hy5)
            have V6 := Lib.hid yb
            have P6 := Lib.hid (P5.out.below bb)
            have Q6 := Lib.hid (Q5.out.below bb)
            have U6 := Lib.hid pb
            have hs6 := B6.out.size
            have hz6 := Z6.out.lt
            have hy6 := Y6.out.lt
            have hv6 := yb.lt
            have hqw : w.heap.size + 1 < q := by omega
            obtain ⟨N, hN⟩ : ∃ N, N = n + n' := ⟨_, rfl⟩
            rw [← hN] at V6 U6 hpl
            obtain ⟨v0, v1, v2, _, _, _⟩ := blk3 V6.out
            have hls : lenSum (ps ++ qs) = lenSum ps + lenSum qs := lenSum_app ps qs
            have HRB := Lib.hid (rightS_app HRT.out HRT2.out)
            have hN4 : N + lenSum (ps ++ qs) ≤ 4000 := by omega
            have HSB := Lib.hid (show ((ps ++ qs).map fun p => p.2.length).sum ≤ 1000000 by unfold lenSum at hN4; omega)
            clear hls yb pb bb
            have HT := Lib.hid (sText_any (c := c2) su bo U6.out (HG.out.below B6.out).tab (HG.out.below B6.out).pow hsu hbo (by omega) HSB.out)
            rw [if_pos HRB.out] at HT
            obtain ⟨T, hT⟩ : ∃ T : ByteArray, T = ⟨(textB (smB su bo (ps ++ qs))).toArray⟩ := ⟨_, rfl⟩
            rw [← hT] at HT
            have HTT := Lib.hid hT
            clear hT
            have HNN := Lib.hid hN
            clear hN
            simp only [put5, Act.put, List.setIfInBounds_toArray, List.set_cons_succ, List.set_cons_zero]
            go_wp2_with fail
            (with_reducible refine HT.out.mono ?_)
            rintro e w7 ⟨rfl, b7⟩
            have B7 := Lib.hid (B6.out.trans (b7.mono hs6))
            have Z7 := Lib.hid (Z6.out.below b7 hz6)
            have Y7 := Lib.hid (Y6.out.below b7 hy6)
            have V7 := Lib.hid (V6.out.below b7 hv6)
            have P7 := Lib.hid (P6.out.below b7)
            have Q7 := Lib.hid (Q6.out.below b7)
            have U7 := Lib.hid (U6.out.below b7)
            have hs7 := B7.out.size
            have HP := Lib.hid (parse_back (w := w7) HRB.out (by rw [hpl]; omega) (HG.out.below B7.out) (by omega))
            rw [← HTT.out, hpl] at HP
            clear b7 v0 v1 v2
            go_wp2_with fail
            (with_reducible refine HP.out.mono ?_)
            rintro e w8 ⟨A8, c8, rfl, hp8, b8⟩
            have hal := (Below.refl w8.heap.size w8).alloc (Nat.le_refl _) (.cells #[.string su, .string bo, .slice A8 N c8] 24)
            have hb78 := b8.size
            have B8 := Lib.hid ((B7.out.trans (b8.mono hs7)).alloc (by omega) (.cells #[.string su, .string bo, .slice A8 N c8] 24))
            have Z8 := Lib.hid ((Z7.out.below b8 Z7.out.lt).alloc (.cells #[.string su, .string bo, .slice A8 N c8] 24))
            have Y8 := Lib.hid ((Y7.out.below b8 Y7.out.lt).alloc (.cells #[.string su, .string bo, .slice A8 N c8] 24))
            have V8 := Lib.hid ((V7.out.below b8 V7.out.lt).alloc (.cells #[.string su, .string bo, .slice A8 N c8] 24))
            have X8 := Lib.hid (Blk.new w8 24 #[.string su, .string bo, .slice A8 N c8])
            have P8 := Lib.hid ((P7.out.below b8).below hal)
            have Q8 := Lib.hid ((Q7.out.below b8).below hal)
            have U8 := Lib.hid ((U7.out.below b8).below hal)
            have W8 := Lib.hid (hp8.below hal)
            clear b8 hp8 hal
            obtain ⟨z0, z1, z2, _, _, _⟩ := blk3 Z8.out
            obtain ⟨y0, y1, y2, _, _, _⟩ := blk3 Y8.out
            have hz8 := Z8.out.lt
            have hy8 := Y8.out.lt
            have hadd : IntKind.i64.wrap ((n : Int) + (n' : Int)) = (N : Int) := by have := HNN.out; rw [IntWalk.i64_in _ (by omega)]; omega
            obtain ⟨wo, hwo⟩ : ∃ W, W = w8.alloc (.cells #[.string su, .string bo, .slice A8 N c8] 24) := ⟨_, rfl⟩
            go_wp2_with fail
            rw [← hwo]
            rw [← hwo] at B8 Z8 Y8 V8 X8 P8 Q8 U8 W8
            have hswo : wo.heap.size = w8.heap.size + 1 := by rw [hwo]; simp
            clear hwo z0 z1 z2 y0 y1 y2 hz8 hy8
            have hs8 := B8.out.size
            obtain ⟨z0, z1, z2, _, _, _⟩ := blk3 Z8.out
            obtain ⟨y0, y1, y2, _, _, _⟩ := blk3 Y8.out
            have hz8 := Z8.out.lt
            have hy8 := Y8.out.lt
            go_loopw [73] (fun i wr => ∃ k : Nat, k ≤ N ∧ i = .int .i64 (k : Nat) ∧ Below wo.heap.size wo wr) (fun i _ => N - (intOf i).toNat)
            case atStart => exact ⟨0, Nat.zero_le _, rfl, Below.refl _ _⟩
            case round =>
              obtain ⟨k, hk, rfl, hbw⟩ := hrel
              have HBW := Lib.hid hbw
              have hsw := hbw.size
              have d2 := (hbw.cell (p := ⟨w.heap.size, 2, none⟩) hz8).trans z2
              have f2 := (hbw.cell (p := ⟨w.heap.size + 1, 2, none⟩) hy8).trans y2
              have l1 : w.heap.size < wr.heap.size := by omega
              have l2 : w.heap.size + 1 < wr.heap.size := by omega
              have l1' : w.heap.size < wr.heap.size + 1 := by omega
              have l2' : w.heap.size + 1 < wr.heap.size + 1 := by omega
              clear hbw
              by_cases hkt : k < N
              · have hkt' : (k : Int) < (N : Int) := by omega
                have hk0 : (0 : Int) ≤ (k : Int) := by omega
                have hqk : IntKind.i64.wrap ((k : Int) + 1) = (k : Int) + 1 := IntWalk.i64_in _ (by omega)
                obtain ⟨⟨g, rs⟩, hr⟩ : ∃ r, (ps ++ qs)[k]? = some r := ⟨(ps ++ qs)[k]'(by omega), List.getElem?_eq_getElem _⟩
                obtain ⟨_, _, _, hcW⟩ := W8.out
                obtain ⟨xb, xf, rfl, hxb, hxc⟩ := hcW (by omega)
                obtain ⟨RA, rn, rc, c1, c2', hres⟩ := hxc k _ hr
                have hxbk := HBW.out.block xb hxb
                replace c1 := (World.cell?_of_block (a := ⟨xb, xf + k * 2, none⟩) hxbk).trans c1
                replace c2' := (World.cell?_of_block (a := ⟨xb, xf + k * 2 + 1, none⟩) hxbk).trans c2'
                have hrl : rs.length = rn := hres.1
                clear hxbk hxc hcW hres
                by_cases hkn : k < n
                · have hkn' : (k : Int) < (n : Int) := by omega
                  have hrp : ps[k]? = some (g, rs) := by rwa [List.getElem?_append_left (by omega)] at hr
                  obtain ⟨_, _, _, hcP⟩ := P8.out
                  obtain ⟨pb, pf, rfl, hpb, hpc⟩ := hcP (by omega)
                  obtain ⟨RB, rm, rd, d1, d3, hres⟩ := hpc k _ hrp
                  have hpbk := HBW.out.block pb hpb
                  replace d1 := (World.cell?_of_block (a := ⟨pb, pf + k * 2, none⟩) hpbk).trans d1
                  replace d3 := (World.cell?_of_block (a := ⟨pb, pf + k * 2 + 1, none⟩) hpbk).trans d3
                  obtain rfl : rm = rn := by have h9 : rs.length = rm := hres.1; omega
                  have l3 : pb < wr.heap.size := by omega
                  have l3' : pb < wr.heap.size + 1 := by omega
                  clear hpbk hpc hcP hres hr hrp
                  go_wp2_with fail
                  go_roundw
                  case rel => exact ⟨k + 1, by omega, by go_num, (HBW.out.alloc hsw _).alloc (Nat.le_trans hsw (by simp)) _⟩
                  case measure => simp [intOf]; omega
                · have hkn' : ¬ (k : Int) < (n : Int) := by omega
                  obtain ⟨j, hj⟩ : ∃ j, k = n + j := ⟨k - n, by omega⟩
                  have hjn : j < n' := by have := HNN.out; omega
                  have hrp : qs[j]? = some (g, rs) := by rw [List.getElem?_append_right (by omega)] at hr; rwa [show k - ps.length = j by omega] at hr
                  have hsub : IntKind.i64.wrap ((k : Int) - (n : Int)) = (j : Int) := by rw [IntWalk.i64_in _ (by omega)]; omega
                  have hj0 : (0 : Int) ≤ (j : Int) := by omega
                  have hjn' : (j : Int) < (n' : Int) := by omega
                  obtain ⟨_, _, _, hcQ⟩ := Q8.out
                  obtain ⟨pb, pf, rfl, hpb, hpc⟩ := hcQ (by omega)
                  obtain ⟨RB, rm, rd, d1, d3, hres⟩ := hpc j _ hrp
                  have hpbk := HBW.out.block pb hpb
                  replace d1 := (World.cell?_of_block (a := ⟨pb, pf + j * 2, none⟩) hpbk).trans d1
                  replace d3 := (World.cell?_of_block (a := ⟨pb, pf + j * 2 + 1, none⟩) hpbk).trans d3
                  obtain rfl : rm = rn := by have h9 : rs.length = rm := hres.1; omega
                  have l3 : pb < wr.heap.size := by omega
                  have l3' : pb < wr.heap.size + 1 := by omega
                  clear hpbk hpc hcQ hres hr hrp hj
                  go_wp2_with fail
                  go_roundw
                  case rel => exact ⟨k + 1, by omega, by go_num, (HBW.out.alloc hsw _).alloc (Nat.le_trans hsw (by simp)) _⟩
                  case measure => simp [intOf]; omega
              · have hkt' : ¬ (k : Int) < (N : Int) := by omega
                obtain rfl : k = N := by omega
                have B9 := Lib.hid (B8.out.trans (HBW.out.mono hs8))
                have Z9 := Lib.hid (Z8.out.below HBW.out hz8)
                have Y9 := Lib.hid (Y8.out.below HBW.out hy8)
                have V9 := Lib.hid (V8.out.below HBW.out V8.out.lt)
                have P9 := Lib.hid (P8.out.below HBW.out)
                have Q9 := Lib.hid (Q8.out.below HBW.out)
                have U9 := Lib.hid (U8.out.below HBW.out)
                clear z0 z1 z2 y0 y1 y2 d2 f2
                obtain ⟨w9, hw9⟩ : ∃ w9, w9 = wr := ⟨_, rfl⟩
                subst hw9
                go_wp2_with fail
                have hlq : w.heap.size < w9.heap.size := Z9.out.lt
                have hlq2 : w.heap.size + 1 < w9.heap.size := Y9.out.lt
                have hlq3 : q < w9.heap.size := V9.out.lt
                obtain ⟨t0, t1, t2, t3, t4, t5, t6, t7, hT1⟩ : ∃ t0 t1 t2 t3 t4 t5 t6 t7 : Int, totC ps = #[.int .i64 t0, .int .i64 t1, .int .i64 t2, .int .i64 t3, .int .i64 t4, .int .i64 t5, .int .i64 t6, .int .i64 t7] := ⟨_, _, _, _, _, _, _, _, rfl⟩
                obtain ⟨r0, r1, r2, r3, r4, r5, r6, r7, hT2⟩ : ∃ t0 t1 t2 t3 t4 t5 t6 t7 : Int, totC qs = #[.int .i64 t0, .int .i64 t1, .int .i64 t2, .int .i64 t3, .int .i64 t4, .int .i64 t5, .int .i64 t6, .int .i64 t7] := ⟨_, _, _, _, _, _, _, _, rfl⟩
                obtain ⟨m0, m1, m2, m3, m4, m5, m6, m7, hT3⟩ : ∃ t0 t1 t2 t3 t4 t5 t6 t7 : Int, totC (ps ++ qs) = #[.int .i64 t0, .int .i64 t1, .int .i64 t2, .int .i64 t3, .int .i64 t4, .int .i64 t5, .int .i64 t6, .int .i64 t7] := ⟨_, _, _, _, _, _, _, _, rfl⟩
                have HT1 := Lib.hid hT1
                have HT2 := Lib.hid hT2
                have HT3 := Lib.hid hT3
                have HC1 := Lib.hid (fun (W : World) (hB : Below w9.heap.size w9 W) => sTotals_any (c := c) su bo (P9.out.below hB) (by unfold lenSum at hfew; omega))
                have HC2 := Lib.hid (fun (W : World) (hB : Below w9.heap.size w9 W) => sTotals_any (c := c') su' bo' (Q9.out.below hB) (by unfold lenSum at hfew'; omega))
                have HC3 := Lib.hid (fun (W : World) (hB : Below w9.heap.size w9 W) => sTotals_any (c := c2) su bo (U9.out.below hB) HSB.out)
                rw [hT1] at HC1
                rw [hT2] at HC2
                rw [hT3] at HC3
                clear hT1 hT2 hT3
                have HCA := Lib.hid (fun (W : World) (hB : Below w9.heap.size w9 W) => three (Z9.out.below hB hlq))
                have HCB := Lib.hid (fun (W : World) (hB : Below w9.heap.size w9 W) => three (Y9.out.below hB hlq2))
                have HCC := Lib.hid (fun (W : World) (hB : Below w9.heap.size w9 W) => three (V9.out.below hB hlq3))
                refine wp_region_inv (by kernel_rfl) (R19 w9 _ (fun i => if i = 0 then .agg #[.string su, .string bo, .slice A n c] else if i = 1 then .agg (totC ps) else if i = 2 then .agg #[.string su', .string bo', .slice A' n' c'] else if i = 3 then .agg (totC qs) else if i = 4 then .agg #[.string su, .string bo, .slice A2 k c2] else .agg (totC (ps ++ qs))) (fun i => if i = 0 then totC ps else if i = 1 then totC qs else totC (ps ++ qs))) (acy_of (by kernel_rfl)) (R19.start (by rfl)) ?_ ?_
                · rintro f a v i o hR ho hfi haf
                  have hi : i < 12 := (Array.getElem?_eq_some_iff.1 ho).1
                  have hB := hR.below
                  rcases (by omega : i = 0 ∨ i = 1 ∨ i = 2 ∨ i = 3 ∨ i = 4 ∨ i = 5 ∨ i = 6 ∨ i = 7 ∨ i = 8 ∨ i = 9 ∨ i = 10 ∨ i = 11) with rfl | rfl | rfl | rfl | rfl | rfl | rfl | rfl | rfl | rfl | rfl | rfl
                  · obtain rfl := Option.some.inj (show some _ = some o from ho)
                    rw [if_pos (by rfl)]
                    have e2 : sl a 2 = .pointer (some ⟨w.heap.size, 0, none⟩) := (hR.keep 2 (by omega) (by omega)).trans (by rfl)
                    obtain ⟨x0, x1, x2⟩ := HCA.out v hB
                    refine wp_val (v := (.agg #[.string su, .string bo, .slice A n c])) (w' := v) ?_ (hR.value (Below.refl _ _) (by omega) rfl rfl)
                    have e2' : a.tmps[2]?.getD undef = .pointer (some ⟨w.heap.size, 0, none⟩) := by simpa [sl] using e2
                    simp [execOp, go_sem, e2', x0, x1, x2]
                  · obtain rfl := Option.some.inj (show some _ = some o from ho)
                    rw [if_pos (by rfl)]
                    have e2 : a.tmps[113]?.getD undef = (.agg #[.string su, .string bo, .slice A n c]) := by have h9 := hR.val 0 (by omega) (haf ⟨0, .data⟩ (by simp) (by rfl)); simpa [sl] using h9
                    refine wp_enter (f := 15) (args := #[(.agg #[.string su, .string bo, .slice A n c])]) (w' := v) ?_ (HC1.out v hB) ?_
                    · simp [execOp, go_sem, e2, resolve, invoke]
                    · rintro e v' ⟨rfl, b'⟩
                      exact ⟨_, rfl, hR.value b' (by omega) rfl (by rw [HT1.out]; rfl)⟩
                  · obtain rfl := Option.some.inj (show some _ = some o from ho)
                    rw [if_pos (by rfl)]
                    have e2 : sl a 3 = .pointer (some ⟨w.heap.size + 1, 0, none⟩) := (hR.keep 3 (by omega) (by omega)).trans (by rfl)
                    obtain ⟨x0, x1, x2⟩ := HCB.out v hB
                    refine wp_val (v := (.agg #[.string su', .string bo', .slice A' n' c'])) (w' := v) ?_ (hR.value (Below.refl _ _) (by omega) rfl rfl)
                    have e2' : a.tmps[3]?.getD undef = .pointer (some ⟨w.heap.size + 1, 0, none⟩) := by simpa [sl] using e2
                    simp [execOp, go_sem, e2', x0, x1, x2]
                  · obtain rfl := Option.some.inj (show some _ = some o from ho)
                    rw [if_pos (by rfl)]
                    have e2 : a.tmps[115]?.getD undef = (.agg #[.string su', .string bo', .slice A' n' c']) := by have h9 := hR.val 2 (by omega) (haf ⟨2, .data⟩ (by simp) (by rfl)); simpa [sl] using h9
                    refine wp_enter (f := 15) (args := #[(.agg #[.string su', .string bo', .slice A' n' c'])]) (w' := v) ?_ (HC2.out v hB) ?_
                    · simp [execOp, go_sem, e2, resolve, invoke]
                    · rintro e v' ⟨rfl, b'⟩
                      exact ⟨_, rfl, hR.value b' (by omega) rfl (by rw [HT2.out]; rfl)⟩
                  · obtain rfl := Option.some.inj (show some _ = some o from ho)
                    rw [if_pos (by rfl)]
                    have e2 : sl a 5 = .pointer (some ⟨q, 0, none⟩) := (hR.keep 5 (by omega) (by omega)).trans (by rfl)
                    obtain ⟨x0, x1, x2⟩ := HCC.out v hB
                    refine wp_val (v := (.agg #[.string su, .string bo, .slice A2 k c2])) (w' := v) ?_ (hR.value (Below.refl _ _) (by omega) rfl rfl)
                    have e2' : a.tmps[5]?.getD undef = .pointer (some ⟨q, 0, none⟩) := by simpa [sl] using e2
                    simp [execOp, go_sem, e2', x0, x1, x2]
                  · obtain rfl := Option.some.inj (show some _ = some o from ho)
                    rw [if_pos (by rfl)]
                    have e2 : a.tmps[117]?.getD undef = (.agg #[.string su, .string bo, .slice A2 k c2]) := by have h9 := hR.val 4 (by omega) (haf ⟨4, .data⟩ (by simp) (by rfl)); simpa [sl] using h9
                    refine wp_enter (f := 15) (args := #[(.agg #[.string su, .string bo, .slice A2 k c2])]) (w' := v) ?_ (HC3.out v hB) ?_
                    · simp [execOp, go_sem, e2, resolve, invoke]
                    · rintro e v' ⟨rfl, b'⟩
                      exact ⟨_, rfl, hR.value b' (by omega) rfl (by rw [HT3.out]; rfl)⟩
                  · obtain rfl := Option.some.inj (show some _ = some o from ho)
                    rw [if_pos (by rfl)]
                    refine wp_val (v := .pointer (some ⟨v.heap.size, 0, none⟩)) (w' := v.alloc (.cells zero8 31)) ?_ (hR.made (k := 0) (by omega) rfl rfl hfi)
                    simp [execOp, go_sem, zero8]
                  · obtain rfl := Option.some.inj (show some _ = some o from ho)
                    rw [if_pos (by rfl)]
                    refine wp_val (v := .pointer (some ⟨v.heap.size, 0, none⟩)) (w' := v.alloc (.cells zero8 31)) ?_ (hR.made (k := 1) (by omega) rfl rfl hfi)
                    simp [execOp, go_sem, zero8]
                  · obtain rfl := Option.some.inj (show some _ = some o from ho)
                    rw [if_pos (by rfl)]
                    refine wp_val (v := .pointer (some ⟨v.heap.size, 0, none⟩)) (w' := v.alloc (.cells zero8 31)) ?_ (hR.made (k := 2) (by omega) rfl rfl hfi)
                    simp [execOp, go_sem, zero8]
                  · obtain rfl := Option.some.inj (show some _ = some o from ho)
                    rw [if_pos (by rfl)]
                    have h6 := haf ⟨6, .data⟩ (by simp) (by rfl)
                    have e3 : a.tmps[114]?.getD undef = .agg #[.int .i64 t0, .int .i64 t1, .int .i64 t2, .int .i64 t3, .int .i64 t4, .int .i64 t5, .int .i64 t6, .int .i64 t7] := by
                      have h9 : sl a 114 = .agg #[.int .i64 t0, .int .i64 t1, .int .i64 t2, .int .i64 t3, .int .i64 t4, .int .i64 t5, .int .i64 t6, .int .i64 t7] := (hR.val 1 (by omega) (haf ⟨1, .data⟩ (by simp) (by rfl))).trans (by show Value.agg (totC _) = _; rw [HT1.out])
                      simpa [sl] using h9
                    obtain ⟨p, ep, hpl, hbp⟩ := hR.arr 0 (by omega) h6
                    rw [if_neg (by rw [hfi]; exact Bool.false_ne_true)] at hbp
                    unfold zero8 at hbp
                    obtain ⟨g0, g1, g2, g3, g4, g5, g6, g7⟩ := blk8 hbp
                    have z0 := hbp.frozen 0
                    have z1 := hbp.frozen 1
                    have z2 := hbp.frozen 2
                    have z3 := hbp.frozen 3
                    have z4 := hbp.frozen 4
                    have z5 := hbp.frozen 5
                    have z6 := hbp.frozen 6
                    have z7 := hbp.frozen 7
                    have e2 : a.tmps[12]?.getD undef = .pointer (some ⟨p, 0, none⟩) := by simpa [sl] using ep
                    refine wp_skip (w' := ((((((((v.setCell ⟨p, 0, none⟩ (.int .i64 t0)).setCell ⟨p, 1, none⟩ (.int .i64 t1)).setCell ⟨p, 2, none⟩ (.int .i64 t2)).setCell ⟨p, 3, none⟩ (.int .i64 t3)).setCell ⟨p, 4, none⟩ (.int .i64 t4)).setCell ⟨p, 5, none⟩ (.int .i64 t5)).setCell ⟨p, 6, none⟩ (.int .i64 t6)).setCell ⟨p, 7, none⟩ (.int .i64 t7))) ?_ (hR.stored8 (k := 0) (by omega) rfl h6 ep (.int .i64 t0) (.int .i64 t1) (.int .i64 t2) (.int .i64 t3) (.int .i64 t4) (.int .i64 t5) (.int .i64 t6) (.int .i64 t7) hbp HT1.out)
                    simp [execOp, go_sem, e2, e3, g0, g1, g2, g3, g4, g5, g6, g7, z0, z1, z2, z3, z4, z5, z6, z7, storeCells]
                  · obtain rfl := Option.some.inj (show some _ = some o from ho)
                    rw [if_pos (by rfl)]
                    have h6 := haf ⟨7, .data⟩ (by simp) (by rfl)
                    have e3 : a.tmps[116]?.getD undef = .agg #[.int .i64 r0, .int .i64 r1, .int .i64 r2, .int .i64 r3, .int .i64 r4, .int .i64 r5, .int .i64 r6, .int .i64 r7] := by
                      have h9 : sl a 116 = .agg #[.int .i64 r0, .int .i64 r1, .int .i64 r2, .int .i64 r3, .int .i64 r4, .int .i64 r5, .int .i64 r6, .int .i64 r7] := (hR.val 3 (by omega) (haf ⟨3, .data⟩ (by simp) (by rfl))).trans (by show Value.agg (totC _) = _; rw [HT2.out])
                      simpa [sl] using h9
                    obtain ⟨p, ep, hpl, hbp⟩ := hR.arr 1 (by omega) h6
                    rw [if_neg (by rw [hfi]; exact Bool.false_ne_true)] at hbp
                    unfold zero8 at hbp
                    obtain ⟨g0, g1, g2, g3, g4, g5, g6, g7⟩ := blk8 hbp
                    have z0 := hbp.frozen 0
                    have z1 := hbp.frozen 1
                    have z2 := hbp.frozen 2
                    have z3 := hbp.frozen 3
                    have z4 := hbp.frozen 4
                    have z5 := hbp.frozen 5
                    have z6 := hbp.frozen 6
                    have z7 := hbp.frozen 7
                    have e2 : a.tmps[13]?.getD undef = .pointer (some ⟨p, 0, none⟩) := by simpa [sl] using ep
                    refine wp_skip (w' := ((((((((v.setCell ⟨p, 0, none⟩ (.int .i64 r0)).setCell ⟨p, 1, none⟩ (.int .i64 r1)).setCell ⟨p, 2, none⟩ (.int .i64 r2)).setCell ⟨p, 3, none⟩ (.int .i64 r3)).setCell ⟨p, 4, none⟩ (.int .i64 r4)).setCell ⟨p, 5, none⟩ (.int .i64 r5)).setCell ⟨p, 6, none⟩ (.int .i64 r6)).setCell ⟨p, 7, none⟩ (.int .i64 r7))) ?_ (hR.stored8 (k := 1) (by omega) rfl h6 ep (.int .i64 r0) (.int .i64 r1) (.int .i64 r2) (.int .i64 r3) (.int .i64 r4) (.int .i64 r5) (.int .i64 r6) (.int .i64 r7) hbp HT2.out)
                    simp [execOp, go_sem, e2, e3, g0, g1, g2, g3, g4, g5, g6, g7, z0, z1, z2, z3, z4, z5, z6, z7, storeCells]
                  · obtain rfl := Option.some.inj (show some _ = some o from ho)
                    rw [if_pos (by rfl)]
                    have h6 := haf ⟨8, .data⟩ (by simp) (by rfl)
                    have e3 : a.tmps[118]?.getD undef = .agg #[.int .i64 m0, .int .i64 m1, .int .i64 m2, .int .i64 m3, .int .i64 m4, .int .i64 m5, .int .i64 m6, .int .i64 m7] := by
                      have h9 : sl a 118 = .agg #[.int .i64 m0, .int .i64 m1, .int .i64 m2, .int .i64 m3, .int .i64 m4, .int .i64 m5, .int .i64 m6, .int .i64 m7] := (hR.val 5 (by omega) (haf ⟨5, .data⟩ (by simp) (by rfl))).trans (by show Value.agg (totC _) = _; rw [HT3.out])
                      simpa [sl] using h9
                    obtain ⟨p, ep, hpl, hbp⟩ := hR.arr 2 (by omega) h6
                    rw [if_neg (by rw [hfi]; exact Bool.false_ne_true)] at hbp
                    unfold zero8 at hbp
                    obtain ⟨g0, g1, g2, g3, g4, g5, g6, g7⟩ := blk8 hbp
                    have z0 := hbp.frozen 0
                    have z1 := hbp.frozen 1
                    have z2 := hbp.frozen 2
                    have z3 := hbp.frozen 3
                    have z4 := hbp.frozen 4
                    have z5 := hbp.frozen 5
                    have z6 := hbp.frozen 6
                    have z7 := hbp.frozen 7
                    have e2 : a.tmps[14]?.getD undef = .pointer (some ⟨p, 0, none⟩) := by simpa [sl] using ep
                    refine wp_skip (w' := ((((((((v.setCell ⟨p, 0, none⟩ (.int .i64 m0)).setCell ⟨p, 1, none⟩ (.int .i64 m1)).setCell ⟨p, 2, none⟩ (.int .i64 m2)).setCell ⟨p, 3, none⟩ (.int .i64 m3)).setCell ⟨p, 4, none⟩ (.int .i64 m4)).setCell ⟨p, 5, none⟩ (.int .i64 m5)).setCell ⟨p, 6, none⟩ (.int .i64 m6)).setCell ⟨p, 7, none⟩ (.int .i64 m7))) ?_ (hR.stored8 (k := 2) (by omega) rfl h6 ep (.int .i64 m0) (.int .i64 m1) (.int .i64 m2) (.int .i64 m3) (.int .i64 m4) (.int .i64 m5) (.int .i64 m6) (.int .i64 m7) hbp HT3.out)
                    simp [execOp, go_sem, e2, e3, g0, g1, g2, g3, g4, g5, g6, g7, z0, z1, z2, z3, z4, z5, z6, z7, storeCells]
                · rintro f a v hR hall
                  have hf : ∀ i, i < 12 → f i = true := hall
                  obtain ⟨p1, e1, hp1, hb1⟩ := hR.arr 0 (by omega) (hf 6 (by omega))
                  obtain ⟨p2, e2, hp2, hb2⟩ := hR.arr 1 (by omega) (hf 7 (by omega))
                  obtain ⟨p3, e3, hp3, hb3⟩ := hR.arr 2 (by omega) (hf 8 (by omega))
                  rw [if_pos (hf 9 (by omega))] at hb1
                  rw [if_pos (hf 10 (by omega))] at hb2
                  rw [if_pos (hf 11 (by omega))] at hb3
                  have hb1 : Blk v p1 31 (totC ps) := hb1
                  have hb2 : Blk v p2 31 (totC qs) := hb2
                  have hb3 : Blk v p3 31 (totC (ps ++ qs)) := hb3
                  have B10 := Lib.hid (B9.out.trans (hR.below.mono B9.out.size))
                  have hfr := hR.frame (by rfl)
                  rw [show sl a 12 = _ from e1, show sl a 13 = _ from e2, show sl a 14 = _ from e3] at hfr
                  generalize sl a 113 = g1 at hfr
                  generalize sl a 114 = g2 at hfr
                  generalize sl a 115 = g3 at hfr
                  generalize sl a 116 = g4 at hfr
                  generalize sl a 117 = g5 at hfr
                  generalize sl a 118 = g6 at hfr
                  rw [hfr]
                  have H1 := Lib.hid hb1
                  have H2 := Lib.hid hb2
                  have H3 := Lib.hid hb3
                  have hs10 := B10.out.size
                  clear hR hall hf e1 e2 e3 hp1 hp2 hp3 hb1 hb2 hb3 hfr HC1 HC2 HC3 HCA HCB HCC HT1 HT2 HT3 hlq hlq2 hlq3
                  simp only [Act.put, List.setIfInBounds_toArray, List.set_cons_succ, List.set_cons_zero]
                  go_wp2_with fail
                  go_loopw [119] (fun i wr => ∃ j : Nat, j ≤ 8 ∧ i = .int .i64 (j : Nat) ∧ Below v.heap.size v wr) (fun i _ => 8 - (intOf i).toNat)
                  case atStart => exact ⟨0, Nat.zero_le _, rfl, Below.refl _ _⟩
                  case round =>
                    obtain ⟨j, hj, rfl, hbw⟩ := hrel
                    have HBW := Lib.hid hbw
                    clear hbw
                    by_cases hjt : j < 8
                    · have hjt' : (j : Int) < 8 := by omega
                      have hj0 : (0 : Int) ≤ (j : Int) := by omega
                      have hqj : IntKind.i64.wrap ((j : Int) + 1) = (j : Int) + 1 := IntWalk.i64_in _ (by omega)
                      have x1 := totC_cell (H1.out.below HBW.out H1.out.lt) hjt
                      have x2 := totC_cell (H2.out.below HBW.out H2.out.lt) hjt
                      have x3 := totC_cell (H3.out.below HBW.out H3.out.lt) hjt
                      have l1 : totV ps (j : Nat) ≤ 2000 := Nat.le_trans (totV_le ps _) (by unfold lenSum at hfew; omega)
                      have l2 : totV qs (j : Nat) ≤ 2000 := Nat.le_trans (totV_le qs _) (by unfold lenSum at hfew'; omega)
                      rw [totV_app] at x3
                      generalize totV ps (j : Nat) = T1 at x1 x3 l1
                      generalize totV qs (j : Nat) = T2 at x2 x3 l2
                      obtain ⟨T3, hT3⟩ : ∃ T3, T3 = T1 + T2 := ⟨_, rfl⟩
                      rw [← hT3] at x3
                      have hsum : IntKind.i64.wrap ((T1 : Int) + (T2 : Int)) = (T3 : Int) := by rw [IntWalk.i64_in _ (by omega)]; omega
                      clear hT3
                      go_wp2_with fail
                      go_quiet (fail)
                      go_wp2
                      go_roundw
                      case rel => exact ⟨j + 1, by omega, by go_num, ⟨HBW.out.os, HBW.out.tape, HBW.out.output, HBW.out.size, HBW.out.block⟩⟩
                      case measure => simp [intOf]; omega
                    · have hjt' : ¬ (j : Int) < 8 := by omega
                      have B11 := Lib.hid (B10.out.trans (HBW.out.mono hs10))
                      go_wp2
                      go_ret
                      exact ⟨rfl, B11.out⟩
end Go.Proofs.YtplenagncmhhoaaDoor
