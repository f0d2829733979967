/- SumTexts: its walk. -/
import Derived.Test.YtplenagncmhhoaaDoorSnH
namespace Go.Proofs.YtplenagncmhhoaaDoor
open Go.RowKit

theorem totC_cell {W : World} {p : Nat} {t : TypeId} {ps : List PtB} (h : Blk W p t (totC ps)) {k : Nat} (hk : k < 8) : W.cell? ⟨p, k, none⟩ = some (.int .i64 (totV ps (k : Nat) : Nat)) := by
  unfold totC arr8 at h
  rcases (by omega : k = 0 ∨ k = 1 ∨ k = 2 ∨ k = 3 ∨ k = 4 ∨ k = 5 ∨ k = 6 ∨ k = 7) with rfl | rfl | rfl | rfl | rfl | rfl | rfl | rfl
  · exact h.cell 0
  · exact h.cell 1
  · exact h.cell 2
  · exact h.cell 3
  · exact h.cell 4
  · exact h.cell 5
  · exact h.cell 6
  · exact h.cell 7
theorem four {W : World} {p q : Nat} {t : TypeId} {a b c x : Value} {k : Nat} (h1 : Blk W p t #[a, b, c]) (h2 : W.cell? ⟨q, k, none⟩ = some x) : W.cell? ⟨p, 0, none⟩ = some a ∧ W.cell? ⟨p, 1, none⟩ = some b ∧ W.cell? ⟨p, 2, none⟩ = some c ∧ W.cell? ⟨q, k, none⟩ = some x :=
  ⟨h1.cell 0, h1.cell 1, h1.cell 2, h2⟩
set_option maxHeartbeats 8000000 in
set_option maxRecDepth 100000 in
theorem sumTexts_walk {w : World} (hg : GlAt w) (hw : 4 < w.heap.size) (su bo : ByteArray) {A : Option Addr} {n c : Nat} {ps : List PtB} (hp : PartsAt w A n ps) (hsu : su.size ≤ maxLen) (hbo : bo.size ≤ maxLen) :
    Calls Tryd.prog 3 #[.agg #[.string su, .string bo, .slice A n c]] w fun e w' => e = .returned (.bool true) ∧ Below w.heap.size w w' := by
  have HG := Lib.hid hg
  have hb0 := (Below.refl w.heap.size w).alloc (Nat.le_refl _) (.cells #[.string su, .string bo, .slice A n c] 24)
  have B0 := Lib.hid hb0
  have HA := Lib.hid (sAlive_any (hg.below hb0) (by simp; omega))
  have Z0 := Lib.hid (Blk.new w 24 #[.string su, .string bo, .slice A n c])
  have P0 := Lib.hid (hp.below hb0)
  have hl : ps.length = n := hp.1
  clear hg hb0 hp
  go_enter Tryd.func3, Tryd.ntmps3
  go_wp2_with fail
  (with_reducible refine HA.out.mono ?_)
  rintro e w1 ⟨rfl, b1⟩
  have B1 := Lib.hid (B0.out.trans (b1.mono (by simp)))
  have Z1 := Lib.hid (Z0.out.below b1 (by simp))
  have P1 := Lib.hid (P0.out.below b1)
  have hs1 := B1.out.size
  obtain ⟨z0, z1, z2, _, _, _⟩ := blk3 Z1.out
  have hz1 := Z1.out.lt
  have HF := Lib.hid (few_any (c := c) su bo P1.out)
  clear b1
  cases hD : decide (ps.length + lenSum ps ≤ 2000)
  · rw [hD] at HF
    clear hD
    go_wp2_with fail
    (with_reducible refine HF.out.mono ?_)
    rintro e w2 ⟨rfl, b2⟩
    have B2 := Lib.hid (B1.out.trans (b2.mono hs1))
    clear b2
    go_wp2
    go_ret
    exact ⟨rfl, B2.out⟩
  · rw [hD] at HF
    have hfew : ps.length + lenSum ps ≤ 2000 := of_decide_eq_true hD
    clear hD
    go_wp2_with fail
    (with_reducible refine HF.out.mono ?_)
    rintro e w2 ⟨rfl, b2⟩
    have B2 := Lib.hid (B1.out.trans (b2.mono hs1))
    have Z2 := Lib.hid (Z1.out.below b2 hz1)
    have P2 := Lib.hid (P1.out.below b2)
    have hs2 := B2.out.size
    obtain ⟨x0, x1, x2, _, _, _⟩ := blk3 Z2.out
    have hz2 := Z2.out.lt
    clear b2
    have HB := Lib.hid (show (ps.map fun p => p.2.length).sum ≤ 1000000 by unfold lenSum at hfew; omega)
    have HO := Lib.hid (of_any (c := c) su bo P2.out (by omega))
    go_wp2_with fail
    (with_reducible refine HO.out.mono ?_)
    rintro e w3 ⟨A3, c3, rfl, hp3, b3⟩
    have hal := (Below.refl w3.heap.size w3).alloc (Nat.le_refl _) (.cells #[.string su, .string bo, .slice A3 n c3] 29)
    have B3 := Lib.hid ((B2.out.trans (b3.mono hs2)).alloc (by have := b3.size; omega) (.cells #[.string su, .string bo, .slice A3 n c3] 29))
    have Z3 := Lib.hid ((Z2.out.below b3 hz2).alloc (.cells #[.string su, .string bo, .slice A3 n c3] 29))
    have Y3 := Lib.hid (Blk.new w3 29 #[.string su, .string bo, .slice A3 n c3])
    have P3 := Lib.hid ((P2.out.below b3).below hal)
    have Q3 := Lib.hid (hp3.below hal)
    have hs23 := b3.size
    clear b3 hp3 hal
    obtain ⟨u0, u1, u2, _, _, _⟩ := blk3 Z3.out
    obtain ⟨W3, hW3⟩ : ∃ W, W = w3.alloc (.cells #[.string su, .string bo, .slice A3 n c3] 29) := ⟨_, rfl⟩
    clear z0 z1 z2 x0 x1 x2
    go_wp2_with fail
    rw [← hW3]
    rw [← hW3] at B3 Z3 Y3 P3 Q3
    have hsW3 : W3.heap.size = w3.heap.size + 1 := by rw [hW3]; simp
    clear hW3 u0 u1 u2
    have hz3 := Z3.out.lt
    have hs3 := B3.out.size
    have HTO := Lib.hid (sTotals_any (c := c) su bo P3.out HB.out)
    (with_reducible refine HTO.out.mono ?_)
    rintro e w4 ⟨rfl, b4⟩
    have hal4 := (Below.refl w4.heap.size w4).alloc (Nat.le_refl _) (.cells (totC ps) 31)
    have BB4 := Lib.hid (B3.out.trans (b4.mono hs3))
    have B4 := Lib.hid (BB4.out.alloc (BB4.out.size) (.cells (totC ps) 31))
    have Z4 := Lib.hid ((Z3.out.below b4 hz3).alloc (.cells (totC ps) 31))
    have Y4 := Lib.hid ((Y3.out.below b4 Y3.out.lt).alloc (.cells (totC ps) 31))
    have X4 := Lib.hid (Blk.new w4 31 (totC ps))
    have P4 := Lib.hid ((P3.out.below b4).below hal4)
    have Q4 := Lib.hid ((Q3.out.below b4).below hal4)
    clear b4 hal4
    obtain ⟨t0, t1, t2, t3, t4, t5, t6, t7, hTC⟩ : ∃ t0 t1 t2 t3 t4 t5 t6 t7 : Int, totC ps = #[.int .i64 t0, .int .i64 t1, .int .i64 t2, .int .i64 t3, .int .i64 t4, .int .i64 t5, .int .i64 t6, .int .i64 t7] := ⟨_, _, _, _, _, _, _, _, rfl⟩
    have HTC := Lib.hid hTC
    obtain ⟨W4, hW4⟩ : ∃ W, W = w4.alloc (.cells (totC ps) 31) := ⟨_, rfl⟩
    have HW4 := Lib.hid hW4
    rw [hTC] at hW4
    rw [hTC]
    clear hTC
    go_wp2_with fail
    rw [← hW4]
    rw [← HW4.out] at B4 Z4 Y4 X4 P4 Q4
    have hsW4 : W4.heap.size = w4.heap.size + 1 := by rw [hW4]; simp
    clear hW4 HW4
    go_loopw [5] (fun i wr => ∃ k : Nat, k ≤ 8 ∧ i = .int .i64 (k : Nat) ∧ Below W4.heap.size W4 wr) (fun i _ => 8 - (intOf i).toNat)
    case atStart => exact ⟨0, Nat.zero_le _, rfl, Below.refl _ _⟩
    case round =>
      obtain ⟨k, hk, rfl, hbw⟩ := hrel
      have HBW := Lib.hid hbw
      have hsw := hbw.size
      have B5 := Lib.hid (B4.out.trans (hbw.mono B4.out.size))
      have Z5 := Lib.hid (Z4.out.below hbw Z4.out.lt)
      have Y5 := Lib.hid (Y4.out.below hbw Y4.out.lt)
      have X5 := Lib.hid (X4.out.below hbw X4.out.lt)
      have P5 := Lib.hid (P4.out.below hbw)
      have Q5 := Lib.hid (Q4.out.below hbw)
      have hs5 := B5.out.size
      have hy5 := Y5.out.lt
      have hx5 := X5.out.lt
      have hz5 := Z5.out.lt
      obtain ⟨y0, y1, y2, _, _, _⟩ := blk3 Y5.out
      clear hbw
      by_cases hkt : k ≤ 7
      · have hkt' : (k : Int) ≤ 7 := by omega
        have hk0 : (0 : Int) ≤ (k : Int) := by omega
        have hk8 : (k : Int) < 8 := by omega
        have x5 := totC_cell X5.out (show k < 8 by omega)
        have HR := Lib.hid (rTotal_any (w := wr.drew) (c := c3) su bo (k : Nat) (show PartsAt wr.drew A3 n ps from Q5.out) HB.out)
        generalize totV ps (k : Nat) = T at x5 HR
        have hq : IntKind.i64.wrap ((k : Int) + 1) = (k : Int) + 1 := IntWalk.i64_in _ (by omega)
        have hee : ((T : Int) != (T : Int)) = false := by simp
        have Y5d := Lib.hid Y5.out.drew
        have x5d : wr.drew.cell? ⟨w4.heap.size, k, none⟩ = some (.int .i64 (T : Nat)) := x5
        go_wp2_with fail
        go_region_held3 (fun W => W.cell? ⟨w3.heap.size, 0, none⟩ = some (.string su) ∧ W.cell? ⟨w3.heap.size, 1, none⟩ = some (.string bo) ∧ W.cell? ⟨w3.heap.size, 2, none⟩ = some (.slice A3 n c3) ∧ W.cell? ⟨w4.heap.size, k, none⟩ = some (.int .i64 (T : Nat))) (first | exact four Y5.out x5 | exact four Y5d.out x5d | exact four YA xA)
          (first
            | (go_at_call 16; (with_reducible refine HR.out.mono ?_); rintro e wA ⟨rfl, bA⟩
               have YA := (Y5.out.drew).below bA (by simp; exact hy5)
               have xA := (bA.cell (p := ⟨w4.heap.size, k, none⟩) (by simp; exact hx5)).trans x5))
        have BA := Lib.hid (HBW.out.trans ((show Below wr.heap.size wr wA from ⟨bA.os, bA.tape, bA.output, bA.size, bA.block⟩).mono hsw))
        clear bA YA xA x5 x5d hee
        go_wp2
        go_roundw
        case rel => exact ⟨k + 1, by omega, by go_num, BA.out⟩
        case measure => simp [intOf]; omega
      · have hkt' : ¬ (k : Int) ≤ 7 := by omega
        have hsu2 : ps.length ≤ 1000000 := by omega
        have G5 := Lib.hid (HG.out.below B5.out.drew)
        have HR1 := Lib.hid (sRight_any (w := wr.drew) (c := c) su bo (show PartsAt wr.drew A n ps from P5.out) G5.out.tab hsu hbo)
        have HR2 := Lib.hid (fun (W : World) (h : PartsAt W A3 n ps) => rRight_any (c := c3) su bo h hsu hbo)
        have HT1 := Lib.hid (fun (W : World) (h : PartsAt W A n ps) (hB : Below w.heap.size w W) => sText_any (c := c) su bo h (HG.out.below hB).tab (HG.out.below hB).pow hsu hbo hsu2 HB.out)
        have HT2 := Lib.hid (fun (W : World) (h : PartsAt W A3 n ps) => rText20_any (c := c3) su bo h hsu hbo hsu2 HB.out)
        have P5d := Lib.hid (show PartsAt wr.drew A n ps from P5.out)
        have Q5d := Lib.hid (show PartsAt wr.drew A3 n ps from Q5.out)
        have Z5d := Lib.hid Z5.out.drew
        have Y5d := Lib.hid Y5.out.drew
        have B5d := Lib.hid B5.out.drew
        obtain ⟨v0, v1, v2, _, _, _⟩ := blk3 Z5.out
        generalize (if rightS su bo ps = true then (⟨(textB (smB su bo ps)).toArray⟩ : ByteArray) else ⟨#[]⟩) = TX at HT1 HT2
        generalize rightS su bo ps = RB at HR1 HR2
        have hee : (RB == RB) = true := by simp
        have hte : (TX.toList == TX.toList) = true := by simp
        clear hfew
        go_wp2_with fail
        go_region_held3 (fun W => W.cell? ⟨w.heap.size, 0, none⟩ = some (.string su) ∧ W.cell? ⟨w.heap.size, 1, none⟩ = some (.string bo) ∧ W.cell? ⟨w.heap.size, 2, none⟩ = some (.slice A n c) ∧ W.cell? ⟨w3.heap.size, 0, none⟩ = some (.string su) ∧ W.cell? ⟨w3.heap.size, 1, none⟩ = some (.string bo) ∧ W.cell? ⟨w3.heap.size, 2, none⟩ = some (.slice A3 n c3)) (first | exact six Z5.out Y5.out | exact six Z5d.out Y5d.out | exact six ZD YD | exact six ZC YC | exact six ZB YB | exact six ZA YA)
          (first
            | (go_at_call 17; (with_reducible refine HR1.out.mono ?_); rintro e wA ⟨rfl, bA⟩
               have ZA := Z5d.out.below bA (by simp; exact hz5)
               have YA := Y5d.out.below bA (by simp; exact hy5)
               have PA := P5d.out.below bA
               have QA := Q5d.out.below bA
               have BA := B5d.out.trans (bA.mono B5d.out.size))
            | (go_at_call 18; (with_reducible refine (HR2.out _ QA).mono ?_); rintro e wB ⟨rfl, bB⟩
               have ZB := ZA.below bB ZA.lt
               have YB := YA.below bB YA.lt
               have PB := PA.below bB
               have QB := QA.below bB
               have BB := BA.trans (bB.mono BA.size))
            | (go_at_call 19; (with_reducible refine (HT1.out _ PB BB).mono ?_); rintro e wC ⟨rfl, bC⟩
               have ZC := ZB.below bC ZB.lt
               have YC := YB.below bC YB.lt
               have QC := QB.below bC
               have BC := BB.trans (bC.mono BB.size))
            | (go_at_call 20; (with_reducible refine (HT2.out _ QC).mono ?_); rintro e wD ⟨rfl, bD⟩
               have ZD := ZC.below bD ZC.lt
               have YD := YC.below bD YC.lt
               have BD := BC.trans (bD.mono BC.size)))
        have BF := Lib.hid BD
        clear bA bB bC bD BA BB BC BD
        go_wp2
        go_ret
        exact ⟨rfl, BF.out⟩
end Go.Proofs.YtplenagncmhhoaaDoor
