/- SumCuts: its walk. -/
import Derived.Test.YtplenagncmhhoaaDoorSnA
namespace Go.Proofs.YtplenagncmhhoaaDoor
open Go.RowKit

theorem and_loN (a b : Int) (n : Nat) (hb : b = (n : Int)) (hn : n < 4611686018427387904) : 0 ≤ bits BinOp.and IntKind.i64 a b ∧ bits BinOp.and IntKind.i64 a b ≤ n := by
  have hbn : (BitVec.ofInt 64 b).toNat = n := by
    rw [hb, BitVec.toNat_ofInt]; omega
  have h : (BitVec.ofInt 64 a &&& BitVec.ofInt 64 b).toNat ≤ n := by
    rw [BitVec.toNat_and]
    exact Nat.le_trans Nat.and_le_right (Nat.le_of_eq hbn)
  show 0 ≤ IntKind.i64.wrap ((BitVec.ofInt 64 a &&& BitVec.ofInt 64 b).toNat : Int) ∧ IntKind.i64.wrap ((BitVec.ofInt 64 a &&& BitVec.ofInt 64 b).toNat : Int) ≤ n
  rw [IntWalk.i64_in _ (by omega)]; omega
set_option maxHeartbeats 8000000 in
set_option maxRecDepth 100000 in
theorem sumCuts_walk {w : World} (hg : GlAt w) (hw : 4 < w.heap.size) (su bo : ByteArray) {A : Option Addr} {n c : Nat} {ps : List PtB} (at_ : Int) (M : ByteArray) (hp : PartsAt w A n ps) (hsu : su.size ≤ maxLen) (hbo : bo.size ≤ maxLen) :
    Calls Tryd.prog 6 #[.agg #[.string su, .string bo, .slice A n c], .int .i64 at_, .string M] w fun e w' => e = .returned (.bool true) ∧ Below w.heap.size w w' := by
  have HG := Lib.hid hg
  have hb0 := (Below.refl w.heap.size w).alloc (Nat.le_refl _) (.cells #[.string su, .string bo, .slice A n c] 24)
  have B0 := Lib.hid hb0
  have HA := Lib.hid (sAlive_any (hg.below hb0) (by simp; omega))
  have Z0 := Lib.hid (Blk.new w 24 #[.string su, .string bo, .slice A n c])
  have P0 := Lib.hid (hp.below hb0)
  have hl : ps.length = n := hp.1
  clear hg hb0 hp
  go_enter Tryd.func6, Tryd.ntmps6
  go_wp2_with fail
  (with_reducible refine HA.out.mono ?_)
  rintro e w1 ⟨rfl, b1⟩
  have B1 := Lib.hid (B0.out.trans (b1.mono (by simp)))
  have Z1 := Lib.hid (Z0.out.below b1 (by simp))
  have P1 := Lib.hid (P0.out.below b1)
  have hs1 := B1.out.size
  obtain ⟨z0, z1, z2, _, _, _⟩ := blk3 Z1.out
  have hz1 := Z1.out.lt
  have HF := Lib.hid (few_any (c := c) su bo P1.out)
  clear b1
  cases hD : decide (ps.length + lenSum ps ≤ 2000)
  · rw [hD] at HF
    clear hD
    go_wp2_with fail
    (with_reducible refine HF.out.mono ?_)
    rintro e w2 ⟨rfl, b2⟩
    have B2 := Lib.hid (B1.out.trans (b2.mono hs1))
    clear b2
    go_wp2
    go_ret
    exact ⟨rfl, B2.out⟩
  · rw [hD] at HF
    have hfew : ps.length + lenSum ps ≤ 2000 := of_decide_eq_true hD
    clear hD
    go_wp2_with fail
    (with_reducible refine HF.out.mono ?_)
    rintro e w2 ⟨rfl, b2⟩
    have B2 := Lib.hid (B1.out.trans (b2.mono hs1))
    have Z2 := Lib.hid (Z1.out.below b2 hz1)
    have P2 := Lib.hid (P1.out.below b2)
    have hs2 := B2.out.size
    obtain ⟨x0, x1, x2, _, _, _⟩ := blk3 Z2.out
    have hz2 := Z2.out.lt
    have HR := Lib.hid (sRight_any (c := c) su bo P2.out (HG.out.below B2.out).tab hsu hbo)
    clear b2
    cases hr : rightS su bo ps
    · rw [hr] at HR
      clear hr
      go_wp2_with fail
      (with_reducible refine HR.out.mono ?_)
      rintro e w3 ⟨rfl, b3⟩
      have B3 := Lib.hid (B2.out.trans (b3.mono hs2))
      clear b3
      go_wp2
      go_ret
      exact ⟨rfl, B3.out⟩
    · rw [hr] at HR
      have HRT := Lib.hid hr
      clear hr
      go_wp2_with fail
      (with_reducible refine HR.out.mono ?_)
      rintro e w3 ⟨rfl, b3⟩
      have B3 := Lib.hid (B2.out.trans (b3.mono hs2))
      have Z3 := Lib.hid (Z2.out.below b3 hz2)
      have P3 := Lib.hid (P2.out.below b3)
      have hs3 := B3.out.size
      obtain ⟨y0, y1, y2, _, _, _⟩ := blk3 Z3.out
      have hz3 := Z3.out.lt
      clear b3
      by_cases hM : M.size ≤ 1000
      · have hM' : ¬ (1000 : Int) < (M.size : Int) := by omega
        have HT := Lib.hid (sText_any (c := c) su bo P3.out (HG.out.below B3.out).tab (HG.out.below B3.out).pow hsu hbo (by omega) (by unfold lenSum at hfew; omega))
        rw [if_pos HRT.out] at HT
        obtain ⟨T, hT⟩ : ∃ T : ByteArray, T = ⟨(textB (smB su bo ps)).toArray⟩ := ⟨_, rfl⟩
        rw [← hT] at HT
        have HTT := Lib.hid hT
        have hTs : T.size = (textB (smB su bo ps)).length := by rw [hT, size_mk]
        have hT0 := text_pos (smB su bo ps)
        have hTm := (text_small (okS_of HRT.out) (by
          show (ps.map ptB).length + ((ps.map ptB).map fun p => p.2.length).sum ≤ 10000
          rw [List.length_map, ptB_sum]; omega)).1
        rw [← hTs] at hT0 hTm
        clear hT hTs
        obtain ⟨hv0, hv1⟩ := and_loN at_ 1048575 1048575 rfl (by decide)
        have hTi : (0 : Int) < (T.size : Int) := by omega
        go_wp2_with fail
        (with_reducible refine HT.out.mono ?_)
        rintro e w4 ⟨rfl, b4⟩
        have B4 := Lib.hid (B3.out.trans (b4.mono hs3))
        have hs4 := B4.out.size
        clear b4
        obtain ⟨iN, hiN, hil⟩ : ∃ iN : Nat, bits BinOp.and IntKind.i64 at_ 1048575 % (T.size : Int) = (iN : Int) ∧ iN < T.size := by
          have h1 := Int.emod_nonneg (bits BinOp.and IntKind.i64 at_ 1048575) (show (T.size : Int) ≠ 0 by omega)
          have h2 := Int.emod_lt_of_pos (bits BinOp.and IntKind.i64 at_ 1048575) hTi
          exact ⟨(bits BinOp.and IntKind.i64 at_ 1048575 % (T.size : Int)).toNat, by omega, by omega⟩
        go_wp2_with fail
        rw [hiN]
        clear hiN hv0 hv1
        generalize bits BinOp.and IntKind.i64 at_ 1048575 = AT
        go_loopw [9, 10] (fun m i wr => ∃ k : Nat, k ≤ iN ∧ i = .int .i64 (k : Nat) ∧ m = .int .i64 (cnt10 T k : Nat) ∧ wr = w4) (fun _ i _ => iN - (intOf i).toNat)
        case atStart => exact ⟨0, Nat.zero_le _, rfl, rfl, rfl⟩
        case round =>
          obtain ⟨k, hk, rfl, rfl, rfl⟩ := hrel
          have hle := cnt10_le T k
          by_cases hlt : k < iN
          · have hlt' : (k : Int) < (iN : Int) := by omega
            have hk0 : (0 : Int) ≤ (k : Int) := by omega
            have hkt : (k : Int) < (T.size : Int) := by omega
            have hbk := bt_eq T k (by omega)
            have hq : IntKind.i64.wrap ((k : Int) + 1) = (k : Int) + 1 := IntWalk.i64_in _ (by omega)
            by_cases hb : bt T k = 10
            · have hS := cnt10_yes T k (by omega) hb
              have HS := Lib.hid hS
              have hbb : (bt T k == 10) = true := beq_iff_eq.2 hb
              obtain ⟨C, hC⟩ : ∃ C, C = cnt10 T k := ⟨_, rfl⟩
              rw [← hC]
              rw [← hC] at HS hle
              have hq2 : IntKind.i64.wrap ((C : Int) + 1) = (C : Int) + 1 := IntWalk.i64_in _ (by omega)
              clear hS hb hC
              go_wp2
              go_roundw
              case rel => exact ⟨k + 1, by omega, by go_num, by rw [HS.out]; push_cast; rfl, by trivial⟩
              case measure => simp [intOf]; omega
            · have HS := Lib.hid (cnt10_no T k (by omega) hb)
              have hbb : (bt T k == 10) = false := beq_eq_false_iff_ne.2 hb
              clear hb
              go_wp2
              go_roundw
              case rel => exact ⟨k + 1, by omega, by go_num, by rw [HS.out], by trivial⟩
              case measure => simp [intOf]; omega
          · have hlt' : ¬ (k : Int) < (iN : Int) := by omega
            obtain rfl : k = iN := by omega
            have hki : (k : Int) ≤ (T.size : Int) := by omega
            have hk0 : (0 : Int) ≤ (k : Int) := by omega
            have HP := Lib.hid (cut_bad (w := wr) HRT.out (by omega) HTT.out hil (C := T.extract 0 k) (by unfold lnB; rw [Lib.extract_data]; simp) (HG.out.below B4.out) (by omega))
            generalize cnt10 T k = CK at HP hle ⊢
            go_wp2_with fail
            (with_reducible refine HP.out.mono ?_)
            rintro e w5 ⟨rfl, b5⟩
            have B5 := Lib.hid ((B4.out.trans (b5.mono hs4)).alloc (by have := b5.size; omega) (.cells #[.string ⟨#[]⟩, .string ⟨#[]⟩, .slice none 0 0] 24))
            have hs5 := B5.out.size
            have HP2 := Lib.hid (more_bad (w := w5.alloc (.cells #[.string ⟨#[]⟩, .string ⟨#[]⟩, .slice none 0 0] 24)) HRT.out (by omega) HTT.out hM (HG.out.below B5.out) (by omega))
            have hn1 : ¬ (9223372036854775807 < T.size + M.size) := by omega
            have hn2 : ¬ (9223372036854775807 < T.size + M.size + 1) := by omega
            clear b5
            generalize hCA : cnt10 T T.size = CA at HP2
            have HCA := Lib.hid hCA
            clear hCA
            go_wp2_with fail
            (with_reducible refine HP2.out.mono ?_)
            rintro e w6 ⟨rfl, b6⟩
            have B6 := Lib.hid ((B5.out.trans (b6.mono hs5)).alloc (by have := b6.size; omega) (.cells #[.string ⟨#[]⟩, .string ⟨#[]⟩, .slice none 0 0] 24))
            clear b6 hn1 hn2
            obtain ⟨W7, hW7⟩ : ∃ W, W = w6.alloc (.cells #[.string ⟨#[]⟩, .string ⟨#[]⟩, .slice none 0 0] 24) := ⟨_, rfl⟩
            go_wp2
            rw [← hW7]
            rw [← hW7] at B6
            clear hW7
            go_loopw [17, 18] (fun m i wr => ∃ j : Nat, j ≤ T.size ∧ i = .int .i64 (j : Nat) ∧ m = .int .i64 (cnt10 T j : Nat) ∧ wr = W7) (fun _ i _ => T.size - (intOf i).toNat)
            case atStart => exact ⟨0, Nat.zero_le _, rfl, rfl, rfl⟩
            case round =>
              obtain ⟨j, hj, rfl, rfl, rfl⟩ := hrel
              have hle2 := cnt10_le T j
              by_cases hjt : j < T.size
              · have hjt' : (j : Int) < (T.size : Int) := by omega
                have hj0 : (0 : Int) ≤ (j : Int) := by omega
                have hbk := bt_eq T j (by omega)
                have hq : IntKind.i64.wrap ((j : Int) + 1) = (j : Int) + 1 := IntWalk.i64_in _ (by omega)
                by_cases hb : bt T j = 10
                · have hS := cnt10_yes T j (by omega) hb
                  have HS := Lib.hid hS
                  have hbb : (bt T j == 10) = true := beq_iff_eq.2 hb
                  obtain ⟨C, hC⟩ : ∃ C, C = cnt10 T j := ⟨_, rfl⟩
                  rw [← hC]
                  rw [← hC] at HS hle2
                  have hq2 : IntKind.i64.wrap ((C : Int) + 1) = (C : Int) + 1 := IntWalk.i64_in _ (by omega)
                  clear hS hb hC
                  go_wp2
                  go_roundw
                  case rel => exact ⟨j + 1, by omega, by go_num, by rw [HS.out]; push_cast; rfl, by trivial⟩
                  case measure => simp [intOf]; omega
                · have HS := Lib.hid (cnt10_no T j (by omega) hb)
                  have hbb : (bt T j == 10) = false := beq_eq_false_iff_ne.2 hb
                  clear hb
                  go_wp2
                  go_roundw
                  case rel => exact ⟨j + 1, by omega, by go_num, by rw [HS.out], by trivial⟩
                  case measure => simp [intOf]; omega
              · have hjt' : ¬ (j : Int) < (T.size : Int) := by omega
                have hjT : j = T.size := by omega
                rw [hjT, HCA.out] at *
                have e1 : ((CK : Int) == (CK : Int)) = true := by simp
                have e2 : ((CA : Int) == (CA : Int)) = true := by simp
                go_wp2
                go_ret
                exact ⟨by simp, B6.out⟩
      · have hM' : (1000 : Int) < (M.size : Int) := by omega
        go_wp2
        go_ret
        exact ⟨rfl, B3.out⟩
end Go.Proofs.YtplenagncmhhoaaDoor
