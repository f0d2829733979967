/- SumBack: its walk. -/
import Derived.Test.YtplenagncmhhoaaDoorSnB
import Derived.BigQuiet
import Derived.Deep.RegionHeld3
namespace Go.Proofs.YtplenagncmhhoaaDoor
open Go.RowKit

/-- How many verdicts below k some result has. -/
def nz (ps : List PtB) : Nat → Nat
  | 0 => 0
  | k + 1 => nz ps k + (if 0 < totV ps (k : Nat) then 1 else 0)
theorem nz_le (ps : List PtB) : ∀ k, nz ps k ≤ k
  | 0 => Nat.le_refl _
  | k + 1 => by
    have := nz_le ps k
    unfold nz
    split <;> omega
theorem nz_cntLs {ps : List PtB} (h : rightPs ps = true) : ∀ k, k ≤ 8 → (cntLs (ps.map ptB) k).length = nz ps k
  | 0, _ => rfl
  | k + 1, hk => by
    have ih := nz_cntLs h k (by omega)
    unfold nz cntLs
    rw [List.length_append, ih]
    congr 1
    by_cases h0 : k = 0
    · subst h0
      have := totV_zero h
      rw [if_pos rfl, if_neg (by
        show ¬ 0 < totV ps ((0 : Nat) : Int)
        have e : totV ps ((0 : Nat) : Int) = 0 := this
        omega)]; rfl
    · rw [if_neg h0]
      have hc := totV_cnt k (by omega) (by omega) ps
      unfold cntV
      rw [← hc]
      by_cases hz : totV ps (k : Nat) = 0
      · rw [if_pos hz, if_neg (by omega)]; rfl
      · rw [if_neg hz, if_pos (by omega)]; rfl
theorem text_count {su bo : ByteArray} {ps : List PtB} (hr : rightS su bo ps = true) : (textB (smB su bo ps)).count 10 = 3 + ps.length + lenSum ps + nz ps 8 := by
  have hok := okS_of hr
  have hrp : rightPs ps = true := by
    have h' : (rightB su.size = true ∧ rightB bo.size = true) ∧ rightPs ps = true := by simpa [rightS] using hr
    exact h'.2
  unfold textB
  rw [flat_count _ fun l hl => prt_10 (sum_prt hok l hl)]
  have h1 := parts_lines (ps.map ptB)
  have h2 := nz_cntLs hrp 8 (Nat.le_refl _)
  have h3 := tailL_cntLs (ps.map ptB)
  rw [List.length_map, ptB_sum] at h1
  show (sumL wrN dgN (smB su bo ps)).length = _
  unfold sumL smB
  simp only [List.length_cons, List.length_append, h1, h3, h2, List.length_nil]
  omega
theorem text_byte {su bo : ByteArray} {ps : List PtB} (hr : rightS su bo ps = true) {T : ByteArray} (hT : T = ⟨(textB (smB su bo ps)).toArray⟩) (k : Nat) (hk : k < T.size) : bt T k = 10 ∨ (32 ≤ bt T k ∧ bt T k ≤ 126) := by
  have hok := okS_of hr
  have hl : lnB T = textB (smB su bo ps) := by rw [hT, lnB_mk]
  have h' : k < T.data.toList.length := hk
  rw [bt_get T k h']
  have hm : T.data.toList[k] ∈ textB (smB su bo ps) := by rw [← hl]; exact List.getElem_mem h'
  generalize T.data.toList[k] = x at hm
  unfold textB flat at hm
  obtain ⟨q, hq, hx⟩ := List.mem_flatten.1 hm
  obtain ⟨l, hl2, rfl⟩ := List.mem_map.1 hq
  rcases List.mem_append.1 hx with hx | hx
  · right
    have := sum_prt hok l hl2 x hx
    unfold prt at this
    omega
  · left
    simp only [List.mem_cons, List.not_mem_nil, or_false] at hx
    subst hx; rfl
theorem six {W : World} {p q : Nat} {t u : TypeId} {a b c x y z : Value} (h1 : Blk W p t #[a, b, c]) (h2 : Blk W q u #[x, y, z]) : W.cell? ⟨p, 0, none⟩ = some a ∧ W.cell? ⟨p, 1, none⟩ = some b ∧ W.cell? ⟨p, 2, none⟩ = some c ∧ W.cell? ⟨q, 0, none⟩ = some x ∧ W.cell? ⟨q, 1, none⟩ = some y ∧ W.cell? ⟨q, 2, none⟩ = some z :=
  ⟨h1.cell 0, h1.cell 1, h1.cell 2, h2.cell 0, h2.cell 1, h2.cell 2⟩
set_option maxHeartbeats 8000000 in
set_option maxRecDepth 100000 in
theorem sumBack_walk {w : World} (hg : GlAt w) (hw : 4 < w.heap.size) (su bo : ByteArray) {A : Option Addr} {n c : Nat} {ps : List PtB} (hp : PartsAt w A n ps) (hsu : su.size ≤ maxLen) (hbo : bo.size ≤ maxLen) :
    Calls Tryd.prog 5 #[.agg #[.string su, .string bo, .slice A n c]] w fun e w' => e = .returned (.bool true) ∧ Below w.heap.size w w' := by
  have HG := Lib.hid hg
  have hb0 := (Below.refl w.heap.size w).alloc (Nat.le_refl _) (.cells #[.string su, .string bo, .slice A n c] 24)
  have B0 := Lib.hid hb0
  have HA := Lib.hid (sAlive_any (hg.below hb0) (by simp; omega))
  have Z0 := Lib.hid (Blk.new w 24 #[.string su, .string bo, .slice A n c])
  have P0 := Lib.hid (hp.below hb0)
  have hl : ps.length = n := hp.1
  clear hg hb0 hp
  go_enter Tryd.func5, Tryd.ntmps5
  go_wp2_with fail
  (with_reducible refine HA.out.mono ?_)
  rintro e w1 ⟨rfl, b1⟩
  have B1 := Lib.hid (B0.out.trans (b1.mono (by simp)))
  have Z1 := Lib.hid (Z0.out.below b1 (by simp))
  have P1 := Lib.hid (P0.out.below b1)
  have hs1 := B1.out.size
  obtain ⟨z0, z1, z2, _, _, _⟩ := blk3 Z1.out
  have hz1 := Z1.out.lt
  have HF := Lib.hid (few_any (c := c) su bo P1.out)
  clear b1
  cases hD : decide (ps.length + lenSum ps ≤ 2000)
  · rw [hD] at HF
    clear hD
    go_wp2_with fail
    (with_reducible refine HF.out.mono ?_)
    rintro e w2 ⟨rfl, b2⟩
    have B2 := Lib.hid (B1.out.trans (b2.mono hs1))
    clear b2
    go_wp2
    go_ret
    exact ⟨rfl, B2.out⟩
  · rw [hD] at HF
    have hfew : ps.length + lenSum ps ≤ 2000 := of_decide_eq_true hD
    clear hD
    go_wp2_with fail
    (with_reducible refine HF.out.mono ?_)
    rintro e w2 ⟨rfl, b2⟩
    have B2 := Lib.hid (B1.out.trans (b2.mono hs1))
    have Z2 := Lib.hid (Z1.out.below b2 hz1)
    have P2 := Lib.hid (P1.out.below b2)
    have hs2 := B2.out.size
    obtain ⟨x0, x1, x2, _, _, _⟩ := blk3 Z2.out
    have hz2 := Z2.out.lt
    have HR := Lib.hid (sRight_any (c := c) su bo P2.out (HG.out.below B2.out).tab hsu hbo)
    clear b2
    cases hr : rightS su bo ps
    · rw [hr] at HR
      clear hr
      go_wp2_with fail
      (with_reducible refine HR.out.mono ?_)
      rintro e w3 ⟨rfl, b3⟩
      have B3 := Lib.hid (B2.out.trans (b3.mono hs2))
      clear b3
      go_wp2
      go_ret
      exact ⟨rfl, B3.out⟩
    · rw [hr] at HR
      have HRT := Lib.hid hr
      clear hr
      go_wp2_with fail
      (with_reducible refine HR.out.mono ?_)
      rintro e w3 ⟨rfl, b3⟩
      have B3 := Lib.hid (B2.out.trans (b3.mono hs2))
      have Z3 := Lib.hid (Z2.out.below b3 hz2)
      have P3 := Lib.hid (P2.out.below b3)
      have hs3 := B3.out.size
      obtain ⟨y0, y1, y2, _, _, _⟩ := blk3 Z3.out
      have hz3 := Z3.out.lt
      clear b3
      have HT := Lib.hid (sText_any (c := c) su bo P3.out (HG.out.below B3.out).tab (HG.out.below B3.out).pow hsu hbo (by omega) (by unfold lenSum at hfew; omega))
      rw [if_pos HRT.out] at HT
      obtain ⟨T, hT⟩ : ∃ T : ByteArray, T = ⟨(textB (smB su bo ps)).toArray⟩ := ⟨_, rfl⟩
      rw [← hT] at HT
      have HTT := Lib.hid hT
      have hTs : T.size = (textB (smB su bo ps)).length := by rw [hT, size_mk]
      have hTm := (text_small (okS_of HRT.out) (by
        show (ps.map ptB).length + ((ps.map ptB).map fun p => p.2.length).sum ≤ 10000
        rw [List.length_map, ptB_sum]; omega)).1
      rw [← hTs] at hTm
      have HCT := Lib.hid (show cnt10 T T.size = 3 + ps.length + lenSum ps + nz ps 8 by
        rw [cnt10_all, hT, lnB_mk]; exact text_count HRT.out)
      clear hT hTs
      go_wp2_with fail
      (with_reducible refine HT.out.mono ?_)
      rintro e w4 ⟨rfl, b4⟩
      have B4 := Lib.hid (B3.out.trans (b4.mono hs3))
      have Z4 := Lib.hid (Z3.out.below b4 hz3)
      have P4 := Lib.hid (P3.out.below b4)
      have hs4 := B4.out.size
      have HP := Lib.hid (parse_back (w := w4) HRT.out (by omega) (HG.out.below B4.out) (by omega))
      rw [← HTT.out, hl] at HP
      clear b4
      go_wp2_with fail
      (with_reducible refine HP.out.mono ?_)
      rintro e w5 ⟨A5, c5, rfl, hp5, b5⟩
      have B5 := Lib.hid ((B4.out.trans (b5.mono hs4)).alloc (by have := b5.size; omega) (.cells #[.string su, .string bo, .slice A5 n c5] 24))
      have Z5 := Lib.hid ((Z4.out.below b5 Z4.out.lt).alloc (.cells #[.string su, .string bo, .slice A5 n c5] 24))
      have Y5 := Lib.hid (Blk.new w5 24 #[.string su, .string bo, .slice A5 n c5])
      have hal := (Below.refl w5.heap.size w5).alloc (Nat.le_refl _) (.cells #[.string su, .string bo, .slice A5 n c5] 24)
      have P5 := Lib.hid ((P4.out.below b5).below hal)
      have Q5 := Lib.hid (hp5.below hal)
      have hs45 := b5.size
      clear b5 hp5 hal
      obtain ⟨W5, hW5⟩ : ∃ W, W = w5.alloc (.cells #[.string su, .string bo, .slice A5 n c5] 24) := ⟨_, rfl⟩
      go_wp2
      rw [← hW5]
      have hsW : W5.heap.size = w5.heap.size + 1 := by rw [hW5]; simp
      rw [← hW5] at B5 Z5 Y5 P5 Q5
      clear hW5
      obtain ⟨u0, u1, u2, _, _, _⟩ := blk3 Z5.out
      have hz5 := Z5.out.lt
      have hn3 : IntKind.i64.wrap (3 + (n : Int)) = 3 + (n : Int) := IntWalk.i64_in _ (by omega)
      go_quiet (fail)
      go_wp2
      have B6 := Lib.hid (show Below w.heap.size w (W5.drewN nq) from ⟨B5.out.os, B5.out.tape, B5.out.output, B5.out.size, B5.out.block⟩)
      have Z6 := Lib.hid (Z5.out.drewN nq)
      have Y6 := Lib.hid (Y5.out.drewN nq)
      have P6 := Lib.hid (show PartsAt (W5.drewN nq) A n ps from P5.out)
      have Q6 := Lib.hid (show PartsAt (W5.drewN nq) A5 n ps from Q5.out)
      obtain ⟨W6, hW6⟩ : ∃ W, W = W5.drewN nq := ⟨_, rfl⟩
      rw [← hW6]
      rw [← hW6] at B6 Z6 Y6 P6 Q6
      have hsW6 : W6.heap.size = w5.heap.size + 1 := by rw [hW6]; exact hsW
      clear hW6 u0 u1 u2 hz5
      go_loopw [7, 9] (fun m i wr => ∃ k : Nat, k ≤ T.size ∧ i = .int .i64 (k : Nat) ∧ m = .int .i64 (cnt10 T k : Nat) ∧ wr = W6) (fun _ i _ => T.size - (intOf i).toNat)
      case atStart => exact ⟨0, Nat.zero_le _, rfl, rfl, rfl⟩
      case round =>
        obtain ⟨k, hk, rfl, rfl, rfl⟩ := hrel
        have hle := cnt10_le T k
        by_cases hlt : k < T.size
        · have hlt' : (k : Int) < (T.size : Int) := by omega
          have hk0 : (0 : Int) ≤ (k : Int) := by omega
          have hbk := bt_eq T k (by omega)
          have hq : IntKind.i64.wrap ((k : Int) + 1) = (k : Int) + 1 := IntWalk.i64_in _ (by omega)
          by_cases hb : bt T k = 10
          · have HS := Lib.hid (cnt10_yes T k (by omega) hb)
            have hbb : (bt T k == 10) = true := beq_iff_eq.2 hb
            obtain ⟨C, hC⟩ : ∃ C, C = cnt10 T k := ⟨_, rfl⟩
            rw [← hC]
            rw [← hC] at HS hle
            have hq2 : IntKind.i64.wrap ((C : Int) + 1) = (C : Int) + 1 := IntWalk.i64_in _ (by omega)
            clear hb hC
            go_wp2
            go_roundw
            case rel => exact ⟨k + 1, by omega, by go_num, by rw [HS.out]; push_cast; rfl, by trivial⟩
            case measure => simp [intOf]; omega
          · have HS := Lib.hid (cnt10_no T k (by omega) hb)
            have hbb : (bt T k == 10) = false := beq_eq_false_iff_ne.2 hb
            obtain ⟨hb1, hb2⟩ : ¬ bt T k < 32 ∧ ¬ 126 < bt T k := by
              rcases text_byte HRT.out HTT.out k hlt with h | h
              · exact absurd h hb
              · omega
            clear hb
            go_wp2
            go_roundw
            case rel => exact ⟨k + 1, by omega, by go_num, by rw [HS.out], by trivial⟩
            case measure => simp [intOf]; omega
        · have hlt' : ¬ (k : Int) < (T.size : Int) := by omega
          obtain rfl : k = T.size := by omega
          obtain ⟨u0, u1, u2, _, _, _⟩ := blk3 Z6.out
          have hz6 := Z6.out.lt
          rw [HCT.out]
          obtain ⟨LN, hLN⟩ : ∃ LN : Nat, LN = 3 + ps.length + lenSum ps + nz ps 8 := ⟨_, rfl⟩
          rw [← hLN]
          have HLN := Lib.hid hLN
          clear hLN hlt hlt' hle
          obtain ⟨wo, hwo⟩ : ∃ wo, wo = wr := ⟨_, rfl⟩
          subst hwo
          go_wp2
          go_loopw [8, 61] (fun m i wr => ∃ k : Nat, k ≤ n ∧ i = .int .i64 (k : Nat) ∧ m = .int .i64 ((3 + n + lenSum (ps.take k) : Nat) : Int) ∧ Below wo.heap.size wo wr) (fun _ i _ => n - (intOf i).toNat)
          case atStart => exact ⟨0, Nat.zero_le _, rfl, by simp [lenSum], Below.refl _ _⟩
          case round =>
            obtain ⟨j, hj, rfl, rfl, hbw⟩ := hrel
            have HBW := Lib.hid hbw
            have hsw := hbw.size
            have htot : lenSum (ps.take j) ≤ lenSum ps := sum_take ps j
            obtain ⟨N, hN⟩ : ∃ N, N = 3 + n + lenSum (ps.take j) := ⟨_, rfl⟩
            rw [← hN]
            have HN := Lib.hid hN
            have hNb : N ≤ 2003 := by omega
            clear hbw hN
            by_cases hjt : j < n
            · have hjt' : (j : Int) < (n : Int) := by omega
              have hj0 : (0 : Int) ≤ (j : Int) := by omega
              obtain ⟨_, _, _, hc6⟩ := P6.out
              obtain ⟨b, f, rfl, hbl, hcell⟩ := hc6 (by omega)
              obtain ⟨⟨g, rs⟩, hr⟩ : ∃ r, ps[j]? = some r := ⟨ps[j]'(by omega), List.getElem?_eq_getElem _⟩
              obtain ⟨RA, rn, rc, c1, c2, hres⟩ := hcell j _ hr
              replace c1 := (World.cell?_of_block (a := ⟨b, f + j * 2, none⟩) (HBW.out.block b hbl)).trans c1
              replace c2 := (World.cell?_of_block (a := ⟨b, f + j * 2 + 1, none⟩) (HBW.out.block b hbl)).trans c2
              have hrl : rs.length = rn := hres.1
              have hS : lenSum (ps.take (j + 1)) = lenSum (ps.take j) + rs.length := lenSum_take hr
              have hS2 : lenSum (ps.take (j + 1)) ≤ lenSum ps := sum_take ps (j + 1)
              have hrn : rn ≤ 2000 := by omega
              have HS := Lib.hid (show 3 + n + lenSum (ps.take (j + 1)) = N + rn by have := HN.out; rw [hS]; omega)
              have hq : IntKind.i64.wrap ((j : Int) + 1) = (j : Int) + 1 := IntWalk.i64_in _ (by omega)
              have hq2 : IntKind.i64.wrap ((N : Int) + (rn : Int)) = (N : Int) + (rn : Int) := IntWalk.i64_in _ (by omega)
              clear hr hcell hres hc6 hS hS2 hrl
              go_wp2
              go_roundw
              case rel => exact ⟨j + 1, by omega, by go_num, by rw [HS.out]; push_cast; rfl, HBW.out.alloc hsw _⟩
              case measure => simp [intOf]; omega
            · have hjt' : ¬ (j : Int) < (n : Int) := by omega
              have htk : ps.take j = ps := List.take_of_length_le (by omega)
              have HN2 := Lib.hid (show N = 3 + n + lenSum ps by have := HN.out; rw [htk] at this; exact this)
              have B7 := Lib.hid (B6.out.trans (HBW.out.mono B6.out.size))
              have Z7 := Lib.hid (Z6.out.below HBW.out hz6)
              have Y7 := Lib.hid (Y6.out.below HBW.out Y6.out.lt)
              have P7 := Lib.hid (P6.out.below HBW.out)
              have Q7 := Lib.hid (Q6.out.below HBW.out)
              obtain ⟨v0, v1, v2, _, _, _⟩ := blk3 Z7.out
              have hz7 := Z7.out.lt
              have hs7 := B7.out.size
              have HTO := Lib.hid (sTotals_any (c := c) su bo P7.out (by unfold lenSum at hfew; omega))
              clear htk htot u0 u1 u2
              obtain ⟨w7, hw7⟩ : ∃ w7, w7 = wr := ⟨_, rfl⟩
              subst hw7
              go_wp2_with fail
              (with_reducible refine HTO.out.mono ?_)
              rintro e w8 ⟨rfl, b8⟩
              have B8 := Lib.hid (B7.out.trans (b8.mono hs7))
              have Z8 := Lib.hid (Z7.out.below b8 hz7)
              have Y8 := Lib.hid (Y7.out.below b8 Y7.out.lt)
              have P8 := Lib.hid (P7.out.below b8)
              have Q8 := Lib.hid (Q7.out.below b8)
              have hs8 := B8.out.size
              have HIX := Lib.hid (fun (k : Nat) (hk : k < 8) (W : World) => totC_at ps hk W)
              clear b8
              generalize totC ps = TC at HIX ⊢
              go_wp2
              go_loopw [8, 73] (fun m i wr => ∃ k : Nat, k ≤ 8 ∧ i = .int .i64 (k : Nat) ∧ m = .int .i64 ((N + nz ps k : Nat) : Int) ∧ wr = w8) (fun _ i _ => 8 - (intOf i).toNat)
              case atStart => exact ⟨0, Nat.zero_le _, rfl, rfl, rfl⟩
              case round =>
                obtain ⟨k, hk, rfl, rfl, rfl⟩ := hrel
                have hnz := nz_le ps k
                by_cases hkt : k < 8
                · have hkt' : (k : Int) < 8 := by omega
                  have hix := HIX.out k hkt
                  have hq : IntKind.i64.wrap ((k : Int) + 1) = (k : Int) + 1 := IntWalk.i64_in _ (by omega)
                  by_cases h0 : 0 < totV ps (k : Nat)
                  · have h0' : (0 : Int) < (totV ps (k : Nat) : Int) := by omega
                    have HS := Lib.hid (show N + nz ps (k + 1) = N + nz ps k + 1 by show N + (nz ps k + _) = _; rw [if_pos h0]; omega)
                    generalize totV ps (k : Nat) = TV at hix h0 h0'
                    obtain ⟨M, hM⟩ : ∃ M, M = N + nz ps k := ⟨_, rfl⟩
                    rw [← hM]
                    rw [← hM] at HS
                    have hMb : M ≤ 3000 := by omega
                    have hq2 : IntKind.i64.wrap ((M : Int) + 1) = (M : Int) + 1 := IntWalk.i64_in _ (by omega)
                    clear hM h0
                    go_wp2
                    go_roundw
                    case rel => exact ⟨k + 1, by omega, by go_num, by rw [HS.out]; push_cast; rfl, by trivial⟩
                    case measure => simp [intOf]; omega
                  · have h0' : ¬ (0 : Int) < (totV ps (k : Nat) : Int) := by omega
                    have HS := Lib.hid (show N + nz ps (k + 1) = N + nz ps k by show N + (nz ps k + _) = _; rw [if_neg h0]; omega)
                    generalize totV ps (k : Nat) = TV at hix h0 h0'
                    clear h0
                    go_wp2
                    go_roundw
                    case rel => exact ⟨k + 1, by omega, by go_num, by rw [HS.out], by trivial⟩
                    case measure => simp [intOf]; omega
                · have hkt' : ¬ (k : Int) < 8 := by omega
                  obtain rfl : k = 8 := by omega
                  have hMN : N + nz ps 8 = LN := by have h1 := HLN.out; have h2 := HN2.out; omega
                  rw [hMN]
                  have hee : ((LN : Int) == (LN : Int)) = true := by simp
                  have HO1 := Lib.hid (of_any (w := wr.drew) (c := c5) su bo (show PartsAt wr.drew A5 n ps from Q8.out) (by omega))
                  have HO2 := Lib.hid (fun (W : World) (h : PartsAt W A n ps) => of_any (c := c) su bo h (by omega))
                  have HSM := Lib.hid (fun (W : World) (X X' : Option Addr) (d d' : Nat) (h : PartsAt W X n ps) (h' : PartsAt W X' n ps) => same_yes20 (c := d) (c' := d') su bo h h')
                  obtain ⟨v0, v1, v2, _, _, _⟩ := blk3 Z8.out
                  obtain ⟨t0, t1, t2, _, _, _⟩ := blk3 Y8.out
                  have hzz := Z8.out.lt
                  have hyy := Y8.out.lt
                  have P8d := Lib.hid (show PartsAt wr.drew A n ps from P8.out)
                  have Z8d := Lib.hid Z8.out.drew
                  have Y8d := Lib.hid Y8.out.drew
                  clear hMN hkt hkt' hnz hfew
                  go_wp2_with fail
                  go_region_held3 (fun W => W.cell? ⟨w.heap.size, 0, none⟩ = some (.string su) ∧ W.cell? ⟨w.heap.size, 1, none⟩ = some (.string bo) ∧ W.cell? ⟨w.heap.size, 2, none⟩ = some (.slice A n c) ∧ W.cell? ⟨w5.heap.size, 0, none⟩ = some (.string su) ∧ W.cell? ⟨w5.heap.size, 1, none⟩ = some (.string bo) ∧ W.cell? ⟨w5.heap.size, 2, none⟩ = some (.slice A5 n c5)) (first | exact six Z8.out Y8.out | exact six Z8d.out Y8d.out | exact six ZC YC | exact six ZB YB | exact six ZA YA)
                    (first
                      | (go_at_call 14; (with_reducible refine HO1.out.mono ?_); rintro e wA ⟨A1, c1, rfl, hpA, bA⟩
                         have ZA := Z8d.out.below bA (by simp; exact hzz)
                         have YA := Y8d.out.below bA (by simp; exact hyy)
                         have PA := P8d.out.below bA)
                      | (go_at_call 14; (with_reducible refine (HO2.out _ PA).mono ?_); rintro e wB ⟨A2, c2, rfl, hpB, bB⟩
                         have ZB := ZA.below bB ZA.lt
                         have YB := YA.below bB YA.lt
                         have QB := hpA.below bB)
                      | (go_at_call 23; (with_reducible refine (HSM.out _ _ _ _ _ QB hpB).mono ?_); rintro e wC ⟨rfl, bC⟩
                         have ZC := ZB.below bC ZB.lt
                         have YC := YB.below bC YB.lt))
                  have BA : Below w.heap.size w wA := B8.out.drew.trans (bA.mono (by simp; exact hs8))
                  have BB := BA.trans (bB.mono BA.size)
                  have BC := Lib.hid (BB.trans (bC.mono BB.size))
                  clear bA bB bC BA BB
                  go_wp2
                  go_ret
                  exact ⟨rfl, BC.out⟩
end Go.Proofs.YtplenagncmhhoaaDoor
