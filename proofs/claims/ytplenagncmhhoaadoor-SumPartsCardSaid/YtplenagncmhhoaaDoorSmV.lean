/- The document's example of reports. The document's example of reports comes out as said. -/
import Derived.Test.YtplenagncmhhoaaDoorSmT
namespace Go.Proofs.YtplenagncmhhoaaDoor
open Go.RowKit

theorem GlAt.below {w w' : World} (h : GlAt w) (hb : Below w.heap.size w w') : GlAt w' := h.grown (gb_below hb none) (fun _ e => by cases e)
theorem dg1 : dgN 1 = [49] := by
  unfold dgN
  rw [Lib.decDigits, dif_pos (by decide)]; rfl
theorem ex_right : rightS ⟨#[115]⟩ ⟨#[98]⟩ firstPs = true := by decide
def exText : Ln := [84, 101, 115, 116, 32, 114, 117, 110, 32, 111, 102, 32, 115, 10, 66, 111, 97, 114, 100, 32, 98, 10, 103, 114, 111, 117, 112, 32, 103, 10, 80, 65, 83, 83, 58, 32, 116, 10, 35, 32, 80, 65, 83, 83, 32, 49, 10, 35, 32, 101, 110, 100, 10]
theorem ex_text : textB (smB ⟨#[115]⟩ ⟨#[98]⟩ firstPs) = exText := by
  have w1 : wrN (lnB ⟨#[115]⟩) = [115] := by decide
  have w2 : wrN (lnB ⟨#[98]⟩) = [98] := by decide
  have w3 : wrN (lnB ⟨#[103]⟩) = [103] := by decide
  have w4 : wrN (lnB ⟨#[116]⟩) = [116] := by decide
  have c1 : cnt (firstPs.map ptB) 1 = 1 := by decide
  have c2 : cnt (firstPs.map ptB) 2 = 0 := by decide
  have c3 : cnt (firstPs.map ptB) 3 = 0 := by decide
  have c4 : cnt (firstPs.map ptB) 4 = 0 := by decide
  have c5 : cnt (firstPs.map ptB) 5 = 0 := by decide
  have c6 : cnt (firstPs.map ptB) 6 = 0 := by decide
  have c7 : cnt (firstPs.map ptB) 7 = 0 := by decide
  have ht : tailL dgN (firstPs.map ptB) = [35 :: 32 :: (wd 1 ++ 32 :: [49]), endW] := by
    unfold tailL cntV
    rw [c1, c2, c3, c4, c5, c6, c7, dg1]; rfl
  unfold textB sumL smB
  simp only
  rw [ht, w1, w2]
  have hp : partsL wrN (firstPs.map ptB) = [gw ++ [103], wd 1 ++ 58 :: 32 :: [116]] := by
    show [gw ++ wrN (lnB ⟨#[103]⟩), wd 1 ++ 58 :: 32 :: wrN (lnB ⟨#[116]⟩)] = _
    rw [w3, w4]
  rw [hp]
  decide
theorem pB_ptB_first : (firstPs.map ptB).map pB = firstPs := by decide
/-- A right report's text has just its lines. -/
theorem text_lines {s : Sm} (hs : okS okN s) : (linesOf [] (textB s)).1 = sumL wrN dgN s := by
  have h := lines_flat (sumL wrN dgN s) [] fun l hl => prt_10 (sum_prt hs l hl)
  rw [List.append_nil] at h
  unfold textB
  rw [h]
  simp [linesOf]
theorem text_small {s : Sm} (hs : okS okN s) (h1 : s.parts.length + (s.parts.map fun p => p.2.length).sum ≤ 10000) : (textB s).length ≤ 200000000 ∧ (linesOf [] (textB s)).1.length ≤ 20000 := by
  have h3 := flat_bound _ _ (line_short hs)
  have h4 := sumL_len s
  rw [text_lines hs]
  have h5 : (sumL wrN dgN s).length * (260 + (s.parts.map fun p => p.2.length).sum + 1) ≤ 10011 * 10261 := Nat.mul_le_mul (by omega) (by omega)
  unfold textB
  omega
theorem ptB_sum (ps : List PtB) : ((ps.map ptB).map fun p => p.2.length).sum = lenSum ps := by
  unfold lenSum
  rw [List.map_map]
  have : (ps.map ((fun p : Pt => p.2.length) ∘ ptB)) = ps.map fun p => p.2.length := by
    apply List.map_congr_left
    intro p _
    simp [ptB]
  rw [this]
theorem pB_ptB_right {p : PtB} (h : rightPt p = true) : pB (ptB p) = p := by
  have h' : rightRs p.2 = true ∧ rightB p.1.size = true := by simpa [rightPt] using h
  obtain ⟨g, rs⟩ := p
  unfold pB ptB
  simp only [List.map_map, Prod.mk.injEq]
  refine ⟨by simp [lnB], ?_⟩
  conv => rhs; rw [← List.map_id rs]
  apply List.map_congr_left
  intro r hr
  have hq := List.all_eq_true.1 h'.1 r hr
  have hq2 : 1 ≤ r.2 ∧ r.2 ≤ 7 := by
    have : rightB r.1.size = true ∧ rightV r.2 = true := by simpa [rightR1] using hq
    simpa [rightV] using this.2
  obtain ⟨nm, v⟩ := r
  simp only [Function.comp, rB, resB, lnB, id, Prod.mk.injEq]
  simp only at hq2
  exact ⟨by simp, by omega⟩
theorem pB_ptB_all {ps : List PtB} (h : rightPs ps = true) : (ps.map ptB).map pB = ps := by
  rw [List.map_map]
  conv => rhs; rw [← List.map_id ps]
  apply List.map_congr_left
  intro p hp
  exact pB_ptB_right (List.all_eq_true.1 h p hp)
/-- What Parse answers of a right report's text. -/
theorem parse_back {w : World} {su bo : ByteArray} {ps : List PtB} (hr : rightS su bo ps = true) (hn : ps.length + lenSum ps ≤ 10000) (hg : GlAt w) (hw : 4 < w.heap.size) :
    Calls Tryd.prog 21 #[.string ⟨(textB (smB su bo ps)).toArray⟩] w fun e w' => ∃ A c, e = .returned (.tuple #[.agg #[.string su, .string bo, .slice A ps.length c], .int .i64 0, .int .i64 0]) ∧ PartsAt w' A ps.length ps ∧ Below w.heap.size w w' := by
  have hok := okS_of hr
  have hsm := text_small hok (by
    show (ps.map ptB).length + ((ps.map ptB).map fun p => p.2.length).sum ≤ 10000
    rw [List.length_map, ptB_sum]; exact hn)
  have hl : lnB ⟨(textB (smB su bo ps)).toArray⟩ = textB (smB su bo ps) := by simp [lnB]
  have hrp : rightPs ps = true := by
    have h' : (rightB su.size = true ∧ rightB bo.size = true) ∧ rightPs ps = true := by simpa [rightS] using hr
    exact h'.2
  refine (sParse_any ⟨(textB (smB su bo ps)).toArray⟩ hg hw (by rw [size_mk]; omega) (by rw [hl]; omega)).mono ?_
  rintro e w' h
  rw [hl] at h
  rcases h with ⟨s, A, n, c, h1, _, _, h4, h5, h6⟩ | ⟨k, h1, _, _⟩
  · rw [parse_text hok] at h1
    injection h1 with h1 _
    injection h1 with h1
    subst h1
    have e1 : ((smB su bo ps).parts).map pB = ps := pB_ptB_all hrp
    rw [e1] at h5
    have e2 : n = ps.length := h5.1.symm
    subst e2
    refine ⟨A, c, ?_, h5, h6⟩
    rw [h4]
    simp [smB, lnB]
  · rw [parse_text hok] at h1
    cases h1
end Go.Proofs.YtplenagncmhhoaaDoor
namespace Go.Proofs.YtplenagncmhhoaaDoor
open Go.RowKit

set_option maxHeartbeats 4000000 in
set_option maxRecDepth 100000 in
theorem sAlive_any {w : World} (hg : GlAt w) (hw : 4 < w.heap.size) : Calls Tryd.prog 12 #[] w fun e w' => e = .returned (.bool true) ∧ Below w.heap.size w w' := by
  have HG := Lib.hid hg
  have HF := Lib.hid (first_any w)
  clear hg
  go_enter Tryd.func12, Tryd.ntmps12
  go_wp2_with fail
  (with_reducible refine HF.out.mono ?_)
  rintro e w1 ⟨A1, rfl, hp1, b1⟩
  have B1 := Lib.hid b1
  have HT := Lib.hid (sText_any (c := 1) ⟨#[115]⟩ ⟨#[98]⟩ hp1 (HG.out.below b1).tab (HG.out.below b1).pow (by decide) (by decide) (by decide) (by decide))
  rw [if_pos ex_right] at HT
  have hs1 := b1.size
  clear b1 hp1
  obtain ⟨T, hT⟩ : ∃ T : ByteArray, T = ⟨(textB (smB ⟨#[115]⟩ ⟨#[98]⟩ firstPs)).toArray⟩ := ⟨_, rfl⟩
  rw [← hT] at HT
  have hTe : T.toList = [84, 101, 115, 116, 32, 114, 117, 110, 32, 111, 102, 32, 115, 10, 66, 111, 97, 114, 100, 32, 98, 10, 103, 114, 111, 117, 112, 32, 103, 10, 80, 65, 83, 83, 58, 32, 116, 10, 35, 32, 80, 65, 83, 83, 32, 49, 10, 35, 32, 101, 110, 100, 10] := by
    rw [hT, ex_text, ByteArray.toList_eq]; rfl
  have HTT := Lib.hid hT
  clear hT
  go_wp2_with fail
  (with_reducible refine HT.out.mono ?_)
  rintro e w2 ⟨rfl, b2⟩
  have B2 := Lib.hid (B1.out.trans (b2.mono hs1))
  have hs2 := B2.out.size
  have HP := Lib.hid (parse_back (w := w2) ex_right (by decide) (HG.out.below B2.out) (by omega))
  rw [← HTT.out] at HP
  clear b2
  go_wp2_with fail
  (with_reducible refine HP.out.mono ?_)
  rintro e w3 ⟨A3, c3, rfl, hp3, b3⟩
  have B3 := Lib.hid (B2.out.trans (b3.mono hs2))
  have hs3 := B3.out.size
  have hl3 : firstPs.length = 1 := rfl
  rw [hl3] at hp3 ⊢
  have B4 := Lib.hid (B3.out.alloc hs3 (.cells #[.string ⟨#[115]⟩, .string ⟨#[98]⟩, .slice A3 1 c3] 24))
  have Z4 := Lib.hid (Blk.new w3 24 #[.string ⟨#[115]⟩, .string ⟨#[98]⟩, .slice A3 1 c3])
  have P4 := Lib.hid (hp3.below ((Below.refl w3.heap.size w3).alloc (Nat.le_refl _) (.cells #[.string ⟨#[115]⟩, .string ⟨#[98]⟩, .slice A3 1 c3] 24)))
  have HO := Lib.hid (of_any (c := c3) ⟨#[115]⟩ ⟨#[98]⟩ P4.out (by omega))
  clear b3 hp3
  go_wp2_with fail
  (with_reducible refine HO.out.mono ?_)
  rintro e w5 ⟨A5, c5, rfl, hp5, b5⟩
  have P5 := Lib.hid hp5
  have B5 := Lib.hid (B4.out.trans (b5.mono (by simp; omega)))
  have Z5 := Lib.hid (Z4.out.below b5 (by simp))
  have P45 := Lib.hid (P4.out.below b5)
  have hs5 := B5.out.size
  have HF2 := Lib.hid (first_any w5)
  clear b5 hp5
  go_wp2_with fail
  (with_reducible refine HF2.out.mono ?_)
  rintro e w6 ⟨A6, rfl, hp6, b6⟩
  have B6 := Lib.hid (B5.out.trans (b6.mono hs5))
  have Z6 := Lib.hid (Z5.out.below b6 Z5.out.lt)
  have P6 := Lib.hid (P5.out.below b6)
  have P46 := Lib.hid (P45.out.below b6)
  have hs6 := B6.out.size
  have HO2 := Lib.hid (of_any (c := 1) ⟨#[115]⟩ ⟨#[98]⟩ hp6 (by omega))
  clear b6 hp6
  go_wp2_with fail
  (with_reducible refine HO2.out.mono ?_)
  rintro e w7 ⟨A7, c7, rfl, hp7, b7⟩
  have B7 := Lib.hid (B6.out.trans (b7.mono hs6))
  have Z7 := Lib.hid (Z6.out.below b7 Z6.out.lt)
  have P47 := Lib.hid (P46.out.below b7)
  have HS := Lib.hid (same_yes20 (c := c5) (c' := c7) ⟨#[115]⟩ ⟨#[98]⟩ (P6.out.below b7) hp7)
  have hs7 := B7.out.size
  clear b7 hp7
  go_wp2_with fail
  (with_reducible refine HS.out.mono ?_)
  rintro e w8 ⟨rfl, b8⟩
  have B8 := Lib.hid (B7.out.trans (b8.mono hs7))
  have Z8 := Lib.hid (Z7.out.below b8 Z7.out.lt)
  have P48 := Lib.hid (P47.out.below b8)
  have hs8 := B8.out.size
  obtain ⟨z0, z1, z2, _, _, _⟩ := blk3 Z8.out
  have hz8 := Z8.out.lt
  have HTO := Lib.hid (sTotals_any (c := c3) ⟨#[115]⟩ ⟨#[98]⟩ P48.out (by decide))
  clear b8
  go_wp2_with fail
  (with_reducible refine HTO.out.mono ?_)
  rintro e w9 ⟨rfl, b9⟩
  have B9 := Lib.hid (B8.out.trans (b9.mono hs8))
  have Z9 := Lib.hid (Z8.out.below b9 hz8)
  have P49 := Lib.hid (P48.out.below b9)
  have hs9 := B9.out.size
  have hix : ∀ W : World, (Instr.index 31 (.agg (totC firstPs)) (.int .i64 1)).run Tryd.prog W = .ok (.int .i64 1) W := fun W => totC_at firstPs (k := 1) (by omega) W
  obtain ⟨y0, y1, y2, _, _, _⟩ := blk3 Z9.out
  have hz9 := Z9.out.lt
  have HR := Lib.hid (sRight_any (c := c3) ⟨#[115]⟩ ⟨#[98]⟩ P49.out (HG.out.below B9.out).tab (by decide) (by decide))
  rw [ex_right] at HR
  clear b9
  generalize totC firstPs = TC at hix ⊢
  go_wp2_with fail
  (with_reducible refine HR.out.mono ?_)
  rintro e w10 ⟨rfl, b10⟩
  have B10 := Lib.hid (B9.out.trans (b10.mono hs9))
  clear b10
  go_wp2
  go_ret
  exact ⟨rfl, B10.out⟩
end Go.Proofs.YtplenagncmhhoaaDoor
