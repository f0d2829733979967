/- The document's example of reports. -/
import Derived.Test.YtplenagncmhhoaaDoorSmT
namespace Go.Proofs.YtplenagncmhhoaaDoor
open Go.RowKit

theorem GlAt.below {w w' : World} (h : GlAt w) (hb : Below w.heap.size w w') : GlAt w' := h.grown (gb_below hb none) (fun _ e => by cases e)
theorem dg1 : dgN 1 = [49] := by
  unfold dgN
  rw [Lib.decDigits, dif_pos (by decide)]; rfl
theorem ex_right : rightS ⟨#[115]⟩ ⟨#[98]⟩ firstPs = true := by decide
def exText : Ln := [84, 101, 115, 116, 32, 114, 117, 110, 32, 111, 102, 32, 115, 10, 66, 111, 97, 114, 100, 32, 98, 10, 103, 114, 111, 117, 112, 32, 103, 10, 80, 65, 83, 83, 58, 32, 116, 10, 35, 32, 80, 65, 83, 83, 32, 49, 10, 35, 32, 101, 110, 100, 10]
theorem ex_text : textB (smB ⟨#[115]⟩ ⟨#[98]⟩ firstPs) = exText := by
  have w1 : wrN (lnB ⟨#[115]⟩) = [115] := by decide
  have w2 : wrN (lnB ⟨#[98]⟩) = [98] := by decide
  have w3 : wrN (lnB ⟨#[103]⟩) = [103] := by decide
  have w4 : wrN (lnB ⟨#[116]⟩) = [116] := by decide
  have c1 : cnt (firstPs.map ptB) 1 = 1 := by decide
  have c2 : cnt (firstPs.map ptB) 2 = 0 := by decide
  have c3 : cnt (firstPs.map ptB) 3 = 0 := by decide
  have c4 : cnt (firstPs.map ptB) 4 = 0 := by decide
  have c5 : cnt (firstPs.map ptB) 5 = 0 := by decide
  have c6 : cnt (firstPs.map ptB) 6 = 0 := by decide
  have c7 : cnt (firstPs.map ptB) 7 = 0 := by decide
  have ht : tailL dgN (firstPs.map ptB) = [35 :: 32 :: (wd 1 ++ 32 :: [49]), endW] := by
    unfold tailL cntV
    rw [c1, c2, c3, c4, c5, c6, c7, dg1]; rfl
  unfold textB sumL smB
  simp only
  rw [ht, w1, w2]
  have hp : partsL wrN (firstPs.map ptB) = [gw ++ [103], wd 1 ++ 58 :: 32 :: [116]] := by
    show [gw ++ wrN (lnB ⟨#[103]⟩), wd 1 ++ 58 :: 32 :: wrN (lnB ⟨#[116]⟩)] = _
    rw [w3, w4]
  rw [hp]
  decide
theorem pB_ptB_first : (firstPs.map ptB).map pB = firstPs := by decide
/-- A right report's text has just its lines. -/
theorem text_lines {s : Sm} (hs : okS okN s) : (linesOf [] (textB s)).1 = sumL wrN dgN s := by
  have h := lines_flat (sumL wrN dgN s) [] fun l hl => prt_10 (sum_prt hs l hl)
  rw [List.append_nil] at h
  unfold textB
  rw [h]
  simp [linesOf]
theorem text_small {s : Sm} (hs : okS okN s) (h1 : s.parts.length + (s.parts.map fun p => p.2.length).sum ≤ 10000) : (textB s).length ≤ 200000000 ∧ (linesOf [] (textB s)).1.length ≤ 20000 := by
  have h3 := flat_bound _ _ (line_short hs)
  have h4 := sumL_len s
  rw [text_lines hs]
  have h5 : (sumL wrN dgN s).length * (260 + (s.parts.map fun p => p.2.length).sum + 1) ≤ 10011 * 10261 := Nat.mul_le_mul (by omega) (by omega)
  unfold textB
  omega
theorem ptB_sum (ps : List PtB) : ((ps.map ptB).map fun p => p.2.length).sum = lenSum ps := by
  unfold lenSum
  rw [List.map_map]
  have : (ps.map ((fun p : Pt => p.2.length) ∘ ptB)) = ps.map fun p => p.2.length := by
    apply List.map_congr_left
    intro p _
    simp [ptB]
  rw [this]
theorem pB_ptB_right {p : PtB} (h : rightPt p = true) : pB (ptB p) = p := by
  have h' : rightRs p.2 = true ∧ rightB p.1.size = true := by simpa [rightPt] using h
  obtain ⟨g, rs⟩ := p
  unfold pB ptB
  simp only [List.map_map, Prod.mk.injEq]
  refine ⟨by simp [lnB], ?_⟩
  conv => rhs; rw [← List.map_id rs]
  apply List.map_congr_left
  intro r hr
  have hq := List.all_eq_true.1 h'.1 r hr
  have hq2 : 1 ≤ r.2 ∧ r.2 ≤ 7 := by
    have : rightB r.1.size = true ∧ rightV r.2 = true := by simpa [rightR1] using hq
    simpa [rightV] using this.2
  obtain ⟨nm, v⟩ := r
  simp only [Function.comp, rB, resB, lnB, id, Prod.mk.injEq]
  simp only at hq2
  exact ⟨by simp, by omega⟩
theorem pB_ptB_all {ps : List PtB} (h : rightPs ps = true) : (ps.map ptB).map pB = ps := by
  rw [List.map_map]
  conv => rhs; rw [← List.map_id ps]
  apply List.map_congr_left
  intro p hp
  exact pB_ptB_right (List.all_eq_true.1 h p hp)
/-- What Parse answers of a right report's text. -/
theorem parse_back {w : World} {su bo : ByteArray} {ps : List PtB} (hr : rightS su bo ps = true) (hn : ps.length + lenSum ps ≤ 10000) (hg : GlAt w) (hw : 4 < w.heap.size) :
    Calls Tryd.prog 21 #[.string ⟨(textB (smB su bo ps)).toArray⟩] w fun e w' => ∃ A c, e = .returned (.tuple #[.agg #[.string su, .string bo, .slice A ps.length c], .int .i64 0, .int .i64 0]) ∧ PartsAt w' A ps.length ps ∧ Below w.heap.size w w' := by
  have hok := okS_of hr
  have hsm := text_small hok (by
    show (ps.map ptB).length + ((ps.map ptB).map fun p => p.2.length).sum ≤ 10000
    rw [List.length_map, ptB_sum]; exact hn)
  have hl : lnB ⟨(textB (smB su bo ps)).toArray⟩ = textB (smB su bo ps) := by simp [lnB]
  have hrp : rightPs ps = true := by
    have h' : (rightB su.size = true ∧ rightB bo.size = true) ∧ rightPs ps = true := by simpa [rightS] using hr
    exact h'.2
  refine (sParse_any ⟨(textB (smB su bo ps)).toArray⟩ hg hw (by rw [size_mk]; omega) (by rw [hl]; omega)).mono ?_
  rintro e w' h
  rw [hl] at h
  rcases h with ⟨s, A, n, c, h1, _, _, h4, h5, h6⟩ | ⟨k, h1, _, _⟩
  · rw [parse_text hok] at h1
    injection h1 with h1 _
    injection h1 with h1
    subst h1
    have e1 : ((smB su bo ps).parts).map pB = ps := pB_ptB_all hrp
    rw [e1] at h5
    have e2 : n = ps.length := h5.1.symm
    subst e2
    refine ⟨A, c, ?_, h5, h6⟩
    rw [h4]
    simp [smB, lnB]
  · rw [parse_text hok] at h1
    cases h1
end Go.Proofs.YtplenagncmhhoaaDoor
