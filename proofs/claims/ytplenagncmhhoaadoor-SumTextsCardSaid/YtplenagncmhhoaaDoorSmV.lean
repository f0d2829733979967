/- The document's example of reports comes out as said. -/
import Derived.Test.YtplenagncmhhoaaDoorSmU
namespace Go.Proofs.YtplenagncmhhoaaDoor
open Go.RowKit

set_option maxHeartbeats 4000000 in
set_option maxRecDepth 100000 in
theorem sAlive_any {w : World} (hg : GlAt w) (hw : 4 < w.heap.size) : Calls Tryd.prog 12 #[] w fun e w' => e = .returned (.bool true) ∧ Below w.heap.size w w' := by
  have HG := Lib.hid hg
  have HF := Lib.hid (first_any w)
  clear hg
  go_enter Tryd.func12, Tryd.ntmps12
  go_wp2_with fail
  (with_reducible refine HF.out.mono ?_)
  rintro e w1 ⟨A1, rfl, hp1, b1⟩
  have B1 := Lib.hid b1
  have HT := Lib.hid (sText_any (c := 1) ⟨#[115]⟩ ⟨#[98]⟩ hp1 (HG.out.below b1).tab (HG.out.below b1).pow (by decide) (by decide) (by decide) (by decide))
  rw [if_pos ex_right] at HT
  have hs1 := b1.size
  clear b1 hp1
  obtain ⟨T, hT⟩ : ∃ T : ByteArray, T = ⟨(textB (smB ⟨#[115]⟩ ⟨#[98]⟩ firstPs)).toArray⟩ := ⟨_, rfl⟩
  rw [← hT] at HT
  have hTe : T.toList = [84, 101, 115, 116, 32, 114, 117, 110, 32, 111, 102, 32, 115, 10, 66, 111, 97, 114, 100, 32, 98, 10, 103, 114, 111, 117, 112, 32, 103, 10, 80, 65, 83, 83, 58, 32, 116, 10, 35, 32, 80, 65, 83, 83, 32, 49, 10, 35, 32, 101, 110, 100, 10] := by
    rw [hT, ex_text, ByteArray.toList_eq]; rfl
  have HTT := Lib.hid hT
  clear hT
  go_wp2_with fail
  (with_reducible refine HT.out.mono ?_)
  rintro e w2 ⟨rfl, b2⟩
  have B2 := Lib.hid (B1.out.trans (b2.mono hs1))
  have hs2 := B2.out.size
  have HP := Lib.hid (parse_back (w := w2) ex_right (by decide) (HG.out.below B2.out) (by omega))
  rw [← HTT.out] at HP
  clear b2
  go_wp2_with fail
  (with_reducible refine HP.out.mono ?_)
  rintro e w3 ⟨A3, c3, rfl, hp3, b3⟩
  have B3 := Lib.hid (B2.out.trans (b3.mono hs2))
  have hs3 := B3.out.size
  have hl3 : firstPs.length = 1 := rfl
  rw [hl3] at hp3 ⊢
  have B4 := Lib.hid (B3.out.alloc hs3 (.cells #[.string ⟨#[115]⟩, .string ⟨#[98]⟩, .slice A3 1 c3] 24))
  have Z4 := Lib.hid (Blk.new w3 24 #[.string ⟨#[115]⟩, .string ⟨#[98]⟩, .slice A3 1 c3])
  have P4 := Lib.hid (hp3.below ((Below.refl w3.heap.size w3).alloc (Nat.le_refl _) (.cells #[.string ⟨#[115]⟩, .string ⟨#[98]⟩, .slice A3 1 c3] 24)))
  have HO := Lib.hid (of_any (c := c3) ⟨#[115]⟩ ⟨#[98]⟩ P4.out (by omega))
  clear b3 hp3
  go_wp2_with fail
  (with_reducible refine HO.out.mono ?_)
  rintro e w5 ⟨A5, c5, rfl, hp5, b5⟩
  have P5 := Lib.hid hp5
  have B5 := Lib.hid (B4.out.trans (b5.mono (by simp; omega)))
  have Z5 := Lib.hid (Z4.out.below b5 (by simp))
  have P45 := Lib.hid (P4.out.below b5)
  have hs5 := B5.out.size
  have HF2 := Lib.hid (first_any w5)
  clear b5 hp5
  go_wp2_with fail
  (with_reducible refine HF2.out.mono ?_)
  rintro e w6 ⟨A6, rfl, hp6, b6⟩
  have B6 := Lib.hid (B5.out.trans (b6.mono hs5))
  have Z6 := Lib.hid (Z5.out.below b6 Z5.out.lt)
  have P6 := Lib.hid (P5.out.below b6)
  have P46 := Lib.hid (P45.out.below b6)
  have hs6 := B6.out.size
  have HO2 := Lib.hid (of_any (c := 1) ⟨#[115]⟩ ⟨#[98]⟩ hp6 (by omega))
  clear b6 hp6
  go_wp2_with fail
  (with_reducible refine HO2.out.mono ?_)
  rintro e w7 ⟨A7, c7, rfl, hp7, b7⟩
  have B7 := Lib.hid (B6.out.trans (b7.mono hs6))
  have Z7 := Lib.hid (Z6.out.below b7 Z6.out.lt)
  have P47 := Lib.hid (P46.out.below b7)
  have HS := Lib.hid (same_yes20 (c := c5) (c' := c7) ⟨#[115]⟩ ⟨#[98]⟩ (P6.out.below b7) hp7)
  have hs7 := B7.out.size
  clear b7 hp7
  go_wp2_with fail
  (with_reducible refine HS.out.mono ?_)
  rintro e w8 ⟨rfl, b8⟩
  have B8 := Lib.hid (B7.out.trans (b8.mono hs7))
  have Z8 := Lib.hid (Z7.out.below b8 Z7.out.lt)
  have P48 := Lib.hid (P47.out.below b8)
  have hs8 := B8.out.size
  obtain ⟨z0, z1, z2, _, _, _⟩ := blk3 Z8.out
  have hz8 := Z8.out.lt
  have HTO := Lib.hid (sTotals_any (c := c3) ⟨#[115]⟩ ⟨#[98]⟩ P48.out (by decide))
  clear b8
  go_wp2_with fail
  (with_reducible refine HTO.out.mono ?_)
  rintro e w9 ⟨rfl, b9⟩
  have B9 := Lib.hid (B8.out.trans (b9.mono hs8))
  have Z9 := Lib.hid (Z8.out.below b9 hz8)
  have P49 := Lib.hid (P48.out.below b9)
  have hs9 := B9.out.size
  have hix : ∀ W : World, (Instr.index 31 (.agg (totC firstPs)) (.int .i64 1)).run Tryd.prog W = .ok (.int .i64 1) W := fun W => totC_at firstPs (k := 1) (by omega) W
  obtain ⟨y0, y1, y2, _, _, _⟩ := blk3 Z9.out
  have hz9 := Z9.out.lt
  have HR := Lib.hid (sRight_any (c := c3) ⟨#[115]⟩ ⟨#[98]⟩ P49.out (HG.out.below B9.out).tab (by decide) (by decide))
  rw [ex_right] at HR
  clear b9
  generalize totC firstPs = TC at hix ⊢
  go_wp2_with fail
  (with_reducible refine HR.out.mono ?_)
  rintro e w10 ⟨rfl, b10⟩
  have B10 := Lib.hid (B9.out.trans (b10.mono hs9))
  clear b10
  go_wp2
  go_ret
  exact ⟨rfl, B10.out⟩
end Go.Proofs.YtplenagncmhhoaaDoor
