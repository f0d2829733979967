/- SumForges: its walk. -/
import Derived.Test.YtplenagncmhhoaaDoorSmV
namespace Go.Proofs.YtplenagncmhhoaaDoor
open Go.RowKit

theorem and_lo20 (a b : Int) (n : Nat) (hb : b = (n : Int)) (hn : n < 4611686018427387904) : 0 ≤ bits BinOp.and IntKind.i64 a b ∧ bits BinOp.and IntKind.i64 a b ≤ n := by
  have hbn : (BitVec.ofInt 64 b).toNat = n := by
    rw [hb, BitVec.toNat_ofInt]; omega
  have h : (BitVec.ofInt 64 a &&& BitVec.ofInt 64 b).toNat ≤ n := by
    rw [BitVec.toNat_and]
    exact Nat.le_trans Nat.and_le_right (Nat.le_of_eq hbn)
  show 0 ≤ IntKind.i64.wrap ((BitVec.ofInt 64 a &&& BitVec.ofInt 64 b).toNat : Int) ∧ IntKind.i64.wrap ((BitVec.ofInt 64 a &&& BitVec.ofInt 64 b).toNat : Int) ≤ n
  rw [IntWalk.i64_in _ (by omega)]; omega
def forgePs (a b : ByteArray) (v : Int) : List PtB := [(⟨#[103]⟩, [(a, v), (b, 1)])]
theorem forge_right (a b : ByteArray) (v : Int) (h : rightV v = true) : rightS ⟨#[115]⟩ ⟨#[98]⟩ (forgePs a b v) = (rightB a.size && rightB b.size) := by
  have e1 : rightB (⟨#[115]⟩ : ByteArray).size = true := by decide
  have e2 : rightB (⟨#[98]⟩ : ByteArray).size = true := by decide
  have e3 : rightB (⟨#[103]⟩ : ByteArray).size = true := by decide
  have e4 : rightV 1 = true := by decide
  unfold rightS rightPs forgePs
  simp only [List.all_cons, List.all_nil, rightPt, rightRs, rightR1, e1, e2, e3, e4, h, Bool.and_true, Bool.true_and]
theorem forge_at {w : World} {rb pb : Nat} {a b : ByteArray} {v : Int} (ha : a.size ≤ maxLen) (hb : b.size ≤ maxLen) (h1 : Blk w rb 49 #[.string a, .int .i64 v, .string b, .int .i64 1]) (h2 : Blk w pb 46 #[.string ⟨#[103]⟩, .slice (some ⟨rb, 0, none⟩) 2 2]) : PartsAt w (some ⟨pb, 0, none⟩) 1 (forgePs a b v) := by
  refine ⟨rfl, by omega, fun p hp => ?_, fun _ => ⟨pb, 0, rfl, h2.lt, fun i p hi => ?_⟩⟩
  · simp only [forgePs, List.mem_cons, List.not_mem_nil, or_false] at hp
    subst hp; show (⟨#[103]⟩ : ByteArray).size ≤ maxLen; decide
  · cases i with
    | succ i => simp [forgePs] at hi
    | zero =>
      simp only [forgePs, List.getElem?_cons_zero, Option.some.injEq] at hi
      subst hi
      refine ⟨some ⟨rb, 0, none⟩, 2, 2, h2.cell 0, h2.cell 1, rfl, by omega, fun r hr => ?_, fun _ => ⟨rb, 0, rfl, h1.lt, fun k r hk => ?_⟩⟩
      · simp only [List.mem_cons, List.not_mem_nil, or_false] at hr
        rcases hr with rfl | rfl
        · exact ha
        · exact hb
      · cases k with
        | zero =>
          simp only [List.getElem?_cons_zero, Option.some.injEq] at hk
          subst hk
          exact ⟨h1.cell 0, h1.cell 1⟩
        | succ k =>
          cases k with
          | zero =>
            simp at hk
            subst hk
            exact ⟨h1.cell 2, h1.cell 3⟩
          | succ k => simp at hk
set_option maxHeartbeats 8000000 in
set_option maxRecDepth 100000 in
theorem sumForges_walk {w : World} (hg : GlAt w) (hw : 4 < w.heap.size) (a b : ByteArray) (v : Int) (ha : a.size ≤ maxLen) (hb : b.size ≤ maxLen) :
    Calls Tryd.prog 7 #[.string a, .string b, .int .i64 v] w fun e w' => e = .returned (.bool true) ∧ Below w.heap.size w w' := by
  have HG := Lib.hid hg
  have HA := Lib.hid (sAlive_any hg hw)
  clear hg
  go_enter Tryd.func7, Tryd.ntmps7
  go_wp2_with fail
  (with_reducible refine HA.out.mono ?_)
  rintro e w1 ⟨rfl, b1⟩
  have B1 := Lib.hid b1
  have hs1 := b1.size
  clear b1
  obtain ⟨hv0, hv1⟩ := and_lo20 v 1023 1023 rfl (by decide)
  go_wp2_with fail
  have hV : 1 ≤ 1 + bits BinOp.and IntKind.i64 v 1023 % 7 ∧ 1 + bits BinOp.and IntKind.i64 v 1023 % 7 ≤ 7 := by omega
  generalize 1 + bits BinOp.and IntKind.i64 v 1023 % 7 = V at hV ⊢
  clear hv0 hv1
  have hrv : rightV V = true := by simp [rightV]; omega
  have hFR := forge_right a b V hrv
  obtain ⟨W0, hW0⟩ : ∃ W0, W0 = ((w1.alloc (.cells #[.string a, .int .i64 V, .string b, .int .i64 1] 49)).alloc (.cells #[.string ⟨#[103]⟩, .slice (some ⟨w1.heap.size, 0, none⟩) 2 2] 46)).alloc (.cells #[.string ⟨#[115]⟩, .string ⟨#[98]⟩, .slice (some ⟨w1.heap.size + 1, 0, none⟩) 1 1] 24) := ⟨_, rfl⟩
  have x1 := ((Blk.new w1 49 #[.string a, .int .i64 V, .string b, .int .i64 1]).alloc (.cells #[.string ⟨#[103]⟩, .slice (some ⟨w1.heap.size, 0, none⟩) 2 2] 46)).alloc (.cells #[.string ⟨#[115]⟩, .string ⟨#[98]⟩, .slice (some ⟨w1.heap.size + 1, 0, none⟩) 1 1] 24)
  have x2 := (Blk.new (w1.alloc (.cells #[.string a, .int .i64 V, .string b, .int .i64 1] 49)) 46 #[.string ⟨#[103]⟩, .slice (some ⟨w1.heap.size, 0, none⟩) 2 2]).alloc (.cells #[.string ⟨#[115]⟩, .string ⟨#[98]⟩, .slice (some ⟨w1.heap.size + 1, 0, none⟩) 1 1] 24)
  rw [show (w1.alloc (.cells #[.string a, .int .i64 V, .string b, .int .i64 1] 49)).heap.size = w1.heap.size + 1 by simp] at x2
  have x3 := Blk.new ((w1.alloc (.cells #[.string a, .int .i64 V, .string b, .int .i64 1] 49)).alloc (.cells #[.string ⟨#[103]⟩, .slice (some ⟨w1.heap.size, 0, none⟩) 2 2] 46)) 24 #[.string ⟨#[115]⟩, .string ⟨#[98]⟩, .slice (some ⟨w1.heap.size + 1, 0, none⟩) 1 1]
  rw [show ((w1.alloc (.cells #[.string a, .int .i64 V, .string b, .int .i64 1] 49)).alloc (.cells #[.string ⟨#[103]⟩, .slice (some ⟨w1.heap.size, 0, none⟩) 2 2] 46)).heap.size = w1.heap.size + 1 + 1 by simp] at x3
  have bb := ((B1.out.alloc hs1 (.cells #[.string a, .int .i64 V, .string b, .int .i64 1] 49)).alloc (by simp; omega) (.cells #[.string ⟨#[103]⟩, .slice (some ⟨w1.heap.size, 0, none⟩) 2 2] 46)).alloc (by simp; omega) (.cells #[.string ⟨#[115]⟩, .string ⟨#[98]⟩, .slice (some ⟨w1.heap.size + 1, 0, none⟩) 1 1] 24)
  rw [← hW0] at x1 x2 x3 bb ⊢
  have B0 := Lib.hid bb
  have Z0 := Lib.hid x3
  have P0 := Lib.hid (forge_at ha hb x1 x2)
  clear x1 x2 x3 bb hW0
  have HT := Lib.hid (sText_any (c := 1) ⟨#[115]⟩ ⟨#[98]⟩ P0.out (HG.out.below B0.out).tab (HG.out.below B0.out).pow (by decide) (by decide) (by simp [forgePs]) (by simp [forgePs]))
  have hs0 := B0.out.size
  rw [hFR] at HT
  cases hra : (rightB a.size && rightB b.size)
  · rw [hra] at HT hFR
    simp only [Bool.false_eq_true, if_false] at HT
    (with_reducible refine HT.out.mono ?_)
    rintro e w2 ⟨rfl, b2⟩
    have B2 := Lib.hid (B0.out.trans (b2.mono hs0))
    have Z2 := Lib.hid (Z0.out.below b2 Z0.out.lt)
    have P2 := Lib.hid (P0.out.below b2)
    have hs2 := B2.out.size
    clear b2
    obtain ⟨z0, z1, z2, _, _, _⟩ := blk3 Z2.out
    have hz2 := Z2.out.lt
    have HR := Lib.hid (sRight_any (c := 1) ⟨#[115]⟩ ⟨#[98]⟩ P2.out (HG.out.below B2.out).tab (by decide) (by decide))
    rw [hFR] at HR
    have hcase : (a.size < 1) ∨ (¬ a.size < 1 ∧ 80 < a.size) ∨ (¬ a.size < 1 ∧ ¬ 80 < a.size ∧ b.size < 1) ∨ (¬ a.size < 1 ∧ ¬ 80 < a.size ∧ ¬ b.size < 1 ∧ 80 < b.size) := by
      have : ¬ ((1 ≤ a.size ∧ a.size ≤ 80) ∧ (1 ≤ b.size ∧ b.size ≤ 80)) := by
        intro h
        have : (rightB a.size && rightB b.size) = true := by simp [rightB, h]
        rw [this] at hra; cases hra
      omega
    clear hra hFR hrv hV
    rcases hcase with h | ⟨h0, h1⟩ | ⟨h0, h1, h2⟩ | ⟨h0, h1, h2, h3⟩
    · have f1 : (a.size : Int) < 1 := by omega
      go_wp2_with fail
      (with_reducible refine HR.out.mono ?_)
      rintro e w3 ⟨rfl, b3⟩
      have B3 := Lib.hid (B2.out.trans (b3.mono hs2))
      clear b3
      go_wp2
      go_ret
      exact ⟨by simp, B3.out⟩
    · have f1 : ¬ (a.size : Int) < 1 := by omega
      have f2 : (80 : Int) < (a.size : Int) := by omega
      go_wp2_with fail
      (with_reducible refine HR.out.mono ?_)
      rintro e w3 ⟨rfl, b3⟩
      have B3 := Lib.hid (B2.out.trans (b3.mono hs2))
      clear b3
      go_wp2
      go_ret
      exact ⟨by simp, B3.out⟩
    · have f1 : ¬ (a.size : Int) < 1 := by omega
      have f2 : ¬ (80 : Int) < (a.size : Int) := by omega
      have f3 : (b.size : Int) < 1 := by omega
      go_wp2_with fail
      (with_reducible refine HR.out.mono ?_)
      rintro e w3 ⟨rfl, b3⟩
      have B3 := Lib.hid (B2.out.trans (b3.mono hs2))
      clear b3
      go_wp2
      go_ret
      exact ⟨by simp, B3.out⟩
    · have f1 : ¬ (a.size : Int) < 1 := by omega
      have f2 : ¬ (80 : Int) < (a.size : Int) := by omega
      have f3 : ¬ (b.size : Int) < 1 := by omega
      have f4 : (80 : Int) < (b.size : Int) := by omega
      go_wp2_with fail
      (with_reducible refine HR.out.mono ?_)
      rintro e w3 ⟨rfl, b3⟩
      have B3 := Lib.hid (B2.out.trans (b3.mono hs2))
      clear b3
      go_wp2
      go_ret
      exact ⟨by simp, B3.out⟩
  · rw [hra] at HT hFR
    simp only [if_true] at HT
    obtain ⟨T, hT⟩ : ∃ T : ByteArray, T = ⟨(textB (smB ⟨#[115]⟩ ⟨#[98]⟩ (forgePs a b V))).toArray⟩ := ⟨_, rfl⟩
    rw [← hT] at HT
    have HTT := Lib.hid hT
    clear hT
    (with_reducible refine HT.out.mono ?_)
    rintro e w2 ⟨rfl, b2⟩
    have B2 := Lib.hid (B0.out.trans (b2.mono hs0))
    have Z2 := Lib.hid (Z0.out.below b2 Z0.out.lt)
    have P2 := Lib.hid (P0.out.below b2)
    have hs2 := B2.out.size
    clear b2
    obtain ⟨z0, z1, z2, _, _, _⟩ := blk3 Z2.out
    have hz2 := Z2.out.lt
    have HR := Lib.hid (sRight_any (c := 1) ⟨#[115]⟩ ⟨#[98]⟩ P2.out (HG.out.below B2.out).tab (by decide) (by decide))
    rw [hFR] at HR
    have HFR := Lib.hid hFR
    clear hra hrv hV hFR
    go_wp2_with fail
    (with_reducible refine HR.out.mono ?_)
    rintro e w3 ⟨rfl, b3⟩
    have B3 := Lib.hid (B2.out.trans (b3.mono hs2))
    have hs3 := B3.out.size
    have HP := Lib.hid (parse_back (w := w3) HFR.out (by simp [forgePs, lenSum]) (HG.out.below B3.out) (by omega))
    rw [← HTT.out] at HP
    clear b3
    go_wp2_with fail
    (with_reducible refine HP.out.mono ?_)
    rintro e w4 ⟨A4, c4, rfl, hp4, b4⟩
    have B4 := Lib.hid (B3.out.trans (b4.mono hs3))
    have hs4 := B4.out.size
    have hl4 : (forgePs a b V).length = 1 := rfl
    rw [hl4] at hp4 ⊢
    obtain ⟨_, _, _, hc4⟩ := hp4
    obtain ⟨pb, pf, rfl, hpb, hcell⟩ := hc4 (by omega)
    obtain ⟨RA, rn, rc, p0, p1, hres⟩ := hcell 0 (⟨#[103]⟩, [(a, V), (b, 1)]) rfl
    obtain ⟨hrn, _, _, hrc⟩ := hres
    have hrn2 : rn = 2 := hrn.symm
    subst hrn2
    obtain ⟨rb, rf, rfl, hrb, hrcell⟩ := hrc (by omega)
    obtain ⟨r0, r1⟩ := hrcell 0 (a, V) rfl
    obtain ⟨r2, r3⟩ := hrcell 1 (b, 1) rfl
    simp only [Nat.zero_mul, Nat.add_zero, Nat.one_mul] at p0 p1 r0 r1 r2 r3
    have B5 := Lib.hid (B4.out.alloc hs4 (.cells #[.string ⟨#[115]⟩, .string ⟨#[98]⟩, .slice (some ⟨pb, pf, none⟩) 1 c4] 24))
    have haa : (a.toList == a.toList) = true := by simp
    have hbb : (b.toList == b.toList) = true := by simp
    clear b4 hc4 hcell hrn hrc hrcell hl4
    go_wp2
    go_ret
    exact ⟨rfl, B5.out⟩
end Go.Proofs.YtplenagncmhhoaaDoor
