/- NfaSteps answers true. -/
import Derived.Test.YtepfpmnfecehbaaOz
namespace Go.Proofs.Ytepfpmnfecehbaa
open Go.RowKit Go.Maps

theorem node_cells {w w' : World} {g : Nat} {a b c : Value} (h : Blk w g 26 #[a, b, c]) (hb : Below w.heap.size w w') : Blk w' g 26 #[a, b, c] := (hb.block g h.lt).trans h
theorem Left.steps {w w' : World} {X : Nat → Prop} {pp d n : Nat} {t : Tr} (h : Left w X pp d t n w') (hn : nodesT d t ≤ 400) : ∃ st : Nat, st ≤ 2000 * n ∧ Calls Try.prog 28 #[.pointer (some ⟨pp, 0, none⟩)] w' (fun e w2 => e = .returned (.int .i64 (st : Nat)) ∧ w2 = w') := by
  obtain ⟨⟨st, h1, h2⟩, _⟩ := h
  refine ⟨st, Nat.le_trans h1 ?_, steps_any h2 (mach_ok d t).1⟩
  rw [Nat.mul_comm]
  exact Nat.mul_le_mul (by omega) (Nat.le_refl _)
set_option maxHeartbeats 4000000 in
set_option maxRecDepth 100000 in
theorem nfaSteps_walk {d : Nat} {t : Tr} {v0 v1 v2 : Value} {w : World} (h : TreeAt w (· < w.heap.size) d t [v0, v1, v2]) (s : ByteArray) (frm : Int) :
    Calls Try.prog 6 #[.agg #[v0, v1, v2], .string s, .int .i64 frm] w fun e w' => e = .returned (.bool true) ∧ Below w.heap.size w w' := by
  obtain ⟨k, A, n, c, A', n', c', rfl, rfl, rfl⟩ := tree_shape h
  have hb0 : Below w.heap.size w (w.alloc (.cells #[.int .i64 k, .slice A n c, .slice A' n' c'] 26)) := (Below.refl _ w).alloc (Nat.le_refl _) _
  have kx := Blk.new w 26 #[.int .i64 k, .slice A n c, .slice A' n' c']
  have HAL := Lib.hid (alive_any (w.alloc (.cells #[.int .i64 k, .slice A n c, .slice A' n' c'] 26)))
  have HB0 := Lib.hid hb0
  have HK0 := Lib.hid kx
  have HT := Lib.hid h
  clear hb0 kx h
  go_enter Try.func6, Try.ntmps6
  go_wp2_with fail
  refine HAL.out.mono ?_
  rintro e w1 ⟨rfl, b1⟩
  have HB1 := Lib.hid (HB0.out.trans (b1.mono HB0.out.size))
  have HK1 := Lib.hid (node_cells HK0.out b1)
  obtain ⟨k0, k1, k2, -, -, -⟩ := blk3 HK1.out
  have HD := Lib.hid (show Calls Try.prog 26 #[.agg #[.int .i64 k, .slice A n c, .slice A' n' c'], .int .i64 100] w1 (DeepPost w1 d t 100) from deep_any d t _ _ _ w1 100 (tree_below HT.out HB1.out) (by decide))
  clear b1 HB0 HK0 HAL
  go_wp2_with fail
  refine HD.out.mono ?_
  rintro e w2 ⟨bd, rfl, hbd, b2⟩
  have HB2 := Lib.hid (HB1.out.trans (b2.mono HB1.out.size))
  have HK2 := Lib.hid (node_cells HK1.out b2)
  clear k0 k1 k2 b2 HD HB1 HK1
  cases bd with
  | true =>
    clear hbd
    go_wp2_with fail
    go_ret
    exact ⟨rfl, HB2.out⟩
  | false =>
    have HH := Lib.hid (hbd rfl)
    clear hbd
    obtain ⟨k0, k1, k2, -, -, -⟩ := blk3 HK2.out
    have HC := Lib.hid (show Calls Try.prog 27 #[.agg #[.int .i64 k, .slice A n c, .slice A' n' c'], .int .i64 401] w2 (RCPost w2 d t 401) from rcount_any d t _ _ _ w2 401 (tree_below HT.out HB2.out) (by decide) (by decide))
    go_wp2_with fail
    refine HC.out.mono ?_
    rintro e w3 ⟨r, rfl, hr1, hr2, b3⟩
    have HB3 := Lib.hid (HB2.out.trans (b3.mono HB2.out.size))
    have HK3 := Lib.hid (node_cells HK2.out b3)
    clear k0 k1 k2 b3 HC HB2 HK2
    by_cases hr : 400 < r
    · have hr' : (400 : Int) < (r : Int) := by omega
      clear hr2
      go_wp2_with fail
      go_ret
      exact ⟨rfl, HB3.out⟩
    have hr' : ¬ (400 : Int) < (r : Int) := by omega
    have HN := Lib.hid (show nodesT d t ≤ 400 by have := hr2 (by omega); omega)
    clear hr2
    by_cases hs : 120 < s.size
    · have hs' : (120 : Int) < (s.size : Int) := by omega
      go_wp2_with fail
      go_ret
      exact ⟨rfl, HB3.out⟩
    have hs' : ¬ (120 : Int) < (s.size : Int) := by omega
    obtain ⟨k0, k1, k2, -, -, -⟩ := blk3 HK3.out
    cases hw : wrongT d t with
    | true =>
      have HC := Lib.hid (compile_bad (tree_below HT.out HB3.out) hw (by have := HN.out; omega) (by have := HH.out; omega))
      clear hw
      go_wp2_with fail
      refine HC.out.mono ?_
      rintro e w4 ⟨rfl, b4⟩
      have HB4 := Lib.hid (HB3.out.trans (b4.mono HB3.out.size))
      clear b4 HC
      go_wp2_with fail
      go_ret
      exact ⟨rfl, HB4.out⟩
    | false =>
      have HG := Lib.hid (good_of d t hw)
      have HC := Lib.hid (comp_any (tree_below HT.out HB3.out) HG.out (by have := HN.out; omega) (by have := HH.out; omega))
      clear hw
      go_wp2_with fail
      refine HC.out.mono ?_
      rintro e w4 ⟨pp, X, rfl, hp, hx, b4, hxp⟩
      have HB4 := Lib.hid (HB3.out.trans (b4.mono HB3.out.size))
      have HP4 := Lib.hid hp
      have HPP := Lib.hid (Nat.le_trans HB3.out.size (hx pp hxp))
      clear b4 HC hp hx hxp k0 k1 k2 HK3 HB3
      have hss : s.size ≤ 100000000 := by omega
      have hn1 : nodesT d t ≤ 1000 := by have := HN.out; omega
      have hwm : IntKind.i64.wrap (2000 * (s.size : Int)) = 2000 * (s.size : Int) := by rw [IntKind.wrap_i64]; omega
      go_wp2_with fail
      refine (lon_any HP4.out HG.out hn1 s hss frm).mono ?_
      rintro e w5 ⟨r5, rfl, -, hl5⟩
      have HB5 := Lib.hid (kept_past HB4.out hl5.2 HPP.out)
      have HP5 := Lib.hid hl5.pat
      obtain ⟨st, hst, hS5⟩ := hl5.steps HN.out
      have HS5 := Lib.hid hS5
      have hst0 : (0 : Int) ≤ (st : Int) := by omega
      have hst1 : ¬ (st : Int) < 0 := by omega
      have hst2 : ¬ 2000 * (s.size : Int) < (st : Int) := by
        have : s.data.toList.length = s.size := rfl
        omega
      clear hl5 hS5 hst HB4 HP4
      go_wp2_with fail
      refine HS5.out.mono ?_
      rintro e w5' ⟨rfl, rfl⟩
      go_wp2_with fail
      refine HS5.out.mono ?_
      rintro e w5' ⟨rfl, rfl⟩
      go_wp2_with fail
      refine (fin_any HP5.out HG.out hn1 s hss).mono ?_
      rintro e w6 ⟨a, b, ok, rfl, hf, hl6⟩
      have HB6 := Lib.hid (kept_past HB5.out hl6.2 HPP.out)
      have HP6 := Lib.hid hl6.pat
      obtain ⟨st6, hst6, hS6⟩ := hl6.steps HN.out
      have HS6 := Lib.hid hS6
      have hst3 : ¬ 2000 * (s.size : Int) < (st6 : Int) := by
        have : s.data.toList.length = s.size := rfl
        omega
      have HF := Lib.hid hf
      clear hl6 hS6 hst6 HB5 HP5 HS5 hst0 hst1 hst2 hf
      go_wp2_with fail
      refine HS6.out.mono ?_
      rintro e w6' ⟨rfl, rfl⟩
      go_wp2_with fail
      clear hst3 HS6 hwm
      go_loopw [12, 13] (fun vi _ wr => ∃ i : Nat, i ≤ s.size + 1 ∧ vi = .int .i64 (i : Nat) ∧ (∀ g, g < i → ∀ k, k ≤ s.data.toList.length → ¬ Mt s.data.toList d t g k) ∧ PAt wr X pp d t ∧ Below w.heap.size w wr) (fun vi _ _ => s.size + 1 - (intOf vi).toNat)
      case atStart => exact ⟨0, by omega, rfl, (fun g hg => absurd hg (by omega)), HP6.out, HB6.out⟩
      case round =>
        clear HP6 HB6
        obtain ⟨i, hi, rfl, hno, hp, hb⟩ := hrel
        have HNO := Lib.hid hno
        have HB := Lib.hid hb
        by_cases hle : i ≤ s.size
        · have hle' : (i : Int) ≤ (s.size : Int) := by omega
          have HL := Lib.hid (lon_any hp HG.out hn1 s hss (i : Nat))
          clear hno hp hb
          go_wp2_with fail
          refine HL.out.mono ?_
          rintro e w7 ⟨r7, rfl, hr7, hl7⟩
          have HB7 := Lib.hid (kept_past HB.out hl7.2 HPP.out)
          have HP7 := Lib.hid hl7.pat
          have hR : (r7 = -1 ∧ ∀ k, k ≤ s.data.toList.length → ¬ Mt s.data.toList d t i k) ∨ ∃ u : Nat, r7 = (u : Nat) ∧ findR s.data.toList d t (i : Nat) (u : Nat) true := by
            rcases hr7 with ⟨ho, -⟩ | ⟨f, ef, hf, hc⟩
            · have : s.data.toList.length = s.size := rfl
              omega
            · obtain rfl : i = f := by clear hc; omega
              rcases hc with hc | ⟨u, e, hu, hm, hl⟩
              · exact .inl hc
              · exact .inr ⟨u, e, .inr ⟨rfl, i, u, rfl, rfl, hf, hu, hm, hl, HNO.out⟩⟩
          clear hr7 hl7 HL
          rcases hR with ⟨rfl, hn⟩ | ⟨u, rfl, hfr⟩
          · have HN7 := Lib.hid hn
            clear hn
            go_wp2_with fail
            go_roundw
            case rel => exact ⟨i + 1, by omega, by go_num, (fun g hg => by
              rcases Nat.lt_or_ge g i with h' | h'
              · exact HNO.out g h'
              · obtain rfl : g = i := by omega
                exact HN7.out), HP7.out, HB7.out⟩
            case measure => simp [intOf]; omega
          · obtain ⟨rfl, rfl, rfl⟩ := findR_one HF.out hfr
            clear hfr
            have hu0 : (0 : Int) ≤ (u : Int) := by omega
            go_wp2_with fail
            go_ret
            exact ⟨rfl, HB7.out⟩
        · have hle' : ¬ (i : Int) ≤ (s.size : Int) := by omega
          obtain ⟨rfl, rfl, rfl⟩ := findR_one HF.out (show findR s.data.toList d t 0 0 false from .inl ⟨rfl, rfl, rfl, fun f k hf hk => hno f (by have : s.data.toList.length = s.size := rfl; omega) k hk⟩)
          clear hno hp hb
          go_wp2_with fail
          go_ret
          exact ⟨rfl, HB.out⟩
end Go.Proofs.Ytepfpmnfecehbaa
