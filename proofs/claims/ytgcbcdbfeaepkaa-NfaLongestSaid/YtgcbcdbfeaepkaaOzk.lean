/- NfaFinds answers true. -/
import Derived.Test.YtgcbcdbfeaepkaaOzj
namespace Go.Proofs.Ytgcbcdbfeaepkaa
open Go.RowKit Go.Maps

def RfPost (w : World) (d : Nat) (t : Tr) (s : List UInt8) (e : Ending) (w' : World) : Prop := ∃ (a b : Int) (ok : Bool), e = .returned (.tuple #[.int .i64 a, .int .i64 b, .bool ok]) ∧ findR s d t a b ok ∧ Below w.heap.size w w'
set_option maxHeartbeats 1000000 in
set_option maxRecDepth 100000 in
theorem rfind_any {d : Nat} {t : Tr} {v0 v1 v2 : Value} {w : World} (h : TreeAt w (· < w.heap.size) d t [v0, v1, v2]) (hg : GoodT d t) (s : ByteArray) (hs : s.size ≤ 99000) : Calls Try.prog 23 #[.agg #[v0, v1, v2], .string s] w (RfPost w d t s.data.toList) := by
  obtain ⟨k, A, n, c, A', n', c', rfl, rfl, rfl⟩ := tree_shape h
  have hb0 : Below w.heap.size w (w.alloc (.cells #[.int .i64 k, .slice A n c, .slice A' n' c'] 25)) := (Below.refl _ w).alloc (Nat.le_refl _) _
  have HTB := Lib.hid (table_any d t _ _ _ s _ (tree_below h hb0) hg hs)
  have HB0 := Lib.hid hb0
  have HSL := Lib.hid (show s.data.toList.length = s.size from rfl)
  clear hb0 h hg
  go_enter Try.func23, Try.ntmps23
  go_wp2_with fail
  refine HTB.out.mono ?_
  rintro e w2 ⟨g, rb, cc, rfl, hcc, ht, b2⟩
  have HB2 := Lib.hid (HB0.out.trans (b2.mono HB0.out.size))
  have HTA := Lib.hid ht
  clear b2 ht HTB HB0
  go_wp2_with fail
  go_loopw [8, 9] (fun vi _ wr => ∃ i : Nat, i ≤ s.size + 1 ∧ vi = .int .i64 (i : Nat) ∧ (∀ g, g < i → ∀ k, k ≤ s.data.toList.length → ¬ Mt s.data.toList d t g k) ∧ Below w2.heap.size w2 wr) (fun vi _ _ => s.size + 1 - (intOf vi).toNat)
  case atStart => exact ⟨0, by omega, rfl, (fun g hg => absurd hg (by omega)), Below.refl _ _⟩
  case round =>
    obtain ⟨i, hi, rfl, hno, hb⟩ := hrel
    have HNO := Lib.hid hno
    have HB := Lib.hid hb
    by_cases hle : i ≤ s.size
    · have hle' : (i : Int) ≤ (s.size : Int) := by omega
      have HL := Lib.hid (show Calls Try.prog 21 #[.slice (some ⟨g, 0, none⟩) (s.size + 1) cc, .int .i64 (i : Nat)] wr (LaPost wr (tabT s.data.toList d t) (s.size + 1) i) from last_any (HTA.out.below hb) (by omega) (by omega) hcc)
      clear hno hb
      go_wp2_with fail
      refine HL.out.mono ?_
      rintro e w7 ⟨r7, rfl, hr7, hb7⟩
      have HB7 := Lib.hid (HB.out.trans (hb7.mono HB.out.size))
      have hR : (r7 = -1 ∧ ∀ k, k ≤ s.data.toList.length → ¬ Mt s.data.toList d t i k) ∨ ∃ u : Nat, r7 = (u : Nat) ∧ findR s.data.toList d t (i : Nat) (u : Nat) true := by
        have hsl := HSL.out
        rcases hr7 with ⟨e, hn⟩ | ⟨u, e, hu, hm, hl⟩
        · exact .inl ⟨e, fun k hk hm => by
            have := (tab_Mt d t i k (by omega) hk).2 hm
            rw [hn k (by omega)] at this; cases this⟩
        · exact .inr ⟨u, e, .inr ⟨rfl, i, u, rfl, rfl, by omega, by omega, (tab_Mt d t i u (by omega) (by omega)).1 hm, (fun k h1 h2 h3 => by
            have := (tab_Mt d t i k (by omega) h2).2 h3
            rw [hl k h1 (by omega)] at this; cases this), HNO.out⟩⟩
      clear hr7 hb7 HL
      rcases hR with ⟨rfl, hn⟩ | ⟨u, rfl, hfr⟩
      · have HN7 := Lib.hid hn
        clear hn
        go_wp2_with fail
        go_roundw
        case rel => exact ⟨i + 1, by omega, by go_num, (fun g hg => by
          rcases Nat.lt_or_ge g i with h' | h'
          · exact HNO.out g h'
          · obtain rfl : g = i := by omega
            exact HN7.out), HB7.out⟩
        case measure => simp [intOf]; omega
      · have HFR := Lib.hid hfr
        have hu0 : (0 : Int) ≤ (u : Int) := by omega
        clear hfr
        go_wp2_with fail
        go_ret3
        exact ⟨_, _, _, rfl, HFR.out, HB2.out.trans (HB7.out.mono HB2.out.size)⟩
    · have hle' : ¬ (i : Int) ≤ (s.size : Int) := by omega
      have HFR := Lib.hid (show findR s.data.toList d t 0 0 false from .inl ⟨rfl, rfl, rfl, fun f k hf hk => hno f (by have := HSL.out; omega) k hk⟩)
      clear hno hb
      go_wp2_with fail
      go_ret3
      exact ⟨_, _, _, rfl, HFR.out, HB2.out.trans (HB.out.mono HB2.out.size)⟩
set_option maxHeartbeats 4000000 in
set_option maxRecDepth 100000 in
theorem nfaFinds_walk {d : Nat} {t : Tr} {v0 v1 v2 : Value} {w : World} (h : TreeAt w (· < w.heap.size) d t [v0, v1, v2]) (s : ByteArray) :
    Calls Try.prog 4 #[.agg #[v0, v1, v2], .string s] w fun e w' => e = .returned (.bool true) ∧ Below w.heap.size w w' := by
  obtain ⟨k, A, n, c, A', n', c', rfl, rfl, rfl⟩ := tree_shape h
  have hb0 : Below w.heap.size w (w.alloc (.cells #[.int .i64 k, .slice A n c, .slice A' n' c'] 25)) := (Below.refl _ w).alloc (Nat.le_refl _) _
  have kx := Blk.new w 25 #[.int .i64 k, .slice A n c, .slice A' n' c']
  have HAL := Lib.hid (alive_any (w.alloc (.cells #[.int .i64 k, .slice A n c, .slice A' n' c'] 25)))
  have HB0 := Lib.hid hb0
  have HK0 := Lib.hid kx
  have HT := Lib.hid h
  clear hb0 kx h
  go_enter Try.func4, Try.ntmps4
  go_wp2_with fail
  refine HAL.out.mono ?_
  rintro e w1 ⟨rfl, b1⟩
  have HB1 := Lib.hid (HB0.out.trans (b1.mono HB0.out.size))
  have HK1 := Lib.hid (node_cells HK0.out b1)
  obtain ⟨k0, k1, k2, -, -, -⟩ := blk3 HK1.out
  have HD := Lib.hid (few_any (tree_below HT.out HB1.out) s)
  clear b1 HB0 HK0 HAL
  go_wp2_with fail
  refine HD.out.mono ?_
  rintro e w2 ⟨bd, rfl, hbd, b2⟩
  have HB2 := Lib.hid (HB1.out.trans (b2.mono HB1.out.size))
  have HK2 := Lib.hid (node_cells HK1.out b2)
  clear k0 k1 k2 b2 HD HB1 HK1
  cases bd with
  | false =>
    clear hbd
    go_wp2_with fail
    go_ret
    exact ⟨rfl, HB2.out⟩
  | true =>
    obtain ⟨hh, hn, hs⟩ := hbd rfl
    have HH := Lib.hid hh
    have HN := Lib.hid hn
    clear hbd hh hn
    have hss : s.size ≤ 100000000 := by omega
    obtain ⟨k0, k1, k2, -, -, -⟩ := blk3 HK2.out
    have HC := Lib.hid (rcheck_any (tree_below HT.out HB2.out))
    go_wp2_with fail
    refine HC.out.mono ?_
    rintro e w3 ⟨r, rfl, hr, b3⟩
    have HB3 := Lib.hid (HB2.out.trans (b3.mono HB2.out.size))
    have HK3 := Lib.hid (node_cells HK2.out b3)
    clear k0 k1 k2 b3 HC HB2 HK2
    by_cases hr0 : r = 0
    · have HG := Lib.hid (hr hr0)
      subst hr0
      clear hr
      obtain ⟨k0, k1, k2, -, -, -⟩ := blk3 HK3.out
      have HC := Lib.hid (comp_any (tree_below HT.out HB3.out) HG.out (by have := HN.out; omega) (by have := HH.out; omega))
      go_wp2_with fail
      refine HC.out.mono ?_
      rintro e w4 ⟨pp, X, rfl, hp, hx, b4, hxp⟩
      have HB4 := Lib.hid (HB3.out.trans (b4.mono HB3.out.size))
      have HK4 := Lib.hid (node_cells HK3.out b4)
      have HP4 := Lib.hid hp
      have HPP := Lib.hid (Nat.le_trans HB3.out.size (hx pp hxp))
      have HPX := Lib.hid (show ∀ j, j < w3.heap.size → j ≠ pp from fun j hj e => by have := hx pp hxp; omega)
      clear b4 HC hp hx hxp k0 k1 k2
      have hn1 : nodesT d t ≤ 1000 := by have := HN.out; omega
      go_wp2_with fail
      refine (fin_any HP4.out HG.out hn1 s hss).mono ?_
      rintro e w5 ⟨a, b, ok, rfl, hf, hl5⟩
      have HB5 := Lib.hid (kept_past HB4.out hl5.2 HPP.out)
      have HK5 := Lib.hid (show Blk w5 w.heap.size 25 #[.int .i64 k, .slice A n c, .slice A' n' c'] from (hl5.2.block _ HK4.out.lt (HPX.out _ HK3.out.lt)).trans HK4.out)
      have HF := Lib.hid hf
      clear hf hl5 HB4 HK4 HK3 HB3
      obtain ⟨k0, k1, k2, -, -, -⟩ := blk3 HK5.out
      have HR := Lib.hid (rfind_any (tree_below HT.out HB5.out) HG.out s (by omega))
      go_wp2_with fail
      refine HR.out.mono ?_
      rintro e w6 ⟨a', b', ok', rfl, hf', b6⟩
      obtain ⟨e1, e2, e3⟩ := findR_one HF.out hf'
      have HB6 := Lib.hid (HB5.out.trans (b6.mono HB5.out.size))
      subst e1 e2 e3
      clear hf' b6 HR k0 k1 k2 HF
      cases ok
      · go_wp2_with fail
        go_ret
        exact ⟨rfl, HB6.out⟩
      · go_wp2_with fail
        go_ret
        exact ⟨rfl, HB6.out⟩
    · have hr1 : (r == 0) = false := by simp; omega
      clear hr
      go_wp2_with fail
      go_ret
      exact ⟨rfl, HB3.out⟩
end Go.Proofs.Ytgcbcdbfeaepkaa
