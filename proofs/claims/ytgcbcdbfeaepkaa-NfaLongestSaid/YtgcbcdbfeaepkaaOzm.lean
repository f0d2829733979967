/- NfaLongest answers true. -/
import Derived.Test.YtgcbcdbfeaepkaaOzk
import Derived.Deep.RegionHeld3
namespace Go.Proofs.Ytgcbcdbfeaepkaa
open Go.RowKit Go.Maps

theorem la_lon {s : List UInt8} {d : Nat} {t : Tr} {i : Nat} {r : Int} (hi : i ≤ s.length) (h : LaR (tabT s d t) (s.length + 1) i r) : lonR s d t (i : Nat) r := by
  rcases h with ⟨e, hn⟩ | ⟨u, e, hu, hm, hl⟩
  · exact .inr ⟨i, rfl, hi, .inl ⟨e, fun k hk hm => by
      have := (tab_Mt d t i k hi hk).2 hm
      rw [hn k (by omega)] at this; cases this⟩⟩
  · exact .inr ⟨i, rfl, hi, .inr ⟨u, e, by omega, (tab_Mt d t i u hi (by omega)).1 hm, fun k h1 h2 h3 => by
      have := (tab_Mt d t i k hi h2).2 h3
      rw [hl k h1 (by omega)] at this; cases this⟩⟩
def RlPost (w : World) (d : Nat) (t : Tr) (s : List UInt8) (frm : Int) (e : Ending) (w' : World) : Prop := ∃ r : Int, e = .returned (.int .i64 r) ∧ lonR s d t frm r ∧ Below w.heap.size w w'
set_option maxHeartbeats 1000000 in
set_option maxRecDepth 100000 in
theorem rlongest_any {d : Nat} {t : Tr} {v0 v1 v2 : Value} {w : World} (h : TreeAt w (· < w.heap.size) d t [v0, v1, v2]) (hg : GoodT d t) (s : ByteArray) (hs : s.size ≤ 99000) (frm : Int) : Calls Try.prog 19 #[.agg #[v0, v1, v2], .string s, .int .i64 frm] w (RlPost w d t s.data.toList frm) := by
  obtain ⟨k, A, n, c, A', n', c', rfl, rfl, rfl⟩ := tree_shape h
  have hb0 : Below w.heap.size w (w.alloc (.cells #[.int .i64 k, .slice A n c, .slice A' n' c'] 25)) := (Below.refl _ w).alloc (Nat.le_refl _) _
  have HTB := Lib.hid (table_any d t _ _ _ s _ (tree_below h hb0) hg hs)
  have HB0 := Lib.hid hb0
  have HSL := Lib.hid (show s.data.toList.length = s.size from rfl)
  clear hb0 h hg
  by_cases h1 : frm < 0
  · have HE := Lib.hid (show lonR s.data.toList d t frm (-1) from .inl ⟨.inl h1, rfl⟩)
    go_enter Try.func19, Try.ntmps19
    go_wp2_with fail
    go_ret
    exact ⟨_, rfl, HE.out, HB0.out⟩
  by_cases h2 : (s.size : Int) < frm
  · have HE := Lib.hid (show lonR s.data.toList d t frm (-1) from .inl ⟨.inr (by rw [HSL.out]; exact h2), rfl⟩)
    go_enter Try.func19, Try.ntmps19
    go_wp2_with fail
    go_ret
    exact ⟨_, rfl, HE.out, HB0.out⟩
  obtain ⟨f, rfl⟩ : ∃ f : Nat, frm = (f : Nat) := ⟨frm.toNat, by omega⟩
  have hfs : f ≤ s.size := by omega
  go_enter Try.func19, Try.ntmps19
  go_wp2_with fail
  refine HTB.out.mono ?_
  rintro e w2 ⟨g, rb, cc, rfl, hcc, ht, b2⟩
  have HB2 := Lib.hid (HB0.out.trans (b2.mono HB0.out.size))
  have HL := Lib.hid (show Calls Try.prog 21 #[.slice (some ⟨g, 0, none⟩) (s.size + 1) cc, .int .i64 (f : Nat)] w2 (LaPost w2 (tabT s.data.toList d t) (s.size + 1) f) from last_any ht (by omega) (by omega) hcc)
  clear b2 ht HTB HB0
  go_wp2_with fail
  refine HL.out.mono ?_
  rintro e w7 ⟨r7, rfl, hr7, hb7⟩
  have HB7 := Lib.hid (HB2.out.trans (hb7.mono HB2.out.size))
  have HR := Lib.hid (la_lon (by rw [HSL.out]; exact hfs) hr7)
  clear hr7 hb7
  go_wp2_with fail
  go_ret
  exact ⟨_, rfl, HR.out, HB7.out⟩
set_option maxHeartbeats 4000000 in
set_option maxRecDepth 100000 in
theorem nfaLongest_walk {d : Nat} {t : Tr} {v0 v1 v2 : Value} {w : World} (h : TreeAt w (· < w.heap.size) d t [v0, v1, v2]) (s : ByteArray) (frm : Int) :
    Calls Try.prog 3 #[.agg #[v0, v1, v2], .string s, .int .i64 frm] w fun e w' => e = .returned (.bool true) ∧ Below w.heap.size w w' := by
  obtain ⟨k, A, n, c, A', n', c', rfl, rfl, rfl⟩ := tree_shape h
  have hb0 : Below w.heap.size w (w.alloc (.cells #[.int .i64 k, .slice A n c, .slice A' n' c'] 25)) := (Below.refl _ w).alloc (Nat.le_refl _) _
  have kx := Blk.new w 25 #[.int .i64 k, .slice A n c, .slice A' n' c']
  have HAL := Lib.hid (alive_any (w.alloc (.cells #[.int .i64 k, .slice A n c, .slice A' n' c'] 25)))
  have HB0 := Lib.hid hb0
  have HK0 := Lib.hid kx
  have HT := Lib.hid h
  clear hb0 kx h
  go_enter Try.func3, Try.ntmps3
  go_wp2_with fail
  refine HAL.out.mono ?_
  rintro e w1 ⟨rfl, b1⟩
  have HB1 := Lib.hid (HB0.out.trans (b1.mono HB0.out.size))
  have HK1 := Lib.hid (node_cells HK0.out b1)
  obtain ⟨k0, k1, k2, -, -, -⟩ := blk3 HK1.out
  have HD := Lib.hid (few_any (tree_below HT.out HB1.out) s)
  clear b1 HB0 HK0 HAL
  go_wp2_with fail
  refine HD.out.mono ?_
  rintro e w2 ⟨bd, rfl, hbd, b2⟩
  have HB2 := Lib.hid (HB1.out.trans (b2.mono HB1.out.size))
  have HK2 := Lib.hid (node_cells HK1.out b2)
  clear k0 k1 k2 b2 HD HB1 HK1
  cases bd with
  | false =>
    clear hbd
    go_wp2_with fail
    go_ret
    exact ⟨rfl, HB2.out⟩
  | true =>
    obtain ⟨hh, hn, hs⟩ := hbd rfl
    have HH := Lib.hid hh
    have HN := Lib.hid hn
    clear hbd hh hn
    have hss : s.size ≤ 100000000 := by omega
    obtain ⟨k0, k1, k2, -, -, -⟩ := blk3 HK2.out
    have HC := Lib.hid (rcheck_any (tree_below HT.out HB2.out))
    go_wp2_with fail
    refine HC.out.mono ?_
    rintro e w3 ⟨r, rfl, hr, b3⟩
    have HB3 := Lib.hid (HB2.out.trans (b3.mono HB2.out.size))
    have HK3 := Lib.hid (node_cells HK2.out b3)
    clear k0 k1 k2 b3 HC HB2 HK2
    by_cases hr0 : r = 0
    · have HG := Lib.hid (hr hr0)
      subst hr0
      clear hr
      obtain ⟨k0, k1, k2, -, -, -⟩ := blk3 HK3.out
      have HC := Lib.hid (comp_any (tree_below HT.out HB3.out) HG.out (by have := HN.out; omega) (by have := HH.out; omega))
      go_wp2_with fail
      refine HC.out.mono ?_
      rintro e w4 ⟨pp, X, rfl, hp, hx, b4, hxp⟩
      have HB4 := Lib.hid (HB3.out.trans (b4.mono HB3.out.size))
      have HK4 := Lib.hid (node_cells HK3.out b4)
      have HP4 := Lib.hid hp
      have HPP := Lib.hid (Nat.le_trans HB3.out.size (hx pp hxp))
      have HPX := Lib.hid (show ∀ j, j < w3.heap.size → j ≠ pp from fun j hj e => by have := hx pp hxp; omega)
      clear b4 HC hp hx hxp k0 k1 k2
      have hn1 : nodesT d t ≤ 1000 := by have := HN.out; omega
      obtain ⟨k0, k1, k2, -, -, -⟩ := blk3 HK4.out
      have hgl : w.heap.size < w4.heap.size := HK4.out.lt
      have hgp : w.heap.size ≠ pp := HPX.out _ HK3.out.lt
      have HLO := Lib.hid (fun W (hW : Below w4.heap.size w4 W) => lon_any (HP4.out.below hW) HG.out hn1 s hss frm)
      go_wp2_with fail
      go_region_held3 (fun W => W.cell? ⟨w.heap.size, 0, none⟩ = some (.int .i64 k) ∧ W.cell? ⟨w.heap.size, 1, none⟩ = some (.slice A n c) ∧ W.cell? ⟨w.heap.size, 2, none⟩ = some (.slice A' n' c')) (go_keep)
        (first
          | (go_at_call 18; refine (HLO.out w4.drew ⟨rfl, rfl, rfl, Nat.le_refl _, fun _ _ => rfl⟩).mono ?_; rintro e w5 ⟨r5, rfl, hr5, hl5⟩; have hk5 : Blk w5 w.heap.size 25 #[.int .i64 k, .slice A n c, .slice A' n' c'] := (hl5.2.block w.heap.size hgl hgp).trans HK4.out; obtain ⟨m0, m1, m2, -, -, -⟩ := blk3 hk5; have B5 : Below w.heap.size w w5 := kept_past HB4.out (show Kept (fun j => j = pp) w4 w5 from ⟨hl5.2.os, hl5.2.tape, hl5.2.output, hl5.2.size, hl5.2.block⟩) HPP.out)
          | (go_at_call 19; refine (rlongest_any (w := w5) (tree_below HT.out B5) HG.out s (by omega) frm).mono ?_; rintro e w6 ⟨r6, rfl, hr6, b6⟩; have hk6 : Blk w6 w.heap.size 25 #[.int .i64 k, .slice A n c, .slice A' n' c'] := node_cells hk5 b6; obtain ⟨p0, p1, p2, -, -, -⟩ := blk3 hk6; obtain rfl := (lonR_one hr5 hr6).symm))
      have HB6 := Lib.hid (B5.trans (b6.mono B5.size))
      have HP6 := Lib.hid (hl5.pat.below b6)
      have HTB := Lib.hid (table_any d t _ _ _ s _ (tree_below HT.out HB6.out) HG.out (by omega))
      have hpl := HP6.out.ltL
      clear hr5 hr6 hl5 b6 hk5 B5 HLO HP4 HB4 HK4 HB3 HK3 k0 k1 k2 m0 m1 m2 hgl hgp HPX
      go_wp2_with fail
      refine HTB.out.mono ?_
      rintro e w7 ⟨g, rb, cc, rfl, hcc, ht, b7⟩
      have HT7 := Lib.hid ht
      have HP7 := Lib.hid (HP6.out.below b7)
      have HB7 := Lib.hid (HB6.out.trans (b7.mono HB6.out.size))
      clear ht b7 HTB p0 p1 p2 hk6 HP6 HB6
      go_wp2_with fail
      go_loopw [10] (fun vi wr => ∃ i : Nat, i ≤ s.size + 1 ∧ vi = .int .i64 (i : Nat) ∧ PAt wr X pp d t ∧ Tab wr w6.heap.size g rb (s.size + 1) (tabT s.data.toList d t) ∧ Below w.heap.size w wr) (fun vi _ => s.size + 1 - (intOf vi).toNat)
      case atStart => exact ⟨0, by omega, rfl, HP7.out, HT7.out, HB7.out⟩
      case round =>
        clear HP7 HT7 HB7
        obtain ⟨i, hi, rfl, hp, ht, hb⟩ := hrel
        have HB := Lib.hid hb
        have HTT := Lib.hid ht
        by_cases hle : i ≤ s.size
        · have hle' : (i : Int) ≤ (s.size : Int) := by omega
          have HL := Lib.hid (lon_any hp HG.out hn1 s hss (i : Nat))
          clear hp hb ht
          go_wp2_with fail
          refine HL.out.mono ?_
          rintro e wa ⟨ra, rfl, hra, hla⟩
          have HBa := Lib.hid (kept_past HB.out hla.2 HPP.out)
          have HPa := Lib.hid hla.pat
          have HTa := Lib.hid (HTT.out.keep (w' := wa) (fun b h1 h2 => hla.2.block b h2 (fun e => by omega)) hla.2.size)
          have HLA := Lib.hid (show Calls Try.prog 21 #[.slice (some ⟨g, 0, none⟩) (s.size + 1) cc, .int .i64 (i : Nat)] wa (LaPost wa (tabT s.data.toList d t) (s.size + 1) i) from last_any HTa.out (by omega) (by omega) hcc)
          have HRA := Lib.hid hra
          clear hra hla HL
          go_wp2_with fail
          refine HLA.out.mono ?_
          rintro e wb ⟨rr, rfl, hrb, bb⟩
          obtain rfl := (lonR_one HRA.out (la_lon (by show i ≤ s.size; exact hle) hrb)).symm
          have HBb := Lib.hid (HBa.out.trans (bb.mono HBa.out.size))
          have HPb := Lib.hid (HPa.out.below bb)
          have HTb := Lib.hid (HTa.out.below bb)
          clear hrb bb HLA HRA
          go_wp2_with fail
          go_roundw
          case rel => exact ⟨i + 1, by omega, by go_num, HPb.out, HTb.out, HBb.out⟩
          case measure => simp [intOf]; omega
        · have hle' : ¬ (i : Int) ≤ (s.size : Int) := by omega
          clear hp hb ht
          go_wp2_with fail
          go_ret
          exact ⟨rfl, HB.out⟩
    · have hr1 : (r == 0) = false := by simp; omega
      clear hr
      go_wp2_with fail
      go_ret
      exact ⟨rfl, HB3.out⟩
end Go.Proofs.Ytgcbcdbfeaepkaa
