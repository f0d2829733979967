/- NfaCounts answers true. -/
import Derived.Test.YtepfpmnfecehbaaOv
import Derived.Test.YtepfpmnfecehbaaOw
import Derived.Lib.BufferRead
namespace Go.Proofs.Ytepfpmnfecehbaa
open Go.RowKit Go.Maps

theorem and_lo5 (a b : Int) (n : Nat) (hb : b = (n : Int)) (hn : n < 4611686018427387904) : 0 ≤ bits BinOp.and IntKind.i64 a b ∧ bits BinOp.and IntKind.i64 a b ≤ n := by
  have hbn : (BitVec.ofInt 64 b).toNat = n := by
    rw [hb, BitVec.toNat_ofInt]; omega
  have h : (BitVec.ofInt 64 a &&& BitVec.ofInt 64 b).toNat ≤ n := by
    rw [BitVec.toNat_and]
    exact Nat.le_trans Nat.and_le_right (Nat.le_of_eq hbn)
  show 0 ≤ IntKind.i64.wrap ((BitVec.ofInt 64 a &&& BitVec.ofInt 64 b).toNat : Int) ∧ IntKind.i64.wrap ((BitVec.ofInt 64 a &&& BitVec.ofInt 64 b).toNat : Int) ≤ n
  rw [IntKind.wrap_i64]; omega
theorem PAt.lt {w : World} {X : Nat → Prop} {pp d : Nat} {t : Tr} (h : PAt w X pp d t) : pp < w.heap.size := by obtain ⟨st, hm⟩ := h; exact hm.old hm.at_
theorem step3 {w0 wA wB wC : World} {o : Obj} (hA : Below w0.heap.size w0 wA) (hB : Below (wA.alloc o).heap.size (wA.alloc o) wB) (hC : Below wB.heap.size wB wC) : Below w0.heap.size w0 wC ∧ w0.heap.size ≤ wB.heap.size := by
  have h1 := hA.alloc hA.size o
  have h2 := h1.trans (hB.mono h1.size)
  exact ⟨h2.trans (hC.mono h2.size), h2.size⟩
theorem conv1n (w : World) (c : UInt8) : (convert 52 9 (.slice (some ⟨w.heap.size, 0, none⟩) 1 1)).run Try.prog (w.alloc (.cells #[.int .u8 (c.toNat : Nat)] 5)) = .ok (.string ⟨#[c]⟩) (w.alloc (.cells #[.int .u8 (c.toNat : Nat)] 5)) := by
  refine run_convert_bytes_back _ 52 9 5 ⟨w.heap.size, 0, none⟩ 1 [c] Try.underlying52 Try.underlying5 Try.underlying9 (Lib.bytes_of_row (heap_alloc_new w _) ?_)
  simp [Lib.byteCells]
theorem app1 {s : ByteArray} {i : Nat} {c : UInt8} (h : s.data.toList = List.replicate i c) : (s ++ ⟨#[c]⟩ : ByteArray).data.toList = List.replicate (i + 1) c := by
  rw [ByteArray.data_append, Array.toList_append, h, List.replicate_succ']
set_option maxHeartbeats 4000000 in
set_option maxRecDepth 100000 in
theorem nfaCounts_walk (k a : Int) (c : UInt8) (w : World) : Calls Try.prog 9 #[.int .i64 k, .int .i64 a, .int .u8 (c.toNat : Nat)] w fun e w' => e = .returned (.bool true) ∧ Below w.heap.size w w' := by
  have HAL := Lib.hid (alive_any w)
  obtain ⟨n, hn, hn63⟩ : ∃ n : Nat, bits BinOp.and IntKind.i64 k 63 = (n : Nat) ∧ n ≤ 63 := ⟨(bits BinOp.and IntKind.i64 k 63).toNat, by have := and_lo5 k 63 63 rfl (by decide); omega, by have := and_lo5 k 63 63 rfl (by decide); omega⟩
  obtain ⟨f, hf, hf63⟩ : ∃ f : Nat, bits BinOp.and IntKind.i64 a 63 = (f : Nat) ∧ f ≤ 63 := ⟨(bits BinOp.and IntKind.i64 a 63).toNat, by have := and_lo5 a 63 63 rfl (by decide); omega, by have := and_lo5 a 63 63 rfl (by decide); omega⟩
  have HN := Lib.hid hn
  have HF := Lib.hid hf
  clear hn hf
  go_enter Try.func9, Try.ntmps9
  go_wp2_with fail
  refine HAL.out.mono ?_
  rintro e w1 ⟨rfl, b1⟩
  have HB1 := Lib.hid b1
  clear b1
  go_wp2_with fail
  rw [HN.out, HF.out]
  go_loopw [7, 8] (fun vs vi wr => ∃ (i : Nat) (s : ByteArray), i ≤ n ∧ vi = .int .i64 (i : Nat) ∧ vs = .string s ∧ s.data.toList = List.replicate i c ∧ Below w.heap.size w wr) (fun _ vi _ => n - (intOf vi).toNat)
  case atStart => exact ⟨0, _, Nat.zero_le _, rfl, rfl, rfl, HB1.out⟩
  case round =>
    clear HB1
    obtain ⟨i, s, hi, rfl, rfl, hsl, hb⟩ := hrel
    have HSL := Lib.hid hsl
    have HB := Lib.hid hb
    clear hsl hb
    by_cases hlt : i < n
    · have hlt' : (i : Int) < (n : Int) := by omega
      have hcv := conv1n wr c
      have hno : ¬ 9223372036854775807 < s.size + 1 := by have : s.size = i := (show s.size = s.data.toList.length from rfl).trans (by rw [HSL.out, List.length_replicate]); omega
      go_wp2_with fail
      go_roundw
      case rel => exact ⟨i + 1, _, hlt, by go_num, rfl, app1 HSL.out, HB.out.alloc HB.out.size _⟩
      case measure => simp [intOf]; omega
    · obtain rfl : n = i := by omega
      have hlt' : ¬ (n : Int) < (n : Int) := by omega
      have hss : s.size ≤ 100000000 := by have : s.size = n := (show s.size = s.data.toList.length from rfl).trans (by rw [HSL.out, List.length_replicate]); omega
      go_wp2_with fail
      refine (of_any c c _).mono ?_
      rintro e wA ⟨g, rfl, hA, bA⟩
      go_wp2_with fail
      refine (tree_any 4 _ _ _ _).mono ?_
      rintro e wB ⟨rfl, bB⟩
      have tB := tree_below (one_kid 4 hA) bB
      go_wp2_with fail
      refine (comp_any (d := 2) (t := starT c) tB star_good star_nodes.1 star_nodes.2).mono ?_
      rintro e ws ⟨ps, Xs, rfl, hp, hx, bC, hxp⟩
      obtain ⟨b3, s3⟩ := step3 (w0 := wr) bA bB bC
      have Ps := Lib.hid hp
      have Hs := Lib.hid (Nat.le_trans HB.out.size (Nat.le_trans s3 (hx ps hxp)))
      have Bs := Lib.hid (HB.out.trans (b3.mono HB.out.size))
      clear hA bA bB tB hp hx bC hxp b3 s3
      go_wp2_with fail
      refine (of_any c c _).mono ?_
      rintro e wA ⟨g, rfl, hA, bA⟩
      go_wp2_with fail
      refine (tree_any 5 _ _ _ _).mono ?_
      rintro e wB ⟨rfl, bB⟩
      have tB := tree_below (one_kid 5 hA) bB
      go_wp2_with fail
      refine (comp_any (d := 2) (t := plusT c) tB plus_good plus_nodes.1 plus_nodes.2).mono ?_
      rintro e wl ⟨pl, Xl, rfl, hp, hx, bC, hxp⟩
      obtain ⟨b3, s3⟩ := step3 (w0 := ws) bA bB bC
      have Dsl := Lib.hid (show ∀ j, Xl j → j ≠ ps from fun j hj e => by have := hx j hj; have := Ps.out.lt; omega)
      have Ps' := Lib.hid (Ps.out.below b3)
      clear Ps
      have Ps := Ps'
      clear Ps'
      have Pl := Lib.hid hp
      have Hl := Lib.hid (Nat.le_trans Bs.out.size (Nat.le_trans s3 (hx pl hxp)))
      have Bl := Lib.hid (Bs.out.trans (b3.mono Bs.out.size))
      clear hA bA bB tB hp hx bC hxp b3 s3
      go_wp2_with fail
      refine (of_any c c _).mono ?_
      rintro e wA ⟨g, rfl, hA, bA⟩
      go_wp2_with fail
      refine (tree_any 6 _ _ _ _).mono ?_
      rintro e wB ⟨rfl, bB⟩
      have tB := tree_below (one_kid 6 hA) bB
      go_wp2_with fail
      refine (comp_any (d := 2) (t := maybeT c) tB maybe_good maybe_nodes.1 maybe_nodes.2).mono ?_
      rintro e wm ⟨pm, Xm, rfl, hp, hx, bC, hxp⟩
      obtain ⟨b3, s3⟩ := step3 (w0 := wl) bA bB bC
      have Dsm := Lib.hid (show ∀ j, Xm j → j ≠ ps from fun j hj e => by have := hx j hj; have := Ps.out.lt; omega)
      have Ps' := Lib.hid (Ps.out.below b3)
      clear Ps
      have Ps := Ps'
      clear Ps'
      have Dlm := Lib.hid (show ∀ j, Xm j → j ≠ pl from fun j hj e => by have := hx j hj; have := Pl.out.lt; omega)
      have Pl' := Lib.hid (Pl.out.below b3)
      clear Pl
      have Pl := Pl'
      clear Pl'
      have Pm := Lib.hid hp
      have Hm := Lib.hid (Nat.le_trans Bl.out.size (Nat.le_trans s3 (hx pm hxp)))
      have Bm := Lib.hid (Bl.out.trans (b3.mono Bl.out.size))
      clear hA bA bB tB hp hx bC hxp b3 s3
      go_wp2_with fail
      refine (of_any c c _).mono ?_
      rintro e wA ⟨g, rfl, hA, bA⟩
      go_wp2_with fail
      refine (of_any c c _).mono ?_
      rintro e wA2 ⟨g2, rfl, hA2, bA2⟩
      go_wp2_with fail
      refine (tree_any 2 _ _ _ _).mono ?_
      rintro e wB ⟨rfl, bB⟩
      have tB := tree_below (two_kids 2 (tree_below hA bA2) hA2) bB
      go_wp2_with fail
      refine (comp_any (d := 2) (t := twoT c) tB two_good two_nodes.1 two_nodes.2).mono ?_
      rintro e wt ⟨pt, Xt, rfl, hp, hx, bC, hxp⟩
      obtain ⟨b3, s3⟩ := step3 (w0 := wm) (bA.trans (bA2.mono bA.size)) bB bC
      have Dst := Lib.hid (show ∀ j, Xt j → j ≠ ps from fun j hj e => by have := hx j hj; have := Ps.out.lt; omega)
      have Ps' := Lib.hid (Ps.out.below b3)
      clear Ps
      have Ps := Ps'
      clear Ps'
      have Dlt := Lib.hid (show ∀ j, Xt j → j ≠ pl from fun j hj e => by have := hx j hj; have := Pl.out.lt; omega)
      have Pl' := Lib.hid (Pl.out.below b3)
      clear Pl
      have Pl := Pl'
      clear Pl'
      have Dmt := Lib.hid (show ∀ j, Xt j → j ≠ pm from fun j hj e => by have := hx j hj; have := Pm.out.lt; omega)
      have Pm' := Lib.hid (Pm.out.below b3)
      clear Pm
      have Pm := Pm'
      clear Pm'
      have Pt := Lib.hid hp
      have Ht := Lib.hid (Nat.le_trans Bm.out.size (Nat.le_trans s3 (hx pt hxp)))
      have Bt := Lib.hid (Bm.out.trans (b3.mono Bm.out.size))
      clear hA bA hA2 bA2 bB tB hp hx bC hxp b3 s3
      by_cases hfn : n < f
      · have hfn' : (n : Int) < (f : Int) := by omega
        go_wp2_with fail
        refine (lon_any Ps.out star_good star_nodes.1 s hss (f : Nat)).mono ?_
        rintro e y5 ⟨r5, rfl, hr, hl⟩
        rw [HSL.out] at hr
        obtain rfl := lonR_one hr (lon_past hfn)
        have C5 := Lib.hid (kept_past Bt.out hl.2 Hs.out)
        have Pm5 := Lib.hid (Pm.out.kept hl.2 (fun j hj e => Dsm.out j hj e))
        clear hr hl
        go_wp2_with fail
        refine (lon_any Pm5.out maybe_good maybe_nodes.1 s hss (f : Nat)).mono ?_
        rintro e y6 ⟨r6, rfl, hr, hl⟩
        rw [HSL.out] at hr
        obtain rfl := lonR_one hr (lon_past hfn)
        have C6 := Lib.hid (kept_past C5.out hl.2 Hm.out)
        clear hr hl
        go_wp2_with fail
        go_ret
        exact ⟨rfl, C6.out⟩
      · have hle : f ≤ n := by omega
        have hfn' : ¬ (n : Int) < (f : Int) := by omega
        have hwr : IntKind.i64.wrap ((n : Int) - (f : Int)) = (n : Int) - (f : Int) := by rw [IntKind.wrap_i64]; omega
        have hw2 : IntKind.i64.wrap ((f : Int) + 2) = (f : Int) + 2 := by rw [IntKind.wrap_i64]; omega
        have hw1 : IntKind.i64.wrap ((f : Int) + 1) = (f : Int) + 1 := by rw [IntKind.wrap_i64]; omega
        by_cases h0 : f < n
        · have g0 : (0 : Int) < (n : Int) - (f : Int) := by omega
          by_cases h1 : f + 1 < n
          · have g1 : (1 : Int) < (n : Int) - (f : Int) := by omega
            have hmn : min ((n : Int) - (f : Int)) 1 = 1 := by omega
            go_wp2_with fail
            refine (lon_any Ps.out star_good star_nodes.1 s hss (f : Nat)).mono ?_
            rintro e y5 ⟨r5, rfl, hr, hl⟩
            rw [HSL.out] at hr
            obtain rfl := lonR_one hr (lon_star hle)
            have C5 := Lib.hid (kept_past Bt.out hl.2 Hs.out)
            have Pl5 := Lib.hid (Pl.out.kept hl.2 (fun j hj e => Dsl.out j hj e))
            have Pm5 := Lib.hid (Pm.out.kept hl.2 (fun j hj e => Dsm.out j hj e))
            have Pt5 := Lib.hid (Pt.out.kept hl.2 (fun j hj e => Dst.out j hj e))
            clear hr hl
            go_wp2_with fail
            refine (lon_any Pl5.out plus_good plus_nodes.1 s hss (f : Nat)).mono ?_
            rintro e y6 ⟨r6, rfl, hr, hl⟩
            rw [HSL.out] at hr
            obtain rfl := lonR_one hr ((by have h := lon_plus (n := n) (c := c) hle; rwa [if_pos h0] at h))
            have C6 := Lib.hid (kept_past C5.out hl.2 Hl.out)
            have Pm6 := Lib.hid (Pm5.out.kept hl.2 (fun j hj e => Dlm.out j hj e))
            have Pt6 := Lib.hid (Pt5.out.kept hl.2 (fun j hj e => Dlt.out j hj e))
            clear hr hl
            go_wp2_with fail
            refine (lon_any Pm6.out maybe_good maybe_nodes.1 s hss (f : Nat)).mono ?_
            rintro e y7 ⟨r7, rfl, hr, hl⟩
            rw [HSL.out] at hr
            obtain rfl := lonR_one hr ((by have h := lon_maybe (n := n) (c := c) hle; rwa [if_pos h0] at h))
            have C7 := Lib.hid (kept_past C6.out hl.2 Hm.out)
            have Pt7 := Lib.hid (Pt6.out.kept hl.2 (fun j hj e => Dmt.out j hj e))
            clear hr hl
            go_wp2_with fail
            refine (lon_any Pt7.out two_good two_nodes.1 s hss (f : Nat)).mono ?_
            rintro e y8 ⟨r8, rfl, hr, hl⟩
            rw [HSL.out] at hr
            obtain rfl := lonR_one hr ((by have h := lon_two (n := n) (c := c) hle; rwa [if_pos h1] at h))
            have C8 := Lib.hid (kept_past C7.out hl.2 Ht.out)
            clear hr hl
            go_wp2_with fail
            go_ret
            exact ⟨rfl, C8.out⟩
          · have g1 : ¬ (1 : Int) < (n : Int) - (f : Int) := by omega
            have hmn : min ((n : Int) - (f : Int)) 1 = 1 := by omega
            go_wp2_with fail
            refine (lon_any Ps.out star_good star_nodes.1 s hss (f : Nat)).mono ?_
            rintro e y5 ⟨r5, rfl, hr, hl⟩
            rw [HSL.out] at hr
            obtain rfl := lonR_one hr (lon_star hle)
            have C5 := Lib.hid (kept_past Bt.out hl.2 Hs.out)
            have Pl5 := Lib.hid (Pl.out.kept hl.2 (fun j hj e => Dsl.out j hj e))
            have Pm5 := Lib.hid (Pm.out.kept hl.2 (fun j hj e => Dsm.out j hj e))
            have Pt5 := Lib.hid (Pt.out.kept hl.2 (fun j hj e => Dst.out j hj e))
            clear hr hl
            go_wp2_with fail
            refine (lon_any Pl5.out plus_good plus_nodes.1 s hss (f : Nat)).mono ?_
            rintro e y6 ⟨r6, rfl, hr, hl⟩
            rw [HSL.out] at hr
            obtain rfl := lonR_one hr ((by have h := lon_plus (n := n) (c := c) hle; rwa [if_pos h0] at h))
            have C6 := Lib.hid (kept_past C5.out hl.2 Hl.out)
            have Pm6 := Lib.hid (Pm5.out.kept hl.2 (fun j hj e => Dlm.out j hj e))
            have Pt6 := Lib.hid (Pt5.out.kept hl.2 (fun j hj e => Dlt.out j hj e))
            clear hr hl
            go_wp2_with fail
            refine (lon_any Pm6.out maybe_good maybe_nodes.1 s hss (f : Nat)).mono ?_
            rintro e y7 ⟨r7, rfl, hr, hl⟩
            rw [HSL.out] at hr
            obtain rfl := lonR_one hr ((by have h := lon_maybe (n := n) (c := c) hle; rwa [if_pos h0] at h))
            have C7 := Lib.hid (kept_past C6.out hl.2 Hm.out)
            have Pt7 := Lib.hid (Pt6.out.kept hl.2 (fun j hj e => Dmt.out j hj e))
            clear hr hl
            go_wp2_with fail
            refine (lon_any Pt7.out two_good two_nodes.1 s hss (f : Nat)).mono ?_
            rintro e y8 ⟨r8, rfl, hr, hl⟩
            rw [HSL.out] at hr
            obtain rfl := lonR_one hr ((by have h := lon_two (n := n) (c := c) hle; rwa [if_neg h1] at h))
            have C8 := Lib.hid (kept_past C7.out hl.2 Ht.out)
            clear hr hl
            go_wp2_with fail
            go_ret
            exact ⟨rfl, C8.out⟩
        · obtain rfl : n = f := by omega
          have h1 : ¬ n + 1 < n := by omega
          have hw3 : IntKind.i64.wrap (n : Int) = (n : Int) := by rw [IntKind.wrap_i64]; omega
          clear hwr hfn hfn'
          have hfn' : ¬ (n : Int) < (n : Int) := by omega
          go_wp2_with fail
          refine (lon_any Ps.out star_good star_nodes.1 s hss (n : Nat)).mono ?_
          rintro e y5 ⟨r5, rfl, hr, hl⟩
          rw [HSL.out] at hr
          obtain rfl := lonR_one hr (lon_star hle)
          have C5 := Lib.hid (kept_past Bt.out hl.2 Hs.out)
          have Pl5 := Lib.hid (Pl.out.kept hl.2 (fun j hj e => Dsl.out j hj e))
          have Pm5 := Lib.hid (Pm.out.kept hl.2 (fun j hj e => Dsm.out j hj e))
          have Pt5 := Lib.hid (Pt.out.kept hl.2 (fun j hj e => Dst.out j hj e))
          clear hr hl
          go_wp2_with fail
          refine (lon_any Pl5.out plus_good plus_nodes.1 s hss (n : Nat)).mono ?_
          rintro e y6 ⟨r6, rfl, hr, hl⟩
          rw [HSL.out] at hr
          obtain rfl := lonR_one hr ((by have h := lon_plus (n := n) (c := c) hle; rwa [if_neg h0] at h))
          have C6 := Lib.hid (kept_past C5.out hl.2 Hl.out)
          have Pm6 := Lib.hid (Pm5.out.kept hl.2 (fun j hj e => Dlm.out j hj e))
          have Pt6 := Lib.hid (Pt5.out.kept hl.2 (fun j hj e => Dlt.out j hj e))
          clear hr hl
          go_wp2_with fail
          refine (lon_any Pm6.out maybe_good maybe_nodes.1 s hss (n : Nat)).mono ?_
          rintro e y7 ⟨r7, rfl, hr, hl⟩
          rw [HSL.out] at hr
          obtain rfl := lonR_one hr ((by have h := lon_maybe (n := n) (c := c) hle; rwa [if_neg h0] at h))
          have C7 := Lib.hid (kept_past C6.out hl.2 Hm.out)
          have Pt7 := Lib.hid (Pt6.out.kept hl.2 (fun j hj e => Dmt.out j hj e))
          clear hr hl
          go_wp2_with fail
          refine (lon_any Pt7.out two_good two_nodes.1 s hss (n : Nat)).mono ?_
          rintro e y8 ⟨r8, rfl, hr, hl⟩
          rw [HSL.out] at hr
          obtain rfl := lonR_one hr ((by have h := lon_two (n := n) (c := c) hle; rwa [if_neg h1] at h))
          have C8 := Lib.hid (kept_past C7.out hl.2 Ht.out)
          clear hr hl
          go_wp2_with fail
          go_ret
          exact ⟨rfl, C8.out⟩
end Go.Proofs.Ytepfpmnfecehbaa
