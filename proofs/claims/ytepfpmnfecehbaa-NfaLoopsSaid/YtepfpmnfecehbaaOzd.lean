/- NfaLoops answers true. -/
import Derived.Test.YtepfpmnfecehbaaOzc
namespace Go.Proofs.Ytepfpmnfecehbaa
open Go.RowKit Go.Maps

set_option maxHeartbeats 4000000 in
set_option maxRecDepth 100000 in
theorem nfaLoops_walk {d : Nat} {t : Tr} {v0 v1 v2 : Value} {w : World} (h : TreeAt w (· < w.heap.size) d t [v0, v1, v2]) (s : ByteArray) (at_ : Int) :
    Calls Try.prog 8 #[.agg #[v0, v1, v2], .string s, .int .i64 at_] w fun e w' => e = .returned (.bool true) ∧ Below w.heap.size w w' := by
  obtain ⟨k, A, n, c, A', n', c', rfl, rfl, rfl⟩ := tree_shape h
  have hb0 : Below w.heap.size w (w.alloc (.cells #[.int .i64 k, .slice A n c, .slice A' n' c'] 26)) := (Below.refl _ w).alloc (Nat.le_refl _) _
  have kx := Blk.new w 26 #[.int .i64 k, .slice A n c, .slice A' n' c']
  have HAL := Lib.hid (alive_any (w.alloc (.cells #[.int .i64 k, .slice A n c, .slice A' n' c'] 26)))
  have HB0 := Lib.hid hb0
  have HK0 := Lib.hid kx
  have HT := Lib.hid h
  clear hb0 kx h
  go_enter Try.func8, Try.ntmps8
  go_wp2_with fail
  refine HAL.out.mono ?_
  rintro e w1 ⟨rfl, b1⟩
  have HB1 := Lib.hid (HB0.out.trans (b1.mono HB0.out.size))
  have HK1 := Lib.hid (node_cells HK0.out b1)
  obtain ⟨k0, k1, k2, -, -, -⟩ := blk3 HK1.out
  have HD := Lib.hid (few_any (tree_below HT.out HB1.out) s)
  clear b1 HB0 HK0 HAL
  go_wp2_with fail
  refine HD.out.mono ?_
  rintro e w2 ⟨bd, rfl, hbd, b2⟩
  have HB2 := Lib.hid (HB1.out.trans (b2.mono HB1.out.size))
  have HK2 := Lib.hid (node_cells HK1.out b2)
  clear k0 k1 k2 b2 HD HB1 HK1
  cases bd with
  | false =>
    clear hbd
    go_wp2_with fail
    go_ret
    exact ⟨rfl, HB2.out⟩
  | true =>
    obtain ⟨hh, hn, hs⟩ := hbd rfl
    have HH := Lib.hid hh
    have HN := Lib.hid hn
    clear hbd hh hn
    by_cases h1 : at_ < 0
    · go_wp2_with fail
      go_ret
      exact ⟨rfl, HB2.out⟩
    by_cases h2 : (s.size : Int) < at_
    · go_wp2_with fail
      go_ret
      exact ⟨rfl, HB2.out⟩
    obtain ⟨f, rfl⟩ : ∃ f : Nat, at_ = (f : Nat) := ⟨at_.toNat, by omega⟩
    have hfs : f ≤ s.size := by omega
    have h1' : ¬ (f : Int) < 0 := by omega
    have h2' : ¬ (s.size : Int) < (f : Int) := by omega
    have HSL := Lib.hid (show s.data.toList.length = s.size from rfl)
    have HF := Lib.hid (show f ≤ s.data.toList.length from hfs)
    clear h1 h2
    obtain ⟨k0, k1, k2, -, -, -⟩ := blk3 HK2.out
    have hss : s.size ≤ 100000000 := by omega
    cases hw : wrongT d t with
    | true =>
      have HW := Lib.hid hw
      clear hw
      have HC := Lib.hid (compile_bad (tree_below HT.out HB2.out) HW.out (by have := HN.out; omega) (by have := HH.out; omega))
      go_wp2_with fail
      refine HC.out.mono ?_
      rintro e w3 ⟨rfl, b3⟩
      have HB3 := Lib.hid (HB2.out.trans (b3.mono HB2.out.size))
      have HK3 := Lib.hid (node_cells HK2.out b3)
      clear b3 HC k0 k1 k2 HB2 HK2
      obtain ⟨k0, k1, k2, -, -, -⟩ := blk3 HK3.out
      go_wp2_with fail
      refine (tree_any 4 _ _ _ _).mono ?_
      rintro e wB ⟨rfl, bB⟩
      have tB := tree_below (one_kid 4 (tree_below HT.out HB3.out)) bB
      have HC := Lib.hid (compile_bad tB (wrong_one HW.out) (by rw [nodes_one]; have := HN.out; omega) (by rw [high_one]; have := HH.out; omega))
      clear tB
      go_wp2_with fail
      refine HC.out.mono ?_
      rintro e w4 ⟨rfl, bC⟩
      obtain ⟨b3, -⟩ := step3L (w0 := w3) (Below.refl _ _) bB bC
      have HB4 := Lib.hid (HB3.out.trans (b3.mono HB3.out.size))
      have HK4 := Lib.hid (node_cells HK3.out b3)
      clear bB bC b3 HC k0 k1 k2 HB3 HK3
      obtain ⟨k0, k1, k2, -, -, -⟩ := blk3 HK4.out
      go_wp2_with fail
      refine (tree_any 4 _ _ _ _).mono ?_
      rintro e wA ⟨rfl, bA⟩
      have tA := tree_below (one_kid 4 (tree_below HT.out HB4.out)) bA
      go_wp2_with fail
      refine (tree_any 4 _ _ _ _).mono ?_
      rintro e wB ⟨rfl, bB⟩
      have tB := tree_below (one_kid 4 tA) bB
      have HC := Lib.hid (compile_bad tB (wrong_one (wrong_one HW.out)) (by rw [nodes_one, nodes_one]; have := HN.out; omega) (by rw [high_one, high_one]; have := HH.out; omega))
      clear tA tB
      go_wp2_with fail
      refine HC.out.mono ?_
      rintro e w5 ⟨rfl, bC⟩
      have bA' := ((Below.refl _ w4).alloc (Nat.le_refl _) _).trans (bA.mono (by simp))
      obtain ⟨b3, -⟩ := step3L (w0 := w4) bA' bB bC
      have HB5 := Lib.hid (HB4.out.trans (b3.mono HB4.out.size))
      have HK5 := Lib.hid (node_cells HK4.out b3)
      clear bA bA' bB bC b3 HC k0 k1 k2 HB4 HK4
      obtain ⟨k0, k1, k2, -, -, -⟩ := blk3 HK5.out
      go_wp2_with fail
      refine (tree_any 5 _ _ _ _).mono ?_
      rintro e wB ⟨rfl, bB⟩
      have tB := tree_below (one_kid 5 (tree_below HT.out HB5.out)) bB
      have HC := Lib.hid (compile_bad tB (wrong_one HW.out) (by rw [nodes_one]; have := HN.out; omega) (by rw [high_one]; have := HH.out; omega))
      clear tB
      go_wp2_with fail
      refine HC.out.mono ?_
      rintro e w6 ⟨rfl, bC⟩
      obtain ⟨b3, -⟩ := step3L (w0 := w5) (Below.refl _ _) bB bC
      have HB6 := Lib.hid (HB5.out.trans (b3.mono HB5.out.size))
      have HK6 := Lib.hid (node_cells HK5.out b3)
      clear bB bC b3 HC k0 k1 k2 HB5 HK5
      go_wp2_with fail
      go_ret
      exact ⟨rfl, HB6.out⟩
    | false =>
      have HG := Lib.hid (good_of d t hw)
      clear hw
      have HC := Lib.hid (comp_any (tree_below HT.out HB2.out) HG.out (by have := HN.out; omega) (by have := HH.out; omega))
      go_wp2_with fail
      refine HC.out.mono ?_
      rintro e w3 ⟨pn, Xn, rfl, hp, hx, b3, hxp⟩
      have HB3 := Lib.hid (HB2.out.trans (b3.mono HB2.out.size))
      have HK3 := Lib.hid (node_cells HK2.out b3)
      have Pn := Lib.hid hp
      have An := Lib.hid (Nat.le_trans HB2.out.size (hx pn hxp))
      have Qn := Lib.hid hxp
      clear b3 HC hp hx hxp k0 k1 k2 HB2 HK2
      obtain ⟨k0, k1, k2, -, -, -⟩ := blk3 HK3.out
      go_wp2_with fail
      refine (tree_any 4 _ _ _ _).mono ?_
      rintro e wB ⟨rfl, bB⟩
      have tB := tree_below (one_kid 4 (tree_below HT.out HB3.out)) bB
      have HC := Lib.hid (comp_any tB (good_one HG.out (by decide) (by decide)) (by rw [nodes_one]; have := HN.out; omega) (by rw [high_one]; have := HH.out; omega))
      clear tB
      go_wp2_with fail
      refine HC.out.mono ?_
      rintro e w4 ⟨ps, Xs, rfl, hp, hx, bC, hxp⟩
      obtain ⟨b3, s3⟩ := step3L (w0 := w3) (Below.refl _ _) bB bC
      have Dns := Lib.hid (show ∀ j, Xs j → j ≠ pn from fun j hj e => by have := hx j hj; have := Pn.out.ltL; omega)
      have Ens := Lib.hid (show ∀ j, Xn j → j ≠ ps from fun j hj e => by have := Pn.out.old hj; have := hx ps hxp; omega)
      have Pn' := Lib.hid (Pn.out.below b3)
      clear Pn
      have Pn := Pn'
      clear Pn'
      have Ps := Lib.hid hp
      have As := Lib.hid (Nat.le_trans HB3.out.size (Nat.le_trans s3 (hx ps hxp)))
      have HB4 := Lib.hid (HB3.out.trans (b3.mono HB3.out.size))
      have HK4 := Lib.hid (node_cells HK3.out b3)
      clear bB bC b3 s3 HC hp hx hxp k0 k1 k2 HB3 HK3
      obtain ⟨k0, k1, k2, -, -, -⟩ := blk3 HK4.out
      go_wp2_with fail
      refine (tree_any 4 _ _ _ _).mono ?_
      rintro e wA ⟨rfl, bA⟩
      have tA := tree_below (one_kid 4 (tree_below HT.out HB4.out)) bA
      go_wp2_with fail
      refine (tree_any 4 _ _ _ _).mono ?_
      rintro e wB ⟨rfl, bB⟩
      have tB := tree_below (one_kid 4 tA) bB
      have HC := Lib.hid (comp_any tB (good_one (good_one HG.out (by decide) (by decide)) (by decide) (by decide)) (by rw [nodes_one, nodes_one]; have := HN.out; omega) (by rw [high_one, high_one]; have := HH.out; omega))
      clear tA tB
      go_wp2_with fail
      refine HC.out.mono ?_
      rintro e w5 ⟨pt, Xt, rfl, hp, hx, bC, hxp⟩
      have bA' := ((Below.refl _ w4).alloc (Nat.le_refl _) _).trans (bA.mono (by simp))
      obtain ⟨b3, s3⟩ := step3L (w0 := w4) bA' bB bC
      have Dnt := Lib.hid (show ∀ j, Xt j → j ≠ pn from fun j hj e => by have := hx j hj; have := Pn.out.ltL; omega)
      have Ent := Lib.hid (show ∀ j, Xn j → j ≠ pt from fun j hj e => by have := Pn.out.old hj; have := hx pt hxp; omega)
      have Pn' := Lib.hid (Pn.out.below b3)
      clear Pn
      have Pn := Pn'
      clear Pn'
      have Dst := Lib.hid (show ∀ j, Xt j → j ≠ ps from fun j hj e => by have := hx j hj; have := Ps.out.ltL; omega)
      have Est := Lib.hid (show ∀ j, Xs j → j ≠ pt from fun j hj e => by have := Ps.out.old hj; have := hx pt hxp; omega)
      have Ps' := Lib.hid (Ps.out.below b3)
      clear Ps
      have Ps := Ps'
      clear Ps'
      have Pt := Lib.hid hp
      have At := Lib.hid (Nat.le_trans HB4.out.size (Nat.le_trans s3 (hx pt hxp)))
      have HB5 := Lib.hid (HB4.out.trans (b3.mono HB4.out.size))
      have HK5 := Lib.hid (node_cells HK4.out b3)
      clear bA bA' bB bC b3 s3 HC hp hx hxp k0 k1 k2 HB4 HK4
      obtain ⟨k0, k1, k2, -, -, -⟩ := blk3 HK5.out
      go_wp2_with fail
      refine (tree_any 5 _ _ _ _).mono ?_
      rintro e wB ⟨rfl, bB⟩
      have tB := tree_below (one_kid 5 (tree_below HT.out HB5.out)) bB
      have HC := Lib.hid (comp_any tB (good_one HG.out (by decide) (by decide)) (by rw [nodes_one]; have := HN.out; omega) (by rw [high_one]; have := HH.out; omega))
      clear tB
      go_wp2_with fail
      refine HC.out.mono ?_
      rintro e w6 ⟨pp, Xp, rfl, hp, hx, bC, hxp⟩
      obtain ⟨b3, s3⟩ := step3L (w0 := w5) (Below.refl _ _) bB bC
      have Dnp := Lib.hid (show ∀ j, Xp j → j ≠ pn from fun j hj e => by have := hx j hj; have := Pn.out.ltL; omega)
      have Enp := Lib.hid (show ∀ j, Xn j → j ≠ pp from fun j hj e => by have := Pn.out.old hj; have := hx pp hxp; omega)
      have Pn' := Lib.hid (Pn.out.below b3)
      clear Pn
      have Pn := Pn'
      clear Pn'
      have Dsp := Lib.hid (show ∀ j, Xp j → j ≠ ps from fun j hj e => by have := hx j hj; have := Ps.out.ltL; omega)
      have Esp := Lib.hid (show ∀ j, Xs j → j ≠ pp from fun j hj e => by have := Ps.out.old hj; have := hx pp hxp; omega)
      have Ps' := Lib.hid (Ps.out.below b3)
      clear Ps
      have Ps := Ps'
      clear Ps'
      have Dtp := Lib.hid (show ∀ j, Xp j → j ≠ pt from fun j hj e => by have := hx j hj; have := Pt.out.ltL; omega)
      have Etp := Lib.hid (show ∀ j, Xt j → j ≠ pp from fun j hj e => by have := Pt.out.old hj; have := hx pp hxp; omega)
      have Pt' := Lib.hid (Pt.out.below b3)
      clear Pt
      have Pt := Pt'
      clear Pt'
      have Pp := Lib.hid hp
      have Ap := Lib.hid (Nat.le_trans HB5.out.size (Nat.le_trans s3 (hx pp hxp)))
      have HB6 := Lib.hid (HB5.out.trans (b3.mono HB5.out.size))
      have HK6 := Lib.hid (node_cells HK5.out b3)
      clear bB bC b3 s3 HC hp hx hxp k0 k1 k2 HB5 HK5
      go_wp2_with fail
      refine (lon_any Ps.out (good_one HG.out (by decide) (by decide)) (by rw [nodes_one]; have := HN.out; omega) s hss (f : Nat)).mono ?_
      rintro e w7 ⟨r, rfl, hr, hl⟩
      have HB7 := Lib.hid (kept_past HB6.out hl.2 As.out)
      have Pn' := Lib.hid (Pn.out.kept hl.2 (fun j hj e => Ens.out j hj e))
      have Ps' := Lib.hid hl.pat
      have Pt' := Lib.hid (Pt.out.kept hl.2 (fun j hj e => Dst.out j hj e))
      have Pp' := Lib.hid (Pp.out.kept hl.2 (fun j hj e => Dsp.out j hj e))
      clear Pn
      have Pn := Pn'
      clear Pn'
      clear Ps
      have Ps := Ps'
      clear Ps'
      clear Pt
      have Pt := Pt'
      clear Pt'
      clear Pp
      have Pp := Pp'
      clear Pp'
      clear hl HB6
      obtain ⟨u, rfl, hfu, hu, hm, hlast⟩ := star_val HF.out hr
      have HM := Lib.hid hm
      have HL := Lib.hid hlast
      have HU := Lib.hid hu
      have hu1 : ¬ (u : Int) < (f : Int) := by omega
      clear hr hm hlast hu
      go_wp2_with fail
      refine (lon_any Pt.out (good_one (good_one HG.out (by decide) (by decide)) (by decide) (by decide)) (by rw [nodes_one, nodes_one]; have := HN.out; omega) s hss (f : Nat)).mono ?_
      rintro e w8 ⟨r, rfl, hr, hl⟩
      have HB8 := Lib.hid (kept_past HB7.out hl.2 At.out)
      have Pn' := Lib.hid (Pn.out.kept hl.2 (fun j hj e => Ent.out j hj e))
      have Ps' := Lib.hid (Ps.out.kept hl.2 (fun j hj e => Est.out j hj e))
      have Pt' := Lib.hid hl.pat
      have Pp' := Lib.hid (Pp.out.kept hl.2 (fun j hj e => Dtp.out j hj e))
      clear Pn
      have Pn := Pn'
      clear Pn'
      clear Ps
      have Ps := Ps'
      clear Ps'
      clear Pt
      have Pt := Pt'
      clear Pt'
      clear Pp
      have Pp := Pp'
      clear Pp'
      clear hl HB7
      obtain rfl := lonR_one hr (twice_lon HF.out HU.out HM.out HL.out)
      clear hr
      go_wp2_with fail
      refine (lon_any Pn.out HG.out (by have := HN.out; omega) s hss (f : Nat)).mono ?_
      rintro e w9 ⟨r, rfl, hr, hl⟩
      have HB9 := Lib.hid (kept_past HB8.out hl.2 An.out)
      have Pn' := Lib.hid hl.pat
      have Ps' := Lib.hid (Ps.out.kept hl.2 (fun j hj e => Dns.out j hj e))
      have Pt' := Lib.hid (Pt.out.kept hl.2 (fun j hj e => Dnt.out j hj e))
      have Pp' := Lib.hid (Pp.out.kept hl.2 (fun j hj e => Dnp.out j hj e))
      clear Pn
      have Pn := Pn'
      clear Pn'
      clear Ps
      have Ps := Ps'
      clear Ps'
      clear Pt
      have Pt := Pt'
      clear Pt'
      clear Pp
      have Pp := Pp'
      clear Pp'
      clear hl HB8
      have hr1 := one_le HF.out ⟨0, rfl⟩ HL.out hr
      have hr1' : ¬ (u : Int) < r := by omega
      clear hr hr1
      go_wp2_with fail
      refine (lon_any Pn.out HG.out (by have := HN.out; omega) s hss (u : Nat)).mono ?_
      rintro e w10 ⟨r9, rfl, hr, hl⟩
      have HB10 := Lib.hid (kept_past HB9.out hl.2 An.out)
      have Pn' := Lib.hid hl.pat
      have Ps' := Lib.hid (Ps.out.kept hl.2 (fun j hj e => Dns.out j hj e))
      have Pt' := Lib.hid (Pt.out.kept hl.2 (fun j hj e => Dnt.out j hj e))
      have Pp' := Lib.hid (Pp.out.kept hl.2 (fun j hj e => Dnp.out j hj e))
      clear Pn
      have Pn := Pn'
      clear Pn'
      clear Ps
      have Ps := Ps'
      clear Ps'
      clear Pt
      have Pt := Pt'
      clear Pt'
      clear Pp
      have Pp := Pp'
      clear Pp'
      clear hl HB9
      have hr2 := one_le HF.out HM.out HL.out hr
      have hr2' : ¬ (u : Int) < r9 := by omega
      clear hr hr2
      go_wp2_with fail
      refine (lon_any Pn.out HG.out (by have := HN.out; omega) s hss (f : Nat)).mono ?_
      rintro e w11 ⟨r10, rfl, hr, hl⟩
      have HB11 := Lib.hid (kept_past HB10.out hl.2 An.out)
      have Pn' := Lib.hid hl.pat
      have Ps' := Lib.hid (Ps.out.kept hl.2 (fun j hj e => Dns.out j hj e))
      have Pt' := Lib.hid (Pt.out.kept hl.2 (fun j hj e => Dnt.out j hj e))
      have Pp' := Lib.hid (Pp.out.kept hl.2 (fun j hj e => Dnp.out j hj e))
      clear Pn
      have Pn := Pn'
      clear Pn'
      clear Ps
      have Ps := Ps'
      clear Ps'
      clear Pt
      have Pt := Pt'
      clear Pt'
      clear Pp
      have Pp := Pp'
      clear Pp'
      clear hl HB10
      by_cases hneg : r10 < 0
      · obtain ⟨ef, hp1⟩ := one_none HF.out hr hneg HM.out
        have ef' : ((u : Int) == (f : Int)) = true := by rw [ef]; simp
        have HP1 := Lib.hid hp1
        clear hr hp1 ef
        go_wp2_with fail
        refine (lon_any Pp.out (good_one HG.out (by decide) (by decide)) (by rw [nodes_one]; have := HN.out; omega) s hss (f : Nat)).mono ?_
        rintro e w12 ⟨r11, rfl, hr, hl⟩
        have HB12 := Lib.hid (kept_past HB11.out hl.2 Ap.out)
        have Pn' := Lib.hid (Pn.out.kept hl.2 (fun j hj e => Enp.out j hj e))
        have Ps' := Lib.hid (Ps.out.kept hl.2 (fun j hj e => Esp.out j hj e))
        have Pt' := Lib.hid (Pt.out.kept hl.2 (fun j hj e => Etp.out j hj e))
        have Pp' := Lib.hid hl.pat
        clear Pn
        have Pn := Pn'
        clear Pn'
        clear Ps
        have Ps := Ps'
        clear Ps'
        clear Pt
        have Pt := Pt'
        clear Pt'
        clear Pp
        have Pp := Pp'
        clear Pp'
        clear hl HB11
        obtain rfl := lonR_one hr HP1.out
        clear hr
        go_wp2_with fail
        go_ret
        exact ⟨rfl, HB12.out⟩
      · have HP1 := Lib.hid (one_some HF.out hr hneg HU.out HM.out HL.out)
        clear hr
        go_wp2_with fail
        refine (lon_any Pp.out (good_one HG.out (by decide) (by decide)) (by rw [nodes_one]; have := HN.out; omega) s hss (f : Nat)).mono ?_
        rintro e w12 ⟨r11, rfl, hr, hl⟩
        have HB12 := Lib.hid (kept_past HB11.out hl.2 Ap.out)
        have Pn' := Lib.hid (Pn.out.kept hl.2 (fun j hj e => Enp.out j hj e))
        have Ps' := Lib.hid (Ps.out.kept hl.2 (fun j hj e => Esp.out j hj e))
        have Pt' := Lib.hid (Pt.out.kept hl.2 (fun j hj e => Etp.out j hj e))
        have Pp' := Lib.hid hl.pat
        clear Pn
        have Pn := Pn'
        clear Pn'
        clear Ps
        have Ps := Ps'
        clear Ps'
        clear Pt
        have Pt := Pt'
        clear Pt'
        clear Pp
        have Pp := Pp'
        clear Pp'
        clear hl HB11
        obtain rfl := lonR_one hr HP1.out
        clear hr
        go_wp2_with fail
        go_ret
        exact ⟨rfl, HB12.out⟩
end Go.Proofs.Ytepfpmnfecehbaa
