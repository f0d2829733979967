/- NfaKinds answers true. -/
import Derived.Test.YtepfpmnfecehbaaOzf
import Derived.Deep.RegionHeld3
namespace Go.Proofs.Ytepfpmnfecehbaa
open Go.RowKit Go.Maps

set_option maxHeartbeats 4000000 in
set_option maxRecDepth 100000 in
theorem nfaKinds_deep {d : Nat} {t u : Tr} {x0 x1 x2 y0 y1 y2 : Value} {w : World} (h : TreeAt w (· < w.heap.size) (d + 2) t [x0, x1, x2]) (h' : TreeAt w (· < w.heap.size) (d + 2) u [y0, y1, y2]) (s : ByteArray) (at_ : Int) :
    Calls Try.prog 7 #[.agg #[x0, x1, x2], .agg #[y0, y1, y2], .string s, .int .i64 at_] w fun e w' => e = .returned (.bool true) ∧ Below w.heap.size w w' := by
  obtain ⟨ka, Aa, na, ca, Aa', na', ca', rfl, rfl, rfl⟩ := tree_shape h
  obtain ⟨kb, Ab, nb, cb, Ab', nb', cb', rfl, rfl, rfl⟩ := tree_shape h'
  have hb0 : Below w.heap.size w ((w.alloc (.cells #[.int .i64 ka, .slice Aa na ca, .slice Aa' na' ca'] 26)).alloc (.cells #[.int .i64 kb, .slice Ab nb cb, .slice Ab' nb' cb'] 26)) := ((Below.refl _ w).alloc (Nat.le_refl _) _).alloc (by simp) _
  have kx := (Blk.new w 26 #[.int .i64 ka, .slice Aa na ca, .slice Aa' na' ca']).alloc (.cells #[.int .i64 kb, .slice Ab nb cb, .slice Ab' nb' cb'] 26)
  have ky := Blk.new (w.alloc (.cells #[.int .i64 ka, .slice Aa na ca, .slice Aa' na' ca'] 26)) 26 #[.int .i64 kb, .slice Ab nb cb, .slice Ab' nb' cb']
  rw [show (w.alloc (.cells #[.int .i64 ka, .slice Aa na ca, .slice Aa' na' ca'] 26)).heap.size = w.heap.size + 1 by simp] at ky
  have HAL := Lib.hid (alive_any ((w.alloc (.cells #[.int .i64 ka, .slice Aa na ca, .slice Aa' na' ca'] 26)).alloc (.cells #[.int .i64 kb, .slice Ab nb cb, .slice Ab' nb' cb'] 26)))
  have HB0 := Lib.hid hb0
  have HX0 := Lib.hid kx
  have HY0 := Lib.hid ky
  have HT := Lib.hid h
  have HU := Lib.hid h'
  clear hb0 kx ky h h'
  go_enter Try.func7, Try.ntmps7
  go_wp2_with fail
  refine HAL.out.mono ?_
  rintro e w1 ⟨rfl, b1⟩
  have HB1 := Lib.hid (HB0.out.trans (b1.mono HB0.out.size))
  have HX1 := Lib.hid (node_cells HX0.out b1)
  have HY1 := Lib.hid (node_cells HY0.out b1)
  obtain ⟨k0, k1, k2, -, -, -⟩ := blk3 HX1.out
  have HD := Lib.hid (few_any (tree_below HT.out HB1.out) s)
  clear b1 HB0 HX0 HY0 HAL
  go_wp2_with fail
  refine HD.out.mono ?_
  rintro e w2 ⟨bd, rfl, hbd, b2⟩
  have HB2 := Lib.hid (HB1.out.trans (b2.mono HB1.out.size))
  have HX2 := Lib.hid (node_cells HX1.out b2)
  have HY2 := Lib.hid (node_cells HY1.out b2)
  clear k0 k1 k2 b2 HD HB1 HX1 HY1
  cases bd with
  | false =>
    clear hbd
    go_wp2_with fail
    go_ret
    exact ⟨rfl, HB2.out⟩
  | true =>
    obtain ⟨hh, hn, hs⟩ := hbd rfl
    have HH := Lib.hid hh
    have HN := Lib.hid hn
    clear hbd hh hn
    obtain ⟨k0, k1, k2, -, -, -⟩ := blk3 HY2.out
    have HD := Lib.hid (few_any (tree_below HU.out HB2.out) s)
    go_wp2_with fail
    refine HD.out.mono ?_
    rintro e w3 ⟨bd, rfl, hbd, b2⟩
    have HB3 := Lib.hid (HB2.out.trans (b2.mono HB2.out.size))
    have HX3 := Lib.hid (node_cells HX2.out b2)
    have HY3 := Lib.hid (node_cells HY2.out b2)
    clear k0 k1 k2 b2 HD HB2 HX2 HY2
    cases bd with
    | false =>
      clear hbd
      go_wp2_with fail
      go_ret
      exact ⟨rfl, HB3.out⟩
    | true =>
    obtain ⟨hh, hn, -⟩ := hbd rfl
    have HHb := Lib.hid hh
    have HNb := Lib.hid hn
    clear hbd hh hn
    by_cases h1 : at_ < 0
    · go_wp2_with fail
      go_ret
      exact ⟨rfl, HB3.out⟩
    by_cases h2 : (s.size : Int) < at_
    · go_wp2_with fail
      go_ret
      exact ⟨rfl, HB3.out⟩
    obtain ⟨f, rfl⟩ : ∃ f : Nat, at_ = (f : Nat) := ⟨at_.toNat, by omega⟩
    have hfs : f ≤ s.size := by omega
    have h1' : ¬ (f : Int) < 0 := by omega
    have h2' : ¬ (s.size : Int) < (f : Int) := by omega
    have HF := Lib.hid (show f ≤ s.data.toList.length from hfs)
    clear h1 h2
    have hss : s.size ≤ 100000000 := by omega
    obtain ⟨k0, k1, k2, -, -, -⟩ := blk3 HX3.out
    cases hw : wrongT (d + 2) t with
    | true =>
      have HC := Lib.hid (compile_bad (tree_below HT.out HB3.out) hw (by have := HN.out; omega) (by have := HH.out; omega))
      clear hw
      go_wp2_with fail
      refine HC.out.mono ?_
      rintro e w4 ⟨rfl, b3⟩
      have HB4 := Lib.hid (HB3.out.trans (b3.mono HB3.out.size))
      have HY4 := Lib.hid (node_cells HY3.out b3)
      clear b3 HC k0 k1 k2 HB3 HX3 HY3
      obtain ⟨k0, k1, k2, -, -, -⟩ := blk3 HY4.out
      cases hw : wrongT (d + 2) u with
      | true =>
        have HC := Lib.hid (compile_bad (tree_below HU.out HB4.out) hw (by have := HNb.out; omega) (by have := HHb.out; omega))
        clear hw
        go_wp2_with fail
        refine HC.out.mono ?_
        rintro e w5 ⟨rfl, b3⟩
        have HB5 := Lib.hid (HB4.out.trans (b3.mono HB4.out.size))
        clear b3 HC
        go_wp2_with fail
        go_ret
        exact ⟨rfl, HB5.out⟩
      | false =>
        have HC := Lib.hid (comp_any (tree_below HU.out HB4.out) (good_of _ u hw) (by have := HNb.out; omega) (by have := HHb.out; omega))
        clear hw
        go_wp2_with fail
        refine HC.out.mono ?_
        rintro e w5 ⟨pb, Xb, rfl, -, -, b3, -⟩
        have HB5 := Lib.hid (HB4.out.trans (b3.mono HB4.out.size))
        clear b3 HC
        go_wp2_with fail
        go_ret
        exact ⟨rfl, HB5.out⟩
    | false =>
      have HG := Lib.hid (good_of _ t hw)
      clear hw
      have HC := Lib.hid (comp_any (tree_below HT.out HB3.out) HG.out (by have := HN.out; omega) (by have := HH.out; omega))
      go_wp2_with fail
      refine HC.out.mono ?_
      rintro e w4 ⟨pa, Xa, rfl, hp, hx, b3, hxp⟩
      have HB4 := Lib.hid (HB3.out.trans (b3.mono HB3.out.size))
      have HX4 := Lib.hid (node_cells HX3.out b3)
      have HY4 := Lib.hid (node_cells HY3.out b3)
      have Pa := Lib.hid hp
      have Aa0 := Lib.hid (Nat.le_trans HB3.out.size (hx pa hxp))
      clear b3 HC hp hx hxp k0 k1 k2 HB3 HX3 HY3
      obtain ⟨k0, k1, k2, -, -, -⟩ := blk3 HY4.out
      cases hw : wrongT (d + 2) u with
      | true =>
        have HC := Lib.hid (compile_bad (tree_below HU.out HB4.out) hw (by have := HNb.out; omega) (by have := HHb.out; omega))
        clear hw
        go_wp2_with fail
        refine HC.out.mono ?_
        rintro e w5 ⟨rfl, b3⟩
        have HB5 := Lib.hid (HB4.out.trans (b3.mono HB4.out.size))
        clear b3 HC
        go_wp2_with fail
        go_ret
        exact ⟨rfl, HB5.out⟩
      | false =>
      have HGb := Lib.hid (good_of _ u hw)
      clear hw
      have HC := Lib.hid (comp_any (tree_below HU.out HB4.out) HGb.out (by have := HNb.out; omega) (by have := HHb.out; omega))
      go_wp2_with fail
      refine HC.out.mono ?_
      rintro e w5 ⟨pb, Xb, rfl, hp, hx, b3, hxp⟩
      have s3 : w4.heap.size ≤ w4.heap.size := Nat.le_refl _
      have Dab := Lib.hid (show ∀ j, Xb j → j ≠ pa from fun j hj e => by have := hx j hj; have := Pa.out.ltL; omega)
      have Eab := Lib.hid (show ∀ j, Xa j → j ≠ pb from fun j hj e => by have := Pa.out.old hj; have := hx pb hxp; omega)
      have Pa' := Lib.hid (Pa.out.below b3)
      clear Pa
      have Pa := Pa'
      clear Pa'
      have Pb := Lib.hid hp
      have Ab0 := Lib.hid (Nat.le_trans HB4.out.size (Nat.le_trans s3 (hx pb hxp)))
      have HB5 := Lib.hid (HB4.out.trans (b3.mono HB4.out.size))
      have HX5 := Lib.hid (node_cells HX4.out b3)
      have HY5 := Lib.hid (node_cells HY4.out b3)
      clear b3 s3 HC hp hx hxp k0 k1 k2 HB4 HX4 HY4
      obtain ⟨k0, k1, k2, -, -, -⟩ := blk3 HX5.out
      obtain ⟨j0, j1, j2, -, -, -⟩ := blk3 HY5.out
      go_wp2_with fail
      refine (tree_any 3 _ _ _ _).mono ?_
      rintro e wB ⟨rfl, bB⟩
      have tB := tree_below (two_kids 3 (tree_below HT.out HB5.out) (tree_below HU.out HB5.out)) bB
      have HC := Lib.hid (comp_any tB (good_two HG.out HGb.out (.inr rfl)) (by rw [nodes_two]; have := HN.out; have := HNb.out; omega) (by rw [high_two]; have := HH.out; have := HHb.out; omega))
      clear tB
      go_wp2_with fail
      refine HC.out.mono ?_
      rintro e w6 ⟨po, Xo, rfl, hp, hx, bC, hxp⟩
      obtain ⟨b3, s3⟩ := step3L (w0 := w5) (Below.refl _ _) bB bC
      have Dao := Lib.hid (show ∀ j, Xo j → j ≠ pa from fun j hj e => by have := hx j hj; have := Pa.out.ltL; omega)
      have Eao := Lib.hid (show ∀ j, Xa j → j ≠ po from fun j hj e => by have := Pa.out.old hj; have := hx po hxp; omega)
      have Pa' := Lib.hid (Pa.out.below b3)
      clear Pa
      have Pa := Pa'
      clear Pa'
      have Dbo := Lib.hid (show ∀ j, Xo j → j ≠ pb from fun j hj e => by have := hx j hj; have := Pb.out.ltL; omega)
      have Ebo := Lib.hid (show ∀ j, Xb j → j ≠ po from fun j hj e => by have := Pb.out.old hj; have := hx po hxp; omega)
      have Pb' := Lib.hid (Pb.out.below b3)
      clear Pb
      have Pb := Pb'
      clear Pb'
      have Po := Lib.hid hp
      have Ao0 := Lib.hid (Nat.le_trans HB5.out.size (Nat.le_trans s3 (hx po hxp)))
      have HB6 := Lib.hid (HB5.out.trans (b3.mono HB5.out.size))
      have HX6 := Lib.hid (node_cells HX5.out b3)
      have HY6 := Lib.hid (node_cells HY5.out b3)
      clear bB bC b3 s3 HC hp hx hxp k0 k1 k2 j0 j1 j2 HB5 HX5 HY5
      obtain ⟨k0, k1, k2, -, -, -⟩ := blk3 HX6.out
      go_wp2_with fail
      refine (tree_any 6 _ _ _ _).mono ?_
      rintro e wB ⟨rfl, bB⟩
      have tB := tree_below (one_kid 6 (tree_below HT.out HB6.out)) bB
      have HC := Lib.hid (comp_any tB (good_one HG.out (by decide) (by decide)) (by rw [nodes_one]; have := HN.out; omega) (by rw [high_one]; have := HH.out; omega))
      clear tB
      go_wp2_with fail
      refine HC.out.mono ?_
      rintro e w7 ⟨pm, Xm, rfl, hp, hx, bC, hxp⟩
      obtain ⟨b3, s3⟩ := step3L (w0 := w6) (Below.refl _ _) bB bC
      have Dam := Lib.hid (show ∀ j, Xm j → j ≠ pa from fun j hj e => by have := hx j hj; have := Pa.out.ltL; omega)
      have Eam := Lib.hid (show ∀ j, Xa j → j ≠ pm from fun j hj e => by have := Pa.out.old hj; have := hx pm hxp; omega)
      have Pa' := Lib.hid (Pa.out.below b3)
      clear Pa
      have Pa := Pa'
      clear Pa'
      have Dbm := Lib.hid (show ∀ j, Xm j → j ≠ pb from fun j hj e => by have := hx j hj; have := Pb.out.ltL; omega)
      have Ebm := Lib.hid (show ∀ j, Xb j → j ≠ pm from fun j hj e => by have := Pb.out.old hj; have := hx pm hxp; omega)
      have Pb' := Lib.hid (Pb.out.below b3)
      clear Pb
      have Pb := Pb'
      clear Pb'
      have Dom := Lib.hid (show ∀ j, Xm j → j ≠ po from fun j hj e => by have := hx j hj; have := Po.out.ltL; omega)
      have Eom := Lib.hid (show ∀ j, Xo j → j ≠ pm from fun j hj e => by have := Po.out.old hj; have := hx pm hxp; omega)
      have Po' := Lib.hid (Po.out.below b3)
      clear Po
      have Po := Po'
      clear Po'
      have Pm := Lib.hid hp
      have Am0 := Lib.hid (Nat.le_trans HB6.out.size (Nat.le_trans s3 (hx pm hxp)))
      have HB7 := Lib.hid (HB6.out.trans (b3.mono HB6.out.size))
      have HX7 := Lib.hid (node_cells HX6.out b3)
      have HY7 := Lib.hid (node_cells HY6.out b3)
      clear bB bC b3 s3 HC hp hx hxp k0 k1 k2 HB6 HX6 HY6
      obtain ⟨k0, k1, k2, -, -, -⟩ := blk3 HX7.out
      have hgl : w.heap.size < w7.heap.size := HX7.out.lt
      have T7 := Lib.hid (tree_below HT.out HB7.out)
      have HOF := Lib.hid (fun W => (show Calls Try.prog 30 #[.int .u8 0, .int .u8 255] W (OfPost W 0 255) from of_any 0 255 W))
      generalize hgx : w.heap.size = gx at k0 k1 k2 hgl
      go_wp2_with fail
      go_region_held3 (fun W => W.cell? ⟨gx, 0, none⟩ = some (.int .i64 ka) ∧ W.cell? ⟨gx, 1, none⟩ = some (.slice Aa na ca) ∧ W.cell? ⟨gx, 2, none⟩ = some (.slice Aa' na' ca')) (go_keep)
        (first
          | (go_at_call 30; refine (HOF.out _).mono ?_; rintro e w8 ⟨g8, rfl, h8, b8⟩; have k80 := (b8.cell (p := ⟨gx, 0, none⟩) (by first | exact hgl | (simp; omega))).trans k0; have k81 := (b8.cell (p := ⟨gx, 1, none⟩) (by first | exact hgl | (simp; omega))).trans k1; have k82 := (b8.cell (p := ⟨gx, 2, none⟩) (by first | exact hgl | (simp; omega))).trans k2; have l8 : gx < w8.heap.size := Nat.lt_of_lt_of_le (by first | exact hgl | (simp; omega)) b8.size; have n8 : gx ≠ w8.heap.size := Nat.ne_of_lt l8; have B78 : Below w7.heap.size w7 w8 := ⟨b8.os, b8.tape, b8.output, b8.size, b8.block⟩)
          | (go_at_call 29; refine (tree_any 4 (some ⟨w8.heap.size, 0, none⟩) 1 1 _).mono ?_; rintro e w9 ⟨rfl, b9⟩; have k90 := (b9.cell (p := ⟨gx, 0, none⟩) (by show gx < _; simp; omega)).trans ((((Below.refl _ w8).alloc (Nat.le_refl _) _).cell (p := ⟨gx, 0, none⟩) l8).trans k80); have k91 := (b9.cell (p := ⟨gx, 1, none⟩) (by show gx < _; simp; omega)).trans ((((Below.refl _ w8).alloc (Nat.le_refl _) _).cell (p := ⟨gx, 1, none⟩) l8).trans k81); have k92 := (b9.cell (p := ⟨gx, 2, none⟩) (by show gx < _; simp; omega)).trans ((((Below.refl _ w8).alloc (Nat.le_refl _) _).cell (p := ⟨gx, 2, none⟩) l8).trans k82); have l9 : gx < w9.heap.size := Nat.lt_of_lt_of_le (by show gx < _; simp; omega) b9.size; have n9 : gx ≠ w9.heap.size := Nat.ne_of_lt l9; have t9 := tree_below (one_kid 4 h8) b9; have B79 := (B78.alloc B78.size _).trans (b9.mono (by have := B78.size; simp; omega)))
          | (go_at_call 29; refine (tree_any 2 (some ⟨w9.heap.size, 0, none⟩) 2 2 _).mono ?_; rintro e w10 ⟨rfl, b10⟩; have k100 := (b10.cell (p := ⟨gx, 0, none⟩) (by show gx < _; simp; omega)).trans ((((Below.refl _ w9).alloc (Nat.le_refl _) _).cell (p := ⟨gx, 0, none⟩) l9).trans k90); have k101 := (b10.cell (p := ⟨gx, 1, none⟩) (by show gx < _; simp; omega)).trans ((((Below.refl _ w9).alloc (Nat.le_refl _) _).cell (p := ⟨gx, 1, none⟩) l9).trans k91); have k102 := (b10.cell (p := ⟨gx, 2, none⟩) (by show gx < _; simp; omega)).trans ((((Below.refl _ w9).alloc (Nat.le_refl _) _).cell (p := ⟨gx, 2, none⟩) l9).trans k92); have l10 : gx < w10.heap.size := Nat.lt_of_lt_of_le (by show gx < _; simp; omega) b10.size; have n10 : gx ≠ w10.heap.size := Nat.ne_of_lt l10; have t10 := tree_below (two_kids (d := d + 2) (t := t) (u := allT) 2 (tree_below T7.out B79) (t9.deeper (by omega))) b10; have B710 := (B79.alloc B79.size _).trans (b10.mono (by have := B79.size; simp; omega)))
          | (go_at_call 20; refine (comp_any (d := d + 3) (t := restT t) (w := w10) t10 (good_two HG.out all_good (.inl rfl)) (by show nodesT (d + 2 + 1) (.mk 2 [] [t, allT]) ≤ 1000; rw [nodes_two, all_nodes.1]; have := HN.out; omega) (by show highT (d + 2 + 1) (.mk 2 [] [t, allT]) ≤ 300; rw [high_two, all_nodes.2]; have := HH.out; omega)).mono ?_; rintro e w11 ⟨pr, Xr, rfl, hp, hx, b11, hxp⟩; have k110 := (b11.cell (p := ⟨gx, 0, none⟩) (by first | exact l10 | (simp; omega))).trans k100; have k111 := (b11.cell (p := ⟨gx, 1, none⟩) (by first | exact l10 | (simp; omega))).trans k101; have k112 := (b11.cell (p := ⟨gx, 2, none⟩) (by first | exact l10 | (simp; omega))).trans k102; have l11 : gx < w11.heap.size := Nat.lt_of_lt_of_le (by first | exact l10 | (simp; omega)) b11.size; have n11 : gx ≠ w11.heap.size := Nat.ne_of_lt l11; have b3 := B710.trans (b11.mono B710.size); have s3 := B710.size))
      subst hgx
      have Dar := Lib.hid (show ∀ j, Xr j → j ≠ pa from fun j hj e => by have := hx j hj; have := Pa.out.ltL; omega)
      have Ear := Lib.hid (show ∀ j, Xa j → j ≠ pr from fun j hj e => by have := Pa.out.old hj; have := hx pr hxp; omega)
      have Pa' := Lib.hid (Pa.out.below b3)
      clear Pa
      have Pa := Pa'
      clear Pa'
      have Dbr := Lib.hid (show ∀ j, Xr j → j ≠ pb from fun j hj e => by have := hx j hj; have := Pb.out.ltL; omega)
      have Ebr := Lib.hid (show ∀ j, Xb j → j ≠ pr from fun j hj e => by have := Pb.out.old hj; have := hx pr hxp; omega)
      have Pb' := Lib.hid (Pb.out.below b3)
      clear Pb
      have Pb := Pb'
      clear Pb'
      have Dor := Lib.hid (show ∀ j, Xr j → j ≠ po from fun j hj e => by have := hx j hj; have := Po.out.ltL; omega)
      have Eor := Lib.hid (show ∀ j, Xo j → j ≠ pr from fun j hj e => by have := Po.out.old hj; have := hx pr hxp; omega)
      have Po' := Lib.hid (Po.out.below b3)
      clear Po
      have Po := Po'
      clear Po'
      have Dmr := Lib.hid (show ∀ j, Xr j → j ≠ pm from fun j hj e => by have := hx j hj; have := Pm.out.ltL; omega)
      have Emr := Lib.hid (show ∀ j, Xm j → j ≠ pr from fun j hj e => by have := Pm.out.old hj; have := hx pr hxp; omega)
      have Pm' := Lib.hid (Pm.out.below b3)
      clear Pm
      have Pm := Pm'
      clear Pm'
      have Pr := Lib.hid hp
      have Ar0 := Lib.hid (Nat.le_trans HB7.out.size (Nat.le_trans s3 (hx pr hxp)))
      have HB8 := Lib.hid (HB7.out.trans (b3.mono HB7.out.size))
      have HX8 := Lib.hid (node_cells HX7.out b3)
      have HY8 := Lib.hid (node_cells HY7.out b3)
      clear HX8 HY8 HX7 HY7 HB7 HOF T7
      clear b3 s3 hp hx hxp k0 k1 k2 h8 b8 b9 b10 b11 t9 t10 B78 B79 B710 k80 k81 k82 k90 k91 k92 k100 k101 k102 k110 k111 k112 l8 l9 l10 l11 n8 n9 n10 n11 hgl
      go_wp2_with fail
      refine (lon_any Pa.out HG.out (by have := HN.out; omega) s hss (f : Nat)).mono ?_
      rintro e y9 ⟨ra, rfl, hr, hl⟩
      have HB9 := Lib.hid (kept_past HB8.out hl.2 Aa0.out)
      have Pa' := Lib.hid hl.pat
      have Pb' := Lib.hid (Pb.out.kept hl.2 (fun j hj e => Dab.out j hj e))
      have Po' := Lib.hid (Po.out.kept hl.2 (fun j hj e => Dao.out j hj e))
      have Pm' := Lib.hid (Pm.out.kept hl.2 (fun j hj e => Dam.out j hj e))
      have Pr' := Lib.hid (Pr.out.kept hl.2 (fun j hj e => Dar.out j hj e))
      clear Pa
      have Pa := Pa'
      clear Pa'
      clear Pb
      have Pb := Pb'
      clear Pb'
      clear Po
      have Po := Po'
      clear Po'
      clear Pm
      have Pm := Pm'
      clear Pm'
      clear Pr
      have Pr := Pr'
      clear Pr'
      clear hl HB8
      have HRA := Lib.hid hr
      clear hr
      go_wp2_with fail
      refine (lon_any Pb.out HGb.out (by have := HNb.out; omega) s hss (f : Nat)).mono ?_
      rintro e y10 ⟨rb, rfl, hr, hl⟩
      have HB10 := Lib.hid (kept_past HB9.out hl.2 Ab0.out)
      have Pa' := Lib.hid (Pa.out.kept hl.2 (fun j hj e => Eab.out j hj e))
      have Pb' := Lib.hid hl.pat
      have Po' := Lib.hid (Po.out.kept hl.2 (fun j hj e => Dbo.out j hj e))
      have Pm' := Lib.hid (Pm.out.kept hl.2 (fun j hj e => Dbm.out j hj e))
      have Pr' := Lib.hid (Pr.out.kept hl.2 (fun j hj e => Dbr.out j hj e))
      clear Pa
      have Pa := Pa'
      clear Pa'
      clear Pb
      have Pb := Pb'
      clear Pb'
      clear Po
      have Po := Po'
      clear Po'
      clear Pm
      have Pm := Pm'
      clear Pm'
      clear Pr
      have Pr := Pr'
      clear Pr'
      clear hl HB9
      have HRB := Lib.hid hr
      clear hr
      go_wp2_with fail
      refine (lon_any Po.out (good_two HG.out HGb.out (.inr rfl)) (by rw [nodes_two]; have := HN.out; have := HNb.out; omega) s hss (f : Nat)).mono ?_
      rintro e y11 ⟨ro, rfl, hr, hl⟩
      have HB11 := Lib.hid (kept_past HB10.out hl.2 Ao0.out)
      have Pa' := Lib.hid (Pa.out.kept hl.2 (fun j hj e => Eao.out j hj e))
      have Pb' := Lib.hid (Pb.out.kept hl.2 (fun j hj e => Ebo.out j hj e))
      have Po' := Lib.hid hl.pat
      have Pm' := Lib.hid (Pm.out.kept hl.2 (fun j hj e => Dom.out j hj e))
      have Pr' := Lib.hid (Pr.out.kept hl.2 (fun j hj e => Dor.out j hj e))
      clear Pa
      have Pa := Pa'
      clear Pa'
      clear Pb
      have Pb := Pb'
      clear Pb'
      clear Po
      have Po := Po'
      clear Po'
      clear Pm
      have Pm := Pm'
      clear Pm'
      clear Pr
      have Pr := Pr'
      clear Pr'
      clear hl HB10
      by_cases hab : rb ≤ ra
      · have hmx : max ra rb = ra := by omega
        obtain rfl := (lonR_one hr (hmx ▸ or_lon HF.out HRA.out HRB.out)).symm
        clear hr hmx
        go_wp2_with fail
        refine (lon_any Pm.out (good_one HG.out (by decide) (by decide)) (by rw [nodes_one]; have := HN.out; omega) s hss (f : Nat)).mono ?_
        rintro e y12 ⟨rm, rfl, hr, hl⟩
        have HB12 := Lib.hid (kept_past HB11.out hl.2 Am0.out)
        have Pa' := Lib.hid (Pa.out.kept hl.2 (fun j hj e => Eam.out j hj e))
        have Pb' := Lib.hid (Pb.out.kept hl.2 (fun j hj e => Ebm.out j hj e))
        have Po' := Lib.hid (Po.out.kept hl.2 (fun j hj e => Eom.out j hj e))
        have Pm' := Lib.hid hl.pat
        have Pr' := Lib.hid (Pr.out.kept hl.2 (fun j hj e => Dmr.out j hj e))
        clear Pa
        have Pa := Pa'
        clear Pa'
        clear Pb
        have Pb := Pb'
        clear Pb'
        clear Po
        have Po := Po'
        clear Po'
        clear Pm
        have Pm := Pm'
        clear Pm'
        clear Pr
        have Pr := Pr'
        clear Pr'
        clear hl HB11
        obtain rfl := lonR_one hr (opt_lon HF.out HRA.out)
        clear hr
        by_cases hneg : ra < 0
        · have HR := Lib.hid (rest_none HF.out HRA.out hneg)
          have hfa : ¬ (f : Int) ≤ ra := by omega
          go_wp2_with fail
          refine (lon_any Pr.out (good_two HG.out all_good (.inl rfl)) (by show nodesT (d + 2 + 1) (.mk 2 [] [t, allT]) ≤ 1000; rw [nodes_two, all_nodes.1]; have := HN.out; omega) s hss (f : Nat)).mono ?_
          rintro e y13 ⟨rr, rfl, hr, hl⟩
          have HB13 := Lib.hid (kept_past HB12.out hl.2 Ar0.out)
          have Pa' := Lib.hid (Pa.out.kept hl.2 (fun j hj e => Ear.out j hj e))
          have Pb' := Lib.hid (Pb.out.kept hl.2 (fun j hj e => Ebr.out j hj e))
          have Po' := Lib.hid (Po.out.kept hl.2 (fun j hj e => Eor.out j hj e))
          have Pm' := Lib.hid (Pm.out.kept hl.2 (fun j hj e => Emr.out j hj e))
          have Pr' := Lib.hid hl.pat
          clear Pa
          have Pa := Pa'
          clear Pa'
          clear Pb
          have Pb := Pb'
          clear Pb'
          clear Po
          have Po := Po'
          clear Po'
          clear Pm
          have Pm := Pm'
          clear Pm'
          clear Pr
          have Pr := Pr'
          clear Pr'
          clear hl HB12
          obtain rfl := lonR_one hr HR.out
          clear hr
          go_wp2_with fail
          go_ret
          exact ⟨rfl, HB13.out⟩
        · have HR := Lib.hid (rest_some HF.out HRA.out hneg)
          have hfa : (f : Int) ≤ ra := by
            rcases lon_form HF.out HRA.out with ⟨e, _⟩ | ⟨v, e, hv, _⟩ <;> omega
          go_wp2_with fail
          refine (lon_any Pr.out (good_two HG.out all_good (.inl rfl)) (by show nodesT (d + 2 + 1) (.mk 2 [] [t, allT]) ≤ 1000; rw [nodes_two, all_nodes.1]; have := HN.out; omega) s hss (f : Nat)).mono ?_
          rintro e y13 ⟨rr, rfl, hr, hl⟩
          have HB13 := Lib.hid (kept_past HB12.out hl.2 Ar0.out)
          have Pa' := Lib.hid (Pa.out.kept hl.2 (fun j hj e => Ear.out j hj e))
          have Pb' := Lib.hid (Pb.out.kept hl.2 (fun j hj e => Ebr.out j hj e))
          have Po' := Lib.hid (Po.out.kept hl.2 (fun j hj e => Eor.out j hj e))
          have Pm' := Lib.hid (Pm.out.kept hl.2 (fun j hj e => Emr.out j hj e))
          have Pr' := Lib.hid hl.pat
          clear Pa
          have Pa := Pa'
          clear Pa'
          clear Pb
          have Pb := Pb'
          clear Pb'
          clear Po
          have Po := Po'
          clear Po'
          clear Pm
          have Pm := Pm'
          clear Pm'
          clear Pr
          have Pr := Pr'
          clear Pr'
          clear hl HB12
          obtain rfl := lonR_one hr HR.out
          have hsl : s.data.toList.length = s.size := rfl
          clear hr
          go_wp2_with fail
          go_ret
          exact ⟨rfl, HB13.out⟩
      · have hmx : max ra rb = rb := by omega
        obtain rfl := (lonR_one hr (hmx ▸ or_lon HF.out HRA.out HRB.out)).symm
        clear hr hmx
        go_wp2_with fail
        refine (lon_any Pm.out (good_one HG.out (by decide) (by decide)) (by rw [nodes_one]; have := HN.out; omega) s hss (f : Nat)).mono ?_
        rintro e y12 ⟨rm, rfl, hr, hl⟩
        have HB12 := Lib.hid (kept_past HB11.out hl.2 Am0.out)
        have Pa' := Lib.hid (Pa.out.kept hl.2 (fun j hj e => Eam.out j hj e))
        have Pb' := Lib.hid (Pb.out.kept hl.2 (fun j hj e => Ebm.out j hj e))
        have Po' := Lib.hid (Po.out.kept hl.2 (fun j hj e => Eom.out j hj e))
        have Pm' := Lib.hid hl.pat
        have Pr' := Lib.hid (Pr.out.kept hl.2 (fun j hj e => Dmr.out j hj e))
        clear Pa
        have Pa := Pa'
        clear Pa'
        clear Pb
        have Pb := Pb'
        clear Pb'
        clear Po
        have Po := Po'
        clear Po'
        clear Pm
        have Pm := Pm'
        clear Pm'
        clear Pr
        have Pr := Pr'
        clear Pr'
        clear hl HB11
        obtain rfl := lonR_one hr (opt_lon HF.out HRA.out)
        clear hr
        by_cases hneg : ra < 0
        · have HR := Lib.hid (rest_none HF.out HRA.out hneg)
          have hfa : ¬ (f : Int) ≤ ra := by omega
          go_wp2_with fail
          refine (lon_any Pr.out (good_two HG.out all_good (.inl rfl)) (by show nodesT (d + 2 + 1) (.mk 2 [] [t, allT]) ≤ 1000; rw [nodes_two, all_nodes.1]; have := HN.out; omega) s hss (f : Nat)).mono ?_
          rintro e y13 ⟨rr, rfl, hr, hl⟩
          have HB13 := Lib.hid (kept_past HB12.out hl.2 Ar0.out)
          have Pa' := Lib.hid (Pa.out.kept hl.2 (fun j hj e => Ear.out j hj e))
          have Pb' := Lib.hid (Pb.out.kept hl.2 (fun j hj e => Ebr.out j hj e))
          have Po' := Lib.hid (Po.out.kept hl.2 (fun j hj e => Eor.out j hj e))
          have Pm' := Lib.hid (Pm.out.kept hl.2 (fun j hj e => Emr.out j hj e))
          have Pr' := Lib.hid hl.pat
          clear Pa
          have Pa := Pa'
          clear Pa'
          clear Pb
          have Pb := Pb'
          clear Pb'
          clear Po
          have Po := Po'
          clear Po'
          clear Pm
          have Pm := Pm'
          clear Pm'
          clear Pr
          have Pr := Pr'
          clear Pr'
          clear hl HB12
          obtain rfl := lonR_one hr HR.out
          clear hr
          go_wp2_with fail
          go_ret
          exact ⟨rfl, HB13.out⟩
        · have HR := Lib.hid (rest_some HF.out HRA.out hneg)
          have hfa : (f : Int) ≤ ra := by
            rcases lon_form HF.out HRA.out with ⟨e, _⟩ | ⟨v, e, hv, _⟩ <;> omega
          go_wp2_with fail
          refine (lon_any Pr.out (good_two HG.out all_good (.inl rfl)) (by show nodesT (d + 2 + 1) (.mk 2 [] [t, allT]) ≤ 1000; rw [nodes_two, all_nodes.1]; have := HN.out; omega) s hss (f : Nat)).mono ?_
          rintro e y13 ⟨rr, rfl, hr, hl⟩
          have HB13 := Lib.hid (kept_past HB12.out hl.2 Ar0.out)
          have Pa' := Lib.hid (Pa.out.kept hl.2 (fun j hj e => Ear.out j hj e))
          have Pb' := Lib.hid (Pb.out.kept hl.2 (fun j hj e => Ebr.out j hj e))
          have Po' := Lib.hid (Po.out.kept hl.2 (fun j hj e => Eor.out j hj e))
          have Pm' := Lib.hid (Pm.out.kept hl.2 (fun j hj e => Emr.out j hj e))
          have Pr' := Lib.hid hl.pat
          clear Pa
          have Pa := Pa'
          clear Pa'
          clear Pb
          have Pb := Pb'
          clear Pb'
          clear Po
          have Po := Po'
          clear Po'
          clear Pm
          have Pm := Pm'
          clear Pm'
          clear Pr
          have Pr := Pr'
          clear Pr'
          clear hl HB12
          obtain rfl := lonR_one hr HR.out
          have hsl : s.data.toList.length = s.size := rfl
          clear hr
          go_wp2_with fail
          go_ret
          exact ⟨rfl, HB13.out⟩
theorem nfaKinds_walk {d d' : Nat} {t u : Tr} {x0 x1 x2 y0 y1 y2 : Value} {w : World} (h : TreeAt w (· < w.heap.size) d t [x0, x1, x2]) (h' : TreeAt w (· < w.heap.size) d' u [y0, y1, y2]) (s : ByteArray) (at_ : Int) :
    Calls Try.prog 7 #[.agg #[x0, x1, x2], .agg #[y0, y1, y2], .string s, .int .i64 at_] w fun e w' => e = .returned (.bool true) ∧ Below w.heap.size w w' :=
  nfaKinds_deep (d := max d d') (h.deeper (by omega)) (h'.deeper (by omega)) s at_
end Go.Proofs.Ytepfpmnfecehbaa
