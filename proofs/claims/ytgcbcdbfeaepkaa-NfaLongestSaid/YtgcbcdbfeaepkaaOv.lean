/- The law's alive. -/
import Derived.Test.YtgcbcdbfeaepkaaOu
import Derived.Deep.RegionHeld3
namespace Go.Proofs.Ytgcbcdbfeaepkaa
open Go.RowKit Go.Maps

def CompT (w : World) (d : Nat) (t : Tr) (e : Ending) (w' : World) : Prop := ∃ pp X, e = .returned (.tuple #[.pointer (some ⟨pp, 0, none⟩), .int .i64 0]) ∧ PAt w' X pp d t ∧ (∀ j, X j → w.heap.size ≤ j) ∧ Below w.heap.size w w' ∧ X pp
theorem comp_any {w : World} {d : Nat} {t : Tr} {v0 v1 v2 : Value} (h : TreeAt w (· < w.heap.size) d t [v0, v1, v2]) (hg : GoodT d t) (hn : nodesT d t ≤ 1000) (hh : highT d t ≤ 300) : Calls Try.prog 17 #[.agg #[v0, v1, v2]] w (CompT w d t) := by
  refine (compile_ok h hg hn hh).mono ?_
  rintro e w' ⟨pp, X, rfl, h1, h2, h3⟩
  exact ⟨pp, X, rfl, ⟨0, h1⟩, h2, h3, h1.at_⟩
theorem PAt.kept {w w' : World} {X Y : Nat → Prop} {pp d : Nat} {t : Tr} (h : PAt w X pp d t) (hk : Kept Y w w') (hd : ∀ j, X j → ¬ Y j) : PAt w' X pp d t := by
  obtain ⟨st, hm⟩ := h
  exact ⟨st, hm.keep fun b hb hl => hk.block b hl (hd b hb)⟩
theorem PAt.below {w w' : World} {X : Nat → Prop} {pp d : Nat} {t : Tr} (h : PAt w X pp d t) (hb : Below w.heap.size w w') : PAt w' X pp d t := by
  obtain ⟨st, hm⟩ := h
  exact ⟨st, hm.below hb⟩
theorem Left.pat {w w' : World} {X : Nat → Prop} {pp d n : Nat} {t : Tr} (h : Left w X pp d t n w') : PAt w' X pp d t := by obtain ⟨⟨st, _, hm⟩, _⟩ := h; exact ⟨st, hm⟩
theorem kept_past {w w1 w2 : World} {pp : Nat} (hb : Below w.heap.size w w1) (hk : Kept (fun j => j = pp) w1 w2) (hp : w.heap.size ≤ pp) : Below w.heap.size w w2 :=
  hb.trans (hk.below hb.size fun j hj => by subst hj; exact hp)
def AlivePost (w : World) (e : Ending) (w' : World) : Prop := e = .returned (.bool true) ∧ Below w.heap.size w w'
set_option maxHeartbeats 4000000 in
set_option maxRecDepth 100000 in
theorem alive_any (w : World) : Calls Try.prog 14 #[] w (AlivePost w) := by
  have HA := Lib.hid (fun W => (show Calls Try.prog 49 #[.int .u8 97, .int .u8 97] W (OfPost W 97 97) from of_any 97 97 W))
  have HB := Lib.hid (fun W => (show Calls Try.prog 49 #[.int .u8 98, .int .u8 98] W (OfPost W 98 98) from of_any 98 98 W))
  have HC := Lib.hid (fun W => (show Calls Try.prog 49 #[.int .u8 99, .int .u8 99] W (OfPost W 99 99) from of_any 99 99 W))
  go_enter Try.func14, Try.ntmps14
  go_wp2_with fail
  refine (HB.out _).mono ?_
  rintro e w1 ⟨g, rfl, h1, b1⟩
  go_wp2_with fail
  refine (ntree_any _ _ _ _ _).mono ?_
  rintro e w2 ⟨rfl, b2⟩
  go_wp2_with fail
  have t2 := tree_below (one_kid 2 h1) b2
  have hs2 : w1.heap.size + 1 ≤ w2.heap.size := by have := b2.size; simpa using this
  have hsz1 := b1.size
  have t3 := tree_below t2 ((Below.refl _ w2).alloc (Nat.le_refl _) (.cells #[.int .i64 2, .slice none 0 0, .slice (some ⟨w1.heap.size, 0, none⟩) 1 1] 25))
  have b3 : Below w.heap.size w (w2.alloc (.cells #[.int .i64 2, .slice none 0 0, .slice (some ⟨w1.heap.size, 0, none⟩) 1 1] 25)) := ((b1.alloc hsz1 _).trans (b2.mono (by simp; omega))).alloc (by omega) _
  obtain ⟨k0, k1, k2, -, -, -⟩ := blk3 (Blk.new w2 25 #[.int .i64 2, .slice none 0 0, .slice (some ⟨w1.heap.size, 0, none⟩) 1 1])
  have hs3 : (w2.alloc (.cells #[.int .i64 2, .slice none 0 0, .slice (some ⟨w1.heap.size, 0, none⟩) 1 1] 25)).heap.size = w2.heap.size + 1 := by simp
  generalize (w2.alloc (.cells #[.int .i64 2, .slice none 0 0, .slice (some ⟨w1.heap.size, 0, none⟩) 1 1] 25)) = w3 at t3 b3 k0 k1 k2 hs3 ⊢
  generalize w2.heap.size = bp at hs2 hs3 k0 k1 k2 ⊢
  have hbp : bp < w3.heap.size := by omega
  have T3 := Lib.hid t3
  have B3 := Lib.hid b3
  clear h1 b1 b2 t2 hs2 t3 b3 hs3 hsz1
  generalize w1.heap.size = x1 at k0 k1 k2 T3 ⊢
  clear w1 w2
  go_region_held3 (fun W => W.cell? ⟨bp, 0, none⟩ = some (.int .i64 2) ∧ W.cell? ⟨bp, 1, none⟩ = some (.slice none 0 0) ∧ W.cell? ⟨bp, 2, none⟩ = some (.slice (some ⟨x1, 0, none⟩) 1 1)) (go_keep)
    (first
      | (go_at_call 49; refine (HA.out _).mono ?_; rintro e w4 ⟨g4, rfl, h4, b4⟩; have k40 := (b4.cell (p := ⟨bp, 0, none⟩) (by first | exact hbp | (simp; omega))).trans k0; have k41 := (b4.cell (p := ⟨bp, 1, none⟩) (by first | exact hbp | (simp; omega))).trans k1; have k42 := (b4.cell (p := ⟨bp, 2, none⟩) (by first | exact hbp | (simp; omega))).trans k2; have l4 : bp < w4.heap.size := Nat.lt_of_lt_of_le (by first | exact hbp | (simp; omega)) b4.size; have n4 : bp ≠ w4.heap.size := Nat.ne_of_lt l4; have B4 : Below w.heap.size w w4 := B3.out.trans (Below.mono (w := w3) ⟨b4.os, b4.tape, b4.output, b4.size, b4.block⟩ B3.out.size); have P34 : TreeAt w4 (· < w4.heap.size) 2 (.mk 2 [] [setT1 98]) _ := (TreeAt.keep (w := w3) (w' := w4) (X := (· < w3.heap.size)) (fun b hb => b4.block b hb) T3.out).mono fun _ hb' => Nat.lt_of_lt_of_le hb' b4.size)
      | (go_at_call 48; refine (ntree_any 4 (some ⟨w4.heap.size, 0, none⟩) 1 1 _).mono ?_; rintro e w5 ⟨rfl, b5⟩; have k50 := (b5.cell (p := ⟨bp, 0, none⟩) (by show bp < _; simp; omega)).trans ((((Below.refl _ w4).alloc (Nat.le_refl _) _).cell (p := ⟨bp, 0, none⟩) l4).trans k40); have k51 := (b5.cell (p := ⟨bp, 1, none⟩) (by show bp < _; simp; omega)).trans ((((Below.refl _ w4).alloc (Nat.le_refl _) _).cell (p := ⟨bp, 1, none⟩) l4).trans k41); have k52 := (b5.cell (p := ⟨bp, 2, none⟩) (by show bp < _; simp; omega)).trans ((((Below.refl _ w4).alloc (Nat.le_refl _) _).cell (p := ⟨bp, 2, none⟩) l4).trans k42); have l5 : bp < w5.heap.size := Nat.lt_of_lt_of_le (by show bp < _; simp; omega) b5.size; have n5 : bp ≠ w5.heap.size := Nat.ne_of_lt l5; have B5 := (B4.alloc B4.size _).trans (b5.mono (by have := B4.size; simp; omega)); have P35 := tree_below (tree_below P34 ((Below.refl _ w4).alloc (Nat.le_refl _) _)) b5; have P55 := tree_below (one_kid 4 h4) b5)
      | (go_at_call 49; refine (HB.out _).mono ?_; rintro e w6 ⟨g6, rfl, h6, b6⟩; have k60 := (b6.cell (p := ⟨bp, 0, none⟩) (by first | exact l5 | (simp; omega))).trans k50; have k61 := (b6.cell (p := ⟨bp, 1, none⟩) (by first | exact l5 | (simp; omega))).trans k51; have k62 := (b6.cell (p := ⟨bp, 2, none⟩) (by first | exact l5 | (simp; omega))).trans k52; have l6 : bp < w6.heap.size := Nat.lt_of_lt_of_le (by first | exact l5 | (simp; omega)) b6.size; have n6 : bp ≠ w6.heap.size := Nat.ne_of_lt l6; have B6 := B5.trans (b6.mono B5.size); have P36 := tree_below P35 b6; have P56 := tree_below P55 b6)
      | (go_at_call 49; refine (HC.out _).mono ?_; rintro e w7 ⟨g7, rfl, h7, b7⟩; have k70 := (b7.cell (p := ⟨bp, 0, none⟩) (by first | exact l6 | (simp; omega))).trans k60; have k71 := (b7.cell (p := ⟨bp, 1, none⟩) (by first | exact l6 | (simp; omega))).trans k61; have k72 := (b7.cell (p := ⟨bp, 2, none⟩) (by first | exact l6 | (simp; omega))).trans k62; have l7 : bp < w7.heap.size := Nat.lt_of_lt_of_le (by first | exact l6 | (simp; omega)) b7.size; have n7 : bp ≠ w7.heap.size := Nat.ne_of_lt l7; have B7 := B6.trans (b7.mono B6.size); have P37 := tree_below P36 b7; have P57 := tree_below P56 b7)
      | (go_at_call 48; refine (ntree_any 2 (some ⟨w7.heap.size, 0, none⟩) 2 2 _).mono ?_; rintro e w8 ⟨rfl, b8⟩; have k80 := (b8.cell (p := ⟨bp, 0, none⟩) (by show bp < _; simp; omega)).trans ((((Below.refl _ w7).alloc (Nat.le_refl _) _).cell (p := ⟨bp, 0, none⟩) l7).trans k70); have k81 := (b8.cell (p := ⟨bp, 1, none⟩) (by show bp < _; simp; omega)).trans ((((Below.refl _ w7).alloc (Nat.le_refl _) _).cell (p := ⟨bp, 1, none⟩) l7).trans k71); have k82 := (b8.cell (p := ⟨bp, 2, none⟩) (by show bp < _; simp; omega)).trans ((((Below.refl _ w7).alloc (Nat.le_refl _) _).cell (p := ⟨bp, 2, none⟩) l7).trans k72); have l8 : bp < w8.heap.size := Nat.lt_of_lt_of_le (by show bp < _; simp; omega) b8.size; have n8 : bp ≠ w8.heap.size := Nat.ne_of_lt l8; have B8 := (B7.alloc B7.size _).trans (b8.mono (by have := B7.size; simp; omega)); have P38 := tree_below (tree_below P37 ((Below.refl _ w7).alloc (Nat.le_refl _) _)) b8; have P58 := tree_below (tree_below P57 ((Below.refl _ w7).alloc (Nat.le_refl _) _)) b8; have P88 := tree_below (two_kids 2 (tree_below h6 b7) h7) b8)
      | (go_at_call 48; refine (ntree_any 3 (some ⟨w8.heap.size, 0, none⟩) 2 2 _).mono ?_; rintro e w9 ⟨rfl, b9⟩; have k90 := (b9.cell (p := ⟨bp, 0, none⟩) (by show bp < _; simp; omega)).trans ((((Below.refl _ w8).alloc (Nat.le_refl _) _).cell (p := ⟨bp, 0, none⟩) l8).trans k80); have k91 := (b9.cell (p := ⟨bp, 1, none⟩) (by show bp < _; simp; omega)).trans ((((Below.refl _ w8).alloc (Nat.le_refl _) _).cell (p := ⟨bp, 1, none⟩) l8).trans k81); have k92 := (b9.cell (p := ⟨bp, 2, none⟩) (by show bp < _; simp; omega)).trans ((((Below.refl _ w8).alloc (Nat.le_refl _) _).cell (p := ⟨bp, 2, none⟩) l8).trans k82); have l9 : bp < w9.heap.size := Nat.lt_of_lt_of_le (by show bp < _; simp; omega) b9.size; have n9 : bp ≠ w9.heap.size := Nat.ne_of_lt l9; have B9 := (B8.alloc B8.size _).trans (b9.mono (by have := B8.size; simp; omega)); have P59 := tree_below (tree_below P58 ((Below.refl _ w8).alloc (Nat.le_refl _) _)) b9; have P99 := tree_below (two_kids 3 P38 P88) b9)
      | (go_at_call 48; refine (ntree_any 2 (some ⟨w9.heap.size, 0, none⟩) 2 2 _).mono ?_; rintro e w10 ⟨rfl, b10⟩; have k100 := (b10.cell (p := ⟨bp, 0, none⟩) (by show bp < _; simp; omega)).trans ((((Below.refl _ w9).alloc (Nat.le_refl _) _).cell (p := ⟨bp, 0, none⟩) l9).trans k90); have k101 := (b10.cell (p := ⟨bp, 1, none⟩) (by show bp < _; simp; omega)).trans ((((Below.refl _ w9).alloc (Nat.le_refl _) _).cell (p := ⟨bp, 1, none⟩) l9).trans k91); have k102 := (b10.cell (p := ⟨bp, 2, none⟩) (by show bp < _; simp; omega)).trans ((((Below.refl _ w9).alloc (Nat.le_refl _) _).cell (p := ⟨bp, 2, none⟩) l9).trans k92); have l10 : bp < w10.heap.size := Nat.lt_of_lt_of_le (by show bp < _; simp; omega) b10.size; have n10 : bp ≠ w10.heap.size := Nat.ne_of_lt l10; have B10 := (B9.alloc B9.size _).trans (b10.mono (by have := B9.size; simp; omega)); have PAA := tree_below (two_kids 2 (P59.deeper (d' := 3) (by omega)) P99) b10)
      | (go_at_call 17; refine (comp_any (d := 4) (t := aliveT) (w := w10) PAA alive_good alive_nodes.1 alive_nodes.2).mono ?_; rintro e w11 ⟨pp, X, rfl, hp, hx, b11, hxp⟩; have k110 := (b11.cell (p := ⟨bp, 0, none⟩) (by first | exact l10 | (simp; omega))).trans k100; have k111 := (b11.cell (p := ⟨bp, 1, none⟩) (by first | exact l10 | (simp; omega))).trans k101; have k112 := (b11.cell (p := ⟨bp, 2, none⟩) (by first | exact l10 | (simp; omega))).trans k102; have l11 : bp < w11.heap.size := Nat.lt_of_lt_of_le (by first | exact l10 | (simp; omega)) b11.size; have n11 : bp ≠ w11.heap.size := Nat.ne_of_lt l11; have B11 := B10.trans (b11.mono B10.size)))
  have HP := Lib.hid hp
  have HX := Lib.hid (Nat.le_trans B10.size (hx pp hxp))
  have HXP := Lib.hid hxp
  have HB := Lib.hid B11
  clear h4 h6 h7 b4 b5 b6 b7 b8 b9 b10 b11 B4 B5 B6 B7 B8 B9 B10 B11 P34 P35 P36 P37 P38 P55 P56 P57 P58 P59 P88 P99 PAA hp hx T3 B3 k40 k41 k42 k50 k51 k52 k60 k61 k62 k70 k71 k72 k80 k81 k82 k90 k91 k92 k100 k101 k102 k110 k111 k112 k0 k1 k2 l4 l5 l6 l7 l8 l9 l10 l11 n4 n5 n6 n7 n8 n9 n10 n11 HA hxp hbp
  go_wp2_with fail
  refine (fin_any HP.out alive_good alive_nodes.1 ⟨#[120, 97, 98, 99]⟩ (by decide)).mono ?_
  rintro e w12 ⟨a1, z1, ok1, rfl, hf1, hl1⟩
  obtain ⟨rfl, rfl, rfl⟩ := findR_one hf1 alive_fin
  have HP1 := Lib.hid hl1.pat
  have HB1 := Lib.hid (kept_past HB.out hl1.2 HX.out)
  clear hf1 hl1 HP HB
  go_wp2_with fail
  refine (fin_any HP1.out alive_good alive_nodes.1 ⟨#[97, 99]⟩ (by decide)).mono ?_
  rintro e w13 ⟨a2, z2, ok2, rfl, hf2, hl2⟩
  obtain ⟨rfl, rfl, rfl⟩ := findR_one hf2 alive_not
  have HP2 := Lib.hid hl2.pat
  have HB2 := Lib.hid (kept_past HB1.out hl2.2 HX.out)
  clear hf2 hl2 HP1 HB1
  go_wp2_with fail
  refine (lon_any HP2.out alive_good alive_nodes.1 ⟨#[97, 97, 98, 99, 100]⟩ (by decide) 0).mono ?_
  rintro e w14 ⟨r, rfl, hr, hl3⟩
  obtain rfl := lonR_one hr alive_lon
  have HB3 := Lib.hid (kept_past HB2.out hl3.2 HX.out)
  clear hr hl3 HP2 HB2
  go_wp2_with fail
  go_ret
  exact ⟨rfl, HB3.out⟩
end Go.Proofs.Ytgcbcdbfeaepkaa
