/- rex.atom: a point, a digit, a letter. -/
import Derived.Test.YtjnhmcgjeljcmaaXa
namespace Go.Proofs.Ytjnhmcgjeljcmaa
open Go.RowKit

theorem leaf_new {w4 w5 : World} (lo hi : UInt8) (b5 : Below (w4.alloc (.cells #[.int .u8 lo.toNat, .int .u8 hi.toNat] 37)).heap.size (w4.alloc (.cells #[.int .u8 lo.toNat, .int .u8 hi.toNat] 37)) w5) :
    RgAt w5 (fun j => w4.heap.size ≤ j ∧ j < w5.heap.size) (some ⟨w4.heap.size, 0, none⟩) 1 [(lo, hi)] := by
  refine ⟨rfl, fun _ => ⟨w4.heap.size, 0, rfl, ⟨Nat.le_refl _, by have := b5.size; simp at this; omega⟩, fun i r hr => ?_⟩⟩
  obtain ⟨p0, p1, _, _⟩ := blk2 ((Blk.new w4 37 #[.int .u8 lo.toNat, .int .u8 hi.toNat]).below b5 (by simp))
  match i, hr with
  | 0, hr => simp at hr; subst hr; exact ⟨p0, p1⟩

set_option maxHeartbeats 400000 in
theorem atom_lerr (b k : Nat) (s : ByteArray) (w : World) (hc : Cur w b s k) (hk : k ≤ s.size) (hs : s.size ≤ 256) (hsg : signX (restL s k) = 0) (h40 : isB [40] s k = false) (h91 : isB [91] s k = false) (h46 : isB [46] s k = false) (hd : isB [92, 100] s k = false) {c : Int} {n : Nat} (hl : letterX (restL s k) = .err c n) :
    Calls Try.prog 133 #[.pointer (some ⟨b, 0, none⟩)] w (NPost w b s k (.err c n)) := by
    have hsm : s.size ≤ maxLen := by unfold maxLen; omega
    have hb0 : b < w.heap.size := Blk.lt hc
    have HL := Lib.hid hl
    clear hl
    go_enter Try.func133, Try.ntmps133
    go_wp2_with fail
    refine (at_any b k s _ (Blk.alloc hc _)).mono ?_
    rintro e w0 ⟨rfl, rfl⟩
    go_wp2_with fail
    refine (sign_no b k s _ (Blk.alloc hc _) hk hsm hsg).mono ?_
    rintro e w1 ⟨rfl, hc1, g1⟩
    have hblk1 : Blk w1 w.heap.size 26 _ := (Blk.new w 26 _).grown g1 (by simp; omega)
    have gw1 := gb_trans (gb_alloc (gb_refl w (some b)) _) g1
    clear g1
    go_wp2_with fail
    refine (skip_no b k s ⟨#[40]⟩ _ hc1 hk h40).mono ?_
    rintro e w2 ⟨rfl, hc2, g2⟩
    have hblk2 := hblk1.grown g2 (by simp; omega)
    have gw2 := gb_trans gw1 g2
    clear hc1 gw1 hblk1 g2
    go_wp2_with fail
    refine (skip_no b k s ⟨#[91]⟩ _ hc2 hk h91).mono ?_
    rintro e w3 ⟨rfl, hc3, g3⟩
    have hblk3 := hblk2.grown g3 (by simp; omega)
    have gw3 := gb_trans gw2 g3
    clear hc2 gw2 hblk2 g3
    go_wp2_with fail
    refine (skip_no b k s ⟨#[46]⟩ _ hc3 hk h46).mono ?_
    rintro e w4 ⟨rfl, hc4, g4⟩
    have hblk4 := hblk3.grown g4 (by simp; omega)
    have gw4 := gb_trans gw3 g4
    clear hc3 gw3 hblk3 g4
    go_wp2_with fail
    refine (skip_no b k s ⟨#[92, 100]⟩ _ hc4 hk hd).mono ?_
    rintro e w5 ⟨rfl, hc5, g5⟩
    have hblk5 := hblk4.grown g5 (by simp; omega)
    have gw5 := gb_trans gw4 g5
    clear hc4 gw4 hblk4 g5
    go_wp2_with fail
    refine (xLetter_any b k s _ hc5 hk hsm).mono ?_
    intro e wx hp
    obtain ⟨rfl, gx⟩ := hp.err_ HL.out
    clear hp
    go_wp2
    exact ⟨rfl, rfl, gb_trans gw5 gx⟩

set_option maxHeartbeats 400000 in
theorem atom_letter (b k : Nat) (s : ByteArray) (w : World) (hc : Cur w b s k) (hk : k ≤ s.size) (hs : s.size ≤ 256) (hsg : signX (restL s k) = 0) (h40 : isB [40] s k = false) (h91 : isB [91] s k = false) (h46 : isB [46] s k = false) (hd : isB [92, 100] s k = false) {c : UInt8} {n : Nat} (hl : letterX (restL s k) = .ok c n) :
    Calls Try.prog 133 #[.pointer (some ⟨b, 0, none⟩)] w (NPost w b s k (.ok (.mk 1 [(c, c)] []) n)) := by
    have hsm : s.size ≤ maxLen := by unfold maxLen; omega
    have hb0 : b < w.heap.size := Blk.lt hc
    have HL := Lib.hid hl
    clear hl
    go_enter Try.func133, Try.ntmps133
    go_wp2_with fail
    refine (at_any b k s _ (Blk.alloc hc _)).mono ?_
    rintro e w0 ⟨rfl, rfl⟩
    go_wp2_with fail
    refine (sign_no b k s _ (Blk.alloc hc _) hk hsm hsg).mono ?_
    rintro e w1 ⟨rfl, hc1, g1⟩
    have hblk1 : Blk w1 w.heap.size 26 _ := (Blk.new w 26 _).grown g1 (by simp; omega)
    have gw1 := gb_trans (gb_alloc (gb_refl w (some b)) _) g1
    clear g1
    go_wp2_with fail
    refine (skip_no b k s ⟨#[40]⟩ _ hc1 hk h40).mono ?_
    rintro e w2 ⟨rfl, hc2, g2⟩
    have hblk2 := hblk1.grown g2 (by simp; omega)
    have gw2 := gb_trans gw1 g2
    clear hc1 gw1 hblk1 g2
    go_wp2_with fail
    refine (skip_no b k s ⟨#[91]⟩ _ hc2 hk h91).mono ?_
    rintro e w3 ⟨rfl, hc3, g3⟩
    have hblk3 := hblk2.grown g3 (by simp; omega)
    have gw3 := gb_trans gw2 g3
    clear hc2 gw2 hblk2 g3
    go_wp2_with fail
    refine (skip_no b k s ⟨#[46]⟩ _ hc3 hk h46).mono ?_
    rintro e w4 ⟨rfl, hc4, g4⟩
    have hblk4 := hblk3.grown g4 (by simp; omega)
    have gw4 := gb_trans gw3 g4
    clear hc3 gw3 hblk3 g4
    go_wp2_with fail
    refine (skip_no b k s ⟨#[92, 100]⟩ _ hc4 hk hd).mono ?_
    rintro e w5 ⟨rfl, hc5, g5⟩
    have hblk5 := hblk4.grown g5 (by simp; omega)
    have gw5 := gb_trans gw4 g5
    clear hc4 gw4 hblk4 g5
    go_wp2_with fail
    refine (xLetter_any b k s _ hc5 hk hsm).mono ?_
    intro e wl hp
    obtain ⟨rfl, hcl, gl⟩ := hp.ok_ HL.out
    clear hp
    have hblkl := hblk5.grown gl (by simp; omega)
    have gwl := gb_trans gw5 gl
    have hbll := hblkl.lt
    clear hc5 gw5 hblk5 gl
    go_wp2_with fail
    refine (xone_any c _).mono ?_
    rintro e wx ⟨rfl, bx⟩
    have hblkx := hblkl.below bx hblkl.lt
    have hcx : Cur wx b s _ := Blk.below hcl bx (Blk.lt hcl)
    have gwx := gb_trans gwl (gb_below bx _)
    have hbx := hblkx.lt
    clear hblkl hcl gwl bx
    go_wp2_with fail
    refine (xset_any _ _ _ _).mono ?_
    rintro e wy ⟨rfl, by_⟩
    have hr := leaf_new c c by_
    have hsy : wx.heap.size + 1 ≤ wy.heap.size := by have := by_.size; simpa using this
    have hblky := (hblkx.alloc (.cells #[.int .u8 c.toNat, .int .u8 c.toNat] 37)).below by_ (by simp; omega)
    have hcy : Cur wy b s _ := Blk.below (Blk.alloc hcx (.cells #[.int .u8 c.toNat, .int .u8 c.toNat] 37)) by_ (by simp; omega)
    have gwy := gb_trans (gb_alloc gwx (.cells #[.int .u8 c.toNat, .int .u8 c.toNat] 37)) (gb_below by_ _)
    have HT := Lib.hid ((tree_leaf (k := 1) (c := 1) (by decide) hr 0).mono (Y := fun j => w.heap.size + 1 ≤ j ∧ j < wy.heap.size) fun j hj => ⟨by have := hj.1; omega, hj.2⟩)
    obtain ⟨p0, p1, p2, z0, z1, z2⟩ := blk3 hblky
    clear hr hblky hblkx
    go_wp2
    refine bodyPost_ret (v := .agg #[.int .i64 1, .slice (some ⟨wx.heap.size, 0, none⟩) 1 1, .slice none 0 0]) (by simp [results, Try.results133, go_sem, *]) rfl ?_
    exact node_end HT.out hcy gwy hb0 _ _ _

set_option maxHeartbeats 400000 in
theorem atom_digit (b k : Nat) (s : ByteArray) (w : World) (hc : Cur w b s k) (hk : k ≤ s.size) (hs : s.size ≤ 256) (hsg : signX (restL s k) = 0) (h40 : isB [40] s k = false) (h91 : isB [91] s k = false) (h46 : isB [46] s k = false) (hd : isB [92, 100] s k = true) :
    Calls Try.prog 133 #[.pointer (some ⟨b, 0, none⟩)] w (NPost w b s k (.ok digitT 2)) := by
    have hsm : s.size ≤ maxLen := by unfold maxLen; omega
    have hb0 : b < w.heap.size := Blk.lt hc
    go_enter Try.func133, Try.ntmps133
    go_wp2_with fail
    refine (at_any b k s _ (Blk.alloc hc _)).mono ?_
    rintro e w0 ⟨rfl, rfl⟩
    go_wp2_with fail
    refine (sign_no b k s _ (Blk.alloc hc _) hk hsm hsg).mono ?_
    rintro e w1 ⟨rfl, hc1, g1⟩
    have hblk1 : Blk w1 w.heap.size 26 _ := (Blk.new w 26 _).grown g1 (by simp; omega)
    have gw1 := gb_trans (gb_alloc (gb_refl w (some b)) _) g1
    clear g1
    go_wp2_with fail
    refine (skip_no b k s ⟨#[40]⟩ _ hc1 hk h40).mono ?_
    rintro e w2 ⟨rfl, hc2, g2⟩
    have hblk2 := hblk1.grown g2 (by simp; omega)
    have gw2 := gb_trans gw1 g2
    clear hc1 gw1 hblk1 g2
    go_wp2_with fail
    refine (skip_no b k s ⟨#[91]⟩ _ hc2 hk h91).mono ?_
    rintro e w3 ⟨rfl, hc3, g3⟩
    have hblk3 := hblk2.grown g3 (by simp; omega)
    have gw3 := gb_trans gw2 g3
    clear hc2 gw2 hblk2 g3
    go_wp2_with fail
    refine (skip_no b k s ⟨#[46]⟩ _ hc3 hk h46).mono ?_
    rintro e w4 ⟨rfl, hc4, g4⟩
    have hblk4 := hblk3.grown g4 (by simp; omega)
    have gw4 := gb_trans gw3 g4
    clear hc3 gw3 hblk3 g4
    go_wp2_with fail
    refine (skip_yes b k s ⟨#[92, 100]⟩ _ hc4 hk hsm hd).mono ?_
    rintro e w5 ⟨rfl, hc5, g5⟩
    have hblk5 := hblk4.grown g5 (by simp; omega)
    have gw5 := gb_trans gw4 g5
    clear hc4 gw4 hblk4 g5
    have hblkx := hblk5
    have hcx := hc5
    have gwx := gw5
    have hbx := hblkx.lt
    clear hblk5 hc5 gw5
    go_wp2_with fail
    refine (xset_any _ _ _ _).mono ?_
    rintro e wy ⟨rfl, by_⟩
    have hr := leaf_new (48 : UInt8) (57 : UInt8) by_
    have hsy : w5.heap.size + 1 ≤ wy.heap.size := by have := by_.size; simpa using this
    have hblky := (hblkx.alloc (.cells #[.int .u8 (48 : UInt8).toNat, .int .u8 (57 : UInt8).toNat] 37)).below by_ (by simp; omega)
    have hcy : Cur wy b s _ := Blk.below (Blk.alloc hcx (.cells #[.int .u8 (48 : UInt8).toNat, .int .u8 (57 : UInt8).toNat] 37)) by_ (by simp; omega)
    have gwy := gb_trans (gb_alloc gwx (.cells #[.int .u8 (48 : UInt8).toNat, .int .u8 (57 : UInt8).toNat] 37)) (gb_below by_ _)
    have HT := Lib.hid ((tree_leaf (k := 1) (c := 1) (by decide) hr 0).mono (Y := fun j => w.heap.size + 1 ≤ j ∧ j < wy.heap.size) fun j hj => ⟨by have := hj.1; omega, hj.2⟩)
    obtain ⟨p0, p1, p2, z0, z1, z2⟩ := blk3 hblky
    clear hr hblky hblkx
    go_wp2
    refine bodyPost_ret (v := .agg #[.int .i64 1, .slice (some ⟨w5.heap.size, 0, none⟩) 1 1, .slice none 0 0]) (by simp [results, Try.results133, go_sem, *]) rfl ?_
    exact node_end HT.out hcy gwy hb0 _ _ _

set_option maxHeartbeats 400000 in
theorem atom_dot (b k : Nat) (s : ByteArray) (w : World) (hc : Cur w b s k) (hk : k ≤ s.size) (hs : s.size ≤ 256) (hsg : signX (restL s k) = 0) (h40 : isB [40] s k = false) (h91 : isB [91] s k = false) (h46 : isB [46] s k = true) :
    Calls Try.prog 133 #[.pointer (some ⟨b, 0, none⟩)] w (NPost w b s k (.ok dotT 1)) := by
    have hsm : s.size ≤ maxLen := by unfold maxLen; omega
    have hb0 : b < w.heap.size := Blk.lt hc
    go_enter Try.func133, Try.ntmps133
    go_wp2_with fail
    refine (at_any b k s _ (Blk.alloc hc _)).mono ?_
    rintro e w0 ⟨rfl, rfl⟩
    go_wp2_with fail
    refine (sign_no b k s _ (Blk.alloc hc _) hk hsm hsg).mono ?_
    rintro e w1 ⟨rfl, hc1, g1⟩
    have hblk1 : Blk w1 w.heap.size 26 _ := (Blk.new w 26 _).grown g1 (by simp; omega)
    have gw1 := gb_trans (gb_alloc (gb_refl w (some b)) _) g1
    clear g1
    go_wp2_with fail
    refine (skip_no b k s ⟨#[40]⟩ _ hc1 hk h40).mono ?_
    rintro e w2 ⟨rfl, hc2, g2⟩
    have hblk2 := hblk1.grown g2 (by simp; omega)
    have gw2 := gb_trans gw1 g2
    clear hc1 gw1 hblk1 g2
    go_wp2_with fail
    refine (skip_no b k s ⟨#[91]⟩ _ hc2 hk h91).mono ?_
    rintro e w3 ⟨rfl, hc3, g3⟩
    have hblk3 := hblk2.grown g3 (by simp; omega)
    have gw3 := gb_trans gw2 g3
    clear hc2 gw2 hblk2 g3
    go_wp2_with fail
    refine (skip_yes b k s ⟨#[46]⟩ _ hc3 hk hsm h46).mono ?_
    rintro e w4 ⟨rfl, hc4, g4⟩
    have hblk4 := hblk3.grown g4 (by simp; omega)
    have gw4 := gb_trans gw3 g4
    clear hc3 gw3 hblk3 g4
    go_wp2_with fail
    refine (xone_any (10 : UInt8) _).mono ?_
    rintro e wx ⟨rfl, bx⟩
    have hblkx := hblk4.below bx hblk4.lt
    have hcx : Cur wx b s _ := Blk.below hc4 bx (Blk.lt hc4)
    have gwx := gb_trans gw4 (gb_below bx _)
    have hbx := hblkx.lt
    clear hblk4 hc4 gw4 bx
    have hr := leaf_new (w4 := wx) 10 10 (Below.refl _ _)
    go_wp2_with fail
    refine (ranges_any _ 1 1 [(10, 10)] true _ (hr.mono fun j hj => hj.2) (by decide)).mono ?_
    rintro e w6 ⟨v6, rfl, o6, b6⟩
    obtain ⟨A6, c6, rfl, _, hm6, r6⟩ := rg_of_own o6
    have hs6 : wx.heap.size + 1 ≤ w6.heap.size := by have := b6.size; simpa using this
    have hblk6 := (hblkx.alloc (.cells #[.int .u8 (10 : UInt8).toNat, .int .u8 (10 : UInt8).toNat] 37)).below b6 (by simp; omega)
    have hc6 : Cur w6 b s _ := Blk.below (Blk.alloc hcx (.cells #[.int .u8 (10 : UInt8).toNat, .int .u8 (10 : UInt8).toNat] 37)) b6 (by simp; omega)
    have gw6 := gb_trans (gb_alloc gwx (.cells #[.int .u8 (10 : UInt8).toNat, .int .u8 (10 : UInt8).toNat] 37)) (gb_below b6 _)
    have R6 := Lib.hid r6
    clear hr o6 hblkx hcx gwx b6 r6
    go_wp2_with fail
    refine (xset_any _ _ _ _).mono ?_
    rintro e wy ⟨rfl, by_⟩
    have hsy := by_.size
    have hblky := hblk6.below by_ hblk6.lt
    have hcy : Cur wy b s _ := Blk.below hc6 by_ (Blk.lt hc6)
    have gwy := gb_trans gw6 (gb_below by_ _)
    have HT := Lib.hid ((tree_leaf (k := 1) (c := c6) hm6 (R6.out.keep (w' := wy) fun j hj => by_.block j hj.2.1) 0).mono (Y := fun j => w.heap.size + 1 ≤ j ∧ j < wy.heap.size) fun j hj => ⟨by have := hj.1; simp at this; omega, by have := hj.2.1; omega⟩)
    obtain ⟨p0, p1, p2, z0, z1, z2⟩ := blk3 hblky
    clear R6 hblky hblk6
    go_wp2
    refine bodyPost_ret (v := .agg #[.int .i64 1, .slice A6 (rangesL [(10, 10)] true).length c6, .slice none 0 0]) (by simp [results, Try.results133, go_sem, *]) rfl ?_
    exact node_end HT.out hcy gwy hb0 _ _ _

theorem st_of {t : List UInt8} {s : ByteArray} {k : Nat} {x : Bool} (h : isB t s k = x) : starts t (restL s k) = x := h
/-- rex.atom, where what reads an alternation one further on is Al. -/
theorem atom_any (Al : List UInt8 → Pr) (b k : Nat) (s : ByteArray) (w : World) (hc : Cur w b s k) (hk : k ≤ s.size) (hs : s.size ≤ 256) (hA : k < s.size → IsAl Al b s (k + 1)) :
    Calls Try.prog 133 #[.pointer (some ⟨b, 0, none⟩)] w (NPost w b s k (atomX Al (restL s k))) := by
  unfold atomX
  by_cases hsg : signX (restL s k) = 0
  · rw [if_neg (by simp [hsg])]
    cases h40 : isB [40] s k with
    | true =>
      have hl := isB_le h40
      simp at hl
      rw [if_pos (st_of h40), rest_drop]
      exact atom_group Al b k s w hc hk hs hsg h40 (hA (by omega))
    | false =>
      rw [if_neg (by rw [st_of h40]; simp)]
      cases h91 : isB [91] s k with
      | true => rw [if_pos (st_of h91), rest_drop]; exact atom_class b k s w hc hk hs hsg h40 h91
      | false =>
        rw [if_neg (by rw [st_of h91]; simp)]
        cases h46 : isB [46] s k with
        | true => rw [if_pos (st_of h46)]; exact atom_dot b k s w hc hk hs hsg h40 h91 h46
        | false =>
          rw [if_neg (by rw [st_of h46]; simp)]
          cases hd : isB [92, 100] s k with
          | true => rw [if_pos (st_of hd)]; exact atom_digit b k s w hc hk hs hsg h40 h91 h46 hd
          | false =>
            rw [if_neg (by rw [st_of hd]; simp)]
            cases hl : letterX (restL s k) with
            | ok c n => exact atom_letter b k s w hc hk hs hsg h40 h91 h46 hd hl
            | err c n => exact atom_lerr b k s w hc hk hs hsg h40 h91 h46 hd hl
  · rw [if_pos hsg]
    exact atom_sign b k s w hc hk hs hsg
end Go.Proofs.Ytjnhmcgjeljcmaa
