/- glob.piece. -/
import Derived.Test.YtjnhmcgjeljcmaaGk
namespace Go.Proofs.Ytjnhmcgjeljcmaa
open Go.RowKit

theorem NPost.ok_ {w : World} {b k n : Nat} {s : ByteArray} {r : Pr} {t : Tr} {e : Ending} {w' : World} (h : NPost w b s k r e w') (hr : r = .ok t n) :
    NodeRes w t e w' ∧ Cur w' b s (k + n) ∧ w.grownBy w' (some b) := by subst hr; exact h
theorem NPost.err_ {w : World} {b k n : Nat} {s : ByteArray} {r : Pr} {c : Int} {e : Ending} {w' : World} (h : NPost w b s k r e w') (hr : r = .err c n) :
    e = flawE c (k + n) ∧ w.grownBy w' (some b) := by subst hr; exact h
/-- The tree stands when the result's variable is written. -/
theorem tree_store {w w1 w2 : World} {d : Nat} {t : Tr} {cs : List Value} {g : Nat} {x y z : Value} (h : TreeAt w2 (Fresh w1 w2) d t cs) (hg : w.heap.size ≤ w1.heap.size) (hne : g < w1.heap.size) :
    TreeAt (((w2.setCell ⟨g, 0, none⟩ x).setCell ⟨g, 1, none⟩ y).setCell ⟨g, 2, none⟩ z) (Fresh w (((w2.setCell ⟨g, 0, none⟩ x).setCell ⟨g, 1, none⟩ y).setCell ⟨g, 2, none⟩ z)) d t cs := by
  refine (h.keep (w' := ((w2.setCell ⟨g, 0, none⟩ x).setCell ⟨g, 1, none⟩ y).setCell ⟨g, 2, none⟩ z) fun b hb => ?_).mono fun b hb => ⟨?_, ?_⟩
  · have : b ≠ g := by have := hb.1; omega
    rw [Below.heap_setCell _ _ _ _ this, Below.heap_setCell _ _ _ _ this, Below.heap_setCell _ _ _ _ this]
  · have := hb.1; omega
  · simp [World.setCell]; exact hb.2
theorem cur_store {w : World} {b k g : Nat} {s : ByteArray} {x y z : Value} (h : Cur w b s k) (hne : b ≠ g) : Cur (((w.setCell ⟨g, 0, none⟩ x).setCell ⟨g, 1, none⟩ y).setCell ⟨g, 2, none⟩ z) b s k :=
  ((Blk.far h hne _).far hne _).far hne _
theorem gb_store {a w : World} {b g : Nat} {x y z : Value} (h : a.grownBy w (some b)) (hg : a.heap.size ≤ g) : a.grownBy (((w.setCell ⟨g, 0, none⟩ x).setCell ⟨g, 1, none⟩ y).setCell ⟨g, 2, none⟩ z) (some b) :=
  gb_set (gb_set (gb_set h (.inr hg) _) (.inr hg) _) (.inr hg) _

/-- A node of one kid: the kid lies in a new block. -/
theorem star_tree {w1 w3 : World} {d : Nat} {t : Tr} {v0 v1 v2 : Value} (k : Int) (ht : TreeAt w3 (Fresh w1 w3) d t [v0, v1, v2]) (hs : w1.heap.size ≤ w3.heap.size) :
    TreeAt (w3.alloc (.cells #[v0, v1, v2] 26)) (Fresh w1 (w3.alloc (.cells #[v0, v1, v2] 26))) (d + 1) (.mk k [] [t]) [.int .i64 k, .slice none 0 0, .slice (some ⟨w3.heap.size, 0, none⟩) 1 1] := by
  refine ⟨none, 0, 0, _, 1, 1, rfl, Nat.zero_le _, ⟨by decide, Nat.le_refl _⟩, RgAt.nil _ _ _, rfl, fun _ => ⟨w3.heap.size, 0, rfl, ⟨hs, by simp⟩, fun i t' hi => ?_⟩⟩
  obtain ⟨p0, p1, p2, _, _, _⟩ := blk3 (Blk.new w3 26 #[v0, v1, v2])
  match i, hi with
  | 0, hi =>
    simp at hi; subst hi
    refine ⟨v0, v1, v2, p0, p1, p2, (ht.keep fun b hb => Below.heap_alloc _ _ _ hb.2).mono fun b hb => ⟨hb.1, by have := hb.2; simp; omega⟩⟩
set_option maxHeartbeats 1000000 in
set_option maxRecDepth 100000 in
theorem piece_any (b k : Nat) (s : ByteArray) (w : World) (hc : Cur w b s k) (hk : k ≤ s.size) (hs : s.size ≤ 256) :
    Calls Try.prog 120 #[.pointer (some ⟨b, 0, none⟩)] w (NPost w b s k (pieceG (restL s k))) := by
  have hsm : s.size ≤ maxLen := by unfold maxLen; omega
  have hb0 : b < w.heap.size := Blk.lt hc
  cases h63 : isB [63] s k
  · cases h42 : isB [42] s k
    · cases h91 : isB [91] s k
      · -- a letter
        have hp : pieceG (restL s k) = match letterG (restL s k) with | .ok c n => .ok (.mk 1 [(c, c)] []) n | .err c o => .err c o := by
          unfold pieceG
          rw [if_neg (by rw [← preB_starts]; unfold isB at h63; rw [h63]; simp), if_neg (by rw [← preB_starts]; unfold isB at h42; rw [h42]; simp), if_neg (by rw [← preB_starts]; unfold isB at h91; rw [h91]; simp)]
          rfl
        rw [hp]
        clear hp
        cases hl : letterG (restL s k) with
        | err c o =>
          have HL := Lib.hid hl
          clear hl
          go_enter Try.func120, Try.ntmps120
          go_wp2_with fail
          refine (skip_no b k s ⟨#[63]⟩ _ (Blk.alloc hc _) hk h63).mono ?_
          rintro e w1 ⟨rfl, hc1, g1⟩
          go_wp2_with fail
          refine (skip_no b k s ⟨#[42]⟩ _ hc1 hk h42).mono ?_
          rintro e w2 ⟨rfl, hc2, g2⟩
          go_wp2_with fail
          refine (skip_no b k s ⟨#[91]⟩ _ hc2 hk h91).mono ?_
          rintro e w3 ⟨rfl, hc3, g3⟩
          go_wp2_with fail
          refine (gLetter_any b k s _ hc3 hk hsm).mono ?_
          intro e w4 hp
          obtain ⟨rfl, g4⟩ := hp.err_ HL.out
          go_wp2
          exact ⟨rfl, rfl, gb_trans (gb_trans (gb_trans (gb_trans (gb_alloc (gb_refl w _) _) g1) g2) g3) g4⟩
        | ok c n =>
          have HL := Lib.hid hl
          clear hl
          go_enter Try.func120, Try.ntmps120
          go_wp2_with fail
          refine (skip_no b k s ⟨#[63]⟩ _ (Blk.alloc hc _) hk h63).mono ?_
          rintro e w1 ⟨rfl, hc1, g1⟩
          go_wp2_with fail
          refine (skip_no b k s ⟨#[42]⟩ _ hc1 hk h42).mono ?_
          rintro e w2 ⟨rfl, hc2, g2⟩
          go_wp2_with fail
          refine (skip_no b k s ⟨#[91]⟩ _ hc2 hk h91).mono ?_
          rintro e w3 ⟨rfl, hc3, g3⟩
          go_wp2_with fail
          refine (gLetter_any b k s _ hc3 hk hsm).mono ?_
          intro e w4 hp
          obtain ⟨rfl, hc4, g4⟩ := hp.ok_ HL.out
          have gx := gb_trans (gb_trans (gb_trans g1 g2) g3) g4
          have hblk : Blk w4 w.heap.size 26 _ := (Blk.new w 26 _).grown gx (by simp; omega)
          have gw := gb_trans (gb_alloc (gb_refl w (some b)) _) gx
          have hlt4 := hblk.lt
          clear g1 g2 g3 g4 gx hc1 hc2 hc3
          go_wp2_with fail
          refine (set_any _ _ _ _).mono ?_
          rintro e w5 ⟨rfl, b5⟩
          have hr : RgAt w5 (Fresh w4 w5) (some ⟨w4.heap.size, 0, none⟩) 1 [(c, c)] := by
            refine ⟨rfl, fun _ => ⟨w4.heap.size, 0, rfl, ⟨Nat.le_refl _, by have := b5.size; simp at this; omega⟩, fun i r hr => ?_⟩⟩
            obtain ⟨p0, p1, _, _⟩ := blk2 ((Blk.new w4 37 #[.int .u8 c.toNat, .int .u8 c.toNat]).below b5 (by simp))
            match i, hr with
            | 0, hr => simp at hr; subst hr; exact ⟨p0, p1⟩
          have hblk5 := (hblk.alloc (.cells #[.int .u8 c.toNat, .int .u8 c.toNat] 37)).below b5 (by simp; omega)
          have hc5 : Cur w5 b s _ := Blk.below (Blk.alloc hc4 (.cells #[.int .u8 c.toNat, .int .u8 c.toNat] 37)) b5 (by simp; omega)
          have gw5 := gb_trans (gb_alloc gw (.cells #[.int .u8 c.toNat, .int .u8 c.toNat] 37)) (gb_below b5 _)
          have HT := Lib.hid (tree_leaf (k := 1) (c := 1) (by decide) hr 0)
          obtain ⟨p0, p1, p2, z0, z1, z2⟩ := blk3 hblk5
          clear hr hblk hblk5
          go_wp2
          refine bodyPost_ret (v := .agg #[.int .i64 1, .slice (some ⟨w4.heap.size, 0, none⟩) 1 1, .slice none 0 0]) (by simp [results, Try.results120, go_sem, *]) rfl ⟨⟨1, 1, _, _, _, none, 0, 0, rfl, ?_⟩, ?_, ?_⟩
          · exact tree_store (w := w) (w1 := w4) HT.out (by omega) hlt4
          · exact cur_store hc5 (by omega)
          · exact gb_store gw5 (Nat.le_refl _)
      · -- a class
        have hl := isB_le h91
        simp at hl
        have hp : pieceG (restL s k) = (classP letterG 33 (restL s (k + 1))).shift 1 := by
          unfold pieceG
          rw [if_neg (by rw [← preB_starts]; unfold isB at h63; rw [h63]; simp), if_neg (by rw [← preB_starts]; unfold isB at h42; rw [h42]; simp), if_pos (by rw [← preB_starts]; exact h91), rest_drop]
        rw [hp]
        clear hp
        cases hcl : classP letterG 33 (restL s (k + 1)) with
        | err c o =>
          have HL := Lib.hid hcl
          clear hcl
          go_enter Try.func120, Try.ntmps120
          go_wp2_with fail
          refine (skip_no b k s ⟨#[63]⟩ _ (Blk.alloc hc _) hk h63).mono ?_
          rintro e w1 ⟨rfl, hc1, g1⟩
          go_wp2_with fail
          refine (skip_no b k s ⟨#[42]⟩ _ hc1 hk h42).mono ?_
          rintro e w2 ⟨rfl, hc2, g2⟩
          go_wp2_with fail
          refine (skip_yes b k s ⟨#[91]⟩ _ hc2 hk hsm h91).mono ?_
          rintro e w3 ⟨rfl, hc3, g3⟩
          go_wp2_with fail
          refine (class_any b (k + 1) s _ hc3 (by omega) hs).mono ?_
          intro e w4 hp
          obtain ⟨rfl, g4⟩ := hp.err_ HL.out
          go_wp2
          exact ⟨rfl, flaw_eq (show k + 1 + o = k + (1 + o) by omega), gb_trans (gb_trans (gb_trans (gb_trans (gb_alloc (gb_refl w _) _) g1) g2) g3) g4⟩
        | ok t n =>
          have HL := Lib.hid hcl
          clear hcl
          go_enter Try.func120, Try.ntmps120
          go_wp2_with fail
          refine (skip_no b k s ⟨#[63]⟩ _ (Blk.alloc hc _) hk h63).mono ?_
          rintro e w1 ⟨rfl, hc1, g1⟩
          go_wp2_with fail
          refine (skip_no b k s ⟨#[42]⟩ _ hc1 hk h42).mono ?_
          rintro e w2 ⟨rfl, hc2, g2⟩
          go_wp2_with fail
          refine (skip_yes b k s ⟨#[91]⟩ _ hc2 hk hsm h91).mono ?_
          rintro e w3 ⟨rfl, hc3, g3⟩
          go_wp2_with fail
          refine (class_any b (k + 1) s _ hc3 (by omega) hs).mono ?_
          intro e w4 hp
          obtain ⟨⟨d, kk, A, nn, cc, A', n', c', rfl, ht⟩, hc4, g4⟩ := hp.ok_ HL.out
          have gx := gb_trans (gb_trans g1 g2) g3
          have hblk3 : Blk w3 w.heap.size 26 _ := (Blk.new w 26 _).grown gx (by simp; omega)
          have hlt3 := hblk3.lt
          have hblk4 := hblk3.grown g4 (by simp; omega)
          have gw := gb_trans (gb_trans (gb_alloc (gb_refl w (some b)) _) gx) g4
          have HT := Lib.hid ht
          obtain ⟨p0, p1, p2, z0, z1, z2⟩ := blk3 hblk4
          clear g1 g2 g3 gx hc1 hc2 hc3 ht hblk3 hblk4 hp
          go_wp2
          refine bodyPost_ret (v := .agg #[.int .i64 kk, .slice A nn cc, .slice A' n' c']) (by simp [results, Try.results120, go_sem, *]) rfl ⟨⟨d, kk, A, nn, cc, A', n', c', rfl, ?_⟩, ?_, ?_⟩
          · exact tree_store (w := w) (w1 := w3) HT.out (by omega) hlt3
          · rw [show k + (1 + n) = k + 1 + n by omega]; exact cur_store hc4 (by omega)
          · exact gb_store gw (Nat.le_refl _)
    · -- a star
      have hl := isB_le h42
      simp at hl
      have hp : pieceG (restL s k) = .ok (.mk 4 [] [anyT]) 1 := by
        unfold pieceG
        rw [if_neg (by rw [← preB_starts]; unfold isB at h63; rw [h63]; simp), if_pos (by rw [← preB_starts]; exact h42)]
      rw [hp]
      clear hp
      go_enter Try.func120, Try.ntmps120
      go_wp2_with fail
      refine (skip_no b k s ⟨#[63]⟩ _ (Blk.alloc hc _) hk h63).mono ?_
      rintro e w1 ⟨rfl, hc1, g1⟩
      go_wp2_with fail
      refine (skip_yes b k s ⟨#[42]⟩ _ hc1 hk hsm h42).mono ?_
      rintro e w2 ⟨rfl, hc2, g2⟩
      go_wp2_with fail
      refine (any_any _).mono ?_
      rintro e w3 ⟨⟨d, kk, A, nn, cc, A', n', c', rfl, ht⟩, b3⟩
      have gx := gb_trans g1 g2
      have hblk2 : Blk w2 w.heap.size 26 _ := (Blk.new w 26 _).grown gx (by simp; omega)
      have hlt2 := hblk2.lt
      have hblk3 := hblk2.below b3 hlt2
      have hc3 : Cur w3 b s _ := Blk.below hc2 b3 (Blk.lt hc2)
      have gw := gb_trans (gb_trans (gb_alloc (gb_refl w (some b)) _) gx) (gb_below b3 _)
      have hs3 := b3.size
      have HT := Lib.hid ht
      obtain ⟨p0, p1, p2, z0, z1, z2⟩ := blk3 hblk3
      have hlt3 := hblk3.lt
      clear g1 g2 gx hc1 hc2 ht hblk2 hblk3
      go_wp2
      refine bodyPost_ret (v := .agg #[.int .i64 4, .slice none 0 0, .slice (some ⟨w3.heap.size, 0, none⟩) 1 1]) (by simp [results, Try.results120, go_sem, *]) rfl ⟨⟨d + 1, 4, none, 0, 0, some ⟨w3.heap.size, 0, none⟩, 1, 1, rfl, ?_⟩, ?_, ?_⟩
      · have h1 := tree_store (w := w2) (w1 := w2) (x := .int .i64 4) (y := .slice none 0 0) (z := .slice (some ⟨w3.heap.size, 0, none⟩) 1 1) HT.out (Nat.le_refl _) hlt2
        have h2 := star_tree (w1 := w2) 4 h1 (by simp [World.setCell]; omega)
        rw [show (((w3.setCell ⟨w.heap.size, 0, none⟩ (.int .i64 4)).setCell ⟨w.heap.size, 1, none⟩ (.slice none 0 0)).setCell ⟨w.heap.size, 2, none⟩ (.slice (some ⟨w3.heap.size, 0, none⟩) 1 1)).heap.size = w3.heap.size by simp [World.setCell]] at h2
        exact h2.mono fun b hb => ⟨by have := hb.1; omega, hb.2⟩
      · exact Blk.alloc (cur_store hc3 (by omega)) _
      · exact gb_alloc (gb_store gw (Nat.le_refl _)) _
  · have hl := isB_le h63
    simp at hl
    have hp : pieceG (restL s k) = .ok anyT 1 := by
      unfold pieceG
      rw [if_pos (by rw [← preB_starts]; exact h63)]
    rw [hp]
    clear hp
    go_enter Try.func120, Try.ntmps120
    go_wp2_with fail
    refine (skip_yes b k s ⟨#[63]⟩ _ (Blk.alloc hc _) hk hsm h63).mono ?_
    rintro e w1 ⟨rfl, hc1, g1⟩
    go_wp2_with fail
    refine (any_any _).mono ?_
    rintro e w3 ⟨⟨d, kk, A, nn, cc, A', n', c', rfl, ht⟩, b3⟩
    have hblk1 : Blk w1 w.heap.size 26 _ := (Blk.new w 26 _).grown g1 (by simp; omega)
    have hlt1 := hblk1.lt
    have hblk3 := hblk1.below b3 hlt1
    have hc3 : Cur w3 b s _ := Blk.below hc1 b3 (Blk.lt hc1)
    have gw := gb_trans (gb_trans (gb_alloc (gb_refl w (some b)) _) g1) (gb_below b3 _)
    have HT := Lib.hid ht
    obtain ⟨p0, p1, p2, z0, z1, z2⟩ := blk3 hblk3
    clear g1 hc1 ht hblk1 hblk3
    go_wp2
    refine bodyPost_ret (v := .agg #[.int .i64 kk, .slice A nn cc, .slice A' n' c']) (by simp [results, Try.results120, go_sem, *]) rfl ⟨⟨d, kk, A, nn, cc, A', n', c', rfl, ?_⟩, ?_, ?_⟩
    · exact tree_store (w := w) (w1 := w1) HT.out (by omega) hlt1
    · exact cur_store hc3 (by omega)
    · exact gb_store gw (Nat.le_refl _)
end Go.Proofs.Ytjnhmcgjeljcmaa
