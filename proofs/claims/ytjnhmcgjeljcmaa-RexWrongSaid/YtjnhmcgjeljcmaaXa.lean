/- rex.atom. -/
import Derived.Test.YtjnhmcgjeljcmaaXg
namespace Go.Proofs.Ytjnhmcgjeljcmaa
open Go.RowKit

theorem sign_no (b k : Nat) (s : ByteArray) (w : World) (hc : Cur w b s k) (hk : k ≤ s.size) (hs : s.size ≤ maxLen) (h : signX (restL s k) = 0) :
    Calls Try.prog 134 #[.pointer (some ⟨b, 0, none⟩)] w fun e w' => e = .returned (.int .i64 0) ∧ Cur w' b s k ∧ w.grownBy w' (some b) := by
  have := sign_any b k s w hc hk hs
  unfold signN at this
  rw [h, if_pos rfl] at this
  exact this
theorem sign_yes (b k : Nat) (s : ByteArray) (w : World) (hc : Cur w b s k) (hk : k ≤ s.size) (hs : s.size ≤ maxLen) (h : signX (restL s k) ≠ 0) :
    Calls Try.prog 134 #[.pointer (some ⟨b, 0, none⟩)] w fun e w' => e = .returned (.int .i64 (signX (restL s k))) ∧ Cur w' b s (k + 1) ∧ w.grownBy w' (some b) := by
  have := sign_any b k s w hc hk hs
  unfold signN at this
  rw [if_neg h] at this
  exact this
theorem node_end {w w2 : World} {b k2 d m c m' c' : Nat} {s : ByteArray} {kk : Int} {A A' : Option Addr} {t : Tr} (hT : TreeAt w2 (fun j => w.heap.size + 1 ≤ j ∧ j < w2.heap.size) d t [.int .i64 kk, .slice A m c, .slice A' m' c'])
    (hc2 : Cur w2 b s k2) (gw2 : w.grownBy w2 (some b)) (hb0 : b < w.heap.size) (v0 v1 v2 : Value) :
    NodeRes w t (.returned (.agg #[.int .i64 kk, .slice A m c, .slice A' m' c'])) (((w2.setCell ⟨w.heap.size, 0, none⟩ v0).setCell ⟨w.heap.size, 1, none⟩ v1).setCell ⟨w.heap.size, 2, none⟩ v2) ∧
    Cur (((w2.setCell ⟨w.heap.size, 0, none⟩ v0).setCell ⟨w.heap.size, 1, none⟩ v1).setCell ⟨w.heap.size, 2, none⟩ v2) b s k2 ∧ w.grownBy (((w2.setCell ⟨w.heap.size, 0, none⟩ v0).setCell ⟨w.heap.size, 1, none⟩ v1).setCell ⟨w.heap.size, 2, none⟩ v2) (some b) := by
  refine ⟨⟨d, kk, A, m, c, A', m', c', rfl, ?_⟩, ?_, ?_⟩
  refine (hT.keep (w' := ((w2.setCell ⟨w.heap.size, 0, none⟩ v0).setCell ⟨w.heap.size, 1, none⟩ v1).setCell ⟨w.heap.size, 2, none⟩ v2) fun j hj => ?_).mono fun j hj => ⟨?_, ?_⟩
  · have : j ≠ w.heap.size := by have := hj.1; omega
    rw [Below.heap_setCell _ _ _ _ this, Below.heap_setCell _ _ _ _ this, Below.heap_setCell _ _ _ _ this]
  · have := hj.1; omega
  · simp [World.setCell]; have := hj.2; omega
  · exact ((Blk.far hc2 (by simp; omega) _).far (by simp; omega) _).far (by simp; omega) _
  · exact gb_set (gb_set (gb_set gw2 (.inr (Nat.le_refl _)) _) (.inr (Nat.le_refl _)) _) (.inr (Nat.le_refl _)) _

set_option maxHeartbeats 400000 in
theorem atom_group (Al : List UInt8 → Pr) (b k : Nat) (s : ByteArray) (w : World) (hc : Cur w b s k) (hk : k ≤ s.size) (hs : s.size ≤ 256) (hsg : signX (restL s k) = 0) (h40 : isB [40] s k = true) (hA : IsAl Al b s (k + 1)) :
    Calls Try.prog 133 #[.pointer (some ⟨b, 0, none⟩)] w (NPost w b s k ((groupX Al (restL s (k + 1))).shift 1)) := by
    have hsm : s.size ≤ maxLen := by unfold maxLen; omega
    have hb0 : b < w.heap.size := Blk.lt hc
    have hl := isB_le h40
    simp at hl
    go_enter Try.func133, Try.ntmps133
    go_wp2_with fail
    refine (at_any b k s _ (Blk.alloc hc _)).mono ?_
    rintro e w0 ⟨rfl, rfl⟩
    go_wp2_with fail
    refine (sign_no b k s _ (Blk.alloc hc _) hk hsm hsg).mono ?_
    rintro e w1 ⟨rfl, hc1, g1⟩
    have hblk1 : Blk w1 w.heap.size 26 _ := (Blk.new w 26 _).grown g1 (by simp; omega)
    have gw1 := gb_trans (gb_alloc (gb_refl w (some b)) _) g1
    clear g1
    go_wp2_with fail
    refine (skip_yes b k s ⟨#[40]⟩ _ hc1 hk hsm h40).mono ?_
    rintro e w2 ⟨rfl, hc2, g2⟩
    have hblk2 := hblk1.grown g2 (by simp; omega)
    have gw2 := gb_trans gw1 g2
    clear hc1 gw1 hblk1 g2
    go_wp2_with fail
    refine (group_any Al b (k + 1) s _ hc2 (by omega) hs hA).mono ?_
    intro e wx hp
    have hszx : w.heap.size + 1 ≤ w2.heap.size := hblk2.lt
    cases hR : groupX Al (restL s (k + 1)) with
    | err c o =>
      obtain ⟨he, gx⟩ := hp.err_ hR
      rw [Nat.add_assoc] at he
      subst he
      clear hp hR
      go_wp2
      exact ⟨rfl, rfl, gb_trans gw2 gx⟩
    | ok t n =>
      obtain ⟨⟨d, kk, A, m, c, A', m', c', rfl, ht⟩, hcx, gx⟩ := hp.ok_ hR
      have HRes := Lib.hid hR
      clear hp hR
      have hblkx := hblk2.grown gx (by simp; omega)
      obtain ⟨p0, p1, p2, z0, z1, z2⟩ := blk3 hblkx
      have HT := Lib.hid (ht.mono (Y := fun j => w.heap.size + 1 ≤ j ∧ j < wx.heap.size) fun j hj => ⟨by have := hj.1; omega, hj.2⟩)
      have gwx := gb_trans gw2 gx
      clear ht hblkx gx
      go_wp2
      refine bodyPost_ret (v := .agg #[.int .i64 kk, .slice A m c, .slice A' m' c']) (by simp [results, Try.results133, go_sem, *]) rfl ?_
      have := node_end HT.out hcx gwx hb0 (.int .i64 kk) (.slice A m c) (.slice A' m' c')
      rw [Nat.add_assoc] at this
      rw [HRes.out]
      exact this

set_option maxHeartbeats 400000 in
theorem atom_class (b k : Nat) (s : ByteArray) (w : World) (hc : Cur w b s k) (hk : k ≤ s.size) (hs : s.size ≤ 256) (hsg : signX (restL s k) = 0) (h40 : isB [40] s k = false) (h91 : isB [91] s k = true) :
    Calls Try.prog 133 #[.pointer (some ⟨b, 0, none⟩)] w (NPost w b s k ((classX (restL s (k + 1))).shift 1)) := by
    have hsm : s.size ≤ maxLen := by unfold maxLen; omega
    have hb0 : b < w.heap.size := Blk.lt hc
    have hl := isB_le h91
    simp at hl
    go_enter Try.func133, Try.ntmps133
    go_wp2_with fail
    refine (at_any b k s _ (Blk.alloc hc _)).mono ?_
    rintro e w0 ⟨rfl, rfl⟩
    go_wp2_with fail
    refine (sign_no b k s _ (Blk.alloc hc _) hk hsm hsg).mono ?_
    rintro e w1 ⟨rfl, hc1, g1⟩
    have hblk1 : Blk w1 w.heap.size 26 _ := (Blk.new w 26 _).grown g1 (by simp; omega)
    have gw1 := gb_trans (gb_alloc (gb_refl w (some b)) _) g1
    clear g1
    go_wp2_with fail
    refine (skip_no b k s ⟨#[40]⟩ _ hc1 hk h40).mono ?_
    rintro e w2 ⟨rfl, hc2, g2⟩
    have hblk2 := hblk1.grown g2 (by simp; omega)
    have gw2 := gb_trans gw1 g2
    clear hc1 gw1 hblk1 g2
    go_wp2_with fail
    refine (skip_yes b k s ⟨#[91]⟩ _ hc2 hk hsm h91).mono ?_
    rintro e w3 ⟨rfl, hc3, g3⟩
    have hblk3 := hblk2.grown g3 (by simp; omega)
    have gw3 := gb_trans gw2 g3
    clear hc2 gw2 hblk2 g3
    go_wp2_with fail
    refine (xclass_any b (k + 1) s _ hc3 (by omega) hs).mono ?_
    intro e wx hp
    have hszx : w.heap.size + 1 ≤ w3.heap.size := hblk3.lt
    cases hR : classX (restL s (k + 1)) with
    | err c o =>
      obtain ⟨he, gx⟩ := hp.err_ hR
      rw [Nat.add_assoc] at he
      subst he
      clear hp hR
      go_wp2
      exact ⟨rfl, rfl, gb_trans gw3 gx⟩
    | ok t n =>
      obtain ⟨⟨d, kk, A, m, c, A', m', c', rfl, ht⟩, hcx, gx⟩ := hp.ok_ hR
      have HRes := Lib.hid hR
      clear hp hR
      have hblkx := hblk3.grown gx (by simp; omega)
      obtain ⟨p0, p1, p2, z0, z1, z2⟩ := blk3 hblkx
      have HT := Lib.hid (ht.mono (Y := fun j => w.heap.size + 1 ≤ j ∧ j < wx.heap.size) fun j hj => ⟨by have := hj.1; omega, hj.2⟩)
      have gwx := gb_trans gw3 gx
      clear ht hblkx gx
      go_wp2
      refine bodyPost_ret (v := .agg #[.int .i64 kk, .slice A m c, .slice A' m' c']) (by simp [results, Try.results133, go_sem, *]) rfl ?_
      have := node_end HT.out hcx gwx hb0 (.int .i64 kk) (.slice A m c) (.slice A' m' c')
      rw [Nat.add_assoc] at this
      rw [HRes.out]
      exact this

set_option maxHeartbeats 400000 in
theorem atom_sign (b k : Nat) (s : ByteArray) (w : World) (hc : Cur w b s k) (hk : k ≤ s.size) (hs : s.size ≤ 256) (hsg : signX (restL s k) ≠ 0) :
    Calls Try.prog 133 #[.pointer (some ⟨b, 0, none⟩)] w (NPost w b s k (.err 30 0)) := by
    have hsm : s.size ≤ maxLen := by unfold maxLen; omega
    have hb0 : b < w.heap.size := Blk.lt hc
    have hv : (signX (restL s k) != 0) = true := by simpa using hsg
    have HY := Lib.hid (fun W hW => sign_yes b k s W hW hk hsm hsg)
    clear hsg
    generalize signX (restL s k) = v at *
    go_enter Try.func133, Try.ntmps133
    go_wp2_with fail
    refine (at_any b k s _ (Blk.alloc hc _)).mono ?_
    rintro e w0 ⟨rfl, rfl⟩
    go_wp2_with fail
    refine (HY.out _ (Blk.alloc hc _)).mono ?_
    rintro e w1 ⟨rfl, hc1, g1⟩
    go_wp2
    exact ⟨rfl, rfl, gb_trans (gb_alloc (gb_refl w (some b)) _) g1⟩
end Go.Proofs.Ytjnhmcgjeljcmaa
