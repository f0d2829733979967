/- rex.whole, rex.Parse; the examples of Parse (parsing). -/
import Derived.Test.YtjnhmcgjeljcmaaXt
import Derived.Test.YtjnhmcgjeljcmaaXv
namespace Go.Proofs.Ytjnhmcgjeljcmaa
open Go.RowKit


set_option maxHeartbeats 400000 in
theorem whole_any (b : Nat) (s : ByteArray) (w : World) (hc : Cur w b s 0) (hs : s.size ≤ 256) :
    Calls Try.prog 35 #[.pointer (some ⟨b, 0, none⟩)] w (WPost w b (wholeW s.data.toList)) := by
  have hsm : s.size ≤ maxLen := by unfold maxLen; omega
  have hb0 : b < w.heap.size := Blk.lt hc
  have hA := isAl_any b s hs (s.size + 1) 0 (Nat.zero_le _) (by omega)
  have HA := Lib.hid hA.1
  have hlen : s.data.toList.length = s.size := rfl
  have h0 : restL s 0 = s.data.toList := rfl
  unfold wholeW wholeX
  rw [hlen, ← h0]
  cases hl : altX (s.size + 1) (restL s 0) with
  | err c o =>
    have HL := Lib.hid hl
    clear hl hA
    go_enter Try.func35, Try.ntmps35
    go_wp2_with fail
    refine (HA.out _ (Blk.alloc hc _)).mono ?_
    intro e w1 hp
    obtain ⟨he, g1⟩ := hp.err_ HL.out
    rw [Nat.zero_add] at he
    subst he
    clear hp
    go_wp2
    exact ⟨rfl, rfl, gb_trans (gb_alloc (gb_refl _ _) _) g1⟩
  | ok t n =>
    have hn := hA.2 _ _ hl
    rw [Nat.zero_add] at hn
    have HL := Lib.hid hl
    clear hl hA
    simp only
    by_cases hov : n = s.size
    · rw [if_pos hov]
      have ho : overB s (0 + n) = true := by simp [overB, hov]
      go_enter Try.func35, Try.ntmps35
      go_wp2_with fail
      refine (HA.out _ (Blk.alloc hc _)).mono ?_
      intro e w1 hp
      obtain ⟨⟨d, kk, A, m, c, A', m', c', rfl, ht⟩, hc1, g1⟩ := hp.ok_ HL.out
      clear hp
      have gw := gb_trans (gb_alloc (gb_refl w (some b)) _) g1
      have hlt1 : w.heap.size + 1 ≤ w1.heap.size := by have := g1.size; simpa using this
      have hblk : Blk w1 w.heap.size 26 _ := (Blk.new w 26 _).grown g1 (by simp; omega)
      have HT := Lib.hid ht
      clear ht g1
      go_wp2_with fail
      refine (over_any b (0 + n) s _ (Blk.alloc hc1 _)).mono ?_
      rintro e w2 ⟨rfl, nq, rfl⟩
      rw [ho]
      have hblkN : Blk (w1.alloc (.cells #[.int .i64 kk, .slice A m c, .slice A' m' c'] 26)) w1.heap.size 26 _ := Blk.new w1 26 _
      obtain ⟨p0, p1, p2, z0, z1, z2⟩ := blk3 ((hblk.alloc (.cells #[.int .i64 kk, .slice A m c, .slice A' m' c'] 26)).drewN nq)
      obtain ⟨q0, q1, q2, y0, y1, y2⟩ := blk3 (hblkN.drewN nq)
      have gw2 := gb_drewN (gb_alloc gw (.cells #[.int .i64 kk, .slice A m c, .slice A' m' c'] 26)) nq
      have HT2 := Lib.hid (HT.out.keep (w' := (w1.alloc (.cells #[.int .i64 kk, .slice A m c, .slice A' m' c'] 26)).drewN nq) fun j hj => Below.heap_alloc _ _ _ hj.2)
      clear HT hblk hblkN
      go_wp2
      refine bodyPost_ret (v := .agg #[.int .i64 kk, .slice A m c, .slice A' m' c']) (by simp [results, Try.results35, go_sem, *]) rfl ⟨⟨d, kk, A, m, c, A', m', c', rfl, ?_⟩, ?_⟩
      · refine (HT2.out.keep (w' := ((((w1.alloc (.cells #[.int .i64 kk, .slice A m c, .slice A' m' c'] 26)).drewN nq).setCell ⟨w.heap.size, 0, none⟩ _).setCell ⟨w.heap.size, 1, none⟩ _).setCell ⟨w.heap.size, 2, none⟩ _) fun j hj => ?_).mono fun j hj => ⟨?_, ?_⟩
        · have : j ≠ w.heap.size := by have := hj.1; simp at this; omega
          rw [Below.heap_setCell _ _ _ _ this, Below.heap_setCell _ _ _ _ this, Below.heap_setCell _ _ _ _ this]
        · have := hj.1; simp at this; omega
        · simp [World.setCell]; have := hj.2; omega
      · exact gb_set (gb_set (gb_set gw2 (.inr (Nat.le_refl _)) _) (.inr (Nat.le_refl _)) _) (.inr (Nat.le_refl _)) _
    · rw [if_neg hov]
      have ho : overB s (0 + n) = false := by simp [overB, hov]
      go_enter Try.func35, Try.ntmps35
      go_wp2_with fail
      refine (HA.out _ (Blk.alloc hc _)).mono ?_
      intro e w1 hp
      obtain ⟨⟨d, kk, A, m, c, A', m', c', rfl, ht⟩, hc1, g1⟩ := hp.ok_ HL.out
      clear hp ht
      have gw := gb_trans (gb_alloc (gb_refl w (some b)) _) g1
      go_wp2_with fail
      refine (over_any b (0 + n) s _ (Blk.alloc hc1 _)).mono ?_
      rintro e w2 ⟨rfl, nq, rfl⟩
      rw [ho]
      go_wp2_with fail
      refine (at_any b (0 + n) s _ ((Blk.alloc hc1 _).drewN nq)).mono ?_
      rintro e w3 ⟨rfl, rfl⟩
      go_wp2
      exact ⟨rfl, rfl, gb_drewN (gb_alloc gw _) _⟩
theorem whole_is : IsParser 35 wholeW := ⟨fun args W => by kernel_rfl, fun b s w hc hs => whole_any b s w hc hs⟩
set_option maxHeartbeats 400000 in
theorem xparse_any (s : ByteArray) (w : World) : Calls Try.prog 16 #[.string s] w (TreePost w (parseX s.data.toList)) := by
  unfold parseX
  go_enter Try.func16, Try.ntmps16
  go_wp2_with fail
  refine (tree_any 35 wholeW whole_is s _).mono ?_
  rintro e w1 ⟨d, k, A, n, c, A', n', c', rfl, ht, hb⟩
  obtain ⟨p0, p1, p2, f0, f1, f2⟩ := blk3 ((Blk.new w 26 _).below hb (by simp))
  have HT := Lib.hid ht
  have hb1 : Below w.heap.size w w1 := ((Below.refl _ w).alloc (Nat.le_refl _) _).trans (hb.mono (by simp))
  clear ht
  go_wp2
  refine bodyPost_ret (v := .tuple #[.agg #[.int .i64 k, .slice A n c, .slice A' n' c'], .int .i64 (treeOf wholeW s.data.toList).2.1, .int .i64 ((treeOf wholeW s.data.toList).2.2 : Nat)]) (by simp [results, Try.results16, go_sem, *]) rfl ⟨d, k, A, n, c, A', n', c', rfl, ?_, ?_⟩
  · refine (HT.out.keep (w' := ((w1.setCell ⟨w.heap.size, 0, none⟩ (.int .i64 k)).setCell ⟨w.heap.size, 1, none⟩ (.slice A n c)).setCell ⟨w.heap.size, 2, none⟩ (.slice A' n' c')) fun j hj => ?_).mono fun j hj => ⟨?_, ?_⟩
    · have h1 := hj.1
      simp at h1
      rw [Below.heap_setCell _ _ _ _ (by simp; omega), Below.heap_setCell _ _ _ _ (by simp; omega), Below.heap_setCell _ _ _ _ (by simp; omega)]
    · have h1 := hj.1
      simp at h1; omega
    · simp [World.setCell]; exact hj.2
  · exact ((hb1.setCell (p := ⟨w.heap.size, 0, none⟩) (Nat.le_refl _) _).setCell (p := ⟨w.heap.size, 1, none⟩) (Nat.le_refl _) _).setCell (p := ⟨w.heap.size, 2, none⟩) (Nat.le_refl _) _
theorem TreeAt.heads {w : World} {X : Nat → Prop} {d : Nat} {k k' : Int} {rs : List (UInt8 × UInt8)} {kids : List Tr} {A A' : Option Addr} {n c n' c' : Nat} (h : TreeAt w X d (.mk k rs kids) [.int .i64 k', .slice A n c, .slice A' n' c']) :
    k' = k ∧ n' = kids.length ∧ n' ≤ maxLen ∧ n ≤ maxLen := by
  cases d with
  | zero => exact h.elim
  | succ d =>
    obtain ⟨B, m, e, B', m', e', hv, h1, h2, h3, h4, h5⟩ := h
    injection hv with v0 hv
    injection hv with v1 hv
    injection hv with v2 _
    injection v0 with _ v0
    injection v1 with _ v1 _
    injection v2 with _ v2 _
    subst v1 v2
    exact ⟨v0, h4.symm, h2.1, h1⟩
theorem px1 : parseX [97, 124, 98, 42] = (.mk 3 [] [.mk 2 [] [.mk 1 [(97, 97)] []], .mk 2 [] [.mk 4 [] [.mk 1 [(98, 98)] []]]], 0, 0) := by kernel_rfl
theorem px2 : parseX [97, 41] = (zeroT, 30, 1) := by kernel_rfl

set_option maxHeartbeats 1000000 in
set_option maxRecDepth 100000 in
theorem parsing_any (w : World) : Calls Try.prog 14 #[] w fun e w' => e = .returned (.bool true) ∧ Below w.heap.size w w' := by
  have H1 := Lib.hid (fun W => xparse_any ⟨#[97, 124, 98, 42]⟩ W)
  have H2 := Lib.hid (fun W => xparse_any ⟨#[97, 41]⟩ W)
  simp only [px1] at H1
  simp only [px2] at H2
  go_enter Try.func14, Try.ntmps14
  go_wp2_with fail
  refine (H1.out _).mono ?_
  rintro e w1 ⟨d, k, A, n, c, A', n', c', rfl, ht, hb1⟩
  obtain ⟨rfl, hn', _, _⟩ := ht.heads
  obtain rfl : n' = 2 := hn'
  clear ht H1
  go_wp2_with fail
  refine (H2.out _).mono ?_
  rintro e w2 ⟨d2, k2, B1, m1, g1, B2, m2, g2, rfl, ht2, hb2⟩
  have hblk := (Blk.new w1 26 #[.int .i64 3, .slice A n c, .slice A' 2 c']).below hb2 (by simp)
  obtain ⟨p0, p1, p2, f0, f1, f2⟩ := blk3 hblk
  have hlt2 := hblk.lt
  clear ht2 hblk H2
  go_wp2
  go_ret
  refine ⟨rfl, ?_⟩
  have h1 : Below w.heap.size w (w1.alloc (.cells #[.int .i64 3, .slice A n c, .slice A' 2 c'] 26)) := hb1.alloc hb1.size _
  have h2 := h1.trans (hb2.mono h1.size)
  exact h2.alloc h2.size (.cells #[.int .i64 k2, .slice B1 m1 g1, .slice B2 m2 g2] 26)
end Go.Proofs.Ytjnhmcgjeljcmaa
