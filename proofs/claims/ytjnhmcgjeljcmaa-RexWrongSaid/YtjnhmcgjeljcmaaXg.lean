/- rex.group. -/
import Derived.Test.YtjnhmcgjeljcmaaXs
namespace Go.Proofs.Ytjnhmcgjeljcmaa
open Go.RowKit

/-- rex.alternation at k is what Al reads there, and takes no more than there is. -/
def IsAl (Al : List UInt8 → Pr) (b : Nat) (s : ByteArray) (k : Nat) : Prop :=
  (∀ w, Cur w b s k → Calls Try.prog 54 #[.pointer (some ⟨b, 0, none⟩)] w (NPost w b s k (Al (restL s k)))) ∧ ∀ t n, Al (restL s k) = .ok t n → k + n ≤ s.size
theorem NPost.ok_ {w : World} {b k n : Nat} {s : ByteArray} {r : Pr} {t : Tr} {e : Ending} {w' : World} (h : NPost w b s k r e w') (hr : r = .ok t n) :
    NodeRes w t e w' ∧ Cur w' b s (k + n) ∧ w.grownBy w' (some b) := by subst hr; exact h
theorem NPost.err_ {w : World} {b k n : Nat} {s : ByteArray} {r : Pr} {c : Int} {e : Ending} {w' : World} (h : NPost w b s k r e w') (hr : r = .err c n) :
    e = flawE c (k + n) ∧ w.grownBy w' (some b) := by subst hr; exact h

set_option maxHeartbeats 400000 in
theorem group_any (Al : List UInt8 → Pr) (b k : Nat) (s : ByteArray) (w : World) (hc : Cur w b s k) (_ : k ≤ s.size) (hs : s.size ≤ 256) (hA : IsAl Al b s k) :
    Calls Try.prog 152 #[.pointer (some ⟨b, 0, none⟩)] w (NPost w b s k (groupX Al (restL s k))) := by
  have hsm : s.size ≤ maxLen := by unfold maxLen; omega
  have hb0 : b < w.heap.size := Blk.lt hc
  have HA := Lib.hid hA.1
  unfold groupX
  cases hl : Al (restL s k) with
  | err c o =>
    have HL := Lib.hid hl
    clear hl
    go_enter Try.func152, Try.ntmps152
    go_wp2_with fail
    refine (HA.out _ (Blk.alloc hc _)).mono ?_
    intro e w1 hp
    obtain ⟨rfl, g1⟩ := hp.err_ HL.out
    clear hp
    go_wp2
    exact ⟨rfl, rfl, gb_trans (gb_alloc (gb_refl _ _) _) g1⟩
  | ok t n =>
    have hn := hA.2 _ _ hl
    have HL := Lib.hid hl
    clear hl hA
    simp only [rest_drop]
    cases h41 : isB [41] s (k + n) with
    | false =>
      rw [if_neg (by rw [← preB_starts]; unfold isB at h41; rw [h41]; simp)]
      go_enter Try.func152, Try.ntmps152
      go_wp2_with fail
      refine (HA.out _ (Blk.alloc hc _)).mono ?_
      intro e w1 hp
      obtain ⟨⟨d, kk, A, m, c, A', m', c', rfl, ht⟩, hc1, g1⟩ := hp.ok_ HL.out
      clear hp ht
      have gw := gb_trans (gb_alloc (gb_refl w (some b)) _) g1
      go_wp2_with fail
      refine (skip_no b (k + n) s ⟨#[41]⟩ _ (Blk.alloc hc1 _) hn h41).mono ?_
      rintro e w2 ⟨rfl, hc2, g2⟩
      go_wp2_with fail
      refine (at_any b (k + n) s _ hc2).mono ?_
      rintro e w3 ⟨rfl, rfl⟩
      go_wp2
      exact ⟨rfl, rfl, gb_trans (gb_alloc gw _) g2⟩
    | true =>
      rw [if_pos (by rw [← preB_starts]; exact h41)]
      go_enter Try.func152, Try.ntmps152
      go_wp2_with fail
      refine (HA.out _ (Blk.alloc hc _)).mono ?_
      intro e w1 hp
      obtain ⟨⟨d, kk, A, m, c, A', m', c', rfl, ht⟩, hc1, g1⟩ := hp.ok_ HL.out
      clear hp
      have gw := gb_trans (gb_alloc (gb_refl w (some b)) _) g1
      have hlt1 : w.heap.size + 1 ≤ w1.heap.size := by have := g1.size; simpa using this
      have hblk : Blk w1 w.heap.size 26 _ := (Blk.new w 26 _).grown g1 (by simp; omega)
      have HT := Lib.hid ht
      clear ht g1
      go_wp2_with fail
      refine (skip_yes b (k + n) s ⟨#[41]⟩ _ (Blk.alloc hc1 _) hn hsm h41).mono ?_
      rintro e w2 ⟨rfl, hc2, g2⟩
      have hs2 : w1.heap.size + 1 ≤ w2.heap.size := by have := g2.size; simpa using this
      have hblkN : Blk w2 w1.heap.size 26 _ := (Blk.new w1 26 _).grown g2 (by simp; omega)
      have hblk2 := (hblk.alloc _).grown g2 (by simp; omega)
      obtain ⟨p0, p1, p2, z0, z1, z2⟩ := blk3 hblk2
      obtain ⟨q0, q1, q2, y0, y1, y2⟩ := blk3 hblkN
      have gw2 := gb_trans (gb_alloc gw _) g2
      have HT2 := Lib.hid (HT.out.keep (w' := w2) fun j hj => by
        have h1 := hj.1
        have h2 := hj.2
        simp at h1
        rw [g2.block j (by simp; omega) (by simp; omega), Below.heap_alloc _ _ _ h2])
      clear hblk hblk2 hblkN HT g2
      go_wp2
      refine bodyPost_ret (v := .agg #[.int .i64 kk, .slice A m c, .slice A' m' c']) (by simp [results, Try.results152, go_sem, *]) rfl ⟨⟨d, kk, A, m, c, A', m', c', rfl, ?_⟩, ?_, ?_⟩
      · refine (HT2.out.keep (w' := ((w2.setCell ⟨w.heap.size, 0, none⟩ _).setCell ⟨w.heap.size, 1, none⟩ _).setCell ⟨w.heap.size, 2, none⟩ _) fun j hj => ?_).mono fun j hj => ⟨?_, ?_⟩
        · have : j ≠ w.heap.size := by have := hj.1; simp at this; omega
          rw [Below.heap_setCell _ _ _ _ this, Below.heap_setCell _ _ _ _ this, Below.heap_setCell _ _ _ _ this]
        · have := hj.1; simp at this; omega
        · simp [World.setCell]; have := hj.2; omega
      · exact ((Blk.far hc2 (by simp; omega) _).far (by simp; omega) _).far (by simp; omega) _
      · exact gb_set (gb_set (gb_set gw2 (.inr (Nat.le_refl _)) _) (.inr (Nat.le_refl _)) _) (.inr (Nat.le_refl _)) _
end Go.Proofs.Ytjnhmcgjeljcmaa
