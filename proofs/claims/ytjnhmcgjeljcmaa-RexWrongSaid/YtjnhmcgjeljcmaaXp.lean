/- rex.piece. -/
import Derived.Test.YtjnhmcgjeljcmaaXb
import Derived.Test.YtjnhmcgjeljcmaaGq
namespace Go.Proofs.Ytjnhmcgjeljcmaa
open Go.RowKit

theorem signsX_rest0 (t : Tr) {s : ByteArray} {k : Nat} (h : signX (restL s k) = 0) : signsX t (restL s k) = (t, 0) := by
  cases hl : restL s k with
  | nil => rfl
  | cons c l => rw [hl] at h; simp only [signX] at h; simp [signsX, h]
theorem signsX_rest1 (t : Tr) {s : ByteArray} {k : Nat} (h : signX (restL s k) ≠ 0) : k < s.size ∧ signsX t (restL s k) = ((signsX (.mk (signX (restL s k)) [] [t]) (restL s (k + 1))).1, (signsX (.mk (signX (restL s k)) [] [t]) (restL s (k + 1))).2 + 1) := by
  by_cases hk : k < s.size
  · refine ⟨hk, ?_⟩
    rw [rest_cons s k hk] at h ⊢
    simp only [signX] at h ⊢
    simp [signsX, h]
  · rw [rest_nil s k (by omega)] at h; exact absurd rfl h

theorem wrap_tree {w : World} {X Y : Nat → Prop} {d : Nat} {t : Tr} {v0 v1 v2 : Value} (k : Int) (ht : TreeAt w X d t [v0, v1, v2]) (hX : ∀ j, X j → j < w.heap.size ∧ Y j) (hY : Y w.heap.size) :
    TreeAt (w.alloc (.cells #[v0, v1, v2] 26)) Y (d + 1) (.mk k [] [t]) [.int .i64 k, .slice none 0 0, .slice (some ⟨w.heap.size, 0, none⟩) 1 1] := by
  refine ⟨none, 0, 0, _, 1, 1, rfl, Nat.zero_le _, ⟨by decide, Nat.le_refl _⟩, RgAt.nil _ _ _, rfl, fun _ => ⟨w.heap.size, 0, rfl, hY, fun i t' hi => ?_⟩⟩
  obtain ⟨p0, p1, p2, _, _, _⟩ := blk3 (Blk.new w 26 #[v0, v1, v2])
  match i, hi with
  | 0, hi =>
    simp at hi; subst hi
    exact ⟨v0, v1, v2, p0, p1, p2, (ht.keep fun b hb => Below.heap_alloc _ _ _ (hX b hb).1).mono fun b hb => (hX b hb).2⟩
/-- Where the cursor in block b stands. -/
def posOf (w : World) (b : Nat) : Nat := match w.cell? ⟨b, 1, none⟩ with | some v => (intOf v).toNat | none => 0
theorem posOf_cur {w : World} {b k : Nat} {s : ByteArray} (h : Cur w b s k) : posOf w b = k := by unfold posOf; rw [h.c1]; simp [intOf]
def someOf (v : Value) : Nat := if intOf v = 0 then 0 else 1

set_option maxHeartbeats 400000 in
theorem piece_err (Al : List UInt8 → Pr) (b k : Nat) (s : ByteArray) (w : World) (hc : Cur w b s k) (hk : k ≤ s.size) (hs : s.size ≤ 256) (hA : k < s.size → IsAl Al b s (k + 1)) {c : Int} {o : Nat} (h : atomX Al (restL s k) = .err c o) :
    Calls Try.prog 116 #[.pointer (some ⟨b, 0, none⟩)] w (NPost w b s k (.err c o)) := by
  have H := Lib.hid (fun W hW => atom_any Al b k s W hW hk hs hA)
  rw [h] at H
  clear h hA
  go_enter Try.func116, Try.ntmps116
  go_wp2_with fail
  refine (H.out _ (Blk.alloc hc _)).mono ?_
  rintro e w1 ⟨rfl, g1⟩
  go_wp2
  exact ⟨rfl, rfl, gb_trans (gb_alloc (gb_refl w (some b)) _) g1⟩
set_option maxHeartbeats 400000 in
theorem piece_ok (Al : List UInt8 → Pr) (b k : Nat) (s : ByteArray) (w : World) (hc : Cur w b s k) (hk : k ≤ s.size) (hs : s.size ≤ 256) (hA : k < s.size → IsAl Al b s (k + 1)) {t : Tr} {n : Nat} (hn : k + n ≤ s.size) (h : atomX Al (restL s k) = .ok t n) :
    Calls Try.prog 116 #[.pointer (some ⟨b, 0, none⟩)] w (NPost w b s k (.ok (signsX t (restL s (k + n))).1 (n + (signsX t (restL s (k + n))).2))) := by
  have hsm : s.size ≤ maxLen := by unfold maxLen; omega
  have hb0 : b < w.heap.size := Blk.lt hc
  have H := Lib.hid (fun W hW => atom_any Al b k s W hW hk hs hA)
  rw [h] at H
  clear h hA
  generalize hR : signsX t (restL s (k + n)) = R
  have HR := Lib.hid hR
  clear hR
  go_enter Try.func116, Try.ntmps116
  go_wp2_with fail
  refine (H.out _ (Blk.alloc hc _)).mono ?_
  rintro e w1 ⟨⟨d, kk, A, m, c, A', m', c', rfl, ht⟩, hc1, g1⟩
  have gw1 := gb_trans (gb_alloc (gb_refl w (some b)) _) g1
  have hblk1 : Blk w1 w.heap.size 26 _ := (Blk.new w 26 _).grown g1 (by simp; omega)
  have hl1 := hblk1.lt
  go_wp2_with fail
  refine (sign_any b (k + n) s _ (Blk.alloc hc1 _) hn hsm).mono ?_
  rintro e w2 ⟨rfl, hc2, g2⟩
  have hblk2 : Blk w2 w.heap.size 26 _ := (hblk1.alloc _).grown g2 (by simp; omega)
  have hblkN : Blk w2 w1.heap.size 26 _ := (Blk.new w1 26 _).grown g2 (by simp; omega)
  have gw2 := gb_trans (gb_alloc gw1 _) g2
  have hs2 : w1.heap.size + 1 ≤ w2.heap.size := hblkN.lt
  have HT := Lib.hid (show TreeAt w2 (fun j => w.heap.size + 1 ≤ j ∧ j < w2.heap.size ∧ j ≠ w1.heap.size) d t [.int .i64 kk, .slice A m c, .slice A' m' c'] from
    (ht.keep (w' := w2) fun j hj => by
      have h1 := hj.1
      have h2 := hj.2
      simp at h1
      rw [g2.block j (by simp; omega) (by simp; omega), Below.heap_alloc _ _ _ h2]).mono fun j hj => by
        have h1 := hj.1
        have h2 := hj.2
        simp at h1
        exact ⟨by omega, by omega, by omega⟩)
  clear ht hc1 g1 hblk1 g2 gw1
  go_wp2_with fail
  go_loopw [4] (fun v wr => ∃ (k2 : Nat) (t2 : Tr) (d : Nat) (kk : Int) (A : Option Addr) (m c : Nat) (A' : Option Addr) (m' c' : Nat), k + n ≤ k2 ∧ k2 ≤ s.size ∧ v = .int .i64 (signX (restL s k2)) ∧ Cur wr b s (k2 + signN (restL s k2)) ∧
      (signsX t2 (restL s k2)).1 = R.1 ∧ k2 + (signsX t2 (restL s k2)).2 = k + n + R.2 ∧ TreeAt wr (fun j => w.heap.size + 1 ≤ j ∧ j < wr.heap.size ∧ j ≠ w1.heap.size) d t2 [.int .i64 kk, .slice A m c, .slice A' m' c'] ∧
      Blk wr w1.heap.size 26 #[.int .i64 kk, .slice A m c, .slice A' m' c'] ∧ Blk wr w.heap.size 26 #[.int .i64 0, .slice none 0 0, .slice none 0 0] ∧ w.grownBy wr (some b)) (fun v wr => 2 * (s.size - posOf wr b) + someOf v)
  case atStart => exact ⟨k + n, t, d, kk, A, m, c, A', m', c', Nat.le_refl _, hn, rfl, hc2, by rw [HR.out], by rw [HR.out], HT.out, hblkN, hblk2, gw2⟩
  case round =>
    clear hc2 hblkN hblk2 gw2 HT hs2
    obtain ⟨k2, t2, d2, kk2, A2, m2, c2, A2', m2', c2', h12, h2s, rfl, hcr, hR1, hR2, htr, hbN, hbW, gwr⟩ := hrel
    have HT := Lib.hid htr
    obtain ⟨p0, p1, p2, z0, z1, z2⟩ := blk3 hbW
    obtain ⟨q0, q1, q2, y0, y1, y2⟩ := blk3 hbN
    have hlN := hbN.lt
    have hlW := hbW.lt
    clear htr
    by_cases hv : signX (restL s k2) = 0
    · rw [signsX_rest0 t2 hv] at hR1 hR2
      unfold signN at hcr
      rw [if_pos hv] at hcr
      have HR1 := Lib.hid hR1
      have HR2 := Lib.hid hR2
      rw [hv]
      clear hR1 hR2 hv
      go_wp2
      refine bodyPost_ret (v := .agg #[.int .i64 kk2, .slice A2 m2 c2, .slice A2' m2' c2']) (by simp [results, Try.results116, go_sem, *]) rfl ?_
      have := node_end (HT.out.mono (Y := fun j => w.heap.size + 1 ≤ j ∧ j < wr.heap.size) fun j hj => ⟨hj.1, hj.2.1⟩) hcr gwr hb0 (.int .i64 kk2) (.slice A2 m2 c2) (.slice A2' m2' c2')
      have e2 := HR2.out
      rw [← HR1.out]
      refine ⟨this.1, ?_, this.2.2⟩
      rw [show k + (n + R.2) = k2 + 0 by omega]
      exact this.2.1
    · obtain ⟨hlt, hsx⟩ := signsX_rest1 t2 hv
      rw [hsx] at hR1 hR2
      unfold signN at hcr
      rw [if_neg hv] at hcr
      have HR1 := Lib.hid hR1
      have HR2 := Lib.hid hR2
      have hv' : (signX (restL s k2) != 0) = true := by simpa using hv
      have HP := Lib.hid (posOf_cur hcr)
      clear hR1 hR2 hsx
      generalize signX (restL s k2) = v at *
      obtain ⟨wq, hwq⟩ : ∃ wq, wq = ((wr.setCell ⟨w1.heap.size, 0, none⟩ (.int .i64 v)).setCell ⟨w1.heap.size, 1, none⟩ (.slice none 0 0)).setCell ⟨w1.heap.size, 2, none⟩ (.slice (some ⟨wr.heap.size, 0, none⟩) 1 1) := ⟨_, rfl⟩
      have hsq : wq.heap.size = wr.heap.size := by rw [hwq]; simp [World.setCell]
      have hgw := gwr.size
      have hbne : b ≠ w1.heap.size := by omega
      have cq : Cur wq b s (k2 + 1) := by rw [hwq]; exact ((Blk.far hcr hbne _).far hbne _).far hbne _
      have nq : Blk wq w1.heap.size 26 #[.int .i64 v, .slice none 0 0, .slice (some ⟨wr.heap.size, 0, none⟩) 1 1] := by rw [hwq]; exact ((hbN.set_ 0 _).set_ 1 _).set_ 2 _
      have wne : w.heap.size ≠ w1.heap.size := by omega
      have hgle : w.heap.size ≤ w1.heap.size := by omega
      have bq : Blk wq w.heap.size 26 #[.int .i64 0, .slice none 0 0, .slice none 0 0] := by rw [hwq]; exact ((Blk.far hbW wne _).far wne _).far wne _
      have gq : w.grownBy wq (some b) := by rw [hwq]; exact gb_set (gb_set (gb_set gwr (p := ⟨w1.heap.size, 0, none⟩) (.inr hgle) _) (p := ⟨w1.heap.size, 1, none⟩) (.inr hgle) _) (p := ⟨w1.heap.size, 2, none⟩) (.inr hgle) _
      have tq : TreeAt wq (fun j => w.heap.size + 1 ≤ j ∧ j < wr.heap.size ∧ j ≠ w1.heap.size) d2 t2 [.int .i64 kk2, .slice A2 m2 c2, .slice A2' m2' c2'] := HT.out.keep fun j hj => by
        rw [hwq, Below.heap_setCell _ _ _ _ hj.2.2, Below.heap_setCell _ _ _ _ hj.2.2, Below.heap_setCell _ _ _ _ hj.2.2]
      have tz := wrap_tree (Y := fun j => w.heap.size + 1 ≤ j ∧ j < wr.heap.size + 1 ∧ j ≠ w1.heap.size) v tq (fun j hj => ⟨by rw [hsq]; exact hj.2.1, hj.1, by omega, hj.2.2⟩) (by rw [hsq]; exact ⟨by omega, by omega, by omega⟩)
      rw [hsq] at tz
      have HTZ := Lib.hid tz
      have HV := Lib.hid hv
      have HN := Lib.hid (And.intro nq (And.intro bq gq))
      have HQ := Lib.hid hwq
      clear tz tq hwq nq bq gq hv hbne wne
      go_wp2_with fail
      rw [← HQ.out]
      refine (sign_any b (k2 + 1) s _ (Blk.alloc cq _) (by omega) hsm).mono ?_
      rintro e w4 ⟨rfl, hc4, g4⟩
      have hs4 : wr.heap.size + 1 ≤ w4.heap.size := by have := g4.size; simp [hsq] at this; omega
      have HG := Lib.hid g4
      have HP4 := Lib.hid (posOf_cur hc4)
      clear g4
      go_wp2
      go_roundw
      case rel =>
        have e2 := HR2.out
        refine ⟨k2 + 1, .mk v [] [t2], d2 + 1, v, none, 0, 0, some ⟨wr.heap.size, 0, none⟩, 1, 1, by omega, by omega, rfl, hc4, HR1.out, ?_, ?_, ?_, ?_, ?_⟩
        · omega
        · refine (HTZ.out.keep (w' := w4) fun j hj => HG.out.block j (by simp [hsq]; omega) (by simp; omega)).mono fun j hj => ⟨hj.1, by omega, hj.2.2⟩
        · exact (HN.out.1.alloc _).grown HG.out (by simp; omega)
        · exact (HN.out.2.1.alloc _).grown HG.out (by simp; omega)
        · exact gb_trans (gb_alloc HN.out.2.2 _) HG.out
      case measure =>
        rw [HP4.out, HP.out]
        have hv1 : someOf (.int .i64 v) = 1 := by have hv0 : v ≠ 0 := HV.out; simp [someOf, intOf, hv0]
        unfold signN
        by_cases h0 : signX (restL s (k2 + 1)) = 0
        · rw [if_pos h0, hv1, h0]; simp [someOf, intOf]
        · have := (signsX_rest1 t2 h0).1
          have h1 : someOf (.int .i64 (signX (restL s (k2 + 1)))) = 1 := by simp [someOf, intOf, h0]
          rw [if_neg h0, hv1, h1]; omega
end Go.Proofs.Ytjnhmcgjeljcmaa
