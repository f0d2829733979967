/- GlobParses answers true. -/
import Derived.Test.YtacmfhopelkbbaaRz
namespace Go.Proofs.Ytacmfhopelkbbaa
open Go.RowKit

set_option maxHeartbeats 1000000 in
set_option maxRecDepth 100000 in
theorem globParses_walk (p : ByteArray) (hp : p.size ≤ maxLen) (w : World) :
    Calls Try.prog 3 #[.string p] w fun e w' => e = .returned (.bool true) ∧ Below w.heap.size w w' := by
  have H1 := Lib.hid (fun W => parse_any p W)
  have H2 := Lib.hid (fun W => rparse_any p W hp)
  generalize parseG p.data.toList = R at *
  obtain ⟨t, code, at_⟩ := R
  go_enter Try.func3, Try.ntmps3
  go_wp2_with fail
  refine (alive_any _).mono ?_
  rintro e w1 ⟨rfl, b1⟩
  go_wp2_with fail
  refine (H1.out _).mono ?_
  rintro e w2 ⟨d, k, A, n, c, A', n', c', rfl, ht, b2⟩
  have c2 := b1.trans (b2.mono b1.size)
  have ht2 := (ht.keep (w' := w2.alloc (.cells #[.int .i64 k, .slice A n c, .slice A' n' c'] 26)) fun b hb => Below.heap_alloc _ _ _ hb.2).mono (Y := fun b => b < w2.heap.size) fun b hb => hb.2
  have c3 := c2.alloc c2.size (.cells #[.int .i64 k, .slice A n c, .slice A' n' c'] 26)
  have HT2 := Lib.hid ht2
  clear ht ht2
  go_wp2_with fail
  refine (H2.out _).mono ?_
  rintro e w3 ⟨d3, k3, B, m, g, B', m', g', rfl, ht3, b3⟩
  have c4 := c3.trans (b3.mono c3.size)
  have c5 := c4.alloc c4.size (.cells #[.int .i64 k3, .slice B m g, .slice B' m' g'] 26)
  have hs3 : w2.heap.size + 1 ≤ w3.heap.size := by have := b3.size; simpa using this
  have hblk := (Blk.new w2 26 #[.int .i64 k, .slice A n c, .slice A' n' c']).below b3 (by simp)
  have hl2 := hblk.lt
  obtain ⟨p0, p1, p2, _, _, _⟩ := blk3 hblk
  have HA := Lib.hid (show TreeAt (w3.alloc (.cells #[.int .i64 k3, .slice B m g, .slice B' m' g'] 26)) (· < (w3.alloc (.cells #[.int .i64 k3, .slice B m g, .slice B' m' g'] 26)).heap.size) (max d d3) t [.int .i64 k, .slice A n c, .slice A' n' c'] from
    ((HT2.out.keep (w' := w3.alloc (.cells #[.int .i64 k3, .slice B m g, .slice B' m' g'] 26)) fun b hb => by rw [Below.heap_alloc _ _ _ (by omega)]; exact b3.block b (by simp; omega)).mono fun b hb => by simp; omega).deeper (Nat.le_max_left _ _))
  have HB := Lib.hid (show TreeAt (w3.alloc (.cells #[.int .i64 k3, .slice B m g, .slice B' m' g'] 26)) (· < (w3.alloc (.cells #[.int .i64 k3, .slice B m g, .slice B' m' g'] 26)).heap.size) (max d d3) t [.int .i64 k3, .slice B m g, .slice B' m' g'] from
    ((ht3.keep (w' := w3.alloc (.cells #[.int .i64 k3, .slice B m g, .slice B' m' g'] 26)) fun b hb => Below.heap_alloc _ _ _ hb.2).mono fun b hb => by have := hb.2; simp; omega).deeper (Nat.le_max_right _ _))
  clear ht3 HT2 hblk
  go_wp2_with fail
  refine (same_yes _ t _ _ _ _ _ _ _ HA.out HB.out).mono ?_
  rintro e w4 ⟨rfl, b4⟩
  go_wp2
  go_ret
  exact ⟨rfl, c5.trans (b4.mono c5.size)⟩
end Go.Proofs.Ytacmfhopelkbbaa
