/- The examples of the document's layer 3 (alive). -/
import Derived.Test.YtepfpmnfecehbaaGw
import Derived.Test.YtepfpmnfecehbaaQu
namespace Go.Proofs.Ytepfpmnfecehbaa
open Go.RowKit

theorem al1 : parseG [97, 63, 42] = (.mk 2 [] [.mk 1 [(97, 97)] [], anyT, .mk 4 [] [anyT]], 0, 0) := by kernel_rfl
theorem al2 : parseG [91, 97] = (zeroT, 31, 2) := by kernel_rfl
theorem al3 : matchG [42, 46, 103, 111] [120, 46, 103, 111] = true := by decide +kernel
theorem al4 : matchG [42, 46, 103, 111] [120, 46, 99] = false := by decide +kernel
theorem al5 : quoteG [97, 42] = [97, 92, 42] := by decide +kernel

set_option maxHeartbeats 1000000 in
set_option maxRecDepth 100000 in
theorem alive_any (w : World) : Calls Try.prog 13 #[] w fun e w' => e = .returned (.bool true) ∧ Below w.heap.size w w' := by
  have H1 := Lib.hid (fun W => parse_any ⟨#[97, 63, 42]⟩ W)
  have H2 := Lib.hid (fun W => parse_any ⟨#[91, 97]⟩ W)
  have H3 := Lib.hid (fun W => match_any ⟨#[42, 46, 103, 111]⟩ ⟨#[120, 46, 103, 111]⟩ W (by decide))
  have H4 := Lib.hid (fun W => match_any ⟨#[42, 46, 103, 111]⟩ ⟨#[120, 46, 99]⟩ W (by decide))
  have H5 := Lib.hid (fun W => quote_any ⟨#[97, 42]⟩ W (by decide))
  simp only [al1] at H1
  simp only [al2] at H2
  simp only [al3] at H3
  simp only [al4] at H4
  simp only [al5] at H5
  go_enter Try.func13, Try.ntmps13
  go_wp2_with fail
  refine (H1.out _).mono ?_
  rintro e w1 ⟨d, k, A, n, c, A', n', c', rfl, ht, hb1⟩
  match d, ht with
  | d + 1, ht =>
    obtain ⟨A1, n1, c1, A2, n2, c2, e0, e1, e2, _, hcp, _, hkd⟩ := ht.parts
    injection e2 with e2 e3 e4
    subst e2 e3 e4
    injection e0 with _ e0
    subst e0
    obtain rfl : n' = 3 := hkd.1.symm
    obtain ⟨b, o, rfl, hX, hcells⟩ := hkd.2 (by decide)
    obtain ⟨v0, v1, v2, q0, q1, q2, ht2⟩ := hcells 2 _ rfl
    obtain ⟨kd, rs, ks, A3, n3, c3, A4, n4, c4, htk, rfl, _⟩ := ht2.kind
    injection htk with htk _ _
    subst htk
    have q0' : w1.cell? ⟨b, o + 6, none⟩ = some (.int .i64 4) := q0
    have hXb : b < w1.heap.size := hX.2
    clear q0 q1 q2 ht2 hcells hkd ht e1
    go_wp2_with fail
    refine (H2.out _).mono ?_
    rintro e w2 ⟨d2, k2, B1, m1, g1, B2, m2, g2, rfl, ht2, hb2⟩
    have hblk := (Blk.new w1 26 #[.int .i64 2, .slice A n c, .slice (some ⟨b, o, none⟩) 3 c']).below hb2 (by simp)
    obtain ⟨p0, p1, p2, f0, f1, f2⟩ := blk3 hblk
    have q2 : w2.cell? ⟨b, o + 6, none⟩ = some (.int .i64 4) := by
      rw [hb2.cell (p := ⟨b, o + 6, none⟩) (by simp; omega), World.cell?_of_block (Below.heap_alloc _ _ _ hXb)]; exact q0'
    have hXb2 : b < w2.heap.size := by have := hb2.size; simp at this; omega
    have hlt2 := hblk.lt
    clear ht2 q0' hblk
    go_wp2_with fail
    refine (H3.out _).mono ?_
    rintro e w3 ⟨rfl, hb3⟩
    go_wp2_with fail
    refine (H4.out _).mono ?_
    rintro e w4 ⟨rfl, hb4⟩
    go_wp2_with fail
    refine (H5.out _).mono ?_
    rintro e w5 ⟨rfl, hb5⟩
    go_wp2
    go_ret
    refine ⟨rfl, ?_⟩
    have h1 : Below w.heap.size w (w1.alloc (.cells #[.int .i64 2, .slice A n c, .slice (some ⟨b, o, none⟩) 3 c'] 26)) := hb1.alloc hb1.size _
    have h2 := h1.trans (hb2.mono h1.size)
    have h3 := h2.alloc h2.size (.cells #[.int .i64 k2, .slice B1 m1 g1, .slice B2 m2 g2] 26)
    have h4 := h3.trans (hb3.mono h3.size)
    have h5 := h4.trans (hb4.mono h4.size)
    exact h5.trans (hb5.mono h5.size)
end Go.Proofs.Ytepfpmnfecehbaa
