/- PackSums: the document's example; the law's walk. -/
import Derived.Test.YteokiaeojgjpdaaDoorSb
namespace Go.Proofs.YteokiaeojgjpdaaDoor
open Go.RowKit
set_option maxHeartbeats 1000000 in
set_option maxRecDepth 100000 in
theorem summing_any {w : World} (ht : TabAt w) : Calls Tryd.prog 9 #[] w fun e w' => e = .returned (.bool true) ∧ Below w.heap.size w w' := by
  have hb := bytes_new w [49, 50, 51, 52, 53, 54, 55, 56, 57] (9, 10)
  have hbl : Below w.heap.size w (w.alloc (.cells ([49, 50, 51, 52, 53, 54, 55, 56, 57].map u8V).toArray 5 (9, 10))) := (Below.refl _ w).alloc (Nat.le_refl _) _
  have C := Lib.hid (sum_any (c := 9) hb (by decide) (ht.below hbl))
  have hs : sumL [49, 50, 51, 52, 53, 54, 55, 56, 57] = 3421780262 := by decide +kernel
  rw [hs] at C
  have HB := Lib.hid hbl
  clear hb hbl
  have hcv := conv_const
  go_enter Tryd.func9, Tryd.ntmps9
  go_wp2_with fail
  refine C.out.mono ?_
  rintro e w' ⟨rfl, rfl⟩
  go_wp2
  go_ret
  exact ⟨rfl, HB.out⟩
set_option maxHeartbeats 1000000 in
set_option maxRecDepth 100000 in
theorem packSums_walk {w : World} {A : Option Addr} {m c : Nat} {bs : List UInt8} (hb : BytesAt w A m bs) (hm : m ≤ maxLen) (ht : TabAt w) :
    Calls Tryd.prog 3 #[.slice A m c] w fun e w' => e = .returned (.bool true) ∧ Below w.heap.size w w' := by
  go_enter Tryd.func3, Tryd.ntmps3
  go_wp2_with fail
  refine (summing_any ht).mono ?_
  rintro e w1 ⟨rfl, h1⟩
  have C1 := Lib.hid (sum_any (c := c) (hb.below h1) hm (ht.below h1))
  have C2 := Lib.hid (refSum_any (c := c) (hb.below h1) hm)
  have HB := Lib.hid h1
  generalize sumL bs = q at C1 C2
  clear h1 hb ht
  go_wp2_with fail
  refine C1.out.mono ?_
  rintro e w2 ⟨rfl, rfl⟩
  go_wp2_with fail
  refine C2.out.mono ?_
  rintro e w3 ⟨rfl, rfl⟩
  go_wp2
  go_ret
  exact ⟨rfl, HB.out⟩
end Go.Proofs.YteokiaeojgjpdaaDoor
