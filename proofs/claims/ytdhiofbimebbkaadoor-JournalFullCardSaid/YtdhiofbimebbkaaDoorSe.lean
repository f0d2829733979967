/- pack.Record and the document's own four, Record: recL. -/
import Derived.Test.YtdhiofbimebbkaaDoorSb
import Derived.Test.YtdhiofbimebbkaaDoorSd
import Derived.Test.YtdhiofbimebbkaaDoorPw
namespace Go.Proofs.YtdhiofbimebbkaaDoor
open Go.RowKit

set_option maxHeartbeats 2000000 in
set_option maxRecDepth 100000 in
theorem record_any {w : World} {A : Option Addr} {m c : Nat} {bs : List UInt8} (hb : BytesAt w A m bs) (hm : m ≤ 100000000) (ht : TabAt w) :
    Calls Tryd.prog 27 #[.slice A m c] w (NumPost w (recL bs)) := by
  have hbl := hb.1
  have hmw : IntKind.u32.wrap (m : Int) = (m : Int) := wraps_u32 _ (by omega) (by omega)
  obtain ⟨i0, hi0, hz0, hz1, hz2⟩ := info_parts byte_info
  obtain ⟨w1, hmk, ho1, hg1⟩ := run_make_own (P := Tryd.prog) w w.heap.size 30 5 i0 _ 1 Tryd.underlying30 hi0 hz0 hz1 .i64 .i64 (m + 8) (by rw [hz2]; omega) (by unfold maxLen; omega) (Nat.le_refl _)
  rw [show ((m + 8 : Nat) : Int) = 8 + (m : Int) by omega] at hmk
  have bel1 : Below w.heap.size w w1 := ⟨hg1.os, hg1.tape, hg1.output, hg1.size, fun j hj => hg1.block j hj (by simp)⟩
  have C1 := Lib.hid (putWord_any (n := m) (xs := []) ho1 bel1.size (by simp) (by omega))
  have HB := Lib.hid hb
  have HT := Lib.hid ht
  have HB1 := Lib.hid bel1
  clear hg1 bel1 ho1 hb ht
  go_enter Tryd.func27, Tryd.ntmps27
  go_wp2_with fail
  refine C1.out.mono ?_
  rintro e w2 ⟨v2, rfl, ho2, b2⟩
  rw [List.nil_append] at ho2
  have B2 := Lib.hid (HB1.out.trans b2)
  have O2 := Lib.hid ho2
  obtain ⟨A2, c2, rfl, _, _⟩ := row_bytes ho2
  have C2 := Lib.hid (sum_any (c := c) (HB.out.below B2.out) (by unfold maxLen; omega) (HT.out.below B2.out))
  have C3 := Lib.hid (putWord_any (n := sumL bs) ho2 B2.out.size (by simp [le4]) (sumL_lt bs))
  generalize hq : sumL bs = q at C2 C3
  clear C1 ho2 b2
  go_wp2_with fail
  refine C2.out.mono ?_
  rintro e w3 ⟨rfl, rfl⟩
  go_wp2_with fail
  refine C3.out.mono ?_
  rintro e w3 ⟨v3, rfl, ho3, b3⟩
  have B3 := Lib.hid (B2.out.trans b3)
  obtain ⟨A4, c4, w4, hrun, ho4, b4⟩ := put_bytes (c := c) 30 ho3 B3.out.size (HB.out.below B3.out) (by simp [le4]; omega)
  obtain ⟨A3, c3, rfl, _, _⟩ := row_bytes ho3
  have HRUN := Lib.hid hrun
  have HO := Lib.hid ho4
  have HB4 := Lib.hid (B3.out.trans b4)
  have HR := Lib.hid (show recL bs = le4 m ++ le4 q ++ bs by unfold recL; rw [hq, hbl])
  clear C2 C3 ho3 b3 ho4 b4 hrun
  go_wp2_with (at_builtin; refine wpList_append_run rfl (.tmp 17) (.tmp 18) 30 rfl _ _ _ rfl rfl HRUN.out ?_)
  go_ret
  rw [HR.out]
  exact ⟨_, rfl, HO.out, HB4.out⟩
/-- Bytes that a call has just laid. -/
def NewPost (w : World) (n : Nat) (xs : List UInt8) (e : Ending) (w' : World) : Prop := ∃ A c, e = .returned (.slice A n c) ∧ BytesAt w' A n xs ∧ Below w.heap.size w w'
theorem le4_cells' (n : Nat) : ((le4 n).map u8V).toArray = #[.int .u8 ((n : Int) % 256), .int .u8 ((n : Int) / 256 % 256), .int .u8 ((n : Int) / 65536 % 256), .int .u8 ((n : Int) / 16777216 % 256)] := by
  have e : ∀ m : Nat, (UInt8.ofNat (m % 256)).toNat = m % 256 := fun m => by have := Nat.mod_lt m (show 0 < 256 by decide); simp
  unfold le4 u8V
  simp only [List.map_cons, List.map_nil]
  rw [e, e, e, e]
  rw [Int.natCast_emod, Int.natCast_emod, Int.natCast_ediv, Int.natCast_emod, Int.natCast_ediv, Int.natCast_emod, Int.natCast_ediv]
  rfl
end Go.Proofs.YtdhiofbimebbkaaDoor
