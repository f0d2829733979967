/- The walk of NameOrder. -/
import Derived.Test.YtmicjadbahicfaaDoorNcOl
namespace Go.Proofs.YtmicjadbahicfaaDoor
open Go.RowKit

set_option maxHeartbeats 2000000 in
set_option maxRecDepth 100000 in
theorem walkOrder (a b c : ByteArray) (ha : a.size ≤ maxLen) (hb : b.size ≤ maxLen) (hc : c.size ≤ maxLen) (w : World) :
    Calls Tryd.prog 4 #[.string a, .string b, .string c] w fun e w' => e = .returned (.bool true) ∧ Below w.heap.size w w' := by
  obtain ⟨x, hx⟩ : ∃ x, cmpS a.data.toList b.data.toList = x := ⟨_, rfl⟩
  obtain ⟨y, hy⟩ : ∃ y, cmpS b.data.toList c.data.toList = y := ⟨_, rfl⟩
  obtain ⟨z, hz⟩ : ∃ z, cmpS a.data.toList c.data.toList = z := ⟨_, rfl⟩
  have hba : cmpS b.data.toList a.data.toList = -x := by rw [cmpS_neg, hx]
  have bx := cmpS_bd a.data.toList b.data.toList
  have by' := cmpS_bd b.data.toList c.data.toList
  have bz := cmpS_bd a.data.toList c.data.toList
  have h0 := cmpS_zero a.data.toList b.data.toList
  have ht : x ≤ 0 → y ≤ 0 → z ≤ 0 := by rw [← hx, ← hy, ← hz]; exact cmpS_trans
  rw [hx] at bx h0
  rw [hy] at by'
  rw [hz] at bz
  have X := Lib.hid (fun w => cmp_is w ha hb hx)
  have XB := Lib.hid (fun w => cmp_is w hb ha hba)
  have Y := Lib.hid (fun w => cmp_is w hb hc hy)
  have Z := Lib.hid (fun w => cmp_is w ha hc hz)
  have heq : (x == 0) = (a.toList == b.toList) := by
    rw [Lib.toList_data, Lib.toList_data, Bool.eq_iff_iff, beq_iff_eq, beq_iff_eq]; exact h0
  have HT := Lib.hid ht
  clear hx hy hz hba h0 ht
  obtain ⟨t, ht1⟩ : ∃ t, (a.toList == b.toList) = t := ⟨_, rfl⟩
  rw [ht1] at heq
  go_enter Tryd.func4, Tryd.ntmps4
  go_wp2_with fail
  refine (cmp_t2 _).mono ?_
  rintro e w1 ⟨rfl, b1⟩
  go_wp2_with fail
  refine (X.out _).mono ?_
  rintro e w2 ⟨rfl, b2⟩
  go_wp2_with fail
  refine (XB.out _).mono ?_
  rintro e w3 ⟨rfl, b3⟩
  go_wp2_with fail
  refine (X.out _).mono ?_
  rintro e w4 ⟨rfl, b4⟩
  have c2 := b1.trans (b2.mono b1.size)
  have c3' := c2.trans (b3.mono c2.size)
  have c4 := c3'.trans (b4.mono c3'.size)
  clear b1 b2 b3 b4 c2 c3'
  go_wp2_with fail
  refine (X.out _).mono ?_
  rintro e w5 ⟨rfl, b5⟩
  have c5 := c4.trans (b5.mono c4.size)
  clear b5 c4 heq ht1
  by_cases hx0 : 0 < x
  · go_wp2_with fail
    go_ret
    exact ⟨rfl, c5⟩
  · have hx1 : x ≤ 0 := by omega
    clear hx0
    go_wp2_with fail
    refine (Y.out _).mono ?_
    rintro e w6 ⟨rfl, b6⟩
    have c6 := c5.trans (b6.mono c5.size)
    clear b6 c5
    by_cases hy0 : 0 < y
    · go_wp2_with fail
      go_ret
      exact ⟨rfl, c6⟩
    · have hy1 : y ≤ 0 := by omega
      clear hy0
      have hz1 := HT.out hx1 hy1
      go_wp2_with fail
      refine (Z.out _).mono ?_
      rintro e w7 ⟨rfl, b7⟩
      go_wp2_with fail
      go_ret
      exact ⟨ret_bool (by simp), c6.trans (b7.mono c6.size)⟩

end Go.Proofs.YtmicjadbahicfaaDoor
