/- The walk of NameCmp. -/
import Derived.Test.YtmicjadbahicfaaDoorNcRc
namespace Go.Proofs.YtmicjadbahicfaaDoor
open Go.RowKit

set_option maxHeartbeats 1000000 in
set_option maxRecDepth 100000 in
theorem walkCmp (a b : ByteArray) (ha : a.size ≤ maxLen) (hb : b.size ≤ maxLen) (w : World) :
    Calls Tryd.prog 3 #[.string a, .string b] w fun e w' => e = .returned (.bool true) ∧ Below w.heap.size w w' := by
  have ha9 := ha
  have hb9 := hb
  unfold maxLen at ha hb
  by_cases h1 : 2000 < a.size
  · go_enter Tryd.func3, Tryd.ntmps3
    go_wp2_with fail
    refine (cmp_t2 _).mono ?_
    rintro e w1 ⟨rfl, b1⟩
    go_wp2_with fail
    go_ret
    exact ⟨rfl, b1⟩
  · by_cases h2 : 2000 < b.size
    · go_enter Tryd.func3, Tryd.ntmps3
      go_wp2_with fail
      refine (cmp_t2 _).mono ?_
      rintro e w1 ⟨rfl, b1⟩
      go_wp2_with fail
      go_ret
      exact ⟨rfl, b1⟩
    · obtain ⟨x, hx⟩ : ∃ x, cmpS a.data.toList b.data.toList = x := ⟨_, rfl⟩
      have X := Lib.hid (fun w => cmp_is w ha9 hb9 hx)
      have Y : Hid (∀ w, Calls Tryd.prog 12 #[.string a, .string b] w fun e w' => e = .returned (.int .i64 x) ∧ Below w.heap.size w w') := fun w => by
        refine (refCmp a.size a b w (Nat.le_refl _) ha9 hb9).mono ?_
        rintro e w' ⟨rfl, m, rfl⟩
        exact ⟨by rw [hx], below_drewN (Below.refl _ _) m⟩
      clear hx
      go_enter Tryd.func3, Tryd.ntmps3
      go_wp2_with fail
      refine (cmp_t2 _).mono ?_
      rintro e w1 ⟨rfl, b1⟩
      go_wp2_with fail
      refine (X.out _).mono ?_
      rintro e w2 ⟨rfl, b2⟩
      go_wp2_with fail
      refine (Y.out _).mono ?_
      rintro e w3 ⟨rfl, b3⟩
      go_wp2_with fail
      go_ret
      exact ⟨ret_bool (by simp), (b1.trans (b2.mono b1.size)).trans (b3.mono (Nat.le_trans b1.size b2.size))⟩

end Go.Proofs.YtmicjadbahicfaaDoor
