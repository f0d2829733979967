/- writing answers true. -/
import Derived.Test.YtmicjadbahicfaaNmNw
namespace Go.Proofs.Ytmicjadbahicfaa
open Go.RowKit

set_option maxHeartbeats 400000 in
theorem writing15 (w : World) : Calls Try.prog 7 #[] w fun e w' => e = .returned (.bool true) ∧ Below w.heap.size w w' := by
  have hw : writeL ⟨#[97, 32, 98, 10, 92]⟩ = [97, 32, 98, 92, 48, 97, 92, 53, 99] := by decide
  have hc : Calls Try.prog 8 #[.string ⟨#[97, 32, 98, 10, 92]⟩] w fun e w' => e = .returned (.string ⟨#[97, 32, 98, 92, 48, 97, 92, 53, 99]⟩) ∧ Below w.heap.size w w' := by
    refine (write16 _ w (by decide)).mono ?_
    rintro e w' ⟨rfl, hb⟩
    exact ⟨by rw [hw], hb⟩
  clear hw
  go_enter Try.func7, Try.ntmps7
  go_wp2_with fail
  refine hc.mono ?_
  rintro e w' ⟨rfl, hb⟩
  clear hc
  go_wp2_with fail
  go_ret
  exact ⟨rfl, hb⟩

end Go.Proofs.Ytmicjadbahicfaa
