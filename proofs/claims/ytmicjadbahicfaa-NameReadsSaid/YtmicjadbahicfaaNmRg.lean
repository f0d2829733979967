/- reading answers true. -/
import Derived.Test.YtmicjadbahicfaaNmRd
namespace Go.Proofs.Ytmicjadbahicfaa
open Go.RowKit

set_option maxHeartbeats 400000 in
theorem reading20 (w : World) : Calls Try.prog 12 #[] w fun e w' => e = .returned (.bool true) ∧ Below w.heap.size w w' := by
  have hw : readO ⟨#[92, 50, 48, 120]⟩ = some [32, 120] := by decide +kernel
  have hc : Calls Try.prog 13 #[.string ⟨#[92, 50, 48, 120]⟩] w fun e w' => e = .returned (.tuple #[.string ⟨#[32, 120]⟩, .bool true]) ∧ Below w.heap.size w w' := by
    refine (read21 _ w (by decide)).mono ?_
    rintro e w' ⟨rfl, hb⟩
    exact ⟨by rw [(read_some hw).1, (read_some hw).2], hb⟩
  clear hw
  go_enter Try.func12, Try.ntmps12
  go_wp2_with fail
  refine hc.mono ?_
  rintro e w' ⟨rfl, hb⟩
  clear hc
  go_wp2_with fail
  go_ret
  exact ⟨rfl, hb⟩

end Go.Proofs.Ytmicjadbahicfaa
