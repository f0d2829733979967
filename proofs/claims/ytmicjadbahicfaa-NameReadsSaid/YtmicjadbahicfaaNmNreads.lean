/- For every text: the program's Read answers as the reference's (NameReads answers true). No condition. -/
import Derived.Test.YtmicjadbahicfaaNmRg
import Derived.Test.YtmicjadbahicfaaNmRr
import Derived.SizedLaws
import Derived.ProofKit
import Derived.OpenShut
import Derived.ShutString
namespace Go.Proofs.Ytmicjadbahicfaa
open Go.RowKit

set_option maxHeartbeats 1000000 in
set_option maxRecDepth 100000 in
theorem walk6 (s : ByteArray) (hs : s.size ≤ maxLen) (hz : s.data.toList.length ≤ reachBytes) (w : World) :
    Calls Try.prog 4 #[.string s] w fun e w' => e = .returned (.bool true) ∧ Below w.heap.size w w' := by
  have hz' : s.size ≤ 140737488351232 := hz
  clear hz
  go_enter Try.func4, Try.ntmps4
  go_wp2_with fail
  refine (reading20 _).mono ?_
  rintro e w1 ⟨rfl, b1⟩
  go_wp2_with fail
  refine (read21 _ _ hs).mono ?_
  rintro e w2 ⟨rfl, b2⟩
  go_wp2_with fail
  refine (read22 _ _ hz').mono ?_
  rintro e w3 ⟨rfl, b3⟩
  go_wp2_with fail
  go_ret
  exact ⟨ret_bool (by simp), (b1.trans (b2.mono b1.size)).trans (b3.mono (Nat.le_trans b1.size b2.size))⟩

end Go.Proofs.Ytmicjadbahicfaa
