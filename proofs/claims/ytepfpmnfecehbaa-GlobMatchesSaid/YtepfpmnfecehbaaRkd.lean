/- The reference's class answers classP. -/
import Derived.Test.YtepfpmnfecehbaaRka
import Derived.Test.YtepfpmnfecehbaaRkb
import Derived.Test.YtepfpmnfecehbaaRkc
namespace Go.Proofs.Ytepfpmnfecehbaa
open Go.RowKit
theorem rclass_any (k : Nat) (s : ByteArray) (w : World) (hk : k < s.size) (hs : s.size ≤ 256) :
    Calls Try.prog 42 #[.string s, .int .i64 (k : Nat)] w (CRes w (k + 1) (classP letterG 33 (restL s (k + 1)))) := by
  rcases class_ways s (k + 1) (by omega) with ⟨k1, hk1, hjl, hjb, hcl⟩ | ⟨k1, hk1, hjl, hjb, hcl⟩ | ⟨k1, hk1, hjl, hcl⟩
  · exact rclass_neg k k1 s w hk hs hk1 hjl hjb hcl
  · exact rclass_pos k k1 s w hk hs hk1 hjl hjb hcl
  · exact rclass_end k k1 s w hk hs hk1 hjl hcl
end Go.Proofs.Ytepfpmnfecehbaa
