/- NfaSteps answers true. -/
import Derived.Test.YtgcbcdbfeaepkaaOz
namespace Go.Proofs.Ytgcbcdbfeaepkaa
open Go.RowKit Go.Maps

theorem node_cells {w w' : World} {g : Nat} {a b c : Value} (h : Blk w g 25 #[a, b, c]) (hb : Below w.heap.size w w') : Blk w' g 25 #[a, b, c] := (hb.block g h.lt).trans h
end Go.Proofs.Ytgcbcdbfeaepkaa
