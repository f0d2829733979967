/- The law's trees: of, tree; rows of one kid and of two. -/
import Derived.Test.YtepfpmnfecehbaaOs
import Derived.Test.YtepfpmnfecehbaaKyd
namespace Go.Proofs.Ytepfpmnfecehbaa
open Go.RowKit Go.Maps

def OfPost (w : World) (lo hi : UInt8) (e : Ending) (w' : World) : Prop :=
  ∃ g, e = .returned (.agg #[.int .i64 1, .slice (some ⟨g, 0, none⟩) 1 1, .slice none 0 0]) ∧ TreeAt w' (· < w'.heap.size) 1 (.mk 1 [(lo, hi)] []) [.int .i64 1, .slice (some ⟨g, 0, none⟩) 1 1, .slice none 0 0] ∧ Below w.heap.size w w'
def TreePost (w : World) (k : Int) (A : Option Addr) (n c : Nat) (e : Ending) (w' : World) : Prop :=
  e = .returned (.agg #[.int .i64 k, .slice none 0 0, .slice A n c]) ∧ Below w.heap.size w w'
theorem tree_below {w w' : World} {d : Nat} {t : Tr} {cs : List Value} (h : TreeAt w (· < w.heap.size) d t cs) (hb : Below w.heap.size w w') : TreeAt w' (· < w'.heap.size) d t cs :=
  (h.keep fun b hb' => hb.block b hb').mono fun _ hb' => Nat.lt_of_lt_of_le hb' hb.size
theorem one_kid {w : World} {d : Nat} {t : Tr} {v0 v1 v2 : Value} (k : Int) (ht : TreeAt w (· < w.heap.size) d t [v0, v1, v2]) :
    TreeAt (w.alloc (.cells #[v0, v1, v2] 26)) (· < (w.alloc (.cells #[v0, v1, v2] 26)).heap.size) (d + 1) (.mk k [] [t]) [.int .i64 k, .slice none 0 0, .slice (some ⟨w.heap.size, 0, none⟩) 1 1] := by
  refine ⟨none, 0, 0, _, 1, 1, rfl, Nat.zero_le _, ⟨by decide, Nat.le_refl _⟩, RgAt.nil _ _ _, rfl, fun _ => ⟨w.heap.size, 0, rfl, by simp, fun i t' hi => ?_⟩⟩
  obtain ⟨p0, p1, p2, _, _, _⟩ := blk3 (Blk.new w 26 #[v0, v1, v2])
  match i, hi with
  | 0, hi =>
    simp at hi; subst hi
    exact ⟨v0, v1, v2, p0, p1, p2, tree_below ht ((Below.refl _ w).alloc (Nat.le_refl _) _)⟩
theorem two_kids {w : World} {d : Nat} {t u : Tr} {v0 v1 v2 u0 u1 u2 : Value} (k : Int) (ht : TreeAt w (· < w.heap.size) d t [v0, v1, v2]) (hu : TreeAt w (· < w.heap.size) d u [u0, u1, u2]) :
    TreeAt (w.alloc (.cells #[v0, v1, v2, u0, u1, u2] 26)) (· < (w.alloc (.cells #[v0, v1, v2, u0, u1, u2] 26)).heap.size) (d + 1) (.mk k [] [t, u]) [.int .i64 k, .slice none 0 0, .slice (some ⟨w.heap.size, 0, none⟩) 2 2] := by
  refine ⟨none, 0, 0, _, 2, 2, rfl, Nat.zero_le _, ⟨by decide, Nat.le_refl _⟩, RgAt.nil _ _ _, rfl, fun _ => ⟨w.heap.size, 0, rfl, by simp, fun i t' hi => ?_⟩⟩
  have hB := Blk.new w 26 #[v0, v1, v2, u0, u1, u2]
  match i, hi with
  | 0, hi =>
    simp at hi; subst hi
    exact ⟨v0, v1, v2, hB.cell 0, hB.cell 1, hB.cell 2, tree_below ht ((Below.refl _ w).alloc (Nat.le_refl _) _)⟩
  | 1, hi =>
    simp at hi; subst hi
    exact ⟨u0, u1, u2, hB.cell 3, hB.cell 4, hB.cell 5, tree_below hu ((Below.refl _ w).alloc (Nat.le_refl _) _)⟩
set_option maxHeartbeats 1000000 in
set_option maxRecDepth 100000 in
theorem of_any (lo hi : UInt8) (w : World) : Calls Try.prog 30 #[.int .u8 (lo.toNat : Nat), .int .u8 (hi.toNat : Nat)] w (OfPost w lo hi) := by
  go_enter Try.func30, Try.ntmps30
  go_wp2
  have hB := Blk.new (w.alloc (.cells #[.int .i64 1, .slice (some ⟨w.heap.size + 1, 0, none⟩) 1 1, .slice none 0 0] 26)) 117 #[.int .u8 (lo.toNat : Nat), .int .u8 (hi.toNat : Nat)]
  have hs : (w.alloc (.cells #[.int .i64 1, .slice (some ⟨w.heap.size + 1, 0, none⟩) 1 1, .slice none 0 0] 26)).heap.size = w.heap.size + 1 := by simp
  rw [hs] at hB
  refine bodyPost_ret (v := .agg #[.int .i64 1, .slice (some ⟨w.heap.size + 1, 0, none⟩) 1 1, .slice none 0 0]) (by simp [results, Try.results30, go_sem]) rfl ⟨_, rfl, ⟨_, 1, 1, none, 0, 0, rfl, by decide, ⟨Nat.zero_le _, Nat.le_refl _⟩, ⟨rfl, fun _ => ⟨_, 0, rfl, hB.lt, fun i r hr => ?_⟩⟩, rfl, fun h => absurd h (by omega)⟩, ((Below.refl _ w).alloc (Nat.le_refl _) _).alloc (by simp) _⟩
  match i, hr with
  | 0, hr =>
    obtain rfl : (lo, hi) = r := by simpa using hr
    exact ⟨hB.cell 0, hB.cell 1⟩
set_option maxHeartbeats 1000000 in
set_option maxRecDepth 100000 in
theorem tree_any (k : Int) (A : Option Addr) (n c : Nat) (w : World) : Calls Try.prog 29 #[.int .i64 k, .slice A n c] w (TreePost w k A n c) := by
  go_enter Try.func29, Try.ntmps29
  go_wp2
  exact bodyPost_ret (v := .agg #[.int .i64 k, .slice none 0 0, .slice A n c]) (by simp [results, Try.results29, go_sem]) rfl ⟨rfl, (Below.refl _ w).alloc (Nat.le_refl _) _⟩
end Go.Proofs.Ytepfpmnfecehbaa
