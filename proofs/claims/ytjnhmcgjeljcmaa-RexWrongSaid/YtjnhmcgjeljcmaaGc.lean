/- glob.set, anyByte, class. -/
import Derived.Test.YtjnhmcgjeljcmaaGp
import Derived.Test.YtjnhmcgjeljcmaaGr
import Derived.Test.YtjnhmcgjeljcmaaLt
namespace Go.Proofs.Ytjnhmcgjeljcmaa
open Go.RowKit

/-- What is new since w. -/
def Fresh (w w' : World) (b : Nat) : Prop := w.heap.size ≤ b ∧ b < w'.heap.size

theorem nodeInfo : (Try.prog.info? 26).map (fun i => (i.zero, i.size, i.bytes)) = some (some (.agg #[.int .i64 0, .slice none 0 0, .slice none 0 0]), 3, 56) := by kernel_rfl

theorem set_any (A : Option Addr) (n c : Nat) (w : World) :
    Calls Try.prog 139 #[.slice A n c] w fun e w' => e = .returned (.agg #[.int .i64 1, .slice A n c, .slice none 0 0]) ∧ Below w.heap.size w w' := by
  go_enter Try.func139, Try.ntmps139
  go_wp2
  refine bodyPost_ret (v := .agg #[.int .i64 1, .slice A n c, .slice none 0 0]) (by simp [results, Try.results139, go_sem]) rfl ⟨rfl, ?_⟩
  exact (Below.refl _ w).alloc (Nat.le_refl _) _

/-- A node that is handed back, in new memory. -/
def NodeRes (w : World) (t : Tr) (e : Ending) (w' : World) : Prop := ∃ d k A n c A' n' c', e = .returned (.agg #[.int .i64 k, .slice A n c, .slice A' n' c']) ∧ TreeAt w' (Fresh w w') d t [.int .i64 k, .slice A n c, .slice A' n' c']

theorem any_any (w : World) :
    Calls Try.prog 136 #[] w fun e w' => NodeRes w anyT e w' ∧ Below w.heap.size w w' := by
  go_enter Try.func136, Try.ntmps136
  go_wp2_with fail
  refine (ranges_any none 0 0 [] true _ (RgAt.nil _ _ _) (Nat.zero_le _)).mono ?_
  rintro e w1 ⟨v1, rfl, o1, b1⟩
  obtain ⟨A1, c1, rfl, _, hm1, r1⟩ := rg_of_own o1
  have hb1 : Below w.heap.size w w1 := ((Below.refl _ w).alloc (Nat.le_refl _) _).trans (b1.mono (by simp))
  have hs1 : w.heap.size + 1 ≤ w1.heap.size := by have := b1.size; simpa using this
  have hblk : Blk w1 w.heap.size 26 _ := (Blk.new w 26 _).below b1 (by simp)
  clear o1 b1
  go_wp2_with fail
  refine (set_any _ _ _ _).mono ?_
  rintro e w2 ⟨rfl, b2⟩
  have hblk2 := hblk.below b2 (by omega)
  obtain ⟨p0, p1, p2, z0, z1, z2⟩ := blk3 hblk2
  have hb2 := hb1.trans (b2.mono hb1.size)
  have R2 := Lib.hid (r1.keep (w' := w2) fun b hb => b2.block b hb.2.1)
  have hs2 := b2.size
  clear r1 hblk hblk2
  go_wp2
  refine bodyPost_ret (v := .agg #[.int .i64 1, .slice A1 (rangesL [] true).length c1, .slice none 0 0]) (by simp [results, Try.results136, go_sem, *]) rfl ⟨⟨1, 1, A1, _, c1, none, 0, 0, rfl, ?_⟩, ?_⟩
  · refine tree_leaf hm1 ?_ 0
    have h1 := R2.out
    refine (h1.keep (w' := ((w2.setCell ⟨w.heap.size, 0, none⟩ _).setCell ⟨w.heap.size, 1, none⟩ _).setCell ⟨w.heap.size, 2, none⟩ _) fun b hb => ?_).mono fun b hb => ⟨?_, ?_⟩
    · have : b ≠ w.heap.size := by have := hb.1; simp at this; omega
      rw [Below.heap_setCell _ _ _ _ this, Below.heap_setCell _ _ _ _ this, Below.heap_setCell _ _ _ _ this]
    · have := hb.1; simp at this; omega
    · simp [World.setCell]; have := hb.2.1; omega
  · exact ((hb2.setCell (p := ⟨w.heap.size, 0, none⟩) (Nat.le_refl _) _).setCell (p := ⟨w.heap.size, 1, none⟩) (Nat.le_refl _) _).setCell (p := ⟨w.heap.size, 2, none⟩) (Nat.le_refl _) _
end Go.Proofs.Ytjnhmcgjeljcmaa
