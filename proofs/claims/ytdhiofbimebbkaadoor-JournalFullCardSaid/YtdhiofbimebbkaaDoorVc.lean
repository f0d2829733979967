/- The disk's small functions: mayHave, file, step, Room, Fail, Down. -/
import Derived.Test.YtdhiofbimebbkaaDoorVb
namespace Go.Proofs.YtdhiofbimebbkaaDoor
open Go.RowKit Go.Maps

section
variable {w : World} {dp bm free fuse : Nat} {M : List Fl} {down : Bool}
def mayC (down : Bool) (n : Nat) : Int := if down then 70 else if n < 1 ∨ 40 < n then 1 else 0
theorem may_any (h : FsAt w dp bm M free fuse down) (s : ByteArray) :
    Calls Tryd.prog 33 #[.pointer (some ⟨dp, 0, none⟩), .string s] w fun e w' => e = .returned (.int .i64 (mayC down s.size)) ∧ w = w' := by
  obtain ⟨c0, c1, c2, c3, f1, f2, f3⟩ := blk4 h.top
  have HC := Lib.hid (show mayC down s.size = if down then 70 else if s.size < 1 ∨ 40 < s.size then 1 else 0 from rfl)
  cases down
  · by_cases h1 : s.size < 1
    · have h1' : (s.size : Int) < 1 := by omega
      go_enter Tryd.func33, Tryd.ntmps33
      go_wp2
      go_ret
      exact ⟨by rw [HC.out]; simp [h1], rfl⟩
    · have h1' : ¬ (s.size : Int) < 1 := by omega
      by_cases h2 : 40 < s.size
      · have h2' : (40 : Int) < (s.size : Int) := by omega
        go_enter Tryd.func33, Tryd.ntmps33
        go_wp2
        go_ret
        exact ⟨by rw [HC.out]; simp [h2], rfl⟩
      · have h2' : ¬ (40 : Int) < (s.size : Int) := by omega
        go_enter Tryd.func33, Tryd.ntmps33
        go_wp2
        go_ret
        exact ⟨by rw [HC.out, if_neg (by decide), if_neg (by omega)]; rfl, rfl⟩
  · go_enter Tryd.func33, Tryd.ntmps33
    go_wp2
    go_ret
    exact ⟨by rw [HC.out]; rfl, rfl⟩
def fileC (down : Bool) : Option Fl → Int
  | some _ => if down then 70 else 0
  | none => if down then 70 else 4
def fileV (down : Bool) (o : Option Fl) : Value := if down then .pointer none else ptrOf o
theorem file_any (h : FsAt w dp bm M free fuse down) (s : ByteArray) (hs : s.size ≤ maxLen) :
    Calls Tryd.prog 36 #[.pointer (some ⟨dp, 0, none⟩), .string s] w fun e w' => e = .returned (.tuple #[fileV down (look s.data.toList M), .int .i64 (fileC down (look s.data.toList M))]) ∧ w = w' := by
  obtain ⟨c0, c1, c2, c3, f1, f2, f3⟩ := blk4 h.top
  have hL := h.lookup s hs
  generalize look s.data.toList M = o at hL ⊢
  cases down
  · cases o with
    | none =>
      have hL' : (Instr.lookup 47 (.map (some bm)) (.string s) false).run Tryd.prog w = .ok (.pointer none) w := hL
      clear hL
      go_enter Tryd.func36, Tryd.ntmps36
      go_wp2
      go_ret2
      exact ⟨rfl, rfl⟩
    | some f =>
      have hL' : (Instr.lookup 47 (.map (some bm)) (.string s) false).run Tryd.prog w = .ok (.pointer (some ⟨f.fb, 0, none⟩)) w := hL
      clear hL
      go_enter Tryd.func36, Tryd.ntmps36
      go_wp2
      go_ret2
      exact ⟨rfl, rfl⟩
  · go_enter Tryd.func36, Tryd.ntmps36
    go_wp2
    go_ret2
    exact ⟨by cases o <;> rfl, rfl⟩
theorem room_any (h : FsAt w dp bm M free fuse down) : Calls Tryd.prog 19 #[.pointer (some ⟨dp, 0, none⟩)] w fun e w' => e = .returned (.int .i64 (free : Nat)) ∧ w = w' := by
  obtain ⟨c0, c1, c2, c3, f1, f2, f3⟩ := blk4 h.top
  go_enter Tryd.func19, Tryd.ntmps19
  go_wp2
  go_ret
  exact ⟨rfl, rfl⟩
/-- The top's block written. -/
theorem FsAt.top_set (h : FsAt w dp bm M free fuse down) {free' fuse' : Nat} {down' : Bool} {w' : World} (ht : Blk w' dp 49 #[.map (some bm), .int .i64 (free' : Nat), .int .i64 (fuse' : Nat), .bool down']) (hk : ∀ j, j ≠ dp → w'.heap[j]? = w.heap[j]?) : FsAt w' dp bm M free' fuse' down' where
  top := ht
  mp := by
    obtain ⟨es, clock, hb, F, hs, hD⟩ := h.mp
    exact ⟨es, clock, (hk bm h.ap.1.symm).trans hb, F, hs, hD⟩
  rise := h.rise
  files := fun f hf => (h.files f hf).keep (hk _ (h.ap.2.1 f hf).1) fun r hr => hk r (fun e => (h.ap.2.1 f hf).2.2.1 (by rw [hr, e]))
  fbs := h.fbs
  rbs := h.rbs
theorem FsAt.set1 (h : FsAt w dp bm M free fuse down) (free' : Nat) : FsAt (w.setCell ⟨dp, 1, none⟩ (.int .i64 (free' : Nat))) dp bm M free' fuse down :=
  h.top_set (Blk.set_ h.top 1 _) fun _ hj => Below.heap_setCell _ _ _ _ hj
theorem FsAt.set2 (h : FsAt w dp bm M free fuse down) (fuse' : Nat) : FsAt (w.setCell ⟨dp, 2, none⟩ (.int .i64 (fuse' : Nat))) dp bm M free fuse' down :=
  h.top_set (Blk.set_ h.top 2 _) fun _ hj => Below.heap_setCell _ _ _ _ hj
theorem FsAt.set3 (h : FsAt w dp bm M free fuse down) (down' : Bool) : FsAt (w.setCell ⟨dp, 3, none⟩ (.bool down')) dp bm M free fuse down' :=
  h.top_set (Blk.set_ h.top 3 _) fun _ hj => Below.heap_setCell _ _ _ _ hj
def posP (n : Int) : Nat := n.toNat
/-- A step at which the power goes. -/
theorem step_off (h : FsAt w dp bm M free 1 down) (fv : Value) : Calls Tryd.prog 34 #[.pointer (some ⟨dp, 0, none⟩), fv] w fun e w' => e = .returned (.int .i64 70) ∧ FsAt w' dp bm M free 1 true ∧ Kept (Own dp bm M) w w' := by
  obtain ⟨c0, c1, c2, c3, f1, f2, f3⟩ := blk4 h.top
  go_enter Tryd.func34, Tryd.ntmps34
  go_wp2
  go_ret
  exact ⟨rfl, h.set3 true, (Kept.refl _ w).set_ (p := ⟨dp, 3, none⟩) (.inl (.inl rfl)) _⟩
end
end Go.Proofs.YtdhiofbimebbkaaDoor
