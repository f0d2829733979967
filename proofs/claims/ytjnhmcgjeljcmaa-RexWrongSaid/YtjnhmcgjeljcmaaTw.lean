/- cursor.Tree, over whatever parser. -/
import Derived.Test.YtjnhmcgjeljcmaaTq
namespace Go.Proofs.Ytjnhmcgjeljcmaa
open Go.RowKit

inductive Wr where
  | ok (t : Tr)
  | err (code : Int) (off : Nat)
def WPost (w : World) (b : Nat) (r : Wr) (e : Ending) (w' : World) : Prop :=
  match r with
  | .ok t => NodeRes w t e w' ∧ w.grownBy w' (some b)
  | .err c o => e = flawE c o ∧ w.grownBy w' (some b)
structure IsParser (fl : FuncId) (Pf : List UInt8 → Wr) : Prop where
  enters : ∀ (args : Array Value) (W : World), (callFunc fl args).run Try.prog W = .ok (.enter fl args) W
  calls : ∀ (b : Nat) (s : ByteArray) (w : World), Cur w b s 0 → s.size ≤ 256 → Calls Try.prog fl #[.pointer (some ⟨b, 0, none⟩)] w (WPost w b (Pf s.data.toList))
def treeOf (Pf : List UInt8 → Wr) (l : List UInt8) : Tr × Int × Nat :=
  if 256 < l.length then (zeroT, 2, 0)
  else match Pf l with
    | .ok t => (t, 0, 0)
    | .err c o => (zeroT, c, o)
def TreePost (w : World) (r : Tr × Int × Nat) (e : Ending) (w' : World) : Prop := ∃ d k A n c A' n' c',
  e = .returned (.tuple #[.agg #[.int .i64 k, .slice A n c, .slice A' n' c'], .int .i64 r.2.1, .int .i64 (r.2.2 : Nat)]) ∧ TreeAt w' (Fresh w w') d r.1 [.int .i64 k, .slice A n c, .slice A' n' c'] ∧ Below w.heap.size w w'
theorem treeAt_zero (w : World) (X : Nat → Prop) : TreeAt w X 1 zeroT [.int .i64 0, .slice none 0 0, .slice none 0 0] := tree_leaf (Nat.zero_le _) (RgAt.nil _ _ _) 0

theorem alloc3_below (w : World) : Below w.heap.size w (((w.alloc (.cells #[.int .i64 0, .slice none 0 0, .slice none 0 0] 26)).alloc (.cells #[.int .i64 0] 27)).alloc (.cells #[.int .i64 0] 3)) :=
  (((Below.refl _ w).alloc (Nat.le_refl _) _).alloc (by simp) _).alloc (by simp; omega) _
theorem alloc4_below (w : World) (s : ByteArray) : Below w.heap.size w ((((w.alloc (.cells #[.int .i64 0, .slice none 0 0, .slice none 0 0] 26)).alloc (.cells #[.int .i64 0] 27)).alloc (.cells #[.int .i64 0] 3)).alloc (.cells #[.string s, .int .i64 0] 122)) :=
  (alloc3_below w).alloc (by simp; omega) _
theorem cur_new3 (w : World) (s : ByteArray) : Cur ((((w.alloc (.cells #[.int .i64 0, .slice none 0 0, .slice none 0 0] 26)).alloc (.cells #[.int .i64 0] 27)).alloc (.cells #[.int .i64 0] 3)).alloc (.cells #[.string s, .int .i64 0] 122)) (w.heap.size + 3) s 0 := by
  have h := Blk.new (((w.alloc (.cells #[.int .i64 0, .slice none 0 0, .slice none 0 0] 26)).alloc (.cells #[.int .i64 0] 27)).alloc (.cells #[.int .i64 0] 3)) 122 #[.string s, .int .i64 0]
  show Blk _ _ _ _
  simpa using h
theorem gb_to_below {a w w' : World} {B g : Nat} (h : Below B a w) (hg : w.grownBy w' (some g)) (hB : B ≤ g) (hB2 : B ≤ w.heap.size := by simp; omega) : Below B a w' :=
  h.trans ⟨hg.os, hg.tape, hg.output, hg.size, fun i hi => hg.block i (by omega) (by simp; omega)⟩
theorem three_new (w : World) (o : Obj) {w1 : World} (g : ((((w.alloc (.cells #[.int .i64 0, .slice none 0 0, .slice none 0 0] 26)).alloc (.cells #[.int .i64 0] 27)).alloc (.cells #[.int .i64 0] 3)).alloc o).grownBy w1 (some (w.heap.size + 3))) :
    Blk w1 w.heap.size 26 #[.int .i64 0, .slice none 0 0, .slice none 0 0] ∧ Blk w1 (w.heap.size + 1) 27 #[.int .i64 0] ∧ Blk w1 (w.heap.size + 2) 3 #[.int .i64 0] := by
  refine ⟨?_, ?_, ?_⟩
  · exact ((((Blk.new w 26 _).alloc _).alloc _).alloc _).grown g (by simp)
  · have h := ((Blk.new (w.alloc (.cells #[.int .i64 0, .slice none 0 0, .slice none 0 0] 26)) 27 #[.int .i64 0]).alloc (.cells #[.int .i64 0] 3)).alloc o
    exact Blk.grown (by simpa using h) g (by simp)
  · have h := (Blk.new ((w.alloc (.cells #[.int .i64 0, .slice none 0 0, .slice none 0 0] 26)).alloc (.cells #[.int .i64 0] 27)) 3 #[.int .i64 0]).alloc o
    exact Blk.grown (by simpa using h) g (by simp)
set_option maxHeartbeats 1000000 in
set_option maxRecDepth 100000 in
theorem tree_long (fl : FuncId) (s : ByteArray) (w : World) (hs : 256 < s.size) :
    Calls Try.prog 34 #[.string s, .func (.func fl) #[] #[]] w (TreePost w (zeroT, 2, 0)) := by
  have hmf : ∀ (fn : Fn) (first cap : Array Value) (w : World), (Instr.makeFunc fn first cap).run Try.prog w = .ok (.func fn first cap) w := fun _ _ _ _ => rfl
  have hs' : (256 : Int) < (s.size : Int) := by omega
  go_enter_defers Try.func34, Try.ntmps34
  go_wp2
  refine leaves_cons (f := 53) (args := #[.pointer (some ⟨w.heap.size, 0, none⟩), .pointer (some ⟨w.heap.size + 1, 0, none⟩), .pointer (some ⟨w.heap.size + 2, 0, none⟩)]) (by simp) (by simp [go_sem]) ?_
  refine (catch_panicking w.heap.size 2 0 [] _ ?_ ?_ ?_).mono ?_
  · exact ((Blk.new w 26 _).alloc _).alloc _
  · have h := (Blk.new (w.alloc (.cells #[.int .i64 0, .slice none 0 0, .slice none 0 0] 26)) 27 #[.int .i64 0]).alloc (.cells #[.int .i64 0] 3)
    simpa using h
  · have h := Blk.new ((w.alloc (.cells #[.int .i64 0, .slice none 0 0, .slice none 0 0] 26)).alloc (.cells #[.int .i64 0] 27)) 3 #[.int .i64 0]
    simpa using h
  rintro e u' w'' ⟨rfl, rfl, h0, h1, h2, hb⟩
  obtain ⟨p0, p1, p2, _, _, _⟩ := blk3 h0
  have q0 : w''.cell? ⟨w.heap.size + 1, 0, none⟩ = some (.int .i64 2) := h1.cell 0
  have r0 : w''.cell? ⟨w.heap.size + 2, 0, none⟩ = some (.int .i64 ((0 : Nat) : Int)) := h2.cell 0
  simp [Leaves, settle, results, Try.results34, go_sem, p0, p1, p2, q0, r0]
  exact ⟨1, 0, none, 0, 0, none, 0, 0, rfl, treeAt_zero _ _, (alloc3_below w).trans hb⟩
set_option maxHeartbeats 1000000 in
set_option maxRecDepth 100000 in
theorem tree_err (fl : FuncId) (Pf : List UInt8 → Wr) (hP : IsParser fl Pf) (s : ByteArray) (w : World) (hs : s.size ≤ 256) (c : Int) (o : Nat) (hr : Pf s.data.toList = .err c o) :
    Calls Try.prog 34 #[.string s, .func (.func fl) #[] #[]] w (TreePost w (zeroT, c, o)) := by
  have hmf : ∀ (fn : Fn) (first cap : Array Value) (w : World), (Instr.makeFunc fn first cap).run Try.prog w = .ok (.func fn first cap) w := fun _ _ _ _ => rfl
  have hs' : ¬ (256 : Int) < (s.size : Int) := by omega
  have hen := hP.enters
  have HR := Lib.hid hr
  clear hr
  go_enter_defers Try.func34, Try.ntmps34
  go_wp2_with fail
  refine (hP.calls (w.heap.size + 3) s _ (cur_new3 w s) hs).mono ?_
  intro e w1 hp
  rw [HR.out] at hp
  obtain ⟨rfl, g1⟩ := hp
  obtain ⟨k0, k1, k2⟩ := three_new w _ g1
  have hb1 : Below w.heap.size w w1 := gb_to_below (alloc4_below w s) g1 (by omega)
  go_wp2
  refine leaves_cons (f := 53) (args := #[.pointer (some ⟨w.heap.size, 0, none⟩), .pointer (some ⟨w.heap.size + 1, 0, none⟩), .pointer (some ⟨w.heap.size + 2, 0, none⟩)]) (by simp) (by simp [go_sem]) ?_
  refine (catch_panicking w.heap.size c o [] _ k0 k1 k2).mono ?_
  rintro e u' w'' ⟨rfl, rfl, h0, h1, h2, hb⟩
  obtain ⟨p0, p1, p2, _, _, _⟩ := blk3 h0
  have q0 : w''.cell? ⟨w.heap.size + 1, 0, none⟩ = some (.int .i64 c) := h1.cell 0
  have r0 : w''.cell? ⟨w.heap.size + 2, 0, none⟩ = some (.int .i64 (o : Nat)) := h2.cell 0
  simp [Leaves, settle, results, Try.results34, go_sem, p0, p1, p2, q0, r0]
  exact ⟨1, 0, none, 0, 0, none, 0, 0, rfl, treeAt_zero _ _, hb1.trans hb⟩
set_option maxHeartbeats 1000000 in
set_option maxRecDepth 100000 in
theorem tree_ok (fl : FuncId) (Pf : List UInt8 → Wr) (hP : IsParser fl Pf) (s : ByteArray) (w : World) (hs : s.size ≤ 256) (t : Tr) (hr : Pf s.data.toList = .ok t) :
    Calls Try.prog 34 #[.string s, .func (.func fl) #[] #[]] w (TreePost w (t, 0, 0)) := by
  have hmf : ∀ (fn : Fn) (first cap : Array Value) (w : World), (Instr.makeFunc fn first cap).run Try.prog w = .ok (.func fn first cap) w := fun _ _ _ _ => rfl
  have hs' : ¬ (256 : Int) < (s.size : Int) := by omega
  have hen := hP.enters
  have HR := Lib.hid hr
  clear hr
  go_enter_defers Try.func34, Try.ntmps34
  go_wp2_with fail
  refine (hP.calls (w.heap.size + 3) s _ (cur_new3 w s) hs).mono ?_
  intro e w1 hp
  rw [HR.out] at hp
  obtain ⟨⟨d, k, A, n, cp, A', n', c', rfl, ht⟩, g1⟩ := hp
  obtain ⟨k0, k1, k2⟩ := three_new w _ g1
  have hb1 : Below w.heap.size w w1 := gb_to_below (alloc4_below w s) g1 (by omega)
  obtain ⟨p0, p1, p2, f0, f1, f2⟩ := blk3 k0
  have q0 : w1.cell? ⟨w.heap.size + 1, 0, none⟩ = some (.int .i64 0) := k1.cell 0
  have q1 : w1.frozen? ⟨w.heap.size + 1, 0, none⟩ = false := k1.frozen 0
  have r0 : w1.cell? ⟨w.heap.size + 2, 0, none⟩ = some (.int .i64 0) := k2.cell 0
  have r1 : w1.frozen? ⟨w.heap.size + 2, 0, none⟩ = false := k2.frozen 0
  have HT := Lib.hid ht
  clear ht
  go_wp2
  refine leaves_cons (f := 53) (args := #[.pointer (some ⟨w.heap.size, 0, none⟩), .pointer (some ⟨w.heap.size + 1, 0, none⟩), .pointer (some ⟨w.heap.size + 2, 0, none⟩)]) (by simp) (by simp [go_sem]) ?_
  refine (catch_idle _ _ _ _).mono ?_
  rintro e u' w'' ⟨rfl, rfl, rfl⟩
  simp [Leaves, settle, results, Try.results34, go_sem, p0, p1, p2, q0, r0]
  refine ⟨d, k, A, n, cp, A', n', c', rfl, ?_, ?_⟩
  · refine (HT.out.keep (w' := (((((w1.setCell ⟨w.heap.size, 0, none⟩ (.int .i64 k)).setCell ⟨w.heap.size, 1, none⟩ (.slice A n cp)).setCell ⟨w.heap.size, 2, none⟩ (.slice A' n' c')).setCell ⟨w.heap.size + 1, 0, none⟩ (.int .i64 0)).setCell ⟨w.heap.size + 1 + 1, 0, none⟩ (.int .i64 0))) fun j hj => ?_).mono fun j hj => ⟨?_, ?_⟩
    · have h1 := hj.1
      simp at h1
      rw [Below.heap_setCell _ _ _ _ (by simp; omega), Below.heap_setCell _ _ _ _ (by simp; omega), Below.heap_setCell _ _ _ _ (by simp; omega), Below.heap_setCell _ _ _ _ (by simp; omega), Below.heap_setCell _ _ _ _ (by simp; omega)]
    · have h1 := hj.1
      simp at h1; omega
    · simp [World.setCell]; exact hj.2
  · exact ((((hb1.setCell (p := ⟨w.heap.size, 0, none⟩) (Nat.le_refl _) _).setCell (p := ⟨w.heap.size, 1, none⟩) (Nat.le_refl _) _).setCell (p := ⟨w.heap.size, 2, none⟩) (Nat.le_refl _) _).setCell (p := ⟨w.heap.size + 1, 0, none⟩) (by simp) _).setCell (p := ⟨w.heap.size + 1 + 1, 0, none⟩) (by simp; omega) _
theorem tree_any (fl : FuncId) (Pf : List UInt8 → Wr) (hP : IsParser fl Pf) (s : ByteArray) (w : World) :
    Calls Try.prog 34 #[.string s, .func (.func fl) #[] #[]] w (TreePost w (treeOf Pf s.data.toList)) := by
  unfold treeOf
  by_cases h : 256 < s.data.toList.length
  · rw [if_pos h]; exact tree_long fl s w h
  · rw [if_neg h]
    have h' : s.size ≤ 256 := Nat.le_of_not_lt h
    cases hr : Pf s.data.toList with
    | ok t => exact tree_ok fl Pf hP s w h' t hr
    | err c o => exact tree_err fl Pf hP s w h' c o hr

def globW (l : List UInt8) : Wr := match piecesF l with | .ok ts => .ok (.mk 2 [] ts) | .err c o => .err c o
theorem glob_is : IsParser 95 globW := ⟨fun args W => by kernel_rfl, fun b s w hc hs => by
  refine (pieces_any b s w hc hs).mono ?_
  intro e w' h
  unfold globW
  have h0 : restL s 0 = s.data.toList := rfl
  rw [h0] at h
  cases hp : piecesF s.data.toList with
  | ok ts => rw [hp] at h; exact h
  | err c o => rw [hp] at h; exact ⟨by rw [h.1, Nat.zero_add], h.2⟩⟩
theorem parseG_eq (l : List UInt8) : parseG l = treeOf globW l := by
  unfold parseG treeOf globW
  split
  · rfl
  · cases piecesF l <;> rfl

set_option maxHeartbeats 400000 in
theorem parse_any (s : ByteArray) (w : World) : Calls Try.prog 62 #[.string s] w (TreePost w (parseG s.data.toList)) := by
  rw [parseG_eq]
  go_enter Try.func62, Try.ntmps62
  go_wp2_with fail
  refine (tree_any 95 globW glob_is s _).mono ?_
  rintro e w1 ⟨d, k, A, n, c, A', n', c', rfl, ht, hb⟩
  obtain ⟨p0, p1, p2, f0, f1, f2⟩ := blk3 ((Blk.new w 26 _).below hb (by simp))
  have HT := Lib.hid ht
  have hb1 : Below w.heap.size w w1 := ((Below.refl _ w).alloc (Nat.le_refl _) _).trans (hb.mono (by simp))
  clear ht
  go_wp2
  refine bodyPost_ret (v := .tuple #[.agg #[.int .i64 k, .slice A n c, .slice A' n' c'], .int .i64 (treeOf globW s.data.toList).2.1, .int .i64 ((treeOf globW s.data.toList).2.2 : Nat)]) (by simp [results, Try.results62, go_sem, *]) rfl ⟨d, k, A, n, c, A', n', c', rfl, ?_, ?_⟩
  · refine (HT.out.keep (w' := ((w1.setCell ⟨w.heap.size, 0, none⟩ (.int .i64 k)).setCell ⟨w.heap.size, 1, none⟩ (.slice A n c)).setCell ⟨w.heap.size, 2, none⟩ (.slice A' n' c')) fun j hj => ?_).mono fun j hj => ⟨?_, ?_⟩
    · have h1 := hj.1
      simp at h1
      rw [Below.heap_setCell _ _ _ _ (by simp; omega), Below.heap_setCell _ _ _ _ (by simp; omega), Below.heap_setCell _ _ _ _ (by simp; omega)]
    · have h1 := hj.1
      simp at h1; omega
    · simp [World.setCell]; exact hj.2
  · exact ((hb1.setCell (p := ⟨w.heap.size, 0, none⟩) (Nat.le_refl _) _).setCell (p := ⟨w.heap.size, 1, none⟩) (Nat.le_refl _) _).setCell (p := ⟨w.heap.size, 2, none⟩) (Nat.le_refl _) _
end Go.Proofs.Ytjnhmcgjeljcmaa
