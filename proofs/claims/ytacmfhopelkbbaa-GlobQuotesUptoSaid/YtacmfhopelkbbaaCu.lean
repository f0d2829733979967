/- The cursor's leaves: HasPrefix, Over, Is, Skip, Take at a cursor that lies in a block of its own. -/
import Derived.Test.YtacmfhopelkbbaaProg
import Derived.WalkKit
import Derived.WalkLawsBesides
import Derived.Deep.QuietTactic
import Derived.BigQuiet
import Derived.Lib.Hide
import Derived.Below
import Derived.Deep.Draws
import Derived.Deep.AppendLies
namespace Go.Proofs.Ytacmfhopelkbbaa
open Go.RowKit

/-- Block g is just these cells. -/
def Blk (w : World) (g : Nat) (t : TypeId) (cs : Array Value) : Prop := w.heap[g]? = some (.cells cs t (0, 0))
section
variable {w w' : World} {g : Nat} {t : TypeId} {cs : Array Value}
theorem Blk.lt (h : Blk w g t cs) : g < w.heap.size := by
  rcases Nat.lt_or_ge g w.heap.size with hlt | hge
  · exact hlt
  · unfold Blk at h; rw [Array.getElem?_eq_none hge] at h; cases h
theorem Blk.cell (h : Blk w g t cs) (i : Nat) : w.cell? ⟨g, i, none⟩ = cs[i]? := cell_of_row w g i cs t (0, 0) h
theorem Blk.frozen (h : Blk w g t cs) (i : Nat) : w.frozen? ⟨g, i, none⟩ = false := by
  unfold Blk at h
  simp [World.frozen?, h]
theorem Blk.new (w : World) (t : TypeId) (cs : Array Value) : Blk (w.alloc (.cells cs t)) w.heap.size t cs := heap_alloc_new w _
theorem Blk.drew (h : Blk w g t cs) : Blk w.drew g t cs := h
theorem Blk.drewN (h : Blk w g t cs) (n : Nat) : Blk (w.drewN n) g t cs := h
theorem Blk.alloc (h : Blk w g t cs) (o : Obj) : Blk (w.alloc o) g t cs := (Below.heap_alloc w o g h.lt).trans h
theorem Blk.set_ (h : Blk w g t cs) (i : Nat) (u : Value) : Blk (w.setCell ⟨g, i, none⟩ u) g t (cs.setIfInBounds i u) := by
  unfold Blk at h ⊢
  simp [World.setCell, Array.getElem?_modify, h]
theorem Blk.far (h : Blk w g t cs) {p : Addr} (hp : g ≠ p.block) (u : Value) : Blk (w.setCell p u) g t cs := (Below.heap_setCell w p u g hp).trans h
theorem Blk.below {B : Nat} (h : Blk w g t cs) (hb : Below B w w') (hg : g < B) : Blk w' g t cs := (hb.block g hg).trans h
theorem Blk.grown {row : Option Nat} (h : Blk w g t cs) (hb : w.grownBy w' row) (hg : some g ≠ row) : Blk w' g t cs := (hb.block g h.lt hg).trans h
end
theorem blk2 {w : World} {g : Nat} {t : TypeId} {a b : Value} (h : Blk w g t #[a, b]) : w.cell? ⟨g, 0, none⟩ = some a ∧ w.cell? ⟨g, 1, none⟩ = some b ∧ w.frozen? ⟨g, 0, none⟩ = false ∧ w.frozen? ⟨g, 1, none⟩ = false :=
  ⟨h.cell 0, h.cell 1, h.frozen 0, h.frozen 1⟩
theorem blk3 {w : World} {g : Nat} {t : TypeId} {a b c : Value} (h : Blk w g t #[a, b, c]) : w.cell? ⟨g, 0, none⟩ = some a ∧ w.cell? ⟨g, 1, none⟩ = some b ∧ w.cell? ⟨g, 2, none⟩ = some c ∧ w.frozen? ⟨g, 0, none⟩ = false ∧ w.frozen? ⟨g, 1, none⟩ = false ∧ w.frozen? ⟨g, 2, none⟩ = false :=
  ⟨h.cell 0, h.cell 1, h.cell 2, h.frozen 0, h.frozen 1, h.frozen 2⟩
theorem gb_refl (w : World) (row : Option Nat) : w.grownBy w row := World.grownBy.refl w row
theorem gb_drewN {a w : World} {row : Option Nat} (h : a.grownBy w row) (n : Nat) : a.grownBy (w.drewN n) row := ⟨h.os, h.tape, h.output, h.size, h.block⟩
theorem gb_drew {a w : World} {row : Option Nat} (h : a.grownBy w row) : a.grownBy w.drew row := ⟨h.os, h.tape, h.output, h.size, h.block⟩
theorem gb_alloc {a w : World} {row : Option Nat} (h : a.grownBy w row) (o : Obj) : a.grownBy (w.alloc o) row :=
  ⟨h.os, h.tape, h.output, Nat.le_trans h.size (by simp), fun i hi hne => (Below.heap_alloc w o i (Nat.lt_of_lt_of_le hi h.size)).trans (h.block i hi hne)⟩
theorem gb_set {a w : World} {g : Nat} (h : a.grownBy w (some g)) {p : Addr} (hp : p.block = g ∨ a.heap.size ≤ p.block) (u : Value) : a.grownBy (w.setCell p u) (some g) :=
  ⟨h.os, h.tape, h.output, by simpa [World.setCell] using h.size, fun i hi hne => (Below.heap_setCell w p u i (by
    rintro rfl
    rcases hp with hp | hp
    · exact hne (by rw [hp])
    · omega)).trans (h.block i hi hne)⟩
theorem gb_trans {a b c : World} {row : Option Nat} (h : a.grownBy b row) (k : b.grownBy c row) : a.grownBy c row :=
  ⟨k.os.trans h.os, k.tape.trans h.tape, k.output.trans h.output, Nat.le_trans h.size k.size, fun i hi hne => (k.block i (Nat.lt_of_lt_of_le hi h.size) hne).trans (h.block i hi hne)⟩
theorem gb_below {a w : World} (h : Below a.heap.size a w) (row : Option Nat) : a.grownBy w row := ⟨h.os, h.tape, h.output, h.size, fun i hi _ => h.block i hi⟩
/-- A step whose row is new, or the same row. -/
theorem gb_step {a b c : World} {g : Nat} {row : Option Nat} (h : a.grownBy b (some g)) (k : b.grownBy c row) (hr : ∀ j, row = some j → j = g ∨ a.heap.size ≤ j) : a.grownBy c (some g) :=
  ⟨k.os.trans h.os, k.tape.trans h.tape, k.output.trans h.output, Nat.le_trans h.size k.size, fun i hi hne => (k.block i (Nat.lt_of_lt_of_le hi h.size) (fun e => by
    rcases hr i e.symm with h1 | h1
    · exact hne (by rw [h1])
    · omega)).trans (h.block i hi hne)⟩

theorem ret_bool {a b : Bool} (h : a = b) : Ending.returned (.bool a) = .returned (.bool b) := by rw [h]
def preB (t s : List UInt8) : Bool := t.isPrefixOf s
theorem hasPrefixL_any (s t : ByteArray) (w : World) :
    Calls Try.prog 47 #[.string s, .string t] w fun e w' => e = .returned (.bool (preB t.data.toList s.data.toList)) ∧ w = w' := by
  by_cases h : t.size ≤ s.size
  · have hx : ((s.extract 0 t.size).toList == t.toList) = preB t.data.toList s.data.toList := by
      have h1 : (s.extract 0 t.size).toList = s.data.toList.take t.size := by
        rw [ByteArray.toList_eq]; simp [ByteArray.data_extract]
      rw [h1, ByteArray.toList_eq, preB, Bool.eq_iff_iff, List.isPrefixOf_iff_prefix, List.prefix_iff_eq_take]
      simp only [beq_iff_eq]
      exact eq_comm
    have HX := Lib.hid hx
    clear hx
    go_enter Try.func47, Try.ntmps47
    go_wp2
    go_ret
    exact ⟨ret_bool HX.out, rfl⟩
  · have hx : preB t.data.toList s.data.toList = false := by
      rw [Bool.eq_false_iff]; intro h1
      rw [preB, List.isPrefixOf_iff_prefix] at h1
      have := h1.length_le
      exact h this
    have HX := Lib.hid hx
    clear hx
    have h' : ¬ t.size ≤ s.size := h
    go_enter Try.func47, Try.ntmps47
    go_wp2
    go_ret
    exact ⟨ret_bool HX.out.symm, rfl⟩
theorem hasPrefix_any (s t : ByteArray) (w : World) :
    Calls Try.prog 46 #[.string s, .string t] w fun e w' => e = .returned (.bool (preB t.data.toList s.data.toList)) ∧ w = w' := by
  go_enter Try.func46, Try.ntmps46
  go_wp2_with fail
  refine (hasPrefixL_any s t _).mono ?_
  rintro e w' ⟨rfl, rfl⟩
  go_wp2
  go_ret
  exact ⟨rfl, rfl⟩

/-- The cursor in block b: the text s, the place k. -/
def Cur (w : World) (b : Nat) (s : ByteArray) (k : Nat) : Prop := Blk w b 67 #[.string s, .int .i64 (k : Nat)]
theorem Cur.c0 {w : World} {b k : Nat} {s : ByteArray} (h : Cur w b s k) : w.cell? ⟨b, 0, none⟩ = some (.string s) := Blk.cell h 0
theorem Cur.c1 {w : World} {b k : Nat} {s : ByteArray} (h : Cur w b s k) : w.cell? ⟨b, 1, none⟩ = some (.int .i64 (k : Nat)) := Blk.cell h 1
theorem Cur.f1 {w : World} {b k : Nat} {s : ByteArray} (h : Cur w b s k) : w.frozen? ⟨b, 1, none⟩ = false := Blk.frozen h 1
theorem Cur.set_ {w : World} {b k : Nat} {s : ByteArray} (h : Cur w b s k) (j : Nat) : Cur (w.setCell ⟨b, 1, none⟩ (.int .i64 (j : Nat))) b s j := Blk.set_ h 1 _

def restL (s : ByteArray) (k : Nat) : List UInt8 := s.data.toList.drop k
def overB (s : ByteArray) (k : Nat) : Bool := k == s.size
def isB (t : List UInt8) (s : ByteArray) (k : Nat) : Bool := preB t (restL s k)
theorem rest_extract (s : ByteArray) (k : Nat) : (s.extract k s.size).data.toList = restL s k := by
  rw [ByteArray.data_extract]
  simp only [Array.toList_extract, List.extract_eq_take_drop, restL]
  exact List.take_of_length_le (by simp)
theorem isB_le {t : List UInt8} {s : ByteArray} {k : Nat} (h : isB t s k = true) : t.length ≤ s.size - k := by
  unfold isB preB restL at h
  rw [List.isPrefixOf_iff_prefix] at h
  have := h.length_le
  rw [List.length_drop] at this
  exact this

theorem over_any (b k : Nat) (s : ByteArray) (w : World) (hc : Cur w b s k) :
    Calls Try.prog 30 #[.pointer (some ⟨b, 0, none⟩)] w fun e w' => e = .returned (.bool (overB s k)) ∧ ∃ n, w' = w.drewN n := by
  have c0 := hc.c0
  have c1 := hc.c1
  have HX := Lib.hid (show (((k : Nat) : Int) == ((s.size : Nat) : Int)) = overB s k by rw [Bool.eq_iff_iff]; simp [overB]; omega)
  go_enter Try.func30, Try.ntmps30
  go_wp2
  go_quiet (fail)
  go_wp2
  go_ret
  exact ⟨ret_bool HX.out, _, rfl⟩
theorem is_any (b k : Nat) (s t : ByteArray) (w : World) (hc : Cur w b s k) (hk : k ≤ s.size) :
    Calls Try.prog 43 #[.pointer (some ⟨b, 0, none⟩), .string t] w fun e w' => e = .returned (.bool (isB t.data.toList s k)) ∧ ∃ n, w' = w.drewN n := by
  have c0 := hc.c0
  have c1 := hc.c1
  have hc2 := fun W => hasPrefix_any (s.extract k s.size) t W
  rw [rest_extract] at hc2
  have HC := Lib.hid hc2
  clear hc2
  go_enter Try.func43, Try.ntmps43
  go_wp2
  go_quiet ((go_at_call 46; exact Calls.quiet_of_same ((HC.out _).mono (fun _ _ h => ⟨h.1, h.2.symm⟩))))
  go_wp2
  go_ret
  exact ⟨rfl, _, rfl⟩
theorem skip_no (b k : Nat) (s t : ByteArray) (w : World) (hc : Cur w b s k) (hk : k ≤ s.size) (h : isB t.data.toList s k = false) :
    Calls Try.prog 36 #[.pointer (some ⟨b, 0, none⟩), .string t] w fun e w' => e = .returned (.bool false) ∧ Cur w' b s k ∧ w.grownBy w' (some b) := by
  go_enter Try.func36, Try.ntmps36
  go_wp2_with fail
  refine (is_any b k s t _ hc hk).mono ?_
  rintro e w' ⟨rfl, n, rfl⟩
  go_wp2
  go_ret
  exact ⟨rfl, Blk.drewN hc _, gb_drewN (gb_refl _ _) _⟩
theorem skip_yes (b k : Nat) (s t : ByteArray) (w : World) (hc : Cur w b s k) (hk : k ≤ s.size) (hs : s.size ≤ maxLen) (h : isB t.data.toList s k = true) :
    Calls Try.prog 36 #[.pointer (some ⟨b, 0, none⟩), .string t] w fun e w' => e = .returned (.bool true) ∧ Cur w' b s (k + t.size) ∧ w.grownBy w' (some b) := by
  have c1 := hc.c1
  have f1 := hc.f1
  have hl : t.size ≤ s.size - k := isB_le h
  have hs' := hs
  unfold maxLen at hs'
  go_enter Try.func36, Try.ntmps36
  go_wp2_with fail
  refine (is_any b k s t _ hc hk).mono ?_
  rintro e w' ⟨rfl, n, rfl⟩
  go_wp2
  go_ret
  exact ⟨rfl, Cur.set_ (Blk.drewN hc _) (k + t.size), gb_set (gb_drewN (gb_refl _ _) _) (.inl rfl) _⟩

def byteAt (s : ByteArray) (k : Nat) : UInt8 := (restL s k).headD 0
theorem byteAt_eq (s : ByteArray) (k : Nat) (h : k < s.size) : s[k] = byteAt s k := by
  have h' : k < s.data.toList.length := h
  unfold byteAt restL
  rw [List.drop_eq_getElem_cons h']
  simp
  rfl
theorem rest_cons (s : ByteArray) (k : Nat) (h : k < s.size) : restL s k = byteAt s k :: restL s (k + 1) := by
  have h' : k < s.data.toList.length := h
  unfold byteAt restL
  rw [List.drop_eq_getElem_cons h']
  simp
theorem rest_nil (s : ByteArray) (k : Nat) (h : s.size ≤ k) : restL s k = [] := List.drop_eq_nil_of_le h
theorem take_yes (b k : Nat) (s : ByteArray) (w : World) (hc : Cur w b s k) (hk : k < s.size) (hs : s.size ≤ maxLen) :
    Calls Try.prog 45 #[.pointer (some ⟨b, 0, none⟩)] w fun e w' => e = .returned (.int .u8 (byteAt s k).toNat) ∧ Cur w' b s (k + 1) ∧ w.grownBy w' (some b) := by
  have c0 := hc.c0
  have c1 := hc.c1
  have f1 := hc.f1
  have hb := byteAt_eq s k hk
  have ho : overB s k = false := by simp [overB]; omega
  unfold maxLen at hs
  go_enter Try.func45, Try.ntmps45
  go_wp2_with fail
  refine (over_any b k s _ hc).mono ?_
  rintro e w' ⟨rfl, n, rfl⟩
  go_wp2
  go_quiet (fail)
  go_wp2
  go_ret
  exact ⟨rfl, Blk.drewN (Cur.set_ (Blk.drewN hc _) (k + 1)) _, gb_drewN (gb_set (gb_drewN (gb_refl _ _) _) (.inl rfl) _) _⟩
/-- What a parser panics with. -/
abbrev flawE (code : Int) (k : Nat) : Ending := .panicked [{ v := .iface 64 (.agg #[.int .i64 code, .int .i64 (k : Nat)]), recovered := false }]
theorem flaw_eq {c : Int} {a b : Nat} (h : a = b) : flawE c a = flawE c b := by rw [h]
theorem take_no (b k : Nat) (s : ByteArray) (w : World) (hc : Cur w b s k) (hk : k = s.size) :
    Calls Try.prog 45 #[.pointer (some ⟨b, 0, none⟩)] w fun e w' => e = flawE 31 k ∧ Cur w' b s k ∧ w.grownBy w' (some b) := by
  have c0 := hc.c0
  have c1 := hc.c1
  have f1 := hc.f1
  have ho : overB s k = true := by simp [overB]; omega
  clear hk
  go_enter Try.func45, Try.ntmps45
  go_wp2_with fail
  refine (over_any b k s _ hc).mono ?_
  rintro e w' ⟨rfl, n, rfl⟩
  go_wp2
  exact ⟨rfl, rfl, Blk.drewN hc _, gb_drewN (gb_refl _ _) _⟩
end Go.Proofs.Ytacmfhopelkbbaa
