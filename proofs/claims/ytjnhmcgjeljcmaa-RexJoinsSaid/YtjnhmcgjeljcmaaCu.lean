/- The cursor's leaves: HasPrefix, Over, Is, Skip, Take at a cursor that lies in a block of its own. -/
import Derived.Test.YtjnhmcgjeljcmaaBt
namespace Go.Proofs.Ytjnhmcgjeljcmaa
open Go.RowKit

def preB (t s : List UInt8) : Bool := t.isPrefixOf s
theorem hasPrefixL_any (s t : ByteArray) (w : World) :
    Calls Try.prog 151 #[.string s, .string t] w fun e w' => e = .returned (.bool (preB t.data.toList s.data.toList)) ∧ w = w' := by
  by_cases h : t.size ≤ s.size
  · have hx : ((s.extract 0 t.size).toList == t.toList) = preB t.data.toList s.data.toList := by
      have h1 : (s.extract 0 t.size).toList = s.data.toList.take t.size := by
        rw [ByteArray.toList_eq]; simp [ByteArray.data_extract]
      rw [h1, ByteArray.toList_eq, preB, Bool.eq_iff_iff, List.isPrefixOf_iff_prefix, List.prefix_iff_eq_take]
      simp only [beq_iff_eq]
      exact eq_comm
    have HX := Lib.hid hx
    clear hx
    go_enter Try.func151, Try.ntmps151
    go_wp2
    go_ret
    exact ⟨ret_bool HX.out, rfl⟩
  · have hx : preB t.data.toList s.data.toList = false := by
      rw [Bool.eq_false_iff]; intro h1
      rw [preB, List.isPrefixOf_iff_prefix] at h1
      have := h1.length_le
      exact h this
    have HX := Lib.hid hx
    clear hx
    have h' : ¬ t.size ≤ s.size := h
    go_enter Try.func151, Try.ntmps151
    go_wp2
    go_ret
    exact ⟨ret_bool HX.out.symm, rfl⟩
theorem hasPrefix_any (s t : ByteArray) (w : World) :
    Calls Try.prog 132 #[.string s, .string t] w fun e w' => e = .returned (.bool (preB t.data.toList s.data.toList)) ∧ w = w' := by
  go_enter Try.func132, Try.ntmps132
  go_wp2_with fail
  refine (hasPrefixL_any s t _).mono ?_
  rintro e w' ⟨rfl, rfl⟩
  go_wp2
  go_ret
  exact ⟨rfl, rfl⟩

/-- The cursor in block b: the text s, the place k. -/
def Cur (w : World) (b : Nat) (s : ByteArray) (k : Nat) : Prop := Blk w b 122 #[.string s, .int .i64 (k : Nat)]
theorem Cur.c0 {w : World} {b k : Nat} {s : ByteArray} (h : Cur w b s k) : w.cell? ⟨b, 0, none⟩ = some (.string s) := Blk.cell h 0
theorem Cur.c1 {w : World} {b k : Nat} {s : ByteArray} (h : Cur w b s k) : w.cell? ⟨b, 1, none⟩ = some (.int .i64 (k : Nat)) := Blk.cell h 1
theorem Cur.f1 {w : World} {b k : Nat} {s : ByteArray} (h : Cur w b s k) : w.frozen? ⟨b, 1, none⟩ = false := Blk.frozen h 1
theorem Cur.set_ {w : World} {b k : Nat} {s : ByteArray} (h : Cur w b s k) (j : Nat) : Cur (w.setCell ⟨b, 1, none⟩ (.int .i64 (j : Nat))) b s j := Blk.set_ h 1 _

def restL (s : ByteArray) (k : Nat) : List UInt8 := s.data.toList.drop k
def overB (s : ByteArray) (k : Nat) : Bool := k == s.size
def isB (t : List UInt8) (s : ByteArray) (k : Nat) : Bool := preB t (restL s k)
theorem rest_extract (s : ByteArray) (k : Nat) : (s.extract k s.size).data.toList = restL s k := by
  rw [ByteArray.data_extract]
  simp only [Array.toList_extract, List.extract_eq_take_drop, restL]
  exact List.take_of_length_le (by simp)
theorem isB_le {t : List UInt8} {s : ByteArray} {k : Nat} (h : isB t s k = true) : t.length ≤ s.size - k := by
  unfold isB preB restL at h
  rw [List.isPrefixOf_iff_prefix] at h
  have := h.length_le
  rw [List.length_drop] at this
  exact this

theorem over_any (b k : Nat) (s : ByteArray) (w : World) (hc : Cur w b s k) :
    Calls Try.prog 55 #[.pointer (some ⟨b, 0, none⟩)] w fun e w' => e = .returned (.bool (overB s k)) ∧ ∃ n, w' = w.drewN n := by
  have c0 := hc.c0
  have c1 := hc.c1
  have HX := Lib.hid (show (((k : Nat) : Int) == ((s.size : Nat) : Int)) = overB s k by rw [Bool.eq_iff_iff]; simp [overB]; omega)
  go_enter Try.func55, Try.ntmps55
  go_wp2
  go_quiet (fail)
  go_wp2
  go_ret
  exact ⟨ret_bool HX.out, _, rfl⟩
theorem is_any (b k : Nat) (s t : ByteArray) (w : World) (hc : Cur w b s k) (hk : k ≤ s.size) :
    Calls Try.prog 115 #[.pointer (some ⟨b, 0, none⟩), .string t] w fun e w' => e = .returned (.bool (isB t.data.toList s k)) ∧ ∃ n, w' = w.drewN n := by
  have c0 := hc.c0
  have c1 := hc.c1
  have hc2 := fun W => hasPrefix_any (s.extract k s.size) t W
  rw [rest_extract] at hc2
  have HC := Lib.hid hc2
  clear hc2
  go_enter Try.func115, Try.ntmps115
  go_wp2
  go_quiet ((go_at_call 132; exact Calls.quiet_of_same ((HC.out _).mono (fun _ _ h => ⟨h.1, h.2.symm⟩))))
  go_wp2
  go_ret
  exact ⟨rfl, _, rfl⟩
theorem skip_no (b k : Nat) (s t : ByteArray) (w : World) (hc : Cur w b s k) (hk : k ≤ s.size) (h : isB t.data.toList s k = false) :
    Calls Try.prog 89 #[.pointer (some ⟨b, 0, none⟩), .string t] w fun e w' => e = .returned (.bool false) ∧ Cur w' b s k ∧ w.grownBy w' (some b) := by
  go_enter Try.func89, Try.ntmps89
  go_wp2_with fail
  refine (is_any b k s t _ hc hk).mono ?_
  rintro e w' ⟨rfl, n, rfl⟩
  go_wp2
  go_ret
  exact ⟨rfl, Blk.drewN hc _, gb_drewN (gb_refl _ _) _⟩
theorem skip_yes (b k : Nat) (s t : ByteArray) (w : World) (hc : Cur w b s k) (hk : k ≤ s.size) (hs : s.size ≤ maxLen) (h : isB t.data.toList s k = true) :
    Calls Try.prog 89 #[.pointer (some ⟨b, 0, none⟩), .string t] w fun e w' => e = .returned (.bool true) ∧ Cur w' b s (k + t.size) ∧ w.grownBy w' (some b) := by
  have c1 := hc.c1
  have f1 := hc.f1
  have hl : t.size ≤ s.size - k := isB_le h
  have hs' := hs
  unfold maxLen at hs'
  go_enter Try.func89, Try.ntmps89
  go_wp2_with fail
  refine (is_any b k s t _ hc hk).mono ?_
  rintro e w' ⟨rfl, n, rfl⟩
  go_wp2
  go_ret
  exact ⟨rfl, Cur.set_ (Blk.drewN hc _) (k + t.size), gb_set (gb_drewN (gb_refl _ _) _) (.inl rfl) _⟩

def byteAt (s : ByteArray) (k : Nat) : UInt8 := (restL s k).headD 0
theorem byteAt_eq (s : ByteArray) (k : Nat) (h : k < s.size) : s[k] = byteAt s k := by
  have h' : k < s.data.toList.length := h
  unfold byteAt restL
  rw [List.drop_eq_getElem_cons h']
  simp
  rfl
theorem rest_cons (s : ByteArray) (k : Nat) (h : k < s.size) : restL s k = byteAt s k :: restL s (k + 1) := by
  have h' : k < s.data.toList.length := h
  unfold byteAt restL
  rw [List.drop_eq_getElem_cons h']
  simp
theorem rest_nil (s : ByteArray) (k : Nat) (h : s.size ≤ k) : restL s k = [] := List.drop_eq_nil_of_le h
theorem take_yes (b k : Nat) (s : ByteArray) (w : World) (hc : Cur w b s k) (hk : k < s.size) (hs : s.size ≤ maxLen) :
    Calls Try.prog 158 #[.pointer (some ⟨b, 0, none⟩)] w fun e w' => e = .returned (.int .u8 (byteAt s k).toNat) ∧ Cur w' b s (k + 1) ∧ w.grownBy w' (some b) := by
  have c0 := hc.c0
  have c1 := hc.c1
  have f1 := hc.f1
  have hb := byteAt_eq s k hk
  have ho : overB s k = false := by simp [overB]; omega
  unfold maxLen at hs
  go_enter Try.func158, Try.ntmps158
  go_wp2_with fail
  refine (over_any b k s _ hc).mono ?_
  rintro e w' ⟨rfl, n, rfl⟩
  go_wp2
  go_quiet (fail)
  go_wp2
  go_ret
  exact ⟨rfl, Blk.drewN (Cur.set_ (Blk.drewN hc _) (k + 1)) _, gb_drewN (gb_set (gb_drewN (gb_refl _ _) _) (.inl rfl) _) _⟩
/-- What a parser panics with. -/
abbrev flawE (code : Int) (k : Nat) : Ending := .panicked [{ v := .iface 119 (.agg #[.int .i64 code, .int .i64 (k : Nat)]), recovered := false }]
theorem flaw_eq {c : Int} {a b : Nat} (h : a = b) : flawE c a = flawE c b := by rw [h]
theorem take_no (b k : Nat) (s : ByteArray) (w : World) (hc : Cur w b s k) (hk : k = s.size) :
    Calls Try.prog 158 #[.pointer (some ⟨b, 0, none⟩)] w fun e w' => e = flawE 31 k ∧ Cur w' b s k ∧ w.grownBy w' (some b) := by
  have c0 := hc.c0
  have c1 := hc.c1
  have f1 := hc.f1
  have ho : overB s k = true := by simp [overB]; omega
  clear hk
  go_enter Try.func158, Try.ntmps158
  go_wp2_with fail
  refine (over_any b k s _ hc).mono ?_
  rintro e w' ⟨rfl, n, rfl⟩
  go_wp2
  exact ⟨rfl, rfl, Blk.drewN hc _, gb_drewN (gb_refl _ _) _⟩
end Go.Proofs.Ytjnhmcgjeljcmaa
