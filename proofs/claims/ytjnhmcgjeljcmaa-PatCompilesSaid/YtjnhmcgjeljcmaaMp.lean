/- The cursor's leaves: HasPrefix, Over, Is, Skip, Take at a cursor that lies in a block of its own. Plain functions: trees of patterns, letters and ranges as the parsers read them. No program. Plain facts: ranges counted by where they begin and end. No program. -/
import Derived.Test.YtjnhmcgjeljcmaaBt
import Derived.WalkKit
namespace Go.Proofs.Ytjnhmcgjeljcmaa
open Go.RowKit

def preB (t s : List UInt8) : Bool := t.isPrefixOf s
theorem hasPrefixL_any (s t : ByteArray) (w : World) :
    Calls Try.prog 151 #[.string s, .string t] w fun e w' => e = .returned (.bool (preB t.data.toList s.data.toList)) ∧ w = w' := by
  by_cases h : t.size ≤ s.size
  · have hx : ((s.extract 0 t.size).toList == t.toList) = preB t.data.toList s.data.toList := by
      have h1 : (s.extract 0 t.size).toList = s.data.toList.take t.size := by
        rw [ByteArray.toList_eq]; simp [ByteArray.data_extract]
      rw [h1, ByteArray.toList_eq, preB, Bool.eq_iff_iff, List.isPrefixOf_iff_prefix, List.prefix_iff_eq_take]
      simp only [beq_iff_eq]
      exact eq_comm
    have HX := Lib.hid hx
    clear hx
    go_enter Try.func151, Try.ntmps151
    go_wp2
    go_ret
    exact ⟨ret_bool HX.out, rfl⟩
  · have hx : preB t.data.toList s.data.toList = false := by
      rw [Bool.eq_false_iff]; intro h1
      rw [preB, List.isPrefixOf_iff_prefix] at h1
      have := h1.length_le
      exact h this
    have HX := Lib.hid hx
    clear hx
    have h' : ¬ t.size ≤ s.size := h
    go_enter Try.func151, Try.ntmps151
    go_wp2
    go_ret
    exact ⟨ret_bool HX.out.symm, rfl⟩
theorem hasPrefix_any (s t : ByteArray) (w : World) :
    Calls Try.prog 132 #[.string s, .string t] w fun e w' => e = .returned (.bool (preB t.data.toList s.data.toList)) ∧ w = w' := by
  go_enter Try.func132, Try.ntmps132
  go_wp2_with fail
  refine (hasPrefixL_any s t _).mono ?_
  rintro e w' ⟨rfl, rfl⟩
  go_wp2
  go_ret
  exact ⟨rfl, rfl⟩

/-- The cursor in block b: the text s, the place k. -/
def Cur (w : World) (b : Nat) (s : ByteArray) (k : Nat) : Prop := Blk w b 122 #[.string s, .int .i64 (k : Nat)]
theorem Cur.c0 {w : World} {b k : Nat} {s : ByteArray} (h : Cur w b s k) : w.cell? ⟨b, 0, none⟩ = some (.string s) := Blk.cell h 0
theorem Cur.c1 {w : World} {b k : Nat} {s : ByteArray} (h : Cur w b s k) : w.cell? ⟨b, 1, none⟩ = some (.int .i64 (k : Nat)) := Blk.cell h 1
theorem Cur.f1 {w : World} {b k : Nat} {s : ByteArray} (h : Cur w b s k) : w.frozen? ⟨b, 1, none⟩ = false := Blk.frozen h 1
theorem Cur.set_ {w : World} {b k : Nat} {s : ByteArray} (h : Cur w b s k) (j : Nat) : Cur (w.setCell ⟨b, 1, none⟩ (.int .i64 (j : Nat))) b s j := Blk.set_ h 1 _

def restL (s : ByteArray) (k : Nat) : List UInt8 := s.data.toList.drop k
def overB (s : ByteArray) (k : Nat) : Bool := k == s.size
def isB (t : List UInt8) (s : ByteArray) (k : Nat) : Bool := preB t (restL s k)
theorem rest_extract (s : ByteArray) (k : Nat) : (s.extract k s.size).data.toList = restL s k := by
  rw [ByteArray.data_extract]
  simp only [Array.toList_extract, List.extract_eq_take_drop, restL]
  exact List.take_of_length_le (by simp)
theorem isB_le {t : List UInt8} {s : ByteArray} {k : Nat} (h : isB t s k = true) : t.length ≤ s.size - k := by
  unfold isB preB restL at h
  rw [List.isPrefixOf_iff_prefix] at h
  have := h.length_le
  rw [List.length_drop] at this
  exact this

theorem over_any (b k : Nat) (s : ByteArray) (w : World) (hc : Cur w b s k) :
    Calls Try.prog 55 #[.pointer (some ⟨b, 0, none⟩)] w fun e w' => e = .returned (.bool (overB s k)) ∧ ∃ n, w' = w.drewN n := by
  have c0 := hc.c0
  have c1 := hc.c1
  have HX := Lib.hid (show (((k : Nat) : Int) == ((s.size : Nat) : Int)) = overB s k by rw [Bool.eq_iff_iff]; simp [overB]; omega)
  go_enter Try.func55, Try.ntmps55
  go_wp2
  go_quiet (fail)
  go_wp2
  go_ret
  exact ⟨ret_bool HX.out, _, rfl⟩
theorem is_any (b k : Nat) (s t : ByteArray) (w : World) (hc : Cur w b s k) (hk : k ≤ s.size) :
    Calls Try.prog 115 #[.pointer (some ⟨b, 0, none⟩), .string t] w fun e w' => e = .returned (.bool (isB t.data.toList s k)) ∧ ∃ n, w' = w.drewN n := by
  have c0 := hc.c0
  have c1 := hc.c1
  have hc2 := fun W => hasPrefix_any (s.extract k s.size) t W
  rw [rest_extract] at hc2
  have HC := Lib.hid hc2
  clear hc2
  go_enter Try.func115, Try.ntmps115
  go_wp2
  go_quiet ((go_at_call 132; exact Calls.quiet_of_same ((HC.out _).mono (fun _ _ h => ⟨h.1, h.2.symm⟩))))
  go_wp2
  go_ret
  exact ⟨rfl, _, rfl⟩
theorem skip_no (b k : Nat) (s t : ByteArray) (w : World) (hc : Cur w b s k) (hk : k ≤ s.size) (h : isB t.data.toList s k = false) :
    Calls Try.prog 89 #[.pointer (some ⟨b, 0, none⟩), .string t] w fun e w' => e = .returned (.bool false) ∧ Cur w' b s k ∧ w.grownBy w' (some b) := by
  go_enter Try.func89, Try.ntmps89
  go_wp2_with fail
  refine (is_any b k s t _ hc hk).mono ?_
  rintro e w' ⟨rfl, n, rfl⟩
  go_wp2
  go_ret
  exact ⟨rfl, Blk.drewN hc _, gb_drewN (gb_refl _ _) _⟩
theorem skip_yes (b k : Nat) (s t : ByteArray) (w : World) (hc : Cur w b s k) (hk : k ≤ s.size) (hs : s.size ≤ maxLen) (h : isB t.data.toList s k = true) :
    Calls Try.prog 89 #[.pointer (some ⟨b, 0, none⟩), .string t] w fun e w' => e = .returned (.bool true) ∧ Cur w' b s (k + t.size) ∧ w.grownBy w' (some b) := by
  have c1 := hc.c1
  have f1 := hc.f1
  have hl : t.size ≤ s.size - k := isB_le h
  have hs' := hs
  unfold maxLen at hs'
  go_enter Try.func89, Try.ntmps89
  go_wp2_with fail
  refine (is_any b k s t _ hc hk).mono ?_
  rintro e w' ⟨rfl, n, rfl⟩
  go_wp2
  go_ret
  exact ⟨rfl, Cur.set_ (Blk.drewN hc _) (k + t.size), gb_set (gb_drewN (gb_refl _ _) _) (.inl rfl) _⟩

def byteAt (s : ByteArray) (k : Nat) : UInt8 := (restL s k).headD 0
theorem byteAt_eq (s : ByteArray) (k : Nat) (h : k < s.size) : s[k] = byteAt s k := by
  have h' : k < s.data.toList.length := h
  unfold byteAt restL
  rw [List.drop_eq_getElem_cons h']
  simp
  rfl
theorem rest_cons (s : ByteArray) (k : Nat) (h : k < s.size) : restL s k = byteAt s k :: restL s (k + 1) := by
  have h' : k < s.data.toList.length := h
  unfold byteAt restL
  rw [List.drop_eq_getElem_cons h']
  simp
theorem rest_nil (s : ByteArray) (k : Nat) (h : s.size ≤ k) : restL s k = [] := List.drop_eq_nil_of_le h
theorem take_yes (b k : Nat) (s : ByteArray) (w : World) (hc : Cur w b s k) (hk : k < s.size) (hs : s.size ≤ maxLen) :
    Calls Try.prog 158 #[.pointer (some ⟨b, 0, none⟩)] w fun e w' => e = .returned (.int .u8 (byteAt s k).toNat) ∧ Cur w' b s (k + 1) ∧ w.grownBy w' (some b) := by
  have c0 := hc.c0
  have c1 := hc.c1
  have f1 := hc.f1
  have hb := byteAt_eq s k hk
  have ho : overB s k = false := by simp [overB]; omega
  unfold maxLen at hs
  go_enter Try.func158, Try.ntmps158
  go_wp2_with fail
  refine (over_any b k s _ hc).mono ?_
  rintro e w' ⟨rfl, n, rfl⟩
  go_wp2
  go_quiet (fail)
  go_wp2
  go_ret
  exact ⟨rfl, Blk.drewN (Cur.set_ (Blk.drewN hc _) (k + 1)) _, gb_drewN (gb_set (gb_drewN (gb_refl _ _) _) (.inl rfl) _) _⟩
/-- What a parser panics with. -/
abbrev flawE (code : Int) (k : Nat) : Ending := .panicked [{ v := .iface 119 (.agg #[.int .i64 code, .int .i64 (k : Nat)]), recovered := false }]
theorem flaw_eq {c : Int} {a b : Nat} (h : a = b) : flawE c a = flawE c b := by rw [h]
theorem take_no (b k : Nat) (s : ByteArray) (w : World) (hc : Cur w b s k) (hk : k = s.size) :
    Calls Try.prog 158 #[.pointer (some ⟨b, 0, none⟩)] w fun e w' => e = flawE 31 k ∧ Cur w' b s k ∧ w.grownBy w' (some b) := by
  have c0 := hc.c0
  have c1 := hc.c1
  have f1 := hc.f1
  have ho : overB s k = true := by simp [overB]; omega
  clear hk
  go_enter Try.func158, Try.ntmps158
  go_wp2_with fail
  refine (over_any b k s _ hc).mono ?_
  rintro e w' ⟨rfl, n, rfl⟩
  go_wp2
  exact ⟨rfl, rfl, Blk.drewN hc _, gb_drewN (gb_refl _ _) _⟩
end Go.Proofs.Ytjnhmcgjeljcmaa
namespace Go.Proofs.Ytjnhmcgjeljcmaa

/-- A letter: the byte and how many bytes it takes; or an error and its place from here on. -/
inductive Lr where
  | ok (c : UInt8) (n : Nat)
  | err (code : Int) (off : Nat)
deriving DecidableEq
/-- A range, likewise. -/
inductive Rr where
  | ok (lo hi : UInt8) (n : Nat)
  | err (code : Int) (off : Nat)
deriving DecidableEq

def starts (t l : List UInt8) : Bool := t.isPrefixOf l

def letterG : List UInt8 → Lr
  | [] => .err 31 0
  | c :: t => if c = 92 then (match t with | [] => .err 31 1 | d :: _ => .ok d 2) else .ok c 1

/-- Does a range go on here: a - that no ] is behind? -/
def dashB (t : List UInt8) : Bool := starts [45] t && !starts [45, 93] t

def rangeP (L : List UInt8 → Lr) (l : List UInt8) : Rr :=
  match L l with
  | .err c o => .err c o
  | .ok lo n =>
    if dashB (l.drop n) then
      match L (l.drop (n + 1)) with
      | .err c o => .err c (n + 1 + o)
      | .ok hi m => if hi < lo then .err 32 0 else .ok lo hi (n + 1 + m)
    else .ok lo lo n

/-- A reading of letters that takes at least one byte, and no more than there are. -/
def GoodL (L : List UInt8 → Lr) : Prop := ∀ l, (∀ c n, L l = .ok c n → 1 ≤ n ∧ n ≤ l.length) ∧ (∀ c o, L l = .err c o → o ≤ l.length)
theorem good_letterG : GoodL letterG := by
  intro l
  match l with
  | [] => exact ⟨fun c n h => by simp [letterG] at h, fun c o h => by simp [letterG] at h; omega⟩
  | [x] =>
    by_cases hx : x = 92
    · exact ⟨fun c n h => by simp [letterG, hx] at h, fun c o h => by simp [letterG, hx] at h; simp; omega⟩
    · exact ⟨fun c n h => by simp [letterG, hx] at h; simp; omega, fun c o h => by simp [letterG, hx] at h⟩
  | x :: y :: t =>
    by_cases hx : x = 92
    · exact ⟨fun c n h => by simp [letterG, hx] at h; simp; omega, fun c o h => by simp [letterG, hx] at h⟩
    · exact ⟨fun c n h => by simp [letterG, hx] at h; simp; omega, fun c o h => by simp [letterG, hx] at h⟩
theorem rangeP_ok {L : List UInt8 → Lr} (hL : GoodL L) {l : List UInt8} {lo hi : UInt8} {n : Nat} (h : rangeP L l = .ok lo hi n) : 1 ≤ n ∧ n ≤ l.length := by
  unfold rangeP at h
  split at h
  · cases h
  · rename_i lo' n' h1
    have a1 := (hL l).1 _ _ h1
    split at h
    · split at h
      · cases h
      · rename_i hi' m h2
        have a2 := (hL _).1 _ _ h2
        split at h
        · cases h
        · injection h with _ _ h3
          rw [List.length_drop] at a2
          omega
    · injection h with _ _ h3
      omega
theorem rangeP_err {L : List UInt8 → Lr} (hL : GoodL L) {l : List UInt8} {c : Int} {o : Nat} (h : rangeP L l = .err c o) : o ≤ l.length := by
  unfold rangeP at h
  split at h
  · rename_i c' o' h1
    injection h with _ h3
    have := (hL l).2 _ _ h1
    omega
  · rename_i lo' n' h1
    have a1 := (hL l).1 _ _ h1
    split at h
    · rename_i hd
      have hnl : n' + 1 ≤ l.length := by
        have hp : starts [45] (l.drop n') = true := by simp only [dashB, Bool.and_eq_true] at hd; exact hd.1
        unfold starts at hp
        rw [List.isPrefixOf_iff_prefix] at hp
        have := hp.length_le
        rw [List.length_drop] at this
        simp at this; omega
      split at h
      · rename_i c2 o2 h2
        have a2 := (hL _).2 _ _ h2
        injection h with _ h3
        rw [List.length_drop] at a2
        omega
      · split at h
        · injection h with _ h3
          omega
        · cases h
    · cases h

/-- The items of a class up to its ]: the ranges, and how many bytes they take with the ]. 'first': none was read yet (then a ] is an item). -/
inductive Ir where
  | ok (rs : List (UInt8 × UInt8)) (n : Nat)
  | err (code : Int) (off : Nat)
deriving DecidableEq
def Ir.more (lo hi : UInt8) (n : Nat) : Ir → Ir
  | .ok rs m => .ok ((lo, hi) :: rs) (n + m)
  | .err c o => .err c (n + o)
/-- fuel: more than the bytes that are left. -/
def itemsP (L : List UInt8 → Lr) : Nat → Bool → List UInt8 → Ir
  | 0, _, _ => .err 0 0
  | f + 1, first, l =>
    if !first && starts [93] l then .ok [] 1
    else match rangeP L l with
      | .err c o => .err c o
      | .ok lo hi n => (itemsP L f false (l.drop n)).more lo hi n
theorem itemsP_fuel {L : List UInt8 → Lr} (hL : GoodL L) : ∀ (f g : Nat) (b : Bool) (l : List UInt8), l.length < f → l.length < g → itemsP L f b l = itemsP L g b l := by
  intro f
  induction f with
  | zero => intro g b l h; omega
  | succ f ih =>
    intro g b l hf hg
    match g, hg with
    | g + 1, hg =>
      unfold itemsP
      split
      · rfl
      · split
        · rfl
        · rename_i lo hi n h
          have := rangeP_ok hL h
          rw [ih g false (l.drop n) (by rw [List.length_drop]; omega) (by rw [List.length_drop]; omega)]

/-! Ranges of bytes -/
def inR (rs : List (UInt8 × UInt8)) (c : Nat) : Bool := rs.any fun r => decide (r.1.toNat ≤ c) && decide (c ≤ r.2.toNat)
/-- The last range goes up to k. -/
def bump (l : List (UInt8 × UInt8)) (k : Nat) : List (UInt8 × UInt8) := l.dropLast ++ [((l.getLast?.getD (0, 0)).1, UInt8.ofNat k)]
def rgTo (m : Nat → Bool) : Nat → List (UInt8 × UInt8)
  | 0 => []
  | k + 1 => if m k then (if decide (0 < k) && m (k - 1) then bump (rgTo m k) k else rgTo m k ++ [(UInt8.ofNat k, UInt8.ofNat k)]) else rgTo m k
def memB (rs : List (UInt8 × UInt8)) (neg : Bool) (c : Nat) : Bool := inR rs c != neg
def rangesL (rs : List (UInt8 × UInt8)) (neg : Bool) : List (UInt8 × UInt8) := rgTo (memB rs neg) 256
theorem rgTo_length (m : Nat → Bool) (k : Nat) : (rgTo m k).length ≤ k := by
  induction k with
  | zero => simp [rgTo]
  | succ k ih =>
    rw [rgTo]
    split
    · split
      · rename_i h1 h2
        rcases Nat.eq_zero_or_pos k with h | h
        · subst h; simp at h2
        · simp only [bump, List.length_append, List.length_dropLast, List.length_singleton]; omega
      · simp; omega
    · omega
/-- Where k - 1 is in, the list isn't empty and its last range ends there. -/
theorem rgTo_last (m : Nat → Bool) (k : Nat) (h : m k = true) : ∃ l lo, rgTo m (k + 1) = l ++ [(lo, UInt8.ofNat k)] := by
  rw [rgTo, if_pos h]
  split
  · exact ⟨_, _, rfl⟩
  · exact ⟨_, _, rfl⟩
end Go.Proofs.Ytjnhmcgjeljcmaa
namespace Go.Proofs.Ytjnhmcgjeljcmaa

def rowV (n : Nat) (f : Nat → Value) : Array Value := ((List.range n).map f).toArray
theorem rowV_get (n : Nat) (f : Nat → Value) (i : Nat) (h : i < n) : (rowV n f)[i]? = some (f i) := by
  unfold rowV
  rw [List.getElem?_toArray, List.getElem?_map, List.getElem?_range h]; rfl
theorem rowV_size (n : Nat) (f : Nat → Value) : (rowV n f).size = n := by simp [rowV]
theorem rowV_set (n : Nat) (f : Nat → Value) (i : Nat) (v : Value) : (rowV n f).setIfInBounds i v = rowV n (fun j => if j = i then v else f j) := by
  apply Array.ext_getElem?
  intro j
  rw [Array.getElem?_setIfInBounds]
  rcases Nat.lt_or_ge j n with h | h
  · rw [rowV_get _ _ _ h, rowV_get _ _ _ h]
    by_cases e : i = j
    · subst e; simp [rowV_size, h]
    · have e' : ¬ j = i := fun x => e x.symm
      simp [e, e']
  · rw [Array.getElem?_eq_none (by rw [rowV_size]; exact h), Array.getElem?_eq_none (by rw [rowV_size]; exact h)]
    simp [rowV_size]; omega
theorem rowV_congr {n : Nat} {f g : Nat → Value} (h : ∀ i, i < n → f i = g i) : rowV n f = rowV n g := by
  apply Array.ext_getElem?
  intro j
  rcases Nat.lt_or_ge j n with hj | hj
  · rw [rowV_get _ _ _ hj, rowV_get _ _ _ hj, h j hj]
  · rw [Array.getElem?_eq_none (by rw [rowV_size]; exact hj), Array.getElem?_eq_none (by rw [rowV_size]; exact hj)]

def one1 (r : UInt8 × UInt8) (j : Nat) : Int := if r.1 ≤ r.2 then (if r.1.toNat = j then 1 else 0) - (if r.2.toNat + 1 = j then 1 else 0) else 0
def chg : List (UInt8 × UInt8) → Nat → Int
  | [], _ => 0
  | r :: rs, j => one1 r j + chg rs j
theorem chg_snoc (rs : List (UInt8 × UInt8)) (r : UInt8 × UInt8) (j : Nat) : chg (rs ++ [r]) j = chg rs j + one1 r j := by
  induction rs with
  | nil => simp [chg]
  | cons a rs ih => simp [chg, ih]; omega
theorem one1_bd (r : UInt8 × UInt8) (j : Nat) : -1 ≤ one1 r j ∧ one1 r j ≤ 1 := by
  unfold one1; split
  · split <;> split <;> omega
  · omega
theorem chg_bd (rs : List (UInt8 × UInt8)) (j : Nat) : -(rs.length : Int) ≤ chg rs j ∧ chg rs j ≤ rs.length := by
  induction rs with
  | nil => simp [chg]
  | cons a rs ih => have := one1_bd a j; simp only [chg, List.length_cons]; omega
def psum (f : Nat → Int) : Nat → Int
  | 0 => 0
  | b + 1 => psum f b + f b
def cntR (rs : List (UInt8 × UInt8)) (b : Nat) : Nat := (rs.filter fun r => decide (r.1.toNat ≤ b) && decide (b ≤ r.2.toNat)).length
theorem psum_add (f g : Nat → Int) (b : Nat) : psum (fun j => f j + g j) b = psum f b + psum g b := by
  induction b with
  | zero => rfl
  | succ b ih => simp only [psum, ih]; omega
theorem psum_one (r : UInt8 × UInt8) (b : Nat) : psum (one1 r) b = if r.1 ≤ r.2 then (if r.1.toNat < b then 1 else 0) - (if r.2.toNat + 1 < b then 1 else 0) else 0 := by
  induction b with
  | zero => simp [psum]
  | succ b ih =>
    simp only [psum, ih, one1]
    split
    · split <;> split <;> split <;> split <;> split <;> split <;> omega
    · rfl
theorem psum_chg (rs : List (UInt8 × UInt8)) (b : Nat) : psum (chg rs) (b + 1) = cntR rs b := by
  induction rs with
  | nil =>
    have : ∀ k, psum (chg []) k = 0 := by intro k; induction k with | zero => rfl | succ k ih => (show psum (chg []) k + chg [] k = 0); rw [ih]; rfl
    rw [this]; rfl
  | cons r rs ih =>
    have : chg (r :: rs) = fun j => one1 r j + chg rs j := rfl
    rw [this, psum_add, ih, psum_one]
    simp only [cntR, List.filter_cons]
    have hle : (r.1 ≤ r.2) ↔ r.1.toNat ≤ r.2.toNat := UInt8.le_iff_toNat_le
    by_cases h : r.1 ≤ r.2
    · have h' := hle.1 h
      simp only [h, if_true]
      by_cases h1 : r.1.toNat ≤ b <;> by_cases h2 : b ≤ r.2.toNat
      · simp [h1, h2, Nat.lt_succ_of_le]; omega
      · simp [h1, h2, Nat.lt_succ_of_le]; omega
      · simp [h1, h2]; omega
      · simp [h1, h2]; omega
    · have h' : ¬ r.1.toNat ≤ r.2.toNat := fun x => h (hle.2 x)
      simp only [h, if_false]
      have : (decide (r.1.toNat ≤ b) && decide (b ≤ r.2.toNat)) = false := by simp; omega
      simp [this]
theorem cntR_pos (rs : List (UInt8 × UInt8)) (b : Nat) : decide (0 < (cntR rs b : Int)) = inR rs b := by
  unfold cntR inR
  rw [Bool.eq_iff_iff]
  simp only [decide_eq_true_eq, List.any_eq_true]
  rw [show (0 : Int) < ((rs.filter fun r => decide (r.1.toNat ≤ b) && decide (b ≤ r.2.toNat)).length : Nat) ↔ 0 < (rs.filter fun r => decide (r.1.toNat ≤ b) && decide (b ≤ r.2.toNat)).length by omega]
  rw [List.length_pos_iff_exists_mem]
  simp only [List.mem_filter]
theorem cntR_le (rs : List (UInt8 × UInt8)) (b : Nat) : cntR rs b ≤ rs.length := List.length_filter_le _ _
end Go.Proofs.Ytjnhmcgjeljcmaa
