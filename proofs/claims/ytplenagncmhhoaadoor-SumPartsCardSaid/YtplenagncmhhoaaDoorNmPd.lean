/- Plain functions: what bytes are, and when a list of bytes is a word. No program. Plain functions: how a name is written. No program. Plain functions: what a written name is decoded to. No program. -/
import Derived.WalkKit
namespace Go.Proofs.YtplenagncmhhoaaDoor

def letB (c : Int) : Bool := (decide (97 ≤ c) && decide (c ≤ 122)) || (decide (65 ≤ c) && decide (c ≤ 90))
def digB (c : Int) : Bool := decide (48 ≤ c) && decide (c ≤ 57)
def plainB (c : Int) : Bool := decide (33 ≤ c) && decide (c ≤ 126) && (c != 92)
def okB (c : Int) : Bool := letB c || digB c || (c == 45) || (c == 95)
def rightB (n : Nat) : Bool := decide (1 ≤ n) && decide (n ≤ 80)

/-- the byte at a place -/
def bt (s : ByteArray) (i : Nat) : Int := ((s.data.toList.getD i 0).toNat : Int)
theorem bt_eq (s : ByteArray) (i : Nat) (h : i < s.size) : ((s[i]'h).toNat : Int) = bt s i := by
  have h' : i < s.data.toList.length := h
  simp only [bt, List.getD_eq_getElem?_getD, List.getElem?_eq_getElem h', Option.getD_some]
  rfl
theorem bt_bd (s : ByteArray) (i : Nat) : 0 ≤ bt s i ∧ bt s i < 256 := by
  have := (s.data.toList.getD i 0).toNat_lt
  simp only [bt]; omega

def allB (s : ByteArray) : Bool := s.data.toList.all fun c => okB (c.toNat : Int)
def wordB (s : ByteArray) : Bool := decide (1 ≤ s.size) && decide (s.size ≤ 40) && letB (bt s 0) && allB s

theorem allB_iff (s : ByteArray) : allB s = true ↔ ∀ j, j < s.size → okB (bt s j) = true := by
  unfold allB
  rw [List.all_eq_true]
  constructor
  · intro h j hj
    have hj' : j < s.data.toList.length := hj
    have := h s.data.toList[j] (List.getElem_mem hj')
    simpa only [bt, List.getD_eq_getElem?_getD, List.getElem?_eq_getElem hj', Option.getD_some] using this
  · intro h c hc
    obtain ⟨j, hj, rfl⟩ := List.mem_iff_getElem.1 hc
    have := h j hj
    simpa only [bt, List.getD_eq_getElem?_getD, List.getElem?_eq_getElem hj, Option.getD_some] using this

theorem wordB_yes {s : ByteArray} (h1 : 1 ≤ s.size) (h2 : s.size ≤ 40) (h3 : letB (bt s 0) = true) (h4 : ∀ j, j < s.size → okB (bt s j) = true) : wordB s = true := by
  simp [wordB, h1, h2, h3, (allB_iff s).2 h4]
theorem wordB_not {s : ByteArray} {j : Nat} (hj : j < s.size) (h : okB (bt s j) = false) : wordB s = false := by
  have : allB s = false := by
    rw [Bool.eq_false_iff]; intro hc; have := (allB_iff s).1 hc j hj; rw [h] at this; cases this
  simp [wordB, this]
theorem wordB_not0 {s : ByteArray} (h : letB (bt s 0) = false) : wordB s = false := by simp [wordB, h]
theorem wordB_small {s : ByteArray} (h : s.size < 1) : wordB s = false := by simp [wordB]; omega
theorem wordB_big {s : ByteArray} (h : 40 < s.size) : wordB s = false := by simp [wordB]; omega

end Go.Proofs.YtplenagncmhhoaaDoor
namespace Go.Proofs.YtplenagncmhhoaaDoor

def hexD (n : Nat) : Nat := if n < 10 then 48 + n else 87 + n
/-- does the byte at a place stand for itself? -/
def standsB (s : ByteArray) (i : Nat) : Bool := plainB (bt s i) || ((bt s i == 32) && decide (0 < i) && decide (i + 1 < s.size))
def btN (s : ByteArray) (i : Nat) : Nat := (s.data.toList.getD i 0).toNat
def pieceN (s : ByteArray) (i : Nat) : List Nat := if standsB s i then [btN s i] else [92, hexD (btN s i / 16), hexD (btN s i % 16)]
def pieceL (s : ByteArray) (i : Nat) : List UInt8 := (pieceN s i).map (fun n => n.toUInt8)
def writeTo (s : ByteArray) : Nat → List UInt8
  | 0 => []
  | k + 1 => writeTo s k ++ pieceL s k
def writeL (s : ByteArray) : List UInt8 := if rightB s.size then writeTo s s.size else []

theorem pieceL_length (s : ByteArray) (i : Nat) : (pieceL s i).length ≤ 3 := by
  unfold pieceL pieceN; split <;> simp
theorem writeTo_length (s : ByteArray) (k : Nat) : (writeTo s k).length ≤ 3 * k := by
  induction k with
  | zero => simp [writeTo]
  | succ k ih => have := pieceL_length s k; simp [writeTo]; omega
theorem writeL_yes {s : ByteArray} (h : rightB s.size = true) : writeL s = writeTo s s.size := by simp [writeL, h]
theorem writeL_no {s : ByteArray} (h : rightB s.size = false) : writeL s = [] := by simp [writeL, h]
theorem standsB_plain {s : ByteArray} {i : Nat} (h : plainB (bt s i) = true) : standsB s i = true := by simp [standsB, h]
theorem pieceL_yes {s : ByteArray} {i : Nat} (h : standsB s i = true) : pieceL s i = [(btN s i).toUInt8] := by simp [pieceL, pieceN, h]
theorem pieceL_no {s : ByteArray} {i : Nat} (h : standsB s i = false) : pieceL s i = [(92 : Nat).toUInt8, (hexD (btN s i / 16)).toUInt8, (hexD (btN s i % 16)).toUInt8] := by simp [pieceL, pieceN, h]
theorem bt_btN (s : ByteArray) (i : Nat) : bt s i = (btN s i : Int) := rfl
theorem btN_bd (s : ByteArray) (i : Nat) : btN s i < 256 := (s.data.toList.getD i 0).toNat_lt
theorem hexD_bd {n : Nat} (h : n < 16) : hexD n < 256 := by unfold hexD; split <;> omega

end Go.Proofs.YtplenagncmhhoaaDoor
namespace Go.Proofs.YtplenagncmhhoaaDoor

/-- the value of a digit of the base 16; -1 of none -/
def hvI (c : Int) : Int := if 48 ≤ c ∧ c ≤ 57 then c - 48 else if 97 ≤ c ∧ c ≤ 102 then c - 87 else -1
theorem hvI_bd (c : Int) : -1 ≤ hvI c ∧ hvI c < 16 := by unfold hvI; split <;> (try split) <;> omega

def dec : List UInt8 → Option (List UInt8)
  | [] => some []
  | c :: r =>
    if c ≠ 92 then (dec r).map (c :: ·)
    else match r with
      | a :: b :: r' => if hvI (a.toNat : Int) < 0 ∨ hvI (b.toNat : Int) < 0 then none else (dec r').map ((16 * hvI (a.toNat : Int) + hvI (b.toNat : Int)).toNat.toUInt8 :: ·)
      | _ => none

theorem dec_plain {c : UInt8} (r : List UInt8) (hc : c ≠ 92) : dec (c :: r) = (dec r).map (c :: ·) := by
  cases r with
  | nil => simp [dec, hc]
  | cons a r => cases r <;> simp [dec, hc]
theorem dec_short {c : UInt8} {r : List UInt8} (hc : ¬ c ≠ 92) (hl : r.length < 2) : dec (c :: r) = none := by
  match r, hl with
  | [], _ => simp only [dec, if_neg hc]
  | [_], _ => simp only [dec, if_neg hc]
  | _ :: _ :: _, hl => simp at hl; omega

theorem bt_get (s : ByteArray) (k : Nat) (h : k < s.data.toList.length) : bt s k = ((s.data.toList[k]).toNat : Int) := by
  simp [bt, List.getD_eq_getElem?_getD, List.getElem?_eq_getElem h]
theorem u8_92 {c : UInt8} : c = 92 ↔ (c.toNat : Int) = 92 := by
  constructor
  · rintro rfl; rfl
  · intro h; apply UInt8.toNat_inj.1; show c.toNat = 92; omega

def decAt (s : ByteArray) (k : Nat) : Option (List UInt8) := dec (s.data.toList.drop k)

theorem decAt_end {s : ByteArray} {k : Nat} (h : s.size ≤ k) : decAt s k = some [] := by
  unfold decAt; rw [List.drop_eq_nil_of_le h]; rfl
theorem decAt_plain {s : ByteArray} {k : Nat} (h : k < s.size) (hc : (bt s k != 92) = true) : decAt s k = (decAt s (k + 1)).map ((btN s k).toUInt8 :: ·) := by
  have h' : k < s.data.toList.length := h
  unfold decAt
  rw [List.drop_eq_getElem_cons h', dec_plain _ (by rw [Ne, u8_92, ← bt_get s k h']; simpa using hc)]
  simp [btN, List.getD_eq_getElem?_getD, List.getElem?_eq_getElem h']
theorem decAt_short {s : ByteArray} {k : Nat} (h : k < s.size) (hc : (bt s k != 92) = false) (h3 : s.size < k + 3) : decAt s k = none := by
  have h' : k < s.data.toList.length := h
  unfold decAt
  rw [List.drop_eq_getElem_cons h', dec_short (by rw [Ne, u8_92, ← bt_get s k h']; simpa using hc)]
  rw [List.length_drop]; have : s.data.toList.length = s.size := rfl; omega
theorem decAt_code {s : ByteArray} {k : Nat} (hc : (bt s k != 92) = false) (h3 : k + 3 ≤ s.size) :
    decAt s k = if hvI (bt s (k + 1)) < 0 ∨ hvI (bt s (k + 2)) < 0 then none else (decAt s (k + 3)).map ((16 * hvI (bt s (k + 1)) + hvI (bt s (k + 2))).toNat.toUInt8 :: ·) := by
  have e : s.data.toList.length = s.size := rfl
  have h0 : k < s.data.toList.length := by omega
  have h1 : k + 1 < s.data.toList.length := by omega
  have h2 : k + 2 < s.data.toList.length := by omega
  unfold decAt
  rw [List.drop_eq_getElem_cons h0, List.drop_eq_getElem_cons h1, List.drop_eq_getElem_cons h2, dec, if_neg (by rw [Ne, u8_92, ← bt_get s k h0]; simpa using hc)]
  simp only [← bt_get s (k + 1) h1, ← bt_get s (k + 2) h2]

/-- what the loops carry: what was put, and what is left -/
def DecRel (s : ByteArray) (k : Nat) (acc : List UInt8) : Prop := decAt s 0 = (decAt s k).map (acc ++ ·)
theorem DecRel.start (s : ByteArray) : DecRel s 0 [] := by unfold DecRel; simp
theorem DecRel.plain {s : ByteArray} {k : Nat} {acc : List UInt8} (h : DecRel s k acc) (hk : k < s.size) (hc : (bt s k != 92) = true) : DecRel s (k + 1) (acc ++ [(btN s k).toUInt8]) := by
  unfold DecRel at *; rw [h, decAt_plain hk hc]; cases decAt s (k + 1) <;> simp
theorem DecRel.code {s : ByteArray} {k : Nat} {acc : List UInt8} (h : DecRel s k acc) (hc : (bt s k != 92) = false) (h3 : k + 3 ≤ s.size) (ha : 0 ≤ hvI (bt s (k + 1))) (hb : 0 ≤ hvI (bt s (k + 2))) :
    DecRel s (k + 3) (acc ++ [(16 * hvI (bt s (k + 1)) + hvI (bt s (k + 2))).toNat.toUInt8]) := by
  unfold DecRel at *; rw [h, decAt_code hc h3, if_neg (by omega)]; cases decAt s (k + 3) <;> simp
theorem DecRel.fail {s : ByteArray} {k : Nat} {acc : List UInt8} (h : DecRel s k acc) (hn : decAt s k = none) : decAt s 0 = none := by
  unfold DecRel at h; rw [h, hn]; rfl
theorem DecRel.done {s : ByteArray} {acc : List UInt8} (h : DecRel s s.size acc) : decAt s 0 = some acc := by
  unfold DecRel at h; rw [h, decAt_end (Nat.le_refl _)]; simp

def decS (s : ByteArray) : List UInt8 := (decAt s 0).getD []
def decB (s : ByteArray) : Bool := (decAt s 0).isSome

/-- the name that is written so -/
def readO (s : ByteArray) : Option (List UInt8) :=
  match decAt s 0 with
  | none => none
  | some l => if rightB l.length = true ∧ writeL ⟨l.toArray⟩ = s.data.toList then some l else none
def readS (s : ByteArray) : List UInt8 := (readO s).getD []
def readB (s : ByteArray) : Bool := (readO s).isSome

theorem dec_length (l : List UInt8) : ∀ m, dec l = some m → m.length ≤ l.length := by
  induction l using dec.induct with
  | case1 => intro m h; simp [dec] at h; subst h; simp
  | case2 c r hc ih =>
    intro m h
    rw [dec_plain _ hc] at h
    obtain ⟨m', hm', rfl⟩ := Option.map_eq_some_iff.1 h
    have := ih m' hm'; simp; omega
  | case3 c hc a b r' hbad => intro m h; rw [dec, if_neg hc] at h; simp [hbad] at h
  | case4 c hc a b r' hgood ih =>
    intro m h
    rw [dec, if_neg hc] at h
    simp only [if_neg hgood] at h
    obtain ⟨m', hm', rfl⟩ := Option.map_eq_some_iff.1 h
    have := ih m' hm'; simp; omega
  | case5 c r hc hno =>
    intro m h
    rw [dec_short hc] at h
    · cases h
    · cases r with
      | nil => simp
      | cons a r => cases r with
        | nil => simp
        | cons b r' => exact absurd rfl (hno a b r')

theorem writeL_len (s : ByteArray) (h : rightB s.size = true) : (writeL s).length ≤ 240 := by
  have h2 : s.size ≤ 80 := by simp [rightB] at h; omega
  rw [writeL_yes h]; have := writeTo_length s s.size; omega
theorem readO_long {s : ByteArray} (h : 240 < s.size) : readO s = none := by
  unfold readO
  split
  · rfl
  · rename_i l _
    rw [if_neg]
    rintro ⟨h1, h2⟩
    have hl : (writeL ⟨l.toArray⟩).length ≤ 240 := writeL_len _ h1
    rw [h2] at hl
    have : s.data.toList.length = s.size := rfl
    omega

end Go.Proofs.YtplenagncmhhoaaDoor
