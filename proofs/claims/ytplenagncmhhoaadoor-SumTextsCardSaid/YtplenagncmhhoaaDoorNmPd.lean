/- Plain functions: what a written name is decoded to. No program. -/
import Derived.Test.YtplenagncmhhoaaDoorNmPw
namespace Go.Proofs.YtplenagncmhhoaaDoor

/-- the value of a digit of the base 16; -1 of none -/
def hvI (c : Int) : Int := if 48 ≤ c ∧ c ≤ 57 then c - 48 else if 97 ≤ c ∧ c ≤ 102 then c - 87 else -1
theorem hvI_bd (c : Int) : -1 ≤ hvI c ∧ hvI c < 16 := by unfold hvI; split <;> (try split) <;> omega

def dec : List UInt8 → Option (List UInt8)
  | [] => some []
  | c :: r =>
    if c ≠ 92 then (dec r).map (c :: ·)
    else match r with
      | a :: b :: r' => if hvI (a.toNat : Int) < 0 ∨ hvI (b.toNat : Int) < 0 then none else (dec r').map ((16 * hvI (a.toNat : Int) + hvI (b.toNat : Int)).toNat.toUInt8 :: ·)
      | _ => none

theorem dec_plain {c : UInt8} (r : List UInt8) (hc : c ≠ 92) : dec (c :: r) = (dec r).map (c :: ·) := by
  cases r with
  | nil => simp [dec, hc]
  | cons a r => cases r <;> simp [dec, hc]
theorem dec_short {c : UInt8} {r : List UInt8} (hc : ¬ c ≠ 92) (hl : r.length < 2) : dec (c :: r) = none := by
  match r, hl with
  | [], _ => simp only [dec, if_neg hc]
  | [_], _ => simp only [dec, if_neg hc]
  | _ :: _ :: _, hl => simp at hl; omega

theorem bt_get (s : ByteArray) (k : Nat) (h : k < s.data.toList.length) : bt s k = ((s.data.toList[k]).toNat : Int) := by
  simp [bt, List.getD_eq_getElem?_getD, List.getElem?_eq_getElem h]
theorem u8_92 {c : UInt8} : c = 92 ↔ (c.toNat : Int) = 92 := by
  constructor
  · rintro rfl; rfl
  · intro h; apply UInt8.toNat_inj.1; show c.toNat = 92; omega

def decAt (s : ByteArray) (k : Nat) : Option (List UInt8) := dec (s.data.toList.drop k)

theorem decAt_end {s : ByteArray} {k : Nat} (h : s.size ≤ k) : decAt s k = some [] := by
  unfold decAt; rw [List.drop_eq_nil_of_le h]; rfl
theorem decAt_plain {s : ByteArray} {k : Nat} (h : k < s.size) (hc : (bt s k != 92) = true) : decAt s k = (decAt s (k + 1)).map ((btN s k).toUInt8 :: ·) := by
  have h' : k < s.data.toList.length := h
  unfold decAt
  rw [List.drop_eq_getElem_cons h', dec_plain _ (by rw [Ne, u8_92, ← bt_get s k h']; simpa using hc)]
  simp [btN, List.getD_eq_getElem?_getD, List.getElem?_eq_getElem h']
theorem decAt_short {s : ByteArray} {k : Nat} (h : k < s.size) (hc : (bt s k != 92) = false) (h3 : s.size < k + 3) : decAt s k = none := by
  have h' : k < s.data.toList.length := h
  unfold decAt
  rw [List.drop_eq_getElem_cons h', dec_short (by rw [Ne, u8_92, ← bt_get s k h']; simpa using hc)]
  rw [List.length_drop]; have : s.data.toList.length = s.size := rfl; omega
theorem decAt_code {s : ByteArray} {k : Nat} (hc : (bt s k != 92) = false) (h3 : k + 3 ≤ s.size) :
    decAt s k = if hvI (bt s (k + 1)) < 0 ∨ hvI (bt s (k + 2)) < 0 then none else (decAt s (k + 3)).map ((16 * hvI (bt s (k + 1)) + hvI (bt s (k + 2))).toNat.toUInt8 :: ·) := by
  have e : s.data.toList.length = s.size := rfl
  have h0 : k < s.data.toList.length := by omega
  have h1 : k + 1 < s.data.toList.length := by omega
  have h2 : k + 2 < s.data.toList.length := by omega
  unfold decAt
  rw [List.drop_eq_getElem_cons h0, List.drop_eq_getElem_cons h1, List.drop_eq_getElem_cons h2, dec, if_neg (by rw [Ne, u8_92, ← bt_get s k h0]; simpa using hc)]
  simp only [← bt_get s (k + 1) h1, ← bt_get s (k + 2) h2]

/-- what the loops carry: what was put, and what is left -/
def DecRel (s : ByteArray) (k : Nat) (acc : List UInt8) : Prop := decAt s 0 = (decAt s k).map (acc ++ ·)
theorem DecRel.start (s : ByteArray) : DecRel s 0 [] := by unfold DecRel; simp
theorem DecRel.plain {s : ByteArray} {k : Nat} {acc : List UInt8} (h : DecRel s k acc) (hk : k < s.size) (hc : (bt s k != 92) = true) : DecRel s (k + 1) (acc ++ [(btN s k).toUInt8]) := by
  unfold DecRel at *; rw [h, decAt_plain hk hc]; cases decAt s (k + 1) <;> simp
theorem DecRel.code {s : ByteArray} {k : Nat} {acc : List UInt8} (h : DecRel s k acc) (hc : (bt s k != 92) = false) (h3 : k + 3 ≤ s.size) (ha : 0 ≤ hvI (bt s (k + 1))) (hb : 0 ≤ hvI (bt s (k + 2))) :
    DecRel s (k + 3) (acc ++ [(16 * hvI (bt s (k + 1)) + hvI (bt s (k + 2))).toNat.toUInt8]) := by
  unfold DecRel at *; rw [h, decAt_code hc h3, if_neg (by omega)]; cases decAt s (k + 3) <;> simp
theorem DecRel.fail {s : ByteArray} {k : Nat} {acc : List UInt8} (h : DecRel s k acc) (hn : decAt s k = none) : decAt s 0 = none := by
  unfold DecRel at h; rw [h, hn]; rfl
theorem DecRel.done {s : ByteArray} {acc : List UInt8} (h : DecRel s s.size acc) : decAt s 0 = some acc := by
  unfold DecRel at h; rw [h, decAt_end (Nat.le_refl _)]; simp

def decS (s : ByteArray) : List UInt8 := (decAt s 0).getD []
def decB (s : ByteArray) : Bool := (decAt s 0).isSome

/-- the name that is written so -/
def readO (s : ByteArray) : Option (List UInt8) :=
  match decAt s 0 with
  | none => none
  | some l => if rightB l.length = true ∧ writeL ⟨l.toArray⟩ = s.data.toList then some l else none
def readS (s : ByteArray) : List UInt8 := (readO s).getD []
def readB (s : ByteArray) : Bool := (readO s).isSome

theorem dec_length (l : List UInt8) : ∀ m, dec l = some m → m.length ≤ l.length := by
  induction l using dec.induct with
  | case1 => intro m h; simp [dec] at h; subst h; simp
  | case2 c r hc ih =>
    intro m h
    rw [dec_plain _ hc] at h
    obtain ⟨m', hm', rfl⟩ := Option.map_eq_some_iff.1 h
    have := ih m' hm'; simp; omega
  | case3 c hc a b r' hbad => intro m h; rw [dec, if_neg hc] at h; simp [hbad] at h
  | case4 c hc a b r' hgood ih =>
    intro m h
    rw [dec, if_neg hc] at h
    simp only [if_neg hgood] at h
    obtain ⟨m', hm', rfl⟩ := Option.map_eq_some_iff.1 h
    have := ih m' hm'; simp; omega
  | case5 c r hc hno =>
    intro m h
    rw [dec_short hc] at h
    · cases h
    · cases r with
      | nil => simp
      | cons a r => cases r with
        | nil => simp
        | cons b r' => exact absurd rfl (hno a b r')

theorem writeL_len (s : ByteArray) (h : rightB s.size = true) : (writeL s).length ≤ 240 := by
  have h2 : s.size ≤ 80 := by simp [rightB] at h; omega
  rw [writeL_yes h]; have := writeTo_length s s.size; omega
theorem readO_long {s : ByteArray} (h : 240 < s.size) : readO s = none := by
  unfold readO
  split
  · rfl
  · rename_i l _
    rw [if_neg]
    rintro ⟨h1, h2⟩
    have hl : (writeL ⟨l.toArray⟩).length ≤ 240 := writeL_len _ h1
    rw [h2] at hl
    have : s.data.toList.length = s.size := rfl
    omega

end Go.Proofs.YtplenagncmhhoaaDoor
