/- Plain functions: what bytes are, and when a list of bytes is a word. No program. Plain functions: how a name is written. No program. -/
import Derived.WalkKit
namespace Go.Proofs.YtplenagncmhhoaaDoor

def letB (c : Int) : Bool := (decide (97 ≤ c) && decide (c ≤ 122)) || (decide (65 ≤ c) && decide (c ≤ 90))
def digB (c : Int) : Bool := decide (48 ≤ c) && decide (c ≤ 57)
def plainB (c : Int) : Bool := decide (33 ≤ c) && decide (c ≤ 126) && (c != 92)
def okB (c : Int) : Bool := letB c || digB c || (c == 45) || (c == 95)
def rightB (n : Nat) : Bool := decide (1 ≤ n) && decide (n ≤ 80)

/-- the byte at a place -/
def bt (s : ByteArray) (i : Nat) : Int := ((s.data.toList.getD i 0).toNat : Int)
theorem bt_eq (s : ByteArray) (i : Nat) (h : i < s.size) : ((s[i]'h).toNat : Int) = bt s i := by
  have h' : i < s.data.toList.length := h
  simp only [bt, List.getD_eq_getElem?_getD, List.getElem?_eq_getElem h', Option.getD_some]
  rfl
theorem bt_bd (s : ByteArray) (i : Nat) : 0 ≤ bt s i ∧ bt s i < 256 := by
  have := (s.data.toList.getD i 0).toNat_lt
  simp only [bt]; omega

def allB (s : ByteArray) : Bool := s.data.toList.all fun c => okB (c.toNat : Int)
def wordB (s : ByteArray) : Bool := decide (1 ≤ s.size) && decide (s.size ≤ 40) && letB (bt s 0) && allB s

theorem allB_iff (s : ByteArray) : allB s = true ↔ ∀ j, j < s.size → okB (bt s j) = true := by
  unfold allB
  rw [List.all_eq_true]
  constructor
  · intro h j hj
    have hj' : j < s.data.toList.length := hj
    have := h s.data.toList[j] (List.getElem_mem hj')
    simpa only [bt, List.getD_eq_getElem?_getD, List.getElem?_eq_getElem hj', Option.getD_some] using this
  · intro h c hc
    obtain ⟨j, hj, rfl⟩ := List.mem_iff_getElem.1 hc
    have := h j hj
    simpa only [bt, List.getD_eq_getElem?_getD, List.getElem?_eq_getElem hj, Option.getD_some] using this

theorem wordB_yes {s : ByteArray} (h1 : 1 ≤ s.size) (h2 : s.size ≤ 40) (h3 : letB (bt s 0) = true) (h4 : ∀ j, j < s.size → okB (bt s j) = true) : wordB s = true := by
  simp [wordB, h1, h2, h3, (allB_iff s).2 h4]
theorem wordB_not {s : ByteArray} {j : Nat} (hj : j < s.size) (h : okB (bt s j) = false) : wordB s = false := by
  have : allB s = false := by
    rw [Bool.eq_false_iff]; intro hc; have := (allB_iff s).1 hc j hj; rw [h] at this; cases this
  simp [wordB, this]
theorem wordB_not0 {s : ByteArray} (h : letB (bt s 0) = false) : wordB s = false := by simp [wordB, h]
theorem wordB_small {s : ByteArray} (h : s.size < 1) : wordB s = false := by simp [wordB]; omega
theorem wordB_big {s : ByteArray} (h : 40 < s.size) : wordB s = false := by simp [wordB]; omega

end Go.Proofs.YtplenagncmhhoaaDoor
namespace Go.Proofs.YtplenagncmhhoaaDoor

def hexD (n : Nat) : Nat := if n < 10 then 48 + n else 87 + n
/-- does the byte at a place stand for itself? -/
def standsB (s : ByteArray) (i : Nat) : Bool := plainB (bt s i) || ((bt s i == 32) && decide (0 < i) && decide (i + 1 < s.size))
def btN (s : ByteArray) (i : Nat) : Nat := (s.data.toList.getD i 0).toNat
def pieceN (s : ByteArray) (i : Nat) : List Nat := if standsB s i then [btN s i] else [92, hexD (btN s i / 16), hexD (btN s i % 16)]
def pieceL (s : ByteArray) (i : Nat) : List UInt8 := (pieceN s i).map (fun n => n.toUInt8)
def writeTo (s : ByteArray) : Nat → List UInt8
  | 0 => []
  | k + 1 => writeTo s k ++ pieceL s k
def writeL (s : ByteArray) : List UInt8 := if rightB s.size then writeTo s s.size else []

theorem pieceL_length (s : ByteArray) (i : Nat) : (pieceL s i).length ≤ 3 := by
  unfold pieceL pieceN; split <;> simp
theorem writeTo_length (s : ByteArray) (k : Nat) : (writeTo s k).length ≤ 3 * k := by
  induction k with
  | zero => simp [writeTo]
  | succ k ih => have := pieceL_length s k; simp [writeTo]; omega
theorem writeL_yes {s : ByteArray} (h : rightB s.size = true) : writeL s = writeTo s s.size := by simp [writeL, h]
theorem writeL_no {s : ByteArray} (h : rightB s.size = false) : writeL s = [] := by simp [writeL, h]
theorem standsB_plain {s : ByteArray} {i : Nat} (h : plainB (bt s i) = true) : standsB s i = true := by simp [standsB, h]
theorem pieceL_yes {s : ByteArray} {i : Nat} (h : standsB s i = true) : pieceL s i = [(btN s i).toUInt8] := by simp [pieceL, pieceN, h]
theorem pieceL_no {s : ByteArray} {i : Nat} (h : standsB s i = false) : pieceL s i = [(92 : Nat).toUInt8, (hexD (btN s i / 16)).toUInt8, (hexD (btN s i % 16)).toUInt8] := by simp [pieceL, pieceN, h]
theorem bt_btN (s : ByteArray) (i : Nat) : bt s i = (btN s i : Int) := rfl
theorem btN_bd (s : ByteArray) (i : Nat) : btN s i < 256 := (s.data.toList.getD i 0).toNat_lt
theorem hexD_bd {n : Nat} (h : n < 16) : hexD n < 256 := by unfold hexD; split <;> omega

end Go.Proofs.YtplenagncmhhoaaDoor
