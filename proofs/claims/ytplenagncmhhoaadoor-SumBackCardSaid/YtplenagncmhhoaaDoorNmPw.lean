/- Plain functions: how a name is written. No program. -/
import Derived.Test.YtplenagncmhhoaaDoorNmPl
namespace Go.Proofs.YtplenagncmhhoaaDoor

def hexD (n : Nat) : Nat := if n < 10 then 48 + n else 87 + n
/-- does the byte at a place stand for itself? -/
def standsB (s : ByteArray) (i : Nat) : Bool := plainB (bt s i) || ((bt s i == 32) && decide (0 < i) && decide (i + 1 < s.size))
def btN (s : ByteArray) (i : Nat) : Nat := (s.data.toList.getD i 0).toNat
def pieceN (s : ByteArray) (i : Nat) : List Nat := if standsB s i then [btN s i] else [92, hexD (btN s i / 16), hexD (btN s i % 16)]
def pieceL (s : ByteArray) (i : Nat) : List UInt8 := (pieceN s i).map (fun n => n.toUInt8)
def writeTo (s : ByteArray) : Nat → List UInt8
  | 0 => []
  | k + 1 => writeTo s k ++ pieceL s k
def writeL (s : ByteArray) : List UInt8 := if rightB s.size then writeTo s s.size else []

theorem pieceL_length (s : ByteArray) (i : Nat) : (pieceL s i).length ≤ 3 := by
  unfold pieceL pieceN; split <;> simp
theorem writeTo_length (s : ByteArray) (k : Nat) : (writeTo s k).length ≤ 3 * k := by
  induction k with
  | zero => simp [writeTo]
  | succ k ih => have := pieceL_length s k; simp [writeTo]; omega
theorem writeL_yes {s : ByteArray} (h : rightB s.size = true) : writeL s = writeTo s s.size := by simp [writeL, h]
theorem writeL_no {s : ByteArray} (h : rightB s.size = false) : writeL s = [] := by simp [writeL, h]
theorem standsB_plain {s : ByteArray} {i : Nat} (h : plainB (bt s i) = true) : standsB s i = true := by simp [standsB, h]
theorem pieceL_yes {s : ByteArray} {i : Nat} (h : standsB s i = true) : pieceL s i = [(btN s i).toUInt8] := by simp [pieceL, pieceN, h]
theorem pieceL_no {s : ByteArray} {i : Nat} (h : standsB s i = false) : pieceL s i = [(92 : Nat).toUInt8, (hexD (btN s i / 16)).toUInt8, (hexD (btN s i % 16)).toUInt8] := by simp [pieceL, pieceN, h]
theorem bt_btN (s : ByteArray) (i : Nat) : bt s i = (btN s i : Int) := rfl
theorem btN_bd (s : ByteArray) (i : Nat) : btN s i < 256 := (s.data.toList.getD i 0).toNat_lt
theorem hexD_bd {n : Nat} (h : n < 16) : hexD n < 256 := by unfold hexD; split <;> omega

end Go.Proofs.YtplenagncmhhoaaDoor
