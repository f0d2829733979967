/- Whether an event decides, both ways; its kind, its time. -/
import Derived.Test.YtmhfdpgkdpbbiaaEa
import Derived.Lib.Hide
namespace Go.Proofs.Ytmhfdpgkdpbbiaa
open Go.RowKit

def BoolPost (w : World) (b : Bool) (e : Ending) (w' : World) : Prop := e = .returned (.bool b) ∧ Below w.heap.size w w'
def evV (e : Ev) : Value := .agg #[.int .i64 e.kind, .int .i64 e.n, .string e.text, .int .i64 e.at_]
set_option maxHeartbeats 1000000 in
set_option maxRecDepth 100000 in
theorem decides_any (k n : Int) (t : ByteArray) (a : Int) (w : World) : Calls Try.prog 10 #[.agg #[.int .i64 k, .int .i64 n, .string t, .int .i64 a]] w (BoolPost w (decB ⟨k, n, t, a⟩)) := by
  have hb := Lib.hid (fun o => (Below.refl w.heap.size w).alloc (Nat.le_refl _) o)
  have hk : k = 5 ∨ k = 6 ∨ k = 7 ∨ k = 8 ∨ k = 9 ∨ k = 11 ∨ k = 12 ∨ k = 13 ∨ (¬ k = 5 ∧ ¬ k = 6 ∧ ¬ k = 7 ∧ ¬ k = 8 ∧ ¬ k = 9 ∧ ¬ k = 11 ∧ ¬ k = 12 ∧ ¬ k = 13) := by omega
  rcases hk with rfl | rfl | rfl | rfl | rfl | rfl | rfl | rfl | ⟨h5, h6, h7, h8, h9, h11, h12, h13⟩
  all_goals
    go_enter Try.func10, Try.ntmps10
    go_wp2
    go_ret
    exact ⟨ret_bool (by simp [decB, *]), hb.out _⟩
set_option maxHeartbeats 1000000 in
set_option maxRecDepth 100000 in
theorem rdecides_any (k n : Int) (t : ByteArray) (a : Int) (w : World) : Calls Try.prog 11 #[.agg #[.int .i64 k, .int .i64 n, .string t, .int .i64 a]] w (BoolPost w (decB ⟨k, n, t, a⟩)) := by
  have hb := Lib.hid (fun o => (Below.refl w.heap.size w).alloc (Nat.le_refl _) o)
  have hk : k = 5 ∨ k = 6 ∨ k = 7 ∨ k = 8 ∨ k = 9 ∨ k = 11 ∨ k = 12 ∨ k = 13 ∨ (¬ k = 5 ∧ ¬ k = 6 ∧ ¬ k = 7 ∧ ¬ k = 8 ∧ ¬ k = 9 ∧ ¬ k = 11 ∧ ¬ k = 12 ∧ ¬ k = 13) := by omega
  rcases hk with rfl | rfl | rfl | rfl | rfl | rfl | rfl | rfl | ⟨h5, h6, h7, h8, h9, h11, h12, h13⟩
  rotate_right
  have e5 : (k == 5) = false := by simpa using h5
  have e6 : (k == 6) = false := by simpa using h6
  have e7 : (k == 7) = false := by simpa using h7
  have e8 : (k == 8) = false := by simpa using h8
  have e9 : (k == 9) = false := by simpa using h9
  have e11 : (k == 11) = false := by simpa using h11
  have e12 : (k == 12) = false := by simpa using h12
  have e13 : (k == 13) = false := by simpa using h13
  all_goals
    go_enter Try.func11, Try.ntmps11
    go_wp2
    go_ret
    exact ⟨ret_bool (by simp [decB, *]), hb.out _⟩
theorem isEmpty_of {s : ByteArray} : s.data.toList.isEmpty = true ↔ s = ByteArray.empty := by
  obtain ⟨⟨l⟩⟩ := s
  cases l with
  | nil => exact ⟨fun _ => rfl, fun _ => rfl⟩
  | cons a b => exact ⟨fun h => by simp at h, fun h => by cases h⟩
set_option maxHeartbeats 4000000 in
set_option maxRecDepth 100000 in
theorem rightKind_any (k n : Int) (t : ByteArray) (a : Int) (w : World) : Calls Try.prog 17 #[.agg #[.int .i64 k, .int .i64 n, .string t, .int .i64 a]] w (BoolPost w (rkB ⟨k, n, t, a⟩)) := by
  have hb := Lib.hid (fun o => (Below.refl w.heap.size w).alloc (Nat.le_refl _) o)
  have hk : k = 1 ∨ k = 2 ∨ k = 3 ∨ k = 4 ∨ k = 5 ∨ k = 6 ∨ k = 7 ∨ k = 8 ∨ k = 9 ∨ k = 10 ∨ k = 11 ∨ k = 12 ∨ k = 13 ∨ k = 14 ∨ (¬ k = 1 ∧ ¬ k = 2 ∧ ¬ k = 3 ∧ ¬ k = 4 ∧ ¬ k = 5 ∧ ¬ k = 6 ∧ ¬ k = 7 ∧ ¬ k = 8 ∧ ¬ k = 9 ∧ ¬ k = 10 ∧ ¬ k = 11 ∧ ¬ k = 12 ∧ ¬ k = 13 ∧ ¬ k = 14) := by omega
  rcases hk with rfl | rfl | rfl | rfl | rfl | rfl | rfl | rfl | rfl | rfl | rfl | rfl | rfl | rfl | ⟨h1, h2, h3, h4, h5, h6, h7, h8, h9, h10, h11, h12, h13, h14⟩
  all_goals
    go_enter Try.func17, Try.ntmps17
    go_wp2
    all_goals
      go_ret
      exact ⟨ret_bool (by simp_all [rkB] <;> omega), hb.out _⟩
set_option maxHeartbeats 1000000 in
set_option maxRecDepth 100000 in
theorem rightTime_any (k n : Int) (t : ByteArray) (a p : Int) (w : World) : Calls Try.prog 18 #[.agg #[.int .i64 k, .int .i64 n, .string t, .int .i64 a], .int .i64 p] w (BoolPost w (rtB ⟨k, n, t, a⟩ p)) := by
  have hb := Lib.hid (fun o => (Below.refl w.heap.size w).alloc (Nat.le_refl _) o)
  rcases Classical.em (k = 1) with rfl | h1
  all_goals
    go_enter Try.func18, Try.ntmps18
    go_wp2
    go_ret
    exact ⟨ret_bool (by simp_all [rtB]), hb.out _⟩
end Go.Proofs.Ytmhfdpgkdpbbiaa
