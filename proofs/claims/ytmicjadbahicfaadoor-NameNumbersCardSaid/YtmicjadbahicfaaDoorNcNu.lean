/- The walk of NameNumbers. -/
import Derived.Test.YtmicjadbahicfaaDoorNcDg
namespace Go.Proofs.YtmicjadbahicfaaDoor
open Go.RowKit

theorem loopD_len : ∀ f r o, (loopD f r o).length ≤ f + o.length
  | 0, r, o => by rw [loopD]; omega
  | f + 1, r, o => by
    rw [loopD]; split
    · have h := loopD_len f (r / 10) ((48 + r % 10).toUInt8 :: o)
      rw [List.length_cons] at h; omega
    · omega
def decB (n : Nat) : ByteArray := ⟨(decL n).toArray⟩
theorem decB_list (n : Nat) : (decB n).data.toList = decL n := rfl
theorem decB_size (n : Nat) : (decB n).size ≤ 30 := loopD_len 30 n []
theorem digits_is (N : Nat) (w : World) (hN : N < 1048576) : Calls Tryd.prog 13 #[.int .i64 N] w fun e w' => e = .returned (.string (decB N)) ∧ Below w.heap.size w w' := digitsC N w hN _ (decB_list N)
theorem and20 (n : Int) : 0 ≤ bits BinOp.and IntKind.i64 n 1048575 ∧ bits BinOp.and IntKind.i64 n 1048575 ≤ 1048575 := by
  have h : (BitVec.ofInt 64 n &&& BitVec.ofInt 64 1048575).toNat ≤ 1048575 := by
    rw [BitVec.toNat_and]; exact Nat.and_le_right
  show 0 ≤ IntKind.i64.wrap ((BitVec.ofInt 64 n &&& BitVec.ofInt 64 1048575).toNat : Int) ∧ IntKind.i64.wrap ((BitVec.ofInt 64 n &&& BitVec.ofInt 64 1048575).toNat : Int) ≤ 1048575
  rw [IntWalk.i64_in _ (by omega)]; omega
theorem app_l (a b : ByteArray) : (a ++ b).data.toList = a.data.toList ++ b.data.toList := by
  rw [ByteArray.data_append, Array.toList_append]
theorem numA (s : ByteArray) (N : Nat) : ((s ++ ⟨#[46]⟩) ++ decB N).data.toList = (s.data.toList ++ [46]) ++ decL N := by
  rw [app_l, app_l, decB_list]
theorem num0 (s : ByteArray) (N : Nat) : (((s ++ ⟨#[46]⟩) ++ ⟨#[48]⟩) ++ decB N).data.toList = (s.data.toList ++ [46]) ++ (48 :: decL N) := by
  rw [app_l, app_l, app_l, decB_list, List.append_assoc, List.append_assoc, List.append_assoc]; rfl
theorem numA_size (s : ByteArray) (N : Nat) (h : s.size ≤ 1000) : ((s ++ ⟨#[46]⟩) ++ decB N).size ≤ maxLen := by
  have := decB_size N
  rw [ByteArray.size_append, ByteArray.size_append]
  have : (⟨#[46]⟩ : ByteArray).size = 1 := rfl
  simp only [maxLen]; omega
theorem num0_size (s : ByteArray) (N : Nat) (h : s.size ≤ 1000) : (((s ++ ⟨#[46]⟩) ++ ⟨#[48]⟩) ++ decB N).size ≤ maxLen := by
  have := decB_size N
  rw [ByteArray.size_append, ByteArray.size_append, ByteArray.size_append]
  have : (⟨#[46]⟩ : ByteArray).size = 1 := rfl
  have : (⟨#[48]⟩ : ByteArray).size = 1 := rfl
  simp only [maxLen]; omega
theorem cLt {s : ByteArray} {N M : Nat} (w : World) (hs : s.size ≤ 1000) (hN : N < 1048576) (hM : M < 1048576) (h : N < M) :
    Calls Tryd.prog 11 #[.string ((s ++ ⟨#[46]⟩) ++ decB N), .string ((s ++ ⟨#[46]⟩) ++ decB M)] w fun e w' => e = .returned (.int .i64 (-1)) ∧ Below w.heap.size w w' := by
  obtain ⟨a1, a2, a3⟩ := decL_spec (n := N) (by omega)
  obtain ⟨b1, b2, b3⟩ := decL_spec (n := M) (by omega)
  refine cmp_is w (numA_size _ _ hs) (numA_size _ _ hs) ?_
  rw [numA, numA]
  exact num_lt (by decide) a1 b1 a2 b2 (Or.inl (by omega))
theorem cGt {s : ByteArray} {N M : Nat} (w : World) (hs : s.size ≤ 1000) (hN : N < 1048576) (hM : M < 1048576) (h : M < N) :
    Calls Tryd.prog 11 #[.string ((s ++ ⟨#[46]⟩) ++ decB N), .string ((s ++ ⟨#[46]⟩) ++ decB M)] w fun e w' => e = .returned (.int .i64 1) ∧ Below w.heap.size w w' := by
  obtain ⟨a1, a2, a3⟩ := decL_spec (n := N) (by omega)
  obtain ⟨b1, b2, b3⟩ := decL_spec (n := M) (by omega)
  refine cmp_is w (numA_size _ _ hs) (numA_size _ _ hs) ?_
  rw [numA, numA]
  exact num_gt (by decide) a1 b1 a2 b2 (by omega)
theorem cEq {s : ByteArray} {N : Nat} (w : World) (hs : s.size ≤ 1000) :
    Calls Tryd.prog 11 #[.string ((s ++ ⟨#[46]⟩) ++ decB N), .string ((s ++ ⟨#[46]⟩) ++ decB N)] w fun e w' => e = .returned (.int .i64 0) ∧ Below w.heap.size w w' :=
  cmp_is w (numA_size _ _ hs) (numA_size _ _ hs) ((cmpS_zero _ _).2 rfl)
theorem cZr {s : ByteArray} {N : Nat} (w : World) (hs : s.size ≤ 1000) (hN : N < 1048576) :
    Calls Tryd.prog 11 #[.string ((s ++ ⟨#[46]⟩) ++ decB N), .string (((s ++ ⟨#[46]⟩) ++ ⟨#[48]⟩) ++ decB N)] w fun e w' => e = .returned (.int .i64 (-1)) ∧ Below w.heap.size w w' := by
  obtain ⟨a1, a2, a3⟩ := decL_spec (n := N) (by omega)
  refine cmp_is w (numA_size _ _ hs) (num0_size _ _ hs) ?_
  rw [numA, num0]
  exact num_lt (by decide) a1 (AllD_zero a1) a2 (by simp) (Or.inr ⟨(val_zero _).symm, by simp⟩)

set_option maxHeartbeats 2000000 in
set_option maxRecDepth 100000 in
theorem walkNumbers (s : ByteArray) (n m : Int) (_hs : s.size ≤ maxLen) (w : World) :
    Calls Tryd.prog 5 #[.string s, .int .i64 n, .int .i64 m] w fun e w' => e = .returned (.bool true) ∧ Below w.heap.size w w' := by
  go_enter Tryd.func5, Tryd.ntmps5
  go_wp2_with fail
  refine (cmp_t2 _).mono ?_
  rintro e w1 ⟨rfl, b1⟩
  by_cases hl : 1000 < s.size
  · go_wp2_with fail
    go_ret
    exact ⟨ret_bool (by simp), b1⟩
  · have hs1 : s.size ≤ 1000 := by omega
    clear hl
    obtain ⟨n0, n1⟩ := and20 n
    obtain ⟨m0, m1⟩ := and20 m
    go_wp2_with fail
    generalize bits BinOp.and IntKind.i64 n 1048575 = N at n0 n1 ⊢
    generalize bits BinOp.and IntKind.i64 m 1048575 = M at m0 m1 ⊢
    obtain ⟨N, rfl⟩ := Int.eq_ofNat_of_zero_le n0
    obtain ⟨M, rfl⟩ := Int.eq_ofNat_of_zero_le m0
    have hN : N < 1048576 := by omega
    have hM : M < 1048576 := by omega
    clear n0 n1 m0 m1
    have s1 := decB_size N
    have s2 := decB_size M
    refine (digits_is N _ hN).mono ?_
    rintro e w2 ⟨rfl, b2⟩
    have c2 := b1.trans (b2.mono b1.size)
    clear b1 b2
    go_wp2_with fail
    refine (digits_is M _ hM).mono ?_
    rintro e w3 ⟨rfl, b3⟩
    have c3' := c2.trans (b3.mono c2.size)
    clear b3 c2
    rcases Nat.lt_trichotomy N M with h | h | h
    · go_wp2_with fail
      refine (cLt _ hs1 hN hM h).mono ?_
      rintro e w4 ⟨rfl, b4⟩
      go_wp2_with fail
      go_ret
      exact ⟨ret_bool (by simp), c3'.trans (b4.mono c3'.size)⟩
    · subst h
      go_wp2_with fail
      refine (cEq _ hs1).mono ?_
      rintro e w4 ⟨rfl, b4⟩
      have c4 := c3'.trans (b4.mono c3'.size)
      clear b4 c3'
      go_wp2_with fail
      refine (digits_is N _ hN).mono ?_
      rintro e w5 ⟨rfl, b5⟩
      have c5 := c4.trans (b5.mono c4.size)
      clear b5 c4
      go_wp2_with fail
      refine (cZr _ hs1 hN).mono ?_
      rintro e w6 ⟨rfl, b6⟩
      go_wp2_with fail
      go_ret
      exact ⟨ret_bool (by simp), c5.trans (b6.mono c5.size)⟩
    · go_wp2_with fail
      refine (cGt _ hs1 hN hM h).mono ?_
      rintro e w4 ⟨rfl, b4⟩
      go_wp2_with fail
      go_ret
      exact ⟨ret_bool (by simp), c3'.trans (b4.mono c3'.size)⟩

end Go.Proofs.YtmicjadbahicfaaDoor
