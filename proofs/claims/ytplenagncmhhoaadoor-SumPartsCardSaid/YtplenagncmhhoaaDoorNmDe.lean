/- name.decode answers what the signs stand for, or none. -/
import Derived.Test.YtplenagncmhhoaaDoorNmPd
import Derived.Test.YtplenagncmhhoaaDoorNmNw
import Derived.Deep.QuietTactic
import Derived.BigQuiet
import Derived.IntWalk
import Derived.WalkSmall
namespace Go.Proofs.YtplenagncmhhoaaDoor
open Go.RowKit

theorem or16_fin : ∀ x y : Fin 16, bits BinOp.or IntKind.i64 ((x.val : Int) * 16) (y.val : Int) % 256 = 16 * (x.val : Int) + (y.val : Int) := by decide +kernel
theorem or16 (x y : Int) (hx : 0 ≤ x) (hx' : x < 16) (hy : 0 ≤ y) (hy' : y < 16) : bits BinOp.or IntKind.i64 (x * 16) y % 256 = 16 * x + y := by
  have h := or16_fin ⟨x.toNat, by omega⟩ ⟨y.toNat, by omega⟩
  simpa only [Int.toNat_of_nonneg hx, Int.toNat_of_nonneg hy] using h
theorem isBuilder_drewN {T e : TypeId} {B b : Nat} {bs : List Value} {w : World} (h : Lib.IsBuilder T e B b bs w) (n : Nat) : Lib.IsBuilder T e B b bs (w.drewN n) := h
theorem ret_tup {a b : List UInt8} {c d : Bool} (h : a = b) (h' : c = d) : Ending.returned (.tuple #[.string ⟨a.toArray⟩, .bool c]) = .returned (.tuple #[.string ⟨b.toArray⟩, .bool d]) := by rw [h, h']

set_option maxHeartbeats 4000000 in
set_option maxRecDepth 100000 in
theorem decode36 (s : ByteArray) (w : World) (hs : s.size ≤ 140737488355328) :
    Calls Tryd.prog 113 #[.string s] w fun e w' => e = .returned (.tuple #[.string ⟨(decS s).toArray⟩, .bool (decB s)]) ∧ Below w.heap.size w w' := by
  go_enter Tryd.func113, Tryd.ntmps113
  go_wp2
  go_loopw [5] (fun i wr => ∃ (k : Nat) (acc : List UInt8), k ≤ s.size ∧ i = .int .i64 k ∧ acc.length ≤ k ∧ Lib.IsBuilder 120 5 w.heap.size w.heap.size (Lib.byteCells acc) wr ∧ Below w.heap.size w wr ∧ DecRel s k acc) (fun i _ => s.size - (intOf i).toNat)
  case atStart =>
    exact ⟨0, [], Nat.zero_le _, rfl, Nat.le_refl _, Lib.fresh_isBuilder 120 5 w, (Below.refl _ w).alloc (Nat.le_refl _) _, DecRel.start s⟩
  case round =>
    obtain ⟨k, acc, hk, rfl, hal, hI, hbw, hrel0⟩ := hrel
    have HR := Lib.hid hrel0
    clear hrel0
    have hB := hbw.size
    by_cases hlt : k < s.size
    · have hbk := bt_eq s k hlt
      cases hc : (bt s k != 92)
      · by_cases h3 : k + 3 ≤ s.size
        · have hbk1 := bt_eq s (k + 1) (by omega)
          have hbk2 := bt_eq s (k + 2) (by omega)
          have bd1 := bt_bd s (k + 1)
          have bd2 := bt_bd s (k + 2)
          have q1 : IntKind.i64.wrap (↑k + 1) = ↑k + 1 := IntWalk.i64_in _ (by omega)
          have q2 : IntKind.i64.wrap (↑k + 2) = ↑k + 2 := IntWalk.i64_in _ (by omega)
          have q3 : (0 : Int) ≤ ↑k + 1 := by omega
          have q4 : (0 : Int) ≤ ↑k + 2 := by omega
          have q5 : ((k : Int) + 1).toNat = k + 1 := by omega
          have q6 : ((k : Int) + 2).toNat = k + 2 := by omega
          have q7 : (k : Int) + 1 < ↑s.size := by omega
          have q8 : (k : Int) + 2 < ↑s.size := by omega
          have hv1 := hvI_bd (bt s (k + 1))
          have hv2 := hvI_bd (bt s (k + 2))
          by_cases ha : hvI (bt s (k + 1)) < 0
          · have HN := Lib.hid (HR.out.fail (by rw [decAt_code hc h3, if_pos (Or.inl ha)]))
            go_wp2
            go_quiet ((go_at_call 121; exact Calls.quiet_of_same (hexval _ _ (by omega) (by omega))))
            clear q1 q2 q3 q4 q5 q6 q7 q8
            go_wp2
            go_ret2
            exact ⟨ret_tup (a := []) (by simp [decS, HN.out]) (by simp [decB, HN.out]), below_drewN hbw _⟩
          · have ha' : 0 ≤ hvI (bt s (k + 1)) := by omega
            clear ha
            by_cases hb : hvI (bt s (k + 2)) < 0
            · have HN := Lib.hid (HR.out.fail (by rw [decAt_code hc h3, if_pos (Or.inr hb)]))
              go_wp2
              go_quiet ((go_at_call 121; exact Calls.quiet_of_same (hexval _ _ (by omega) (by omega))))
              clear q1 q2 q3 q4 q5 q6 q7 q8
              go_wp2
              go_ret2
              exact ⟨ret_tup (a := []) (by simp [decS, HN.out]) (by simp [decB, HN.out]), below_drewN hbw _⟩
            · have hb' : 0 ≤ hvI (bt s (k + 2)) := by omega
              clear hb
              have HN := Lib.hid (HR.out.code hc h3 ha' hb')
              go_wp2
              go_quiet ((go_at_call 121; exact Calls.quiet_of_same (hexval _ _ (by omega) (by omega))))
              clear q1 q2 q3 q4 q5 q6 q7 q8
              go_wp2_with fail
              refine (writeByte w.heap.size w.heap.size _ _ _ (isBuilder_drewN hI _) (by simp [Lib.byteCells_length]; omega) hB).mono ?_
              rintro e W1 ⟨rfl, h1, b1⟩
              rw [or16 _ _ ha' hv1.2 hb' hv2.2] at h1
              go_wp2
              go_roundw
              case rel =>
                refine ⟨k + 3, _, by omega, by go_num, ?_, ?_, (below_drewN hbw _).trans b1, HN.out⟩
                · simp; omega
                · rw [Lib.byteCells_snoc _ (by omega), Int.toNat_of_nonneg (by omega)]; exact Or.inr h1
              case measure => simp [intOf]; omega
        · have HN := Lib.hid (HR.out.fail (decAt_short hlt hc (by omega)))
          go_wp2
          go_ret2
          exact ⟨ret_tup (a := []) (by simp [decS, HN.out]) (by simp [decB, HN.out]), hbw⟩
      · have HN := Lib.hid (HR.out.plain hlt hc)
        go_wp2_with fail
        refine (writeByte w.heap.size w.heap.size _ _ _ hI (by simp [Lib.byteCells_length]; omega) hB).mono ?_
        rintro e W1 ⟨rfl, h1, b1⟩
        go_wp2
        go_roundw
        case rel => exact ⟨k + 1, acc ++ [(btN s k).toUInt8], by omega, by go_num, by simp; omega, by rw [Lib.byteCells_snoc _ (btN_bd s k)]; exact Or.inr h1, hbw.trans b1, HN.out⟩
        case measure => simp [intOf]; omega
    · obtain rfl : k = s.size := by omega
      have HN := Lib.hid HR.out.done
      go_wp2_with (go_at_call 75; refine (Tryd.Builder_String_any w.heap.size w.heap.size acc _ hI hB).mono ?_)
      rintro e W1 ⟨rfl, b1⟩
      go_wp2
      go_ret2
      exact ⟨ret_tup (by simp [decS, HN.out]) (by simp [decB, HN.out]), hbw.trans b1⟩

end Go.Proofs.YtplenagncmhhoaaDoor
