/- For every two texts: what is written of a name has the bytes that it may have, is read back as the name, and two names are written alike just if they are the same (NameBack answers true). No condition. -/
import Derived.Test.YtmicjadbahicfaaNmRg
import Derived.Test.YtmicjadbahicfaaNmWg
import Derived.Test.YtmicjadbahicfaaNmPb
import Derived.ProofKit
import Derived.OpenShut
import Derived.ShutString
namespace Go.Proofs.Ytmicjadbahicfaa
open Go.RowKit

theorem read21_back {s v : ByteArray} (w : World) (hv0 : v.size ≤ maxLen) (h : rightB s.size = true) (hv : writeL s = v.data.toList) :
    Calls Try.prog 13 #[.string v] w fun e w' => e = .returned (.tuple #[.string s, .bool true]) ∧ Below w.heap.size w w' := by
  have hr := read_some (readO_writeL h hv)
  refine (read21 v w hv0).mono ?_
  rintro e w' ⟨rfl, hb⟩
  exact ⟨by rw [hr.1, hr.2], hb⟩

set_option maxHeartbeats 2000000 in
set_option maxRecDepth 100000 in
theorem walk7 (s t : ByteArray) (hs : s.size ≤ maxLen) (ht : t.size ≤ maxLen) (w : World) :
    Calls Try.prog 5 #[.string s, .string t] w fun e w' => e = .returned (.bool true) ∧ Below w.heap.size w w' := by
  have hs0 := hs
  unfold maxLen at hs
  cases hr : rightB s.size
  · have HN := Lib.hid (writeL_no hr)
    go_enter Try.func5, Try.ntmps5
    go_wp2_with fail
    refine (writing15 _).mono ?_
    rintro e w1 ⟨rfl, b1⟩
    go_wp2_with fail
    refine (reading20 _).mono ?_
    rintro e w2 ⟨rfl, b2⟩
    go_wp2_with fail
    refine (write16_is (v := ⟨#[]⟩) _ hs0 (by rw [HN.out])).mono ?_
    rintro e w3 ⟨rfl, b3⟩
    go_wp2_with fail
    refine (right18 _ _ hs0).mono ?_
    rintro e w4 ⟨rfl, rfl⟩
    go_wp2_with fail
    go_ret
    exact ⟨rfl, (b1.trans (b2.mono b1.size)).trans (b3.mono (Nat.le_trans b1.size b2.size))⟩
  · have h80 : s.size ≤ 80 := by simp [rightB] at hr; omega
    obtain ⟨v, hv⟩ : ∃ v : ByteArray, writeL s = v.data.toList := ⟨⟨(writeL s).toArray⟩, by simp⟩
    have hvl := written_len hr hv
    have HV := Lib.hid hv
    have HR := Lib.hid hr
    clear hv
    go_enter Try.func5, Try.ntmps5
    go_wp2_with fail
    refine (writing15 _).mono ?_
    rintro e w1 ⟨rfl, b1⟩
    go_wp2_with fail
    refine (reading20 _).mono ?_
    rintro e w2 ⟨rfl, b2⟩
    go_wp2_with fail
    refine (write16_is _ hs0 HV.out).mono ?_
    rintro e w3 ⟨rfl, b3⟩
    go_wp2_with fail
    refine (right18 _ _ hs0).mono ?_
    rintro e w4 ⟨rfl, rfl⟩
    have bel := (b1.trans (b2.mono b1.size)).trans (b3.mono (Nat.le_trans b1.size b2.size))
    clear b1 b2 b3
    go_wp2_with fail
    go_loop [6] (fun i => ∃ k : Nat, k ≤ v.size ∧ i = .int .i64 k) (fun i => v.size - (intOf i).toNat)
    case atStart => exact ⟨0, Nat.zero_le _, rfl⟩
    case round =>
      obtain ⟨k, hk, rfl⟩ := hrel
      by_cases hlt : k < v.size
      · have hbk := bt_eq v k hlt
        obtain ⟨p1, p2, p3⟩ := written_print HR.out HV.out hlt
        rcases p3 with p3 | ⟨p3, p4, p5⟩
        · go_wp2_with fail
          go_round
          case rel => exact ⟨k + 1, by omega, by go_num⟩
          case measure => simp [intOf]; omega
        · have hk0 : ((k : Int) == 0) = false := by rw [beq_eq_false_iff_ne]; omega
          have hk1 : ((k : Int) == (v.size : Int) - 1) = false := by rw [beq_eq_false_iff_ne]; omega
          go_wp2_with fail
          go_round
          case rel => exact ⟨k + 1, by omega, by go_num⟩
          case measure => simp [intOf]; omega
      · obtain rfl : k = v.size := by omega
        cases hrt : rightB t.size
        · go_wp2_with fail
          refine (read21_back _ (by unfold maxLen; omega) HR.out HV.out).mono ?_
          rintro e w5 ⟨rfl, b5⟩
          go_wp2_with fail
          refine (right18 _ _ ht).mono ?_
          rintro e w6 ⟨rfl, rfl⟩
          go_wp2_with fail
          go_ret
          exact ⟨rfl, bel.trans (b5.mono bel.size)⟩
        · obtain ⟨v2, hv2⟩ : ∃ v : ByteArray, writeL t = v.data.toList := ⟨⟨(writeL t).toArray⟩, by simp⟩
          by_cases hst : s = t
          · subst hst
            have HT := Lib.hid hv2
            clear hv2
            obtain rfl : v2 = v := by
              have := HT.out.symm.trans HV.out
              cases v; cases v2; simp at this; simp [this]
            go_wp2_with fail
            refine (read21_back _ (by unfold maxLen; omega) HR.out HV.out).mono ?_
            rintro e w5 ⟨rfl, b5⟩
            go_wp2_with fail
            refine (right18 _ _ hs0).mono ?_
            rintro e w6 ⟨rfl, rfl⟩
            go_wp2_with fail
            refine (write16_is _ hs0 HT.out).mono ?_
            rintro e w7 ⟨rfl, b7⟩
            go_wp2_with fail
            go_ret
            exact ⟨rfl, (bel.trans (b5.mono bel.size)).trans (b7.mono (Nat.le_trans bel.size b5.size))⟩
          · have hne1 := str_ne hst
            have hne2 : (v2.toList == v.toList) = false := str_ne (by
              rintro rfl
              exact hst (writeL_inj HR.out hrt (HV.out.trans hv2.symm)))
            have HT := Lib.hid hv2
            clear hv2 hst
            go_wp2_with fail
            refine (read21_back _ (by unfold maxLen; omega) HR.out HV.out).mono ?_
            rintro e w5 ⟨rfl, b5⟩
            go_wp2_with fail
            refine (right18 _ _ ht).mono ?_
            rintro e w6 ⟨rfl, rfl⟩
            go_wp2_with fail
            refine (write16_is _ ht HT.out).mono ?_
            rintro e w7 ⟨rfl, b7⟩
            go_wp2_with fail
            go_ret
            exact ⟨rfl, (bel.trans (b5.mono bel.size)).trans (b7.mono (Nat.le_trans bel.size b5.size))⟩

end Go.Proofs.Ytmicjadbahicfaa
