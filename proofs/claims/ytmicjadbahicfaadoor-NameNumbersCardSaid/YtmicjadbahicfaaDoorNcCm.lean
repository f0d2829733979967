/- name.Cmp answers cmpS. -/
import Derived.Test.YtmicjadbahicfaaDoorNcCl
import Derived.Deep.QuietTactic
import Derived.BigQuiet
import Derived.IntWalk
import Derived.WalkSmall
namespace Go.Proofs.YtmicjadbahicfaaDoor
open Go.RowKit

theorem drop_ne {a : ByteArray} {k : Nat} (h : k < a.size) : a.data.toList.drop k ≠ [] := by
  intro e; have := congrArg List.length e; rw [List.length_drop] at this
  have h2 : a.data.toList.length = a.size := rfl
  simp at this; omega
theorem drop_cons {a : ByteArray} {k : Nat} (h : k < a.size) : a.data.toList.drop k = (a.data.toList[k]'h) :: a.data.toList.drop (k + 1) := List.drop_eq_getElem_cons h
theorem drop_all {a : ByteArray} {k : Nat} (h : a.size ≤ k) : a.data.toList.drop k = [] := List.drop_eq_nil_of_le h

theorem isD_bt {a : ByteArray} {k : Nat} (h : k < a.size) : digB (bt a k) = isD (a.data.toList[k]'h) := by rw [bt_get a k h, digB_isD]
theorem step_other {a b : ByteArray} {k : Nat} (h1 : k < a.size) (h2 : k < b.size) (hd : digB (bt a k) = false ∨ digB (bt b k) = false) :
    cmpS (a.data.toList.drop k) (b.data.toList.drop k) = if cI (bt a k) (bt b k) ≠ 0 then cI (bt a k) (bt b k) else cmpS (a.data.toList.drop (k + 1)) (b.data.toList.drop (k + 1)) := by
  rw [isD_bt h1, isD_bt h2] at hd
  rw [cmpS_step (drop_ne h1) (drop_ne h2), drop_cons h1, drop_cons h2, cT_other hd, bt_get a k h1, bt_get b k h2, cI_nat]
  split
  · rfl
  · rename_i h0
    have hxy : a.data.toList[k]'h1 = b.data.toList[k]'h2 := UInt8.toNat_inj.1 (c3_zero.1 (Classical.not_not.1 h0))
    have hx : isD (a.data.toList[k]'h1) = false := by
      rcases hd with h | h
      · exact h
      · rw [hxy]; exact h
    rw [(tok_other hx).2, (tok_other (hxy ▸ hx)).2]
    rfl
theorem step_both {a b : ByteArray} {k : Nat} {p q : List UInt8} (h1 : k < a.size) (h2 : k < b.size) (hd1 : digB (bt a k) = true) (hd2 : digB (bt b k) = true) (hp : p = run (a.data.toList.drop k)) (hq : q = run (b.data.toList.drop k)) :
    cmpS (a.data.toList.drop k) (b.data.toList.drop k) = (if runCode p q ≠ 0 then runCode p q else cmpS (a.data.toList.drop (k + p.length)) (b.data.toList.drop (k + p.length))) ∧ (runCode p q = 0 → k + p.length ≤ b.size) ∧ k + p.length ≤ a.size ∧ 1 ≤ p.length := by
  rw [isD_bt h1] at hd1
  rw [isD_bt h2] at hd2
  have e0 := cT_both (a := a.data.toList.drop (k + 1)) (b := b.data.toList.drop (k + 1)) hd1 hd2
  rw [← drop_cons h1, ← drop_cons h2, ← hp, ← hq] at e0
  have t1 : tlen (a.data.toList.drop k) = p.length := by rw [hp, drop_cons h1]; exact (tok_digit hd1).2
  have t2 : tlen (b.data.toList.drop k) = q.length := by rw [hq, drop_cons h2]; exact (tok_digit hd2).2
  have l1 := tlen_le (drop_ne h1)
  have l2 := tlen_le (drop_ne h2)
  have l0 := tlen_pos (a.data.toList.drop k)
  rw [t1, List.length_drop] at l1
  rw [t2, List.length_drop] at l2
  rw [t1] at l0
  have s1 : a.data.toList.length = a.size := rfl
  have s2 : b.data.toList.length = b.size := rfl
  have hlen : runCode p q = 0 → p.length = q.length := fun h => by
    have := tok_eq (drop_ne h1) (drop_ne h2) (cT_zero.1 (e0.trans h))
    rw [t1, t2] at this; exact this.1
  refine ⟨?_, fun h => by have := hlen h; omega, by omega, l0⟩
  rw [cmpS_step (drop_ne h1) (drop_ne h2), e0]
  split
  · rfl
  · rename_i h0
    have := hlen (Classical.not_not.1 h0)
    rw [t1, t2, ← this, List.drop_drop, List.drop_drop]
theorem leadDigits_is {s p : ByteArray} (w : World) (hs : s.size ≤ maxLen) (h : p.data.toList = run s.data.toList) :
    Calls Tryd.prog 28 #[.string s] w fun e w' => e = .returned (.string p) ∧ w = w' := by
  refine (leadDigits s w hs).mono ?_
  rintro e w' ⟨rfl, rfl⟩
  exact ⟨by rw [← h], rfl⟩
theorem tail_list {a : ByteArray} {k : Nat} : (a.extract k a.size).data.toList = a.data.toList.drop k := by
  rw [ext_list, List.take_of_length_le]
  rw [List.length_drop]; exact Nat.le_refl _

set_option maxHeartbeats 4000000 in
set_option maxRecDepth 100000 in
theorem nameCmp (a b : ByteArray) (w : World) (ha : a.size ≤ maxLen) (hb : b.size ≤ maxLen) :
    Calls Tryd.prog 11 #[.string a, .string b] w fun e w' => e = .returned (.int .i64 (cmpS a.data.toList b.data.toList)) ∧ Below w.heap.size w w' := by
  unfold maxLen at ha hb
  go_enter Tryd.func11, Tryd.ntmps11
  go_wp2
  go_loopw [5] (fun i wr => ∃ k : Nat, k ≤ a.size ∧ k ≤ b.size ∧ i = .int .i64 k ∧ cmpS (a.data.toList.drop k) (b.data.toList.drop k) = cmpS a.data.toList b.data.toList ∧ Below w.heap.size w wr) (fun i _ => a.size - (intOf i).toNat)
  case atStart => exact ⟨0, Nat.zero_le _, Nat.zero_le _, rfl, rfl, Below.refl _ _⟩
  case round =>
    obtain ⟨k, hka, hkb, rfl, hrel0, hbw⟩ := hrel
    have HR := Lib.hid hrel0
    clear hrel0
    by_cases h1 : k < a.size
    · by_cases h2 : k < b.size
      · have hba := bt_eq a k h1
        have hbb := bt_eq b k h2
        have i1 : (k : Int) < ↑a.size := by omega
        have i2 : (k : Int) < ↑b.size := by omega
        have i0 : (0 : Int) ≤ ↑k := by omega
        have i3 : (k : Int).toNat = k := by omega
        have both : (digB (bt a k) = true ∧ digB (bt b k) = true) ∨ (digB (bt a k) = false ∨ digB (bt b k) = false) := by
          cases digB (bt a k) <;> cases digB (bt b k) <;> simp
        rcases both with ⟨d1, d2⟩ | d
        · obtain ⟨p, hp⟩ : ∃ p : ByteArray, p.data.toList = run (a.data.toList.drop k) := ⟨⟨(run (a.data.toList.drop k)).toArray⟩, by simp⟩
          obtain ⟨q, hq⟩ : ∃ q : ByteArray, q.data.toList = run (b.data.toList.drop k) := ⟨⟨(run (b.data.toList.drop k)).toArray⟩, by simp⟩
          obtain ⟨s1, s2, s3, s4⟩ := step_both h1 h2 d1 d2 hp hq
          have s5 : k + p.size ≤ a.size := s3
          have s6 : 1 ≤ p.size := s4
          have HS := Lib.hid s1
          have H2 := Lib.hid s2
          have H3 := Lib.hid (show (a.extract k a.size).size ≤ maxLen ∧ (b.extract k b.size).size ≤ maxLen by unfold maxLen; simp only [ByteArray.size_extract]; omega)
          have L1 := Lib.hid (fun w => leadDigits_is (s := a.extract k a.size) (p := p) w H3.out.1 (by rw [tail_list]; exact hp))
          have L2 := Lib.hid (fun w => leadDigits_is (s := b.extract k b.size) (p := q) w H3.out.2 (by rw [tail_list]; exact hq))
          clear hp hq s1 s2 s3 s4
          by_cases ho : runCode p.data.toList q.data.toList = 0
          · have hob : (runCode p.data.toList q.data.toList != 0) = false := by simpa using ho
            have H4 := Lib.hid (H2.out ho)
            have HO := Lib.hid ho
            clear ho
            have s7 : k + p.size ≤ b.size := H4.out
            go_wp2
            go_quiet ((go_at_call 26; exact Calls.quiet_of_same (cmpByte _ _ _)))
            clear i3
            go_wp2_with fail
            refine (digitC _ _).mono ?_
            rintro e w' ⟨rfl, rfl⟩
            go_wp2_with fail
            refine (digitC _ _).mono ?_
            rintro e w' ⟨rfl, rfl⟩
            go_wp2_with fail
            refine (L1.out _).mono ?_
            rintro e w' ⟨rfl, rfl⟩
            go_wp2_with fail
            refine (L2.out _).mono ?_
            rintro e w' ⟨rfl, rfl⟩
            go_wp2_with fail
            refine (cmpRuns _ _ _).mono ?_
            rintro e w' ⟨rfl, rfl⟩
            go_wp2_with fail
            go_roundw
            case rel => exact ⟨k + p.size, s5, s7, by go_num, by rw [← HR.out, HS.out, if_neg (by simp [HO.out])]; rfl, below_drewN hbw _⟩
            case measure => simp [intOf]; omega
          · have hob : (runCode p.data.toList q.data.toList != 0) = true := by simpa using ho
            have HO := Lib.hid ho
            clear ho
            go_wp2
            go_quiet ((go_at_call 26; exact Calls.quiet_of_same (cmpByte _ _ _)))
            clear i3
            go_wp2_with fail
            refine (digitC _ _).mono ?_
            rintro e w' ⟨rfl, rfl⟩
            go_wp2_with fail
            refine (digitC _ _).mono ?_
            rintro e w' ⟨rfl, rfl⟩
            go_wp2_with fail
            refine (L1.out _).mono ?_
            rintro e w' ⟨rfl, rfl⟩
            go_wp2_with fail
            refine (L2.out _).mono ?_
            rintro e w' ⟨rfl, rfl⟩
            go_wp2_with fail
            refine (cmpRuns _ _ _).mono ?_
            rintro e w' ⟨rfl, rfl⟩
            go_wp2_with fail
            go_ret
            exact ⟨ret_int (by rw [← HR.out, HS.out, if_pos HO.out]), below_drewN hbw _⟩
        · have HS := Lib.hid (step_other h1 h2 d)
          have ds : (digB (bt a k) = false) ∨ (digB (bt a k) = true ∧ digB (bt b k) = false) := by
            cases h : digB (bt a k)
            · exact Or.inl rfl
            · exact Or.inr ⟨rfl, by rw [h] at d; simpa using d⟩
          clear d
          by_cases ho : cI (bt a k) (bt b k) = 0
          · have hob : (cI (bt a k) (bt b k) != 0) = false := by simpa using ho
            have HO := Lib.hid ho
            clear ho
            rcases ds with d1 | ⟨d1, d2⟩
            all_goals
              go_wp2
              go_quiet ((go_at_call 26; exact Calls.quiet_of_same (cmpByte _ _ _)))
              clear i3
              go_wp2_with (go_at_call 27; refine (digitC _ _).mono ?_; rintro e w' ⟨rfl, rfl⟩)
              go_roundw
              case rel => exact ⟨k + 1, by omega, by omega, by go_num, by rw [← HR.out, HS.out, if_neg (by simp [HO.out])], below_drewN hbw _⟩
              case measure => simp [intOf]; omega
          · have hob : (cI (bt a k) (bt b k) != 0) = true := by simpa using ho
            have HO := Lib.hid ho
            clear ho
            rcases ds with d1 | ⟨d1, d2⟩
            all_goals
              go_wp2
              go_quiet ((go_at_call 26; exact Calls.quiet_of_same (cmpByte _ _ _)))
              clear i3
              go_wp2_with (go_at_call 27; refine (digitC _ _).mono ?_; rintro e w' ⟨rfl, rfl⟩)
              go_ret
              exact ⟨ret_int (by rw [← HR.out, HS.out, if_pos HO.out]), below_drewN hbw _⟩
      · obtain rfl : k = b.size := by omega
        have HN := Lib.hid (show cmpS (a.data.toList.drop b.size) (b.data.toList.drop b.size) = cI a.size b.size by
          rw [drop_all (Nat.le_refl b.size), cmpS_nil' (drop_ne h1)]; unfold cI; rw [if_neg (by omega), if_pos (by omega)])
        go_wp2_with fail
        refine (cmpInt _ _ _).mono ?_
        rintro e w' ⟨rfl, rfl⟩
        go_wp2_with fail
        go_ret
        exact ⟨ret_int (by rw [← HR.out, HN.out]), hbw⟩
    · obtain rfl : k = a.size := by omega
      have HN := Lib.hid (show cmpS (a.data.toList.drop a.size) (b.data.toList.drop a.size) = cI a.size b.size by
        rw [drop_all (Nat.le_refl a.size), cmpS_nil]
        by_cases hz : a.size = b.size
        · rw [hz, drop_all (Nat.le_refl b.size), if_pos rfl]; unfold cI; rw [if_neg (by omega), if_neg (by omega)]
        · rw [if_neg (drop_ne (by omega))]; unfold cI; rw [if_pos (by omega)])
      go_wp2_with fail
      refine (cmpInt _ _ _).mono ?_
      rintro e w' ⟨rfl, rfl⟩
      go_wp2_with fail
      go_ret
      exact ⟨ret_int (by rw [← HR.out, HN.out]), hbw⟩

end Go.Proofs.YtmicjadbahicfaaDoor
