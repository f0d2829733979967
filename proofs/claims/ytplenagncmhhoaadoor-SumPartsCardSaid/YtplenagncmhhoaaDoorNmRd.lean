/- name.Read answers the name that is written so, or none. -/
import Derived.Test.YtplenagncmhhoaaDoorNmDe
namespace Go.Proofs.YtplenagncmhhoaaDoor
open Go.RowKit

theorem readO_dec {s : ByteArray} (h : decAt s 0 = none) : readO s = none := by simp [readO, h]
theorem readO_wrong {s : ByteArray} {l : List UInt8} (h : decAt s 0 = some l) (hr : rightB l.length = false) : readO s = none := by simp [readO, h, hr]
theorem readO_other {s : ByteArray} {l : List UInt8} (h : decAt s 0 = some l) (hr : writeL ⟨l.toArray⟩ ≠ s.data.toList) : readO s = none := by simp [readO, h, hr]
theorem readO_yes {s : ByteArray} {l : List UInt8} (h : decAt s 0 = some l) (hr : rightB l.length = true) (hw : writeL ⟨l.toArray⟩ = s.data.toList) : readO s = some l := by simp [readO, h, hr, hw]
theorem read_none {s : ByteArray} (h : readO s = none) : readS s = [] ∧ readB s = false := by simp [readS, readB, h]
theorem read_some {s : ByteArray} {l : List UInt8} (h : readO s = some l) : readS s = l ∧ readB s = true := by simp [readS, readB, h]
theorem dec_none {s : ByteArray} (h : decAt s 0 = none) : decS s = [] ∧ decB s = false := by simp [decS, decB, h]
theorem dec_some {s : ByteArray} {l : List UInt8} (h : decAt s 0 = some l) : decS s = l ∧ decB s = true := by simp [decS, decB, h]
theorem size_mk (l : List UInt8) : (⟨l.toArray⟩ : ByteArray).size = l.length := by simp [ByteArray.size]

theorem str_ne {v s : ByteArray} (h : v ≠ s) : (v.toList == s.toList) = false := by
  rw [Lib.toList_data, Lib.toList_data, beq_eq_false_iff_ne]
  intro e; apply h; cases v; cases s; simp at e; simp [e]

/-- decode and Write, at one text, in names of their own -/
theorem decode36_some {s : ByteArray} {u : ByteArray} (w : World) (hs : s.size ≤ 140737488355328) (h : decAt s 0 = some u.data.toList) :
    Calls Tryd.prog 113 #[.string s] w fun e w' => e = .returned (.tuple #[.string u, .bool true]) ∧ Below w.heap.size w w' := by
  refine (decode36 s w hs).mono ?_
  rintro e w' ⟨rfl, hb⟩
  exact ⟨by rw [(dec_some h).1, (dec_some h).2], hb⟩
theorem decode36_none {s : ByteArray} (w : World) (hs : s.size ≤ 140737488355328) (h : decAt s 0 = none) :
    Calls Tryd.prog 113 #[.string s] w fun e w' => e = .returned (.tuple #[.string ⟨#[]⟩, .bool false]) ∧ Below w.heap.size w w' := by
  refine (decode36 s w hs).mono ?_
  rintro e w' ⟨rfl, hb⟩
  exact ⟨by rw [(dec_none h).1, (dec_none h).2], hb⟩
theorem write16_is {s v : ByteArray} (w : World) (hs : s.size ≤ maxLen) (h : writeL s = v.data.toList) :
    Calls Tryd.prog 40 #[.string s] w fun e w' => e = .returned (.string v) ∧ Below w.heap.size w w' := by
  refine (write16 s w hs).mono ?_
  rintro e w' ⟨rfl, hb⟩
  exact ⟨by rw [h], hb⟩

set_option maxHeartbeats 2000000 in
set_option maxRecDepth 100000 in
theorem read21 (s : ByteArray) (w : World) (hs : s.size ≤ maxLen) :
    Calls Tryd.prog 101 #[.string s] w fun e w' => e = .returned (.tuple #[.string ⟨(readS s).toArray⟩, .bool (readB s)]) ∧ Below w.heap.size w w' := by
  unfold maxLen at hs
  by_cases h240 : 240 < s.size
  · have HN := Lib.hid (read_none (readO_long h240))
    go_enter Tryd.func101, Tryd.ntmps101
    go_wp2
    go_ret2
    exact ⟨ret_tup (a := []) HN.out.1.symm HN.out.2.symm, Below.refl _ _⟩
  · have hle : s.size ≤ 240 := by omega
    clear h240
    cases hd : decAt s 0 with
    | none =>
      have HN := Lib.hid (read_none (readO_dec hd))
      have HD := Lib.hid hd
      clear hd
      go_enter Tryd.func101, Tryd.ntmps101
      go_wp2_with fail
      refine (decode36_none _ (by omega) HD.out).mono ?_
      rintro e w1 ⟨rfl, b1⟩
      go_wp2_with fail
      go_ret2
      exact ⟨ret_tup (a := []) HN.out.1.symm HN.out.2.symm, b1⟩
    | some l =>
      obtain ⟨u, hu⟩ : ∃ u : ByteArray, u.data.toList = l := ⟨⟨l.toArray⟩, by simp⟩
      have hus : u.size = l.length := by rw [← hu]; rfl
      have hul : (⟨l.toArray⟩ : ByteArray) = u := by rw [← hu]
      have hlen : u.size ≤ s.size := by rw [hus]; exact dec_length _ _ hd
      have HD := Lib.hid (hd.trans (by rw [hu] : some l = some u.data.toList))
      cases hr : rightB u.size
      · have HN := Lib.hid (read_none (readO_wrong hd (by rw [← hus]; exact hr)))
        clear hd hu hul hus
        go_enter Tryd.func101, Tryd.ntmps101
        go_wp2_with fail
        refine (decode36_some _ (by omega) HD.out).mono ?_
        rintro e w1 ⟨rfl, b1⟩
        go_wp2_with fail
        refine (right18 _ _ (by unfold maxLen; omega)).mono ?_
        rintro e w2 ⟨rfl, rfl⟩
        go_wp2_with fail
        go_ret2
        exact ⟨ret_tup (a := []) HN.out.1.symm HN.out.2.symm, b1⟩
      · obtain ⟨v, hv⟩ : ∃ v : ByteArray, writeL u = v.data.toList := ⟨⟨(writeL u).toArray⟩, by simp⟩
        have HV := Lib.hid hv
        by_cases hvs : v = s
        · subst hvs
          have HN := Lib.hid (read_some (readO_yes hd (by rw [← hus]; exact hr) (by rw [hul]; exact hv)))
          have HU := Lib.hid hu
          clear hd hu hul hus hv
          go_enter Tryd.func101, Tryd.ntmps101
          go_wp2_with fail
          refine (decode36_some _ (by omega) HD.out).mono ?_
          rintro e w1 ⟨rfl, b1⟩
          go_wp2_with fail
          refine (right18 _ _ (by unfold maxLen; omega)).mono ?_
          rintro e w2 ⟨rfl, rfl⟩
          go_wp2_with fail
          refine (write16_is _ (by unfold maxLen; omega) HV.out).mono ?_
          rintro e w3 ⟨rfl, b3⟩
          go_wp2_with fail
          go_ret2
          refine ⟨?_, b1.trans (b3.mono b1.size)⟩
          rw [HN.out.1, HN.out.2, ← HU.out]
          rfl
        · have HN := Lib.hid (read_none (readO_other hd (by rw [hul, hv]; intro h; exact hvs (by cases v; cases s; simp at h; simp [h]))))
          have hne : (v.toList == s.toList) = false := str_ne hvs
          clear hd hu hul hus hv
          go_enter Tryd.func101, Tryd.ntmps101
          go_wp2_with fail
          refine (decode36_some _ (by omega) HD.out).mono ?_
          rintro e w1 ⟨rfl, b1⟩
          go_wp2_with fail
          refine (right18 _ _ (by unfold maxLen; omega)).mono ?_
          rintro e w2 ⟨rfl, rfl⟩
          go_wp2_with fail
          refine (write16_is _ (by unfold maxLen; omega) HV.out).mono ?_
          rintro e w3 ⟨rfl, b3⟩
          go_wp2_with fail
          go_ret2
          exact ⟨ret_tup (a := []) HN.out.1.symm HN.out.2.symm, b1.trans (b3.mono b1.size)⟩

end Go.Proofs.YtplenagncmhhoaaDoor
