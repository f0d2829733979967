/- GlobStars answers true. -/
import Derived.Test.YtacmfhopelkbbaaAl
import Derived.Test.YtacmfhopelkbbaaGx
namespace Go.Proofs.Ytacmfhopelkbbaa
open Go.RowKit

theorem list_app (x y : ByteArray) : (x ++ y).data.toList = x.data.toList ++ y.data.toList := by rw [ByteArray.data_append]; simp
theorem list_mk (l : List UInt8) : (⟨l.toArray⟩ : ByteArray).data.toList = l := by simp
theorem size_mk (l : List UInt8) : (⟨l.toArray⟩ : ByteArray).size = l.length := by simp [ByteArray.size]
theorem size_app (x y : ByteArray) : (x ++ y).size = x.size + y.size := by
  have := congrArg List.length (list_app x y)
  rw [List.length_append] at this
  exact this
theorem ext_pre (s a : ByteArray) (_ : a.size ≤ s.size) : ((s.extract 0 a.size).toList == a.toList) = a.data.toList.isPrefixOf s.data.toList := by
  have h1 : (s.extract 0 a.size).toList = s.data.toList.take a.size := by
    rw [ByteArray.toList_eq]; simp [ByteArray.data_extract]
  rw [h1, ByteArray.toList_eq, Bool.eq_iff_iff, List.isPrefixOf_iff_prefix, List.prefix_iff_eq_take]
  simp only [beq_iff_eq]
  exact eq_comm
theorem ext_suf (s b : ByteArray) : ((s.extract (s.size - b.size) s.size).toList == b.toList) = decide (s.data.toList.drop (s.data.toList.length - b.data.toList.length) = b.data.toList) := by
  have h1 : (s.extract (s.size - b.size) s.size).toList = s.data.toList.drop (s.size - b.size) := by
    rw [ByteArray.toList_eq, rest_extract]; rfl
  rw [h1, ByteArray.toList_eq, Bool.eq_iff_iff]
  simp only [beq_iff_eq, decide_eq_true_eq]
  exact Iff.rfl
/-- The four calls that the law makes. -/
structure StarCalls (a b s x y : ByteArray) (bg bt : Bool) : Prop where
  m1 : ∀ W, Calls Try.prog 14 #[.string ⟨#[42]⟩, .string s] W fun e w' => e = .returned (.bool true) ∧ Below W.heap.size W w'
  m2 : ∀ W, Calls Try.prog 14 #[.string ⟨#[63]⟩, .string s] W fun e w' => e = .returned (.bool ((s.size : Int) == 1)) ∧ Below W.heap.size W w'
  m3 : ∀ W, Calls Try.prog 14 #[.string (x ++ ⟨#[42]⟩), .string s] W fun e w' => e = .returned (.bool bg) ∧ Below W.heap.size W w'
  m4 : ∀ W, Calls Try.prog 14 #[.string ((x ++ ⟨#[42]⟩) ++ y), .string s] W fun e w' => e = .returned (.bool bt) ∧ Below W.heap.size W w'
  qa : ∀ W, Calls Try.prog 13 #[.string a] W fun e w' => e = .returned (.string x) ∧ Below W.heap.size W w'
  qb : ∀ W, Calls Try.prog 13 #[.string b] W fun e w' => e = .returned (.string y) ∧ Below W.heap.size W w'
theorem starCalls (a b s : ByteArray) (hab : a.size + b.size ≤ 100) (hs : s.size ≤ 5000) {bg bt : Bool} (h3 : bg = a.data.toList.isPrefixOf s.data.toList)
    (h4 : bt = (a.data.toList.isPrefixOf s.data.toList && decide (a.data.toList.length + b.data.toList.length ≤ s.data.toList.length) && decide (s.data.toList.drop (s.data.toList.length - b.data.toList.length) = b.data.toList))) : ∃ x y, StarCalls a b s x y bg bt ∧ x.size ≤ 200 ∧ y.size ≤ 200 := by
  have la := quoteG_len a.data.toList
  have lb := quoteG_len b.data.toList
  have ea : a.data.toList.length = a.size := rfl
  have eb : b.data.toList.length = b.size := rfl
  have hsm : s.size ≤ maxLen := by unfold maxLen; omega
  refine ⟨⟨(quoteG a.data.toList).toArray⟩, ⟨(quoteG b.data.toList).toArray⟩, ?_, by rw [size_mk]; omega, by rw [size_mk]; omega⟩
  refine ⟨fun W => (match_any _ _ W hsm).mono ?_, fun W => (match_any _ _ W hsm).mono ?_, fun W => (match_any _ _ W hsm).mono ?_, fun W => (match_any _ _ W hsm).mono ?_, fun W => quote_any a W (by omega), fun W => quote_any b W (by omega)⟩
  · rintro e w' ⟨rfl, hb⟩; exact ⟨ret_bool (match_star _), hb⟩
  · rintro e w' ⟨rfl, hb⟩
    refine ⟨ret_bool ?_, hb⟩
    rw [match_one, Bool.eq_iff_iff]
    simp only [decide_eq_true_eq, beq_iff_eq]
    have : s.data.toList.length = s.size := rfl
    omega
  · rintro e w' ⟨rfl, hb⟩
    refine ⟨ret_bool ?_, hb⟩
    rw [list_app, list_mk]
    show matchG (quoteG a.data.toList ++ [42]) _ = _
    rw [match_pre (by omega), h3]
  · rintro e w' ⟨rfl, hb⟩
    refine ⟨ret_bool ?_, hb⟩
    rw [list_app, list_app, list_mk, list_mk]
    show matchG ((quoteG a.data.toList ++ [42]) ++ quoteG b.data.toList) _ = _
    rw [match_both (by omega), h4]

set_option maxHeartbeats 1000000 in
set_option maxRecDepth 100000 in
theorem globStars_walk (a b s : ByteArray) (_ : a.size ≤ maxLen) (_ : b.size ≤ maxLen) (_ : s.size ≤ maxLen) (za : a.size ≤ reachBytes) (zb : b.size ≤ reachBytes) (w : World) :
    Calls Try.prog 6 #[.string a, .string b, .string s] w fun e w' => e = .returned (.bool true) ∧ Below w.heap.size w w' := by
  have hz : reachBytes = 140737488351232 := rfl
  rw [hz] at za zb
  by_cases hbig : 100 < a.size + b.size ∨ 5000 < s.size
  · rcases hbig with h1 | h1
    · have h1' : (100 : Int) < (a.size : Int) + (b.size : Int) := by omega
      clear hz h1
      go_enter Try.func6, Try.ntmps6
      go_wp2_with fail
      refine (alive_any _).mono ?_
      rintro e w1 ⟨rfl, b1⟩
      go_wp2
      go_ret
      exact ⟨rfl, b1⟩
    · by_cases h2 : 100 < a.size + b.size
      · have h2' : (100 : Int) < (a.size : Int) + (b.size : Int) := by omega
        clear hz h1 h2
        go_enter Try.func6, Try.ntmps6
        go_wp2_with fail
        refine (alive_any _).mono ?_
        rintro e w1 ⟨rfl, b1⟩
        go_wp2
        go_ret
        exact ⟨rfl, b1⟩
      · have h2' : ¬ (100 : Int) < (a.size : Int) + (b.size : Int) := by omega
        have h1' : (5000 : Int) < (s.size : Int) := by omega
        clear hz h1 h2
        go_enter Try.func6, Try.ntmps6
        go_wp2_with fail
        refine (alive_any _).mono ?_
        rintro e w1 ⟨rfl, b1⟩
        go_wp2
        go_ret
        exact ⟨rfl, b1⟩
  · have hab : a.size + b.size ≤ 100 := by omega
    have hs5 : s.size ≤ 5000 := by omega
    have t1 : ¬ (100 : Int) < (a.size : Int) + (b.size : Int) := by omega
    have t2 : ¬ (5000 : Int) < (s.size : Int) := by omega
    clear hbig hz za zb
    have ea : a.data.toList.length = a.size := rfl
    have eb : b.data.toList.length = b.size := rfl
    have es : s.data.toList.length = s.size := rfl
    by_cases hl : a.size ≤ s.size
    · have hl' : (a.size : Int) ≤ (s.size : Int) := by omega
      have hx := ext_pre s a hl
      cases hp : a.data.toList.isPrefixOf s.data.toList
      · obtain ⟨x, y, hcx, hxs, hys⟩ := starCalls a b s hab hs5 (bg := false) (bt := false) hp.symm (by rw [hp]; rfl)
        have HC := Lib.hid hcx
        clear hcx
        rw [hp] at hx
        clear hp ea eb es
        go_enter Try.func6, Try.ntmps6
        go_wp2_with fail
        refine (alive_any _).mono ?_
        rintro e w1 ⟨rfl, b1⟩
        go_wp2_with fail
        refine (HC.out.m1 _).mono ?_
        rintro e w2 ⟨rfl, b2⟩
        go_wp2_with fail
        refine (HC.out.m2 _).mono ?_
        rintro e w3 ⟨rfl, b3⟩
        go_wp2_with fail
        refine (HC.out.qa _).mono ?_
        rintro e w4 ⟨rfl, b4⟩
        go_wp2_with fail
        refine (HC.out.m3 _).mono ?_
        rintro e w5 ⟨rfl, b5⟩
        go_wp2_with fail
        refine (HC.out.qa _).mono ?_
        rintro e w6 ⟨rfl, b6⟩
        go_wp2_with fail
        refine (HC.out.qb _).mono ?_
        rintro e w7 ⟨rfl, b7⟩
        go_wp2_with fail
        refine (HC.out.m4 _).mono ?_
        rintro e w8 ⟨rfl, b8⟩
        go_wp2
        go_ret
        refine ⟨rfl, ?_⟩
        have c2 := b1.trans (b2.mono b1.size)
        have c3 := c2.trans (b3.mono c2.size)
        have c4 := c3.trans (b4.mono c3.size)
        have c5 := c4.trans (b5.mono c4.size)
        have c6 := c5.trans (b6.mono c5.size)
        have c7 := c6.trans (b7.mono c6.size)
        exact c7.trans (b8.mono c7.size)
      · rw [hp] at hx
        by_cases hl2 : a.size + b.size ≤ s.size
        · have hl2' : (a.size : Int) + (b.size : Int) ≤ (s.size : Int) := by omega
          have hy := ext_suf s b
          have hm1 : ((s.size : Int) - (b.size : Int)).toNat = s.size - b.size := by omega
          have hm2 : (b.size : Int) ≤ (s.size : Int) := by omega
          cases hq : decide (s.data.toList.drop (s.data.toList.length - b.data.toList.length) = b.data.toList)
          · obtain ⟨x, y, hcx, hxs, hys⟩ := starCalls a b s hab hs5 (bg := true) (bt := false) hp.symm (by rw [hp, hq]; simp)
            have HC := Lib.hid hcx
            clear hcx
            rw [hq] at hy
            clear hp ea eb es hq
            go_enter Try.func6, Try.ntmps6
            go_wp2_with fail
            refine (alive_any _).mono ?_
            rintro e w1 ⟨rfl, b1⟩
            go_wp2_with fail
            refine (HC.out.m1 _).mono ?_
            rintro e w2 ⟨rfl, b2⟩
            go_wp2_with fail
            refine (HC.out.m2 _).mono ?_
            rintro e w3 ⟨rfl, b3⟩
            go_wp2_with fail
            refine (HC.out.qa _).mono ?_
            rintro e w4 ⟨rfl, b4⟩
            go_wp2_with fail
            refine (HC.out.m3 _).mono ?_
            rintro e w5 ⟨rfl, b5⟩
            go_wp2_with fail
            refine (HC.out.qa _).mono ?_
            rintro e w6 ⟨rfl, b6⟩
            go_wp2_with fail
            refine (HC.out.qb _).mono ?_
            rintro e w7 ⟨rfl, b7⟩
            go_wp2_with fail
            refine (HC.out.m4 _).mono ?_
            rintro e w8 ⟨rfl, b8⟩
            go_wp2
            go_ret
            refine ⟨rfl, ?_⟩
            have c2 := b1.trans (b2.mono b1.size)
            have c3 := c2.trans (b3.mono c2.size)
            have c4 := c3.trans (b4.mono c3.size)
            have c5 := c4.trans (b5.mono c4.size)
            have c6 := c5.trans (b6.mono c5.size)
            have c7 := c6.trans (b7.mono c6.size)
            exact c7.trans (b8.mono c7.size)
          · obtain ⟨x, y, hcx, hxs, hys⟩ := starCalls a b s hab hs5 (bg := true) (bt := true) hp.symm (by rw [hp, hq, ea, eb, es, decide_eq_true hl2]; rfl)
            have HC := Lib.hid hcx
            clear hcx
            rw [hq] at hy
            clear hp ea eb es hq
            go_enter Try.func6, Try.ntmps6
            go_wp2_with fail
            refine (alive_any _).mono ?_
            rintro e w1 ⟨rfl, b1⟩
            go_wp2_with fail
            refine (HC.out.m1 _).mono ?_
            rintro e w2 ⟨rfl, b2⟩
            go_wp2_with fail
            refine (HC.out.m2 _).mono ?_
            rintro e w3 ⟨rfl, b3⟩
            go_wp2_with fail
            refine (HC.out.qa _).mono ?_
            rintro e w4 ⟨rfl, b4⟩
            go_wp2_with fail
            refine (HC.out.m3 _).mono ?_
            rintro e w5 ⟨rfl, b5⟩
            go_wp2_with fail
            refine (HC.out.qa _).mono ?_
            rintro e w6 ⟨rfl, b6⟩
            go_wp2_with fail
            refine (HC.out.qb _).mono ?_
            rintro e w7 ⟨rfl, b7⟩
            go_wp2_with fail
            refine (HC.out.m4 _).mono ?_
            rintro e w8 ⟨rfl, b8⟩
            go_wp2
            go_ret
            refine ⟨rfl, ?_⟩
            have c2 := b1.trans (b2.mono b1.size)
            have c3 := c2.trans (b3.mono c2.size)
            have c4 := c3.trans (b4.mono c3.size)
            have c5 := c4.trans (b5.mono c4.size)
            have c6 := c5.trans (b6.mono c5.size)
            have c7 := c6.trans (b7.mono c6.size)
            exact c7.trans (b8.mono c7.size)
        · have hl2' : ¬ (a.size : Int) + (b.size : Int) ≤ (s.size : Int) := by omega
          obtain ⟨x, y, hcx, hxs, hys⟩ := starCalls a b s hab hs5 (bg := true) (bt := false) hp.symm (by rw [hp, ea, eb, es, decide_eq_false hl2]; rfl)
          have HC := Lib.hid hcx
          clear hcx
          clear hp ea eb es
          go_enter Try.func6, Try.ntmps6
          go_wp2_with fail
          refine (alive_any _).mono ?_
          rintro e w1 ⟨rfl, b1⟩
          go_wp2_with fail
          refine (HC.out.m1 _).mono ?_
          rintro e w2 ⟨rfl, b2⟩
          go_wp2_with fail
          refine (HC.out.m2 _).mono ?_
          rintro e w3 ⟨rfl, b3⟩
          go_wp2_with fail
          refine (HC.out.qa _).mono ?_
          rintro e w4 ⟨rfl, b4⟩
          go_wp2_with fail
          refine (HC.out.m3 _).mono ?_
          rintro e w5 ⟨rfl, b5⟩
          go_wp2_with fail
          refine (HC.out.qa _).mono ?_
          rintro e w6 ⟨rfl, b6⟩
          go_wp2_with fail
          refine (HC.out.qb _).mono ?_
          rintro e w7 ⟨rfl, b7⟩
          go_wp2_with fail
          refine (HC.out.m4 _).mono ?_
          rintro e w8 ⟨rfl, b8⟩
          go_wp2
          go_ret
          refine ⟨rfl, ?_⟩
          have c2 := b1.trans (b2.mono b1.size)
          have c3 := c2.trans (b3.mono c2.size)
          have c4 := c3.trans (b4.mono c3.size)
          have c5 := c4.trans (b5.mono c4.size)
          have c6 := c5.trans (b6.mono c5.size)
          have c7 := c6.trans (b7.mono c6.size)
          exact c7.trans (b8.mono c7.size)
    · have hl' : ¬ (a.size : Int) ≤ (s.size : Int) := by omega
      have hp : a.data.toList.isPrefixOf s.data.toList = false := by
        rw [Bool.eq_false_iff]; intro h
        have := (List.isPrefixOf_iff_prefix.1 h).length_le
        omega
      obtain ⟨x, y, hcx, hxs, hys⟩ := starCalls a b s hab hs5 (bg := false) (bt := false) hp.symm (by rw [hp]; rfl)
      have HC := Lib.hid hcx
      clear hcx
      clear hp ea eb es
      go_enter Try.func6, Try.ntmps6
      go_wp2_with fail
      refine (alive_any _).mono ?_
      rintro e w1 ⟨rfl, b1⟩
      go_wp2_with fail
      refine (HC.out.m1 _).mono ?_
      rintro e w2 ⟨rfl, b2⟩
      go_wp2_with fail
      refine (HC.out.m2 _).mono ?_
      rintro e w3 ⟨rfl, b3⟩
      go_wp2_with fail
      refine (HC.out.qa _).mono ?_
      rintro e w4 ⟨rfl, b4⟩
      go_wp2_with fail
      refine (HC.out.m3 _).mono ?_
      rintro e w5 ⟨rfl, b5⟩
      go_wp2_with fail
      refine (HC.out.qa _).mono ?_
      rintro e w6 ⟨rfl, b6⟩
      go_wp2_with fail
      refine (HC.out.qb _).mono ?_
      rintro e w7 ⟨rfl, b7⟩
      go_wp2_with fail
      refine (HC.out.m4 _).mono ?_
      rintro e w8 ⟨rfl, b8⟩
      go_wp2
      go_ret
      refine ⟨rfl, ?_⟩
      have c2 := b1.trans (b2.mono b1.size)
      have c3 := c2.trans (b3.mono c2.size)
      have c4 := c3.trans (b4.mono c3.size)
      have c5 := c4.trans (b5.mono c4.size)
      have c6 := c5.trans (b6.mono c5.size)
      have c7 := c6.trans (b7.mono c6.size)
      exact c7.trans (b8.mono c7.size)
end Go.Proofs.Ytacmfhopelkbbaa
