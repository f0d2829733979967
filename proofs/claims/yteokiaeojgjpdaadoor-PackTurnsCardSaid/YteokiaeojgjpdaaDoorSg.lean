/- Plain facts: a record with a byte turned is no record of the same payload; bytes held against each other, whatever they are. -/
import Derived.Test.YteokiaeojgjpdaaDoorBt
import Derived.Test.YteokiaeojgjpdaaDoorPc
namespace Go.Proofs.YteokiaeojgjpdaaDoor
open Go.RowKit

theorem le4_of4 (a b c d : UInt8) : le4 (a.toNat + 256 * b.toNat + 65536 * c.toNat + 16777216 * d.toNat) = [a, b, c, d] := by
  have ha := UInt8.toNat_lt a
  have hb := UInt8.toNat_lt b
  have hc := UInt8.toNat_lt c
  have hd := UInt8.toNat_lt d
  have e : ∀ (x : UInt8) (n : Nat), n = x.toNat → UInt8.ofNat n = x := fun x n h => by subst h; exact UInt8.ofNat_toNat
  unfold le4
  rw [e a _ (by omega), e b _ (by omega), e c _ (by omega), e d _ (by omega)]
theorem four_of {L : List UInt8} (h : 4 ≤ L.length) : L.take 4 = le4 (wordL L) := by
  match L, h with
  | a :: b :: c :: d :: r, _ => show [a, b, c, d] = le4 (a.toNat + 256 * b.toNat + 65536 * c.toNat + 16777216 * d.toNat); rw [le4_of4]
  | [], h => simp at h
  | [_], h => simp at h
  | [_, _], h => simp at h
  | [_, _, _], h => simp at h
/-- What is split whole as a payload is its record. -/
theorem splitL_whole {L p : List UInt8} {k : Nat} (h : splitL L = some (p, k)) (hl : L.length = p.length + 8) : L = recL p := by
  obtain ⟨h1, h2, h3, h4, h5, h6, h7⟩ := splitL_bd h
  have e1 : L.take 4 = le4 p.length := by rw [four_of (by omega), ← h5, h4]
  have e2 : (L.drop 4).take 4 = le4 (sumL p) := by rw [four_of (by rw [List.length_drop]; omega), h6]
  have e3 : L.drop 8 = p := by
    rw [h1, List.take_of_length_le (by rw [List.length_drop]; omega)]
  unfold recL
  rw [← e1, ← e2]
  conv => rhs; rhs; rw [← e3]
  rw [List.append_assoc, show L.drop 8 = (L.drop 4).drop 4 by rw [List.drop_drop], List.take_append_drop, List.take_append_drop]
/-- A byte turned is told: no record, or of another payload. -/
theorem splitL_turn {p q : List UInt8} {i k : Nat} {z to : UInt8} (hz : (recL p)[i]? = some z) (hne : z ≠ to) (h : splitL ((recL p).set i to) = some (q, k)) : q ≠ p := by
  rintro rfl
  have hl : ((recL q).set i to).length = q.length + 8 := by rw [List.length_set, recL_len]
  have e := splitL_whole h hl
  have hi := (List.getElem?_eq_some_iff.1 hz).1
  have : ((recL q).set i to)[i]? = some to := by rw [List.getElem?_set_self hi]
  rw [e, hz] at this
  exact hne (Option.some.inj this)
set_option maxHeartbeats 1000000 in
set_option maxRecDepth 100000 in
theorem sameb_any {w : World} {A B : Option Addr} {n m c d : Nat} {xs ys : List UInt8} (hx : BytesAt w A n xs) (hy : BytesAt w B m ys) (hn : n ≤ maxLen) (hm : m ≤ maxLen) :
    Calls Tryd.prog 15 #[.slice A n c, .slice B m d] w fun e w' => e = .returned (.bool (decide (xs = ys))) ∧ Below w.heap.size w w' := by
  obtain ⟨q, hq⟩ : ∃ q, q = decide (xs = ys) := ⟨_, rfl⟩
  rw [← hq]
  have hl := hx.1
  have hl2 := hy.1
  unfold maxLen at hn hm
  by_cases hnm : n = m
  · subst hnm
    go_enter Tryd.func15, Tryd.ntmps15
    go_wp2_with fail
    go_loopw [5] (fun i wr => ∃ j : Nat, j ≤ n ∧ i = .int .i64 (j : Nat) ∧ xs.take j = ys.take j ∧ Below w.heap.size w wr) (fun i _ => n - (intOf i).toNat)
    case atStart => exact ⟨0, Nat.zero_le _, rfl, rfl, Below.refl _ _⟩
    case round =>
      obtain ⟨j, hj, rfl, ht, hb⟩ := hrel
      by_cases hlt : j < n
      · have hlt' : (j : Int) < (n : Int) := by omega
        have hj0 : (0 : Int) ≤ (j : Int) := by omega
        obtain ⟨b1, o1, rfl, hb1, hc1⟩ := hx.2 (by omega)
        obtain ⟨b2, o2, rfl, hb2, hc2⟩ := hy.2 (by omega)
        obtain ⟨z, hz⟩ : ∃ z, xs[j]? = some z := ⟨xs[j]'(by omega), List.getElem?_eq_getElem _⟩
        obtain ⟨y, hyz⟩ : ∃ y, ys[j]? = some y := ⟨ys[j]'(by omega), List.getElem?_eq_getElem _⟩
        have y1 : wr.cell? ⟨b1, o1 + j, none⟩ = some (.int .u8 (z.toNat : Nat)) := by rw [hb.cell (p := ⟨b1, o1 + j, none⟩) hb1]; exact hc1 j z hz
        have y2 : wr.cell? ⟨b2, o2 + j, none⟩ = some (.int .u8 (y.toNat : Nat)) := by rw [hb.cell (p := ⟨b2, o2 + j, none⟩) hb2]; exact hc2 j y hyz
        have hb' := Lib.hid hb
        by_cases hzy : z = y
        · subst hzy
          have HT := Lib.hid (show xs.take (j + 1) = ys.take (j + 1) by rw [List.take_add_one, List.take_add_one, hz, hyz, ht])
          clear hc1 hc2 hz hyz ht hb
          go_wp2
          go_quiet (fail)
          go_wp2
          go_roundw
          case rel => exact ⟨j + 1, by omega, by go_num, HT.out, ⟨hb'.out.os, hb'.out.tape, hb'.out.output, hb'.out.size, hb'.out.block⟩⟩
          case measure => simp [intOf]; omega
        · have hne : ¬ (z.toNat : Int) = (y.toNat : Int) := fun e => hzy (UInt8.toNat_inj.1 (by omega))
          have HD := Lib.hid (show decide (xs = ys) = false by
            rw [decide_eq_false_iff_not]
            rintro rfl
            rw [hz] at hyz
            exact hzy (Option.some.inj hyz))
          clear hc1 hc2 hz hyz ht hb
          go_wp2
          go_quiet (fail)
          go_wp2
          go_ret
          exact ⟨congrArg (fun b => Ending.returned (Value.bool b)) (hq.trans HD.out).symm, ⟨hb'.out.os, hb'.out.tape, hb'.out.output, hb'.out.size, hb'.out.block⟩⟩
      · have hlt' : ¬ (j : Int) < (n : Int) := by omega
        rw [List.take_of_length_le (by omega), List.take_of_length_le (by omega)] at ht
        go_wp2
        go_ret
        exact ⟨rfl, hb⟩
  · have hne : ¬ (n : Int) = (m : Int) := by omega
    rw [decide_eq_false (show ¬ xs = ys from fun e => hnm (by rw [← hl, ← hl2, e]))] at hq
    subst hq
    go_enter Tryd.func15, Tryd.ntmps15
    go_wp2
    go_ret
    exact ⟨rfl, Below.refl _ _⟩
end Go.Proofs.YteokiaeojgjpdaaDoor
