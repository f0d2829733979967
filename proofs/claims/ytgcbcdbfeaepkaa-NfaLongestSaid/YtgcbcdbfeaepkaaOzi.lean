/- The reference's wrong, Check, Last. -/
import Derived.Test.YtgcbcdbfeaepkaaOzc
namespace Go.Proofs.Ytgcbcdbfeaepkaa
open Go.RowKit Go.Maps

def WrPost (w : World) (d : Nat) (t : Tr) (e : Ending) (w' : World) : Prop := ∃ b : Bool, e = .returned (.bool b) ∧ (b = false → wrongT d t = false) ∧ Below w.heap.size w w'
def WrIH (d : Nat) : Prop := ∀ (t : Tr) (v0 v1 v2 : Value) (w : World), TreeAt w (· < w.heap.size) d t [v0, v1, v2] → Calls Try.prog 52 #[.agg #[v0, v1, v2]] w (WrPost w d t)
set_option maxHeartbeats 1000000 in
set_option maxRecDepth 100000 in
theorem rwrong_any : ∀ d, WrIH d
  | 0 => fun t v0 v1 v2 w h => h.elim
  | d + 1 => fun t v0 v1 v2 w h => by
    have ih := rwrong_any d
    obtain ⟨k, rs, kids⟩ := t
    obtain ⟨A, n, c, A', n', c', e, hn, hn', hr, hlk, hk⟩ := h
    simp only [List.cons.injEq, and_true] at e
    obtain ⟨rfl, rfl, rfl⟩ := e
    have HH := Lib.hid (show wrongT (d + 1) (.mk k rs kids) = (wrong1 k kids.length || kids.any (wrongT d)) from rfl)
    have hb0 : Below w.heap.size w (w.alloc (.cells #[.int .i64 k, .slice A n c, .slice A' n' c'] 25)) := (Below.refl _ w).alloc (Nat.le_refl _) _
    have kx := Blk.new w 25 #[.int .i64 k, .slice A n c, .slice A' n' c']
    have hk0 := hn'.1
    unfold maxLen at hk0
    have HB0 := Lib.hid hb0
    have HK0 := Lib.hid kx
    have HLK := Lib.hid hlk
    clear hb0 kx hn' hn hr
    by_cases q1 : k < 1
    · go_enter Try.func52, Try.ntmps52
      go_wp2_with fail
      go_ret
      exact ⟨true, rfl, (fun h => nomatch h), HB0.out⟩
    by_cases q2 : 6 < k
    · go_enter Try.func52, Try.ntmps52
      go_wp2_with fail
      go_ret
      exact ⟨true, rfl, (fun h => nomatch h), HB0.out⟩
    have key : ∀ (q : 3 < k → 0 < n') , wrong1 k kids.length = false := fun q => by
      unfold wrong1
      rw [HLK.out]
      by_cases a : k = 1 ∨ k = 2 ∨ k = 3
      · rw [if_pos a]
      · rw [if_neg a, if_pos (by omega)]
        have := q (by omega)
        simp; omega
    have KEY := Lib.hid key
    clear key
    have body : (3 < k → 0 < n') → Calls Try.prog 52 #[.agg #[.int .i64 k, .slice A n c, .slice A' n' c']] w (WrPost w (d + 1) (.mk k rs kids)) := fun q => by
      have KW := Lib.hid (KEY.out q)
      have q3 : ¬ (3 < k ∧ n' = 0) := fun ⟨a, b⟩ => by have := q a; omega
      clear KEY q
      by_cases q4 : 3 < k
      · have q5 : ((n' : Int) == 0) = false := by simp; omega
        go_enter Try.func52, Try.ntmps52
        go_wp2_with fail
        go_loopw [3] (fun vi wr => ∃ m : Nat, m ≤ n' ∧ vi = .int .i64 (m : Nat) ∧ (∀ u, u ∈ kids.take m → wrongT d u = false) ∧ Blk wr w.heap.size 25 #[.int .i64 k, .slice A n c, .slice A' n' c'] ∧ Below w.heap.size w wr) (fun vi _ => n' - (intOf vi).toNat)
        case atStart => exact ⟨0, Nat.zero_le _, rfl, (by rw [List.take_zero]; intro u hu; cases hu), HK0.out, HB0.out⟩
        case round =>
          clear HK0 HB0
          obtain ⟨m, hm, rfl, hall, hkb, hbw⟩ := hrel
          have HALL := Lib.hid hall
          have HKB := Lib.hid hkb
          have HBW := Lib.hid hbw
          have hw2 : wr.cell? ⟨w.heap.size, 2, none⟩ = some (.slice A' n' c') := hkb.cell 2
          have hsw := hbw.size
          by_cases hlt : m < n'
          · have hlt' : (m : Int) < (n' : Int) := by omega
            have hm0 : (0 : Int) ≤ (m : Int) := by omega
            obtain ⟨b, o, rfl, hbo, hcells⟩ := hk (by omega)
            obtain ⟨t, htk⟩ : ∃ t, kids[m]? = some t := ⟨kids[m]'(by omega), List.getElem?_eq_getElem _⟩
            obtain ⟨v0, v1, v2, e0, e1, e2, htr⟩ := hcells m t htk
            have hbk := hbw.block b hbo
            replace e0 := (World.cell?_of_block (a := ⟨b, o + m * 3, none⟩) hbk).trans e0
            replace e1 := (World.cell?_of_block (a := ⟨b, o + m * 3 + 1, none⟩) hbk).trans e1
            replace e2 := (World.cell?_of_block (a := ⟨b, o + m * 3 + 2, none⟩) hbk).trans e2
            have HR := Lib.hid (ih t v0 v1 v2 wr (tree_below htr hbw))
            have HTK := Lib.hid htk
            clear hcells htr htk hbk hall hkb hbw
            go_wp2_with fail
            refine HR.out.mono ?_
            rintro e w3 ⟨bb, rfl, hbb, hb3⟩
            have HB3 := Lib.hid (HBW.out.trans (hb3.mono hsw))
            have HK3 := Lib.hid ((hb3.block _ HKB.out.lt).trans HKB.out)
            have HBB := Lib.hid hbb
            clear hb3 hbb HR
            cases bb with
            | true =>
              go_wp2_with fail
              go_ret
              exact ⟨true, rfl, (fun h => nomatch h), HB3.out⟩
            | false =>
              go_wp2_with fail
              go_roundw
              case rel => exact ⟨m + 1, by omega, by go_num, take_all HALL.out HTK.out (by have h := HBB.out; simpa using h), HK3.out, HB3.out⟩
              case measure => simp [intOf]; omega
          · obtain rfl : n' = m := by omega
            have hlt' : ¬ (n' : Int) < (n' : Int) := by omega
            have HFIN := Lib.hid (show wrongT (d + 1) (.mk k rs kids) = false by
              rw [HH.out, KW.out, Bool.false_or, List.any_eq_false]
              intro u hu
              rw [HALL.out u (by rw [← hlk, List.take_length]; exact hu)]; simp)
            clear hall hkb hbw
            go_wp2_with fail
            go_ret
            exact ⟨false, rfl, fun _ => HFIN.out, HBW.out⟩
      · go_enter Try.func52, Try.ntmps52
        go_wp2_with fail
        go_loopw [3] (fun vi wr => ∃ m : Nat, m ≤ n' ∧ vi = .int .i64 (m : Nat) ∧ (∀ u, u ∈ kids.take m → wrongT d u = false) ∧ Blk wr w.heap.size 25 #[.int .i64 k, .slice A n c, .slice A' n' c'] ∧ Below w.heap.size w wr) (fun vi _ => n' - (intOf vi).toNat)
        case atStart => exact ⟨0, Nat.zero_le _, rfl, (by rw [List.take_zero]; intro u hu; cases hu), HK0.out, HB0.out⟩
        case round =>
          clear HK0 HB0
          obtain ⟨m, hm, rfl, hall, hkb, hbw⟩ := hrel
          have HALL := Lib.hid hall
          have HKB := Lib.hid hkb
          have HBW := Lib.hid hbw
          have hw2 : wr.cell? ⟨w.heap.size, 2, none⟩ = some (.slice A' n' c') := hkb.cell 2
          have hsw := hbw.size
          by_cases hlt : m < n'
          · have hlt' : (m : Int) < (n' : Int) := by omega
            have hm0 : (0 : Int) ≤ (m : Int) := by omega
            obtain ⟨b, o, rfl, hbo, hcells⟩ := hk (by omega)
            obtain ⟨t, htk⟩ : ∃ t, kids[m]? = some t := ⟨kids[m]'(by omega), List.getElem?_eq_getElem _⟩
            obtain ⟨v0, v1, v2, e0, e1, e2, htr⟩ := hcells m t htk
            have hbk := hbw.block b hbo
            replace e0 := (World.cell?_of_block (a := ⟨b, o + m * 3, none⟩) hbk).trans e0
            replace e1 := (World.cell?_of_block (a := ⟨b, o + m * 3 + 1, none⟩) hbk).trans e1
            replace e2 := (World.cell?_of_block (a := ⟨b, o + m * 3 + 2, none⟩) hbk).trans e2
            have HR := Lib.hid (ih t v0 v1 v2 wr (tree_below htr hbw))
            have HTK := Lib.hid htk
            clear hcells htr htk hbk hall hkb hbw
            go_wp2_with fail
            refine HR.out.mono ?_
            rintro e w3 ⟨bb, rfl, hbb, hb3⟩
            have HB3 := Lib.hid (HBW.out.trans (hb3.mono hsw))
            have HK3 := Lib.hid ((hb3.block _ HKB.out.lt).trans HKB.out)
            have HBB := Lib.hid hbb
            clear hb3 hbb HR
            cases bb with
            | true =>
              go_wp2_with fail
              go_ret
              exact ⟨true, rfl, (fun h => nomatch h), HB3.out⟩
            | false =>
              go_wp2_with fail
              go_roundw
              case rel => exact ⟨m + 1, by omega, by go_num, take_all HALL.out HTK.out (by have h := HBB.out; simpa using h), HK3.out, HB3.out⟩
              case measure => simp [intOf]; omega
          · obtain rfl : n' = m := by omega
            have hlt' : ¬ (n' : Int) < (n' : Int) := by omega
            have HFIN := Lib.hid (show wrongT (d + 1) (.mk k rs kids) = false by
              rw [HH.out, KW.out, Bool.false_or, List.any_eq_false]
              intro u hu
              rw [HALL.out u (by rw [← hlk, List.take_length]; exact hu)]; simp)
            clear hall hkb hbw
            go_wp2_with fail
            go_ret
            exact ⟨false, rfl, fun _ => HFIN.out, HBW.out⟩
    by_cases q4 : 3 < k ∧ n' = 0
    · obtain ⟨q4, rfl⟩ := q4
      clear body
      go_enter Try.func52, Try.ntmps52
      go_wp2_with fail
      go_ret
      exact ⟨true, rfl, (fun h => nomatch h), HB0.out⟩
    · exact body fun h => by omega
end Go.Proofs.Ytgcbcdbfeaepkaa
