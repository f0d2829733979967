/- Right, the program's. -/
import Derived.Test.YtmhfdpgkdpbbiaaEc
namespace Go.Proofs.Ytmhfdpgkdpbbiaa
open Go.RowKit

theorem blk4 {w : World} {g : Nat} {t : TypeId} {a b c d : Value} (h : Blk w g t #[a, b, c, d]) : w.cell? ⟨g, 0, none⟩ = some a ∧ w.cell? ⟨g, 1, none⟩ = some b ∧ w.cell? ⟨g, 2, none⟩ = some c ∧ w.cell? ⟨g, 3, none⟩ = some d :=
  ⟨h.cell 0, h.cell 1, h.cell 2, h.cell 3⟩
theorem rgh_at {es : List Ev} {j : Nat} {e : Ev} (h : es[j]? = some e) : es.drop j = e :: es.drop (j + 1) := by
  obtain ⟨hl, hg⟩ := List.getElem?_eq_some_iff.1 h
  rw [List.drop_eq_getElem_cons hl, hg]
theorem drop_ne {es : List Ev} {j n : Nat} (hl : es.length = n) (h : j + 1 < n) : es.drop (j + 1) ≠ [] := by
  intro h0
  have := congrArg List.length h0
  simp at this
  omega
theorem drop_nil {es : List Ev} {j n : Nat} (hl : es.length = n) (h : n ≤ j) : es.drop j = [] := List.drop_of_length_le (by omega)
set_option maxHeartbeats 4000000 in
set_option maxRecDepth 100000 in
theorem right_any {w : World} {A : Option Addr} {n : Nat} {es : List Ev} (c : Nat) (h : EvsAt w A n es) :
    Calls Try.prog 12 #[.slice A n c] w (BoolPost w (rghL 0 es)) := by
  have hl := h.1
  have hn := h.2.1
  have HL := Lib.hid hl
  go_enter Try.func12, Try.ntmps12
  go_wp2
  go_loopw [3, 9] (fun a i wr => ∃ (j : Nat) (p : Int), j ≤ n ∧ i = .int .i64 (j : Nat) ∧ a = .int .i64 p ∧ rghL 0 es = rghL p (es.drop j) ∧ Below w.heap.size w wr) (fun _ i _ => n - (intOf i).toNat)
  case atStart => exact ⟨0, 0, Nat.zero_le _, rfl, rfl, rfl, Below.refl _ _⟩
  case round =>
    obtain ⟨j, p, hj, rfl, rfl, hf, hb⟩ := hrel
    have HF := Lib.hid hf
    clear hf
    by_cases hlt : j < n
    · have hlt' : (j : Int) < (n : Int) := by omega
      have hj0 : (0 : Int) ≤ (j : Int) := by omega
      obtain ⟨⟨k, m, t, a⟩, hz⟩ : ∃ z, es[j]? = some z := ⟨es[j]'(by omega), List.getElem?_eq_getElem _⟩
      obtain ⟨b1, o1, rfl, hb1, hc1⟩ := (h.below hb).2.2 (by omega)
      obtain ⟨c0, c1, c2, c3⟩ := hc1 j _ hz
      have HZ := Lib.hid (rgh_at hz)
      clear hc1 hz hl
      have kB := Blk.new wr 27 #[.int .i64 k, .int .i64 m, .string t, .int .i64 a]
      have bN : Below w.heap.size w (wr.alloc (.cells #[.int .i64 k, .int .i64 m, .string t, .int .i64 a] 27)) := hb.alloc hb.size _
      have HBN := Lib.hid bN
      have HKB := Lib.hid kB
      have C := Lib.hid (rightKind_any k m t a (wr.alloc (.cells #[.int .i64 k, .int .i64 m, .string t, .int .i64 a] 27)))
      have D := fun W => Lib.hid (rightTime_any k m t a p W)
      have E := fun W => Lib.hid (decides_any k m t a W)
      obtain ⟨last, hlast⟩ : ∃ l : Bool, l = ((j : Int) == (n : Int) - 1) := ⟨_, rfl⟩
      have e1 : ((j : Int) == (n : Int) - 1) = last := hlast.symm
      have hs1 : wr.heap.size < (wr.alloc (.cells #[.int .i64 k, .int .i64 m, .string t, .int .i64 a] 27)).heap.size := by simp
      clear kB bN hb
      rcases hr1 : rkB ⟨k, m, t, a⟩ with _ | _
      · have HX := Lib.hid (rghL_bad1 (a := p) (r := es.drop (j + 1)) hr1)
        rw [hr1] at C
        clear hr1
        cases last
        all_goals
          clear hlast
          go_wp2_with fail
          refine C.out.mono ?_
          rintro e w2 ⟨rfl, b2⟩
          go_wp2
          go_ret
          exact ⟨by rw [HF.out, HZ.out, HX.out]; rfl, HBN.out.trans (b2.mono HBN.out.size)⟩
      rcases hr2 : rtB ⟨k, m, t, a⟩ p with _ | _
      · have HX := Lib.hid (rghL_bad2 (r := es.drop (j + 1)) hr2)
        rw [hr1] at C
        rw [hr2] at D
        clear hr1 hr2
        cases last
        all_goals
          clear hlast
          go_wp2_with fail
          refine C.out.mono ?_
          rintro e w2 ⟨rfl, b2⟩
          obtain ⟨d0, d1, d2, d3⟩ := blk4 (HKB.out.below b2 hs1)
          go_wp2_with fail
          refine (D _).out.mono ?_
          rintro e w3 ⟨rfl, b3⟩
          go_wp2
          go_ret
          exact ⟨by rw [HF.out, HZ.out, HX.out]; rfl, (HBN.out.trans (b2.mono HBN.out.size)).trans (b3.mono (Nat.le_trans HBN.out.size b2.size))⟩
      rcases hr3 : decB ⟨k, m, t, a⟩ with _ | _
      · have HX := Lib.hid (rghL_ok (r := es.drop (j + 1)) hr1 hr2 (.inl hr3))
        rw [hr1] at C
        rw [hr2] at D
        rw [hr3] at E
        clear hr1 hr2 hr3
        cases last
        all_goals
          clear hlast
          go_wp2_with fail
          refine C.out.mono ?_
          rintro e w2 ⟨rfl, b2⟩
          have k2 := HKB.out.below b2 hs1
          have K2 := Lib.hid k2
          obtain ⟨d0, d1, d2, d3⟩ := blk4 k2
          clear k2
          go_wp2_with fail
          refine (D _).out.mono ?_
          rintro e w3 ⟨rfl, b3⟩
          have k3 := K2.out.below b3 (Nat.lt_of_lt_of_le hs1 b2.size)
          have K3 := Lib.hid k3
          obtain ⟨d0, d1, d2, d3⟩ := blk4 k3
          clear k3
          go_wp2_with fail
          refine (E _).out.mono ?_
          rintro e w4 ⟨rfl, b4⟩
          obtain ⟨d0, d1, d2, d3⟩ := blk4 (K3.out.below b4 (Nat.lt_of_lt_of_le (Nat.lt_of_lt_of_le hs1 b2.size) b3.size))
          have HB4 := Lib.hid (((HBN.out.trans (b2.mono HBN.out.size)).trans (b3.mono (Nat.le_trans HBN.out.size b2.size))).trans (b4.mono (Nat.le_trans (Nat.le_trans HBN.out.size b2.size) b3.size)))
          clear b2 b3 b4
          go_wp2
          go_roundw
          case rel => exact ⟨j + 1, a, by omega, by go_num, rfl, by rw [HF.out, HZ.out, HX.out], HB4.out⟩
          case measure => simp [intOf]; omega
      · rw [hr1] at C
        rw [hr2] at D
        rw [hr3] at E
        cases last
        · have HX := Lib.hid (rghL_bad3 (a := p) (r := es.drop (j + 1)) hr3 (drop_ne HL.out (by
            have : ¬ (j : Int) = (n : Int) - 1 := by simpa using e1
            omega)))
          clear hr1 hr2 hr3 hlast
          go_wp2_with fail
          refine C.out.mono ?_
          rintro e w2 ⟨rfl, b2⟩
          have k2 := HKB.out.below b2 hs1
          have K2 := Lib.hid k2
          obtain ⟨d0, d1, d2, d3⟩ := blk4 k2
          clear k2
          go_wp2_with fail
          refine (D _).out.mono ?_
          rintro e w3 ⟨rfl, b3⟩
          have k3 := K2.out.below b3 (Nat.lt_of_lt_of_le hs1 b2.size)
          have K3 := Lib.hid k3
          obtain ⟨d0, d1, d2, d3⟩ := blk4 k3
          clear k3
          go_wp2_with fail
          refine (E _).out.mono ?_
          rintro e w4 ⟨rfl, b4⟩
          have HB4 := Lib.hid (((HBN.out.trans (b2.mono HBN.out.size)).trans (b3.mono (Nat.le_trans HBN.out.size b2.size))).trans (b4.mono (Nat.le_trans (Nat.le_trans HBN.out.size b2.size) b3.size)))
          clear b2 b3 b4
          go_wp2
          go_ret
          exact ⟨by rw [HF.out, HZ.out, HX.out]; rfl, HB4.out⟩
        · have HX := Lib.hid (rghL_ok (r := es.drop (j + 1)) hr1 hr2 (.inr (drop_nil HL.out (by
            have : (j : Int) = (n : Int) - 1 := by simpa using e1
            omega))))
          clear hr1 hr2 hr3 hlast
          go_wp2_with fail
          refine C.out.mono ?_
          rintro e w2 ⟨rfl, b2⟩
          have k2 := HKB.out.below b2 hs1
          have K2 := Lib.hid k2
          obtain ⟨d0, d1, d2, d3⟩ := blk4 k2
          clear k2
          go_wp2_with fail
          refine (D _).out.mono ?_
          rintro e w3 ⟨rfl, b3⟩
          have k3 := K2.out.below b3 (Nat.lt_of_lt_of_le hs1 b2.size)
          have K3 := Lib.hid k3
          obtain ⟨d0, d1, d2, d3⟩ := blk4 k3
          clear k3
          go_wp2_with fail
          refine (E _).out.mono ?_
          rintro e w4 ⟨rfl, b4⟩
          obtain ⟨d0, d1, d2, d3⟩ := blk4 (K3.out.below b4 (Nat.lt_of_lt_of_le (Nat.lt_of_lt_of_le hs1 b2.size) b3.size))
          have HB4 := Lib.hid (((HBN.out.trans (b2.mono HBN.out.size)).trans (b3.mono (Nat.le_trans HBN.out.size b2.size))).trans (b4.mono (Nat.le_trans (Nat.le_trans HBN.out.size b2.size) b3.size)))
          clear b2 b3 b4
          go_wp2
          go_roundw
          case rel => exact ⟨j + 1, a, by omega, by go_num, rfl, by rw [HF.out, HZ.out, HX.out], HB4.out⟩
          case measure => simp [intOf]; omega
    · have hlt' : ¬ (j : Int) < (n : Int) := by omega
      go_wp2
      go_ret
      exact ⟨by rw [HF.out, drop_nil HL.out (by omega)]; rfl, hb⟩
end Go.Proofs.Ytmhfdpgkdpbbiaa
