/- GlobParts answers true. -/
import Derived.Test.YtacmfhopelkbbaaGst
import Derived.Test.YtacmfhopelkbbaaGa
namespace Go.Proofs.Ytacmfhopelkbbaa
open Go.RowKit

theorem take_list (s : ByteArray) (k : Nat) : (s.extract 0 k).data.toList = s.data.toList.take k := by simp [ByteArray.data_extract]
set_option maxHeartbeats 1000000 in
set_option maxRecDepth 100000 in
theorem globParts_walk (p q s : ByteArray) (hp : p.size ≤ maxLen) (hq : q.size ≤ maxLen) (hs : s.size ≤ maxLen) (zp : p.size ≤ reachBytes) (zq : q.size ≤ reachBytes) (w : World) :
    Calls Try.prog 7 #[.string p, .string q, .string s] w fun e w' => e = .returned (.bool true) ∧ Below w.heap.size w w' := by
  have hz : reachBytes = 140737488351232 := rfl
  rw [hz] at zp zq
  clear hz hp hq
  have HP := Lib.hid (fun W => parse_any p W)
  have HQ := Lib.hid (fun W => parse_any q W)
  have HM := Lib.hid (fun (r t : ByteArray) W (ht : t.size ≤ maxLen) => match_any r t W ht)
  have HX := Lib.hid (fun (hl : p.data.toList.length + q.data.toList.length ≤ 256) (h1 : (parseG p.data.toList).2.1 = 0) (h2 : (parseG q.data.toList).2.1 = 0) => match_parts hl h1 h2 s.data.toList)
  generalize hRp : parseG p.data.toList = Rp at *
  generalize hRq : parseG q.data.toList = Rq at *
  clear hRp hRq
  obtain ⟨tp, cp, ap⟩ := Rp
  obtain ⟨tq, cq, aq⟩ := Rq
  simp only at HX
  have stop : (cp != 0) = true ∨ ((cp != 0) = false ∧ (cq != 0) = true) ∨ ((cp != 0) = false ∧ (cq != 0) = false ∧ (256 : Int) < (p.size : Int) + (q.size : Int)) ∨ ((cp != 0) = false ∧ (cq != 0) = false ∧ ¬ (256 : Int) < (p.size : Int) + (q.size : Int) ∧ (100 : Int) < (s.size : Int)) ∨ ((cp != 0) = false ∧ (cq != 0) = false ∧ ¬ (256 : Int) < (p.size : Int) + (q.size : Int) ∧ ¬ (100 : Int) < (s.size : Int)) := by
    cases (cp != 0) <;> cases (cq != 0) <;> simp <;> omega
  rcases stop with h1 | ⟨h1, h2⟩ | ⟨h1, h2, h3⟩ | ⟨h1, h2, h3, h4⟩ | ⟨h1, h2, h3, h4⟩
  rotate_right 1
  · have hcp : cp = 0 := by simpa using h1
    have hcq : cq = 0 := by simpa using h2
    have HX2 := Lib.hid (HX.out (show p.size + q.size ≤ 256 by omega) hcp hcq)
    clear hcp hcq HX
    have hs1 : s.size ≤ 100 := by omega
    go_enter Try.func7, Try.ntmps7
    go_wp2_with fail
    refine (alive_any _).mono ?_
    rintro e w1 ⟨rfl, b1⟩
    go_wp2_with fail
    refine (HP.out _).mono ?_
    rintro e w2 ⟨d, k, A, n, cc, A', n', c', rfl, _, b2⟩
    have c2 := b1.trans (b2.mono b1.size)
    have c3 := c2.alloc c2.size (.cells #[.int .i64 k, .slice A n cc, .slice A' n' c'] 26)
    go_wp2_with fail
    refine (HQ.out _).mono ?_
    rintro e w3 ⟨d2, k2, B, m, mc, B', m', mc', rfl, _, b3⟩
    have c4 := c3.trans (b3.mono c3.size)
    have c5 := c4.alloc c4.size (.cells #[.int .i64 k2, .slice B m mc, .slice B' m' mc'] 26)
    clear b1 b2 b3 c2 c3 c4
    go_wp2_with fail
    go_loopw [13, 14] (fun v i wr => ∃ k : Nat, k ≤ s.size + 1 ∧ i = .int .i64 k ∧ v = .bool (partTo p.data.toList q.data.toList s.data.toList k) ∧ Below w.heap.size w wr) (fun _ i _ => s.size + 1 - (intOf i).toNat)
    case atStart => exact ⟨0, by omega, rfl, rfl, c5⟩
    case round =>
      clear c5
      obtain ⟨k, hk, rfl, rfl, hbw⟩ := hrel
      have hB := hbw.size
      by_cases hlt : k ≤ s.size
      · have hlt' : (k : Int) ≤ (s.size : Int) := by omega
        have hk0 : (0 : Int) ≤ (k : Int) := by omega
        have HS := Lib.hid (partTo_succ p.data.toList q.data.toList s.data.toList k)
        generalize hpt : partTo p.data.toList q.data.toList s.data.toList k = pt at *
        clear hpt
        have T1 := Lib.hid (take_list s k)
        have T2 := Lib.hid (rest_extract s k)
        have Z1 : (s.extract 0 k).size ≤ maxLen := by rw [ByteArray.size_extract]; unfold maxLen; omega
        have Z2 : (s.extract k s.size).size ≤ maxLen := by rw [ByteArray.size_extract]; unfold maxLen; omega
        cases pt
        · cases hm1 : matchG p.data.toList (s.data.toList.take k)
          · have M1 := Lib.hid (fun W => (HM.out p (s.extract 0 k) W Z1).mono (fun e w' h => (show e = .returned (.bool false) ∧ Below W.heap.size W w' from ⟨by rw [h.1, T1.out, hm1], h.2⟩)))
            rw [hm1] at HS
            clear hm1
            go_wp2_with fail
            refine (M1.out _).mono ?_
            rintro e w4 ⟨rfl, b4⟩
            go_wp2
            go_roundw
            case rel => exact ⟨k + 1, by omega, by go_num, by rw [HS.out]; rfl, hbw.trans (b4.mono hB)⟩
            case measure => simp [intOf]; omega
          · have M1 := Lib.hid (fun W => (HM.out p (s.extract 0 k) W Z1).mono (fun e w' h => (show e = .returned (.bool true) ∧ Below W.heap.size W w' from ⟨by rw [h.1, T1.out, hm1], h.2⟩)))
            rw [hm1] at HS
            clear hm1
            go_wp2_with fail
            refine (M1.out _).mono ?_
            rintro e w4 ⟨rfl, b4⟩
            have c6 := hbw.trans (b4.mono hB)
            go_wp2_with fail
            refine (HM.out _ _ _ Z2).mono ?_
            rintro e w5 ⟨rfl, b5⟩
            rw [T2.out]
            go_wp2
            go_roundw
            case rel => exact ⟨k + 1, by omega, by go_num, by rw [HS.out]; rfl, c6.trans (b5.mono c6.size)⟩
            case measure => simp [intOf]; omega
        · go_wp2
          go_roundw
          case rel => exact ⟨k + 1, by omega, by go_num, by rw [HS.out]; rfl, hbw⟩
          case measure => simp [intOf]; omega
      · obtain rfl : k = s.size + 1 := by omega
        have hlt' : ¬ ((s.size : Int) + 1) ≤ (s.size : Int) := by omega
        have HL := Lib.hid (show (p ++ q).data.toList = p.data.toList ++ q.data.toList from list_app p q)
        have HX3 := Lib.hid (show matchG (p.data.toList ++ q.data.toList) s.data.toList = partTo p.data.toList q.data.toList s.data.toList (s.size + 1) from HX2.out)
        generalize hpt : partTo p.data.toList q.data.toList s.data.toList (s.size + 1) = pt at *
        clear hpt
        go_wp2_with fail
        refine (HM.out _ _ _ hs).mono ?_
        rintro e w4 ⟨rfl, b4⟩
        rw [HL.out, HX3.out]
        go_wp2
        go_ret
        exact ⟨ret_bool (by simp), hbw.trans (b4.mono hB)⟩
  all_goals
    go_enter Try.func7, Try.ntmps7
    go_wp2_with fail
    refine (alive_any _).mono ?_
    rintro e w1 ⟨rfl, b1⟩
    go_wp2_with fail
    refine (HP.out _).mono ?_
    rintro e w2 ⟨d, k, A, n, cc, A', n', c', rfl, _, b2⟩
    have c2 := b1.trans (b2.mono b1.size)
    have c3 := c2.alloc c2.size (.cells #[.int .i64 k, .slice A n cc, .slice A' n' c'] 26)
    go_wp2_with fail
    refine (HQ.out _).mono ?_
    rintro e w3 ⟨d2, k2, B, m, mc, B', m', mc', rfl, _, b3⟩
    have c4 := c3.trans (b3.mono c3.size)
    have c5 := c4.alloc c4.size (.cells #[.int .i64 k2, .slice B m mc, .slice B' m' mc'] 26)
    go_wp2
    go_ret
    exact ⟨rfl, c5⟩
end Go.Proofs.Ytacmfhopelkbbaa
