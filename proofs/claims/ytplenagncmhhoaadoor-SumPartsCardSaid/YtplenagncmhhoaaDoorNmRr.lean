/- The reference's Read answers the name that is written so, or none. -/
import Derived.Test.YtplenagncmhhoaaDoorNmUh
import Derived.Test.YtplenagncmhhoaaDoorNmRd
import Derived.Deep.RegionHeld3
import Derived.Deep.AppendLies
import Derived.WalkSpells
import Derived.Laws.Pointers
namespace Go.Proofs.YtplenagncmhhoaaDoor
open Go.RowKit

theorem own_below {B : Nat} {v : Value} {n : Nat} {xs : List Value} {w w' : World} (h : w.ownsRow B 5 1 v n xs) (hb : Below w.heap.size w w') : w'.ownsRow B 5 1 v n xs := by
  refine ⟨h.1, ?_⟩
  rcases h.2 with h | ⟨g, cap, cur, hv, h1, h2, h3⟩
  · exact Or.inl h
  · have hg : g < w.heap.size := (Array.getElem?_eq_some_iff.1 h2).1
    exact Or.inr ⟨g, cap, cur, hv, h1, by rw [hb.block g hg]; exact h2, h3⟩
theorem u8_in (x : Int) (h0 : 0 ≤ x) (h1 : x < 256) : IntKind.u8.wrap x = x := by
  simp [IntKind.wrap, IntKind.bits, IntKind.signed]; omega
theorem unhexS (c : Int) (w : World) : Calls Tryd.prog 104 #[.int .u8 c] w fun e w' => e = .returned (.int .i64 (hvI c)) ∧ w = w' := by
  refine (unhex37 c w).mono ?_
  rintro e w' ⟨rfl, hw⟩
  exact ⟨rfl, hw.symm⟩
theorem write17_is {s v : ByteArray} (w : World) (hs : s.size ≤ maxLen) (h : writeL s = v.data.toList) :
    Calls Tryd.prog 78 #[.string s] w fun e w' => e = .returned (.string v) ∧ Below w.heap.size w w' := by
  refine (write17 s w hs).mono ?_
  rintro e w' ⟨rfl, hb⟩
  exact ⟨by rw [h], hb⟩

set_option maxHeartbeats 4000000 in
set_option maxRecDepth 100000 in
theorem read22 (s : ByteArray) (w : World) (hs : s.size ≤ 140737488351232) :
    Calls Tryd.prog 86 #[.string s] w fun e w' => e = .returned (.tuple #[.string ⟨(readS s).toArray⟩, .bool (readB s)]) ∧ Below w.heap.size w w' := by
  obtain ⟨i0, hi, hz0, hz1, hz2⟩ := info_parts infB
  go_enter Tryd.func86, Tryd.ntmps86
  go_wp2
  go_loopw [4, 5] (fun v i wr => ∃ (k : Nat) (acc : List UInt8), k ≤ s.size ∧ i = .int .i64 k ∧ acc.length ≤ k ∧ wr.ownsRow w.heap.size 5 1 v acc.length (Lib.byteCells acc) ∧ Below w.heap.size w wr ∧ DecRel s k acc) (fun _ i _ => s.size - (intOf i).toNat)
  case atStart =>
    exact ⟨0, [], Nat.zero_le _, rfl, Nat.le_refl _, ⟨rfl, Or.inr ⟨w.heap.size, 0, #[], rfl, Nat.le_refl _, heap_alloc_new w _, Nat.le_refl _, Nat.zero_le _, rfl, rfl⟩⟩, (Below.refl _ w).alloc (Nat.le_refl _) _, DecRel.start s⟩
  case round =>
    obtain ⟨k, acc, hk, rfl, hal, hown, hbw, hrel0⟩ := hrel
    have HR := Lib.hid hrel0
    clear hrel0
    have hB := hbw.size
    obtain ⟨ao, cap, hv⟩ := own_form hown
    subst hv
    by_cases hlt : k < s.size
    · have hbk := bt_eq s k hlt
      cases hc : (bt s k != 92)
      · by_cases h3 : k + 3 ≤ s.size
        · have hbk1 := bt_eq s (k + 1) (by omega)
          have hbk2 := bt_eq s (k + 2) (by omega)
          have hv1 := hvI_bd (bt s (k + 1))
          have hv2 := hvI_bd (bt s (k + 2))
          by_cases ha : hvI (bt s (k + 1)) < 0
          · have HN := Lib.hid (read_none (readO_dec (HR.out.fail (by rw [decAt_code hc h3, if_pos (Or.inl ha)]))))
            go_wp2_with fail
            refine (unhexS _ _).mono ?_
            rintro e w' ⟨rfl, rfl⟩
            go_wp2_with fail
            go_ret2
            exact ⟨ret_tup (a := []) HN.out.1.symm HN.out.2.symm, hbw⟩
          · have ha' : 0 ≤ hvI (bt s (k + 1)) := by omega
            clear ha
            by_cases hb : hvI (bt s (k + 2)) < 0
            · have HN := Lib.hid (read_none (readO_dec (HR.out.fail (by rw [decAt_code hc h3, if_pos (Or.inr hb)]))))
              go_wp2_with fail
              refine (unhexS _ _).mono ?_
              rintro e w' ⟨rfl, rfl⟩
              go_wp2_with fail
              refine (unhexS _ _).mono ?_
              rintro e w' ⟨rfl, rfl⟩
              go_wp2_with fail
              go_ret2
              exact ⟨ret_tup (a := []) HN.out.1.symm HN.out.2.symm, hbw⟩
            · have hb' : 0 ≤ hvI (bt s (k + 2)) := by omega
              clear hb
              have HN := Lib.hid (HR.out.code hc h3 ha' hb')
              go_wp2_with fail
              refine (unhexS _ _).mono ?_
              rintro e w' ⟨rfl, rfl⟩
              go_wp2_with fail
              refine (unhexS _ _).mono ?_
              rintro e w' ⟨rfl, rfl⟩
              go_wp2_with fail
              have bd1 := bt_bd s (k + 1)
              have bd2 := bt_bd s (k + 2)
              have q1 : IntKind.i64.wrap (↑k + 1) = ↑k + 1 := IntWalk.i64_in _ (by omega)
              have q2 : IntKind.i64.wrap (↑k + 2) = ↑k + 2 := IntWalk.i64_in _ (by omega)
              have q3 : (0 : Int) ≤ ↑k + 1 := by omega
              have q4 : (0 : Int) ≤ ↑k + 2 := by omega
              have q5 : ((k : Int) + 1).toNat = k + 1 := by omega
              have q6 : ((k : Int) + 2).toNat = k + 2 := by omega
              have q7 : (k : Int) + 1 < ↑s.size := by omega
              have q8 : (k : Int) + 2 < ↑s.size := by omega
              have q9 : IntKind.i64.wrap (16 * hvI (bt s (k + 1))) = 16 * hvI (bt s (k + 1)) := IntWalk.i64_in _ (by omega)
              have q10 : IntKind.i64.wrap (16 * hvI (bt s (k + 1)) + hvI (bt s (k + 2))) = 16 * hvI (bt s (k + 1)) + hvI (bt s (k + 2)) := IntWalk.i64_in _ (by omega)
              have q11 : IntKind.u8.wrap (16 * hvI (bt s (k + 1)) + hvI (bt s (k + 2))) = 16 * hvI (bt s (k + 1)) + hvI (bt s (k + 2)) := u8_in _ (by omega) (by omega)
              go_region_held3 (fun _ => True) (trivial)
                (first
                  | (refine step_append_lies _ (by rfl) _ _ _ (by rfl) w.heap.size 5 i0 _ 1 1 Tryd.underlying56 hi hz0 hz1 hz2 rfl (by omega) _ acc.length (Lib.byteCells acc) (by rfl) ((hown.alloc _).drew) ⟨wr.heap.size, 0, none⟩ 1 1 [.int .u8 (16 * hvI (bt s (k + 1)) + hvI (bt s (k + 2)))] (by rfl) (by rfl) (World.news_of_block (cs := #[.int .u8 (16 * hvI (bt s (k + 1)) + hvI (bt s (k + 2)))]) (t := 5) (fr := (0, 0)) (heap_alloc_new wr _)) (by simp [Value.oneCell']) (by omega) (by unfold maxLen; omega) (by omega) (by simp; omega) (wr.heap.size + 1) (by simp) ?_; intro gg cap' w1 hown1 hgrow hat hlt)
                  | (go_at_call 104; refine (unhexS _ _).mono ?_; rintro e w' ⟨rfl, rfl⟩))
              all_goals
                clear q1 q2 q3 q4 q5 q6 q7 q8 q9 q10 q11
                go_wp2
                go_roundw
                case rel =>
                  refine ⟨k + 3, _, by omega, by go_num, ?_, own_next (l' := acc ++ [(16 * hvI (bt s (k + 1)) + hvI (bt s (k + 2))).toNat.toUInt8]) (news := [.int .u8 (16 * hvI (bt s (k + 1)) + hvI (bt s (k + 2)))]) (by rw [Lib.byteCells_snoc _ (by omega), Int.toNat_of_nonneg (by omega)]) hown1, ((hbw.alloc hB _).drew).grown hgrow (by simp; omega) (fun j hj => (hown.lt j hj).1), HN.out⟩
                  simp; omega
                case measure => simp [intOf]; omega
        · have HN := Lib.hid (read_none (readO_dec (HR.out.fail (decAt_short hlt hc (by omega)))))
          go_wp2_with fail
          go_ret2
          exact ⟨ret_tup (a := []) HN.out.1.symm HN.out.2.symm, hbw⟩
      · have HN := Lib.hid (HR.out.plain hlt hc)
        go_wp2_with (at_builtin; refine wpList_append_own _ rfl _ _ 56 rfl w.heap.size 5 i0 (.int .u8 0) 1 1 Tryd.underlying56 hi hz0 hz1 hz2 rfl (by decide) _ _ _ rfl (hown.alloc _) ⟨wr.heap.size, 0, none⟩ 1 1 [.int .u8 (bt s k)] rfl rfl (new1 _ _) (new1_one _) (by unfold maxLen; omega) (by omega) (by simp; omega) ?_)
        intro v' w1 hown' hgrow _
        go_wp2
        go_roundw
        case rel => exact ⟨k + 1, acc ++ [(btN s k).toUInt8], by omega, by go_num, by simp; omega, own_next (news := [.int .u8 (bt s k)]) (by rw [Lib.byteCells_snoc _ (btN_bd s k)]; rfl) hown', (hbw.alloc hB _).grown hgrow (by simp; omega) (fun j hj => (hown.lt j hj).1), HN.out⟩
        case measure => simp [intOf]; omega
    · obtain rfl : k = s.size := by omega
      have hd := HR.out.done
      obtain ⟨u, hu⟩ : ∃ u : ByteArray, u.data.toList = acc := ⟨⟨acc.toArray⟩, by simp⟩
      have hus : u.size = acc.length := by rw [← hu]; rfl
      have hul : (⟨acc.toArray⟩ : ByteArray) = u := by rw [← hu]
      have hcv : (convert 56 9 (.slice ao acc.length cap)).run Tryd.prog wr = .ok (.string u) wr := by rw [← hul]; exact conv_own hown
      have hum : u.size ≤ maxLen := by unfold maxLen; omega
      cases hr : rightB u.size
      · have HN := Lib.hid (read_none (readO_wrong hd (by rw [← hus]; exact hr)))
        clear hd hu hul hus
        go_wp2_with fail
        refine (right19 _ _ hum).mono ?_
        rintro e w2 ⟨rfl, rfl⟩
        go_wp2_with fail
        go_ret2
        exact ⟨ret_tup (a := []) HN.out.1.symm HN.out.2.symm, hbw⟩
      · obtain ⟨v, hv⟩ : ∃ v : ByteArray, writeL u = v.data.toList := ⟨⟨(writeL u).toArray⟩, by simp⟩
        have HV := Lib.hid hv
        by_cases hvs : v = s
        · subst hvs
          have HN := Lib.hid (read_some (readO_yes hd (by rw [← hus]; exact hr) (by rw [hul]; exact hv)))
          have HU := Lib.hid hu
          have HW := Lib.hid hul
          clear hd hu hul hus hv
          go_wp2_with fail
          refine (right19 _ _ hum).mono ?_
          rintro e w2 ⟨rfl, rfl⟩
          go_wp2_with fail
          refine (write17_is _ hum HV.out).mono ?_
          rintro e w3 ⟨rfl, b3⟩
          have hcv3 : (convert 56 9 (.slice ao acc.length cap)).run Tryd.prog w3 = .ok (.string u) w3 := by rw [← HW.out]; exact conv_own (own_below hown b3)
          go_wp2_with fail
          go_ret2
          refine ⟨?_, hbw.trans (b3.mono hB)⟩
          rw [HN.out.1, HN.out.2, ← HU.out]
          rfl
        · have HN := Lib.hid (read_none (readO_other hd (by rw [hul, hv]; intro h; exact hvs (by cases v; cases s; simp at h; simp [h]))))
          have hne : (v.toList == s.toList) = false := str_ne hvs
          clear hd hu hul hus hv
          go_wp2_with fail
          refine (right19 _ _ hum).mono ?_
          rintro e w2 ⟨rfl, rfl⟩
          go_wp2_with fail
          refine (write17_is _ hum HV.out).mono ?_
          rintro e w3 ⟨rfl, b3⟩
          go_wp2_with fail
          go_ret2
          exact ⟨ret_tup (a := []) HN.out.1.symm HN.out.2.symm, hbw.trans (b3.mono hB)⟩

end Go.Proofs.YtplenagncmhhoaaDoor
