/- cond.gather. -/
import Derived.Test.YtfgblmdmhgllgaaCe
import Derived.Test.YtfgblmdmhgllgaaCn
import Derived.Test.YtfgblmdmhgllgaaIts
namespace Go.Proofs.Ytfgblmdmhgllgaa
open Go.RowKit Go.Maps

theorem law_strC : Keyed Try.prog 9 := string_keyed Try.underlying9
theorem key_strC {s : ByteArray} (hs : s.size ≤ maxLen) : keyOf Try.prog 9 (.string s) = some (.string s.data.toList) := WideMaps.keyOf_string_mk Try.underlying9 hs
theorem set_put {w : World} {bm nn : Nat} {M : List (List UInt8)} (h : w.ownsMap Try.prog 9 (unitElem (H := Unit)) bm nn (kOf M)) (hn : nn < maxLen) (s : ByteArray) (hs : s.size ≤ maxLen) :
    ∃ w', (Instr.mapUpdate 138 (.map (some bm)) (.string s) (.agg #[])).run Try.prog w = .ok () w' ∧ w'.ownsMap Try.prog 9 (unitElem (H := Unit)) bm (nn + 1) (kOf (putN M s.data.toList)) ∧ w.grownBy w' (some bm) := by
  obtain ⟨w', h1, h2, h3⟩ := h.store law_strC Try.underlying138 hn (key_strC hs) (d := .agg []) (ps := []) (val := .agg #[]) unitElem_mk
  rw [kOf_put] at h2
  exact ⟨w', h1, h2, h3.grown⟩
theorem own_up {w : World} {bm nn nn' : Nat} {D : DataW Unit} (h : w.ownsMap Try.prog 9 (unitElem (H := Unit)) bm nn D) (hl : nn ≤ nn') : w.ownsMap Try.prog 9 (unitElem (H := Unit)) bm nn' D := by
  obtain ⟨es, clock, hb, F, hs, hD⟩ := h
  exact ⟨es, clock, hb, F, Nat.le_trans hs hl, hD⟩
theorem CondAt.grown {w w' : World} {bm d : Nat} {t : CT} {cs : List Value} (h : CondAt w (fun b => b < w.heap.size ∧ b ≠ bm) d t cs) (hg : w.grownBy w' (some bm)) : CondAt w' (fun b => b < w'.heap.size ∧ b ≠ bm) d t cs :=
  (h.keep fun b hb => hg.block b hb.1 fun e => hb.2 (by injection e)).mono fun _ hb => ⟨Nat.lt_of_lt_of_le hb.1 hg.size, hb.2⟩
theorem namesK_snoc {kids : List CT} {j : Nat} {t : CT} (h : kids[j]? = some t) : namesK (kids.take (j + 1)) = namesK (kids.take j) ++ namesT t := by
  rw [namesK_eq, namesK_eq, List.take_add_one, h]; simp
theorem namesK_le (kids : List CT) (j : Nat) : (namesK (kids.take j)).length ≤ (namesK kids).length := by
  have h := List.take_append_drop j kids
  rw [namesK_eq, namesK_eq]
  conv => rhs; rw [← h]
  rw [List.flatMap_append, List.length_append]; omega
theorem own_put {w w' : World} {g : Nat} {t : TypeId} {cs : Array Value} {row : Option Nat} (h : w.heap[g]? = some (.cells cs t (0, 0))) (hg : w.grownBy w' row) (hr : some g ≠ row) : w'.heap[g]? = some (.cells cs t (0, 0)) := Blk.grown h hg hr
set_option maxHeartbeats 1000000 in
set_option maxRecDepth 100000 in
theorem gather_any (bm : Nat) : ∀ (D : Nat) (t : CT) (v0 v1 v2 v3 : Value) (M : List (List UInt8)) (nn : Nat) (w : World), CondAt w (fun b => b < w.heap.size ∧ b ≠ bm) D t [v0, v1, v2, v3] → w.ownsMap Try.prog 9 (unitElem (H := Unit)) bm nn (kOf M) → nn + (namesT t).length < maxLen →
    Calls Try.prog 94 #[.map (some bm), .agg #[v0, v1, v2, v3]] w fun e w' => e = .returned (.tuple #[]) ∧ w'.ownsMap Try.prog 9 (unitElem (H := Unit)) bm (nn + (namesT t).length) (kOf (putsN M (namesT t))) ∧ w.grownBy w' (some bm) := by
  intro D
  induction D with
  | zero => intro t v0 v1 v2 v3 M nn w h; exact h.elim
  | succ D ih =>
    intro t v0 v1 v2 v3 M nn w ht hown hnn
    obtain ⟨d, k, n, v, kids, A, m, c, hD, rfl, hcs, hn, hv, hm, hmc, hk⟩ := ht.form
    obtain rfl : D = d := by omega
    simp only [List.cons.injEq, and_true] at hcs
    obtain ⟨rfl, rfl, rfl, rfl⟩ := hcs
    have IH := Lib.hid ih
    have hbl := hown.lt
    clear ih ht hD
    have hN : namesT (.mk k n v kids) = (if k = 1 ∨ k = 2 then [n] else []) ++ namesK kids := by rw [namesT]
    have hg0 := gb_alloc (gb_refl w (some bm)) (.cells #[.int .i64 k, .string n, .string v, .slice A m c] 76)
    have ho0 := hown.alloc (.cells #[.int .i64 k, .string n, .string v, .slice A m c] 76)
    have hp0 : Blk (w.alloc (.cells #[.int .i64 k, .string n, .string v, .slice A m c] 76)) w.heap.size 76 #[.int .i64 k, .string n, .string v, .slice A m c] := Blk.new w _ _
    unfold maxLen at hm
    -- what is behind the own name
    have hmid : ∃ M1 n1, (nn + (if k = 1 ∨ k = 2 then [n] else []).length = n1 ∧ putsN M (if k = 1 ∨ k = 2 then [n] else []) = M1) := ⟨_, _, rfl, rfl⟩
    obtain ⟨M1, n1, hn1, hM1⟩ := hmid
    have hlen : nn + (namesT (.mk k n v kids)).length = n1 + (namesK kids).length := by rw [hN, List.length_append]; omega
    have hput : putsN M (namesT (.mk k n v kids)) = putsN M1 (namesK kids) := by rw [hN, putsN_app, hM1]
    rw [hlen] at hnn ⊢
    rw [hput]
    clear hN hlen hput
    have hways : (k = 1 ∨ k = 2) ∨ (k ≠ 1 ∧ k ≠ 2) := by omega
    rcases hways with (h1 | h1) | ⟨h1, h2⟩
    · subst h1
      obtain ⟨w1, hrun, ho1, hg1⟩ := set_put ho0 (by simp at hn1; omega) n hn
      replace ho1 : w1.ownsMap Try.prog 9 (unitElem (H := Unit)) bm n1 (kOf M1) := by rw [← hn1, ← hM1]; exact ho1
      have hp1 := hp0.grown hg1 (by intro e; injection e; omega)
      replace hg1 := gb_trans hg0 hg1
      obtain ⟨p0, p1, p2, p3⟩ := blkc hp1
      clear hp0 hg0 ho0 hp1 hn1 hM1
      go_enter Try.func94, Try.ntmps94
      go_wp2_with fail
      clear p0 p1 p2 p3 hrun
      go_loopw [21] (fun i wr => ∃ j : Nat, j ≤ m ∧ i = .int .i64 j ∧ wr.ownsMap Try.prog 9 (unitElem (H := Unit)) bm (n1 + (namesK (kids.take j)).length) (kOf (putsN M1 (namesK (kids.take j)))) ∧ w.grownBy wr (some bm)) (fun i _ => m - (intOf i).toNat)
      case atStart => exact ⟨0, Nat.zero_le _, rfl, ho1, hg1⟩
      case round =>
        clear ho1 hg1
        obtain ⟨j, hj, rfl, ho, hg⟩ := hrel
        by_cases hlt : j < m
        · have hlt' : (j : Int) < (m : Int) := by omega
          have hj0 : (0 : Int) ≤ (j : Int) := by omega
          obtain ⟨b, o, t, k', n', v', B, q, c', rfl, hX, htj, e0, e1, e2, e3, ht⟩ := hk.kid hlt
          have hb := hg.block b hX.1 (by intro e; injection e with e; exact hX.2 e)
          replace e0 := (World.cell?_of_block (a := ⟨b, o + j * 4, none⟩) hb).trans e0
          replace e1 := (World.cell?_of_block (a := ⟨b, o + j * 4 + 1, none⟩) hb).trans e1
          replace e2 := (World.cell?_of_block (a := ⟨b, o + j * 4 + 2, none⟩) hb).trans e2
          replace e3 := (World.cell?_of_block (a := ⟨b, o + j * 4 + 3, none⟩) hb).trans e3
          have hgz := gb_alloc hg (.cells #[.int .i64 k', .string n', .string v', .slice B q c'] 76)
          have hoz := ho.alloc (.cells #[.int .i64 k', .string n', .string v', .slice B q c'] 76)
          have hnm := namesK_snoc htj
          have hle := namesK_le kids (j + 1)
          have hX1 : b < wr.heap.size := Nat.lt_of_lt_of_le hX.1 hg.size
          rw [hnm, List.length_append] at hle
          have HC := Lib.hid (IH.out t _ _ _ _ _ _ _ (ht.grown hgz) hoz (by omega))
          have HN := Lib.hid hnm
          clear ht htj hk hb hnm hle ho hoz
          go_wp2_with ((with_reducible refine HC.out.mono ?_); rintro e w2 ⟨rfl, ho2, hg2⟩)
          go_roundw
          case rel => exact ⟨j + 1, by omega, by go_num, by rw [HN.out, List.length_append, putsN_app, ← Nat.add_assoc]; exact ho2, gb_trans hgz hg2⟩
          case measure => simp [intOf]; omega
        · obtain rfl : j = m := by omega
          rw [List.take_of_length_le (by rw [hk.1]; omega)] at ho
          go_wp2
          go_end0
          exact ⟨rfl, ho, hg⟩
    · subst h1
      obtain ⟨w1, hrun, ho1, hg1⟩ := set_put ho0 (by simp at hn1; omega) n hn
      replace ho1 : w1.ownsMap Try.prog 9 (unitElem (H := Unit)) bm n1 (kOf M1) := by rw [← hn1, ← hM1]; exact ho1
      have hp1 := hp0.grown hg1 (by intro e; injection e; omega)
      replace hg1 := gb_trans hg0 hg1
      obtain ⟨p0, p1, p2, p3⟩ := blkc hp1
      clear hp0 hg0 ho0 hp1 hn1 hM1
      go_enter Try.func94, Try.ntmps94
      go_wp2_with fail
      clear p0 p1 p2 p3 hrun
      go_loopw [21] (fun i wr => ∃ j : Nat, j ≤ m ∧ i = .int .i64 j ∧ wr.ownsMap Try.prog 9 (unitElem (H := Unit)) bm (n1 + (namesK (kids.take j)).length) (kOf (putsN M1 (namesK (kids.take j)))) ∧ w.grownBy wr (some bm)) (fun i _ => m - (intOf i).toNat)
      case atStart => exact ⟨0, Nat.zero_le _, rfl, ho1, hg1⟩
      case round =>
        clear ho1 hg1
        obtain ⟨j, hj, rfl, ho, hg⟩ := hrel
        by_cases hlt : j < m
        · have hlt' : (j : Int) < (m : Int) := by omega
          have hj0 : (0 : Int) ≤ (j : Int) := by omega
          obtain ⟨b, o, t, k', n', v', B, q, c', rfl, hX, htj, e0, e1, e2, e3, ht⟩ := hk.kid hlt
          have hb := hg.block b hX.1 (by intro e; injection e with e; exact hX.2 e)
          replace e0 := (World.cell?_of_block (a := ⟨b, o + j * 4, none⟩) hb).trans e0
          replace e1 := (World.cell?_of_block (a := ⟨b, o + j * 4 + 1, none⟩) hb).trans e1
          replace e2 := (World.cell?_of_block (a := ⟨b, o + j * 4 + 2, none⟩) hb).trans e2
          replace e3 := (World.cell?_of_block (a := ⟨b, o + j * 4 + 3, none⟩) hb).trans e3
          have hgz := gb_alloc hg (.cells #[.int .i64 k', .string n', .string v', .slice B q c'] 76)
          have hoz := ho.alloc (.cells #[.int .i64 k', .string n', .string v', .slice B q c'] 76)
          have hnm := namesK_snoc htj
          have hle := namesK_le kids (j + 1)
          have hX1 : b < wr.heap.size := Nat.lt_of_lt_of_le hX.1 hg.size
          rw [hnm, List.length_append] at hle
          have HC := Lib.hid (IH.out t _ _ _ _ _ _ _ (ht.grown hgz) hoz (by omega))
          have HN := Lib.hid hnm
          clear ht htj hk hb hnm hle ho hoz
          go_wp2_with ((with_reducible refine HC.out.mono ?_); rintro e w2 ⟨rfl, ho2, hg2⟩)
          go_roundw
          case rel => exact ⟨j + 1, by omega, by go_num, by rw [HN.out, List.length_append, putsN_app, ← Nat.add_assoc]; exact ho2, gb_trans hgz hg2⟩
          case measure => simp [intOf]; omega
        · obtain rfl : j = m := by omega
          rw [List.take_of_length_le (by rw [hk.1]; omega)] at ho
          go_wp2
          go_end0
          exact ⟨rfl, ho, hg⟩
    · rw [if_neg (by omega)] at hn1 hM1
      have ho1 : (w.alloc (.cells #[.int .i64 k, .string n, .string v, .slice A m c] 76)).ownsMap Try.prog 9 (unitElem (H := Unit)) bm n1 (kOf M1) := by rw [← hn1, ← hM1]; exact ho0
      have hg1 := hg0
      have k1 : (k == 1) = false := by simpa using h1
      have k2 : (k == 2) = false := by simpa using h2
      clear hp0 hg0 ho0 hn1 hM1 h1 h2
      go_enter Try.func94, Try.ntmps94
      go_wp2_with fail
      go_loopw [21] (fun i wr => ∃ j : Nat, j ≤ m ∧ i = .int .i64 j ∧ wr.ownsMap Try.prog 9 (unitElem (H := Unit)) bm (n1 + (namesK (kids.take j)).length) (kOf (putsN M1 (namesK (kids.take j)))) ∧ w.grownBy wr (some bm)) (fun i _ => m - (intOf i).toNat)
      case atStart => exact ⟨0, Nat.zero_le _, rfl, ho1, hg1⟩
      case round =>
        clear ho1 hg1
        obtain ⟨j, hj, rfl, ho, hg⟩ := hrel
        by_cases hlt : j < m
        · have hlt' : (j : Int) < (m : Int) := by omega
          have hj0 : (0 : Int) ≤ (j : Int) := by omega
          obtain ⟨b, o, t, k', n', v', B, q, c', rfl, hX, htj, e0, e1, e2, e3, ht⟩ := hk.kid hlt
          have hb := hg.block b hX.1 (by intro e; injection e with e; exact hX.2 e)
          replace e0 := (World.cell?_of_block (a := ⟨b, o + j * 4, none⟩) hb).trans e0
          replace e1 := (World.cell?_of_block (a := ⟨b, o + j * 4 + 1, none⟩) hb).trans e1
          replace e2 := (World.cell?_of_block (a := ⟨b, o + j * 4 + 2, none⟩) hb).trans e2
          replace e3 := (World.cell?_of_block (a := ⟨b, o + j * 4 + 3, none⟩) hb).trans e3
          have hgz := gb_alloc hg (.cells #[.int .i64 k', .string n', .string v', .slice B q c'] 76)
          have hoz := ho.alloc (.cells #[.int .i64 k', .string n', .string v', .slice B q c'] 76)
          have hnm := namesK_snoc htj
          have hle := namesK_le kids (j + 1)
          have hX1 : b < wr.heap.size := Nat.lt_of_lt_of_le hX.1 hg.size
          rw [hnm, List.length_append] at hle
          have HC := Lib.hid (IH.out t _ _ _ _ _ _ _ (ht.grown hgz) hoz (by omega))
          have HN := Lib.hid hnm
          clear ht htj hk hb hnm hle ho hoz
          go_wp2_with ((with_reducible refine HC.out.mono ?_); rintro e w2 ⟨rfl, ho2, hg2⟩)
          go_roundw
          case rel => exact ⟨j + 1, by omega, by go_num, by rw [HN.out, List.length_append, putsN_app, ← Nat.add_assoc]; exact ho2, gb_trans hgz hg2⟩
          case measure => simp [intOf]; omega
        · obtain rfl : j = m := by omega
          rw [List.take_of_length_le (by rw [hk.1]; omega)] at ho
          go_wp2
          go_end0
          exact ⟨rfl, ho, hg⟩
/-- Names of a condition, as the list of their bytes. -/
def namesL (t : CT) : List (List UInt8) := if rightT 20 t then putsN [] (namesT t) else []
theorem namesL_rise (t : CT) : RiseN (namesL t) := by
  unfold namesL; split
  · exact RiseN.puts riseN_nil
  · exact riseN_nil
theorem namesL_mem {t : CT} (h : rightT 20 t = true) (g : List UInt8) : g ∈ namesL t ↔ ∃ n ∈ namesT t, n.data.toList = g := by
  unfold namesL; rw [if_pos h, mem_putsN]; simp
set_option maxHeartbeats 1000000 in
set_option maxRecDepth 100000 in
theorem cNames_any (D : Nat) (t : CT) (k : Int) (n v : ByteArray) (A : Option Addr) (m c : Nat) (w : World) (ht : CondAt w (· < w.heap.size) D t [.int .i64 k, .string n, .string v, .slice A m c]) (hl : (namesT t).length ≤ 1000000000) :
    Calls Try.prog 45 #[.agg #[.int .i64 k, .string n, .string v, .slice A m c]] w fun e w' => ∃ u, e = .returned u ∧ w'.ownsRow w.heap.size 9 1 u (namesL t).length ((namesL t).map encStr) ∧ Below w.heap.size w w' := by
  have hmm := @run_makeMap Try.prog
  have hbw := (Below.refl _ w).alloc (Nat.le_refl _) (.cells #[.int .i64 k, .string n, .string v, .slice A m c] 76)
  have HP := Lib.hid (show Blk (w.alloc (.cells #[.int .i64 k, .string n, .string v, .slice A m c] 76)) w.heap.size 76 #[.int .i64 k, .string n, .string v, .slice A m c] from Blk.new w _ _)
  have HC := Lib.hid (cRight_any D t k n v A m c _ (ht.below hbw))
  cases hr : rightT 20 t
  · rw [hr] at HC
    have HN := Lib.hid (show namesL t = [] by unfold namesL; rw [hr]; rfl)
    clear hr
    go_enter Try.func45, Try.ntmps45
    go_wp2_with ((with_reducible refine HC.out.mono ?_); rintro e w1 ⟨rfl, hb1⟩)
    go_ret
    refine ⟨_, rfl, ?_, hbw.trans (hb1.mono (by simp))⟩
    rw [HN.out]
    exact ⟨rfl, .inl ⟨rfl, rfl⟩⟩
  · rw [hr] at HC
    have HN := Lib.hid (show namesL t = putsN [] (namesT t) by unfold namesL; rw [hr]; rfl)
    clear hr
    go_enter Try.func45, Try.ntmps45
    go_wp2_with ((with_reducible refine HC.out.mono ?_); rintro e w1 ⟨rfl, hb1⟩; obtain ⟨p0, p1, p2, p3⟩ := blkc (HP.out.below hb1 (by simp)); have hz : w.heap.size < w1.heap.size := by have := hb1.size; simp at this; omega)
    have ho := World.ownsMap_made w1 Try.prog 9 (unitElem (H := Unit))
    have hb2 := hbw.trans (hb1.mono (by simp))
    have ht1 : CondAt (w1.alloc (.map #[] 0)) (fun b => b < (w1.alloc (.map #[] 0)).heap.size ∧ b ≠ w1.heap.size) D t [.int .i64 k, .string n, .string v, .slice A m c] :=
      (ht.keep (w' := w1.alloc (.map #[] 0)) fun b hb => ((hb2.alloc hb2.size (.map #[] 0)).block b hb)).mono fun b hb => ⟨by have := hb2.size; simp; omega, by have := hb2.size; omega⟩
    refine (gather_any w1.heap.size D t _ _ _ _ [] 0 _ ht1 ho (by unfold maxLen; omega)).mono ?_
    rintro e w2 ⟨rfl, ho2, hg2⟩
    have hb3 := (hb2.alloc hb2.size (.map #[] 0)).grown hg2 (by have := hb2.size; simp; omega) (fun j hj => by injection hj with hj; have := hb2.size; omega)
    have hput := putsN_len (namesT t) []
    have HO := Lib.hid ho2
    clear ho2 hg2 ho ht1 p0 p1 p2 p3 hb1 hbw HC
    have HK := Lib.hid (keys_any (some w1.heap.size) w2)
    have HS := Lib.hid (sorted_any w1.heap.size (0 + (namesT t).length) (kOf (putsN [] (namesT t))) (unitElem (H := Unit)) w2 HO.out (by rw [kOf_size]; unfold maxLen; simp at hput; omega) (by rw [kOf_size]; simp at hput; omega))
    clear hput
    go_wp2_with fail
    refine HK.out.mono ?_
    rintro e w3 ⟨rfl, rfl⟩
    go_wp2_with fail
    refine HS.out.mono ?_
    rintro e w4 ⟨u, ss, rfl, hp, hrow, _, hb⟩
    rw [kOf_keys] at hp
    have hz2 := hb3.size
    go_wp2
    go_ret
    rw [HN.out]
    have h1 := row_base hrow (B' := w.heap.size) (by simp; omega)
    rw [show (ss.mergeSort fun x y => decide (x ≤ y)) = putsN [] (namesT t) from (RiseN.puts riseN_nil).sorted hp, hp.length_eq] at h1
    exact ⟨u, rfl, h1, (hb3.alloc hb3.size _).trans (hb.mono (by simp; omega))⟩
end Go.Proofs.Ytfgblmdmhgllgaa
