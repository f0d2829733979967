/- sum.tail: its walk. -/
import Derived.Test.YtplenagncmhhoaaDoorSmG
namespace Go.Proofs.YtplenagncmhhoaaDoor
open Go.RowKit

theorem wd_len (k : Nat) : (wd k).length ≤ 11 := by
  unfold wd
  rcases Nat.lt_or_ge k 8 with h | h
  · rcases (by omega : k = 0 ∨ k = 1 ∨ k = 2 ∨ k = 3 ∨ k = 4 ∨ k = 5 ∨ k = 6 ∨ k = 7) with rfl | rfl | rfl | rfl | rfl | rfl | rfl | rfl <;> decide
  · have : wdL[k]? = none := List.getElem?_eq_none (by simpa [wdL] using h)
    simp [List.getD, this]
theorem dg_len : ∀ (N n : Nat), n ≤ N → (dgN n).length ≤ n + 1
  | 0, n, h => by
    obtain rfl : n = 0 := by omega
    unfold dgN
    rw [Lib.decDigits]; simp
  | N + 1, n, h => by
    unfold dgN
    rw [Lib.decDigits]
    split
    · simp
    · have := dg_len N (n / 10) (by omega)
      unfold dgN at this
      simp only [List.length_append, List.length_cons, List.length_nil]
      omega
theorem line_str (k T : Nat) : (⟨#[35, 32]⟩ ++ ⟨(wd k).toArray⟩ ++ ⟨#[32]⟩ ++ ⟨(dgN T).toArray⟩ : ByteArray) = ⟨(35 :: 32 :: (wd k ++ 32 :: dgN T)).toArray⟩ := by
  apply ByteArray.ext
  simp only [ByteArray.data_append]
  simp
theorem cntLs_len (ps : List Pt) : ∀ k, (cntLs ps k).length ≤ k
  | 0 => Nat.le_refl _
  | k + 1 => by
    have ih := cntLs_len ps k
    simp only [cntLs, List.length_append]
    split
    · simp; omega
    · unfold cntV
      split <;> simp <;> omega
theorem totC_at (ps : List PtB) {k : Nat} (hk : k < 8) (W : World) : (Instr.index 31 (.agg (totC ps)) (.int .i64 (k : Nat))).run Tryd.prog W = .ok (.int .i64 (totV ps (k : Nat) : Nat)) W := by
  unfold totC
  rcases (by omega : k = 0 ∨ k = 1 ∨ k = 2 ∨ k = 3 ∨ k = 4 ∨ k = 5 ∨ k = 6 ∨ k = 7) with rfl | rfl | rfl | rfl | rfl | rfl | rfl | rfl
  all_goals
    generalize hT0 : totV ps 0 = T0
    generalize hT1 : totV ps 1 = T1
    generalize hT2 : totV ps 2 = T2
    generalize hT3 : totV ps 3 = T3
    generalize hT4 : totV ps 4 = T4
    generalize hT5 : totV ps 5 = T5
    generalize hT6 : totV ps 6 = T6
    generalize hT7 : totV ps 7 = T7
    kernel_rfl
set_option maxHeartbeats 4000000 in
set_option maxRecDepth 100000 in
theorem tail_any {w : World} (su bo : ByteArray) {A : Option Addr} {n c : Nat} {ps : List PtB} (h : PartsAt w A n ps) (ht : TabAt w) (hp : Pow w) (hb : (ps.map fun p => p.2.length).sum ≤ 1000000) (hr : rightPs ps = true) :
    Calls Tryd.prog 42 #[.agg #[.string su, .string bo, .slice A n c]] w fun e w' => ∃ v, e = .returned v ∧ LinesAt w' w.heap.size v (tailL dgN (ps.map ptB)) ∧ Below w.heap.size w w' := by
  obtain ⟨i0, hi, hz0, hz1, hz2⟩ := info_parts infS
  have HT := Lib.hid ht
  have HP := Lib.hid hp
  have HR := Lib.hid hr
  have HB := Lib.hid hb
  have HB0 := Lib.hid ((Below.refl w.heap.size w).alloc (Nat.le_refl _) (.cells #[.string su, .string bo, .slice A n c] 24))
  have HS := Lib.hid (sTotals_any (c := c) su bo (h.below HB0.out) hb)
  clear h ht hp hr hb
  go_enter Tryd.func42, Tryd.ntmps42
  go_wp2_with fail
  refine HS.out.mono ?_
  rintro e w2 ⟨rfl, b2⟩
  have HB2 := Lib.hid (HB0.out.trans (b2.mono (by simp)))
  clear b2
  go_wp2_with fail
  go_loopw [3, 8] (fun v i wr => ∃ k : Nat, k ≤ 8 ∧ i = .int .i64 (k : Nat) ∧ LinesAt wr w.heap.size v (cntLs (ps.map ptB) k) ∧ Below w.heap.size w wr) (fun _ i _ => 8 - (intOf i).toNat)
  case atStart => exact ⟨0, Nat.zero_le _, rfl, LinesAt.none _ _, HB2.out⟩
  case round =>
    obtain ⟨k, hk, rfl, hl, hbw⟩ := hrel
    have hsw := hbw.size
    have HBW := Lib.hid hbw
    have HTr := Lib.hid (HT.out.below hbw)
    have HPr := Lib.hid (HP.out.below hbw)
    obtain ⟨ao, cap, hv⟩ := hl.form
    subst hv
    have hown := hl
    have HL := Lib.hid hl
    unfold LinesAt at hown
    clear hl
    have hlen : (cntLs (ps.map ptB) k).length ≤ k := cntLs_len _ _
    by_cases hlt : k < 8
    · have hlt' : (k : Int) < 8 := by omega
      have hix : ∀ W : World, (Instr.index 31 (.agg (totC ps)) (.int .i64 (k : Nat))).run Tryd.prog W = .ok (.int .i64 (totV ps (k : Nat) : Nat)) W := totC_at ps hlt
      by_cases h0 : totV ps (k : Nat) = 0
      · rw [h0] at hix
        have HE := Lib.hid (show cntLs (ps.map ptB) (k + 1) = cntLs (ps.map ptB) k by
          by_cases hk0 : k = 0
          · subst hk0; rfl
          · have hc := totV_cnt k (by omega) (by omega) ps
            simp only [cntLs, if_neg hk0, cntV]
            rw [← hc, h0]; simp)
        go_wp2
        go_roundw
        case rel => exact ⟨k + 1, by omega, by go_num, by rw [HE.out]; exact HL.out, HBW.out⟩
        case measure => simp [intOf]; omega
      · have hk0 : k ≠ 0 := fun e => h0 (by subst e; exact totV_zero HR.out)
        have hpos : (0 : Int) < (totV ps (k : Nat) : Int) := by omega
        have hbd : totV ps (k : Nat) ≤ 1000000 := Nat.le_trans (totV_le ps _) HB.out
        have HE := Lib.hid (show cntLs (ps.map ptB) (k + 1) = cntLs (ps.map ptB) k ++ [35 :: 32 :: (wd k ++ 32 :: dgN (totV ps (k : Nat)))] by
          have hc := totV_cnt k (by omega) (by omega) ps
          simp only [cntLs, if_neg hk0, cntV]
          rw [← hc, if_neg h0])
        have HW := Lib.hid (show wordT (k : Nat) = ⟨(wd k).toArray⟩ by
          have := wordT_wd (k : Nat) (by simp [rightV]; omega)
          rw [Int.toNat_natCast] at this
          rw [← this]; rfl)
        generalize totV ps (k : Nat) = T at hix hpos hbd HE h0
        clear h0
        have hwl : (wd k).length ≤ 11 := wd_len k
        have hdl : (dgN T).length ≤ T + 1 := dg_len T T (Nat.le_refl _)
        go_wp2_with fail
        refine (text_any HTr.out _).mono ?_
        rintro e w3 ⟨rfl, rfl⟩
        rw [HW.out]
        go_wp2_with fail
        refine (itoa_any HPr.out T hbd).mono ?_
        rintro e w4 ⟨rfl, b4⟩
        have hown4 := HL.out.below b4
        unfold LinesAt at hown4
        have HB4 := Lib.hid (HBW.out.trans (b4.mono hsw))
        have hs4 := b4.size
        clear b4
        go_wp2_with (at_builtin; refine wpList_append_own _ rfl _ _ 74 rfl w.heap.size 9 i0 (.string ByteArray.empty) 1 16 Tryd.underlying74 hi hz0 hz1 hz2 rfl (by decide) _ _ _ rfl (hown4.alloc _) ⟨w4.heap.size, 0, none⟩ 1 1 [.string (⟨#[35, 32]⟩ ++ ⟨(wd k).toArray⟩ ++ ⟨#[32]⟩ ++ ⟨(dgN T).toArray⟩)] rfl rfl (World.news_of_block (cs := #[.string (⟨#[35, 32]⟩ ++ ⟨(wd k).toArray⟩ ++ ⟨#[32]⟩ ++ ⟨(dgN T).toArray⟩)]) (t := 9) (fr := (0, 0)) (heap_alloc_new w4 _)) (by simp [Value.oneCell']) (by unfold maxLen; omega) (by omega) (by simp; omega) ?_)
        intro v' w5 hown5 hgrow _
        go_wp2
        go_roundw
        case rel =>
          refine ⟨k + 1, by omega, by go_num, ?_, (HB4.out.alloc (by have := HB4.out.size; omega) _).grown hgrow (by have := HB4.out.size; simp; omega) (fun j hj => (hown4.lt j hj).1)⟩
          rw [HE.out]
          refine LinesAt.snoc ?_
          unfold lineV
          rw [← line_str]
          exact hown5
        case measure => simp [intOf]; omega
    · have hlt' : ¬ (k : Int) < 8 := by omega
      obtain rfl : k = 8 := by omega
      have HE := Lib.hid (tailL_cntLs (ps.map ptB))
      go_wp2_with (at_builtin; refine wpList_append_own _ rfl _ _ 74 rfl w.heap.size 9 i0 (.string ByteArray.empty) 1 16 Tryd.underlying74 hi hz0 hz1 hz2 rfl (by decide) _ _ _ rfl (hown.alloc _) ⟨wr.heap.size, 0, none⟩ 1 1 [.string ⟨#[35, 32, 101, 110, 100]⟩] rfl rfl (World.news_of_block (cs := #[.string ⟨#[35, 32, 101, 110, 100]⟩]) (t := 9) (fr := (0, 0)) (heap_alloc_new wr _)) (by simp [Value.oneCell']) (by unfold maxLen; omega) (by omega) (by simp; omega) ?_)
      intro v' w5 hown5 hgrow _
      go_wp2
      refine bodyPost_ret (v := v') (by simp [results, Tryd.results42, go_sem]) rfl ⟨v', rfl, ?_, (HBW.out.alloc hsw _).grown hgrow (by simp; omega) (fun j hj => (hown.lt j hj).1)⟩
      rw [HE.out]
      exact LinesAt.snoc (l := endW) hown5
end Go.Proofs.YtplenagncmhhoaaDoor
