/- cond.rightAlone, cond.right, cond.Right; the reference's Right. -/
import Derived.Test.YtfgblmdmhgllgaaCc
namespace Go.Proofs.Ytfgblmdmhgllgaa
open Go.RowKit

theorem all_take {α : Type} {f : α → Bool} {l : List α} {j : Nat} {t : α} (h : l[j]? = some t) : (l.take (j + 1)).all f = ((l.take j).all f && f t) := by
  rw [List.take_add_one, h]; simp
theorem any_take {α : Type} {f : α → Bool} {l : List α} {j : Nat} {t : α} (h : l[j]? = some t) : (l.take (j + 1)).any f = ((l.take j).any f || f t) := by
  rw [List.take_add_one, h]; simp
theorem all_no {α : Type} {f : α → Bool} {l : List α} {j : Nat} {t : α} (h : l[j]? = some t) (hf : f t = false) : l.all f = false := by
  rw [Bool.eq_false_iff]; intro hc
  rw [List.all_eq_true] at hc
  rw [hc t (List.mem_of_getElem? h)] at hf; cases hf
theorem any_yes {α : Type} {f : α → Bool} {l : List α} {j : Nat} {t : α} (h : l[j]? = some t) (hf : f t = true) : l.any f = true :=
  List.any_eq_true.2 ⟨t, List.mem_of_getElem? h, hf⟩
theorem blkc {w : World} {g : Nat} {t : TypeId} {a b c d : Value} (h : Blk w g t #[a, b, c, d]) : w.cell? ⟨g, 0, none⟩ = some a ∧ w.cell? ⟨g, 1, none⟩ = some b ∧ w.cell? ⟨g, 2, none⟩ = some c ∧ w.cell? ⟨g, 3, none⟩ = some d :=
  ⟨h.cell 0, h.cell 1, h.cell 2, h.cell 3⟩
set_option maxHeartbeats 1000000 in
theorem cAlone_any (k : Int) (n v : ByteArray) (A : Option Addr) (m c : Nat) (w : World) (hn : n.size ≤ maxLen) (hm : m ≤ maxLen) :
    Calls Try.prog 119 #[.agg #[.int .i64 k, .string n, .string v, .slice A m c]] w fun e w' => e = .returned (.bool (alone k n v m)) ∧ Below w.heap.size w w' := by
  have HB := Lib.hid ((Below.refl _ w).alloc (Nat.le_refl _) (.cells #[.int .i64 k, .string n, .string v, .slice A m c] 76))
  unfold maxLen at hm
  have HM := Lib.hid hm
  clear hm
  go_enter Try.func119, Try.ntmps119
  go_wp2_with (first
    | (go_at_call 132; refine (nWord_any _ _ hn).mono ?_; rintro e w' ⟨rfl, rfl⟩))
  all_goals go_ret
  all_goals (refine ⟨ret_bool ?_, HB.out⟩)
  all_goals (simp only [beq_iff_eq, beq_eq_false_iff_ne, ne_eq] at *)
  all_goals (simp_all [alone, emp]; try omega)
  all_goals (rw [Bool.eq_iff_iff]; simp; try omega)
set_option maxHeartbeats 1000000 in
set_option maxRecDepth 100000 in
theorem cright_any : ∀ (f D : Nat) (t : CT) (v0 v1 v2 v3 : Value) (deep : Int) (w : World), CondAt w (· < w.heap.size) D t [v0, v1, v2, v3] → deep + f = 21 → 0 ≤ deep →
    Calls Try.prog 89 #[.agg #[v0, v1, v2, v3], .int .i64 deep] w fun e w' => e = .returned (.bool (rightT f t)) ∧ Below w.heap.size w w' := by
  intro f
  induction f with
  | zero =>
    intro D t v0 v1 v2 v3 deep w _ hd _
    have hd1 : 20 < deep := by omega
    have HB := Lib.hid ((Below.refl _ w).alloc (Nat.le_refl _) (.cells #[v0, v1, v2, v3] 76))
    clear hd
    go_enter Try.func89, Try.ntmps89
    go_wp2_with fail
    go_ret
    exact ⟨rfl, HB.out⟩
  | succ f ih =>
    intro D t v0 v1 v2 v3 deep w ht hd h0
    obtain ⟨d, k, n, v, kids, A, m, c, rfl, rfl, hcs, hn, hv, hm, hmc, hk⟩ := ht.form
    simp only [List.cons.injEq, and_true] at hcs
    obtain ⟨rfl, rfl, rfl, rfl⟩ := hcs
    have hd1 : deep ≤ 20 := by omega
    have hd2 : deep + 1 + (f : Int) = 21 := by omega
    have IH := Lib.hid ih
    have HD := Lib.hid hd2
    clear ih ht hd hd2
    have hbw := (Below.refl _ w).alloc (Nat.le_refl _) (.cells #[.int .i64 k, .string n, .string v, .slice A m c] 76)
    have hp0 : Blk (w.alloc (.cells #[.int .i64 k, .string n, .string v, .slice A m c] 76)) w.heap.size 76 #[.int .i64 k, .string n, .string v, .slice A m c] := Blk.new w _ _
    have HAL := Lib.hid (cAlone_any k n v A m c (w.alloc (.cells #[.int .i64 k, .string n, .string v, .slice A m c] 76)) hn hm)
    unfold maxLen at hm
    cases ha : alone k n v m
    · have HR := Lib.hid (show rightT (f + 1) (.mk k n v kids) = false by rw [rightT, hk.1, ha]; rfl)
      rw [ha] at HAL
      clear ha
      go_enter Try.func89, Try.ntmps89
      go_wp2_with ((with_reducible refine HAL.out.mono ?_); rintro e w1 ⟨rfl, hb1⟩)
      go_ret
      exact ⟨ret_bool HR.out.symm, hbw.trans (hb1.mono (by simp))⟩
    · have HR := Lib.hid (show rightT (f + 1) (.mk k n v kids) = kids.all (rightT f) by rw [rightT, hk.1, ha]; rfl)
      rw [ha] at HAL
      clear ha
      go_enter Try.func89, Try.ntmps89
      go_wp2_with ((with_reducible refine HAL.out.mono ?_); rintro e w1 ⟨rfl, hb1⟩; have hp1 := hp0.below hb1 (by simp); obtain ⟨p0, p1, p2, p3⟩ := blkc hp1; clear hp0 hp1)
      have hb2 := hbw.trans (hb1.mono (by simp))
      clear hb1 hbw HAL p0 p1 p2 p3
      go_loopw [17] (fun i wr => ∃ j : Nat, j ≤ m ∧ i = .int .i64 j ∧ (kids.take j).all (rightT f) = true ∧ Below w.heap.size w wr) (fun i _ => m - (intOf i).toNat)
      case atStart => exact ⟨0, Nat.zero_le _, rfl, rfl, hb2⟩
      case round =>
        clear hb2
        obtain ⟨j, hj, rfl, hall, hb⟩ := hrel
        have HA := Lib.hid hall
        clear hall
        by_cases hlt : j < m
        · have hlt' : (j : Int) < (m : Int) := by omega
          have hj0 : (0 : Int) ≤ (j : Int) := by omega
          obtain ⟨b, o, t, k', n', v', B, q, c', rfl, hX, htj, e0, e1, e2, e3, ht⟩ := hk.kid hlt
          replace e0 := (hb.cell (p := ⟨b, o + j * 4, none⟩) hX).trans e0
          replace e1 := (hb.cell (p := ⟨b, o + j * 4 + 1, none⟩) hX).trans e1
          replace e2 := (hb.cell (p := ⟨b, o + j * 4 + 2, none⟩) hX).trans e2
          replace e3 := (hb.cell (p := ⟨b, o + j * 4 + 3, none⟩) hX).trans e3
          have hbz := hb.alloc hb.size (.cells #[.int .i64 k', .string n', .string v', .slice B q c'] 76)
          have HT := Lib.hid (ht.below hbz)
          have HC := Lib.hid (IH.out d t _ _ _ _ (deep + 1) _ HT.out HD.out (by omega))
          have HJ := Lib.hid htj
          clear ht htj hk
          cases hr : rightT f t
          · rw [hr] at HC
            have HF := Lib.hid (all_no HJ.out hr)
            clear hr
            go_wp2_with ((with_reducible refine HC.out.mono ?_); rintro e w1 ⟨rfl, hb1⟩)
            go_ret
            exact ⟨ret_bool (by rw [HR.out]; exact HF.out.symm), hbz.trans (hb1.mono (by have := hb.size; simp; omega))⟩
          · rw [hr] at HC
            have HF := Lib.hid (show (kids.take (j + 1)).all (rightT f) = true by rw [all_take HJ.out, HA.out, hr]; rfl)
            clear hr
            go_wp2_with ((with_reducible refine HC.out.mono ?_); rintro e w1 ⟨rfl, hb1⟩)
            go_roundw
            case rel => exact ⟨j + 1, by omega, by go_num, HF.out, hbz.trans (hb1.mono (by have := hb.size; simp; omega))⟩
            case measure => simp [intOf]; omega
        · obtain rfl : j = m := by omega
          have HF := Lib.hid (show kids.all (rightT f) = true by have := HA.out; rwa [List.take_of_length_le (by rw [hk.1]; omega)] at this)
          go_wp2
          go_ret
          exact ⟨ret_bool (by rw [HR.out]; exact HF.out.symm), hb⟩
end Go.Proofs.Ytfgblmdmhgllgaa
