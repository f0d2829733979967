/- cond.has, cond.holds, cond.Holds. -/
import Derived.Test.YtfgblmdmhgllgaaCd
namespace Go.Proofs.Ytfgblmdmhgllgaa
open Go.RowKit

theorem cRight_any (D : Nat) (t : CT) (k : Int) (n v : ByteArray) (A : Option Addr) (m c : Nat) (w : World) (ht : CondAt w (· < w.heap.size) D t [.int .i64 k, .string n, .string v, .slice A m c]) :
    Calls Try.prog 39 #[.agg #[.int .i64 k, .string n, .string v, .slice A m c]] w fun e w' => e = .returned (.bool (rightT 20 t)) ∧ Below w.heap.size w w' := by
  have hbw := (Below.refl _ w).alloc (Nat.le_refl _) (.cells #[.int .i64 k, .string n, .string v, .slice A m c] 76)
  have HC := Lib.hid (cright_any 20 D t _ _ _ _ 1 _ (ht.below hbw) (by omega) (by omega))
  go_enter Try.func39, Try.ntmps39
  go_wp2_with ((with_reducible refine HC.out.mono ?_); rintro e w1 ⟨rfl, hb1⟩)
  go_ret
  exact ⟨rfl, hbw.trans (hb1.mono (by simp))⟩
theorem str_beq (a b : ByteArray) : (a.toList == b.toList) = decide (a = b) := by
  rw [ByteArray.toList_eq, ByteArray.toList_eq, Bool.eq_iff_iff, beq_iff_eq, decide_eq_true_eq]
  exact ⟨fun h => ByteArray.ext (Array.toList_inj.1 h), fun h => by rw [h]⟩
theorem str_no {a b : ByteArray} (h : a ≠ b) : (a.toList == b.toList) = false := by rw [str_beq]; simpa using h
theorem find_take {α : Type} {p : α → Bool} {l : List α} {j : Nat} {x : α} (h : l[j]? = some x) (hn : (l.take j).find? p = none) (hx : p x = true) : l.find? p = some x := by
  have hj := (List.getElem?_eq_some_iff.1 h).1
  have e : l = l.take j ++ (x :: l.drop (j + 1)) := by
    conv => lhs; rw [← List.take_append_drop j l, List.drop_eq_getElem_cons hj]
    rw [(List.getElem?_eq_some_iff.1 h).2]
  rw [e, List.find?_append, hn, List.find?_cons, hx]; rfl
theorem find_snoc {α : Type} {p : α → Bool} {l : List α} {j : Nat} {x : α} (h : l[j]? = some x) (hn : (l.take j).find? p = none) (hx : p x = false) : (l.take (j + 1)).find? p = none := by
  rw [List.take_add_one, h, List.find?_append, hn]; simp [hx]
set_option maxHeartbeats 1000000 in
set_option maxRecDepth 100000 in
theorem chas_any (nm : ByteArray) (A : Option Addr) (m c : Nat) (ps : Props) (n v : ByteArray) (w : World) (hp : PropsAt w (· < w.heap.size) A m ps) (hm : m ≤ maxLen) :
    Calls Try.prog 120 #[.agg #[.string nm, .slice A m c], .string n, .string v] w fun e w' => e = .returned (.bool (hasP ps n v)) ∧ Below w.heap.size w w' := by
  have hbw := (Below.refl _ w).alloc (Nat.le_refl _) (.cells #[.string nm, .slice A m c] 79)
  unfold maxLen at hm
  go_enter Try.func120, Try.ntmps120
  go_wp2_with fail
  go_loopw [12] (fun i wr => ∃ j : Nat, j ≤ m ∧ i = .int .i64 j ∧ (ps.take j).find? (fun p => decide (p.1 = n)) = none ∧ Below w.heap.size w wr) (fun i _ => m - (intOf i).toNat)
  case atStart => exact ⟨0, Nat.zero_le _, rfl, rfl, hbw⟩
  case round =>
    clear hbw
    obtain ⟨j, hj, rfl, hall, hb⟩ := hrel
    have HA := Lib.hid hall
    clear hall
    by_cases hlt : j < m
    · have hlt' : (j : Int) < (m : Int) := by omega
      have hj0 : (0 : Int) ≤ (j : Int) := by omega
      obtain ⟨b, o, p, rfl, hX, hpj, _, _, e0, e1⟩ := hp.get hlt
      replace e0 := (hb.cell (p := ⟨b, o + j * 2, none⟩) hX).trans e0
      replace e1 := (hb.cell (p := ⟨b, o + j * 2 + 1, none⟩) hX).trans e1
      obtain ⟨p1, p2⟩ := p
      have HJ := Lib.hid hpj
      have hbz := hb.alloc hb.size (.cells #[.string p1, .string p2] 88)
      clear hp hpj
      by_cases hq : p1 = n
      · have HF := Lib.hid (show (p2.toList == v.toList) = hasP ps n v by
          have := find_take (p := fun p => decide (p.1 = n)) HJ.out HA.out (by simpa using hq)
          unfold hasP; rw [this, str_beq])
        subst hq
        go_wp2
        go_ret
        exact ⟨ret_bool HF.out, hbz⟩
      · have HF := Lib.hid (find_snoc (p := fun p => decide (p.1 = n)) HJ.out HA.out (by simpa using hq))
        have hq' := str_no hq
        go_wp2
        go_roundw
        case rel => exact ⟨j + 1, by omega, by go_num, HF.out, hbz⟩
        case measure => simp [intOf]; omega
    · obtain rfl : j = m := by omega
      have HF := Lib.hid (show hasP ps n v = false by have := HA.out; rw [List.take_of_length_le (by rw [hp.1]; omega)] at this; unfold hasP; rw [this])
      go_wp2
      go_ret
      exact ⟨ret_bool HF.out.symm, hb⟩
theorem first_one {t : CT} {ts : List CT} (ps : Props) (h : ts[0]? = some t) : firstT ps ts = holdsT ps t := by
  cases ts with
  | nil => simp at h
  | cons x xs => simp at h; rw [firstT, h]
theorem dec_end {ps : Props} {k : Int} {n v : ByteArray} {kids : List CT} (hk : k = 4 ∨ k = 5) (h : kids.all (fun t => holdsT ps t != decide (k = 5)) = true) : holdsT ps (.mk k n v kids) = !decide (k = 5) := by
  rw [List.all_eq_true] at h
  rcases hk with rfl | rfl
  · simp only [holdsT, show ¬ (4 : Int) = 1 by omega, show ¬ (4 : Int) = 2 by omega, show ¬ (4 : Int) = 3 by omega, show ¬ (4 : Int) = 5 by omega, if_false, allT_eq]
    simp only [decide_false, Bool.not_false, List.all_eq_true]
    intro t ht; simpa using h t ht
  · simp only [holdsT, show ¬ (5 : Int) = 1 by omega, show ¬ (5 : Int) = 2 by omega, show ¬ (5 : Int) = 3 by omega, if_false, if_true, anyT_eq]
    simp only [decide_true, Bool.not_true, List.any_eq_false]
    intro t ht; simpa using h t ht
theorem dec_found {ps : Props} {k : Int} {n v : ByteArray} {kids : List CT} {t : CT} (hk : k = 4 ∨ k = 5) (ht : t ∈ kids) (h : holdsT ps t = decide (k = 5)) : holdsT ps (.mk k n v kids) = decide (k = 5) := by
  rcases hk with rfl | rfl
  · simp only [holdsT, show ¬ (4 : Int) = 1 by omega, show ¬ (4 : Int) = 2 by omega, show ¬ (4 : Int) = 3 by omega, show ¬ (4 : Int) = 5 by omega, if_false, allT_eq]
    simp only [decide_false, List.all_eq_false]
    exact ⟨t, ht, by simpa using h⟩
  · simp only [holdsT, show ¬ (5 : Int) = 1 by omega, show ¬ (5 : Int) = 2 by omega, show ¬ (5 : Int) = 3 by omega, if_false, if_true, anyT_eq]
    simp only [decide_true, List.any_eq_true]
    exact ⟨t, ht, by simpa using h⟩
set_option maxHeartbeats 1000000 in
set_option maxRecDepth 100000 in
theorem cholds_any (nm : ByteArray) (PA : Option Addr) (pm pc : Nat) (ps : Props) : ∀ (f D : Nat) (t : CT) (v0 v1 v2 v3 : Value) (w : World), CondAt w (· < w.heap.size) D t [v0, v1, v2, v3] → rightT f t = true → PropsAt w (· < w.heap.size) PA pm ps → pm ≤ maxLen →
    Calls Try.prog 90 #[.agg #[v0, v1, v2, v3], .agg #[.string nm, .slice PA pm pc]] w fun e w' => e = .returned (.bool (holdsT ps t)) ∧ Below w.heap.size w w' := by
  intro f
  induction f with
  | zero => intro D t v0 v1 v2 v3 w _ h; cases h
  | succ f ih =>
    intro D t v0 v1 v2 v3 w ht hr hp hpm
    obtain ⟨d, k, n, v, kids, A, m, c, rfl, rfl, hcs, hn, hv, hm, hmc, hk⟩ := ht.form
    simp only [List.cons.injEq, and_true] at hcs
    obtain ⟨rfl, rfl, rfl, rfl⟩ := hcs
    obtain ⟨ha, hrk⟩ := right_kids hr
    rw [hk.1] at ha
    have IH := Lib.hid ih
    clear ih ht hr
    have hbw := ((Below.refl _ w).alloc (Nat.le_refl _) (.cells #[.int .i64 k, .string n, .string v, .slice A m c] 76)).alloc (by simp) (.cells #[.string nm, .slice PA pm pc] 79)
    have hp0 : Blk ((w.alloc (.cells #[.int .i64 k, .string n, .string v, .slice A m c] 76)).alloc (.cells #[.string nm, .slice PA pm pc] 79)) w.heap.size 76 #[.int .i64 k, .string n, .string v, .slice A m c] := (Blk.new w _ _).alloc _
    have hq0 : Blk ((w.alloc (.cells #[.int .i64 k, .string n, .string v, .slice A m c] 76)).alloc (.cells #[.string nm, .slice PA pm pc] 79)) (w.heap.size + 1) 79 #[.string nm, .slice PA pm pc] := by simpa using Blk.new (w.alloc (.cells #[.int .i64 k, .string n, .string v, .slice A m c] 76)) 79 _
    unfold maxLen at hm
    rcases alone_cases ha with ⟨h1 | h1, h2, h3⟩ | ⟨h1, _, _, h4⟩ | ⟨h1, h2, h3, h4⟩
    · subst h1
      have HC := Lib.hid (chas_any nm PA pm pc ps n v _ (hp.below hbw) hpm)
      have HR := Lib.hid (show holdsT ps (.mk 1 n v kids) = hasP ps n v by rw [holdsT, if_pos rfl])
      clear hp0 hq0 ha h2 h3
      go_enter Try.func90, Try.ntmps90
      go_wp2_with ((with_reducible refine HC.out.mono ?_); rintro e w1 ⟨rfl, hb1⟩)
      go_ret
      exact ⟨ret_bool HR.out.symm, hbw.trans (hb1.mono (by simp; omega))⟩
    · subst h1
      have HC := Lib.hid (chas_any nm PA pm pc ps n v _ (hp.below hbw) hpm)
      have HR := Lib.hid (show holdsT ps (.mk 2 n v kids) = !hasP ps n v by rw [holdsT, if_neg (by omega), if_pos rfl])
      clear hp0 hq0 ha h2 h3
      go_enter Try.func90, Try.ntmps90
      go_wp2_with ((with_reducible refine HC.out.mono ?_); rintro e w1 ⟨rfl, hb1⟩)
      go_ret
      exact ⟨ret_bool HR.out.symm, hbw.trans (hb1.mono (by simp; omega))⟩
    · subst h1
      subst h4
      obtain ⟨b, o, t, k', n', v', B, q, c', rfl, hX, htj, e0, e1, e2, e3, ht⟩ := hk.kid (i := 0) (by omega)
      rw [Nat.zero_mul, Nat.add_zero] at e0 e1 e2 e3
      have HR := Lib.hid (show holdsT ps (.mk 3 n v kids) = !holdsT ps t by rw [holdsT, if_neg (by omega), if_neg (by omega), if_pos rfl, first_one ps htj])
      have hX' : b < w.heap.size + 1 + 1 := by omega
      replace e0 := (hbw.cell (p := ⟨b, o, none⟩) hX).trans e0
      replace e1 := (hbw.cell (p := ⟨b, o + 1, none⟩) hX).trans e1
      replace e2 := (hbw.cell (p := ⟨b, o + 2, none⟩) hX).trans e2
      replace e3 := (hbw.cell (p := ⟨b, o + 3, none⟩) hX).trans e3
      obtain ⟨p0, p1, p2, p3⟩ := blkc hp0
      obtain ⟨q0, q1, _⟩ := blk2 hq0
      have HC := Lib.hid (IH.out d t _ _ _ _ _ (ht.below hbw).drewB (hrk t (List.mem_of_getElem? htj)) (hp.below hbw).drewB hpm)
      clear hp0 hq0 ha hk ht htj hrk hp
      go_enter Try.func90, Try.ntmps90
      go_wp2_with fail
      go_region_held3 (fun W => W.cell? ⟨w.heap.size, 3, none⟩ = some (.slice (some ⟨b, o, none⟩) 1 c) ∧ W.cell? ⟨w.heap.size + 1, 0, none⟩ = some (.string nm) ∧ W.cell? ⟨w.heap.size + 1, 1, none⟩ = some (.slice PA pm pc) ∧
          W.cell? ⟨b, o, none⟩ = some (.int .i64 k') ∧ W.cell? ⟨b, o + 1, none⟩ = some (.string n') ∧ W.cell? ⟨b, o + 2, none⟩ = some (.string v') ∧ W.cell? ⟨b, o + 3, none⟩ = some (.slice B q c')) (go_keep)
        ((go_at_call 90; (with_reducible refine HC.out.mono ?_); rintro e w3 ⟨rfl, hb3⟩
          have g0 := (hb3.cell (p := ⟨w.heap.size, 3, none⟩) (by simp; omega)).trans p3
          have g1 := (hb3.cell (p := ⟨w.heap.size + 1, 0, none⟩) (by simp)).trans q0
          have g2 := (hb3.cell (p := ⟨w.heap.size + 1, 1, none⟩) (by simp)).trans q1
          have g3 := (hb3.cell (p := ⟨b, o, none⟩) (by simpa using hX')).trans e0
          have g4 := (hb3.cell (p := ⟨b, o + 1, none⟩) (by simpa using hX')).trans e1
          have g5 := (hb3.cell (p := ⟨b, o + 2, none⟩) (by simpa using hX')).trans e2
          have g6 := (hb3.cell (p := ⟨b, o + 3, none⟩) (by simpa using hX')).trans e3))
      go_wp2
      go_ret
      exact ⟨ret_bool HR.out.symm, hbw.trans ((Below.undrew hb3).mono (by simp; omega))⟩
    · have HK := Lib.hid h1
      have k1 : (k == 1) = false := by simp; omega
      have k2 : (k == 2) = false := by simp; omega
      have k3 : (k == 3) = false := by simp; omega
      have k5 : (k == 5) = decide (k = 5) := by rw [Bool.eq_iff_iff]; simp
      obtain ⟨p0, p1, p2, p3⟩ := blkc hp0
      clear ha h1
      generalize hdec : decide (k = 5) = dec at k5
      have HD := Lib.hid hdec
      clear hdec
      go_enter Try.func90, Try.ntmps90
      go_wp2_with fail
      clear p0 p1 p2 p3 hp0 k1 k2 k3
      go_loopw [42] (fun i wr => ∃ j : Nat, j ≤ m ∧ i = .int .i64 j ∧ (kids.take j).all (fun t => holdsT ps t != dec) = true ∧ Blk wr (w.heap.size + 1) 79 #[.string nm, .slice PA pm pc] ∧ Below w.heap.size w wr) (fun i _ => m - (intOf i).toNat)
      case atStart => exact ⟨0, Nat.zero_le _, rfl, rfl, hq0, hbw⟩
      case round =>
        clear hq0 hbw
        obtain ⟨j, hj, rfl, hall, hq, hb⟩ := hrel
        have HA := Lib.hid hall
        clear hall
        by_cases hlt : j < m
        · have hlt' : (j : Int) < (m : Int) := by omega
          have hj0 : (0 : Int) ≤ (j : Int) := by omega
          obtain ⟨b, o, t, k', n', v', B, q, c', rfl, hX, htj, e0, e1, e2, e3, ht⟩ := hk.kid hlt
          replace e0 := (hb.cell (p := ⟨b, o + j * 4, none⟩) hX).trans e0
          replace e1 := (hb.cell (p := ⟨b, o + j * 4 + 1, none⟩) hX).trans e1
          replace e2 := (hb.cell (p := ⟨b, o + j * 4 + 2, none⟩) hX).trans e2
          replace e3 := (hb.cell (p := ⟨b, o + j * 4 + 3, none⟩) hX).trans e3
          have hq1 := hq.alloc (.cells #[.int .i64 k', .string n', .string v', .slice B q c'] 76)
          obtain ⟨q0, q1, _⟩ := blk2 hq1
          have hbz := hb.alloc hb.size (.cells #[.int .i64 k', .string n', .string v', .slice B q c'] 76)
          have HC := Lib.hid (IH.out d t _ _ _ _ _ (ht.below hbz) (hrk t (List.mem_of_getElem? htj)) (hp.below hbz) hpm)
          have HJ := Lib.hid htj
          have hql := hq1.lt
          clear ht htj hk hq hrk hp
          cases hx : (holdsT ps t == dec)
          · have HF := Lib.hid (show (kids.take (j + 1)).all (fun t => holdsT ps t != dec) = true by rw [all_take HJ.out, HA.out]; simp [bne, hx])
            go_wp2_with ((with_reducible refine HC.out.mono ?_); rintro e w1 ⟨rfl, hb1⟩; have g0 := (hb1.cell (p := ⟨w.heap.size + 1, 0, none⟩) hql).trans q0; have g1 := (hb1.cell (p := ⟨w.heap.size + 1, 1, none⟩) hql).trans q1)
            go_roundw
            case rel => exact ⟨j + 1, by omega, by go_num, HF.out, hq1.below hb1 hql, hbz.trans (hb1.mono (by have := hb.size; simp; omega))⟩
            case measure => simp [intOf]; omega
          · have HF := Lib.hid (show holdsT ps (.mk k n v kids) = dec by rw [← HD.out]; exact dec_found HK.out (List.mem_of_getElem? HJ.out) (by rw [HD.out]; simpa using hx))
            go_wp2_with ((with_reducible refine HC.out.mono ?_); rintro e w1 ⟨rfl, hb1⟩; have g0 := (hb1.cell (p := ⟨w.heap.size + 1, 0, none⟩) hql).trans q0; have g1 := (hb1.cell (p := ⟨w.heap.size + 1, 1, none⟩) hql).trans q1)
            go_ret
            exact ⟨ret_bool HF.out.symm, hbz.trans (hb1.mono (by have := hb.size; simp; omega))⟩
        · obtain rfl : j = m := by omega
          have HF := Lib.hid (show holdsT ps (.mk k n v kids) = !dec by rw [← HD.out]; exact dec_end HK.out (by have := HA.out; rw [List.take_of_length_le (by rw [hk.1]; omega)] at this; rw [HD.out]; exact this))
          go_wp2
          go_ret
          exact ⟨ret_bool HF.out.symm, hb⟩
theorem cHolds_any (nm : ByteArray) (PA : Option Addr) (pm pc : Nat) (ps : Props) (D : Nat) (t : CT) (k : Int) (n v : ByteArray) (A : Option Addr) (m c : Nat) (w : World) (ht : CondAt w (· < w.heap.size) D t [.int .i64 k, .string n, .string v, .slice A m c]) (hp : PropsAt w (· < w.heap.size) PA pm ps) (hpm : pm ≤ maxLen) :
    Calls Try.prog 40 #[.agg #[.int .i64 k, .string n, .string v, .slice A m c], .agg #[.string nm, .slice PA pm pc]] w fun e w' => e = .returned (.bool (rightT 20 t && holdsT ps t)) ∧ Below w.heap.size w w' := by
  have hbw := ((Below.refl _ w).alloc (Nat.le_refl _) (.cells #[.int .i64 k, .string n, .string v, .slice A m c] 76)).alloc (by simp) (.cells #[.string nm, .slice PA pm pc] 79)
  have hp0 : Blk ((w.alloc (.cells #[.int .i64 k, .string n, .string v, .slice A m c] 76)).alloc (.cells #[.string nm, .slice PA pm pc] 79)) w.heap.size 76 #[.int .i64 k, .string n, .string v, .slice A m c] := (Blk.new w _ _).alloc _
  have hq0 : Blk ((w.alloc (.cells #[.int .i64 k, .string n, .string v, .slice A m c] 76)).alloc (.cells #[.string nm, .slice PA pm pc] 79)) (w.heap.size + 1) 79 #[.string nm, .slice PA pm pc] := by simpa using Blk.new (w.alloc (.cells #[.int .i64 k, .string n, .string v, .slice A m c] 76)) 79 _
  have HC := Lib.hid (cRight_any D t k n v A m c _ (ht.below hbw))
  have HP := Lib.hid hp0
  have HQ := Lib.hid hq0
  clear hp0 hq0
  cases hr : rightT 20 t
  · rw [hr] at HC
    clear hr
    go_enter Try.func40, Try.ntmps40
    go_wp2_with ((with_reducible refine HC.out.mono ?_); rintro e w1 ⟨rfl, hb1⟩)
    go_ret
    exact ⟨rfl, hbw.trans (hb1.mono (by simp; omega))⟩
  · rw [hr] at HC
    have HR := Lib.hid hr
    clear hr
    go_enter Try.func40, Try.ntmps40
    go_wp2_with ((with_reducible refine HC.out.mono ?_); rintro e w1 ⟨rfl, hb1⟩; obtain ⟨p0, p1, p2, p3⟩ := blkc (HP.out.below hb1 (by simp; omega)); obtain ⟨q0, q1, _⟩ := blk2 (HQ.out.below hb1 (by simp)))
    have hb2 := hbw.trans (hb1.mono (by simp; omega))
    refine (cholds_any nm PA pm pc ps 20 D t _ _ _ _ _ (ht.below hb2) HR.out (hp.below hb2) hpm).mono ?_
    rintro e w2 ⟨rfl, hb3⟩
    go_wp2
    go_ret
    exact ⟨rfl, hb2.trans (hb3.mono hb2.size)⟩
end Go.Proofs.Ytfgblmdmhgllgaa
