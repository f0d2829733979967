/- The reference's Right, has, Holds. -/
import Derived.Test.YtfgblmdmhgllgaaCe
namespace Go.Proofs.Ytfgblmdmhgllgaa
open Go.RowKit

theorem ref_right {f : Nat} {k : Int} {n v : ByteArray} {kids : List CT} {m : Nat} (hl : kids.length = m) (h : (k = 3 ∧ m = 1) ∨ ((k = 4 ∨ k = 5) ∧ 2 ≤ m)) : rightT (f + 1) (.mk k n v kids) = ((emp n && emp v) && kids.all (rightT f)) := by
  rw [rightT, hl]
  congr 1
  rcases h with ⟨rfl, rfl⟩ | ⟨rfl | rfl, h⟩
  · simp [alone]
  · simp [alone, h]
  · simp [alone, h]
set_option maxHeartbeats 2000000 in
set_option maxRecDepth 100000 in
theorem rRight_any : ∀ (f D : Nat) (t : CT) (v0 v1 v2 v3 : Value) (deep : Int) (w : World), CondAt w (· < w.heap.size) D t [v0, v1, v2, v3] → deep = f → deep ≤ 100 →
    Calls Try.prog 38 #[.agg #[v0, v1, v2, v3], .int .i64 deep] w fun e w' => e = .returned (.bool (rightT f t)) ∧ Below w.heap.size w w' := by
  intro f
  induction f with
  | zero =>
    intro D t v0 v1 v2 v3 deep w _ hd _
    have hd1 : deep < 1 := by omega
    have HB := Lib.hid ((Below.refl _ w).alloc (Nat.le_refl _) (.cells #[v0, v1, v2, v3] 76))
    clear hd
    go_enter Try.func38, Try.ntmps38
    go_wp2_with fail
    go_ret
    exact ⟨rfl, HB.out⟩
  | succ f ih =>
    intro D t v0 v1 v2 v3 deep w ht hd h0
    obtain ⟨d, k, n, v, kids, A, m, c, rfl, rfl, hcs, hn, hv, hm, hmc, hk⟩ := ht.form
    simp only [List.cons.injEq, and_true] at hcs
    obtain ⟨rfl, rfl, rfl, rfl⟩ := hcs
    have hd1 : 1 ≤ deep := by omega
    have hd2 : deep - 1 = f := by omega
    have IH := Lib.hid ih
    have HD := Lib.hid hd2
    clear ih ht hd hd2
    have hbw := (Below.refl _ w).alloc (Nat.le_refl _) (.cells #[.int .i64 k, .string n, .string v, .slice A m c] 76)
    have hp0 : Blk (w.alloc (.cells #[.int .i64 k, .string n, .string v, .slice A m c] 76)) w.heap.size 76 #[.int .i64 k, .string n, .string v, .slice A m c] := Blk.new w _ _
    unfold maxLen at hm
    by_cases h12 : k = 1 ∨ k = 2
    · have HR := Lib.hid (show rightT (f + 1) (.mk k n v kids) = (decide (m = 0) && wordB n) by
        rw [rightT, hk.1]
        unfold alone
        rw [if_pos h12]
        by_cases hm0 : m = 0
        · rw [List.eq_nil_of_length_eq_zero (hk.1.trans hm0)]; simp [hm0]
        · simp [hm0])
      have HBW := Lib.hid hbw
      clear hk hp0 hbw
      by_cases hm0 : m = 0
      · subst hm0
        rcases h12 with rfl | rfl
        all_goals
          go_enter Try.func38, Try.ntmps38
          go_wp2_with (first
            | (go_at_call 88; refine (r2Word_any _ _ hn).mono ?_; rintro e w' ⟨rfl, rfl⟩))
          go_ret
          exact ⟨ret_bool (by rw [HR.out]; rfl), HBW.out⟩
      · have hmb : ((m : Int) == 0) = false := by simp; omega
        have HR2 := Lib.hid (show rightT (f + 1) (.mk k n v kids) = false by rw [HR.out]; simp [hm0])
        clear hm0 HR
        rcases h12 with rfl | rfl
        all_goals
          go_enter Try.func38, Try.ntmps38
          go_wp2_with fail
          go_ret
          exact ⟨ret_bool HR2.out.symm, HBW.out⟩
    · by_cases hsz : (k = 3 ∧ m = 1) ∨ ((k = 4 ∨ k = 5) ∧ 2 ≤ m)
      · have HR := Lib.hid (ref_right (f := f) (n := n) (v := v) hk.1 hsz)
        rcases hsz with ⟨rfl, rfl⟩ | ⟨rfl | rfl, h2⟩
        · go_enter Try.func38, Try.ntmps38
          go_wp2_with fail
          go_loopw [5] (fun i wr => ∃ j : Nat, j ≤ 1 ∧ i = .int .i64 j ∧ (kids.take j).all (rightT f) = true ∧ Blk wr w.heap.size 76 #[.int .i64 3, .string n, .string v, .slice A 1 c] ∧ Below w.heap.size w wr) (fun i _ => 1 - (intOf i).toNat)
          case atStart => exact ⟨0, Nat.zero_le _, rfl, rfl, hp0, hbw⟩
          case round =>
            clear hp0 hbw
            obtain ⟨j, hj, rfl, hall, hp, hb⟩ := hrel
            have HA := Lib.hid hall
            clear hall
            obtain ⟨p0, p1, p2, p3⟩ := blkc hp
            by_cases hlt : j < 1
            · have hlt' : (j : Int) < ((1 : Nat) : Int) := by omega
              have hj0 : (0 : Int) ≤ (j : Int) := by omega
              obtain ⟨b, o, t, k', n', v', B, q, c', rfl, hX, htj, e0, e1, e2, e3, ht⟩ := hk.kid hlt
              replace e0 := (hb.cell (p := ⟨b, o + j * 4, none⟩) hX).trans e0
              replace e1 := (hb.cell (p := ⟨b, o + j * 4 + 1, none⟩) hX).trans e1
              replace e2 := (hb.cell (p := ⟨b, o + j * 4 + 2, none⟩) hX).trans e2
              replace e3 := (hb.cell (p := ⟨b, o + j * 4 + 3, none⟩) hX).trans e3
              have hpl := hp.lt
              have HP := Lib.hid hp
              have HT := Lib.hid ((ht.keep (fun i hi => hb.block i hi)).mono (Y := (· < wr.heap.size)) fun i hi => Nat.lt_of_lt_of_le hi hb.size)
              have HC := Lib.hid (IH.out d t _ _ _ _ (deep - 1) wr HT.out HD.out (by omega))
              have HJ := Lib.hid htj
              clear ht htj hk hp
              cases hr : rightT f t
              · rw [hr] at HC
                have HF := Lib.hid (all_no HJ.out hr)
                clear hr
                go_wp2_with ((with_reducible refine HC.out.mono ?_); rintro e w1 ⟨rfl, hb1⟩)
                go_ret
                exact ⟨ret_bool (by rw [HR.out, HF.out, Bool.and_false]), hb.trans (hb1.mono hb.size)⟩
              · rw [hr] at HC
                have HF := Lib.hid (show (kids.take (j + 1)).all (rightT f) = true by rw [all_take HJ.out, HA.out, hr]; rfl)
                clear hr
                go_wp2_with ((with_reducible refine HC.out.mono ?_); rintro e w1 ⟨rfl, hb1⟩)
                go_roundw
                case rel => exact ⟨j + 1, by omega, by go_num, HF.out, HP.out.below hb1 hpl, hb.trans (hb1.mono hb.size)⟩
                case measure => simp [intOf]; omega
            · have hj1 : j = 1 := by omega
              subst hj1
              have HF := Lib.hid (show kids.all (rightT f) = true by have := HA.out; rwa [List.take_of_length_le (by rw [hk.1]; omega)] at this)
              clear hk hp
              cases hn0 : n.toList.isEmpty
              · have hn1 : ¬ n.toList = [] := by intro h; rw [h] at hn0; cases hn0
                have HN := Lib.hid hn0
                clear hn0
                go_wp2
                go_ret
                exact ⟨ret_bool (by rw [HR.out]; unfold emp; rw [HN.out]; rfl), hb⟩
              · have hn1 : n.toList = [] := List.isEmpty_iff.1 hn0
                have HN := Lib.hid hn0
                clear hn0
                go_wp2
                go_ret
                exact ⟨ret_bool (by rw [HR.out, HF.out]; unfold emp; rw [HN.out]; simp), hb⟩
        · go_enter Try.func38, Try.ntmps38
          go_wp2_with fail
          go_loopw [5] (fun i wr => ∃ j : Nat, j ≤ m ∧ i = .int .i64 j ∧ (kids.take j).all (rightT f) = true ∧ Blk wr w.heap.size 76 #[.int .i64 4, .string n, .string v, .slice A m c] ∧ Below w.heap.size w wr) (fun i _ => m - (intOf i).toNat)
          case atStart => exact ⟨0, Nat.zero_le _, rfl, rfl, hp0, hbw⟩
          case round =>
            clear hp0 hbw
            obtain ⟨j, hj, rfl, hall, hp, hb⟩ := hrel
            have HA := Lib.hid hall
            clear hall
            obtain ⟨p0, p1, p2, p3⟩ := blkc hp
            by_cases hlt : j < m
            · have hlt' : (j : Int) < ((m : Nat) : Int) := by omega
              have hj0 : (0 : Int) ≤ (j : Int) := by omega
              obtain ⟨b, o, t, k', n', v', B, q, c', rfl, hX, htj, e0, e1, e2, e3, ht⟩ := hk.kid hlt
              replace e0 := (hb.cell (p := ⟨b, o + j * 4, none⟩) hX).trans e0
              replace e1 := (hb.cell (p := ⟨b, o + j * 4 + 1, none⟩) hX).trans e1
              replace e2 := (hb.cell (p := ⟨b, o + j * 4 + 2, none⟩) hX).trans e2
              replace e3 := (hb.cell (p := ⟨b, o + j * 4 + 3, none⟩) hX).trans e3
              have hpl := hp.lt
              have HP := Lib.hid hp
              have HT := Lib.hid ((ht.keep (fun i hi => hb.block i hi)).mono (Y := (· < wr.heap.size)) fun i hi => Nat.lt_of_lt_of_le hi hb.size)
              have HC := Lib.hid (IH.out d t _ _ _ _ (deep - 1) wr HT.out HD.out (by omega))
              have HJ := Lib.hid htj
              clear ht htj hk hp
              cases hr : rightT f t
              · rw [hr] at HC
                have HF := Lib.hid (all_no HJ.out hr)
                clear hr
                go_wp2_with ((with_reducible refine HC.out.mono ?_); rintro e w1 ⟨rfl, hb1⟩)
                go_ret
                exact ⟨ret_bool (by rw [HR.out, HF.out, Bool.and_false]), hb.trans (hb1.mono hb.size)⟩
              · rw [hr] at HC
                have HF := Lib.hid (show (kids.take (j + 1)).all (rightT f) = true by rw [all_take HJ.out, HA.out, hr]; rfl)
                clear hr
                go_wp2_with ((with_reducible refine HC.out.mono ?_); rintro e w1 ⟨rfl, hb1⟩)
                go_roundw
                case rel => exact ⟨j + 1, by omega, by go_num, HF.out, HP.out.below hb1 hpl, hb.trans (hb1.mono hb.size)⟩
                case measure => simp [intOf]; omega
            · obtain rfl : j = m := by omega
              have HF := Lib.hid (show kids.all (rightT f) = true by have := HA.out; rwa [List.take_of_length_le (by rw [hk.1]; omega)] at this)
              clear hk hp
              cases hn0 : n.toList.isEmpty
              · have hn1 : ¬ n.toList = [] := by intro h; rw [h] at hn0; cases hn0
                have HN := Lib.hid hn0
                clear hn0
                go_wp2
                go_ret
                exact ⟨ret_bool (by rw [HR.out]; unfold emp; rw [HN.out]; rfl), hb⟩
              · have hn1 : n.toList = [] := List.isEmpty_iff.1 hn0
                have HN := Lib.hid hn0
                clear hn0
                go_wp2
                go_ret
                exact ⟨ret_bool (by rw [HR.out, HF.out]; unfold emp; rw [HN.out]; simp), hb⟩
        · go_enter Try.func38, Try.ntmps38
          go_wp2_with fail
          go_loopw [5] (fun i wr => ∃ j : Nat, j ≤ m ∧ i = .int .i64 j ∧ (kids.take j).all (rightT f) = true ∧ Blk wr w.heap.size 76 #[.int .i64 5, .string n, .string v, .slice A m c] ∧ Below w.heap.size w wr) (fun i _ => m - (intOf i).toNat)
          case atStart => exact ⟨0, Nat.zero_le _, rfl, rfl, hp0, hbw⟩
          case round =>
            clear hp0 hbw
            obtain ⟨j, hj, rfl, hall, hp, hb⟩ := hrel
            have HA := Lib.hid hall
            clear hall
            obtain ⟨p0, p1, p2, p3⟩ := blkc hp
            by_cases hlt : j < m
            · have hlt' : (j : Int) < ((m : Nat) : Int) := by omega
              have hj0 : (0 : Int) ≤ (j : Int) := by omega
              obtain ⟨b, o, t, k', n', v', B, q, c', rfl, hX, htj, e0, e1, e2, e3, ht⟩ := hk.kid hlt
              replace e0 := (hb.cell (p := ⟨b, o + j * 4, none⟩) hX).trans e0
              replace e1 := (hb.cell (p := ⟨b, o + j * 4 + 1, none⟩) hX).trans e1
              replace e2 := (hb.cell (p := ⟨b, o + j * 4 + 2, none⟩) hX).trans e2
              replace e3 := (hb.cell (p := ⟨b, o + j * 4 + 3, none⟩) hX).trans e3
              have hpl := hp.lt
              have HP := Lib.hid hp
              have HT := Lib.hid ((ht.keep (fun i hi => hb.block i hi)).mono (Y := (· < wr.heap.size)) fun i hi => Nat.lt_of_lt_of_le hi hb.size)
              have HC := Lib.hid (IH.out d t _ _ _ _ (deep - 1) wr HT.out HD.out (by omega))
              have HJ := Lib.hid htj
              clear ht htj hk hp
              cases hr : rightT f t
              · rw [hr] at HC
                have HF := Lib.hid (all_no HJ.out hr)
                clear hr
                go_wp2_with ((with_reducible refine HC.out.mono ?_); rintro e w1 ⟨rfl, hb1⟩)
                go_ret
                exact ⟨ret_bool (by rw [HR.out, HF.out, Bool.and_false]), hb.trans (hb1.mono hb.size)⟩
              · rw [hr] at HC
                have HF := Lib.hid (show (kids.take (j + 1)).all (rightT f) = true by rw [all_take HJ.out, HA.out, hr]; rfl)
                clear hr
                go_wp2_with ((with_reducible refine HC.out.mono ?_); rintro e w1 ⟨rfl, hb1⟩)
                go_roundw
                case rel => exact ⟨j + 1, by omega, by go_num, HF.out, HP.out.below hb1 hpl, hb.trans (hb1.mono hb.size)⟩
                case measure => simp [intOf]; omega
            · obtain rfl : j = m := by omega
              have HF := Lib.hid (show kids.all (rightT f) = true by have := HA.out; rwa [List.take_of_length_le (by rw [hk.1]; omega)] at this)
              clear hk hp
              cases hn0 : n.toList.isEmpty
              · have hn1 : ¬ n.toList = [] := by intro h; rw [h] at hn0; cases hn0
                have HN := Lib.hid hn0
                clear hn0
                go_wp2
                go_ret
                exact ⟨ret_bool (by rw [HR.out]; unfold emp; rw [HN.out]; rfl), hb⟩
              · have hn1 : n.toList = [] := List.isEmpty_iff.1 hn0
                have HN := Lib.hid hn0
                clear hn0
                go_wp2
                go_ret
                exact ⟨ret_bool (by rw [HR.out, HF.out]; unfold emp; rw [HN.out]; simp), hb⟩
      · have HR := Lib.hid (show rightT (f + 1) (.mk k n v kids) = false by
          rw [rightT, hk.1]
          have : alone k n v m = false := by
            unfold alone
            rw [if_neg h12]
            split
            · simp; omega
            · split
              · simp; omega
              · rfl
          rw [this]; rfl)
        have HBW := Lib.hid hbw
        have k1 : (k == 1) = false := by simp; omega
        have k2 : (k == 2) = false := by simp; omega
        clear hk hp0 hbw h12
        by_cases h3 : k = 3
        · have hmb : ((m : Int) == 1) = false := by simp; omega
          have hmb2 : ((m : Int) != 1) = true := by simp; omega
          subst h3
          clear hsz
          go_enter Try.func38, Try.ntmps38
          go_wp2_with fail
          go_ret
          exact ⟨ret_bool HR.out.symm, HBW.out⟩
        · have k3 : (k == 3) = false := by simpa using h3
          by_cases h45 : k = 4 ∨ k = 5
          · have hmb : decide ((m : Int) < 2) = true := by simp; omega
            have hmb' : (m : Int) < 2 := by omega
            clear hsz h3
            rcases h45 with rfl | rfl
            all_goals
              go_enter Try.func38, Try.ntmps38
              go_wp2_with fail
              go_ret
              exact ⟨ret_bool HR.out.symm, HBW.out⟩
          · have k4 : (k == 4) = false := by simp; omega
            have k5 : (k == 5) = false := by simp; omega
            clear hsz h3 h45
            go_enter Try.func38, Try.ntmps38
            go_wp2_with fail
            go_ret
            exact ⟨ret_bool HR.out.symm, HBW.out⟩
set_option maxHeartbeats 1000000 in
set_option maxRecDepth 100000 in
theorem rhas_any (nm : ByteArray) (A : Option Addr) (m c : Nat) (ps : Props) (n v : ByteArray) (w : World) (hp : PropsAt w (· < w.heap.size) A m ps) (hm : m ≤ maxLen) :
    Calls Try.prog 91 #[.agg #[.string nm, .slice A m c], .string n, .string v] w fun e w' => e = .returned (.bool (hasP ps n v)) ∧ Below w.heap.size w w' := by
  have hbw := (Below.refl _ w).alloc (Nat.le_refl _) (.cells #[.string nm, .slice A m c] 79)
  unfold maxLen at hm
  go_enter Try.func91, Try.ntmps91
  go_wp2_with fail
  go_loopw [7] (fun i wr => ∃ j : Nat, j ≤ m ∧ i = .int .i64 j ∧ (ps.take j).find? (fun p => decide (p.1 = n)) = none ∧ Blk wr w.heap.size 79 #[.string nm, .slice A m c] ∧ Below w.heap.size w wr) (fun i _ => m - (intOf i).toNat)
  case atStart => exact ⟨0, Nat.zero_le _, rfl, rfl, Blk.new w _ _, hbw⟩
  case round =>
    clear hbw
    obtain ⟨j, hj, rfl, hall, hbd, hb⟩ := hrel
    obtain ⟨q0, q1, _⟩ := blk2 hbd
    have HA := Lib.hid hall
    clear hall
    by_cases hlt : j < m
    · have hlt' : (j : Int) < (m : Int) := by omega
      have hj0 : (0 : Int) ≤ (j : Int) := by omega
      obtain ⟨b, o, p, rfl, hX, hpj, _, _, e0, e1⟩ := hp.get hlt
      replace e0 := (hb.cell (p := ⟨b, o + j * 2, none⟩) hX).trans e0
      replace e1 := (hb.cell (p := ⟨b, o + j * 2 + 1, none⟩) hX).trans e1
      obtain ⟨p1, p2⟩ := p
      have HJ := Lib.hid hpj
      clear hp hpj
      by_cases hq : p1 = n
      · have HF := Lib.hid (show (p2.toList == v.toList) = hasP ps n v by
          have := find_take (p := fun p => decide (p.1 = n)) HJ.out HA.out (by simpa using hq)
          unfold hasP; rw [this, str_beq])
        subst hq
        go_wp2
        go_ret
        exact ⟨ret_bool HF.out, hb⟩
      · have HF := Lib.hid (find_snoc (p := fun p => decide (p.1 = n)) HJ.out HA.out (by simpa using hq))
        have hq' := str_no hq
        go_wp2
        go_roundw
        case rel => exact ⟨j + 1, by omega, by go_num, HF.out, hbd, hb⟩
        case measure => simp [intOf]; omega
    · obtain rfl : j = m := by omega
      have HF := Lib.hid (show hasP ps n v = false by have := HA.out; rw [List.take_of_length_le (by rw [hp.1]; omega)] at this; unfold hasP; rw [this])
      go_wp2
      go_ret
      exact ⟨ret_bool HF.out.symm, hb⟩
set_option maxHeartbeats 1000000 in
set_option maxRecDepth 100000 in
theorem rHolds_any (nm : ByteArray) (PA : Option Addr) (pm pc : Nat) (ps : Props) : ∀ (f D : Nat) (t : CT) (v0 v1 v2 v3 : Value) (w : World), CondAt w (· < w.heap.size) D t [v0, v1, v2, v3] → rightT f t = true → PropsAt w (· < w.heap.size) PA pm ps → pm ≤ maxLen →
    Calls Try.prog 41 #[.agg #[v0, v1, v2, v3], .agg #[.string nm, .slice PA pm pc]] w fun e w' => e = .returned (.bool (holdsT ps t)) ∧ Below w.heap.size w w' := by
  intro f
  induction f with
  | zero => intro D t v0 v1 v2 v3 w _ h; cases h
  | succ f ih =>
    intro D t v0 v1 v2 v3 w ht hr hp hpm
    obtain ⟨d, k, n, v, kids, A, m, c, rfl, rfl, hcs, hn, hv, hm, hmc, hk⟩ := ht.form
    simp only [List.cons.injEq, and_true] at hcs
    obtain ⟨rfl, rfl, rfl, rfl⟩ := hcs
    obtain ⟨ha, hrk⟩ := right_kids hr
    rw [hk.1] at ha
    have IH := Lib.hid ih
    clear ih ht hr
    have hbw := ((Below.refl _ w).alloc (Nat.le_refl _) (.cells #[.int .i64 k, .string n, .string v, .slice A m c] 76)).alloc (by simp) (.cells #[.string nm, .slice PA pm pc] 79)
    have hp0 : Blk ((w.alloc (.cells #[.int .i64 k, .string n, .string v, .slice A m c] 76)).alloc (.cells #[.string nm, .slice PA pm pc] 79)) w.heap.size 76 #[.int .i64 k, .string n, .string v, .slice A m c] := (Blk.new w _ _).alloc _
    have hq0 : Blk ((w.alloc (.cells #[.int .i64 k, .string n, .string v, .slice A m c] 76)).alloc (.cells #[.string nm, .slice PA pm pc] 79)) (w.heap.size + 1) 79 #[.string nm, .slice PA pm pc] := by simpa using Blk.new (w.alloc (.cells #[.int .i64 k, .string n, .string v, .slice A m c] 76)) 79 _
    unfold maxLen at hm
    rcases alone_cases ha with ⟨h1 | h1, h2, h3⟩ | ⟨h1, _, _, h4⟩ | ⟨h1, h2, h3, h4⟩
    · subst h1
      have HC := Lib.hid (rhas_any nm PA pm pc ps n v _ (hp.below hbw) hpm)
      have HR := Lib.hid (show holdsT ps (.mk 1 n v kids) = hasP ps n v by rw [holdsT, if_pos rfl])
      clear hp0 hq0 ha h2 h3
      go_enter Try.func41, Try.ntmps41
      go_wp2_with ((with_reducible refine HC.out.mono ?_); rintro e w1 ⟨rfl, hb1⟩)
      go_ret
      exact ⟨ret_bool HR.out.symm, hbw.trans (hb1.mono (by simp; omega))⟩
    · subst h1
      have HC := Lib.hid (rhas_any nm PA pm pc ps n v _ (hp.below hbw) hpm)
      have HR := Lib.hid (show holdsT ps (.mk 2 n v kids) = !hasP ps n v by rw [holdsT, if_neg (by omega), if_pos rfl])
      clear hp0 hq0 ha h2 h3
      go_enter Try.func41, Try.ntmps41
      go_wp2_with ((with_reducible refine HC.out.mono ?_); rintro e w1 ⟨rfl, hb1⟩)
      go_ret
      exact ⟨ret_bool HR.out.symm, hbw.trans (hb1.mono (by simp; omega))⟩
    · subst h1
      subst h4
      obtain ⟨b, o, t, k', n', v', B, q, c', rfl, hX, htj, e0, e1, e2, e3, ht⟩ := hk.kid (i := 0) (by omega)
      rw [Nat.zero_mul, Nat.add_zero] at e0 e1 e2 e3
      have HR := Lib.hid (show holdsT ps (.mk 3 n v kids) = !holdsT ps t by rw [holdsT, if_neg (by omega), if_neg (by omega), if_pos rfl, first_one ps htj])
      have hX' : b < w.heap.size + 1 + 1 := by omega
      replace e0 := (hbw.cell (p := ⟨b, o, none⟩) hX).trans e0
      replace e1 := (hbw.cell (p := ⟨b, o + 1, none⟩) hX).trans e1
      replace e2 := (hbw.cell (p := ⟨b, o + 2, none⟩) hX).trans e2
      replace e3 := (hbw.cell (p := ⟨b, o + 3, none⟩) hX).trans e3
      obtain ⟨p0, p1, p2, p3⟩ := blkc hp0
      obtain ⟨q0, q1, _⟩ := blk2 hq0
      have HC := Lib.hid (IH.out d t _ _ _ _ _ (ht.below hbw).drewB (hrk t (List.mem_of_getElem? htj)) (hp.below hbw).drewB hpm)
      clear hp0 hq0 ha hk ht htj hrk hp
      go_enter Try.func41, Try.ntmps41
      go_wp2_with fail
      go_region_held3 (fun W => W.cell? ⟨w.heap.size, 3, none⟩ = some (.slice (some ⟨b, o, none⟩) 1 c) ∧ W.cell? ⟨w.heap.size + 1, 0, none⟩ = some (.string nm) ∧ W.cell? ⟨w.heap.size + 1, 1, none⟩ = some (.slice PA pm pc) ∧
          W.cell? ⟨b, o, none⟩ = some (.int .i64 k') ∧ W.cell? ⟨b, o + 1, none⟩ = some (.string n') ∧ W.cell? ⟨b, o + 2, none⟩ = some (.string v') ∧ W.cell? ⟨b, o + 3, none⟩ = some (.slice B q c')) (go_keep)
        ((go_at_call 41; (with_reducible refine HC.out.mono ?_); rintro e w3 ⟨rfl, hb3⟩
          have g0 := (hb3.cell (p := ⟨w.heap.size, 3, none⟩) (by simp; omega)).trans p3
          have g1 := (hb3.cell (p := ⟨w.heap.size + 1, 0, none⟩) (by simp)).trans q0
          have g2 := (hb3.cell (p := ⟨w.heap.size + 1, 1, none⟩) (by simp)).trans q1
          have g3 := (hb3.cell (p := ⟨b, o, none⟩) (by simpa using hX')).trans e0
          have g4 := (hb3.cell (p := ⟨b, o + 1, none⟩) (by simpa using hX')).trans e1
          have g5 := (hb3.cell (p := ⟨b, o + 2, none⟩) (by simpa using hX')).trans e2
          have g6 := (hb3.cell (p := ⟨b, o + 3, none⟩) (by simpa using hX')).trans e3))
      go_wp2
      go_ret
      exact ⟨ret_bool HR.out.symm, hbw.trans ((Below.undrew hb3).mono (by simp; omega))⟩
    · have k1 : (k == 1) = false := by simp; omega
      have k2 : (k == 2) = false := by simp; omega
      have k3 : (k == 3) = false := by simp; omega
      have HR4 : k = 4 → holdsT ps (.mk k n v kids) = kids.all (holdsT ps) := fun e => by
        subst e
        simp only [holdsT, show ¬ (4 : Int) = 1 by omega, show ¬ (4 : Int) = 2 by omega, show ¬ (4 : Int) = 3 by omega, show ¬ (4 : Int) = 5 by omega, if_false, allT_eq]
      have HR5 : k = 5 → holdsT ps (.mk k n v kids) = kids.any (holdsT ps) := fun e => by
        subst e
        simp only [holdsT, show ¬ (5 : Int) = 1 by omega, show ¬ (5 : Int) = 2 by omega, show ¬ (5 : Int) = 3 by omega, if_false, if_true, anyT_eq]
      have H4 := Lib.hid HR4
      have H5 := Lib.hid HR5
      have HK := Lib.hid h1
      clear HR4 HR5 ha h1
      go_enter Try.func41, Try.ntmps41
      go_wp2_with fail
      go_loopw [5, 6] (fun cn i wr => ∃ j : Nat, j ≤ m ∧ i = .int .i64 j ∧ cn = .int .i64 (((kids.take j).filter (holdsT ps)).length : Nat) ∧ Blk wr w.heap.size 76 #[.int .i64 k, .string n, .string v, .slice A m c] ∧ Blk wr (w.heap.size + 1) 79 #[.string nm, .slice PA pm pc] ∧ Below w.heap.size w wr) (fun _ i _ => m - (intOf i).toNat)
      case atStart => exact ⟨0, Nat.zero_le _, rfl, rfl, hp0, hq0, hbw⟩
      case round =>
        clear hp0 hq0 hbw
        obtain ⟨j, hj, rfl, rfl, hp1, hq1, hb⟩ := hrel
        obtain ⟨p0, p1, p2, p3⟩ := blkc hp1
        obtain ⟨q0, q1, _⟩ := blk2 hq1
        have hcn : ((kids.take j).filter (holdsT ps)).length ≤ j := Nat.le_trans (List.length_filter_le _ _) (List.length_take_le _ _)
        by_cases hlt : j < m
        · have hlt' : (j : Int) < (m : Int) := by omega
          have hj0 : (0 : Int) ≤ (j : Int) := by omega
          obtain ⟨b, o, t, k', n', v', B, q, c', rfl, hX, htj, e0, e1, e2, e3, ht⟩ := hk.kid hlt
          replace e0 := (hb.cell (p := ⟨b, o + j * 4, none⟩) hX).trans e0
          replace e1 := (hb.cell (p := ⟨b, o + j * 4 + 1, none⟩) hX).trans e1
          replace e2 := (hb.cell (p := ⟨b, o + j * 4 + 2, none⟩) hX).trans e2
          replace e3 := (hb.cell (p := ⟨b, o + j * 4 + 3, none⟩) hX).trans e3
          have hX' : b < wr.heap.size := Nat.lt_of_lt_of_le hX hb.size
          have hL0 := hp1.lt
          have hL1 := hq1.lt
          have hcond : CondAt wr (· < wr.heap.size) d t [.int .i64 k', .string n', .string v', .slice B q c'] := (ht.keep (fun i hi => hb.block i hi)).mono fun i hi => Nat.lt_of_lt_of_le hi hb.size
          have hprop : PropsAt wr (· < wr.heap.size) PA pm ps := (hp.keep (fun i hi => hb.block i hi)).mono fun i hi => Nat.lt_of_lt_of_le hi hb.size
          have HC := Lib.hid (IH.out d t _ _ _ _ wr.drew hcond.drewB (hrk t (List.mem_of_getElem? htj)) hprop.drewB hpm)
          have HJ := Lib.hid htj
          have HP := Lib.hid hp1
          have HQ := Lib.hid hq1
          have hfl : ((kids.take (j + 1)).filter (holdsT ps)).length = ((kids.take j).filter (holdsT ps)).length + if holdsT ps t then 1 else 0 := by
            rw [List.take_add_one, htj, List.filter_append, List.length_append]
            congr 1
            simp only [Option.toList_some, List.filter_cons, List.filter_nil]
            split <;> rfl
          have HFL := Lib.hid hfl
          clear ht htj hk hrk hp hcond hprop hp1 hq1 hfl
          generalize ((kids.take j).filter (holdsT ps)).length = cn at hcn HFL
          cases hx : holdsT ps t
          all_goals
            rw [hx] at HC HFL
            clear hx
            go_wp2_with fail
            go_region_held3 (fun W => W.cell? ⟨w.heap.size, 3, none⟩ = some (.slice (some ⟨b, o, none⟩) m c) ∧ W.cell? ⟨w.heap.size + 1, 0, none⟩ = some (.string nm) ∧ W.cell? ⟨w.heap.size + 1, 1, none⟩ = some (.slice PA pm pc) ∧
                W.cell? ⟨b, o + j * 4, none⟩ = some (.int .i64 k') ∧ W.cell? ⟨b, o + j * 4 + 1, none⟩ = some (.string n') ∧ W.cell? ⟨b, o + j * 4 + 2, none⟩ = some (.string v') ∧ W.cell? ⟨b, o + j * 4 + 3, none⟩ = some (.slice B q c')) (go_keep)
              ((go_at_call 41; (with_reducible refine HC.out.mono ?_); rintro e w3 ⟨rfl, hb3⟩
                have g0 := (hb3.cell (p := ⟨w.heap.size, 3, none⟩) hL0).trans p3
                have g1 := (hb3.cell (p := ⟨w.heap.size + 1, 0, none⟩) hL1).trans q0
                have g2 := (hb3.cell (p := ⟨w.heap.size + 1, 1, none⟩) hL1).trans q1
                have g3 := (hb3.cell (p := ⟨b, o + j * 4, none⟩) hX').trans e0
                have g4 := (hb3.cell (p := ⟨b, o + j * 4 + 1, none⟩) hX').trans e1
                have g5 := (hb3.cell (p := ⟨b, o + j * 4 + 2, none⟩) hX').trans e2
                have g6 := (hb3.cell (p := ⟨b, o + j * 4 + 3, none⟩) hX').trans e3))
            have hb4 := Below.undrew hb3
            go_wp2
            go_roundw
            case rel => exact ⟨j + 1, by omega, by go_num, by rw [HFL.out]; first | go_num | simp, HP.out.below hb4 hL0, HQ.out.below hb4 hL1, hb.trans (hb4.mono hb.size)⟩
            case measure => simp [intOf]; omega
        · obtain rfl : j = m := by omega
          rw [List.take_of_length_le (by rw [hk.1]; omega)] at hcn ⊢
          have hkl := hk.1
          have hall : kids.all (holdsT ps) = decide ((kids.filter (holdsT ps)).length = j) := by
            rw [Bool.eq_iff_iff, List.all_eq_true, decide_eq_true_eq, ← hkl, List.length_filter_eq_length_iff]
          have hany : kids.any (holdsT ps) = decide (0 < (kids.filter (holdsT ps)).length) := by
            rw [Bool.eq_iff_iff, List.any_eq_true, decide_eq_true_eq, List.length_pos_iff_exists_mem]
            simp only [List.mem_filter]
          have HALL := Lib.hid hall
          have HANY := Lib.hid hany
          clear hall hany hk
          generalize (kids.filter (holdsT ps)).length = cn at hcn HALL HANY
          rcases HK.out with rfl | rfl
          · have H := Lib.hid (H4.out rfl)
            clear H4 H5 HK
            go_wp2
            go_ret
            exact ⟨ret_bool (by rw [H.out, HALL.out, Bool.eq_iff_iff]; simp; omega), hb⟩
          · have H := Lib.hid (H5.out rfl)
            clear H4 H5 HK
            go_wp2
            go_ret
            exact ⟨ret_bool (by rw [H.out, HANY.out, Bool.eq_iff_iff]), hb⟩
end Go.Proofs.Ytfgblmdmhgllgaa
