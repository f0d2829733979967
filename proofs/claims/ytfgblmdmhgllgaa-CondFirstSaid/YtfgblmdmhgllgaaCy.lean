/- CondFirst's walk. -/
import Derived.Test.YtfgblmdmhgllgaaCx
namespace Go.Proofs.Ytfgblmdmhgllgaa
open Go.RowKit Go.Maps

def isntT (n v : ByteArray) : CT := .mk 2 n v []
theorem isnt_at (w : World) (X : Nat → Prop) (d : Nat) (n v : ByteArray) (hn : n.size ≤ maxLen) (hv : v.size ≤ maxLen) : CondAt w X (d + 1) (isntT n v) [.int .i64 2, .string n, .string v, .slice none 0 0] :=
  CondAt.of hn hv (Nat.zero_le _) (Nat.le_refl _) ⟨rfl, fun h => by omega⟩
theorem props2 {w : World} {q : Nat} {n1 v1 n2 v2 : ByteArray} (hB : Blk w q 88 #[.string n1, .string v1, .string n2, .string v2]) (hq : q < w.heap.size) (h1 : n1.size ≤ maxLen) (h2 : v1.size ≤ maxLen) (h3 : n2.size ≤ maxLen) (h4 : v2.size ≤ maxLen) : PropsAt w (· < w.heap.size) (some ⟨q, 0, none⟩) 2 [(n1, v1), (n2, v2)] := by
  refine ⟨rfl, fun p hp => ?_, fun _ => ⟨q, 0, rfl, hq, fun i p hp => ?_⟩⟩
  · simp at hp
    rcases hp with rfl | rfl
    · exact ⟨h1, h2⟩
    · exact ⟨h3, h4⟩
  · match i, hp with
    | 0, hp => simp at hp; subst hp; exact ⟨hB.cell 0, hB.cell 1⟩
    | 1, hp => simp at hp; subst hp; exact ⟨hB.cell 2, hB.cell 3⟩
theorem isT_right (n v : ByteArray) : rightT 20 (isT n v) = wordB n := by simp [rightT, isT, alone]
theorem isntT_right (n v : ByteArray) : rightT 20 (isntT n v) = wordB n := by simp [rightT, isntT, alone]
theorem isT_holds (ps : Props) (n v : ByteArray) : holdsT ps (isT n v) = hasP ps n v := by simp [holdsT, isT]
theorem isntT_holds (ps : Props) (n v : ByteArray) : holdsT ps (isntT n v) = !hasP ps n v := by simp [holdsT, isntT]
theorem hasP_one (ps : Props) (n v u : ByteArray) : hasP ((n, u) :: ps) n v = decide (u = v) := by simp [hasP]
theorem hasP_nil (n v : ByteArray) : hasP [] n v = false := rfl
set_option maxHeartbeats 4000000 in
set_option maxRecDepth 100000 in
theorem condFirst_walk (nm a b : ByteArray) (hn : nm.size ≤ maxLen) (ha : a.size ≤ maxLen) (hb0 : b.size ≤ maxLen) (w : World) :
    Calls Try.prog 11 #[.string nm, .string a, .string b] w fun e w' => e = .returned (.bool true) ∧ Below w.heap.size w w' := by
  cases hw : wordB nm
  · have HR := Lib.hid (show rightT 20 (isT nm a) = false by rw [isT_right, hw])
    clear hw
    go_enter Try.func11, Try.ntmps11
    go_wp2_with fail
    refine (alive_any w).mono ?_
    rintro e w1 ⟨rfl, hb1⟩
    go_wp2_with fail
    refine (lis_any _ _ _).mono ?_
    rintro e w2 ⟨rfl, hb2⟩
    have hb2' := hb1.trans (hb2.mono hb1.size)
    have hb3 := (Below.refl _ w2).alloc (Nat.le_refl _) (.cells #[.int .i64 1, .string nm, .string a, .slice none 0 0] 76)
    have HC := Lib.hid (cRight_any 1 (isT nm a) _ _ _ _ _ _ (w2.alloc (.cells #[.int .i64 1, .string nm, .string a, .slice none 0 0] 76)) (is_at _ _ 0 nm a hn ha))
    rw [HR.out] at HC
    have HP := Lib.hid (Blk.new w2 76 #[.int .i64 1, .string nm, .string a, .slice none 0 0])
    clear hb1 hb2
    go_wp2_with fail
    refine HC.out.mono ?_
    rintro e w4 ⟨rfl, hb4⟩
    obtain ⟨p0, p1, p2, p3⟩ := blkc (HP.out.below hb4 (by simp))
    have hb4' := hb2'.trans ((hb3.trans (hb4.mono hb3.size)).mono hb2'.size)
    have hb5 := (Below.refl _ w4).alloc (Nat.le_refl _) (.cells #[.string nm, .string a] 88)
    have HD := Lib.hid (cHolds_any ⟨#[]⟩ (some ⟨w4.heap.size, 0, none⟩) 1 1 [(nm, a)] 1 (isT nm a) _ _ _ _ _ _ (w4.alloc (.cells #[.string nm, .string a] 88)) (is_at _ _ 0 nm a hn ha) (props1 w4 nm a hn ha) (by unfold maxLen; omega))
    rw [HR.out, Bool.false_and] at HD
    clear hb4 hb3 hb2'
    go_wp2_with fail
    refine HD.out.mono ?_
    rintro e w5 ⟨rfl, hb6⟩
    go_wp2
    go_ret
    exact ⟨rfl, hb4'.trans ((hb5.trans (hb6.mono hb5.size)).mono hb4'.size)⟩
  · have HR := Lib.hid (show rightT 20 (isT nm a) = true by rw [isT_right, hw])
    have h2 := Lib.hid (show (rightT 20 (isT nm a) && holdsT [(nm, a), (nm, b)] (isT nm a)) = true by rw [isT_right, hw, isT_holds, hasP_one]; simp)
    have h4 := Lib.hid (show (rightT 20 (isT nm a) && holdsT [] (isT nm a)) = false by rw [isT_right, hw, isT_holds, hasP_nil]; rfl)
    have h5 := Lib.hid (show (rightT 20 (isntT nm a) && holdsT [] (isntT nm a)) = true by rw [isntT_right, hw, isntT_holds, hasP_nil]; rfl)
    have h6 := Lib.hid (show (rightT 20 (isT nm ⟨#[]⟩) && holdsT [] (isT nm ⟨#[]⟩)) = false by rw [isT_right, hw, isT_holds, hasP_nil]; rfl)
    have h1 := Lib.hid (show (rightT 20 (isT nm a) && holdsT [(nm, b), (nm, a)] (isT nm a)) = decide (b = a) by rw [isT_right, hw, isT_holds, hasP_one]; rfl)
    have h3 := Lib.hid (show (rightT 20 (isntT nm a) && holdsT [(nm, b), (nm, a)] (isntT nm a)) = !decide (b = a) by rw [isntT_right, hw, isntT_holds, hasP_one]; rfl)
    clear hw
    go_enter Try.func11, Try.ntmps11
    go_wp2_with fail
    refine (alive_any w).mono ?_
    rintro e w1 ⟨rfl, hb1⟩
    go_wp2_with fail
    refine (lis_any _ _ _).mono ?_
    rintro e w2 ⟨rfl, hb2⟩
    have hb2' := hb1.trans (hb2.mono hb1.size)
    have hb3 := (Below.refl _ w2).alloc (Nat.le_refl _) (.cells #[.int .i64 1, .string nm, .string a, .slice none 0 0] 76)
    have HC := Lib.hid (cRight_any 1 (isT nm a) _ _ _ _ _ _ (w2.alloc (.cells #[.int .i64 1, .string nm, .string a, .slice none 0 0] 76)) (is_at _ _ 0 nm a hn ha))
    rw [HR.out] at HC
    have HP := Lib.hid (Blk.new w2 76 #[.int .i64 1, .string nm, .string a, .slice none 0 0])
    clear hb1 hb2
    go_wp2_with fail
    refine HC.out.mono ?_
    rintro e w4 ⟨rfl, hb4⟩
    obtain ⟨p0, p1, p2, p3⟩ := blkc (HP.out.below hb4 (by simp))
    have hb4' := hb2'.trans ((hb3.trans (hb4.mono hb3.size)).mono hb2'.size)
    have hcl : w2.heap.size < w4.heap.size := by have := hb4.size; simp at this; omega
    have hcl1 : w2.heap.size < w4.heap.size + 1 := by omega
    have hcl2 : w2.heap.size < w4.heap.size + 1 + 1 := by omega
    have hcl3 : w2.heap.size < w4.heap.size + 1 + 1 + 1 := by omega
    have hcl4 : w2.heap.size < w4.heap.size + 1 + 1 + 1 + 1 := by omega
    have hB0 := Below.refl ((((((w4.alloc (.cells #[.string nm, .string b, .string nm, .string a] 88)).alloc (.cells #[.string ⟨#[]⟩, .slice (some ⟨w4.heap.size, 0, none⟩) 2 2] 79)).alloc (.cells #[.string nm, .string a, .string nm, .string b] 88)).alloc (.cells #[.string ⟨#[]⟩, .slice (some ⟨w4.heap.size + 1 + 1, 0, none⟩) 2 2] 79)).alloc (.cells #[.int .i64 2, .string nm, .string a, .slice none 0 0] 76))).heap.size ((((((w4.alloc (.cells #[.string nm, .string b, .string nm, .string a] 88)).alloc (.cells #[.string ⟨#[]⟩, .slice (some ⟨w4.heap.size, 0, none⟩) 2 2] 79)).alloc (.cells #[.string nm, .string a, .string nm, .string b] 88)).alloc (.cells #[.string ⟨#[]⟩, .slice (some ⟨w4.heap.size + 1 + 1, 0, none⟩) 2 2] 79)).alloc (.cells #[.int .i64 2, .string nm, .string a, .slice none 0 0] 76)))
    have hbW : Below w.heap.size w ((((((w4.alloc (.cells #[.string nm, .string b, .string nm, .string a] 88)).alloc (.cells #[.string ⟨#[]⟩, .slice (some ⟨w4.heap.size, 0, none⟩) 2 2] 79)).alloc (.cells #[.string nm, .string a, .string nm, .string b] 88)).alloc (.cells #[.string ⟨#[]⟩, .slice (some ⟨w4.heap.size + 1 + 1, 0, none⟩) 2 2] 79)).alloc (.cells #[.int .i64 2, .string nm, .string a, .slice none 0 0] 76))) := ((((hb4'.alloc hb4'.size _).alloc (by have := hb4'.size; simp; omega) _).alloc (by have := hb4'.size; simp; omega) _).alloc (by have := hb4'.size; simp; omega) _).alloc (by have := hb4'.size; simp; omega) _
    have HP0 := Lib.hid (show Blk ((((((w4.alloc (.cells #[.string nm, .string b, .string nm, .string a] 88)).alloc (.cells #[.string ⟨#[]⟩, .slice (some ⟨w4.heap.size, 0, none⟩) 2 2] 79)).alloc (.cells #[.string nm, .string a, .string nm, .string b] 88)).alloc (.cells #[.string ⟨#[]⟩, .slice (some ⟨w4.heap.size + 1 + 1, 0, none⟩) 2 2] 79)).alloc (.cells #[.int .i64 2, .string nm, .string a, .slice none 0 0] 76))) w2.heap.size 76 #[.int .i64 1, .string nm, .string a, .slice none 0 0] from (((((HP.out.below hb4 (by simp)).alloc _).alloc _).alloc _).alloc _).alloc _)
    have HP1 := Lib.hid (show Blk ((((((w4.alloc (.cells #[.string nm, .string b, .string nm, .string a] 88)).alloc (.cells #[.string ⟨#[]⟩, .slice (some ⟨w4.heap.size, 0, none⟩) 2 2] 79)).alloc (.cells #[.string nm, .string a, .string nm, .string b] 88)).alloc (.cells #[.string ⟨#[]⟩, .slice (some ⟨w4.heap.size + 1 + 1, 0, none⟩) 2 2] 79)).alloc (.cells #[.int .i64 2, .string nm, .string a, .slice none 0 0] 76))) w4.heap.size 88 #[.string nm, .string b, .string nm, .string a] from ((((Blk.new w4 _ _).alloc _).alloc _).alloc _).alloc _)
    have HP2 := Lib.hid (show Blk ((((((w4.alloc (.cells #[.string nm, .string b, .string nm, .string a] 88)).alloc (.cells #[.string ⟨#[]⟩, .slice (some ⟨w4.heap.size, 0, none⟩) 2 2] 79)).alloc (.cells #[.string nm, .string a, .string nm, .string b] 88)).alloc (.cells #[.string ⟨#[]⟩, .slice (some ⟨w4.heap.size + 1 + 1, 0, none⟩) 2 2] 79)).alloc (.cells #[.int .i64 2, .string nm, .string a, .slice none 0 0] 76))) (w4.heap.size + 1) 79 #[.string ⟨#[]⟩, .slice (some ⟨w4.heap.size, 0, none⟩) 2 2] from by simpa using (((Blk.new (w4.alloc (.cells #[.string nm, .string b, .string nm, .string a] 88)) 79 #[.string ⟨#[]⟩, .slice (some ⟨w4.heap.size, 0, none⟩) 2 2]).alloc (.cells #[.string nm, .string a, .string nm, .string b] 88)).alloc (.cells #[.string ⟨#[]⟩, .slice (some ⟨w4.heap.size + 1 + 1, 0, none⟩) 2 2] 79)).alloc (.cells #[.int .i64 2, .string nm, .string a, .slice none 0 0] 76))
    have HP3 := Lib.hid (show Blk ((((((w4.alloc (.cells #[.string nm, .string b, .string nm, .string a] 88)).alloc (.cells #[.string ⟨#[]⟩, .slice (some ⟨w4.heap.size, 0, none⟩) 2 2] 79)).alloc (.cells #[.string nm, .string a, .string nm, .string b] 88)).alloc (.cells #[.string ⟨#[]⟩, .slice (some ⟨w4.heap.size + 1 + 1, 0, none⟩) 2 2] 79)).alloc (.cells #[.int .i64 2, .string nm, .string a, .slice none 0 0] 76))) (w4.heap.size + 1 + 1) 88 #[.string nm, .string a, .string nm, .string b] from by simpa using ((Blk.new ((w4.alloc (.cells #[.string nm, .string b, .string nm, .string a] 88)).alloc (.cells #[.string ⟨#[]⟩, .slice (some ⟨w4.heap.size, 0, none⟩) 2 2] 79)) 88 #[.string nm, .string a, .string nm, .string b]).alloc (.cells #[.string ⟨#[]⟩, .slice (some ⟨w4.heap.size + 1 + 1, 0, none⟩) 2 2] 79)).alloc (.cells #[.int .i64 2, .string nm, .string a, .slice none 0 0] 76))
    have HP4 := Lib.hid (show Blk ((((((w4.alloc (.cells #[.string nm, .string b, .string nm, .string a] 88)).alloc (.cells #[.string ⟨#[]⟩, .slice (some ⟨w4.heap.size, 0, none⟩) 2 2] 79)).alloc (.cells #[.string nm, .string a, .string nm, .string b] 88)).alloc (.cells #[.string ⟨#[]⟩, .slice (some ⟨w4.heap.size + 1 + 1, 0, none⟩) 2 2] 79)).alloc (.cells #[.int .i64 2, .string nm, .string a, .slice none 0 0] 76))) (w4.heap.size + 1 + 1 + 1) 79 #[.string ⟨#[]⟩, .slice (some ⟨w4.heap.size + 1 + 1, 0, none⟩) 2 2] from by simpa using (Blk.new (((w4.alloc (.cells #[.string nm, .string b, .string nm, .string a] 88)).alloc (.cells #[.string ⟨#[]⟩, .slice (some ⟨w4.heap.size, 0, none⟩) 2 2] 79)).alloc (.cells #[.string nm, .string a, .string nm, .string b] 88)) 79 #[.string ⟨#[]⟩, .slice (some ⟨w4.heap.size + 1 + 1, 0, none⟩) 2 2]).alloc (.cells #[.int .i64 2, .string nm, .string a, .slice none 0 0] 76))
    have HP5 := Lib.hid (show Blk ((((((w4.alloc (.cells #[.string nm, .string b, .string nm, .string a] 88)).alloc (.cells #[.string ⟨#[]⟩, .slice (some ⟨w4.heap.size, 0, none⟩) 2 2] 79)).alloc (.cells #[.string nm, .string a, .string nm, .string b] 88)).alloc (.cells #[.string ⟨#[]⟩, .slice (some ⟨w4.heap.size + 1 + 1, 0, none⟩) 2 2] 79)).alloc (.cells #[.int .i64 2, .string nm, .string a, .slice none 0 0] 76))) (w4.heap.size + 1 + 1 + 1 + 1) 76 #[.int .i64 2, .string nm, .string a, .slice none 0 0] from by simpa using Blk.new ((((w4.alloc (.cells #[.string nm, .string b, .string nm, .string a] 88)).alloc (.cells #[.string ⟨#[]⟩, .slice (some ⟨w4.heap.size, 0, none⟩) 2 2] 79)).alloc (.cells #[.string nm, .string a, .string nm, .string b] 88)).alloc (.cells #[.string ⟨#[]⟩, .slice (some ⟨w4.heap.size + 1 + 1, 0, none⟩) 2 2] 79)) 76 #[.int .i64 2, .string nm, .string a, .slice none 0 0])
    clear hb4 hb4' hb3 hb2' HC HR
    by_cases hab : b = a
    · have hq1 : (a.toList == b.toList) = true := by rw [hab]; simp
      have hq2 : (a.toList != b.toList) = false := by rw [hab]; simp
      replace h1 := Lib.hid (h1.out.trans (decide_eq_true hab))
      replace h3 := Lib.hid (h3.out.trans (by rw [decide_eq_true hab]; rfl : _ = false))
      clear hab
      have HC := Lib.hid (cHolds_any ⟨#[]⟩ (some ⟨w4.heap.size, 0, none⟩) 2 2 [(nm, b), (nm, a)] 1 (isT nm a) _ _ _ _ _ _ _ (is_at _ _ 0 nm a hn ha) (props2 ((HP1.out).below hB0 (by simp; try omega)) (Nat.lt_of_lt_of_le (by simp; try omega) hB0.size) hn hb0 hn ha) (by unfold maxLen; omega))
      rw [h1.out] at HC
      skip
      go_wp2_with fail
      refine HC.out.mono ?_
      clear HC
      rintro e wa0 ⟨rfl, hc0⟩
      have hB1 := hB0.trans (hc0.mono hB0.size)
      clear hc0 
      obtain ⟨f0_0, f0_1, f0_2, f0_3⟩ := blkc ((HP0.out).below hB1 (by simp; try omega))
      obtain ⟨f0_4, f0_5, -⟩ := blk2 ((HP2.out).below hB1 (by simp; try omega))
      obtain ⟨f0_6, f0_7, -⟩ := blk2 ((HP4.out).below hB1 (by simp; try omega))
      obtain ⟨f0_8, f0_9, f0_10, f0_11⟩ := blkc ((HP5.out).below hB1 (by simp; try omega))
      have HC := Lib.hid (cHolds_any ⟨#[]⟩ (some ⟨w4.heap.size + 1 + 1, 0, none⟩) 2 2 [(nm, a), (nm, b)] 1 (isT nm a) _ _ _ _ _ _ _ (is_at _ _ 0 nm a hn ha) (props2 ((HP3.out).below hB1 (by simp; try omega)) (Nat.lt_of_lt_of_le (by simp; try omega) hB1.size) hn ha hn hb0) (by unfold maxLen; omega))
      rw [h2.out] at HC
      skip
      go_wp2_with fail
      refine HC.out.mono ?_
      clear HC
      rintro e wa1 ⟨rfl, hc1⟩
      have hB2 := hB1.trans (hc1.mono hB1.size)
      clear hc1 f0_0 f0_1 f0_2 f0_3 f0_4 f0_5 f0_6 f0_7 f0_8 f0_9 f0_10 f0_11
      obtain ⟨f1_0, f1_1, f1_2, f1_3⟩ := blkc ((HP0.out).below hB2 (by simp; try omega))
      obtain ⟨f1_4, f1_5, -⟩ := blk2 ((HP2.out).below hB2 (by simp; try omega))
      obtain ⟨f1_6, f1_7, -⟩ := blk2 ((HP4.out).below hB2 (by simp; try omega))
      obtain ⟨f1_8, f1_9, f1_10, f1_11⟩ := blkc ((HP5.out).below hB2 (by simp; try omega))
      have HC := Lib.hid (cHolds_any ⟨#[]⟩ (some ⟨w4.heap.size, 0, none⟩) 2 2 [(nm, b), (nm, a)] 1 (isntT nm a) _ _ _ _ _ _ _ (isnt_at _ _ 0 nm a hn ha) (props2 ((HP1.out).below hB2 (by simp; try omega)) (Nat.lt_of_lt_of_le (by simp; try omega) hB2.size) hn hb0 hn ha) (by unfold maxLen; omega))
      rw [h3.out] at HC
      skip
      go_wp2_with fail
      refine HC.out.mono ?_
      clear HC
      rintro e wa2 ⟨rfl, hc2⟩
      have hB3 := hB2.trans (hc2.mono hB2.size)
      clear hc2 f1_0 f1_1 f1_2 f1_3 f1_4 f1_5 f1_6 f1_7 f1_8 f1_9 f1_10 f1_11
      obtain ⟨f2_0, f2_1, f2_2, f2_3⟩ := blkc ((HP0.out).below hB3 (by simp; try omega))
      obtain ⟨f2_4, f2_5, -⟩ := blk2 ((HP2.out).below hB3 (by simp; try omega))
      obtain ⟨f2_6, f2_7, -⟩ := blk2 ((HP4.out).below hB3 (by simp; try omega))
      obtain ⟨f2_8, f2_9, f2_10, f2_11⟩ := blkc ((HP5.out).below hB3 (by simp; try omega))
      have HC := Lib.hid (cHolds_any ⟨#[]⟩ none 0 0 [] 1 (isT nm a) _ _ _ _ _ _ _ (is_at _ _ 0 nm a hn ha) (props0 wa2) (by unfold maxLen; omega))
      rw [h4.out] at HC
      skip
      go_wp2_with fail
      refine HC.out.mono ?_
      clear HC
      rintro e wa3 ⟨rfl, hc3⟩
      have hB4 := hB3.trans (hc3.mono hB3.size)
      clear hc3 f2_0 f2_1 f2_2 f2_3 f2_4 f2_5 f2_6 f2_7 f2_8 f2_9 f2_10 f2_11
      obtain ⟨f3_0, f3_1, f3_2, f3_3⟩ := blkc ((HP0.out).below hB4 (by simp; try omega))
      obtain ⟨f3_4, f3_5, -⟩ := blk2 ((HP2.out).below hB4 (by simp; try omega))
      obtain ⟨f3_6, f3_7, -⟩ := blk2 ((HP4.out).below hB4 (by simp; try omega))
      obtain ⟨f3_8, f3_9, f3_10, f3_11⟩ := blkc ((HP5.out).below hB4 (by simp; try omega))
      have HC := Lib.hid (cHolds_any ⟨#[]⟩ none 0 0 [] 1 (isntT nm a) _ _ _ _ _ _ _ (isnt_at _ _ 0 nm a hn ha) (props0 wa3) (by unfold maxLen; omega))
      rw [h5.out] at HC
      skip
      go_wp2_with fail
      refine HC.out.mono ?_
      clear HC
      rintro e wa4 ⟨rfl, hc4⟩
      have hB5 := hB4.trans (hc4.mono hB4.size)
      clear hc4 f3_0 f3_1 f3_2 f3_3 f3_4 f3_5 f3_6 f3_7 f3_8 f3_9 f3_10 f3_11
      obtain ⟨f4_0, f4_1, f4_2, f4_3⟩ := blkc ((HP0.out).below hB5 (by simp; try omega))
      obtain ⟨f4_4, f4_5, -⟩ := blk2 ((HP2.out).below hB5 (by simp; try omega))
      obtain ⟨f4_6, f4_7, -⟩ := blk2 ((HP4.out).below hB5 (by simp; try omega))
      obtain ⟨f4_8, f4_9, f4_10, f4_11⟩ := blkc ((HP5.out).below hB5 (by simp; try omega))
      clear f4_0 f4_1 f4_2 f4_3 f4_4 f4_5 f4_6 f4_7 f4_8 f4_9 f4_10 f4_11
      go_wp2_with fail
      refine (lis_any _ _ _).mono ?_
      rintro e w7 ⟨rfl, hc7⟩
      have hB7 := hB5.trans (hc7.mono hB5.size)
      have HC := Lib.hid (cHolds_any ⟨#[]⟩ none 0 0 [] 1 (isT nm ⟨#[]⟩) _ _ _ _ _ _ w7 (is_at _ _ 0 nm _ hn empty_str) (props0 _) (by unfold maxLen; omega))
      rw [h6.out] at HC
      clear hc7
      go_wp2_with fail
      refine HC.out.mono ?_
      rintro e w8 ⟨rfl, hc8⟩
      go_wp2
      go_ret
      exact ⟨rfl, hbW.trans ((hB7.trans (hc8.mono hB7.size)).mono hbW.size)⟩
    · have hq1 : (a.toList == b.toList) = false := str_no fun e => hab e.symm
      have hq2 : (a.toList != b.toList) = true := by simp [bne, hq1]
      replace h1 := Lib.hid (h1.out.trans (decide_eq_false hab))
      replace h3 := Lib.hid (h3.out.trans (by rw [decide_eq_false hab]; rfl : _ = true))
      clear hab
      have HC := Lib.hid (cHolds_any ⟨#[]⟩ (some ⟨w4.heap.size, 0, none⟩) 2 2 [(nm, b), (nm, a)] 1 (isT nm a) _ _ _ _ _ _ _ (is_at _ _ 0 nm a hn ha) (props2 ((HP1.out).below hB0 (by simp; try omega)) (Nat.lt_of_lt_of_le (by simp; try omega) hB0.size) hn hb0 hn ha) (by unfold maxLen; omega))
      rw [h1.out] at HC
      skip
      go_wp2_with fail
      refine HC.out.mono ?_
      clear HC
      rintro e wa0 ⟨rfl, hc0⟩
      have hB1 := hB0.trans (hc0.mono hB0.size)
      clear hc0 
      obtain ⟨f0_0, f0_1, f0_2, f0_3⟩ := blkc ((HP0.out).below hB1 (by simp; try omega))
      obtain ⟨f0_4, f0_5, -⟩ := blk2 ((HP2.out).below hB1 (by simp; try omega))
      obtain ⟨f0_6, f0_7, -⟩ := blk2 ((HP4.out).below hB1 (by simp; try omega))
      obtain ⟨f0_8, f0_9, f0_10, f0_11⟩ := blkc ((HP5.out).below hB1 (by simp; try omega))
      have HC := Lib.hid (cHolds_any ⟨#[]⟩ (some ⟨w4.heap.size + 1 + 1, 0, none⟩) 2 2 [(nm, a), (nm, b)] 1 (isT nm a) _ _ _ _ _ _ _ (is_at _ _ 0 nm a hn ha) (props2 ((HP3.out).below hB1 (by simp; try omega)) (Nat.lt_of_lt_of_le (by simp; try omega) hB1.size) hn ha hn hb0) (by unfold maxLen; omega))
      rw [h2.out] at HC
      skip
      go_wp2_with fail
      refine HC.out.mono ?_
      clear HC
      rintro e wa1 ⟨rfl, hc1⟩
      have hB2 := hB1.trans (hc1.mono hB1.size)
      clear hc1 f0_0 f0_1 f0_2 f0_3 f0_4 f0_5 f0_6 f0_7 f0_8 f0_9 f0_10 f0_11
      obtain ⟨f1_0, f1_1, f1_2, f1_3⟩ := blkc ((HP0.out).below hB2 (by simp; try omega))
      obtain ⟨f1_4, f1_5, -⟩ := blk2 ((HP2.out).below hB2 (by simp; try omega))
      obtain ⟨f1_6, f1_7, -⟩ := blk2 ((HP4.out).below hB2 (by simp; try omega))
      obtain ⟨f1_8, f1_9, f1_10, f1_11⟩ := blkc ((HP5.out).below hB2 (by simp; try omega))
      have HC := Lib.hid (cHolds_any ⟨#[]⟩ (some ⟨w4.heap.size, 0, none⟩) 2 2 [(nm, b), (nm, a)] 1 (isntT nm a) _ _ _ _ _ _ _ (isnt_at _ _ 0 nm a hn ha) (props2 ((HP1.out).below hB2 (by simp; try omega)) (Nat.lt_of_lt_of_le (by simp; try omega) hB2.size) hn hb0 hn ha) (by unfold maxLen; omega))
      rw [h3.out] at HC
      skip
      go_wp2_with fail
      refine HC.out.mono ?_
      clear HC
      rintro e wa2 ⟨rfl, hc2⟩
      have hB3 := hB2.trans (hc2.mono hB2.size)
      clear hc2 f1_0 f1_1 f1_2 f1_3 f1_4 f1_5 f1_6 f1_7 f1_8 f1_9 f1_10 f1_11
      obtain ⟨f2_0, f2_1, f2_2, f2_3⟩ := blkc ((HP0.out).below hB3 (by simp; try omega))
      obtain ⟨f2_4, f2_5, -⟩ := blk2 ((HP2.out).below hB3 (by simp; try omega))
      obtain ⟨f2_6, f2_7, -⟩ := blk2 ((HP4.out).below hB3 (by simp; try omega))
      obtain ⟨f2_8, f2_9, f2_10, f2_11⟩ := blkc ((HP5.out).below hB3 (by simp; try omega))
      have HC := Lib.hid (cHolds_any ⟨#[]⟩ none 0 0 [] 1 (isT nm a) _ _ _ _ _ _ _ (is_at _ _ 0 nm a hn ha) (props0 wa2) (by unfold maxLen; omega))
      rw [h4.out] at HC
      skip
      go_wp2_with fail
      refine HC.out.mono ?_
      clear HC
      rintro e wa3 ⟨rfl, hc3⟩
      have hB4 := hB3.trans (hc3.mono hB3.size)
      clear hc3 f2_0 f2_1 f2_2 f2_3 f2_4 f2_5 f2_6 f2_7 f2_8 f2_9 f2_10 f2_11
      obtain ⟨f3_0, f3_1, f3_2, f3_3⟩ := blkc ((HP0.out).below hB4 (by simp; try omega))
      obtain ⟨f3_4, f3_5, -⟩ := blk2 ((HP2.out).below hB4 (by simp; try omega))
      obtain ⟨f3_6, f3_7, -⟩ := blk2 ((HP4.out).below hB4 (by simp; try omega))
      obtain ⟨f3_8, f3_9, f3_10, f3_11⟩ := blkc ((HP5.out).below hB4 (by simp; try omega))
      have HC := Lib.hid (cHolds_any ⟨#[]⟩ none 0 0 [] 1 (isntT nm a) _ _ _ _ _ _ _ (isnt_at _ _ 0 nm a hn ha) (props0 wa3) (by unfold maxLen; omega))
      rw [h5.out] at HC
      skip
      go_wp2_with fail
      refine HC.out.mono ?_
      clear HC
      rintro e wa4 ⟨rfl, hc4⟩
      have hB5 := hB4.trans (hc4.mono hB4.size)
      clear hc4 f3_0 f3_1 f3_2 f3_3 f3_4 f3_5 f3_6 f3_7 f3_8 f3_9 f3_10 f3_11
      obtain ⟨f4_0, f4_1, f4_2, f4_3⟩ := blkc ((HP0.out).below hB5 (by simp; try omega))
      obtain ⟨f4_4, f4_5, -⟩ := blk2 ((HP2.out).below hB5 (by simp; try omega))
      obtain ⟨f4_6, f4_7, -⟩ := blk2 ((HP4.out).below hB5 (by simp; try omega))
      obtain ⟨f4_8, f4_9, f4_10, f4_11⟩ := blkc ((HP5.out).below hB5 (by simp; try omega))
      clear f4_0 f4_1 f4_2 f4_3 f4_4 f4_5 f4_6 f4_7 f4_8 f4_9 f4_10 f4_11
      go_wp2_with fail
      refine (lis_any _ _ _).mono ?_
      rintro e w7 ⟨rfl, hc7⟩
      have hB7 := hB5.trans (hc7.mono hB5.size)
      have HC := Lib.hid (cHolds_any ⟨#[]⟩ none 0 0 [] 1 (isT nm ⟨#[]⟩) _ _ _ _ _ _ w7 (is_at _ _ 0 nm _ hn empty_str) (props0 _) (by unfold maxLen; omega))
      rw [h6.out] at HC
      clear hc7
      go_wp2_with fail
      refine HC.out.mono ?_
      rintro e w8 ⟨rfl, hc8⟩
      go_wp2
      go_ret
      exact ⟨rfl, hbW.trans ((hB7.trans (hc8.mono hB7.size)).mono hbW.size)⟩
end Go.Proofs.Ytfgblmdmhgllgaa
