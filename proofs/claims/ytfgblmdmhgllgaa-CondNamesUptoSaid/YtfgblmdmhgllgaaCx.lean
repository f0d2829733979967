/- The law's examples (alive) answer true. -/
import Derived.Test.YtfgblmdmhgllgaaCw
namespace Go.Proofs.Ytfgblmdmhgllgaa
open Go.RowKit Go.Maps

theorem NoPost.up {w w' : World} {e : Ending} (h : NoPost w e w') : ∃ b : Nat, e = .returned (.agg #[.int .i64 3, .string ⟨#[]⟩, .string ⟨#[]⟩, .slice (some ⟨b, 0, none⟩) 1 1]) ∧ CondAt w' (· < w'.heap.size) 3 noT [.int .i64 3, .string ⟨#[]⟩, .string ⟨#[]⟩, .slice (some ⟨b, 0, none⟩) 1 1] ∧ Below w.heap.size w w' := by
  obtain ⟨b, e1, hc, hb⟩ := h
  exact ⟨b, e1, hc.mono fun j hj => hj.2, hb⟩
theorem props0 (w : World) : PropsAt w (· < w.heap.size) none 0 [] := ⟨rfl, fun p hp => (by cases hp), fun h => by omega⟩
theorem props1 (w : World) (n v : ByteArray) (hn : n.size ≤ maxLen) (hv : v.size ≤ maxLen) : PropsAt (w.alloc (.cells #[.string n, .string v] 88)) (· < (w.alloc (.cells #[.string n, .string v] 88)).heap.size) (some ⟨w.heap.size, 0, none⟩) 1 [(n, v)] := by
  have hB := Blk.new w 88 #[.string n, .string v]
  refine ⟨rfl, fun p hp => ?_, fun _ => ⟨w.heap.size, 0, rfl, by simp, fun i p hp => ?_⟩⟩
  · obtain rfl := List.mem_singleton.1 hp; exact ⟨hn, hv⟩
  · match i, hp with
    | 0, hp => simp at hp; subst hp; exact ⟨hB.cell 0, hB.cell 1⟩
theorem tx1 (w : World) (s : List UInt8) : TxAt (w.alloc (.cells #[.string ⟨s.toArray⟩] 9)) (some ⟨w.heap.size, 0, none⟩) 1 [s] := by
  have hB := Blk.new w 9 #[.string ⟨s.toArray⟩]
  refine ⟨rfl, fun _ => ⟨w.heap.size, 0, rfl, by simp, fun i p hp => ?_⟩⟩
  match i, hp with
  | 0, hp => simp at hp; subst hp; exact hB.cell 0
set_option maxHeartbeats 2000000 in
set_option maxRecDepth 100000 in
theorem alive_any (w : World) : Calls Try.prog 37 #[] w fun e w' => e = .returned (.bool true) ∧ Below w.heap.size w w' := by
  go_enter Try.func37, Try.ntmps37
  go_wp2_with fail
  refine (lno_any w).mono ?_
  intro e w1 hp
  obtain ⟨b1, rfl, hc1, hb1⟩ := hp.up
  clear hp
  have HS := Lib.hid (cSimple_any 3 noT _ _ _ _ _ _ w1 hc1 no_few)
  clear hc1
  go_wp2_with fail
  refine HS.out.mono ?_
  clear HS
  rintro e w2 ⟨rk, rn, rv, rA, rm, rc, rD, rfl, hc, hb2⟩
  have hb2' := hb1.trans (hb2.mono hb1.size)
  rw [no_simple] at hc
  obtain ⟨d, k, n, v, kids, A, m, c, hD, hT, hcs, -, -, -, -, hk⟩ := hc.form
  simp only [List.cons.injEq, Value.int.injEq, Value.slice.injEq, true_and, and_true] at hcs
  obtain ⟨h1, -, -, h2, h3, -⟩ := hcs
  simp only [CT.mk.injEq] at hT
  obtain ⟨e1, -, -, e4⟩ := hT
  have hrk : rk = 4 := by rw [h1, ← e1]
  have hrm : rm = 2 := by rw [h3, ← hk.1, ← e4]; rfl
  obtain ⟨g, o, t, k1, n1, v1, B1, q1, c1, hA, hX, ht1, y0, -, -, -, hc2⟩ := hk.kid (i := 1) (by omega)
  have hk1 : k1 = 2 := by
    rw [← e4] at ht1
    simp at ht1
    obtain ⟨_, k2, _, _, _, _, _, _, _, hx, hcs, _⟩ := hc2.form
    rw [← ht1] at hx
    simp only [CT.mk.injEq] at hx
    simp only [List.cons.injEq, Value.int.injEq, true_and] at hcs
    rw [hcs.1, ← hx.1]
  rw [← h2] at hA
  subst hA hrk hrm hk1
  have hX2 : g < w2.heap.size := hX.2
  clear hc hk hc2 ht1 e1 e4 h1 h2 h3 hD
  have hp3 := Blk.new w2 76 #[.int .i64 4, .string rn, .string rv, .slice (some ⟨g, o, none⟩) 2 rc]
  have y3 := ((Below.refl w2.heap.size w2).alloc (Nat.le_refl _) (.cells #[.int .i64 4, .string rn, .string rv, .slice (some ⟨g, o, none⟩) 2 rc] 76)).cell (p := ⟨g, o + 1 * 4, none⟩) hX2
  have hb3 := hb2'.alloc hb2'.size (.cells #[.int .i64 4, .string rn, .string rv, .slice (some ⟨g, o, none⟩) 2 rc] 76)
  have HY := Lib.hid (y3.trans y0)
  have HP := Lib.hid hp3
  clear y0 y3 hp3 hb2 hb2' hb1
  go_wp2_with fail
  -- Right
  refine (lno_any _).mono ?_
  intro e w4 hp
  obtain ⟨b4, rfl, hc4, hb4⟩ := hp.up
  have HC := Lib.hid (cRight_any 3 noT _ _ _ _ _ _ w4 hc4)
  rw [no_right] at HC
  clear hp hc4
  go_wp2_with fail
  refine HC.out.mono ?_
  clear HC
  rintro e w5 ⟨rfl, hb5⟩
  have hb5' := hb4.trans (hb5.mono hb4.size)
  clear hb4 hb5
  go_wp2_with fail
  -- Holds
  refine (lno_any _).mono ?_
  intro e w6 hp
  obtain ⟨b6, rfl, hc6, hb6⟩ := hp.up
  have HC := Lib.hid (cHolds_any ⟨#[]⟩ none 0 0 [] 3 noT _ _ _ _ _ _ w6 hc6 (props0 _) (Nat.zero_le _))
  rw [no_right, no_holds.1] at HC
  have hb6' := hb5'.trans (hb6.mono hb5'.size)
  clear hp hc6 hb6 hb5'
  go_wp2_with fail
  refine HC.out.mono ?_
  clear HC
  rintro e w7 ⟨rfl, hb7⟩
  have hb7' := hb6'.trans (hb7.mono hb6'.size)
  clear hb6' hb7
  go_wp2_with fail
  refine (lno_any _).mono ?_
  intro e w8 hp
  obtain ⟨b8, rfl, hc8, hb8⟩ := hp.up
  have hb8' := hb7'.trans (hb8.mono hb7'.size)
  have hb9 := (Below.refl _ w8).alloc (Nat.le_refl _) (.cells #[.string ⟨#[97]⟩, .string ⟨#[50]⟩] 88)
  have HC := Lib.hid (cHolds_any ⟨#[]⟩ (some ⟨w8.heap.size, 0, none⟩) 1 1 [(⟨#[97]⟩, ⟨#[50]⟩)] 3 noT _ _ _ _ _ _ _ (hc8.below hb9) (props1 w8 _ _ (small_str _) (small_str _)) (by unfold maxLen; omega))
  rw [no_right, no_holds.2] at HC
  have hb9' := hb8'.trans (hb9.mono hb8'.size)
  clear hp hc8 hb8 hb8' hb7' hb9
  go_wp2_with fail
  refine HC.out.mono ?_
  clear HC
  rintro e w10 ⟨rfl, hb10⟩
  have hb10' := hb9'.trans (hb10.mono hb9'.size)
  clear hb9' hb10
  obtain ⟨p0, p1, p2, p3⟩ := blkc (HP.out.below hb10' (by simp))
  have y1 := (hb10'.cell (p := ⟨g, o + 1 * 4, none⟩) (by simp; omega)).trans HY.out
  rw [Nat.one_mul] at y1
  go_wp2_with fail
  -- Names
  refine (lno_any _).mono ?_
  intro e w11 hp
  obtain ⟨b11, rfl, hc11, hb11⟩ := hp.up
  have hb11' := hb10'.trans (hb11.mono hb10'.size)
  have HC := Lib.hid (cNames_any 3 noT _ _ _ _ _ _ w11 hc11 no_few)
  rw [no_names] at HC
  clear hp hc11 hb11 hb10' p0 p1 p2 p3 y1
  go_wp2_with fail
  refine HC.out.mono ?_
  clear HC
  rintro e w12 ⟨u, rfl, hrow, hb12⟩
  have hb12' := hb11'.trans (hb12.mono hb11'.size)
  obtain ⟨A2, c2, rfl, htx, _⟩ := row_texts (ss := [[97]]) hrow
  have hb13 := (Below.refl _ w12).alloc (Nat.le_refl _) (.cells #[.string ⟨#[97]⟩] 9)
  have HX := Lib.hid (sameTexts_yes (c := c2) (d := 1) (htx.below hb13) (tx1 w12 [97]) (by unfold maxLen; simp))
  have hb13' := hb12'.trans (hb13.mono hb12'.size)
  clear hrow hb12 hb12' hb11' hb13 htx
  go_wp2_with fail
  refine HX.out.mono ?_
  clear HX
  rintro e w14 ⟨rfl, hb14⟩
  go_wp2
  go_ret
  exact ⟨rfl, hb3.trans ((hb13'.trans (hb14.mono hb13'.size)).mono hb3.size)⟩
end Go.Proofs.Ytfgblmdmhgllgaa
