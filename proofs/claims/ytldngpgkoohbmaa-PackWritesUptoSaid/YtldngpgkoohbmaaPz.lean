/- PackWrites answers true. -/
import Derived.Test.YtldngpgkoohbmaaPy
import Derived.Laws.IdiomStrings
namespace Go.Proofs.Ytldngpgkoohbmaa
open Go.RowKit

theorem row_below {w w' : World} {B : Nat} {e : TypeId} {v : Value} {n : Nat} {xs : List Value} (h : w.ownsRow B e 1 v n xs) (hb : Below w.heap.size w w') : w'.ownsRow B e 1 v n xs := by
  refine ⟨h.1, ?_⟩
  rcases h.2 with h0 | ⟨g, cap, cur, e, h1, h2, h3⟩
  · exact .inl h0
  · exact .inr ⟨g, cap, cur, e, h1, (hb.block g (Array.getElem?_eq_some_iff.1 h2).1).trans h2, h3⟩
theorem bytes_of (w : World) (s : ByteArray) : ∃ c W, (convert 9 30 (.string s)).run Try.prog w = .ok (.slice (some ⟨w.heap.size, 0, none⟩) s.size c) W ∧ BytesAt W (some ⟨w.heap.size, 0, none⟩) s.size s.data.toList ∧ Below w.heap.size w W := by
  refine ⟨_, _, run_bytes_of_string w 9 30 5 s Try.underlying9 Try.underlying30 Try.underlying5, ⟨rfl, fun _ => ⟨_, 0, rfl, by simp, fun i c hi => ?_⟩⟩, ((Below.refl w.heap.size w).drew).alloc (Nat.le_refl _) _⟩
  rw [Nat.zero_add, cell_of_row _ w.heap.size i _ 5 _ (heap_alloc_new w.drew _)]
  have hl := (List.getElem?_eq_some_iff.1 hi).1
  have e : s.data.toList[i] = c := (List.getElem?_eq_some_iff.1 hi).2
  rw [bytesRow_at s _ i (by simpa using hl)]
  rw [← e]
  rfl
set_option maxHeartbeats 2000000 in
set_option maxRecDepth 100000 in
theorem rtext_any (w : World) (s : ByteArray) (hs : s.size ≤ 100000000) : Calls Try.prog 32 #[.string s] w (NumPost w (textL s.data.toList)) := by
  have hsl : s.data.toList.length = s.size := rfl
  have C := Lib.hid (rnum_any w (s.size : Int))
  have hnc : numC (s.size : Int) = s.size := by have := numC_eq (s.size : Int); omega
  rw [hnc] at C
  have hnl := numL_len s.size
  have HE := Lib.hid (show textL s.data.toList = numL s.size ++ s.data.toList by unfold textL; rw [hsl])
  generalize numL s.size = xs at *
  clear hnc hsl
  go_enter Try.func32, Try.ntmps32
  go_wp2_with fail
  refine C.out.mono ?_
  rintro e w1 ⟨v, rfl, ho, hbel⟩
  obtain ⟨A1, c1, rfl, hby, _⟩ := row_bytes ho
  obtain ⟨c2, W, hcv, hby2, hb2⟩ := bytes_of w1 s
  have C2 := Lib.hid (join_any (c := c1) (d := c2) (hby.below hb2) hby2 (by omega) (by omega))
  have HB := Lib.hid (hbel.trans (hb2.mono hbel.size))
  clear ho hby hbel C hby2 hb2
  go_wp2_with fail
  refine C2.out.mono ?_
  rintro e w2 ⟨v, rfl, ho, hbel⟩
  have HO := Lib.hid (row_base ho HB.out.size)
  have HB2 := Lib.hid (HB.out.trans (hbel.mono HB.out.size))
  clear ho hbel
  go_wp2
  go_ret
  exact ⟨_, rfl, by rw [HE.out]; exact HO.out, HB2.out⟩
def WInv (w : World) (g n cap : Nat) (i : Value) (wr : World) : Prop := ∃ (j : Nat) (cur : Array Value), j ≤ n ∧ i = .int .i64 (j : Nat) ∧ Blk wr g 5 cur ∧ cur.size = cap ∧ Below w.heap.size w wr
set_option maxHeartbeats 4000000 in
set_option maxRecDepth 100000 in
theorem packWrites_walk (A : Option Addr) (m c : Nat) (bs : List UInt8) (n : Int) (s : ByteArray) (w : World) (hb : BytesAt w A m bs) (hm : m ≤ 50000000) (hs : s.size ≤ 50000000) :
    Calls Try.prog 6 #[.slice A m c, .int .i64 n, .string s] w fun e w' => e = .returned (.bool true) ∧ Below w.heap.size w w' := by
  have hbl := hb.1
  have HB := Lib.hid hb
  have hsl : s.data.toList.length = s.size := rfl
  have hnl := numL_len (numC n)
  have hnl2 := numL_len s.size
  obtain ⟨xs, hxs⟩ : ∃ xs, xs = bs ++ numL (numC n) := ⟨_, rfl⟩
  obtain ⟨ys, hys⟩ : ∃ ys, ys = bs ++ textL s.data.toList := ⟨_, rfl⟩
  have hxl : 0 < xs.length ∧ xs.length ≤ 60000000 := by rw [hxs, List.length_append]; omega
  have hyl : ys.length ≤ 150000000 := by rw [hys]; unfold textL; rw [List.length_append, List.length_append, hsl]; omega
  have HXS := Lib.hid hxs
  have HYS := Lib.hid hys
  clear hb hxs hys
  go_enter Try.func6, Try.ntmps6
  go_wp2_with fail
  refine (writing_any _).mono ?_
  rintro e w1 ⟨rfl, b1⟩
  have HB1 := Lib.hid (HB.out.below b1)
  have hst : (convert 30 9 (.slice A m c)).run Try.prog w1 = .ok (.string ⟨bs.toArray⟩) w1 := conv_str HB1.out c
  have C1 := Lib.hid (num_any (c := c) HB1.out (by omega) n)
  rw [← HXS.out] at C1
  have B1 := Lib.hid b1
  clear b1
  go_wp2_with fail
  refine C1.out.mono ?_
  rintro e w2 ⟨v, rfl, ho2, b2⟩
  obtain ⟨A2, c2, rfl, hx2, _⟩ := row_bytes ho2
  have HB2 := Lib.hid (HB1.out.below b2)
  have C2 := Lib.hid (text_any (c := c) HB2.out (by omega) s (by omega))
  rw [← HYS.out] at C2
  have B2 := Lib.hid (B1.out.trans (b2.mono B1.out.size))
  have O2 := Lib.hid (row_base ho2 B1.out.size)
  have HX2 := Lib.hid hx2
  clear hst C1 ho2 hx2 b2
  go_wp2_with fail
  refine C2.out.mono ?_
  rintro e w3 ⟨v, rfl, ho3, b3⟩
  obtain ⟨A3, c3, rfl, hy3, _⟩ := row_bytes ho3
  have HB3 := Lib.hid (HB2.out.below b3)
  have HX3 := Lib.hid (HX2.out.below b3)
  have O3 := Lib.hid (row_below O2.out b3)
  have HY3 := Lib.hid hy3
  have B3 := Lib.hid (B2.out.trans (b3.mono B2.out.size))
  clear C2 ho3 hy3 b3
  go_wp2_with fail
  refine (rnum_any _ n).mono ?_
  rintro e w4 ⟨v, rfl, ho4, b4⟩
  obtain ⟨A4, c4, rfl, hn4, _⟩ := row_bytes ho4
  have HB4 := Lib.hid (HB3.out.below b4)
  have HX4 := Lib.hid (HX3.out.below b4)
  have HY4 := Lib.hid (HY3.out.below b4)
  have O4 := Lib.hid (row_below O3.out b4)
  have B4 := Lib.hid (B3.out.trans (b4.mono B3.out.size))
  have C3 := Lib.hid (join_any (c := c) (d := c4) HB4.out hn4 (by omega) (by omega))
  rw [← HXS.out] at C3
  clear ho4 hn4 b4
  go_wp2_with fail
  refine C3.out.mono ?_
  rintro e w5 ⟨v, rfl, ho5, b5⟩
  obtain ⟨A5, c5, rfl, hx5, _⟩ := row_bytes ho5
  have S := Lib.hid (sameb_yes (c := c2) (d := c5) (HX4.out.below b5) hx5 (by unfold maxLen; omega))
  have HB5 := Lib.hid (HB4.out.below b5)
  have HY5 := Lib.hid (HY4.out.below b5)
  have O5 := Lib.hid (row_below O4.out b5)
  have B5 := Lib.hid (B4.out.trans (b5.mono B4.out.size))
  clear C3 ho5 hx5 b5
  go_wp2_with fail
  refine S.out.mono ?_
  rintro e w6 ⟨rfl, b6⟩
  have HB6 := Lib.hid (HB5.out.below b6)
  have HY6 := Lib.hid (HY5.out.below b6)
  have O6 := Lib.hid (row_below O5.out b6)
  have B6 := Lib.hid (B5.out.trans (b6.mono B5.out.size))
  clear S b6
  go_wp2_with fail
  refine (rtext_any _ s (by omega)).mono ?_
  rintro e w7 ⟨v, rfl, ho7, b7⟩
  obtain ⟨A7, c7, rfl, ht7, _⟩ := row_bytes ho7
  have HB7 := Lib.hid (HB6.out.below b7)
  have HY7 := Lib.hid (HY6.out.below b7)
  have O7 := Lib.hid (row_below O6.out b7)
  have B7 := Lib.hid (B6.out.trans (b7.mono B6.out.size))
  have htl : (textL s.data.toList).length ≤ 100000000 := by unfold textL; rw [List.length_append, hsl]; omega
  have C4 := Lib.hid (join_any (c := c) (d := c7) HB7.out ht7 (by omega) (by omega))
  rw [← HYS.out] at C4
  clear ho7 ht7 b7
  go_wp2_with fail
  refine C4.out.mono ?_
  rintro e w8 ⟨v, rfl, ho8, b8⟩
  obtain ⟨A8, c8, rfl, hy8, _⟩ := row_bytes ho8
  have S := Lib.hid (sameb_yes (c := c3) (d := c8) (HY7.out.below b8) hy8 (by unfold maxLen; omega))
  have HB8 := Lib.hid (HB7.out.below b8)
  have O8 := Lib.hid (row_below O7.out b8)
  have B8 := Lib.hid (B7.out.trans (b8.mono B7.out.size))
  clear C4 ho8 hy8 b8
  go_wp2_with fail
  refine S.out.mono ?_
  rintro e w9 ⟨rfl, b9⟩
  have HB9 := Lib.hid (HB8.out.below b9)
  have o9 := row_below O8.out b9
  have B9 := Lib.hid (B8.out.trans (b9.mono B8.out.size))
  obtain ⟨L, hL⟩ : ∃ L, L = xs.length := ⟨_, rfl⟩
  rw [← hL] at o9 hxl ⊢
  obtain ⟨g, cur, rfl, hg, hcz, hcm⟩ : ∃ g cur, A2 = some ⟨g, 0, none⟩ ∧ w9.heap[g]? = some (.cells cur 5 (0, 0)) ∧ cur.size = c2 ∧ L ≤ c2 ∧ w.heap.size ≤ g := by
    rcases o9.2 with ⟨e, h0⟩ | ⟨g, cap, cur, e, hB, hb, h1, _, h3, _⟩
    · omega
    · injection e with e1 _ e3
      subst e3
      exact ⟨g, cur, e1, hb, by omega, h1, hB⟩
  clear S b9 o9 hL
  go_wp2_with fail
  go_loopw [39] (fun i wr => WInv w g L c2 i wr) (fun i _ => L - (intOf i).toNat)
  case atStart => exact ⟨0, cur, Nat.zero_le _, rfl, hg, hcz, B9.out⟩
  case round =>
    clear hg hcz
    obtain ⟨j, cu, hj, rfl, hbk, hcu, hbw⟩ := hrel
    by_cases hlt : j < L
    · have hlt' : (j : Int) < (L : Int) := by omega
      have hjc : j < cu.size := by omega
      have q0 : wr.cell? ⟨g, j, none⟩ = some cu[j] := by rw [hbk.cell, Array.getElem?_eq_getElem hjc]
      have q1 : wr.frozen? ⟨g, j, none⟩ = false := hbk.frozen j
      have HK := Lib.hid (hbk.set_ j (.int .u8 99))
      have HBW := Lib.hid (hbw.setCell (p := ⟨g, j, none⟩) hcm.2 (.int .u8 99))
      have hcu2 : (cu.setIfInBounds j (.int .u8 99)).size = c2 := by simpa using hcu
      have HCU := Lib.hid hcu2
      generalize cu[j] = z at q0
      clear hbk hbw hcu2
      go_wp2
      go_roundw
      case rel => exact ⟨j + 1, _, by omega, by go_num, HK.out, HCU.out, HBW.out⟩
      case measure => simp [intOf]; omega
    · have hlt' : ¬ (j : Int) < (L : Int) := by omega
      have HBW := Lib.hid hbw
      have hst : (convert 30 9 (.slice A m c)).run Try.prog wr = .ok (.string ⟨bs.toArray⟩) wr := conv_str (HB.out.up (fun b hb => hbw.block b hb) hbw.size) c
      clear hbk hbw hlt
      go_wp2
      go_ret
      exact ⟨by simp, HBW.out⟩
end Go.Proofs.Ytldngpgkoohbmaa
